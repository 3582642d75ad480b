/- Two rows compared; graph.within at two numbers; graph.Tighter, the document's Tighter. -/
import Derived.Test.YtnedappnmkbbpaaMa
import Derived.Test.YtnedappnmkbbpaaMm
import Derived.DeepKeys
namespace Go.Proofs.Ytnedappnmkbbpaa
open Go.RowKit

theorem eq_items (z z' : List Int) (hz : z.length = 10) (hz' : z'.length = 10) (w : World) : ∀ is : List Nat, (∀ i ∈ is, i < 10) →
    (Op.eqItems 9999 3 1 (rv z) (rv z') is).run Try.prog w = .ok (is.all fun i => bt z i == bt z' i) w
  | [], _ => by simp [Op.eqItems]
  | i :: is, h => by
    have hi : i < 10 := h i (by simp)
    have p1 : (part 3 (rv z) (i * 1)).run Try.prog w = .ok (.int .i64 (bt z i)) w := run_part_plain w (by kernel_rfl) (by rw [Nat.mul_one]; exact rv_at hz hi)
    have p2 : (part 3 (rv z') (i * 1)).run Try.prog w = .ok (.int .i64 (bt z' i)) w := run_part_plain w (by kernel_rfl) (by rw [Nat.mul_one]; exact rv_at hz' hi)
    have p3 : (Op.equalIn 9999 3 (.int .i64 (bt z i)) (.int .i64 (bt z' i))).run Try.prog w = .ok (bt z i == bt z' i) w := run_equalIn_int w 9998 _ _ _ _ _ Try.underlying3
    have ih := eq_items z z' hz hz' w is (fun j hj => h j (by simp [hj]))
    simp only [Op.eqItems, Sem.run_bind, p1, p2, p3, Result.andThen_ok, List.all_cons]
    cases (bt z i == bt z' i)
    · simp
    · simpa using ih

/-- Two rows compared. -/
theorem eq_rows (z z' : List Int) (hz : z.length = 10) (hz' : z'.length = 10) (w : World) : (Op.equalIn 10000 23 (.agg (rv z)) (.agg (rv z'))).run Try.prog w = .ok (decide (z = z')) w := by
  obtain ⟨i, hi⟩ : ∃ i, Try.prog.info? 3 = some i := Option.isSome_iff_exists.1 (by kernel_rfl)
  rw [show (10000 : Nat) = 9999 + 1 from rfl, run_equalIn_array w 9999 _ _ Try.underlying23 hi, show Try.prog.cellsOf 3 = 1 by kernel_rfl, eq_items z z' hz hz' w _ (by simp)]
  congr 1
  rw [Bool.eq_iff_iff, List.all_eq_true, decide_eq_true_eq]
  refine ⟨fun h => bt_ext hz hz' fun i hi => by simpa using h i (by simpa using hi), fun h i _ => by rw [h]; simp⟩

/-- Each of these numbers is from lo to 9. -/
def inB (lo : Int) (zs : List Int) : Bool := zs.all fun z => decide (lo ≤ z) && decide (z ≤ 9)

theorem inB_drop {lo : Int} {zs : List Int} {k : Nat} (h : k < zs.length) : inB lo (zs.drop k) = (decide (lo ≤ zs.getD k 0) && decide (zs.getD k 0 ≤ 9) && inB lo (zs.drop (k + 1))) := by
  unfold inB
  rw [List.drop_eq_getElem_cons h, List.all_cons, List.getD_eq_getElem?_getD, List.getElem?_eq_getElem h]
  rfl

theorem within_any (lo : Int) (b n c : Nat) (zs : List Int) (w : World) (hz : zs.length = n) (hn : n ≤ 1000) (hc : ∀ j, j < n → w.cell? ⟨b, j, none⟩ = some (.int .i64 (zs.getD j 0))) :
    Calls Try.prog 17 #[.int .i64 lo, .slice (some ⟨b, 0, none⟩) n c] w fun e w' => e = .returned (.bool (inB lo zs)) ∧ w = w' := by
  have HC := Lib.hid hc
  have HZ := Lib.hid hz
  clear hc hz
  go_enter Try.func17, Try.ntmps17
  go_wp2
  go_loop [9] (fun i => ∃ k : Nat, i = .int .i64 k ∧ k ≤ n ∧ Hid (inB lo (zs.drop k) = inB lo zs)) (fun i => n - (intOf i).toNat)
  case atStart => exact ⟨0, rfl, by omega, Lib.hid (by simp)⟩
  case round =>
    obtain ⟨k, rfl, hk, HM⟩ := hrel
    by_cases hlt : k < n
    · have hck := HC.out k hlt
      have HD := Lib.hid (inB_drop (lo := lo) (zs := zs) (k := k) (by rw [HZ.out]; exact hlt))
      obtain ⟨z, hzz⟩ : ∃ z, zs.getD k 0 = z := ⟨_, rfl⟩
      rw [hzz] at hck HD
      clear hzz
      by_cases h0 : z < lo
      · have HF : Hid (inB lo zs = false) := Lib.hid (by rw [← HM.out, HD.out, decide_eq_false (show ¬ lo ≤ z by omega)]; rfl)
        go_wp2
        go_ret
        exact ⟨by rw [HF.out]; rfl, rfl⟩
      · by_cases h1 : (10 : Int) ≤ z
        · have HF : Hid (inB lo zs = false) := Lib.hid (by rw [← HM.out, HD.out, decide_eq_false (show ¬ z ≤ 9 by omega), Bool.and_false]; rfl)
          go_wp2
          go_ret
          exact ⟨by rw [HF.out]; rfl, rfl⟩
        · have HM2 : Hid (inB lo (zs.drop (k + 1)) = inB lo zs) := Lib.hid (by rw [← HM.out, HD.out, decide_eq_true (show lo ≤ z by omega), decide_eq_true (show z ≤ 9 by omega)]; rfl)
          go_wp2
          go_round
          case rel => exact ⟨k + 1, by go_num, by omega, HM2⟩
          case measure => simp [intOf]; omega
    · have HF : Hid (inB lo zs = true) := Lib.hid (by rw [← HM.out, List.drop_eq_nil_iff.2 (by rw [HZ.out]; omega)]; rfl)
      go_wp2
      go_ret
      exact ⟨by rw [HF.out]; rfl, rfl⟩

/-- The same, at a block of two numbers. -/
theorem within_two (lo g h : Int) (b : Nat) (w : World) (hb : w.heap[b]? = some (.cells #[.int .i64 g, .int .i64 h] 3 (0, 0))) : Calls Try.prog 17 #[.int .i64 lo, .slice (some ⟨b, 0, none⟩) 2 2] w fun e w' => e = .returned (.bool (inB lo [g, h])) ∧ w = w' :=
  within_any lo b 2 2 [g, h] w rfl (by omega) (fun j hj => by
    rw [cell_of_row _ b j _ _ _ hb]
    obtain rfl | rfl : j = 0 ∨ j = 1 := by omega
    · rfl
    · rfl)

end Go.Proofs.Ytnedappnmkbbpaa
