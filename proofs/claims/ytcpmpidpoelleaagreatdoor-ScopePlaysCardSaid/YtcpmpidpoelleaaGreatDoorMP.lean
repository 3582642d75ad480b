/- Texts laid one behind the other. -/
import Derived.Test.YtcpmpidpoelleaaGreatDoorMK
import Derived.Laws.StructEq
import Derived.Test.YtcpmpidpoelleaaGreatDoorMG
import Derived.DeepKeys
import Derived.Deep.DeepCutAuto

/- Operators and entries compared. -/
namespace Go.Proofs.YtcpmpidpoelleaaGreatDoor
open Go.RowKit

theorem eq_oper (n : Nat) (s s' : ByteArray) (g g' a a' : Int) (w : World) :
    (Op.equalIn (n + 2) 35 (.agg #[.string s, .int .i64 g, .int .i64 a]) (.agg #[.string s', .int .i64 g', .int .i64 a'])).run Tryz.prog w = .ok ((s.toList == s'.toList) && ((g == g') && (a == a'))) w := by
  have hu : Tryz.prog.underlying 35 = some (.struct (Tryz.prog.fieldsOf 35)) := by
    unfold Program.fieldsOf
    rw [Tryz.underlying35]
  rw [run_equalIn_struct w (n + 1) 35 _ _ hu (by kernel_rfl)]
  unfold Program.fieldsOf
  rw [Tryz.underlying35]
  have p0 : ∀ w (b c : Value) (q : ByteArray), (part 9 #[.string q, b, c] 0).run Tryz.prog w = .ok (.string q) w := fun _ _ _ _ => by kernel_rfl
  have p1 : ∀ w (b c : Value) (q : ByteArray), (part 3 #[.string q, b, c] 1).run Tryz.prog w = .ok b w := fun _ _ _ _ => by kernel_rfl
  have p2 : ∀ w (b c : Value) (q : ByteArray), (part 3 #[.string q, b, c] 2).run Tryz.prog w = .ok c w := fun _ _ _ _ => by kernel_rfl
  have e1 : ∀ w (a b : Int), (Op.equalIn (n + 1) 3 (.int .i64 a) (.int .i64 b)).run Tryz.prog w = .ok (a == b) w := fun w a b => run_equalIn_int w n _ _ _ a b Tryz.underlying3
  have e3 : ∀ w (a b : ByteArray), (Op.equalIn (n + 1) 9 (.string a) (.string b)).run Tryz.prog w = .ok (a.toList == b.toList) w := fun w a b => run_equalIn_string w n _ a b Tryz.underlying9
  simp only [Op.eqFields, Sem.run_bind, Sem.run_ite, p0, p1, p2, e1, e3, Result.andThen_ok, Sem.run_pure, ne_eq, String.reduceEq, not_false_eq_true, if_true]
  cases (s.toList == s'.toList) <;> cases g == g' <;> cases a == a' <;> rfl
/-- Two operators compared. -/
theorem eq_op (n : Nat) (o o' : OP) (w : World) :
    (Op.equalIn (n + 2) 35 (.agg #[.string (mk o.1), .int .i64 o.2.1, .int .i64 o.2.2]) (.agg #[.string (mk o'.1), .int .i64 o'.2.1, .int .i64 o'.2.2])).run Tryz.prog w = .ok (decide (o = o')) w := by
  rw [eq_oper, mk_toList, mk_toList]
  congr 1
  obtain ⟨p, g, a⟩ := o
  obtain ⟨p', g', a'⟩ := o'
  rw [Bool.eq_iff_iff, decide_eq_true_eq]
  simp [Prod.ext_iff]
theorem en_ext {A B : List EN} {n : Nat} (hA : A.length = n) (hB : B.length = n) (h : ∀ j, j < n → enA A j = enA B j) : A = B := by
  apply List.ext_getElem (by omega)
  intro j h1 h2
  rw [← enA_eq h1, ← enA_eq h2]
  exact h j (by omega)

end Go.Proofs.YtcpmpidpoelleaaGreatDoor

/- Two rows compared (as in XMb, for a seat without graph.within). -/
namespace Go.Proofs.YtcpmpidpoelleaaGreatDoor
open Go.RowKit

theorem eq_items' (z z' : List Int) (hz : z.length = 10) (hz' : z'.length = 10) (w : World) : ∀ is : List Nat, (∀ i ∈ is, i < 10) →
    (Op.eqItems 9999 3 1 (rv z) (rv z') is).run Tryz.prog w = .ok (is.all fun i => bt z i == bt z' i) w
  | [], _ => by simp [Op.eqItems]
  | i :: is, h => by
    have hi : i < 10 := h i (by simp)
    have p1 : (part 3 (rv z) (i * 1)).run Tryz.prog w = .ok (.int .i64 (bt z i)) w := run_part_plain w (by kernel_rfl) (by rw [Nat.mul_one]; exact rv_at hz hi)
    have p2 : (part 3 (rv z') (i * 1)).run Tryz.prog w = .ok (.int .i64 (bt z' i)) w := run_part_plain w (by kernel_rfl) (by rw [Nat.mul_one]; exact rv_at hz' hi)
    have p3 : (Op.equalIn 9999 3 (.int .i64 (bt z i)) (.int .i64 (bt z' i))).run Tryz.prog w = .ok (bt z i == bt z' i) w := run_equalIn_int w 9998 _ _ _ _ _ Tryz.underlying3
    have ih := eq_items' z z' hz hz' w is (fun j hj => h j (by simp [hj]))
    simp only [Op.eqItems, Sem.run_bind, p1, p2, p3, Result.andThen_ok, List.all_cons]
    cases (bt z i == bt z' i)
    · simp
    · simpa using ih

set_option maxRecDepth 20000 in
/-- Two rows compared. -/
theorem eq_rows' (z z' : List Int) (hz : z.length = 10) (hz' : z'.length = 10) (w : World) : (Op.equalIn 10000 26 (.agg (rv z)) (.agg (rv z'))).run Tryz.prog w = .ok (decide (z = z')) w := by
  obtain ⟨i, hi⟩ : ∃ i, Tryz.prog.info? 3 = some i := Option.isSome_iff_exists.1 (by kernel_rfl)
  rw [show (10000 : Nat) = 9999 + 1 from rfl, run_equalIn_array w 9999 _ _ Tryz.underlying26 hi, show Tryz.prog.cellsOf 3 = 1 by kernel_rfl, eq_items' z z' hz hz' w _ (by simp)]
  congr 1
  rw [Bool.eq_iff_iff, List.all_eq_true, decide_eq_true_eq]
  refine ⟨fun h => bt_ext hz hz' fun i hi => by simpa using h i (by simpa using hi), fun h i _ => by rw [h]; simp⟩

end Go.Proofs.YtcpmpidpoelleaaGreatDoor

/- The document's Equal. -/
namespace Go.Proofs.YtcpmpidpoelleaaGreatDoor
open Go.RowKit

theorem op_ext {A B : List OP} {n : Nat} (hA : A.length = n) (hB : B.length = n) (h : ∀ j, j < n → opA A j = opA B j) : A = B := by
  apply List.ext_getElem (by omega)
  intro j h1 h2
  rw [← opA_eq h1, ← opA_eq h2]
  exact h j (by omega)

set_option maxRecDepth 20000 in
set_option maxHeartbeats 8000000 in
theorem equal_any (a a' : Option Addr) (n n' c c' : Nat) (L L' : List OP) (z z' : List Int) (w : World) (h : OpS w a n c L) (h' : OpS w a' n' c' L') (hz : z.length = 10) (hz' : z'.length = 10) (hn : n ≤ 1000000) (hn' : n' ≤ 1000000) :
    Calls Tryz.prog 13 #[.agg (ev a n c z), .agg (ev a' n' c' z')] w fun e w' => e = .returned (.bool (decide (L = L' ∧ z = z'))) ∧ Below w.heap.size w w' := by
  obtain ⟨B, hB⟩ : ∃ B, B = w.heap.size := ⟨_, rfl⟩
  obtain ⟨w1, hw1⟩ : ∃ w1, w1 = w.alloc (.cells (ev a n c z) 28) := ⟨_, rfl⟩
  obtain ⟨w2, hw2⟩ : ∃ w2, w2 = w1.alloc (.cells (ev a' n' c' z') 28) := ⟨_, rfl⟩
  have s1 : w1.heap.size = B + 1 := by rw [hw1, hB]; simp
  have HE1 : Hid (EB w2 B a n c z) := Lib.hid (by rw [hw2, hw1, hB]; exact (EB.new w a n c z).alloc _)
  have HE2 : Hid (EB w2 (B + 1) a' n' c' z') := Lib.hid (by rw [hw2, ← s1]; exact EB.new w1 a' n' c' z')
  have HB2 : Hid (Below B w w2) := Lib.hid (by rw [hw2, hw1, hB]; exact (below_alloc w _).alloc (by simp) _)
  have HL := Lib.hid (OpS.len h)
  have HL' := Lib.hid (OpS.len h')
  have H := Lib.hid (h.below (hB ▸ HB2.out))
  have H' := Lib.hid (h'.below (hB ▸ HB2.out))
  have hlc := h.lc
  have hcm := h.cm
  have hlc' := h'.lc
  have hcm' := h'.cm
  unfold maxLen at hcm hcm'
  have HZ := Lib.hid hz
  have HZ' := Lib.hid hz'
  have HBB := Lib.hid hB
  clear h h' hz hz' s1
  go_enter Tryz.func13, Tryz.ntmps13
  go_upto_region 1 with fail
  rw [← hw1, ← hw2, ← hB]
  clear hw1 hw2 hB
  have e0 := HE1.out.c0
  have f0 := HE2.out.c0
  have heq := fun w => eq_rows' z z' HZ.out HZ'.out w
  by_cases hne : n = n'
  case neg =>
    have hne' : ¬ ((n : Int) = (n' : Int)) := by omega
    have HF : Hid (decide (L = L' ∧ z = z') = false) := Lib.hid (decide_eq_false fun e => hne (by rw [← HL.out, ← HL'.out, e.1]))
    go_wp2
    go_ret
    exact ⟨by rw [HF.out]; rfl, by rw [← HBB.out]; exact HB2.out⟩
  subst hne
  by_cases hzz : z = z'
  case neg =>
    have HF : Hid (decide (L = L' ∧ z = z') = false) := Lib.hid (decide_eq_false fun e => hzz e.2)
    rw [decide_eq_false hzz] at heq
    clear hzz
    go_wp2_with (first
      | (refine load_er rfl (.tmp 14) rfl B rfl a n c z HZ.out HE1.out ?_)
      | (refine load_er rfl (.tmp 16) rfl (B + 1) rfl a' n c' z' HZ'.out HE2.out ?_))
    go_ret
    exact ⟨by rw [HF.out]; rfl, by rw [← HBB.out]; exact HB2.out⟩
  rw [decide_eq_true hzz] at heq
  have HZZ := Lib.hid hzz
  clear hzz
  go_wp2_with (first
    | (refine load_er rfl (.tmp 14) rfl B rfl a n c z HZ.out HE1.out ?_)
    | (refine load_er rfl (.tmp 16) rfl (B + 1) rfl a' n c' z' HZ'.out HE2.out ?_))
  clear heq e0 f0
  go_loopw [5] (fun v wr => ∃ k : Nat, v = .int .i64 k ∧ k ≤ n ∧ Hid (∀ j, j < k → opA L j = opA L' j) ∧ Hid (Below w2.heap.size w2 wr)) (fun v _ => n - (intOf v).toNat)
  case atStart => exact ⟨0, rfl, by omega, Lib.hid fun j hj => by omega, Lib.hid (Below.refl _ _)⟩
  case round =>
    obtain ⟨k, rfl, hk, HN, HB⟩ := hrel
    have e0 := (HE1.out.below HB.out).c0
    have f0 := (HE2.out.below HB.out).c0
    by_cases hlt : k < n
    · have hlt' : decide ((k : Int) < (n : Int)) = true := by simpa using hlt
      have hs := H.out.below HB.out
      have hs' := H'.out.below HB.out
      obtain ⟨b, o, rfl, _, hc⟩ := hs.at_ (by omega)
      clear hc
      obtain ⟨b', o', rfl, _, hc⟩ := hs'.at_ (by omega)
      clear hc
      obtain ⟨c0, c1, c2⟩ := OpS.at3 hs hlt
      obtain ⟨d0, d1, d2⟩ := OpS.at3 hs' hlt
      obtain ⟨x, hx⟩ : ∃ x, x = opA L k := ⟨_, rfl⟩
      obtain ⟨y, hy⟩ : ∃ y, y = opA L' k := ⟨_, rfl⟩
      have HXY := Lib.hid (And.intro hx hy)
      rw [← hx] at c0 c1 c2
      rw [← hy] at d0 d1 d2
      clear hs hs' hx hy
      have he := fun w => eq_op 9998 x y w
      have HBD : Hid (Below w2.heap.size w2 wr.drew) := Lib.hid (HB.out.drew)
      have HBX : Hid (Below B w wr.drew) := Lib.hid (HB2.out.trans (HBD.out.mono (by have := HE2.out.lt; omega)))
      cases hd : decide (x = y) with
      | false =>
        rw [hd] at he
        have HF : Hid (decide (L = L' ∧ z = z') = false) := Lib.hid (decide_eq_false fun e => of_decide_eq_false hd (by rw [HXY.out.1, HXY.out.2, e.1]))
        clear hd
        go_wp2_with fail
        go_region
        go_wp2
        go_ret
        exact ⟨by rw [HF.out]; rfl, by rw [← HBB.out]; exact HBX.out⟩
      | true =>
        rw [hd] at he
        have HN1 : Hid (∀ j, j < k + 1 → opA L j = opA L' j) := Lib.hid fun j hj => by
          by_cases hjk : j = k
          · subst hjk; rw [← HXY.out.1, ← HXY.out.2]; exact of_decide_eq_true hd
          · exact HN.out j (by omega)
        clear hd
        go_wp2_with fail
        go_region
        go_wp2
        go_roundw
        case rel => exact ⟨k + 1, by go_num, by omega, HN1, HBD⟩
        case measure => simp [intOf]; omega
    · have hlt' : decide ((k : Int) < (n : Int)) = false := by simpa using hlt
      have HBX : Hid (Below B w wr) := Lib.hid (HB2.out.trans (HB.out.mono (by have := HE2.out.lt; omega)))
      have HT : Hid (decide (L = L' ∧ z = z') = true) := Lib.hid (decide_eq_true ⟨op_ext HL.out HL'.out fun j hj => HN.out j (by omega), HZZ.out⟩)
      go_wp2
      go_ret
      exact ⟨by rw [HT.out]; rfl, by rw [← HBB.out]; exact HBX.out⟩

end Go.Proofs.YtcpmpidpoelleaaGreatDoor
