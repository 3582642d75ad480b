/- Contracts of package lines: within, Count, Place. -/
import Derived.Test.YtoapfchdmfmdeaaIb
namespace Go.Proofs.Ytoapfchdmfmdeaa
open Go.RowKit

/-- Each of these numbers is from 0 to size. -/
def inB (size : Nat) (zs : List Int) : Bool := zs.all fun z => decide (0 ≤ z) && decide (z ≤ size)

theorem inB_drop {size : Nat} {zs : List Int} {k : Nat} (h : k < zs.length) : inB size (zs.drop k) = (decide (0 ≤ zs.getD k 0) && decide (zs.getD k 0 ≤ size) && inB size (zs.drop (k + 1))) := by
  unfold inB
  rw [List.drop_eq_getElem_cons h, List.all_cons, List.getD_eq_getElem?_getD, List.getElem?_eq_getElem h]
  rfl

theorem within_any (b n c size : Nat) (zs : List Int) (w : World) (hz : zs.length = n) (hn : n ≤ 1000) (hc : ∀ j, j < n → w.cell? ⟨b, j, none⟩ = some (.int .i64 (zs.getD j 0))) :
    Calls Try.prog 15 #[.int .i64 size, .slice (some ⟨b, 0, none⟩) n c] w fun e w' => e = .returned (.bool (inB size zs)) ∧ w = w' := by
  have HC := Lib.hid hc
  have HZ := Lib.hid hz
  clear hc hz
  go_enter Try.func15, Try.ntmps15
  go_wp2
  go_loop [9] (fun i => ∃ k : Nat, i = .int .i64 k ∧ k ≤ n ∧ Hid (inB size (zs.drop k) = inB size zs)) (fun i => n - (intOf i).toNat)
  case atStart => exact ⟨0, rfl, by omega, Lib.hid (by simp)⟩
  case round =>
    obtain ⟨k, rfl, hk, HM⟩ := hrel
    by_cases hlt : k < n
    · have hck := HC.out k hlt
      have HD := Lib.hid (inB_drop (size := size) (zs := zs) (k := k) (by rw [HZ.out]; exact hlt))
      obtain ⟨z, hzz⟩ : ∃ z, zs.getD k 0 = z := ⟨_, rfl⟩
      rw [hzz] at hck HD
      clear hzz
      by_cases h0 : z < 0
      · have HF : Hid (inB size zs = false) := Lib.hid (by rw [← HM.out, HD.out, decide_eq_false (show ¬ 0 ≤ z by omega)]; rfl)
        go_wp2
        go_ret
        exact ⟨by rw [HF.out]; rfl, rfl⟩
      · by_cases h1 : (size : Int) < z
        · have HF : Hid (inB size zs = false) := Lib.hid (by rw [← HM.out, HD.out, decide_eq_false (show ¬ z ≤ size by omega), Bool.and_false]; rfl)
          go_wp2
          go_ret
          exact ⟨by rw [HF.out]; rfl, rfl⟩
        · have HM2 : Hid (inB size (zs.drop (k + 1)) = inB size zs) := Lib.hid (by rw [← HM.out, HD.out, decide_eq_true (show 0 ≤ z by omega), decide_eq_true (show z ≤ size by omega)]; rfl)
          go_wp2
          go_round
          case rel => exact ⟨k + 1, by go_num, by omega, HM2⟩
          case measure => simp [intOf]; omega
    · have HF : Hid (inB size zs = true) := Lib.hid (by rw [← HM.out, List.drop_eq_nil_iff.2 (by rw [HZ.out]; omega)]; rfl)
      go_wp2
      go_ret
      exact ⟨by rw [HF.out]; rfl, rfl⟩

/-- The separator: []byte(newline). -/
theorem sep_run (w : World) {g : Nat} (hg : g = w.heap.size) : (convert 22 22 (.slice (some ⟨g, 0, none⟩) 1 1)).run Try.prog (w.alloc (.cells #[.int .u8 10] 5)) = .ok (.slice (some ⟨g, 0, none⟩) 1 1) (w.alloc (.cells #[.int .u8 10] 5 (1, 2))) :=
  Joins.run_convert_bytes_const_at (P := Try.prog) w 22 5 #[.int .u8 10] 1 1 g hg Try.underlying22 Try.underlying5
theorem sep_bs (w : World) {g : Nat} (hg : g = w.heap.size) : Bs (w.alloc (.cells #[.int .u8 10] 5 (1, 2))) (some ⟨g, 0, none⟩) 1 1 [10] := Bs.lit w 5 (by simp) (by simp) hg rfl (by decide)

theorem cnt_any (a : Option Addr) (len cap : Nat) (l : List Int) (w : World) (h : Bs w a len cap l) (hm : len ≤ 1000000) :
    Calls Try.prog 13 #[.slice a len cap] w fun e w' => e = .returned (.int .i64 ((ln l len : Int) + 1)) ∧ Below w.heap.size w w' := by
  have kc := sep_run w rfl
  have HB := Lib.hid ((Below.refl w.heap.size w).alloc (Nat.le_refl _) (.cells #[.int .u8 10] 5 (1, 2)))
  have HI := Lib.hid (bcnt_any _ _ _ _ _ _ _ (h.alloc _) (sep_bs w rfl))
  have hle := ln_le l len
  have hw1 : IntKind.i64.wrap ((ln l len : Int) + 1) = (ln l len : Int) + 1 := by rw [IntKind.wrap_i64]; omega
  obtain ⟨v, hv⟩ : ∃ v, v = ln l len := ⟨_, rfl⟩
  rw [← hv] at HI hle hw1 ⊢
  clear h hv
  go_enter Try.func13, Try.ntmps13
  go_wp2_with (first | (go_at_call 18; refine HI.out.mono ?_; rintro e w' ⟨rfl, rfl⟩))
  go_ret
  exact ⟨rfl, HB.out⟩

theorem place_any (a : Option Addr) (len cap : Nat) (l : List Int) (k : Nat) (w : World) (h : Bs w a len cap l) (hk : k ≤ len) (hm : len ≤ 1000000) :
    Calls Try.prog 9 #[.slice a len cap, .int .i64 k] w fun e w' => e = .returned (.tuple #[.int .i64 (ln l k), .int .i64 (cl l k), .int .i64 0]) ∧ Below w.heap.size w w' := by
  have hlc := h.lc
  have hcm := h.cm
  have ht := h.take hk (Nat.le_trans hk hlc) hcm
  have HW := Lib.hid (within_any w.heap.size 1 1 len [(k : Int)] (w.alloc (.cells #[.int .i64 k] 3)) rfl (by decide) (by
    intro j hj
    obtain rfl : j = 0 := by omega
    rw [cell_of_row _ w.heap.size 0 _ 3 (0, 0) (heap_alloc_new w _)]
    rfl))
  rw [show inB len [(k : Int)] = true from by simp [inB]; omega] at HW
  unfold maxLen at hcm
  have hb1 : Below w.heap.size w (w.alloc (.cells #[.int .i64 k] 3)) := (Below.refl _ _).alloc (Nat.le_refl _) _
  have kc := sep_run (w.alloc (.cells #[.int .i64 k] 3)) (g := w.heap.size + 1) (by simp)
  have HB := Lib.hid (hb1.alloc hb1.size (.cells #[.int .u8 10] 5 (1, 2)))
  have hI := blast_any _ _ _ _ _ _ _ ((ht.below hb1).alloc _) (sep_bs (w.alloc (.cells #[.int .i64 k] 3)) (g := w.heap.size + 1) (by simp))
  have hJ := cnt_any _ _ _ _ _ ((ht.below hb1).alloc (.cells #[.int .u8 10] 5 (1, 2))) (by omega)
  rw [cl_take l k k (Nat.le_refl _)] at hI
  rw [ln_take l k k (Nat.le_refl _)] at hJ
  have HI := Lib.hid hI
  have HJ := Lib.hid hJ
  have h1 := ln_le l k
  have h2 := cl_le l k
  have b1 : IntKind.i64.wrap ((k : Int) - cl l k - 1 + 1) = (k : Int) - cl l k := by rw [IntKind.wrap_i64]; omega
  have b2 : IntKind.i64.wrap ((k : Int) - ((k : Int) - cl l k)) = cl l k := by rw [IntKind.wrap_i64]; omega
  have b3 : IntKind.i64.wrap ((ln l k : Int) + 1 - 1) = ln l k := by rw [IntKind.wrap_i64]; omega
  obtain ⟨x, hx⟩ : ∃ x, ln l k = x := ⟨_, rfl⟩
  obtain ⟨y, hy⟩ : ∃ y, cl l k = y := ⟨_, rfl⟩
  rw [hx] at HJ h1 b3 ⊢
  rw [hy] at HI h2 b1 b2 ⊢
  clear h ht hb1 hI hJ hx hy
  go_enter Try.func9, Try.ntmps9
  go_wp2_with (first | (go_at_call 15; refine HW.out.mono ?_; rintro e w' ⟨rfl, rfl⟩) | (go_at_call 16; refine HI.out.mono ?_; rintro e w' ⟨rfl, rfl⟩) | (go_at_call 13; refine HJ.out.mono ?_; rintro e w2 ⟨rfl, hb2⟩))
  exact bodyPost_ret (v := .tuple #[.int .i64 x, .int .i64 y, .int .i64 0]) (by simp [results, Try.results9, go_sem]) rfl ⟨rfl, HB.out.trans (hb2.mono HB.out.size)⟩

theorem place_bad (a : Option Addr) (len cap : Nat) (l : List Int) (k : Int) (w : World) (h : Bs w a len cap l) (hk : k < 0 ∨ (len : Int) < k) :
    Calls Try.prog 9 #[.slice a len cap, .int .i64 k] w fun e w' => e = .returned (.tuple #[.int .i64 0, .int .i64 0, .int .i64 3]) ∧ Below w.heap.size w w' := by
  have hm := h.lt
  have HW := Lib.hid (within_any w.heap.size 1 1 len [k] (w.alloc (.cells #[.int .i64 k] 3)) rfl (by decide) (by
    intro j hj
    obtain rfl : j = 0 := by omega
    rw [cell_of_row _ w.heap.size 0 _ 3 (0, 0) (heap_alloc_new w _)]
    rfl))
  rw [show inB len [k] = false from by simp [inB]; omega] at HW
  unfold maxLen at hm
  have HB := Lib.hid ((Below.refl w.heap.size w).alloc (Nat.le_refl _) (.cells #[.int .i64 k] 3))
  clear h hk
  go_enter Try.func9, Try.ntmps9
  go_wp2_with (first | (go_at_call 15; refine HW.out.mono ?_; rintro e w' ⟨rfl, rfl⟩))
  exact bodyPost_ret (v := .tuple #[.int .i64 0, .int .i64 0, .int .i64 3]) (by simp [results, Try.results9, go_sem]) rfl ⟨rfl, HB.out⟩

end Go.Proofs.Ytoapfchdmfmdeaa
