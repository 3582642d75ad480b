/- Contracts of package shape's named and stands; of the document's part. -/
import Derived.Test.YtcadeannnjpaeaaDoorMC
import Derived.Test.YtcadeannnjpaeaaDoorMB
namespace Go.Proofs.YtcadeannnjpaeaaDoor
open Go.RowKit

set_option maxRecDepth 20000 in
theorem named_any (k : Int) (w : World) : Calls Tryd.prog 35 #[.int .i64 k] w fun e w' => e = .returned (.bool (kdB k)) ∧ w = w' := by
  unfold kdB
  cases h1 : k == 1 with
  | true =>
    go_enter Tryd.func35, Tryd.ntmps35
    go_wp2
    go_ret
    exact ⟨rfl, rfl⟩
  | false =>
    cases h2 : k == 2 with
    | true =>
      go_enter Tryd.func35, Tryd.ntmps35
      go_wp2
      go_ret
      exact ⟨rfl, rfl⟩
    | false =>
      cases h6 : k == 6 with
      | true =>
        go_enter Tryd.func35, Tryd.ntmps35
        go_wp2
        go_ret
        exact ⟨rfl, rfl⟩
      | false =>
        go_enter Tryd.func35, Tryd.ntmps35
        go_wp2
        go_ret
        exact ⟨rfl, rfl⟩

theorem stB_bar {p : Nm} (h : bar p = true) : stB p = false := by unfold stB; rw [h]; rfl
theorem stB_no {p : Nm} (h : bar p = false) : stB p = oneB p := by unfold stB; rw [h]; rfl
theorem oneB_many {p : Nm} (h : (toks (nb p)).length ≠ 1) : oneB p = false := by
  unfold oneB
  split
  · rename_i t ht; rw [ht] at h; exact absurd rfl h
  · rfl
theorem oneB_is {p : Nm} {t : TK} (h : toks (nb p) = [t]) : oneB p = (t.s.toList == p && kdB t.k) := by
  unfold oneB; rw [h]
theorem bar_no {p : Nm} (h1 : (p == [40]) = false) (h2 : (p == [41]) = false) (h3 : (p == [44]) = false) (h4 : (p == [46]) = false) (h5 : (p == [58, 45]) = false) : bar p = false := by
  unfold bar; rw [h1, h2, h3, h4, h5]; rfl

set_option maxRecDepth 20000 in
set_option maxHeartbeats 4000000 in
theorem stands_any (S : ByteArray) (w : World) (ht : Tab w) (hsz : S.size ≤ 100000) :
    Calls Tryd.prog 28 #[.string S] w fun e w' => e = .returned (.bool (stB S.toList)) ∧ Below w.heap.size w w' := by
  cases h1 : S.toList == [40] with
  | true =>
    have hb := stB_bar (p := S.toList) (by unfold bar; rw [h1]; rfl)
    go_enter Tryd.func28, Tryd.ntmps28
    go_wp2
    go_ret
    exact ⟨by rw [hb]; rfl, Below.refl _ _⟩
  | false =>
  cases h2 : S.toList == [41] with
  | true =>
    have hb := stB_bar (p := S.toList) (by unfold bar; rw [h2]; simp)
    go_enter Tryd.func28, Tryd.ntmps28
    go_wp2
    go_ret
    exact ⟨by rw [hb]; rfl, Below.refl _ _⟩
  | false =>
  cases h3 : S.toList == [44] with
  | true =>
    have hb := stB_bar (p := S.toList) (by unfold bar; rw [h3]; simp)
    go_enter Tryd.func28, Tryd.ntmps28
    go_wp2
    go_ret
    exact ⟨by rw [hb]; rfl, Below.refl _ _⟩
  | false =>
  cases h4 : S.toList == [46] with
  | true =>
    have hb := stB_bar (p := S.toList) (by unfold bar; rw [h4]; simp)
    go_enter Tryd.func28, Tryd.ntmps28
    go_wp2
    go_ret
    exact ⟨by rw [hb]; rfl, Below.refl _ _⟩
  | false =>
  cases h5 : S.toList == [58, 45] with
  | true =>
    have hb := stB_bar (p := S.toList) (by unfold bar; rw [h5]; simp)
    go_enter Tryd.func28, Tryd.ntmps28
    go_wp2
    go_ret
    exact ⟨by rw [hb]; rfl, Below.refl _ _⟩
  | false =>
  have HB := Lib.hid (stB_no (bar_no h1 h2 h3 h4 h5))
  have hl : (sb S).length = S.size := by rw [size_toList]; simp [sb]
  obtain ⟨n, hn⟩ : ∃ n, n = (sb S).length := ⟨_, rfl⟩
  obtain ⟨g, C, W1, hrun, hbs, hbel⟩ := conv_str w S (sb S) (bstr_sb S).symm (sb_rng S) (by omega)
  rw [← hn] at hrun hbs
  have hn1 : n ≤ 100000 := by omega
  have HBS := Lib.hid hbs
  have HW1 := Lib.hid hbel
  have HT := Lib.hid ht
  have HN := Lib.hid hn
  clear hl hn hbs hbel ht
  go_enter Tryd.func28, Tryd.ntmps28
  go_wp2_with fail
  refine (all_any _ n C (sb S) _ HBS.out (HT.out.keep HW1.out) (by omega)).mono ?_
  rintro e w2 ⟨a', rfl, hr, hb2⟩
  have HW2 : Hid (Below w.heap.size w w2) := Lib.hid (HW1.out.trans (hb2.mono HW1.out.size))
  obtain ⟨L, hL⟩ : ∃ L, L = toks (sb S) := ⟨_, rfl⟩
  rw [← hL] at hr ⊢
  have HL := Lib.hid hL
  have hts := hr.ts
  clear hrun hb2 hr hL
  by_cases h0 : L.length = 1
  · obtain ⟨t, rfl⟩ : ∃ t, L = [t] := by
      match L, h0 with
      | [t], _ => exact ⟨t, rfl⟩
    have HE : Hid (stB S.toList = (t.s.toList == S.toList && kdB t.k)) := Lib.hid (by rw [HB.out]; exact oneB_is HL.out.symm)
    obtain ⟨d, o, rfl, _, hx⟩ := hts.at_ (by simp)
    clear hx
    obtain ⟨c0, c1, c2, c3, c4⟩ := hts.at5 (k := 0) (by simp)
    simp only [tat, List.getD_cons_zero, Nat.zero_mul, Nat.add_zero] at c0 c1 c2 c3 c4
    obtain ⟨k, f, u, s, e⟩ := t
    simp only at c0 c1 c2 c3 c4 HE
    clear hts h0
    cases hq : s.toList == S.toList with
    | true =>
      go_wp2_with fail
      refine (named_any k _).mono ?_
      rintro e w3 ⟨rfl, rfl⟩
      go_wp2
      go_ret
      exact ⟨by rw [HE.out, hq]; rfl, HW2.out⟩
    | false =>
      go_wp2
      go_ret
      exact ⟨by rw [HE.out, hq]; rfl, HW2.out⟩
  · have HE : Hid (stB S.toList = false) := Lib.hid (by rw [HB.out]; exact oneB_many (by rw [← sb_nb, ← HL.out]; exact h0))
    go_wp2
    go_ret
    exact ⟨by rw [HE.out]; rfl, HW2.out⟩

end Go.Proofs.YtcadeannnjpaeaaDoor
