/- TokenMoves' walk. -/
import Derived.Test.YtglgdpcfjbahdaaDoorTi
namespace Go.Proofs.YtglgdpcfjbahdaaDoor
open Go.RowKit

/-- What stands ahead only moves the token. -/
theorem nx_app (X Y : List Int) : nx (X ++ Y) X.length = (nx Y 0).map fun p => (X.length + p.1, p.2) := by
  have hd : (X ++ Y).drop X.length = Y := by simp
  obtain ⟨n, z, hs, hn, hz⟩ := sk_ways Y 0 (Nat.zero_le _)
  have hs0 := hs
  rw [List.drop_zero] at hs
  rw [Nat.zero_add] at hn hz
  have hs' : sk ((X ++ Y).drop X.length) = (n, z) := by rw [hd]; exact hs
  have hd2 : (X ++ Y).drop (X.length + n) = Y.drop (0 + n) := by rw [Nat.zero_add, ← List.drop_drop, hd]
  by_cases h0 : z = 0
  · subst h0
    by_cases he : n = Y.length
    · rw [nx_none hs' (by rw [List.length_append, he]), nx_none hs0 (by rw [Nat.zero_add, he])]; rfl
    · rw [nx_some hs' (by rw [List.length_append]; omega), nx_some hs0 (by rw [Nat.zero_add]; exact he), hd2]
      simp
  · rw [nx_err hs' h0, nx_err hs0 h0, List.length_append]
    simp
    omega

set_option maxRecDepth 100000 in
set_option maxHeartbeats 2000000 in
theorem tokenMoves_any (a a' : Option Addr) (len cap len' cap' : Nat) (l l' : List Int) (w : World) (h : Bs w a len cap l) (h' : Bs w a' len' cap' l') (ht : Tab w) :
    Calls Tryd.prog 6 #[.slice a len cap, .slice a' len' cap'] w fun e w' => e = .returned (.bool true) ∧ Below w.heap.size w w' := by
  have HX := Lib.hid (few_bs h)
  have HY := Lib.hid (few_bs h')
  have H := Lib.hid h
  have H' := Lib.hid h'
  have HT := Lib.hid ht
  obtain ⟨X, hX⟩ : ∃ X, X = l.take 120 := ⟨_, rfl⟩
  obtain ⟨Y, hY⟩ : ∃ Y, Y = l'.take 120 := ⟨_, rfl⟩
  obtain ⟨p, hp⟩ : ∃ p, p = min len 120 := ⟨_, rfl⟩
  obtain ⟨q, hq⟩ : ∃ q, q = min len' 120 := ⟨_, rfl⟩
  rw [← hX, ← hp] at HX
  rw [← hY, ← hq] at HY
  have hp1 : p ≤ 120 := by omega
  have hq1 : q ≤ 120 := by omega
  have HP := Lib.hid hp
  have HQ := Lib.hid hq
  have hxl : X.length = p := HX.out.hl
  have hyl : Y.length = q := HY.out.hl
  have hm := nx_app X Y
  rw [hxl] at hm
  have HLX := Lib.hid hxl
  have HLY := Lib.hid hyl
  have HE := fun (f : Nat) (t : TR) => nx_good (l := Y) (k := 0) (f := f) (t := t) (Nat.zero_le _) HY.out.rng
  clear h h' ht hX hY hp hq hxl hyl
  cases hx : nx Y 0 with
  | none =>
    rw [hx] at hm
    have HNX := Lib.hid hx
    have HNM : Hid (nx (X ++ Y) p = none) := Lib.hid hm
    clear hx hm HE
    have e1 := eq_tok 0 0 0 0 0 0 0 0 ⟨#[]⟩ ⟨#[]⟩
    simp only [beq_self_eq_true, Bool.and_self] at e1
    go_enter Tryd.func6, Tryd.ntmps6
    go_wp2_with fail
    refine (shown_any _ HT.out).mono ?_
    rintro e w1 ⟨rfl, hb1⟩
    have HW1 := Lib.hid hb1
    clear hb1
    go_wp2_with fail
    refine (few_any _ _ _ _ _ (H.out.below HW1.out)).mono ?_
    rintro e w' ⟨rfl, rfl⟩
    rw [← HP.out]
    go_wp2_with fail
    refine (few_any _ _ _ _ _ (H'.out.below HW1.out)).mono ?_
    rintro e w' ⟨rfl, rfl⟩
    rw [← HQ.out]
    go_wp2_with fail
    refine (next_any _ _ _ Y 0 _ (HY.out.below HW1.out) (HT.out.keep HW1.out) (by omega) (Nat.zero_le _)).mono ?_
    rw [HNX.out, nxV_none]
    rintro e w2 ⟨rfl, hb2⟩
    have HW2 : Hid (Below w.heap.size w w2) := Lib.hid (HW1.out.trans (hb2.mono HW1.out.size))
    clear hb2
    go_wp2_with (at_builtin; refine Hid.out ?_)
    refine Lib.hid ?_
    refine wpList_app rfl (.tmp 23) (.tmp 24) 22 rfl 5 (w2.heap.size + 1) Tryd.underlying22 info5 _ _ _ [] rfl (OwnB.emptyAt (heap_alloc2_new _ _ _) (by simp)) _ _ _ X rfl (((HX.out.below HW2.out).alloc _).alloc _) (by omega) (by simp) ?_
    intro a5 c5 w5 ho5 hb5
    rw [Nat.zero_add, List.nil_append] at *
    have HO5 := Lib.hid ho5
    have HW5 : Hid (Below w.heap.size w w5) := Lib.hid (((HW2.out.alloc HW2.out.size _).alloc (Nat.le_trans HW2.out.size (by simp)) _).trans (hb5.mono (Nat.le_trans HW2.out.size (by simp))))
    have HV5 : Hid (TV w2.heap.size _ w5) := Lib.hid (((tv_new w2 _ 27).keep ((Below.refl _ _).alloc (Nat.le_refl _) _)).keepB (by omega) hb5)
    have hs5 : w2.heap.size + 1 ≤ w5.heap.size := Nat.le_trans (by simp) hb5.size
    clear ho5 hb5
    go_wp2_with (at_builtin; refine Hid.out ?_)
    refine Lib.hid ?_
    refine wpList_app rfl (.tmp 25) (.tmp 26) 22 rfl 5 (w2.heap.size + 1) Tryd.underlying22 info5 _ _ _ X rfl HO5.out _ _ _ Y rfl (HY.out.below HW5.out) (by omega) hs5 ?_
    intro a6 c6 w6 ho6 hb6
    have HO6 := Lib.hid ho6
    have HW6 : Hid (Below w.heap.size w w6) := Lib.hid (HW5.out.trans (hb6.mono (by have := HW2.out.size; omega)))
    have HV6 := Lib.hid (HV5.out.keepB (by omega) hb6)
    clear ho6 hb6
    go_wp2_with fail
    refine (next_any _ _ _ (X ++ Y) p _ HO6.out.bs (HT.out.keep HW6.out) (by omega) (by omega)).mono ?_
    rw [HNM.out, nxV_none]
    rintro e w7 ⟨rfl, hb7⟩
    have HW7 : Hid (Below w.heap.size w w7) := Lib.hid (HW6.out.trans (hb7.mono HW6.out.size))
    have HV7 := Lib.hid (HV6.out.keep hb7)
    clear hb7
    have q0 := HV7.out.c 0
    have q1 := HV7.out.c 1
    have q2 := HV7.out.c 2
    have q3 := HV7.out.c 3
    have q4 := HV7.out.c 4
    have z1 := HV7.out.z 1
    have z2 := HV7.out.z 2
    have hlt := HV7.out.lt
    simp only [List.getElem?_toArray, List.getElem?_cons_zero, List.getElem?_cons_succ] at q0 q1 q2 q3 q4
    go_wp2
    go_ret
    exact ⟨rfl, HW7.out.alloc HW7.out.size _⟩
  | some ft =>
    obtain ⟨f, t⟩ := ft
    obtain ⟨hf0, hfl, hg⟩ := HE _ _ hx
    clear hf0
    rw [hx] at hm
    have HNX := Lib.hid hx
    have HNM : Hid (nx (X ++ Y) p = some (p + f, t)) := Lib.hid hm
    have g1 := hg.n1
    have g2 := hg.nl
    rw [List.length_drop] at g2
    rw [HLY.out] at g2 hfl
    obtain ⟨K, N, T, E⟩ := t
    simp only at g1 g2
    have e1 := eq_tok K ((f : Int) + p) ((f : Int) + N + p) E K ((p : Int) + f) ((p : Int) + f + N) E (bstr T) (bstr T)
    rw [show ((f : Int) + p == (p : Int) + f) = true from by simp only [beq_iff_eq]; omega, show ((f : Int) + N + p == (p : Int) + f + N) = true from by simp only [beq_iff_eq]; omega] at e1
    simp only [beq_self_eq_true, Bool.and_self] at e1
    clear hx hm HE hg
    go_enter Tryd.func6, Tryd.ntmps6
    go_wp2_with fail
    refine (shown_any _ HT.out).mono ?_
    rintro e w1 ⟨rfl, hb1⟩
    have HW1 := Lib.hid hb1
    clear hb1
    go_wp2_with fail
    refine (few_any _ _ _ _ _ (H.out.below HW1.out)).mono ?_
    rintro e w' ⟨rfl, rfl⟩
    rw [← HP.out]
    go_wp2_with fail
    refine (few_any _ _ _ _ _ (H'.out.below HW1.out)).mono ?_
    rintro e w' ⟨rfl, rfl⟩
    rw [← HQ.out]
    go_wp2_with fail
    refine (next_any _ _ _ Y 0 _ (HY.out.below HW1.out) (HT.out.keep HW1.out) (by omega) (Nat.zero_le _)).mono ?_
    rw [HNX.out, nxV_some]
    rintro e w2 ⟨rfl, hb2⟩
    have HW2 : Hid (Below w.heap.size w w2) := Lib.hid (HW1.out.trans (hb2.mono HW1.out.size))
    clear hb2
    go_wp2_with (at_builtin; refine Hid.out ?_)
    refine Lib.hid ?_
    refine wpList_app rfl (.tmp 23) (.tmp 24) 22 rfl 5 (w2.heap.size + 1) Tryd.underlying22 info5 _ _ _ [] rfl (OwnB.emptyAt (heap_alloc2_new _ _ _) (by simp)) _ _ _ X rfl (((HX.out.below HW2.out).alloc _).alloc _) (by omega) (by simp) ?_
    intro a5 c5 w5 ho5 hb5
    rw [Nat.zero_add, List.nil_append] at *
    have HO5 := Lib.hid ho5
    have HW5 : Hid (Below w.heap.size w w5) := Lib.hid (((HW2.out.alloc HW2.out.size _).alloc (Nat.le_trans HW2.out.size (by simp)) _).trans (hb5.mono (Nat.le_trans HW2.out.size (by simp))))
    have HV5 : Hid (TV w2.heap.size _ w5) := Lib.hid (((tv_new w2 _ 27).keep ((Below.refl _ _).alloc (Nat.le_refl _) _)).keepB (by omega) hb5)
    have hs5 : w2.heap.size + 1 ≤ w5.heap.size := Nat.le_trans (by simp) hb5.size
    clear ho5 hb5
    go_wp2_with (at_builtin; refine Hid.out ?_)
    refine Lib.hid ?_
    refine wpList_app rfl (.tmp 25) (.tmp 26) 22 rfl 5 (w2.heap.size + 1) Tryd.underlying22 info5 _ _ _ X rfl HO5.out _ _ _ Y rfl (HY.out.below HW5.out) (by omega) hs5 ?_
    intro a6 c6 w6 ho6 hb6
    have HO6 := Lib.hid ho6
    have HW6 : Hid (Below w.heap.size w w6) := Lib.hid (HW5.out.trans (hb6.mono (by have := HW2.out.size; omega)))
    have HV6 := Lib.hid (HV5.out.keepB (by omega) hb6)
    clear ho6 hb6
    go_wp2_with fail
    refine (next_any _ _ _ (X ++ Y) p _ HO6.out.bs (HT.out.keep HW6.out) (by omega) (by omega)).mono ?_
    rw [HNM.out, nxV_some]
    rintro e w7 ⟨rfl, hb7⟩
    have HW7 : Hid (Below w.heap.size w w7) := Lib.hid (HW6.out.trans (hb7.mono HW6.out.size))
    have HV7 := Lib.hid (HV6.out.keep hb7)
    clear hb7
    have q0 := HV7.out.c 0
    have q1 := HV7.out.c 1
    have q2 := HV7.out.c 2
    have q3 := HV7.out.c 3
    have q4 := HV7.out.c 4
    have z1 := HV7.out.z 1
    have z2 := HV7.out.z 2
    have hlt := HV7.out.lt
    simp only [List.getElem?_toArray, List.getElem?_cons_zero, List.getElem?_cons_succ] at q0 q1 q2 q3 q4
    go_wp2
    go_ret
    exact ⟨rfl, ((HW7.out.setCell HW2.out.size _).setCell HW2.out.size _).alloc (Nat.le_trans HW7.out.size (by simp)) _⟩

end Go.Proofs.YtglgdpcfjbahdaaDoor
