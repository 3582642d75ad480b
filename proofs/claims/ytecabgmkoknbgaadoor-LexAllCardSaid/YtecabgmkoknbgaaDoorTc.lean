/- Contracts of package token's functions that scan a token, and of first. -/
import Derived.Test.YtecabgmkoknbgaaDoorTa
import Derived.Test.YtecabgmkoknbgaaDoorTb
import Derived.Test.YtecabgmkoknbgaaDoorQb
import Derived.Test.YtecabgmkoknbgaaDoorDa
import Derived.Deep.RegionHeld3
namespace Go.Proofs.YtecabgmkoknbgaaDoor
open Go.RowKit

/-- A token as a value, its places counted from its own beginning. -/
def tkv (t : TR) : Value := .agg #[.int .i64 t.k, .int .i64 0, .int .i64 t.n, .string (bstr t.t), .int .i64 t.e]

theorem bstr_nil : bstr [] = ⟨#[]⟩ := rfl

theorem solo_any (a : Option Addr) (len cap : Nat) (l : List Int) (w : World) (h : Bs w a len cap l) (ht : Tab w) (h0 : 0 < len) :
    Calls Tryd.prog 61 #[.slice a len cap] w fun r w' => r = .returned (tkv (⟨6, 1, l.take 1, 0⟩)) ∧ Below w.heap.size w w' := by
  have hlc := h.lc
  have hcm := h.cm
  have hl := h.hl
  unfold maxLen at hcm
  have HMC := Lib.hid h.cm
  have HW0 := Lib.hid (wTok_below w)
  have HC0 := Lib.hid (wTok_tc w)
  have H := Lib.hid h
  have HT := Lib.hid ht
  clear h ht
  have hc1 : 1 ≤ cap := by omega
  go_enter Tryd.func61, Tryd.ntmps61
  go_wp2_with fail
  refine (plain_any 6 _ _ _ (l.take 1) _ ((H.out.below HW0.out).take (k := 1) (by omega) hc1 HMC.out)).mono ?_
  rintro e w1 ⟨rfl, hb1⟩
  have HW1 : Hid (Below w.heap.size w w1) := Lib.hid (HW0.out.trans (hb1.mono HW0.out.size))
  have HC1 : Hid (TC w.heap.size w1) := Lib.hid (HC0.out.keep hb1)
  clear hb1
  have q0 := HC1.out.q0
  have q1 := HC1.out.q1
  have q2 := HC1.out.q2
  have q3 := HC1.out.q3
  have q4 := HC1.out.q4
  have z0 := HC1.out.z 0
  have z1 := HC1.out.z 1
  have z2 := HC1.out.z 2
  have z3 := HC1.out.z 3
  have z4 := HC1.out.z 4
  have hlt := HC1.out.lt
  go_wp2
  exact bodyPost_ret (v := .agg #[.int .i64 6, .int .i64 0, .int .i64 (1 : Nat), .string (bstr (l.take 1)), .int .i64 0]) (by simp [results, Tryd.results61, go_sem, q0, q1, q2, q3, q4]) rfl ⟨rfl, set5_below HW1.out (Nat.le_refl _) _ _ _ _ _⟩

theorem variable_any (a : Option Addr) (len cap : Nat) (l : List Int) (w : World) (h : Bs w a len cap l) (ht : Tab w) :
    Calls Tryd.prog 57 #[.slice a len cap] w fun r w' => r = .returned (tkv (nameT 3 l)) ∧ Below w.heap.size w w' := by
  have hlc := h.lc
  have hcm := h.cm
  have hl := h.hl
  unfold maxLen at hcm
  have HMC := Lib.hid h.cm
  have HW0 := Lib.hid (wTok_below w)
  have HC0 := Lib.hid (wTok_tc w)
  have H := Lib.hid h
  have HT := Lib.hid ht
  clear h ht
  have hn := nmL_le l
  have hnc : nmL l ≤ cap := by omega
  go_enter Tryd.func57, Tryd.ntmps57
  go_wp2_with fail
  refine (name6_any _ _ _ l _ (H.out.below HW0.out) (HT.out.keep HW0.out)).mono ?_
  rintro e w1 ⟨rfl, hb1⟩
  have HW1 : Hid (Below w.heap.size w w1) := Lib.hid (HW0.out.trans (hb1.mono HW0.out.size))
  have HC1 : Hid (TC w.heap.size w1) := Lib.hid (HC0.out.keep hb1)
  clear hb1
  go_wp2_with fail
  refine (plain_any 3 _ _ _ (l.take (nmL l)) _ ((H.out.below HW1.out).take (k := nmL l) (by omega) hnc HMC.out)).mono ?_
  rintro e w2 ⟨rfl, hb2⟩
  have HW2 : Hid (Below w.heap.size w w2) := Lib.hid (HW1.out.trans (hb2.mono HW1.out.size))
  have HC2 : Hid (TC w.heap.size w2) := Lib.hid (HC1.out.keep hb2)
  clear hb2
  have q0 := HC2.out.q0
  have q1 := HC2.out.q1
  have q2 := HC2.out.q2
  have q3 := HC2.out.q3
  have q4 := HC2.out.q4
  have z0 := HC2.out.z 0
  have z1 := HC2.out.z 1
  have z2 := HC2.out.z 2
  have z3 := HC2.out.z 3
  have z4 := HC2.out.z 4
  have hlt := HC2.out.lt
  go_wp2
  exact bodyPost_ret (v := .agg #[.int .i64 3, .int .i64 0, .int .i64 (nmL l : Nat), .string (bstr (l.take (nmL l))), .int .i64 0]) (by simp [results, Tryd.results57, go_sem, q0, q1, q2, q3, q4]) rfl ⟨rfl, set5_below HW2.out (Nat.le_refl _) _ _ _ _ _⟩

theorem atom_any (a : Option Addr) (len cap : Nat) (l : List Int) (w : World) (h : Bs w a len cap l) (ht : Tab w) :
    Calls Tryd.prog 56 #[.slice a len cap] w fun r w' => r = .returned (tkv (highT l)) ∧ Below w.heap.size w w' := by
  cases hz : decide (nmL l = 0) with
  | true =>
    have hz0 : nmL l = 0 := by simpa using hz
    clear hz
    have hlc := h.lc
    have hcm := h.cm
    have hl := h.hl
    unfold maxLen at hcm
    have HMC := Lib.hid h.cm
    have HW0 := Lib.hid (wTok_below w)
    have HC0 := Lib.hid (wTok_tc w)
    have H := Lib.hid h
    have HT := Lib.hid ht
    clear h ht
    go_enter Tryd.func56, Tryd.ntmps56
    go_wp2_with fail
    refine (name6_any _ _ _ l _ (H.out.below HW0.out) (HT.out.keep HW0.out)).mono ?_
    rw [hz0]
    rintro e w1 ⟨rfl, hb1⟩
    have HW1 : Hid (Below w.heap.size w w1) := Lib.hid (HW0.out.trans (hb1.mono HW0.out.size))
    have HC1 : Hid (TC w.heap.size w1) := Lib.hid (HC0.out.keep hb1)
    clear hb1
    go_wp2_with fail
    refine (bad_any 1 10 _).mono ?_
    rintro e w2 ⟨rfl, hb2⟩
    have HW2 : Hid (Below w.heap.size w w2) := Lib.hid (HW1.out.trans (hb2.mono HW1.out.size))
    have HC2 : Hid (TC w.heap.size w2) := Lib.hid (HC1.out.keep hb2)
    clear hb2
    have q0 := HC2.out.q0
    have q1 := HC2.out.q1
    have q2 := HC2.out.q2
    have q3 := HC2.out.q3
    have q4 := HC2.out.q4
    have z0 := HC2.out.z 0
    have z1 := HC2.out.z 1
    have z2 := HC2.out.z 2
    have z3 := HC2.out.z 3
    have z4 := HC2.out.z 4
    have hlt := HC2.out.lt
    go_wp2
    exact bodyPost_ret (v := .agg #[.int .i64 8, .int .i64 0, .int .i64 1, .string ⟨#[]⟩, .int .i64 10]) (by simp [results, Tryd.results56, go_sem, q0, q1, q2, q3, q4]) rfl ⟨by rw [highT, if_pos hz0]; rfl, set5_below HW2.out (Nat.le_refl _) _ _ _ _ _⟩
  | false =>
    have hz0 : ¬ nmL l = 0 := by simpa using hz
    have hzb : ((nmL l : Int) == 0) = false := by simp; omega
    clear hz
    have hlc := h.lc
    have hcm := h.cm
    have hl := h.hl
    unfold maxLen at hcm
    have HMC := Lib.hid h.cm
    have HW0 := Lib.hid (wTok_below w)
    have HC0 := Lib.hid (wTok_tc w)
    have H := Lib.hid h
    have HT := Lib.hid ht
    clear h ht
    have hn := nmL_le l
    have hnc : nmL l ≤ cap := by omega
    go_enter Tryd.func56, Tryd.ntmps56
    go_wp2_with fail
    refine (name6_any _ _ _ l _ (H.out.below HW0.out) (HT.out.keep HW0.out)).mono ?_
    rintro e w1 ⟨rfl, hb1⟩
    have HW1 : Hid (Below w.heap.size w w1) := Lib.hid (HW0.out.trans (hb1.mono HW0.out.size))
    have HC1 : Hid (TC w.heap.size w1) := Lib.hid (HC0.out.keep hb1)
    clear hb1
    go_wp2_with fail
    refine (plain_any 1 _ _ _ (l.take (nmL l)) _ ((H.out.below HW1.out).take (k := nmL l) (by omega) hnc HMC.out)).mono ?_
    rintro e w2 ⟨rfl, hb2⟩
    have HW2 : Hid (Below w.heap.size w w2) := Lib.hid (HW1.out.trans (hb2.mono HW1.out.size))
    have HC2 : Hid (TC w.heap.size w2) := Lib.hid (HC1.out.keep hb2)
    clear hb2
    have q0 := HC2.out.q0
    have q1 := HC2.out.q1
    have q2 := HC2.out.q2
    have q3 := HC2.out.q3
    have q4 := HC2.out.q4
    have z0 := HC2.out.z 0
    have z1 := HC2.out.z 1
    have z2 := HC2.out.z 2
    have z3 := HC2.out.z 3
    have z4 := HC2.out.z 4
    have hlt := HC2.out.lt
    go_wp2
    exact bodyPost_ret (v := .agg #[.int .i64 1, .int .i64 0, .int .i64 (nmL l : Nat), .string (bstr (l.take (nmL l))), .int .i64 0]) (by simp [results, Tryd.results56, go_sem, q0, q1, q2, q3, q4]) rfl ⟨by rw [highT, if_neg hz0]; rfl, set5_below HW2.out (Nat.le_refl _) _ _ _ _ _⟩

theorem number_any (a : Option Addr) (len cap : Nat) (l : List Int) (w : World) (h : Bs w a len cap l) (ht : Tab w) :
    Calls Tryd.prog 59 #[.slice a len cap] w fun r w' => r = .returned (tkv (numT l)) ∧ Below w.heap.size w w' := by
  have hk := runL_le 4 l
  by_cases hz : dkE l = 0
  · have hlc := h.lc
    have hcm := h.cm
    have hl := h.hl
    unfold maxLen at hcm
    have HMC := Lib.hid h.cm
    have HW0 := Lib.hid (wTok_below w)
    have HC0 := Lib.hid (wTok_tc w)
    have H := Lib.hid h
    have HT := Lib.hid ht
    clear h ht
    have hkc : dkK l ≤ cap := by unfold dkK; omega
    have hkl : dkK l ≤ len := by unfold dkK; omega
    go_enter Tryd.func59, Tryd.ntmps59
    go_wp2_with fail
    refine (dtake_any _ _ _ l _ (H.out.below HW0.out) (HT.out.keep HW0.out)).mono ?_
    rintro e w1 ⟨rfl, hb1⟩
    have HW1 : Hid (Below w.heap.size w w1) := Lib.hid (HW0.out.trans (hb1.mono HW0.out.size))
    have HC1 : Hid (TC w.heap.size w1) := Lib.hid (HC0.out.keep hb1)
    clear hb1
    unfold dkV
    rw [hz]
    go_wp2_with fail
    refine (plain_any 4 _ _ _ (l.take (dkK l)) _ ((H.out.below HW1.out).take hkl hkc HMC.out)).mono ?_
    rintro e w2 ⟨rfl, hb2⟩
    have HW2 : Hid (Below w.heap.size w w2) := Lib.hid (HW1.out.trans (hb2.mono HW1.out.size))
    have HC2 : Hid (TC w.heap.size w2) := Lib.hid (HC1.out.keep hb2)
    clear hb2
    have q0 := HC2.out.q0
    have q1 := HC2.out.q1
    have q2 := HC2.out.q2
    have q3 := HC2.out.q3
    have q4 := HC2.out.q4
    have z0 := HC2.out.z 0
    have z1 := HC2.out.z 1
    have z2 := HC2.out.z 2
    have z3 := HC2.out.z 3
    have z4 := HC2.out.z 4
    have hlt := HC2.out.lt
    go_wp2
    exact bodyPost_ret (v := .agg #[.int .i64 4, .int .i64 0, .int .i64 (dkK l : Nat), .string (bstr (l.take (dkK l))), .int .i64 0]) (by simp [results, Tryd.results59, go_sem, q0, q1, q2, q3, q4]) rfl ⟨by rw [numT, if_pos hz]; rfl, set5_below HW2.out (Nat.le_refl _) _ _ _ _ _⟩
  · have hlc := h.lc
    have hcm := h.cm
    have hl := h.hl
    unfold maxLen at hcm
    have HMC := Lib.hid h.cm
    have HW0 := Lib.hid (wTok_below w)
    have HC0 := Lib.hid (wTok_tc w)
    have H := Lib.hid h
    have HT := Lib.hid ht
    clear h ht
    go_enter Tryd.func59, Tryd.ntmps59
    go_wp2_with fail
    refine (dtake_any _ _ _ l _ (H.out.below HW0.out) (HT.out.keep HW0.out)).mono ?_
    rintro e w1 ⟨rfl, hb1⟩
    have HW1 : Hid (Below w.heap.size w w1) := Lib.hid (HW0.out.trans (hb1.mono HW0.out.size))
    have HC1 : Hid (TC w.heap.size w1) := Lib.hid (HC0.out.keep hb1)
    clear hb1
    unfold dkV
    have hzb : (dkE l != 0) = true := by simpa using hz
    go_wp2_with fail
    refine (bad_any (dkK l) (dkE l) _).mono ?_
    rintro e w2 ⟨rfl, hb2⟩
    have HW2 : Hid (Below w.heap.size w w2) := Lib.hid (HW1.out.trans (hb2.mono HW1.out.size))
    have HC2 : Hid (TC w.heap.size w2) := Lib.hid (HC1.out.keep hb2)
    clear hb2
    have q0 := HC2.out.q0
    have q1 := HC2.out.q1
    have q2 := HC2.out.q2
    have q3 := HC2.out.q3
    have q4 := HC2.out.q4
    have z0 := HC2.out.z 0
    have z1 := HC2.out.z 1
    have z2 := HC2.out.z 2
    have z3 := HC2.out.z 3
    have z4 := HC2.out.z 4
    have hlt := HC2.out.lt
    go_wp2
    exact bodyPost_ret (v := .agg #[.int .i64 8, .int .i64 0, .int .i64 (dkK l : Nat), .string ⟨#[]⟩, .int .i64 (dkE l)]) (by simp [results, Tryd.results59, go_sem, q0, q1, q2, q3, q4]) rfl ⟨by rw [numT, if_neg hz]; rfl, set5_below HW2.out (Nat.le_refl _) _ _ _ _ _⟩

theorem qtok_any (a : Option Addr) (len cap : Nat) (l : List Int) (w : World) (h : Bs w a len cap l) (ht : Tab w) (hsz : len ≤ 1000000) :
    Calls Tryd.prog 60 #[.slice a len cap] w fun r w' => r = .returned (tkv (quoT l)) ∧ Below w.heap.size w w' := by
  by_cases hz : (tk l).e = 0
  · have hlc := h.lc
    have hcm := h.cm
    have hl := h.hl
    unfold maxLen at hcm
    have HMC := Lib.hid h.cm
    have HW0 := Lib.hid (wTok_below w)
    have HC0 := Lib.hid (wTok_tc w)
    have H := Lib.hid h
    have HT := Lib.hid ht
    clear h ht
    go_enter Tryd.func60, Tryd.ntmps60
    go_wp2_with fail
    refine (qtake_any _ _ _ l _ (H.out.below HW0.out) (HT.out.keep HW0.out) hsz).mono ?_
    rintro e w1 ⟨a', c', rfl, ho1, hb1⟩
    have HW1 : Hid (Below w.heap.size w w1) := Lib.hid (HW0.out.trans (hb1.mono HW0.out.size))
    have HC1 : Hid (TC w.heap.size w1) := Lib.hid (HC0.out.keep hb1)
    clear hb1
    rw [hz]
    have kc := ho1.bs.str (P := Tryd.prog) 22 9 5 Tryd.underlying22 Tryd.underlying5 Tryd.underlying9
    clear ho1
    have q0 := HC1.out.q0
    have q1 := HC1.out.q1
    have q2 := HC1.out.q2
    have q3 := HC1.out.q3
    have q4 := HC1.out.q4
    have z0 := HC1.out.z 0
    have z1 := HC1.out.z 1
    have z2 := HC1.out.z 2
    have z3 := HC1.out.z 3
    have z4 := HC1.out.z 4
    have hlt := HC1.out.lt
    go_wp2
    exact bodyPost_ret (v := .agg #[.int .i64 5, .int .i64 0, .int .i64 ((tk l).n : Nat), .string (bstr (tk l).t), .int .i64 0]) (by simp [results, Tryd.results60, go_sem, q0, q1, q2, q3, q4]) rfl ⟨by rw [quoT, if_pos hz]; rfl, set5_below HW1.out (Nat.le_refl _) _ _ _ _ _⟩
  · have hlc := h.lc
    have hcm := h.cm
    have hl := h.hl
    unfold maxLen at hcm
    have HMC := Lib.hid h.cm
    have HW0 := Lib.hid (wTok_below w)
    have HC0 := Lib.hid (wTok_tc w)
    have H := Lib.hid h
    have HT := Lib.hid ht
    clear h ht
    go_enter Tryd.func60, Tryd.ntmps60
    go_wp2_with fail
    refine (qtake_any _ _ _ l _ (H.out.below HW0.out) (HT.out.keep HW0.out) hsz).mono ?_
    rintro e w1 ⟨a', c', rfl, ho1, hb1⟩
    have HW1 : Hid (Below w.heap.size w w1) := Lib.hid (HW0.out.trans (hb1.mono HW0.out.size))
    have HC1 : Hid (TC w.heap.size w1) := Lib.hid (HC0.out.keep hb1)
    clear hb1
    clear ho1
    have hzb : ((tk l).e != 0) = true := by simpa using hz
    go_wp2_with fail
    refine (bad_any (tk l).n (tk l).e _).mono ?_
    rintro e w2 ⟨rfl, hb2⟩
    have HW2 : Hid (Below w.heap.size w w2) := Lib.hid (HW1.out.trans (hb2.mono HW1.out.size))
    have HC2 : Hid (TC w.heap.size w2) := Lib.hid (HC1.out.keep hb2)
    clear hb2
    have q0 := HC2.out.q0
    have q1 := HC2.out.q1
    have q2 := HC2.out.q2
    have q3 := HC2.out.q3
    have q4 := HC2.out.q4
    have z0 := HC2.out.z 0
    have z1 := HC2.out.z 1
    have z2 := HC2.out.z 2
    have z3 := HC2.out.z 3
    have z4 := HC2.out.z 4
    have hlt := HC2.out.lt
    go_wp2
    exact bodyPost_ret (v := .agg #[.int .i64 8, .int .i64 0, .int .i64 ((tk l).n : Nat), .string ⟨#[]⟩, .int .i64 (tk l).e]) (by simp [results, Tryd.results60, go_sem, q0, q1, q2, q3, q4]) rfl ⟨by rw [quoT, if_neg hz]; rfl, set5_below HW2.out (Nat.le_refl _) _ _ _ _ _⟩

theorem one_dot {l : List Int} (h : ∀ x ∈ l, 0 ≤ x ∧ x ≤ 255) : ((bstr l).toList == [46]) = decide (l = [46]) := by
  by_cases e : l = [46]
  · subst e; rw [bstr_toList]; decide
  · rw [decide_eq_false e, beq_eq_false_iff_ne]
    intro hn
    apply e
    refine bstr_inj h (by simp) ?_
    rw [hn, bstr_toList]; decide

theorem take_dot {l : List Int} {n : Nat} (hn : 1 ≤ n) (hl : n ≤ l.length) : l.take n = [46] ↔ (n = 1 ∧ bt l 0 = 46) := by
  cases l with
  | nil => simp at hl; omega
  | cons c r =>
    obtain ⟨m, rfl⟩ : ∃ m, n = m + 1 := ⟨n - 1, by omega⟩
    simp only [List.take_succ_cons, List.cons.injEq, bt_cons0]
    constructor
    · rintro ⟨h1, h2⟩
      refine ⟨?_, h1⟩
      have := congrArg List.length h2
      simp at hl
      rw [List.length_take, Nat.min_eq_left (by omega)] at this
      simp at this
      omega
    · rintro ⟨h1, h2⟩
      obtain rfl : m = 0 := by omega
      exact ⟨h2, rfl⟩

theorem endT_apart {l : List Int} (h1 : runL 5 l = 1) (h2 : bt l 0 = 46) (h0 : 0 < l.length) : endT l = apartB (l.drop 1) := by
  unfold endT apartB
  rw [h1, h2, List.length_drop, bt_drop]
  simp
  congr 1
  exact decide_eq_decide.2 (by omega)
theorem endT_no {l : List Int} (h : ¬ (runL 5 l = 1 ∧ bt l 0 = 46)) : endT l = false := by
  unfold endT
  by_cases h1 : runL 5 l = 1
  · rw [decide_eq_false (fun h2 => h ⟨h1, h2⟩ : ¬ bt l 0 = 46)]; simp
  · rw [decide_eq_false h1]; rfl

set_option maxHeartbeats 1000000 in
theorem symbol_any (a : Option Addr) (len cap : Nat) (l : List Int) (w : World) (h : Bs w a len cap l) (ht : Tab w) (h0 : 0 < len) (h5 : cls (bt l 0) = 5) :
    Calls Tryd.prog 58 #[.slice a len cap] w fun r w' => r = .returned (tkv (symT l)) ∧ Below w.heap.size w w' := by
  have hrn := runL_le 5 l
  have hrp : 1 ≤ runL 5 l := by
    have := runL_zero (n := 5) (l := l) (by have := h.hl; omega)
    apply Nat.pos_of_ne_zero
    intro hz
    exact absurd h5 (this.1 hz)
  have hll := h.hl
  clear h5
  by_cases hd : runL 5 l = 1 ∧ bt l 0 = 46
  · cases hap : apartB (l.drop 1) with
    | true =>
      have HE : Hid (endT l = true) := Lib.hid (by rw [endT_apart hd.1 hd.2 (by omega)]; exact hap)
      by_cases hcap : 1 < cap
      · obtain ⟨b, off, rfl, _, _⟩ := h.at_ h0
        have hlc := h.lc
        have hcm := h.cm
        have hl := h.hl
        unfold maxLen at hcm
        have HMC := Lib.hid h.cm
        have HW0 := Lib.hid (wTok_below w)
        have HC0 := Lib.hid (wTok_tc w)
        have H := Lib.hid h
        have HT := Lib.hid ht
        clear h ht
        obtain ⟨hd1, hd2⟩ := hd
        have hnc : 1 ≤ cap := by omega
        go_enter Tryd.func58, Tryd.ntmps58
        go_wp2_with fail
        refine (run_any _ _ _ l 5 _ (H.out.below HW0.out) (HT.out.keep HW0.out)).mono ?_
        rintro e w1 ⟨rfl, hb1⟩
        have HW1 : Hid (Below w.heap.size w w1) := Lib.hid (HW0.out.trans (hb1.mono HW0.out.size))
        have HC1 : Hid (TC w.heap.size w1) := Lib.hid (HC0.out.keep hb1)
        clear hb1
        rw [hd1]
        have kc := ((H.out.below HW1.out).take (k := 1) (c' := cap) (by omega) (by omega) HMC.out).str (P := Tryd.prog) 22 9 5 Tryd.underlying22 Tryd.underlying5 Tryd.underlying9
        have kd : ((bstr (l.take 1)).toList == [46]) = true := by
          rw [one_dot (fun x hx => H.out.rng x (List.take_subset _ _ hx))]
          exact decide_eq_true ((take_dot (by omega) (by omega)).2 ⟨rfl, hd2⟩)
        go_wp2_with fail
        refine (apart_any _ _ _ (l.drop 1) _ ((H.out.below HW1.out).drop (k := 1) (by omega)) (HT.out.keep HW1.out)).mono ?_
        rw [hap]
        rintro e w2 ⟨rfl, hb2⟩
        have HW2 : Hid (Below w.heap.size w w2) := Lib.hid (HW1.out.trans (hb2.mono HW1.out.size))
        have HC2 : Hid (TC w.heap.size w2) := Lib.hid (HC1.out.keep hb2)
        clear hb2
        go_wp2_with fail
        refine (plain_any 7 _ _ _ (l.take 1) _ ((H.out.below HW2.out).take (k := 1) (by omega) hnc HMC.out)).mono ?_
        rintro e w3 ⟨rfl, hb3⟩
        have HW3 : Hid (Below w.heap.size w w3) := Lib.hid (HW2.out.trans (hb3.mono HW2.out.size))
        have HC3 : Hid (TC w.heap.size w3) := Lib.hid (HC2.out.keep hb3)
        clear hb3
        have q0 := HC3.out.q0
        have q1 := HC3.out.q1
        have q2 := HC3.out.q2
        have q3 := HC3.out.q3
        have q4 := HC3.out.q4
        have z0 := HC3.out.z 0
        have z1 := HC3.out.z 1
        have z2 := HC3.out.z 2
        have z3 := HC3.out.z 3
        have z4 := HC3.out.z 4
        have hlt := HC3.out.lt
        go_wp2
        exact bodyPost_ret (v := .agg #[.int .i64 7, .int .i64 0, .int .i64 (1 : Nat), .string (bstr (l.take 1)), .int .i64 0]) (by simp [results, Tryd.results58, go_sem, q0, q1, q2, q3, q4]) rfl ⟨by rw [symT, hd1, HE.out]; rfl, set5_below HW3.out (Nat.le_refl _) _ _ _ _ _⟩
      · obtain ⟨b, off, rfl, _, _⟩ := h.at_ h0
        have hlc := h.lc
        have hc1 : cap = 1 := by omega
        have hl1 : len = 1 := by have := h.lc; omega
        subst hc1
        subst hl1
        have HDR : Hid (l.drop 1 = []) := Lib.hid (List.drop_eq_nil_iff.2 (by omega))
        have hlc := h.lc
        have hcm := h.cm
        have hl := h.hl
        unfold maxLen at hcm
        have HMC := Lib.hid h.cm
        have HW0 := Lib.hid (wTok_below w)
        have HC0 := Lib.hid (wTok_tc w)
        have H := Lib.hid h
        have HT := Lib.hid ht
        clear h ht
        obtain ⟨hd1, hd2⟩ := hd
        have hnc : 1 ≤ 1 := by omega
        go_enter Tryd.func58, Tryd.ntmps58
        go_wp2_with fail
        refine (run_any _ _ _ l 5 _ (H.out.below HW0.out) (HT.out.keep HW0.out)).mono ?_
        rintro e w1 ⟨rfl, hb1⟩
        have HW1 : Hid (Below w.heap.size w w1) := Lib.hid (HW0.out.trans (hb1.mono HW0.out.size))
        have HC1 : Hid (TC w.heap.size w1) := Lib.hid (HC0.out.keep hb1)
        clear hb1
        rw [hd1]
        have kc := ((H.out.below HW1.out).take (k := 1) (c' := 1) (by omega) (by omega) HMC.out).str (P := Tryd.prog) 22 9 5 Tryd.underlying22 Tryd.underlying5 Tryd.underlying9
        have kd : ((bstr (l.take 1)).toList == [46]) = true := by
          rw [one_dot (fun x hx => H.out.rng x (List.take_subset _ _ hx))]
          exact decide_eq_true ((take_dot (by omega) (by omega)).2 ⟨rfl, hd2⟩)
        go_wp2_with fail
        refine (apart_any _ _ _ (l.drop 1) _ (HDR.out ▸ Bs.nil w1 (some ⟨b, off, none⟩) 0 (by decide)) (HT.out.keep HW1.out)).mono ?_
        rw [hap]
        rintro e w2 ⟨rfl, hb2⟩
        have HW2 : Hid (Below w.heap.size w w2) := Lib.hid (HW1.out.trans (hb2.mono HW1.out.size))
        have HC2 : Hid (TC w.heap.size w2) := Lib.hid (HC1.out.keep hb2)
        clear hb2
        go_wp2_with fail
        refine (plain_any 7 _ _ _ (l.take 1) _ ((H.out.below HW2.out).take (k := 1) (by omega) hnc HMC.out)).mono ?_
        rintro e w3 ⟨rfl, hb3⟩
        have HW3 : Hid (Below w.heap.size w w3) := Lib.hid (HW2.out.trans (hb3.mono HW2.out.size))
        have HC3 : Hid (TC w.heap.size w3) := Lib.hid (HC2.out.keep hb3)
        clear hb3
        have q0 := HC3.out.q0
        have q1 := HC3.out.q1
        have q2 := HC3.out.q2
        have q3 := HC3.out.q3
        have q4 := HC3.out.q4
        have z0 := HC3.out.z 0
        have z1 := HC3.out.z 1
        have z2 := HC3.out.z 2
        have z3 := HC3.out.z 3
        have z4 := HC3.out.z 4
        have hlt := HC3.out.lt
        go_wp2
        exact bodyPost_ret (v := .agg #[.int .i64 7, .int .i64 0, .int .i64 (1 : Nat), .string (bstr (l.take 1)), .int .i64 0]) (by simp [results, Tryd.results58, go_sem, q0, q1, q2, q3, q4]) rfl ⟨by rw [symT, hd1, HE.out]; rfl, set5_below HW3.out (Nat.le_refl _) _ _ _ _ _⟩
    | false =>
      have HE : Hid (endT l = false) := Lib.hid (by rw [endT_apart hd.1 hd.2 (by omega)]; exact hap)
      by_cases hcap : 1 < cap
      · obtain ⟨b, off, rfl, _, _⟩ := h.at_ h0
        have hlc := h.lc
        have hcm := h.cm
        have hl := h.hl
        unfold maxLen at hcm
        have HMC := Lib.hid h.cm
        have HW0 := Lib.hid (wTok_below w)
        have HC0 := Lib.hid (wTok_tc w)
        have H := Lib.hid h
        have HT := Lib.hid ht
        clear h ht
        obtain ⟨hd1, hd2⟩ := hd
        have hnc : 1 ≤ cap := by omega
        go_enter Tryd.func58, Tryd.ntmps58
        go_wp2_with fail
        refine (run_any _ _ _ l 5 _ (H.out.below HW0.out) (HT.out.keep HW0.out)).mono ?_
        rintro e w1 ⟨rfl, hb1⟩
        have HW1 : Hid (Below w.heap.size w w1) := Lib.hid (HW0.out.trans (hb1.mono HW0.out.size))
        have HC1 : Hid (TC w.heap.size w1) := Lib.hid (HC0.out.keep hb1)
        clear hb1
        rw [hd1]
        have kc := ((H.out.below HW1.out).take (k := 1) (c' := cap) (by omega) (by omega) HMC.out).str (P := Tryd.prog) 22 9 5 Tryd.underlying22 Tryd.underlying5 Tryd.underlying9
        have kd : ((bstr (l.take 1)).toList == [46]) = true := by
          rw [one_dot (fun x hx => H.out.rng x (List.take_subset _ _ hx))]
          exact decide_eq_true ((take_dot (by omega) (by omega)).2 ⟨rfl, hd2⟩)
        go_wp2_with fail
        refine (apart_any _ _ _ (l.drop 1) _ ((H.out.below HW1.out).drop (k := 1) (by omega)) (HT.out.keep HW1.out)).mono ?_
        rw [hap]
        rintro e w2 ⟨rfl, hb2⟩
        have HW2 : Hid (Below w.heap.size w w2) := Lib.hid (HW1.out.trans (hb2.mono HW1.out.size))
        have HC2 : Hid (TC w.heap.size w2) := Lib.hid (HC1.out.keep hb2)
        clear hb2
        go_wp2_with fail
        refine (plain_any 2 _ _ _ (l.take 1) _ ((H.out.below HW2.out).take (k := 1) (by omega) hnc HMC.out)).mono ?_
        rintro e w3 ⟨rfl, hb3⟩
        have HW3 : Hid (Below w.heap.size w w3) := Lib.hid (HW2.out.trans (hb3.mono HW2.out.size))
        have HC3 : Hid (TC w.heap.size w3) := Lib.hid (HC2.out.keep hb3)
        clear hb3
        have q0 := HC3.out.q0
        have q1 := HC3.out.q1
        have q2 := HC3.out.q2
        have q3 := HC3.out.q3
        have q4 := HC3.out.q4
        have z0 := HC3.out.z 0
        have z1 := HC3.out.z 1
        have z2 := HC3.out.z 2
        have z3 := HC3.out.z 3
        have z4 := HC3.out.z 4
        have hlt := HC3.out.lt
        go_wp2
        exact bodyPost_ret (v := .agg #[.int .i64 2, .int .i64 0, .int .i64 (1 : Nat), .string (bstr (l.take 1)), .int .i64 0]) (by simp [results, Tryd.results58, go_sem, q0, q1, q2, q3, q4]) rfl ⟨by rw [symT, hd1, HE.out]; rfl, set5_below HW3.out (Nat.le_refl _) _ _ _ _ _⟩
      · obtain ⟨b, off, rfl, _, _⟩ := h.at_ h0
        have hlc := h.lc
        have hc1 : cap = 1 := by omega
        have hl1 : len = 1 := by have := h.lc; omega
        subst hc1
        subst hl1
        have HDR : Hid (l.drop 1 = []) := Lib.hid (List.drop_eq_nil_iff.2 (by omega))
        have hlc := h.lc
        have hcm := h.cm
        have hl := h.hl
        unfold maxLen at hcm
        have HMC := Lib.hid h.cm
        have HW0 := Lib.hid (wTok_below w)
        have HC0 := Lib.hid (wTok_tc w)
        have H := Lib.hid h
        have HT := Lib.hid ht
        clear h ht
        obtain ⟨hd1, hd2⟩ := hd
        have hnc : 1 ≤ 1 := by omega
        go_enter Tryd.func58, Tryd.ntmps58
        go_wp2_with fail
        refine (run_any _ _ _ l 5 _ (H.out.below HW0.out) (HT.out.keep HW0.out)).mono ?_
        rintro e w1 ⟨rfl, hb1⟩
        have HW1 : Hid (Below w.heap.size w w1) := Lib.hid (HW0.out.trans (hb1.mono HW0.out.size))
        have HC1 : Hid (TC w.heap.size w1) := Lib.hid (HC0.out.keep hb1)
        clear hb1
        rw [hd1]
        have kc := ((H.out.below HW1.out).take (k := 1) (c' := 1) (by omega) (by omega) HMC.out).str (P := Tryd.prog) 22 9 5 Tryd.underlying22 Tryd.underlying5 Tryd.underlying9
        have kd : ((bstr (l.take 1)).toList == [46]) = true := by
          rw [one_dot (fun x hx => H.out.rng x (List.take_subset _ _ hx))]
          exact decide_eq_true ((take_dot (by omega) (by omega)).2 ⟨rfl, hd2⟩)
        go_wp2_with fail
        refine (apart_any _ _ _ (l.drop 1) _ (HDR.out ▸ Bs.nil w1 (some ⟨b, off, none⟩) 0 (by decide)) (HT.out.keep HW1.out)).mono ?_
        rw [hap]
        rintro e w2 ⟨rfl, hb2⟩
        have HW2 : Hid (Below w.heap.size w w2) := Lib.hid (HW1.out.trans (hb2.mono HW1.out.size))
        have HC2 : Hid (TC w.heap.size w2) := Lib.hid (HC1.out.keep hb2)
        clear hb2
        go_wp2_with fail
        refine (plain_any 2 _ _ _ (l.take 1) _ ((H.out.below HW2.out).take (k := 1) (by omega) hnc HMC.out)).mono ?_
        rintro e w3 ⟨rfl, hb3⟩
        have HW3 : Hid (Below w.heap.size w w3) := Lib.hid (HW2.out.trans (hb3.mono HW2.out.size))
        have HC3 : Hid (TC w.heap.size w3) := Lib.hid (HC2.out.keep hb3)
        clear hb3
        have q0 := HC3.out.q0
        have q1 := HC3.out.q1
        have q2 := HC3.out.q2
        have q3 := HC3.out.q3
        have q4 := HC3.out.q4
        have z0 := HC3.out.z 0
        have z1 := HC3.out.z 1
        have z2 := HC3.out.z 2
        have z3 := HC3.out.z 3
        have z4 := HC3.out.z 4
        have hlt := HC3.out.lt
        go_wp2
        exact bodyPost_ret (v := .agg #[.int .i64 2, .int .i64 0, .int .i64 (1 : Nat), .string (bstr (l.take 1)), .int .i64 0]) (by simp [results, Tryd.results58, go_sem, q0, q1, q2, q3, q4]) rfl ⟨by rw [symT, hd1, HE.out]; rfl, set5_below HW3.out (Nat.le_refl _) _ _ _ _ _⟩
  · have HE : Hid (endT l = false) := Lib.hid (endT_no hd)
    have hkd : (decide (l.take (runL 5 l) = [46])) = false := decide_eq_false (fun hx => hd ((take_dot hrp hrn).1 hx))
    clear hd
    have hlc := h.lc
    have hcm := h.cm
    have hl := h.hl
    unfold maxLen at hcm
    have HMC := Lib.hid h.cm
    have HW0 := Lib.hid (wTok_below w)
    have HC0 := Lib.hid (wTok_tc w)
    have H := Lib.hid h
    have HT := Lib.hid ht
    clear h ht
    obtain ⟨n, hn⟩ : ∃ n, n = runL 5 l := ⟨_, rfl⟩
    rw [← hn] at hrn hrp hkd
    have hnc : n ≤ cap := by omega
    have HN := Lib.hid hn
    clear hn
    go_enter Tryd.func58, Tryd.ntmps58
    go_wp2_with fail
    refine (run_any _ _ _ l 5 _ (H.out.below HW0.out) (HT.out.keep HW0.out)).mono ?_
    rintro e w1 ⟨rfl, hb1⟩
    have HW1 : Hid (Below w.heap.size w w1) := Lib.hid (HW0.out.trans (hb1.mono HW0.out.size))
    have HC1 : Hid (TC w.heap.size w1) := Lib.hid (HC0.out.keep hb1)
    clear hb1
    rw [← HN.out]
    have kc := ((H.out.below HW1.out).take (k := n) (c' := cap) (by omega) (by omega) HMC.out).str (P := Tryd.prog) 22 9 5 Tryd.underlying22 Tryd.underlying5 Tryd.underlying9
    have kd : ((bstr (l.take n)).toList == [46]) = false := by
      rw [one_dot (fun x hx => H.out.rng x (List.take_subset _ _ hx))]
      exact hkd
    go_wp2_with fail
    refine (plain_any 2 _ _ _ (l.take n) _ ((H.out.below HW1.out).take (k := n) (by omega) hnc HMC.out)).mono ?_
    rintro e w2 ⟨rfl, hb2⟩
    have HW2 : Hid (Below w.heap.size w w2) := Lib.hid (HW1.out.trans (hb2.mono HW1.out.size))
    have HC2 : Hid (TC w.heap.size w2) := Lib.hid (HC1.out.keep hb2)
    clear hb2
    have q0 := HC2.out.q0
    have q1 := HC2.out.q1
    have q2 := HC2.out.q2
    have q3 := HC2.out.q3
    have q4 := HC2.out.q4
    have z0 := HC2.out.z 0
    have z1 := HC2.out.z 1
    have z2 := HC2.out.z 2
    have z3 := HC2.out.z 3
    have z4 := HC2.out.z 4
    have hlt := HC2.out.lt
    go_wp2
    exact bodyPost_ret (v := .agg #[.int .i64 2, .int .i64 0, .int .i64 (n : Nat), .string (bstr (l.take n)), .int .i64 0]) (by simp [results, Tryd.results58, go_sem, q0, q1, q2, q3, q4]) rfl ⟨by rw [symT, ← HN.out, HE.out]; rfl, set5_below HW2.out (Nat.le_refl _) _ _ _ _ _⟩

end Go.Proofs.YtecabgmkoknbgaaDoor
