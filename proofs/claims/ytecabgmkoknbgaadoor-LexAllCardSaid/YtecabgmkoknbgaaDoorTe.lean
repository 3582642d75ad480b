/- Contract of package token's Next. -/
import Derived.Test.YtecabgmkoknbgaaDoorTd
import Derived.Test.YtecabgmkoknbgaaDoorTn
import Derived.Test.YtecabgmkoknbgaaDoorLs
namespace Go.Proofs.YtecabgmkoknbgaaDoor
open Go.RowKit

/-- A token and whether there is one, as values. -/
def nxV : Option (Nat × TR) → Value
  | none => .tuple #[.agg #[.int .i64 0, .int .i64 0, .int .i64 0, .string ⟨#[]⟩, .int .i64 0], .bool false]
  | some (f, t) => .tuple #[.agg #[.int .i64 t.k, .int .i64 f, .int .i64 (f + t.n : Nat), .string (bstr t.t), .int .i64 t.e], .bool true]

/-- The first token behind any place: none, where there is no such place. -/
def nxI (l : List Int) (k : Int) : Option (Nat × TR) := if 0 ≤ k ∧ k ≤ l.length then nx l k.toNat else none

theorem ret_tok {k f t e k' f' t' e' : Int} {s s' : ByteArray} (h1 : k = k') (h2 : f = f') (h3 : t = t') (h4 : s = s') (h5 : e = e') :
    Ending.returned (.tuple #[.agg #[.int .i64 k, .int .i64 f, .int .i64 t, .string s, .int .i64 e], .bool true]) = .returned (.tuple #[.agg #[.int .i64 k', .int .i64 f', .int .i64 t', .string s', .int .i64 e'], .bool true]) := by
  rw [h1, h2, h3, h4, h5]

theorem moved0_any (k c : Int) (t n : Nat) (s : ByteArray) (w : World) (hn : n ≤ 2000000000) (ht : t ≤ 2000000000) :
    Calls Tryd.prog 30 #[.agg #[.int .i64 k, .int .i64 0, .int .i64 t, .string s, .int .i64 c], .int .i64 n] w fun r w' => r = .returned (.agg #[.int .i64 k, .int .i64 n, .int .i64 (t + n : Nat), .string s, .int .i64 c]) ∧ Below w.heap.size w w' := by
  have := moved_any k c 0 t n s w (by omega) (by omega)
  rw [Nat.zero_add] at this
  exact this

theorem next_out (a : Option Addr) (len cap : Nat) (k : Int) (w : World) (hm : len ≤ 1000000) (hk : k < 0 ∨ (len : Int) < k) :
    Calls Tryd.prog 24 #[.slice a len cap, .int .i64 k] w fun r w' => r = .returned (nxV none) ∧ Below w.heap.size w w' := by
  have HW0 := Lib.hid (wTok_below w)
  go_enter Tryd.func24, Tryd.ntmps24
  rcases hk with hk | hk
  · have h1 : decide (k < 0) = true := by simpa using hk
    go_wp2
    exact bodyPost_ret (v := .tuple #[.agg #[.int .i64 0, .int .i64 0, .int .i64 0, .string ⟨#[]⟩, .int .i64 0], .bool false]) (by simp [results, Tryd.results24, go_sem]) rfl ⟨rfl, HW0.out⟩
  · have h1 : decide (k < 0) = false := decide_eq_false (by omega)
    have h2 : decide ((len : Int) < k) = true := by simpa using hk
    go_wp2
    exact bodyPost_ret (v := .tuple #[.agg #[.int .i64 0, .int .i64 0, .int .i64 0, .string ⟨#[]⟩, .int .i64 0], .bool false]) (by simp [results, Tryd.results24, go_sem]) rfl ⟨rfl, HW0.out⟩

set_option maxHeartbeats 1000000 in
theorem next_any (a : Option Addr) (len cap : Nat) (l : List Int) (k : Nat) (w : World) (h : Bs w a len cap l) (ht : Tab w) (hsz : len ≤ 1000000) (hk : k ≤ len) :
    Calls Tryd.prog 24 #[.slice a len cap, .int .i64 k] w fun r w' => r = .returned (nxV (nx l k)) ∧ Below w.heap.size w w' := by
  have hlc := h.lc
  have hcm := h.cm
  have hl := h.hl
  unfold maxLen at hcm
  have HMC := Lib.hid h.cm
  obtain ⟨n, z, hs, hn, hz⟩ := sk_ways l k (by omega)
  rw [hl] at hn hz
  have HW0 := Lib.hid (wTok_below w)
  have HC0 := Lib.hid (wTok_tc w)
  have H := Lib.hid h
  have HT := Lib.hid ht
  have HS := Lib.hid hs
  have hA : decide ((k : Int) < 0) = false := decide_eq_false (by omega)
  have hB : decide ((len : Int) < k) = false := decide_eq_false (by omega)
  by_cases h0 : 0 < len
  · obtain ⟨b, off, rfl, _, _⟩ := h.at_ h0
    by_cases hkl : k < len
    · by_cases hze : z = 0
      · subst hze
        by_cases he : k + n < len
        · have HX : Hid (nx l k = some (k + n, firstT (l.drop (k + n)))) := Lib.hid (nx_some hs (by omega))
          have HG := Lib.hid (firstT_good (l := l.drop (k + n)) (by rw [List.length_drop]; omega) (fun x hx => h.rng x (List.drop_subset _ _ hx)))
          have hg1 := HG.out.nl
          rw [List.length_drop, hl] at hg1
          obtain ⟨t, hte⟩ : ∃ t, t = firstT (l.drop (k + n)) := ⟨_, rfl⟩
          have HTE := Lib.hid hte
          rw [← hte] at HX hg1
          clear h ht hs hte hl hz
          go_enter Tryd.func24, Tryd.ntmps24
          go_wp2_with fail
          refine (lskip_any _ _ _ (l.drop k) _ ((H.out.below HW0.out).drop (k := k) (by omega)) (HT.out.keep HW0.out) (by omega)).mono ?_
          rw [HS.out]
          rintro e w1 ⟨rfl, hb1⟩
          have HW1 : Hid (Below w.heap.size w w1) := Lib.hid (HW0.out.trans (hb1.mono HW0.out.size))
          have HC1 : Hid (TC w.heap.size w1) := Lib.hid (HC0.out.keep hb1)
          clear hb1
          go_wp2_with fail
          refine (first_any _ _ _ (l.drop (k + n)) _ ((H.out.below HW1.out).drop (k := k + n) (by omega)) (HT.out.keep HW1.out) (by omega) (by omega)).mono ?_
          rw [← HTE.out]
          unfold tkv
          rintro e w2 ⟨rfl, hb2⟩
          have HW2 : Hid (Below w.heap.size w w2) := Lib.hid (HW1.out.trans (hb2.mono HW1.out.size))
          have HC2 : Hid (TC w.heap.size w2) := Lib.hid (HC1.out.keep hb2)
          clear hb2
          go_wp2_with fail
          refine (moved0_any _ _ t.n (k + n) _ _ (by omega) (by omega)).mono ?_
          rintro e w3 ⟨rfl, hb3⟩
          have HW3 : Hid (Below w.heap.size w w3) := Lib.hid (HW2.out.trans (hb3.mono HW2.out.size))
          have HC3 : Hid (TC w.heap.size w3) := Lib.hid (HC2.out.keep hb3)
          clear hb3
          have q0 := HC3.out.q0
          have q1 := HC3.out.q1
          have q2 := HC3.out.q2
          have q3 := HC3.out.q3
          have q4 := HC3.out.q4
          have z0 := HC3.out.z 0
          have z1 := HC3.out.z 1
          have z2 := HC3.out.z 2
          have z3 := HC3.out.z 3
          have z4 := HC3.out.z 4
          have hlt := HC3.out.lt
          go_wp2
          exact bodyPost_ret (v := .tuple #[.agg #[.int .i64 t.k, .int .i64 (k + n : Nat), .int .i64 (t.n + (k + n) : Nat), .string (bstr t.t), .int .i64 t.e], .bool true]) (by simp [results, Tryd.results24, go_sem, q0, q1, q2, q3, q4] <;> omega) rfl ⟨by rw [HX.out]; exact ret_tok rfl rfl (by omega) rfl rfl, set5_below HW3.out (Nat.le_refl _) _ _ _ _ _⟩
        · have HX : Hid (nx l k = none) := Lib.hid (nx_none hs (by omega))
          have hee : k + n = len := by omega
          by_cases hcap : k + n < cap
          · clear h ht hs hl hz he
            go_enter Tryd.func24, Tryd.ntmps24
            go_wp2_with fail
            refine (lskip_any _ _ _ (l.drop k) _ ((H.out.below HW0.out).drop (k := k) (by omega)) (HT.out.keep HW0.out) (by omega)).mono ?_
            rw [HS.out]
            rintro e w1 ⟨rfl, hb1⟩
            have HW1 : Hid (Below w.heap.size w w1) := Lib.hid (HW0.out.trans (hb1.mono HW0.out.size))
            have HC1 : Hid (TC w.heap.size w1) := Lib.hid (HC0.out.keep hb1)
            clear hb1
            have q0 := HC1.out.q0
            have q1 := HC1.out.q1
            have q2 := HC1.out.q2
            have q3 := HC1.out.q3
            have q4 := HC1.out.q4
            have z0 := HC1.out.z 0
            have z1 := HC1.out.z 1
            have z2 := HC1.out.z 2
            have z3 := HC1.out.z 3
            have z4 := HC1.out.z 4
            have hlt := HC1.out.lt
            go_wp2
            exact bodyPost_ret (v := .tuple #[.agg #[.int .i64 0, .int .i64 0, .int .i64 0, .string ⟨#[]⟩, .int .i64 0], .bool false]) (by simp [results, Tryd.results24, go_sem, q0, q1, q2, q3, q4]) rfl ⟨by rw [HX.out]; rfl, set5_below HW1.out (Nat.le_refl _) _ _ _ _ _⟩
          · have hcc : cap ≤ k + n := by omega
            clear h ht hs hl hz he hcap
            go_enter Tryd.func24, Tryd.ntmps24
            go_wp2_with fail
            refine (lskip_any _ _ _ (l.drop k) _ ((H.out.below HW0.out).drop (k := k) (by omega)) (HT.out.keep HW0.out) (by omega)).mono ?_
            rw [HS.out]
            rintro e w1 ⟨rfl, hb1⟩
            have HW1 : Hid (Below w.heap.size w w1) := Lib.hid (HW0.out.trans (hb1.mono HW0.out.size))
            have HC1 : Hid (TC w.heap.size w1) := Lib.hid (HC0.out.keep hb1)
            clear hb1
            have q0 := HC1.out.q0
            have q1 := HC1.out.q1
            have q2 := HC1.out.q2
            have q3 := HC1.out.q3
            have q4 := HC1.out.q4
            have z0 := HC1.out.z 0
            have z1 := HC1.out.z 1
            have z2 := HC1.out.z 2
            have z3 := HC1.out.z 3
            have z4 := HC1.out.z 4
            have hlt := HC1.out.lt
            go_wp2
            exact bodyPost_ret (v := .tuple #[.agg #[.int .i64 0, .int .i64 0, .int .i64 0, .string ⟨#[]⟩, .int .i64 0], .bool false]) (by simp [results, Tryd.results24, go_sem, q0, q1, q2, q3, q4]) rfl ⟨by rw [HX.out]; rfl, set5_below HW1.out (Nat.le_refl _) _ _ _ _ _⟩
      · obtain ⟨hz1, hz2⟩ := hz hze
        have HX : Hid (nx l k = some (k + n, ⟨8, l.length - (k + n), [], z⟩)) := Lib.hid (nx_err hs hze)
        rw [hl] at HX
        have hzb : (z != 0) = true := by simpa using hze
        clear h ht hs hl hz hze hz2
        go_enter Tryd.func24, Tryd.ntmps24
        go_wp2_with fail
        refine (lskip_any _ _ _ (l.drop k) _ ((H.out.below HW0.out).drop (k := k) (by omega)) (HT.out.keep HW0.out) (by omega)).mono ?_
        rw [HS.out]
        rintro e w1 ⟨rfl, hb1⟩
        have HW1 : Hid (Below w.heap.size w w1) := Lib.hid (HW0.out.trans (hb1.mono HW0.out.size))
        have HC1 : Hid (TC w.heap.size w1) := Lib.hid (HC0.out.keep hb1)
        clear hb1
        go_wp2_with fail
        refine (bad_any _ _ _).mono ?_
        rintro e w2 ⟨rfl, hb2⟩
        have HW2 : Hid (Below w.heap.size w w2) := Lib.hid (HW1.out.trans (hb2.mono HW1.out.size))
        have HC2 : Hid (TC w.heap.size w2) := Lib.hid (HC1.out.keep hb2)
        clear hb2
        go_wp2_with fail
        refine (moved0_any _ _ (len - (k + n)) (k + n) _ _ (by omega) (by omega)).mono ?_
        rintro e w3 ⟨rfl, hb3⟩
        have HW3 : Hid (Below w.heap.size w w3) := Lib.hid (HW2.out.trans (hb3.mono HW2.out.size))
        have HC3 : Hid (TC w.heap.size w3) := Lib.hid (HC2.out.keep hb3)
        clear hb3
        have q0 := HC3.out.q0
        have q1 := HC3.out.q1
        have q2 := HC3.out.q2
        have q3 := HC3.out.q3
        have q4 := HC3.out.q4
        have z0 := HC3.out.z 0
        have z1 := HC3.out.z 1
        have z2 := HC3.out.z 2
        have z3 := HC3.out.z 3
        have z4 := HC3.out.z 4
        have hlt := HC3.out.lt
        go_wp2
        exact bodyPost_ret (v := .tuple #[.agg #[.int .i64 8, .int .i64 (k + n : Nat), .int .i64 (len - (k + n) + (k + n) : Nat), .string ⟨#[]⟩, .int .i64 z], .bool true]) (by simp [results, Tryd.results24, go_sem, q0, q1, q2, q3, q4] <;> omega) rfl ⟨by rw [HX.out]; exact ret_tok rfl rfl (by simp; omega) rfl rfl, set5_below HW3.out (Nat.le_refl _) _ _ _ _ _⟩
    · have hkk : k = len := by omega
      subst hkk
      have HDN : Hid (l.drop k = []) := Lib.hid (List.drop_eq_nil_iff.2 (by omega))
      have hnz : n = 0 ∧ z = 0 := by
        rw [HDN.out, sk_nil] at hs
        injection hs with h1 h2
        exact ⟨h1.symm, h2.symm⟩
      obtain ⟨rfl, rfl⟩ := hnz
      have HX : Hid (nx l k = none) := Lib.hid (nx_none hs (by omega))
      by_cases hcap : k < cap
      · clear h ht hs hl hz
        go_enter Tryd.func24, Tryd.ntmps24
        go_wp2_with fail
        refine (lskip_any _ _ _ (l.drop k) _ (HDN.out ▸ Bs.nil _ (some ⟨b, off + k, none⟩) (cap - k) (by unfold maxLen; omega)) (HT.out.keep HW0.out) (by omega)).mono ?_
        rw [HS.out]
        rintro e w1 ⟨rfl, hb1⟩
        have HW1 : Hid (Below w.heap.size w w1) := Lib.hid (HW0.out.trans (hb1.mono HW0.out.size))
        have HC1 : Hid (TC w.heap.size w1) := Lib.hid (HC0.out.keep hb1)
        clear hb1
        have q0 := HC1.out.q0
        have q1 := HC1.out.q1
        have q2 := HC1.out.q2
        have q3 := HC1.out.q3
        have q4 := HC1.out.q4
        have z0 := HC1.out.z 0
        have z1 := HC1.out.z 1
        have z2 := HC1.out.z 2
        have z3 := HC1.out.z 3
        have z4 := HC1.out.z 4
        have hlt := HC1.out.lt
        go_wp2
        exact bodyPost_ret (v := .tuple #[.agg #[.int .i64 0, .int .i64 0, .int .i64 0, .string ⟨#[]⟩, .int .i64 0], .bool false]) (by simp [results, Tryd.results24, go_sem, q0, q1, q2, q3, q4]) rfl ⟨by rw [HX.out]; rfl, set5_below HW1.out (Nat.le_refl _) _ _ _ _ _⟩
      · have hcc : cap ≤ k := by omega
        clear h ht hs hl hz hcap
        go_enter Tryd.func24, Tryd.ntmps24
        go_wp2_with fail
        refine (lskip_any _ _ _ (l.drop k) _ (HDN.out ▸ Bs.nil _ (some ⟨b, off, none⟩) 0 (by decide)) (HT.out.keep HW0.out) (by omega)).mono ?_
        rw [HS.out]
        rintro e w1 ⟨rfl, hb1⟩
        have HW1 : Hid (Below w.heap.size w w1) := Lib.hid (HW0.out.trans (hb1.mono HW0.out.size))
        have HC1 : Hid (TC w.heap.size w1) := Lib.hid (HC0.out.keep hb1)
        clear hb1
        have q0 := HC1.out.q0
        have q1 := HC1.out.q1
        have q2 := HC1.out.q2
        have q3 := HC1.out.q3
        have q4 := HC1.out.q4
        have z0 := HC1.out.z 0
        have z1 := HC1.out.z 1
        have z2 := HC1.out.z 2
        have z3 := HC1.out.z 3
        have z4 := HC1.out.z 4
        have hlt := HC1.out.lt
        go_wp2
        exact bodyPost_ret (v := .tuple #[.agg #[.int .i64 0, .int .i64 0, .int .i64 0, .string ⟨#[]⟩, .int .i64 0], .bool false]) (by simp [results, Tryd.results24, go_sem, q0, q1, q2, q3, q4]) rfl ⟨by rw [HX.out]; rfl, set5_below HW1.out (Nat.le_refl _) _ _ _ _ _⟩
  · have hlen : len = 0 := by omega
    subst hlen
    obtain rfl : k = 0 := by omega
    have HDN : Hid (l.drop 0 = []) := Lib.hid (by rw [List.drop_zero]; exact List.eq_nil_of_length_eq_zero hl)
    have hnz : n = 0 ∧ z = 0 := by
      rw [HDN.out, sk_nil] at hs
      injection hs with h1 h2
      exact ⟨h1.symm, h2.symm⟩
    obtain ⟨rfl, rfl⟩ := hnz
    have HX : Hid (nx l 0 = none) := Lib.hid (nx_none hs (by omega))
    clear h ht hs hl hz
    go_enter Tryd.func24, Tryd.ntmps24
    go_wp2_with fail
    refine (lskip_any _ _ _ (l.drop 0) _ (HDN.out ▸ Bs.nil _ a cap HMC.out) (HT.out.keep HW0.out) (by omega)).mono ?_
    rw [HS.out]
    rintro e w1 ⟨rfl, hb1⟩
    have HW1 : Hid (Below w.heap.size w w1) := Lib.hid (HW0.out.trans (hb1.mono HW0.out.size))
    have HC1 : Hid (TC w.heap.size w1) := Lib.hid (HC0.out.keep hb1)
    clear hb1
    have q0 := HC1.out.q0
    have q1 := HC1.out.q1
    have q2 := HC1.out.q2
    have q3 := HC1.out.q3
    have q4 := HC1.out.q4
    have z0 := HC1.out.z 0
    have z1 := HC1.out.z 1
    have z2 := HC1.out.z 2
    have z3 := HC1.out.z 3
    have z4 := HC1.out.z 4
    have hlt := HC1.out.lt
    go_wp2
    exact bodyPost_ret (v := .tuple #[.agg #[.int .i64 0, .int .i64 0, .int .i64 0, .string ⟨#[]⟩, .int .i64 0], .bool false]) (by simp [results, Tryd.results24, go_sem, q0, q1, q2, q3, q4]) rfl ⟨by rw [HX.out]; rfl, set5_below HW1.out (Nat.le_refl _) _ _ _ _ _⟩

end Go.Proofs.YtecabgmkoknbgaaDoor
