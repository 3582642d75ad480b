/- Contract of the document's Next (layer 6). -/
import Derived.Test.YtecabgmkoknbgaaDoorTf
namespace Go.Proofs.YtecabgmkoknbgaaDoor
open Go.RowKit

theorem rnext_out (a : Option Addr) (len cap : Nat) (k : Int) (w : World) (hm : len ≤ 1000000) (hk : k < 0 ∨ (len : Int) < k) :
    Calls Tryd.prog 26 #[.slice a len cap, .int .i64 k] w fun r w' => r = .returned (nxV none) ∧ Below w.heap.size w w' := by
  have HW0 := Lib.hid (wTok_below w)
  go_enter Tryd.func26, Tryd.ntmps26
  rcases hk with hk | hk
  · have h1 : decide (k < 0) = true := by simpa using hk
    go_wp2
    exact bodyPost_ret (v := .tuple #[.agg #[.int .i64 0, .int .i64 0, .int .i64 0, .string ⟨#[]⟩, .int .i64 0], .bool false]) (by simp [results, Tryd.results26, go_sem]) rfl ⟨rfl, HW0.out⟩
  · have h1 : decide (k < 0) = false := decide_eq_false (by omega)
    have h2 : decide ((len : Int) < k) = true := by simpa using hk
    go_wp2
    exact bodyPost_ret (v := .tuple #[.agg #[.int .i64 0, .int .i64 0, .int .i64 0, .string ⟨#[]⟩, .int .i64 0], .bool false]) (by simp [results, Tryd.results26, go_sem]) rfl ⟨rfl, HW0.out⟩

set_option maxHeartbeats 1000000 in
theorem rnext_any (a : Option Addr) (len cap : Nat) (l : List Int) (k : Nat) (w : World) (h : Bs w a len cap l) (hsz : len ≤ 1000000) (hk : k ≤ len) :
    Calls Tryd.prog 26 #[.slice a len cap, .int .i64 k] w fun r w' => r = .returned (nxV (nx l k)) ∧ Below w.heap.size w w' := by
  have hlc := h.lc
  have hcm := h.cm
  have hl := h.hl
  unfold maxLen at hcm
  have HMC := Lib.hid h.cm
  obtain ⟨n, z, hs, hn, hz⟩ := sk_ways l k (by omega)
  rw [hl] at hn hz
  have HW0 := Lib.hid (wTok_below w)
  have HC0 := Lib.hid (wTok_tc w)
  have H := Lib.hid h
  have HS := Lib.hid hs
  have hA : decide ((k : Int) < 0) = false := decide_eq_false (by omega)
  have hB : decide ((len : Int) < k) = false := decide_eq_false (by omega)
  by_cases h0 : 0 < len
  · obtain ⟨b, off, rfl, _, _⟩ := h.at_ h0
    by_cases hkl : k < len
    · by_cases hze : z = 0
      · subst hze
        by_cases he : k + n < len
        · have HX : Hid (nx l k = some (k + n, firstT (l.drop (k + n)))) := Lib.hid (nx_some hs (by omega))
          have HG := Lib.hid (firstT_good (l := l.drop (k + n)) (by rw [List.length_drop]; omega) (fun x hx => h.rng x (List.drop_subset _ _ hx)))
          have hg1 := HG.out.nl
          rw [List.length_drop, hl] at hg1
          obtain ⟨t, hte⟩ : ∃ t, t = firstT (l.drop (k + n)) := ⟨_, rfl⟩
          have HTE := Lib.hid hte
          rw [← hte] at HX hg1
          have hne : ((k : Int) + n == len) = false := by simp only [beq_eq_false_iff_ne]; omega
          clear h hs hte hl hz
          go_enter Tryd.func26, Tryd.ntmps26
          go_wp2_with fail
          refine (rskip_any _ _ _ (l.drop k) _ ((H.out.below HW0.out).drop (k := k) (by omega)) (by omega)).mono ?_
          rw [HS.out]
          rintro e w1 ⟨rfl, rfl⟩
          go_wp2_with fail
          refine (rfirst_any _ _ _ (l.drop (k + n)) _ ((H.out.below HW0.out).drop (k := k + n) (by omega)) (by omega) (by omega)).mono ?_
          rw [← HTE.out]
          unfold tkv
          rintro e w2 ⟨rfl, hb2⟩
          have HW2 : Hid (Below w.heap.size w w2) := Lib.hid (HW0.out.trans (hb2.mono HW0.out.size))
          have HC2 : Hid (TC w.heap.size w2) := Lib.hid (HC0.out.keep hb2)
          clear hb2
          have q0 := HC2.out.q0
          have q1 := HC2.out.q1
          have q2 := HC2.out.q2
          have q3 := HC2.out.q3
          have q4 := HC2.out.q4
          have z0 := HC2.out.z 0
          have z1 := HC2.out.z 1
          have z2 := HC2.out.z 2
          have z3 := HC2.out.z 3
          have z4 := HC2.out.z 4
          have hlt := HC2.out.lt
          go_wp2
          exact bodyPost_ret (v := .tuple #[.agg #[.int .i64 t.k, .int .i64 (k + n : Nat), .int .i64 (k + n + t.n : Nat), .string (bstr t.t), .int .i64 t.e], .bool true]) (by simp [results, Tryd.results26, go_sem, q0, q1, q2, q3, q4, hlt] <;> omega) rfl ⟨by rw [HX.out]; exact ret_tok rfl rfl (by omega) rfl rfl, (set5_below HW2.out (Nat.le_refl _) _ _ _ _ _).alloc (set5_below HW2.out (Nat.le_refl _) _ _ _ _ _).size _⟩
        · have HX : Hid (nx l k = none) := Lib.hid (nx_none hs (by omega))
          have hee : k + n = len := by omega
          have hne : ((k : Int) + n == len) = true := by simp only [beq_iff_eq]; omega
          clear h hs hl hz he hee
          go_enter Tryd.func26, Tryd.ntmps26
          go_wp2_with fail
          refine (rskip_any _ _ _ (l.drop k) _ ((H.out.below HW0.out).drop (k := k) (by omega)) (by omega)).mono ?_
          rw [HS.out]
          rintro e w1 ⟨rfl, rfl⟩
          go_wp2
          exact bodyPost_ret (v := .tuple #[.agg #[.int .i64 0, .int .i64 0, .int .i64 0, .string ⟨#[]⟩, .int .i64 0], .bool false]) (by simp [results, Tryd.results26, go_sem]) rfl ⟨by rw [HX.out]; rfl, HW0.out⟩
      · obtain ⟨hz1, hz2⟩ := hz hze
        have HX : Hid (nx l k = some (k + n, ⟨8, l.length - (k + n), [], z⟩)) := Lib.hid (nx_err hs hze)
        rw [hl] at HX
        have hzb : (z != 0) = true := by simpa using hze
        clear h hs hl hz hze hz2
        go_enter Tryd.func26, Tryd.ntmps26
        go_wp2_with fail
        refine (rskip_any _ _ _ (l.drop k) _ ((H.out.below HW0.out).drop (k := k) (by omega)) (by omega)).mono ?_
        rw [HS.out]
        rintro e w1 ⟨rfl, rfl⟩
        go_wp2
        exact bodyPost_ret (v := .tuple #[.agg #[.int .i64 8, .int .i64 (k + n : Nat), .int .i64 (len : Nat), .string ⟨#[]⟩, .int .i64 z], .bool true]) (by simp [results, Tryd.results26, go_sem] <;> omega) rfl ⟨by rw [HX.out]; exact ret_tok rfl rfl (by simp; omega) rfl rfl, (Below.refl _ _).alloc (Nat.le_refl _) _⟩
    · have hkk : k = len := by omega
      subst hkk
      have HDN : Hid (l.drop k = []) := Lib.hid (List.drop_eq_nil_iff.2 (by omega))
      have hnz : n = 0 ∧ z = 0 := by
        rw [HDN.out, sk_nil] at hs
        injection hs with h1 h2
        exact ⟨h1.symm, h2.symm⟩
      obtain ⟨rfl, rfl⟩ := hnz
      have HX : Hid (nx l k = none) := Lib.hid (nx_none hs (by omega))
      by_cases hcap : k < cap
      · clear h hs hl hz
        go_enter Tryd.func26, Tryd.ntmps26
        go_wp2_with fail
        refine (rskip_any _ _ _ (l.drop k) _ (HDN.out ▸ Bs.nil _ (some ⟨b, off + k, none⟩) (cap - k) (by unfold maxLen; omega)) (by omega)).mono ?_
        rw [HS.out]
        rintro e w1 ⟨rfl, rfl⟩
        go_wp2
        exact bodyPost_ret (v := .tuple #[.agg #[.int .i64 0, .int .i64 0, .int .i64 0, .string ⟨#[]⟩, .int .i64 0], .bool false]) (by simp [results, Tryd.results26, go_sem]) rfl ⟨by rw [HX.out]; rfl, HW0.out⟩
      · have hcc : cap ≤ k := by omega
        clear h hs hl hz hcap
        go_enter Tryd.func26, Tryd.ntmps26
        go_wp2_with fail
        refine (rskip_any _ _ _ (l.drop k) _ (HDN.out ▸ Bs.nil _ (some ⟨b, off, none⟩) 0 (by decide)) (by omega)).mono ?_
        rw [HS.out]
        rintro e w1 ⟨rfl, rfl⟩
        go_wp2
        exact bodyPost_ret (v := .tuple #[.agg #[.int .i64 0, .int .i64 0, .int .i64 0, .string ⟨#[]⟩, .int .i64 0], .bool false]) (by simp [results, Tryd.results26, go_sem]) rfl ⟨by rw [HX.out]; rfl, HW0.out⟩
  · have hlen : len = 0 := by omega
    subst hlen
    obtain rfl : k = 0 := by omega
    have HDN : Hid (l.drop 0 = []) := Lib.hid (by rw [List.drop_zero]; exact List.eq_nil_of_length_eq_zero hl)
    have hnz : n = 0 ∧ z = 0 := by
      rw [HDN.out, sk_nil] at hs
      injection hs with h1 h2
      exact ⟨h1.symm, h2.symm⟩
    obtain ⟨rfl, rfl⟩ := hnz
    have HX : Hid (nx l 0 = none) := Lib.hid (nx_none hs (by omega))
    clear h hs hl hz
    go_enter Tryd.func26, Tryd.ntmps26
    go_wp2_with fail
    refine (rskip_any _ _ _ (l.drop 0) _ (HDN.out ▸ Bs.nil _ a cap HMC.out) (by omega)).mono ?_
    rw [HS.out]
    rintro e w1 ⟨rfl, rfl⟩
    go_wp2
    exact bodyPost_ret (v := .tuple #[.agg #[.int .i64 0, .int .i64 0, .int .i64 0, .string ⟨#[]⟩, .int .i64 0], .bool false]) (by simp [results, Tryd.results26, go_sem]) rfl ⟨by rw [HX.out]; rfl, HW0.out⟩

theorem rnext_int (a : Option Addr) (len cap : Nat) (l : List Int) (k : Int) (w : World) (h : Bs w a len cap l) (hsz : len ≤ 1000000) :
    Calls Tryd.prog 26 #[.slice a len cap, .int .i64 k] w fun r w' => r = .returned (nxV (nxI l k)) ∧ Below w.heap.size w w' := by
  unfold nxI
  rw [h.hl]
  by_cases hk : 0 ≤ k ∧ k ≤ (len : Int)
  · rw [if_pos hk]
    obtain ⟨n, rfl⟩ := Int.eq_ofNat_of_zero_le hk.1
    exact rnext_any a len cap l n w h hsz (by omega)
  · rw [if_neg hk]
    exact rnext_out a len cap k w hsz (by omega)

end Go.Proofs.YtecabgmkoknbgaaDoor
