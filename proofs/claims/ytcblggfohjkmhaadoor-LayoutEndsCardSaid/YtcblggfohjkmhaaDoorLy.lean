/- LayoutEnds' walk. -/
import Derived.Test.YtcblggfohjkmhaaDoorLe
namespace Go.Proofs.YtcblggfohjkmhaaDoor
open Go.RowKit

theorem cls1 : ∀ n : Nat, n < 256 → (cls n = 1 ↔ (n = 9 ∨ n = 10 ∨ n = 13 ∨ n = 32)) := by decide +kernel
theorem cls1' {c : Int} (h0 : 0 ≤ c) (h1 : c ≤ 255) : cls c = 1 ↔ (c = 9 ∨ c = 10 ∨ c = 13 ∨ c = 32) := by
  have := cls1 c.toNat (by omega)
  rw [Int.toNat_of_nonneg h0] at this
  rw [this]; omega

theorem two_long {s : List Int} (h : ∀ x ∈ s, 0 ≤ x ∧ x ≤ 255) (hl : 2 ≤ s.length) : ((bstr (s.take 2)).toList == [47, 42]) = pre2 47 42 s := by
  have hb := bstr_two (l := s.take 2) (fun x hx => h x (List.take_subset _ _ hx)) (by rw [List.length_take]; omega) 47 42
  rw [hb, bt_take _ _ _ (by omega), bt_take _ _ _ (by omega), pre2, decide_eq_true hl, Bool.true_and]
  rfl
theorem two_short {s : List Int} (hl : s.length < 2) : ((bstr s).toList == [47, 42]) = false := by
  rw [bstr_toList]
  match s, hl with
  | [], _ => rfl
  | [x], _ => simp

theorem Bs.past0 {w : World} {a : Option Addr} {len cap k : Nat} {l : List Int} (h : Bs w a len cap l) (hk : len ≤ k) (a' : Option Addr) (c' : Nat) (hc : c' ≤ maxLen) : Bs w a' 0 c' (l.drop k) := h.past hk a' c' hc

set_option maxRecDepth 100000 in
set_option maxHeartbeats 2000000 in
theorem layoutEnds_any (a : Option Addr) (len cap : Nat) (l : List Int) (w : World) (h : Bs w a len cap l) (ht : Tab w) :
    Calls Tryd.prog 4 #[.slice a len cap] w fun e w' => e = .returned (.bool true) ∧ Below w.heap.size w w' := by
  have hb := few_bs h
  have HT := Lib.hid ht
  have H := Lib.hid h
  obtain ⟨L, hL⟩ : ∃ L, L = l.take 150 := ⟨_, rfl⟩
  rw [← hL] at hb
  obtain ⟨m0, hm0⟩ : ∃ m0, m0 = min len 150 := ⟨_, rfl⟩
  have hm1 : m0 ≤ 150 := by omega
  have HM := Lib.hid hm0
  rw [← hm0] at hb
  have hlc := hb.lc
  have hcm := hb.cm
  unfold maxLen at hcm
  have HLL := Lib.hid hb.hl
  have HC := Lib.hid hb.cm
  obtain ⟨E1, E2, E3⟩ := sk_ends L
  obtain ⟨n, hn⟩ : ∃ n, n = (sk L).1 := ⟨_, rfl⟩
  obtain ⟨z, hz⟩ : ∃ z, z = (sk L).2 := ⟨_, rfl⟩
  rw [← hn, hb.hl] at E1
  rw [← hn, ← hz] at E2 E3
  rw [hb.hl] at E3
  have HS : Hid (sk L = (n, z)) := Lib.hid (by rw [hn, hz])
  have HE2 := Lib.hid E2
  clear hn hz E2
  have HB := Lib.hid hb
  clear h ht hL hm0
  by_cases h0 : 0 < m0
  · obtain ⟨b, off, rfl, _, _⟩ := hb.at_ h0
    clear hb
    rcases E3 with ⟨rfl, p⟩ | ⟨rfl, hnm | ⟨hlt, c1, c37, p⟩⟩
    · have hk2 : n + 2 ≤ m0 := by have := (pre2_head p).1; have := HLL.out; omega
      have HP := Lib.hid p
      clear p
      go_enter Tryd.func4, Tryd.ntmps4
      go_wp2_with fail
      refine (shown_any _ HT.out).mono ?_
      rintro e w1 ⟨rfl, hb1⟩
      have HW1 := Lib.hid hb1
      clear hb1
      go_wp2_with fail
      refine (few_any _ _ _ _ _ (H.out.below HW1.out)).mono ?_
      rintro e w' ⟨rfl, rfl⟩
      rw [← HM.out]
      go_wp2_with fail
      refine (lskip_any _ _ _ _ _ (HB.out.below HW1.out) (HT.out.keep HW1.out) (by omega)).mono ?_
      rintro e w2 ⟨rfl, hb2⟩
      have HW2 : Hid (Below w.heap.size w w2) := Lib.hid (HW1.out.trans (hb2.mono HW1.out.size))
      clear hb2
      rw [HS.out]
      have HD := Lib.hid ((HB.out.below HW2.out).drop E1)
      go_wp2_with fail
      refine (lskip_any _ _ _ _ _ HD.out (HT.out.keep HW2.out) (by omega)).mono ?_
      rintro e w3 ⟨rfl, hb3⟩
      have HW3 : Hid (Below w.heap.size w w3) := Lib.hid (HW2.out.trans (hb3.mono HW2.out.size))
      have hd3 := HD.out.below hb3
      clear hb3
      rw [HE2.out]
      have k1 := (hd3.take (k := 2) (c' := cap - n) (by omega) (by omega) hd3.cm).str (P := Tryd.prog) 22 9 5 Tryd.underlying22 Tryd.underlying5 Tryd.underlying9
      have k2 : ((bstr ((L.drop n).take 2)).toList == [47, 42]) = true := by rw [two_long hd3.rng (by rw [hd3.hl]; omega)]; exact HP.out
      clear hd3
      go_wp2
      go_ret
      exact ⟨rfl, HW3.out⟩
    · have hge : m0 ≤ n := by omega
      clear hnm
      by_cases hcap : n < cap
      · skip
        go_enter Tryd.func4, Tryd.ntmps4
        go_wp2_with fail
        refine (shown_any _ HT.out).mono ?_
        rintro e w1 ⟨rfl, hb1⟩
        have HW1 := Lib.hid hb1
        clear hb1
        go_wp2_with fail
        refine (few_any _ _ _ _ _ (H.out.below HW1.out)).mono ?_
        rintro e w' ⟨rfl, rfl⟩
        rw [← HM.out]
        go_wp2_with fail
        refine (lskip_any _ _ _ _ _ (HB.out.below HW1.out) (HT.out.keep HW1.out) (by omega)).mono ?_
        rintro e w2 ⟨rfl, hb2⟩
        have HW2 : Hid (Below w.heap.size w w2) := Lib.hid (HW1.out.trans (hb2.mono HW1.out.size))
        clear hb2
        rw [HS.out]
        have HD := Lib.hid (Bs.past0 (HB.out.below HW2.out) hge (some ⟨b, off + n, none⟩) (cap - n) (by unfold maxLen; omega))
        go_wp2_with fail
        refine (lskip_any _ _ _ _ _ HD.out (HT.out.keep HW2.out) (by omega)).mono ?_
        rintro e w3 ⟨rfl, hb3⟩
        have HW3 : Hid (Below w.heap.size w w3) := Lib.hid (HW2.out.trans (hb3.mono HW2.out.size))
        have hd3 := HD.out.below hb3
        clear hb3
        rw [HE2.out]
        have k1 := (Bs.nil w3 (some ⟨b, off + n, none⟩) (cap - n) hd3.cm).str (P := Tryd.prog) 22 9 5 Tryd.underlying22 Tryd.underlying5 Tryd.underlying9
        clear hd3
        go_wp2
        go_ret
        exact ⟨rfl, HW3.out⟩
      · have hcap1 : cap ≤ n := by omega
        go_enter Tryd.func4, Tryd.ntmps4
        go_wp2_with fail
        refine (shown_any _ HT.out).mono ?_
        rintro e w1 ⟨rfl, hb1⟩
        have HW1 := Lib.hid hb1
        clear hb1
        go_wp2_with fail
        refine (few_any _ _ _ _ _ (H.out.below HW1.out)).mono ?_
        rintro e w' ⟨rfl, rfl⟩
        rw [← HM.out]
        go_wp2_with fail
        refine (lskip_any _ _ _ _ _ (HB.out.below HW1.out) (HT.out.keep HW1.out) (by omega)).mono ?_
        rintro e w2 ⟨rfl, hb2⟩
        have HW2 : Hid (Below w.heap.size w w2) := Lib.hid (HW1.out.trans (hb2.mono HW1.out.size))
        clear hb2
        rw [HS.out]
        have HD := Lib.hid (Bs.past0 (HB.out.below HW2.out) hge (some ⟨b, off, none⟩) 0 (by decide))
        go_wp2_with fail
        refine (lskip_any _ _ _ _ _ HD.out (HT.out.keep HW2.out) (by omega)).mono ?_
        rintro e w3 ⟨rfl, hb3⟩
        have HW3 : Hid (Below w.heap.size w w3) := Lib.hid (HW2.out.trans (hb3.mono HW2.out.size))
        have hd3 := HD.out.below hb3
        clear hb3
        rw [HE2.out]
        have k1 := (Bs.nil w3 (some ⟨b, off, none⟩) 0 (by decide)).str (P := Tryd.prog) 22 9 5 Tryd.underlying22 Tryd.underlying5 Tryd.underlying9
        clear hd3
        go_wp2
        go_ret
        exact ⟨rfl, HW3.out⟩
    · have HP := Lib.hid p
      obtain ⟨r0, r1⟩ := bt_rng HB.out.rng n
      rw [Ne, cls1' r0 r1] at c1
      have e37 : (bt L n != 37) = true := by simpa using c37
      have e32 : (bt L n != 32) = true := by simp; omega
      have e9 : (bt L n != 9) = true := by simp; omega
      have e10 : (bt L n != 10) = true := by simp; omega
      have e13 : (bt L n != 13) = true := by simp; omega
      clear p c1 c37 r0 r1
      by_cases hk2 : n + 2 ≤ m0
      · skip
        go_enter Tryd.func4, Tryd.ntmps4
        go_wp2_with fail
        refine (shown_any _ HT.out).mono ?_
        rintro e w1 ⟨rfl, hb1⟩
        have HW1 := Lib.hid hb1
        clear hb1
        go_wp2_with fail
        refine (few_any _ _ _ _ _ (H.out.below HW1.out)).mono ?_
        rintro e w' ⟨rfl, rfl⟩
        rw [← HM.out]
        go_wp2_with fail
        refine (lskip_any _ _ _ _ _ (HB.out.below HW1.out) (HT.out.keep HW1.out) (by omega)).mono ?_
        rintro e w2 ⟨rfl, hb2⟩
        have HW2 : Hid (Below w.heap.size w w2) := Lib.hid (HW1.out.trans (hb2.mono HW1.out.size))
        clear hb2
        rw [HS.out]
        have HD := Lib.hid ((HB.out.below HW2.out).drop E1)
        go_wp2_with fail
        refine (lskip_any _ _ _ _ _ HD.out (HT.out.keep HW2.out) (by omega)).mono ?_
        rintro e w3 ⟨rfl, hb3⟩
        have HW3 : Hid (Below w.heap.size w w3) := Lib.hid (HW2.out.trans (hb3.mono HW2.out.size))
        have hd3 := HD.out.below hb3
        clear hb3
        rw [HE2.out]
        have hck := ((HB.out.below HW3.out).at_ h0)
        obtain ⟨b', off', hab, _, hcc⟩ := hck
        simp only [Option.some.injEq, Addr.mk.injEq] at hab
        obtain ⟨rfl, rfl, _⟩ := hab
        have hck := hcc n hlt
        clear hcc
        have k1 := (hd3.take (k := 2) (c' := cap - n) (by omega) (by omega) hd3.cm).str (P := Tryd.prog) 22 9 5 Tryd.underlying22 Tryd.underlying5 Tryd.underlying9
        have k2 : ((bstr ((L.drop n).take 2)).toList == [47, 42]) = false := by rw [two_long hd3.rng (by rw [hd3.hl]; omega)]; exact HP.out
        have k3 : ((bstr ((L.drop n).take 2)).toList != [47, 42]) = true := by rw [bne, k2]; rfl
        clear hd3
        go_wp2
        go_ret
        exact ⟨rfl, HW3.out⟩
      · have hk3 : m0 < n + 2 := by omega
        go_enter Tryd.func4, Tryd.ntmps4
        go_wp2_with fail
        refine (shown_any _ HT.out).mono ?_
        rintro e w1 ⟨rfl, hb1⟩
        have HW1 := Lib.hid hb1
        clear hb1
        go_wp2_with fail
        refine (few_any _ _ _ _ _ (H.out.below HW1.out)).mono ?_
        rintro e w' ⟨rfl, rfl⟩
        rw [← HM.out]
        go_wp2_with fail
        refine (lskip_any _ _ _ _ _ (HB.out.below HW1.out) (HT.out.keep HW1.out) (by omega)).mono ?_
        rintro e w2 ⟨rfl, hb2⟩
        have HW2 : Hid (Below w.heap.size w w2) := Lib.hid (HW1.out.trans (hb2.mono HW1.out.size))
        clear hb2
        rw [HS.out]
        have HD := Lib.hid ((HB.out.below HW2.out).drop E1)
        go_wp2_with fail
        refine (lskip_any _ _ _ _ _ HD.out (HT.out.keep HW2.out) (by omega)).mono ?_
        rintro e w3 ⟨rfl, hb3⟩
        have HW3 : Hid (Below w.heap.size w w3) := Lib.hid (HW2.out.trans (hb3.mono HW2.out.size))
        have hd3 := HD.out.below hb3
        clear hb3
        rw [HE2.out]
        have hck := ((HB.out.below HW3.out).at_ h0)
        obtain ⟨b', off', hab, _, hcc⟩ := hck
        simp only [Option.some.injEq, Addr.mk.injEq] at hab
        obtain ⟨rfl, rfl, _⟩ := hab
        have hck := hcc n hlt
        clear hcc
        have k1 := hd3.str (P := Tryd.prog) 22 9 5 Tryd.underlying22 Tryd.underlying5 Tryd.underlying9
        have k2 : ((bstr (L.drop n)).toList == [47, 42]) = false := two_short (by rw [hd3.hl]; omega)
        have k3 : ((bstr (L.drop n)).toList != [47, 42]) = true := by rw [bne, k2]; rfl
        clear hd3
        go_wp2
        go_ret
        exact ⟨rfl, HW3.out⟩
  · have hz0 : m0 = 0 := by omega
    subst hz0
    have hLn : L = [] := List.eq_nil_of_length_eq_zero hb.hl
    subst hLn
    clear hb
    go_enter Tryd.func4, Tryd.ntmps4
    go_wp2_with fail
    refine (shown_any _ HT.out).mono ?_
    rintro e w1 ⟨rfl, hb1⟩
    have HW1 := Lib.hid hb1
    clear hb1
    go_wp2_with fail
    refine (few_any _ _ _ _ _ (H.out.below HW1.out)).mono ?_
    rintro e w' ⟨rfl, rfl⟩
    rw [← HM.out]
    go_wp2_with fail
    refine (lskip_any _ _ _ [] _ (Bs.nil _ _ _ HC.out) (HT.out.keep HW1.out) (by omega)).mono ?_
    rintro e w2 ⟨rfl, hb2⟩
    have HW2 : Hid (Below w.heap.size w w2) := Lib.hid (HW1.out.trans (hb2.mono HW1.out.size))
    clear hb2
    rw [sk_nil]
    go_wp2_with fail
    refine (lskip_any _ _ _ [] _ (Bs.nil _ _ _ HC.out) (HT.out.keep HW2.out) (by omega)).mono ?_
    rintro e w3 ⟨rfl, hb3⟩
    have HW3 : Hid (Below w.heap.size w w3) := Lib.hid (HW2.out.trans (hb3.mono HW2.out.size))
    clear hb3
    rw [sk_nil]
    have k1 := (Bs.nil w3 a cap HC.out).str (P := Tryd.prog) 22 9 5 Tryd.underlying22 Tryd.underlying5 Tryd.underlying9
    go_wp2
    go_ret
    exact ⟨rfl, HW3.out⟩

end Go.Proofs.YtcblggfohjkmhaaDoor
