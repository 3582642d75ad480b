/- LexAll's walk. -/
import Derived.Test.YtecabgmkoknbgaaDoorJh
import Derived.Test.YtecabgmkoknbgaaDoorJg
import Derived.Test.YtecabgmkoknbgaaDoorJs
import Derived.Test.YtecabgmkoknbgaaDoorJu
namespace Go.Proofs.YtecabgmkoknbgaaDoor
open Go.RowKit

def cutS (s : ByteArray) : ByteArray := if s.size ≤ 30 then s else s.extract 0 30
def cutT (t : TK) : TK := ⟨t.k, t.f, t.t, cutS t.s, t.e⟩
def shortL (L : List TK) : List TK := (L.take 40).map cutT

theorem sb_len (s : ByteArray) : (sb s).length = s.size := by
  unfold sb
  rw [List.length_map, ByteArray.toList_eq]
  rfl
theorem cutS_size (s : ByteArray) : (cutS s).size ≤ 30 := by
  unfold cutS
  split
  · assumption
  · rw [ByteArray.size_extract]; omega
theorem shortL_wsz (L : List TK) : wsz (shortL L) ≤ 400000 := by
  have h1 := wsz_le 30 (shortL L) (fun t ht => by
    obtain ⟨u, _, rfl⟩ := List.mem_map.1 ht
    rw [sb_len]; exact cutS_size u.s)
  have h2 : (shortL L).length ≤ 40 := by unfold shortL; rw [List.length_map, List.length_take]; omega
  exact Nat.le_trans h1 (Nat.le_trans (Nat.mul_le_mul_right _ h2) (by decide))

theorem short_snoc {L : List TK} {k : Nat} (h : k < L.length) : (L.take (k + 1)).map cutT = (L.take k).map cutT ++ [cutT (tat L k)] := by
  rw [tat_take h, List.map_append]; rfl

set_option maxRecDepth 100000 in
set_option maxHeartbeats 2000000 in
theorem short_any (a : Option Addr) (len cap : Nat) (L : List TK) (w : World) (h : Ts w a len cap L) (hz : ∀ t ∈ L, t.s.size ≤ maxLen) :
    Calls Tryd.prog 11 #[.slice a len cap] w fun e w' => ∃ a' c', e = .returned (.slice a' (shortL L).length c') ∧ Ts w' a' (shortL L).length c' (shortL L) ∧ Below w.heap.size w w' := by
  have H := Lib.hid h
  have HZ := Lib.hid hz
  have HL := Lib.hid h.hl
  have hcm := h.cm
  have hlc := h.lc
  unfold maxLen at hcm
  clear h hz
  go_enter Tryd.func11, Tryd.ntmps11
  go_wp2
  go_loopw [3, 4] (fun v i wr => ∃ a1 c1, ∃ k : Nat, v = .slice a1 k c1 ∧ i = .int .i64 k ∧ k ≤ len ∧ k ≤ 40 ∧ Hid (OwnT w.heap.size 34 wr a1 k c1 ((L.take k).map cutT)) ∧ Hid (Below w.heap.size w wr)) (fun _ i _ => len - (intOf i).toNat)
  case atStart => exact ⟨_, _, 0, rfl, rfl, by omega, by omega, Lib.hid (OwnT.emptyAt (heap_alloc_new w _) (Nat.le_refl _)), Lib.hid ((Below.refl _ _).alloc (Nat.le_refl _) _)⟩
  case round =>
    obtain ⟨a1, c1, k, rfl, rfl, hk, hk40, HO, HB⟩ := hrel
    by_cases hlt : k < len
    · by_cases hlt40 : k < 40
      · have hb := H.out.below HB.out
        obtain ⟨b, off, rfl, _, _⟩ := hb.at_ (by omega)
        obtain ⟨d0, d1, d2, d3, d4⟩ := hb.at5 hlt
        have hs := HZ.out (tat L k) (tat_mem (by rw [HL.out]; exact hlt))
        have hS := short_snoc (L := L) (k := k) (by rw [HL.out]; exact hlt)
        obtain ⟨T, hT⟩ : ∃ T, T = tat L k := ⟨_, rfl⟩
        rw [← hT] at d0 d1 d2 d3 d4 hs hS
        obtain ⟨K, F, T', S, E⟩ := T
        simp only at d0 d1 d2 d3 d4 hs
        unfold maxLen at hs
        have hd : decide ((k : Int) < 40) = true := decide_eq_true (by omega)
        have HS := Lib.hid hS
        clear hb hT hS
        by_cases h30 : S.size ≤ 30
        · have HC : Hid (cutT ⟨K, F, T', S, E⟩ = ⟨K, F, T', S, E⟩) := Lib.hid (by unfold cutT cutS; simp only; rw [if_pos h30])
          go_wp2_with (at_builtin; refine Hid.out ?_)
          refine Lib.hid ?_
          refine wpList_appT rfl (.tmp 29) (.tmp 31) rfl w.heap.size _ _ _ _ rfl ((HO.out.alloc _).alloc _) _ _ _ [⟨K, F, T', S, E⟩] rfl (Ts.one _ _ ⟨K, F, T', S, E⟩ (by simp [cellsT]) (by simp)) (by omega) (by have := HB.out.size; simp; omega) ?_
          intro a2 c2 w2 ho2 hg2 hb2
          have HO2 : Hid (OwnT w.heap.size 34 w2 a2 (k + 1) c2 ((L.take (k + 1)).map cutT)) := Lib.hid (by rw [HS.out, HC.out]; exact ho2)
          have HB2 : Hid (Below w.heap.size w w2) := Lib.hid ((((HB.out.alloc HB.out.size _).alloc (Nat.le_trans HB.out.size (by simp)) _)).trans hb2)
          clear ho2 hg2 hb2
          go_wp2
          go_roundw
          case rel => exact ⟨_, _, k + 1, rfl, by go_num, by omega, by omega, HO2, HB2⟩
          case measure => simp [intOf]; omega
        · have HC : Hid (cutT ⟨K, F, T', S, E⟩ = ⟨K, F, T', S.extract 0 30, E⟩) := Lib.hid (by unfold cutT cutS; simp only; rw [if_neg h30])
          go_wp2_with (at_builtin; refine Hid.out ?_)
          refine Lib.hid ?_
          refine wpList_appT rfl (.tmp 29) (.tmp 31) rfl w.heap.size _ _ _ _ rfl ((HO.out.alloc _).alloc _) _ _ _ [⟨K, F, T', S.extract 0 30, E⟩] rfl (Ts.one _ _ ⟨K, F, T', S.extract 0 30, E⟩ (by simp [cellsT]) (by simp)) (by omega) (by have := HB.out.size; simp; omega) ?_
          intro a2 c2 w2 ho2 hg2 hb2
          have HO2 : Hid (OwnT w.heap.size 34 w2 a2 (k + 1) c2 ((L.take (k + 1)).map cutT)) := Lib.hid (by rw [HS.out, HC.out]; exact ho2)
          have HB2 : Hid (Below w.heap.size w w2) := Lib.hid ((((HB.out.alloc HB.out.size _).alloc (Nat.le_trans HB.out.size (by simp)) _)).trans hb2)
          clear ho2 hg2 hb2
          go_wp2
          go_roundw
          case rel => exact ⟨_, _, k + 1, rfl, by go_num, by omega, by omega, HO2, HB2⟩
          case measure => simp [intOf]; omega
      · have hk4 : k = 40 := by omega
        subst hk4
        have HF : Hid ((L.take 40).map cutT = shortL L ∧ (shortL L).length = 40) := Lib.hid ⟨rfl, by unfold shortL; rw [List.length_map, List.length_take, HL.out]; omega⟩
        rw [HF.out.1] at HO
        go_wp2
        go_ret
        exact ⟨a1, c1, by rw [HF.out.2]; rfl, by rw [HF.out.2]; exact HO.out.ts, HB.out⟩
    · have hkl : k = len := by omega
      have HF : Hid ((L.take k).map cutT = shortL L ∧ (shortL L).length = k) := Lib.hid (by
        have h1 : L.take k = L.take 40 := by
          rw [List.take_of_length_le (by rw [HL.out]; omega), List.take_of_length_le (by rw [HL.out]; omega)]
        refine ⟨by unfold shortL; rw [h1], by unfold shortL; rw [List.length_map, List.length_take, HL.out]; omega⟩)
      rw [HF.out.1] at HO
      go_wp2
      go_ret
      exact ⟨a1, c1, by rw [HF.out.2]; rfl, by rw [HF.out.2]; exact HO.out.ts, HB.out⟩

set_option maxRecDepth 100000 in
set_option maxHeartbeats 2000000 in
theorem lexAll_any (a a' : Option Addr) (len cap len' cap' : Nat) (l : List Int) (L : List TK) (w : World) (h : Bs w a len cap l) (h' : Ts w a' len' cap' L) (hz : ∀ t ∈ L, t.s.size ≤ maxLen) (ht : Tab w) :
    Calls Tryd.prog 3 #[.slice a len cap, .slice a' len' cap'] w fun e w' => e = .returned (.bool true) ∧ Below w.heap.size w w' := by
  have hb := few_bs h
  have H := Lib.hid h
  have H' := Lib.hid h'
  have HT := Lib.hid ht
  have HZ := Lib.hid hz
  obtain ⟨B, hB⟩ : ∃ B, B = l.take 200 := ⟨_, rfl⟩
  obtain ⟨m, hm⟩ : ∃ m, m = min len 200 := ⟨_, rfl⟩
  rw [← hB, ← hm] at hb
  have hm1 : m ≤ 200 := by omega
  have HM := Lib.hid hm
  have HB := Lib.hid hb
  obtain ⟨M, hM⟩ : ∃ M, M = shortL L := ⟨_, rfl⟩
  obtain ⟨n, hn⟩ : ∃ n, n = M.length := ⟨_, rfl⟩
  have HMM := Lib.hid (And.intro hM hn)
  have HWZ : Hid (wsz M ≤ 400000) := Lib.hid (by rw [hM]; exact shortL_wsz L)
  obtain ⟨P, hP⟩ : ∃ P, P = jnT M := ⟨_, rfl⟩
  obtain ⟨p, hp⟩ : ∃ p, p = P.length := ⟨_, rfl⟩
  obtain ⟨E, hE⟩ : ∃ E, E = jnE M := ⟨_, rfl⟩
  have HPP := Lib.hid (And.intro hP (And.intro hp hE))
  obtain ⟨S, hS⟩ : ∃ S, S = toks B := ⟨_, rfl⟩
  obtain ⟨s, hs⟩ : ∃ s, s = S.length := ⟨_, rfl⟩
  have HSS := Lib.hid (And.intro hS hs)
  clear h h' ht hz hB hm hb hM hn hP hp hE hS hs
  go_enter Tryd.func3, Tryd.ntmps3
  go_wp2_with fail
  refine (shown_any _ HT.out).mono ?_
  rintro e w1 ⟨rfl, hb1⟩
  have HW1 := Lib.hid hb1
  clear hb1
  go_wp2_with fail
  refine (short_any _ _ _ L _ (H'.out.below HW1.out) HZ.out).mono ?_
  rw [← HMM.out.1, ← HMM.out.2]
  rintro e w2 ⟨a2, c2, rfl, ht2, hb2⟩
  have HT2 := Lib.hid ht2
  have HW2 : Hid (Below w.heap.size w w2) := Lib.hid (HW1.out.trans (hb2.mono HW1.out.size))
  clear ht2 hb2
  go_wp2_with fail
  refine (join_any _ _ _ M _ HT2.out (HT.out.keep HW2.out) HWZ.out).mono ?_
  rw [← HPP.out.1, ← HPP.out.2.1, ← HPP.out.2.2]
  rintro e w3 ⟨a3, c3, rfl, hx3, hb3⟩
  have HX3 := Lib.hid hx3
  have HW3 : Hid (Below w.heap.size w w3) := Lib.hid (HW2.out.trans (hb3.mono HW2.out.size))
  clear hx3 hb3
  go_wp2_with fail
  refine (short_any _ _ _ L _ (H'.out.below HW3.out) HZ.out).mono ?_
  rw [← HMM.out.1, ← HMM.out.2]
  rintro e w4 ⟨a4, c4, rfl, ht4, hb4⟩
  have HT4 := Lib.hid ht4
  have HX4 := Lib.hid (HX3.out.below hb4)
  have HW4 : Hid (Below w.heap.size w w4) := Lib.hid (HW3.out.trans (hb4.mono HW3.out.size))
  clear ht4 hb4
  go_wp2_with fail
  refine (rjoin_any _ _ _ M _ HT4.out HWZ.out).mono ?_
  rw [← HPP.out.1, ← HPP.out.2.1, ← HPP.out.2.2]
  rintro e w5 ⟨a5, c5, rfl, hx5, hb5⟩
  have HY5 := Lib.hid hx5
  have HX5 := Lib.hid (HX4.out.below hb5)
  have HW5 : Hid (Below w.heap.size w w5) := Lib.hid (HW4.out.trans (hb5.mono HW4.out.size))
  clear hx5 hb5
  go_wp2_with fail
  refine (few_any _ _ _ _ _ (H.out.below HW5.out)).mono ?_
  rintro e w' ⟨rfl, rfl⟩
  rw [← HM.out]
  go_wp2_with fail
  refine (all_any _ _ _ B _ (HB.out.below HW5.out) (HT.out.keep HW5.out) (by omega)).mono ?_
  rw [← HSS.out.1, ← HSS.out.2]
  rintro e w6 ⟨a6, rfl, hr6, hb6⟩
  have HS6 := Lib.hid hr6.ts
  have HX6 := Lib.hid (HX5.out.below hb6)
  have HY6 := Lib.hid (HY5.out.below hb6)
  have HW6 : Hid (Below w.heap.size w w6) := Lib.hid (HW5.out.trans (hb6.mono HW5.out.size))
  clear hr6 hb6
  go_wp2_with fail
  refine (few_any _ _ _ _ _ (H.out.below HW6.out)).mono ?_
  rintro e w' ⟨rfl, rfl⟩
  rw [← HM.out]
  go_wp2_with fail
  refine (rall_any _ _ _ B _ (HB.out.below HW6.out) (by omega)).mono ?_
  rw [← HSS.out.1, ← HSS.out.2]
  rintro e w7 ⟨a7, c7, rfl, hr7, hb7⟩
  have HR7 := Lib.hid hr7
  have HS7 := Lib.hid (HS6.out.below hb7)
  have HX7 := Lib.hid (HX6.out.below hb7)
  have HY7 := Lib.hid (HY6.out.below hb7)
  have HW7 : Hid (Below w.heap.size w w7) := Lib.hid (HW6.out.trans (hb7.mono HW6.out.size))
  clear hr7 hb7
  go_wp2_with fail
  refine (same_any _ _ _ S _ _ _ HS7.out HR7.out).mono ?_
  rintro e w8 ⟨rfl, hb8⟩
  have HW8 : Hid (Below w.heap.size w w8) := Lib.hid (HW7.out.trans (hb8.mono HW7.out.size))
  have k1 := (HX7.out.below hb8).str (P := Tryd.prog) 22 9 5 Tryd.underlying22 Tryd.underlying5 Tryd.underlying9
  have k2 := (HY7.out.below hb8).str (P := Tryd.prog) 22 9 5 Tryd.underlying22 Tryd.underlying5 Tryd.underlying9
  clear hb8
  go_wp2
  go_ret
  exact ⟨rfl, HW8.out⟩

end Go.Proofs.YtecabgmkoknbgaaDoor
