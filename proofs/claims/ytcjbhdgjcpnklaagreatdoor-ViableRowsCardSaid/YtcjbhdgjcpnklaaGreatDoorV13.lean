import Derived.StillTailTactics
import Derived.Test.YtcjbhdgjcpnklaaGreatDoorV22
import Derived.Test.YtcjbhdgjcpnklaaGreatDoorV09
import Derived.Test.YtcjbhdgjcpnklaaGreatDoorV10
import Derived.Test.YtcjbhdgjcpnklaaGreatDoorV11
import Derived.Test.YtcjbhdgjcpnklaaGreatDoorV12
namespace Go.Proofs.YtcjbhdgjcpnklaaGreatDoor
section
open Go.RowKit
theorem zOL {p : Nm} {k : Nat} (h : k < p.length) (h0 : (95 : UInt8) ∉ p.take k) (h1 : (ub p k == 95) = false) : (95 : UInt8) ∉ p.take (k + 1) := by
 rw [List.take_add_one]
 intro hm
 rcases List.mem_append.1 hm with hm | hm
 ·exact h0 hm
 ·have : p[k]? = some p[k] := List.getElem?_eq_getElem h
  rw [this] at hm
  simp only [Option.toList_some, List.mem_singleton] at hm
  have hu : ub p k = 95 := by unfold ub; rw [show p.getD k 0 = p[k] by simp [List.getD, h], ← hm]; rfl
  rw [hu] at h1
  exact absurd h1 (by decide)
theorem zOM {p : Nm} {k : Nat} (h : k < p.length) (h1 : (ub p k == 95) = true) : p.contains 95 = true := by
 have hu := eq_of_beq h1
 unfold ub at hu
 rw [show p.getD k 0 = p[k] by simp [List.getD, h]] at hu
 have : p[k] = 95 := by
  apply UInt8.toNat_inj.1
  have : ((95 : UInt8).toNat : Int) = 95 := rfl
  omega
 rw [List.contains_iff_mem, ← this]
 exact List.getElem_mem h
theorem zKE {k : Int} (h : (k == 1) = true ∨ (k == 2) = true ∨ (k == 6) = true) : kdB k = true := by
 unfold kdB; rcases h with h | h | h <;> rw [h] <;> simp
theorem zQM {k : Int} (h1 : (k == 1) = false) (h2 : (k == 2) = false) (h6 : (k == 6) = false) : kdB k = false := by
 unfold kdB; rw [h1, h2, h6]; rfl
theorem zAt {p : Nm} (h : (p == [40]) = true ∨ (p == [41]) = true ∨ (p == [44]) = true ∨ (p == [46]) = true ∨ (p == [58, 45]) = true) : bar p = true := by
 unfold bar; rcases h with h | h | h | h | h <;> rw [h] <;> simp
set_option maxRecDepth 100000 in
set_option maxHeartbeats 8000000 in
theorem zD0 (p : Nm) (w : World) (hsz : p.length ≤ 100000) :
  Calls Tryz.prog 172 #[.string (mk p)] w fun e w' => e = .returned (.bool (!p.contains 95 && stB p)) ∧ Below w.heap.size w w' := by
 have hms := mk_size p
 obtain ⟨m, hm⟩ : ∃ m, m = p.length := ⟨_, rfl⟩
 rw [← hm] at hms
 have HM := hid hm
 have hm1 : m ≤ 100000 := by omega
 clear hm hsz
 go_enter Tryz.func172, Tryz.ntmps172
 go_wp2
 go_loopw [2, 3] (fun v2 v wr => ∃ k : Nat, v = .int .i64 k ∧ k ≤ m ∧ Hid ((95 : UInt8) ∉ p.take k) ∧ w = wr) (fun _ v _ => m - (intOf v).toNat)
 case atStart => exact ⟨0, rfl, by omega, hid (by simp), rfl⟩
 case round =>
  obtain ⟨k, rfl, hk, HK, rfl⟩ := hrel
  have hk0 : (0 : Int) ≤ (k : Int) := Int.natCast_nonneg _
  by_cases hlt : k < m
  ·have hk1 : (k : Int) < (m : Int) := by omega
   have hix := zH2 w p k (by have := HM.out; omega)
   obtain ⟨u, hu⟩ : ∃ u, u = ub p k := ⟨_, rfl⟩
   rw [← hu] at hix
   have HU := hid hu
   clear hu
   cases hc : u == 95 with
   | true =>
    have HF : Hid (p.contains 95 = true) := hid (zOM (k := k) (by have := HM.out; omega) (by rw [← HU.out]; exact hc))
    go_wp2
    go_ret
    exact ⟨by rw [HF.out]; rfl, Below.refl _ _⟩
   | false =>
    have HK1 : Hid ((95 : UInt8) ∉ p.take (k + 1)) := hid (zOL (by have := HM.out; omega) HK.out (by rw [← HU.out]; exact hc))
    go_wp2
    go_roundw
    case rel => exact ⟨k + 1, by go_num, by omega, HK1, trivial⟩
    case measure => simp [intOf]; omega
  ·have HC : Hid ((!p.contains 95 && stB p) = stB p) := hid (by
    have h1 := HK.out
    rw [List.take_of_length_le (by have := HM.out; omega)] at h1
    rw [show p.contains 95 = false by simpa using h1]
    rfl)
   clear HK
   obtain ⟨l, hl⟩ : ∃ l, l = sb (mk p) := ⟨_, rfl⟩
   have hll : l.length = m := by rw [hl, HM.out, sb, mk_toList, List.length_map]
   have hrl : ∀ x ∈ l, 0 ≤ x ∧ x ≤ 255 := by rw [hl]; exact zNR _
   obtain ⟨g, C, W1, hrun, hbs, hbel⟩ := zHr w (mk p) l (by rw [hl, zJx]) hrl (by omega)
   rw [hll] at hrun hbs
   have HBS := hid hbs
   have HW1 := hid hbel
   have HL0 : Hid (l = nb p) := hid (by rw [hl, sb, mk_toList]; rfl)
   clear hbs hbel hl hll hrl
   go_wp2_with fail
   refine (zL4 _ m C l _ HBS.out (by omega)).mono ?_
   rintro e w2 ⟨a', c', rfl, hts, hb2⟩
   have HW2 : Hid (Below w.heap.size w w2) := hid (HW1.out.trans (hb2.mono HW1.out.size))
   obtain ⟨L, hL⟩ : ∃ L, L = toks l := ⟨_, rfl⟩
   rw [← hL] at hts ⊢
   have HL : Hid (L = toks (nb p)) := hid (by rw [hL, HL0.out])
   have hlc := hts.lc
   clear hrun hb2 hL
   by_cases h0 : L.length = 1
   ·obtain ⟨t, rfl⟩ : ∃ t, L = [t] := by
     match L, h0 with
     | [t], _ => exact ⟨t, rfl⟩
    have HE : Hid (oneB p = (t.s.toList == p && kdB t.k)) := hid (zJ9 HL.out.symm)
    obtain ⟨d, o, rfl, _, hx⟩ := hts.at_ (by simp)
    clear hx
    obtain ⟨c0, c1, c2, c3, c4⟩ := hts.at5 (k := 0) (by simp)
    simp only [tat, List.getD_cons_zero, Nat.zero_mul, Nat.add_zero] at c0 c1 c2 c3 c4
    obtain ⟨k', f, u, s, e⟩ := t
    simp only at c0 c1 c2 c3 c4 HE
    clear hts h0
    have hmp := mk_toList p
    cases hq : s.toList == p with
    | true =>
     have hqn : (s.toList != (mk p).toList) = false := by rw [hmp]; simpa using hq
     have HE1 : Hid (oneB p = kdB k') := hid (by rw [HE.out, hq, Bool.true_and])
     cases hk1 : k' == 1 with
     | true =>
      have HKD : Hid (kdB k' = true) := hid (zKE (.inl hk1))
      cases hc40 : p == [40] with
      | true =>
       have hn40 : ((mk p).toList != [40]) = false := by rw [hmp]; simpa using hc40
       have HF : Hid (stB p = false) := hid (zAd (zAt (.inl hc40)))
       go_wp2
       go_ret
       exact ⟨by rw [HC.out, HF.out]; rfl, HW2.out⟩
      | false =>
      have hn40 : ((mk p).toList != [40]) = true := by rw [hmp]; simpa using hc40
      cases hc41 : p == [41] with
      | true =>
       have hn41 : ((mk p).toList != [41]) = false := by rw [hmp]; simpa using hc41
       have HF : Hid (stB p = false) := hid (zAd (zAt (.inr (.inl hc41))))
       go_wp2
       go_ret
       exact ⟨by rw [HC.out, HF.out]; rfl, HW2.out⟩
      | false =>
      have hn41 : ((mk p).toList != [41]) = true := by rw [hmp]; simpa using hc41
      cases hc44 : p == [44] with
      | true =>
       have hn44 : ((mk p).toList != [44]) = false := by rw [hmp]; simpa using hc44
       have HF : Hid (stB p = false) := hid (zAd (zAt (.inr (.inr (.inl hc44)))))
       go_wp2
       go_ret
       exact ⟨by rw [HC.out, HF.out]; rfl, HW2.out⟩
      | false =>
      have hn44 : ((mk p).toList != [44]) = true := by rw [hmp]; simpa using hc44
      cases hc46 : p == [46] with
      | true =>
       have hn46 : ((mk p).toList != [46]) = false := by rw [hmp]; simpa using hc46
       have HF : Hid (stB p = false) := hid (zAd (zAt (.inr (.inr (.inr (.inl hc46))))))
       go_wp2
       go_ret
       exact ⟨by rw [HC.out, HF.out]; rfl, HW2.out⟩
      | false =>
      have hn46 : ((mk p).toList != [46]) = true := by rw [hmp]; simpa using hc46
      cases hc58 : p == [58, 45] with
      | true =>
       have hn58 : ((mk p).toList != [58, 45]) = false := by rw [hmp]; simpa using hc58
       have HF : Hid (stB p = false) := hid (zAd (zAt (.inr (.inr (.inr (.inr (hc58)))))))
       go_wp2
       go_ret
       exact ⟨by rw [HC.out, HF.out]; rfl, HW2.out⟩
      | false =>
      have hn58 : ((mk p).toList != [58, 45]) = true := by rw [hmp]; simpa using hc58
      have HF : Hid (stB p = true) := hid (by rw [zH0 (zH1 hc40 hc41 hc44 hc46 hc58), HE1.out]; exact HKD.out)
      go_wp2
      go_ret
      exact ⟨by rw [HC.out, HF.out]; rfl, HW2.out⟩
     | false =>
     cases hk2 : k' == 2 with
     | true =>
      have HKD : Hid (kdB k' = true) := hid (zKE (.inr (.inl hk2)))
      cases hc40 : p == [40] with
      | true =>
       have hn40 : ((mk p).toList != [40]) = false := by rw [hmp]; simpa using hc40
       have HF : Hid (stB p = false) := hid (zAd (zAt (.inl hc40)))
       go_wp2
       go_ret
       exact ⟨by rw [HC.out, HF.out]; rfl, HW2.out⟩
      | false =>
      have hn40 : ((mk p).toList != [40]) = true := by rw [hmp]; simpa using hc40
      cases hc41 : p == [41] with
      | true =>
       have hn41 : ((mk p).toList != [41]) = false := by rw [hmp]; simpa using hc41
       have HF : Hid (stB p = false) := hid (zAd (zAt (.inr (.inl hc41))))
       go_wp2
       go_ret
       exact ⟨by rw [HC.out, HF.out]; rfl, HW2.out⟩
      | false =>
      have hn41 : ((mk p).toList != [41]) = true := by rw [hmp]; simpa using hc41
      cases hc44 : p == [44] with
      | true =>
       have hn44 : ((mk p).toList != [44]) = false := by rw [hmp]; simpa using hc44
       have HF : Hid (stB p = false) := hid (zAd (zAt (.inr (.inr (.inl hc44)))))
       go_wp2
       go_ret
       exact ⟨by rw [HC.out, HF.out]; rfl, HW2.out⟩
      | false =>
      have hn44 : ((mk p).toList != [44]) = true := by rw [hmp]; simpa using hc44
      cases hc46 : p == [46] with
      | true =>
       have hn46 : ((mk p).toList != [46]) = false := by rw [hmp]; simpa using hc46
       have HF : Hid (stB p = false) := hid (zAd (zAt (.inr (.inr (.inr (.inl hc46))))))
       go_wp2
       go_ret
       exact ⟨by rw [HC.out, HF.out]; rfl, HW2.out⟩
      | false =>
      have hn46 : ((mk p).toList != [46]) = true := by rw [hmp]; simpa using hc46
      cases hc58 : p == [58, 45] with
      | true =>
       have hn58 : ((mk p).toList != [58, 45]) = false := by rw [hmp]; simpa using hc58
       have HF : Hid (stB p = false) := hid (zAd (zAt (.inr (.inr (.inr (.inr (hc58)))))))
       go_wp2
       go_ret
       exact ⟨by rw [HC.out, HF.out]; rfl, HW2.out⟩
      | false =>
      have hn58 : ((mk p).toList != [58, 45]) = true := by rw [hmp]; simpa using hc58
      have HF : Hid (stB p = true) := hid (by rw [zH0 (zH1 hc40 hc41 hc44 hc46 hc58), HE1.out]; exact HKD.out)
      go_wp2
      go_ret
      exact ⟨by rw [HC.out, HF.out]; rfl, HW2.out⟩
     | false =>
     cases hk6 : k' == 6 with
     | true =>
      have HKD : Hid (kdB k' = true) := hid (zKE (.inr (.inr hk6)))
      cases hc40 : p == [40] with
      | true =>
       have hn40 : ((mk p).toList != [40]) = false := by rw [hmp]; simpa using hc40
       have HF : Hid (stB p = false) := hid (zAd (zAt (.inl hc40)))
       go_wp2
       go_ret
       exact ⟨by rw [HC.out, HF.out]; rfl, HW2.out⟩
      | false =>
      have hn40 : ((mk p).toList != [40]) = true := by rw [hmp]; simpa using hc40
      cases hc41 : p == [41] with
      | true =>
       have hn41 : ((mk p).toList != [41]) = false := by rw [hmp]; simpa using hc41
       have HF : Hid (stB p = false) := hid (zAd (zAt (.inr (.inl hc41))))
       go_wp2
       go_ret
       exact ⟨by rw [HC.out, HF.out]; rfl, HW2.out⟩
      | false =>
      have hn41 : ((mk p).toList != [41]) = true := by rw [hmp]; simpa using hc41
      cases hc44 : p == [44] with
      | true =>
       have hn44 : ((mk p).toList != [44]) = false := by rw [hmp]; simpa using hc44
       have HF : Hid (stB p = false) := hid (zAd (zAt (.inr (.inr (.inl hc44)))))
       go_wp2
       go_ret
       exact ⟨by rw [HC.out, HF.out]; rfl, HW2.out⟩
      | false =>
      have hn44 : ((mk p).toList != [44]) = true := by rw [hmp]; simpa using hc44
      cases hc46 : p == [46] with
      | true =>
       have hn46 : ((mk p).toList != [46]) = false := by rw [hmp]; simpa using hc46
       have HF : Hid (stB p = false) := hid (zAd (zAt (.inr (.inr (.inr (.inl hc46))))))
       go_wp2
       go_ret
       exact ⟨by rw [HC.out, HF.out]; rfl, HW2.out⟩
      | false =>
      have hn46 : ((mk p).toList != [46]) = true := by rw [hmp]; simpa using hc46
      cases hc58 : p == [58, 45] with
      | true =>
       have hn58 : ((mk p).toList != [58, 45]) = false := by rw [hmp]; simpa using hc58
       have HF : Hid (stB p = false) := hid (zAd (zAt (.inr (.inr (.inr (.inr (hc58)))))))
       go_wp2
       go_ret
       exact ⟨by rw [HC.out, HF.out]; rfl, HW2.out⟩
      | false =>
      have hn58 : ((mk p).toList != [58, 45]) = true := by rw [hmp]; simpa using hc58
      have HF : Hid (stB p = true) := hid (by rw [zH0 (zH1 hc40 hc41 hc44 hc46 hc58), HE1.out]; exact HKD.out)
      go_wp2
      go_ret
      exact ⟨by rw [HC.out, HF.out]; rfl, HW2.out⟩
     | false =>
      have HF : Hid (stB p = false) := hid (by unfold stB; rw [HE1.out, zQM hk1 hk2 hk6, Bool.and_false])
      go_wp2
      go_ret
      exact ⟨by rw [HC.out, HF.out]; rfl, HW2.out⟩
    | false =>
     have hqn : (s.toList != (mk p).toList) = true := by rw [hmp]; simpa using hq
     have HF : Hid (stB p = false) := hid (by unfold stB; rw [HE.out, hq, Bool.false_and, Bool.and_false])
     go_wp2
     go_ret
     exact ⟨by rw [HC.out, HF.out]; rfl, HW2.out⟩
   ·have HF : Hid (stB p = false) := hid (by unfold stB; rw [zGF (by rw [← HL.out]; exact h0), Bool.and_false])
    have h0' : ((L.length : Int) != 1) = true := by simp; omega
    go_wp2
    go_ret
    exact ⟨by rw [HC.out, HF.out]; rfl, HW2.out⟩
end
section
open Go.RowKit
def dB (p : Nm) : Bool := !p.contains 95 && stB p
theorem zH6 {P : List Nm} {l r : Bool} (h : P.length < 1 ∨ 4 < P.length) : shD ⟨P, l, r⟩ = false := by
 unfold shD
 rw [show decide (1 ≤ (⟨P, l, r⟩ : SH).P.length ∧ (⟨P, l, r⟩ : SH).P.length ≤ 4) = false by simp; omega]; rfl
theorem zMG {P : List Nm} (h : P.length = 1) : shD ⟨P, false, false⟩ = false := by
 unfold shD hlB; simp [h]
theorem zKF {P : List Nm} {l r : Bool} (h1 : 1 ≤ P.length) (h4 : P.length ≤ 4) (hh : P.length ≠ 1 ∨ l = true ∨ r = true) : shD ⟨P, l, r⟩ = (decide ((stx ⟨P, l, r⟩).length ≤ 40) && P.all dB) := by
 unfold shD hlB
 rw [show decide (1 ≤ (⟨P, l, r⟩ : SH).P.length ∧ (⟨P, l, r⟩ : SH).P.length ≤ 4) = true by simp; omega]
 have : (((⟨P, l, r⟩ : SH).P.length != 1) || ((⟨P, l, r⟩ : SH).l || (⟨P, l, r⟩ : SH).r)) = true := by
  rcases hh with h | rfl | rfl
  ·simp [h]
  ·simp
  ·simp
 rw [this, Bool.true_and, Bool.true_and]
 rfl
theorem zG8 {P : List Nm} {k : Nat} (h : k < P.length) : (P.drop k).all dB = (dB (pt P k) && (P.drop (k + 1)).all dB) := by
 rw [List.drop_eq_getElem_cons h, List.all_cons]
 unfold pt
 simp [List.getD, h]
set_option maxRecDepth 100000 in
set_option maxHeartbeats 8000000 in
theorem zCi (a : Option Addr) (n c : Nat) (P : List Nm) (l r : Bool) (w : World) (h : Ss w a n c P) (hsz : (stx ⟨P, l, r⟩).length ≤ 100000) :
  Calls Tryz.prog 145 #[.agg #[.slice a n c, .bool l, .bool r]] w fun e w' => e = .returned (.bool (shD ⟨P, l, r⟩)) ∧ Below w.heap.size w w' := by
 have hcm := h.cm
 have hlc := h.lc
 unfold maxLen at hcm
 have H := hid h
 have HP := hid (Ss.len h)
 have HZ : Hid (∀ p ∈ P, p.length ≤ 100000) := hid fun p hp => Nat.le_trans (zKD ⟨P, l, r⟩ p hp) hsz
 obtain ⟨B, hB⟩ : ∃ B, B = w.heap.size := ⟨_, rfl⟩
 obtain ⟨wA, hwA⟩ : ∃ wA, wA = w.alloc (.cells #[.slice a n c, .bool l, .bool r] 157) := ⟨_, rfl⟩
 have HA : Hid (Below B w wA) := hid (by rw [hwA, hB]; exact (Below.refl _ _).alloc (Nat.le_refl _) _)
 have hsA : wA.heap.size = B + 1 := by rw [hwA, hB]; simp
 have HC : Hid (∀ w', Below (B + 1) wA w' → w'.cell? ⟨B, 0, none⟩ = some (.slice a n c) ∧ w'.cell? ⟨B, 1, none⟩ = some (.bool l) ∧ w'.cell? ⟨B, 2, none⟩ = some (.bool r)) := hid fun w' hk => by
  have hb : wA.heap[B]? = some (.cells #[.slice a n c, .bool l, .bool r] 157 (0, 0)) := by rw [hwA, hB]; exact heap_alloc_new w _
  exact (three ((hk.block B (by omega)).trans hb)).1
 obtain ⟨m, hm⟩ : ∃ m, m = (stx ⟨P, l, r⟩).length := ⟨_, rfl⟩
 have HW : Hid (B = w.heap.size) := hid hB
 rw [← hB]
 clear h
 by_cases h1 : n < 1
 ·have HE : Hid (shD ⟨P, l, r⟩ = false) := hid (zH6 (by rw [HP.out]; exact .inl h1))
  go_enter Tryz.func145, Tryz.ntmps145
  go_wp2
  rw [← hwA]
  go_ret
  exact ⟨by rw [HE.out]; rfl, by rw [← hB]; exact HA.out⟩
 by_cases h4 : 4 < n
 ·have HE : Hid (shD ⟨P, l, r⟩ = false) := hid (zH6 (by rw [HP.out]; exact .inr h4))
  go_enter Tryz.func145, Tryz.ntmps145
  go_wp2
  rw [← hwA]
  go_ret
  exact ⟨by rw [HE.out]; rfl, by rw [← hB]; exact HA.out⟩
 have h1' : ¬ (n : Int) < 1 := by omega
 have h4' : ¬ (4 : Int) < (n : Int) := by omega
 by_cases hn : n = 1
 ·subst hn
  cases l with
  | true =>
   have HE : Hid (shD ⟨P, true, r⟩ = (decide (m ≤ 40) && P.all dB)) := hid (by rw [hm]; exact zKF (by rw [HP.out]; omega) (by rw [HP.out]; omega) (.inr (.inl rfl)))
   have HX : Hid (Calls Tryz.prog 146 #[.agg #[.slice a 1 c, .bool true, .bool r]] wA fun e w' => e = .returned (.string (mk (stx ⟨P, true, r⟩))) ∧ Below wA.heap.size wA w') := hid (zBC a 1 c P true r wA (Vs.below H.out (by rw [← hB]; exact HA.out)) hsz)
   have hms : (mk (stx ⟨P, true, r⟩)).size = m := by rw [mk_size, hm]
   obtain ⟨S, hS⟩ : ∃ S, S = mk (stx ⟨P, true, r⟩) := ⟨_, rfl⟩
   rw [← hS] at hms HX
   obtain ⟨j0, j1, j2⟩ := HC.out wA (Below.refl _ _)
   clear hm hsz hS
   go_enter Tryz.func145, Tryz.ntmps145
   go_wp2_with fail
   rw [← hwA, ← hB]
   refine HX.out.mono ?_
   rintro e w2 ⟨rfl, hb2⟩
   rw [hsA] at hb2
   have HB2 := hid hb2
   clear hb2 hwA hB
   obtain ⟨k0, k1, k2⟩ := HC.out w2 HB2.out
   clear j0 j1 j2
   by_cases hm40 : 40 < m
   ·have HF : Hid (shD ⟨P, true, r⟩ = false) := hid (by rw [HE.out, show decide (m ≤ 40) = false by simp; omega]; rfl)
    go_wp2
    go_ret
    exact ⟨by rw [HF.out]; rfl, HA.out.trans (HB2.out.mono (by omega))⟩
   ·have HF : Hid (shD ⟨P, true, r⟩ = P.all dB) := hid (by rw [HE.out, show decide (m ≤ 40) = true by simp; omega]; rfl)
    have hm40' : ¬ (40 : Int) < (m : Int) := by omega
    go_wp2
    go_loopw [2, 4] (fun v2 v wr => ∃ k : Nat, v = .int .i64 k ∧ k ≤ 1 ∧ Hid ((P.drop k).all dB = P.all dB) ∧ Hid (Below (B + 1) wA wr)) (fun _ v _ => 1 - (intOf v).toNat)
    case atStart => exact ⟨0, rfl, by omega, hid rfl, HB2⟩
    case round =>
     obtain ⟨k, rfl, hk, HD, HB⟩ := hrel
     obtain ⟨j0, j1, j2⟩ := HC.out wr HB.out
     have hk0 : (0 : Int) ≤ (k : Int) := Int.natCast_nonneg _
     by_cases hlt : k < 1
     ·have hk1 : (k : Int) < 1 := by omega
      have hSs := H.out.keep (w' := wr) (Nat.le_trans HA.out.size HB.out.size) (fun x hx => (HB.out.cell (by have := HW.out; omega)).trans (HA.out.cell (by rw [HW.out]; exact hx)))
      obtain ⟨d, o, rfl, _, hx⟩ := hSs.at_ (by omega)
      clear hx
      have hs := Ss.str hSs hlt
      have hst := zG8 (P := P) (k := k) (by rw [HP.out]; exact hlt)
      have hpm := zDO (P := P) (k := k) (by rw [HP.out]; exact hlt)
      obtain ⟨p, hp⟩ : ∃ p, p = pt P k := ⟨_, rfl⟩
      rw [← hp] at hs hst hpm
      have hpl := HZ.out p hpm
      have HST : Hid (P.all dB = (dB p && (P.drop (k + 1)).all dB)) := hid (by rw [← hst]; exact HD.out.symm)
      clear hSs hp hst hpm
      go_wp2_with fail
      refine (zD0 p _ hpl).mono ?_
      rintro e w4 ⟨rfl, hb4⟩
      rw [show (!p.contains 95 && stB p) = dB p from rfl]
      have HB4 : Hid (Below (B + 1) wA w4) := hid (HB.out.trans (hb4.mono (by have := HB.out.size; omega)))
      clear hb4 hs
      cases hq : dB p with
      | true =>
       have HA4 : Hid ((P.drop (k + 1)).all dB = P.all dB) := hid (by rw [HST.out, hq, Bool.true_and])
       go_wp2
       go_roundw
       case rel => exact ⟨k + 1, by go_num, by omega, HA4, HB4⟩
       case measure => simp [intOf]; omega
      | false =>
       have HG : Hid (P.all dB = false) := hid (by rw [HST.out, hq, Bool.false_and])
       go_wp2
       go_ret
       exact ⟨by rw [HF.out, HG.out]; rfl, HA.out.trans (HB4.out.mono (by omega))⟩
     ·have HG : Hid (P.all dB = true) := hid (by rw [← HD.out, List.drop_of_length_le (by rw [HP.out]; omega)]; rfl)
      go_wp2
      go_ret
      exact ⟨by rw [HF.out, HG.out]; rfl, HA.out.trans (HB.out.mono (by omega))⟩
  | false =>
   cases r with
   | true =>
    have HE : Hid (shD ⟨P, false, true⟩ = (decide (m ≤ 40) && P.all dB)) := hid (by rw [hm]; exact zKF (by rw [HP.out]; omega) (by rw [HP.out]; omega) (.inr (.inr rfl)))
    have HX : Hid (Calls Tryz.prog 146 #[.agg #[.slice a 1 c, .bool false, .bool true]] wA fun e w' => e = .returned (.string (mk (stx ⟨P, false, true⟩))) ∧ Below wA.heap.size wA w') := hid (zBC a 1 c P false true wA (Vs.below H.out (by rw [← hB]; exact HA.out)) hsz)
    have hms : (mk (stx ⟨P, false, true⟩)).size = m := by rw [mk_size, hm]
    obtain ⟨S, hS⟩ : ∃ S, S = mk (stx ⟨P, false, true⟩) := ⟨_, rfl⟩
    rw [← hS] at hms HX
    obtain ⟨j0, j1, j2⟩ := HC.out wA (Below.refl _ _)
    clear hm hsz hS
    go_enter Tryz.func145, Tryz.ntmps145
    go_wp2_with fail
    rw [← hwA, ← hB]
    refine HX.out.mono ?_
    rintro e w2 ⟨rfl, hb2⟩
    rw [hsA] at hb2
    have HB2 := hid hb2
    clear hb2 hwA hB
    obtain ⟨k0, k1, k2⟩ := HC.out w2 HB2.out
    clear j0 j1 j2
    by_cases hm40 : 40 < m
    ·have HF : Hid (shD ⟨P, false, true⟩ = false) := hid (by rw [HE.out, show decide (m ≤ 40) = false by simp; omega]; rfl)
     go_wp2
     go_ret
     exact ⟨by rw [HF.out]; rfl, HA.out.trans (HB2.out.mono (by omega))⟩
    ·have HF : Hid (shD ⟨P, false, true⟩ = P.all dB) := hid (by rw [HE.out, show decide (m ≤ 40) = true by simp; omega]; rfl)
     have hm40' : ¬ (40 : Int) < (m : Int) := by omega
     go_wp2
     go_loopw [2, 4] (fun v2 v wr => ∃ k : Nat, v = .int .i64 k ∧ k ≤ 1 ∧ Hid ((P.drop k).all dB = P.all dB) ∧ Hid (Below (B + 1) wA wr)) (fun _ v _ => 1 - (intOf v).toNat)
     case atStart => exact ⟨0, rfl, by omega, hid rfl, HB2⟩
     case round =>
      obtain ⟨k, rfl, hk, HD, HB⟩ := hrel
      obtain ⟨j0, j1, j2⟩ := HC.out wr HB.out
      have hk0 : (0 : Int) ≤ (k : Int) := Int.natCast_nonneg _
      by_cases hlt : k < 1
      ·have hk1 : (k : Int) < 1 := by omega
       have hSs := H.out.keep (w' := wr) (Nat.le_trans HA.out.size HB.out.size) (fun x hx => (HB.out.cell (by have := HW.out; omega)).trans (HA.out.cell (by rw [HW.out]; exact hx)))
       obtain ⟨d, o, rfl, _, hx⟩ := hSs.at_ (by omega)
       clear hx
       have hs := Ss.str hSs hlt
       have hst := zG8 (P := P) (k := k) (by rw [HP.out]; exact hlt)
       have hpm := zDO (P := P) (k := k) (by rw [HP.out]; exact hlt)
       obtain ⟨p, hp⟩ : ∃ p, p = pt P k := ⟨_, rfl⟩
       rw [← hp] at hs hst hpm
       have hpl := HZ.out p hpm
       have HST : Hid (P.all dB = (dB p && (P.drop (k + 1)).all dB)) := hid (by rw [← hst]; exact HD.out.symm)
       clear hSs hp hst hpm
       go_wp2_with fail
       refine (zD0 p _ hpl).mono ?_
       rintro e w4 ⟨rfl, hb4⟩
       rw [show (!p.contains 95 && stB p) = dB p from rfl]
       have HB4 : Hid (Below (B + 1) wA w4) := hid (HB.out.trans (hb4.mono (by have := HB.out.size; omega)))
       clear hb4 hs
       cases hq : dB p with
       | true =>
        have HA4 : Hid ((P.drop (k + 1)).all dB = P.all dB) := hid (by rw [HST.out, hq, Bool.true_and])
        go_wp2
        go_roundw
        case rel => exact ⟨k + 1, by go_num, by omega, HA4, HB4⟩
        case measure => simp [intOf]; omega
       | false =>
        have HG : Hid (P.all dB = false) := hid (by rw [HST.out, hq, Bool.false_and])
        go_wp2
        go_ret
        exact ⟨by rw [HF.out, HG.out]; rfl, HA.out.trans (HB4.out.mono (by omega))⟩
      ·have HG : Hid (P.all dB = true) := hid (by rw [← HD.out, List.drop_of_length_le (by rw [HP.out]; omega)]; rfl)
       go_wp2
       go_ret
       exact ⟨by rw [HF.out, HG.out]; rfl, HA.out.trans (HB.out.mono (by omega))⟩
   | false =>
    have HE : Hid (shD ⟨P, false, false⟩ = false) := hid (zMG HP.out)
    go_enter Tryz.func145, Tryz.ntmps145
    go_wp2
    rw [← hwA]
    go_ret
    exact ⟨by rw [HE.out]; rfl, by rw [← hB]; exact HA.out⟩
 ·have hn1 : ((n : Int) == 1) = false := by simp; omega
  have HE : Hid (shD ⟨P, l, r⟩ = (decide (m ≤ 40) && P.all dB)) := hid (by rw [hm]; exact zKF (by rw [HP.out]; omega) (by rw [HP.out]; omega) (.inl (by rw [HP.out]; exact hn)))
  have HX : Hid (Calls Tryz.prog 146 #[.agg #[.slice a n c, .bool l, .bool r]] wA fun e w' => e = .returned (.string (mk (stx ⟨P, l, r⟩))) ∧ Below wA.heap.size wA w') := hid (zBC a n c P l r wA (Vs.below H.out (by rw [← hB]; exact HA.out)) hsz)
  have hms : (mk (stx ⟨P, l, r⟩)).size = m := by rw [mk_size, hm]
  obtain ⟨S, hS⟩ : ∃ S, S = mk (stx ⟨P, l, r⟩) := ⟨_, rfl⟩
  rw [← hS] at hms HX
  obtain ⟨j0, j1, j2⟩ := HC.out wA (Below.refl _ _)
  clear hm hsz hS
  go_enter Tryz.func145, Tryz.ntmps145
  go_wp2_with fail
  rw [← hwA, ← hB]
  refine HX.out.mono ?_
  rintro e w2 ⟨rfl, hb2⟩
  rw [hsA] at hb2
  have HB2 := hid hb2
  clear hb2 hwA hB
  obtain ⟨k0, k1, k2⟩ := HC.out w2 HB2.out
  clear j0 j1 j2
  by_cases hm40 : 40 < m
  ·have HF : Hid (shD ⟨P, l, r⟩ = false) := hid (by rw [HE.out, show decide (m ≤ 40) = false by simp; omega]; rfl)
   go_wp2
   go_ret
   exact ⟨by rw [HF.out]; rfl, HA.out.trans (HB2.out.mono (by omega))⟩
  ·have HF : Hid (shD ⟨P, l, r⟩ = P.all dB) := hid (by rw [HE.out, show decide (m ≤ 40) = true by simp; omega]; rfl)
   have hm40' : ¬ (40 : Int) < (m : Int) := by omega
   go_wp2
   go_loopw [2, 4] (fun v2 v wr => ∃ k : Nat, v = .int .i64 k ∧ k ≤ n ∧ Hid ((P.drop k).all dB = P.all dB) ∧ Hid (Below (B + 1) wA wr)) (fun _ v _ => n - (intOf v).toNat)
   case atStart => exact ⟨0, rfl, by omega, hid rfl, HB2⟩
   case round =>
    obtain ⟨k, rfl, hk, HD, HB⟩ := hrel
    obtain ⟨j0, j1, j2⟩ := HC.out wr HB.out
    have hk0 : (0 : Int) ≤ (k : Int) := Int.natCast_nonneg _
    by_cases hlt : k < n
    ·have hk1 : (k : Int) < (n : Int) := by omega
     have hSs := H.out.keep (w' := wr) (Nat.le_trans HA.out.size HB.out.size) (fun x hx => (HB.out.cell (by have := HW.out; omega)).trans (HA.out.cell (by rw [HW.out]; exact hx)))
     obtain ⟨d, o, rfl, _, hx⟩ := hSs.at_ (by omega)
     clear hx
     have hs := Ss.str hSs hlt
     have hst := zG8 (P := P) (k := k) (by rw [HP.out]; exact hlt)
     have hpm := zDO (P := P) (k := k) (by rw [HP.out]; exact hlt)
     obtain ⟨p, hp⟩ : ∃ p, p = pt P k := ⟨_, rfl⟩
     rw [← hp] at hs hst hpm
     have hpl := HZ.out p hpm
     have HST : Hid (P.all dB = (dB p && (P.drop (k + 1)).all dB)) := hid (by rw [← hst]; exact HD.out.symm)
     clear hSs hp hst hpm
     go_wp2_with fail
     refine (zD0 p _ hpl).mono ?_
     rintro e w4 ⟨rfl, hb4⟩
     rw [show (!p.contains 95 && stB p) = dB p from rfl]
     have HB4 : Hid (Below (B + 1) wA w4) := hid (HB.out.trans (hb4.mono (by have := HB.out.size; omega)))
     clear hb4 hs
     cases hq : dB p with
     | true =>
      have HA4 : Hid ((P.drop (k + 1)).all dB = P.all dB) := hid (by rw [HST.out, hq, Bool.true_and])
      go_wp2
      go_roundw
      case rel => exact ⟨k + 1, by go_num, by omega, HA4, HB4⟩
      case measure => simp [intOf]; omega
     | false =>
      have HG : Hid (P.all dB = false) := hid (by rw [HST.out, hq, Bool.false_and])
      go_wp2
      go_ret
      exact ⟨by rw [HF.out, HG.out]; rfl, HA.out.trans (HB4.out.mono (by omega))⟩
    ·have HG : Hid (P.all dB = true) := hid (by rw [← HD.out, List.drop_of_length_le (by rw [HP.out]; omega)]; rfl)
     go_wp2
     go_ret
     exact ⟨by rw [HF.out, HG.out]; rfl, HA.out.trans (HB.out.mono (by omega))⟩
end
section
open Go.RowKit
theorem zD1 {p : Nm} {k : Nat} (h : k < p.length) : cuts (p.take (k + 1)) = cutF (cuts (p.take k)) (p.getD k 0) := by
 unfold cuts
 rw [List.take_add_one, List.foldl_append]
 simp [List.getD, h]
theorem zON (K : List Nm) (c : UInt8) : cutF K c ≠ [] := by unfold cutF; split <;> simp
theorem zG9 (l : Nm) : cuts l ≠ [] := by
 have : ∀ (l : Nm) (K : List Nm), K ≠ [] → l.foldl cutF K ≠ [] := by
  intro l
  induction l with
  | nil => intro K h; exact h
  | cons c l ih => intro K _; exact ih _ (zON K c)
 exact this l _ (by simp)
theorem zKG {K : List Nm} {c : UInt8} {M : Nat} (hK : ∀ x ∈ K, x.length ≤ M) : ∀ x ∈ cutF K c, x.length ≤ M + 1 := by
 unfold cutF
 split
 ·intro x hx
  rcases List.mem_append.1 hx with hx | hx
  ·have := hK x hx; omega
  ·rw [List.mem_singleton.1 hx]; simp
 ·intro x hx
  rcases List.mem_append.1 hx with hx | hx
  ·have := hK x (List.dropLast_subset _ hx); omega
  ·rw [List.mem_singleton.1 hx, List.length_append]
   by_cases h : K = []
   ·subst h; simp
   ·obtain ⟨Q, q, rfl⟩ := snoc h
    have := hK q (by simp)
    simpa using this
theorem zD2 (p : Nm) : ∀ k, k ≤ p.length → (∀ x ∈ cuts (p.take k), x.length ≤ k) ∧ (cuts (p.take k)).length ≤ k + 1
 | 0, _ => by simp [cuts]
 | k + 1, h => by
  obtain ⟨h1, h2⟩ := zD2 p k (by omega)
  rw [zD1 (by omega)]
  refine ⟨zKG h1, ?_⟩
  unfold cutF
  split
  ·simp; omega
  ·have := zG9 (p.take k)
   simp only [List.length_append, List.length_dropLast, List.length_singleton]
   omega
theorem zPf (p : Nm) (k : Nat) : (ub p k == 95) = (p.getD k 0 == 95) := by
 unfold ub
 rw [Bool.eq_iff_iff, beq_iff_eq, beq_iff_eq, ← UInt8.toNat_inj]
 have : (95 : UInt8).toNat = 95 := rfl
 omega
theorem zPg (K : List Nm) (x : Nm) (c : UInt8) (h : (c == 95) = false) : cutF (K ++ [x]) c = (K ++ [x]).set K.length (x ++ [c]) := by
 rw [zNT (by simpa using h)]
 simp
theorem zNZ {M : Nat} : ∀ P : List Nm, (∀ p ∈ P, p.length ≤ M) → (jnP P).length ≤ P.length * (M + 1)
 | [], _ => by simp [jnP]
 | [p], h => by have := h p (by simp); simp [jnP]; omega
 | p :: q :: P, h => by
  have h1 := h p (by simp)
  have h2 := zNZ (q :: P) fun x hx => h x (List.mem_cons_of_mem _ hx)
  rw [zBv p (P := q :: P) (by simp), List.length_append, List.length_cons, List.length_cons, Nat.add_mul]
  omega
theorem zPh (K : List Nm) : ∀ x ∈ c1 K, x ∈ K := by
 unfold c1; split
 ·exact fun x hx => List.mem_of_mem_tail hx
 ·exact fun x hx => hx
theorem zPi (K : List Nm) : (c1 K).length ≤ K.length := by
 unfold c1; split
 ·rw [List.length_tail]; omega
 ·exact Nat.le_refl _
theorem zOO {p : Nm} (h : p.length ≤ 200) : (stx (dD (cuts p))).length ≤ 100000 := by
 obtain ⟨h1, h2⟩ := zD2 p p.length (Nat.le_refl _)
 rw [List.take_length] at h1 h2
 have h3 : ∀ x ∈ (dD (cuts p)).P, x.length ≤ 200 := by
  intro x hx
  have : x ∈ c1 (cuts p) := by
   unfold dD at hx
   simp only at hx
   split at hx
   ·exact List.dropLast_subset _ hx
   ·exact hx
  have := h1 x (zPh _ x this)
  omega
 have h4 : (dD (cuts p)).P.length ≤ 201 := by
  have := zPi (cuts p)
  unfold dD
  simp only
  split
  ·rw [List.length_dropLast]; omega
  ·omega
 have h5 := zNZ _ h3
 have h6 : (dD (cuts p)).P.length * (200 + 1) ≤ 201 * 201 := Nat.mul_le_mul_right _ h4
 have h7 := zJ7 (dD (cuts p)).l
 have h8 := zJ7 (dD (cuts p)).r
 unfold stx
 rw [List.length_append, List.length_append]
 omega
theorem zCj {w w1 w2 : World} {g o n c q R : Nat} {P : List Nm} (h : Ss w (some ⟨g, o, none⟩) n c P) (hb : Below q w w1) (hg : w1.grownBy w2 (some R)) (hR : R < g) (hq : w.heap.size ≤ q) : Ss w2 (some ⟨g, o, none⟩) n c P :=
 ⟨h.hl, h.lc, h.cm, fun h0 => by
  obtain ⟨b, o', ha, hlt, hc⟩ := h.at_ h0
  simp only [Option.some.injEq, Addr.mk.injEq] at ha
  obtain ⟨rfl, rfl, _⟩ := ha
  have h1 := hb.size
  refine ⟨g, o, rfl, by have := hg.size; omega, fun j hj => ?_⟩
  rw [World.cell?_of_block (hg.block g (by omega) (by simp; omega)), hb.cell (by show g < q; omega)]
  exact hc j hj⟩
set_option maxRecDepth 100000 in
set_option maxHeartbeats 8000000 in
theorem zMH (p : Nm) (w : World) (hsz : p.length ≤ 200) :
  Calls Tryz.prog 105 #[.string (mk p)] w fun e w' => ∃ a n c, e = .returned (shV a n c (ofR p)) ∧ Ss w' a n c (ofR p).1.P ∧ Below w.heap.size w w' := by
 have hms := mk_size p
 obtain ⟨len, hm⟩ : ∃ m, m = p.length := ⟨_, rfl⟩
 rw [← hm] at hms
 have HM := hid hm
 have hl200 : len ≤ 200 := by omega
 obtain ⟨R, hR⟩ : ∃ R, R = w.heap.size := ⟨_, rfl⟩
 obtain ⟨w2, hw2⟩ : ∃ w2, w2 = w.alloc (.cells #[.slice none 0 0, .bool false, .bool false] 157) := ⟨_, rfl⟩
 obtain ⟨w3, hw3⟩ : ∃ w3, w3 = w2.alloc (.cells #[.string ⟨#[]⟩] 9) := ⟨_, rfl⟩
 have hs2 : w2.heap.size = R + 1 := by rw [hw2, hR]; simp
 have HZ2 : Hid (w2.heap[R]? = some (.cells #[.slice none 0 0, .bool false, .bool false] 157 (0, 0))) := hid (by rw [hw2, hR]; exact heap_alloc_new w _)
 have HB2 : Hid (Below R w w2) := hid (by rw [hw2, hR]; exact (Below.refl _ _).alloc (Nat.le_refl _) _)
 have HO3 : Hid (OwnV (R + 1) 9 1 w3 (some ⟨R + 1, 0, none⟩) (0 + 1) 1 ((cuts (p.take 0)).map enS)) := hid (zDB (v := enS []) (by rw [hw3, ← hs2]; exact heap_alloc_new w2 _) (Nat.le_refl _))
 have HB3 : Hid (Below (R + 1) w2 w3) := hid (by rw [hw3, ← hs2]; exact (Below.refl _ _).alloc (Nat.le_refl _) _)
 rw [← hR]
 clear hm
 go_enter Tryz.func105, Tryz.ntmps105
 go_wp2
 rw [← hw2, ← hw3, ← hR]
 clear hw3 hw2 hR
 go_loopw [4, 5] (fun v4 v5 wr => ∃ g c k m : Nat, v4 = .slice (some ⟨g, 0, none⟩) (m + 1) c ∧ v5 = .int .i64 k ∧ k ≤ len ∧ m ≤ k ∧ Hid (OwnV (R + 1) 9 1 wr (some ⟨g, 0, none⟩) (m + 1) c ((cuts (p.take k)).map enS)) ∧ Hid (Below (R + 1) w2 wr)) (fun _ v _ => len - (intOf v).toNat)
 case atStart => exact ⟨R + 1, 1, 0, 0, rfl, rfl, by omega, by omega, HO3, HB3⟩
 case round =>
  obtain ⟨g, c, k, m, rfl, rfl, hk, hmk, HO, HB⟩ := hrel
  have hk0 : (0 : Int) ≤ (k : Int) := Int.natCast_nonneg _
  by_cases hlt : k < len
  ·have hk1 : (k : Int) < (len : Int) := by omega
   have hkp : k < p.length := by have := HM.out; omega
   have hix := zH2 wr p k hkp
   obtain ⟨u, hu⟩ : ∃ u, u = ub p k := ⟨_, rfl⟩
   rw [← hu] at hix
   have HU := hid hu
   have hbd := HO.out.bounds
   have hcm := hbd.2.2
   unfold maxLen at hcm
   clear hu
   cases hc : u == 95 with
   | true =>
    have HK1 : Hid (cuts (p.take (k + 1)) = cuts (p.take k) ++ [[]]) := hid (by
     rw [zD1 hkp]
     have := zPf p k
     rw [← HU.out, hc] at this
     unfold cutF
     rw [if_pos (by simpa using this.symm)])
    have hsr : R + 1 ≤ wr.heap.size := by have := HB.out.size; omega
    go_wp2_with (at_builtin; refine Hid.out ?_)
    refine hid ?_
    refine zAL rfl (.tmp 18) (.tmp 19) 26 rfl 9 (R + 1) 1 16 _ Tryz.underlying26 zBw rfl (by omega) _ _ _ ((cuts (p.take k)).map enS) rfl (HO.out.alloc _) _ _ _ [enS []] rfl (Vs.lit (k := 1) (xs := [enS []]) _ _ rfl rfl rfl) (by simp; rfl) (by unfold maxLen; omega) (by omega) (by simp; omega) ?_
    intro a4 c4 w4 ho4 hg4 hb4 hne
    have HB4 : Hid (Below (R + 1) w2 w4) := hid ((HB.out.alloc hsr _).trans hb4)
    obtain ⟨g4, cur4, rfl, _⟩ := ho4.form (hne (by simp))
    have HO4 : Hid (OwnV (R + 1) 9 1 w4 (some ⟨g4, 0, none⟩) (m + 1 + 1) c4 ((cuts (p.take (k + 1))).map enS)) := hid (by rw [HK1.out, List.map_append]; exact ho4)
    clear ho4 hg4 hb4 hne
    go_wp2
    go_roundw
    case rel => exact ⟨g4, c4, k + 1, m + 1, rfl, by go_num, by omega, by omega, HO4, HB4⟩
    case measure => simp [intOf]; omega
   | false =>
    have hne := zG9 (p.take k)
    obtain ⟨Q, x, hQ⟩ := snoc hne
    obtain ⟨ch, hch⟩ : ∃ ch, ch = p.getD k 0 := ⟨_, rfl⟩
    have hQm : Q.length = m := by
     have h1 := hbd.1
     rw [hQ, List.length_map, List.length_append, List.length_singleton] at h1
     omega
    have hxl : x.length ≤ 200 := by
     have := (zD2 p k (by omega)).1 x (by rw [hQ]; simp)
     omega
    have HK1 : Hid (cuts (p.take (k + 1)) = (cuts (p.take k)).set m (x ++ [ch])) := hid (by
     have h1 := zPf p k
     rw [← HU.out, hc, ← hch] at h1
     rw [zD1 hkp, hQ, ← hch, ← hQm]
     exact zPg Q x ch h1.symm)
    have hcl : wr.cell? ⟨g, m, none⟩ = some (.string (mk x)) := by
     have h1 := HO.out.vs.cells (by omega) (j := m) (by omega)
     rw [Nat.zero_add, hQ, List.map_append, List.getElem?_append_right (by rw [List.length_map]; omega), List.length_map, hQm, Nat.sub_self] at h1
     exact h1
    obtain ⟨g', cur, hg', hbg, hgl, hgh, _, _⟩ := HO.out.form (by simp)
    simp only [Option.some.injEq, Addr.mk.injEq, and_true] at hg'
    subst hg'
    have hfz : wr.frozen? ⟨g, m, none⟩ = false := zG7 hgh
    have hsl : ∀ w, (Instr.slice 9 (.string (mk p)) (some (.int .i64 k)) (some (.int .i64 ((k : Int) + 1))) none).run Tryz.prog w = .ok (.string (mk [ch])) w := fun w => by
     have h1 := zOE w p k (k + 1) (by omega) (by omega)
     rw [Int.natCast_add] at h1
     refine h1.trans ?_
     rw [hch, List.take_add_one, List.drop_append_of_le_length (by rw [List.length_take]; omega)]
     simp [List.getD, hkp]
    have hz1 : (mk x).size + (mk [ch]).size ≤ 300 := by rw [mk_size, mk_size]; simp; omega
    have hw1 : IntKind.i64.wrap ((k : Int) + 1) = (k : Int) + 1 := IntWalk.i64_in _ (by omega)
    have hw2 : IntKind.i64.wrap (m : Int) = (m : Int) := IntWalk.i64_in _ (by omega)
    have hm0 : (0 : Int) ≤ (m : Int) := Int.natCast_nonneg _
    have hm1 : (m : Int) < (m : Int) + 1 := by omega
    have HBG := hid hbg
    have HE : Hid (mk x ++ mk [ch] = mk (x ++ [ch])) := hid (mk_app x [ch])
    clear hne hQ hch hQm hgh hbg hbd
    go_wp2
    go_region
    rw [HE.out]
    have HO5 : Hid (OwnV (R + 1) 9 1 ((wr.setCell ⟨g, m, none⟩ (.string (mk (x ++ [ch])))).drew) (some ⟨g, 0, none⟩) (m + 1) c ((cuts (p.take (k + 1))).map enS)) := hid (by
     rw [HK1.out, List.map_set]
     exact (zL6 HO.out m (enS (x ++ [ch]))).drew)
    have HB5 : Hid (Below (R + 1) w2 ((wr.setCell ⟨g, m, none⟩ (.string (mk (x ++ [ch])))).drew)) := hid (HB.out.trans (zBD (zB6 _ _ _ _) HBG.out (by have := HB.out.size; omega)).drew)
    clear hcl hfz hsl
    go_wp2
    go_roundw
    case rel => exact ⟨g, c, k + 1, m, rfl, by go_num, by omega, by omega, HO5, HB5⟩
    case measure => simp [intOf]; omega
  ·have hkl : k = len := by omega
   have HK : Hid ((cuts p).length = m + 1 ∧ Ss wr (some ⟨g, 0, none⟩) (m + 1) c (cuts p)) := hid (by
    have h1 := HO.out
    rw [List.take_of_length_le (by have := HM.out; omega)] at h1
    exact ⟨Ss.len h1.vs, h1.vs⟩)
   have hbd := HO.out.bounds
   have hcm := hbd.2.2
   have hlc := hbd.2.1
   unfold maxLen at hcm
   obtain ⟨g', cur, hg', hbg, hgl, hgh, _, _⟩ := HO.out.form (by simp)
   simp only [Option.some.injEq, Addr.mk.injEq, and_true] at hg'
   subst hg'
   obtain ⟨x, hx⟩ : ∃ x, x = (cuts p).headD [] := ⟨_, rfl⟩
   have hcl : wr.cell? ⟨g, 0, none⟩ = some (.string (mk x)) := by
    have h1 := Ss.str HK.out.2 (k := 0) (by omega)
    rw [Nat.add_zero] at h1
    rw [h1, hx]
    unfold pt
    cases cuts p <;> rfl
   have HZW : Hid (wr.heap[R]? = some (.cells #[.slice none 0 0, .bool false, .bool false] 157 (0, 0))) := hid ((HB.out.block R (by omega)).trans HZ2.out)
   have hsr : R + 1 ≤ wr.heap.size := by have := HB.out.size; omega
   have HSD : Hid ((stx (dD (cuts p))).length ≤ 100000) := hid (zOO (by have := HM.out; omega))
   have HGR : Hid (R < g) := hid (by omega)
   have HX := hid hx
   have HGL := hid hgl
   have hcl0 : ∀ ob : Obj, (wr.alloc ob).cell? ⟨g, 0, none⟩ = some (.string (mk x)) := fun ob => (((Below.refl wr.heap.size wr).alloc (Nat.le_refl _) ob).cell (by exact hgl)).trans hcl
   clear hgh hbd hbg hgl hx hcl
   cases hc0 : x == [] with
   | true =>
    have hcmp : ((mk x).toList == []) = true := by rw [mk_toList]; exact hc0
    obtain ⟨o, ho⟩ : ∃ o, o = if c = 1 then 0 else 0 + 1 * 1 := ⟨_, rfl⟩
    obtain ⟨c', hc'⟩ : ∃ c', c' = c - 1 := ⟨_, rfl⟩
    have hsl0 : ∀ w, (Instr.slice 26 (.slice (some ⟨g, 0, none⟩) (m + 1) c) (some (.int .i64 1)) none none).run Tryz.prog w = .ok (.slice (some ⟨g, o, none⟩) m c') w := fun w => by
     rw [ho, hc']; exact zFK (n := m + 1) (l := 1) zDy Tryz.underlying26 zBw (by omega) w
    have hC1 : c1 (cuts p) = (cuts p).tail := by unfold c1; rw [← HX.out, if_pos (by simpa using hc0)]
    have HF0 := hid (And.intro (by
     have h1 := HK.out.2.from (l := 1) (by omega)
     rw [Nat.mul_one, ← List.map_drop, List.drop_one, ← ho, ← hc', Nat.add_sub_cancel] at h1
     exact h1 : Ss wr (some ⟨g, o, none⟩) m c' (cuts p).tail) (And.intro hC1 (by rw [← HX.out]; exact hc0 : ((cuts p).headD [] == []) = true)))
    have hlc' : m ≤ c' := by omega
    have hcm' : c' ≤ 2 ^ 63 - 1 := by omega
    clear ho hc' hC1
    cases m with
    | zero =>
     obtain ⟨PP, hPP⟩ : ∃ PP, PP = (cuts p).tail := ⟨_, rfl⟩
     have hP0 : PP = [] := List.eq_nil_of_length_eq_zero (by have := HK.out.1; rw [hPP, List.length_tail]; omega)
     have HPS : Hid (Ss wr (some ⟨g, o, none⟩) 0 c' PP) := hid (by rw [hPP]; exact HF0.out.1)
     have HD : Hid (dD (cuts p) = ⟨PP, true, false⟩) := hid (by
      unfold dD; rw [HF0.out.2.1, ← hPP, hP0, HF0.out.2.2]; rfl)
     have HSZ : Hid ((stx ⟨PP, true, false⟩).length ≤ 100000) := hid (by rw [← HD.out]; exact HSD.out)
     have hcl2 : True := trivial
     clear hPP hP0
     obtain ⟨q, hq⟩ : ∃ q, q = wr.heap.size := ⟨_, rfl⟩
     obtain ⟨wq, hwq⟩ : ∃ wq, wq = wr.alloc (.cells #[.slice (some ⟨g, o, none⟩) 0 c', .bool true, .bool false] 157) := ⟨_, rfl⟩
     have hsq : wq.heap.size = q + 1 := by rw [hwq, hq]; simp
     have HQ : Hid (wq.heap[q]? = some (.cells #[.slice (some ⟨g, o, none⟩) 0 c', .bool true, .bool false] 157 (0, 0))) := hid (by rw [hwq, hq]; exact heap_alloc_new wr _)
     have HBQ : Hid (Below q wr wq) := hid (by rw [hwq, hq]; exact (Below.refl _ _).alloc (Nat.le_refl _) _)
     have HPQ : Hid (Ss wq (some ⟨g, o, none⟩) 0 c' PP) := hid (Vs.below HPS.out (by rw [← hq]; exact HBQ.out))
     have HZQ : Hid (wq.heap[R]? = some (.cells #[.slice none 0 0, .bool false, .bool false] 157 (0, 0))) := hid ((HBQ.out.block R (by omega)).trans HZW.out)
     have HBW : Hid (Below R w wq) := hid (HB2.out.trans ((HB.out.mono (by omega)).trans (HBQ.out.mono (by omega))))
     have hRq : R < q := by omega
     have HQQ := hid hq
     go_wp2_with fail
     rw [← hwq, ← hq]
     clear hwq hq hcl0 hcl2 hsl0
     refine (zCi (some ⟨g, o, none⟩) 0 c' PP true false wq HPQ.out HSZ.out).mono ?_
     rintro e w5 ⟨rfl, hb5⟩
     rw [hsq] at hb5
     have HQ5 := hid ((hb5.block q (by omega)).trans HQ.out)
     have HZ5 := hid ((hb5.block R (by omega)).trans HZQ.out)
     have HP5 : Hid (Ss w5 (some ⟨g, o, none⟩) 0 c' PP) := hid (Vs.below HPQ.out (by rw [hsq]; exact hb5))
     have HB5 : Hid (Below R w w5) := hid (HBW.out.trans (hb5.mono (by omega)))
     have hs5 : q + 1 ≤ w5.heap.size := by have := hb5.size; omega
     have HSP : Hid (Vs 1 wr (some ⟨g, o, none⟩) 0 c' (PP.map enS) ∧ Below q wr w5 ∧ q = wr.heap.size) := hid ⟨HPS.out, HBQ.out.trans (hb5.mono (by omega)), HQQ.out⟩
     obtain ⟨⟨y0, y1, y2⟩, _⟩ := three HQ5.out
     obtain ⟨⟨z0, z1, z2⟩, f0, f1, f2⟩ := three HZ5.out
     clear hb5
     cases hM : shD ⟨PP, true, false⟩ with
     | false =>
      have HE : Hid (ofR p = (⟨[], false, false⟩, 23)) := hid (zAZ (by rw [← zAs]; unfold ofD; rw [HD.out, if_neg (by rw [hM]; simp)]))
      have HF := hid (zAO (x' := .slice none 0 0) (y' := .bool false) (z' := .bool false) HZ5.out)
      have HG := hid (zAV w5 R (.slice none 0 0) (.bool false) (.bool false))
      go_wp2
      refine bodyPost_ret (zAG rfl _ _ R 157 #[.slice none 0 0, .bool false, .bool false] (0, 0) _ rfl HF.out Tryz.underlying157 rfl zAK) rfl ⟨none, 0, 0, by rw [HE.out]; rfl, by rw [HE.out]; exact Vs.nil _ _ _ _ (Nat.zero_le _), HB5.out.trans (zBD HG.out (Nat.le_refl _) (by omega))⟩
     | true =>
      go_wp2_with fail
      refine (zBC (some ⟨g, o, none⟩) 0 c' PP true false w5 HP5.out HSZ.out).mono ?_
      rintro e w6 ⟨rfl, hb6⟩
      have HQ6 := hid ((hb6.block q (by omega)).trans HQ5.out)
      have HZ6 := hid ((hb6.block R (by omega)).trans HZ5.out)
      have HB6 : Hid (Below R w w6) := hid (HB5.out.trans (hb6.mono (by omega)))
      have hs6 : q + 1 ≤ w6.heap.size := by have := hb6.size; omega
      have HSP6 : Hid (Below q wr w6) := hid (HSP.out.2.1.trans (hb6.mono (by omega)))
      obtain ⟨T, hT⟩ : ∃ T, T = stx ⟨PP, true, false⟩ := ⟨_, rfl⟩
      rw [← hT]
      have HT := hid hT
      clear hb6 hT y0 y1 y2 z0 z1 z2 f0 f1 f2
      obtain ⟨⟨y0, y1, y2⟩, _⟩ := three HQ6.out
      obtain ⟨⟨z0, z1, z2⟩, f0, f1, f2⟩ := three HZ6.out
      by_cases hTp : T = p
      ·have hcp : True := trivial
       have HE : Hid (ofR p = (⟨PP, true, false⟩, 0)) := hid (zAl (by rw [← zAs]; unfold ofD; rw [HD.out, if_pos ⟨hM, by rw [← HT.out]; exact hTp⟩]))
       have HF := hid (zAO (x' := .slice (some ⟨g, o, none⟩) 0 c') (y' := .bool true) (z' := .bool false) HZ6.out)
       have HG := hid (zAV w6 R (.slice (some ⟨g, o, none⟩) 0 c') (.bool true) (.bool false))
       have HV : Hid (Ss (((w6.setCell ⟨R, 0, none⟩ (.slice (some ⟨g, o, none⟩) 0 c')).setCell ⟨R, 1, none⟩ (.bool true)).setCell ⟨R, 2, none⟩ (.bool false)) (some ⟨g, o, none⟩) 0 c' PP) := hid (zCj HSP.out.1 HSP6.out HG.out HGR.out (by have := HSP.out.2.2; omega))
       rw [hTp]
       clear hTp hcp
       go_wp2
       refine bodyPost_ret (zAG rfl _ _ R 157 #[.slice (some ⟨g, o, none⟩) 0 c', .bool true, .bool false] (0, 0) _ rfl HF.out Tryz.underlying157 rfl zAK) rfl ⟨some ⟨g, o, none⟩, 0, c', by rw [HE.out]; rfl, by rw [HE.out]; exact HV.out, HB6.out.trans (zBD HG.out (Nat.le_refl _) (by omega))⟩
      ·have hcp : ((mk T).toList != (mk p).toList) = true := by rw [mk_toList, mk_toList]; simpa using hTp
       have hcp2 : ((mk T).toList == (mk p).toList) = false := by rw [mk_toList, mk_toList]; simpa using hTp
       have hcp3 : ¬ (mk T).toList = (mk p).toList := by rw [mk_toList, mk_toList]; exact hTp
       have HE : Hid (ofR p = (⟨[], false, false⟩, 23)) := hid (zAZ (by rw [← zAs]; unfold ofD; rw [HD.out, if_neg (fun hh => hTp (by rw [HT.out]; exact hh.2))]))
       have HF := hid (zAO (x' := .slice none 0 0) (y' := .bool false) (z' := .bool false) HZ6.out)
       have HG := hid (zAV w6 R (.slice none 0 0) (.bool false) (.bool false))
       clear hTp
       go_wp2
       refine bodyPost_ret (zAG rfl _ _ R 157 #[.slice none 0 0, .bool false, .bool false] (0, 0) _ rfl HF.out Tryz.underlying157 rfl zAK) rfl ⟨none, 0, 0, by rw [HE.out]; rfl, by rw [HE.out]; exact Vs.nil _ _ _ _ (Nat.zero_le _), HB6.out.trans (zBD HG.out (Nat.le_refl _) (by omega))⟩
    | succ j =>
     have hj0 : (0 : Int) < (j : Int) + 1 := by omega
     have hj1 : (j : Int) < (j : Int) + 1 := by omega
     have hj2 : (0 : Int) ≤ (j : Int) := Int.natCast_nonneg _
     have hwj : IntKind.i64.wrap (j : Int) = (j : Int) := IntWalk.i64_in _ (by omega)
     have hjc : (j : Int) ≤ (c' : Int) := by omega
     obtain ⟨Q, y, hQ⟩ := snoc (P := (cuts p).tail) (by intro h; have := HK.out.1; have h2 := congrArg List.length h; rw [List.length_tail] at h2; simp at h2; omega)
     have hQj : Q.length = j := by have := HK.out.1; have h2 := congrArg List.length hQ; rw [List.length_tail, List.length_append, List.length_singleton] at h2; omega
     have hcy : wr.cell? ⟨g, o + j, none⟩ = some (.string (mk y)) := by
      have h1 := Ss.str HF0.out.1 (k := j) (by omega)
      rw [h1, hQ]
      unfold pt
      rw [← hQj]; simp [List.getD]
     have hcl2 : ∀ ob : Obj, (wr.alloc ob).cell? ⟨g, o + j, none⟩ = some (.string (mk y)) := fun ob => (((Below.refl wr.heap.size wr).alloc (Nat.le_refl _) ob).cell (by exact HGL.out)).trans hcy
     have HQY := hid (And.intro hQ hQj)
     clear hQ hQj hcy
     cases hy : y == [] with
     | true =>
      have hcy : ((mk y).toList == []) = true := by rw [mk_toList]; exact hy
      have hsl1 : ∀ w, (Instr.slice 26 (.slice (some ⟨g, o, none⟩) (j + 1) c') none (some (.int .i64 j)) none).run Tryz.prog w = .ok (.slice (some ⟨g, o, none⟩) j c') w := fun w => zL5 (n := j + 1) (h := j) zDy Tryz.underlying26 zBw (by omega) w
      obtain ⟨PP, hPP⟩ : ∃ PP, PP = Q := ⟨_, rfl⟩
      have HPS : Hid (Ss wr (some ⟨g, o, none⟩) j c' PP) := hid (by
       have h1 := HF0.out.1.upto (h := j) (by omega)
       rw [Nat.mul_one, ← List.map_take, HQY.out.1, List.take_append_of_le_length (by have := HQY.out.2; omega), List.take_of_length_le (by have := HQY.out.2; omega), ← hPP] at h1
       exact h1)
      have HD : Hid (dD (cuts p) = ⟨PP, true, true⟩) := hid (by
       have hb : rB (Q ++ [y]) = true := by unfold rB; rw [eq_of_beq hy]; simp [List.getLastD_eq_getLast?]
       unfold dD; rw [HF0.out.2.1, HQY.out.1, HF0.out.2.2, hb, hPP]; simp)
      have HSZ : Hid ((stx ⟨PP, true, true⟩).length ≤ 100000) := hid (by rw [← HD.out]; exact HSD.out)
      clear hPP
      obtain ⟨q, hq⟩ : ∃ q, q = wr.heap.size := ⟨_, rfl⟩
      obtain ⟨wq, hwq⟩ : ∃ wq, wq = wr.alloc (.cells #[.slice (some ⟨g, o, none⟩) j c', .bool true, .bool true] 157) := ⟨_, rfl⟩
      have hsq : wq.heap.size = q + 1 := by rw [hwq, hq]; simp
      have HQ : Hid (wq.heap[q]? = some (.cells #[.slice (some ⟨g, o, none⟩) j c', .bool true, .bool true] 157 (0, 0))) := hid (by rw [hwq, hq]; exact heap_alloc_new wr _)
      have HBQ : Hid (Below q wr wq) := hid (by rw [hwq, hq]; exact (Below.refl _ _).alloc (Nat.le_refl _) _)
      have HPQ : Hid (Ss wq (some ⟨g, o, none⟩) j c' PP) := hid (Vs.below HPS.out (by rw [← hq]; exact HBQ.out))
      have HZQ : Hid (wq.heap[R]? = some (.cells #[.slice none 0 0, .bool false, .bool false] 157 (0, 0))) := hid ((HBQ.out.block R (by omega)).trans HZW.out)
      have HBW : Hid (Below R w wq) := hid (HB2.out.trans ((HB.out.mono (by omega)).trans (HBQ.out.mono (by omega))))
      have hRq : R < q := by omega
      have HQQ := hid hq
      go_wp2_with fail
      rw [← hwq, ← hq]
      clear hwq hq hcl0 hcl2 hsl0 hsl1
      refine (zCi (some ⟨g, o, none⟩) j c' PP true true wq HPQ.out HSZ.out).mono ?_
      rintro e w5 ⟨rfl, hb5⟩
      rw [hsq] at hb5
      have HQ5 := hid ((hb5.block q (by omega)).trans HQ.out)
      have HZ5 := hid ((hb5.block R (by omega)).trans HZQ.out)
      have HP5 : Hid (Ss w5 (some ⟨g, o, none⟩) j c' PP) := hid (Vs.below HPQ.out (by rw [hsq]; exact hb5))
      have HB5 : Hid (Below R w w5) := hid (HBW.out.trans (hb5.mono (by omega)))
      have hs5 : q + 1 ≤ w5.heap.size := by have := hb5.size; omega
      have HSP : Hid (Vs 1 wr (some ⟨g, o, none⟩) j c' (PP.map enS) ∧ Below q wr w5 ∧ q = wr.heap.size) := hid ⟨HPS.out, HBQ.out.trans (hb5.mono (by omega)), HQQ.out⟩
      obtain ⟨⟨y0, y1, y2⟩, _⟩ := three HQ5.out
      obtain ⟨⟨z0, z1, z2⟩, f0, f1, f2⟩ := three HZ5.out
      clear hb5
      cases hM : shD ⟨PP, true, true⟩ with
      | false =>
       have HE : Hid (ofR p = (⟨[], false, false⟩, 23)) := hid (zAZ (by rw [← zAs]; unfold ofD; rw [HD.out, if_neg (by rw [hM]; simp)]))
       have HF := hid (zAO (x' := .slice none 0 0) (y' := .bool false) (z' := .bool false) HZ5.out)
       have HG := hid (zAV w5 R (.slice none 0 0) (.bool false) (.bool false))
       go_wp2
       refine bodyPost_ret (zAG rfl _ _ R 157 #[.slice none 0 0, .bool false, .bool false] (0, 0) _ rfl HF.out Tryz.underlying157 rfl zAK) rfl ⟨none, 0, 0, by rw [HE.out]; rfl, by rw [HE.out]; exact Vs.nil _ _ _ _ (Nat.zero_le _), HB5.out.trans (zBD HG.out (Nat.le_refl _) (by omega))⟩
      | true =>
       go_wp2_with fail
       refine (zBC (some ⟨g, o, none⟩) j c' PP true true w5 HP5.out HSZ.out).mono ?_
       rintro e w6 ⟨rfl, hb6⟩
       have HQ6 := hid ((hb6.block q (by omega)).trans HQ5.out)
       have HZ6 := hid ((hb6.block R (by omega)).trans HZ5.out)
       have HB6 : Hid (Below R w w6) := hid (HB5.out.trans (hb6.mono (by omega)))
       have hs6 : q + 1 ≤ w6.heap.size := by have := hb6.size; omega
       have HSP6 : Hid (Below q wr w6) := hid (HSP.out.2.1.trans (hb6.mono (by omega)))
       obtain ⟨T, hT⟩ : ∃ T, T = stx ⟨PP, true, true⟩ := ⟨_, rfl⟩
       rw [← hT]
       have HT := hid hT
       clear hb6 hT y0 y1 y2 z0 z1 z2 f0 f1 f2
       obtain ⟨⟨y0, y1, y2⟩, _⟩ := three HQ6.out
       obtain ⟨⟨z0, z1, z2⟩, f0, f1, f2⟩ := three HZ6.out
       by_cases hTp : T = p
       ·have hcp : True := trivial
        have HE : Hid (ofR p = (⟨PP, true, true⟩, 0)) := hid (zAl (by rw [← zAs]; unfold ofD; rw [HD.out, if_pos ⟨hM, by rw [← HT.out]; exact hTp⟩]))
        have HF := hid (zAO (x' := .slice (some ⟨g, o, none⟩) j c') (y' := .bool true) (z' := .bool true) HZ6.out)
        have HG := hid (zAV w6 R (.slice (some ⟨g, o, none⟩) j c') (.bool true) (.bool true))
        have HV : Hid (Ss (((w6.setCell ⟨R, 0, none⟩ (.slice (some ⟨g, o, none⟩) j c')).setCell ⟨R, 1, none⟩ (.bool true)).setCell ⟨R, 2, none⟩ (.bool true)) (some ⟨g, o, none⟩) j c' PP) := hid (zCj HSP.out.1 HSP6.out HG.out HGR.out (by have := HSP.out.2.2; omega))
        rw [hTp]
        clear hTp hcp
        go_wp2
        refine bodyPost_ret (zAG rfl _ _ R 157 #[.slice (some ⟨g, o, none⟩) j c', .bool true, .bool true] (0, 0) _ rfl HF.out Tryz.underlying157 rfl zAK) rfl ⟨some ⟨g, o, none⟩, j, c', by rw [HE.out]; rfl, by rw [HE.out]; exact HV.out, HB6.out.trans (zBD HG.out (Nat.le_refl _) (by omega))⟩
       ·have hcp : ((mk T).toList != (mk p).toList) = true := by rw [mk_toList, mk_toList]; simpa using hTp
        have hcp2 : ((mk T).toList == (mk p).toList) = false := by rw [mk_toList, mk_toList]; simpa using hTp
        have hcp3 : ¬ (mk T).toList = (mk p).toList := by rw [mk_toList, mk_toList]; exact hTp
        have HE : Hid (ofR p = (⟨[], false, false⟩, 23)) := hid (zAZ (by rw [← zAs]; unfold ofD; rw [HD.out, if_neg (fun hh => hTp (by rw [HT.out]; exact hh.2))]))
        have HF := hid (zAO (x' := .slice none 0 0) (y' := .bool false) (z' := .bool false) HZ6.out)
        have HG := hid (zAV w6 R (.slice none 0 0) (.bool false) (.bool false))
        clear hTp
        go_wp2
        refine bodyPost_ret (zAG rfl _ _ R 157 #[.slice none 0 0, .bool false, .bool false] (0, 0) _ rfl HF.out Tryz.underlying157 rfl zAK) rfl ⟨none, 0, 0, by rw [HE.out]; rfl, by rw [HE.out]; exact Vs.nil _ _ _ _ (Nat.zero_le _), HB6.out.trans (zBD HG.out (Nat.le_refl _) (by omega))⟩
     | false =>
      have hcy : ((mk y).toList == []) = false := by rw [mk_toList]; exact hy
      obtain ⟨PP, hPP⟩ : ∃ PP, PP = (cuts p).tail := ⟨_, rfl⟩
      have HPS : Hid (Ss wr (some ⟨g, o, none⟩) (j + 1) c' PP) := hid (by rw [hPP]; exact HF0.out.1)
      have HD : Hid (dD (cuts p) = ⟨PP, true, false⟩) := hid (by
       have hb : rB (Q ++ [y]) = false := by
        unfold rB
        rw [show (Q ++ [y]).getLastD [] = y by simp [List.getLastD_eq_getLast?], hy, Bool.and_false]
       unfold dD; rw [HF0.out.2.1, hPP, HQY.out.1, HF0.out.2.2, hb]; simp)
      have HSZ : Hid ((stx ⟨PP, true, false⟩).length ≤ 100000) := hid (by rw [← HD.out]; exact HSD.out)
      clear hPP
      obtain ⟨q, hq⟩ : ∃ q, q = wr.heap.size := ⟨_, rfl⟩
      obtain ⟨wq, hwq⟩ : ∃ wq, wq = wr.alloc (.cells #[.slice (some ⟨g, o, none⟩) (j + 1) c', .bool true, .bool false] 157) := ⟨_, rfl⟩
      have hsq : wq.heap.size = q + 1 := by rw [hwq, hq]; simp
      have HQ : Hid (wq.heap[q]? = some (.cells #[.slice (some ⟨g, o, none⟩) (j + 1) c', .bool true, .bool false] 157 (0, 0))) := hid (by rw [hwq, hq]; exact heap_alloc_new wr _)
      have HBQ : Hid (Below q wr wq) := hid (by rw [hwq, hq]; exact (Below.refl _ _).alloc (Nat.le_refl _) _)
      have HPQ : Hid (Ss wq (some ⟨g, o, none⟩) (j + 1) c' PP) := hid (Vs.below HPS.out (by rw [← hq]; exact HBQ.out))
      have HZQ : Hid (wq.heap[R]? = some (.cells #[.slice none 0 0, .bool false, .bool false] 157 (0, 0))) := hid ((HBQ.out.block R (by omega)).trans HZW.out)
      have HBW : Hid (Below R w wq) := hid (HB2.out.trans ((HB.out.mono (by omega)).trans (HBQ.out.mono (by omega))))
      have hRq : R < q := by omega
      have HQQ := hid hq
      go_wp2_with fail
      rw [← hwq, ← hq]
      clear hwq hq hcl0 hcl2 hsl0
      refine (zCi (some ⟨g, o, none⟩) (j + 1) c' PP true false wq HPQ.out HSZ.out).mono ?_
      rintro e w5 ⟨rfl, hb5⟩
      rw [hsq] at hb5
      have HQ5 := hid ((hb5.block q (by omega)).trans HQ.out)
      have HZ5 := hid ((hb5.block R (by omega)).trans HZQ.out)
      have HP5 : Hid (Ss w5 (some ⟨g, o, none⟩) (j + 1) c' PP) := hid (Vs.below HPQ.out (by rw [hsq]; exact hb5))
      have HB5 : Hid (Below R w w5) := hid (HBW.out.trans (hb5.mono (by omega)))
      have hs5 : q + 1 ≤ w5.heap.size := by have := hb5.size; omega
      have HSP : Hid (Vs 1 wr (some ⟨g, o, none⟩) (j + 1) c' (PP.map enS) ∧ Below q wr w5 ∧ q = wr.heap.size) := hid ⟨HPS.out, HBQ.out.trans (hb5.mono (by omega)), HQQ.out⟩
      obtain ⟨⟨y0, y1, y2⟩, _⟩ := three HQ5.out
      obtain ⟨⟨z0, z1, z2⟩, f0, f1, f2⟩ := three HZ5.out
      clear hb5
      cases hM : shD ⟨PP, true, false⟩ with
      | false =>
       have HE : Hid (ofR p = (⟨[], false, false⟩, 23)) := hid (zAZ (by rw [← zAs]; unfold ofD; rw [HD.out, if_neg (by rw [hM]; simp)]))
       have HF := hid (zAO (x' := .slice none 0 0) (y' := .bool false) (z' := .bool false) HZ5.out)
       have HG := hid (zAV w5 R (.slice none 0 0) (.bool false) (.bool false))
       go_wp2
       refine bodyPost_ret (zAG rfl _ _ R 157 #[.slice none 0 0, .bool false, .bool false] (0, 0) _ rfl HF.out Tryz.underlying157 rfl zAK) rfl ⟨none, 0, 0, by rw [HE.out]; rfl, by rw [HE.out]; exact Vs.nil _ _ _ _ (Nat.zero_le _), HB5.out.trans (zBD HG.out (Nat.le_refl _) (by omega))⟩
      | true =>
       go_wp2_with fail
       refine (zBC (some ⟨g, o, none⟩) (j + 1) c' PP true false w5 HP5.out HSZ.out).mono ?_
       rintro e w6 ⟨rfl, hb6⟩
       have HQ6 := hid ((hb6.block q (by omega)).trans HQ5.out)
       have HZ6 := hid ((hb6.block R (by omega)).trans HZ5.out)
       have HB6 : Hid (Below R w w6) := hid (HB5.out.trans (hb6.mono (by omega)))
       have hs6 : q + 1 ≤ w6.heap.size := by have := hb6.size; omega
       have HSP6 : Hid (Below q wr w6) := hid (HSP.out.2.1.trans (hb6.mono (by omega)))
       obtain ⟨T, hT⟩ : ∃ T, T = stx ⟨PP, true, false⟩ := ⟨_, rfl⟩
       rw [← hT]
       have HT := hid hT
       clear hb6 hT y0 y1 y2 z0 z1 z2 f0 f1 f2
       obtain ⟨⟨y0, y1, y2⟩, _⟩ := three HQ6.out
       obtain ⟨⟨z0, z1, z2⟩, f0, f1, f2⟩ := three HZ6.out
       by_cases hTp : T = p
       ·have hcp : True := trivial
        have HE : Hid (ofR p = (⟨PP, true, false⟩, 0)) := hid (zAl (by rw [← zAs]; unfold ofD; rw [HD.out, if_pos ⟨hM, by rw [← HT.out]; exact hTp⟩]))
        have HF := hid (zAO (x' := .slice (some ⟨g, o, none⟩) (j + 1) c') (y' := .bool true) (z' := .bool false) HZ6.out)
        have HG := hid (zAV w6 R (.slice (some ⟨g, o, none⟩) (j + 1) c') (.bool true) (.bool false))
        have HV : Hid (Ss (((w6.setCell ⟨R, 0, none⟩ (.slice (some ⟨g, o, none⟩) (j + 1) c')).setCell ⟨R, 1, none⟩ (.bool true)).setCell ⟨R, 2, none⟩ (.bool false)) (some ⟨g, o, none⟩) (j + 1) c' PP) := hid (zCj HSP.out.1 HSP6.out HG.out HGR.out (by have := HSP.out.2.2; omega))
        rw [hTp]
        clear hTp hcp
        go_wp2
        refine bodyPost_ret (zAG rfl _ _ R 157 #[.slice (some ⟨g, o, none⟩) (j + 1) c', .bool true, .bool false] (0, 0) _ rfl HF.out Tryz.underlying157 rfl zAK) rfl ⟨some ⟨g, o, none⟩, (j + 1), c', by rw [HE.out]; rfl, by rw [HE.out]; exact HV.out, HB6.out.trans (zBD HG.out (Nat.le_refl _) (by omega))⟩
       ·have hcp : ((mk T).toList != (mk p).toList) = true := by rw [mk_toList, mk_toList]; simpa using hTp
        have hcp2 : ((mk T).toList == (mk p).toList) = false := by rw [mk_toList, mk_toList]; simpa using hTp
        have hcp3 : ¬ (mk T).toList = (mk p).toList := by rw [mk_toList, mk_toList]; exact hTp
        have HE : Hid (ofR p = (⟨[], false, false⟩, 23)) := hid (zAZ (by rw [← zAs]; unfold ofD; rw [HD.out, if_neg (fun hh => hTp (by rw [HT.out]; exact hh.2))]))
        have HF := hid (zAO (x' := .slice none 0 0) (y' := .bool false) (z' := .bool false) HZ6.out)
        have HG := hid (zAV w6 R (.slice none 0 0) (.bool false) (.bool false))
        clear hTp
        go_wp2
        refine bodyPost_ret (zAG rfl _ _ R 157 #[.slice none 0 0, .bool false, .bool false] (0, 0) _ rfl HF.out Tryz.underlying157 rfl zAK) rfl ⟨none, 0, 0, by rw [HE.out]; rfl, by rw [HE.out]; exact Vs.nil _ _ _ _ (Nat.zero_le _), HB6.out.trans (zBD HG.out (Nat.le_refl _) (by omega))⟩
   | false =>
    have hcmp : ((mk x).toList == []) = false := by rw [mk_toList]; exact hc0
    have hC1 : c1 (cuts p) = cuts p := by unfold c1; rw [← HX.out, if_neg (by simpa using hc0)]
    have HF0 := hid (And.intro HK.out.2 (And.intro hC1 (by rw [← HX.out]; exact hc0 : ((cuts p).headD [] == []) = false)))
    have hj0 : (0 : Int) < (m : Int) + 1 := by omega
    have hj1 : (m : Int) < (m : Int) + 1 := by omega
    have hj2 : (0 : Int) ≤ (m : Int) := Int.natCast_nonneg _
    have hwj : IntKind.i64.wrap (m : Int) = (m : Int) := IntWalk.i64_in _ (by omega)
    have hjc : (m : Int) ≤ (c : Int) := by omega
    obtain ⟨Q, y, hQ⟩ := snoc (zG9 p)
    have hQj : Q.length = m := by have := HK.out.1; have h2 := congrArg List.length hQ; rw [List.length_append, List.length_singleton] at h2; omega
    have hcy : wr.cell? ⟨g, 0 + m, none⟩ = some (.string (mk y)) := by
     have h1 := Ss.str HF0.out.1 (k := m) (by omega)
     rw [h1, hQ]
     unfold pt
     rw [← hQj]; simp [List.getD]
    rw [Nat.zero_add] at hcy
    have hcl2 : ∀ ob : Obj, (wr.alloc ob).cell? ⟨g, m, none⟩ = some (.string (mk y)) := fun ob => (((Below.refl wr.heap.size wr).alloc (Nat.le_refl _) ob).cell (by exact HGL.out)).trans hcy
    have HQY := hid (And.intro hQ hQj)
    have hsl0 : True := trivial
    clear hQ hQj hcy hC1
    cases hy : y == [] with
    | true =>
     have hcy : ((mk y).toList == []) = true := by rw [mk_toList]; exact hy
     have hsl1 : ∀ w, (Instr.slice 26 (.slice (some ⟨g, 0, none⟩) (m + 1) c) none (some (.int .i64 m)) none).run Tryz.prog w = .ok (.slice (some ⟨g, 0, none⟩) m c) w := fun w => zL5 (n := m + 1) (h := m) zDy Tryz.underlying26 zBw (by omega) w
     obtain ⟨PP, hPP⟩ : ∃ PP, PP = Q := ⟨_, rfl⟩
     have HPS : Hid (Ss wr (some ⟨g, 0, none⟩) m c PP) := hid (by
      have h1 := HF0.out.1.upto (h := m) (by omega)
      rw [Nat.mul_one, ← List.map_take, HQY.out.1, List.take_append_of_le_length (by have := HQY.out.2; omega), List.take_of_length_le (by have := HQY.out.2; omega), ← hPP] at h1
      exact h1)
     have HD : Hid (dD (cuts p) = ⟨PP, false, true⟩) := hid (by
      have hb : rB (Q ++ [y]) = true := by unfold rB; rw [eq_of_beq hy]; simp [List.getLastD_eq_getLast?]
      have h2 := HF0.out.2.2
      unfold dD; rw [HF0.out.2.1, h2, HQY.out.1, hb, hPP]; simp)
     have HSZ : Hid ((stx ⟨PP, false, true⟩).length ≤ 100000) := hid (by rw [← HD.out]; exact HSD.out)
     clear hPP
     obtain ⟨q, hq⟩ : ∃ q, q = wr.heap.size := ⟨_, rfl⟩
     obtain ⟨wq, hwq⟩ : ∃ wq, wq = wr.alloc (.cells #[.slice (some ⟨g, 0, none⟩) m c, .bool false, .bool true] 157) := ⟨_, rfl⟩
     have hsq : wq.heap.size = q + 1 := by rw [hwq, hq]; simp
     have HQ : Hid (wq.heap[q]? = some (.cells #[.slice (some ⟨g, 0, none⟩) m c, .bool false, .bool true] 157 (0, 0))) := hid (by rw [hwq, hq]; exact heap_alloc_new wr _)
     have HBQ : Hid (Below q wr wq) := hid (by rw [hwq, hq]; exact (Below.refl _ _).alloc (Nat.le_refl _) _)
     have HPQ : Hid (Ss wq (some ⟨g, 0, none⟩) m c PP) := hid (Vs.below HPS.out (by rw [← hq]; exact HBQ.out))
     have HZQ : Hid (wq.heap[R]? = some (.cells #[.slice none 0 0, .bool false, .bool false] 157 (0, 0))) := hid ((HBQ.out.block R (by omega)).trans HZW.out)
     have HBW : Hid (Below R w wq) := hid (HB2.out.trans ((HB.out.mono (by omega)).trans (HBQ.out.mono (by omega))))
     have hRq : R < q := by omega
     have HQQ := hid hq
     go_wp2_with fail
     rw [← hwq, ← hq]
     clear hwq hq hcl0 hcl2 hsl0 hsl1
     refine (zCi (some ⟨g, 0, none⟩) m c PP false true wq HPQ.out HSZ.out).mono ?_
     rintro e w5 ⟨rfl, hb5⟩
     rw [hsq] at hb5
     have HQ5 := hid ((hb5.block q (by omega)).trans HQ.out)
     have HZ5 := hid ((hb5.block R (by omega)).trans HZQ.out)
     have HP5 : Hid (Ss w5 (some ⟨g, 0, none⟩) m c PP) := hid (Vs.below HPQ.out (by rw [hsq]; exact hb5))
     have HB5 : Hid (Below R w w5) := hid (HBW.out.trans (hb5.mono (by omega)))
     have hs5 : q + 1 ≤ w5.heap.size := by have := hb5.size; omega
     have HSP : Hid (Vs 1 wr (some ⟨g, 0, none⟩) m c (PP.map enS) ∧ Below q wr w5 ∧ q = wr.heap.size) := hid ⟨HPS.out, HBQ.out.trans (hb5.mono (by omega)), HQQ.out⟩
     obtain ⟨⟨y0, y1, y2⟩, _⟩ := three HQ5.out
     obtain ⟨⟨z0, z1, z2⟩, f0, f1, f2⟩ := three HZ5.out
     clear hb5
     cases hM : shD ⟨PP, false, true⟩ with
     | false =>
      have HE : Hid (ofR p = (⟨[], false, false⟩, 23)) := hid (zAZ (by rw [← zAs]; unfold ofD; rw [HD.out, if_neg (by rw [hM]; simp)]))
      have HF := hid (zAO (x' := .slice none 0 0) (y' := .bool false) (z' := .bool false) HZ5.out)
      have HG := hid (zAV w5 R (.slice none 0 0) (.bool false) (.bool false))
      go_wp2
      refine bodyPost_ret (zAG rfl _ _ R 157 #[.slice none 0 0, .bool false, .bool false] (0, 0) _ rfl HF.out Tryz.underlying157 rfl zAK) rfl ⟨none, 0, 0, by rw [HE.out]; rfl, by rw [HE.out]; exact Vs.nil _ _ _ _ (Nat.zero_le _), HB5.out.trans (zBD HG.out (Nat.le_refl _) (by omega))⟩
     | true =>
      go_wp2_with fail
      refine (zBC (some ⟨g, 0, none⟩) m c PP false true w5 HP5.out HSZ.out).mono ?_
      rintro e w6 ⟨rfl, hb6⟩
      have HQ6 := hid ((hb6.block q (by omega)).trans HQ5.out)
      have HZ6 := hid ((hb6.block R (by omega)).trans HZ5.out)
      have HB6 : Hid (Below R w w6) := hid (HB5.out.trans (hb6.mono (by omega)))
      have hs6 : q + 1 ≤ w6.heap.size := by have := hb6.size; omega
      have HSP6 : Hid (Below q wr w6) := hid (HSP.out.2.1.trans (hb6.mono (by omega)))
      obtain ⟨T, hT⟩ : ∃ T, T = stx ⟨PP, false, true⟩ := ⟨_, rfl⟩
      rw [← hT]
      have HT := hid hT
      clear hb6 hT y0 y1 y2 z0 z1 z2 f0 f1 f2
      obtain ⟨⟨y0, y1, y2⟩, _⟩ := three HQ6.out
      obtain ⟨⟨z0, z1, z2⟩, f0, f1, f2⟩ := three HZ6.out
      by_cases hTp : T = p
      ·have hcp : True := trivial
       have HE : Hid (ofR p = (⟨PP, false, true⟩, 0)) := hid (zAl (by rw [← zAs]; unfold ofD; rw [HD.out, if_pos ⟨hM, by rw [← HT.out]; exact hTp⟩]))
       have HF := hid (zAO (x' := .slice (some ⟨g, 0, none⟩) m c) (y' := .bool false) (z' := .bool true) HZ6.out)
       have HG := hid (zAV w6 R (.slice (some ⟨g, 0, none⟩) m c) (.bool false) (.bool true))
       have HV : Hid (Ss (((w6.setCell ⟨R, 0, none⟩ (.slice (some ⟨g, 0, none⟩) m c)).setCell ⟨R, 1, none⟩ (.bool false)).setCell ⟨R, 2, none⟩ (.bool true)) (some ⟨g, 0, none⟩) m c PP) := hid (zCj HSP.out.1 HSP6.out HG.out HGR.out (by have := HSP.out.2.2; omega))
       rw [hTp]
       clear hTp hcp
       go_wp2
       refine bodyPost_ret (zAG rfl _ _ R 157 #[.slice (some ⟨g, 0, none⟩) m c, .bool false, .bool true] (0, 0) _ rfl HF.out Tryz.underlying157 rfl zAK) rfl ⟨some ⟨g, 0, none⟩, m, c, by rw [HE.out]; rfl, by rw [HE.out]; exact HV.out, HB6.out.trans (zBD HG.out (Nat.le_refl _) (by omega))⟩
      ·have hcp : ((mk T).toList != (mk p).toList) = true := by rw [mk_toList, mk_toList]; simpa using hTp
       have hcp2 : ((mk T).toList == (mk p).toList) = false := by rw [mk_toList, mk_toList]; simpa using hTp
       have hcp3 : ¬ (mk T).toList = (mk p).toList := by rw [mk_toList, mk_toList]; exact hTp
       have HE : Hid (ofR p = (⟨[], false, false⟩, 23)) := hid (zAZ (by rw [← zAs]; unfold ofD; rw [HD.out, if_neg (fun hh => hTp (by rw [HT.out]; exact hh.2))]))
       have HF := hid (zAO (x' := .slice none 0 0) (y' := .bool false) (z' := .bool false) HZ6.out)
       have HG := hid (zAV w6 R (.slice none 0 0) (.bool false) (.bool false))
       clear hTp
       go_wp2
       refine bodyPost_ret (zAG rfl _ _ R 157 #[.slice none 0 0, .bool false, .bool false] (0, 0) _ rfl HF.out Tryz.underlying157 rfl zAK) rfl ⟨none, 0, 0, by rw [HE.out]; rfl, by rw [HE.out]; exact Vs.nil _ _ _ _ (Nat.zero_le _), HB6.out.trans (zBD HG.out (Nat.le_refl _) (by omega))⟩
    | false =>
     have hcy : ((mk y).toList == []) = false := by rw [mk_toList]; exact hy
     obtain ⟨PP, hPP⟩ : ∃ PP, PP = cuts p := ⟨_, rfl⟩
     have HPS : Hid (Ss wr (some ⟨g, 0, none⟩) (m + 1) c PP) := hid (by rw [hPP]; exact HF0.out.1)
     have HD : Hid (dD (cuts p) = ⟨PP, false, false⟩) := hid (by
      have hb : rB (Q ++ [y]) = false := by
       unfold rB
       rw [show (Q ++ [y]).getLastD [] = y by simp [List.getLastD_eq_getLast?], hy, Bool.and_false]
      have h2 := HF0.out.2.2
      have h3 := HF0.out.2.1
      rw [← HQY.out.1] at hb
      unfold dD; rw [h3, h2, hb, hPP]; simp)
     have HSZ : Hid ((stx ⟨PP, false, false⟩).length ≤ 100000) := hid (by rw [← HD.out]; exact HSD.out)
     clear hPP
     obtain ⟨q, hq⟩ : ∃ q, q = wr.heap.size := ⟨_, rfl⟩
     obtain ⟨wq, hwq⟩ : ∃ wq, wq = wr.alloc (.cells #[.slice (some ⟨g, 0, none⟩) (m + 1) c, .bool false, .bool false] 157) := ⟨_, rfl⟩
     have hsq : wq.heap.size = q + 1 := by rw [hwq, hq]; simp
     have HQ : Hid (wq.heap[q]? = some (.cells #[.slice (some ⟨g, 0, none⟩) (m + 1) c, .bool false, .bool false] 157 (0, 0))) := hid (by rw [hwq, hq]; exact heap_alloc_new wr _)
     have HBQ : Hid (Below q wr wq) := hid (by rw [hwq, hq]; exact (Below.refl _ _).alloc (Nat.le_refl _) _)
     have HPQ : Hid (Ss wq (some ⟨g, 0, none⟩) (m + 1) c PP) := hid (Vs.below HPS.out (by rw [← hq]; exact HBQ.out))
     have HZQ : Hid (wq.heap[R]? = some (.cells #[.slice none 0 0, .bool false, .bool false] 157 (0, 0))) := hid ((HBQ.out.block R (by omega)).trans HZW.out)
     have HBW : Hid (Below R w wq) := hid (HB2.out.trans ((HB.out.mono (by omega)).trans (HBQ.out.mono (by omega))))
     have hRq : R < q := by omega
     have HQQ := hid hq
     go_wp2_with fail
     rw [← hwq, ← hq]
     clear hwq hq hcl0 hcl2 hsl0
     refine (zCi (some ⟨g, 0, none⟩) (m + 1) c PP false false wq HPQ.out HSZ.out).mono ?_
     rintro e w5 ⟨rfl, hb5⟩
     rw [hsq] at hb5
     have HQ5 := hid ((hb5.block q (by omega)).trans HQ.out)
     have HZ5 := hid ((hb5.block R (by omega)).trans HZQ.out)
     have HP5 : Hid (Ss w5 (some ⟨g, 0, none⟩) (m + 1) c PP) := hid (Vs.below HPQ.out (by rw [hsq]; exact hb5))
     have HB5 : Hid (Below R w w5) := hid (HBW.out.trans (hb5.mono (by omega)))
     have hs5 : q + 1 ≤ w5.heap.size := by have := hb5.size; omega
     have HSP : Hid (Vs 1 wr (some ⟨g, 0, none⟩) (m + 1) c (PP.map enS) ∧ Below q wr w5 ∧ q = wr.heap.size) := hid ⟨HPS.out, HBQ.out.trans (hb5.mono (by omega)), HQQ.out⟩
     obtain ⟨⟨y0, y1, y2⟩, _⟩ := three HQ5.out
     obtain ⟨⟨z0, z1, z2⟩, f0, f1, f2⟩ := three HZ5.out
     clear hb5
     cases hM : shD ⟨PP, false, false⟩ with
     | false =>
      have HE : Hid (ofR p = (⟨[], false, false⟩, 23)) := hid (zAZ (by rw [← zAs]; unfold ofD; rw [HD.out, if_neg (by rw [hM]; simp)]))
      have HF := hid (zAO (x' := .slice none 0 0) (y' := .bool false) (z' := .bool false) HZ5.out)
      have HG := hid (zAV w5 R (.slice none 0 0) (.bool false) (.bool false))
      go_wp2
      refine bodyPost_ret (zAG rfl _ _ R 157 #[.slice none 0 0, .bool false, .bool false] (0, 0) _ rfl HF.out Tryz.underlying157 rfl zAK) rfl ⟨none, 0, 0, by rw [HE.out]; rfl, by rw [HE.out]; exact Vs.nil _ _ _ _ (Nat.zero_le _), HB5.out.trans (zBD HG.out (Nat.le_refl _) (by omega))⟩
     | true =>
      go_wp2_with fail
      refine (zBC (some ⟨g, 0, none⟩) (m + 1) c PP false false w5 HP5.out HSZ.out).mono ?_
      rintro e w6 ⟨rfl, hb6⟩
      have HQ6 := hid ((hb6.block q (by omega)).trans HQ5.out)
      have HZ6 := hid ((hb6.block R (by omega)).trans HZ5.out)
      have HB6 : Hid (Below R w w6) := hid (HB5.out.trans (hb6.mono (by omega)))
      have hs6 : q + 1 ≤ w6.heap.size := by have := hb6.size; omega
      have HSP6 : Hid (Below q wr w6) := hid (HSP.out.2.1.trans (hb6.mono (by omega)))
      obtain ⟨T, hT⟩ : ∃ T, T = stx ⟨PP, false, false⟩ := ⟨_, rfl⟩
      rw [← hT]
      have HT := hid hT
      clear hb6 hT y0 y1 y2 z0 z1 z2 f0 f1 f2
      obtain ⟨⟨y0, y1, y2⟩, _⟩ := three HQ6.out
      obtain ⟨⟨z0, z1, z2⟩, f0, f1, f2⟩ := three HZ6.out
      by_cases hTp : T = p
      ·have hcp : True := trivial
       have HE : Hid (ofR p = (⟨PP, false, false⟩, 0)) := hid (zAl (by rw [← zAs]; unfold ofD; rw [HD.out, if_pos ⟨hM, by rw [← HT.out]; exact hTp⟩]))
       have HF := hid (zAO (x' := .slice (some ⟨g, 0, none⟩) (m + 1) c) (y' := .bool false) (z' := .bool false) HZ6.out)
       have HG := hid (zAV w6 R (.slice (some ⟨g, 0, none⟩) (m + 1) c) (.bool false) (.bool false))
       have HV : Hid (Ss (((w6.setCell ⟨R, 0, none⟩ (.slice (some ⟨g, 0, none⟩) (m + 1) c)).setCell ⟨R, 1, none⟩ (.bool false)).setCell ⟨R, 2, none⟩ (.bool false)) (some ⟨g, 0, none⟩) (m + 1) c PP) := hid (zCj HSP.out.1 HSP6.out HG.out HGR.out (by have := HSP.out.2.2; omega))
       rw [hTp]
       clear hTp hcp
       go_wp2
       refine bodyPost_ret (zAG rfl _ _ R 157 #[.slice (some ⟨g, 0, none⟩) (m + 1) c, .bool false, .bool false] (0, 0) _ rfl HF.out Tryz.underlying157 rfl zAK) rfl ⟨some ⟨g, 0, none⟩, (m + 1), c, by rw [HE.out]; rfl, by rw [HE.out]; exact HV.out, HB6.out.trans (zBD HG.out (Nat.le_refl _) (by omega))⟩
      ·have hcp : ((mk T).toList != (mk p).toList) = true := by rw [mk_toList, mk_toList]; simpa using hTp
       have hcp2 : ((mk T).toList == (mk p).toList) = false := by rw [mk_toList, mk_toList]; simpa using hTp
       have hcp3 : ¬ (mk T).toList = (mk p).toList := by rw [mk_toList, mk_toList]; exact hTp
       have HE : Hid (ofR p = (⟨[], false, false⟩, 23)) := hid (zAZ (by rw [← zAs]; unfold ofD; rw [HD.out, if_neg (fun hh => hTp (by rw [HT.out]; exact hh.2))]))
       have HF := hid (zAO (x' := .slice none 0 0) (y' := .bool false) (z' := .bool false) HZ6.out)
       have HG := hid (zAV w6 R (.slice none 0 0) (.bool false) (.bool false))
       clear hTp
       go_wp2
       refine bodyPost_ret (zAG rfl _ _ R 157 #[.slice none 0 0, .bool false, .bool false] (0, 0) _ rfl HF.out Tryz.underlying157 rfl zAK) rfl ⟨none, 0, 0, by rw [HE.out]; rfl, by rw [HE.out]; exact Vs.nil _ _ _ _ (Nat.zero_le _), HB6.out.trans (zBD HG.out (Nat.le_refl _) (by omega))⟩
end
end Go.Proofs.YtcjbhdgjcpnklaaGreatDoor
