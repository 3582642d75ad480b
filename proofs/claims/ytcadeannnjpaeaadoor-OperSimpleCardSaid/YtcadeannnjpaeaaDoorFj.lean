/- The law OperSimple. -/
import Derived.Test.YtcadeannnjpaeaaDoorFe
namespace Go.Proofs.YtcadeannnjpaeaaDoor
open Go.RowKit

theorem kind_cell {w : World} {b : Nat} (h : w.heap[b]? = some (.cells #[.string ⟨#[120, 102, 120]⟩, .string ⟨#[120, 102, 121]⟩, .string ⟨#[121, 102, 120]⟩, .string ⟨#[102, 120]⟩, .string ⟨#[102, 121]⟩, .string ⟨#[120, 102]⟩, .string ⟨#[121, 102]⟩] 32 (0, 0))) (q : Nat) (hq : q < 7) : w.cell? ⟨b, q, none⟩ = some (.string (mk (kd q).1)) := by
  rw [cell_of_row w b q _ _ _ h]
  obtain rfl | rfl | rfl | rfl | rfl | rfl | rfl : q = 0 ∨ q = 1 ∨ q = 2 ∨ q = 3 ∨ q = 4 ∨ q = 5 ∨ q = 6 := by omega
  all_goals rfl
/-- What the ends of a kind's name say. -/
theorem kind_ends : ∀ i, i < 7 → (ub (kd i).1 0 != 102) = (kd i).2.1 ∧ (ub (kd i).1 ((kd i).1.length - 1) != 102) = (kd i).2.2.1 ∧ (kd i).2.2.2 = (if ub (kd i).1 ((kd i).1.length - 1) = 121 then 2 else if ub (kd i).1 0 = 121 then 1 else 0) ∧ (0 < (kd i).1.length ∧ (kd i).1.length ≤ 3) ∧ ((kd i).2.1 = true ∨ (kd i).2.2.1 = true) ∧ sdB ⟨[], (kd i).2.1, (kd i).2.2.1⟩ (kd i).2.2.2 = true := by decide +kernel

theorem low_snoc {N : Nm} (h : lowN N) {u : Nat} (hu : u ≤ 25) : lowN (N ++ [UInt8.ofNat (97 + u)]) := by
  refine ⟨by simp, fun c hc => ?_⟩
  rcases List.mem_append.1 hc with h1 | h1
  · exact h.2 c h1
  · rw [List.mem_singleton.1 h1, UInt8.toNat_ofNat']
    omega
theorem low_n : lowN [110] := ⟨by simp, fun c hc => by rw [List.mem_singleton.1 hc]; decide⟩
theorem bstr_one (u : Nat) : bstr [97 + (u : Int)] = mk [UInt8.ofNat (97 + u)] := by
  unfold bstr
  rw [List.map_singleton, show (97 + (u : Int)).toNat = 97 + u from by omega]
  rfl

set_option maxRecDepth 20000 in
set_option maxHeartbeats 16000000 in
theorem operSimple_any (x : Int) (a : Option Addr) (len cap : Nat) (l : List Int) (y : Int) (w : World) (hs : Bs w a len cap l) (ht : Tab w) (hk : TabK w) (hx : 0 ≤ x ∧ x ≤ 255) (hy : 0 ≤ y ∧ y ≤ 255) :
    Calls Tryd.prog 4 #[.int .u8 x, .slice a len cap, .int .u8 y] w fun e w' => e = .returned (.bool true) ∧ Below w.heap.size w w' := by
  have HT := Lib.hid ht
  have HK := Lib.hid hk
  have HS := Lib.hid hs
  have hlm := hs.lt
  unfold maxLen at hlm
  clear ht hk hs
  obtain ⟨r, hr⟩ : ∃ r, r = x.toNat % 7 := ⟨_, rfl⟩
  have hr7 : r < 7 := by omega
  have hxr : Int.tmod x 7 = (r : Int) := by rw [Int.tmod_eq_emod_of_nonneg hx.1]; omega
  have hri : (0 : Int) ≤ (r : Int) ∧ (r : Int) < 7 := by omega
  clear hr
  obtain ⟨y9, hy9⟩ : ∃ z, Int.tmod y 9 = z := ⟨_, rfl⟩
  have hyr : 0 ≤ y9 ∧ y9 ≤ 8 := by rw [← hy9, Int.tmod_eq_emod_of_nonneg hy.1]; omega
  have HCELL : Hid (∀ (w : World) (b : Nat), w.heap[b]? = some (.cells #[.string ⟨#[120, 102, 120]⟩, .string ⟨#[120, 102, 121]⟩, .string ⟨#[121, 102, 120]⟩, .string ⟨#[102, 120]⟩, .string ⟨#[102, 121]⟩, .string ⟨#[120, 102]⟩, .string ⟨#[121, 102]⟩] 32 (0, 0)) → w.cell? ⟨b, r, none⟩ = some (.string (mk (kd r).1))) := Lib.hid fun w b h => kind_cell h r hr7
  have HSIM : Hid (∀ N : Nm, lowN N → simV (kd r).1 N = (hol (kd r).2.1 ++ N ++ hol (kd r).2.2.1, (kd r).2.2.2, 0)) := Lib.hid fun N h => simV_good hr7 (beq_self_eq_true _) (by
    rw [show N.contains 95 = false from by simpa using low_no h, Bool.or_false]
    exact beq_eq_false_iff_ne.2 h.1)
  obtain ⟨e1, e2, e3, ⟨e4, e5⟩, e6, e7⟩ := kind_ends r hr7
  have HIX : Hid (∀ (w : World) (j : Nat), j < (kd r).1.length → (Instr.index 9 (.string (mk (kd r).1)) (.int .i64 j)).run Tryd.prog w = .ok (.int .u8 (ub (kd r).1 j)) w) := Lib.hid fun w j h => run_ix w _ j h
  have hms := mk_size (kd r).1
  obtain ⟨kk, hkk⟩ : ∃ k, k = (kd r).1 := ⟨_, rfl⟩
  obtain ⟨ka, hka⟩ : ∃ k, k = (kd r).2.1 := ⟨_, rfl⟩
  obtain ⟨kb, hkb⟩ : ∃ k, k = (kd r).2.2.1 := ⟨_, rfl⟩
  obtain ⟨kc, hkc⟩ : ∃ k, k = (kd r).2.2.2 := ⟨_, rfl⟩
  rw [← hkk, ← hka] at e1
  rw [← hkk, ← hkb] at e2
  rw [← hkk, ← hkc] at e3
  rw [← hkk] at e4 e5 HCELL HIX hms
  rw [← hka, ← hkb] at e6
  rw [← hka, ← hkb, ← hkc] at e7
  rw [← hkk, ← hka, ← hkb, ← hkc] at HSIM
  clear hkk hka hkb hkc
  obtain ⟨L, hL⟩ : ∃ L, kk.length = L + 1 := ⟨kk.length - 1, by omega⟩
  rw [hL] at e5 e2 e3 HIX hms
  rw [Nat.add_sub_cancel] at e2 e3
  obtain ⟨c0, hc0⟩ : ∃ c, c = ub kk 0 := ⟨_, rfl⟩
  obtain ⟨c1, hc1⟩ : ∃ c, c = ub kk L := ⟨_, rfl⟩
  have HI0 : Hid (∀ w : World, (Instr.index 9 (.string (mk kk)) (.int .i64 0)).run Tryd.prog w = .ok (.int .u8 c0) w) := Lib.hid fun w => by rw [hc0]; exact HIX.out w 0 (by omega)
  have HI1 : Hid (∀ w : World, (Instr.index 9 (.string (mk kk)) (.int .i64 (L : Int))).run Tryd.prog w = .ok (.int .u8 c1) w) := Lib.hid fun w => by rw [hc1]; exact HIX.out w L (by omega)
  rw [← hc0] at e1 e3
  rw [← hc1] at e2 e3
  have HE := Lib.hid (And.intro e3 (And.intro e6 e7))
  clear hL hc0 hc1 HIX e3 e4 e6 e7
  go_enter Tryd.func4, Tryd.ntmps4
  go_wp2_with fail
  refine (shown_any w HT.out HK.out).mono ?_
  rintro e w1 ⟨rfl, hb1⟩
  have HW1 := Lib.hid hb1
  clear hb1
  obtain ⟨w2, hw2⟩ : ∃ w2, w2 = w1.alloc (.cells #[.string ⟨#[120, 102, 120]⟩, .string ⟨#[120, 102, 121]⟩, .string ⟨#[121, 102, 120]⟩, .string ⟨#[102, 120]⟩, .string ⟨#[102, 121]⟩, .string ⟨#[120, 102]⟩, .string ⟨#[121, 102]⟩] 32) := ⟨_, rfl⟩
  have hkc := HCELL.out _ _ (heap_alloc_new w1 (.cells #[.string ⟨#[120, 102, 120]⟩, .string ⟨#[120, 102, 121]⟩, .string ⟨#[121, 102, 120]⟩, .string ⟨#[102, 120]⟩, .string ⟨#[102, 121]⟩, .string ⟨#[120, 102]⟩, .string ⟨#[121, 102]⟩] 32))
  have HW2 : Hid (Below w.heap.size w w2) := Lib.hid (by rw [hw2]; exact HW1.out.alloc HW1.out.size _)
  go_wp2_with fail
  rw [← hw2]
  clear hkc hw2
  go_loopw [10, 11] (fun v10 v11 wr => ∃ (i : Nat) (N : Nm), v11 = .int .i64 i ∧ v10 = .string (mk N) ∧ i ≤ 7 ∧ Hid (N.length = i + 1 ∧ lowN N) ∧ Hid (Below w.heap.size w wr)) (fun _ v _ => 7 - (intOf v).toNat)
  case atStart => exact ⟨0, [110], rfl, rfl, by omega, Lib.hid ⟨rfl, low_n⟩, HW2⟩
  case round =>
    obtain ⟨i, N, rfl, rfl, hi, HN, HB⟩ := hrel
    have hnz := mk_size N
    rw [HN.out.1] at hnz
    by_cases hlt : i < len ∧ i < 7
    · have hlt1 : (i : Int) < (len : Int) := by omega
      have hlt2 : (i : Int) < 7 := by omega
      have hS := HS.out.below HB.out
      have hrg := bt_rng hS.rng i
      obtain ⟨bl, off, rfl, _, hcl⟩ := hS.at_ (by omega)
      have hci := hcl i hlt.1
      obtain ⟨u, hu⟩ : ∃ u : Nat, Int.tmod (bt l i) 26 = (u : Int) := ⟨(bt l i).toNat % 26, by rw [Int.tmod_eq_emod_of_nonneg hrg.1]; omega⟩
      have hu25 : u ≤ 25 := by rw [Int.tmod_eq_emod_of_nonneg hrg.1] at hu; omega
      obtain ⟨v, hv⟩ : ∃ v : Int, v = bt l i := ⟨_, rfl⟩
      rw [← hv] at hci hu hrg
      clear hv hcl hS
      have hconv := (Bs.lit wr 5 (mk := (0, 0)) (n := 1) (g := wr.heap.size) (l := [97 + (u : Int)]) (cs := #[.int .u8 (97 + (u : Int))]) rfl (fun z hz => by rw [List.mem_singleton.1 hz]; omega) rfl rfl (show 1 ≤ maxLen by decide)).str (P := Tryd.prog) 31 9 5 Tryd.underlying31 Tryd.underlying5 Tryd.underlying9
      rw [bstr_one] at hconv
      have HLW : Hid (lowN (N ++ [UInt8.ofNat (97 + u)])) := Lib.hid (low_snoc HN.out.2 hu25)
      obtain ⟨c8, hc8⟩ : ∃ c, c = UInt8.ofNat (97 + u) := ⟨_, rfl⟩
      rw [← hc8] at hconv HLW
      clear hc8
      have hm1 : (mk [c8]).size = 1 := mk_size [c8]
      have happ : mk N ++ mk [c8] = mk (N ++ [c8]) := mk_app _ _
      go_wp2
      go_roundw
      case rel => exact ⟨i + 1, N ++ [c8], by go_num, rfl, by omega, Lib.hid ⟨by rw [List.length_append, HN.out.1]; rfl, HLW.out⟩, Lib.hid (HB.out.alloc HB.out.size _)⟩
      case measure => simp [intOf]; omega
    · obtain ⟨Pt, hPt⟩ : ∃ P, P = hol ka ++ N ++ hol kb := ⟨_, rfl⟩
      have HV : Hid (simV kk N = (Pt, kc, 0)) := Lib.hid (by rw [HSIM.out N HN.out.2, hPt])
      have hOF : ofS Pt = some ⟨[N], ka, kb⟩ := by rw [hPt]; exact ofS_low HN.out.2 (by have := HN.out.1; omega) HE.out.2.1
      have HOFR : Hid (ofR Pt = (⟨[N], ka, kb⟩, 0)) := Lib.hid (ofR_some hOF)
      have HMV : Hid (mayV Pt (1 + y9) kc = 0) := Lib.hid (by rw [mayV_some hOF (g := 1 + y9) (by omega) kc, show sdB ⟨[N], ka, kb⟩ kc = true from HE.out.2.2]; rfl)
      have HPL : Hid (Pt.length ≤ 1000000) := Lib.hid (by
        have h1 : ∀ b : Bool, (hol b).length ≤ 1 := by intro b; cases b <;> simp [hol]
        have h2 := h1 ka
        have h3 := h1 kb
        have h4 := HN.out.1
        rw [hPt, List.length_append, List.length_append]
        omega)
      have HIL : Hid (i < len → ¬ i < 7) := Lib.hid fun h h7 => hlt ⟨h, h7⟩
      clear hOF hPt
      by_cases hl : i < len
      · have hl1 : (i : Int) < (len : Int) := by omega
        have h7 : ¬ (i : Int) < 7 := by have := HIL.out hl; omega
        clear hlt
        go_wp2_with fail
        refine (simple_any kk N wr (HK.out.keep HB.out) (by have := HN.out.1; omega)).mono ?_
        rw [HV.out]
        simp only [simT]
        rintro e w5 ⟨rfl, hb5⟩
        have HW5 : Hid (Below w.heap.size w w5) := Lib.hid (HB.out.trans (hb5.mono HB.out.size))
        clear hb5
        go_wp2_with fail
        refine (sof_any Pt w5 (HT.out.keep HW5.out) HPL.out).mono ?_
        rw [HOFR.out]
        simp only [shV]
        rintro e w6 ⟨sa, sn, sc, rfl, hss, hb6⟩
        obtain rfl : 1 = sn := Ss.len hss
        obtain ⟨q, hq⟩ : ∃ q, q = w6.heap.size := ⟨_, rfl⟩
        obtain ⟨w7, hw7⟩ : ∃ w7, w7 = w6.alloc (.cells #[.slice sa 1 sc, .bool ka, .bool kb] 35) := ⟨_, rfl⟩
        have HQ7 : Hid (w7.heap[q]? = some (.cells #[.slice sa 1 sc, .bool ka, .bool kb] 35 (0, 0))) := Lib.hid (by rw [hw7, hq]; exact heap_alloc_new w6 _)
        have HW7 : Hid (Below w.heap.size w w7) := Lib.hid (by
          have h6 : Below w.heap.size w w6 := HW5.out.trans (hb6.mono HW5.out.size)
          rw [hw7]; exact h6.alloc h6.size _)
        have hs7 : Ss w7 sa 1 sc [N] := Vs.below hss (by rw [hw7]; exact (Below.refl _ _).alloc (Nat.le_refl _) _)
        obtain ⟨d, o, rfl, _, _⟩ := hs7.at_ (by omega)
        have hp7 : w7.cell? ⟨d, o, none⟩ = some (.string (mk N)) := Ss.str hs7 (k := 0) (by omega)
        obtain ⟨⟨z0, z1, z2⟩, _⟩ := three HQ7.out
        have hi0 := HI0.out w7
        have hi1 := HI1.out w7
        rw [hw7] at hp7 z0 z1 z2 hi0 hi1
        rw [hq] at z0 z1 z2
        have HQW := Lib.hid (And.intro hq hw7)
        clear hss hb6 hs7 hq hw7
        cases h0 : (c0 == 121) with
        | true =>
          cases h1 : (c1 == 121) with
          | true =>
            have HKC : kc = 2 := HE.out.1.trans (by rw [if_pos (eq_of_beq h1)])
            clear HE
            subst HKC
            go_wp2_with fail
            rw [← HQW.out.2]
            refine (omay_any Pt (1 + y9) 2 w7 (HT.out.keep HW7.out) HPL.out).mono ?_
            rw [HMV.out]
            rintro e w8 ⟨rfl, hb8⟩
            go_wp2
            go_ret
            exact ⟨rfl, HW7.out.trans (hb8.mono HW7.out.size)⟩
          | false =>
            have HKC : kc = 1 := HE.out.1.trans (by rw [if_neg (beq_eq_false_iff_ne.1 h1), if_pos (eq_of_beq h0)])
            clear HE
            subst HKC
            go_wp2_with fail
            rw [← HQW.out.2]
            refine (omay_any Pt (1 + y9) 1 w7 (HT.out.keep HW7.out) HPL.out).mono ?_
            rw [HMV.out]
            rintro e w8 ⟨rfl, hb8⟩
            go_wp2
            go_ret
            exact ⟨rfl, HW7.out.trans (hb8.mono HW7.out.size)⟩
        | false =>
          cases h1 : (c1 == 121) with
          | true =>
            have HKC : kc = 2 := HE.out.1.trans (by rw [if_pos (eq_of_beq h1)])
            clear HE
            subst HKC
            go_wp2_with fail
            rw [← HQW.out.2]
            refine (omay_any Pt (1 + y9) 2 w7 (HT.out.keep HW7.out) HPL.out).mono ?_
            rw [HMV.out]
            rintro e w8 ⟨rfl, hb8⟩
            go_wp2
            go_ret
            exact ⟨rfl, HW7.out.trans (hb8.mono HW7.out.size)⟩
          | false =>
            have HKC : kc = 0 := HE.out.1.trans (by rw [if_neg (beq_eq_false_iff_ne.1 h1), if_neg (beq_eq_false_iff_ne.1 h0)])
            clear HE
            subst HKC
            go_wp2_with fail
            rw [← HQW.out.2]
            refine (omay_any Pt (1 + y9) 0 w7 (HT.out.keep HW7.out) HPL.out).mono ?_
            rw [HMV.out]
            rintro e w8 ⟨rfl, hb8⟩
            go_wp2
            go_ret
            exact ⟨rfl, HW7.out.trans (hb8.mono HW7.out.size)⟩
      · have hl1 : ¬ (i : Int) < (len : Int) := by omega
        clear hlt
        go_wp2_with fail
        refine (simple_any kk N wr (HK.out.keep HB.out) (by have := HN.out.1; omega)).mono ?_
        rw [HV.out]
        simp only [simT]
        rintro e w5 ⟨rfl, hb5⟩
        have HW5 : Hid (Below w.heap.size w w5) := Lib.hid (HB.out.trans (hb5.mono HB.out.size))
        clear hb5
        go_wp2_with fail
        refine (sof_any Pt w5 (HT.out.keep HW5.out) HPL.out).mono ?_
        rw [HOFR.out]
        simp only [shV]
        rintro e w6 ⟨sa, sn, sc, rfl, hss, hb6⟩
        obtain rfl : 1 = sn := Ss.len hss
        obtain ⟨q, hq⟩ : ∃ q, q = w6.heap.size := ⟨_, rfl⟩
        obtain ⟨w7, hw7⟩ : ∃ w7, w7 = w6.alloc (.cells #[.slice sa 1 sc, .bool ka, .bool kb] 35) := ⟨_, rfl⟩
        have HQ7 : Hid (w7.heap[q]? = some (.cells #[.slice sa 1 sc, .bool ka, .bool kb] 35 (0, 0))) := Lib.hid (by rw [hw7, hq]; exact heap_alloc_new w6 _)
        have HW7 : Hid (Below w.heap.size w w7) := Lib.hid (by
          have h6 : Below w.heap.size w w6 := HW5.out.trans (hb6.mono HW5.out.size)
          rw [hw7]; exact h6.alloc h6.size _)
        have hs7 : Ss w7 sa 1 sc [N] := Vs.below hss (by rw [hw7]; exact (Below.refl _ _).alloc (Nat.le_refl _) _)
        obtain ⟨d, o, rfl, _, _⟩ := hs7.at_ (by omega)
        have hp7 : w7.cell? ⟨d, o, none⟩ = some (.string (mk N)) := Ss.str hs7 (k := 0) (by omega)
        obtain ⟨⟨z0, z1, z2⟩, _⟩ := three HQ7.out
        have hi0 := HI0.out w7
        have hi1 := HI1.out w7
        rw [hw7] at hp7 z0 z1 z2 hi0 hi1
        rw [hq] at z0 z1 z2
        have HQW := Lib.hid (And.intro hq hw7)
        clear hss hb6 hs7 hq hw7
        cases h0 : (c0 == 121) with
        | true =>
          cases h1 : (c1 == 121) with
          | true =>
            have HKC : kc = 2 := HE.out.1.trans (by rw [if_pos (eq_of_beq h1)])
            clear HE
            subst HKC
            go_wp2_with fail
            rw [← HQW.out.2]
            refine (omay_any Pt (1 + y9) 2 w7 (HT.out.keep HW7.out) HPL.out).mono ?_
            rw [HMV.out]
            rintro e w8 ⟨rfl, hb8⟩
            go_wp2
            go_ret
            exact ⟨rfl, HW7.out.trans (hb8.mono HW7.out.size)⟩
          | false =>
            have HKC : kc = 1 := HE.out.1.trans (by rw [if_neg (beq_eq_false_iff_ne.1 h1), if_pos (eq_of_beq h0)])
            clear HE
            subst HKC
            go_wp2_with fail
            rw [← HQW.out.2]
            refine (omay_any Pt (1 + y9) 1 w7 (HT.out.keep HW7.out) HPL.out).mono ?_
            rw [HMV.out]
            rintro e w8 ⟨rfl, hb8⟩
            go_wp2
            go_ret
            exact ⟨rfl, HW7.out.trans (hb8.mono HW7.out.size)⟩
        | false =>
          cases h1 : (c1 == 121) with
          | true =>
            have HKC : kc = 2 := HE.out.1.trans (by rw [if_pos (eq_of_beq h1)])
            clear HE
            subst HKC
            go_wp2_with fail
            rw [← HQW.out.2]
            refine (omay_any Pt (1 + y9) 2 w7 (HT.out.keep HW7.out) HPL.out).mono ?_
            rw [HMV.out]
            rintro e w8 ⟨rfl, hb8⟩
            go_wp2
            go_ret
            exact ⟨rfl, HW7.out.trans (hb8.mono HW7.out.size)⟩
          | false =>
            have HKC : kc = 0 := HE.out.1.trans (by rw [if_neg (beq_eq_false_iff_ne.1 h1), if_neg (beq_eq_false_iff_ne.1 h0)])
            clear HE
            subst HKC
            go_wp2_with fail
            rw [← HQW.out.2]
            refine (omay_any Pt (1 + y9) 0 w7 (HT.out.keep HW7.out) HPL.out).mono ?_
            rw [HMV.out]
            rintro e w8 ⟨rfl, hb8⟩
            go_wp2
            go_ret
            exact ⟨rfl, HW7.out.trans (hb8.mono HW7.out.size)⟩

end Go.Proofs.YtcadeannnjpaeaaDoor
