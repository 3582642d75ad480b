/- The document's End and Kids; the law's own same. -/
import Derived.Test.YtkaeanaeklilfaaGreatDoorXc
import Derived.Deep.QuietTactic
import Derived.BigQuiet
namespace Go.Proofs.YtkaeanaeklilfaaGreatDoor
open Go.RowKit

theorem skp_more {l : List ND} {m k p : Nat} (hk : k < m) (hp : skp l k = some p) (h1 : skp (l.drop p) 1 = none) : skp l m = none := by
  cases hm : skp l m with
  | none => rfl
  | some P =>
    obtain ⟨q, hq, _⟩ := skp_next hm hk hp
    rw [hq] at h1; cases h1

set_option maxRecDepth 20000 in
set_option maxHeartbeats 4000000 in
theorem rend_rec (a : Option Addr) (n c : Nat) (T : List ND) (hn : n ≤ 1000000) : ∀ (m : Nat) (i : Int) (w : World), NdS w a n c T → -9223372036854775808 ≤ i ∧ i ≤ 9223372036854775807 → (n : Int) - i ≤ m →
    Calls Tryz.prog 21 #[.slice a n c, .int .i64 i] w fun e w' => e = .returned (.int .i64 (endV T i)) ∧ w = w' := by
  intro m
  induction m with
  | zero =>
    intro i w h hi hm
    have HL := Lib.hid (NdS.len h)
    have hin : (n : Int) ≤ i := by omega
    have HV : Hid (endV T i = -1) := Lib.hid (by
      obtain ⟨q, rfl⟩ : ∃ q : Nat, i = q := ⟨i.toNat, by omega⟩
      exact end_past (by rw [HL.out]; omega))
    rw [HV.out]
    have hi0 : ¬ i < 0 := by omega
    clear h hm
    go_enter Tryz.func21, Tryz.ntmps21
    go_wp2
    go_ret
    exact ⟨rfl, rfl⟩
  | succ m ih =>
    intro i w h hi hm
    have HL := Lib.hid (NdS.len h)
    have H := Lib.hid h
    clear h
    by_cases h0 : i < 0
    · rw [end_neg h0]
      clear ih
      go_enter Tryz.func21, Tryz.ntmps21
      go_wp2
      go_ret
      exact ⟨rfl, rfl⟩
    · by_cases hin : (n : Int) ≤ i
      · have HV : Hid (endV T i = -1) := Lib.hid (by
          obtain ⟨q, rfl⟩ : ∃ q : Nat, i = q := ⟨i.toNat, by omega⟩
          exact end_past (by rw [HL.out]; omega))
        rw [HV.out]
        clear ih
        go_enter Tryz.func21, Tryz.ntmps21
        go_wp2
        go_ret
        exact ⟨rfl, rfl⟩
      · obtain ⟨q, rfl⟩ : ∃ q : Nat, i = q := ⟨i.toNat, by omega⟩
        have hqn : q < n := by omega
        have hqn' : (q : Int) < (n : Int) := by omega
        have hqi : ¬ (n : Int) ≤ (q : Int) := hin
        have HE := Lib.hid (end_node (T := T) (i := q) (by rw [HL.out]; exact hqn))
        have IH : Hid (∀ (p : Nat) (w' : World), Below w.heap.size w w' → q + 1 + p ≤ 10000000 → Calls Tryz.prog 21 #[.slice a n c, .int .i64 ((q + 1 + p : Nat) : Int)] w' fun e w'' => e = .returned (.int .i64 (endV T ((q + 1 + p : Nat) : Int))) ∧ w' = w'') := Lib.hid fun p w' hb hp => ih _ w' (H.out.below hb) (by omega) (by omega)
        obtain ⟨x, hx⟩ : ∃ x, x = (nA T q).c := ⟨_, rfl⟩
        obtain ⟨mk_, hmk⟩ : ∃ m, m = (nA T q).c.toNat := ⟨_, rfl⟩
        have HX := Lib.hid hx
        have HMX : Hid (∀ k : Nat, ((k : Int) < x ↔ k < mk_)) := Lib.hid fun k => by rw [hmk, ← hx]; omega
        obtain ⟨V, hV⟩ : ∃ V, V = endV T q := ⟨_, rfl⟩
        have HV : Hid (V = match skp (T.drop (q + 1)) mk_ with | some p => ((q + 1 + p : Nat) : Int) | none => -1) := Lib.hid (by rw [hV, HE.out, hmk]; rfl)
        rw [← hV]
        obtain ⟨R, hR⟩ : ∃ R, R = T.drop (q + 1) := ⟨_, rfl⟩
        have HR := Lib.hid hR
        rw [← hR] at HV
        clear ih hin hm hx hmk hV hR h0 HE
        go_enter Tryz.func21, Tryz.ntmps21
        go_wp2
        go_loopw [5, 6] (fun u v wr => ∃ (k p : Nat), u = .int .i64 ((q + 1 + p : Nat) : Int) ∧ v = .int .i64 (k : Int) ∧ k ≤ mk_ ∧ Hid (skp R k = some p) ∧ wr = w) (fun _ v _ => mk_ - (intOf v).toNat)
        case atStart => exact ⟨0, 0, by go_num, rfl, by omega, Lib.hid (skp_zero _), rfl⟩
        case round =>
          obtain ⟨k, p, rfl, rfl, hk, HS, rfl⟩ := hrel
          obtain ⟨b, o, rfl, _, hc⟩ := H.out.at_ (by omega)
          clear hc
          have c4 := (NdS.at5 H.out hqn).2.2.2.2
          rw [← HX.out] at c4
          have hpl : q + 1 + p ≤ n := by
            have := skp_le _ _ _ HS.out
            rw [HR.out, List.length_drop, HL.out] at this
            omega
          obtain ⟨at_, hat⟩ : ∃ t, t = q + 1 + p := ⟨_, rfl⟩
          have HAT := Lib.hid hat
          rw [← hat]
          have hatn : at_ ≤ 1000000 := by omega
          have hkb : k ≤ 1000000 := by
            have h1 := skp_ge _ _ _ HS.out
            omega
          clear hat hpl
          by_cases hlt : k < mk_
          · have hxk := (HMX.out k).2 hlt
            have KC : Hid (Calls Tryz.prog 21 #[.slice (some ⟨b, o, none⟩) n c, .int .i64 (at_ : Int)] wr fun e w'' => e = .returned (.int .i64 (endV T (at_ : Int))) ∧ wr = w'') := Lib.hid (by rw [HAT.out]; exact IH.out p wr (Below.refl _ _) (by have := HAT.out; omega))
            obtain ⟨e0, he0⟩ : ∃ e, e = endV T (at_ : Int) := ⟨_, rfl⟩
            rw [← he0] at KC
            have HEV : Hid ((e0 < 0 → V = -1) ∧ (0 ≤ e0 → ∃ p' : Nat, e0 = ((q + 1 + p' : Nat) : Int) ∧ skp R (k + 1) = some p')) := Lib.hid (by
              rw [he0, HAT.out, end_nat, ← List.drop_drop, ← HR.out]
              cases h1 : skp (R.drop p) 1 with
              | none =>
                refine ⟨fun _ => ?_, fun h => absurd h (show ¬ (0 : Int) ≤ -1 by decide)⟩
                rw [HV.out, skp_more hlt HS.out h1]
              | some r =>
                refine ⟨fun h => ?_, fun _ => ⟨p + r, ?_, ?_⟩⟩
                · simp only [] at h
                  omega
                · simp only []; omega
                · rw [skp_add, HS.out, Option.bind_some, h1]; rfl)
            clear he0
            go_wp2_with fail
            refine KC.out.mono ?_
            rintro e w1 ⟨rfl, rfl⟩
            by_cases hneg : e0 < 0
            · have hv := HEV.out.1 hneg
              subst hv
              go_wp2
              go_ret
              exact ⟨rfl, rfl⟩
            · obtain ⟨p', rfl, hs'⟩ := HEV.out.2 (by omega)
              have HS' := Lib.hid hs'
              clear HEV hs' KC
              go_wp2
              go_roundw
              case rel => exact ⟨k + 1, p', rfl, by go_num, by omega, HS', trivial⟩
              case measure => simp [intOf]; omega
          · have hxk : ¬ (k : Int) < x := fun h => hlt ((HMX.out k).1 h)
            have hv : V = (at_ : Int) := by
              have : k = mk_ := by omega
              rw [HV.out, ← this, HS.out, HAT.out]
            subst hv
            go_wp2
            go_ret
            exact ⟨rfl, rfl⟩
theorem rend_any (a : Option Addr) (n c : Nat) (T : List ND) (i : Int) (w : World) (h : NdS w a n c T) (hn : n ≤ 1000000) (hi : -9223372036854775808 ≤ i ∧ i ≤ 9223372036854775807) :
    Calls Tryz.prog 21 #[.slice a n c, .int .i64 i] w fun e w' => e = .returned (.int .i64 (endV T i)) ∧ w = w' :=
  rend_rec a n c T hn ((n : Int) - i).toNat i w h hi (by omega)

set_option maxRecDepth 20000 in
set_option maxHeartbeats 4000000 in
theorem rkids_any (a : Option Addr) (n c : Nat) (T : List ND) (i : Int) (w : World) (h : NdS w a n c T) (hn : n ≤ 1000000) (hi : -9223372036854775808 ≤ i ∧ i ≤ 9223372036854775807) :
    Calls Tryz.prog 19 #[.slice a n c, .int .i64 i] w fun e w' => ∃ a' c', e = .returned (.slice a' (kidV T i).length c') ∧ Vs 1 w' a' (kidV T i).length c' (iV (kidV T i)) ∧ Below w.heap.size w w' := by
  have HL := Lib.hid (NdS.len h)
  have H := Lib.hid h
  have HE : Hid (∀ (j : Int) (w' : World), Below w.heap.size w w' → -9223372036854775808 ≤ j ∧ j ≤ 9223372036854775807 → Calls Tryz.prog 21 #[.slice a n c, .int .i64 j] w' fun e w'' => e = .returned (.int .i64 (endV T j)) ∧ w' = w'') := Lib.hid fun j w' hb hj => rend_any a n c T j w' (h.below hb) hn hj
  clear h
  obtain ⟨V, hV⟩ : ∃ V, V = endV T i := ⟨_, rfl⟩
  have HV := Lib.hid hV
  have HE0 : Hid (∀ w', Below w.heap.size w w' → Calls Tryz.prog 21 #[.slice a n c, .int .i64 i] w' fun e w'' => e = .returned (.int .i64 V) ∧ w' = w'') := Lib.hid fun w' hb => by rw [hV]; exact HE.out i w' hb hi
  clear hV
  go_enter Tryz.func19, Tryz.ntmps19
  go_wp2_with fail
  obtain ⟨W, hW⟩ : ∃ q, q = w.alloc (.cells #[] 3) := ⟨_, rfl⟩
  have HBW : Hid (Below w.heap.size w W) := Lib.hid (by rw [hW]; exact below_alloc w _)
  have HOW : Hid (OwnV w.heap.size 3 1 W (some ⟨w.heap.size, 0, none⟩) 0 0 []) := Lib.hid (by rw [hW]; exact OwnV.emptyAt (heap_alloc_new w _) (Nat.le_refl _))
  rw [← hW]
  refine (HE0.out W HBW.out).mono ?_
  rintro e w1 ⟨rfl, rfl⟩
  clear hW HE0
  by_cases hneg : V < 0
  · go_wp2
    go_ret
    have hk : kidV T i = [] := kid_neg (by rw [← HV.out]; exact hneg)
    rw [hk]
    exact ⟨_, 0, rfl, HOW.out.vs, HBW.out⟩
  · have hi0 : 0 ≤ i := by
      by_cases hi : 0 ≤ i
      · exact hi
      · rw [HV.out, end_neg (by omega)] at hneg; exact absurd (by decide) hneg
    obtain ⟨q, rfl⟩ : ∃ q : Nat, i = q := ⟨i.toNat, by omega⟩
    have hE : ¬ endV T q < 0 := by rw [← HV.out]; exact hneg
    obtain ⟨hqT, P, hP, hPl⟩ := kid_skp hE
    have hqn : q < n := by rw [← HL.out]; exact hqT
    have hPn : q + 1 + P ≤ n := by rw [← HL.out]; exact hPl
    have hge := skp_ge _ _ _ hP
    have HK : Hid (kidV T q = plN (nA T q).c.toNat (T.drop (q + 1)) (q + 1) ∧ (kidV T q).length = (nA T q).c.toNat) := Lib.hid ⟨kid_pos hE, by rw [kid_pos hE, pl_len _ _ _ _ hP]⟩
    obtain ⟨m, hm⟩ : ∃ m, m = (nA T q).c.toNat := ⟨_, rfl⟩
    rw [← hm] at hP HK hge
    have HP := Lib.hid hP
    obtain ⟨x, hx⟩ : ∃ x, x = (nA T q).c := ⟨_, rfl⟩
    have hmx : ∀ k : Nat, ((k : Int) < x ↔ k < m) := fun k => by rw [hm, ← hx]; omega
    have HX := Lib.hid hx
    have HMX := Lib.hid hmx
    clear hm hx hP hPl hqT hE hmx hi0 HV
    go_wp2
    go_loopw [5, 6, 7] (fun u v t wr => ∃ (k p : Nat) (a' : Option Addr) (c' : Nat), u = .slice a' k c' ∧ v = .int .i64 ((q + 1 + p : Nat) : Int) ∧ t = .int .i64 (k : Int) ∧ k ≤ m ∧ Hid (skp (T.drop (q + 1)) k = some p) ∧ Hid (OwnV w.heap.size 3 1 wr a' k c' (iV (plN k (T.drop (q + 1)) (q + 1)))) ∧ Hid (Below w.heap.size w wr)) (fun _ _ t _ => m - (intOf t).toNat)
    case atStart => exact ⟨0, 0, _, 0, rfl, by go_num, rfl, by omega, Lib.hid (skp_zero _), HOW, HBW⟩
    case round =>
      obtain ⟨k, p, a', c', rfl, rfl, rfl, hk, HS, HO, HB⟩ := hrel
      have hb := H.out.below HB.out
      obtain ⟨b, o, rfl, _, hc⟩ := hb.at_ (by omega)
      clear hc
      have c4 := (NdS.at5 hb hqn).2.2.2.2
      rw [← HX.out] at c4
      clear hb
      by_cases hlt : k < m
      · have hxk := (HMX.out k).2 hlt
        obtain ⟨r, hr1, hr2⟩ := skp_next HP.out hlt HS.out
        have hpr : q + 1 + p + r ≤ n := by
          have := skp_le _ _ _ hr2
          rw [List.length_drop, HL.out] at this
          omega
        have HR2 := Lib.hid hr2
        have HEV : Hid (endV T ((q + 1 + p : Nat) : Int) = ((q + 1 + (p + r) : Nat) : Int)) := Lib.hid (by
          rw [end_nat, ← List.drop_drop, hr1]
          show ((q + 1 + p : Nat) : Int) + (r : Int) = _
          omega)
        have HSN : Hid (iV (plN (k + 1) (T.drop (q + 1)) (q + 1)) = iV (plN k (T.drop (q + 1)) (q + 1)) ++ [.int .i64 ((q + 1 + p : Nat) : Int)]) := Lib.hid (by rw [pl_snoc _ _ _ _ HS.out]; simp [iV])
        clear hr1 hr2
        have hkb : k + 1 ≤ 1000000 := by omega
        obtain ⟨pp, hpp⟩ : ∃ pp : Nat, pp = q + 1 + p := ⟨_, rfl⟩
        have HPP := Lib.hid hpp
        have hppn : pp ≤ 1000000 := by omega
        rw [← hpp] at HSN HEV ⊢
        clear hpp
        go_wp2_with (at_builtin; refine wpList_appv rfl (.tmp 25) (.tmp 27) 36 rfl 3 w.heap.size 1 8 _ Tryz.underlying36 int_info rfl (by omega) _ _ _ (iV (plN k (T.drop (q + 1)) (q + 1))) rfl (HO.out.alloc _) _ _ _ [.int .i64 (pp : Int)] rfl (Vs.lit (k := 1) (xs := [.int .i64 (pp : Int)]) _ _ rfl rfl rfl) (by simp; rfl) (by unfold maxLen; omega) (by omega) (by have := HB.out.size; simp; omega) ?_; intro a5 c5 w5 hO5 hG5 hb5 _; have HO5 := Lib.hid hO5; have HB5 : Hid (Below w.heap.size w w5) := Lib.hid ((HB.out.alloc HB.out.size _).trans hb5); clear hO5 hG5 hb5)
        refine (HE.out _ w5 HB5.out (by omega)).mono ?_
        rintro e w6 ⟨rfl, rfl⟩
        rw [HEV.out]
        clear HEV
        go_wp2
        go_roundw
        case rel => exact ⟨k + 1, p + r, a5, c5, rfl, rfl, by go_num, by omega, HR2, (by rw [HSN.out]; exact HO5), HB5⟩
        case measure => simp [intOf]; omega
      · have hxk : ¬ (k : Int) < x := fun h => hlt ((HMX.out k).1 h)
        obtain rfl : k = m := by omega
        go_wp2
        go_ret
        refine ⟨a', c', by rw [HK.out.2]; rfl, ?_, HB.out⟩
        rw [HK.out.2, HK.out.1]
        exact HO.out.vs

set_option maxRecDepth 20000 in
/-- Of two rows of places that read alike. -/
theorem lsame_any (a : Option Addr) (n c : Nat) (K : List Int) (a' : Option Addr) (c' : Nat) (w : World) (h : Vs 1 w a n c (iV K)) (h' : Vs 1 w a' n c' (iV K)) (hn : n ≤ 10000000) :
    Calls Tryz.prog 17 #[.slice a n c, .slice a' n c'] w fun e w' => e = .returned (.bool true) ∧ Below w.heap.size w w' := by
  have H := Lib.hid h
  have H' := Lib.hid h'
  clear h h'
  go_enter Tryz.func17, Tryz.ntmps17
  go_wp2
  go_loopw [5] (fun i wr => ∃ k : Nat, i = .int .i64 k ∧ k ≤ n ∧ Hid (Below w.heap.size w wr)) (fun i _ => n - (intOf i).toNat)
  case atStart => exact ⟨0, rfl, by omega, Lib.hid (Below.refl _ _)⟩
  case round =>
    obtain ⟨k, rfl, hk, HB⟩ := hrel
    by_cases hlt : k < n
    · have hb := H.out.below HB.out
      have hb' := H'.out.below HB.out
      obtain ⟨b, off, rfl, _, hc⟩ := hb.at_ (by omega)
      obtain ⟨b', off', rfl, _, hc'⟩ := hb'.at_ (by omega)
      clear hc hc'
      have c0 := ints_at (K := K) hb hlt
      have d0 := ints_at (K := K) hb' hlt
      obtain ⟨x, hx⟩ : ∃ x, x = bt K k := ⟨_, rfl⟩
      rw [← hx] at c0 d0
      clear hb hb' hx
      go_wp2_with fail
      go_quiet (fail)
      go_wp2
      go_roundw
      case rel => exact ⟨k + 1, by go_num, by omega, Lib.hid (below_drewN HB.out _)⟩
      case measure => simp [intOf]; omega
    · go_wp2
      go_ret
      exact ⟨rfl, HB.out⟩

end Go.Proofs.YtkaeanaeklilfaaGreatDoor
