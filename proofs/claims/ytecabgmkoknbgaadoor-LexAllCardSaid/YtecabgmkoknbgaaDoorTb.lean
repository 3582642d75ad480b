/- Contracts of package token's name and apart. -/
import Derived.Test.YtecabgmkoknbgaaDoorTm
import Derived.Test.YtecabgmkoknbgaaDoorUa
import Derived.Test.YtecabgmkoknbgaaDoorM1
namespace Go.Proofs.YtecabgmkoknbgaaDoor
open Go.RowKit

theorem name6_any (a : Option Addr) (len cap : Nat) (l : List Int) (w : World) (h : Bs w a len cap l) (ht : Tab w) :
    Calls Tryd.prog 68 #[.slice a len cap] w fun e w' => e = .returned (.int .i64 (nmL l)) ∧ Below w.heap.size w w' := by
  have hm := h.cm
  have hlc := h.lc
  unfold maxLen at hm
  have H := Lib.hid h
  have HT := Lib.hid ht
  clear h ht
  go_enter Tryd.func68, Tryd.ntmps68
  go_wp2
  go_loopw [3] (fun i wr => ∃ k : Nat, i = .int .i64 k ∧ k ≤ len ∧ Hid (k + nmL (l.drop k) = nmL l) ∧ Hid (Below w.heap.size w wr)) (fun i _ => len - (intOf i).toNat)
  case atStart => exact ⟨0, rfl, by omega, Lib.hid (by simp), Lib.hid (Below.refl _ _)⟩
  case round =>
    obtain ⟨k, rfl, hk, HM, HB⟩ := hrel
    by_cases hlt : k < len
    · have hb := H.out.below HB.out
      have hkc : k < cap := by omega
      have h0 := (bt_rng hb.rng k).1
      have h1 := (bt_rng hb.rng k).2
      obtain ⟨b, off, rfl, _, hc⟩ := hb.at_ (by omega)
      have hck := hc k hlt
      have HD := Lib.hid (hb.drop (k := k) (by omega))
      have HTT := Lib.hid (HT.out.keep HB.out)
      have hne : l.drop k ≠ [] := fun hn => by have := congrArg List.length hn; rw [List.length_drop, hb.hl] at this; simp at this; omega
      have hbt : bt (l.drop k) 0 = bt l k := by rw [bt_drop, Nat.add_zero]
      have HRD := Lib.hid HD.out.rng
      have hll := hb.hl
      have htle := takeN_le (l.drop k)
      rw [List.length_drop, hll] at htle
      have htp := takeN_pos hne
      have HST : Hid (nmB (l.drop k) = true → (k + takeN (l.drop k)) + nmL (l.drop (k + takeN (l.drop k))) = nmL l) := Lib.hid (fun hy => by rw [← HM.out, nmL_yes hy, List.drop_drop]; omega)
      have HNO : Hid (nmB (l.drop k) = false → nmL l = k) := Lib.hid (fun hn => by rw [← HM.out, nmL_no hn]; rfl)
      have HNE := Lib.hid hne
      have HBT := Lib.hid hbt
      clear hb hc hll hne hbt
      cases ho : okSeq (l.drop k) with
      | false =>
        have HF : Hid (nmL l = k) := Lib.hid (HNO.out (nmB_bad ho))
        go_wp2_with (first | (go_at_call 52; refine (take_any _ _ _ _ _ HD.out).mono ?_; rw [ho]; rintro e w' ⟨rfl, rfl⟩))
        go_ret
        exact ⟨by rw [HF.out]; rfl, HB.out⟩
      | true =>
        have HO := Lib.hid ho
        clear ho
        by_cases h1t : takeN (l.drop k) = 1
        · cases hnb : nameB (bt l k) with
          | false =>
            have HF : Hid (nmL l = k) := Lib.hid (HNO.out (nmB_one h1t (by rw [HBT.out]; exact hnb)))
            have HNB := Lib.hid hnb
            have H1T := Lib.hid h1t
            clear hnb h1t htle htp
            go_wp2_with (first | (go_at_call 52; refine (take_any _ _ _ _ _ HD.out).mono ?_; rw [HO.out, H1T.out]; rintro e w' ⟨rfl, rfl⟩) | (go_at_call 72; refine (name_any _ _ HTT.out h0 h1).mono ?_; rw [HNB.out]; rintro e w' ⟨rfl, hb2⟩; have HB2 := Lib.hid hb2; clear hb2))
            go_ret
            exact ⟨by rw [HF.out]; rfl, HB.out.trans (HB2.out.mono HB.out.size)⟩
          | true =>
            have HF : Hid ((k + 1) + nmL (l.drop (k + 1)) = nmL l) := Lib.hid (by have := HST.out (nmB_name HNE.out HRD.out (by rw [HBT.out]; exact hnb)).1; rwa [h1t] at this)
            have HNB := Lib.hid hnb
            have H1T := Lib.hid h1t
            clear hnb h1t htle htp
            go_wp2_with (first | (go_at_call 52; refine (take_any _ _ _ _ _ HD.out).mono ?_; rw [HO.out, H1T.out]; rintro e w' ⟨rfl, rfl⟩) | (go_at_call 72; refine (name_any _ _ HTT.out h0 h1).mono ?_; rw [HNB.out]; rintro e w' ⟨rfl, hb2⟩; have HB2 := Lib.hid hb2; clear hb2))
            go_roundw
            case rel => exact ⟨k + 1, by go_num, by omega, HF, Lib.hid (HB.out.trans (HB2.out.mono HB.out.size))⟩
            case measure => simp [intOf]; omega
        · have HF : Hid ((k + takeN (l.drop k)) + nmL (l.drop (k + takeN (l.drop k))) = nmL l) := Lib.hid (HST.out (nmB_long HO.out h1t))
          have h4 := takeN_le4 (l.drop k)
          obtain ⟨m, hmm⟩ : ∃ m, m = takeN (l.drop k) := ⟨_, rfl⟩
          rw [← hmm] at HF h1t h4 htle htp
          have HMM := Lib.hid hmm
          clear hmm
          have hm1 : ((m : Int) == 1) = false := by simp; omega
          go_wp2_with (first | (go_at_call 52; refine (take_any _ _ _ _ _ HD.out).mono ?_; rw [HO.out, ← HMM.out]; rintro e w' ⟨rfl, rfl⟩))
          go_roundw
          case rel => exact ⟨k + m, by go_num, by omega, HF, HB⟩
          case measure => simp [intOf]; omega
    · have HF : Hid (nmL l = k) := Lib.hid (by rw [← HM.out, List.drop_eq_nil_iff.2 (by have := H.out.hl; omega), nmL_no nmB_nil]; rfl)
      go_wp2
      go_ret
      exact ⟨by rw [HF.out]; rfl, HB.out⟩

/-- A dot with l behind it ends a clause. -/
def apartB (l : List Int) : Bool := decide (l.length = 0) || (decide (cls (bt l 0) = 1) || decide (cls (bt l 0) = 8))

theorem apart_any (a : Option Addr) (len cap : Nat) (l : List Int) (w : World) (h : Bs w a len cap l) (ht : Tab w) :
    Calls Tryd.prog 70 #[.slice a len cap] w fun e w' => e = .returned (.bool (apartB l)) ∧ Below w.heap.size w w' := by
  have hm := h.cm
  have hlc := h.lc
  unfold maxLen at hm
  have hl := h.hl
  have HT := Lib.hid ht
  clear ht
  by_cases h0 : 0 < len
  · have r0 := (bt_rng h.rng 0).1
    have r1 := (bt_rng h.rng 0).2
    obtain ⟨b, off, rfl, _, hc⟩ := h.at_ h0
    have hck := hc 0 h0
    rw [Nat.add_zero] at hck
    have HF : Hid (apartB l = (decide (cls (bt l 0) = 1) || decide (cls (bt l 0) = 8))) := Lib.hid (by unfold apartB; rw [decide_eq_false (by omega)]; rfl)
    clear h hc hl
    by_cases e1 : cls (bt l 0) = 1
    · have HF : Hid (apartB l = true) := Lib.hid (by rw [HF.out, e1]; rfl)
      have HE := Lib.hid e1
      clear e1
      go_enter Tryd.func70, Tryd.ntmps70
      go_wp2_with (first | (go_at_call 42; refine (of_any _ _ HT.out r0 r1).mono ?_; rw [HE.out]; rintro e w' ⟨rfl, hb2⟩; have HB2 := Lib.hid hb2; clear hb2))
      go_ret
      exact ⟨by rw [HF.out]; rfl, HB2.out⟩
    · by_cases e8 : cls (bt l 0) = 8
      · have HF : Hid (apartB l = true) := Lib.hid (by rw [HF.out, e8]; rfl)
        have HE := Lib.hid e8
        clear e1 e8
        go_enter Tryd.func70, Tryd.ntmps70
        go_wp2_with (first | (go_at_call 42; refine (of_any _ _ HT.out r0 r1).mono ?_; rw [HE.out]; rintro e w' ⟨rfl, hb2⟩; have HB2 := Lib.hid hb2; clear hb2))
        go_ret
        exact ⟨by rw [HF.out]; rfl, HB2.out⟩
      · have HF : Hid (apartB l = false) := Lib.hid (by rw [HF.out, decide_eq_false e1, decide_eq_false e8]; rfl)
        obtain ⟨c, hcc⟩ : ∃ c, c = cls (bt l 0) := ⟨_, rfl⟩
        rw [← hcc] at e1 e8
        have HE := Lib.hid hcc
        clear hcc
        go_enter Tryd.func70, Tryd.ntmps70
        go_wp2_with (first | (go_at_call 42; refine (of_any _ _ HT.out r0 r1).mono ?_; rw [← HE.out]; rintro e w' ⟨rfl, hb2⟩; have HB2 := Lib.hid hb2; clear hb2))
        go_ret
        exact ⟨by rw [HF.out]; rfl, HB2.out⟩
  · have : len = 0 := by omega
    subst this
    have HF : Hid (apartB l = true) := Lib.hid (by unfold apartB; rw [decide_eq_true hl]; rfl)
    clear h hl
    go_enter Tryd.func70, Tryd.ntmps70
    go_wp2
    go_ret
    exact ⟨by rw [HF.out]; rfl, Below.refl _ _⟩

end Go.Proofs.YtecabgmkoknbgaaDoor
