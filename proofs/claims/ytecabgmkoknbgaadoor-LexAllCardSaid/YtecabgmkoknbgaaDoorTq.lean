/- Contracts of the document's name and ends (layer 6). -/
import Derived.Test.YtecabgmkoknbgaaDoorTm
import Derived.Test.YtecabgmkoknbgaaDoorUt
import Derived.Test.YtecabgmkoknbgaaDoorM3
import Derived.Test.YtecabgmkoknbgaaDoorM1
namespace Go.Proofs.YtecabgmkoknbgaaDoor
open Go.RowKit

theorem rname6_any (a : Option Addr) (len cap : Nat) (l : List Int) (w : World) (h : Bs w a len cap l) :
    Calls Tryd.prog 46 #[.slice a len cap] w fun e w' => e = .returned (.int .i64 (nmL l)) ∧ Dr w w' := by
  have hm := h.cm
  have hlc := h.lc
  unfold maxLen at hm
  have H := Lib.hid h
  clear h
  go_enter Tryd.func46, Tryd.ntmps46
  go_wp2
  go_loopw [3] (fun i wr => ∃ k : Nat, i = .int .i64 k ∧ k ≤ len ∧ Hid (k + nmL (l.drop k) = nmL l) ∧ Hid (Dr w wr)) (fun i _ => len - (intOf i).toNat)
  case atStart => exact ⟨0, rfl, by omega, Lib.hid (by simp), Lib.hid (Dr.refl _)⟩
  case round =>
    obtain ⟨k, rfl, hk, HM, HB⟩ := hrel
    have HBB : Hid (Below w.heap.size w wr) := Lib.hid (HB.out.below (Below.refl _ _))
    by_cases hlt : k < len
    · have hb := H.out.below HBB.out
      have hkc : k < cap := by omega
      have h0 := (bt_rng hb.rng k).1
      have h1 := (bt_rng hb.rng k).2
      obtain ⟨b, off, rfl, _, hc⟩ := hb.at_ (by omega)
      have hck := hc k hlt
      have HD := Lib.hid (hb.drop (k := k) (by omega))
      have hne : l.drop k ≠ [] := fun hn => by have := congrArg List.length hn; rw [List.length_drop, hb.hl] at this; simp at this; omega
      have hbt : bt (l.drop k) 0 = bt l k := by rw [bt_drop, Nat.add_zero]
      have HRD := Lib.hid HD.out.rng
      have hll := hb.hl
      have htle := takeN_le (l.drop k)
      rw [List.length_drop, hll] at htle
      have htp := takeN_pos hne
      have HST : Hid (nmB (l.drop k) = true → (k + takeN (l.drop k)) + nmL (l.drop (k + takeN (l.drop k))) = nmL l) := Lib.hid (fun hy => by rw [← HM.out, nmL_yes hy, List.drop_drop]; omega)
      have HNO : Hid (nmB (l.drop k) = false → nmL l = k) := Lib.hid (fun hn => by rw [← HM.out, nmL_no hn]; rfl)
      have HNE := Lib.hid hne
      have HBT := Lib.hid hbt
      clear hb hc hll hne hbt
      cases hnb : nameB (bt l k) with
      | true =>
        have h1t := (nmB_name HNE.out HRD.out (by rw [HBT.out]; exact hnb)).2
        have HF : Hid ((k + 1) + nmL (l.drop (k + 1)) = nmL l) := Lib.hid (by have := HST.out (nmB_name HNE.out HRD.out (by rw [HBT.out]; exact hnb)).1; rwa [h1t] at this)
        have HNB := Lib.hid hnb
        clear hnb h1t htle htp
        go_wp2_with (first | (go_at_call 64; refine (rname_any _ _ h0 h1).mono ?_; rw [HNB.out]; rintro e w' ⟨rfl, rfl⟩))
        go_roundw
        case rel => exact ⟨k + 1, by go_num, by omega, HF, HB⟩
        case measure => simp [intOf]; omega
      | false =>
        have HNB := Lib.hid hnb
        clear hnb
        cases ho : okSeq (l.drop k) with
        | false =>
          have HF : Hid (nmL l = k) := Lib.hid (HNO.out (nmB_bad ho))
          go_wp2_with (first | (go_at_call 64; refine (rname_any _ _ h0 h1).mono ?_; rw [HNB.out]; rintro e w' ⟨rfl, rfl⟩) | (go_at_call 37; refine (rtake_any _ _ _ _ _ HD.out).mono ?_; rw [ho]; rintro e w' ⟨rfl, hd⟩; have HDR := Lib.hid (HB.out.trans hd); clear hd))
          go_ret
          exact ⟨by rw [HF.out]; rfl, HDR.out⟩
        | true =>
          have HO := Lib.hid ho
          clear ho
          by_cases h1t : takeN (l.drop k) = 1
          · have HF : Hid (nmL l = k) := Lib.hid (HNO.out (nmB_one h1t (by rw [HBT.out]; exact HNB.out)))
            have H1T := Lib.hid h1t
            clear h1t htle htp
            go_wp2_with (first | (go_at_call 64; refine (rname_any _ _ h0 h1).mono ?_; rw [HNB.out]; rintro e w' ⟨rfl, rfl⟩) | (go_at_call 37; refine (rtake_any _ _ _ _ _ HD.out).mono ?_; rw [HO.out, H1T.out]; rintro e w' ⟨rfl, hd⟩; have HDR := Lib.hid (HB.out.trans hd); clear hd))
            go_ret
            exact ⟨by rw [HF.out]; rfl, HDR.out⟩
          · have HF : Hid ((k + takeN (l.drop k)) + nmL (l.drop (k + takeN (l.drop k))) = nmL l) := Lib.hid (HST.out (nmB_long HO.out h1t))
            have h4 := takeN_le4 (l.drop k)
            obtain ⟨m, hmm⟩ : ∃ m, m = takeN (l.drop k) := ⟨_, rfl⟩
            rw [← hmm] at HF h1t h4 htle htp
            have HMM := Lib.hid hmm
            clear hmm
            have hm1 : ((m : Int) == 1) = false := by simp; omega
            go_wp2_with (first | (go_at_call 64; refine (rname_any _ _ h0 h1).mono ?_; rw [HNB.out]; rintro e w' ⟨rfl, rfl⟩) | (go_at_call 37; refine (rtake_any _ _ _ _ _ HD.out).mono ?_; rw [HO.out, ← HMM.out]; rintro e w' ⟨rfl, hd⟩; have HDR := Lib.hid (HB.out.trans hd); clear hd))
            go_roundw
            case rel => exact ⟨k + m, by go_num, by omega, HF, HDR⟩
            case measure => simp [intOf]; omega
    · have HF : Hid (nmL l = k) := Lib.hid (by rw [← HM.out, List.drop_eq_nil_iff.2 (by have := H.out.hl; omega), nmL_no nmB_nil]; rfl)
      go_wp2
      go_ret
      exact ⟨by rw [HF.out]; rfl, HB.out⟩

def endsB (l : List Int) : Bool := decide (l.length = 1) || (decide (cls (bt l 1) = 1) || decide (cls (bt l 1) = 8))

theorem rends_any (a : Option Addr) (len cap : Nat) (l : List Int) (w : World) (h : Bs w a len cap l) (h0 : 0 < len) :
    Calls Tryd.prog 48 #[.slice a len cap] w fun e w' => e = .returned (.bool (endsB l)) ∧ w = w' := by
  have hm := h.cm
  have hlc := h.lc
  unfold maxLen at hm
  have hl := h.hl
  by_cases h1 : len = 1
  · have HF : Hid (endsB l = true) := Lib.hid (by unfold endsB; rw [decide_eq_true (by omega)]; rfl)
    subst h1
    clear h hl
    go_enter Tryd.func48, Tryd.ntmps48
    go_wp2
    go_ret
    exact ⟨by rw [HF.out]; rfl, rfl⟩
  · have r0 := (bt_rng h.rng 1).1
    have r1 := (bt_rng h.rng 1).2
    have h2 : 1 < len := by omega
    obtain ⟨b, off, rfl, _, hc⟩ := h.at_ h0
    have hck := hc 1 h2
    have HF : Hid (endsB l = (decide (cls (bt l 1) = 1) || decide (cls (bt l 1) = 8))) := Lib.hid (by unfold endsB; rw [decide_eq_false (by omega)]; rfl)
    have hm1 : ((len : Int) == 1) = false := by simp; omega
    clear h hc hl
    by_cases e1 : cls (bt l 1) = 1
    · have HF : Hid (endsB l = true) := Lib.hid (by rw [HF.out, e1]; rfl)
      have HE := Lib.hid e1
      clear e1
      go_enter Tryd.func48, Tryd.ntmps48
      go_wp2_with (first | (go_at_call 43; refine (rof_any _ _ r0 r1).mono ?_; rw [HE.out]; rintro e w' ⟨rfl, rfl⟩))
      go_ret
      exact ⟨by rw [HF.out]; rfl, rfl⟩
    · obtain ⟨c, hcc⟩ : ∃ c, c = cls (bt l 1) := ⟨_, rfl⟩
      rw [← hcc] at e1 HF
      rw [decide_eq_false e1, Bool.false_or] at HF
      have e1' : (c == 1) = false := by simpa using e1
      have HE := Lib.hid hcc
      clear hcc
      go_enter Tryd.func48, Tryd.ntmps48
      go_wp2_with (first | (go_at_call 43; refine (rof_any _ _ r0 r1).mono ?_; rw [← HE.out]; rintro e w' ⟨rfl, rfl⟩))
      go_ret
      exact ⟨by rw [HF.out]; rfl, rfl⟩

end Go.Proofs.YtecabgmkoknbgaaDoor
