/- The document's Alike: it draws, and does nothing else. -/
import Derived.Test.YtimhcghjlknibaaDoorMA
import Derived.Deep.QuietTactic
import Derived.BigQuiet
namespace Go.Proofs.YtimhcghjlknibaaDoor
open Go.RowKit

set_option maxRecDepth 20000 in
set_option maxHeartbeats 2000000 in
theorem alikeQ_any (a : Option Addr) (len cap : Nat) (A : List TK) (a' : Option Addr) (len' cap' : Nat) (L : List TK) (w : World) (h : Ts w a len cap A) (h' : Ts w a' len' cap' L) :
    Calls Tryd.prog 21 #[.slice a len cap, .slice a' len' cap'] w fun e w' => e = .returned (.bool (alike A L)) ∧ ∃ m, w' = w.drewN m := by
  have hcm := h.cm
  have hlc := h.lc
  have hcm' := h'.cm
  have hlc' := h'.lc
  unfold maxLen at hcm hcm'
  have H := Lib.hid h
  have H' := Lib.hid h'
  have HA := Lib.hid h.hl
  have HL := Lib.hid h'.hl
  clear h h'
  by_cases hne : len = len'
  · subst hne
    go_enter Tryd.func21, Tryd.ntmps21
    go_wp2
    go_loopw [5] (fun i wr => ∃ k : Nat, i = .int .i64 k ∧ k ≤ len ∧ Hid (alike (A.drop k) (L.drop k) = alike A L) ∧ Hid (∃ q, wr = w.drewN q)) (fun i _ => len - (intOf i).toNat)
    case atStart => exact ⟨0, rfl, by omega, Lib.hid rfl, Lib.hid ⟨0, rfl⟩⟩
    case round =>
      obtain ⟨k, rfl, hk, HM, HB⟩ := hrel
      by_cases hlt : k < len
      · obtain ⟨q, rfl⟩ := HB.out
        have hb := H.out
        have hb' := H'.out
        obtain ⟨b, off, rfl, _, _⟩ := hb.at_ (by omega)
        obtain ⟨b', off', rfl, _, _⟩ := hb'.at_ (by omega)
        obtain ⟨c0, c1, c2, c3, c4⟩ := hb.at5 hlt
        obtain ⟨d0, d1, d2, d3, d4⟩ := hb'.at5 hlt
        have HS := Lib.hid (alike_at (A := A) (B := L) (k := k) (by rw [HA.out]; exact hlt) (by rw [HL.out]; exact hlt))
        obtain ⟨T, hT⟩ : ∃ T, T = tat A k := ⟨_, rfl⟩
        obtain ⟨U, hU⟩ : ∃ U, U = tat L k := ⟨_, rfl⟩
        rw [← hT] at c0 c1 c2 c3 c4
        rw [← hU] at d0 d1 d2 d3 d4
        have HS' : Hid (alike A L = (sameT T U && alike (A.drop (k + 1)) (L.drop (k + 1)))) := Lib.hid (by rw [hT, hU, ← HS.out, HM.out])
        clear hb hb' hT hU
        obtain ⟨K, F, T', S, E⟩ := T
        obtain ⟨K', F', T'', S', E'⟩ := U
        simp only at c0 c1 c2 c3 c4 d0 d1 d2 d3 d4
        have hno : sameT ⟨K, F, T', S, E⟩ ⟨K', F', T'', S', E'⟩ = false → Hid (alike A L = false) := fun hq => Lib.hid (by rw [HS'.out, hq, Bool.false_and])
        unfold sameT at hno
        simp only at hno
        cases h1 : K != K' with
        | true =>
          have HF := hno (by rw [show (K == K') = false by simpa using h1, Bool.false_and])
          clear hno
          go_wp2_with fail
          go_quiet (fail)
          go_wp2
          go_ret
          exact ⟨by rw [HF.out]; rfl, _, World.drewN_drewN _ _ _⟩
        | false =>
          have k1 : K = K' := by simpa using h1
          cases h2 : S.toList == S'.toList with
          | false =>
            have HF := hno (by rw [h2, Bool.false_and, Bool.and_false])
            clear hno k1
            go_wp2_with fail
            go_quiet (fail)
            go_wp2
            go_ret
            exact ⟨by rw [HF.out]; rfl, _, World.drewN_drewN _ _ _⟩
          | true =>
            cases h3 : K == 8 with
            | true =>
              have HF := hno (by rw [show (K != 8) = false by simpa using h3, Bool.and_false, Bool.and_false])
              clear hno k1
              go_wp2_with fail
              go_quiet (fail)
              go_wp2
              go_ret
              exact ⟨by rw [HF.out]; rfl, _, World.drewN_drewN _ _ _⟩
            | false =>
              have HF : Hid (alike (A.drop (k + 1)) (L.drop (k + 1)) = alike A L) := Lib.hid (by
                rw [HS'.out]; unfold sameT; simp only
                rw [show (K != 8) = true by simpa using h3, show (K == K') = true by simpa using h1, h2]; rfl)
              clear hno k1
              go_wp2_with fail
              go_quiet (fail)
              go_wp2
              go_roundw
              case rel => exact ⟨k + 1, by go_num, by omega, HF, Lib.hid ⟨_, rfl⟩⟩
              case measure => simp [intOf]; omega
      · have hkl : k = len := by omega
        have HF : Hid (alike A L = true) := Lib.hid (by
          rw [← HM.out, List.drop_eq_nil_iff.2 (by rw [HA.out]; omega), List.drop_eq_nil_iff.2 (by rw [HL.out]; omega)]; rfl)
        go_wp2
        go_ret
        exact ⟨by rw [HF.out]; rfl, HB.out⟩
  · have HF : Hid (alike A L = false) := Lib.hid (alike_len A L (by rw [HA.out, HL.out]; exact hne))
    go_enter Tryd.func21, Tryd.ntmps21
    go_wp2
    go_ret
    exact ⟨by rw [HF.out]; rfl, 0, rfl⟩

end Go.Proofs.YtimhcghjlknibaaDoor
