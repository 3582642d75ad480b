/- Contract of the library's slices.EqualFunc at package lex's same. -/
import Derived.Test.YtecabgmkoknbgaaDoorJc
namespace Go.Proofs.YtecabgmkoknbgaaDoor
open Go.RowKit

theorem alike_len : ∀ A B : List TK, A.length ≠ B.length → alike A B = false
  | [], [], h => absurd rfl h
  | [], _ :: _, _ => rfl
  | _ :: _, [], _ => rfl
  | a :: A, b :: B, h => by rw [alike, alike_len A B (fun hh => h (by simp [hh])), Bool.and_false]
theorem alike_at {A B : List TK} {k : Nat} (ha : k < A.length) (hb : k < B.length) : alike (A.drop k) (B.drop k) = (sameT (tat A k) (tat B k) && alike (A.drop (k + 1)) (B.drop (k + 1))) := by
  rw [tat_drop ha, tat_drop hb, alike, sameT]

set_option maxRecDepth 20000 in
set_option maxHeartbeats 1000000 in
theorem equal_any (a : Option Addr) (len cap : Nat) (A : List TK) (a' : Option Addr) (len' cap' : Nat) (L : List TK) (w : World) (h : Ts w a len cap A) (h' : Ts w a' len' cap' L) :
    Calls Tryd.prog 20 #[.slice a len cap, .slice a' len' cap', .func (.func 21) #[] #[]] w fun e w' => e = .returned (.bool (alike A L)) ∧ Below w.heap.size w w' := by
  have hcm := h.cm
  have hlc := h.lc
  have hcm' := h'.cm
  have hlc' := h'.lc
  unfold maxLen at hcm hcm'
  have H := Lib.hid h
  have H' := Lib.hid h'
  have HA := Lib.hid h.hl
  have HL := Lib.hid h'.hl
  clear h h'
  by_cases hne : len = len'
  · subst hne
    go_enter Tryd.func20, Tryd.ntmps20
    go_wp2
    go_loopw [17] (fun i wr => ∃ k : Nat, i = .int .i64 k ∧ k ≤ len ∧ Hid (alike (A.drop k) (L.drop k) = alike A L) ∧ Hid (Below w.heap.size w wr)) (fun i _ => len - (intOf i).toNat)
    case atStart => exact ⟨0, rfl, by omega, Lib.hid rfl, Lib.hid (Below.refl _ _)⟩
    case round =>
      obtain ⟨k, rfl, hk, HM, HB⟩ := hrel
      by_cases hlt : k < len
      · have hb := H.out.below HB.out
        have hb' := H'.out.below HB.out
        obtain ⟨b, off, rfl, _, _⟩ := hb.at_ (by omega)
        obtain ⟨b', off', rfl, _, _⟩ := hb'.at_ (by omega)
        obtain ⟨c0, c1, c2, c3, c4⟩ := hb.at5 hlt
        obtain ⟨d0, d1, d2, d3, d4⟩ := hb'.at5 hlt
        have HS := Lib.hid (alike_at (A := A) (B := L) (k := k) (by rw [HA.out]; exact hlt) (by rw [HL.out]; exact hlt))
        obtain ⟨T, hT⟩ : ∃ T, T = tat A k := ⟨_, rfl⟩
        obtain ⟨U, hU⟩ : ∃ U, U = tat L k := ⟨_, rfl⟩
        rw [← hT] at c0 c1 c2 c3 c4
        rw [← hU] at d0 d1 d2 d3 d4
        have HTU := Lib.hid (And.intro hT hU)
        clear hb hb' hT hU
        go_wp2_with fail
        refine (same1_any T U _).mono ?_
        rintro e w1 ⟨rfl, hb1⟩
        have HW1 : Hid (Below w.heap.size w w1) := Lib.hid (((HB.out.alloc HB.out.size _).alloc (Nat.le_trans HB.out.size (by simp)) _).trans (hb1.mono (Nat.le_trans HB.out.size (by simp; omega))))
        clear hb1
        have HS' : Hid (alike A L = (sameT T U && alike (A.drop (k + 1)) (L.drop (k + 1)))) := Lib.hid (by rw [HTU.out.1, HTU.out.2, ← HS.out, HM.out])
        cases hq : sameT T U with
        | false =>
          have HF : Hid (alike A L = false) := Lib.hid (by rw [HS'.out, hq, Bool.false_and])
          clear hq
          go_wp2
          go_ret
          exact ⟨by rw [HF.out]; rfl, HW1.out⟩
        | true =>
          have HF : Hid (alike (A.drop (k + 1)) (L.drop (k + 1)) = alike A L) := Lib.hid (by rw [HS'.out, hq, Bool.true_and])
          clear hq
          go_wp2
          go_roundw
          case rel => exact ⟨k + 1, by go_num, by omega, HF, HW1⟩
          case measure => simp [intOf]; omega
      · have hkl : k = len := by omega
        have HF : Hid (alike A L = true) := Lib.hid (by
          rw [← HM.out, List.drop_eq_nil_iff.2 (by rw [HA.out]; omega), List.drop_eq_nil_iff.2 (by rw [HL.out]; omega)]; rfl)
        go_wp2
        go_ret
        exact ⟨by rw [HF.out]; rfl, HB.out⟩
  · have HF : Hid (alike A L = false) := Lib.hid (alike_len A L (by rw [HA.out, HL.out]; exact hne))
    go_enter Tryd.func20, Tryd.ntmps20
    go_wp2
    go_ret
    exact ⟨by rw [HF.out]; rfl, Below.refl _ _⟩

end Go.Proofs.YtecabgmkoknbgaaDoor
