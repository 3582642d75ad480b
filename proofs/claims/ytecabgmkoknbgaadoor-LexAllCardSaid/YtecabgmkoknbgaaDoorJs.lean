/- The document's Same. -/
import Derived.Test.YtecabgmkoknbgaaDoorJr
import Derived.Deep.QuietTactic
import Derived.BigQuiet
namespace Go.Proofs.YtecabgmkoknbgaaDoor
open Go.RowKit

set_option maxRecDepth 20000 in
/-- Of a row and one like it. -/
theorem same_any (a : Option Addr) (len cap : Nat) (L : List TK) (a' : Option Addr) (cap' : Nat) (w : World) (h : Ts w a len cap L) (h' : Ts w a' len cap' L) :
    Calls Tryd.prog 13 #[.slice a len cap, .slice a' len cap'] w fun e w' => e = .returned (.bool true) ∧ Below w.heap.size w w' := by
  have hcm := h.cm
  have hlc := h.lc
  unfold maxLen at hcm
  have H := Lib.hid h
  have H' := Lib.hid h'
  clear h h'
  go_enter Tryd.func13, Tryd.ntmps13
  go_wp2
  go_loopw [5] (fun i wr => ∃ k : Nat, i = .int .i64 k ∧ k ≤ len ∧ Hid (Below w.heap.size w wr)) (fun i _ => len - (intOf i).toNat)
  case atStart => exact ⟨0, rfl, by omega, Lib.hid (Below.refl _ _)⟩
  case round =>
    obtain ⟨k, rfl, hk, HB⟩ := hrel
    by_cases hlt : k < len
    · have hb := H.out.below HB.out
      have hb' := H'.out.below HB.out
      obtain ⟨b, off, rfl, _, _⟩ := hb.at_ (by omega)
      obtain ⟨b', off', rfl, _, _⟩ := hb'.at_ (by omega)
      obtain ⟨c0, c1, c2, c3, c4⟩ := hb.at5 hlt
      obtain ⟨d0, d1, d2, d3, d4⟩ := hb'.at5 hlt
      obtain ⟨T, hT⟩ : ∃ T, T = tat L k := ⟨_, rfl⟩
      rw [← hT] at c0 c1 c2 c3 c4 d0 d1 d2 d3 d4
      clear hb hb' hT
      obtain ⟨K, F, T', S, E⟩ := T
      simp only at c0 c1 c2 c3 c4 d0 d1 d2 d3 d4
      have e1 := eq_tok K F T' E K F T' E S S
      simp only [beq_self_eq_true, Bool.and_self] at e1
      go_wp2_with fail
      go_quiet (fail)
      go_wp2
      go_roundw
      case rel => exact ⟨k + 1, by go_num, by omega, Lib.hid (below_drewN HB.out _)⟩
      case measure => simp [intOf]; omega
    · have hkl : k = len := by omega
      go_wp2
      go_ret
      exact ⟨rfl, HB.out⟩

end Go.Proofs.YtecabgmkoknbgaaDoor
