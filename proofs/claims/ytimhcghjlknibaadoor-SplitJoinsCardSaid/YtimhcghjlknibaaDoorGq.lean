/- The document's Same, of rows of pieces that are the same. -/
import Derived.Test.YtimhcghjlknibaaDoorMC
import Derived.Test.YtimhcghjlknibaaDoorMB
import Derived.Deep.RegionHeld3
import Derived.Deep.QuietTactic
import Derived.BigQuiet
namespace Go.Proofs.YtimhcghjlknibaaDoor
open Go.RowKit

theorem k_at {V V' : List PV} (h : V.map PV.k = V'.map PV.k) {j : Nat} (hj : j < V.length) : (pat V j).k = (pat V' j).k := by
  have hl : V.length = V'.length := by have := congrArg List.length h; simpa using this
  have h1 : (V.map PV.k)[j]? = (V'.map PV.k)[j]? := by rw [h]
  rw [List.getElem?_map, List.getElem?_map, List.getElem?_eq_getElem hj, List.getElem?_eq_getElem (by omega)] at h1
  simp only [Option.map_some, Option.some.injEq] at h1
  unfold pat
  rw [show V.getD j _ = V[j] by simp [List.getD, hj], show V'.getD j _ = V'[j]'(by omega) by simp [List.getD, show j < V'.length by omega]]
  exact h1

set_option maxRecDepth 100000 in
set_option maxHeartbeats 4000000 in
theorem rsame_any (a : Option Addr) (len cap : Nat) (V : List PV) (a' : Option Addr) (cap' : Nat) (V' : List PV) (w : World) (h : Ps w a len cap V) (h' : Ps w a' len cap' V') (hk : V.map PV.k = V'.map PV.k) :
    Calls Tryd.prog 12 #[.slice a len cap, .slice a' len cap'] w fun e w' => e = .returned (.bool true) ∧ Below w.heap.size w w' := by
  have hcm := h.row.cm
  have hlc := h.row.lc
  unfold maxLen at hcm
  have H := Lib.hid h
  have H' := Lib.hid h'
  have HK := Lib.hid hk
  have HL := Lib.hid h.hl
  have HL' := Lib.hid h'.hl
  clear h h' hk
  go_enter Tryd.func12, Tryd.ntmps12
  go_wp2
  go_loopw [5] (fun i wr => ∃ k : Nat, i = .int .i64 k ∧ k ≤ len ∧ Hid (Below w.heap.size w wr)) (fun i _ => len - (intOf i).toNat)
  case atStart => exact ⟨0, rfl, by omega, Lib.hid (Below.refl _ _)⟩
  case round =>
    obtain ⟨k, rfl, hk, HB⟩ := hrel
    by_cases hlt : k < len
    · have hb := H.out.below HB.out
      have hb' := H'.out.below HB.out
      obtain ⟨b, off, rfl, hbl⟩ := hb.form (by omega)
      obtain ⟨b', off', rfl, hbl'⟩ := hb'.form (by omega)
      obtain ⟨c0, c1, c2, c3⟩ := hb.at4 hlt
      obtain ⟨d0, d1, d2, d3⟩ := hb'.at4 hlt
      have hp := hb.ok _ (pat_mem (V := V) (j := k) (by rw [HL.out]; exact hlt))
      have hp' := hb'.ok _ (pat_mem (V := V') (j := k) (by rw [HL'.out]; exact hlt))
      have hkk := k_at HK.out (j := k) (by rw [HL.out]; exact hlt)
      obtain ⟨X, hX⟩ : ∃ X, X = pat V k := ⟨_, rfl⟩
      obtain ⟨Y, hY⟩ : ∃ Y, Y = pat V' k := ⟨_, rfl⟩
      rw [← hX] at c0 c1 c2 c3 hp hkk
      rw [← hY] at d0 d1 d2 d3 hp' hkk
      obtain ⟨F, U, I, ⟨xa, xn, xc, xL⟩⟩ := X
      obtain ⟨F', U', I', ⟨ya, yn, yc, yL⟩⟩ := Y
      unfold PV.k at hkk
      simp only [PK.mk.injEq] at hkk
      obtain ⟨rfl, rfl, rfl, rfl⟩ := hkk
      unfold SV.ok at hp hp'
      simp only at c0 c1 c2 c3 d0 d1 d2 d3 hp hp'
      obtain rfl : yn = xn := by rw [← hp.hl, ← hp'.hl]
      have HP := Lib.hid hp
      have HP' := Lib.hid hp'
      have HBL := Lib.hid (And.intro hbl hbl')
      have HC := Lib.hid (And.intro c0 (And.intro c1 c2))
      have HD := Lib.hid (And.intro d0 (And.intro d1 d2))
      have HCD := Lib.hid (And.intro c3 d3)
      clear hb hb' hX hY hp hp' hbl hbl' c0 c1 c2 c3 d0 d1 d2 d3
      go_wp2
      have hS : wr.cell? ⟨b, off + k * 4 + 3, none⟩ = some (.slice xa yn xc) ∧ wr.cell? ⟨b', off' + k * 4 + 3, none⟩ = some (.slice ya yn yc) := HCD.out
      go_region_held3 (fun w' => w'.cell? ⟨b, off + k * 4 + 3, none⟩ = some (.slice xa yn xc) ∧ w'.cell? ⟨b', off' + k * 4 + 3, none⟩ = some (.slice ya yn yc))
        (first
          | go_keep
          | exact ⟨(HB1.out.cell HBL.out.1).trans HCD.out.1, (HB1.out.cell HBL.out.2).trans HCD.out.2⟩)
        (first
          | (go_at_call 18; (with_reducible refine (same_any xa yn xc xL ya yc _ (HP.out.below ?_) (HP'.out.below ?_)).mono ?_); (exact (Below.refl _ _).drew); (exact (Below.refl _ _).drew); (rintro e w1 ⟨rfl, hb1⟩); (have HB1 : Hid (Below wr.heap.size wr w1) := Lib.hid ((Below.refl _ _).drew.trans hb1)); clear hb1))
      clear hS
      have c0 := (HB1.out.cell HBL.out.1).trans HC.out.1
      have c1 := (HB1.out.cell HBL.out.1).trans HC.out.2.1
      have c2 := (HB1.out.cell HBL.out.1).trans HC.out.2.2
      have d0 := (HB1.out.cell HBL.out.2).trans HD.out.1
      have d1 := (HB1.out.cell HBL.out.2).trans HD.out.2.1
      have d2 := (HB1.out.cell HBL.out.2).trans HD.out.2.2
      have HB2 : Hid (Below w.heap.size w w1) := Lib.hid (HB.out.trans (HB1.out.mono HB.out.size))
      go_wp2
      go_quiet (fail)
      go_wp2
      go_roundw
      case rel => exact ⟨k + 1, by go_num, by omega, Lib.hid (below_drewN HB2.out _)⟩
      case measure => simp [intOf]; omega
    · have hkl : k = len := by omega
      go_wp2
      go_ret
      exact ⟨rfl, HB.out⟩

end Go.Proofs.YtimhcghjlknibaaDoor
