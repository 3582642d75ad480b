/- slices.Equal at entries. -/
import Derived.Test.YtjkjbgekpkhpfaaGreatDoorAs
namespace Go.Proofs.YtjkjbgekpkhpfaaGreatDoor
open Go.RowKit

set_option maxRecDepth 20000 in
set_option maxHeartbeats 4000000 in
theorem equal_ens (a a' : Option Addr) (n n' c c' : Nat) (E E' : List EN) (w : World) (h : Ens w a n c E) (h' : Ens w a' n' c' E') (hn : n ≤ 1000000) (hn' : n' ≤ 1000000) :
    Calls Tryz.prog 38 #[.slice a n c, .slice a' n' c'] w fun e w' => e = .returned (.bool (decide (E = E'))) ∧ Below w.heap.size w w' := by
  have HL := Lib.hid (Ens.len h)
  have HL' := Lib.hid (Ens.len h')
  have H := Lib.hid h
  have H' := Lib.hid h'
  have hlc := h.lc
  have hcm := h.cm
  have hlc' := h'.lc
  have hcm' := h'.cm
  unfold maxLen at hcm hcm'
  clear h h'
  by_cases hne : n = n'
  · subst hne
    go_enter Tryz.func38, Tryz.ntmps38
    go_wp2
    go_loopw [13] (fun v wr => ∃ k : Nat, v = .int .i64 k ∧ k ≤ n ∧ Hid (∀ j, j < k → enA E j = enA E' j) ∧ Hid (Below w.heap.size w wr)) (fun v _ => n - (intOf v).toNat)
    case atStart => exact ⟨0, rfl, by omega, Lib.hid fun j hj => by omega, Lib.hid (Below.refl _ _)⟩
    case round =>
      obtain ⟨k, rfl, hk, HN, HB⟩ := hrel
      by_cases hlt : k < n
      · have hs := H.out.below HB.out
        have hs' := H'.out.below HB.out
        obtain ⟨b, o, rfl, _, hc⟩ := hs.at_ (by omega)
        clear hc
        obtain ⟨b', o', rfl, _, hc⟩ := hs'.at_ (by omega)
        clear hc
        obtain ⟨c0, c1, c2, c3⟩ := Ens.at4 hs hlt
        obtain ⟨d0, d1, d2, d3⟩ := Ens.at4 hs' hlt
        obtain ⟨x, hx⟩ : ∃ x, x = enA E k := ⟨_, rfl⟩
        obtain ⟨y, hy⟩ : ∃ y, y = enA E' k := ⟨_, rfl⟩
        have HXY := Lib.hid (And.intro hx hy)
        rw [← hx] at c0 c1 c2 c3
        rw [← hy] at d0 d1 d2 d3
        clear hs hs' hx hy
        have he := fun w => eq_en x y w
        have HBD : Hid (Below w.heap.size w wr.drew) := Lib.hid (HB.out.drew)
        cases hd : decide (x = y) with
        | false =>
          rw [hd] at he
          have HNE := Lib.hid (of_decide_eq_false hd)
          clear hd
          go_wp2_with fail
          go_region
          go_wp2
          go_ret
          refine ⟨?_, HBD.out⟩
          have : E ≠ E' := fun e => HNE.out (by rw [HXY.out.1, HXY.out.2, e])
          rw [decide_eq_false this]; rfl
        | true =>
          rw [hd] at he
          have HN1 : Hid (∀ j, j < k + 1 → enA E j = enA E' j) := Lib.hid fun j hj => by
            by_cases hjk : j = k
            · subst hjk; rw [← HXY.out.1, ← HXY.out.2]; exact of_decide_eq_true hd
            · exact HN.out j (by omega)
          clear hd
          go_wp2_with fail
          go_region
          go_wp2
          go_roundw
          case rel => exact ⟨k + 1, by go_num, by omega, HN1, HBD⟩
          case measure => simp [intOf]; omega
      · go_wp2
        go_ret
        refine ⟨?_, HB.out⟩
        rw [decide_eq_true (en_ext HL.out HL'.out fun j hj => HN.out j (by omega))]; rfl
  · have hne' : ¬ ((n : Int) = (n' : Int)) := by omega
    have hE : E ≠ E' := fun e => hne (by rw [← HL.out, ← HL'.out, e])
    have HE := Lib.hid (decide_eq_false hE)
    clear hE hne
    go_enter Tryz.func38, Tryz.ntmps38
    go_wp2
    go_ret
    exact ⟨by rw [HE.out]; rfl, Below.refl _ _⟩

end Go.Proofs.YtjkjbgekpkhpfaaGreatDoor
