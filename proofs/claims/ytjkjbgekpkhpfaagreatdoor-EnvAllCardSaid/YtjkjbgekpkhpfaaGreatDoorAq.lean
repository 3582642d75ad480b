/- The document's Equal. -/
import Derived.Test.YtjkjbgekpkhpfaaGreatDoorMx
import Derived.Test.YtjkjbgekpkhpfaaGreatDoorAs
import Derived.Deep.DeepCutAuto
namespace Go.Proofs.YtjkjbgekpkhpfaaGreatDoor
open Go.RowKit

theorem op_ext {A B : List OP} {n : Nat} (hA : A.length = n) (hB : B.length = n) (h : ∀ j, j < n → opA A j = opA B j) : A = B := by
  apply List.ext_getElem (by omega)
  intro j h1 h2
  rw [← opA_eq h1, ← opA_eq h2]
  exact h j (by omega)

set_option maxRecDepth 20000 in
set_option maxHeartbeats 8000000 in
theorem equal_any (a a' : Option Addr) (n n' c c' : Nat) (L L' : List OP) (z z' : List Int) (w : World) (h : OpS w a n c L) (h' : OpS w a' n' c' L') (hz : z.length = 10) (hz' : z'.length = 10) (hn : n ≤ 1000000) (hn' : n' ≤ 1000000) :
    Calls Tryz.prog 15 #[.agg (ev a n c z), .agg (ev a' n' c' z')] w fun e w' => e = .returned (.bool (decide (L = L' ∧ z = z'))) ∧ Below w.heap.size w w' := by
  obtain ⟨B, hB⟩ : ∃ B, B = w.heap.size := ⟨_, rfl⟩
  obtain ⟨w1, hw1⟩ : ∃ w1, w1 = w.alloc (.cells (ev a n c z) 26) := ⟨_, rfl⟩
  obtain ⟨w2, hw2⟩ : ∃ w2, w2 = w1.alloc (.cells (ev a' n' c' z') 26) := ⟨_, rfl⟩
  have s1 : w1.heap.size = B + 1 := by rw [hw1, hB]; simp
  have HE1 : Hid (EB w2 B a n c z) := Lib.hid (by rw [hw2, hw1, hB]; exact (EB.new w a n c z).alloc _)
  have HE2 : Hid (EB w2 (B + 1) a' n' c' z') := Lib.hid (by rw [hw2, ← s1]; exact EB.new w1 a' n' c' z')
  have HB2 : Hid (Below B w w2) := Lib.hid (by rw [hw2, hw1, hB]; exact (below_alloc w _).alloc (by simp) _)
  have HL := Lib.hid (OpS.len h)
  have HL' := Lib.hid (OpS.len h')
  have H := Lib.hid (h.below (hB ▸ HB2.out))
  have H' := Lib.hid (h'.below (hB ▸ HB2.out))
  have hlc := h.lc
  have hcm := h.cm
  have hlc' := h'.lc
  have hcm' := h'.cm
  unfold maxLen at hcm hcm'
  have HZ := Lib.hid hz
  have HZ' := Lib.hid hz'
  have HBB := Lib.hid hB
  clear h h' hz hz' s1
  go_enter Tryz.func15, Tryz.ntmps15
  go_upto_region 1 with fail
  rw [← hw1, ← hw2, ← hB]
  clear hw1 hw2 hB
  have e0 := HE1.out.c0
  have f0 := HE2.out.c0
  have heq := fun w => eq_rows' z z' HZ.out HZ'.out w
  by_cases hne : n = n'
  case neg =>
    have hne' : ¬ ((n : Int) = (n' : Int)) := by omega
    have HF : Hid (decide (L = L' ∧ z = z') = false) := Lib.hid (decide_eq_false fun e => hne (by rw [← HL.out, ← HL'.out, e.1]))
    go_wp2
    go_ret
    exact ⟨by rw [HF.out]; rfl, by rw [← HBB.out]; exact HB2.out⟩
  subst hne
  by_cases hzz : z = z'
  case neg =>
    have HF : Hid (decide (L = L' ∧ z = z') = false) := Lib.hid (decide_eq_false fun e => hzz e.2)
    rw [decide_eq_false hzz] at heq
    clear hzz
    go_wp2_with (first
      | (refine load_er rfl (.tmp 14) rfl B rfl a n c z HZ.out HE1.out ?_)
      | (refine load_er rfl (.tmp 16) rfl (B + 1) rfl a' n c' z' HZ'.out HE2.out ?_))
    go_ret
    exact ⟨by rw [HF.out]; rfl, by rw [← HBB.out]; exact HB2.out⟩
  rw [decide_eq_true hzz] at heq
  have HZZ := Lib.hid hzz
  clear hzz
  go_wp2_with (first
    | (refine load_er rfl (.tmp 14) rfl B rfl a n c z HZ.out HE1.out ?_)
    | (refine load_er rfl (.tmp 16) rfl (B + 1) rfl a' n c' z' HZ'.out HE2.out ?_))
  clear heq e0 f0
  go_loopw [5] (fun v wr => ∃ k : Nat, v = .int .i64 k ∧ k ≤ n ∧ Hid (∀ j, j < k → opA L j = opA L' j) ∧ Hid (Below w2.heap.size w2 wr)) (fun v _ => n - (intOf v).toNat)
  case atStart => exact ⟨0, rfl, by omega, Lib.hid fun j hj => by omega, Lib.hid (Below.refl _ _)⟩
  case round =>
    obtain ⟨k, rfl, hk, HN, HB⟩ := hrel
    have e0 := (HE1.out.below HB.out).c0
    have f0 := (HE2.out.below HB.out).c0
    by_cases hlt : k < n
    · have hlt' : decide ((k : Int) < (n : Int)) = true := by simpa using hlt
      have hs := H.out.below HB.out
      have hs' := H'.out.below HB.out
      obtain ⟨b, o, rfl, _, hc⟩ := hs.at_ (by omega)
      clear hc
      obtain ⟨b', o', rfl, _, hc⟩ := hs'.at_ (by omega)
      clear hc
      obtain ⟨c0, c1, c2⟩ := OpS.at3 hs hlt
      obtain ⟨d0, d1, d2⟩ := OpS.at3 hs' hlt
      obtain ⟨x, hx⟩ : ∃ x, x = opA L k := ⟨_, rfl⟩
      obtain ⟨y, hy⟩ : ∃ y, y = opA L' k := ⟨_, rfl⟩
      have HXY := Lib.hid (And.intro hx hy)
      rw [← hx] at c0 c1 c2
      rw [← hy] at d0 d1 d2
      clear hs hs' hx hy
      have he := fun w => eq_op 9998 x y w
      have HBD : Hid (Below w2.heap.size w2 wr.drew) := Lib.hid (HB.out.drew)
      have HBX : Hid (Below B w wr.drew) := Lib.hid (HB2.out.trans (HBD.out.mono (by have := HE2.out.lt; omega)))
      cases hd : decide (x = y) with
      | false =>
        rw [hd] at he
        have HF : Hid (decide (L = L' ∧ z = z') = false) := Lib.hid (decide_eq_false fun e => of_decide_eq_false hd (by rw [HXY.out.1, HXY.out.2, e.1]))
        clear hd
        go_wp2_with fail
        go_region
        go_wp2
        go_ret
        exact ⟨by rw [HF.out]; rfl, by rw [← HBB.out]; exact HBX.out⟩
      | true =>
        rw [hd] at he
        have HN1 : Hid (∀ j, j < k + 1 → opA L j = opA L' j) := Lib.hid fun j hj => by
          by_cases hjk : j = k
          · subst hjk; rw [← HXY.out.1, ← HXY.out.2]; exact of_decide_eq_true hd
          · exact HN.out j (by omega)
        clear hd
        go_wp2_with fail
        go_region
        go_wp2
        go_roundw
        case rel => exact ⟨k + 1, by go_num, by omega, HN1, HBD⟩
        case measure => simp [intOf]; omega
    · have hlt' : decide ((k : Int) < (n : Int)) = false := by simpa using hlt
      have HBX : Hid (Below B w wr) := Lib.hid (HB2.out.trans (HB.out.mono (by have := HE2.out.lt; omega)))
      have HT : Hid (decide (L = L' ∧ z = z') = true) := Lib.hid (decide_eq_true ⟨op_ext HL.out HL'.out fun j hj => HN.out j (by omega), HZZ.out⟩)
      go_wp2
      go_ret
      exact ⟨by rw [HT.out]; rfl, by rw [← HBB.out]; exact HBX.out⟩

end Go.Proofs.YtjkjbgekpkhpfaaGreatDoor
