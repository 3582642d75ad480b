/- Contracts of the document's Same at one and the same shape; of the laws' own few. -/
import Derived.Test.YtenaadfmlpmffaaDoorHu
namespace Go.Proofs.YtenaadfmlpmffaaDoor
open Go.RowKit

set_option maxRecDepth 100000 in
set_option maxHeartbeats 4000000 in
theorem rsame_any (a b : Option Addr) (n c d : Nat) (P : List Nm) (l r : Bool) (w : World) (h : Ss w a n c P) (h' : Ss w b n d P) :
    Calls Tryd.prog 11 #[.agg #[.slice a n c, .bool l, .bool r], .agg #[.slice b n d, .bool l, .bool r]] w fun e w' => e = .returned (.bool true) ∧ Below w.heap.size w w' := by
  have hcm := h.cm
  have hlc := h.lc
  have hcm' := h'.cm
  have hlc' := h'.lc
  unfold maxLen at hcm hcm'
  have H := Lib.hid h
  have H' := Lib.hid h'
  obtain ⟨B, hB⟩ : ∃ B, B = w.heap.size := ⟨_, rfl⟩
  obtain ⟨w2, hw2⟩ : ∃ w2, w2 = (w.alloc (.cells #[.slice a n c, .bool l, .bool r] 24)).alloc (.cells #[.slice b n d, .bool l, .bool r] 24) := ⟨_, rfl⟩
  have hs2 : w2.heap.size = B + 2 := by rw [hw2, hB]; simp
  have HB2 : Hid (Below B w w2) := Lib.hid (by rw [hw2, hB]; exact ((Below.refl _ _).alloc (Nat.le_refl _) _).alloc (by simp) _)
  have HC : Hid (∀ w', Below (B + 2) w2 w' → (w'.cell? ⟨B, 0, none⟩ = some (.slice a n c) ∧ w'.cell? ⟨B, 1, none⟩ = some (.bool l) ∧ w'.cell? ⟨B, 2, none⟩ = some (.bool r)) ∧ (w'.cell? ⟨B + 1, 0, none⟩ = some (.slice b n d) ∧ w'.cell? ⟨B + 1, 1, none⟩ = some (.bool l) ∧ w'.cell? ⟨B + 1, 2, none⟩ = some (.bool r))) := Lib.hid fun w' hk => by
    have h1 : w2.heap[B]? = some (.cells #[.slice a n c, .bool l, .bool r] 24 (0, 0)) := by
      rw [hw2, hB, Lib.alloc_old _ _ _ (by simp)]; exact heap_alloc_new w _
    have h2 : w2.heap[B + 1]? = some (.cells #[.slice b n d, .bool l, .bool r] 24 (0, 0)) := by
      rw [hw2, hB]; exact heap_alloc2_new w _ _
    exact ⟨(three ((hk.block B (by omega)).trans h1)).1, (three ((hk.block (B + 1) (by omega)).trans h2)).1⟩
  have HW : Hid (B = w.heap.size) := Lib.hid hB
  clear h h'
  go_enter Tryd.func11, Tryd.ntmps11
  go_wp2
  rw [← hw2, ← hB]
  clear hw2 hB
  go_loopw [5] (fun v wr => ∃ k : Nat, v = .int .i64 k ∧ k ≤ n ∧ Hid (Below (B + 2) w2 wr)) (fun v _ => n - (intOf v).toNat)
  case atStart => exact ⟨0, rfl, by omega, Lib.hid (Below.refl _ _)⟩
  case round =>
    obtain ⟨k, rfl, hk, HB⟩ := hrel
    obtain ⟨⟨x0, x1, x2⟩, y0, y1, y2⟩ := HC.out wr HB.out
    have hk0 : (0 : Int) ≤ (k : Int) := Int.natCast_nonneg _
    have HBW : Hid (Below w.heap.size w wr) := Lib.hid (by rw [← HW.out]; exact HB2.out.trans (HB.out.mono (by omega)))
    by_cases hlt : k < n
    · have hk1 : (k : Int) < (n : Int) := by omega
      have hS := H.out.below HBW.out
      have hS' := H'.out.below HBW.out
      obtain ⟨g, o, rfl, _, hx⟩ := hS.at_ (by omega)
      obtain ⟨g', o', rfl, _, hx'⟩ := hS'.at_ (by omega)
      clear hx hx'
      have hs := Ss.str hS hlt
      have hs' := Ss.str hS' hlt
      clear hS hS'
      go_wp2
      go_quiet (fail)
      go_wp2
      go_roundw
      case rel => exact ⟨k + 1, by go_num, by omega, Lib.hid (below_drewN HB.out _)⟩
      case measure => simp [intOf]; omega
    · go_wp2
      go_ret
      exact ⟨rfl, HBW.out⟩

theorem few_any (p : Nm) (w : World) : Calls Tryd.prog 9 #[.string (mk p)] w fun e w' => e = .returned (.string (mk (p.take 60))) ∧ w = w' := by
  have hms := mk_size p
  obtain ⟨m, hm⟩ : ∃ m, m = p.length := ⟨_, rfl⟩
  rw [← hm] at hms
  by_cases h : m ≤ 60
  · have hs : (Instr.slice 9 (.string (mk p)) none (some (.int .i64 m)) none).run Tryd.prog w = .ok (.string (mk (p.take 60))) w := by
      rw [run_hi w p m (by omega), List.take_of_length_le (by omega), List.take_of_length_le (by omega)]
    have hmin : min (m : Int) 60 = (m : Int) := by omega
    clear hm
    go_enter Tryd.func9, Tryd.ntmps9
    go_wp2
    go_ret
    exact ⟨rfl, rfl⟩
  · have hs : (Instr.slice 9 (.string (mk p)) none (some (.int .i64 60)) none).run Tryd.prog w = .ok (.string (mk (p.take 60))) w := run_hi w p 60 (by omega)
    have hmin : min (m : Int) 60 = 60 := by omega
    clear hm
    go_enter Tryd.func9, Tryd.ntmps9
    go_wp2
    go_ret
    exact ⟨rfl, rfl⟩

end Go.Proofs.YtenaadfmlpmffaaDoor
