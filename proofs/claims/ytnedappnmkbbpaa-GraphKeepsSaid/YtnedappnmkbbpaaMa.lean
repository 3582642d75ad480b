/- graph.with, by cells. -/
import Derived.Test.YtnedappnmkbbpaaMr
namespace Go.Proofs.Ytnedappnmkbbpaa
open Go.RowKit

set_option maxRecDepth 20000 in
theorem with_any (z : List Int) (hz : z.length = 10) (g : Nat) (hg : g < 10) (b : Int) (w : World) :
    Calls Try.prog 18 #[.agg (rv z), .int .i64 g, .int .i64 b] w fun e w' => e = .returned (.agg (rv (z.set g (bits .or .i64 (bt z g) b)))) ∧ Below w.heap.size w w' := by
  obtain ⟨w0, hw0⟩ : ∃ w0, (w.alloc (.cells (rv z) 23)).alloc (.cells #[.int .i64 0, .int .i64 0, .int .i64 0, .int .i64 0, .int .i64 0, .int .i64 0, .int .i64 0, .int .i64 0, .int .i64 0, .int .i64 0] 23) = w0 := ⟨_, rfl⟩
  obtain ⟨hb0, hr, hr1, _⟩ := two_rows w z hw0
  obtain ⟨G, hG⟩ : ∃ G, w.heap.size = G := ⟨_, rfl⟩
  rw [hG] at hr hr1 hb0 ⊢
  have HR := Lib.hid hr
  have HR1 := Lib.hid hr1
  have HB := Lib.hid hb0
  have hc := hr.cell hz hg
  have hf := hr.frozen g
  have HZ := Lib.hid hz
  clear hr hr1 hb0 hz
  go_enter Try.func18, Try.ntmps18
  go_wp2_with (first
    | (refine load_rows rfl (.tmp 3) rfl G rfl (z.set g (bits .or .i64 (bt z g) b)) (by simp [HZ.out]) (HR.out.set g _) ?_)
    | (refine store_rows rfl (.tmp 6) (.tmp 13) rfl (G + 1) rfl (z.set g (bits .or .i64 (bt z g) b)) rfl (by simp [HZ.out]) z0 z0_len ((Only.ofCell w0 G g _).rows (by omega) HR1.out) ?_; intro w2 hr2 ho2; have HR2 := Lib.hid hr2; have HO2 := Lib.hid ho2; clear hr2 ho2))
  have HB2 : Below G w w2 := (HB.out.setCell (p := ⟨G, g, none⟩) (Nat.le_refl _) _).trans (HO2.out.below (by omega))
  exact bodyPost_ret (ret_rows rfl _ _ (G + 1) _ (by simp [HZ.out]) rfl HR2.out) rfl ⟨rfl, HB2⟩

end Go.Proofs.Ytnedappnmkbbpaa
