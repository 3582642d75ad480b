/- The document's Start. -/
import Derived.Test.YtnedappnmkbbpaaMe
namespace Go.Proofs.Ytnedappnmkbbpaa
open Go.RowKit

set_option maxRecDepth 20000 in
theorem rstart_any (w : World) :
    Calls Try.prog 12 #[] w fun e w' => e = .returned (.agg (rv zS)) ∧ Below w.heap.size w w' := by
  obtain ⟨w0, hw0⟩ : ∃ w0, (w.alloc (.cells #[.int .i64 0, .int .i64 0, .int .i64 0, .int .i64 0, .int .i64 0, .int .i64 0, .int .i64 0, .int .i64 0, .int .i64 0, .int .i64 0] 23)).alloc (.cells #[.int .i64 0, .int .i64 0, .int .i64 0, .int .i64 0, .int .i64 0, .int .i64 0, .int .i64 0, .int .i64 0, .int .i64 0, .int .i64 0] 23) = w0 := ⟨_, rfl⟩
  obtain ⟨hb0, hr0, hr1, _⟩ := two_rows w z0 hw0
  obtain ⟨G, hG⟩ : ∃ G, w.heap.size = G := ⟨_, rfl⟩
  rw [hG] at hr0 hr1 hb0 ⊢
  have HR0 := Lib.hid hr0
  have HR1 := Lib.hid hr1
  have HB0 := Lib.hid hb0
  clear hr0 hr1 hb0
  go_enter Try.func12, Try.ntmps12
  go_wp2_with (refine store_rows rfl (.tmp 1) (.tmp 4) rfl (G + 1) rfl z0 rfl rfl z0 z0_len HR1.out ?_; intro w1 hr1 ho1; have HR1 := Lib.hid hr1; have HR0 := Lib.hid (ho1.rows (by omega) HR0.out); have HB0 := Lib.hid (HB0.out.trans (ho1.below (show G ≤ G + 1 by omega))); clear hr1 ho1)
  go_loopw [2, 3] (fun v _ wr => ∃ g : Nat, v = .int .i64 g ∧ 1 ≤ g ∧ g ≤ 6 ∧ Hid (RB wr (G + 1) (stZ g 1)) ∧ Hid (RB wr G z0) ∧ Hid (Below G w wr)) (fun v _ _ => 6 - (intOf v).toNat)
  case atStart => exact ⟨1, rfl, by omega, by omega, Lib.hid (by rw [stZ_0]; exact HR1.out), HR0, HB0⟩
  case round =>
    obtain ⟨g, rfl, hg1, hg6, HR, HZ, HB⟩ := hrel
    rename World => wa
    by_cases hlt : g ≤ 5
    · have hd5 : decide ((g : Int) ≤ 5) = true := by simp; omega
      go_wp2
      go_loopw [3] (fun v wr => ∃ h : Nat, v = .int .i64 h ∧ 1 ≤ h ∧ h ≤ g ∧ Hid (RB wr (G + 1) (stZ g h)) ∧ Hid (RB wr G z0) ∧ Hid (Below G w wr)) (fun v _ => 6 - (intOf v).toNat)
      case atStart => exact ⟨1, rfl, by omega, by omega, HR, HZ, HB⟩
      case round =>
        obtain ⟨h, rfl, hh1, hh6, HR, HZ, HB⟩ := hrel
        rename World => wb
        by_cases hlh : h < g
        · have hpw := pow_rng h (by omega)
          have HN := Lib.hid (stZ_in g (by omega) h (by omega) ⟨hg1, hh1, hlh⟩)
          have hc := HR.out.cell (stZ_len g h) (show g < 10 by omega)
          have hf := HR.out.frozen g
          go_wp2_with fail
          go_region
          have HR3 : Hid (RB (wb.drew.setCell ⟨G + 1, g, none⟩ (.int .i64 (bits .or .i64 (bt (stZ g h) g) (2 ^ h)))) (G + 1) (stZ g (h + 1))) := Lib.hid (by
            rw [← HN.out]; exact RB.set (RB.drew HR.out) g _)
          have HZ3 := Lib.hid ((Only.ofCell wb.drew (G + 1) g (.int .i64 (bits .or .i64 (bt (stZ g h) g) (2 ^ h)))).rows (show G ≠ G + 1 by omega) (RB.drew HZ.out))
          have HB3 := Lib.hid (HB.out.drew.setCell (p := ⟨G + 1, g, none⟩) (show G ≤ G + 1 by omega) (.int .i64 (bits .or .i64 (bt (stZ g h) g) (2 ^ h))))
          go_wp2
          go_roundw
          case rel => exact ⟨h + 1, by go_num, by omega, by omega, HR3, HZ3, HB3⟩
          case measure => simp [intOf]; omega
        · have HE : Hid (stZ g h = stZ (g + 1) 1) := Lib.hid (by rw [show h = g by omega]; exact stZ_out g (by omega) hg1)
          go_wp2
          go_roundw
          case rel => exact ⟨g + 1, by go_num, by omega, by omega, by rw [← HE.out]; exact HR, HZ, HB⟩
          case measure => simp [intOf]; omega
    · have HE : Hid (stZ g 1 = zS) := Lib.hid (by rw [show g = 6 by omega]; exact stZ_end)
      rw [HE.out] at HR
      go_wp2_with (first
        | (refine load_rows rfl (.tmp 1) rfl (G + 1) rfl zS rfl HR.out ?_)
        | (refine store_rows rfl (.tmp 0) (.tmp 22) rfl G rfl zS rfl rfl z0 z0_len HZ.out ?_; intro w2 hr2 ho2; have HR2 := Lib.hid hr2; have HO2 := Lib.hid ho2; clear hr2 ho2))
      have HB2 : Below G w w2 := HB.out.trans (HO2.out.below (Nat.le_refl _))
      exact bodyPost_ret (ret_rows rfl _ _ G _ rfl rfl HR2.out) rfl ⟨rfl, HB2⟩

end Go.Proofs.Ytnedappnmkbbpaa
