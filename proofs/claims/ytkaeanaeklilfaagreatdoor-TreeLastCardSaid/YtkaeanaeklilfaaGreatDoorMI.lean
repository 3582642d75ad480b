/- Texts laid one behind the other. -/
import Derived.Test.YtkaeanaeklilfaaGreatDoorMG
import Derived.Test.YtkaeanaeklilfaaGreatDoorMH

/- graph.Start. -/
namespace Go.Proofs.YtkaeanaeklilfaaGreatDoor
open Go.RowKit

/-- The rows ahead of group g are laid, and of row g the bits ahead of h. -/
def stZ (g h : Nat) : List Int := (List.range 10).map fun i => if 1 ≤ i ∧ i < g then 2 ^ i - 2 else if i = g then 2 ^ h - 2 else 0
theorem stZ_len (g h : Nat) : (stZ g h).length = 10 := by simp [stZ]
theorem stZ_0 : stZ 1 1 = z0 := by decide +kernel
theorem stZ_in : ∀ g, g < 6 → ∀ h, h < 6 → (1 ≤ g ∧ 1 ≤ h ∧ h < g) → (stZ g h).set g (bits .or .i64 (bt (stZ g h) g) (2 ^ h)) = stZ g (h + 1) := by decide +kernel
theorem stZ_out : ∀ g, g < 6 → 1 ≤ g → stZ g g = stZ (g + 1) 1 := by decide +kernel
theorem stZ_end : stZ 6 1 = zS := by decide +kernel

set_option maxRecDepth 20000 in
theorem start_any (w : World) :
    Calls Tryz.prog 34 #[] w fun e w' => e = .returned (.agg (rv zS)) ∧ Below w.heap.size w w' := by
  obtain ⟨w0, hw0⟩ : ∃ w0, (w.alloc (.cells #[.int .i64 0, .int .i64 0, .int .i64 0, .int .i64 0, .int .i64 0, .int .i64 0, .int .i64 0, .int .i64 0, .int .i64 0, .int .i64 0] 24)).alloc (.cells #[.int .i64 0, .int .i64 0, .int .i64 0, .int .i64 0, .int .i64 0, .int .i64 0, .int .i64 0, .int .i64 0, .int .i64 0, .int .i64 0] 24) = w0 := ⟨_, rfl⟩
  obtain ⟨hb0, hr0, hr1, _⟩ := two_rows w z0 hw0
  obtain ⟨G, hG⟩ : ∃ G, w.heap.size = G := ⟨_, rfl⟩
  rw [hG] at hr0 hr1 hb0 ⊢
  have HR0 := Lib.hid hr0
  have HR1 := Lib.hid hr1
  have HB0 := Lib.hid hb0
  have HG : Hid (G ≤ w.heap.size) := Lib.hid (by omega)
  clear hr0 hr1 hb0
  go_enter Tryz.func34, Tryz.ntmps34
  go_wp2
  go_loopw [2, 3] (fun v _ wr => ∃ g : Nat, v = .int .i64 g ∧ 1 ≤ g ∧ g ≤ 6 ∧ Hid (RB wr (G + 1) (stZ g 1)) ∧ Hid (RB wr G z0) ∧ Hid (Below G w wr)) (fun v _ _ => 6 - (intOf v).toNat)
  case atStart => exact ⟨1, rfl, by omega, by omega, Lib.hid (by rw [stZ_0]; exact HR1.out), HR0, HB0⟩
  case round =>
    obtain ⟨g, rfl, hg1, hg6, HR, HZ, HB⟩ := hrel
    rename World => wa
    by_cases hlt : g ≤ 5
    · have hd5 : decide ((g : Int) ≤ 5) = true := by simp; omega
      go_wp2
      go_loopw [3] (fun v wr => ∃ h : Nat, v = .int .i64 h ∧ 1 ≤ h ∧ h ≤ g ∧ Hid (RB wr (G + 1) (stZ g h)) ∧ Hid (RB wr G z0) ∧ Hid (Below G w wr)) (fun v _ => 6 - (intOf v).toNat)
      case atStart => exact ⟨1, rfl, by omega, by omega, HR, HZ, HB⟩
      case round =>
        obtain ⟨h, rfl, hh1, hh6, HR, HZ, HB⟩ := hrel
        rename World => wb
        by_cases hlh : h < g
        · have hpw := pow_rng h (by omega)
          have HN := Lib.hid (stZ_in g (by omega) h (by omega) ⟨hg1, hh1, hlh⟩)
          go_wp2_with fail
          -- the region, by hand (laid by genMe.py)
          refine wp_region_noPanic ?_
          refine wp_region_held_drew (S := fun _ => True) (by kernel_rfl) (trivial) (fun hHeld => ?_)
          refine wpAnyH_take (i := 1) (oi := { dst := some 14, op := Op.move (Operand.tmp 2), type := 3, pos := "graph.go:11", after := #[], guard := none }) (v := ?_) rfl (by kernel_rfl) (by kernel_rfl) (by kernel_rfl) (fun _ _ _ h => h) (Or.inl ⟨by rfl, ?_⟩) (by assumption) ?_
          rotate_left
          · intro w' hSw
            try dsimp only at hSw
            go_simp
            try with_reducible rfl
          try simp only [Act.put, List.setIfInBounds_toArray, List.set_cons_zero, List.set_cons_succ]
          refine wpAnyH_take (i := 2) (oi := { dst := some 15, op := Op.move (Operand.tmp 3), type := 3, pos := "graph.go:11", after := #[], guard := none }) (v := ?_) rfl (by kernel_rfl) (by kernel_rfl) (by kernel_rfl) (fun _ _ _ h => h) (Or.inl ⟨by rfl, ?_⟩) (by assumption) ?_
          rotate_left
          · intro w' hSw
            try dsimp only at hSw
            go_simp
            try with_reducible rfl
          try simp only [Act.put, List.setIfInBounds_toArray, List.set_cons_zero, List.set_cons_succ]
          refine wpAnyH_take (i := 3) (oi := { dst := some 16, op := Op.binOp BinOp.shl 3 (Operand.const (Value.int IntKind.i64 1)) (Operand.tmp 15) 3, type := 3, pos := "graph.go:11", after := #[{ on := 2, ground := Ground.data }], guard := none }) (v := ?_) rfl (by kernel_rfl) (by kernel_rfl) (by kernel_rfl) (fun _ _ _ h => h) (Or.inl ⟨by rfl, ?_⟩) (by assumption) ?_
          rotate_left
          · intro w' hSw
            try dsimp only at hSw
            go_simp
            try with_reducible rfl
          try simp only [Act.put, List.setIfInBounds_toArray, List.set_cons_zero, List.set_cons_succ]
          refine wpAnyH_ready (rs := [0]) (by kernel_rfl) (by simp) ?_
          refine AllReadyH.cons (o := { dst := some 13, op := Op.load 24 (Operand.tmp 1), type := 24, pos := "graph.go:11", after := #[], guard := none }) rfl (fun K hK => ?_) ?_
          · refine step_load_rows rfl (.tmp 1) rfl (G + 1) rfl (stZ g h) (stZ_len g h) HR.out ?_
            refine hK.out _ _ (trivial) (fun hHeld => ?_)
            clear hK K
            try simp only [Act.put, List.setIfInBounds_toArray, List.set_cons_zero, List.set_cons_succ]
            refine wpAnyH_ready (rs := [4]) (by kernel_rfl) (by simp) ?_
            refine AllReadyH.cons (o := { dst := some 17, op := Op.call { callee := Callee.value (Operand.func 52), args := #[Operand.tmp 13, Operand.tmp 14, Operand.tmp 16], argTypes := #[24, 3, 3] }, type := 24, pos := "graph.go:11", after := #[{ on := 0, ground := Ground.data }, { on := 1, ground := Ground.data }, { on := 3, ground := Ground.data }], guard := none }) rfl (fun K hK => ?_) ?_
            · go_simp
              (go_at_call 52; (with_reducible refine (with_any (stZ g h) (stZ_len g h) g (by omega) _ _).mono ?_); rintro e w1 ⟨rfl, hb⟩)
              have HB1 := Lib.hid (HB.out.trans (((Below.refl _ wb).drew).trans (hb.mono (show G ≤ wb.heap.size from Nat.le_trans HG.out HB.out.size))))
              have HR1 := Lib.hid (RB.keep (RB.drew HR.out) hb (RB.lt (RB.drew HR.out)))
              have HZ1 := Lib.hid (RB.keep (RB.drew HZ.out) hb (RB.lt (RB.drew HZ.out)))
              clear hb
              refine hK.out _ _ (trivial) (fun hHeld => ?_)
              clear hK K
              try simp only [Act.put, List.setIfInBounds_toArray, List.set_cons_zero, List.set_cons_succ]
              refine wpAnyH_ready (rs := [5]) (by kernel_rfl) (by simp) ?_
              refine AllReadyH.cons (o := { dst := none, op := Op.store 24 (Operand.tmp 1) (Operand.tmp 17), type := 0, pos := "graph.go:11", after := #[{ on := 4, ground := Ground.data }, { on := 4, ground := Ground.chain }, { on := 0, ground := Ground.phase }, { on := 1, ground := Ground.phase }, { on := 2, ground := Ground.phase }, { on := 3, ground := Ground.phase }, { on := 4, ground := Ground.phase }], guard := none }) rfl (fun K hK => ?_) ?_
              · refine step_store_rows rfl (.tmp 1) (.tmp 17) rfl (G + 1) rfl _ rfl (by simp [stZ_len]) (stZ g h) (stZ_len g h) HR1.out ?_
                intro w2 hr2 ho2
                rw [HN.out] at hr2
                have HR3 := Lib.hid hr2
                have HZ3 := Lib.hid (ho2.rows (by omega) HZ1.out)
                have HB3 := Lib.hid (HB1.out.trans (ho2.below (show G ≤ G + 1 by omega)))
                clear hr2 ho2
                refine hK.out _ _ (trivial) (fun hHeld => ?_)
                clear hK K
                try simp only [Act.put]
                refine wpAnyH_done (by kernel_rfl) ?_ _
                refine NoPanic.normal ?_
                go_wp2
                go_roundw
                case rel => exact ⟨h + 1, by go_num, by omega, by omega, HR3, HZ3, HB3⟩
                case measure => simp [intOf]; omega
              · exact AllReadyH.nil
            · exact AllReadyH.nil
          · exact AllReadyH.nil
        · have HE : Hid (stZ g h = stZ (g + 1) 1) := Lib.hid (by rw [show h = g by omega]; exact stZ_out g (by omega) hg1)
          go_wp2
          go_roundw
          case rel => exact ⟨g + 1, by go_num, by omega, by omega, by rw [← HE.out]; exact HR, HZ, HB⟩
          case measure => simp [intOf]; omega
    · have HE : Hid (stZ g 1 = zS) := Lib.hid (by rw [show g = 6 by omega]; exact stZ_end)
      rw [HE.out] at HR
      go_wp2_with (first
        | (refine load_rows rfl (.tmp 1) rfl (G + 1) rfl zS rfl HR.out ?_)
        | (refine store_rows rfl (.tmp 0) (.tmp 18) rfl G rfl zS rfl rfl z0 z0_len HZ.out ?_; intro w2 hr2 ho2; have HR2 := Lib.hid hr2; have HO2 := Lib.hid ho2; clear hr2 ho2))
      have HB2 : Below G w w2 := HB.out.trans (HO2.out.below (Nat.le_refl _))
      exact bodyPost_ret (ret_rows rfl _ _ G _ rfl rfl HR2.out) rfl ⟨rfl, HB2⟩

end Go.Proofs.YtkaeanaeklilfaaGreatDoor

/- The document's Start. -/
namespace Go.Proofs.YtkaeanaeklilfaaGreatDoor
open Go.RowKit

set_option maxRecDepth 20000 in
theorem rstart_any (w : World) :
    Calls Tryz.prog 43 #[] w fun e w' => e = .returned (.agg (rv zS)) ∧ Below w.heap.size w w' := by
  obtain ⟨w0, hw0⟩ : ∃ w0, (w.alloc (.cells #[.int .i64 0, .int .i64 0, .int .i64 0, .int .i64 0, .int .i64 0, .int .i64 0, .int .i64 0, .int .i64 0, .int .i64 0, .int .i64 0] 24)).alloc (.cells #[.int .i64 0, .int .i64 0, .int .i64 0, .int .i64 0, .int .i64 0, .int .i64 0, .int .i64 0, .int .i64 0, .int .i64 0, .int .i64 0] 24) = w0 := ⟨_, rfl⟩
  obtain ⟨hb0, hr0, hr1, _⟩ := two_rows w z0 hw0
  obtain ⟨G, hG⟩ : ∃ G, w.heap.size = G := ⟨_, rfl⟩
  rw [hG] at hr0 hr1 hb0 ⊢
  have HR0 := Lib.hid hr0
  have HR1 := Lib.hid hr1
  have HB0 := Lib.hid hb0
  clear hr0 hr1 hb0
  go_enter Tryz.func43, Tryz.ntmps43
  go_wp2_with (refine store_rows rfl (.tmp 1) (.tmp 4) rfl (G + 1) rfl z0 rfl rfl z0 z0_len HR1.out ?_; intro w1 hr1 ho1; have HR1 := Lib.hid hr1; have HR0 := Lib.hid (ho1.rows (by omega) HR0.out); have HB0 := Lib.hid (HB0.out.trans (ho1.below (show G ≤ G + 1 by omega))); clear hr1 ho1)
  go_loopw [2, 3] (fun v _ wr => ∃ g : Nat, v = .int .i64 g ∧ 1 ≤ g ∧ g ≤ 6 ∧ Hid (RB wr (G + 1) (stZ g 1)) ∧ Hid (RB wr G z0) ∧ Hid (Below G w wr)) (fun v _ _ => 6 - (intOf v).toNat)
  case atStart => exact ⟨1, rfl, by omega, by omega, Lib.hid (by rw [stZ_0]; exact HR1.out), HR0, HB0⟩
  case round =>
    obtain ⟨g, rfl, hg1, hg6, HR, HZ, HB⟩ := hrel
    rename World => wa
    by_cases hlt : g ≤ 5
    · have hd5 : decide ((g : Int) ≤ 5) = true := by simp; omega
      go_wp2
      go_loopw [3] (fun v wr => ∃ h : Nat, v = .int .i64 h ∧ 1 ≤ h ∧ h ≤ g ∧ Hid (RB wr (G + 1) (stZ g h)) ∧ Hid (RB wr G z0) ∧ Hid (Below G w wr)) (fun v _ => 6 - (intOf v).toNat)
      case atStart => exact ⟨1, rfl, by omega, by omega, HR, HZ, HB⟩
      case round =>
        obtain ⟨h, rfl, hh1, hh6, HR, HZ, HB⟩ := hrel
        rename World => wb
        by_cases hlh : h < g
        · have hpw := pow_rng h (by omega)
          have HN := Lib.hid (stZ_in g (by omega) h (by omega) ⟨hg1, hh1, hlh⟩)
          have hc := HR.out.cell (stZ_len g h) (show g < 10 by omega)
          have hf := HR.out.frozen g
          go_wp2_with fail
          go_region
          have HR3 : Hid (RB (wb.drew.setCell ⟨G + 1, g, none⟩ (.int .i64 (bits .or .i64 (bt (stZ g h) g) (2 ^ h)))) (G + 1) (stZ g (h + 1))) := Lib.hid (by
            rw [← HN.out]; exact RB.set (RB.drew HR.out) g _)
          have HZ3 := Lib.hid ((Only.ofCell wb.drew (G + 1) g (.int .i64 (bits .or .i64 (bt (stZ g h) g) (2 ^ h)))).rows (show G ≠ G + 1 by omega) (RB.drew HZ.out))
          have HB3 := Lib.hid (HB.out.drew.setCell (p := ⟨G + 1, g, none⟩) (show G ≤ G + 1 by omega) (.int .i64 (bits .or .i64 (bt (stZ g h) g) (2 ^ h))))
          go_wp2
          go_roundw
          case rel => exact ⟨h + 1, by go_num, by omega, by omega, HR3, HZ3, HB3⟩
          case measure => simp [intOf]; omega
        · have HE : Hid (stZ g h = stZ (g + 1) 1) := Lib.hid (by rw [show h = g by omega]; exact stZ_out g (by omega) hg1)
          go_wp2
          go_roundw
          case rel => exact ⟨g + 1, by go_num, by omega, by omega, by rw [← HE.out]; exact HR, HZ, HB⟩
          case measure => simp [intOf]; omega
    · have HE : Hid (stZ g 1 = zS) := Lib.hid (by rw [show g = 6 by omega]; exact stZ_end)
      rw [HE.out] at HR
      go_wp2_with (first
        | (refine load_rows rfl (.tmp 1) rfl (G + 1) rfl zS rfl HR.out ?_)
        | (refine store_rows rfl (.tmp 0) (.tmp 22) rfl G rfl zS rfl rfl z0 z0_len HZ.out ?_; intro w2 hr2 ho2; have HR2 := Lib.hid hr2; have HO2 := Lib.hid ho2; clear hr2 ho2))
      have HB2 : Below G w w2 := HB.out.trans (HO2.out.below (Nat.le_refl _))
      exact bodyPost_ret (ret_rows rfl _ _ G _ rfl rfl HR2.out) rfl ⟨rfl, HB2⟩

end Go.Proofs.YtkaeanaeklilfaaGreatDoor
