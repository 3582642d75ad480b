/- Contract of the laws' own short. -/
import Derived.Test.YtenaadfmlpmffaaDoorHv
namespace Go.Proofs.YtenaadfmlpmffaaDoor
open Go.RowKit

/-- Six parts at most, of 30 bytes. -/
def shP (P : List Nm) : List Nm := (P.take 6).map (·.take 30)
theorem shP_len (P : List Nm) : (shP P).length = min 6 P.length := by simp [shP]
theorem shP_step {P : List Nm} {k : Nat} (h : k < P.length) (h6 : k < 6) : (shP P).take (k + 1) = (shP P).take k ++ [(pt P k).take 30] := by
  have hl : k < (shP P).length := by rw [shP_len]; omega
  rw [pt_take hl]
  congr 2
  unfold pt shP
  simp [List.getD, h, h6]
theorem shP_size (P : List Nm) (l r : Bool) : (stx ⟨shP P, l, r⟩).length ≤ 100000 := by
  have h1 : ∀ x ∈ shP P, x.length ≤ 30 := by
    intro x hx
    obtain ⟨y, _, rfl⟩ := List.mem_map.1 hx
    simp; omega
  have h2 := jnP_le _ h1
  have h3 := shP_len P
  have h4 : (shP P).length * (30 + 1) ≤ 6 * 31 := Nat.mul_le_mul_right _ (by omega)
  have h5 := hol_len l
  have h6 := hol_len r
  unfold stx
  simp only [List.length_append]
  omega

set_option maxRecDepth 100000 in
set_option maxHeartbeats 8000000 in
theorem short_any (a : Option Addr) (n c : Nat) (P : List Nm) (l r : Bool) (w : World) (h : Ss w a n c P) :
    Calls Tryd.prog 13 #[.agg #[.slice a n c, .bool l, .bool r]] w fun e w' => ∃ a' n' c', e = .returned (.agg #[.slice a' n' c', .bool l, .bool r]) ∧ Ss w' a' n' c' (shP P) ∧ Below w.heap.size w w' := by
  have hcm := h.cm
  have hlc := h.lc
  unfold maxLen at hcm
  have H := Lib.hid h
  have HP := Lib.hid (Ss.len h)
  obtain ⟨B, hB⟩ : ∃ B, B = w.heap.size := ⟨_, rfl⟩
  obtain ⟨R, hR⟩ : ∃ R, R = B + 1 := ⟨_, rfl⟩
  obtain ⟨q, hq⟩ : ∃ q, q = R + 1 := ⟨_, rfl⟩
  obtain ⟨w1, hw1⟩ : ∃ w1, w1 = w.alloc (.cells #[.slice a n c, .bool l, .bool r] 24) := ⟨_, rfl⟩
  obtain ⟨w2, hw2⟩ : ∃ w2, w2 = w1.alloc (.cells #[.slice none 0 0, .bool false, .bool false] 24) := ⟨_, rfl⟩
  obtain ⟨w3, hw3⟩ : ∃ w3, w3 = w2.alloc (.cells #[.slice none 0 0, .bool l, .bool r] 24) := ⟨_, rfl⟩
  have hs1 : w1.heap.size = R := by rw [hw1, hR, hB]; simp
  have hs2 : w2.heap.size = q := by rw [hw2, hq, ← hs1]; simp
  have hs3 : w3.heap.size = q + 1 := by rw [hw3, ← hs2]; simp
  have HX3 : Hid (w3.heap[B]? = some (.cells #[.slice a n c, .bool l, .bool r] 24 (0, 0))) := Lib.hid (by
    rw [hw3, Lib.alloc_old _ _ _ (by omega), hw2, Lib.alloc_old _ _ _ (by omega), hw1, hB]; exact heap_alloc_new w _)
  have HZ3 : Hid (w3.heap[R]? = some (.cells #[.slice none 0 0, .bool false, .bool false] 24 (0, 0))) := Lib.hid (by
    rw [hw3, Lib.alloc_old _ _ _ (by omega), hw2, ← hs1]; exact heap_alloc_new w1 _)
  have HQ3 : Hid (w3.heap[q]? = some (.cells #[.slice none 0 0, .bool l, .bool r] 24 (0, 0))) := Lib.hid (by rw [hw3, ← hs2]; exact heap_alloc_new w2 _)
  have HB3 : Hid (Below B w w3) := Lib.hid (by
    rw [hw3, hw2, hw1, hB]; exact (((Below.refl _ _).alloc (Nat.le_refl _) _).alloc (by simp) _).alloc (by simp; omega) _)
  have HW : Hid (B = w.heap.size) := Lib.hid hB
  have HBRq : Hid (B < R ∧ R < q) := Lib.hid ⟨by omega, by omega⟩
  clear h
  go_enter Tryd.func13, Tryd.ntmps13
  go_wp2
  rw [← hw1, ← hw2, ← hw3, ← hB]
  have hq2 : q = B + 2 := by omega
  try rw [← hq2]
  rw [← hR]
  try rw [← hq]
  clear hw1 hw2 hw3 hB hR hq hq2 hs1 hs2
  go_loopw [4] (fun v wr => ∃ (k : Nat) (a' : Option Addr) (c' : Nat), v = .int .i64 k ∧ k ≤ n ∧ k ≤ 6 ∧ Hid (wr.heap[q]? = some (.cells #[.slice a' k c', .bool l, .bool r] 24 (0, 0))) ∧ Hid (OwnV (q + 1) 9 1 wr a' k c' (((shP P).take k).map enS)) ∧ Hid (Below q w3 wr)) (fun v _ => n - (intOf v).toNat)
  case atStart => exact ⟨0, none, 0, rfl, by omega, by omega, HQ3, Lib.hid OwnV.none0, Lib.hid (Below.refl _ _)⟩
  case round =>
    obtain ⟨k, a', c', rfl, hk, hk6, HQ, HO, HB⟩ := hrel
    have hk0 : (0 : Int) ≤ (k : Int) := Int.natCast_nonneg _
    have HXr : Hid (wr.heap[B]? = some (.cells #[.slice a n c, .bool l, .bool r] 24 (0, 0))) := Lib.hid ((HB.out.block B (by have := HBRq.out; omega)).trans HX3.out)
    have HZr : Hid (wr.heap[R]? = some (.cells #[.slice none 0 0, .bool false, .bool false] 24 (0, 0))) := Lib.hid ((HB.out.block R (by have := HBRq.out; omega)).trans HZ3.out)
    have HBW : Hid (Below B w wr) := Lib.hid (HB3.out.trans (HB.out.mono (by have := HBRq.out; omega)))
    have hsr : q + 1 ≤ wr.heap.size := by have := HB.out.size; omega
    obtain ⟨⟨x0, x1, x2⟩, _⟩ := three HXr.out
    obtain ⟨⟨y0, y1, y2⟩, _⟩ := three HQ.out
    by_cases hlt : k < n ∧ k < 6
    · have hk1 : (k : Int) < (n : Int) := by omega
      have hk2 : (k : Int) < 6 := by omega
      have hS := H.out.below (by rw [← HW.out]; exact HBW.out)
      obtain ⟨g, o, rfl, hgl, hx⟩ := hS.at_ (by omega)
      clear hx
      have hs := Ss.str hS hlt.1
      obtain ⟨x, hx⟩ : ∃ x, x = pt P k := ⟨_, rfl⟩
      have HST : Hid (((shP P).take (k + 1)).map enS = ((shP P).take k).map enS ++ [enS (x.take 30)]) := Lib.hid (by rw [shP_step (by rw [HP.out]; exact hlt.1) hlt.2, hx, List.map_append]; rfl)
      rw [← hx] at hs
      obtain ⟨u, hu⟩ : ∃ u, u = (mk x).size := ⟨_, rfl⟩
      obtain ⟨v, hv⟩ : ∃ v, v = min u 30 := ⟨_, rfl⟩
      have hmin : min (u : Int) 30 = (v : Int) := by omega
      have hms : (mk x).size = u := hu.symm
      have hsl : ∀ w, (Instr.slice 9 (.string (mk x)) none (some (.int .i64 v)) none).run Tryd.prog w = .ok (.string (mk (x.take 30))) w := fun w => by
        rw [run_hi w x v (by rw [← mk_size]; omega)]
        congr 3
        rw [hv, hu, mk_size]
        by_cases h30 : x.length ≤ 30
        · rw [Nat.min_eq_left h30, List.take_of_length_le (Nat.le_refl _), List.take_of_length_le h30]
        · rw [Nat.min_eq_right (by omega)]
      have hv0 : (0 : Int) ≤ (v : Int) := Int.natCast_nonneg _
      have e1 : ∀ ob : Obj, (wr.alloc ob).cell? ⟨B, 0, none⟩ = some (.slice (some ⟨g, o, none⟩) n c) := fun ob => (((Below.refl wr.heap.size wr).alloc (Nat.le_refl _) ob).cell (by show B < wr.heap.size; have := HBRq.out; omega)).trans x0
      have e2 : ∀ ob : Obj, (wr.alloc ob).cell? ⟨q, 0, none⟩ = some (.slice a' k c') := fun ob => (((Below.refl wr.heap.size wr).alloc (Nat.le_refl _) ob).cell (by show q < wr.heap.size; omega)).trans y0
      have e3 : ∀ ob : Obj, (wr.alloc ob).cell? ⟨g, o + k, none⟩ = some (.string (mk x)) := fun ob => (((Below.refl wr.heap.size wr).alloc (Nat.le_refl _) ob).cell hgl).trans hs
      have hgB : g < B := by
        obtain ⟨b', o', ha, hb', _⟩ := H.out.at_ (by omega)
        simp only [Option.some.injEq, Addr.mk.injEq] at ha
        have := HW.out
        omega
      have hBR := HBRq.out
      clear hS hx hu hv
      go_wp2
      have hS : wr.cell? ⟨B, 0, none⟩ = some (.slice (some ⟨g, o, none⟩) n c) ∧ wr.cell? ⟨g, o + k, none⟩ = some (.string (mk x)) := ⟨x0, hs⟩
      refine wp_region_held_drew (S := fun w' => w'.cell? ⟨B, 0, none⟩ = some (.slice (some ⟨g, o, none⟩) n c) ∧ w'.cell? ⟨g, o + k, none⟩ = some (.string (mk x))) (by kernel_rfl) ⟨x0, hs⟩ (fun hHeld => ?_)
      refine wpAnyH_take (i := 0) (oi := { dst := some 21, op := Op.fieldAddr 24 (Operand.tmp 3) 0, type := 0, pos := "law.go:26", after := #[], guard := none }) (v := ?_) rfl (by kernel_rfl) (by kernel_rfl) (by kernel_rfl) (fun _ _ _ h => h) (Or.inl ⟨by rfl, ?_⟩) (by assumption) ?_
      rotate_left
      · intro w' hSw
        try dsimp only at hSw
        go_simp
        try with_reducible rfl
      try simp only [Act.put, List.setIfInBounds_toArray, List.set_cons_zero, List.set_cons_succ]
      refine wpAnyH_take (i := 2) (oi := { dst := some 23, op := Op.fieldAddr 24 (Operand.tmp 1) 0, type := 0, pos := "law.go:26", after := #[], guard := none }) (v := ?_) rfl (by kernel_rfl) (by kernel_rfl) (by kernel_rfl) (fun _ _ _ h => h) (Or.inl ⟨by rfl, ?_⟩) (by assumption) ?_
      rotate_left
      · intro w' hSw
        try dsimp only at hSw
        go_simp
        try with_reducible rfl
      try simp only [Act.put, List.setIfInBounds_toArray, List.set_cons_zero, List.set_cons_succ]
      refine wpAnyH_take (i := 3) (oi := { dst := some 24, op := Op.load 22 (Operand.tmp 23), type := 22, pos := "law.go:26", after := #[{ on := 2, ground := Ground.data }], guard := none }) (v := ?_) rfl (by kernel_rfl) (by kernel_rfl) (by kernel_rfl) (fun _ _ _ h => h) (Or.inl ⟨by rfl, ?_⟩) (by assumption) ?_
      rotate_left
      · intro w' hSw
        try dsimp only at hSw
        go_simp
        try with_reducible rfl
      try simp only [Act.put, List.setIfInBounds_toArray, List.set_cons_zero, List.set_cons_succ]
      refine wpAnyH_take (i := 4) (oi := { dst := some 25, op := Op.move (Operand.tmp 4), type := 3, pos := "law.go:26", after := #[], guard := none }) (v := ?_) rfl (by kernel_rfl) (by kernel_rfl) (by kernel_rfl) (fun _ _ _ h => h) (Or.inl ⟨by rfl, ?_⟩) (by assumption) ?_
      rotate_left
      · intro w' hSw
        try dsimp only at hSw
        go_simp
        try with_reducible rfl
      try simp only [Act.put, List.setIfInBounds_toArray, List.set_cons_zero, List.set_cons_succ]
      refine wpAnyH_take (i := 5) (oi := { dst := some 26, op := Op.indexAddr 22 (Operand.tmp 24) (Operand.tmp 25), type := 0, pos := "law.go:26", after := #[{ on := 3, ground := Ground.data }, { on := 4, ground := Ground.data }], guard := none }) (v := ?_) rfl (by kernel_rfl) (by kernel_rfl) (by kernel_rfl) (fun _ _ _ h => h) (Or.inl ⟨by rfl, ?_⟩) (by assumption) ?_
      rotate_left
      · intro w' hSw
        try dsimp only at hSw
        go_simp
        try with_reducible rfl
      try simp only [Act.put, List.setIfInBounds_toArray, List.set_cons_zero, List.set_cons_succ]
      refine wpAnyH_take (i := 6) (oi := { dst := some 27, op := Op.load 9 (Operand.tmp 26), type := 9, pos := "law.go:26", after := #[{ on := 5, ground := Ground.data }], guard := none }) (v := ?_) rfl (by kernel_rfl) (by kernel_rfl) (by kernel_rfl) (fun _ _ _ h => h) (Or.inl ⟨by rfl, ?_⟩) (by assumption) ?_
      rotate_left
      · intro w' hSw
        try dsimp only at hSw
        go_simp
        try with_reducible rfl
      try simp only [Act.put, List.setIfInBounds_toArray, List.set_cons_zero, List.set_cons_succ]
      refine wpAnyH_take (i := 7) (oi := { dst := some 28, op := Op.fieldAddr 24 (Operand.tmp 1) 0, type := 0, pos := "law.go:26", after := #[], guard := none }) (v := ?_) rfl (by kernel_rfl) (by kernel_rfl) (by kernel_rfl) (fun _ _ _ h => h) (Or.inl ⟨by rfl, ?_⟩) (by assumption) ?_
      rotate_left
      · intro w' hSw
        try dsimp only at hSw
        go_simp
        try with_reducible rfl
      try simp only [Act.put, List.setIfInBounds_toArray, List.set_cons_zero, List.set_cons_succ]
      refine wpAnyH_take (i := 8) (oi := { dst := some 29, op := Op.load 22 (Operand.tmp 28), type := 22, pos := "law.go:26", after := #[{ on := 7, ground := Ground.data }], guard := none }) (v := ?_) rfl (by kernel_rfl) (by kernel_rfl) (by kernel_rfl) (fun _ _ _ h => h) (Or.inl ⟨by rfl, ?_⟩) (by assumption) ?_
      rotate_left
      · intro w' hSw
        try dsimp only at hSw
        go_simp
        try with_reducible rfl
      try simp only [Act.put, List.setIfInBounds_toArray, List.set_cons_zero, List.set_cons_succ]
      refine wpAnyH_take (i := 9) (oi := { dst := some 30, op := Op.move (Operand.tmp 4), type := 3, pos := "law.go:26", after := #[], guard := none }) (v := ?_) rfl (by kernel_rfl) (by kernel_rfl) (by kernel_rfl) (fun _ _ _ h => h) (Or.inl ⟨by rfl, ?_⟩) (by assumption) ?_
      rotate_left
      · intro w' hSw
        try dsimp only at hSw
        go_simp
        try with_reducible rfl
      try simp only [Act.put, List.setIfInBounds_toArray, List.set_cons_zero, List.set_cons_succ]
      refine wpAnyH_take (i := 10) (oi := { dst := some 31, op := Op.indexAddr 22 (Operand.tmp 29) (Operand.tmp 30), type := 0, pos := "law.go:26", after := #[{ on := 8, ground := Ground.data }, { on := 9, ground := Ground.data }], guard := none }) (v := ?_) rfl (by kernel_rfl) (by kernel_rfl) (by kernel_rfl) (fun _ _ _ h => h) (Or.inl ⟨by rfl, ?_⟩) (by assumption) ?_
      rotate_left
      · intro w' hSw
        try dsimp only at hSw
        go_simp
        try with_reducible rfl
      try simp only [Act.put, List.setIfInBounds_toArray, List.set_cons_zero, List.set_cons_succ]
      refine wpAnyH_take (i := 11) (oi := { dst := some 32, op := Op.load 9 (Operand.tmp 31), type := 9, pos := "law.go:26", after := #[{ on := 10, ground := Ground.data }], guard := none }) (v := ?_) rfl (by kernel_rfl) (by kernel_rfl) (by kernel_rfl) (fun _ _ _ h => h) (Or.inl ⟨by rfl, ?_⟩) (by assumption) ?_
      rotate_left
      · intro w' hSw
        try dsimp only at hSw
        go_simp
        try with_reducible rfl
      try simp only [Act.put, List.setIfInBounds_toArray, List.set_cons_zero, List.set_cons_succ]
      refine wpAnyH_take (i := 12) (oi := { dst := some 33, op := Op.call { callee := Callee.builtin Builtin.len, args := #[Operand.tmp 32], argTypes := #[9] }, type := 3, pos := "law.go:26", after := #[{ on := 11, ground := Ground.data }], guard := none }) (v := ?_) rfl (by kernel_rfl) (by kernel_rfl) (by kernel_rfl) (fun _ _ _ h => h) (Or.inl ⟨by rfl, ?_⟩) (by assumption) ?_
      rotate_left
      · intro w' hSw
        try dsimp only at hSw
        go_simp
        try with_reducible rfl
      try simp only [Act.put, List.setIfInBounds_toArray, List.set_cons_zero, List.set_cons_succ]
      refine wpAnyH_take (i := 13) (oi := { dst := some 34, op := Op.call { callee := Callee.builtin Builtin.min, args := #[Operand.tmp 33, Operand.const (Value.int IntKind.i64 30)], argTypes := #[3, 3] }, type := 3, pos := "law.go:26", after := #[{ on := 12, ground := Ground.data }], guard := none }) (v := ?_) rfl (by kernel_rfl) (by kernel_rfl) (by kernel_rfl) (fun _ _ _ h => h) (Or.inl ⟨by rfl, ?_⟩) (by assumption) ?_
      rotate_left
      · intro w' hSw
        try dsimp only at hSw
        go_simp
        try with_reducible rfl
      try simp only [Act.put, List.setIfInBounds_toArray, List.set_cons_zero, List.set_cons_succ]
      refine wpAnyH_take (i := 14) (oi := { dst := some 35, op := Op.slice 9 (Operand.tmp 27) none (some (Operand.tmp 34)) none, type := 9, pos := "law.go:26", after := #[{ on := 6, ground := Ground.data }, { on := 13, ground := Ground.data }], guard := none }) (v := ?_) rfl (by kernel_rfl) (by kernel_rfl) (by kernel_rfl) (fun _ _ _ h => h) (Or.inl ⟨by rfl, ?_⟩) (by assumption) ?_
      rotate_left
      · intro w' hSw
        try dsimp only at hSw
        go_simp
        try with_reducible rfl
      try simp only [Act.put, List.setIfInBounds_toArray, List.set_cons_zero, List.set_cons_succ]
      refine wpAnyH_ready (rs := [1, 15]) (by kernel_rfl) (by simp) ?_
      refine AllReadyH.cons (o := { dst := some 22, op := Op.load 22 (Operand.tmp 21), type := 22, pos := "law.go:26", after := #[{ on := 0, ground := Ground.data }], guard := none }) rfl (fun K hK => ?_) ?_
      · go_simp
        refine hK.out _ _ hHeld (fun hHeld => ?_)
        clear hK K
        try simp only [Act.put, List.setIfInBounds_toArray, List.set_cons_zero, List.set_cons_succ]
        refine wpAnyH_ready (rs := [15]) (by kernel_rfl) (by simp) ?_
        refine AllReadyH.cons (o := { dst := some 36, op := Op.buildSlice 22 1 #[(0, Operand.tmp 35)], type := 22, pos := "law.go:26", after := #[{ on := 14, ground := Ground.data }], guard := none }) rfl (fun K hK => ?_) ?_
        · go_simp
          refine hK.out _ _ ⟨e1 _, e3 _⟩ (fun hHeld => ?_)
          clear hK K
          try simp only [Act.put, List.setIfInBounds_toArray, List.set_cons_zero, List.set_cons_succ]
          refine wpAnyH_ready (rs := [16]) (by kernel_rfl) (by simp) ?_
          refine AllReadyH.cons (o := { dst := some 37, op := Op.call { callee := Callee.builtin Builtin.append, args := #[Operand.tmp 22, Operand.tmp 36], argTypes := #[22, 22] }, type := 22, pos := "law.go:26", after := #[{ on := 1, ground := Ground.data }, { on := 15, ground := Ground.data }], guard := none }) rfl (fun K hK => ?_) ?_
          · refine step_appv rfl (.tmp 22) (.tmp 36) 22 rfl 9 (q + 1) 1 16 _ Tryd.underlying22 str_info rfl (by omega) _ _ _ (((shP P).take k).map enS) rfl (by first | exact (HO.out.alloc _).drew | exact (HO.out.drew).alloc _ | exact HO.out.alloc _) _ _ _ [enS (x.take 30)] rfl (by first | exact (Vs.lit (k := 1) (xs := [enS (x.take 30)]) _ _ rfl rfl rfl).drew | exact Vs.lit (k := 1) (xs := [enS (x.take 30)]) _ _ rfl rfl rfl) (by simp; rfl) (by unfold maxLen; omega) (by omega) (by simp; omega) ?_
            intro a7 c7 w7 ho7 hg7 hb7 _
            have HB7 : Hid (Below (q + 1) wr w7) := Lib.hid (Below.trans (by first | exact ((Below.refl _ _).alloc hsr _).drew | exact ((Below.refl _ _).drew).alloc hsr _ | exact (Below.refl _ _).alloc hsr _) hb7)
            have HO7 := Lib.hid ho7
            have HQ7 : Hid (w7.heap[q]? = some (.cells #[.slice a' k c', .bool l, .bool r] 24 (0, 0))) := Lib.hid ((HB7.out.block q (by omega)).trans HQ.out)
            have HS7 : Hid (w7.cell? ⟨B, 0, none⟩ = some (.slice (some ⟨g, o, none⟩) n c) ∧ w7.cell? ⟨g, o + k, none⟩ = some (.string (mk x))) := Lib.hid ⟨(HB7.out.cell (by show B < q + 1; omega)).trans x0, (HB7.out.cell (by show g < q + 1; omega)).trans hs⟩
            have HS8 : Hid (∀ v, (w7.setCell ⟨q, 0, none⟩ v).cell? ⟨B, 0, none⟩ = some (.slice (some ⟨g, o, none⟩) n c) ∧ (w7.setCell ⟨q, 0, none⟩ v).cell? ⟨g, o + k, none⟩ = some (.string (mk x))) := Lib.hid fun v => ⟨(World.cell?_setCell_far _ _ _ _ (by show q ≠ B; omega)).trans HS7.out.1, (World.cell?_setCell_far _ _ _ _ (by show q ≠ g; omega)).trans HS7.out.2⟩
            have k7 := (three HQ7.out).1.1
            have f7 := (three HQ7.out).2.1
            clear ho7 hg7 hb7
            refine hK.out _ _ HS7.out (fun hHeld => ?_)
            clear hK K
            try simp only [Act.put, List.setIfInBounds_toArray, List.set_cons_zero, List.set_cons_succ]
            refine wpAnyH_ready (rs := [17]) (by kernel_rfl) (by simp) ?_
            refine AllReadyH.cons (o := { dst := some 38, op := Op.fieldAddr 24 (Operand.tmp 3) 0, type := 0, pos := "law.go:26", after := #[{ on := 0, ground := Ground.phase }, { on := 1, ground := Ground.phase }, { on := 2, ground := Ground.phase }, { on := 3, ground := Ground.phase }, { on := 4, ground := Ground.phase }, { on := 5, ground := Ground.phase }, { on := 6, ground := Ground.phase }, { on := 7, ground := Ground.phase }, { on := 8, ground := Ground.phase }, { on := 9, ground := Ground.phase }, { on := 10, ground := Ground.phase }, { on := 11, ground := Ground.phase }, { on := 12, ground := Ground.phase }, { on := 13, ground := Ground.phase }, { on := 14, ground := Ground.phase }, { on := 15, ground := Ground.phase }, { on := 16, ground := Ground.phase }], guard := none }) rfl (fun K hK => ?_) ?_
            · go_simp
              refine hK.out _ _ HS7.out (fun hHeld => ?_)
              clear hK K
              try simp only [Act.put, List.setIfInBounds_toArray, List.set_cons_zero, List.set_cons_succ]
              refine wpAnyH_ready (rs := [18]) (by kernel_rfl) (by simp) ?_
              refine AllReadyH.cons (o := { dst := none, op := Op.store 22 (Operand.tmp 38) (Operand.tmp 37), type := 0, pos := "law.go:26", after := #[{ on := 17, ground := Ground.data }, { on := 16, ground := Ground.data }, { on := 16, ground := Ground.chain }, { on := 0, ground := Ground.phase }, { on := 1, ground := Ground.phase }, { on := 2, ground := Ground.phase }, { on := 3, ground := Ground.phase }, { on := 4, ground := Ground.phase }, { on := 5, ground := Ground.phase }, { on := 6, ground := Ground.phase }, { on := 7, ground := Ground.phase }, { on := 8, ground := Ground.phase }, { on := 9, ground := Ground.phase }, { on := 10, ground := Ground.phase }, { on := 11, ground := Ground.phase }, { on := 12, ground := Ground.phase }, { on := 13, ground := Ground.phase }, { on := 14, ground := Ground.phase }, { on := 15, ground := Ground.phase }, { on := 16, ground := Ground.phase }], guard := none }) rfl (fun K hK => ?_) ?_
              · go_simp
                refine hK.out _ _ (HS8.out _) (fun hHeld => ?_)
                clear hK K
                try simp only [Act.put, List.setIfInBounds_toArray, List.set_cons_zero, List.set_cons_succ]
                refine wpAnyH_done (by kernel_rfl) ?_ _
                have HG := Lib.hid (gb_set w7 q 0 (.slice a7 (k + 1) c7))
                have HQ8 : Hid ((w7.setCell ⟨q, 0, none⟩ (.slice a7 (k + 1) c7)).heap[q]? = some (.cells #[.slice a7 (k + 1) c7, .bool l, .bool r] 24 (0, 0))) := Lib.hid (by rw [blk_set _ HQ7.out]; simp)
                have HO8 : Hid (OwnV (q + 1) 9 1 (w7.setCell ⟨q, 0, none⟩ (.slice a7 (k + 1) c7)) a7 (k + 1) c7 (((shP P).take (k + 1)).map enS)) := Lib.hid (by rw [HST.out]; exact HO7.out.other HG.out (.inr (HO7.out.apart (by omega))))
                have HB8 : Hid (Below q w3 (w7.setCell ⟨q, 0, none⟩ (.slice a7 (k + 1) c7))) := Lib.hid (HB.out.trans ((HB7.out.mono (by omega)).trans (gb_to HG.out (Nat.le_refl _) (by have := HB7.out.size; omega))))
                have h6' : k + 1 ≤ 6 := by omega
                have hn' : k + 1 ≤ n := by omega
                clear k7 f7 e1 e2 e3
                go_wp2
                go_roundw
                case rel => exact ⟨k + 1, a7, c7, by go_num, hn', h6', HQ8, HO8, HB8⟩
                case measure => simp [intOf]; omega
              · exact AllReadyH.nil
            · exact AllReadyH.nil
          · exact AllReadyH.nil
        · exact AllReadyH.nil
      refine AllReadyH.cons (o := { dst := some 36, op := Op.buildSlice 22 1 #[(0, Operand.tmp 35)], type := 22, pos := "law.go:26", after := #[{ on := 14, ground := Ground.data }], guard := none }) rfl (fun K hK => ?_) ?_
      · go_simp
        refine hK.out _ _ ⟨e1 _, e3 _⟩ (fun hHeld => ?_)
        clear hK K
        try simp only [Act.put, List.setIfInBounds_toArray, List.set_cons_zero, List.set_cons_succ]
        refine wpAnyH_ready (rs := [1]) (by kernel_rfl) (by simp) ?_
        refine AllReadyH.cons (o := { dst := some 22, op := Op.load 22 (Operand.tmp 21), type := 22, pos := "law.go:26", after := #[{ on := 0, ground := Ground.data }], guard := none }) rfl (fun K hK => ?_) ?_
        · go_simp
          refine hK.out _ _ ⟨e1 _, e3 _⟩ (fun hHeld => ?_)
          clear hK K
          try simp only [Act.put, List.setIfInBounds_toArray, List.set_cons_zero, List.set_cons_succ]
          refine wpAnyH_ready (rs := [16]) (by kernel_rfl) (by simp) ?_
          refine AllReadyH.cons (o := { dst := some 37, op := Op.call { callee := Callee.builtin Builtin.append, args := #[Operand.tmp 22, Operand.tmp 36], argTypes := #[22, 22] }, type := 22, pos := "law.go:26", after := #[{ on := 1, ground := Ground.data }, { on := 15, ground := Ground.data }], guard := none }) rfl (fun K hK => ?_) ?_
          · refine step_appv rfl (.tmp 22) (.tmp 36) 22 rfl 9 (q + 1) 1 16 _ Tryd.underlying22 str_info rfl (by omega) _ _ _ (((shP P).take k).map enS) rfl (by first | exact (HO.out.alloc _).drew | exact (HO.out.drew).alloc _ | exact HO.out.alloc _) _ _ _ [enS (x.take 30)] rfl (by first | exact (Vs.lit (k := 1) (xs := [enS (x.take 30)]) _ _ rfl rfl rfl).drew | exact Vs.lit (k := 1) (xs := [enS (x.take 30)]) _ _ rfl rfl rfl) (by simp; rfl) (by unfold maxLen; omega) (by omega) (by simp; omega) ?_
            intro a7 c7 w7 ho7 hg7 hb7 _
            have HB7 : Hid (Below (q + 1) wr w7) := Lib.hid (Below.trans (by first | exact ((Below.refl _ _).alloc hsr _).drew | exact ((Below.refl _ _).drew).alloc hsr _ | exact (Below.refl _ _).alloc hsr _) hb7)
            have HO7 := Lib.hid ho7
            have HQ7 : Hid (w7.heap[q]? = some (.cells #[.slice a' k c', .bool l, .bool r] 24 (0, 0))) := Lib.hid ((HB7.out.block q (by omega)).trans HQ.out)
            have HS7 : Hid (w7.cell? ⟨B, 0, none⟩ = some (.slice (some ⟨g, o, none⟩) n c) ∧ w7.cell? ⟨g, o + k, none⟩ = some (.string (mk x))) := Lib.hid ⟨(HB7.out.cell (by show B < q + 1; omega)).trans x0, (HB7.out.cell (by show g < q + 1; omega)).trans hs⟩
            have HS8 : Hid (∀ v, (w7.setCell ⟨q, 0, none⟩ v).cell? ⟨B, 0, none⟩ = some (.slice (some ⟨g, o, none⟩) n c) ∧ (w7.setCell ⟨q, 0, none⟩ v).cell? ⟨g, o + k, none⟩ = some (.string (mk x))) := Lib.hid fun v => ⟨(World.cell?_setCell_far _ _ _ _ (by show q ≠ B; omega)).trans HS7.out.1, (World.cell?_setCell_far _ _ _ _ (by show q ≠ g; omega)).trans HS7.out.2⟩
            have k7 := (three HQ7.out).1.1
            have f7 := (three HQ7.out).2.1
            clear ho7 hg7 hb7
            refine hK.out _ _ HS7.out (fun hHeld => ?_)
            clear hK K
            try simp only [Act.put, List.setIfInBounds_toArray, List.set_cons_zero, List.set_cons_succ]
            refine wpAnyH_ready (rs := [17]) (by kernel_rfl) (by simp) ?_
            refine AllReadyH.cons (o := { dst := some 38, op := Op.fieldAddr 24 (Operand.tmp 3) 0, type := 0, pos := "law.go:26", after := #[{ on := 0, ground := Ground.phase }, { on := 1, ground := Ground.phase }, { on := 2, ground := Ground.phase }, { on := 3, ground := Ground.phase }, { on := 4, ground := Ground.phase }, { on := 5, ground := Ground.phase }, { on := 6, ground := Ground.phase }, { on := 7, ground := Ground.phase }, { on := 8, ground := Ground.phase }, { on := 9, ground := Ground.phase }, { on := 10, ground := Ground.phase }, { on := 11, ground := Ground.phase }, { on := 12, ground := Ground.phase }, { on := 13, ground := Ground.phase }, { on := 14, ground := Ground.phase }, { on := 15, ground := Ground.phase }, { on := 16, ground := Ground.phase }], guard := none }) rfl (fun K hK => ?_) ?_
            · go_simp
              refine hK.out _ _ HS7.out (fun hHeld => ?_)
              clear hK K
              try simp only [Act.put, List.setIfInBounds_toArray, List.set_cons_zero, List.set_cons_succ]
              refine wpAnyH_ready (rs := [18]) (by kernel_rfl) (by simp) ?_
              refine AllReadyH.cons (o := { dst := none, op := Op.store 22 (Operand.tmp 38) (Operand.tmp 37), type := 0, pos := "law.go:26", after := #[{ on := 17, ground := Ground.data }, { on := 16, ground := Ground.data }, { on := 16, ground := Ground.chain }, { on := 0, ground := Ground.phase }, { on := 1, ground := Ground.phase }, { on := 2, ground := Ground.phase }, { on := 3, ground := Ground.phase }, { on := 4, ground := Ground.phase }, { on := 5, ground := Ground.phase }, { on := 6, ground := Ground.phase }, { on := 7, ground := Ground.phase }, { on := 8, ground := Ground.phase }, { on := 9, ground := Ground.phase }, { on := 10, ground := Ground.phase }, { on := 11, ground := Ground.phase }, { on := 12, ground := Ground.phase }, { on := 13, ground := Ground.phase }, { on := 14, ground := Ground.phase }, { on := 15, ground := Ground.phase }, { on := 16, ground := Ground.phase }], guard := none }) rfl (fun K hK => ?_) ?_
              · go_simp
                refine hK.out _ _ (HS8.out _) (fun hHeld => ?_)
                clear hK K
                try simp only [Act.put, List.setIfInBounds_toArray, List.set_cons_zero, List.set_cons_succ]
                refine wpAnyH_done (by kernel_rfl) ?_ _
                have HG := Lib.hid (gb_set w7 q 0 (.slice a7 (k + 1) c7))
                have HQ8 : Hid ((w7.setCell ⟨q, 0, none⟩ (.slice a7 (k + 1) c7)).heap[q]? = some (.cells #[.slice a7 (k + 1) c7, .bool l, .bool r] 24 (0, 0))) := Lib.hid (by rw [blk_set _ HQ7.out]; simp)
                have HO8 : Hid (OwnV (q + 1) 9 1 (w7.setCell ⟨q, 0, none⟩ (.slice a7 (k + 1) c7)) a7 (k + 1) c7 (((shP P).take (k + 1)).map enS)) := Lib.hid (by rw [HST.out]; exact HO7.out.other HG.out (.inr (HO7.out.apart (by omega))))
                have HB8 : Hid (Below q w3 (w7.setCell ⟨q, 0, none⟩ (.slice a7 (k + 1) c7))) := Lib.hid (HB.out.trans ((HB7.out.mono (by omega)).trans (gb_to HG.out (Nat.le_refl _) (by have := HB7.out.size; omega))))
                have h6' : k + 1 ≤ 6 := by omega
                have hn' : k + 1 ≤ n := by omega
                clear k7 f7 e1 e2 e3
                go_wp2
                go_roundw
                case rel => exact ⟨k + 1, a7, c7, by go_num, hn', h6', HQ8, HO8, HB8⟩
                case measure => simp [intOf]; omega
              · exact AllReadyH.nil
            · exact AllReadyH.nil
          · exact AllReadyH.nil
        · exact AllReadyH.nil
      exact AllReadyH.nil
    · have HE : Hid (Ss wr a' k c' (shP P)) := Lib.hid (by
        have h1 := HO.out.vs
        rw [List.take_of_length_le (by rw [shP_len, HP.out]; omega)] at h1
        exact h1)
      have HOO : Hid (OwnV (q + 1) 9 1 wr a' k c' ((shP P).map enS)) := Lib.hid (by
        have h1 := HO.out
        rw [List.take_of_length_le (by rw [shP_len, HP.out]; omega)] at h1
        exact h1)
      obtain ⟨⟨z0, z1, z2⟩, f0, f1, f2⟩ := three HZr.out
      have HF := Lib.hid (three_set (x' := .slice a' k c') (y' := .bool l) (z' := .bool r) HZr.out)
      have HG := Lib.hid (three_gb wr R (.slice a' k c') (.bool l) (.bool r))
      have HV := Lib.hid ((HOO.out.other HG.out (.inr (HOO.out.apart (by have := HBRq.out; omega)))).vs)
      have HBF : Hid (Below w.heap.size w (((wr.setCell ⟨R, 0, none⟩ (.slice a' k c')).setCell ⟨R, 1, none⟩ (.bool l)).setCell ⟨R, 2, none⟩ (.bool r))) := Lib.hid (by rw [← HW.out]; exact HBW.out.trans (gb_to HG.out (by have := HBRq.out; omega) (by have := HBRq.out; omega)))
      by_cases hk3 : k < n
      · have hk1 : (k : Int) < (n : Int) := by omega
        have hk2 : ¬ (k : Int) < 6 := by omega
        go_wp2
        refine bodyPost_ret (results_cell_row rfl _ _ R 24 #[.slice a' k c', .bool l, .bool r] (0, 0) _ rfl HF.out Tryd.underlying24 rfl shape_info) rfl ⟨a', k, c', rfl, HV.out, HBF.out⟩
      · have hk1 : ¬ (k : Int) < (n : Int) := by omega
        go_wp2
        refine bodyPost_ret (results_cell_row rfl _ _ R 24 #[.slice a' k c', .bool l, .bool r] (0, 0) _ rfl HF.out Tryd.underlying24 rfl shape_info) rfl ⟨a', k, c', rfl, HV.out, HBF.out⟩

end Go.Proofs.YtenaadfmlpmffaaDoor
