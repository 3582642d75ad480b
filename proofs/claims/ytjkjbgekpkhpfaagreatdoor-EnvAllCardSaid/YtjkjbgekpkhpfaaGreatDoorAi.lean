/- slices.Insert of one operator into a row of the call's own. -/
import Derived.Test.YtjkjbgekpkhpfaaGreatDoorAw
namespace Go.Proofs.YtjkjbgekpkhpfaaGreatDoor
open Go.RowKit

theorem op_size3 : (Tryz.prog.info? 28).map (·.size) = some 3 := by kernel_rfl
/-- One operator in a block of its own. -/
theorem vs_one {w : World} {vb : Nat} {o : OP} (hv : w.heap[vb]? = some (.cells #[.string (mk o.1), .int .i64 o.2.1, .int .i64 o.2.2] 28 (0, 0))) : OpS w (some ⟨vb, 0, none⟩) 1 1 [o] :=
  ⟨rfl, Nat.le_refl _, by decide, fun _ => ⟨vb, 0, rfl, (Array.getElem?_eq_some_iff.1 hv).1, fun j hj => by
    rw [cell_of_row w vb (0 + j) _ _ _ hv, Nat.zero_add, cO_cons, cO_nil]
    simp⟩⟩
/-- From a row's whole block to a row of the call's own. -/
theorem own_of {base g n c : Nat} {w : World} {cur : List Value} {xs : List Value} (hg : w.heap[g]? = some (.cells cur.toArray 28 (0, 0))) (hb : base ≤ g) (hc : cur.length = c * 3) (hnc : n ≤ c) (hcm : c ≤ maxLen) (hx : cur.take (n * 3) = xs) :
    OwnV base 28 3 w (some ⟨g, 0, none⟩) n c xs :=
  ⟨by rw [← hx, List.length_take]; have : n * 3 ≤ c * 3 := Nat.mul_le_mul_right _ hnc; omega, .inr ⟨g, c, cur.toArray, rfl, hb, hg, hnc, hcm, by simpa using hc, by simpa using hx⟩⟩

theorem zero_cells_len (k : Nat) : (Builtin.zeroCells (Value.agg #[.string ByteArray.empty, .int .i64 0, .int .i64 0]).cells k).toList.length = k * 3 := by
  rw [Array.length_toList, Builtin.zeroCells]
  simp [Value.cells]

set_option maxRecDepth 100000 in
set_option maxHeartbeats 8000000 in
theorem insert_ops (base : Nat) (a : Option Addr) (n c : Nat) (L : List OP) (i : Nat) (o : OP) (vb : Nat) (w : World) (hO : OwnO base w a n c L) (hi : i ≤ n) (hn : n ≤ 1000000)
    (hv : w.heap[vb]? = some (.cells #[.string (mk o.1), .int .i64 o.2.1, .int .i64 o.2.2] 28 (0, 0))) (hvb : ∀ g, a = some ⟨g, 0, none⟩ → vb ≠ g) (hbase : base ≤ w.heap.size) :
    Calls Tryz.prog 29 #[.slice a n c, .int .i64 i, .slice (some ⟨vb, 0, none⟩) 1 1] w fun e w' => ∃ a' c', e = .returned (.slice a' (n + 1) c') ∧ OwnO base w' a' (n + 1) c' (L.take i ++ [o] ++ L.drop i) ∧ Below base w w' := by
  have hlc := hO.bounds.2.1
  have hcm := hO.bounds.2.2
  have hLn := OpS.len hO.vs
  have hV := vs_one hv
  unfold maxLen at hcm
  by_cases hin : i = n
  · subst hin
    have hs0 : ∃ v, (Instr.slice 22 (.slice a i c) (some (.int .i64 i)) none none).run Tryz.prog w = .ok v w := by
      cases a with
      | none =>
        obtain ⟨h0, hc0⟩ : i = 0 ∧ c = 0 := by
          rcases hO.2 with ⟨h, _⟩ | ⟨g, cp, cur, h, _⟩
          · simp only [Value.slice.injEq] at h; exact ⟨h.2.1, h.2.2⟩
          · simp at h
        subst h0; subst hc0
        exact ⟨_, run_slice_l (P := Tryz.prog) w 22 none 0 0 (by rw [op_elem]; exact Tryz.underlying22) .i64 0 (by omega) (by omega)⟩
      | some ad =>
        obtain ⟨g, cur, ha, _⟩ := hO.form (by simp)
        obtain rfl := Option.some.inj ha
        exact ⟨_, run_l op_elem Tryz.underlying22 op_info (Nat.le_refl i) w⟩
    obtain ⟨v, hs0⟩ := hs0
    have H := Lib.hid hO
    have HV := Lib.hid hV
    have HL := Lib.hid hLn
    clear hO hV hv hLn
    go_enter Tryz.func29, Tryz.ntmps29
    go_wp2_with (at_builtin; refine Hid.out ?_)
    refine Lib.hid ?_
    refine wpList_appv rfl (.tmp 23) (.tmp 24) 22 rfl 28 base 3 32 _ Tryz.underlying22 op_info rfl (by omega) _ i _ (cO L) rfl H.out _ 1 _ (cO [o]) rfl HV.out (cO_one _) (by unfold maxLen; omega) (by omega) hbase ?_
    intro a2 c2 w2 ho2 hg2 hb2 _
    have HO2 : Hid (OwnO base w2 a2 (i + 1) c2 (L.take i ++ [o] ++ L.drop i)) := Lib.hid (by rw [List.take_of_length_le (by have := HL.out; omega), List.drop_of_length_le (by have := HL.out; omega), List.append_nil, OwnO, cO_app]; exact ho2)
    have HB2 := Lib.hid hb2
    clear ho2 hg2 hb2
    go_wp2
    go_ret
    exact ⟨_, _, rfl, HO2.out, HB2.out⟩
  · obtain ⟨g, cur, rfl, hbg, hglt, hg, hcs, ht⟩ := hO.form (hO.some (by omega))
    have hne := hvb g rfl
    obtain ⟨Z, hZ⟩ : ∃ Z, Z = cur.toList := ⟨_, rfl⟩
    have hgZ : w.heap[g]? = some (.cells Z.toArray 28 (0, 0)) := by rw [hZ]; simpa using hg
    have hZl : Z.length = c * 3 := by rw [hZ]; simpa using hcs
    rw [← hZ] at ht
    have hi3 : i * 3 ≤ n * 3 := Nat.mul_le_mul_right _ hi
    have hZi : Z.take (i * 3) = cO (L.take i) := by rw [← cO_take, ← ht, List.take_take, Nat.min_eq_left hi3]
    have hLi : (L.take i).length = i := by rw [List.length_take]; omega
    have hLd : (L.drop i).length = n - i := by rw [List.length_drop]; omega
    have hsrc : ∀ j v, (cO (L.drop i))[j]? = some v → Z[i * 3 + j]? = some v := fun j v hj => by
      have hlt := (List.getElem?_eq_some_iff.1 hj).1
      rw [cO_len, hLd] at hlt
      rw [← cO_drop, ← ht, List.getElem?_drop, List.getElem?_take, if_pos (by rw [Nat.sub_mul] at hlt; omega)] at hj
      exact hj
    have hs0 : ∀ w, (Instr.slice 22 (.slice (some ⟨g, 0, none⟩) n c) (some (.int .i64 i)) none none).run Tryz.prog w = .ok (.slice (some ⟨g, i * 3, none⟩) (n - i) (c - i)) w := fun w => by
      rw [run_l op_elem Tryz.underlying22 op_info hi w, if_neg (by omega), Nat.zero_add]
    have hni : ¬ ((i : Int) = (n : Int)) := by omega
    have hw1 : IntKind.i64.wrap ((n : Int) + 1) = (n : Int) + 1 := by rw [IntKind.wrap_i64]; omega
    have hw2 : IntKind.i64.wrap ((i : Int) + 1) = (i : Int) + 1 := by rw [IntKind.wrap_i64]; omega
    by_cases hroom : c < n + 1
    · have hgt : (c : Int) < (n : Int) + 1 := by omega
      have hs1 : ∀ w, (Instr.slice 22 (.slice (some ⟨g, 0, none⟩) n c) none (some (.int .i64 i)) none).run Tryz.prog w = .ok (.slice (some ⟨g, 0, none⟩) i c) w := fun w => run_h op_elem Tryz.underlying22 op_info (by omega) w
      have hw3 : IntKind.i64.wrap ((n : Int) + 1 - (i : Int)) = (n : Int) + 1 - (i : Int) := by rw [IntKind.wrap_i64]; omega
      obtain ⟨ti, hti, hz, hsz, hby⟩ := info_parts op_info
      obtain ⟨G, hG⟩ : ∃ G, G = w.heap.size := ⟨_, rfl⟩
      obtain ⟨q, hq⟩ : ∃ q, q = grownCap w (i + (n + 1 - i)) c 28 := ⟨_, rfl⟩
      obtain ⟨w2, hw2d⟩ : ∃ w2, w2 = (w.drew.alloc (.cells ((cO (L.take i)).toArray ++ Builtin.zeroCells (Value.agg #[.string ByteArray.empty, .int .i64 0, .int .i64 0]).cells (n + 1 - i) ++ Builtin.zeroCells (Value.agg #[.string ByteArray.empty, .int .i64 0, .int .i64 0]).cells (q - (i + (n + 1 - i)))) 28)) := ⟨_, rfl⟩
      have hrun : ∀ ty, (Builtin.append_ #[22, 3] ty #[.slice (some ⟨g, 0, none⟩) i c, .int .i64 ((n : Int) + 1 - (i : Int))]).run Tryz.prog w = .ok (.slice (some ⟨G, 0, none⟩) (n + 1) q) w2 := fun ty => by
        rw [run_append_zeros w 22 3 ty 28 ti _ .i64 Tryz.underlying22 Tryz.underlying3 hti hz ⟨g, 0, none⟩ i c (n + 1 - i) _ (by omega) (cO (L.take i)) (by rw [cO_len, hLi, hsz]) (fun j v hj => by
            rw [addr_add, Nat.zero_add, cell_of_row w g j _ _ _ hgZ]
            rw [← hZi, List.getElem?_take] at hj
            split at hj
            · simpa using hj
            · cases hj) (by omega) (by rw [hsz]; decide) (by omega) (by rw [hby]; omega) (by omega), ← hq, ← hw2d, ← hG, show i + (n + 1 - i) = n + 1 by omega]
      have hqge : n + 1 ≤ q := by have := grownCap_ge w (i + (n + 1 - i)) c 28; omega
      have hqm : q ≤ maxLen := by rw [hq]; exact grownCap_le_maxLen _ _ _ _ (by unfold maxLen; omega)
      obtain ⟨C, hC⟩ : ∃ C, C = ((cO (L.take i)).toArray ++ Builtin.zeroCells (Value.agg #[.string ByteArray.empty, .int .i64 0, .int .i64 0]).cells (n + 1 - i) ++ Builtin.zeroCells (Value.agg #[.string ByteArray.empty, .int .i64 0, .int .i64 0]).cells (q - (i + (n + 1 - i)))).toList := ⟨_, rfl⟩
      have hCl : C.length = q * 3 := by
        rw [hC, Array.toList_append, Array.toList_append, List.length_append, List.length_append, zero_cells_len, zero_cells_len, List.toList_toArray, cO_len, hLi]
        omega
      have hCi : C.take (i * 3) = cO (L.take i) := by
        rw [hC, Array.toList_append, Array.toList_append, List.append_assoc, List.toList_toArray, List.take_append_of_le_length (by rw [cO_len, hLi]; exact Nat.le_refl _)]
        exact List.take_of_length_le (by rw [cO_len, hLi]; exact Nat.le_refl _)
      have hG2 : w2.heap[G]? = some (.cells C.toArray 28 (0, 0)) := by rw [hw2d, hG, hC, Array.toArray_toList]; exact heap_alloc_new w.drew _
      have hb2 : Below w.heap.size w w2 := by rw [hw2d]; exact (Below.refl _ _).drew.alloc (by simp) _
      have HG2 := Lib.hid hG2
      have HB2 := Lib.hid hb2
      have hgZ2 : w2.heap[g]? = some (.cells Z.toArray 28 (0, 0)) := (hb2.block g hglt).trans hgZ
      have HZ2 := Lib.hid hgZ2
      have HV2 := Lib.hid (hV.below hb2)
      have hvlt : vb < w.heap.size := (Array.getElem?_eq_some_iff.1 hv).1
      have hqi : ¬ (q = i) := by omega
      have hs3 : ∀ w, (Instr.slice 22 (.slice (some ⟨G, 0, none⟩) (n + 1) q) (some (.int .i64 i)) none none).run Tryz.prog w = .ok (.slice (some ⟨G, i * 3, none⟩) (n + 1 - i) (q - i)) w := fun w => by
        rw [run_l op_elem Tryz.underlying22 op_info (by omega) w, if_neg hqi, Nat.zero_add]
      have hs4 : ∀ w, (Instr.slice 22 (.slice (some ⟨G, 0, none⟩) (n + 1) q) (some (.int .i64 ((i : Int) + 1))) none none).run Tryz.prog w = .ok (.slice (some ⟨G, (i + 1) * 3, none⟩) (n + 1 - (i + 1)) (q - (i + 1))) w := fun w => by
        have := run_l (P := Tryz.prog) (g := G) (off := 0) (n := n + 1) (c := q) (l := i + 1) op_elem Tryz.underlying22 op_info (by omega) w
        rw [if_neg (by omega), Nat.zero_add] at this
        exact this
      have HF := Lib.hid (And.intro hsrc (And.intro hCl hCi))
      have HN := Lib.hid (And.intro hLi hLd)
      have HQ := Lib.hid (And.intro hqge hqm)
      have HX := Lib.hid (And.intro hglt (And.intro hvlt (And.intro hG (And.intro hbase hne))))
      clear hO hvb hg hcs hZ hgZ hZl ht hZi hsrc hCl hCi hC hG2 hb2 hgZ2 hV hv hvlt hq hw2d hqge hqm hG hti hz hsz hby hLi hLd hglt hne hi3 hbase
      obtain ⟨w3, hw3d⟩ : ∃ w3, w3 = w2.setRow G (splice C (i * 3) (cO [o])).toArray := ⟨_, rfl⟩
      have hcp : ∀ ty, (Builtin.copy_ #[22, 22] ty #[.slice (some ⟨G, i * 3, none⟩) (n + 1 - i) (q - i), .slice (some ⟨vb, 0, none⟩) 1 1]).run Tryz.prog w2 = .ok (goInt 1) w3 := fun ty => by
        rw [hw3d]
        exact run_copyk w2 22 22 ty 28 3 1 G (i * 3) _ _ ⟨vb, 0, none⟩ 1 1 C 28 (cO [o]) Tryz.underlying22 op_size3 HG2.out (by simp only [Nat.min_def]; split <;> omega) rfl (fun j v hj => by rw [addr_add, HV2.out.cells (by omega) (by have := (List.getElem?_eq_some_iff.1 hj).1; rw [cO_len] at this; simpa using this)]; exact hj) (by rw [HF.out.2.1, cO_len]; have := HQ.out.1; simp; omega) (cO_one _)
      have HG3 : Hid (w3.heap[G]? = some (.cells (splice C (i * 3) (cO [o])).toArray 28 (0, 0))) := Lib.hid (by rw [hw3d]; exact setRow_heap w2 G _ _ _ _ HG2.out)
      have HO3 : Hid (Only G w2 w3) := Lib.hid (by rw [hw3d]; exact Only.ofRow w2 G _)
      clear hw3d
      go_enter Tryz.func29, Tryz.ntmps29
      have HM : Hid (n - i = Nat.min (n - i) (n + 1 - (i + 1))) := Lib.hid (by simp only [Nat.min_def]; split <;> omega)
      go_wp2_with (at_builtin; refine Lib.wpList_append_run _ rfl _ _ _ _ rfl _ _ rfl rfl _ _ (hrun _) ?_)
      have HZ3 : Hid (w3.heap[g]? = some (.cells Z.toArray 28 (0, 0))) := Lib.hid ((HO3.out.block g (by have := HX.out.1; have := HX.out.2.2.1; omega)).trans HZ2.out)
      clear HV2 HZ2
      -- the region (laid by genAi.py)
      refine wp_region_noPanic ?_
      refine wp_region_held_drew (S := fun _ => True) (by kernel_rfl) (trivial) (fun hHeld => ?_)
      refine wpAnyH_take (i := 0) (oi := { dst := some 46, op := Op.move (Operand.tmp 9), type := 22, pos := "slices.go:154", after := #[], guard := none }) (v := ?_) rfl (by kernel_rfl) (by kernel_rfl) (by kernel_rfl) (fun _ _ _ h => h) (Or.inl ⟨by rfl, ?_⟩) (by assumption) ?_
      rotate_left
      · intro w' hSw
        try dsimp only at hSw
        go_simp
        try with_reducible rfl
      try simp only [Act.put, List.setIfInBounds_toArray, List.set_cons_zero, List.set_cons_succ]
      refine wpAnyH_take (i := 1) (oi := { dst := some 47, op := Op.move (Operand.tmp 1), type := 3, pos := "slices.go:154", after := #[], guard := none }) (v := ?_) rfl (by kernel_rfl) (by kernel_rfl) (by kernel_rfl) (fun _ _ _ h => h) (Or.inl ⟨by rfl, ?_⟩) (by assumption) ?_
      rotate_left
      · intro w' hSw
        try dsimp only at hSw
        go_simp
        try with_reducible rfl
      try simp only [Act.put, List.setIfInBounds_toArray, List.set_cons_zero, List.set_cons_succ]
      refine wpAnyH_take (i := 2) (oi := { dst := some 48, op := Op.move (Operand.tmp 7), type := 3, pos := "slices.go:154", after := #[], guard := none }) (v := ?_) rfl (by kernel_rfl) (by kernel_rfl) (by kernel_rfl) (fun _ _ _ h => h) (Or.inl ⟨by rfl, ?_⟩) (by assumption) ?_
      rotate_left
      · intro w' hSw
        try dsimp only at hSw
        go_simp
        try with_reducible rfl
      try simp only [Act.put, List.setIfInBounds_toArray, List.set_cons_zero, List.set_cons_succ]
      refine wpAnyH_take (i := 3) (oi := { dst := some 49, op := Op.binOp BinOp.add 3 (Operand.tmp 47) (Operand.tmp 48) 3, type := 3, pos := "slices.go:154", after := #[{ on := 1, ground := Ground.data }, { on := 2, ground := Ground.data }], guard := none }) (v := ?_) rfl (by kernel_rfl) (by kernel_rfl) (by kernel_rfl) (fun _ _ _ h => h) (Or.inl ⟨by rfl, ?_⟩) (by assumption) ?_
      rotate_left
      · intro w' hSw
        try dsimp only at hSw
        go_simp
        try with_reducible rfl
      try simp only [Act.put, List.setIfInBounds_toArray, List.set_cons_zero, List.set_cons_succ]
      refine wpAnyH_take (i := 4) (oi := { dst := some 50, op := Op.slice 22 (Operand.tmp 46) (some (Operand.tmp 49)) none none, type := 22, pos := "slices.go:154", after := #[{ on := 0, ground := Ground.data }, { on := 3, ground := Ground.data }], guard := none }) (v := ?_) rfl (by kernel_rfl) (by kernel_rfl) (by kernel_rfl) (fun _ _ _ h => h) (Or.inl ⟨by rfl, ?_⟩) (by assumption) ?_
      rotate_left
      · intro w' hSw
        try dsimp only at hSw
        go_simp
        try with_reducible rfl
      try simp only [Act.put, List.setIfInBounds_toArray, List.set_cons_zero, List.set_cons_succ]
      refine wpAnyH_take (i := 5) (oi := { dst := some 51, op := Op.move (Operand.tmp 0), type := 22, pos := "slices.go:154", after := #[], guard := none }) (v := ?_) rfl (by kernel_rfl) (by kernel_rfl) (by kernel_rfl) (fun _ _ _ h => h) (Or.inl ⟨by rfl, ?_⟩) (by assumption) ?_
      rotate_left
      · intro w' hSw
        try dsimp only at hSw
        go_simp
        try with_reducible rfl
      try simp only [Act.put, List.setIfInBounds_toArray, List.set_cons_zero, List.set_cons_succ]
      refine wpAnyH_take (i := 6) (oi := { dst := some 52, op := Op.move (Operand.tmp 1), type := 3, pos := "slices.go:154", after := #[], guard := none }) (v := ?_) rfl (by kernel_rfl) (by kernel_rfl) (by kernel_rfl) (fun _ _ _ h => h) (Or.inl ⟨by rfl, ?_⟩) (by assumption) ?_
      rotate_left
      · intro w' hSw
        try dsimp only at hSw
        go_simp
        try with_reducible rfl
      try simp only [Act.put, List.setIfInBounds_toArray, List.set_cons_zero, List.set_cons_succ]
      refine wpAnyH_take (i := 7) (oi := { dst := some 53, op := Op.slice 22 (Operand.tmp 51) (some (Operand.tmp 52)) none none, type := 22, pos := "slices.go:154", after := #[{ on := 5, ground := Ground.data }, { on := 6, ground := Ground.data }], guard := none }) (v := ?_) rfl (by kernel_rfl) (by kernel_rfl) (by kernel_rfl) (fun _ _ _ h => h) (Or.inl ⟨by rfl, ?_⟩) (by assumption) ?_
      rotate_left
      · intro w' hSw
        try dsimp only at hSw
        go_simp
        try with_reducible rfl
      try simp only [Act.put, List.setIfInBounds_toArray, List.set_cons_zero, List.set_cons_succ]
      refine wpAnyH_ready (rs := [8]) (by kernel_rfl) (by simp) ?_
      refine AllReadyH.cons (o := { dst := some 54, op := Op.call { callee := Callee.builtin Builtin.copy, args := #[Operand.tmp 50, Operand.tmp 53], argTypes := #[22, 22] }, type := 3, pos := "slices.go:154", after := #[{ on := 4, ground := Ground.data }, { on := 7, ground := Ground.data }], guard := none }) rfl (fun K hK => ?_) ?_
      · refine step_copyk rfl (.tmp 50) (.tmp 53) 22 22 rfl 28 3 (n - i) Tryz.underlying22 op_size3 G ((i + 1) * 3) _ _ ⟨g, i * 3, none⟩ _ _ rfl rfl (splice C (i * 3) (cO [o])) 28 HG3.out (cO (L.drop i)) (Nat.min_self _).symm (by rw [cO_len, HN.out.2]) (fun j v hj => by rw [addr_add, World.cell?_drew, cell_of_row _ g _ _ _ _ HZ3.out]; simpa using HF.out.1 j v hj) (by rw [length_splice _ _ _ (by rw [HF.out.2.1, cO_len]; have := HQ.out.1; simp; omega), HF.out.2.1, cO_len, HN.out.2]; have := HQ.out.1; omega) (cO_one _) ?_
        intro w4 hg4 ho4
        have HG4 := Lib.hid hg4
        have HO4 := Lib.hid ho4
        clear hg4 ho4
        refine hK.out _ _ (trivial) (fun hHeld => ?_)
        clear hK K
        try simp only [Act.put, List.setIfInBounds_toArray, List.set_cons_zero, List.set_cons_succ]
        refine wpAnyH_done (by kernel_rfl) ?_ _
        refine NoPanic.normal ?_
        have HB4 : Hid (Below w.heap.size w w4) := Lib.hid ((HB2.out.trans (HO3.out.below (by rw [HX.out.2.2.1]; exact Nat.le_refl _))).trans (Below.trans ((Below.refl _ _).drew) (HO4.out.below (by rw [HX.out.2.2.1]; exact Nat.le_refl _))))
        go_wp2
        go_ret
        refine ⟨_, _, rfl, own_of HG4.out (by have := HX.out; omega) ?_ HQ.out.1 HQ.out.2 ?_, HB4.out.mono HX.out.2.2.2.1⟩
        · rw [length_splice _ _ _ (by rw [length_splice _ _ _ (by rw [HF.out.2.1, cO_len]; have := HQ.out.1; simp; omega), HF.out.2.1, cO_len, HN.out.2]; have := HQ.out.1; omega), length_splice _ _ _ (by rw [HF.out.2.1, cO_len]; have := HQ.out.1; simp; omega)]; exact HF.out.2.1
        · have := splice_two C (cO (L.take i)) (cO [o]) (cO (L.drop i)) (i * 3) 3 (by rw [cO_len, HN.out.1]) rfl (by rw [HF.out.2.1, cO_len, HN.out.2]; have := HQ.out.1; omega) HF.out.2.2
          rw [cO_len, HN.out.2, show i * 3 + 3 + (n - i) * 3 = (n + 1) * 3 by omega, show i * 3 + 3 = (i + 1) * 3 by omega] at this
          rw [this, cO_app, cO_app]
      · exact AllReadyH.nil
      -- behind it
    · have hgt : ¬ ((c : Int) < (n : Int) + 1) := by omega
      have hs1 : ∀ w, (Instr.slice 22 (.slice (some ⟨g, 0, none⟩) n c) none (some (.int .i64 ((n : Int) + 1))) none).run Tryz.prog w = .ok (.slice (some ⟨g, 0, none⟩) (n + 1) c) w := fun w => run_h (h := n + 1) op_elem Tryz.underlying22 op_info (by omega) w
      have hs3 : ∀ w, (Instr.slice 22 (.slice (some ⟨g, 0, none⟩) (n + 1) c) (some (.int .i64 i)) none none).run Tryz.prog w = .ok (.slice (some ⟨g, i * 3, none⟩) (n + 1 - i) (c - i)) w := fun w => by
        rw [run_l op_elem Tryz.underlying22 op_info (by omega) w, if_neg (by omega), Nat.zero_add]
      have hs4 : ∀ w, (Instr.slice 22 (.slice (some ⟨g, 0, none⟩) (n + 1) c) (some (.int .i64 ((i : Int) + 1))) none none).run Tryz.prog w = .ok (.slice (some ⟨g, (i + 1) * 3, none⟩) (n - i) (c - (i + 1))) w := fun w => by
        have := run_l (P := Tryz.prog) (g := g) (off := 0) (n := n + 1) (c := c) (l := i + 1) op_elem Tryz.underlying22 op_info (by omega) w
        rw [if_neg (by omega), Nat.zero_add, show n + 1 - (i + 1) = n - i by omega] at this
        exact this
      have hov : (callFunc 49 #[.slice (some ⟨vb, 0, none⟩) 1 1, .slice (some ⟨g, (i + 1) * 3, none⟩) (n - i) (c - (i + 1))]).run Tryz.prog w = .ok (.value (.bool false)) w := by
        rw [run_callFunc_extern Tryz.func49 (by kernel_rfl) (by kernel_rfl) (by kernel_rfl) (e := Extern.SlicesOverlaps.overlaps #[22, 22] #[4]) (by kernel_rfl),
          Lib.run_overlaps_apart w 22 4 28 Tryz.underlying22 3 (fun w => by kernel_rfl) ⟨vb, 0, none⟩ ⟨g, (i + 1) * 3, none⟩ 1 1 (n - i) (c - (i + 1)) hne 28 28 3 (c * 3)
            (by simp [World.shape?, hv]) (by simp [World.shape?, hgZ, hZl]) (by omega) (frozen_of_row w vb 0 _ _ hv) (frozen_of_row w vb 3 _ _ hv)]
        rfl
      have HM : Hid (n - i = Nat.min (n + 1 - i) (n - i)) := Lib.hid (by simp only [Nat.min_def]; split <;> omega)
      have HM2 : Hid ((1 : Nat) = Nat.min 1 (n + 1 - i)) := Lib.hid (by simp only [Nat.min_def]; split <;> omega)
      have HF := Lib.hid (And.intro hsrc (And.intro hZl hZi))
      have HN := Lib.hid (And.intro hLi hLd)
      have HZ := Lib.hid hgZ
      have HV := Lib.hid hv
      have HX := Lib.hid (And.intro hglt (And.intro hbase (And.intro hne (And.intro hbg hcm))))
      clear hO hvb hg hcs hZ hgZ hZl ht hZi hsrc hV hv hLi hLd hglt hne hi3 hbase hbg
      go_enter Tryz.func29, Tryz.ntmps29
      go_wp2_with (simp only [hov])
      clear hov
      -- the other region (laid by genAi.py)
      refine wp_region_noPanic ?_
      refine wp_region_held_drew (S := fun _ => True) (by kernel_rfl) (trivial) (fun hHeld => ?_)
      refine wpAnyH_take (i := 0) (oi := { dst := some 69, op := Op.move (Operand.tmp 0), type := 22, pos := "slices.go:178", after := #[], guard := none }) (v := ?_) rfl (by kernel_rfl) (by kernel_rfl) (by kernel_rfl) (fun _ _ _ h => h) (Or.inl ⟨by rfl, ?_⟩) (by assumption) ?_
      rotate_left
      · intro w' hSw
        try dsimp only at hSw
        go_simp
        try with_reducible rfl
      try simp only [Act.put, List.setIfInBounds_toArray, List.set_cons_zero, List.set_cons_succ]
      refine wpAnyH_take (i := 1) (oi := { dst := some 70, op := Op.move (Operand.tmp 1), type := 3, pos := "slices.go:178", after := #[], guard := none }) (v := ?_) rfl (by kernel_rfl) (by kernel_rfl) (by kernel_rfl) (fun _ _ _ h => h) (Or.inl ⟨by rfl, ?_⟩) (by assumption) ?_
      rotate_left
      · intro w' hSw
        try dsimp only at hSw
        go_simp
        try with_reducible rfl
      try simp only [Act.put, List.setIfInBounds_toArray, List.set_cons_zero, List.set_cons_succ]
      refine wpAnyH_take (i := 2) (oi := { dst := some 71, op := Op.move (Operand.tmp 7), type := 3, pos := "slices.go:178", after := #[], guard := none }) (v := ?_) rfl (by kernel_rfl) (by kernel_rfl) (by kernel_rfl) (fun _ _ _ h => h) (Or.inl ⟨by rfl, ?_⟩) (by assumption) ?_
      rotate_left
      · intro w' hSw
        try dsimp only at hSw
        go_simp
        try with_reducible rfl
      try simp only [Act.put, List.setIfInBounds_toArray, List.set_cons_zero, List.set_cons_succ]
      refine wpAnyH_take (i := 3) (oi := { dst := some 72, op := Op.binOp BinOp.add 3 (Operand.tmp 70) (Operand.tmp 71) 3, type := 3, pos := "slices.go:178", after := #[{ on := 1, ground := Ground.data }, { on := 2, ground := Ground.data }], guard := none }) (v := ?_) rfl (by kernel_rfl) (by kernel_rfl) (by kernel_rfl) (fun _ _ _ h => h) (Or.inl ⟨by rfl, ?_⟩) (by assumption) ?_
      rotate_left
      · intro w' hSw
        try dsimp only at hSw
        go_simp
        try with_reducible rfl
      try simp only [Act.put, List.setIfInBounds_toArray, List.set_cons_zero, List.set_cons_succ]
      refine wpAnyH_take (i := 4) (oi := { dst := some 73, op := Op.slice 22 (Operand.tmp 69) (some (Operand.tmp 72)) none none, type := 22, pos := "slices.go:178", after := #[{ on := 0, ground := Ground.data }, { on := 3, ground := Ground.data }], guard := none }) (v := ?_) rfl (by kernel_rfl) (by kernel_rfl) (by kernel_rfl) (fun _ _ _ h => h) (Or.inl ⟨by rfl, ?_⟩) (by assumption) ?_
      rotate_left
      · intro w' hSw
        try dsimp only at hSw
        go_simp
        try with_reducible rfl
      try simp only [Act.put, List.setIfInBounds_toArray, List.set_cons_zero, List.set_cons_succ]
      refine wpAnyH_take (i := 5) (oi := { dst := some 74, op := Op.move (Operand.tmp 0), type := 22, pos := "slices.go:178", after := #[], guard := none }) (v := ?_) rfl (by kernel_rfl) (by kernel_rfl) (by kernel_rfl) (fun _ _ _ h => h) (Or.inl ⟨by rfl, ?_⟩) (by assumption) ?_
      rotate_left
      · intro w' hSw
        try dsimp only at hSw
        go_simp
        try with_reducible rfl
      try simp only [Act.put, List.setIfInBounds_toArray, List.set_cons_zero, List.set_cons_succ]
      refine wpAnyH_take (i := 6) (oi := { dst := some 75, op := Op.move (Operand.tmp 1), type := 3, pos := "slices.go:178", after := #[], guard := none }) (v := ?_) rfl (by kernel_rfl) (by kernel_rfl) (by kernel_rfl) (fun _ _ _ h => h) (Or.inl ⟨by rfl, ?_⟩) (by assumption) ?_
      rotate_left
      · intro w' hSw
        try dsimp only at hSw
        go_simp
        try with_reducible rfl
      try simp only [Act.put, List.setIfInBounds_toArray, List.set_cons_zero, List.set_cons_succ]
      refine wpAnyH_take (i := 7) (oi := { dst := some 76, op := Op.slice 22 (Operand.tmp 74) (some (Operand.tmp 75)) none none, type := 22, pos := "slices.go:178", after := #[{ on := 5, ground := Ground.data }, { on := 6, ground := Ground.data }], guard := none }) (v := ?_) rfl (by kernel_rfl) (by kernel_rfl) (by kernel_rfl) (fun _ _ _ h => h) (Or.inl ⟨by rfl, ?_⟩) (by assumption) ?_
      rotate_left
      · intro w' hSw
        try dsimp only at hSw
        go_simp
        try with_reducible rfl
      try simp only [Act.put, List.setIfInBounds_toArray, List.set_cons_zero, List.set_cons_succ]
      refine wpAnyH_ready (rs := [8]) (by kernel_rfl) (by simp) ?_
      refine AllReadyH.cons (o := { dst := some 77, op := Op.call { callee := Callee.builtin Builtin.copy, args := #[Operand.tmp 73, Operand.tmp 76], argTypes := #[22, 22] }, type := 3, pos := "slices.go:178", after := #[{ on := 4, ground := Ground.data }, { on := 7, ground := Ground.data }], guard := none }) rfl (fun K hK => ?_) ?_
      · refine step_copyk rfl (.tmp 73) (.tmp 76) 22 22 rfl 28 3 (n - i) Tryz.underlying22 op_size3 g ((i + 1) * 3) _ _ ⟨g, i * 3, none⟩ _ _ rfl rfl Z 28 HZ.out (cO (L.drop i)) HM.out (by rw [cO_len, HN.out.2]) (fun j v hj => by rw [addr_add, World.cell?_drew, cell_of_row _ g _ _ _ _ HZ.out]; simpa using HF.out.1 j v hj) (by rw [HF.out.2.1, cO_len, HN.out.2]; omega) (cO_one _) ?_
        intro w4 hg4 ho4
        have HG4 := Lib.hid hg4
        have HO4 := Lib.hid ho4
        clear hg4 ho4
        refine hK.out _ _ (trivial) (fun hHeld => ?_)
        clear hK K
        try simp only [Act.put, List.setIfInBounds_toArray, List.set_cons_zero, List.set_cons_succ]
        refine wpAnyH_done (by kernel_rfl) ?_ _
        refine NoPanic.normal ?_
        have hl4 : (splice Z ((i + 1) * 3) (cO (L.drop i))).length = c * 3 := by
          rw [length_splice _ _ _ (by rw [HF.out.2.1, cO_len, HN.out.2]; omega), HF.out.2.1]
        have HV4 : Hid (OpS w4 (some ⟨vb, 0, none⟩) 1 1 [o]) := Lib.hid (vs_one ((HO4.out.block vb HX.out.2.2.1).trans HV.out))
        obtain ⟨w5, hw5⟩ : ∃ w5, w5 = w4.setRow g (splice (splice Z ((i + 1) * 3) (cO (L.drop i))) (i * 3) (cO [o])).toArray := ⟨_, rfl⟩
        have hcp : ∀ ty, (Builtin.copy_ #[22, 22] ty #[.slice (some ⟨g, i * 3, none⟩) (n + 1 - i) (c - i), .slice (some ⟨vb, 0, none⟩) 1 1]).run Tryz.prog w4 = .ok (goInt 1) w5 := fun ty => by
          rw [hw5]
          exact run_copyk w4 22 22 ty 28 3 1 g (i * 3) _ _ ⟨vb, 0, none⟩ 1 1 _ 28 (cO [o]) Tryz.underlying22 op_size3 HG4.out HM2.out rfl (fun j v hj => by rw [addr_add, HV4.out.cells (by omega) (by have := (List.getElem?_eq_some_iff.1 hj).1; rw [cO_len] at this; simpa using this)]; exact hj) (by rw [hl4, cO_len]; simp; omega) (cO_one _)
        have HG5 : Hid (w5.heap[g]? = some (.cells (splice (splice Z ((i + 1) * 3) (cO (L.drop i))) (i * 3) (cO [o])).toArray 28 (0, 0))) := Lib.hid (by rw [hw5]; exact setRow_heap w4 g _ _ _ _ HG4.out)
        have HB5 : Hid (Below base w w5) := Lib.hid (by
          rw [hw5]
          exact (Below.trans ((Below.refl base w).drew) (HO4.out.below HX.out.2.2.2.1)).trans ((Only.ofRow w4 g _).below HX.out.2.2.2.1))
        have HL5 : Hid ((splice (splice Z ((i + 1) * 3) (cO (L.drop i))) (i * 3) (cO [o])).length = c * 3) := Lib.hid (by
          rw [length_splice _ _ _ (by rw [hl4, cO_len]; simp; omega)]; exact hl4)
        clear hw5 hl4
        go_wp2
        go_ret
        refine ⟨_, _, rfl, own_of HG5.out HX.out.2.2.2.1 HL5.out (by omega) HX.out.2.2.2.2 ?_, HB5.out⟩
        have := splice_back Z (cO (L.take i)) (cO [o]) (cO (L.drop i)) (i * 3) 3 (by rw [cO_len, HN.out.1]) rfl (by rw [HF.out.2.1, cO_len, HN.out.2]; omega) HF.out.2.2
        rw [cO_len, HN.out.2, show i * 3 + 3 + (n - i) * 3 = (n + 1) * 3 by omega, show i * 3 + 3 = (i + 1) * 3 by omega] at this
        rw [this, cO_app, cO_app]
      · exact AllReadyH.nil
      -- behind that

end Go.Proofs.YtjkjbgekpkhpfaaGreatDoor
