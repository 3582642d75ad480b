/- Texts laid one behind the other. -/
import Derived.Test.YtkaeanaeklilfaaGreatDoorMK
import Derived.Test.YtkaeanaeklilfaaGreatDoorML
import Derived.Test.YtkaeanaeklilfaaGreatDoorMJ

/- env.Edge, the document's Edge (laid by genBe.py). -/
namespace Go.Proofs.YtkaeanaeklilfaaGreatDoor
open Go.RowKit

theorem eV_rng {z : List Int} (hr : ∀ i, i < 10 → I64 (bt z i)) (g h : Int) : ∀ i, i < 10 → I64 (bt (eV z g h) i) := by
  intro i hi
  unfold eV
  split
  · rw [eR, eTo_at _ _ _ _ hi, if_pos hi]; exact eRow_rng hr _ _ hi
  · have : ∀ i, i < 10 → I64 (bt z0 i) := by unfold I64; decide +kernel
    exact this i hi
theorem run_build {o : Oper} {A : Act} (x y : Operand) (ho : o.op = .build 26 #[(0, x), (1, y)]) (a : Option Addr) (n c : Nat) (z : List Int) (hz : z.length = 10) (hx : A.eval x = .slice a n c) (hy : A.eval y = .agg (rv z)) (w : World) : (execOp A.eval o).run Tryz.prog w = .ok (.value (.agg (ev a n c z))) w := by
  have hb := built_env a n c hz w
  unfold execOp
  simp only [ho, List.map_toArray, List.map_cons, List.map_nil, hx, hy, hb, Sem.run_bind, Result.andThen_ok, Sem.run_pure]

/-- Rows stand in another block than an env. -/
theorem EB.clash {w : World} {b : Nat} {a : Option Addr} {n c : Nat} {z z' : List Int} (h : EB w b a n c z) (h' : RB w b z') : False := by
  unfold EB at h
  unfold RB at h'
  rw [h] at h'
  simp only [Option.some.injEq, Obj.cells.injEq] at h'
  exact absurd h'.2.1 (by decide)

set_option maxRecDepth 20000 in
set_option maxHeartbeats 8000000 in
theorem renvEdge_any (a : Option Addr) (n c : Nat) (L : List OP) (z : List Int) (g h : Int) (w : World) (hs : OpS w a n c L) (hz : z.length = 10) (hn : n ≤ 1000000) :
    Calls Tryz.prog 45 #[.agg (ev a n c z), .int .i64 g, .int .i64 h] w fun e w' => ∃ a' n' c', e = .returned (.tuple #[.agg (ev a' n' c' (eV z g h)), .int .i64 (eE z g h)]) ∧ OwnO w.heap.size w' a' n' c' (if eE z g h = 0 then L else []) ∧ Below w.heap.size w w' := by
  obtain ⟨B, hB⟩ : ∃ B, B = w.heap.size := ⟨_, rfl⟩
  obtain ⟨w1, hw1⟩ : ∃ w1, w1 = w.alloc (.cells (ev a n c z) 26) := ⟨_, rfl⟩
  obtain ⟨w2, hw2⟩ : ∃ w2, w2 = w1.alloc (.cells #[.slice none 0 0, .int .i64 0, .int .i64 0, .int .i64 0, .int .i64 0, .int .i64 0, .int .i64 0, .int .i64 0, .int .i64 0, .int .i64 0, .int .i64 0] 26) := ⟨_, rfl⟩
  have s1 : w1.heap.size = B + 1 := by rw [hw1, hB]; simp
  have HE2 : Hid (EB w2 B a n c z) := Lib.hid (by rw [hw2, hw1, hB]; exact (EB.new w a n c z).alloc _)
  have HR2 : Hid (EB w2 (B + 1) none 0 0 z0) := Lib.hid (by rw [hw2, ← s1, ← ev_zero]; exact EB.new w1 none 0 0 z0)
  have HB2 : Hid (Below B w w2) := Lib.hid (by rw [hw2, hw1, hB]; exact ((Below.refl _ _).alloc (Nat.le_refl _) _).alloc (by simp) _)
  have HS2 : Hid (B + 1 < w2.heap.size) := Lib.hid HR2.out.lt
  have H2 : Hid (OpS w2 a n c L) := Lib.hid (hs.below (hB ▸ HB2.out))
  have hlc := hs.lc
  have hcm := hs.cm
  unfold maxLen at hcm
  have HZ := Lib.hid hz
  have HBB := Lib.hid hB
  have he1 := (EB.new w a n c z).alloc (.cells #[.slice none 0 0, .int .i64 0, .int .i64 0, .int .i64 0, .int .i64 0, .int .i64 0, .int .i64 0, .int .i64 0, .int .i64 0, .int .i64 0, .int .i64 0] 26)
  have KE : Hid (∀ w', Calls Tryz.prog 74 #[.agg (rv z), .int .i64 g, .int .i64 h] w' fun e w'' => e = .returned (.tuple #[.agg (rv (eV z g h)), .int .i64 (eE z g h)]) ∧ Below w'.heap.size w' w'') := Lib.hid fun w' => redge_any z hz g h w'
  have HZV := Lib.hid (eV_len z g h)
  have HV0 : Hid (eE z g h ≠ 0 → eV z g h = z0) := Lib.hid fun h0 => by unfold eV; rw [if_neg h0]
  obtain ⟨V, hV⟩ : ∃ V, V = eE z g h := ⟨_, rfl⟩
  obtain ⟨Z, hZ⟩ : ∃ Z, Z = eV z g h := ⟨_, rfl⟩
  rw [← hV, ← hZ] at KE HV0 ⊢
  rw [← hZ] at HZV
  clear hs hz s1 hV hZ
  go_enter Tryz.func45, Tryz.ntmps45
  go_wp2_with (refine load_er rfl (.tmp 11) rfl _ rfl a n c z HZ.out he1 ?_)
  rw [← hw1, ← hw2, ← hB]
  clear hw1 hw2 hB he1
  refine (KE.out w2).mono ?_
  rintro e w3 ⟨rfl, hb3⟩
  have HE3 := Lib.hid (HE2.out.below hb3)
  have HR3 := Lib.hid (HR2.out.below hb3)
  have H3 := Lib.hid (H2.out.below hb3)
  have HB3 : Hid (Below B w w3) := Lib.hid (HB2.out.trans (hb3.mono (by have := HS2.out; omega)))
  have HS3 : Hid (B + 1 < w3.heap.size) := Lib.hid HR3.out.lt
  clear hb3
  obtain ⟨R, hR⟩ : ∃ R, R = w3.heap.size := ⟨_, rfl⟩
  have hrn : RB (w3.alloc (.cells #[.int .i64 0, .int .i64 0, .int .i64 0, .int .i64 0, .int .i64 0, .int .i64 0, .int .i64 0, .int .i64 0, .int .i64 0, .int .i64 0] 24)) w3.heap.size z0 := RB.new w3 z0
  by_cases h0 : V = 0
  case neg =>
    have hbu : ∀ w, (Instr.build 26 #[]).run Tryz.prog w = .ok (.agg (ev none 0 0 z0)) w := fun w => built_none w
    have HVZ : Hid (Z = z0) := Lib.hid (HV0.out h0)
    go_wp2_with (first
      | (refine store_env rfl (.tmp 6) (.tmp 20) rfl (B + 1) rfl none 0 0 z0 rfl rfl none 0 0 z0 z0_len HR4.out ?_; intro w5 he5 ho5; have HE5 := Lib.hid he5; have HO5 := Lib.hid ho5; clear he5 ho5)
      | (refine store_rows rfl (.tmp 8) (.tmp 16) rfl _ rfl Z rfl HZV.out z0 z0_len hrn ?_; intro w4 hr4 ho4; rw [← hR] at hr4 ho4; have HO4 := Lib.hid ho4; have HR4 : Hid (EB w4 (B + 1) none 0 0 z0) := Lib.hid ((HR3.out.alloc _).only ho4 (by have := HS3.out; omega)); clear hr4 ho4))
    refine bodyPost_ret (ret_envp rfl _ _ (B + 1) none 0 0 z0 z0_len rfl HE5.out) rfl ⟨none, 0, 0, by rw [HVZ.out]; rfl, (by first | (rw [if_neg h0]; exact OwnV.none0) | exact OwnV.none0), ?_⟩
    rw [← HBB.out]
    exact ((HB3.out.alloc (by have := HS3.out; omega) _).trans (HO4.out.below (by have := HS3.out; omega))).trans (HO5.out.below (by omega))
  subst h0
  go_wp2_with (refine store_rows rfl (.tmp 8) (.tmp 16) rfl _ rfl Z rfl HZV.out z0 z0_len hrn ?_; intro w4 hr4 ho4)
  rw [← hR] at hr4 ho4 ⊢
  have HR4 := Lib.hid hr4
  have HE4 : Hid (EB w4 B a n c z) := Lib.hid ((HE3.out.alloc _).only ho4 (by have := HS3.out; omega))
  have HX4 : Hid (EB w4 (B + 1) none 0 0 z0) := Lib.hid ((HR3.out.alloc _).only ho4 (by have := HS3.out; omega))
  have HB4 : Hid (Below B w w4) := Lib.hid ((HB3.out.alloc (by have := HS3.out; omega) _).trans (ho4.below (by have := HS3.out; omega)))
  have H4 : Hid (OpS w4 a n c L) := Lib.hid (H3.out.below ((below_alloc w3 _).trans (ho4.below (by rw [hR]; exact Nat.le_refl _))))
  have HS4 : Hid (B + 1 < w4.heap.size) := Lib.hid HX4.out.lt
  have HKS : Hid (∀ w', Below w4.heap.size w4 w' → w'.cell? ⟨B, 0, none⟩ = some (.slice a n c) ∧ RB w' R Z) := Lib.hid fun w' h => ⟨(HE4.out.below h).c0, HR4.out.keep h HR4.out.lt⟩
  clear hr4 ho4 hR hrn
  refine wp_region_noPanic ?_
  refine wp_region_held_drew (S := fun w' => w'.cell? ⟨B, 0, none⟩ = some (.slice a n c) ∧ RB w' R Z) (by kernel_rfl) (HKS.out _ (Below.refl _ _).drew) (fun hHeld => ?_)
  refine wpAnyH_take (i := 1) (oi := { dst := some 23, op := Op.fieldAddr 26 (Operand.tmp 3) 0, type := 0, pos := "ref.go:50", after := #[], guard := none }) (v := ?_) rfl (by kernel_rfl) (by kernel_rfl) (by kernel_rfl) (fun _ _ _ h => h) (Or.inl ⟨by rfl, ?_⟩) (by assumption) ?_
  rotate_left
  · intro w' hSw
    try dsimp only at hSw
    go_simp
    try with_reducible rfl
  try simp only [Act.put, List.setIfInBounds_toArray, List.set_cons_zero, List.set_cons_succ]
  refine wpAnyH_take (i := 2) (oi := { dst := some 24, op := Op.load 22 (Operand.tmp 23), type := 22, pos := "ref.go:50", after := #[{ on := 1, ground := Ground.data }], guard := none }) (v := ?_) rfl (by kernel_rfl) (by kernel_rfl) (by kernel_rfl) (fun _ _ _ h => h) (Or.inl ⟨by rfl, ?_⟩) (by assumption) ?_
  rotate_left
  · intro w' hSw
    try dsimp only at hSw
    go_simp
    try with_reducible rfl
  try simp only [Act.put, List.setIfInBounds_toArray, List.set_cons_zero, List.set_cons_succ]
  refine take_rows (i := 4) (oi := { dst := some 26, op := Op.load 24 (Operand.tmp 8), type := 24, pos := "ref.go:50", after := #[], guard := none }) (Operand.tmp 8) rfl (by kernel_rfl) (by kernel_rfl) (by kernel_rfl) (Z) (fun _ _ _ h => h) (by rfl) rfl (R) rfl (HZV.out) (fun _ h => h.2) (by assumption) ?_
  try simp only [Act.put, List.setIfInBounds_toArray, List.set_cons_zero, List.set_cons_succ]
  refine wpAnyH_ready (rs := [0]) (by kernel_rfl) (by simp) ?_
  refine AllReadyH.cons (o := { dst := some 22, op := Op.buildSlice 22 0 #[], type := 22, pos := "ref.go:50", after := #[], guard := none }) rfl (fun K hK => ?_) ?_
  · go_simp
    refine hK.out _ _ (HKS.out _ (by first | exact (Below.refl _ _).drew.alloc (Nat.le_refl _) _ | exact ((Below.refl _ _).alloc (Nat.le_refl _) _).drew)) (fun hHeld => ?_)
    clear hK K
    try simp only [Act.put, List.setIfInBounds_toArray, List.set_cons_zero, List.set_cons_succ]
    refine wpAnyH_ready (rs := [3]) (by kernel_rfl) (by simp) ?_
    refine AllReadyH.cons (o := { dst := some 25, op := Op.call { callee := Callee.builtin Builtin.append, args := #[Operand.tmp 22, Operand.tmp 24], argTypes := #[22, 22] }, type := 22, pos := "ref.go:50", after := #[{ on := 0, ground := Ground.data }, { on := 2, ground := Ground.data }], guard := none }) rfl (fun K hK => ?_) ?_
    · refine step_appv rfl (.tmp 22) (.tmp 24) 22 rfl 52 w4.heap.size 3 32 _ Tryz.underlying22 op_info rfl (by omega) _ 0 _ [] rfl (OwnV.emptyAt (by first | exact heap_alloc_new w4 _ | exact heap_alloc_new w4.drew _) (Nat.le_refl _)) _ n _ (cO L) rfl (H4.out.below (by first | exact (Below.refl _ _).drew.alloc (Nat.le_refl _) _ | exact ((Below.refl _ _).alloc (Nat.le_refl _) _).drew)) (cO_one L) (by unfold maxLen; omega) (by omega) (by simp) ?_
      intro a5 c5 w5 ho5 hg5 hb5 _
      rw [Nat.zero_add, List.nil_append] at ho5
      rw [Nat.zero_add]
      have hb5x : Below w4.heap.size w4 w5 := Below.trans (by first | exact (Below.refl _ _).drew.alloc (Nat.le_refl _) _ | exact ((Below.refl _ _).alloc (Nat.le_refl _) _).drew) hb5
      have HO5 : Hid (OwnO w4.heap.size w5 a5 n c5 L) := Lib.hid ho5
      have HB5 : Hid (Below w4.heap.size w4 w5) := Lib.hid hb5x
      have HX5 := Lib.hid (HX4.out.below hb5x)
      clear ho5 hg5 hb5 hb5x
      refine hK.out _ _ (HKS.out _ HB5.out) (fun hHeld => ?_)
      clear hK K
      try simp only [Act.put, List.setIfInBounds_toArray, List.set_cons_zero, List.set_cons_succ]
      refine wpAnyH_take (i := 5) (oi := { dst := some 27, op := Op.build 26 #[(0, Operand.tmp 25), (1, Operand.tmp 26)], type := 26, pos := "ref.go:50", after := #[{ on := 3, ground := Ground.data }, { on := 4, ground := Ground.data }], guard := none }) (v := .agg (ev a5 n c5 (Z))) rfl (by kernel_rfl) (by kernel_rfl) (by kernel_rfl) (fun _ _ _ h => h) (Or.inl ⟨by rfl, fun w0 _ => run_build (Operand.tmp 25) (Operand.tmp 26) rfl a5 n c5 (Z) (HZV.out) rfl rfl w0⟩) (by assumption) ?_
      try simp only [Act.put, List.setIfInBounds_toArray, List.set_cons_zero, List.set_cons_succ]
      refine wpAnyH_ready (rs := [6]) (by kernel_rfl) (by simp) ?_
      refine AllReadyH.cons (o := { dst := none, op := Op.store 26 (Operand.tmp 6) (Operand.tmp 27), type := 0, pos := "ref.go:50", after := #[{ on := 5, ground := Ground.data }, { on := 3, ground := Ground.chain }, { on := 0, ground := Ground.phase }, { on := 1, ground := Ground.phase }, { on := 2, ground := Ground.phase }, { on := 3, ground := Ground.phase }, { on := 4, ground := Ground.phase }, { on := 5, ground := Ground.phase }], guard := none }) rfl (fun K hK => ?_) ?_
      · refine step_store_env rfl (.tmp 6) (.tmp 27) rfl (B + 1) rfl a5 n c5 Z rfl HZV.out none 0 0 z0 z0_len HX5.out ?_
        intro w6 he6 hq6
        have HE6 := Lib.hid he6
        have HQ6 := Lib.hid hq6
        clear he6 hq6
        refine hK.out _ _ (⟨(EB.only (HE4.out.below HB5.out) HQ6.out (by omega)).c0, HQ6.out.rows (fun e => HX5.out.clash (e ▸ (HKS.out _ HB5.out).2)) (HKS.out _ HB5.out).2⟩) (fun hHeld => ?_)
        clear hK K
        try simp only [Act.put]
        refine wpAnyH_take (i := 7) (oi := { dst := some 7, op := Op.assign (Operand.const (Value.int IntKind.i64 0)), type := 45, pos := "ref.go:50", after := #[{ on := 6, ground := Ground.chain }, { on := 0, ground := Ground.phase }, { on := 1, ground := Ground.phase }, { on := 2, ground := Ground.phase }, { on := 3, ground := Ground.phase }, { on := 4, ground := Ground.phase }, { on := 5, ground := Ground.phase }, { on := 6, ground := Ground.phase }], guard := none }) (v := ?_) rfl (by kernel_rfl) (by kernel_rfl) (by kernel_rfl) (fun _ _ _ h => h) (Or.inl ⟨by rfl, ?_⟩) (by assumption) ?_
        rotate_left
        · intro w' hSw
          try dsimp only at hSw
          go_simp
          try with_reducible rfl
        try simp only [Act.put, List.setIfInBounds_toArray, List.set_cons_zero, List.set_cons_succ]
        refine wpAnyH_done (by kernel_rfl) ?_ _
        refine NoPanic.normal ?_
        go_wp2
        refine bodyPost_ret (ret_envp rfl _ _ (B + 1) a5 n c5 Z HZV.out rfl HE6.out) rfl ⟨a5, n, c5, rfl, ?_, ?_⟩
        · try rw [if_pos rfl]
          exact (ownO_env HO5.out HX5.out HQ6.out).weak (by have := HS4.out; have := HBB.out; omega)
        · rw [← HBB.out]
          exact (HB4.out.trans (HB5.out.mono (by have := HS4.out; omega))).trans (HQ6.out.below (by omega))
      · exact AllReadyH.nil
    · exact AllReadyH.nil
  · exact AllReadyH.nil

end Go.Proofs.YtkaeanaeklilfaaGreatDoor
