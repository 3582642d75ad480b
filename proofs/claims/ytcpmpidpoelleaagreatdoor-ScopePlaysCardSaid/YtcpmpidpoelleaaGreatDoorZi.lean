/- The document's Start, Step, Equal of layer 16 (laid by genZi.py). -/
import Derived.Test.YtcpmpidpoelleaaGreatDoorZh
import Derived.Test.YtcpmpidpoelleaaGreatDoorZk
import Derived.Test.YtcpmpidpoelleaaGreatDoorMP
import Derived.Test.YtcpmpidpoelleaaGreatDoorMT
namespace Go.Proofs.YtcpmpidpoelleaaGreatDoor
open Go.RowKit

/-- A row of no envs. -/
theorem step_emptyE {ops : Array Oper} {o : Oper} {A : Act} {w : World} {K : Act → World → Prop} {Q : Exit → Act → World → Prop} {E : Prop} (hgd : o.guard = none) (ho : o.op = .buildSlice 29 0 #[])
    (k : ∀ w' g, g = w.heap.size → OwnV w.heap.size 28 11 w' (some ⟨g, 0, none⟩) 0 0 [] → Below w.heap.size w w' → K (A.put o.dst (.slice (some ⟨g, 0, none⟩) 0 0)) w') : if Region.wanted o (yielded ops A.tmps) = true then o.wp Tryz.prog A w K Q else E := by
  rw [if_pos (show Region.wanted o (yielded ops A.tmps) = true by simp [Region.wanted, hgd])]
  have h := k (w.alloc (.cells #[] 28)) w.heap.size rfl (OwnV.emptyAt (heap_alloc_new w _) (Nat.le_refl _)) (below_alloc w _)
  have hr : (Instr.buildSlice 29 0 #[]).run Tryz.prog w = .ok (.slice (some ⟨w.heap.size, 0, none⟩) 0 0) (w.alloc (.cells #[] 28)) := by kernel_rfl
  unfold Oper.wp execOp
  simp only [ho, List.map_toArray, List.map_nil, hr, Sem.run_bind, Result.andThen_ok, Sem.run_pure]
  exact h
/-- A row of one env, in a plain region. -/
theorem wpList_oneE {ops : Array Oper} {rest : List Oper} {o : Oper} {A : Act} {w : World} {Q : Exit → Act → World → Prop} (hgd : o.guard = none) (p : Operand) (ho : o.op = .buildSlice 29 1 #[(0, p)]) (y : AV) (hz : y.z.length = 10) (hx : A.eval p = .agg (ev y.a y.n y.c y.z))
    (k : ∀ w' g, w'.heap[g]? = some (.cells (rowA [y]).toArray 28 (0, 0)) → Below w.heap.size w w' → wpList Tryz.prog ops Q rest (A.put o.dst (.slice (some ⟨g, 0, none⟩) 1 1)) w') : wpList Tryz.prog ops Q (o :: rest) A w :=
  wpList_step fun _ hK => step_oneE hgd p ho y hz hx fun w' g _ h1 h2 => hK _ _ (k w' g h1 h2)
theorem rowA_take {V : List AV} (hz : ∀ x ∈ V, x.z.length = 10) {m : Nat} (hm : m ≤ V.length) : (rowA V).take (m * 11) = rowA (V.take m) := by
  have e := congrArg rowA (List.take_append_drop m V)
  rw [rowA_app] at e
  rw [← e, List.take_left']
  rw [rowA_len _ fun y hy => hz y (List.mem_of_mem_take hy), List.length_take, Nat.min_eq_left hm]

set_option maxRecDepth 20000 in
set_option maxHeartbeats 16000000 in
theorem rsstep_any (x : XV) (d : DV) (w : World) (h : x.own w) (hk : okS x.k) (hp : d.2.1.1.length ≤ 200) :
    Calls Tryz.prog 10 #[.agg (sv x), .agg (dA d)] w fun e w' => ∃ y : XV, e = .returned (.tuple #[.agg (sv y), .int .i64 (stpE x.k d)]) ∧ y.own w' ∧ y.k = stpV x.k d ∧ Below w.heap.size w w' := by
  obtain ⟨B, hB⟩ : ∃ B, B = w.heap.size := ⟨_, rfl⟩
  obtain ⟨w1, hw1⟩ : ∃ w1, w1 = w.alloc (.cells (sv x) 31) := ⟨_, rfl⟩
  obtain ⟨w2, hw2⟩ : ∃ w2, w2 = w1.alloc (.cells (dA d) 37) := ⟨_, rfl⟩
  obtain ⟨w3, hw3⟩ : ∃ w3, w3 = w2.alloc (.cells #[.slice none 0 0, .int .i64 0, .int .i64 0, .int .i64 0, .int .i64 0, .int .i64 0, .int .i64 0, .int .i64 0, .int .i64 0, .int .i64 0, .int .i64 0, .slice none 0 0] 31) := ⟨_, rfl⟩
  have s1 : w1.heap.size = B + 1 := by rw [hw1, hB]; simp
  have s2 : w2.heap.size = B + 1 + 1 := by rw [hw2]; simp [s1]
  have HE3 : Hid (SB w3 B x) := Lib.hid (by rw [hw3, hw2, hw1, hB]; exact ((SB.new w x).alloc _).alloc _)
  have HD3 : Hid (DB6 w3 (B + 1) d) := Lib.hid (by rw [hw3, hw2, ← s1]; exact (DB6.new w1 d).alloc _)
  have HR3 : Hid (SB w3 (B + 1 + 1) x0) := Lib.hid (by rw [hw3, ← s2, ← sv_zero]; exact SB.new w2 x0)
  have HB3 : Hid (Below B w w3) := Lib.hid (by rw [hw3, hw2, hw1, hB]; exact (((Below.refl _ _).alloc (Nat.le_refl _) _).alloc (by simp) _).alloc (by simp; omega) _)
  have HS3 : Hid (B + 1 + 1 < w3.heap.size) := Lib.hid HR3.out.lt
  have HX3 : Hid (x.own w3) := Lib.hid (h.below (hB ▸ HB3.out))
  have HSM := Lib.hid (XV.small h.ok hk)
  have HZ : Hid (x.e.z.length = 10) := Lib.hid HSM.out.2.2.2.2
  have hn6 := HSM.out.2.1
  have HOK := Lib.hid hk
  have HBB := Lib.hid hB
  have HP := Lib.hid hp
  have hsl : x.k.st.length = x.n := by show (x.V.map AV.k).length = x.n; rw [List.length_map]; exact HSM.out.2.2.2.1
  obtain ⟨V, hV⟩ : ∃ V, V = stpE x.k d := ⟨_, rfl⟩
  obtain ⟨Y, hY⟩ : ∃ Y, Y = stpV x.k d := ⟨_, rfl⟩
  rw [← hV, ← hY]
  have HVE := Lib.hid hV
  have HYE := Lib.hid hY
  clear h hk hp s1 s2 hV hY
  go_enter Tryz.func10, Tryz.ntmps10
  go_upto_region 1 with fail
  rw [← hw1, ← hw2, ← hw3, ← hB]
  clear hw1 hw2 hw3 hB w1 w2
  go_cut [6] (fun u wx => ∃ X a5 c5, u = .pointer (some ⟨X, 0, none⟩) ∧ Hid (SB wx X ⟨x.e, a5, x.n, c5, x.V⟩) ∧ Hid (OwnV w3.heap.size 28 11 wx a5 x.n c5 (rowA x.V)) ∧ Hid (Below w3.heap.size w3 wx) ∧ Hid (w3.heap.size ≤ X))
  case first =>
    have HKS : Hid (∀ w', Below w3.heap.size w3 w' → (fun w' => SB w' B x ∧ w'.cell? ⟨B, 11, none⟩ = some (.slice x.a x.n x.c)) w') := Lib.hid fun w' hb => ⟨HE3.out.below hb, (HE3.out.below hb).c11 HZ.out⟩
    have HKO : Hid (∀ u v X, w3.heap.size ≤ X → (fun w' => SB w' B x ∧ w'.cell? ⟨B, 11, none⟩ = some (.slice x.a x.n x.c)) u → Only X u v → (fun w' => SB w' B x ∧ w'.cell? ⟨B, 11, none⟩ = some (.slice x.a x.n x.c)) v) := Lib.hid fun u v X hX h ho => ⟨h.1.only ho (by have := HS3.out; omega), (h.1.only ho (by have := HS3.out; omega)).c11 HZ.out⟩
    refine wp_region_noPanic ?_
    refine wp_region_held_drew (S := fun w' => SB w' B x ∧ w'.cell? ⟨B, 11, none⟩ = some (.slice x.a x.n x.c)) (by kernel_rfl) (HKS.out _ (Below.refl _ _).drew) (fun hHeld => ?_)
    refine wpAnyH_take (i := 0) (oi := { dst := some 9, op := Op.fieldAddr 31 (Operand.tmp 2) 0, type := 0, pos := "ref.go:14", after := #[], guard := none }) (v := ?_) rfl (by kernel_rfl) (by kernel_rfl) (by kernel_rfl) (fun _ _ _ h => h) (Or.inl ⟨by rfl, ?_⟩) (by assumption) ?_
    rotate_left
    · intro w' hSw
      try dsimp only at hSw
      go_simp
      try with_reducible rfl
    try simp only [Act.put, List.setIfInBounds_toArray, List.set_cons_zero, List.set_cons_succ]
    refine take_aenv (i := 1) (oi := { dst := some 10, op := Op.load 28 (Operand.tmp 9), type := 28, pos := "ref.go:14", after := #[{ on := 0, ground := Ground.data }], guard := none }) (Operand.tmp 9) rfl (by kernel_rfl) (by kernel_rfl) (by kernel_rfl) x.e.a x.e.n x.e.c x.e.z (fun _ _ _ h => h) (by rfl) rfl (B) (0) rfl (HZ.out) (fun w h j hj => by rw [Nat.zero_add]; exact h.1.at HZ.out hj) (by assumption) ?_
    try simp only [Act.put, List.setIfInBounds_toArray, List.set_cons_zero, List.set_cons_succ]
    refine wpAnyH_take (i := 3) (oi := { dst := some 12, op := Op.fieldAddr 31 (Operand.tmp 2) 1, type := 0, pos := "ref.go:14", after := #[], guard := none }) (v := ?_) rfl (by kernel_rfl) (by kernel_rfl) (by kernel_rfl) (fun _ _ _ h => h) (Or.inl ⟨by rfl, ?_⟩) (by assumption) ?_
    rotate_left
    · intro w' hSw
      try dsimp only at hSw
      go_simp
      try with_reducible rfl
    try simp only [Act.put, List.setIfInBounds_toArray, List.set_cons_zero, List.set_cons_succ]
    refine wpAnyH_take (i := 4) (oi := { dst := some 13, op := Op.load 29 (Operand.tmp 12), type := 29, pos := "ref.go:14", after := #[{ on := 3, ground := Ground.data }], guard := none }) (v := ?_) rfl (by kernel_rfl) (by kernel_rfl) (by kernel_rfl) (fun _ _ _ h => h) (Or.inl ⟨by rfl, ?_⟩) (by assumption) ?_
    rotate_left
    · intro w' hSw
      try dsimp only at hSw
      go_simp
      try with_reducible rfl
    try simp only [Act.put, List.setIfInBounds_toArray, List.set_cons_zero, List.set_cons_succ]
    refine wpAnyH_ready (rs := [2, 7]) (by kernel_rfl) (by simp) ?_
    refine AllReadyH.cons (o := { dst := some 11, op := Op.buildSlice 29 0 #[], type := 29, pos := "ref.go:14", after := #[], guard := none }) rfl (fun K hK => ?_) ?_
    · refine step_emptyE rfl rfl ?_
      intro v1 g1 _ ho1 hb1
      have HB1 : Hid (Below w3.heap.size w3 v1) := Lib.hid ((Below.refl w3.heap.size w3).drew.trans (hb1.mono (Below.refl w3.heap.size w3).drew.size))
      have HL1 : Hid (OwnV w3.heap.size 28 11 v1 (some ⟨g1, 0, none⟩) 0 0 []) := Lib.hid (ho1.weak (Below.refl w3.heap.size w3).drew.size)
      clear ho1 hb1
      refine hK.out _ _ (HKS.out _ HB1.out) (fun hHeld => ?_)
      clear hK K
      try simp only [Act.put, List.setIfInBounds_toArray, List.set_cons_zero, List.set_cons_succ]
      refine wpAnyH_ready (rs := [5, 7]) (by kernel_rfl) (by simp) ?_
      refine AllReadyH.cons (o := { dst := some 14, op := Op.call { callee := Callee.builtin Builtin.append, args := #[Operand.tmp 11, Operand.tmp 13], argTypes := #[29, 29] }, type := 29, pos := "ref.go:14", after := #[{ on := 2, ground := Ground.data }, { on := 4, ground := Ground.data }], guard := none }) rfl (fun K hK => ?_) ?_
      · refine step_appv rfl (.tmp 11) (.tmp 13) 29 rfl 28 w3.heap.size 11 104 _ Tryz.underlying29 envs_info rfl (by decide) _ 0 0 [] rfl HL1.out x.a x.n x.c (rowA x.V) rfl (Vs.below HX3.out.sk.row HB1.out) (rowA_one _) (by unfold maxLen; omega) (by omega) HB1.out.size ?_
        rw [Nat.zero_add]
        intro a2 c2 v2 ho2 hg2 hb2 _
        rw [List.nil_append] at ho2
        have HB2 : Hid (Below w3.heap.size w3 v2) := Lib.hid (HB1.out.trans hb2)
        have HA2 := Lib.hid ho2
        clear ho2 hg2 hb2
        refine hK.out _ _ (HKS.out _ HB2.out) (fun hHeld => ?_)
        clear hK K
        try simp only [Act.put, List.setIfInBounds_toArray, List.set_cons_zero, List.set_cons_succ]
        refine wpAnyH_take (i := 6) (oi := { dst := some 15, op := Op.build 31 #[(0, Operand.tmp 10), (1, Operand.tmp 14)], type := 31, pos := "ref.go:14", after := #[{ on := 1, ground := Ground.data }, { on := 5, ground := Ground.data }], guard := none }) (v := .agg (sv (⟨x.e, a2, x.n, c2, x.V⟩ : XV))) rfl (by kernel_rfl) (by kernel_rfl) (by kernel_rfl) (fun _ _ _ h => h) (Or.inl ⟨by rfl, fun w0 _ => run_build_scope (.tmp 10) (.tmp 14) rfl (⟨x.e, a2, x.n, c2, x.V⟩ : XV) (HZ.out) rfl rfl w0⟩) (by assumption) ?_
        try simp only [Act.put, List.setIfInBounds_toArray, List.set_cons_zero, List.set_cons_succ]
        refine wpAnyH_ready (rs := [7]) (by kernel_rfl) (by simp) ?_
        refine AllReadyH.cons (o := { dst := some 6, op := Op.alloc 31, type := 0, pos := "ref.go:14", after := #[], guard := none }) rfl (fun K hK => ?_) ?_
        · refine step_newS rfl rfl ?_
          intro v3 X3 hX3 hn3 hb3
          have HB3 : Hid (Below w3.heap.size w3 v3) := Lib.hid (HB2.out.trans (hb3.mono HB2.out.size))
          have HN3 := Lib.hid hn3
          have HG3 : Hid (w3.heap.size ≤ X3) := Lib.hid (by rw [hX3]; exact HB2.out.size)
          have HA3 := Lib.hid (HA2.out.keep hb3 (Nat.le_refl _))
          clear hX3 hn3 hb3
          refine hK.out _ _ (HKS.out _ HB3.out) (fun hHeld => ?_)
          clear hK K
          try simp only [Act.put, List.setIfInBounds_toArray, List.set_cons_zero, List.set_cons_succ]
          refine wpAnyH_ready (rs := [8]) (by kernel_rfl) (by simp) ?_
          refine AllReadyH.cons (o := { dst := none, op := Op.store 31 (Operand.tmp 6) (Operand.tmp 15), type := 0, pos := "ref.go:14", after := #[{ on := 7, ground := Ground.data }, { on := 6, ground := Ground.data }, { on := 5, ground := Ground.chain }, { on := 0, ground := Ground.phase }, { on := 1, ground := Ground.phase }, { on := 2, ground := Ground.phase }, { on := 3, ground := Ground.phase }, { on := 4, ground := Ground.phase }, { on := 5, ground := Ground.phase }, { on := 6, ground := Ground.phase }, { on := 7, ground := Ground.phase }], guard := none }) rfl (fun K hK => ?_) ?_
          · refine step_store_scope rfl (.tmp 6) (.tmp 15) rfl X3 rfl (⟨x.e, a2, x.n, c2, x.V⟩ : XV) rfl HZ.out x0 rfl HN3.out ?_
            intro v4 hn4 hq4
            have HN4 := Lib.hid hn4
            have HQ4 := Lib.hid hq4
            clear hn4 hq4
            refine hK.out _ _ (HKO.out _ _ X3 HG3.out (HKS.out _ HB3.out) HQ4.out) (fun hHeld => ?_)
            clear hK K
            try simp only [Act.put]
            refine wpAnyH_done (by kernel_rfl) ?_ _
            refine NoPanic.normal ?_
            go_wp2
            go_meet
            exact ⟨_, _, _, rfl, HN4, Lib.hid (HA3.out.only_t HN3.out (by decide) HQ4.out), Lib.hid (HB3.out.trans (HQ4.out.below HG3.out)), HG3⟩
          exact AllReadyH.nil
        exact AllReadyH.nil
      refine AllReadyH.cons (o := { dst := some 6, op := Op.alloc 31, type := 0, pos := "ref.go:14", after := #[], guard := none }) rfl (fun K hK => ?_) ?_
      · refine step_newS rfl rfl ?_
        intro v5 X5 hX5 hn5 hb5
        have HB5 : Hid (Below w3.heap.size w3 v5) := Lib.hid (HB1.out.trans (hb5.mono HB1.out.size))
        have HN5 := Lib.hid hn5
        have HG5 : Hid (w3.heap.size ≤ X5) := Lib.hid (by rw [hX5]; exact HB1.out.size)
        have HL5 := Lib.hid (HL1.out.keep hb5 (Nat.le_refl _))
        clear hX5 hn5 hb5
        refine hK.out _ _ (HKS.out _ HB5.out) (fun hHeld => ?_)
        clear hK K
        try simp only [Act.put, List.setIfInBounds_toArray, List.set_cons_zero, List.set_cons_succ]
        refine wpAnyH_ready (rs := [5]) (by kernel_rfl) (by simp) ?_
        refine AllReadyH.cons (o := { dst := some 14, op := Op.call { callee := Callee.builtin Builtin.append, args := #[Operand.tmp 11, Operand.tmp 13], argTypes := #[29, 29] }, type := 29, pos := "ref.go:14", after := #[{ on := 2, ground := Ground.data }, { on := 4, ground := Ground.data }], guard := none }) rfl (fun K hK => ?_) ?_
        · refine step_appv rfl (.tmp 11) (.tmp 13) 29 rfl 28 w3.heap.size 11 104 _ Tryz.underlying29 envs_info rfl (by decide) _ 0 0 [] rfl HL5.out x.a x.n x.c (rowA x.V) rfl (Vs.below HX3.out.sk.row HB5.out) (rowA_one _) (by unfold maxLen; omega) (by omega) HB5.out.size ?_
          rw [Nat.zero_add]
          intro a6 c6 v6 ho6 hg6 hb6 _
          rw [List.nil_append] at ho6
          have HB6 : Hid (Below w3.heap.size w3 v6) := Lib.hid (HB5.out.trans hb6)
          have HA6 := Lib.hid ho6
          have HN6 := Lib.hid (HN5.out.grown HL5.out (by decide) hg6)
          clear ho6 hg6 hb6
          refine hK.out _ _ (HKS.out _ HB6.out) (fun hHeld => ?_)
          clear hK K
          try simp only [Act.put, List.setIfInBounds_toArray, List.set_cons_zero, List.set_cons_succ]
          refine wpAnyH_take (i := 6) (oi := { dst := some 15, op := Op.build 31 #[(0, Operand.tmp 10), (1, Operand.tmp 14)], type := 31, pos := "ref.go:14", after := #[{ on := 1, ground := Ground.data }, { on := 5, ground := Ground.data }], guard := none }) (v := .agg (sv (⟨x.e, a6, x.n, c6, x.V⟩ : XV))) rfl (by kernel_rfl) (by kernel_rfl) (by kernel_rfl) (fun _ _ _ h => h) (Or.inl ⟨by rfl, fun w0 _ => run_build_scope (.tmp 10) (.tmp 14) rfl (⟨x.e, a6, x.n, c6, x.V⟩ : XV) (HZ.out) rfl rfl w0⟩) (by assumption) ?_
          try simp only [Act.put, List.setIfInBounds_toArray, List.set_cons_zero, List.set_cons_succ]
          refine wpAnyH_ready (rs := [8]) (by kernel_rfl) (by simp) ?_
          refine AllReadyH.cons (o := { dst := none, op := Op.store 31 (Operand.tmp 6) (Operand.tmp 15), type := 0, pos := "ref.go:14", after := #[{ on := 7, ground := Ground.data }, { on := 6, ground := Ground.data }, { on := 5, ground := Ground.chain }, { on := 0, ground := Ground.phase }, { on := 1, ground := Ground.phase }, { on := 2, ground := Ground.phase }, { on := 3, ground := Ground.phase }, { on := 4, ground := Ground.phase }, { on := 5, ground := Ground.phase }, { on := 6, ground := Ground.phase }, { on := 7, ground := Ground.phase }], guard := none }) rfl (fun K hK => ?_) ?_
          · refine step_store_scope rfl (.tmp 6) (.tmp 15) rfl X5 rfl (⟨x.e, a6, x.n, c6, x.V⟩ : XV) rfl HZ.out x0 rfl HN6.out ?_
            intro v7 hn7 hq7
            have HN7 := Lib.hid hn7
            have HQ7 := Lib.hid hq7
            clear hn7 hq7
            refine hK.out _ _ (HKO.out _ _ X5 HG5.out (HKS.out _ HB6.out) HQ7.out) (fun hHeld => ?_)
            clear hK K
            try simp only [Act.put]
            refine wpAnyH_done (by kernel_rfl) ?_ _
            refine NoPanic.normal ?_
            go_wp2
            go_meet
            exact ⟨_, _, _, rfl, HN7, Lib.hid (HA6.out.only_t HN6.out (by decide) HQ7.out), Lib.hid (HB6.out.trans (HQ7.out.below HG5.out)), HG5⟩
          exact AllReadyH.nil
        exact AllReadyH.nil
      exact AllReadyH.nil
    refine AllReadyH.cons (o := { dst := some 6, op := Op.alloc 31, type := 0, pos := "ref.go:14", after := #[], guard := none }) rfl (fun K hK => ?_) ?_
    · refine step_newS rfl rfl ?_
      intro v8 X8 hX8 hn8 hb8
      have HB8 : Hid (Below w3.heap.size w3 v8) := Lib.hid ((Below.refl w3.heap.size w3).drew.trans (hb8.mono (Below.refl w3.heap.size w3).drew.size))
      have HN8 := Lib.hid hn8
      have HG8 : Hid (w3.heap.size ≤ X8) := Lib.hid (by rw [hX8]; exact (Below.refl w3.heap.size w3).drew.size)
      clear hX8 hn8 hb8
      refine hK.out _ _ (HKS.out _ HB8.out) (fun hHeld => ?_)
      clear hK K
      try simp only [Act.put, List.setIfInBounds_toArray, List.set_cons_zero, List.set_cons_succ]
      refine wpAnyH_ready (rs := [2]) (by kernel_rfl) (by simp) ?_
      refine AllReadyH.cons (o := { dst := some 11, op := Op.buildSlice 29 0 #[], type := 29, pos := "ref.go:14", after := #[], guard := none }) rfl (fun K hK => ?_) ?_
      · refine step_emptyE rfl rfl ?_
        intro v9 g9 _ ho9 hb9
        have HB9 : Hid (Below w3.heap.size w3 v9) := Lib.hid (HB8.out.trans (hb9.mono HB8.out.size))
        have HL9 : Hid (OwnV w3.heap.size 28 11 v9 (some ⟨g9, 0, none⟩) 0 0 []) := Lib.hid (ho9.weak HB8.out.size)
        have HN9 := Lib.hid (HN8.out.below hb9)
        clear ho9 hb9
        refine hK.out _ _ (HKS.out _ HB9.out) (fun hHeld => ?_)
        clear hK K
        try simp only [Act.put, List.setIfInBounds_toArray, List.set_cons_zero, List.set_cons_succ]
        refine wpAnyH_ready (rs := [5]) (by kernel_rfl) (by simp) ?_
        refine AllReadyH.cons (o := { dst := some 14, op := Op.call { callee := Callee.builtin Builtin.append, args := #[Operand.tmp 11, Operand.tmp 13], argTypes := #[29, 29] }, type := 29, pos := "ref.go:14", after := #[{ on := 2, ground := Ground.data }, { on := 4, ground := Ground.data }], guard := none }) rfl (fun K hK => ?_) ?_
        · refine step_appv rfl (.tmp 11) (.tmp 13) 29 rfl 28 w3.heap.size 11 104 _ Tryz.underlying29 envs_info rfl (by decide) _ 0 0 [] rfl HL9.out x.a x.n x.c (rowA x.V) rfl (Vs.below HX3.out.sk.row HB9.out) (rowA_one _) (by unfold maxLen; omega) (by omega) HB9.out.size ?_
          rw [Nat.zero_add]
          intro a10 c10 v10 ho10 hg10 hb10 _
          rw [List.nil_append] at ho10
          have HB10 : Hid (Below w3.heap.size w3 v10) := Lib.hid (HB9.out.trans hb10)
          have HA10 := Lib.hid ho10
          have HN10 := Lib.hid (HN9.out.grown HL9.out (by decide) hg10)
          clear ho10 hg10 hb10
          refine hK.out _ _ (HKS.out _ HB10.out) (fun hHeld => ?_)
          clear hK K
          try simp only [Act.put, List.setIfInBounds_toArray, List.set_cons_zero, List.set_cons_succ]
          refine wpAnyH_take (i := 6) (oi := { dst := some 15, op := Op.build 31 #[(0, Operand.tmp 10), (1, Operand.tmp 14)], type := 31, pos := "ref.go:14", after := #[{ on := 1, ground := Ground.data }, { on := 5, ground := Ground.data }], guard := none }) (v := .agg (sv (⟨x.e, a10, x.n, c10, x.V⟩ : XV))) rfl (by kernel_rfl) (by kernel_rfl) (by kernel_rfl) (fun _ _ _ h => h) (Or.inl ⟨by rfl, fun w0 _ => run_build_scope (.tmp 10) (.tmp 14) rfl (⟨x.e, a10, x.n, c10, x.V⟩ : XV) (HZ.out) rfl rfl w0⟩) (by assumption) ?_
          try simp only [Act.put, List.setIfInBounds_toArray, List.set_cons_zero, List.set_cons_succ]
          refine wpAnyH_ready (rs := [8]) (by kernel_rfl) (by simp) ?_
          refine AllReadyH.cons (o := { dst := none, op := Op.store 31 (Operand.tmp 6) (Operand.tmp 15), type := 0, pos := "ref.go:14", after := #[{ on := 7, ground := Ground.data }, { on := 6, ground := Ground.data }, { on := 5, ground := Ground.chain }, { on := 0, ground := Ground.phase }, { on := 1, ground := Ground.phase }, { on := 2, ground := Ground.phase }, { on := 3, ground := Ground.phase }, { on := 4, ground := Ground.phase }, { on := 5, ground := Ground.phase }, { on := 6, ground := Ground.phase }, { on := 7, ground := Ground.phase }], guard := none }) rfl (fun K hK => ?_) ?_
          · refine step_store_scope rfl (.tmp 6) (.tmp 15) rfl X8 rfl (⟨x.e, a10, x.n, c10, x.V⟩ : XV) rfl HZ.out x0 rfl HN10.out ?_
            intro v11 hn11 hq11
            have HN11 := Lib.hid hn11
            have HQ11 := Lib.hid hq11
            clear hn11 hq11
            refine hK.out _ _ (HKO.out _ _ X8 HG8.out (HKS.out _ HB10.out) HQ11.out) (fun hHeld => ?_)
            clear hK K
            try simp only [Act.put]
            refine wpAnyH_done (by kernel_rfl) ?_ _
            refine NoPanic.normal ?_
            go_wp2
            go_meet
            exact ⟨_, _, _, rfl, HN11, Lib.hid (HA10.out.only_t HN10.out (by decide) HQ11.out), Lib.hid (HB10.out.trans (HQ11.out.below HG8.out)), HG8⟩
          exact AllReadyH.nil
        exact AllReadyH.nil
      exact AllReadyH.nil
    exact AllReadyH.nil
  case rest =>
  obtain ⟨X, a5, c5, rfl, HSX, HRX, HBX, HGX⟩ := hcut
  obtain ⟨wk, hwk⟩ : ∃ wk, wk = wc := ⟨_, rfl⟩
  rw [← hwk] at HSX HRX HBX ⊢
  clear hwk
  have HEk := Lib.hid (HE3.out.below HBX.out)
  have HDk := Lib.hid (HD3.out.below HBX.out)
  have HRk := Lib.hid (HR3.out.below HBX.out)
  have HXk := Lib.hid (HX3.out.below HBX.out)
  have HG : Hid (B + 1 + 1 < X) := Lib.hid (Nat.lt_of_lt_of_le HS3.out HGX.out)
  have e11 := HEk.out.c11 HZ.out
  have x11 := HSX.out.c11 HZ.out
  dsimp only at x11
  obtain ⟨y0, y1, y2, y3, y4, y5⟩ := HDk.out.at
  by_cases h4 : d.1 = 4
  · rw [h4] at y0
    by_cases h6 : 6 ≤ x.n
    · have h6' : (6 : Int) ≤ (x.n : Int) := by omega
      obtain ⟨hE, hV⟩ := step_big (s := x.k) h4 (by omega)
      obtain rfl := HVE.out.trans hE
      obtain rfl := HYE.out.trans hV
      clear h4 hE hV hsl h6 y1 y2 y3 y4 y5
      go_wp2_with (first
        | (refine store_scope rfl (.tmp 4) (.tmp 61) rfl (B + 1 + 1) rfl x0 rfl rfl x0 rfl HRk.out ?_; intro wu heu hqu; have HEU := Lib.hid heu; have HQU := Lib.hid hqu; clear heu hqu)
        | (refine build_scope0 rfl rfl ?_))
      refine bodyPost_ret (ret_scopep rfl _ _ (B + 1 + 1) x0 rfl rfl HEU.out) rfl ⟨x0, rfl, x0_own _, rfl, ?_⟩
      rw [← HBB.out]; exact (HB3.out.trans (HBX.out.mono (by have := HS3.out; omega))).trans (HQU.out.below (by omega))
    · have h6' : ¬ (6 : Int) ≤ (x.n : Int) := by omega
      obtain ⟨hE, hV⟩ := step_begin (s := x.k) h4 (by omega)
      obtain rfl := HVE.out.trans hE
      obtain rfl := HYE.out.trans hV
      clear h4 hE hV hsl h6 y1 y2 y3 y4 y5
      go_wp2_with (first
        | (refine store_scope rfl (.tmp 4) (.tmp 91) rfl (B + 1 + 1) rfl ⟨x.e, a6, x.n + 1, c6, x.V ++ [x.e]⟩ rfl HZ.out x0 rfl HR9.out ?_; intro wu heu hqu; have HEU := Lib.hid heu; have HQU := Lib.hid hqu; clear heu hqu)
        | (refine load_scope rfl (.tmp 6) rfl X rfl ⟨x.e, a6, x.n + 1, c6, x.V ++ [x.e]⟩ HZ.out HS9.out ?_)
        | (refine store_sst rfl (.tmp 68) (.tmp 67) rfl X rfl a6 (x.n + 1) c6 (x.V ++ [x.e]) rfl ⟨x.e, a5, x.n, c5, x.V⟩ HZ.out HS8.out ?_; intro w9 he9 hq9; have HS9 := Lib.hid he9; have HQ9 := Lib.hid hq9; have HR9 := Lib.hid (HR8.out.only hq9 (by have := HG.out; omega)); clear he9 hq9)
        | (refine wpList_appv rfl (.tmp 63) (.tmp 66) 29 rfl 28 w3.heap.size 11 104 _ Tryz.underlying29 envs_info rfl (by decide) a5 x.n c5 (rowA x.V) rfl HO7.out (some ⟨g7, 0, none⟩) 1 1 _ rfl HV7.out (rowA_one _) (by unfold maxLen; omega) (by omega) (Nat.le_trans HBX.out.size HB7.out.size) ?_; intro a6 c6 w8 ho8 hg8 hb8 _; have HO8 := Lib.hid ho8; have HS8 : Hid (SB w8 X ⟨x.e, a5, x.n, c5, x.V⟩) := Lib.hid (HS7.out.grown HO7.out (by decide) hg8); have HR8 : Hid (SB w8 (B + 1 + 1) x0) := Lib.hid (HR7.out.grown HO7.out (by decide) hg8); have HB8 := Lib.hid hb8; have HK8 : Hid (∀ y : AV, y.own w7 → y.own w8) := Lib.hid (fun y hy => ⟨hy.1.grown_t HO7.out (by decide) hg8, hy.2⟩); clear ho8 hg8 hb8)
        | (refine wpList_oneE rfl (.tmp 65) rfl x.e HZ.out rfl ?_; intro w7 g7 hg7 hb7; have HV7 := Lib.hid (vs_oneE (y := x.e) HZ.out hg7); have HO7 := Lib.hid (HRX.out.keep hb7 (Nat.le_refl _)); have HS7 := Lib.hid (HSX.out.below hb7); have HR7 := Lib.hid (HRk.out.below hb7); have HB7 := Lib.hid hb7; clear hg7 hb7)
        | (refine load_senv rfl (.tmp 64) rfl B rfl x HZ.out HEk.out ?_))
      refine bodyPost_ret (ret_scopep rfl _ _ (B + 1 + 1) ⟨x.e, a6, x.n + 1, c6, x.V ++ [x.e]⟩ HZ.out rfl HEU.out) rfl ⟨_, rfl, ?_, ?_, ?_⟩
      · refine XV.own.kp (w := w8) ⟨HK8.out _ (HXk.out.e.below HB7.out), ?_, fun y hy => HK8.out _ ?_⟩ ((Kp.scope HS8.out HQ9.out).trans (Kp.scope HR9.out HQU.out))
        · have := HO8.out.weak (Nat.zero_le _)
          rw [← rowA_app] at this
          exact this
        · rcases List.mem_append.1 hy with hy | hy
          · exact (HXk.out.st y hy).below HB7.out
          · rw [List.mem_singleton.1 hy]; exact HXk.out.e.below HB7.out
      · show SC.mk x.k.e ((x.V ++ [x.e]).map AV.k) = _
        rw [List.map_append]; rfl
      · rw [← HBB.out]; exact (((HB3.out.trans ((HBX.out.trans ((HB7.out.mono HBX.out.size).trans HB8.out)).mono (by have := HS3.out; omega))).trans (HQ9.out.below (by have := HG.out; omega)))).trans (HQU.out.below (by omega))
  · by_cases h5 : d.1 = 5
    · rw [h5] at y0
      by_cases h6 : x.n = 0
      · obtain ⟨hE, hV⟩ := step_none (s := x.k) h5 (by omega)
        obtain rfl := HVE.out.trans hE
        obtain rfl := HYE.out.trans hV
        rw [h6] at e11 x11
        clear h4 h5 hE hV hsl h6 y1 y2 y3 y4 y5
        go_wp2_with (first
          | (refine store_scope rfl (.tmp 4) (.tmp 73) rfl (B + 1 + 1) rfl x0 rfl rfl x0 rfl HRk.out ?_; intro wu heu hqu; have HEU := Lib.hid heu; have HQU := Lib.hid hqu; clear heu hqu)
          | (refine build_scope0 rfl rfl ?_))
        refine bodyPost_ret (ret_scopep rfl _ _ (B + 1 + 1) x0 rfl rfl HEU.out) rfl ⟨x0, rfl, x0_own _, rfl, ?_⟩
        rw [← HBB.out]; exact (HB3.out.trans (HBX.out.mono (by have := HS3.out; omega))).trans (HQU.out.below (by omega))
      · obtain ⟨m, hm⟩ : ∃ m, x.n = m + 1 := ⟨x.n - 1, by omega⟩
        obtain ⟨hE, hV⟩ := step_end (s := x.k) h5 (by omega)
        obtain rfl := HVE.out.trans hE
        obtain rfl := HYE.out.trans hV
        have HV : Hid ((avA x.V m).k = x.k.st.getD (x.k.st.length - 1) ([], z0) ∧ (x.V.take m).map AV.k = x.k.st.take (x.k.st.length - 1)) := Lib.hid (by
          have hl := HSM.out.2.2.2.1
          rw [hsl, hm, Nat.add_sub_cancel]
          refine ⟨?_, by show _ = (x.V.map AV.k).take m; rw [List.map_take]⟩
          rw [avA_eq (by omega)]
          show _ = (x.V.map AV.k).getD m ([], z0)
          simp [List.getD, show m < x.V.length by omega])
        obtain ⟨b, off, hxa, _, _⟩ := HXk.out.sk.row.at_ (by omega)
        have HAT : Hid (∀ j, j < 11 → wk.cell? ⟨b, off + m * 11 + j, none⟩ = (ev (avA x.V m).a (avA x.V m).n (avA x.V m).c (avA x.V m).z)[j]?) := Lib.hid fun j hj => by
          have h2 := HXk.out.sk
          rw [hxa] at h2
          exact h2.at (by omega) hj
        have HM : Hid ((avA x.V m).own wk) := Lib.hid (HXk.out.st _ (avA_mem (by have := HSM.out.2.2.2.1; omega)))
        obtain ⟨g5, cur5, ha5, hb5, _, hc5, _, _⟩ := HRX.out.form (HRX.out.some (by omega))
        have hcb := HRX.out.bounds
        have hcm5 := hcb.2.2
        have hcl5 := hcb.2.1
        unfold maxLen at hcm5
        have hsr : ∀ w' : World, (Instr.slice 29 (.slice (some ⟨g5, 0, none⟩) (m + 1) c5) none (some (.int .i64 m)) none).run Tryz.prog w' = .ok (.slice (some ⟨g5, 0, none⟩) m c5) w' := fun w' =>
          run_h (t := 29) (e := 28) (s := 11) (by kernel_rfl) Tryz.underlying29 envs_info (by omega) w'
        have HCU : Hid (OwnV w3.heap.size 28 11 wk (some ⟨g5, 0, none⟩) m c5 (rowA (x.V.take m))) := Lib.hid (by
          have h1 := HRX.out
          rw [ha5] at h1
          have h2 := h1.cut (m := m) (by omega)
          rw [rowA_take (fun y hy => (HXk.out.st y hy).2) (by have := HSM.out.2.2.2.1; omega)] at h2
          exact h2)
        have hix : (m : Int) < (m : Int) + 1 := by omega
        have hm5 : m ≤ 5 := by omega
        have HXE : Hid (x.n = m + 1 ∧ a5 = some ⟨g5, 0, none⟩) := Lib.hid ⟨hm, ha5⟩
        rw [hxa, hm] at e11
        rw [ha5, hm] at x11
        have h80 : ((m : Int) + 1 == 0) = false := by simp; omega
        clear h4 h5 hE hV hsl h6 y1 y2 y3 y4 y5 hm hn6 hcb hcl5 hb5 hc5 hxa ha5
        go_wp2_with (first
          | (refine store_scope rfl (.tmp 4) (.tmp 91) rfl (B + 1 + 1) rfl ⟨avA x.V m, some ⟨g5, 0, none⟩, m, c5, x.V.take m⟩ rfl HM.out.2 x0 rfl HR9.out ?_; intro wu heu hqu; have HEU := Lib.hid heu; have HQU := Lib.hid hqu; clear heu hqu)
          | (refine load_scope rfl (.tmp 6) rfl X rfl ⟨avA x.V m, some ⟨g5, 0, none⟩, m, c5, x.V.take m⟩ HM.out.2 HS9.out ?_)
          | (refine store_sst rfl (.tmp 86) (.tmp 85) rfl X rfl (some ⟨g5, 0, none⟩) m c5 (x.V.take m) rfl ⟨avA x.V m, a5, x.n, c5, x.V⟩ HM.out.2 HS8.out ?_; intro w9 he9 hq9; have HS9 := Lib.hid he9; have HQ9 := Lib.hid hq9; have HR9 := Lib.hid (HR8.out.only hq9 (by have := HG.out; omega)); clear he9 hq9)
          | (refine store_senv rfl (.tmp 80) (.tmp 79) rfl X rfl (avA x.V m) rfl HM.out.2 ⟨x.e, a5, x.n, c5, x.V⟩ HZ.out HSX.out ?_; intro w8 he8 hq8; have HS8 := Lib.hid he8; have HQ8 := Lib.hid hq8; have HR8 := Lib.hid (HRk.out.only hq8 (by have := HG.out; omega)); have x11 : w8.cell? ⟨X, 11, none⟩ = some (.slice (some ⟨g5, 0, none⟩) (m + 1) c5) := (by have := he8.c11 HM.out.2; rw [← HXE.out.1, ← HXE.out.2]; exact this); clear he8 hq8)
          | (refine load_aenv rfl (.tmp 78) rfl b (off + m * 11) rfl (avA x.V m).a (avA x.V m).n (avA x.V m).c (avA x.V m).z HM.out.2 HAT.out ?_))
        refine bodyPost_ret (ret_scopep rfl _ _ (B + 1 + 1) ⟨avA x.V m, some ⟨g5, 0, none⟩, m, c5, x.V.take m⟩ HM.out.2 rfl HEU.out) rfl ⟨_, rfl, ?_, ?_, ?_⟩
        · exact XV.own.kp (w := wk) ⟨HM.out, HCU.out.weak (Nat.zero_le _), fun y hy => HXk.out.st y (List.mem_of_mem_take hy)⟩ (((Kp.scope HSX.out HQ8.out).trans (Kp.scope HS8.out HQ9.out)).trans (Kp.scope HR9.out HQU.out))
        · show SC.mk (avA x.V m).k ((x.V.take m).map AV.k) = _
          rw [HV.out.1, HV.out.2]
          try simp [List.getD]
        · rw [← HBB.out]; exact ((((HB3.out.trans (HBX.out.mono (by have := HS3.out; omega))).trans (HQ8.out.below (by have := HG.out; omega))).trans (HQ9.out.below (by have := HG.out; omega)))).trans (HQU.out.below (by omega))
    · obtain ⟨q1, q2, q3⟩ := dcl_stp (s := x.k) (d := d) h4 h5
      have hv1 : V = (dclV x.e.L x.e.z d).1 := HVE.out.trans q1
      have HQV : Hid (V = 0 → Y = ⟨(dclV x.e.L x.e.z d).2, x.k.st⟩) := Lib.hid fun h => HYE.out.trans (q2 (by rw [← HVE.out]; exact h))
      have HQN : Hid (V ≠ 0 → Y = sc0) := Lib.hid fun h => HYE.out.trans (q3 (by rw [← HVE.out]; exact h))
      clear q1 q2 q3
      have HZV : Hid ((dclV x.e.L x.e.z d).2.2.length = 10) := Lib.hid (dclV_len HZ.out d)
      have HDE : Hid ((d.1 = 1 → ∀ w', OpS w' x.e.a x.e.n x.e.c x.e.L → Calls Tryz.prog 21 #[.agg (ev x.e.a x.e.n x.e.c x.e.z), .agg #[.string (mk d.2.1.1), .int .i64 d.2.1.2.1, .int .i64 d.2.1.2.2]] w' fun e w'' => ∃ a' n' c', e = .returned (.tuple #[.agg (ev a' n' c' (dclV x.e.L x.e.z d).2.2), .int .i64 (dclV x.e.L x.e.z d).1]) ∧ OwnO w'.heap.size w'' a' n' c' (dclV x.e.L x.e.z d).2.1 ∧ Below w'.heap.size w' w'')
        ∧ (d.1 = 2 → ∀ w', OpS w' x.e.a x.e.n x.e.c x.e.L → Calls Tryz.prog 22 #[.agg (ev x.e.a x.e.n x.e.c x.e.z), .string (mk d.2.1.1)] w' fun e w'' => ∃ a' n' c', e = .returned (.tuple #[.agg (ev a' n' c' (dclV x.e.L x.e.z d).2.2), .int .i64 (dclV x.e.L x.e.z d).1]) ∧ OwnO w'.heap.size w'' a' n' c' (dclV x.e.L x.e.z d).2.1 ∧ Below w'.heap.size w' w'')
        ∧ (d.1 = 3 → ∀ w', OpS w' x.e.a x.e.n x.e.c x.e.L → Calls Tryz.prog 23 #[.agg (ev x.e.a x.e.n x.e.c x.e.z), .int .i64 d.2.2.1, .int .i64 d.2.2.2] w' fun e w'' => ∃ a' n' c', e = .returned (.tuple #[.agg (ev a' n' c' (dclV x.e.L x.e.z d).2.2), .int .i64 (dclV x.e.L x.e.z d).1]) ∧ OwnO w'.heap.size w'' a' n' c' (dclV x.e.L x.e.z d).2.1 ∧ Below w'.heap.size w' w'')) := Lib.hid (by
        have hn16 := HSM.out.1
        unfold dclV
        refine ⟨fun h1 w' hs => ?_, fun h2 w' hs => ?_, fun h3 w' hs => ?_⟩
        · rw [if_pos h1]; exact radd_any _ _ _ _ _ d.2.1 w' hs HZ.out (by omega) HP.out
        · rw [if_neg (by omega), if_pos h2]; exact rdrop_any _ _ _ _ _ d.2.1.1 w' hs HZ.out (by omega)
        · rw [if_neg (by omega), if_neg (by omega), if_pos h3]; exact renvEdge_any _ _ _ _ _ d.2.2.1 d.2.2.2 w' hs HZ.out (by omega))
      have HNO : Hid (d.1 ≠ 1 → d.1 ≠ 2 → d.1 ≠ 3 → (dclV x.e.L x.e.z d).1 = 20) := Lib.hid (fun h1 h2 h3 => by unfold dclV; rw [if_neg h1, if_neg h2, if_neg h3])
      obtain ⟨Z, hZ⟩ : ∃ Z, Z = (dclV x.e.L x.e.z d).2.2 := ⟨_, rfl⟩
      obtain ⟨R, hR⟩ : ∃ R, R = (dclV x.e.L x.e.z d).2.1 := ⟨_, rfl⟩
      have HQE : Hid ((dclV x.e.L x.e.z d).2 = (R, Z)) := Lib.hid (by rw [hR, hZ])
      rw [HQE.out] at HQV
      rw [← hv1] at HNO HDE
      rw [← hZ] at HZV HDE
      rw [← hR] at HDE
      clear hv1 hZ hR HQE
      obtain ⟨k, ⟨p, g, s⟩, u, v⟩ := d
      dsimp only at h4 h5 y0 y1 y2 y3 y4 y5 HDE HNO
      by_cases h1 : k = 1
      · subst h1
        go_wp2_with (refine load_senv rfl (.tmp 24) rfl B rfl x HZ.out HEk.out ?_)
        refine (HDE.out.1 (by first | rfl | trivial) wk HXk.out.e.1.vs).mono ?_
        rintro e w4 ⟨a4, n4, c4, rfl, ho4, hb4⟩
        have HO4 := Lib.hid ho4
        have HB4 : Hid (Below wk.heap.size wk w4) := Lib.hid hb4
        have HR4 := Lib.hid (HRk.out.below hb4)
        have HS4 := Lib.hid (HSX.out.below hb4)
        clear ho4 hb4 y0 y1 y2 y3 y4 y5 e11 x11
        have HU : Hid (Below B w w4) := Lib.hid (HB3.out.trans ((HBX.out.trans (HB4.out.mono HBX.out.size)).mono (by have := HS3.out; omega)))
        by_cases hv : V = 0
        · subst hv
          go_wp2_with (first
            | (refine store_scope rfl (.tmp 4) (.tmp 91) rfl (B + 1 + 1) rfl ⟨⟨a4, n4, c4, R, Z⟩, a5, x.n, c5, x.V⟩ rfl HZV.out x0 rfl HR9.out ?_; intro wu heu hqu; have HEU := Lib.hid heu; have HQU := Lib.hid hqu; clear heu hqu)
            | (refine load_scope rfl (.tmp 6) rfl X rfl ⟨⟨a4, n4, c4, R, Z⟩, a5, x.n, c5, x.V⟩ HZV.out HS9.out ?_)
            | (refine store_senv rfl (.tmp 31) (.tmp 29) rfl X rfl ⟨a4, n4, c4, R, Z⟩ rfl HZV.out ⟨x.e, a5, x.n, c5, x.V⟩ HZ.out HS4.out ?_; intro w9 he9 hq9; have HS9 := Lib.hid he9; have HQ9 := Lib.hid hq9; have HR9 := Lib.hid (HR4.out.only hq9 (by have := HG.out; omega)); clear he9 hq9))
          refine bodyPost_ret (ret_scopep rfl _ _ (B + 1 + 1) ⟨⟨a4, n4, c4, R, Z⟩, a5, x.n, c5, x.V⟩ HZV.out rfl HEU.out) rfl ⟨_, rfl, ?_, ?_, ?_⟩
          · exact XV.own.kp (w := w4) ⟨⟨HO4.out.weak (Nat.zero_le _), HZV.out⟩, (HRX.out.weak (Nat.zero_le _)).keep HB4.out (Nat.le_refl _), fun y hy => (HXk.out.st y hy).below HB4.out⟩ ((Kp.scope HS4.out HQ9.out).trans (Kp.scope HR9.out HQU.out))
          · rw [HQV.out (by first | rfl | trivial)]; rfl
          · rw [← HBB.out]; exact (HU.out.trans (HQ9.out.below (by have := HG.out; omega))).trans (HQU.out.below (by omega))
        · go_wp2_with (first
            | (refine store_scope rfl (.tmp 4) (.tmp 89) rfl (B + 1 + 1) rfl x0 rfl rfl x0 rfl HR9.out ?_; intro wu heu hqu; have HEU := Lib.hid heu; have HQU := Lib.hid hqu; clear heu hqu)
            | (refine build_scope0 rfl rfl ?_)
            | (refine store_senv rfl (.tmp 31) (.tmp 29) rfl X rfl ⟨a4, n4, c4, R, Z⟩ rfl HZV.out ⟨x.e, a5, x.n, c5, x.V⟩ HZ.out HS4.out ?_; intro w9 he9 hq9; have HQ9 := Lib.hid hq9; have HR9 := Lib.hid (HR4.out.only hq9 (by have := HG.out; omega)); clear he9 hq9))
          refine bodyPost_ret (ret_scopep rfl _ _ (B + 1 + 1) x0 rfl rfl HEU.out) rfl ⟨x0, rfl, x0_own _, ?_, ?_⟩
          · rw [HQN.out hv]; rfl
          · rw [← HBB.out]; exact (HU.out.trans (HQ9.out.below (by have := HG.out; omega))).trans (HQU.out.below (by omega))
      · by_cases h2 : k = 2
        · subst h2
          go_wp2_with (refine load_senv rfl (.tmp 35) rfl B rfl x HZ.out HEk.out ?_)
          refine (HDE.out.2.1 (by first | rfl | trivial) wk HXk.out.e.1.vs).mono ?_
          rintro e w4 ⟨a4, n4, c4, rfl, ho4, hb4⟩
          have HO4 := Lib.hid ho4
          have HB4 : Hid (Below wk.heap.size wk w4) := Lib.hid hb4
          have HR4 := Lib.hid (HRk.out.below hb4)
          have HS4 := Lib.hid (HSX.out.below hb4)
          clear ho4 hb4 y0 y1 y2 y3 y4 y5 e11 x11
          have HU : Hid (Below B w w4) := Lib.hid (HB3.out.trans ((HBX.out.trans (HB4.out.mono HBX.out.size)).mono (by have := HS3.out; omega)))
          by_cases hv : V = 0
          · subst hv
            go_wp2_with (first
              | (refine store_scope rfl (.tmp 4) (.tmp 91) rfl (B + 1 + 1) rfl ⟨⟨a4, n4, c4, R, Z⟩, a5, x.n, c5, x.V⟩ rfl HZV.out x0 rfl HR9.out ?_; intro wu heu hqu; have HEU := Lib.hid heu; have HQU := Lib.hid hqu; clear heu hqu)
              | (refine load_scope rfl (.tmp 6) rfl X rfl ⟨⟨a4, n4, c4, R, Z⟩, a5, x.n, c5, x.V⟩ HZV.out HS9.out ?_)
              | (refine store_senv rfl (.tmp 43) (.tmp 41) rfl X rfl ⟨a4, n4, c4, R, Z⟩ rfl HZV.out ⟨x.e, a5, x.n, c5, x.V⟩ HZ.out HS4.out ?_; intro w9 he9 hq9; have HS9 := Lib.hid he9; have HQ9 := Lib.hid hq9; have HR9 := Lib.hid (HR4.out.only hq9 (by have := HG.out; omega)); clear he9 hq9))
            refine bodyPost_ret (ret_scopep rfl _ _ (B + 1 + 1) ⟨⟨a4, n4, c4, R, Z⟩, a5, x.n, c5, x.V⟩ HZV.out rfl HEU.out) rfl ⟨_, rfl, ?_, ?_, ?_⟩
            · exact XV.own.kp (w := w4) ⟨⟨HO4.out.weak (Nat.zero_le _), HZV.out⟩, (HRX.out.weak (Nat.zero_le _)).keep HB4.out (Nat.le_refl _), fun y hy => (HXk.out.st y hy).below HB4.out⟩ ((Kp.scope HS4.out HQ9.out).trans (Kp.scope HR9.out HQU.out))
            · rw [HQV.out (by first | rfl | trivial)]; rfl
            · rw [← HBB.out]; exact (HU.out.trans (HQ9.out.below (by have := HG.out; omega))).trans (HQU.out.below (by omega))
          · go_wp2_with (first
              | (refine store_scope rfl (.tmp 4) (.tmp 89) rfl (B + 1 + 1) rfl x0 rfl rfl x0 rfl HR9.out ?_; intro wu heu hqu; have HEU := Lib.hid heu; have HQU := Lib.hid hqu; clear heu hqu)
              | (refine build_scope0 rfl rfl ?_)
              | (refine store_senv rfl (.tmp 43) (.tmp 41) rfl X rfl ⟨a4, n4, c4, R, Z⟩ rfl HZV.out ⟨x.e, a5, x.n, c5, x.V⟩ HZ.out HS4.out ?_; intro w9 he9 hq9; have HQ9 := Lib.hid hq9; have HR9 := Lib.hid (HR4.out.only hq9 (by have := HG.out; omega)); clear he9 hq9))
            refine bodyPost_ret (ret_scopep rfl _ _ (B + 1 + 1) x0 rfl rfl HEU.out) rfl ⟨x0, rfl, x0_own _, ?_, ?_⟩
            · rw [HQN.out hv]; rfl
            · rw [← HBB.out]; exact (HU.out.trans (HQ9.out.below (by have := HG.out; omega))).trans (HQU.out.below (by omega))
        · by_cases h3 : k = 3
          · subst h3
            go_wp2_with (refine load_senv rfl (.tmp 47) rfl B rfl x HZ.out HEk.out ?_)
            refine (HDE.out.2.2 (by first | rfl | trivial) wk HXk.out.e.1.vs).mono ?_
            rintro e w4 ⟨a4, n4, c4, rfl, ho4, hb4⟩
            have HO4 := Lib.hid ho4
            have HB4 : Hid (Below wk.heap.size wk w4) := Lib.hid hb4
            have HR4 := Lib.hid (HRk.out.below hb4)
            have HS4 := Lib.hid (HSX.out.below hb4)
            clear ho4 hb4 y0 y1 y2 y3 y4 y5 e11 x11
            have HU : Hid (Below B w w4) := Lib.hid (HB3.out.trans ((HBX.out.trans (HB4.out.mono HBX.out.size)).mono (by have := HS3.out; omega)))
            by_cases hv : V = 0
            · subst hv
              go_wp2_with (first
                | (refine store_scope rfl (.tmp 4) (.tmp 91) rfl (B + 1 + 1) rfl ⟨⟨a4, n4, c4, R, Z⟩, a5, x.n, c5, x.V⟩ rfl HZV.out x0 rfl HR9.out ?_; intro wu heu hqu; have HEU := Lib.hid heu; have HQU := Lib.hid hqu; clear heu hqu)
                | (refine load_scope rfl (.tmp 6) rfl X rfl ⟨⟨a4, n4, c4, R, Z⟩, a5, x.n, c5, x.V⟩ HZV.out HS9.out ?_)
                | (refine store_senv rfl (.tmp 56) (.tmp 54) rfl X rfl ⟨a4, n4, c4, R, Z⟩ rfl HZV.out ⟨x.e, a5, x.n, c5, x.V⟩ HZ.out HS4.out ?_; intro w9 he9 hq9; have HS9 := Lib.hid he9; have HQ9 := Lib.hid hq9; have HR9 := Lib.hid (HR4.out.only hq9 (by have := HG.out; omega)); clear he9 hq9))
              refine bodyPost_ret (ret_scopep rfl _ _ (B + 1 + 1) ⟨⟨a4, n4, c4, R, Z⟩, a5, x.n, c5, x.V⟩ HZV.out rfl HEU.out) rfl ⟨_, rfl, ?_, ?_, ?_⟩
              · exact XV.own.kp (w := w4) ⟨⟨HO4.out.weak (Nat.zero_le _), HZV.out⟩, (HRX.out.weak (Nat.zero_le _)).keep HB4.out (Nat.le_refl _), fun y hy => (HXk.out.st y hy).below HB4.out⟩ ((Kp.scope HS4.out HQ9.out).trans (Kp.scope HR9.out HQU.out))
              · rw [HQV.out (by first | rfl | trivial)]; rfl
              · rw [← HBB.out]; exact (HU.out.trans (HQ9.out.below (by have := HG.out; omega))).trans (HQU.out.below (by omega))
            · go_wp2_with (first
                | (refine store_scope rfl (.tmp 4) (.tmp 89) rfl (B + 1 + 1) rfl x0 rfl rfl x0 rfl HR9.out ?_; intro wu heu hqu; have HEU := Lib.hid heu; have HQU := Lib.hid hqu; clear heu hqu)
                | (refine build_scope0 rfl rfl ?_)
                | (refine store_senv rfl (.tmp 56) (.tmp 54) rfl X rfl ⟨a4, n4, c4, R, Z⟩ rfl HZV.out ⟨x.e, a5, x.n, c5, x.V⟩ HZ.out HS4.out ?_; intro w9 he9 hq9; have HQ9 := Lib.hid hq9; have HR9 := Lib.hid (HR4.out.only hq9 (by have := HG.out; omega)); clear he9 hq9))
              refine bodyPost_ret (ret_scopep rfl _ _ (B + 1 + 1) x0 rfl rfl HEU.out) rfl ⟨x0, rfl, x0_own _, ?_, ?_⟩
              · rw [HQN.out hv]; rfl
              · rw [← HBB.out]; exact (HU.out.trans (HQ9.out.below (by have := HG.out; omega))).trans (HQU.out.below (by omega))
          · have hv20 := HNO.out h1 h2 h3
            subst hv20
            clear HDE HNO HZV
            go_wp2_with (first
              | (refine store_scope rfl (.tmp 4) (.tmp 89) rfl (B + 1 + 1) rfl x0 rfl rfl x0 rfl HRk.out ?_; intro wu heu hqu; have HEU := Lib.hid heu; have HQU := Lib.hid hqu; clear heu hqu)
              | (refine build_scope0 rfl rfl ?_))
            refine bodyPost_ret (ret_scopep rfl _ _ (B + 1 + 1) x0 rfl rfl HEU.out) rfl ⟨x0, rfl, x0_own _, ?_, ?_⟩
            · rw [HQN.out (by decide)]; rfl
            · rw [← HBB.out]; exact (HB3.out.trans (HBX.out.mono (by have := HS3.out; omega))).trans (HQU.out.below (by omega))

end Go.Proofs.YtcpmpidpoelleaaGreatDoor
