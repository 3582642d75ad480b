/- scope.begin, scope.end (laid by genZg.py). -/
import Derived.Test.YtcpmpidpoelleaaGreatDoorZf
import Derived.Deep.DeepCutAuto
namespace Go.Proofs.YtcpmpidpoelleaaGreatDoor
open Go.RowKit

theorem XV.small {w : World} {x : XV} (h : x.ok w) (hk : okS x.k) : x.e.n ≤ 16 ∧ x.n ≤ 6 ∧ (∀ y ∈ x.V, y.n ≤ 16) ∧ x.V.length = x.n ∧ x.e.z.length = 10 := by
  have hl := h.2.len
  refine ⟨?_, ?_, fun y hy => ?_, hl, h.1.2⟩
  · have := OpS.len h.1.1
    have h2 : x.e.L.length ≤ 16 := hk.1.2.1
    omega
  · have h2 : (x.V.map AV.k).length ≤ 6 := hk.2.2
    rw [List.length_map] at h2
    omega
  · have h2 : okV y.k := hk.2.1 _ (List.mem_map.2 ⟨y, hy, rfl⟩)
    have h3 : y.L.length ≤ 16 := h2.2.1
    have := OpS.len (h.2.ok y hy).1
    omega
/-- In a region that draws: an env of which S gives the cells may be read first. -/
theorem take_aenv {md : Region.Mode} {ops : Array Oper} {Q : Exit → Act → World → Prop} {S : World → Prop} {fuel : Nat} {listed : Array Bool} {A : Act} {w : World} {i : Nat} {oi : Oper} (x : Operand) (hi : ops[i]? = some oi)
    (hs : Region.noSelect ops = true) (hf : Region.free md ops listed i = true) (hr : (Region.ready md ops listed).contains i = true) (a : Option Addr) (n c : Nat) (z : List Int)
    (hQ : ∀ c' a' w, Q (.panic c') (a'.put oi.dst (.agg (ev a n c z))) w → Q (.panic c') a' w) (hw : Region.wanted oi (yielded ops A.tmps) = true) (ho : oi.op = .load 28 x) (b off : Nat) (hx : A.eval x = .pointer (some ⟨b, off, none⟩))
    (hz : z.length = 10) (hS : ∀ w, S w → ∀ j, j < 11 → w.cell? ⟨b, off + j, none⟩ = (ev a n c z)[j]?) (h0 : S w)
    (k : wpAnyH Tryz.prog md ops Q S fuel (listed.setIfInBounds i true) (A.put oi.dst (.agg (ev a n c z))) w) : wpAnyH Tryz.prog md ops Q S (fuel + 1) listed A w :=
  wpAnyH_take hi hs hf hr hQ (yieldsIf_load_mid hw 28 x ho b off hx (ev a n c z).toList _ (fun w h => ev_range (hS w h) hz) Tryz.underlying28 rfl (by rw [ev_list hz]; exact env_info)) h0 k
theorem take_scope {md : Region.Mode} {ops : Array Oper} {Q : Exit → Act → World → Prop} {S : World → Prop} {fuel : Nat} {listed : Array Bool} {A : Act} {w : World} {i : Nat} {oi : Oper} (p : Operand) (hi : ops[i]? = some oi)
    (hs : Region.noSelect ops = true) (hf : Region.free md ops listed i = true) (hr : (Region.ready md ops listed).contains i = true) (x : XV)
    (hQ : ∀ c' a' w, Q (.panic c') (a'.put oi.dst (.agg (sv x))) w → Q (.panic c') a' w) (hw : Region.wanted oi (yielded ops A.tmps) = true) (ho : oi.op = .load 31 p) (b off : Nat) (hx : A.eval p = .pointer (some ⟨b, off, none⟩))
    (hz : x.e.z.length = 10) (hS : ∀ w, S w → ∀ j, j < 12 → w.cell? ⟨b, off + j, none⟩ = x.cs[j]?) (h0 : S w)
    (k : wpAnyH Tryz.prog md ops Q S fuel (listed.setIfInBounds i true) (A.put oi.dst (.agg (sv x))) w) : wpAnyH Tryz.prog md ops Q S (fuel + 1) listed A w :=
  wpAnyH_take hi hs hf hr hQ (yieldsIf_load_mid hw 31 p ho b off hx x.cs _ (fun w h => sv_range (hS w h) hz) Tryz.underlying31 rfl (by rw [XV.len hz]; exact scope_info)) h0 k
/-- A row of one env. -/
theorem step_oneE {ops : Array Oper} {o : Oper} {A : Act} {w : World} {K : Act → World → Prop} {Q : Exit → Act → World → Prop} {E : Prop} (hgd : o.guard = none) (p : Operand) (ho : o.op = .buildSlice 29 1 #[(0, p)]) (y : AV) (hz : y.z.length = 10) (hx : A.eval p = .agg (ev y.a y.n y.c y.z))
    (k : ∀ w' g, g = w.heap.size → w'.heap[g]? = some (.cells (rowA [y]).toArray 28 (0, 0)) → Below w.heap.size w w' → K (A.put o.dst (.slice (some ⟨g, 0, none⟩) 1 1)) w') : if Region.wanted o (yielded ops A.tmps) = true then o.wp Tryz.prog A w K Q else E := by
  rw [if_pos (show Region.wanted o (yielded ops A.tmps) = true by simp [Region.wanted, hgd])]
  have h := k (w.alloc (.cells (ev y.a y.n y.c y.z) 28)) w.heap.size rfl (by rw [heap_alloc_new]; simp [rowA]) (below_alloc w _)
  have hr : (Instr.buildSlice 29 1 #[(0, .agg (ev y.a y.n y.c y.z))]).run Tryz.prog w = .ok (.slice (some ⟨w.heap.size, 0, none⟩) 1 1) (w.alloc (.cells (ev y.a y.n y.c y.z) 28)) := by
    obtain ⟨a, n, c, L, z⟩ := y
    obtain ⟨z0, z1, z2, z3, z4, z5, z6, z7, z8, z9, rfl⟩ := ten hz
    kernel_rfl
  unfold Oper.wp execOp
  simp only [ho, List.map_toArray, List.map_cons, List.map_nil, hx, hr, Sem.run_bind, Result.andThen_ok, Sem.run_pure]
  exact h
theorem vs_oneE {w : World} {g : Nat} {y : AV} (hz : y.z.length = 10) (h : w.heap[g]? = some (.cells (rowA [y]).toArray 28 (0, 0))) : Vs 11 w (some ⟨g, 0, none⟩) 1 1 (rowA [y]) :=
  ⟨by rw [rowA_len [y] (fun x hx => by rw [List.mem_singleton.1 hx]; exact hz)]; rfl, Nat.le_refl _, by decide, fun _ => ⟨g, 0, rfl, (Array.getElem?_eq_some_iff.1 h).1, fun j hj => by rw [cell_of_row w g (0 + j) _ _ _ h]; simp⟩⟩
theorem step_big {s : SC} {d : DV} (hd : d.1 = 4) (h : 6 ≤ s.st.length) : stpE s d = 26 ∧ stpV s d = sc0 := by
  have : stpE s d = 26 := by
    unfold stpE
    rw [if_neg (by omega), if_neg (by omega), if_neg (by omega), if_pos hd, if_pos h]
  exact ⟨this, by unfold stpV; rw [this]; rfl⟩
theorem step_begin {s : SC} {d : DV} (hd : d.1 = 4) (h : ¬ 6 ≤ s.st.length) : stpE s d = 0 ∧ stpV s d = ⟨s.e, s.st ++ [s.e]⟩ := by
  have : stpE s d = 0 := by
    unfold stpE
    rw [if_neg (by omega), if_neg (by omega), if_neg (by omega), if_pos hd, if_neg h]
  exact ⟨this, by unfold stpV stpG; rw [this, if_pos rfl, if_neg (by omega), if_neg (by omega), if_neg (by omega), if_pos hd]⟩
theorem step_none {s : SC} {d : DV} (hd : d.1 = 5) (h : s.st.length = 0) : stpE s d = 26 ∧ stpV s d = sc0 := by
  have : stpE s d = 26 := by
    unfold stpE
    rw [if_neg (by omega), if_neg (by omega), if_neg (by omega), if_neg (by omega), if_pos hd, if_pos h]
  exact ⟨this, by unfold stpV; rw [this]; rfl⟩
theorem step_end {s : SC} {d : DV} (hd : d.1 = 5) (h : ¬ s.st.length = 0) : stpE s d = 0 ∧ stpV s d = ⟨s.st.getD (s.st.length - 1) ([], z0), s.st.take (s.st.length - 1)⟩ := by
  have : stpE s d = 0 := by
    unfold stpE
    rw [if_neg (by omega), if_neg (by omega), if_neg (by omega), if_neg (by omega), if_pos hd, if_neg h]
  exact ⟨this, by unfold stpV stpG; rw [this, if_pos rfl, if_neg (by omega), if_neg (by omega), if_neg (by omega), if_neg (by omega)]⟩
theorem x0_k : x0.k = sc0 := rfl
theorem Only.cell {g : Nat} {w w' : World} (h : Only g w w') {p : Addr} (hp : p.block ≠ g) : w'.cell? p = w.cell? p := World.cell?_of_block (w := w) (h.block p.block hp)
/-- A row stands where a row of another type grows. -/
theorem OwnV.grown_t {base base' : Nat} {e e' : TypeId} {k k' : Nat} {w w' : World} {a a' : Option Addr} {n c n' c' : Nat} {xs ys : List Value} (h : OwnV base e k w a n c xs) (hr : OwnV base' e' k' w a' n' c' ys) (ht : e' ≠ e) (hg : w.grownBy w' (Value.ownBlock (.slice a' n' c'))) : OwnV base e k w' a n c xs := by
  refine ⟨h.1, h.2.imp id ?_⟩
  rintro ⟨q, cp, cur, hv, hq, hb, r⟩
  refine ⟨q, cp, cur, hv, hq, (hg.block q (Array.getElem?_eq_some_iff.1 hb).1 ?_).trans hb, r⟩
  intro hbb
  rcases hr.2 with ⟨hv', _⟩ | ⟨q', cp', cur', hv', _, hq', r'⟩
  · simp only [Value.slice.injEq] at hv'
    obtain ⟨rfl, _⟩ := hv'
    simp [Value.ownBlock] at hbb
  · simp only [Value.slice.injEq, true_and] at hv'
    obtain ⟨rfl, _⟩ := hv'
    simp [Value.ownBlock] at hbb
    subst hbb
    rw [hq'] at hb
    simp only [Option.some.injEq, Obj.cells.injEq] at hb
    exact ht hb.2.1

set_option maxRecDepth 20000 in
set_option maxHeartbeats 8000000 in
theorem begin_any (x : XV) (d : DV) (w : World) (h : x.ok w) (hk : okS x.k) (hd : d.1 = 4) :
    Calls Tryz.prog 17 #[.agg (sv x)] w fun e w' => ∃ y : XV, e = .returned (.tuple #[.agg (sv y), .int .i64 (stpE x.k d)]) ∧ y.own w' ∧ y.k = stpV x.k d ∧ Below w.heap.size w w' := by
  obtain ⟨B, hB⟩ : ∃ B, B = w.heap.size := ⟨_, rfl⟩
  obtain ⟨w1, hw1⟩ : ∃ w1, w1 = w.alloc (.cells (sv x) 31) := ⟨_, rfl⟩
  obtain ⟨w2, hw2⟩ : ∃ w2, w2 = w1.alloc (.cells #[.slice none 0 0, .int .i64 0, .int .i64 0, .int .i64 0, .int .i64 0, .int .i64 0, .int .i64 0, .int .i64 0, .int .i64 0, .int .i64 0, .int .i64 0, .slice none 0 0] 31) := ⟨_, rfl⟩
  have s1 : w1.heap.size = B + 1 := by rw [hw1, hB]; simp
  have HS2 : Hid (SB w2 B x) := Lib.hid (by rw [hw2, hw1, hB]; exact (SB.new w x).alloc _)
  have HR2 : Hid (SB w2 (B + 1) x0) := Lib.hid (by rw [hw2, ← s1, ← sv_zero]; exact SB.new w1 x0)
  have HB2 : Hid (Below B w w2) := Lib.hid (by rw [hw2, hw1, hB]; exact ((Below.refl _ _).alloc (Nat.le_refl _) _).alloc (by simp) _)
  have HG2 : Hid (B + 1 < w2.heap.size) := Lib.hid HR2.out.lt
  have HX2 : Hid (x.ok w2) := Lib.hid (XV.below h (hB ▸ HB2.out))
  have HSM := Lib.hid (XV.small h hk)
  have hn6 := HSM.out.2.1
  have HZ : Hid (x.e.z.length = 10) := Lib.hid HSM.out.2.2.2.2
  have HBB := Lib.hid hB
  have hsl : x.k.st.length = x.n := by show (x.V.map AV.k).length = x.n; rw [List.length_map]; exact HSM.out.2.2.2.1
  have e11 : w2.cell? ⟨B, 11, none⟩ = some (.slice x.a x.n x.c) := HS2.out.c11 HZ.out
  rw [hw2, hw1, hB] at e11
  by_cases h6 : 6 ≤ x.n
  · have h6' : (6 : Int) ≤ (x.n : Int) := by omega
    obtain ⟨hE, hV⟩ := step_big (s := x.k) hd (by omega)
    rw [hE, hV]
    clear hd hE hV hsl h hk s1 h6
    go_enter Tryz.func17, Tryz.ntmps17
    go_wp2_with (first
      | (refine store_scope rfl (.tmp 2) (.tmp 8) rfl (B + 1) rfl x0 rfl rfl x0 rfl HR2.out ?_; intro w3 he3 ho3; have HE3 := Lib.hid he3; have HO3 := Lib.hid ho3; clear he3 ho3)
      | (rw [← hw1, ← hw2, ← hB]; clear hw1 hw2 hB e11; refine build_scope0 rfl rfl ?_))
    refine bodyPost_ret (ret_scopep rfl _ _ (B + 1) x0 rfl rfl HE3.out) rfl ⟨x0, rfl, x0_own _, x0_k, ?_⟩
    rw [← HBB.out]; exact HB2.out.trans (HO3.out.below (by omega))
  · have h6' : ¬ (6 : Int) ≤ (x.n : Int) := by omega
    obtain ⟨hE, hV⟩ := step_begin (s := x.k) hd (by omega)
    rw [hE, hV]
    clear hd hE hV hsl h hk s1 h6
    go_enter Tryz.func17, Tryz.ntmps17
    go_wp2_with fail
    rw [← hw1, ← hw2, ← hB]
    clear hw1 hw2 e11 hB w1
    have HKS : Hid (∀ w', Below w2.heap.size w2 w' → SB w' B x ∧ w'.cell? ⟨B, 11, none⟩ = some (.slice x.a x.n x.c)) := Lib.hid fun w' hb => ⟨HS2.out.below hb, (HS2.out.below hb).c11 HZ.out⟩
    have HKO : Hid (∀ u v, (SB u B x ∧ u.cell? ⟨B, 11, none⟩ = some (.slice x.a x.n x.c)) → Only (B + 1) u v → SB v B x ∧ v.cell? ⟨B, 11, none⟩ = some (.slice x.a x.n x.c)) := Lib.hid fun u v h ho => ⟨h.1.only ho (by omega), (h.1.only ho (by omega)).c11 HZ.out⟩
    refine wp_region_noPanic ?_
    refine wp_region_held_drew (S := fun w' => SB w' B x ∧ w'.cell? ⟨B, 11, none⟩ = some (.slice x.a x.n x.c)) (by kernel_rfl) (HKS.out _ (Below.refl _ _).drew) (fun hHeld => ?_)
    refine wpAnyH_take (i := 0) (oi := { dst := some 9, op := Op.fieldAddr 31 (Operand.tmp 1) 0, type := 0, pos := "scope.go:47", after := #[], guard := none }) (v := ?_) rfl (by kernel_rfl) (by kernel_rfl) (by kernel_rfl) (fun _ _ _ h => h) (Or.inl ⟨by rfl, ?_⟩) (by assumption) ?_
    rotate_left
    · intro w' hSw
      try dsimp only at hSw
      go_simp
      try with_reducible rfl
    try simp only [Act.put, List.setIfInBounds_toArray, List.set_cons_zero, List.set_cons_succ]
    refine take_aenv (i := 1) (oi := { dst := some 10, op := Op.load 28 (Operand.tmp 9), type := 28, pos := "scope.go:47", after := #[{ on := 0, ground := Ground.data }], guard := none }) (Operand.tmp 9) rfl (by kernel_rfl) (by kernel_rfl) (by kernel_rfl) x.e.a x.e.n x.e.c x.e.z (fun _ _ _ h => h) (by rfl) rfl (B) (0) rfl (HZ.out) (fun w h j hj => by rw [Nat.zero_add]; exact h.1.at HZ.out hj) (by assumption) ?_
    try simp only [Act.put, List.setIfInBounds_toArray, List.set_cons_zero, List.set_cons_succ]
    refine wpAnyH_take (i := 3) (oi := { dst := some 12, op := Op.fieldAddr 31 (Operand.tmp 1) 1, type := 0, pos := "scope.go:47", after := #[], guard := none }) (v := ?_) rfl (by kernel_rfl) (by kernel_rfl) (by kernel_rfl) (fun _ _ _ h => h) (Or.inl ⟨by rfl, ?_⟩) (by assumption) ?_
    rotate_left
    · intro w' hSw
      try dsimp only at hSw
      go_simp
      try with_reducible rfl
    try simp only [Act.put, List.setIfInBounds_toArray, List.set_cons_zero, List.set_cons_succ]
    refine wpAnyH_take (i := 4) (oi := { dst := some 13, op := Op.load 29 (Operand.tmp 12), type := 29, pos := "scope.go:47", after := #[{ on := 3, ground := Ground.data }], guard := none }) (v := ?_) rfl (by kernel_rfl) (by kernel_rfl) (by kernel_rfl) (fun _ _ _ h => h) (Or.inl ⟨by rfl, ?_⟩) (by assumption) ?_
    rotate_left
    · intro w' hSw
      try dsimp only at hSw
      go_simp
      try with_reducible rfl
    try simp only [Act.put, List.setIfInBounds_toArray, List.set_cons_zero, List.set_cons_succ]
    refine wpAnyH_take (i := 6) (oi := { dst := some 15, op := Op.fieldAddr 31 (Operand.tmp 1) 0, type := 0, pos := "scope.go:47", after := #[], guard := none }) (v := ?_) rfl (by kernel_rfl) (by kernel_rfl) (by kernel_rfl) (fun _ _ _ h => h) (Or.inl ⟨by rfl, ?_⟩) (by assumption) ?_
    rotate_left
    · intro w' hSw
      try dsimp only at hSw
      go_simp
      try with_reducible rfl
    try simp only [Act.put, List.setIfInBounds_toArray, List.set_cons_zero, List.set_cons_succ]
    refine take_aenv (i := 7) (oi := { dst := some 16, op := Op.load 28 (Operand.tmp 15), type := 28, pos := "scope.go:47", after := #[{ on := 6, ground := Ground.data }], guard := none }) (Operand.tmp 15) rfl (by kernel_rfl) (by kernel_rfl) (by kernel_rfl) x.e.a x.e.n x.e.c x.e.z (fun _ _ _ h => h) (by rfl) rfl (B) (0) rfl (HZ.out) (fun w h j hj => by rw [Nat.zero_add]; exact h.1.at HZ.out hj) (by assumption) ?_
    try simp only [Act.put, List.setIfInBounds_toArray, List.set_cons_zero, List.set_cons_succ]
    refine wpAnyH_ready (rs := [2]) (by kernel_rfl) (by simp) ?_
    refine AllReadyH.cons (o := { dst := some 11, op := Op.call { callee := Callee.value (Operand.func 27), args := #[Operand.tmp 10], argTypes := #[28] }, type := 28, pos := "scope.go:47", after := #[{ on := 1, ground := Ground.data }], guard := none }) rfl (fun K hK => ?_) ?_
    · go_simp
      (go_at_call 27; (refine (own_any x.e.a x.e.n x.e.c x.e.L x.e.z _ (Vs.below HX2.out.1.1 (Below.refl _ _).drew) HZ.out (by have := HSM.out.1; omega)).mono ?_); rintro e w3 ⟨a3, c3, rfl, ho3, hb3⟩)
      have HB3 : Hid (Below w2.heap.size w2 w3) := Lib.hid ((Below.refl _ _).drew.trans hb3)
      have HY3 : Hid (AV.own w3 (⟨a3, x.e.n, c3, x.e.L, x.e.z⟩ : AV)) := Lib.hid ⟨ho3.weak (Nat.zero_le _), HZ.out⟩
      clear ho3 hb3
      refine hK.out _ _ (HKS.out _ HB3.out) (fun hHeld => ?_)
      clear hK K
      try simp only [Act.put, List.setIfInBounds_toArray, List.set_cons_zero, List.set_cons_succ]
      refine wpAnyH_ready (rs := [5]) (by kernel_rfl) (by simp) ?_
      refine AllReadyH.cons (o := { dst := some 14, op := Op.call { callee := Callee.value (Operand.func 20), args := #[Operand.tmp 13], argTypes := #[29] }, type := 29, pos := "scope.go:47", after := #[{ on := 4, ground := Ground.data }, { on := 2, ground := Ground.chain }], guard := none }) rfl (fun K hK => ?_) ?_
      · go_simp
        (go_at_call 20; (refine (owned_any x.a x.n x.c x.V _ (HX2.out.2.below HB3.out) (by omega) (fun y hy => by have := HSM.out.2.2.1 y hy; omega)).mono ?_); rintro e w4 ⟨a4, c4, V4, rfl, ho4, hs4, hk4, hb4⟩)
        have HB4 : Hid (Below w2.heap.size w2 w4) := Lib.hid (HB3.out.trans (hb4.mono HB3.out.size))
        have HY4 := Lib.hid (HY3.out.below hb4)
        have HR4 : Hid (OwnV w2.heap.size 28 11 w4 a4 x.n c4 (rowA V4)) := Lib.hid (ho4.weak HB3.out.size)
        have HS4 := Lib.hid hs4
        have HK4 := Lib.hid hk4
        clear ho4 hs4 hk4 hb4
        refine hK.out _ _ (HKS.out _ HB4.out) (fun hHeld => ?_)
        clear hK K
        try simp only [Act.put, List.setIfInBounds_toArray, List.set_cons_zero, List.set_cons_succ]
        refine wpAnyH_ready (rs := [8]) (by kernel_rfl) (by simp) ?_
        refine AllReadyH.cons (o := { dst := some 17, op := Op.call { callee := Callee.value (Operand.func 27), args := #[Operand.tmp 16], argTypes := #[28] }, type := 28, pos := "scope.go:47", after := #[{ on := 7, ground := Ground.data }, { on := 5, ground := Ground.chain }], guard := none }) rfl (fun K hK => ?_) ?_
        · go_simp
          (go_at_call 27; (refine (own_any x.e.a x.e.n x.e.c x.e.L x.e.z _ (Vs.below HX2.out.1.1 HB4.out) HZ.out (by have := HSM.out.1; omega)).mono ?_); rintro e w5 ⟨a5, c5, rfl, ho5, hb5⟩)
          have HB5 : Hid (Below w2.heap.size w2 w5) := Lib.hid (HB4.out.trans (hb5.mono HB4.out.size))
          have HY5 := Lib.hid (HY4.out.below hb5)
          have HR5 := Lib.hid (HR4.out.keep hb5 (Nat.le_refl _))
          have HS5 : Hid (∀ y ∈ V4, y.own w5) := Lib.hid fun y hy => (HS4.out y hy).below hb5
          have HW5 : Hid (AV.own w5 (⟨a5, x.e.n, c5, x.e.L, x.e.z⟩ : AV)) := Lib.hid ⟨ho5.weak (Nat.zero_le _), HZ.out⟩
          clear ho5 hb5
          refine hK.out _ _ (HKS.out _ HB5.out) (fun hHeld => ?_)
          clear hK K
          try simp only [Act.put, List.setIfInBounds_toArray, List.set_cons_zero, List.set_cons_succ]
          refine wpAnyH_ready (rs := [9]) (by kernel_rfl) (by simp) ?_
          refine AllReadyH.cons (o := { dst := some 18, op := Op.buildSlice 29 1 #[(0, Operand.tmp 17)], type := 29, pos := "scope.go:47", after := #[{ on := 8, ground := Ground.data }], guard := none }) rfl (fun K hK => ?_) ?_
          · refine step_oneE rfl (.tmp 17) rfl (⟨a5, x.e.n, c5, x.e.L, x.e.z⟩ : AV) HZ.out rfl ?_
            intro w6 g6 _ hg6 hb6
            have HB6 : Hid (Below w2.heap.size w2 w6) := Lib.hid (HB5.out.trans (hb6.mono HB5.out.size))
            have HY6 := Lib.hid (HY5.out.below hb6)
            have HR6 := Lib.hid (HR5.out.keep hb6 (Nat.le_refl _))
            have HS6 : Hid (∀ y ∈ V4, y.own w6) := Lib.hid fun y hy => (HS5.out y hy).below hb6
            have HW6 := Lib.hid (HW5.out.below hb6)
            have HV6 := Lib.hid (vs_oneE (y := (⟨a5, x.e.n, c5, x.e.L, x.e.z⟩ : AV)) HZ.out hg6)
            clear hg6 hb6
            refine hK.out _ _ (HKS.out _ HB6.out) (fun hHeld => ?_)
            clear hK K
            try simp only [Act.put, List.setIfInBounds_toArray, List.set_cons_zero, List.set_cons_succ]
            refine wpAnyH_ready (rs := [10]) (by kernel_rfl) (by simp) ?_
            refine AllReadyH.cons (o := { dst := some 19, op := Op.call { callee := Callee.builtin Builtin.append, args := #[Operand.tmp 14, Operand.tmp 18], argTypes := #[29, 29] }, type := 29, pos := "scope.go:47", after := #[{ on := 5, ground := Ground.data }, { on := 9, ground := Ground.data }, { on := 8, ground := Ground.chain }], guard := none }) rfl (fun K hK => ?_) ?_
            · refine step_appv rfl (.tmp 14) (.tmp 18) 29 rfl 28 w2.heap.size 11 104 _ Tryz.underlying29 envs_info rfl (by decide) a4 x.n c4 (rowA V4) rfl HR6.out (some ⟨g6, 0, none⟩) 1 1 _ rfl HV6.out (rowA_one _) (by unfold maxLen; omega) (by omega) HB6.out.size ?_
              intro a7 c7 w7 ho7 hg7 hb7 _
              have HB7 : Hid (Below w2.heap.size w2 w7) := Lib.hid (HB6.out.trans hb7)
              have HR7 := Lib.hid ho7
              have HT7 : Hid (∀ y : AV, y.own w6 → y.own w7) := Lib.hid fun y hy => ⟨hy.1.grown_t HR6.out (by decide) hg7, hy.2⟩
              clear ho7 hg7 hb7
              refine hK.out _ _ (HKS.out _ HB7.out) (fun hHeld => ?_)
              clear hK K
              try simp only [Act.put, List.setIfInBounds_toArray, List.set_cons_zero, List.set_cons_succ]
              refine wpAnyH_take (i := 11) (oi := { dst := some 20, op := Op.build 31 #[(0, Operand.tmp 11), (1, Operand.tmp 19)], type := 31, pos := "scope.go:47", after := #[{ on := 2, ground := Ground.data }, { on := 10, ground := Ground.data }], guard := none }) (v := .agg (sv (⟨⟨a3, x.e.n, c3, x.e.L, x.e.z⟩, a7, x.n + 1, c7, V4 ++ [⟨a5, x.e.n, c5, x.e.L, x.e.z⟩]⟩ : XV))) rfl (by kernel_rfl) (by kernel_rfl) (by kernel_rfl) (fun _ _ _ h => h) (Or.inl ⟨by rfl, fun w0 _ => run_build_scope (.tmp 11) (.tmp 19) rfl (⟨⟨a3, x.e.n, c3, x.e.L, x.e.z⟩, a7, x.n + 1, c7, V4 ++ [⟨a5, x.e.n, c5, x.e.L, x.e.z⟩]⟩ : XV) (HZ.out) rfl rfl w0⟩) (by assumption) ?_
              try simp only [Act.put, List.setIfInBounds_toArray, List.set_cons_zero, List.set_cons_succ]
              refine wpAnyH_ready (rs := [12]) (by kernel_rfl) (by simp) ?_
              refine AllReadyH.cons (o := { dst := none, op := Op.store 31 (Operand.tmp 2) (Operand.tmp 20), type := 0, pos := "scope.go:47", after := #[{ on := 11, ground := Ground.data }, { on := 10, ground := Ground.chain }, { on := 0, ground := Ground.phase }, { on := 1, ground := Ground.phase }, { on := 2, ground := Ground.phase }, { on := 3, ground := Ground.phase }, { on := 4, ground := Ground.phase }, { on := 5, ground := Ground.phase }, { on := 6, ground := Ground.phase }, { on := 7, ground := Ground.phase }, { on := 8, ground := Ground.phase }, { on := 9, ground := Ground.phase }, { on := 10, ground := Ground.phase }, { on := 11, ground := Ground.phase }], guard := none }) rfl (fun K hK => ?_) ?_
              · refine step_store_scope rfl (.tmp 2) (.tmp 20) rfl (B + 1) rfl (⟨⟨a3, x.e.n, c3, x.e.L, x.e.z⟩, a7, x.n + 1, c7, V4 ++ [⟨a5, x.e.n, c5, x.e.L, x.e.z⟩]⟩ : XV) rfl HZ.out x0 rfl (HR2.out.below HB7.out) ?_
                intro w8 he8 ho8
                have HE8 := Lib.hid he8
                have HO8 := Lib.hid ho8
                clear he8 ho8
                refine hK.out _ _ (HKO.out _ _ (HKS.out _ HB7.out) HO8.out) (fun hHeld => ?_)
                clear hK K
                try simp only [Act.put]
                refine wpAnyH_take (i := 13) (oi := { dst := some 3, op := Op.assign (Operand.const (Value.int IntKind.i64 0)), type := 39, pos := "scope.go:47", after := #[{ on := 12, ground := Ground.chain }, { on := 0, ground := Ground.phase }, { on := 1, ground := Ground.phase }, { on := 2, ground := Ground.phase }, { on := 3, ground := Ground.phase }, { on := 4, ground := Ground.phase }, { on := 5, ground := Ground.phase }, { on := 6, ground := Ground.phase }, { on := 7, ground := Ground.phase }, { on := 8, ground := Ground.phase }, { on := 9, ground := Ground.phase }, { on := 10, ground := Ground.phase }, { on := 11, ground := Ground.phase }, { on := 12, ground := Ground.phase }], guard := none }) (v := ?_) rfl (by kernel_rfl) (by kernel_rfl) (by kernel_rfl) (fun _ _ _ h => h) (Or.inl ⟨by rfl, ?_⟩) (by assumption) ?_
                rotate_left
                · intro w' hSw
                  try dsimp only at hSw
                  go_simp
                  try with_reducible rfl
                try simp only [Act.put, List.setIfInBounds_toArray, List.set_cons_zero, List.set_cons_succ]
                refine wpAnyH_done (by kernel_rfl) ?_ _
                refine NoPanic.normal ?_
                go_wp2
                refine bodyPost_ret (ret_scopep rfl _ _ (B + 1) (⟨⟨a3, x.e.n, c3, x.e.L, x.e.z⟩, a7, x.n + 1, c7, V4 ++ [⟨a5, x.e.n, c5, x.e.L, x.e.z⟩]⟩ : XV) HZ.out rfl HE8.out) rfl ⟨_, rfl, ?_, ?_, ?_⟩
                · refine XV.own.kp (w := w7) ⟨HT7.out _ HY6.out, ?_, fun y hy => ?_⟩ (Kp.scope (HR2.out.below HB7.out) HO8.out)
                  · have := HR7.out.weak (Nat.zero_le _)
                    rw [← rowA_app] at this
                    exact this
                  · rcases List.mem_append.1 hy with hy | hy
                    · exact HT7.out _ (HS6.out y hy)
                    · rw [List.mem_singleton.1 hy]; exact HT7.out _ HW6.out
                · show SC.mk (x.e.k) ((V4 ++ [_]).map AV.k) = _
                  rw [List.map_append, HK4.out]
                  rfl
                · rw [← HBB.out]; exact (HB2.out.trans (HB7.out.mono (by have := HG2.out; omega))).trans (HO8.out.below (by omega))
              · exact AllReadyH.nil
            · exact AllReadyH.nil
          · exact AllReadyH.nil
        · exact AllReadyH.nil
      · exact AllReadyH.nil
    · exact AllReadyH.nil

set_option maxRecDepth 20000 in
set_option maxHeartbeats 8000000 in
theorem end_any (x : XV) (d : DV) (w : World) (h : x.ok w) (hk : okS x.k) (hd : d.1 = 5) :
    Calls Tryz.prog 18 #[.agg (sv x)] w fun e w' => ∃ y : XV, e = .returned (.tuple #[.agg (sv y), .int .i64 (stpE x.k d)]) ∧ y.own w' ∧ y.k = stpV x.k d ∧ Below w.heap.size w w' := by
  obtain ⟨B, hB⟩ : ∃ B, B = w.heap.size := ⟨_, rfl⟩
  obtain ⟨w1, hw1⟩ : ∃ w1, w1 = w.alloc (.cells (sv x) 31) := ⟨_, rfl⟩
  obtain ⟨w2, hw2⟩ : ∃ w2, w2 = w1.alloc (.cells #[.slice none 0 0, .int .i64 0, .int .i64 0, .int .i64 0, .int .i64 0, .int .i64 0, .int .i64 0, .int .i64 0, .int .i64 0, .int .i64 0, .int .i64 0, .slice none 0 0] 31) := ⟨_, rfl⟩
  have s1 : w1.heap.size = B + 1 := by rw [hw1, hB]; simp
  have HS2 : Hid (SB w2 B x) := Lib.hid (by rw [hw2, hw1, hB]; exact (SB.new w x).alloc _)
  have HR2 : Hid (SB w2 (B + 1) x0) := Lib.hid (by rw [hw2, ← s1, ← sv_zero]; exact SB.new w1 x0)
  have HB2 : Hid (Below B w w2) := Lib.hid (by rw [hw2, hw1, hB]; exact ((Below.refl _ _).alloc (Nat.le_refl _) _).alloc (by simp) _)
  have HG2 : Hid (B + 1 < w2.heap.size) := Lib.hid HR2.out.lt
  have HX2 : Hid (x.ok w2) := Lib.hid (XV.below h (hB ▸ HB2.out))
  have HSM := Lib.hid (XV.small h hk)
  have hn6 := HSM.out.2.1
  have HZ : Hid (x.e.z.length = 10) := Lib.hid HSM.out.2.2.2.2
  have HBB := Lib.hid hB
  have hsl : x.k.st.length = x.n := by show (x.V.map AV.k).length = x.n; rw [List.length_map]; exact HSM.out.2.2.2.1
  have e11 : w2.cell? ⟨B, 11, none⟩ = some (.slice x.a x.n x.c) := HS2.out.c11 HZ.out
  rw [hw2, hw1, hB] at e11
  by_cases h6 : x.n = 0
  · have h6' : ((x.n : Int) - 1 < 0) := by omega
    obtain ⟨hE, hV⟩ := step_none (s := x.k) hd (by omega)
    rw [hE, hV]
    clear hd hE hV hsl h hk s1
    rw [h6] at e11
    go_enter Tryz.func18, Tryz.ntmps18
    go_wp2_with (first
      | (refine store_scope rfl (.tmp 2) (.tmp 11) rfl (B + 1) rfl x0 rfl rfl x0 rfl HR2.out ?_; intro w3 he3 ho3; have HE3 := Lib.hid he3; have HO3 := Lib.hid ho3; clear he3 ho3)
      | (rw [← hw1, ← hw2, ← hB]; clear hw1 hw2 hB e11; refine build_scope0 rfl rfl ?_))
    refine bodyPost_ret (ret_scopep rfl _ _ (B + 1) x0 rfl rfl HE3.out) rfl ⟨x0, rfl, x0_own _, x0_k, ?_⟩
    rw [← HBB.out]; exact HB2.out.trans (HO3.out.below (by omega))
  · obtain ⟨m, hm⟩ : ∃ m, x.n = m + 1 := ⟨x.n - 1, by omega⟩
    obtain ⟨hE, hV⟩ := step_end (s := x.k) hd (by omega)
    rw [hE, hV]
    have HV : Hid ((avA x.V m).k = x.k.st.getD (x.k.st.length - 1) ([], z0) ∧ (x.V.take m).map AV.k = x.k.st.take (x.k.st.length - 1)) := Lib.hid (by
      have hl := HSM.out.2.2.2.1
      rw [hsl, hm, Nat.add_sub_cancel]
      refine ⟨?_, by show _ = (x.V.map AV.k).take m; rw [List.map_take]⟩
      rw [avA_eq (by omega)]
      show _ = (x.V.map AV.k).getD m ([], z0)
      simp [List.getD, show m < x.V.length by omega])
    have HK : Hid (Sk w2 x.a x.n x.c x.V) := Lib.hid HX2.out.2
    obtain ⟨b, off, hxa, hbB, _⟩ := h.2.row.at_ (by omega)
    have HBN : Hid (b ≠ B + 1) := Lib.hid (by omega)
    have HXE : Hid (x.a = some ⟨b, off, none⟩ ∧ x.n = m + 1) := Lib.hid ⟨hxa, hm⟩
    clear hbB
    have hbo : x.c ≤ maxLen := HX2.out.2.row.cm
    have hlc : x.n ≤ x.c := HX2.out.2.row.lc
    unfold maxLen at hbo
    have HAT : Hid (∀ w', Below w2.heap.size w2 w' → ∀ j, j < 11 → w'.cell? ⟨b, off + m * 11 + j, none⟩ = (ev (avA x.V m).a (avA x.V m).n (avA x.V m).c (avA x.V m).z)[j]?) := Lib.hid fun w' hb j hj => by
      have h2 := HK.out.below hb
      rw [hxa] at h2
      exact h2.at (by omega) hj
    have HM : Hid ((avA x.V m).ok w2 ∧ (avA x.V m).n ≤ 16) := Lib.hid (by
      have := avA_mem (V := x.V) (k := m) (by have := HSM.out.2.2.2.1; omega)
      exact ⟨HX2.out.2.ok _ this, HSM.out.2.2.1 _ this⟩)
    have HSL : Hid (∀ w', Below w2.heap.size w2 w' → Sk w' x.a m x.c (x.V.take m)) := Lib.hid fun w' hb => by
      have h2 := HK.out.below hb
      have hl := HSM.out.2.2.2.1
      rw [hxa, hm] at h2
      rw [hxa]
      refine ⟨?_, fun y hy => h2.ok y (List.mem_of_mem_take hy)⟩
      have h3 := Vs.upto h2.row (h := m) (by omega)
      have h4 : (rowA x.V).take (m * 11) = rowA (x.V.take m) := by
        have e := congrArg rowA (List.take_append_drop m x.V)
        rw [rowA_app] at e
        rw [← e, List.take_left']
        rw [rowA_len _ fun y hy => (h2.ok y (List.mem_of_mem_take hy)).2, List.length_take, Nat.min_eq_left (by omega)]
      rw [h4] at h3
      exact h3
    have HSR : Hid (∀ w' : World, (Instr.slice 29 (.slice (some ⟨b, off, none⟩) (m + 1) x.c) none (some (.int .i64 m)) none).run Tryz.prog w' = .ok (.slice (some ⟨b, off, none⟩) m x.c) w') := Lib.hid fun w' =>
      run_h (t := 29) (e := 28) (s := 11) (by kernel_rfl) Tryz.underlying29 envs_info (by omega) w'
    have hm0 : ¬ (m : Int) < 0 := by omega
    have hm5 : m ≤ 5 := by omega
    have hix : (m : Int) < (m : Int) + 1 := by omega
    have hsr := HSR.out
    rw [hxa, hm] at e11
    rw [hxa] at HSL
    clear hd hE hV hsl h hk s1 h6 hm hn6 HSR hlc
    go_enter Tryz.func18, Tryz.ntmps18
    go_wp2_with fail
    rw [← hw1, ← hw2, ← hB]
    clear hw1 hw2 e11 hB w1
    have HKS : Hid (∀ w', Below w2.heap.size w2 w' → (fun w' => (∀ j, j < 11 → w'.cell? ⟨b, off + m * 11 + j, none⟩ = (ev (avA x.V m).a (avA x.V m).n (avA x.V m).c (avA x.V m).z)[j]?) ∧ w'.cell? ⟨B, 11, none⟩ = some (.slice (some ⟨b, off, none⟩) (m + 1) x.c)) w') := Lib.hid fun w' hb => ⟨HAT.out w' hb, by have := (HS2.out.below hb).c11 HZ.out; rw [HXE.out.1, HXE.out.2] at this; exact this⟩
    have HKO : Hid (∀ u v, (fun w' => (∀ j, j < 11 → w'.cell? ⟨b, off + m * 11 + j, none⟩ = (ev (avA x.V m).a (avA x.V m).n (avA x.V m).c (avA x.V m).z)[j]?) ∧ w'.cell? ⟨B, 11, none⟩ = some (.slice (some ⟨b, off, none⟩) (m + 1) x.c)) u → Only (B + 1) u v → (fun w' => (∀ j, j < 11 → w'.cell? ⟨b, off + m * 11 + j, none⟩ = (ev (avA x.V m).a (avA x.V m).n (avA x.V m).c (avA x.V m).z)[j]?) ∧ w'.cell? ⟨B, 11, none⟩ = some (.slice (some ⟨b, off, none⟩) (m + 1) x.c)) v) := Lib.hid fun u v h ho => ⟨fun j hj => (Only.cell ho (p := ⟨b, off + m * 11 + j, none⟩) HBN.out).trans (h.1 j hj), (Only.cell ho (p := ⟨B, 11, none⟩) (show B ≠ B + 1 by omega)).trans h.2⟩
    refine wp_region_noPanic ?_
    refine wp_region_held_drew (S := fun w' => (∀ j, j < 11 → w'.cell? ⟨b, off + m * 11 + j, none⟩ = (ev (avA x.V m).a (avA x.V m).n (avA x.V m).c (avA x.V m).z)[j]?) ∧ w'.cell? ⟨B, 11, none⟩ = some (.slice (some ⟨b, off, none⟩) (m + 1) x.c)) (by kernel_rfl) (HKS.out _ (Below.refl _ _).drew) (fun hHeld => ?_)
    refine wpAnyH_take (i := 0) (oi := { dst := some 12, op := Op.fieldAddr 31 (Operand.tmp 1) 1, type := 0, pos := "scope.go:56", after := #[], guard := none }) (v := ?_) rfl (by kernel_rfl) (by kernel_rfl) (by kernel_rfl) (fun _ _ _ h => h) (Or.inl ⟨by rfl, ?_⟩) (by assumption) ?_
    rotate_left
    · intro w' hSw
      try dsimp only at hSw
      go_simp
      try with_reducible rfl
    try simp only [Act.put, List.setIfInBounds_toArray, List.set_cons_zero, List.set_cons_succ]
    refine wpAnyH_take (i := 1) (oi := { dst := some 13, op := Op.load 29 (Operand.tmp 12), type := 29, pos := "scope.go:56", after := #[{ on := 0, ground := Ground.data }], guard := none }) (v := ?_) rfl (by kernel_rfl) (by kernel_rfl) (by kernel_rfl) (fun _ _ _ h => h) (Or.inl ⟨by rfl, ?_⟩) (by assumption) ?_
    rotate_left
    · intro w' hSw
      try dsimp only at hSw
      go_simp
      try with_reducible rfl
    try simp only [Act.put, List.setIfInBounds_toArray, List.set_cons_zero, List.set_cons_succ]
    refine wpAnyH_take (i := 2) (oi := { dst := some 14, op := Op.move (Operand.tmp 4), type := 3, pos := "scope.go:56", after := #[], guard := none }) (v := ?_) rfl (by kernel_rfl) (by kernel_rfl) (by kernel_rfl) (fun _ _ _ h => h) (Or.inl ⟨by rfl, ?_⟩) (by assumption) ?_
    rotate_left
    · intro w' hSw
      try dsimp only at hSw
      go_simp
      try with_reducible rfl
    try simp only [Act.put, List.setIfInBounds_toArray, List.set_cons_zero, List.set_cons_succ]
    refine wpAnyH_take (i := 3) (oi := { dst := some 15, op := Op.indexAddr 29 (Operand.tmp 13) (Operand.tmp 14), type := 0, pos := "scope.go:56", after := #[{ on := 1, ground := Ground.data }, { on := 2, ground := Ground.data }], guard := none }) (v := ?_) rfl (by kernel_rfl) (by kernel_rfl) (by kernel_rfl) (fun _ _ _ h => h) (Or.inl ⟨by rfl, ?_⟩) (by assumption) ?_
    rotate_left
    · intro w' hSw
      try dsimp only at hSw
      go_simp
      try with_reducible rfl
    try simp only [Act.put, List.setIfInBounds_toArray, List.set_cons_zero, List.set_cons_succ]
    refine take_aenv (i := 4) (oi := { dst := some 16, op := Op.load 28 (Operand.tmp 15), type := 28, pos := "scope.go:56", after := #[{ on := 3, ground := Ground.data }], guard := none }) (Operand.tmp 15) rfl (by kernel_rfl) (by kernel_rfl) (by kernel_rfl) (avA x.V m).a (avA x.V m).n (avA x.V m).c (avA x.V m).z (fun _ _ _ h => h) (by rfl) rfl (b) (off + m * 11) rfl (HM.out.1.2) (fun w h => h.1) (by assumption) ?_
    try simp only [Act.put, List.setIfInBounds_toArray, List.set_cons_zero, List.set_cons_succ]
    refine wpAnyH_take (i := 6) (oi := { dst := some 18, op := Op.fieldAddr 31 (Operand.tmp 1) 1, type := 0, pos := "scope.go:56", after := #[], guard := none }) (v := ?_) rfl (by kernel_rfl) (by kernel_rfl) (by kernel_rfl) (fun _ _ _ h => h) (Or.inl ⟨by rfl, ?_⟩) (by assumption) ?_
    rotate_left
    · intro w' hSw
      try dsimp only at hSw
      go_simp
      try with_reducible rfl
    try simp only [Act.put, List.setIfInBounds_toArray, List.set_cons_zero, List.set_cons_succ]
    refine wpAnyH_take (i := 7) (oi := { dst := some 19, op := Op.load 29 (Operand.tmp 18), type := 29, pos := "scope.go:56", after := #[{ on := 6, ground := Ground.data }], guard := none }) (v := ?_) rfl (by kernel_rfl) (by kernel_rfl) (by kernel_rfl) (fun _ _ _ h => h) (Or.inl ⟨by rfl, ?_⟩) (by assumption) ?_
    rotate_left
    · intro w' hSw
      try dsimp only at hSw
      go_simp
      try with_reducible rfl
    try simp only [Act.put, List.setIfInBounds_toArray, List.set_cons_zero, List.set_cons_succ]
    refine wpAnyH_take (i := 8) (oi := { dst := some 20, op := Op.move (Operand.tmp 4), type := 3, pos := "scope.go:56", after := #[], guard := none }) (v := ?_) rfl (by kernel_rfl) (by kernel_rfl) (by kernel_rfl) (fun _ _ _ h => h) (Or.inl ⟨by rfl, ?_⟩) (by assumption) ?_
    rotate_left
    · intro w' hSw
      try dsimp only at hSw
      go_simp
      try with_reducible rfl
    try simp only [Act.put, List.setIfInBounds_toArray, List.set_cons_zero, List.set_cons_succ]
    refine wpAnyH_take (i := 9) (oi := { dst := some 21, op := Op.slice 29 (Operand.tmp 19) none (some (Operand.tmp 20)) none, type := 29, pos := "scope.go:56", after := #[{ on := 7, ground := Ground.data }, { on := 8, ground := Ground.data }], guard := none }) (v := ?_) rfl (by kernel_rfl) (by kernel_rfl) (by kernel_rfl) (fun _ _ _ h => h) (Or.inl ⟨by rfl, ?_⟩) (by assumption) ?_
    rotate_left
    · intro w' hSw
      try dsimp only at hSw
      go_simp
      try with_reducible rfl
    try simp only [Act.put, List.setIfInBounds_toArray, List.set_cons_zero, List.set_cons_succ]
    refine wpAnyH_ready (rs := [5]) (by kernel_rfl) (by simp) ?_
    refine AllReadyH.cons (o := { dst := some 17, op := Op.call { callee := Callee.value (Operand.func 27), args := #[Operand.tmp 16], argTypes := #[28] }, type := 28, pos := "scope.go:56", after := #[{ on := 4, ground := Ground.data }], guard := none }) rfl (fun K hK => ?_) ?_
    · go_simp
      (go_at_call 27; (refine (own_any (avA x.V m).a (avA x.V m).n (avA x.V m).c (avA x.V m).L (avA x.V m).z _ (Vs.below HM.out.1.1 (Below.refl _ _).drew) HM.out.1.2 (by have := HM.out.2; omega)).mono ?_); rintro e w3 ⟨a3, c3, rfl, ho3, hb3⟩)
      have HB3 : Hid (Below w2.heap.size w2 w3) := Lib.hid ((Below.refl _ _).drew.trans hb3)
      have HY3 : Hid (AV.own w3 ⟨a3, (avA x.V m).n, c3, (avA x.V m).L, (avA x.V m).z⟩) := Lib.hid ⟨ho3.weak (Nat.zero_le _), HM.out.1.2⟩
      clear ho3 hb3
      refine hK.out _ _ (HKS.out _ HB3.out) (fun hHeld => ?_)
      clear hK K
      try simp only [Act.put, List.setIfInBounds_toArray, List.set_cons_zero, List.set_cons_succ]
      refine wpAnyH_ready (rs := [10]) (by kernel_rfl) (by simp) ?_
      refine AllReadyH.cons (o := { dst := some 22, op := Op.call { callee := Callee.value (Operand.func 20), args := #[Operand.tmp 21], argTypes := #[29] }, type := 29, pos := "scope.go:56", after := #[{ on := 9, ground := Ground.data }, { on := 5, ground := Ground.chain }], guard := none }) rfl (fun K hK => ?_) ?_
      · go_simp
        (go_at_call 20; (refine (owned_any (some ⟨b, off, none⟩) m x.c (x.V.take m) _ (HSL.out _ HB3.out) (by omega) (fun y hy => by have := HSM.out.2.2.1 y (List.mem_of_mem_take hy); omega)).mono ?_); rintro e w4 ⟨a4, c4, V4, rfl, ho4, hs4, hk4, hb4⟩)
        have HB4 : Hid (Below w2.heap.size w2 w4) := Lib.hid (HB3.out.trans (hb4.mono HB3.out.size))
        have HY4 := Lib.hid (HY3.out.below hb4)
        have HR4 : Hid (OwnV 0 28 11 w4 a4 m c4 (rowA V4)) := Lib.hid (ho4.weak (Nat.zero_le _))
        have HS4 := Lib.hid hs4
        have HK4 := Lib.hid hk4
        clear ho4 hs4 hk4 hb4
        refine hK.out _ _ (HKS.out _ HB4.out) (fun hHeld => ?_)
        clear hK K
        try simp only [Act.put, List.setIfInBounds_toArray, List.set_cons_zero, List.set_cons_succ]
        refine wpAnyH_take (i := 11) (oi := { dst := some 23, op := Op.build 31 #[(0, Operand.tmp 17), (1, Operand.tmp 22)], type := 31, pos := "scope.go:56", after := #[{ on := 5, ground := Ground.data }, { on := 10, ground := Ground.data }], guard := none }) (v := .agg (sv (⟨⟨a3, (avA x.V m).n, c3, (avA x.V m).L, (avA x.V m).z⟩, a4, m, c4, V4⟩ : XV))) rfl (by kernel_rfl) (by kernel_rfl) (by kernel_rfl) (fun _ _ _ h => h) (Or.inl ⟨by rfl, fun w0 _ => run_build_scope (.tmp 17) (.tmp 22) rfl (⟨⟨a3, (avA x.V m).n, c3, (avA x.V m).L, (avA x.V m).z⟩, a4, m, c4, V4⟩ : XV) (HM.out.1.2) rfl rfl w0⟩) (by assumption) ?_
        try simp only [Act.put, List.setIfInBounds_toArray, List.set_cons_zero, List.set_cons_succ]
        refine wpAnyH_ready (rs := [12]) (by kernel_rfl) (by simp) ?_
        refine AllReadyH.cons (o := { dst := none, op := Op.store 31 (Operand.tmp 2) (Operand.tmp 23), type := 0, pos := "scope.go:56", after := #[{ on := 11, ground := Ground.data }, { on := 10, ground := Ground.chain }, { on := 0, ground := Ground.phase }, { on := 1, ground := Ground.phase }, { on := 2, ground := Ground.phase }, { on := 3, ground := Ground.phase }, { on := 4, ground := Ground.phase }, { on := 5, ground := Ground.phase }, { on := 6, ground := Ground.phase }, { on := 7, ground := Ground.phase }, { on := 8, ground := Ground.phase }, { on := 9, ground := Ground.phase }, { on := 10, ground := Ground.phase }, { on := 11, ground := Ground.phase }], guard := none }) rfl (fun K hK => ?_) ?_
        · refine step_store_scope rfl (.tmp 2) (.tmp 23) rfl (B + 1) rfl (⟨⟨a3, (avA x.V m).n, c3, (avA x.V m).L, (avA x.V m).z⟩, a4, m, c4, V4⟩ : XV) rfl HM.out.1.2 x0 rfl (HR2.out.below HB4.out) ?_
          intro w8 he8 ho8
          have HE8 := Lib.hid he8
          have HO8 := Lib.hid ho8
          clear he8 ho8
          refine hK.out _ _ (HKO.out _ _ (HKS.out _ HB4.out) HO8.out) (fun hHeld => ?_)
          clear hK K
          try simp only [Act.put]
          refine wpAnyH_take (i := 13) (oi := { dst := some 3, op := Op.assign (Operand.const (Value.int IntKind.i64 0)), type := 39, pos := "scope.go:56", after := #[{ on := 12, ground := Ground.chain }, { on := 0, ground := Ground.phase }, { on := 1, ground := Ground.phase }, { on := 2, ground := Ground.phase }, { on := 3, ground := Ground.phase }, { on := 4, ground := Ground.phase }, { on := 5, ground := Ground.phase }, { on := 6, ground := Ground.phase }, { on := 7, ground := Ground.phase }, { on := 8, ground := Ground.phase }, { on := 9, ground := Ground.phase }, { on := 10, ground := Ground.phase }, { on := 11, ground := Ground.phase }, { on := 12, ground := Ground.phase }], guard := none }) (v := ?_) rfl (by kernel_rfl) (by kernel_rfl) (by kernel_rfl) (fun _ _ _ h => h) (Or.inl ⟨by rfl, ?_⟩) (by assumption) ?_
          rotate_left
          · intro w' hSw
            try dsimp only at hSw
            go_simp
            try with_reducible rfl
          try simp only [Act.put, List.setIfInBounds_toArray, List.set_cons_zero, List.set_cons_succ]
          refine wpAnyH_done (by kernel_rfl) ?_ _
          refine NoPanic.normal ?_
          go_wp2
          refine bodyPost_ret (ret_scopep rfl _ _ (B + 1) (⟨⟨a3, (avA x.V m).n, c3, (avA x.V m).L, (avA x.V m).z⟩, a4, m, c4, V4⟩ : XV) HM.out.1.2 rfl HE8.out) rfl ⟨_, rfl, ?_, ?_, ?_⟩
          · exact XV.own.kp (w := w4) ⟨HY4.out, HR4.out, HS4.out⟩ (Kp.scope (HR2.out.below HB4.out) HO8.out)
          · show SC.mk (avA x.V m).k (V4.map AV.k) = _
            rw [HK4.out, HV.out.1, HV.out.2]
            simp [List.getD]
          · rw [← HBB.out]; exact (HB2.out.trans (HB4.out.mono (by have := HG2.out; omega))).trans (HO8.out.below (by omega))
        · exact AllReadyH.nil
      · exact AllReadyH.nil
    · exact AllReadyH.nil


end Go.Proofs.YtcpmpidpoelleaaGreatDoor
