/- Contract of decl.Of (laid by genCg.py over XCg.start.txt: its regions that draw). -/
import Derived.Test.YtjkjbgekpkhpfaaGreatDoorCf
namespace Go.Proofs.YtjkjbgekpkhpfaaGreatDoor
open Go.RowKit

theorem len10 {L : List TK} (h : L.length = 10) : ∃ a b c d e f g i j k, L = [a, b, c, d, e, f, g, i, j, k] := by
  match L, h with
  | [a, b, c, d, e, f, g, i, j, k], _ => exact ⟨a, b, c, d, e, f, g, i, j, k, rfl⟩
theorem len8 {L : List TK} (h : L.length = 8) : ∃ a b c d e f g i, L = [a, b, c, d, e, f, g, i] := by
  match L, h with
  | [a, b, c, d, e, f, g, i], _ => exact ⟨a, b, c, d, e, f, g, i, rfl⟩

def roOp : Nm := [58, 45, 32, 111, 112, 40, 78, 44, 32, 65, 44, 32, 81, 41, 46]
def roEd : Nm := [58, 45, 32, 101, 100, 103, 101, 40, 78, 44, 32, 78, 41, 46]
def roBg : Nm := [58, 45, 32, 98, 101, 103, 105, 110, 46]
def roEn : Nm := [58, 45, 32, 101, 110, 100, 46]
set_option maxRecDepth 20000 in
theorem ro_op : (pcs (toks (nb roOp))).map (fun p => p.map kt) = [opR] := by kernel_rfl
set_option maxRecDepth 20000 in
theorem ro_ed : (pcs (toks (nb roEd))).map (fun p => p.map kt) = [edR] := by kernel_rfl
set_option maxRecDepth 20000 in
theorem ro_bg : (pcs (toks (nb roBg))).map (fun p => p.map kt) = [bgR] := by kernel_rfl
set_option maxRecDepth 20000 in
theorem ro_en : (pcs (toks (nb roEn))).map (fun p => p.map kt) = [enR] := by kernel_rfl

/-- A row of tokens of the call's own: its block. -/
theorem OwnT.block {base : Nat} {e : TypeId} {w : World} {a : Option Addr} {m c : Nat} {t : TK} {L : List TK} (h : OwnT base e w a m c (t :: L)) : ∃ g, a = some ⟨g, 0, none⟩ ∧ m = L.length + 1 ∧ m ≤ c := by
  have hr := h.row
  have hl := hr.hl
  rw [List.length_cons] at hl
  obtain ⟨g, _, ha, _⟩ := hr.own (by omega)
  exact ⟨g, ha, hl.symm, hr.lc⟩

set_option maxRecDepth 20000 in
set_option maxHeartbeats 4000000 in
theorem dof_any (a : Option Addr) (n c : Nat) (L : List TK) (f0 t0 i0 : Int) (w : World) (h : Ts w a n c L) (ht : Tab w) (hk : TabK w) (hn : n ≤ 1000000) (hs : ∀ t ∈ L, t.s.toList.length ≤ 100000) :
    Calls Tryz.prog 46 #[.agg #[.int .i64 f0, .int .i64 t0, .int .i64 i0, .slice a n c]] w fun e w' => e = .returned (dclV (decV (L.map kt))) ∧ Below w.heap.size w w' := by
  obtain ⟨B, hB⟩ : ∃ B, B = w.heap.size := ⟨_, rfl⟩
  obtain ⟨D, hD⟩ : ∃ D, D = B + 1 := ⟨_, rfl⟩
  obtain ⟨w0, hw0⟩ : ∃ w0, w0 = w.alloc (.cells #[.int .i64 f0, .int .i64 t0, .int .i64 i0, .slice a n c] 80) := ⟨_, rfl⟩
  obtain ⟨w1, hw1⟩ : ∃ w1, w1 = w0.alloc (.cells #[.int .i64 0, .string { data := #[] }, .int .i64 0, .int .i64 0, .int .i64 0, .int .i64 0] 53) := ⟨_, rfl⟩
  have hs0 : w0.heap.size = D := by rw [hw0, hD, hB]; simp
  have hp0 : w0.heap[B]? = some (.cells #[.int .i64 f0, .int .i64 t0, .int .i64 i0, .slice a n c] 80 (0, 0)) := by rw [hw0, hB]; exact heap_alloc_new w _
  have hp1 : w1.heap[B]? = some (.cells #[.int .i64 f0, .int .i64 t0, .int .i64 i0, .slice a n c] 80 (0, 0)) := by rw [hw1]; exact ((below_new w0 _).block B (by rw [hs0]; omega)).trans hp0
  have HP1 := Lib.hid hp1
  have HD1 : Hid (DB w1 D d0) := Lib.hid (by rw [hw1, ← hs0]; exact DB.new w0)
  have HB1 : Hid (Below B w w1) := Lib.hid (by rw [hw1, hw0, hB]; exact (below_new w _).alloc (by simp) _)
  have HW : Hid (B = w.heap.size) := Lib.hid hB
  have HBD : Hid (B < w1.heap.size ∧ D < w1.heap.size ∧ B < D) := Lib.hid (by rw [hw1]; simp; omega)
  have HS := Lib.hid hs
  -- what holds wherever the walk has come
  have KW : Hid (∀ w', Below w1.heap.size w1 w' → (w'.heap[B]? = some (.cells #[.int .i64 f0, .int .i64 t0, .int .i64 i0, .slice a n c] 80 (0, 0))) ∧ DB w' D d0 ∧ Ts w' a n c L ∧ Tab w' ∧ TabK w' ∧ Below B w w') := Lib.hid fun w' hb => by
    have h1 : Below B w w' := HB1.out.trans (hb.mono (Nat.le_of_lt HBD.out.1))
    exact ⟨(hb.block B HBD.out.1).trans hp1, HD1.out.below hb, h.below (hB ▸ h1), ht.keep (hB ▸ h1), hk.keep (hB ▸ h1), h1⟩
  have KM : Hid (∀ (R : Nm) (r : List (Int × Nm)), (pcs (toks (nb R))).map (fun p => p.map kt) = [r] → R.length ≤ 1000 → ∀ w', Below w1.heap.size w1 w' → Calls Tryz.prog 64 #[.agg #[.int .i64 f0, .int .i64 t0, .int .i64 i0, .slice a n c], .string (mk R)] w' fun e w'' => ∃ a' m c', e = .returned (.tuple #[.slice a' m c', .bool (rowB (L.map kt) r)]) ∧ (rowB (L.map kt) r = true → OwnT w'.heap.size 96 w'' a' m c' (fnd L r)) ∧ Below w'.heap.size w' w'') := Lib.hid fun R r h1 h2 w' hb =>
    match_any a n c L f0 t0 i0 R r w' (KW.out w' hb).2.2.1 (KW.out w' hb).2.2.2.1 h1 h2 hn
  have K1 := Lib.hid (KM.out roOp opR ro_op (by decide))
  have K2 := Lib.hid (KM.out roEd edR ro_ed (by decide))
  have K3 := Lib.hid (KM.out roBg bgR ro_bg (by decide))
  have K4 := Lib.hid (KM.out roEn enR ro_en (by decide))
  have x0 := cell_of_row w1 B 0 _ _ _ hp1
  have x1 := cell_of_row w1 B 1 _ _ _ hp1
  have x2 := cell_of_row w1 B 2 _ _ _ hp1
  have x3 := cell_of_row w1 B 3 _ _ _ hp1
  clear h ht hk hn hs hp0 KM
  go_enter Tryz.func46, Tryz.ntmps46
  go_wp2_with fail
  rw [← hw0, ← hw1, ← hB, ← hD]
  clear hw0 hw1 hB hD hs0 hp1 x0 x1 x2 x3
  refine (K1.out w1 (Below.refl _ _)).mono ?_
  cases hr1 : rowB (L.map kt) opR with
  | true =>
    obtain ⟨t0', t1, t2, t3, t4, t5, t6, t7, t8, t9, rfl⟩ := len10 (by have := rowB_len hr1; rw [List.length_map] at this; exact this)
    have hst : ∀ t, t = t3 ∨ t = t5 ∨ t = t7 → t.s.toList.length ≤ 100000 := fun t ht => HS.out t (by rcases ht with rfl | rfl | rfl <;> simp)
    obtain ⟨V, hV⟩ : ∃ V, V = oprV (valV t3.s.toList) t5.s.toList t7.s.toList := ⟨_, rfl⟩
    have HE : Hid (decV ([t0', t1, t2, t3, t4, t5, t6, t7, t8, t9].map kt) = V) := Lib.hid (by unfold decV; rw [hr1, hV]; rfl)
    have KV : Hid (∀ w', Below w1.heap.size w1 w' → Calls Tryz.prog 66 #[.agg #[.int .i64 t3.k, .int .i64 t3.f, .int .i64 t3.t, .string t3.s, .int .i64 t3.e]] w' fun e w'' => e = .returned (.int .i64 (valV t3.s.toList)) ∧ Below w'.heap.size w' w'') := Lib.hid fun w' hb => value_any t3 w' (KW.out w' hb).2.2.2.1 (by have := hst t3 (.inl rfl); omega)
    obtain ⟨v3, hv3⟩ : ∃ v, v = valV t3.s.toList := ⟨_, rfl⟩
    have KO : Hid (∀ w', Below w1.heap.size w1 w' → Calls Tryz.prog 65 #[.int .i64 v3, .string t5.s, .string t7.s] w' fun e w'' => e = .returned (dclV V) ∧ Below w'.heap.size w' w'') := Lib.hid fun w' hb => by
      have := oper_any v3 t5.s.toList t7.s.toList w' (KW.out w' hb).2.2.2.1 (KW.out w' hb).2.2.2.2.1 (hst t7 (.inr (.inr rfl)))
      rw [mk_of, mk_of] at this
      rw [hV, ← hv3]
      exact this
    rw [← hv3] at KV
    obtain ⟨dv, de⟩ := V
    simp only [dclV] at KO
    clear hV hv3 hst
    rintro e w2 ⟨a2, m2, c2, rfl, ho2, hb2⟩
    have ho2 : OwnT w1.heap.size 96 w2 a2 m2 c2 [t3, t5, t7] := ho2 (by first | rfl | trivial)
    obtain ⟨g, rfl, rfl, hc2⟩ := ho2.block
    have HG : Hid (w1.heap.size ≤ g ∧ g < w2.heap.size) := Lib.hid (by
      obtain ⟨g', cur, ha, hg, hb, _⟩ := ho2.row.own (by simp)
      have e1 : g = g' := by simpa using ha
      rw [e1]; exact ⟨hg, (Array.getElem?_eq_some_iff.1 hb).1⟩)
    have HB2 : Hid (Below w1.heap.size w1 w2) := Lib.hid hb2
    have KC : Hid (∀ w', Ts w' (some ⟨g, 0, none⟩) 3 c2 [t3, t5, t7] → w'.cell? ⟨g, 0, none⟩ = some (.int .i64 t3.k) ∧ w'.cell? ⟨g, 1, none⟩ = some (.int .i64 t3.f) ∧ w'.cell? ⟨g, 2, none⟩ = some (.int .i64 t3.t) ∧ w'.cell? ⟨g, 3, none⟩ = some (.string t3.s) ∧ w'.cell? ⟨g, 4, none⟩ = some (.int .i64 t3.e) ∧ w'.cell? ⟨g, 8, none⟩ = some (.string t5.s) ∧ w'.cell? ⟨g, 13, none⟩ = some (.string t7.s)) := Lib.hid fun w' hq => by
      obtain ⟨q0, q1, q2, q3, q4⟩ := hq.at5 (k := 0) (by decide)
      exact ⟨by simpa [tat] using q0, by simpa [tat] using q1, by simpa [tat] using q2, by simpa [tat] using q3, by simpa [tat] using q4, by simpa [tat] using (hq.at5 (k := 1) (by decide)).2.2.2.1, by simpa [tat] using (hq.at5 (k := 2) (by decide)).2.2.2.1⟩
    have HT2 := Lib.hid ho2.ts
    clear ho2 hb2
    go_wp2_with fail
    -- the region of operators (laid by genCg.py)
    refine wp_region_noPanic ?_
    refine wp_region_held_drew (S := fun w' => w'.cell? ⟨g, 0, none⟩ = some (.int .i64 t3.k) ∧ w'.cell? ⟨g, 1, none⟩ = some (.int .i64 t3.f) ∧ w'.cell? ⟨g, 2, none⟩ = some (.int .i64 t3.t) ∧ w'.cell? ⟨g, 3, none⟩ = some (.string t3.s) ∧ w'.cell? ⟨g, 4, none⟩ = some (.int .i64 t3.e) ∧ w'.cell? ⟨g, 8, none⟩ = some (.string t5.s) ∧ w'.cell? ⟨g, 13, none⟩ = some (.string t7.s)) (by kernel_rfl) (KC.out _ HT2.out.drew) (fun hHeld => ?_)
    refine wpAnyH_take (i := 0) (oi := { dst := some 18, op := Op.move (Operand.tmp 4), type := 77, pos := "decl.go:38", after := #[], guard := none }) (v := ?_) rfl (by kernel_rfl) (by kernel_rfl) (by kernel_rfl) (fun _ _ _ h => h) (Or.inl ⟨by rfl, ?_⟩) (by assumption) ?_
    rotate_left
    · intro w' hSw
      try dsimp only at hSw
      go_simp
      try with_reducible rfl
    try simp only [Act.put, List.setIfInBounds_toArray, List.set_cons_zero, List.set_cons_succ]
    refine wpAnyH_take (i := 1) (oi := { dst := some 19, op := Op.indexAddr 77 (Operand.tmp 18) (Operand.const (Value.int IntKind.i64 0)), type := 0, pos := "decl.go:38", after := #[{ on := 0, ground := Ground.data }], guard := none }) (v := ?_) rfl (by kernel_rfl) (by kernel_rfl) (by kernel_rfl) (fun _ _ _ h => h) (Or.inl ⟨by rfl, ?_⟩) (by assumption) ?_
    rotate_left
    · intro w' hSw
      try dsimp only at hSw
      go_simp
      try with_reducible rfl
    try simp only [Act.put, List.setIfInBounds_toArray, List.set_cons_zero, List.set_cons_succ]
    refine wpAnyH_take (i := 2) (oi := { dst := some 20, op := Op.load 96 (Operand.tmp 19), type := 96, pos := "decl.go:38", after := #[{ on := 1, ground := Ground.data }], guard := none }) (v := ?_) rfl (by kernel_rfl) (by kernel_rfl) (by kernel_rfl) (fun _ _ _ h => h) (Or.inl ⟨by rfl, ?_⟩) (by assumption) ?_
    rotate_left
    · intro w' hSw
      try dsimp only at hSw
      go_simp
      try with_reducible rfl
    try simp only [Act.put, List.setIfInBounds_toArray, List.set_cons_zero, List.set_cons_succ]
    refine wpAnyH_take (i := 4) (oi := { dst := some 22, op := Op.move (Operand.tmp 4), type := 77, pos := "decl.go:38", after := #[], guard := none }) (v := ?_) rfl (by kernel_rfl) (by kernel_rfl) (by kernel_rfl) (fun _ _ _ h => h) (Or.inl ⟨by rfl, ?_⟩) (by assumption) ?_
    rotate_left
    · intro w' hSw
      try dsimp only at hSw
      go_simp
      try with_reducible rfl
    try simp only [Act.put, List.setIfInBounds_toArray, List.set_cons_zero, List.set_cons_succ]
    refine wpAnyH_take (i := 5) (oi := { dst := some 23, op := Op.indexAddr 77 (Operand.tmp 22) (Operand.const (Value.int IntKind.i64 1)), type := 0, pos := "decl.go:38", after := #[{ on := 4, ground := Ground.data }], guard := none }) (v := ?_) rfl (by kernel_rfl) (by kernel_rfl) (by kernel_rfl) (fun _ _ _ h => h) (Or.inl ⟨by rfl, ?_⟩) (by assumption) ?_
    rotate_left
    · intro w' hSw
      try dsimp only at hSw
      go_simp
      try with_reducible rfl
    try simp only [Act.put, List.setIfInBounds_toArray, List.set_cons_zero, List.set_cons_succ]
    refine wpAnyH_take (i := 6) (oi := { dst := some 24, op := Op.fieldAddr 96 (Operand.tmp 23) 3, type := 0, pos := "decl.go:38", after := #[{ on := 5, ground := Ground.data }], guard := none }) (v := ?_) rfl (by kernel_rfl) (by kernel_rfl) (by kernel_rfl) (fun _ _ _ h => h) (Or.inl ⟨by rfl, ?_⟩) (by assumption) ?_
    rotate_left
    · intro w' hSw
      try dsimp only at hSw
      go_simp
      try with_reducible rfl
    try simp only [Act.put, List.setIfInBounds_toArray, List.set_cons_zero, List.set_cons_succ]
    refine wpAnyH_take (i := 7) (oi := { dst := some 25, op := Op.load 9 (Operand.tmp 24), type := 9, pos := "decl.go:38", after := #[{ on := 6, ground := Ground.data }], guard := none }) (v := ?_) rfl (by kernel_rfl) (by kernel_rfl) (by kernel_rfl) (fun _ _ _ h => h) (Or.inl ⟨by rfl, ?_⟩) (by assumption) ?_
    rotate_left
    · intro w' hSw
      try dsimp only at hSw
      go_simp
      try with_reducible rfl
    try simp only [Act.put, List.setIfInBounds_toArray, List.set_cons_zero, List.set_cons_succ]
    refine wpAnyH_take (i := 8) (oi := { dst := some 26, op := Op.move (Operand.tmp 4), type := 77, pos := "decl.go:38", after := #[], guard := none }) (v := ?_) rfl (by kernel_rfl) (by kernel_rfl) (by kernel_rfl) (fun _ _ _ h => h) (Or.inl ⟨by rfl, ?_⟩) (by assumption) ?_
    rotate_left
    · intro w' hSw
      try dsimp only at hSw
      go_simp
      try with_reducible rfl
    try simp only [Act.put, List.setIfInBounds_toArray, List.set_cons_zero, List.set_cons_succ]
    refine wpAnyH_take (i := 9) (oi := { dst := some 27, op := Op.indexAddr 77 (Operand.tmp 26) (Operand.const (Value.int IntKind.i64 2)), type := 0, pos := "decl.go:38", after := #[{ on := 8, ground := Ground.data }], guard := none }) (v := ?_) rfl (by kernel_rfl) (by kernel_rfl) (by kernel_rfl) (fun _ _ _ h => h) (Or.inl ⟨by rfl, ?_⟩) (by assumption) ?_
    rotate_left
    · intro w' hSw
      try dsimp only at hSw
      go_simp
      try with_reducible rfl
    try simp only [Act.put, List.setIfInBounds_toArray, List.set_cons_zero, List.set_cons_succ]
    refine wpAnyH_take (i := 10) (oi := { dst := some 28, op := Op.fieldAddr 96 (Operand.tmp 27) 3, type := 0, pos := "decl.go:38", after := #[{ on := 9, ground := Ground.data }], guard := none }) (v := ?_) rfl (by kernel_rfl) (by kernel_rfl) (by kernel_rfl) (fun _ _ _ h => h) (Or.inl ⟨by rfl, ?_⟩) (by assumption) ?_
    rotate_left
    · intro w' hSw
      try dsimp only at hSw
      go_simp
      try with_reducible rfl
    try simp only [Act.put, List.setIfInBounds_toArray, List.set_cons_zero, List.set_cons_succ]
    refine wpAnyH_take (i := 11) (oi := { dst := some 29, op := Op.load 9 (Operand.tmp 28), type := 9, pos := "decl.go:38", after := #[{ on := 10, ground := Ground.data }], guard := none }) (v := ?_) rfl (by kernel_rfl) (by kernel_rfl) (by kernel_rfl) (fun _ _ _ h => h) (Or.inl ⟨by rfl, ?_⟩) (by assumption) ?_
    rotate_left
    · intro w' hSw
      try dsimp only at hSw
      go_simp
      try with_reducible rfl
    try simp only [Act.put, List.setIfInBounds_toArray, List.set_cons_zero, List.set_cons_succ]
    refine wpAnyH_ready (rs := [3]) (by kernel_rfl) (by simp) ?_
    refine AllReadyH.cons (o := { dst := some 21, op := Op.call { callee := Callee.value (Operand.func 66), args := #[Operand.tmp 20], argTypes := #[96] }, type := 3, pos := "decl.go:38", after := #[{ on := 2, ground := Ground.data }], guard := none }) rfl (fun K hK => ?_) ?_
    · go_simp
      (go_at_call 66; (with_reducible refine (KV.out _ HB2.out.drew).mono ?_); rintro e w3 ⟨rfl, hb⟩)
      have HB3 : Hid (Below w1.heap.size w1 w3) := Lib.hid (HB2.out.drew.trans (hb.mono HB2.out.drew.size))
      have HT3 := Lib.hid (Ts.below HT2.out.drew hb)
      clear hb
      refine hK.out _ _ (KC.out _ HT3.out) (fun hHeld => ?_)
      clear hK K
      try simp only [Act.put, List.setIfInBounds_toArray, List.set_cons_zero, List.set_cons_succ]
      refine wpAnyH_ready (rs := [12]) (by kernel_rfl) (by simp) ?_
      refine AllReadyH.cons (o := { dst := some 30, op := Op.call { callee := Callee.value (Operand.func 65), args := #[Operand.tmp 21, Operand.tmp 25, Operand.tmp 29], argTypes := #[3, 9, 9] }, type := 54, pos := "decl.go:38", after := #[{ on := 3, ground := Ground.data }, { on := 7, ground := Ground.data }, { on := 11, ground := Ground.data }, { on := 3, ground := Ground.chain }], guard := none }) rfl (fun K hK => ?_) ?_
      · go_simp
        (go_at_call 65; (with_reducible refine (KO.out _ HB3.out).mono ?_); rintro e w4 ⟨rfl, hb⟩)
        have HB4 : Hid (Below w1.heap.size w1 w4) := Lib.hid (HB3.out.trans (hb.mono HB3.out.size))
        have HT4 := Lib.hid (Ts.below HT3.out hb)
        clear hb
        refine hK.out _ _ (KC.out _ HT4.out) (fun hHeld => ?_)
        clear hK K
        try simp only [Act.put, List.setIfInBounds_toArray, List.set_cons_zero, List.set_cons_succ]
        refine wpAnyH_take (i := 13) (oi := { dst := some 31, op := Op.extract (Operand.tmp 30) 0, type := 53, pos := "decl.go:38", after := #[{ on := 12, ground := Ground.data }], guard := none }) (v := ?_) rfl (by kernel_rfl) (by kernel_rfl) (by kernel_rfl) (fun _ _ _ h => h) (Or.inl ⟨by rfl, ?_⟩) (by assumption) ?_
        rotate_left
        · intro w' hSw
          try dsimp only at hSw
          go_simp
          try with_reducible rfl
        try simp only [Act.put, List.setIfInBounds_toArray, List.set_cons_zero, List.set_cons_succ]
        refine wpAnyH_take (i := 14) (oi := { dst := some 32, op := Op.extract (Operand.tmp 30) 1, type := 33, pos := "decl.go:38", after := #[{ on := 12, ground := Ground.data }], guard := none }) (v := ?_) rfl (by kernel_rfl) (by kernel_rfl) (by kernel_rfl) (fun _ _ _ h => h) (Or.inl ⟨by rfl, ?_⟩) (by assumption) ?_
        rotate_left
        · intro w' hSw
          try dsimp only at hSw
          go_simp
          try with_reducible rfl
        try simp only [Act.put, List.setIfInBounds_toArray, List.set_cons_zero, List.set_cons_succ]
        refine wpAnyH_ready (rs := [15]) (by kernel_rfl) (by simp) ?_
        refine AllReadyH.cons (o := { dst := none, op := Op.store 53 (Operand.tmp 2) (Operand.tmp 31), type := 0, pos := "decl.go:38", after := #[{ on := 13, ground := Ground.data }, { on := 12, ground := Ground.chain }, { on := 0, ground := Ground.phase }, { on := 1, ground := Ground.phase }, { on := 2, ground := Ground.phase }, { on := 3, ground := Ground.phase }, { on := 4, ground := Ground.phase }, { on := 5, ground := Ground.phase }, { on := 6, ground := Ground.phase }, { on := 7, ground := Ground.phase }, { on := 8, ground := Ground.phase }, { on := 9, ground := Ground.phase }, { on := 10, ground := Ground.phase }, { on := 11, ground := Ground.phase }, { on := 12, ground := Ground.phase }, { on := 13, ground := Ground.phase }, { on := 14, ground := Ground.phase }], guard := none }) rfl (fun K hK => ?_) ?_
        · refine step_store_decl rfl (.tmp 2) (.tmp 31) rfl D rfl dv rfl d0 (KW.out w4 HB4.out).2.1 ?_
          intro w5 hd5 ho5 hx5
          have HD5 := Lib.hid hd5
          have HB5 : Hid (Below B w w5) := Lib.hid ((KW.out w4 HB4.out).2.2.2.2.2.trans (ho5 _ (by have := HBD.out; omega)))
          have hc5 : ∀ j v, w4.cell? ⟨g, j, none⟩ = some v → w5.cell? ⟨g, j, none⟩ = some v := fun j v h => (World.cell?_of_block (hx5 g (by have := HG.out; have := HBD.out; omega))).trans h
          have HC5 := Lib.hid hc5
          clear hd5 ho5 hx5 hc5
          refine hK.out _ _ ((fun h => ⟨HC5.out _ _ h.1, HC5.out _ _ h.2.1, HC5.out _ _ h.2.2.1, HC5.out _ _ h.2.2.2.1, HC5.out _ _ h.2.2.2.2.1, HC5.out _ _ h.2.2.2.2.2.1, HC5.out _ _ h.2.2.2.2.2.2⟩) (KC.out _ HT4.out)) (fun hHeld => ?_)
          clear hK K
          try simp only [Act.put]
          refine wpAnyH_take (i := 16) (oi := { dst := some 3, op := Op.assign (Operand.tmp 32), type := 33, pos := "decl.go:38", after := #[{ on := 14, ground := Ground.data }, { on := 15, ground := Ground.chain }, { on := 0, ground := Ground.phase }, { on := 1, ground := Ground.phase }, { on := 2, ground := Ground.phase }, { on := 3, ground := Ground.phase }, { on := 4, ground := Ground.phase }, { on := 5, ground := Ground.phase }, { on := 6, ground := Ground.phase }, { on := 7, ground := Ground.phase }, { on := 8, ground := Ground.phase }, { on := 9, ground := Ground.phase }, { on := 10, ground := Ground.phase }, { on := 11, ground := Ground.phase }, { on := 12, ground := Ground.phase }, { on := 13, ground := Ground.phase }, { on := 14, ground := Ground.phase }, { on := 15, ground := Ground.phase }], guard := none }) (v := ?_) rfl (by kernel_rfl) (by kernel_rfl) (by kernel_rfl) (fun _ _ _ h => h) (Or.inl ⟨by rfl, ?_⟩) (by assumption) ?_
          rotate_left
          · intro w' hSw
            try dsimp only at hSw
            go_simp
            try with_reducible rfl
          try simp only [Act.put, List.setIfInBounds_toArray, List.set_cons_zero, List.set_cons_succ]
          refine wpAnyH_done (by kernel_rfl) ?_ _
          refine NoPanic.normal ?_
          go_wp2
          exact bodyPost_ret (ret_decl rfl _ _ D dv rfl HD5.out) rfl ⟨by rw [HE.out]; rfl, by rw [← HW.out]; exact HB5.out⟩
        · exact AllReadyH.nil
      · exact AllReadyH.nil
    · exact AllReadyH.nil
    -- behind it
  | false =>
    rintro e w2 ⟨a2, m2, c2, rfl, _, hb2⟩
    have HB2 : Hid (Below w1.heap.size w1 w2) := Lib.hid hb2
    have hp2 := (KW.out w2 hb2).1
    have x0 := cell_of_row w2 B 0 _ _ _ hp2
    have x1 := cell_of_row w2 B 1 _ _ _ hp2
    have x2 := cell_of_row w2 B 2 _ _ _ hp2
    have x3 := cell_of_row w2 B 3 _ _ _ hp2
    clear hb2 hp2
    go_wp2_with fail
    clear x0 x1 x2 x3
    refine (K2.out w2 HB2.out).mono ?_
    cases hr2 : rowB (L.map kt) edR with
    | true =>
      obtain ⟨t0', t1, t2, t3, t4, t5, t6, t7, rfl⟩ := len8 (by have := rowB_len hr2; rw [List.length_map] at this; exact this)
      have hst : ∀ t, t = t3 ∨ t = t5 → t.s.toList.length ≤ 100000 := fun t ht => HS.out t (by rcases ht with rfl | rfl <;> simp)
      have HE : Hid (decV ([t0', t1, t2, t3, t4, t5, t6, t7].map kt) = (⟨3, [], 0, 0, valV t3.s.toList, valV t5.s.toList⟩, 0)) := Lib.hid (by unfold decV; rw [hr1, hr2]; rfl)
      have KV : Hid (∀ w', Below w1.heap.size w1 w' → Calls Tryz.prog 66 #[.agg #[.int .i64 t3.k, .int .i64 t3.f, .int .i64 t3.t, .string t3.s, .int .i64 t3.e]] w' fun e w'' => e = .returned (.int .i64 (valV t3.s.toList)) ∧ Below w'.heap.size w' w'') := Lib.hid fun w' hb => value_any t3 w' (KW.out w' hb).2.2.2.1 (by have := hst t3 (.inl rfl); omega)
      have KU : Hid (∀ w', Below w1.heap.size w1 w' → Calls Tryz.prog 66 #[.agg #[.int .i64 t5.k, .int .i64 t5.f, .int .i64 t5.t, .string t5.s, .int .i64 t5.e]] w' fun e w'' => e = .returned (.int .i64 (valV t5.s.toList)) ∧ Below w'.heap.size w' w'') := Lib.hid fun w' hb => value_any t5 w' (KW.out w' hb).2.2.2.1 (by have := hst t5 (.inr rfl); omega)
      obtain ⟨v3, hv3⟩ : ∃ v, v = valV t3.s.toList := ⟨_, rfl⟩
      obtain ⟨v5, hv5⟩ : ∃ v, v = valV t5.s.toList := ⟨_, rfl⟩
      rw [← hv3] at KV HE
      rw [← hv5] at KU HE
      clear hv3 hv5 hst
      rintro e w3 ⟨a2, m2, c2, rfl, ho3, hb3⟩
      have ho3 : OwnT w2.heap.size 96 w3 a2 m2 c2 [t3, t5] := ho3 (by first | rfl | trivial)
      obtain ⟨g, rfl, rfl, hc2⟩ := ho3.block
      have HG : Hid (w1.heap.size ≤ g ∧ g < w3.heap.size) := Lib.hid (by
        obtain ⟨g', cur, ha, hg, hb, _⟩ := ho3.row.own (by simp)
        have e1 : g = g' := by simpa using ha
        have := HB2.out.size
        rw [e1]; exact ⟨by omega, (Array.getElem?_eq_some_iff.1 hb).1⟩)
      have HB3 : Hid (Below w1.heap.size w1 w3) := Lib.hid (HB2.out.trans (hb3.mono HB2.out.size))
      have KC : Hid (∀ w', Ts w' (some ⟨g, 0, none⟩) 2 c2 [t3, t5] → w'.cell? ⟨g, 0, none⟩ = some (.int .i64 t3.k) ∧ w'.cell? ⟨g, 1, none⟩ = some (.int .i64 t3.f) ∧ w'.cell? ⟨g, 2, none⟩ = some (.int .i64 t3.t) ∧ w'.cell? ⟨g, 3, none⟩ = some (.string t3.s) ∧ w'.cell? ⟨g, 4, none⟩ = some (.int .i64 t3.e) ∧ w'.cell? ⟨g, 5, none⟩ = some (.int .i64 t5.k) ∧ w'.cell? ⟨g, 6, none⟩ = some (.int .i64 t5.f) ∧ w'.cell? ⟨g, 7, none⟩ = some (.int .i64 t5.t) ∧ w'.cell? ⟨g, 8, none⟩ = some (.string t5.s) ∧ w'.cell? ⟨g, 9, none⟩ = some (.int .i64 t5.e)) := Lib.hid fun w' hq => by
        obtain ⟨q0, q1, q2, q3, q4⟩ := hq.at5 (k := 0) (by decide)
        obtain ⟨r0, r1, r2, r3, r4⟩ := hq.at5 (k := 1) (by decide)
        exact ⟨by simpa [tat] using q0, by simpa [tat] using q1, by simpa [tat] using q2, by simpa [tat] using q3, by simpa [tat] using q4, by simpa [tat] using r0, by simpa [tat] using r1, by simpa [tat] using r2, by simpa [tat] using r3, by simpa [tat] using r4⟩
      have HT3 := Lib.hid ho3.ts
      clear ho3 hb3
      go_wp2_with fail
      -- the region of edges (laid by genCg.py)
      refine wp_region_noPanic ?_
      refine wp_region_held_drew (S := fun w' => w'.cell? ⟨g, 0, none⟩ = some (.int .i64 t3.k) ∧ w'.cell? ⟨g, 1, none⟩ = some (.int .i64 t3.f) ∧ w'.cell? ⟨g, 2, none⟩ = some (.int .i64 t3.t) ∧ w'.cell? ⟨g, 3, none⟩ = some (.string t3.s) ∧ w'.cell? ⟨g, 4, none⟩ = some (.int .i64 t3.e) ∧ w'.cell? ⟨g, 5, none⟩ = some (.int .i64 t5.k) ∧ w'.cell? ⟨g, 6, none⟩ = some (.int .i64 t5.f) ∧ w'.cell? ⟨g, 7, none⟩ = some (.int .i64 t5.t) ∧ w'.cell? ⟨g, 8, none⟩ = some (.string t5.s) ∧ w'.cell? ⟨g, 9, none⟩ = some (.int .i64 t5.e)) (by kernel_rfl) (KC.out _ HT3.out.drew) (fun hHeld => ?_)
      refine wpAnyH_take (i := 0) (oi := { dst := some 39, op := Op.move (Operand.tmp 6), type := 77, pos := "decl.go:41", after := #[], guard := none }) (v := ?_) rfl (by kernel_rfl) (by kernel_rfl) (by kernel_rfl) (fun _ _ _ h => h) (Or.inl ⟨by rfl, ?_⟩) (by assumption) ?_
      rotate_left
      · intro w' hSw
        try dsimp only at hSw
        go_simp
        try with_reducible rfl
      try simp only [Act.put, List.setIfInBounds_toArray, List.set_cons_zero, List.set_cons_succ]
      refine wpAnyH_take (i := 1) (oi := { dst := some 40, op := Op.indexAddr 77 (Operand.tmp 39) (Operand.const (Value.int IntKind.i64 0)), type := 0, pos := "decl.go:41", after := #[{ on := 0, ground := Ground.data }], guard := none }) (v := ?_) rfl (by kernel_rfl) (by kernel_rfl) (by kernel_rfl) (fun _ _ _ h => h) (Or.inl ⟨by rfl, ?_⟩) (by assumption) ?_
      rotate_left
      · intro w' hSw
        try dsimp only at hSw
        go_simp
        try with_reducible rfl
      try simp only [Act.put, List.setIfInBounds_toArray, List.set_cons_zero, List.set_cons_succ]
      refine wpAnyH_take (i := 2) (oi := { dst := some 41, op := Op.load 96 (Operand.tmp 40), type := 96, pos := "decl.go:41", after := #[{ on := 1, ground := Ground.data }], guard := none }) (v := ?_) rfl (by kernel_rfl) (by kernel_rfl) (by kernel_rfl) (fun _ _ _ h => h) (Or.inl ⟨by rfl, ?_⟩) (by assumption) ?_
      rotate_left
      · intro w' hSw
        try dsimp only at hSw
        go_simp
        try with_reducible rfl
      try simp only [Act.put, List.setIfInBounds_toArray, List.set_cons_zero, List.set_cons_succ]
      refine wpAnyH_take (i := 4) (oi := { dst := some 43, op := Op.move (Operand.tmp 6), type := 77, pos := "decl.go:41", after := #[], guard := none }) (v := ?_) rfl (by kernel_rfl) (by kernel_rfl) (by kernel_rfl) (fun _ _ _ h => h) (Or.inl ⟨by rfl, ?_⟩) (by assumption) ?_
      rotate_left
      · intro w' hSw
        try dsimp only at hSw
        go_simp
        try with_reducible rfl
      try simp only [Act.put, List.setIfInBounds_toArray, List.set_cons_zero, List.set_cons_succ]
      refine wpAnyH_take (i := 5) (oi := { dst := some 44, op := Op.indexAddr 77 (Operand.tmp 43) (Operand.const (Value.int IntKind.i64 1)), type := 0, pos := "decl.go:41", after := #[{ on := 4, ground := Ground.data }], guard := none }) (v := ?_) rfl (by kernel_rfl) (by kernel_rfl) (by kernel_rfl) (fun _ _ _ h => h) (Or.inl ⟨by rfl, ?_⟩) (by assumption) ?_
      rotate_left
      · intro w' hSw
        try dsimp only at hSw
        go_simp
        try with_reducible rfl
      try simp only [Act.put, List.setIfInBounds_toArray, List.set_cons_zero, List.set_cons_succ]
      refine wpAnyH_take (i := 6) (oi := { dst := some 45, op := Op.load 96 (Operand.tmp 44), type := 96, pos := "decl.go:41", after := #[{ on := 5, ground := Ground.data }], guard := none }) (v := ?_) rfl (by kernel_rfl) (by kernel_rfl) (by kernel_rfl) (fun _ _ _ h => h) (Or.inl ⟨by rfl, ?_⟩) (by assumption) ?_
      rotate_left
      · intro w' hSw
        try dsimp only at hSw
        go_simp
        try with_reducible rfl
      try simp only [Act.put, List.setIfInBounds_toArray, List.set_cons_zero, List.set_cons_succ]
      refine wpAnyH_ready (rs := [3]) (by kernel_rfl) (by simp) ?_
      refine AllReadyH.cons (o := { dst := some 42, op := Op.call { callee := Callee.value (Operand.func 66), args := #[Operand.tmp 41], argTypes := #[96] }, type := 3, pos := "decl.go:41", after := #[{ on := 2, ground := Ground.data }], guard := none }) rfl (fun K hK => ?_) ?_
      · go_simp
        (go_at_call 66; (with_reducible refine (KV.out _ HB3.out.drew).mono ?_); rintro e w4 ⟨rfl, hb⟩)
        have HB4 : Hid (Below w1.heap.size w1 w4) := Lib.hid (HB3.out.drew.trans (hb.mono HB3.out.drew.size))
        have HT4 := Lib.hid (Ts.below HT3.out.drew hb)
        clear hb
        refine hK.out _ _ (KC.out _ HT4.out) (fun hHeld => ?_)
        clear hK K
        try simp only [Act.put, List.setIfInBounds_toArray, List.set_cons_zero, List.set_cons_succ]
        refine wpAnyH_ready (rs := [7]) (by kernel_rfl) (by simp) ?_
        refine AllReadyH.cons (o := { dst := some 46, op := Op.call { callee := Callee.value (Operand.func 66), args := #[Operand.tmp 45], argTypes := #[96] }, type := 3, pos := "decl.go:41", after := #[{ on := 6, ground := Ground.data }, { on := 3, ground := Ground.chain }], guard := none }) rfl (fun K hK => ?_) ?_
        · go_simp
          (go_at_call 66; (with_reducible refine (KU.out _ HB4.out).mono ?_); rintro e w6 ⟨rfl, hb⟩)
          have HB6 : Hid (Below w1.heap.size w1 w6) := Lib.hid (HB4.out.trans (hb.mono HB4.out.size))
          have HT6 := Lib.hid (Ts.below HT4.out hb)
          clear hb
          refine hK.out _ _ (KC.out _ HT6.out) (fun hHeld => ?_)
          clear hK K
          try simp only [Act.put, List.setIfInBounds_toArray, List.set_cons_zero, List.set_cons_succ]
          refine wpAnyH_take (i := 8) (oi := { dst := some 47, op := Op.build 53 #[(0, Operand.const (Value.int IntKind.i64 3)), (2, Operand.tmp 42), (3, Operand.tmp 46)], type := 53, pos := "decl.go:41", after := #[{ on := 3, ground := Ground.data }, { on := 7, ground := Ground.data }], guard := none }) (v := DC.v ⟨3, [], 0, 0, v3, v5⟩) rfl (by kernel_rfl) (by kernel_rfl) (by kernel_rfl) (fun _ _ _ h => h) (Or.inl ⟨by rfl, fun w0 _ => by kernel_rfl⟩) (by assumption) ?_
          try simp only [Act.put, List.setIfInBounds_toArray, List.set_cons_zero, List.set_cons_succ]
          refine wpAnyH_ready (rs := [9]) (by kernel_rfl) (by simp) ?_
          refine AllReadyH.cons (o := { dst := none, op := Op.store 53 (Operand.tmp 2) (Operand.tmp 47), type := 0, pos := "decl.go:41", after := #[{ on := 8, ground := Ground.data }, { on := 7, ground := Ground.chain }, { on := 0, ground := Ground.phase }, { on := 1, ground := Ground.phase }, { on := 2, ground := Ground.phase }, { on := 3, ground := Ground.phase }, { on := 4, ground := Ground.phase }, { on := 5, ground := Ground.phase }, { on := 6, ground := Ground.phase }, { on := 7, ground := Ground.phase }, { on := 8, ground := Ground.phase }], guard := none }) rfl (fun K hK => ?_) ?_
          · refine step_store_decl rfl (.tmp 2) (.tmp 47) rfl D rfl ⟨3, [], 0, 0, v3, v5⟩ rfl d0 (KW.out w6 HB6.out).2.1 ?_
            intro w5 hd5 ho5 hx5
            have HD5 := Lib.hid hd5
            have HB5 : Hid (Below B w w5) := Lib.hid ((KW.out w6 HB6.out).2.2.2.2.2.trans (ho5 _ (by have := HBD.out; omega)))
            have hc5 : ∀ j v, w6.cell? ⟨g, j, none⟩ = some v → w5.cell? ⟨g, j, none⟩ = some v := fun j v h => (World.cell?_of_block (hx5 g (by have := HG.out; have := HBD.out; omega))).trans h
            have HC5 := Lib.hid hc5
            clear hd5 ho5 hx5 hc5
            refine hK.out _ _ ((fun h => ⟨HC5.out _ _ h.1, HC5.out _ _ h.2.1, HC5.out _ _ h.2.2.1, HC5.out _ _ h.2.2.2.1, HC5.out _ _ h.2.2.2.2.1, HC5.out _ _ h.2.2.2.2.2.1, HC5.out _ _ h.2.2.2.2.2.2.1, HC5.out _ _ h.2.2.2.2.2.2.2.1, HC5.out _ _ h.2.2.2.2.2.2.2.2.1, HC5.out _ _ h.2.2.2.2.2.2.2.2.2⟩) (KC.out _ HT6.out)) (fun hHeld => ?_)
            clear hK K
            try simp only [Act.put]
            refine wpAnyH_take (i := 10) (oi := { dst := some 3, op := Op.assign (Operand.const (Value.int IntKind.i64 0)), type := 33, pos := "decl.go:41", after := #[{ on := 9, ground := Ground.chain }, { on := 0, ground := Ground.phase }, { on := 1, ground := Ground.phase }, { on := 2, ground := Ground.phase }, { on := 3, ground := Ground.phase }, { on := 4, ground := Ground.phase }, { on := 5, ground := Ground.phase }, { on := 6, ground := Ground.phase }, { on := 7, ground := Ground.phase }, { on := 8, ground := Ground.phase }, { on := 9, ground := Ground.phase }], guard := none }) (v := ?_) rfl (by kernel_rfl) (by kernel_rfl) (by kernel_rfl) (fun _ _ _ h => h) (Or.inl ⟨by rfl, ?_⟩) (by assumption) ?_
            rotate_left
            · intro w' hSw
              try dsimp only at hSw
              go_simp
              try with_reducible rfl
            try simp only [Act.put, List.setIfInBounds_toArray, List.set_cons_zero, List.set_cons_succ]
            refine wpAnyH_done (by kernel_rfl) ?_ _
            refine NoPanic.normal ?_
            go_wp2
            exact bodyPost_ret (ret_decl rfl _ _ D ⟨3, [], 0, 0, v3, v5⟩ rfl HD5.out) rfl ⟨by rw [HE.out]; rfl, by rw [← HW.out]; exact HB5.out⟩
          · exact AllReadyH.nil
        · exact AllReadyH.nil
      · exact AllReadyH.nil
      -- behind it
    | false =>
      rintro e w3 ⟨a3, m3, c3, rfl, _, hb3⟩
      have HB3 : Hid (Below w1.heap.size w1 w3) := Lib.hid (HB2.out.trans (hb3.mono HB2.out.size))
      have hp3 := (KW.out w3 HB3.out).1
      have x0 := cell_of_row w3 B 0 _ _ _ hp3
      have x1 := cell_of_row w3 B 1 _ _ _ hp3
      have x2 := cell_of_row w3 B 2 _ _ _ hp3
      have x3 := cell_of_row w3 B 3 _ _ _ hp3
      clear hb3 hp3
      go_wp2_with fail
      clear x0 x1 x2 x3
      refine (K3.out w3 HB3.out).mono ?_
      cases hr3 : rowB (L.map kt) bgR with
      | true =>
        have HE : Hid (decV (L.map kt) = (⟨4, [], 0, 0, 0, 0⟩, 0)) := Lib.hid (by unfold decV; rw [hr1, hr2, hr3]; rfl)
        rintro e w4 ⟨a4, m4, c4, rfl, _, hb4⟩
        have HB4 : Hid (Below w1.heap.size w1 w4) := Lib.hid (HB3.out.trans (hb4.mono HB3.out.size))
        clear hb4
        go_wp2_with (first
          | (refine build_run rfl 53 #[(0, .const (.int .i64 4))] rfl (DC.v ⟨4, [], 0, 0, 0, 0⟩) (by kernel_rfl) ?_)
          | (refine store_decl rfl (.tmp 2) (.tmp 54) rfl D rfl ⟨4, [], 0, 0, 0, 0⟩ rfl d0 (KW.out w4 HB4.out).2.1 ?_; intro w5 hd5 ho5; have HD5 := Lib.hid hd5; have HB5 : Hid (Below B w w5) := Lib.hid ((KW.out w4 HB4.out).2.2.2.2.2.trans (ho5 _ (by have := HBD.out; omega))); clear hd5 ho5))
        all_goals exact bodyPost_ret (ret_decl rfl _ _ D ⟨4, [], 0, 0, 0, 0⟩ rfl HD5.out) rfl ⟨by rw [HE.out]; rfl, by rw [← HW.out]; exact HB5.out⟩
      | false =>
        rintro e w4 ⟨a4, m4, c4, rfl, _, hb4⟩
        have HB4 : Hid (Below w1.heap.size w1 w4) := Lib.hid (HB3.out.trans (hb4.mono HB3.out.size))
        have hp4 := (KW.out w4 HB4.out).1
        have x0 := cell_of_row w4 B 0 _ _ _ hp4
        have x1 := cell_of_row w4 B 1 _ _ _ hp4
        have x2 := cell_of_row w4 B 2 _ _ _ hp4
        have x3 := cell_of_row w4 B 3 _ _ _ hp4
        clear hb4 hp4
        go_wp2_with fail
        clear x0 x1 x2 x3
        refine (K4.out w4 HB4.out).mono ?_
        cases hr4 : rowB (L.map kt) enR with
        | true =>
          have HE : Hid (decV (L.map kt) = (⟨5, [], 0, 0, 0, 0⟩, 0)) := Lib.hid (by unfold decV; rw [hr1, hr2, hr3, hr4]; rfl)
          rintro e w6 ⟨a6, m6, c6, rfl, _, hb6⟩
          have HB6 : Hid (Below w1.heap.size w1 w6) := Lib.hid (HB4.out.trans (hb6.mono HB4.out.size))
          clear hb6
          go_wp2_with (first
            | (refine build_run rfl 53 #[(0, .const (.int .i64 5))] rfl (DC.v ⟨5, [], 0, 0, 0, 0⟩) (by kernel_rfl) ?_)
            | (refine store_decl rfl (.tmp 2) (.tmp 61) rfl D rfl ⟨5, [], 0, 0, 0, 0⟩ rfl d0 (KW.out w6 HB6.out).2.1 ?_; intro w5 hd5 ho5; have HD5 := Lib.hid hd5; have HB5 : Hid (Below B w w5) := Lib.hid ((KW.out w6 HB6.out).2.2.2.2.2.trans (ho5 _ (by have := HBD.out; omega))); clear hd5 ho5))
          all_goals exact bodyPost_ret (ret_decl rfl _ _ D ⟨5, [], 0, 0, 0, 0⟩ rfl HD5.out) rfl ⟨by rw [HE.out]; rfl, by rw [← HW.out]; exact HB5.out⟩
        | false =>
          have HE : Hid (decV (L.map kt) = (d0, 20)) := Lib.hid (by unfold decV; rw [hr1, hr2, hr3, hr4]; rfl)
          rintro e w6 ⟨a6, m6, c6, rfl, _, hb6⟩
          have HB6 : Hid (Below w1.heap.size w1 w6) := Lib.hid (HB4.out.trans (hb6.mono HB4.out.size))
          clear hb6
          go_wp2_with (first
            | (refine build_run rfl 53 #[] rfl (DC.v d0) (by kernel_rfl) ?_)
            | (refine store_decl rfl (.tmp 2) (.tmp 62) rfl D rfl d0 rfl d0 (KW.out w6 HB6.out).2.1 ?_; intro w5 hd5 ho5; have HD5 := Lib.hid hd5; have HB5 : Hid (Below B w w5) := Lib.hid ((KW.out w6 HB6.out).2.2.2.2.2.trans (ho5 _ (by have := HBD.out; omega))); clear hd5 ho5))
          all_goals exact bodyPost_ret (ret_decl rfl _ _ D d0 rfl HD5.out) rfl ⟨by rw [HE.out]; rfl, by rw [← HW.out]; exact HB5.out⟩

end Go.Proofs.YtjkjbgekpkhpfaaGreatDoor
