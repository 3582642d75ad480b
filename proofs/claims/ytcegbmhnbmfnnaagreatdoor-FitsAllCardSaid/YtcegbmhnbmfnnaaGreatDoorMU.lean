/- Texts laid one behind the other. -/
import Derived.Test.YtcegbmhnbmfnnaaGreatDoorMJ
import Derived.Test.YtcegbmhnbmfnnaaGreatDoorMH
import Derived.Test.YtcegbmhnbmfnnaaGreatDoorMQ
import Derived.Test.YtcegbmhnbmfnnaaGreatDoorMT
import Derived.Test.YtcegbmhnbmfnnaaGreatDoorMF

/- Mathematics of fits: what fits a hole, once, through, across. No walk here. (Built beside scope's texts in round 16, ahead of fits.) -/
namespace Go.Proofs.YtcegbmhnbmfnnaaGreatDoor
open Go.RowKit

def sideV (right : Bool) : Int := if right then 2 else 1
/-- Whether a shape has a hole at that end. -/
def endB (s : SH) (right : Bool) : Bool := if right then s.r else s.l
/-- What Fits tells. -/
def fitsB (z : List Int) (o k : OP) (right : Bool) : Bool :=
  match ofS o.1, ofS k.1 with
  | some s, some t => endB s right && ((!t.l && !t.r) || (tgt z o.2.1 k.2.1 || (o.2.1 == k.2.1 && (o.2.2 == sideV right && k.2.2 == sideV right))))
  | _, _ => false
theorem fitsB_some {z : List Int} {o k : OP} {right : Bool} {s t : SH} (ho : ofS o.1 = some s) (hk : ofS k.1 = some t) : fitsB z o k right = (endB s right && ((!t.l && !t.r) || (tgt z o.2.1 k.2.1 || (o.2.1 == k.2.1 && (o.2.2 == sideV right && k.2.2 == sideV right))))) := by
  unfold fitsB; rw [ho, hk]
theorem fitsB_no1 {z : List Int} {o : OP} (k : OP) (right : Bool) (ho : ofS o.1 = none) : fitsB z o k right = false := by
  unfold fitsB; rw [ho]
theorem fitsB_no2 {z : List Int} (o : OP) {k : OP} (right : Bool) (hk : ofS k.1 = none) : fitsB z o k right = false := by
  unfold fitsB; rw [hk]
  cases ofS o.1 <;> rfl
/-- What it says, if it tells true. -/
theorem fitsB_iff {z : List Int} {o k : OP} {right : Bool} : fitsB z o k right = true ↔ ∃ s t, ofS o.1 = some s ∧ ofS k.1 = some t ∧ endB s right = true ∧ ((t.l = false ∧ t.r = false) ∨ tgt z o.2.1 k.2.1 = true ∨ (o.2.1 = k.2.1 ∧ o.2.2 = sideV right ∧ k.2.2 = sideV right)) := by
  cases ho : ofS o.1 with
  | none => rw [fitsB_no1 k right ho]; simp
  | some s =>
    cases hk : ofS k.1 with
    | none => rw [fitsB_no2 o right hk]; simp
    | some t =>
      rw [fitsB_some ho hk]
      simp only [Bool.and_eq_true, Bool.or_eq_true, Bool.not_eq_true', beq_iff_eq]
      constructor
      · rintro ⟨h1, h2⟩
        exact ⟨s, t, rfl, rfl, h1, h2⟩
      · rintro ⟨s', t', hs, ht, h1, h2⟩
        cases hs; cases ht
        exact ⟨h1, h2⟩

/-! ### Rows that come of the ladder and edges -/

def RowsOk (z : List Int) : Prop := ∃ E, Inv z E
theorem rowsOk_start : RowsOk zS := ⟨[], inv_start⟩
theorem rowsOk_edge {z : List Int} (h : RowsOk z) {g k : Int} (he : eE z g k = 0) : RowsOk (eV z g k) := by
  obtain ⟨E, H⟩ := h
  unfold eV
  rw [if_pos he]
  unfold eE at he
  by_cases hb : inB 1 [g, k] = true
  · rw [if_pos hb] at he
    by_cases hc : g = k ∨ T z k.toNat g.toNat = true
    · rw [if_pos hc] at he; cases he
    · rw [inB_two] at hb
      refine ⟨_, H.edge (g := g.toNat) (h := k.toNat) ⟨by show 1 ≤ g.toNat; omega, by show g.toNat ≤ 9; omega, by show 1 ≤ k.toNat; omega, by show k.toNat ≤ 9; omega⟩ (fun e => hc (.inl (by omega))) ?_⟩
      cases ht : T z k.toNat g.toNat with
      | true => exact absurd (.inr ht) hc
      | false => rfl
  · rw [if_neg hb] at he; cases he
theorem tgt_trans {z : List Int} (h : RowsOk z) {a b c : Int} (h1 : tgt z a b = true) (h2 : tgt z b c = true) : tgt z a c = true := by
  obtain ⟨E, H⟩ := h
  unfold tgt at h1 h2 ⊢
  rw [Bool.and_eq_true, inB_two] at h1 h2 ⊢
  refine ⟨⟨h1.1.1, h2.1.2⟩, ?_⟩
  exact (H.T (by omega)).2 (Ld.trans ((H.T (by omega)).1 h1.2) ((H.T (by omega)).1 h2.2))
theorem tgt_asym {z : List Int} (h : RowsOk z) {a b : Int} (h1 : tgt z a b = true) (h2 : tgt z b a = true) : False := by
  have h3 := tgt_trans h h1 h2
  obtain ⟨E, H⟩ := h
  unfold tgt at h3
  rw [Bool.and_eq_true, inB_two] at h3
  exact H.acy _ ((H.T (by omega)).1 h3.2)
theorem tgt_irr {z : List Int} (h : RowsOk z) {a : Int} (h1 : tgt z a a = true) : False := tgt_asym h h1 h1

/-- Of two that meet, not each fits the other. -/
theorem fits_once {z : List Int} (h : RowsOk z) (o k : OP) : (fitsB z o k true && fitsB z k o false) = false := by
  rw [Bool.eq_false_iff]
  intro hh
  rw [Bool.and_eq_true] at hh
  obtain ⟨s, t, hs, ht, e1, c1⟩ := fitsB_iff.1 hh.1
  obtain ⟨t', s', ht', hs', e2, c2⟩ := fitsB_iff.1 hh.2
  rw [ht] at ht'; cases ht'
  rw [hs] at hs'; cases hs'
  have hr : s.r = true := e1
  have hl : t.l = true := e2
  have d1 : ¬ (t.l = false ∧ t.r = false) := fun x => by rw [hl] at x; cases x.1
  have d2 : ¬ (s.l = false ∧ s.r = false) := fun x => by rw [hr] at x; cases x.2
  rcases c1.resolve_left d1 with g1 | ⟨g1, a1, b1⟩
  · rcases c2.resolve_left d2 with g2 | ⟨g2, _, _⟩
    · exact tgt_asym h g1 g2
    · rw [g2] at g1; exact tgt_irr h g1
  · rcases c2.resolve_left d2 with g2 | ⟨_, a2, _⟩
    · rw [g1] at g2; exact tgt_irr h g2
    · rw [b1] at a2; exact absurd a2 (by decide)
/-- What fits through: at one end. -/
theorem fits_through {z : List Int} (h : RowsOk z) (a b c : OP) (right : Bool) (h1 : fitsB z a b right = true) (h2 : fitsB z b c right = true) : fitsB z a c right = true := by
  obtain ⟨s, t, hs, ht, e1, c1⟩ := fitsB_iff.1 h1
  obtain ⟨t', u, ht', hu, e2, c2⟩ := fitsB_iff.1 h2
  rw [ht] at ht'; cases ht'
  refine fitsB_iff.2 ⟨s, u, hs, hu, e1, ?_⟩
  have d1 : ¬ (t.l = false ∧ t.r = false) := fun x => by
    unfold endB at e2
    cases right
    · rw [if_neg (by decide), x.1] at e2; cases e2
    · rw [if_pos rfl, x.2] at e2; cases e2
  rcases c2 with hc | hc
  · exact .inl hc
  · right
    rcases c1.resolve_left d1 with g1 | ⟨g1, a1, b1⟩
    · rcases hc with g2 | ⟨g2, _, _⟩
      · exact .inl (tgt_trans h g1 g2)
      · rw [← g2]; exact .inl g1
    · rcases hc with g2 | ⟨g2, _, c2⟩
      · rw [g1]; exact .inl g2
      · exact .inr ⟨g1.trans g2, a1, c2⟩
/-- And across. -/
theorem fits_cross {z : List Int} (h : RowsOk z) (a b c : OP) (right : Bool) (h1 : fitsB z a b right = true) (h2 : fitsB z b c (!right) = true) : fitsB z a c right = true := by
  obtain ⟨s, t, hs, ht, e1, c1⟩ := fitsB_iff.1 h1
  obtain ⟨t', u, ht', hu, e2, c2⟩ := fitsB_iff.1 h2
  rw [ht] at ht'; cases ht'
  refine fitsB_iff.2 ⟨s, u, hs, hu, e1, ?_⟩
  have d1 : ¬ (t.l = false ∧ t.r = false) := fun x => by
    unfold endB at e2
    cases right
    · rw [show (!false) = true from rfl, if_pos rfl, x.2] at e2; cases e2
    · rw [show (!true) = false from rfl, if_neg (by decide), x.1] at e2; cases e2
  rcases c2 with hc | hc
  · exact .inl hc
  · right
    rcases c1.resolve_left d1 with g1 | ⟨g1, a1, b1⟩
    · rcases hc with g2 | ⟨g2, _, _⟩
      · exact .inl (tgt_trans h g1 g2)
      · rw [← g2]; exact .inl g1
    · rcases hc with g2 | ⟨_, a2, _⟩
      · rw [g1]; exact .inl g2
      · rw [b1] at a2
        cases right
        · exact absurd a2 (by decide)
        · exact absurd a2 (by decide)

/-! ### Parts and leaves -/

/-- What Part tells of a token's kind and text. -/
def partB (k : Int) (s name : Nm) : Bool := (k == 1 || (k == 2 || k == 6)) && s == name
/-- What Leaf tells, where fr says that no operator has the text as a part. -/
def leafB (k : Int) (fr : Bool) : Bool := (k == 3 || (k == 4 || k == 5)) || ((k == 1 || k == 2) && fr)

end Go.Proofs.YtcegbmhnbmfnnaaGreatDoor

/- The rows of an env that is made of changes come of the ladder and edges. No walk here. -/
namespace Go.Proofs.YtcegbmhnbmfnnaaGreatDoor
open Go.RowKit

theorem stq_rows {L : List OP} {z : List Int} (h : RowsOk z) (k g hh : Nat) (o : OP) : RowsOk (stq L z k g hh o).2 := by
  unfold stq
  split
  · rename_i he
    unfold chK at he ⊢
    split
    · rename_i h2
      rw [if_pos h2] at he
      exact rowsOk_edge h he
    · rename_i h2
      rw [if_neg h2] at he
      split
      · rename_i h3
        rw [if_pos h3] at he
        show RowsOk (drpZ L z o.1)
        unfold drpZ
        rw [if_pos he]; exact h
      · rename_i h3
        rw [if_neg h3] at he
        show RowsOk (addZ L z o)
        unfold addZ
        rw [if_pos he]; exact h
  · exact h
theorem mkE_rows (C : List CH) : RowsOk (mkE C).2 := by
  suffices h : ∀ (D : List CH) (s : List OP × List Int), RowsOk s.2 → RowsOk (D.foldl (fun s x => stq s.1 s.2 x.1 x.2.1 x.2.2.1 (fitO x.2.2.2)) s).2 from h C _ rowsOk_start
  intro D
  induction D with
  | nil => exact fun s h => h
  | cons x D ih => exact fun s h => ih _ (stq_rows h _ _ _ _)

end Go.Proofs.YtcegbmhnbmfnnaaGreatDoor

/- An argument that is a token: what it holds, and how long its text is. No walk here. (Built beside scope's texts in round 16, ahead of fits.) -/
namespace Go.Proofs.YtcegbmhnbmfnnaaGreatDoor
open Go.RowKit Go.ChangeShapes Go.WideShapes Go.ChangeAt

theorem cellsTok : Tryz.prog.cellsOf 33 = 5 := by kernel_rfl
theorem cellsErrno : Tryz.prog.cellsOf 31 = 1 := by kernel_rfl

/-- A token that came in: its kind, its places, its text, its error. -/
structure TA where
  k : Int
  f : Int
  t : Int
  s : ByteArray
  e : Int
def TA.d {H : Type} (x : TA) : DataW H := .agg [.lit (.int .i64 x.k), .lit (.int .i64 x.f), .lit (.int .i64 x.t), .lit (.string x.s.data.toList), .lit (.int .i64 x.e)]

section
variable {H : Type} {enc : TypeId × Value → H} {w : World} {base : Nat} {held : Bool}

set_option maxRecDepth 100000 in
theorem token_cells {n : Nat} {cs : List Value} {x : DataW H × List MemPlace} (h : DataW.trod enc Tryz.prog w base (fun _ => true) held n 33 cs = some x) :
    ∃ e : TA, cs = [.int .i64 e.k, .int .i64 e.f, .int .i64 e.t, .string e.s, .int .i64 e.e] ∧ x.1 = e.d := by
  obtain ⟨xs, n', rfl, hx, hl, hlen, hf⟩ := DataW.trod_struct Tryz.underlying33 h
  rw [cellsTok] at hl
  match cs, hl, xs, hlen with
  | [c0, c1, c2, c3, c4], _, [y0, y1, y2, y3, y4], _ =>
    have h0 : DataW.trod enc Tryz.prog w base (fun _ => true) held n' 3 (([c0, c1, c2, c3, c4].drop 0).take (Tryz.prog.cellsOf 3)) = [y0, y1, y2, y3, y4][0]? := hf 0 _ rfl
    have h1 : DataW.trod enc Tryz.prog w base (fun _ => true) held n' 3 (([c0, c1, c2, c3, c4].drop 1).take (Tryz.prog.cellsOf 3)) = [y0, y1, y2, y3, y4][1]? := hf 1 _ rfl
    have h2 : DataW.trod enc Tryz.prog w base (fun _ => true) held n' 3 (([c0, c1, c2, c3, c4].drop 2).take (Tryz.prog.cellsOf 3)) = [y0, y1, y2, y3, y4][2]? := hf 2 _ rfl
    have h3 : DataW.trod enc Tryz.prog w base (fun _ => true) held n' 9 (([c0, c1, c2, c3, c4].drop 3).take (Tryz.prog.cellsOf 9)) = [y0, y1, y2, y3, y4][3]? := hf 3 _ rfl
    have h4 : DataW.trod enc Tryz.prog w base (fun _ => true) held n' 31 (([c0, c1, c2, c3, c4].drop 4).take (Tryz.prog.cellsOf 31)) = [y0, y1, y2, y3, y4][4]? := hf 4 _ rfl
    simp only [cellsStrF, cellsIntF, cellsErrno, List.drop_zero, List.drop_succ_cons, List.take_succ_cons, List.take_zero, List.getElem?_cons_zero, List.getElem?_cons_succ] at h0 h1 h2 h3 h4
    obtain ⟨k, e0, k0⟩ := DataW.trod_int Tryz.underlying3 h0
    obtain ⟨f, e1, k1⟩ := DataW.trod_int Tryz.underlying3 h1
    obtain ⟨t, e2, k2⟩ := DataW.trod_int Tryz.underlying3 h2
    obtain ⟨s, e3, k3, _⟩ := DataW.trod_string Tryz.underlying9 h3
    obtain ⟨e, e4, k4⟩ := DataW.trod_int Tryz.underlying31 h4
    simp only [List.cons.injEq, and_true] at e0 e1 e2 e3 e4
    subst e0; subst e1; subst e2; subst e3; subst e4
    refine ⟨⟨k, f, t, s, e⟩, rfl, ?_⟩
    rw [hx, k0.1, k1.1, k2.1, k3, k4.1]
    rfl

set_option maxRecDepth 100000 in
theorem open_token {r : Reach} {b0 : Nat} {v : Value} {d : DataW H} {ps : List MemPlace} (hv : Value.okWide Tryz.prog w r b0 33 v) (h : DataW.Trod enc Tryz.prog w base (fun _ => true) held 33 v d ps) :
    ∃ e : TA, v = .agg #[.int .i64 e.k, .int .i64 e.f, .int .i64 e.t, .string e.s, .int .i64 e.e] ∧ d = e.d := by
  have h' : ∃ cs, v = .agg cs := by
    unfold Value.okWide at hv
    rw [Tryz.underlying33] at hv
    obtain ⟨cs, h1, _⟩ := hv
    exact ⟨cs, h1⟩
  obtain ⟨cs, rfl⟩ := h'
  obtain ⟨fuel, hf⟩ := h
  obtain ⟨e, he, hd⟩ := token_cells hf
  refine ⟨e, ?_, hd⟩
  have : cs.toList = [.int .i64 e.k, .int .i64 e.f, .int .i64 e.t, .string e.s, .int .i64 e.e] := by simpa [Value.cells] using he
  rw [← Array.toArray_toList (xs := cs), this]

theorem token_size {ts : List TypeId} {ds : List (DataW H)} (h : (DataW.weightsEach Tryz.prog ts ds).all (· ≤ reachBytes) = true) {j : Nat} {e : TA} (ht : ts[j]? = some 33) (hd : ds[j]? = some e.d) : e.s.size ≤ reachBytes := by
  have := List.all_eq_true.1 h _ (DataW.weights_mem_each ht hd e.s.data.toList.length (by simp [TA.d, DataW.weights, DataW.weightsEach, Tryz.underlying33]))
  have h2 := of_decide_eq_true this
  rw [Array.length_toList] at h2
  exact h2

end
end Go.Proofs.YtcegbmhnbmfnnaaGreatDoor

/- An argument that is three operators (T: its type, as the seat that this was built in has none). No walk here. -/
namespace Go.Proofs.YtcegbmhnbmfnnaaGreatDoor
open Go.RowKit Go.ChangeShapes Go.WideShapes Go.ChangeAt

section
variable {H : Type} {enc : TypeId × Value → H} {w : World} {base : Nat} {held : Bool}
def OA.cs (e : OA) : List Value := [.string e.s, .int .i64 e.g, .int .i64 e.a]
set_option maxRecDepth 100000 in
theorem opers3_cells {T : TypeId} (hT : Tryz.prog.underlying T = some (.array 3 28)) (hC : Tryz.prog.cellsOf T = 9) {n : Nat} {cs : List Value} {x : DataW H × List MemPlace} (h : DataW.trod enc Tryz.prog w base (fun _ => true) held n T cs = some x) :
    ∃ a b c : OA, cs = a.cs ++ (b.cs ++ c.cs) ∧ x.1 = .agg [a.d, b.d, c.d] := by
  obtain ⟨xs, n', rfl, hx, hl, hlen, hf⟩ := DataW.trod_array hT h
  rw [hC] at hl
  match cs, hl, xs, hlen with
  | [c0, c1, c2, c3, c4, c5, c6, c7, c8], _, [y0, y1, y2], _ =>
    have h0 := hf 0 (by decide)
    have h1 := hf 1 (by decide)
    have h2 := hf 2 (by decide)
    rw [cellsOper] at h0 h1 h2
    obtain ⟨a, e0, k0⟩ := oper_cells (x := y0) h0
    obtain ⟨b, e1, k1⟩ := oper_cells (x := y1) h1
    obtain ⟨c, e2, k2⟩ := oper_cells (x := y2) h2
    simp only [List.drop_zero, List.take_succ_cons, List.take_zero, List.cons.injEq, and_true, Nat.zero_mul] at e0
    have e1' : [c3, c4, c5] = [.string b.s, .int .i64 b.g, .int .i64 b.a] := e1
    have e2' : [c6, c7, c8] = [.string c.s, .int .i64 c.g, .int .i64 c.a] := e2
    simp only [List.cons.injEq, and_true] at e1' e2'
    obtain ⟨rfl, rfl, rfl⟩ := e0
    obtain ⟨rfl, rfl, rfl⟩ := e1'
    obtain ⟨rfl, rfl, rfl⟩ := e2'
    refine ⟨a, b, c, rfl, ?_⟩
    rw [hx]
    show DataW.agg ([y0, y1, y2].map (·.1)) = _
    simp only [List.map_cons, List.map_nil, k0, k1, k2]
set_option maxRecDepth 100000 in
theorem open_opers3 {T : TypeId} (hT : Tryz.prog.underlying T = some (.array 3 28)) (hC : Tryz.prog.cellsOf T = 9) {r : Reach} {b0 : Nat} {v : Value} {d : DataW H} {ps : List MemPlace} (hv : Value.okWide Tryz.prog w r b0 T v) (h : DataW.Trod enc Tryz.prog w base (fun _ => true) held T v d ps) :
    ∃ a b c : OA, v = .agg #[.string a.s, .int .i64 a.g, .int .i64 a.a, .string b.s, .int .i64 b.g, .int .i64 b.a, .string c.s, .int .i64 c.g, .int .i64 c.a] ∧ d = .agg [a.d, b.d, c.d] := by
  have h' : ∃ cs, v = .agg cs := by
    unfold Value.okWide at hv
    rw [hT] at hv
    obtain ⟨cs, h1, _⟩ := hv
    exact ⟨cs, h1⟩
  obtain ⟨cs, rfl⟩ := h'
  obtain ⟨fuel, hf⟩ := h
  obtain ⟨a, b, c, he, hd⟩ := opers3_cells hT hC hf
  refine ⟨a, b, c, ?_, hd⟩
  have : cs.toList = [.string a.s, .int .i64 a.g, .int .i64 a.a, .string b.s, .int .i64 b.g, .int .i64 b.a, .string c.s, .int .i64 c.g, .int .i64 c.a] := by simpa [Value.cells, OA.cs] using he
  rw [← Array.toArray_toList (xs := cs), this]
end
end Go.Proofs.YtcegbmhnbmfnnaaGreatDoor
