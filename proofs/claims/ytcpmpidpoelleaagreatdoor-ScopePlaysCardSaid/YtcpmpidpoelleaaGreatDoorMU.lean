/- Texts laid one behind the other. -/
import Derived.Test.YtcpmpidpoelleaaGreatDoorML
import Derived.Test.YtcpmpidpoelleaaGreatDoorMN
import Derived.Test.YtcpmpidpoelleaaGreatDoorMO
import Derived.Test.YtcpmpidpoelleaaGreatDoorMQ

/- Mathematics of scopes; rows of envs. No walk here. (Built beside env's texts in round 15, ahead of scope.) -/
namespace Go.Proofs.YtcpmpidpoelleaaGreatDoor
open Go.RowKit

/-! ### Envs and scopes -/

/-- An env: its operators, its rows. -/
abbrev EV := List OP × List Int
structure SC where
  e : EV
  st : List EV
/-- The empty scope, and the one with which all begins. -/
def sc0 : SC := ⟨([], z0), []⟩
def scS : SC := ⟨([], zS), []⟩
/-- A directive: its kind, its operator, two groups. -/
abbrev DV := Int × OP × Int × Int

/-- What Step answers. -/
def stpE (s : SC) (d : DV) : Int :=
  if d.1 = 1 then addE s.e.1 d.2.1 else if d.1 = 2 then drpE s.e.1 d.2.1.1 else if d.1 = 3 then eE s.e.2 d.2.2.1 d.2.2.2
  else if d.1 = 4 then (if 6 ≤ s.st.length then 26 else 0) else if d.1 = 5 then (if s.st.length = 0 then 26 else 0) else 20
/-- What it makes, if nothing is wrong. -/
def stpG (s : SC) (d : DV) : SC :=
  if d.1 = 1 then ⟨(addL s.e.1 d.2.1, s.e.2), s.st⟩ else if d.1 = 2 then ⟨(drpL s.e.1 d.2.1.1, s.e.2), s.st⟩ else if d.1 = 3 then ⟨(s.e.1, eV s.e.2 d.2.2.1 d.2.2.2), s.st⟩
  else if d.1 = 4 then ⟨s.e, s.st ++ [s.e]⟩ else ⟨s.st.getD (s.st.length - 1) ([], z0), s.st.take (s.st.length - 1)⟩
def stpV (s : SC) (d : DV) : SC := if stpE s d = 0 then stpG s d else sc0
/-- And as it was, if it is refused. -/
def nxtV (s : SC) (d : DV) : SC := if stpE s d = 0 then stpG s d else s

theorem addL_subZ {L : List OP} {o x : OP} (h : x ∈ addL L o) : x = o ∨ x ∈ L := by
  unfold addL at h
  rcases List.mem_append.1 h with h | h
  · rcases List.mem_append.1 h with h | h
    · exact .inr (List.mem_of_mem_take h)
    · exact .inl (List.mem_singleton.1 h)
  · exact .inr (List.mem_of_mem_drop h)
theorem drpL_subZ {L : List OP} {p : Nm} {x : OP} (h : x ∈ drpL L p) : x ∈ L := by
  unfold drpL at h
  split at h
  · cases h
  · rcases List.mem_append.1 h with h | h
    · exact List.mem_of_mem_take h
    · exact List.mem_of_mem_drop h
theorem drpL_leZ (L : List OP) (p : Nm) : (drpL L p).length ≤ L.length := by
  unfold drpL
  split
  · simp
  · rw [List.length_append, List.length_take, List.length_drop]; omega

/-- An env that may be: each operator may be, 16 at most. -/
def okV (x : EV) : Prop := (∀ o ∈ x.1, mayV o.1 o.2.1 o.2.2 = 0) ∧ x.1.length ≤ 16 ∧ x.2.length = 10 ∧ ∀ i, i < 10 → I64 (bt x.2 i)
theorem okV_start : okV ([], zS) := ⟨(fun o h => by cases h), by simp, rfl, fun i hi => by have := zS_rng i hi; unfold I64; exact this⟩
theorem may_len {p : Nm} {g a : Int} (h : mayV p g a = 0) : p.length ≤ 40 := by
  by_cases hl : 40 < p.length
  · rw [mayV_none (ofS_big hl)] at h; cases h
  · omega
theorem okV_len {x : EV} (h : okV x) : ∀ o ∈ x.1, o.1.length ≤ 40 := fun o ho => may_len (h.1 o ho)
theorem addE_may {L : List OP} {o : OP} (he : addE L o = 0) : mayV o.1 o.2.1 o.2.2 = 0 := by
  by_cases hm : mayV o.1 o.2.1 o.2.2 = 0
  · exact hm
  · obtain ⟨h1, h2⟩ := addE_bad (L := L) hm
    exact absurd he h2
theorem okV_add {x : EV} (h : okV x) {o : OP} (he : addE x.1 o = 0) : okV (addL x.1 o, x.2) := by
  have hm := addE_may he
  refine ⟨fun y hy => ?_, ?_, h.2.2⟩
  · rcases addL_subZ hy with rfl | hy
    · exact hm
    · exact h.1 y hy
  · show (addL x.1 o).length ≤ 16
    rw [addL_len]
    have h16 := h.2.1
    by_cases hh : hitL x.1 o.1 = true
    · rw [if_pos hh]; omega
    · have hf : hitL x.1 o.1 = false := by simpa using hh
      rw [if_neg hh]
      by_cases hl : 16 ≤ x.1.length
      · rw [addE_full hm hf hl] at he; cases he
      · omega
theorem okV_drop {x : EV} (h : okV x) (p : Nm) : okV (drpL x.1 p, x.2) := ⟨fun y hy => h.1 y (drpL_subZ hy), Nat.le_trans (drpL_leZ _ _) h.2.1, h.2.2⟩
theorem okV_edge {x : EV} (h : okV x) (g k : Int) : okV (x.1, eV x.2 g k) := ⟨h.1, h.2.1, eV_len .., eV_rng h.2.2.2 _ _⟩

/-- A scope that may be. -/
def okS (s : SC) : Prop := okV s.e ∧ (∀ x ∈ s.st, okV x) ∧ s.st.length ≤ 6
theorem okS_start : okS scS := ⟨okV_start, (fun x h => by cases h), by simp [scS]⟩
theorem okS_step {s : SC} (h : okS s) {d : DV} (he : stpE s d = 0) : okS (stpG s d) := by
  unfold stpE at he
  unfold stpG
  split
  · rename_i h1
    rw [if_pos h1] at he
    exact ⟨okV_add h.1 he, h.2⟩
  · rename_i h1
    rw [if_neg h1] at he
    split
    · exact ⟨okV_drop h.1 _, h.2⟩
    · rename_i h2
      rw [if_neg h2] at he
      split
      · exact ⟨okV_edge h.1 _ _, h.2⟩
      · rename_i h3
        rw [if_neg h3] at he
        split
        · rename_i h4
          rw [if_pos h4] at he
          have h6 : ¬ 6 ≤ s.st.length := fun h6 => by rw [if_pos h6] at he; cases he
          refine ⟨h.1, fun x hx => ?_, by rw [List.length_append]; simp; omega⟩
          rcases List.mem_append.1 hx with hx | hx
          · exact h.2.1 x hx
          · rw [List.mem_singleton.1 hx]; exact h.1
        · rename_i h4
          rw [if_neg h4] at he
          have h5 : d.1 = 5 := by
            by_cases h5 : d.1 = 5
            · exact h5
            · rw [if_neg h5] at he; cases he
          rw [if_pos h5] at he
          have h0 : s.st.length ≠ 0 := fun h0 => by rw [if_pos h0] at he; cases he
          refine ⟨?_, fun x hx => h.2.1 x (List.mem_of_mem_take hx), by have := h.2.2; simp; omega⟩
          have hlt : s.st.length - 1 < s.st.length := by omega
          have : s.st.getD (s.st.length - 1) ([], z0) = s.st[s.st.length - 1] := by simp [List.getD, hlt]
          show okV (s.st.getD (s.st.length - 1) ([], z0))
          rw [this]
          exact h.2.1 _ (List.getElem_mem hlt)
theorem okS_next {s : SC} (h : okS s) (d : DV) : okS (nxtV s d) := by
  unfold nxtV
  split
  · rename_i he; exact okS_step h he
  · exact h

/-! ### A block leaves no trace -/

/-- The env that holds outside of all blocks. -/
def outV (s : SC) : EV := (s.st ++ [s.e]).headD ([], z0)
theorem out_begin (s : SC) : outV ⟨s.e, s.st ++ [s.e]⟩ = outV s := by
  unfold outV
  cases s.st with
  | nil => rfl
  | cons x l => rfl
theorem out_in (s : SC) (e : EV) (h : s.st ≠ []) : outV ⟨e, s.st⟩ = outV s := by
  unfold outV
  cases hs : s.st with
  | nil => exact absurd hs h
  | cons x l => rfl
theorem out_end (s : SC) (h : 0 < s.st.length) : outV ⟨s.st.getD (s.st.length - 1) ([], z0), s.st.take (s.st.length - 1)⟩ = outV s := by
  unfold outV
  have hlt : s.st.length - 1 < s.st.length := by omega
  have e : s.st.take (s.st.length - 1) ++ [s.st.getD (s.st.length - 1) ([], z0)] = s.st := by
    have hg : s.st.getD (s.st.length - 1) ([], z0) = s.st[s.st.length - 1] := by simp [List.getD, hlt]
    rw [hg]
    have := (List.take_succ_eq_append_getElem hlt).symm
    rw [this, List.take_of_length_le (by omega)]
  show ((s.st.take (s.st.length - 1) ++ [s.st.getD (s.st.length - 1) ([], z0)])).headD ([], z0) = _
  rw [e]
  cases hs : s.st with
  | nil => rw [hs] at h; cases h
  | cons x l => rfl
theorem out_done {s : SC} (h : s.st.length = 0) : outV s = s.e := by
  unfold outV
  rw [List.eq_nil_of_length_eq_zero h]; rfl
/-- What is declared changes no block. -/
theorem decl_st {s : SC} {d : DV} (h : d.1 = 1 ∨ d.1 = 2 ∨ d.1 = 3) : (nxtV s d).st = s.st := by
  unfold nxtV
  split
  · unfold stpG
    rcases h with h | h | h
    · rw [if_pos h]
    · rw [if_neg (by omega), if_pos h]
    · rw [if_neg (by omega), if_neg (by omega), if_pos h]
  · rfl
theorem decl_out {s : SC} {d : DV} (h : d.1 = 1 ∨ d.1 = 2 ∨ d.1 = 3) (hs : s.st ≠ []) : outV (nxtV s d) = outV s := by
  have e1 : nxtV s d = ⟨(nxtV s d).e, s.st⟩ := by
    have := decl_st (s := s) h
    rw [← this]
  rw [e1]
  exact out_in s _ hs

/-! ### Rows of envs: eleven cells each, a slice of operators and ten numbers -/

/-- An env as a value: its slice, what it reads as, its rows. -/
structure AV where
  a : Option Addr
  n : Nat
  c : Nat
  L : List OP
  z : List Int
def AV.k (x : AV) : EV := (x.L, x.z)
def rowA (V : List AV) : List Value := V.flatMap fun x => (ev x.a x.n x.c x.z).toList
def AV.ok (w : World) (x : AV) : Prop := OpS w x.a x.n x.c x.L ∧ x.z.length = 10
theorem ev_list {a : Option Addr} {n c : Nat} {z : List Int} (hz : z.length = 10) : (ev a n c z).toList.length = 11 := by rw [Array.length_toList, ev_size hz]
theorem rowA_app (A B : List AV) : rowA (A ++ B) = rowA A ++ rowA B := by simp [rowA]
theorem rowA_len : ∀ V : List AV, (∀ x ∈ V, x.z.length = 10) → (rowA V).length = V.length * 11
  | [], _ => rfl
  | x :: V, h => by
    have ih := rowA_len V fun y hy => h y (List.mem_cons_of_mem _ hy)
    show ((ev x.a x.n x.c x.z).toList ++ rowA V).length = _
    rw [List.length_append, ev_list (h x (List.mem_cons_self ..)), ih, List.length_cons]; omega
theorem rowA_one : ∀ V : List AV, ∀ u ∈ rowA V, u.oneCell' = true
  | [], u, h => by cases h
  | x :: V, u, h => by
    rcases List.mem_append.1 (show u ∈ (ev x.a x.n x.c x.z).toList ++ rowA V from h) with h | h
    · have := ev_one x.a x.n x.c x.z
      rw [Array.all_eq_true_iff_forall_mem] at this
      exact this u (by simpa using h)
    · exact rowA_one V u h
theorem rowA_at : ∀ (V : List AV), (∀ x ∈ V, x.z.length = 10) → ∀ (k : Nat) (h : k < V.length), ∀ j, j < 11 → (rowA V)[k * 11 + j]? = (ev V[k].a V[k].n V[k].c V[k].z).toList[j]?
  | x :: V, hz, 0, h, j, hj => by
    show ((ev x.a x.n x.c x.z).toList ++ rowA V)[0 * 11 + j]? = _
    rw [Nat.zero_mul, Nat.zero_add, List.getElem?_append_left (by rw [ev_list (hz x (List.mem_cons_self ..))]; exact hj)]
    rfl
  | x :: V, hz, k + 1, h, j, hj => by
    have ih := rowA_at V (fun y hy => hz y (List.mem_cons_of_mem _ hy)) k (by simpa using h) j hj
    show ((ev x.a x.n x.c x.z).toList ++ rowA V)[(k + 1) * 11 + j]? = _
    rw [List.getElem?_append_right (by rw [ev_list (hz x (List.mem_cons_self ..))]; omega), ev_list (hz x (List.mem_cons_self ..)), show (k + 1) * 11 + j - 11 = k * 11 + j by omega, ih]
    rfl
def avA (V : List AV) (k : Nat) : AV := V.getD k ⟨none, 0, 0, [], z0⟩
theorem avA_eq {V : List AV} {k : Nat} (h : k < V.length) : avA V k = V[k] := by simp [avA, List.getD, h]
theorem avA_mem {V : List AV} {k : Nat} (h : k < V.length) : avA V k ∈ V := by rw [avA_eq h]; exact List.getElem_mem h
/-- The slice value (a, len, cap) reads as these envs. -/
structure Sk (w : World) (a : Option Addr) (n c : Nat) (V : List AV) : Prop where
  row : Vs 11 w a n c (rowA V)
  ok : ∀ x ∈ V, x.ok w
theorem Sk.len {w : World} {a : Option Addr} {n c : Nat} {V : List AV} (h : Sk w a n c V) : V.length = n := by
  have := h.row.hl
  rw [rowA_len V fun x hx => (h.ok x hx).2] at this
  omega
theorem Sk.below {w w' : World} {a : Option Addr} {n c : Nat} {V : List AV} (h : Sk w a n c V) (hb : Below w.heap.size w w') : Sk w' a n c V :=
  ⟨Vs.below h.row hb, fun x hx => ⟨Vs.below (h.ok x hx).1 hb, (h.ok x hx).2⟩⟩
theorem Sk.nil (w : World) (a : Option Addr) (c : Nat) (hc : c ≤ maxLen) : Sk w a 0 c [] := ⟨Vs.nil 11 w a c hc, fun x hx => by cases hx⟩
/-- The eleven cells of the env at k. -/
theorem Sk.at {w : World} {b o n c : Nat} {V : List AV} (h : Sk w (some ⟨b, o, none⟩) n c V) {k : Nat} (hk : k < n) {j : Nat} (hj : j < 11) :
    w.cell? ⟨b, o + k * 11 + j, none⟩ = (ev (avA V k).a (avA V k).n (avA V k).c (avA V k).z)[j]? := by
  have hl := h.len
  rw [Nat.add_assoc, Vs.cells h.row (by omega) (by omega), rowA_at V (fun x hx => (h.ok x hx).2) k (by omega) j hj, avA_eq (by omega)]
  simp

end Go.Proofs.YtcpmpidpoelleaaGreatDoor

/- A slice of directives as an argument (T: its type, as the seat that this was built in has none). No walk here. -/
namespace Go.Proofs.YtcpmpidpoelleaaGreatDoor
open Go.RowKit Go.ChangeShapes Go.WideShapes Go.ChangeAt

theorem cellsDecl : Tryz.prog.cellsOf 37 = 6 := by kernel_rfl

/-! ### Rows of directives -/

def dvC (x : DV) : List Value := [.int .i64 x.1, .string (mk x.2.1.1), .int .i64 x.2.1.2.1, .int .i64 x.2.1.2.2, .int .i64 x.2.2.1, .int .i64 x.2.2.2]
def cD (D : List DV) : List Value := D.flatMap dvC
theorem cD_len : ∀ D : List DV, (cD D).length = D.length * 6
  | [] => rfl
  | x :: D => by
    show (dvC x ++ cD D).length = _
    rw [List.length_append, cD_len D, List.length_cons]
    simp [dvC]; omega
theorem cD_at : ∀ (D : List DV) (k : Nat) (h : k < D.length), ∀ j, j < 6 → (cD D)[k * 6 + j]? = (dvC D[k])[j]?
  | x :: D, 0, h, j, hj => by
    show (dvC x ++ cD D)[0 * 6 + j]? = _
    rw [Nat.zero_mul, Nat.zero_add, List.getElem?_append_left (by simpa [dvC] using hj)]
    rfl
  | x :: D, k + 1, h, j, hj => by
    have ih := cD_at D k (by simpa using h) j hj
    show (dvC x ++ cD D)[(k + 1) * 6 + j]? = _
    rw [List.getElem?_append_right (by simp [dvC]; omega), show (k + 1) * 6 + j - (dvC x).length = k * 6 + j by simp [dvC]; omega, ih]
    rfl
def dvA (D : List DV) (k : Nat) : DV := D.getD k (0, ([], 0, 0), 0, 0)
theorem dvA_eq {D : List DV} {k : Nat} (h : k < D.length) : dvA D k = D[k] := by simp [dvA, List.getD, h]
theorem dvA_mem {D : List DV} {k : Nat} (h : k < D.length) : dvA D k ∈ D := by rw [dvA_eq h]; exact List.getElem_mem h
theorem dvA_take {D : List DV} {k : Nat} (h : k < D.length) : D.take (k + 1) = D.take k ++ [dvA D k] := by rw [List.take_add_one, dvA_eq h]; simp [h]
abbrev DvS (w : World) (a : Option Addr) (n c : Nat) (D : List DV) : Prop := Vs 6 w a n c (cD D)
theorem DvS.len {w : World} {a : Option Addr} {n c : Nat} {D : List DV} (h : DvS w a n c D) : D.length = n := by
  have := Vs.hl h; rw [cD_len] at this; omega
theorem DvS.at6 {w : World} {b o n c : Nat} {D : List DV} (h : DvS w (some ⟨b, o, none⟩) n c D) {k : Nat} (hk : k < n) :
    w.cell? ⟨b, o + k * 6, none⟩ = some (.int .i64 (dvA D k).1) ∧ w.cell? ⟨b, o + k * 6 + 1, none⟩ = some (.string (mk (dvA D k).2.1.1)) ∧ w.cell? ⟨b, o + k * 6 + 2, none⟩ = some (.int .i64 (dvA D k).2.1.2.1) ∧ w.cell? ⟨b, o + k * 6 + 3, none⟩ = some (.int .i64 (dvA D k).2.1.2.2) ∧ w.cell? ⟨b, o + k * 6 + 4, none⟩ = some (.int .i64 (dvA D k).2.2.1) ∧ w.cell? ⟨b, o + k * 6 + 5, none⟩ = some (.int .i64 (dvA D k).2.2.2) := by
  have hl := DvS.len h
  have key : ∀ j, j < 6 → w.cell? ⟨b, o + (k * 6 + j), none⟩ = (dvC (dvA D k))[j]? := fun j hj => by
    rw [Vs.cells h (by omega) (by omega), cD_at D k (by omega) j hj, dvA_eq (by omega)]
  exact ⟨key 0 (by omega), key 1 (by omega), key 2 (by omega), key 3 (by omega), key 4 (by omega), key 5 (by omega)⟩

/-- A directive that came in. -/
structure DA where
  k : Int
  o : OA
  g : Int
  h : Int
def DA.d {H : Type} (e : DA) : DataW H := .agg [.lit (.int .i64 e.k), e.o.d, .lit (.int .i64 e.g), .lit (.int .i64 e.h)]
def DA.dv (e : DA) : DV := (e.k, e.o.op, e.g, e.h)
theorem da_weight {H : Type} (e : DA) : e.o.s.data.toList.length ∈ (e.d : DataW H).weights Tryz.prog 37 := by
  simp [DA.d, OA.d, DataW.weights, DataW.weightsEach, Tryz.underlying37, Tryz.underlying35]
/-- What Go's int may be. -/
def dvI (x : DV) : Prop := I64 x.1 ∧ I64 x.2.2.1 ∧ I64 x.2.2.2
theorem i64_of {c : Int} (h : (Lit.int .i64 c).wf = true) : I64 c := by
  have h3 : IntKind.i64.min = -9223372036854775808 := rfl
  have h4 : IntKind.i64.max = 9223372036854775807 := rfl
  simp only [Lit.wf, Bool.and_eq_true, decide_eq_true_eq] at h
  unfold I64
  omega

section
variable {H : Type} {enc : TypeId × Value → H} {w : World} {base : Nat} {held : Bool}

set_option maxRecDepth 100000 in
theorem decl_cells {n : Nat} {cs : List Value} {x : DataW H × List MemPlace} (hh : DataW.trod enc Tryz.prog w base (fun _ => true) held n 37 cs = some x) :
    ∃ e : DA, dvI e.dv ∧ cs = dvC e.dv ∧ x.1 = e.d := by
  obtain ⟨xs, n', rfl, hx, hl, hlen, hf⟩ := DataW.trod_struct Tryz.underlying37 hh
  rw [cellsDecl] at hl
  match cs, hl, xs, hlen with
  | [c0, c1, c2, c3, c4, c5], _, [y0, y1, y2, y3], _ =>
    have h0 : DataW.trod enc Tryz.prog w base (fun _ => true) held n' 3 (([c0, c1, c2, c3, c4, c5].drop 0).take (Tryz.prog.cellsOf 3)) = [y0, y1, y2, y3][0]? := hf 0 _ rfl
    have h1 : DataW.trod enc Tryz.prog w base (fun _ => true) held n' 35 (([c0, c1, c2, c3, c4, c5].drop 1).take (Tryz.prog.cellsOf 35)) = [y0, y1, y2, y3][1]? := hf 1 _ rfl
    have h2 : DataW.trod enc Tryz.prog w base (fun _ => true) held n' 3 (([c0, c1, c2, c3, c4, c5].drop 4).take (Tryz.prog.cellsOf 3)) = [y0, y1, y2, y3][2]? := hf 2 _ rfl
    have h3 : DataW.trod enc Tryz.prog w base (fun _ => true) held n' 3 (([c0, c1, c2, c3, c4, c5].drop 5).take (Tryz.prog.cellsOf 3)) = [y0, y1, y2, y3][3]? := hf 3 _ rfl
    simp only [cellsOper, cellsIntF, List.drop_zero, List.drop_succ_cons, List.take_succ_cons, List.take_zero, List.getElem?_cons_zero, List.getElem?_cons_succ] at h0 h1 h2 h3
    obtain ⟨p, e0, k0, w0⟩ := DataW.trod_int Tryz.underlying3 h0
    obtain ⟨o, e1, k1⟩ := oper_cells h1
    obtain ⟨q, e2, k2, w2⟩ := DataW.trod_int Tryz.underlying3 h2
    obtain ⟨r, e3, k3, w3⟩ := DataW.trod_int Tryz.underlying3 h3
    simp only [List.cons.injEq, and_true] at e0 e1 e2 e3
    obtain ⟨rfl, rfl, rfl⟩ := e1
    subst e0; subst e2; subst e3
    refine ⟨⟨p, o, q, r⟩, ⟨i64_of w0, i64_of w2, i64_of w3⟩, ?_, ?_⟩
    · unfold dvC DA.dv OA.op
      dsimp only
      rw [mk_data]
    · rw [hx]
      show DataW.agg ([y0, y1, y2, y3].map (·.1)) = _
      simp only [List.map_cons, List.map_nil, k0, k1, k2, k3]
      rfl

theorem open_declsT {T : TypeId} (hT : Tryz.prog.underlying T = some (.slice 37)) {a : Option Addr} {len cap : Nat} {d : DataW H} {ps : List MemPlace} (h : DataW.Trod enc Tryz.prog w base (fun _ => true) held T (.slice a len cap) d ps) :
    ∃ D : List DV, DvS w a len cap D ∧ (∀ x ∈ D, dvI x) ∧ ((∀ n ∈ d.weights Tryz.prog T, n ≤ reachBytes) → ∀ x ∈ D, x.2.1.1.length ≤ reachBytes) := by
  obtain ⟨fuel, hf⟩ := h
  rcases Go.Deep.open_slice hT hf with ⟨hcs, _⟩ | ⟨x, l, c, m, n, D, Pl, hcs, hb, hl, hm, hmm, hd, hx⟩
  · simp [Value.cells] at hcs
    obtain ⟨rfl, rfl, rfl⟩ := hcs
    exact ⟨[], Vs.nil 6 w none 0 (Nat.zero_le _), (fun o ho => by cases ho), fun _ o ho => by cases ho⟩
  · simp [Value.cells] at hcs
    obtain ⟨rfl, rfl, rfl⟩ := hcs
    rw [if_pos rfl] at hmm
    subst hmm
    have key : ∀ i, i < len → ∃ e : DA, (∀ j, j < 6 → w.cell? (x.add (i * 6 + j)) = (dvC e.dv)[j]?) ∧ dvI e.dv ∧ D i = e.d := by
      intro i hi
      obtain ⟨cs', h1, h2⟩ := hx i (by omega)
      rw [cellsDecl] at h1
      obtain ⟨e, hb, rfl, he⟩ := decl_cells h2
      obtain ⟨_, _, h3⟩ := World.cells?_some h1
      exact ⟨e, fun j hj => by rw [← Go.Deep.add_add, h3 j hj], hb, he⟩
    have : Inhabited DA := ⟨⟨0, ⟨ByteArray.empty, 0, 0⟩, 0, 0⟩⟩
    obtain ⟨F, hF⟩ := Go.Deep.choose_lt key
    have hlen : ((List.range len).map fun i => (F i).dv).length = len := by simp
    refine ⟨(List.range len).map fun i => (F i).dv, ⟨by rw [cD_len, hlen], hl, hm, fun h0 => ?_⟩, fun o ho => ?_, fun hw o ho => ?_⟩
    · obtain ⟨b, off, spot⟩ := x
      have h1 := (hF 0 h0).1 0 (by decide)
      have hspot : spot = none := by simpa [Addr.add] using World.cell?_spot h1
      subst hspot
      refine ⟨b, off, rfl, ?_, fun j hj => ?_⟩
      · have := World.block_lt_of_cell? w _ h1
        simpa [Addr.add] using this
      · obtain ⟨i, r, hr, rfl⟩ : ∃ i r, r < 6 ∧ j = i * 6 + r := ⟨j / 6, j % 6, by omega, by omega⟩
        have hi : i < len := by omega
        have h2 := (hF i hi).1 r hr
        have h3 := cD_at ((List.range len).map fun i => (F i).dv) i (by omega) r hr
        simp only [List.getElem_map, List.getElem_range] at h3
        rw [addr_add] at h2
        rw [h2, h3]
    · obtain ⟨i, hi, rfl⟩ := List.mem_map.1 ho
      exact (hF i (List.mem_range.1 hi)).2.1
    · obtain ⟨i, hi, rfl⟩ := List.mem_map.1 ho
      have hil := List.mem_range.1 hi
      refine hw _ ?_
      obtain rfl := (Prod.mk.inj hd).1
      unfold DataW.weights
      rw [hT]
      refine List.mem_cons_of_mem _ (List.mem_append.2 (.inl (weights_all (List.mem_map.2 ⟨i, hi, rfl⟩) ?_)))
      rw [(hF i hil).2.2]
      exact da_weight (F i)

end
end Go.Proofs.YtcpmpidpoelleaaGreatDoor

/- Directives that may be; rows of scopes. No walk here. -/
namespace Go.Proofs.YtcpmpidpoelleaaGreatDoor
open Go.RowKit

/-! ### Directives that may be -/

def fit5 (k : Int) : Int := Int.tmod (Int.tmod k 5 + 5) 5
def fit9 (k : Int) : Int := Int.tmod (Int.tmod k 9 + 9) 9
theorem tmod_small {k : Int} {n : Nat} (hn : 0 < n) : -(n : Int) < Int.tmod k n ∧ Int.tmod k n < n := by
  have h1 := Int.tmod_lt_of_pos k (show (0 : Int) < n by omega)
  have h2 := Int.lt_tmod_of_pos k (show (0 : Int) < n by omega)
  omega
theorem fit5_rng (k : Int) : 0 ≤ fit5 k ∧ fit5 k ≤ 4 := by
  have h : -5 < Int.tmod k 5 ∧ Int.tmod k 5 < 5 := tmod_small (k := k) (n := 5) (by decide)
  unfold fit5
  rw [Int.tmod_eq_emod_of_nonneg (by have := h.1; omega)]
  omega
theorem fit9_rng (k : Int) : 0 ≤ fit9 k ∧ fit9 k ≤ 8 := by
  have h : -9 < Int.tmod k 9 ∧ Int.tmod k 9 < 9 := tmod_small (k := k) (n := 9) (by decide)
  unfold fit9
  rw [Int.tmod_eq_emod_of_nonneg (by have := h.1; omega)]
  omega
/-- A directive made such as may be. -/
def fitD (d : DV) : DV := (1 + fit5 d.1, (if 1 + fit5 d.1 = 2 then ((fitO d.2.1).1, 0, 0) else fitO d.2.1), 1 + fit9 d.2.2.1, 1 + fit9 d.2.2.2)
theorem fitD_rng (d : DV) : (1 ≤ (fitD d).1 ∧ (fitD d).1 ≤ 5) ∧ (fitD d).2.1.1.length ≤ 20 ∧ (1 ≤ (fitD d).2.2.1 ∧ (fitD d).2.2.1 ≤ 9) ∧ (1 ≤ (fitD d).2.2.2 ∧ (fitD d).2.2.2 ≤ 9) := by
  have h1 := fit5_rng d.1
  have h2 := fit9_rng d.2.2.1
  have h3 := fit9_rng d.2.2.2
  have h4 := fitO_good d.2.1
  unfold fitD
  refine ⟨⟨by dsimp only; omega, by dsimp only; omega⟩, ?_, ⟨by dsimp only; omega, by dsimp only; omega⟩, by dsimp only; omega, by dsimp only; omega⟩
  dsimp only
  split
  · exact h4.2
  · exact h4.2

/-! ### Rows of scopes: an env's eleven cells, and a slice of envs -/

/-- A scope as a value. -/
structure XV where
  e : AV
  a : Option Addr
  n : Nat
  c : Nat
  V : List AV
def XV.k (x : XV) : SC := ⟨x.e.k, x.V.map AV.k⟩
/-- Its twelve cells. -/
def XV.cs (x : XV) : List Value := (ev x.e.a x.e.n x.e.c x.e.z).toList ++ [.slice x.a x.n x.c]
def XV.ok (w : World) (x : XV) : Prop := x.e.ok w ∧ Sk w x.a x.n x.c x.V
theorem XV.below {w w' : World} {x : XV} (h : x.ok w) (hb : Below w.heap.size w w') : x.ok w' := ⟨⟨Vs.below h.1.1 hb, h.1.2⟩, h.2.below hb⟩
theorem XV.len {x : XV} (hz : x.e.z.length = 10) : x.cs.length = 12 := by unfold XV.cs; rw [List.length_append, ev_list hz]; rfl
theorem XV.one (x : XV) : ∀ u ∈ x.cs, u.oneCell' = true := fun u h => by
  rcases List.mem_append.1 h with h | h
  · have := ev_one x.e.a x.e.n x.e.c x.e.z
    rw [Array.all_eq_true_iff_forall_mem] at this
    exact this u (by simpa using h)
  · rw [List.mem_singleton.1 h]; rfl
def rowX (X : List XV) : List Value := X.flatMap XV.cs
theorem rowX_app (A B : List XV) : rowX (A ++ B) = rowX A ++ rowX B := by simp [rowX]
theorem rowX_one : ∀ X : List XV, ∀ u ∈ rowX X, u.oneCell' = true := fun X u h => by
  obtain ⟨x, _, hx⟩ := List.mem_flatMap.1 h
  exact XV.one x u hx
theorem rowX_len : ∀ X : List XV, (∀ x ∈ X, x.e.z.length = 10) → (rowX X).length = X.length * 12
  | [], _ => rfl
  | x :: X, h => by
    have ih := rowX_len X fun y hy => h y (List.mem_cons_of_mem _ hy)
    show (x.cs ++ rowX X).length = _
    rw [List.length_append, XV.len (h x (List.mem_cons_self ..)), ih, List.length_cons]; omega
theorem rowX_at : ∀ (X : List XV), (∀ x ∈ X, x.e.z.length = 10) → ∀ (k : Nat) (h : k < X.length), ∀ j, j < 12 → (rowX X)[k * 12 + j]? = X[k].cs[j]?
  | x :: X, hz, 0, h, j, hj => by
    show (x.cs ++ rowX X)[0 * 12 + j]? = _
    rw [Nat.zero_mul, Nat.zero_add, List.getElem?_append_left (by rw [XV.len (hz x (List.mem_cons_self ..))]; exact hj)]
    rfl
  | x :: X, hz, k + 1, h, j, hj => by
    have ih := rowX_at X (fun y hy => hz y (List.mem_cons_of_mem _ hy)) k (by simpa using h) j hj
    show (x.cs ++ rowX X)[(k + 1) * 12 + j]? = _
    rw [List.getElem?_append_right (by rw [XV.len (hz x (List.mem_cons_self ..))]; omega), XV.len (hz x (List.mem_cons_self ..)), show (k + 1) * 12 + j - 12 = k * 12 + j by omega, ih]
    rfl
def xvA (X : List XV) (k : Nat) : XV := X.getD k ⟨⟨none, 0, 0, [], z0⟩, none, 0, 0, []⟩
theorem xvA_eq {X : List XV} {k : Nat} (h : k < X.length) : xvA X k = X[k] := by simp [xvA, List.getD, h]
theorem xvA_mem {X : List XV} {k : Nat} (h : k < X.length) : xvA X k ∈ X := by rw [xvA_eq h]; exact List.getElem_mem h
/-- The slice value (a, len, cap) reads as these scopes. -/
structure Sx (w : World) (a : Option Addr) (n c : Nat) (X : List XV) : Prop where
  row : Vs 12 w a n c (rowX X)
  ok : ∀ x ∈ X, x.ok w
theorem Sx.len {w : World} {a : Option Addr} {n c : Nat} {X : List XV} (h : Sx w a n c X) : X.length = n := by
  have := h.row.hl
  rw [rowX_len X fun x hx => (h.ok x hx).1.2] at this
  omega
theorem Sx.below {w w' : World} {a : Option Addr} {n c : Nat} {X : List XV} (h : Sx w a n c X) (hb : Below w.heap.size w w') : Sx w' a n c X :=
  ⟨Vs.below h.row hb, fun x hx => XV.below (h.ok x hx) hb⟩
/-- The twelve cells of the scope at k. -/
theorem Sx.at {w : World} {b o n c : Nat} {X : List XV} (h : Sx w (some ⟨b, o, none⟩) n c X) {k : Nat} (hk : k < n) {j : Nat} (hj : j < 12) :
    w.cell? ⟨b, o + k * 12 + j, none⟩ = (xvA X k).cs[j]? := by
  have hl := h.len
  rw [Nat.add_assoc, Vs.cells h.row (by omega) (by omega), rowX_at X (fun x hx => (h.ok x hx).1.2) k (by omega) j hj, xvA_eq (by omega)]

end Go.Proofs.YtcpmpidpoelleaaGreatDoor
