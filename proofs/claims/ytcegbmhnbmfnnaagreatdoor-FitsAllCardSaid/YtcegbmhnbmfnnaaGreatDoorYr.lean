/- An argument that is an env: what it holds (XAo without the calls: for a seat that makes envs of changes). No walk here. -/
import Derived.Test.YtcegbmhnbmfnnaaGreatDoorMQ
namespace Go.Proofs.YtcegbmhnbmfnnaaGreatDoor
open Go.RowKit Go.ChangeShapes Go.WideShapes Go.ChangeAt

theorem cellsEnv : Tryz.prog.cellsOf 26 = 11 := by kernel_rfl
theorem cellsRows : Tryz.prog.cellsOf 24 = 10 := by kernel_rfl
theorem cellsOpers : Tryz.prog.cellsOf 22 = 1 := by kernel_rfl

/-- An env that came in: its slice, its operators, its rows. -/
structure EA where
  a : Option Addr
  n : Nat
  c : Nat
  L : List OP
  z : List Int

section
variable {H : Type} {enc : TypeId × Value → H} {w : World} {base : Nat} {held : Bool}

theorem rows_cells {n : Nat} {cs : List Value} {x : DataW H × List MemPlace} (h : DataW.trod enc Tryz.prog w base (fun _ => true) held n 24 cs = some x) :
    ∃ z : List Int, z.length = 10 ∧ (∀ i, i < 10 → I64 (bt z i)) ∧ cs = rlz z := by
  obtain ⟨xs, n', rfl, _, hl, hlen, hf⟩ := DataW.trod_array Tryz.underlying24 h
  rw [cellsRows] at hl
  have key : ∀ i, i < 10 → ∃ v : Int, cs[i]? = some (.int .i64 v) ∧ (Lit.int .i64 v).wf = true := by
    intro i hi
    have h0 := hf i (by omega)
    rw [cellsIntF, Nat.mul_one] at h0
    have hx : xs[i]? = some xs[i] := List.getElem?_eq_getElem (by omega)
    rw [hx] at h0
    obtain ⟨v, e0, _, w0⟩ := DataW.trod_int Tryz.underlying3 h0
    refine ⟨v, ?_, w0⟩
    have h1 : ((cs.drop i).take 1)[0]? = some (.int .i64 v) := by rw [e0]; rfl
    rw [List.getElem?_take, if_pos (by decide), List.getElem?_drop, Nat.add_zero] at h1
    exact h1
  obtain ⟨F, hF⟩ := Go.Deep.choose_lt key
  refine ⟨(List.range 10).map F, by simp, fun i hi => ?_, ?_⟩
  · have h2 := (hF i hi).2
    have e : bt ((List.range 10).map F) i = F i := by unfold bt; simp [List.getD, hi]
    rw [e]
    have h3 : IntKind.i64.min = -9223372036854775808 := rfl
    have h4 : IntKind.i64.max = 9223372036854775807 := rfl
    simp only [Lit.wf, Bool.and_eq_true, decide_eq_true_eq] at h2
    unfold I64
    omega
  · apply List.ext_getElem?
    intro i
    by_cases hi : i < 10
    · rw [(hF i hi).1]
      unfold rlz
      simp [hi]
    · rw [List.getElem?_eq_none (by omega), List.getElem?_eq_none (by unfold rlz; simp; omega)]

set_option maxRecDepth 100000 in
theorem open_env {r : Reach} {b0 : Nat} {v : Value} {d : DataW H} {ps : List MemPlace} (hv : Value.okWide Tryz.prog w r b0 26 v) (h : DataW.Trod enc Tryz.prog w base (fun _ => true) held 26 v d ps) :
    ∃ e : EA, v = .agg (ev e.a e.n e.c e.z) ∧ (e.z.length = 10 ∧ (∀ i, i < 10 → I64 (bt e.z i)) ∧ OpS w e.a e.n e.c e.L) ∧ ((∀ n ∈ d.weights Tryz.prog 26, n ≤ reachBytes) → ∀ o ∈ e.L, o.1.length ≤ reachBytes) := by
  have h' : ∃ cs, v = .agg cs := by
    unfold Value.okWide at hv
    rw [Tryz.underlying26] at hv
    obtain ⟨cs, h1, _⟩ := hv
    exact ⟨cs, h1⟩
  obtain ⟨cs, rfl⟩ := h'
  obtain ⟨fuel, hf⟩ := h
  obtain ⟨xs, n', hrf, hx, hl, hlen, hf⟩ := DataW.trod_struct Tryz.underlying26 hf
  rw [cellsEnv] at hl
  have hcs : (Value.agg cs).cells.toList = cs.toList := by simp [Value.cells]
  rw [hcs] at hl hf
  match h4 : cs.toList, hl, xs, hlen with
  | c0 :: cr, hl, [y0, y1], _ =>
    rw [h4] at hf
    have h0 : DataW.trod enc Tryz.prog w base (fun _ => true) held n' 22 (((c0 :: cr).drop 0).take (Tryz.prog.cellsOf 22)) = [y0, y1][0]? := hf 0 _ rfl
    have h1 : DataW.trod enc Tryz.prog w base (fun _ => true) held n' 24 (((c0 :: cr).drop 1).take (Tryz.prog.cellsOf 24)) = [y0, y1][1]? := hf 1 _ rfl
    rw [cellsOpers, List.drop_zero, List.take_succ_cons, List.take_zero] at h0
    rw [cellsRows, List.drop_succ_cons, List.drop_zero, List.take_of_length_le (by simp at hl; omega)] at h1
    simp only [List.getElem?_cons_zero, List.getElem?_cons_succ] at h0 h1
    obtain ⟨z, hz, hr, rfl⟩ := rows_cells h1
    obtain ⟨a, k, c, hc0⟩ : ∃ a k c, c0 = Value.slice a k c := by
      rcases Go.Deep.open_slice Tryz.underlying22 h0 with ⟨hcs, _⟩ | ⟨x, l, c, _, _, _, _, hcs, _⟩
      · exact ⟨none, 0, 0, by simpa using hcs⟩
      · exact ⟨some x, l, c, by simpa using hcs⟩
    subst hc0
    obtain ⟨L, hL, hW⟩ := open_opers (enc := enc) (base := base) (held := held) (d := y0.1) (ps := y0.2) ⟨n', by simpa [Value.cells] using h0⟩
    refine ⟨⟨a, k, c, L, z⟩, ?_, ⟨hz, hr, hL⟩, fun hw => hW fun n hn => hw n ?_⟩
    · rw [← Array.toArray_toList (xs := cs), h4]; rfl
    · have hd : d = .agg ([y0, y1].map (·.1)) := by simpa using congrArg Prod.fst hx
      rw [hd]
      simp only [List.map_cons, List.map_nil]
      unfold DataW.weights
      rw [Tryz.underlying26]
      simp [DataW.weightsEach, hn]
end
end Go.Proofs.YtcegbmhnbmfnnaaGreatDoor
