/- The document's New (as in XBh); an argument that is a call (as in XBo). -/
import Derived.Test.YtjkjbgekpkhpfaaGreatDoorAj
import Derived.Test.YtjkjbgekpkhpfaaGreatDoorBe
import Derived.Test.YtjkjbgekpkhpfaaGreatDoorM1
namespace Go.Proofs.YtjkjbgekpkhpfaaGreatDoor
open Go.RowKit Go.ChangeShapes Go.WideShapes Go.ChangeAt

set_option maxRecDepth 20000 in
theorem rnew_any (w : World) : Calls Tryz.prog 21 #[] w fun e w' => e = .returned (.agg (ev none 0 0 zS)) ∧ Below w.heap.size w w' := by
  obtain ⟨w0, hw0⟩ : ∃ w0, w0 = w.alloc (.cells #[.slice none 0 0, .int .i64 0, .int .i64 0, .int .i64 0, .int .i64 0, .int .i64 0, .int .i64 0, .int .i64 0, .int .i64 0, .int .i64 0, .int .i64 0] 26) := ⟨_, rfl⟩
  obtain ⟨B, hB⟩ : ∃ B, B = w.heap.size := ⟨_, rfl⟩
  have HE0 : Hid (EB w0 B none 0 0 z0) := Lib.hid (by rw [hw0, hB, ← ev_zero]; exact EB.new w none 0 0 z0)
  have HB0 : Hid (Below B w w0) := Lib.hid (by rw [hw0, hB]; exact (Below.refl _ _).alloc (Nat.le_refl _) _)
  have HS : Hid (B < w0.heap.size) := Lib.hid HE0.out.lt
  have HBB := Lib.hid hB
  have hbu : ∀ w, (Instr.build 26 #[(1, .agg (rv zS))]).run Tryz.prog w = .ok (.agg (ev none 0 0 zS)) w := fun w => built_rows rfl w
  go_enter Tryz.func21, Tryz.ntmps21
  go_wp2_with fail
  rw [← hw0, ← hB]
  clear hw0 hB
  refine (rstart_any w0).mono ?_
  rintro e w1 ⟨rfl, hb1⟩
  have HE1 := Lib.hid (HE0.out.below hb1)
  have HB1 := Lib.hid (HB0.out.trans (hb1.mono (Nat.le_of_lt HS.out)))
  clear hb1
  go_wp2_with (refine store_env rfl (.tmp 0) (.tmp 2) rfl B rfl none 0 0 zS rfl rfl none 0 0 z0 z0_len HE1.out ?_; intro w2 he2 ho2; have HE2 := Lib.hid he2; have HO2 := Lib.hid ho2; clear he2 ho2)
  exact bodyPost_ret (ret_env rfl _ _ B none 0 0 zS rfl rfl HE2.out) rfl ⟨rfl, by rw [← HBB.out]; exact HB1.out.trans (HO2.out.below (Nat.le_refl _))⟩

theorem cellsCall : Tryz.prog.cellsOf 30 = 6 := by kernel_rfl
theorem cellsByte : Tryz.prog.cellsOf 5 = 1 := by kernel_rfl
/-- A call that came in. -/
structure LA where
  k : Int
  o : OA
  g : Int
  h : Int
def LA.d {H : Type} (e : LA) : DataW H := .agg [.lit (.int .u8 e.k), e.o.d, .lit (.int .i64 e.g), .lit (.int .i64 e.h)]
theorem la_weight {H : Type} (e : LA) : e.o.s.data.toList.length ∈ (e.d : DataW H).weights Tryz.prog 30 := by
  simp [LA.d, OA.d, DataW.weights, DataW.weightsEach, Tryz.underlying30, Tryz.underlying28]

section
variable {H : Type} {enc : TypeId × Value → H} {w : World} {base : Nat} {held : Bool}

set_option maxRecDepth 100000 in
theorem open_call {r : Reach} {b0 : Nat} {v : Value} {d : DataW H} {ps : List MemPlace} (hv : Value.okWide Tryz.prog w r b0 30 v) (h : DataW.Trod enc Tryz.prog w base (fun _ => true) held 30 v d ps) :
    ∃ e : LA, v = .agg #[.int .u8 e.k, .string e.o.s, .int .i64 e.o.g, .int .i64 e.o.a, .int .i64 e.g, .int .i64 e.h] ∧ d = e.d := by
  have h' : ∃ cs, v = .agg cs := by
    unfold Value.okWide at hv
    rw [Tryz.underlying30] at hv
    obtain ⟨cs, h1, _⟩ := hv
    exact ⟨cs, h1⟩
  obtain ⟨cs, rfl⟩ := h'
  obtain ⟨fuel, hf⟩ := h
  obtain ⟨xs, n', hrf, hx, hl, hlen, hf⟩ := DataW.trod_struct Tryz.underlying30 hf
  rw [cellsCall] at hl
  have hcs : (Value.agg cs).cells.toList = cs.toList := by simp [Value.cells]
  rw [hcs] at hl hf
  match h4 : cs.toList, hl, xs, hlen with
  | [c0, c1, c2, c3, c4, c5], _, [y0, y1, y2, y3], _ =>
    rw [h4] at hf
    have h0 : DataW.trod enc Tryz.prog w base (fun _ => true) held n' 5 (([c0, c1, c2, c3, c4, c5].drop 0).take (Tryz.prog.cellsOf 5)) = [y0, y1, y2, y3][0]? := hf 0 _ rfl
    have h1 : DataW.trod enc Tryz.prog w base (fun _ => true) held n' 28 (([c0, c1, c2, c3, c4, c5].drop 1).take (Tryz.prog.cellsOf 28)) = [y0, y1, y2, y3][1]? := hf 1 _ rfl
    have h2 : DataW.trod enc Tryz.prog w base (fun _ => true) held n' 3 (([c0, c1, c2, c3, c4, c5].drop 4).take (Tryz.prog.cellsOf 3)) = [y0, y1, y2, y3][2]? := hf 2 _ rfl
    have h3 : DataW.trod enc Tryz.prog w base (fun _ => true) held n' 3 (([c0, c1, c2, c3, c4, c5].drop 5).take (Tryz.prog.cellsOf 3)) = [y0, y1, y2, y3][3]? := hf 3 _ rfl
    simp only [cellsByte, cellsOper, cellsIntF, List.drop_zero, List.drop_succ_cons, List.take_succ_cons, List.take_zero, List.getElem?_cons_zero, List.getElem?_cons_succ] at h0 h1 h2 h3
    obtain ⟨p, e0, k0, _⟩ := DataW.trod_int Tryz.underlying5 h0
    obtain ⟨o, e1, k1⟩ := oper_cells h1
    obtain ⟨q, e2, k2, _⟩ := DataW.trod_int Tryz.underlying3 h2
    obtain ⟨r, e3, k3, _⟩ := DataW.trod_int Tryz.underlying3 h3
    simp only [List.cons.injEq, and_true] at e0 e1 e2 e3
    obtain ⟨rfl, rfl, rfl⟩ := e1
    subst e0; subst e2; subst e3
    refine ⟨⟨p, o, q, r⟩, ?_, ?_⟩
    · rw [← Array.toArray_toList (xs := cs), h4]
    · have hd : d = .agg ([y0, y1, y2, y3].map (·.1)) := by simpa using congrArg Prod.fst hx
      rw [hd]
      simp only [List.map_cons, List.map_nil, k0, k1, k2, k3]
      rfl

end
end Go.Proofs.YtjkjbgekpkhpfaaGreatDoor
