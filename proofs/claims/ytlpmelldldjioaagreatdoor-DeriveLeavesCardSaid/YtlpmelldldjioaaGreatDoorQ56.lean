import Derived.Test.YtlpmelldldjioaaGreatDoorQ17
import Derived.Test.YtlpmelldldjioaaGreatDoorQ16
import Derived.Test.YtlpmelldldjioaaGreatDoorQ20
import Derived.Test.YtlpmelldldjioaaGreatDoorQ23
import Derived.Test.YtlpmelldldjioaaGreatDoorQ14
import Derived.Test.YtlpmelldldjioaaGreatDoorQ24
import Derived.Test.YtlpmelldldjioaaGreatDoorQ51
namespace Go.Proofs.YtlpmelldldjioaaGreatDoor
section
open Go.RowKit
end
section
open Go.RowKit
end
section
open Go.RowKit Go.ChangeShapes Go.WideShapes Go.ChangeAt
theorem cellsErrno : Tryz.prog.cellsOf 56 = 1 := by kernel_rfl
section
variable {H : Type} {enc : TypeId × Value → H} {w : World} {base : Nat} {held : Bool}
set_option maxRecDepth 100000 in
theorem token_cells {n : Nat} {cs : List Value} {x : DataW H × List MemPlace} (h : DataW.trod enc Tryz.prog w base (fun _ => true) held n 58 cs = some x) :
  ∃ e : TA, cs = [.int .i64 e.k, .int .i64 e.f, .int .i64 e.t, .string e.s, .int .i64 e.e] ∧ x.1 = e.d := by
 obtain ⟨xs, n', rfl, hx, hl, hlen, hf⟩ := DataW.trod_struct Tryz.underlying58 h
 rw [cellsTok] at hl
 match cs, hl, xs, hlen with
 | [c0, c1, c2, c3, c4], _, [y0, y1, y2, y3, y4], _ =>
  have h0 : DataW.trod enc Tryz.prog w base (fun _ => true) held n' 3 (([c0, c1, c2, c3, c4].drop 0).take (Tryz.prog.cellsOf 3)) = [y0, y1, y2, y3, y4][0]? := hf 0 _ rfl
  have h1 : DataW.trod enc Tryz.prog w base (fun _ => true) held n' 3 (([c0, c1, c2, c3, c4].drop 1).take (Tryz.prog.cellsOf 3)) = [y0, y1, y2, y3, y4][1]? := hf 1 _ rfl
  have h2 : DataW.trod enc Tryz.prog w base (fun _ => true) held n' 3 (([c0, c1, c2, c3, c4].drop 2).take (Tryz.prog.cellsOf 3)) = [y0, y1, y2, y3, y4][2]? := hf 2 _ rfl
  have h3 : DataW.trod enc Tryz.prog w base (fun _ => true) held n' 9 (([c0, c1, c2, c3, c4].drop 3).take (Tryz.prog.cellsOf 9)) = [y0, y1, y2, y3, y4][3]? := hf 3 _ rfl
  have h4 : DataW.trod enc Tryz.prog w base (fun _ => true) held n' 56 (([c0, c1, c2, c3, c4].drop 4).take (Tryz.prog.cellsOf 56)) = [y0, y1, y2, y3, y4][4]? := hf 4 _ rfl
  simp only [cellsStrF, cellsIntF, cellsErrno, List.drop_zero, List.drop_succ_cons, List.take_succ_cons, List.take_zero, List.getElem?_cons_zero, List.getElem?_cons_succ] at h0 h1 h2 h3 h4
  obtain ⟨k, e0, k0⟩ := DataW.trod_int Tryz.underlying3 h0
  obtain ⟨f, e1, k1⟩ := DataW.trod_int Tryz.underlying3 h1
  obtain ⟨t, e2, k2⟩ := DataW.trod_int Tryz.underlying3 h2
  obtain ⟨s, e3, k3, _⟩ := DataW.trod_string Tryz.underlying9 h3
  obtain ⟨e, e4, k4⟩ := DataW.trod_int Tryz.underlying56 h4
  simp only [List.cons.injEq, and_true] at e0 e1 e2 e3 e4
  subst e0; subst e1; subst e2; subst e3; subst e4
  refine ⟨⟨k, f, t, s, e⟩, rfl, ?_⟩
  rw [hx, k0.1, k1.1, k2.1, k3, k4.1]
  rfl
set_option maxRecDepth 100000 in
theorem open_token {r : Reach} {b0 : Nat} {v : Value} {d : DataW H} {ps : List MemPlace} (hv : Value.okWide Tryz.prog w r b0 58 v) (h : DataW.Trod enc Tryz.prog w base (fun _ => true) held 58 v d ps) :
  ∃ e : TA, v = .agg #[.int .i64 e.k, .int .i64 e.f, .int .i64 e.t, .string e.s, .int .i64 e.e] ∧ d = e.d := by
 have h' : ∃ cs, v = .agg cs := by
  unfold Value.okWide at hv
  rw [Tryz.underlying58] at hv
  obtain ⟨cs, h1, _⟩ := hv
  exact ⟨cs, h1⟩
 obtain ⟨cs, rfl⟩ := h'
 obtain ⟨fuel, hf⟩ := h
 obtain ⟨e, he, hd⟩ := token_cells hf
 refine ⟨e, ?_, hd⟩
 have : cs.toList = [.int .i64 e.k, .int .i64 e.f, .int .i64 e.t, .string e.s, .int .i64 e.e] := by simpa [Value.cells] using he
 rw [← Array.toArray_toList (xs := cs), this]
theorem token_size {ts : List TypeId} {ds : List (DataW H)} (h : (DataW.weightsEach Tryz.prog ts ds).all (· ≤ reachBytes) = true) {j : Nat} {e : TA} (ht : ts[j]? = some 58) (hd : ds[j]? = some e.d) : e.s.size ≤ reachBytes := by
 have := List.all_eq_true.1 h _ (DataW.weights_mem_each ht hd e.s.data.toList.length (by simp [TA.d, DataW.weights, DataW.weightsEach, Tryz.underlying58]))
 have h2 := of_decide_eq_true this
 rw [Array.length_toList] at h2
 exact h2
end
end
section
open Go.RowKit Go.ChangeShapes Go.WideShapes Go.ChangeAt
section
variable {H : Type} {enc : TypeId × Value → H} {w : World} {base : Nat} {held : Bool}
end
end
section
open Go.RowKit
def pBr : Nm := [91, 95, 93]
def L3 : List OP := [(pBr, 2, 0), (pPlus, 3, 0), (pIf, 5, 0)]
theorem wth_3 : wthL [(pPlus, 3, 0), (pIf, 5, 0), (pBr, 2, 0)] = L3 := by decide +kernel
theorem srt_3 : Srt L3 := by
 unfold Srt L3
 rw [List.pairwise_cons, List.pairwise_cons]
 refine ⟨fun x hx => ?_, fun x hx => ?_, by simp⟩
 ·simp only [List.mem_cons, List.not_mem_nil, or_false] at hx
  rcases hx with rfl | rfl
  ·show pBr < pPlus
   decide
  ·show pBr < pIf
   decide
 ·rw [List.mem_singleton.1 hx]
  show pPlus < pIf
  decide
theorem uniq_3 : uniqB L3 = true := by decide +kernel
theorem nm_3 : ∀ o ∈ L3, o.1.length ≤ 1000000 := by
 unfold L3
 intro o ho
 simp only [List.mem_cons, List.not_mem_nil, or_false] at ho
 rcases ho with rfl | rfl | rfl
 ·show pBr.length ≤ 1000000
  decide
 ·show pPlus.length ≤ 1000000
  decide
 ·show pIf.length ≤ 1000000
  decide
def part3 (s : Nm) : Bool := s == [43] || (s == [105, 102] || (s == [116, 104, 101, 110] || (s == [91] || s == [93])))
theorem prt_b : prt pBr = [[91], [93]] := by decide +kernel
theorem prt_p : prt pPlus = [[43]] := by decide +kernel
theorem prt_i : prt pIf = [[105, 102], [116, 104, 101, 110]] := by decide +kernel
theorem dq (s t : Nm) : decide (s = t) = (s == t) := by
 cases h : s == t with
 | true => exact decide_eq_true (eq_of_beq h)
 | false => exact decide_eq_false fun e => by rw [e, beq_self_eq_true] at h; cases h
theorem free_3 (s : Nm) : freeB L3 zS s = !part3 s := by
 unfold freeB entL part3 L3
 rw [List.length_map]
 have h1 : ∀ a b : Int, hasP s (pBr, a, b) = (s == [91] || s == [93]) := fun a b => by unfold hasP; rw [prt_b]; simp; simp only [dq]
 have h2 : ∀ a b : Int, hasP s (pPlus, a, b) = (s == [43]) := fun a b => by unfold hasP; rw [prt_p]; simp; simp only [dq]
 have h3 : ∀ a b : Int, hasP s (pIf, a, b) = (s == [105, 102] || s == [116, 104, 101, 110]) := fun a b => by unfold hasP; rw [prt_i]; simp; simp only [dq]
 rw [List.filter_cons, List.filter_cons, List.filter_cons, List.filter_nil, h1, h2, h3]
 cases s == [91] <;> cases s == [93] <;> cases s == [43] <;> cases s == [105, 102] <;> cases s == [116, 104, 101, 110] <;> rfl
theorem it_long {L : List OP} {z : List Int} {tok : List TK} {g : Gl} {a b n : Nat} {l : List ND} (h : Dv L z tok g a b l n) : ∀ o I f, g = .it o I f → a + I.length ≤ b := by
 induction h with
 | leaf => intro _ _ _ e; cases e
 | paren => intro _ _ _ e; cases e
 | oper => intro _ _ _ e; cases e
 | nil => intro _ _ _ e; cases e; exact Nat.le_refl _
 | part _ _ _ _ ih => intro _ _ _ e; cases e; have := ih _ _ _ rfl; rw [List.length_cons]; omega
 | hole hd _ _ _ _ ih => intro _ _ _ e; cases e; have := ih _ _ _ rfl; have := (dv_tr hd).1; rw [List.length_cons]; omega
theorem items_3 : ∀ o ∈ L3, ∀ s, ofS o.1 = some s → 2 ≤ (itemsL s).length := by
 unfold L3
 intro o ho s hs
 simp only [List.mem_cons, List.not_mem_nil, or_false] at ho
 have k1 : ofS pBr = some ⟨[[91], [93]], false, false⟩ := by kernel_rfl
 have k2 : ofS pIf = some ⟨[[105, 102], [116, 104, 101, 110]], false, true⟩ := by kernel_rfl
 rcases ho with rfl | rfl | rfl
 ·rw [show ofS (pBr, (2 : Int), (0 : Int)).1 = _ from k1] at hs; cases hs; decide
 ·rw [show ofS (pPlus, (3 : Int), (0 : Int)).1 = _ from shape_p] at hs; cases hs; decide
 ·rw [show ofS (pIf, (5 : Int), (0 : Int)).1 = _ from k2] at hs; cases hs; decide
theorem one_leaf {x : TK} {a b n : Nat} {u : List ND} (h : Dv L3 zS [x] .tr a b u n) : leafB x.k (freeB L3 zS (txN x)) = true := by
 cases h with
 | @leaf a ha hl =>
  rw [show a = 0 by simpa using ha] at hl
  exact hl
 | paren hb _ _ _ _ hd =>
  have h1 := dv_tr hd
  rw [List.length_singleton] at hb
  omega
 | oper hf hs _ hd =>
  have h1 := it_long hd _ _ _ rfl
  have h2 := items_3 _ (findO_mem hf).1 _ hs
  have h3 := (dv_it hd).2
  rw [List.length_singleton] at h3
  omega
theorem cnt_leaf {x : TK} {n : Nat} {t : List ND} (h : CntP L3 zS [x] n t) : (leafB x.k (!part3 (txN x)) = true → n = 1 ∧ t = [⟨1, txN x, 0, 1, 0⟩]) ∧ (leafB x.k (!part3 (txN x)) = false → n = 0) := by
 rw [← free_3]
 refine ⟨fun hl => cnt_uniq uniq_3 rows_start h (right_dv.2 (.leaf (a := 0) (by simp) hl)), fun hl => (cnt_zero' h fun u hu => ?_).1⟩
 rw [one_leaf hu] at hl
 cases hl
theorem cnt_nothing {n : Nat} {t : List ND} (h : CntP L3 zS [] n t) : n = 0 := (cnt_zero' h fun u hu => absurd (dv_tr hu).1 (by simp)).1
end
end Go.Proofs.YtlpmelldldjioaaGreatDoor
