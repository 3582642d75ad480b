import Derived.Test.YtlpmelldldjioaaGreatDoorQ10
import Derived.Test.YtlpmelldldjioaaGreatDoorRows
import Derived.WalkKit
import Derived.WideShapes
import Derived.ProofKit
import Derived.OpenShut
import Derived.SizedLaws
import Derived.Stop.LaidErr
import Derived.Test.YtlpmelldldjioaaGreatDoorQ13
import Derived.Test.YtlpmelldldjioaaGreatDoorQ14
import Derived.Laws.ResultCell
import Derived.Laws.Rows
import Derived.Test.YtlpmelldldjioaaGreatDoorQ18
import Derived.Deep.Slices
import Derived.Test.YtlpmelldldjioaaGreatDoorQ19
import Derived.Test.YtlpmelldldjioaaGreatDoorQ20
import Derived.Test.YtlpmelldldjioaaGreatDoorQ50
import Derived.Test.YtlpmelldldjioaaGreatDoorQ51
namespace Go.Proofs.YtlpmelldldjioaaGreatDoor
section
open Go.RowKit
end
section
open Go.RowKit Go.ChangeShapes Go.WideShapes Go.ChangeAt
section
variable {H : Type} {enc : TypeId × Value → H} {w : World} {base : Nat} {held : Bool}
set_option maxRecDepth 100000 in
theorem open_oper {r : Reach} {b0 : Nat} {v : Value} {d : DataW H} {ps : List MemPlace} (hv : Value.okWide Tryz.prog w r b0 51 v) (h : DataW.Trod enc Tryz.prog w base (fun _ => true) held 51 v d ps) :
  ∃ e : OA, v = .agg #[.string e.s, .int .i64 e.g, .int .i64 e.a] ∧ d = e.d := by
 have h' : ∃ cs, v = .agg cs := by
  unfold Value.okWide at hv
  rw [Tryz.underlying51] at hv
  obtain ⟨cs, h1, _⟩ := hv
  exact ⟨cs, h1⟩
 obtain ⟨cs, rfl⟩ := h'
 obtain ⟨fuel, hf⟩ := h
 obtain ⟨e, he, hd⟩ := oper_cells hf
 refine ⟨e, ?_, hd⟩
 have : cs.toList = [.string e.s, .int .i64 e.g, .int .i64 e.a] := by simpa [Value.cells] using he
 rw [← Array.toArray_toList (xs := cs), this]
theorem oper_size {ts : List TypeId} {ds : List (DataW H)} (h : (DataW.weightsEach Tryz.prog ts ds).all (· ≤ reachBytes) = true) {j : Nat} {e : OA} (ht : ts[j]? = some 51) (hd : ds[j]? = some e.d) : e.s.size ≤ reachBytes := by
 have := List.all_eq_true.1 h _ (DataW.weights_mem_each ht hd e.s.data.toList.length (by simp [OA.d, DataW.weights, DataW.weightsEach, Tryz.underlying51]))
 have h2 := of_decide_eq_true this
 rw [Array.length_toList] at h2
 exact h2
end
end
section
open Go.RowKit
end
section
open Go.RowKit
end
section
open Go.RowKit
theorem fitA_rng (p : Nm) (g a : Int) : 0 ≤ fitA p g a ∧ fitA p g a ≤ 2 := by
 have := tmod_rng a 3 (by decide)
 unfold fitA
 rw [Int.tmod_eq_emod_of_nonneg (a := Int.tmod a 3 + 3) (by omega)]
 split <;> omega
end
section
open Go.RowKit Go.ChangeShapes Go.WideShapes Go.ChangeAt
section
variable {H : Type} {enc : TypeId × Value → H} {w : World} {base : Nat} {held : Bool}
end
end
section
end
section
open Go.RowKit
section
variable {L : List OP} {z : List Int} {tok : List TK}
theorem infix_dv {o : OP} {x : Nm} (ho : findO L o.1 = some o) (hs : ofS o.1 = some ⟨[x], true, true⟩) {a f b : Nat} {u v : ND} {t t' : List ND} (h1 : Dv L z tok .tr a f (u :: t) 1) (m1 : mayH L z o u false = true) (hf : f < tok.length) (hp : partB (tat tok f).k (txN (tat tok f)) x = true)
  (h2 : Dv L z tok .tr (f + 1) b (v :: t') 1) (m2 : mayH L z o v true = true) : Dv L z tok .tr a b (⟨3, o.1, a, b, 2⟩ :: (u :: t ++ (v :: t'))) 1 := by
 have hx := ((parts_ok hs).2 x (by simp)).1
 have g1 := dv_tr h1
 have g2 := dv_tr h2
 have e : itemsL ⟨[x], true, true⟩ = [[], x, []] := rfl
 have hd : Dv L z tok (.it o (itemsL ⟨[x], true, true⟩) true) a b (u :: t ++ (v :: t' ++ [])) 2 := by
  rw [e]
  exact .hole h1 (fun _ => m1) (fun e => by cases e) (.part hx hf hp (.hole h2 (fun h => by cases h) (fun _ => m2) (.nil g2.2)))
 rw [List.append_nil] at hd
 exact .oper ho hs (by omega) hd
theorem may_leaf {o : OP} {x : ND} (h : x.k = 1) (rt : Bool) : mayH L z o x rt = true := by unfold mayH; rw [if_neg (by omega)]
def lfN (tok : List TK) (a : Nat) : ND := ⟨1, txN (tat tok a), a, (a + 1 : Nat), 0⟩
end
end
section
open Go.RowKit
section
variable {L : List OP} {z : List Int} {tok : List TK}
theorem bal_flat {L : List OP} : ∀ (s : List TK) (h : Nat), (∀ x ∈ s, clB L x = false ∧ opB L x = false) → bal L s h = some h
 | [], h, _ => rfl
 | x :: r, h, hx => by
  have w := hx x (List.mem_cons_self ..)
  unfold bal
  rw [w.1, w.2, if_neg (by decide)]
  exact bal_flat r h fun y hy => hx y (List.mem_cons_of_mem _ hy)
theorem sg_mem {a b : Nat} {x : TK} (h : x ∈ sg tok a b) : ∃ q, a ≤ q ∧ q < b ∧ q < tok.length ∧ x = tat tok q := by
 obtain ⟨j, hj, e⟩ := List.mem_iff_getElem.1 h
 unfold sg at hj e
 rw [List.length_take, List.length_drop] at hj
 rw [List.getElem_take, List.getElem_drop] at e
 refine ⟨a + j, by omega, by omega, by omega, ?_⟩
 unfold tat
 rw [← e]
 simp [List.getD, show a + j < tok.length by omega]
end
end
section
open Go.RowKit
section
variable {z : List Int} {tok : List TK}
structure Meet (x y : OP) (z : List Int) (tok : List TK) : Prop where
 len : tok.length = 5
 sx : ofS x.1 = some ⟨[[43]], true, true⟩
 sy : ofS y.1 = some ⟨[[42]], true, true⟩
 lf : ∀ i, i ≤ 2 → leafB (tat tok (2 * i)).k (freeB [y, x] z (txN (tat tok (2 * i)))) = true
 p1 : partB (tat tok 1).k (txN (tat tok 1)) [43] = true
 p3 : partB (tat tok 3).k (txN (tat tok 3)) [42] = true
theorem Meet.ne {x y : OP} (M : Meet x y z tok) : y.1 ≠ x.1 := fun e => by
 have h1 := M.sx
 have h2 := M.sy
 rw [e, h1] at h2
 have h3 := congrArg SH.P (Option.some.inj h2)
 exact absurd h3 (by decide)
theorem Meet.fy {x y : OP} (_ : Meet x y z tok) : findO [y, x] y.1 = some y := by unfold findO; simp
theorem Meet.fx {x y : OP} (M : Meet x y z tok) : findO [y, x] x.1 = some x := by
 unfold findO
 rw [List.find?_cons_of_neg (by simpa using M.ne)]
 simp
theorem Meet.leaf {x y : OP} (M : Meet x y z tok) {i : Nat} (hi : i ≤ 2) : Dv [y, x] z tok .tr (2 * i) (2 * i + 1) [lfN tok (2 * i)] 1 := .leaf (by rw [M.len]; omega) (M.lf i hi)
def meetR (x y : OP) (tok : List TK) : List ND := ⟨3, x.1, (0 : Nat), (5 : Nat), 2⟩ :: ([lfN tok 0] ++ (⟨3, y.1, (2 : Nat), (5 : Nat), 2⟩ :: ([lfN tok 2] ++ [lfN tok 4])))
def meetL (x y : OP) (tok : List TK) : List ND := ⟨3, y.1, (0 : Nat), (5 : Nat), 2⟩ :: ((⟨3, x.1, (0 : Nat), (3 : Nat), 2⟩ :: ([lfN tok 0] ++ [lfN tok 2])) ++ [lfN tok 4])
theorem meet_r {x y : OP} (M : Meet x y z tok) (h : fitsB z x y true = true) : Dv [y, x] z tok .tr 0 5 (meetR x y tok) 1 := by
 have h2 : Dv [y, x] z tok .tr 2 5 (⟨3, y.1, (2 : Nat), (5 : Nat), 2⟩ :: ([lfN tok 2] ++ [lfN tok 4])) 1 :=
  infix_dv M.fy M.sy (M.leaf (i := 1) (by omega)) (may_leaf rfl false) (by rw [M.len]; omega) M.p3 (M.leaf (i := 2) (by omega)) (may_leaf rfl true)
 exact infix_dv M.fx M.sx (M.leaf (i := 0) (by omega)) (may_leaf rfl false) (by rw [M.len]; omega) M.p1 h2 (by
  unfold mayH
  rw [if_pos rfl, M.fy]
  exact h)
theorem meet_l {x y : OP} (M : Meet x y z tok) (h : fitsB z y x false = true) : Dv [y, x] z tok .tr 0 5 (meetL x y tok) 1 := by
 have h2 : Dv [y, x] z tok .tr 0 3 (⟨3, x.1, (0 : Nat), (3 : Nat), 2⟩ :: ([lfN tok 0] ++ [lfN tok 2])) 1 :=
  infix_dv M.fx M.sx (M.leaf (i := 0) (by omega)) (may_leaf rfl false) (by rw [M.len]; omega) M.p1 (M.leaf (i := 1) (by omega)) (may_leaf rfl true)
 exact infix_dv M.fy M.sy h2 (by
  unfold mayH
  rw [if_pos rfl, M.fx]
  exact h) (by rw [M.len]; omega) M.p3 (M.leaf (i := 2) (by omega)) (may_leaf rfl true)
theorem meet_n {x y : OP} (M : Meet x y z tok) (U : Uq [y, x]) (hz : RowsOk z) (f1 : fitsB z x y true = false) (f2 : fitsB z y x false = false) (u : List ND) : ¬ Dv [y, x] z tok .tr 0 5 u 1 := by
 intro h
 have my : y ∈ [y, x] := by simp
 have mx : x ∈ [y, x] := by simp
 have flat : ∀ q, q < tok.length → clB [y, x] (tat tok q) = false ∧ opB [y, x] (tat tok q) = false := fun q hq => by
  rw [M.len] at hq
  obtain rfl | rfl | rfl | rfl | rfl : q = 0 ∨ q = 1 ∨ q = 2 ∨ q = 3 ∨ q = 4 := by omega
  ·exact (leaf_w (M.lf 0 (by omega))).1
  ·exact part_w U mx M.sx (A := []) (B := []) rfl M.p1
  ·exact (leaf_w (M.lf 1 (by omega))).1
  ·exact part_w U my M.sy (A := []) (B := []) rfl M.p3
  ·exact (leaf_w (M.lf 2 (by omega))).1
 have low : ∀ a b, bal [y, x] (sg tok a b) 0 = some 0 := fun a b => bal_flat _ _ fun w hw => by
  obtain ⟨q, _, _, h3, rfl⟩ := sg_mem hw
  exact flat q h3
 have at_ : ∀ (o : OP) (s : SH) (p : Nm) (f : Nat), o ∈ [y, x] → ofS o.1 = some s → p ∈ s.P → f < 5 → partB (tat tok f).k (txN (tat tok f)) p = true → (f = 1 ∧ p = [43]) ∨ (f = 3 ∧ p = [42]) := by
  intro o s p f ho hs hp hf hpt
  obtain rfl | rfl | rfl | rfl | rfl : f = 0 ∨ f = 1 ∨ f = 2 ∨ f = 3 ∨ f = 4 := by omega
  ·have := (leaf_w (M.lf 0 (by omega))).2 o ho s hs p hp
   rw [show 2 * 0 = 0 from rfl, hpt] at this; cases this
  ·exact .inl ⟨rfl, by rw [← (isP_of hpt).2, (isP_of M.p1).2]⟩
  ·have := (leaf_w (M.lf 1 (by omega))).2 o ho s hs p hp
   rw [show 2 * 1 = 2 from rfl, hpt] at this; cases this
  ·exact .inr ⟨rfl, by rw [← (isP_of hpt).2, (isP_of M.p3).2]⟩
  ·have := (leaf_w (M.lf 2 (by omega))).2 o ho s hs p hp
   rw [show 2 * 2 = 4 from rfl, hpt] at this; cases this
 generalize hb : 5 = b at h
 generalize ha : 0 = a at h
 cases h with
 | leaf => omega
 | paren hbl k1 t1 k2 t2 hd =>
  subst ha
  have h0 := (leaf_k (M.lf 0 (by omega)))
  rw [show 2 * 0 = 0 from rfl, k1] at h0
  omega
 | @oper _ _ n o s l ho hs hab hd =>
  subst ha
  have hom := (findO_mem ho).1
  have two : ∀ {c : UInt8}, ofS o.1 = some ⟨[[c]], true, true⟩ → s = ⟨[[c]], true, true⟩ := fun e => by rw [hs] at e; exact Option.some.inj e
  rcases List.mem_cons.1 hom with rfl | hom2
  ·obtain rfl := two M.sy
   obtain ⟨f, u, t, v, t', d1, m1, hp, d2, m2, hf⟩ := infix_inv hs hd
   rw [M.len] at hf
   rcases at_ _ _ _ f my hs (by simp) hf hp with ⟨_, e⟩ | ⟨rfl, _⟩
   ·exact absurd e (by decide)
   ·have := dv_seen U hz mx M.sx (p2 := [43]) (P2 := []) rfl _ 0 3 u t (Nat.le_refl _) d1 1 (by omega) (by omega) (low _ _) M.p1 _ false m1
    rw [f2] at this; cases this
  ·obtain rfl := List.mem_singleton.1 hom2
   obtain rfl := two M.sx
   obtain ⟨f, u, t, v, t', d1, m1, hp, d2, m2, hf⟩ := infix_inv hs hd
   rw [M.len] at hf
   rcases at_ _ _ _ f mx hs (by simp) hf hp with ⟨rfl, _⟩ | ⟨_, e⟩
   ·have := dv_seen U hz my M.sy (p2 := [42]) (P2 := []) rfl _ 2 b v t' (Nat.le_refl _) d2 3 (by omega) (by omega) (low _ _) M.p3 _ true m2
    rw [f1] at this; cases this
   ·exact absurd e (by decide)
end
end
section
open Go.RowKit
def pStar : Nm := [95, 42, 95]
theorem shape_s : ofS pStar = some ⟨[[42]], true, true⟩ := by kernel_rfl
def lQ : List Int := [112, 32, 43, 32, 113, 32, 42, 32, 114]
theorem toks_q : (toks lQ).length = 5 := by decide +kernel
def fP (g s h t : Nat) : List OP := [(pStar, (h : Int), (t : Int)), (pPlus, (g : Int), (s : Int))]
def eqL (A B : List OP) : Bool := decide (A = B)
theorem wth_q : ∀ g, g < 9 → ∀ h, h < 9 → ∀ s, s < 3 → ∀ t, t < 3 → eqL (wthL [(pPlus, ((g + 1 : Nat) : Int), ((s : Nat) : Int)), (pStar, ((h + 1 : Nat) : Int), ((t : Nat) : Int))]) (fP (g + 1) s (h + 1) t) = true := by decide +kernel
theorem uniq_q : ∀ g, g < 10 → ∀ h, h < 10 → ∀ s, s < 3 → ∀ t, t < 3 → uniqB (fP g s h t) = true := by decide +kernel
theorem leaf_q : ∀ g, g < 10 → ∀ h, h < 10 → ∀ s, s < 3 → ∀ t, t < 3 → ∀ i, i ≤ 2 → leafB (tat (toks lQ) (2 * i)).k (freeB (fP g s h t) zS (txN (tat (toks lQ) (2 * i)))) = true := by decide +kernel
theorem part1_q : partB (tat (toks lQ) 1).k (txN (tat (toks lQ) 1)) [43] = true := by decide +kernel
theorem part3_q : partB (tat (toks lQ) 3).k (txN (tat (toks lQ) 3)) [42] = true := by decide +kernel
def rQ (g h s t : Nat) : Bool := (decide (g ≤ 5) && (decide (h ≤ 5) && decide (h < g))) || (g == h && (s == 2 && t == 2))
def lfQ (g h s t : Nat) : Bool := (decide (g ≤ 5) && (decide (h ≤ 5) && decide (g < h))) || (g == h && (s == 1 && t == 1))
theorem fits_r : ∀ g, g < 9 → ∀ h, h < 9 → ∀ s, s < 3 → ∀ t, t < 3 → fitsB zS (pPlus, ((g + 1 : Nat) : Int), ((s : Nat) : Int)) (pStar, ((h + 1 : Nat) : Int), ((t : Nat) : Int)) true = rQ (g + 1) (h + 1) s t := by decide +kernel
theorem fits_l : ∀ g, g < 9 → ∀ h, h < 9 → ∀ s, s < 3 → ∀ t, t < 3 → fitsB zS (pStar, ((h + 1 : Nat) : Int), ((t : Nat) : Int)) (pPlus, ((g + 1 : Nat) : Int), ((s : Nat) : Int)) false = lfQ (g + 1) (h + 1) s t := by decide +kernel
theorem meet_q {g h s t : Nat} (hg : g < 10) (hh : h < 10) (hs : s < 3) (ht : t < 3) : Meet (pPlus, (g : Int), (s : Int)) (pStar, (h : Int), (t : Int)) zS (toks lQ) :=
 ⟨toks_q, shape_p, shape_s, fun i hi => leaf_q g hg h hh s hs t ht i hi, part1_q, part3_q⟩
theorem fit_cnt {g h s t : Nat} (hg : g < 9) (hh : h < 9) (hs : s < 3) (ht : t < 3) {n : Nat} {T : List ND} (hc : CntP (fP (g + 1) s (h + 1) t) zS (toks lQ) n T) :
  (rQ (g + 1) (h + 1) s t = true → n = 1 ∧ T.length = 5 ∧ (nA T 0).n = pPlus) ∧ (lfQ (g + 1) (h + 1) s t = true → n = 1 ∧ T.length = 5 ∧ (nA T 0).n = pStar) ∧ (rQ (g + 1) (h + 1) s t = false → lfQ (g + 1) (h + 1) s t = false → n = 0) := by
 have M := meet_q (g := g + 1) (h := h + 1) (by omega) (by omega) hs ht
 have U : uniqB (fP (g + 1) s (h + 1) t) = true := uniq_q (g + 1) (by omega) (h + 1) (by omega) s hs t ht
 refine ⟨fun hr => ?_, fun hl => ?_, fun hr hl => ?_⟩
 ·have d := meet_r M ((fits_r g hg h hh s hs t ht).trans hr)
  obtain ⟨h1, h2⟩ := cnt_uniq U rows_start hc (right_dv.2 (by rw [toks_q]; exact d))
  exact ⟨h1, by rw [h2]; rfl, by rw [h2]; rfl⟩
 ·have d := meet_l M ((fits_l g hg h hh s hs t ht).trans hl)
  obtain ⟨h1, h2⟩ := cnt_uniq U rows_start hc (right_dv.2 (by rw [toks_q]; exact d))
  exact ⟨h1, by rw [h2]; rfl, by rw [h2]; rfl⟩
 ·exact (cnt_zero' hc fun u hu => meet_n M (uq_of U) rows_start ((fits_r g hg h hh s hs t ht).trans hr) ((fits_l g hg h hh s hs t ht).trans hl) u (by rw [toks_q] at hu; exact hu)).1
theorem fit_nat (p : Nm) (g a : Int) (hp : p.length ≤ 140737488355328) : ∃ (q : Nm) (G S : Int) (g' s' : Nat), G = ((g' + 1 : Nat) : Int) ∧ S = ((s' : Nat) : Int) ∧ g' < 9 ∧ s' < 3 ∧ ∀ w : World, Calls Tryz.prog 33 #[.agg #[.string (mk p), .int .i64 g, .int .i64 a]] w fun e w' => e = .returned (.agg #[.string (mk q), .int .i64 G, .int .i64 S]) ∧ Below w.heap.size w w' := by
 have h1 := fitG_rng g
 have h2 := fitA_rng p g a
 exact ⟨_, _, _, (fitG g - 1).toNat, (fitA p g a).toNat, by omega, by omega, by omega, by omega, fun w => fit_any p g a w hp⟩
end
end Go.Proofs.YtlpmelldldjioaaGreatDoor
