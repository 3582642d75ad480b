/- The law's own few; the document's Unique. -/
import Derived.Test.YtjkjbgekpkhpfaaGreatDoorAa
import Derived.Test.YtjkjbgekpkhpfaaGreatDoorAn
import Derived.Deep.DeepCutAuto
namespace Go.Proofs.YtjkjbgekpkhpfaaGreatDoor
open Go.RowKit

/-! ### One cell stored -/

theorem run_storeCell_at {P : Program} (w : World) (ty t : TypeId) (g o : Nat) (cur : List Value) (v : Value) (hi : (P.info? ty).map (·.size) = some 1) (hc : v.cells = #[v]) (hg : w.heap[g]? = some (.cells cur.toArray t (0, 0)))
    (hfit : o + 1 ≤ cur.length) (h1 : v.oneCell' = true) : (storeVar ty ⟨g, o, none⟩ v).run P w = .ok () (w.setRow g (splice cur o [v]).toArray) := by
  have hst := run_storeCells_at P g o t [v] 0 cur.toArray w hg (by simpa using hfit) (fun u hu => by rw [List.mem_singleton.1 hu]; exact h1)
  cases hq : P.info? ty with
  | none => simp [hq] at hi
  | some i =>
    have hs : i.size = 1 := by simp [hq] at hi; omega
    simp [storeVar, sizeOf, typeInfo, hq, hc, hs, splice] at hst ⊢
    exact hst
theorem wpList_store_cell {P : Program} {ops : Array Oper} {rest : List Oper} {op : Oper} {a : Act} {w : World} {Q : Exit → Act → World → Prop} (hgd : op.guard = none) (ty t : TypeId) (x y : Operand) (ho : op.op = .store ty x y)
    (g o : Nat) (cur : List Value) (v : Value) (hx : a.eval x = .pointer (some ⟨g, o, none⟩)) (hy : a.eval y = v) (hi : (P.info? ty).map (·.size) = some 1) (hc : v.cells = #[v]) (hg : w.heap[g]? = some (.cells cur.toArray t (0, 0)))
    (hfit : o + 1 ≤ cur.length) (h1 : v.oneCell' = true)
    (h : ∀ w', w'.heap[g]? = some (.cells (splice cur o [v]).toArray t (0, 0)) → Only g w w' → wpList P ops Q rest (a.put op.dst undef) w') : wpList P ops Q (op :: rest) a w :=
  wpList_plain hgd fun K hK => by
    unfold Oper.wp execOp
    simp only [ho, hx, hy, Instr.storeAt, Instr.sureAddr, Sem.run_bind, Sem.run_pure, Result.andThen_ok, run_storeCell_at w ty t g o cur v hi hc hg hfit h1]
    exact hK _ _ (h _ (setRow_heap w g _ _ t _ hg) (Only.ofRow w g _))
theorem opers_size1 : (Tryz.prog.info? 22).map (·.size) = some 1 := by kernel_rfl
theorem string_size1 : (Tryz.prog.info? 9).map (·.size) = some 1 := by kernel_rfl
/-- A slice stored into an env's first cell. -/
theorem store_ops {ops : Array Oper} {rest : List Oper} {o : Oper} {A : Act} {w : World} {Q : Exit → Act → World → Prop} (hgd : o.guard = none) (x y : Operand) (ho : o.op = .store 22 x y)
    (b : Nat) (hx : A.eval x = .pointer (some ⟨b, 0, none⟩)) (a' : Option Addr) (n' c' : Nat) (hy : A.eval y = .slice a' n' c') (a : Option Addr) (n c : Nat) (z : List Int) (h : EB w b a n c z)
    (k : ∀ w', EB w' b a' n' c' z → Only b w w' → wpList Tryz.prog ops Q rest (A.put o.dst undef) w') : wpList Tryz.prog ops Q (o :: rest) A w :=
  wpList_store_cell hgd 22 26 x y ho b 0 (Value.slice a n c :: rlz z) (.slice a' n' c') hx hy opers_size1 rfl h (by simp) rfl fun w' h' ho' => k w' h' ho'
/-- A text stored into an operator's first cell. -/
theorem store_pat {ops : Array Oper} {rest : List Oper} {o : Oper} {A : Act} {w : World} {Q : Exit → Act → World → Prop} (hgd : o.guard = none) (x y : Operand) (ho : o.op = .store 9 x y)
    (b : Nat) (hx : A.eval x = .pointer (some ⟨b, 0, none⟩)) (p' : Nm) (hy : A.eval y = .string (mk p')) (p : Nm) (g s : Int) (h : D3 w b (p, g, s))
    (k : ∀ w', D3 w' b (p', g, s) → Only b w w' → wpList Tryz.prog ops Q rest (A.put o.dst undef) w') : wpList Tryz.prog ops Q (o :: rest) A w :=
  wpList_store_cell hgd 9 28 x y ho b 0 [.string (mk p), .int .i64 g, .int .i64 s] (.string (mk p')) hx hy string_size1 rfl h (by simp) rfl fun w' h' ho' => k w' h' ho'

theorem build_er {ops : Array Oper} {rest : List Oper} {o : Oper} {A : Act} {w : World} {Q : Exit → Act → World → Prop} (hgd : o.guard = none) (y : Operand) (ho : o.op = .build 26 #[(1, y)])
    (z : List Int) (hz : z.length = 10) (hy : A.eval y = .agg (rv z))
    (k : wpList Tryz.prog ops Q rest (A.put o.dst (.agg (ev none 0 0 z))) w) : wpList Tryz.prog ops Q (o :: rest) A w :=
  wpList_plain hgd fun K hK => by
    have hb := built_rows hz w
    unfold Oper.wp execOp
    simp only [ho, List.map_toArray, List.map_cons, List.map_nil, hy, hb, Sem.run_bind, Result.andThen_ok, Sem.run_pure]
    exact hK _ _ k

/-! ### few -/

def cutO (o : OP) : OP := (o.1.take 60, o.2)
def fewL (L : List OP) : List OP := (L.take 20).map cutO
theorem fewL_len (L : List OP) : (fewL L).length ≤ 20 := by unfold fewL; rw [List.length_map, List.length_take]; omega
theorem fewL_pat {L : List OP} : ∀ o ∈ fewL L, o.1.length ≤ 60 := fun o ho => by
  obtain ⟨u, _, rfl⟩ := List.mem_map.1 ho
  show (u.1.take 60).length ≤ 60
  rw [List.length_take]; omega
theorem cut_snoc {L : List OP} {k : Nat} (h : k < L.length) : (L.take (k + 1)).map cutO = (L.take k).map cutO ++ [cutO (opA L k)] := by rw [opA_take h, List.map_append]; rfl
theorem few_end {L : List OP} {k : Nat} (h : k ≤ 20) (h2 : ¬ (k < L.length ∧ k < 20)) : (L.take k).map cutO = fewL L := by
  unfold fewL
  congr 1
  by_cases h3 : k = 20
  · rw [h3]
  · rw [List.take_of_length_le (by omega), List.take_of_length_le (by omega)]

set_option maxRecDepth 100000 in
set_option maxHeartbeats 8000000 in
theorem few_any (a : Option Addr) (n c : Nat) (L : List OP) (z : List Int) (w : World) (h : OpS w a n c L) (hz : z.length = 10) :
    Calls Tryz.prog 6 #[.agg (ev a n c z)] w fun e w' => ∃ a' c', e = .returned (.agg (ev a' (fewL L).length c' z)) ∧ OwnO w.heap.size w' a' (fewL L).length c' (fewL L) ∧ Below w.heap.size w w' := by
  have hlc := h.lc
  have hcm := h.cm
  unfold maxLen at hcm
  have hnew : ∀ W : World, EB (W.alloc (.cells #[.slice none 0 0, .int .i64 0, .int .i64 0, .int .i64 0, .int .i64 0, .int .i64 0, .int .i64 0, .int .i64 0, .int .i64 0, .int .i64 0, .int .i64 0] 26)) W.heap.size none 0 0 z0 := fun W => EB.new W none 0 0 z0
  obtain ⟨B, hB⟩ : ∃ B, B = w.heap.size := ⟨_, rfl⟩
  obtain ⟨w1, hw1⟩ : ∃ w1, w1 = w.alloc (.cells (ev a n c z) 26) := ⟨_, rfl⟩
  obtain ⟨w2, hw2⟩ : ∃ w2, w2 = w1.alloc (.cells #[.slice none 0 0, .int .i64 0, .int .i64 0, .int .i64 0, .int .i64 0, .int .i64 0, .int .i64 0, .int .i64 0, .int .i64 0, .int .i64 0, .int .i64 0] 26) := ⟨_, rfl⟩
  have hs1 : w1.heap.size = B + 1 := by rw [hw1, hB]; simp
  have hs2 : w2.heap.size = B + 2 := by rw [hw2]; simp [hs1]
  have HX2 : Hid (EB w2 B a n c z) := Lib.hid (by rw [hw2, hw1, hB]; exact (EB.new w a n c z).alloc _)
  have HR2 : Hid (EB w2 (B + 1) none 0 0 z0) := Lib.hid (by rw [hw2, ← hs1]; exact hnew w1)
  have HB2 : Hid (Below B w w2) := Lib.hid (by rw [hw2, hw1, hB]; exact (below_alloc w _).alloc (by simp) _)
  have HW : Hid (B = w.heap.size) := Lib.hid hB
  have H := Lib.hid h
  have HL := Lib.hid (OpS.len h)
  have HZ := Lib.hid hz
  have HS2 := Lib.hid hs2
  clear h hz
  go_enter Tryz.func6, Tryz.ntmps6
  go_upto_region 1 with fail
  rw [← hw1]
  try rw [← hw2]
  rw [← hB]
  try rw [hs1]
  clear hw1 hw2 hs1 hs2 hB
  go_wp2_with (first
    | (refine load_er rfl (.tmp 6) rfl B rfl _ n c z HZ.out HX2.out ?_)
    | (refine build_er rfl (.tmp 7) rfl z HZ.out rfl ?_)
    | (refine store_env rfl (.tmp 3) (.tmp 8) rfl _ rfl none 0 0 z rfl HZ.out none 0 0 z0 z0_len (hnew w2) ?_; rw [HS2.out]; intro w4 he4 ho4; have HQ4 := Lib.hid he4; have HO4 := Lib.hid ho4; clear he4 ho4))
  obtain ⟨q, hq⟩ : ∃ q, q = B + 2 := ⟨_, rfl⟩
  have HQ4' : Hid (EB w4 q none 0 0 z) := Lib.hid (by rw [hq]; exact HQ4.out)
  have HB42 : Hid (Below (B + 2) w2 w4) := Lib.hid ((below_alloc w2 _).mono (by rw [HS2.out]; exact Nat.le_refl _) |>.trans (HO4.out.below (Nat.le_refl _)))
  have HX4 : Hid (EB w4 B a n c z) := Lib.hid (HX2.out.keep HB42.out (by omega))
  have HR4 : Hid (EB w4 (B + 1) none 0 0 z0) := Lib.hid (HR2.out.keep HB42.out (by omega))
  have HB4 : Hid (Below B w w4) := Lib.hid (HB2.out.trans (HB42.out.mono (by omega)))
  have HQB : Hid (q = B + 2) := Lib.hid hq
  rw [← hq]
  clear hq HQ4 HO4 HX2 HR2 HB2 HS2 HB42
  go_wp2
  go_loopw [4] (fun v wr => ∃ (k : Nat) (a' : Option Addr) (c' : Nat), v = .int .i64 k ∧ k ≤ n ∧ k ≤ 20 ∧ Hid (EB wr q a' k c' z) ∧ Hid (OwnO (q + 1) wr a' k c' ((L.take k).map cutO)) ∧ Hid (Below q w4 wr)) (fun v _ => n - (intOf v).toNat)
  case atStart => exact ⟨0, none, 0, rfl, by omega, by omega, HQ4', Lib.hid OwnV.none0, Lib.hid (Below.refl _ _)⟩
  case round =>
    obtain ⟨k, a', c', rfl, hk, hk6, HQ, HO, HB⟩ := hrel
    have hk0 : (0 : Int) ≤ (k : Int) := Int.natCast_nonneg _
    have HXr : Hid (EB wr B a n c z) := Lib.hid (HX4.out.keep HB.out (by have := HQB.out; omega))
    have HRr : Hid (EB wr (B + 1) none 0 0 z0) := Lib.hid (HR4.out.keep HB.out (by have := HQB.out; omega))
    have HBW : Hid (Below B w wr) := Lib.hid (HB4.out.trans (HB.out.mono (by have := HQB.out; omega)))
    have x0 := HXr.out.c0
    by_cases hlt : k < n ∧ k < 20
    · have hk1 : (k : Int) < (n : Int) := by omega
      have hk2 : (k : Int) < 20 := by omega
      have hS := H.out.below (by rw [← HW.out]; exact HBW.out)
      obtain ⟨g, o, rfl, hgl, hx⟩ := hS.at_ (by omega)
      clear hx
      obtain ⟨c0, c1, c2⟩ := OpS.at3 hS hlt.1
      have HSN := Lib.hid (cut_snoc (L := L) (k := k) (by rw [HL.out]; exact hlt.1))
      obtain ⟨u, hu⟩ : ∃ u, u = opA L k := ⟨_, rfl⟩
      rw [← hu] at c0 c1 c2 HSN
      clear hu hS
      obtain ⟨p, gg, s⟩ := u
      dsimp only [cutO] at c0 c1 c2 HSN
      have hqr : q < wr.heap.size := HQ.out.lt
      have HQR := Lib.hid hqr
      have e2 : ∀ ob : Obj, (wr.alloc ob).cell? ⟨q, 0, none⟩ = some (.slice a' k c') := fun ob => (HQ.out.alloc ob).c0
      have hsz : (mk p).size = p.length := mk_size p
      obtain ⟨m, hm⟩ : ∃ m, m = p.length := ⟨_, rfl⟩
      rw [← hm] at hsz
      obtain ⟨v, hv⟩ : ∃ v, v = min m 60 := ⟨_, rfl⟩
      have hmin : min (m : Int) 60 = (v : Int) := by omega
      have hsl : ∀ w, (Instr.slice 9 (.string (mk p)) none (some (.int .i64 v)) none).run Tryz.prog w = .ok (.string (mk (p.take 60))) w := fun w => by
        rw [run_hi w p v (by omega)]
        congr 3
        rw [hv, hm]
        by_cases h30 : p.length ≤ 60
        · rw [Nat.min_eq_left h30, List.take_of_length_le (Nat.le_refl _), List.take_of_length_le h30]
        · rw [Nat.min_eq_right (by omega)]
      have hv0 : (0 : Int) ≤ (v : Int) := Int.natCast_nonneg _
      clear hm hv
      obtain ⟨p', hp'⟩ : ∃ x, x = p.take 60 := ⟨_, rfl⟩
      rw [← hp'] at hsl HSN
      clear hp' hqr
      go_wp2_with (first
        | (at_builtin; refine wpList_appv rfl (.tmp 34) (.tmp 36) 22 rfl 28 (q + 1) 3 32 _ Tryz.underlying22 op_info rfl (by omega) _ k _ (cO ((L.take k).map cutO)) rfl ((HO.out.alloc _).alloc _) _ 1 _ (cO [(p', gg, s)]) rfl (op_lit _ (p', gg, s) (by simp)) (cO_one _) (by unfold maxLen; omega) (by omega) (by have := HQR.out; simp; omega) ?_; intro a6 c6 w6 ho6 _ hb6 _; have HO6 := Lib.hid ho6; have HB6 : Hid (Below q w4 w6) := Lib.hid (((HB.out.alloc (Nat.le_of_lt HQR.out) _).alloc (by have := HQR.out; simp; omega) _).trans (hb6.mono (by omega))); have HQ6 : Hid (EB w6 q a' k c' z) := Lib.hid (((HQ.out.alloc _).alloc _).keep hb6 (by omega)); clear ho6 hb6)
        | (refine store_ops rfl (.tmp 38) (.tmp 37) rfl q rfl a6 (k + 1) c6 rfl a' k c' z HQ6.out ?_; intro w7 he7 ho7; have HE7 := Lib.hid he7; have HO7 : Hid (OwnO (q + 1) w7 a6 (k + 1) c6 ((L.take (k + 1)).map cutO)) := Lib.hid (by rw [HSN.out]; exact ownO_only (by rw [OwnO, cO_app]; exact HO6.out) ho7 (by omega)); have HB7 : Hid (Below q w4 w7) := Lib.hid (HB6.out.trans (ho7.below (Nat.le_refl _))); clear he7 ho7))
      go_roundw
      case rel => exact ⟨k + 1, a6, c6, by go_num, by omega, by omega, HE7, HO7, HB7⟩
      case measure => simp [intOf]; omega
    · have HE : Hid ((L.take k).map cutO = fewL L) := Lib.hid (few_end hk6 (by rw [HL.out]; exact hlt))
      rw [HE.out] at HO
      have HN : Hid ((fewL L).length = k) := Lib.hid (OpS.len HO.out.vs)
      by_cases hkn : k < n
      · have hk20 : k = 20 := by omega
        subst hk20
        go_wp2_with (first
          | (refine load_env rfl (.tmp 3) rfl q rfl a' 20 c' z HZ.out HQ.out ?_)
          | (refine store_env rfl (.tmp 2) (.tmp 39) rfl (B + 1) rfl a' 20 c' z rfl HZ.out none 0 0 z0 z0_len HRr.out ?_; intro w9 he9 ho9; have HE9 := Lib.hid he9; have HO9 := Lib.hid ho9; clear he9 ho9))
        refine bodyPost_ret (ret_env rfl _ _ (B + 1) a' 20 c' z HZ.out rfl HE9.out) rfl ⟨a', c', by rw [HN.out], ?_, ?_⟩
        · rw [HN.out]; exact OwnV.weak (ownO_only HO.out HO9.out (by have := HQB.out; omega)) (by have := HW.out; have := HQB.out; omega)
        · rw [← HW.out]; exact HBW.out.trans (HO9.out.below (by omega))
      · have hkn' : k = n := by omega
        subst hkn'
        go_wp2_with (first
          | (refine load_env rfl (.tmp 3) rfl q rfl a' k c' z HZ.out HQ.out ?_)
          | (refine store_env rfl (.tmp 2) (.tmp 39) rfl (B + 1) rfl a' k c' z rfl HZ.out none 0 0 z0 z0_len HRr.out ?_; intro w9 he9 ho9; have HE9 := Lib.hid he9; have HO9 := Lib.hid ho9; clear he9 ho9))
        refine bodyPost_ret (ret_env rfl _ _ (B + 1) a' k c' z HZ.out rfl HE9.out) rfl ⟨a', c', by rw [HN.out], ?_, ?_⟩
        · rw [HN.out]; exact OwnV.weak (ownO_only HO.out HO9.out (by have := HQB.out; omega)) (by have := HW.out; have := HQB.out; omega)
        · rw [← HW.out]; exact HBW.out.trans (HO9.out.below (by omega))

/-! ### The document's Unique -/

theorem enS_app (A B : List Nm) : (A ++ B).map enS = A.map enS ++ B.map enS := List.map_append
theorem uniq_yes {A : List Nm} (h : ∀ i, i < A.length → ∀ k, k < i → pt A i ≠ pt A k) : A.Nodup := by
  unfold List.Nodup
  rw [List.pairwise_iff_getElem]
  intro i j hi hj hij e
  refine h j hj i hij ?_
  unfold pt
  simp only [List.getD, List.getElem?_eq_getElem hi, List.getElem?_eq_getElem hj, Option.getD_some]
  exact e.symm
theorem uniq_no' {A : List Nm} {i k : Nat} (hi : i < A.length) (hk : k < i) (h : pt A i = pt A k) : ¬ A.Nodup := by
  intro hn
  unfold List.Nodup at hn
  rw [List.pairwise_iff_getElem] at hn
  refine hn k i (by omega) hi hk ?_
  unfold pt at h
  simp only [List.getD, List.getElem?_eq_getElem hi, List.getElem?_eq_getElem (show k < A.length by omega), Option.getD_some] at h
  exact h.symm
theorem allP_len (L : List OP) : (allP L).length ≤ L.length * 4 := by
  induction L with
  | nil => simp [allP]
  | cons o L ih =>
    have h := prt_len o.1
    unfold allP at ih ⊢
    rw [List.flatMap_cons, List.length_append, List.length_cons]
    omega

set_option maxRecDepth 20000 in
set_option maxHeartbeats 4000000 in
theorem runiq_any (a : Option Addr) (n c : Nat) (L : List OP) (z : List Int) (w : World) (h : OpS w a n c L) (hn : n ≤ 1000000) (hp : ∀ o ∈ L, o.1.length ≤ 200) :
    Calls Tryz.prog 19 #[.agg (ev a n c z)] w fun e w' => e = .returned (.bool (uniqB L)) ∧ Below w.heap.size w w' := by
  have hlc := h.lc
  have hcm := h.cm
  unfold maxLen at hcm
  obtain ⟨B, hB⟩ : ∃ B, B = w.heap.size := ⟨_, rfl⟩
  obtain ⟨w0, hw0⟩ : ∃ w0, w0 = w.alloc (.cells (ev a n c z) 26) := ⟨_, rfl⟩
  obtain ⟨w1, hw1⟩ : ∃ w1, w1 = w0.alloc (.cells #[] 9) := ⟨_, rfl⟩
  obtain ⟨E, hE⟩ : ∃ E, E = B + 1 := ⟨_, rfl⟩
  have hs0 : w0.heap.size = E := by rw [hw0, hE, hB]; simp
  have HE0 : Hid (EB w0 B a n c z) := Lib.hid (by rw [hw0, hB]; exact EB.new w a n c z)
  have HB00 : Hid (Below B w w0) := Lib.hid (by rw [hw0, hB]; exact below_alloc w _)
  have H00 : Hid (OpS w0 a n c L) := Lib.hid (h.below (by rw [← hB]; exact HB00.out))
  have HB01 : Hid (Below w0.heap.size w0 w1) := Lib.hid (by rw [hw1]; exact below_alloc w0 _)
  have HO1 : Hid (OwnV w0.heap.size 9 1 w1 (some ⟨E, 0, none⟩) 0 0 ((allP (L.take 0)).map enS)) := Lib.hid (by rw [hw1, ← hs0]; exact OwnV.emptyAt (heap_alloc_new w0 _) (Nat.le_refl _))
  have HL := Lib.hid (OpS.len h)
  have HP := Lib.hid hp
  have HBB := Lib.hid hB
  have hS : B < w0.heap.size := HE0.out.lt
  have HS := Lib.hid hS
  have e0 := (HE0.out.below HB01.out).c0
  clear h hp hS
  go_enter Tryz.func19, Tryz.ntmps19
  go_wp2
  rw [← hw0, ← hw1, ← hB, ← hE]
  clear hw0 hw1 hB hE e0 hs0
  go_loopw [3, 4] (fun u v wr => ∃ a3, ∃ m q k : Nat, u = .slice a3 m q ∧ v = .int .i64 k ∧ k ≤ n ∧ Hid ((allP (L.take k)).length = m) ∧ Hid (OwnV w0.heap.size 9 1 wr a3 m q ((allP (L.take k)).map enS)) ∧ Hid (Below w0.heap.size w0 wr)) (fun _ v _ => n - (intOf v).toNat)
  case atStart => exact ⟨_, 0, 0, 0, rfl, rfl, by omega, Lib.hid rfl, HO1, HB01⟩
  case round =>
    obtain ⟨a3, m, q, k, rfl, rfl, hk, HM, HO, HB⟩ := hrel
    have e0 := (HE0.out.below HB.out).c0
    have HML : Hid (m ≤ k * 4) := Lib.hid (by rw [← HM.out]; exact Nat.le_trans (allP_len _) (by rw [List.length_take]; omega))
    by_cases hlt : k < n
    · have hs := H00.out.below HB.out
      obtain ⟨b, off, rfl, _, hc⟩ := hs.at_ (by omega)
      clear hc
      obtain ⟨c0, c1, c2⟩ := OpS.at3 hs hlt
      have HSN := Lib.hid (allP_snoc (L := L) (k := k) (by rw [HL.out]; exact hlt))
      obtain ⟨o, ho⟩ : ∃ o, o = opA L k := ⟨_, rfl⟩
      have HPo : Hid (o.1.length ≤ 200) := Lib.hid (by rw [ho]; exact HP.out _ (opA_mem (by rw [HL.out]; exact hlt)))
      rw [← ho] at c0 c1 c2 HSN
      clear ho hs
      obtain ⟨p, g, s⟩ := o
      dsimp only at c0 c1 c2 HSN
      have HOF : Hid (∀ w, Calls Tryz.prog 39 #[.string (mk p)] w fun e w' => ∃ a n c, e = .returned (shV a n c (ofR p)) ∧ Ss w' a n c (prt p) ∧ Below w.heap.size w w') := Lib.hid fun w => srof_any p w HPo.out
      have HPL := Lib.hid (prt_len p)
      obtain ⟨P, l, r, kk, hR⟩ : ∃ P l r k, ofR p = (⟨P, l, r⟩, k) := ⟨_, _, _, _, rfl⟩
      have HPP : Hid (prt p = P) := Lib.hid (by unfold prt; rw [hR])
      rw [hR] at HOF
      simp only [shV] at HOF
      rw [HPP.out] at HSN HPL HOF
      clear hR
      go_wp2_with fail
      refine (HOF.out wr).mono ?_
      rintro e w2 ⟨sa, sn, sc, rfl, hs, hb2⟩
      have HB2 : Hid (Below w0.heap.size w0 w2) := Lib.hid (HB.out.trans (hb2.mono HB.out.size))
      have HS2 := Lib.hid hs
      have HO2 : Hid (OwnV w0.heap.size 9 1 w2 a3 m q ((allP (L.take k)).map enS)) := Lib.hid (HO.out.keep hb2 (Nat.le_refl _))
      have HLN := Lib.hid (Ss.len hs)
      have hsn : sn ≤ 4 := by have := HLN.out; have := HPL.out; omega
      clear hs hb2 c0 c1 c2 e0
      go_wp2_with (first | (at_builtin; refine wpList_appv rfl (.tmp 27) (.tmp 29) 68 rfl 9 w0.heap.size 1 16 _ Tryz.underlying68 str_info rfl (by omega) _ m _ ((allP (L.take k)).map enS) rfl (HO2.out.alloc _) _ sn _ (P.map enS) rfl (Vs.below HS2.out (below_alloc w2 _)) (enS_one P) (by unfold maxLen; have := HML.out; omega) (by have := HML.out; omega) (Nat.le_trans HB2.out.size (by simp)) ?_; intro a6 c6 w6 ho6 _ hb6 _; have HO6 := Lib.hid ho6; have HB6 : Hid (Below w0.heap.size w0 w6) := Lib.hid ((HB2.out.alloc HB2.out.size _).trans hb6); clear ho6 hb6))
      have HN6 : Hid ((allP (L.take (k + 1))).length = m + sn) := Lib.hid (by rw [HSN.out, List.length_append, HM.out, HLN.out])
      have HOE : Hid (OwnV w0.heap.size 9 1 w6 a6 (m + sn) c6 ((allP (L.take (k + 1))).map enS)) := Lib.hid (by rw [HSN.out, enS_app]; exact HO6.out)
      go_roundw
      case rel => exact ⟨_, m + sn, _, k + 1, rfl, by go_num, by omega, HN6, HOE, HB6⟩
      case measure => simp [intOf]; omega
    · obtain ⟨A, hA⟩ : ∃ A, A = allP L := ⟨_, rfl⟩
      have HAL : Hid (allP (L.take k) = A) := Lib.hid (by rw [List.take_of_length_le (by rw [HL.out]; omega), hA])
      have HU : Hid (uniqB L = decide A.Nodup) := Lib.hid (by unfold uniqB; rw [hA])
      rw [HAL.out] at HM HO
      have HBE : Hid (Below w.heap.size w wr) := Lib.hid (by rw [← HBB.out]; exact HB00.out.trans (HB.out.mono (Nat.le_of_lt HS.out)))
      have HV : Hid (Ss wr a3 m q A) := Lib.hid HO.out.vs
      have hm4 : m ≤ 4000000 := by have := HML.out; omega
      clear hA
      go_wp2
      go_loopw [7] (fun v wq => ∃ i : Nat, v = .int .i64 i ∧ i ≤ m ∧ Hid (∀ j, j < i → ∀ k, k < j → pt A j ≠ pt A k) ∧ Hid (Below wr.heap.size wr wq)) (fun v _ => m - (intOf v).toNat)
      case atStart => exact ⟨0, rfl, by omega, Lib.hid fun j hj => by omega, Lib.hid (Below.refl _ _)⟩
      case round =>
        rename World => wq
        obtain ⟨i, rfl, hi, HI, HBQ⟩ := hrel
        by_cases hil : i < m
        · have hd1 : decide ((i : Int) < (m : Int)) = true := decide_eq_true (by omega)
          go_wp2
          go_loopw [8] (fun v wp => ∃ k : Nat, v = .int .i64 k ∧ k ≤ i ∧ Hid (∀ j, j < k → pt A i ≠ pt A j) ∧ Hid (Below wr.heap.size wr wp)) (fun v _ => i - (intOf v).toNat)
          case atStart => exact ⟨0, rfl, by omega, Lib.hid fun j hj => by omega, HBQ⟩
          case round =>
            rename World => wp
            obtain ⟨k, rfl, hk, HK, HBP⟩ := hrel
            by_cases hki : k < i
            · have hs := HV.out.below HBP.out
              obtain ⟨b, o, rfl, _, hc⟩ := hs.at_ (by omega)
              clear hc
              have c0 := Ss.str hs hil
              have c1 := Ss.str hs (show k < m by omega)
              obtain ⟨x, hx⟩ : ∃ x, x = pt A i := ⟨_, rfl⟩
              obtain ⟨y, hy⟩ : ∃ y, y = pt A k := ⟨_, rfl⟩
              have HXY := Lib.hid (And.intro hx hy)
              rw [← hx] at c0
              rw [← hy] at c1
              have hxl := mk_toList x
              have hyl := mk_toList y
              have HBD : Hid (Below wr.heap.size wr wp.drew) := Lib.hid (HBP.out.drew)
              clear hs hx hy
              cases he : (x == y) with
              | true =>
                have HF : Hid (uniqB L = false) := Lib.hid (by rw [HU.out]; exact decide_eq_false (uniq_no' (by rw [HM.out]; exact hil) hki (by rw [← HXY.out.1, ← HXY.out.2]; exact eq_of_beq he)))
                go_wp2_with fail
                go_region
                go_wp2
                go_ret
                exact ⟨by rw [HF.out]; rfl, HBE.out.trans (HBD.out.mono HBE.out.size)⟩
              | false =>
                have HK1 : Hid (∀ j, j < k + 1 → pt A i ≠ pt A j) := Lib.hid fun j hj => by
                  by_cases hjk : j = k
                  · subst hjk; rw [← HXY.out.1, ← HXY.out.2]; exact beq_eq_false_iff_ne.1 he
                  · exact HK.out j (by omega)
                go_wp2_with fail
                go_region
                go_wp2
                go_roundw
                case rel => exact ⟨k + 1, by go_num, by omega, HK1, HBD⟩
                case measure => simp [intOf]; omega
            · have HI1 : Hid (∀ j, j < i + 1 → ∀ k, k < j → pt A j ≠ pt A k) := Lib.hid fun j hj => by
                by_cases hji : j = i
                · subst hji; exact fun k' hk' => HK.out k' (by omega)
                · exact HI.out j (by omega)
              go_wp2
              go_roundw
              case rel => exact ⟨i + 1, by go_num, by omega, HI1, HBP⟩
              case measure => simp [intOf]; omega
        · have HT : Hid (uniqB L = true) := Lib.hid (by rw [HU.out]; exact decide_eq_true (uniq_yes fun i' hi' => HI.out i' (by rw [HM.out] at hi'; omega)))
          go_wp2
          go_ret
          exact ⟨by rw [HT.out]; rfl, HBE.out.trans (HBQ.out.mono HBE.out.size)⟩

end Go.Proofs.YtjkjbgekpkhpfaaGreatDoor
