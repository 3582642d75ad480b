/- The law's own few and fewOf (laid by genYk.py). -/
import Derived.Test.YtcegbmhnbmfnnaaGreatDoorML
import Derived.Test.YtcegbmhnbmfnnaaGreatDoorBx
import Derived.Test.YtcegbmhnbmfnnaaGreatDoorMT
import Derived.Test.YtcegbmhnbmfnnaaGreatDoorYc
import Derived.Deep.DeepCutAuto
namespace Go.Proofs.YtcegbmhnbmfnnaaGreatDoor
open Go.RowKit

theorem opers_size1 : (Tryz.prog.info? 22).map (·.size) = some 1 := by kernel_rfl
theorem string_size1 : (Tryz.prog.info? 9).map (·.size) = some 1 := by kernel_rfl
/-- A slice stored into an env's first cell. -/
theorem store_ops {ops : Array Oper} {rest : List Oper} {o : Oper} {A : Act} {w : World} {Q : Exit → Act → World → Prop} (hgd : o.guard = none) (x y : Operand) (ho : o.op = .store 22 x y)
    (b : Nat) (hx : A.eval x = .pointer (some ⟨b, 0, none⟩)) (a' : Option Addr) (n' c' : Nat) (hy : A.eval y = .slice a' n' c') (a : Option Addr) (n c : Nat) (z : List Int) (h : EB w b a n c z)
    (k : ∀ w', EB w' b a' n' c' z → Only b w w' → wpList Tryz.prog ops Q rest (A.put o.dst undef) w') : wpList Tryz.prog ops Q (o :: rest) A w :=
  wpList_store_cell hgd 22 26 x y ho b 0 (Value.slice a n c :: rlz z) (.slice a' n' c') hx hy opers_size1 rfl h (by simp) rfl fun w' h' ho' => k w' h' ho'
/-- A text stored into an operator's first cell. -/
theorem store_pat {ops : Array Oper} {rest : List Oper} {o : Oper} {A : Act} {w : World} {Q : Exit → Act → World → Prop} (hgd : o.guard = none) (x y : Operand) (ho : o.op = .store 9 x y)
    (b : Nat) (hx : A.eval x = .pointer (some ⟨b, 0, none⟩)) (p' : Nm) (hy : A.eval y = .string (mk p')) (p : Nm) (g s : Int) (h : D3 w b (p, g, s))
    (k : ∀ w', D3 w' b (p', g, s) → Only b w w' → wpList Tryz.prog ops Q rest (A.put o.dst undef) w') : wpList Tryz.prog ops Q (o :: rest) A w :=
  wpList_store_cell hgd 9 28 x y ho b 0 [.string (mk p), .int .i64 g, .int .i64 s] (.string (mk p')) hx hy string_size1 rfl h (by simp) rfl fun w' h' ho' => k w' h' ho'

theorem build_er {ops : Array Oper} {rest : List Oper} {o : Oper} {A : Act} {w : World} {Q : Exit → Act → World → Prop} (hgd : o.guard = none) (y : Operand) (ho : o.op = .build 26 #[(1, y)])
    (z : List Int) (hz : z.length = 10) (hy : A.eval y = .agg (rv z))
    (k : wpList Tryz.prog ops Q rest (A.put o.dst (.agg (ev none 0 0 z))) w) : wpList Tryz.prog ops Q (o :: rest) A w :=
  wpList_plain hgd fun K hK => by
    have hb := built_rows hz w
    unfold Oper.wp execOp
    simp only [ho, List.map_toArray, List.map_cons, List.map_nil, hy, hb, Sem.run_bind, Result.andThen_ok, Sem.run_pure]
    exact hK _ _ k

/-! ### few -/

def cutO (o : OP) : OP := (o.1.take 60, o.2)
def fewL (L : List OP) : List OP := (L.take 20).map cutO
theorem fewL_len (L : List OP) : (fewL L).length ≤ 20 := by unfold fewL; rw [List.length_map, List.length_take]; omega
theorem fewL_pat {L : List OP} : ∀ o ∈ fewL L, o.1.length ≤ 60 := fun o ho => by
  obtain ⟨u, _, rfl⟩ := List.mem_map.1 ho
  show (u.1.take 60).length ≤ 60
  rw [List.length_take]; omega
theorem cut_snoc {L : List OP} {k : Nat} (h : k < L.length) : (L.take (k + 1)).map cutO = (L.take k).map cutO ++ [cutO (opA L k)] := by rw [opA_take h, List.map_append]; rfl
theorem few_end {L : List OP} {k : Nat} (h : k ≤ 20) (h2 : ¬ (k < L.length ∧ k < 20)) : (L.take k).map cutO = fewL L := by
  unfold fewL
  congr 1
  by_cases h3 : k = 20
  · rw [h3]
  · rw [List.take_of_length_le (by omega), List.take_of_length_le (by omega)]


/-- A slice stored into an env's first cell, in a region that draws. -/
theorem step_store_ops {ops : Array Oper} {o : Oper} {A : Act} {w : World} {K : Act → World → Prop} {Q : Exit → Act → World → Prop} {E : Prop} (hgd : o.guard = none) (x y : Operand) (ho : o.op = .store 22 x y)
    (b : Nat) (hx : A.eval x = .pointer (some ⟨b, 0, none⟩)) (a' : Option Addr) (n' c' : Nat) (hy : A.eval y = .slice a' n' c') (a : Option Addr) (n c : Nat) (z : List Int) (h : EB w b a n c z)
    (k : ∀ w', EB w' b a' n' c' z → Only b w w' → K (A.put o.dst undef) w') : if Region.wanted o (yielded ops A.tmps) = true then o.wp Tryz.prog A w K Q else E := by
  rw [if_pos (show Region.wanted o (yielded ops A.tmps) = true by simp [Region.wanted, hgd])]
  unfold Oper.wp execOp
  simp only [ho, hx, hy, Instr.storeAt, Instr.sureAddr, Sem.run_bind, Sem.run_pure, Result.andThen_ok, run_storeCell_at (P := Tryz.prog) w 22 26 b 0 (Value.slice a n c :: rlz z) (.slice a' n' c') opers_size1 rfl h (by simp) rfl]
  exact k _ (setRow_heap w b _ _ _ _ h) (Only.ofRow w b _)
/-- An operator stored into a block of its own. -/
theorem store_d3 {ops : Array Oper} {rest : List Oper} {o : Oper} {a : Act} {w : World} {Q : Exit → Act → World → Prop} (hgd : o.guard = none) (x y : Operand) (ho : o.op = .store 28 x y)
    (b : Nat) (hx : a.eval x = .pointer (some ⟨b, 0, none⟩)) (p : Nm) (g s : Int) (hy : a.eval y = .agg #[.string (mk p), .int .i64 g, .int .i64 s]) (u : OP) (h : D3 w b u)
    (k : ∀ w', D3 w' b (p, g, s) → Only b w w' → wpList Tryz.prog ops Q rest (a.put o.dst undef) w') : wpList Tryz.prog ops Q (o :: rest) a w :=
  wpList_store_row hgd 28 x y ho b _ hx hy _ _ h d3_info rfl (by kernel_rfl) (k _ (setRow_heap w b _ _ _ _ h) (Only.ofRow w b _))

theorem D3.only {w w' : World} {D g : Nat} {o : OP} (h : D3 w D o) (ho : Only g w w') (hne : D ≠ g) : D3 w' D o := (ho.block D hne).trans h
set_option maxRecDepth 20000 in
set_option maxHeartbeats 4000000 in
theorem fewO_any (p : Nm) (g s : Int) (w : World) (hp : p.length ≤ 140737488355328) : Calls Tryz.prog 7 #[.agg #[.string (mk p), .int .i64 g, .int .i64 s]] w fun e w' => e = .returned (.agg #[.string (mk (p.take 60)), .int .i64 g, .int .i64 s]) ∧ Below w.heap.size w w' := by
  obtain ⟨B, hB⟩ : ∃ B, B = w.heap.size := ⟨_, rfl⟩
  obtain ⟨w1, hw1⟩ : ∃ w1, w1 = w.alloc (.cells #[.string (mk p), .int .i64 g, .int .i64 s] 28) := ⟨_, rfl⟩
  obtain ⟨w2, hw2⟩ : ∃ w2, w2 = w1.alloc (.cells #[.string ⟨#[]⟩, .int .i64 0, .int .i64 0] 28) := ⟨_, rfl⟩
  have s1 : w1.heap.size = B + 1 := by rw [hw1, hB]; simp
  have HX2 : Hid (D3 w2 B (p, g, s)) := Lib.hid (by rw [hw2, hw1, hB]; exact (D3.new w (p, g, s)).alloc _)
  have HR2 : Hid (D3 w2 (B + 1) ([], 0, 0)) := Lib.hid (by rw [hw2, ← s1]; exact D3.new w1 ([], 0, 0))
  have HB2 : Hid (Below B w w2) := Lib.hid (by rw [hw2, hw1, hB]; exact (below_alloc w _).alloc (by simp) _)
  have HW := Lib.hid hB
  have hsz : (mk p).size = p.length := mk_size p
  obtain ⟨m, hm⟩ : ∃ m, m = p.length := ⟨_, rfl⟩
  rw [← hm] at hsz
  obtain ⟨v, hv⟩ : ∃ v, v = min m 60 := ⟨_, rfl⟩
  have hmin : min (m : Int) 60 = (v : Int) := by omega
  have hsl : ∀ w, (Instr.slice 9 (.string (mk p)) none (some (.int .i64 v)) none).run Tryz.prog w = .ok (.string (mk (p.take 60))) w := fun w => by
    rw [run_hi w p v (by omega)]
    congr 3
    rw [hv, hm]
    by_cases h30 : p.length ≤ 60
    · rw [Nat.min_eq_left h30, List.take_of_length_le (Nat.le_refl _), List.take_of_length_le h30]
    · rw [Nat.min_eq_right (by omega)]
  have hv0 : (0 : Int) ≤ (v : Int) := Int.natCast_nonneg _
  obtain ⟨c0, c1, c2⟩ := HX2.out.cells
  dsimp only at c0 c1 c2
  clear hm hv hp
  obtain ⟨p', hp'⟩ : ∃ x, x = p.take 60 := ⟨_, rfl⟩
  rw [← hp'] at hsl ⊢
  clear hp'
  go_enter Tryz.func7, Tryz.ntmps7
  go_upto_region 1 with fail
  rw [← hw1]
  try rw [← hw2]
  rw [← hB]
  try rw [s1]
  clear hw1 hw2 s1 hB
  go_wp2_with (first
    | (refine store_d3 rfl (.tmp 2) (.tmp 11) rfl (B + 1) rfl p' g s rfl ([], 0, 0) (HR2.out.only HO3.out (by omega)) ?_; intro w4 h4 ho4; have H4 := Lib.hid h4; have HO4 := Lib.hid ho4; clear h4 ho4)
    | (refine store_pat rfl (.tmp 10) (.tmp 9) rfl B rfl p' rfl p g s HX2.out ?_; intro w3 h3 ho3; have H3 := Lib.hid h3; have HO3 := Lib.hid ho3; clear h3 ho3 c0 c1 c2)
    | (refine load_d3 rfl (.tmp 1) rfl B rfl p' g s H3.out ?_))
  refine bodyPost_ret (results_cell_row rfl _ _ (B + 1) 28 _ _ _ rfl H4.out Tryz.underlying28 rfl d3_info) rfl ⟨rfl, ?_⟩
  rw [← HW.out]
  exact HB2.out.trans ((HO3.out.below (Nat.le_refl _)).trans (HO4.out.below (by omega)))

set_option maxRecDepth 100000 in
set_option maxHeartbeats 8000000 in
theorem fewOf_any (a : Option Addr) (n c : Nat) (L : List OP) (z : List Int) (w : World) (h : OpS w a n c L) (hz : z.length = 10) (hpp : ∀ o ∈ L, o.1.length ≤ 140737488355328) :
    Calls Tryz.prog 6 #[.agg (ev a n c z)] w fun e w' => ∃ a' c', e = .returned (.agg (ev a' (fewL L).length c' z)) ∧ OwnO w.heap.size w' a' (fewL L).length c' (fewL L) ∧ Below w.heap.size w w' := by
  have hlc := h.lc
  have hcm := h.cm
  unfold maxLen at hcm
  have hnew : ∀ W : World, EB (W.alloc (.cells #[.slice none 0 0, .int .i64 0, .int .i64 0, .int .i64 0, .int .i64 0, .int .i64 0, .int .i64 0, .int .i64 0, .int .i64 0, .int .i64 0, .int .i64 0] 26)) W.heap.size none 0 0 z0 := fun W => EB.new W none 0 0 z0
  obtain ⟨B, hB⟩ : ∃ B, B = w.heap.size := ⟨_, rfl⟩
  obtain ⟨w1, hw1⟩ : ∃ w1, w1 = w.alloc (.cells (ev a n c z) 26) := ⟨_, rfl⟩
  obtain ⟨w2, hw2⟩ : ∃ w2, w2 = w1.alloc (.cells #[.slice none 0 0, .int .i64 0, .int .i64 0, .int .i64 0, .int .i64 0, .int .i64 0, .int .i64 0, .int .i64 0, .int .i64 0, .int .i64 0, .int .i64 0] 26) := ⟨_, rfl⟩
  have hs1 : w1.heap.size = B + 1 := by rw [hw1, hB]; simp
  have hs2 : w2.heap.size = B + 2 := by rw [hw2]; simp [hs1]
  have HX2 : Hid (EB w2 B a n c z) := Lib.hid (by rw [hw2, hw1, hB]; exact (EB.new w a n c z).alloc _)
  have HR2 : Hid (EB w2 (B + 1) none 0 0 z0) := Lib.hid (by rw [hw2, ← hs1]; exact hnew w1)
  have HB2 : Hid (Below B w w2) := Lib.hid (by rw [hw2, hw1, hB]; exact (below_alloc w _).alloc (by simp) _)
  have HW : Hid (B = w.heap.size) := Lib.hid hB
  have H := Lib.hid h
  have HL := Lib.hid (OpS.len h)
  have HZ := Lib.hid hz
  have HPP := Lib.hid hpp
  have HS2 := Lib.hid hs2
  clear h hz hpp
  go_enter Tryz.func6, Tryz.ntmps6
  go_upto_region 1 with fail
  rw [← hw1]
  try rw [← hw2]
  rw [← hB]
  try rw [hs1]
  clear hw1 hw2 hs1 hs2 hB
  go_wp2_with (first
    | (refine load_er rfl (.tmp 5) rfl B rfl _ n c z HZ.out HX2.out ?_)
    | (refine build_er rfl (.tmp 6) rfl z HZ.out rfl ?_)
    | (refine store_env rfl (.tmp 3) (.tmp 7) rfl _ rfl none 0 0 z rfl HZ.out none 0 0 z0 z0_len (hnew w2) ?_; rw [HS2.out]; intro w4 he4 ho4; have HQ4 := Lib.hid he4; have HO4 := Lib.hid ho4; clear he4 ho4))
  obtain ⟨q, hq⟩ : ∃ q, q = B + 2 := ⟨_, rfl⟩
  have HQ4' : Hid (EB w4 q none 0 0 z) := Lib.hid (by rw [hq]; exact HQ4.out)
  have HB42 : Hid (Below (B + 2) w2 w4) := Lib.hid ((below_alloc w2 _).mono (by rw [HS2.out]; exact Nat.le_refl _) |>.trans (HO4.out.below (Nat.le_refl _)))
  have HX4 : Hid (EB w4 B a n c z) := Lib.hid (HX2.out.keep HB42.out (by omega))
  have HR4 : Hid (EB w4 (B + 1) none 0 0 z0) := Lib.hid (HR2.out.keep HB42.out (by omega))
  have HB4 : Hid (Below B w w4) := Lib.hid (HB2.out.trans (HB42.out.mono (by omega)))
  have HQB : Hid (q = B + 2) := Lib.hid hq
  rw [← hq]
  clear hq HQ4 HO4 HX2 HR2 HB2 HS2 HB42
  go_wp2
  go_loopw [4] (fun v wr => ∃ (k : Nat) (a' : Option Addr) (c' : Nat), v = .int .i64 k ∧ k ≤ n ∧ k ≤ 20 ∧ Hid (EB wr q a' k c' z) ∧ Hid (OwnO (q + 1) wr a' k c' ((L.take k).map cutO)) ∧ Hid (Below q w4 wr)) (fun v _ => n - (intOf v).toNat)
  case atStart => exact ⟨0, none, 0, rfl, by omega, by omega, HQ4', Lib.hid OwnV.none0, Lib.hid (Below.refl _ _)⟩
  case round =>
    obtain ⟨k, a', c', rfl, hk, hk6, HQ, HO, HB⟩ := hrel
    have hk0 : (0 : Int) ≤ (k : Int) := Int.natCast_nonneg _
    have HXr : Hid (EB wr B a n c z) := Lib.hid (HX4.out.keep HB.out (by have := HQB.out; omega))
    have HRr : Hid (EB wr (B + 1) none 0 0 z0) := Lib.hid (HR4.out.keep HB.out (by have := HQB.out; omega))
    have HBW : Hid (Below B w wr) := Lib.hid (HB4.out.trans (HB.out.mono (by have := HQB.out; omega)))
    have x0 := HXr.out.c0
    by_cases hlt : k < n ∧ k < 20
    · have hk1 : (k : Int) < (n : Int) := by omega
      have hk2 : (k : Int) < 20 := by omega
      obtain ⟨g, o, rfl, hgl, hx⟩ := H.out.at_ (by omega)
      have HGW : Hid (g < B) := Lib.hid (by rw [HW.out]; exact hgl)
      have hS := H.out.below (by rw [← HW.out]; exact HBW.out)
      clear hx hgl
      obtain ⟨c0, c1, c2⟩ := OpS.at3 hS hlt.1
      have HSN := Lib.hid (cut_snoc (L := L) (k := k) (by rw [HL.out]; exact hlt.1))
      obtain ⟨u, hu⟩ : ∃ u, u = opA L k := ⟨_, rfl⟩
      have HPU : Hid (u.1.length ≤ 140737488355328) := Lib.hid (by rw [hu]; exact HPP.out _ (opA_mem (by rw [HL.out]; exact hlt.1)))
      rw [← hu] at c0 c1 c2 HSN
      clear hu hS
      obtain ⟨p, gg, s⟩ := u
      dsimp only [cutO] at c0 c1 c2 HSN HPU
      have hqr : q < wr.heap.size := HQ.out.lt
      have HQR := Lib.hid hqr
      obtain ⟨p', hp'⟩ : ∃ x, x = p.take 60 := ⟨_, rfl⟩
      have HFEW : Hid (∀ w' : World, Calls Tryz.prog 7 #[.agg #[.string (mk p), .int .i64 gg, .int .i64 s]] w' fun e w'' => e = .returned (.agg #[.string (mk p'), .int .i64 gg, .int .i64 s]) ∧ Below w'.heap.size w' w'') := Lib.hid fun w' => by rw [hp']; exact fewO_any p gg s w' HPU.out
      rw [← hp'] at HSN
      have HKQ : Hid (∀ w', Below wr.heap.size wr w' → EB w' q a' k c' z) := Lib.hid fun w' hh => HQ.out.below hh
      have HSS : Hid (∀ w' : World, w'.heap[B]? = wr.heap[B]? → w'.heap[g]? = wr.heap[g]? → w'.cell? ⟨B, 0, none⟩ = some (.slice (some ⟨g, o, none⟩) n c) ∧ w'.cell? ⟨g, o + k * 3, none⟩ = some (.string (mk p)) ∧ w'.cell? ⟨g, o + k * 3 + 1, none⟩ = some (.int .i64 gg) ∧ w'.cell? ⟨g, o + k * 3 + 2, none⟩ = some (.int .i64 s)) := Lib.hid fun w' hB0 hG0 => by
        have hc1 : ∀ (t j : Nat), w'.heap[t]? = wr.heap[t]? → w'.cell? ⟨t, j, none⟩ = wr.cell? ⟨t, j, none⟩ := fun t j h => by unfold World.cell?; rw [h]
        exact ⟨(hc1 _ _ hB0).trans x0, (hc1 _ _ hG0).trans c0, (hc1 _ _ hG0).trans c1, (hc1 _ _ hG0).trans c2⟩
      have HSC : Hid (∀ w', Below (q + 1) wr w' → w'.cell? ⟨B, 0, none⟩ = some (.slice (some ⟨g, o, none⟩) n c) ∧ w'.cell? ⟨g, o + k * 3, none⟩ = some (.string (mk p)) ∧ w'.cell? ⟨g, o + k * 3 + 1, none⟩ = some (.int .i64 gg) ∧ w'.cell? ⟨g, o + k * 3 + 2, none⟩ = some (.int .i64 s)) := Lib.hid fun w' hh => HSS.out w' (hh.block B (by have := HQB.out; omega)) (hh.block g (by have := HQB.out; have := HGW.out; omega))
      have HSB : Hid (∀ w', Below wr.heap.size wr w' → w'.cell? ⟨B, 0, none⟩ = some (.slice (some ⟨g, o, none⟩) n c) ∧ w'.cell? ⟨g, o + k * 3, none⟩ = some (.string (mk p)) ∧ w'.cell? ⟨g, o + k * 3 + 1, none⟩ = some (.int .i64 gg) ∧ w'.cell? ⟨g, o + k * 3 + 2, none⟩ = some (.int .i64 s)) := Lib.hid fun w' hh => HSC.out w' (hh.mono (by have := HQR.out; omega))
      clear hqr hp'
      go_wp2_with fail
      -- the region, by hand
      refine wp_region_noPanic ?_
      refine wp_region_held_drew (S := fun w' => w'.cell? ⟨B, 0, none⟩ = some (.slice (some ⟨g, o, none⟩) n c) ∧ w'.cell? ⟨g, o + k * 3, none⟩ = some (.string (mk p)) ∧ w'.cell? ⟨g, o + k * 3 + 1, none⟩ = some (.int .i64 gg) ∧ w'.cell? ⟨g, o + k * 3 + 2, none⟩ = some (.int .i64 s)) (by kernel_rfl) (HSB.out _ (Below.refl wr.heap.size wr).drew) (fun hHeld => ?_)
      refine wpAnyH_take (i := 0) (oi := { dst := some 19, op := Op.fieldAddr 26 (Operand.tmp 3) 0, type := 0, pos := "law.go:30", after := #[], guard := none }) (v := ?_) rfl (by kernel_rfl) (by kernel_rfl) (by kernel_rfl) (fun _ _ _ h => h) (Or.inl ⟨by rfl, ?_⟩) (by assumption) ?_
      rotate_left
      · intro w' hSw
        try dsimp only at hSw
        go_simp
        try with_reducible rfl
      try simp only [Act.put, List.setIfInBounds_toArray, List.set_cons_zero, List.set_cons_succ]
      refine wpAnyH_take (i := 2) (oi := { dst := some 21, op := Op.fieldAddr 26 (Operand.tmp 1) 0, type := 0, pos := "law.go:30", after := #[], guard := none }) (v := ?_) rfl (by kernel_rfl) (by kernel_rfl) (by kernel_rfl) (fun _ _ _ h => h) (Or.inl ⟨by rfl, ?_⟩) (by assumption) ?_
      rotate_left
      · intro w' hSw
        try dsimp only at hSw
        go_simp
        try with_reducible rfl
      try simp only [Act.put, List.setIfInBounds_toArray, List.set_cons_zero, List.set_cons_succ]
      refine wpAnyH_take (i := 3) (oi := { dst := some 22, op := Op.load 22 (Operand.tmp 21), type := 22, pos := "law.go:30", after := #[{ on := 2, ground := Ground.data }], guard := none }) (v := ?_) rfl (by kernel_rfl) (by kernel_rfl) (by kernel_rfl) (fun _ _ _ h => h) (Or.inl ⟨by rfl, ?_⟩) (by assumption) ?_
      rotate_left
      · intro w' hSw
        try dsimp only at hSw
        go_simp
        try with_reducible rfl
      try simp only [Act.put, List.setIfInBounds_toArray, List.set_cons_zero, List.set_cons_succ]
      refine wpAnyH_take (i := 4) (oi := { dst := some 23, op := Op.move (Operand.tmp 4), type := 3, pos := "law.go:30", after := #[], guard := none }) (v := ?_) rfl (by kernel_rfl) (by kernel_rfl) (by kernel_rfl) (fun _ _ _ h => h) (Or.inl ⟨by rfl, ?_⟩) (by assumption) ?_
      rotate_left
      · intro w' hSw
        try dsimp only at hSw
        go_simp
        try with_reducible rfl
      try simp only [Act.put, List.setIfInBounds_toArray, List.set_cons_zero, List.set_cons_succ]
      refine wpAnyH_take (i := 5) (oi := { dst := some 24, op := Op.indexAddr 22 (Operand.tmp 22) (Operand.tmp 23), type := 0, pos := "law.go:30", after := #[{ on := 3, ground := Ground.data }, { on := 4, ground := Ground.data }], guard := none }) (v := ?_) rfl (by kernel_rfl) (by kernel_rfl) (by kernel_rfl) (fun _ _ _ h => h) (Or.inl ⟨by rfl, ?_⟩) (by assumption) ?_
      rotate_left
      · intro w' hSw
        try dsimp only at hSw
        go_simp
        try with_reducible rfl
      try simp only [Act.put, List.setIfInBounds_toArray, List.set_cons_zero, List.set_cons_succ]
      refine wpAnyH_take (i := 6) (oi := { dst := some 25, op := Op.load 28 (Operand.tmp 24), type := 28, pos := "law.go:30", after := #[{ on := 5, ground := Ground.data }], guard := none }) (v := ?_) rfl (by kernel_rfl) (by kernel_rfl) (by kernel_rfl) (fun _ _ _ h => h) (Or.inl ⟨by rfl, ?_⟩) (by assumption) ?_
      rotate_left
      · intro w' hSw
        try dsimp only at hSw
        go_simp
        try with_reducible rfl
      try simp only [Act.put, List.setIfInBounds_toArray, List.set_cons_zero, List.set_cons_succ]
      refine wpAnyH_ready (rs := [1, 7]) (by kernel_rfl) (by simp) ?_
      refine AllReadyH.cons (o := { dst := some 20, op := Op.load 22 (Operand.tmp 19), type := 22, pos := "law.go:30", after := #[{ on := 0, ground := Ground.data }], guard := none }) rfl (fun K hK => ?_) ?_
      · have cq1 := (HKQ.out _ (Below.refl wr.heap.size wr).drew).c0
        go_simp
        clear cq1
        refine hK.out _ _ (HSB.out _ (Below.refl wr.heap.size wr).drew) (fun hHeld => ?_)
        clear hK K
        try simp only [Act.put, List.setIfInBounds_toArray, List.set_cons_zero, List.set_cons_succ]
        refine wpAnyH_ready (rs := [7]) (by kernel_rfl) (by simp) ?_
        refine AllReadyH.cons (o := { dst := some 26, op := Op.call { callee := Callee.value (Operand.func 7), args := #[Operand.tmp 25], argTypes := #[28] }, type := 28, pos := "law.go:30", after := #[{ on := 6, ground := Ground.data }], guard := none }) rfl (fun K hK => ?_) ?_
        · go_simp
          (go_at_call 7; (with_reducible refine (HFEW.out _).mono ?_); rintro e v2 ⟨rfl, hb2⟩)
          have HBx2 : Hid (Below wr.heap.size wr v2) := Lib.hid ((Below.refl wr.heap.size wr).drew.trans (hb2.mono (Below.refl wr.heap.size wr).drew.size))
          clear hb2
          refine hK.out _ _ (HSB.out _ HBx2.out) (fun hHeld => ?_)
          clear hK K
          try simp only [Act.put, List.setIfInBounds_toArray, List.set_cons_zero, List.set_cons_succ]
          refine wpAnyH_ready (rs := [8]) (by kernel_rfl) (by simp) ?_
          refine AllReadyH.cons (o := { dst := some 27, op := Op.buildSlice 22 1 #[(0, Operand.tmp 26)], type := 22, pos := "law.go:30", after := #[{ on := 7, ground := Ground.data }], guard := none }) rfl (fun K hK => ?_) ?_
          · refine step_one rfl (.tmp 26) rfl (p', gg, s) rfl ?_
            intro v3 gL hgL hoL hwL
            have HBx3 : Hid (Below wr.heap.size wr v3) := Lib.hid (by rw [hwL]; exact Below.alloc HBx2.out HBx2.out.size _)
            have HLT3 : Hid (OpS v3 (some ⟨gL, 0, none⟩) 1 1 [(p', gg, s)]) := Lib.hid hoL.vs
            clear hgL hoL hwL
            refine hK.out _ _ (HSB.out _ HBx3.out) (fun hHeld => ?_)
            clear hK K
            try simp only [Act.put, List.setIfInBounds_toArray, List.set_cons_zero, List.set_cons_succ]
            refine wpAnyH_ready (rs := [9]) (by kernel_rfl) (by simp) ?_
            refine AllReadyH.cons (o := { dst := some 28, op := Op.call { callee := Callee.builtin Builtin.append, args := #[Operand.tmp 20, Operand.tmp 27], argTypes := #[22, 22] }, type := 22, pos := "law.go:30", after := #[{ on := 1, ground := Ground.data }, { on := 8, ground := Ground.data }, { on := 7, ground := Ground.chain }], guard := none }) rfl (fun K hK => ?_) ?_
            · refine step_appv rfl (.tmp 20) (.tmp 27) 22 rfl 28 (q + 1) 3 32 _ Tryz.underlying22 op_info rfl (by omega) _ k _ (cO ((L.take k).map cutO)) rfl (HO.out.keep HBx3.out (Nat.le_refl _)) _ 1 _ (cO [(p', gg, s)]) rfl HLT3.out (cO_one _) (by unfold maxLen; omega) (by omega) (by have := HQR.out; have := HBx3.out.size; omega) ?_
              intro a6 c6 v4 ho6 hg6 hb6 _
              have HO6 : Hid (OwnO (q + 1) v4 a6 (k + 1) c6 ((L.take k).map cutO ++ [(p', gg, s)])) := Lib.hid (by rw [OwnO, cO_app]; exact ho6)
              have HBy4 : Hid (Below (q + 1) wr v4) := Lib.hid ((HBx3.out.mono (by have := HQR.out; omega)).trans hb6)
              have HQ6 : Hid (EB v4 q a' k c' z) := Lib.hid (HQ.out.keep HBy4.out (by omega))
              clear ho6 hg6 hb6
              refine hK.out _ _ (HSC.out _ HBy4.out) (fun hHeld => ?_)
              clear hK K
              try simp only [Act.put, List.setIfInBounds_toArray, List.set_cons_zero, List.set_cons_succ]
              refine wpAnyH_take (i := 10) (oi := { dst := some 29, op := Op.fieldAddr 26 (Operand.tmp 3) 0, type := 0, pos := "law.go:30", after := #[{ on := 0, ground := Ground.phase }, { on := 1, ground := Ground.phase }, { on := 2, ground := Ground.phase }, { on := 3, ground := Ground.phase }, { on := 4, ground := Ground.phase }, { on := 5, ground := Ground.phase }, { on := 6, ground := Ground.phase }, { on := 7, ground := Ground.phase }, { on := 8, ground := Ground.phase }, { on := 9, ground := Ground.phase }], guard := none }) (v := ?_) rfl (by kernel_rfl) (by kernel_rfl) (by kernel_rfl) (fun _ _ _ h => h) (Or.inl ⟨by rfl, ?_⟩) (by assumption) ?_
              rotate_left
              · intro w' hSw
                try dsimp only at hSw
                go_simp
                try with_reducible rfl
              try simp only [Act.put, List.setIfInBounds_toArray, List.set_cons_zero, List.set_cons_succ]
              refine wpAnyH_ready (rs := [11]) (by kernel_rfl) (by simp) ?_
              refine AllReadyH.cons (o := { dst := none, op := Op.store 22 (Operand.tmp 29) (Operand.tmp 28), type := 0, pos := "law.go:30", after := #[{ on := 10, ground := Ground.data }, { on := 9, ground := Ground.data }, { on := 9, ground := Ground.chain }, { on := 0, ground := Ground.phase }, { on := 1, ground := Ground.phase }, { on := 2, ground := Ground.phase }, { on := 3, ground := Ground.phase }, { on := 4, ground := Ground.phase }, { on := 5, ground := Ground.phase }, { on := 6, ground := Ground.phase }, { on := 7, ground := Ground.phase }, { on := 8, ground := Ground.phase }, { on := 9, ground := Ground.phase }], guard := none }) rfl (fun K hK => ?_) ?_
              · refine step_store_ops rfl (.tmp 29) (.tmp 28) rfl q rfl a6 (k + 1) c6 rfl a' k c' z HQ6.out ?_
                intro w7 he7 ho7
                have HE7 := Lib.hid he7
                have HO7 : Hid (OwnO (q + 1) w7 a6 (k + 1) c6 ((L.take (k + 1)).map cutO)) := Lib.hid (by rw [HSN.out]; exact ownO_only HO6.out ho7 (by omega))
                have HB7 : Hid (Below q w4 w7) := Lib.hid (HB.out.trans ((HBy4.out.mono (by omega)).trans (ho7.below (Nat.le_refl _))))
                have HOX := Lib.hid ho7
                clear he7 ho7
                refine hK.out _ _ (HSS.out _ ((HOX.out.block B (by have := HQB.out; omega)).trans (HBy4.out.block B (by have := HQB.out; omega))) ((HOX.out.block g (by have := HQB.out; have := HGW.out; omega)).trans (HBy4.out.block g (by have := HQB.out; have := HGW.out; omega)))) (fun hHeld => ?_)
                clear hK K
                try simp only [Act.put]
                refine wpAnyH_done (by kernel_rfl) ?_ _
                refine NoPanic.normal ?_
                go_wp2
                go_roundw
                case rel => exact ⟨k + 1, a6, c6, by go_num, by omega, by omega, HE7, HO7, HB7⟩
                case measure => simp [intOf]; omega
              exact AllReadyH.nil
            exact AllReadyH.nil
          exact AllReadyH.nil
        exact AllReadyH.nil
      refine AllReadyH.cons (o := { dst := some 26, op := Op.call { callee := Callee.value (Operand.func 7), args := #[Operand.tmp 25], argTypes := #[28] }, type := 28, pos := "law.go:30", after := #[{ on := 6, ground := Ground.data }], guard := none }) rfl (fun K hK => ?_) ?_
      · go_simp
        (go_at_call 7; (with_reducible refine (HFEW.out _).mono ?_); rintro e v6 ⟨rfl, hb6⟩)
        have HBx6 : Hid (Below wr.heap.size wr v6) := Lib.hid ((Below.refl wr.heap.size wr).drew.trans (hb6.mono (Below.refl wr.heap.size wr).drew.size))
        clear hb6
        refine hK.out _ _ (HSB.out _ HBx6.out) (fun hHeld => ?_)
        clear hK K
        try simp only [Act.put, List.setIfInBounds_toArray, List.set_cons_zero, List.set_cons_succ]
        refine wpAnyH_ready (rs := [1, 8]) (by kernel_rfl) (by simp) ?_
        refine AllReadyH.cons (o := { dst := some 20, op := Op.load 22 (Operand.tmp 19), type := 22, pos := "law.go:30", after := #[{ on := 0, ground := Ground.data }], guard := none }) rfl (fun K hK => ?_) ?_
        · have cq7 := (HKQ.out _ HBx6.out).c0
          go_simp
          clear cq7
          refine hK.out _ _ (HSB.out _ HBx6.out) (fun hHeld => ?_)
          clear hK K
          try simp only [Act.put, List.setIfInBounds_toArray, List.set_cons_zero, List.set_cons_succ]
          refine wpAnyH_ready (rs := [8]) (by kernel_rfl) (by simp) ?_
          refine AllReadyH.cons (o := { dst := some 27, op := Op.buildSlice 22 1 #[(0, Operand.tmp 26)], type := 22, pos := "law.go:30", after := #[{ on := 7, ground := Ground.data }], guard := none }) rfl (fun K hK => ?_) ?_
          · refine step_one rfl (.tmp 26) rfl (p', gg, s) rfl ?_
            intro v8 gL hgL hoL hwL
            have HBx8 : Hid (Below wr.heap.size wr v8) := Lib.hid (by rw [hwL]; exact Below.alloc HBx6.out HBx6.out.size _)
            have HLT8 : Hid (OpS v8 (some ⟨gL, 0, none⟩) 1 1 [(p', gg, s)]) := Lib.hid hoL.vs
            clear hgL hoL hwL
            refine hK.out _ _ (HSB.out _ HBx8.out) (fun hHeld => ?_)
            clear hK K
            try simp only [Act.put, List.setIfInBounds_toArray, List.set_cons_zero, List.set_cons_succ]
            refine wpAnyH_ready (rs := [9]) (by kernel_rfl) (by simp) ?_
            refine AllReadyH.cons (o := { dst := some 28, op := Op.call { callee := Callee.builtin Builtin.append, args := #[Operand.tmp 20, Operand.tmp 27], argTypes := #[22, 22] }, type := 22, pos := "law.go:30", after := #[{ on := 1, ground := Ground.data }, { on := 8, ground := Ground.data }, { on := 7, ground := Ground.chain }], guard := none }) rfl (fun K hK => ?_) ?_
            · refine step_appv rfl (.tmp 20) (.tmp 27) 22 rfl 28 (q + 1) 3 32 _ Tryz.underlying22 op_info rfl (by omega) _ k _ (cO ((L.take k).map cutO)) rfl (HO.out.keep HBx8.out (Nat.le_refl _)) _ 1 _ (cO [(p', gg, s)]) rfl HLT8.out (cO_one _) (by unfold maxLen; omega) (by omega) (by have := HQR.out; have := HBx8.out.size; omega) ?_
              intro a6 c6 v9 ho6 hg6 hb6 _
              have HO6 : Hid (OwnO (q + 1) v9 a6 (k + 1) c6 ((L.take k).map cutO ++ [(p', gg, s)])) := Lib.hid (by rw [OwnO, cO_app]; exact ho6)
              have HBy9 : Hid (Below (q + 1) wr v9) := Lib.hid ((HBx8.out.mono (by have := HQR.out; omega)).trans hb6)
              have HQ6 : Hid (EB v9 q a' k c' z) := Lib.hid (HQ.out.keep HBy9.out (by omega))
              clear ho6 hg6 hb6
              refine hK.out _ _ (HSC.out _ HBy9.out) (fun hHeld => ?_)
              clear hK K
              try simp only [Act.put, List.setIfInBounds_toArray, List.set_cons_zero, List.set_cons_succ]
              refine wpAnyH_take (i := 10) (oi := { dst := some 29, op := Op.fieldAddr 26 (Operand.tmp 3) 0, type := 0, pos := "law.go:30", after := #[{ on := 0, ground := Ground.phase }, { on := 1, ground := Ground.phase }, { on := 2, ground := Ground.phase }, { on := 3, ground := Ground.phase }, { on := 4, ground := Ground.phase }, { on := 5, ground := Ground.phase }, { on := 6, ground := Ground.phase }, { on := 7, ground := Ground.phase }, { on := 8, ground := Ground.phase }, { on := 9, ground := Ground.phase }], guard := none }) (v := ?_) rfl (by kernel_rfl) (by kernel_rfl) (by kernel_rfl) (fun _ _ _ h => h) (Or.inl ⟨by rfl, ?_⟩) (by assumption) ?_
              rotate_left
              · intro w' hSw
                try dsimp only at hSw
                go_simp
                try with_reducible rfl
              try simp only [Act.put, List.setIfInBounds_toArray, List.set_cons_zero, List.set_cons_succ]
              refine wpAnyH_ready (rs := [11]) (by kernel_rfl) (by simp) ?_
              refine AllReadyH.cons (o := { dst := none, op := Op.store 22 (Operand.tmp 29) (Operand.tmp 28), type := 0, pos := "law.go:30", after := #[{ on := 10, ground := Ground.data }, { on := 9, ground := Ground.data }, { on := 9, ground := Ground.chain }, { on := 0, ground := Ground.phase }, { on := 1, ground := Ground.phase }, { on := 2, ground := Ground.phase }, { on := 3, ground := Ground.phase }, { on := 4, ground := Ground.phase }, { on := 5, ground := Ground.phase }, { on := 6, ground := Ground.phase }, { on := 7, ground := Ground.phase }, { on := 8, ground := Ground.phase }, { on := 9, ground := Ground.phase }], guard := none }) rfl (fun K hK => ?_) ?_
              · refine step_store_ops rfl (.tmp 29) (.tmp 28) rfl q rfl a6 (k + 1) c6 rfl a' k c' z HQ6.out ?_
                intro w7 he7 ho7
                have HE7 := Lib.hid he7
                have HO7 : Hid (OwnO (q + 1) w7 a6 (k + 1) c6 ((L.take (k + 1)).map cutO)) := Lib.hid (by rw [HSN.out]; exact ownO_only HO6.out ho7 (by omega))
                have HB7 : Hid (Below q w4 w7) := Lib.hid (HB.out.trans ((HBy9.out.mono (by omega)).trans (ho7.below (Nat.le_refl _))))
                have HOX := Lib.hid ho7
                clear he7 ho7
                refine hK.out _ _ (HSS.out _ ((HOX.out.block B (by have := HQB.out; omega)).trans (HBy9.out.block B (by have := HQB.out; omega))) ((HOX.out.block g (by have := HQB.out; have := HGW.out; omega)).trans (HBy9.out.block g (by have := HQB.out; have := HGW.out; omega)))) (fun hHeld => ?_)
                clear hK K
                try simp only [Act.put]
                refine wpAnyH_done (by kernel_rfl) ?_ _
                refine NoPanic.normal ?_
                go_wp2
                go_roundw
                case rel => exact ⟨k + 1, a6, c6, by go_num, by omega, by omega, HE7, HO7, HB7⟩
                case measure => simp [intOf]; omega
              exact AllReadyH.nil
            exact AllReadyH.nil
          exact AllReadyH.nil
        refine AllReadyH.cons (o := { dst := some 27, op := Op.buildSlice 22 1 #[(0, Operand.tmp 26)], type := 22, pos := "law.go:30", after := #[{ on := 7, ground := Ground.data }], guard := none }) rfl (fun K hK => ?_) ?_
        · refine step_one rfl (.tmp 26) rfl (p', gg, s) rfl ?_
          intro v11 gL hgL hoL hwL
          have HBx11 : Hid (Below wr.heap.size wr v11) := Lib.hid (by rw [hwL]; exact Below.alloc HBx6.out HBx6.out.size _)
          have HLT11 : Hid (OpS v11 (some ⟨gL, 0, none⟩) 1 1 [(p', gg, s)]) := Lib.hid hoL.vs
          clear hgL hoL hwL
          refine hK.out _ _ (HSB.out _ HBx11.out) (fun hHeld => ?_)
          clear hK K
          try simp only [Act.put, List.setIfInBounds_toArray, List.set_cons_zero, List.set_cons_succ]
          refine wpAnyH_ready (rs := [1]) (by kernel_rfl) (by simp) ?_
          refine AllReadyH.cons (o := { dst := some 20, op := Op.load 22 (Operand.tmp 19), type := 22, pos := "law.go:30", after := #[{ on := 0, ground := Ground.data }], guard := none }) rfl (fun K hK => ?_) ?_
          · have cq12 := (HKQ.out _ HBx11.out).c0
            go_simp
            clear cq12
            refine hK.out _ _ (HSB.out _ HBx11.out) (fun hHeld => ?_)
            clear hK K
            try simp only [Act.put, List.setIfInBounds_toArray, List.set_cons_zero, List.set_cons_succ]
            refine wpAnyH_ready (rs := [9]) (by kernel_rfl) (by simp) ?_
            refine AllReadyH.cons (o := { dst := some 28, op := Op.call { callee := Callee.builtin Builtin.append, args := #[Operand.tmp 20, Operand.tmp 27], argTypes := #[22, 22] }, type := 22, pos := "law.go:30", after := #[{ on := 1, ground := Ground.data }, { on := 8, ground := Ground.data }, { on := 7, ground := Ground.chain }], guard := none }) rfl (fun K hK => ?_) ?_
            · refine step_appv rfl (.tmp 20) (.tmp 27) 22 rfl 28 (q + 1) 3 32 _ Tryz.underlying22 op_info rfl (by omega) _ k _ (cO ((L.take k).map cutO)) rfl (HO.out.keep HBx11.out (Nat.le_refl _)) _ 1 _ (cO [(p', gg, s)]) rfl HLT11.out (cO_one _) (by unfold maxLen; omega) (by omega) (by have := HQR.out; have := HBx11.out.size; omega) ?_
              intro a6 c6 v13 ho6 hg6 hb6 _
              have HO6 : Hid (OwnO (q + 1) v13 a6 (k + 1) c6 ((L.take k).map cutO ++ [(p', gg, s)])) := Lib.hid (by rw [OwnO, cO_app]; exact ho6)
              have HBy13 : Hid (Below (q + 1) wr v13) := Lib.hid ((HBx11.out.mono (by have := HQR.out; omega)).trans hb6)
              have HQ6 : Hid (EB v13 q a' k c' z) := Lib.hid (HQ.out.keep HBy13.out (by omega))
              clear ho6 hg6 hb6
              refine hK.out _ _ (HSC.out _ HBy13.out) (fun hHeld => ?_)
              clear hK K
              try simp only [Act.put, List.setIfInBounds_toArray, List.set_cons_zero, List.set_cons_succ]
              refine wpAnyH_take (i := 10) (oi := { dst := some 29, op := Op.fieldAddr 26 (Operand.tmp 3) 0, type := 0, pos := "law.go:30", after := #[{ on := 0, ground := Ground.phase }, { on := 1, ground := Ground.phase }, { on := 2, ground := Ground.phase }, { on := 3, ground := Ground.phase }, { on := 4, ground := Ground.phase }, { on := 5, ground := Ground.phase }, { on := 6, ground := Ground.phase }, { on := 7, ground := Ground.phase }, { on := 8, ground := Ground.phase }, { on := 9, ground := Ground.phase }], guard := none }) (v := ?_) rfl (by kernel_rfl) (by kernel_rfl) (by kernel_rfl) (fun _ _ _ h => h) (Or.inl ⟨by rfl, ?_⟩) (by assumption) ?_
              rotate_left
              · intro w' hSw
                try dsimp only at hSw
                go_simp
                try with_reducible rfl
              try simp only [Act.put, List.setIfInBounds_toArray, List.set_cons_zero, List.set_cons_succ]
              refine wpAnyH_ready (rs := [11]) (by kernel_rfl) (by simp) ?_
              refine AllReadyH.cons (o := { dst := none, op := Op.store 22 (Operand.tmp 29) (Operand.tmp 28), type := 0, pos := "law.go:30", after := #[{ on := 10, ground := Ground.data }, { on := 9, ground := Ground.data }, { on := 9, ground := Ground.chain }, { on := 0, ground := Ground.phase }, { on := 1, ground := Ground.phase }, { on := 2, ground := Ground.phase }, { on := 3, ground := Ground.phase }, { on := 4, ground := Ground.phase }, { on := 5, ground := Ground.phase }, { on := 6, ground := Ground.phase }, { on := 7, ground := Ground.phase }, { on := 8, ground := Ground.phase }, { on := 9, ground := Ground.phase }], guard := none }) rfl (fun K hK => ?_) ?_
              · refine step_store_ops rfl (.tmp 29) (.tmp 28) rfl q rfl a6 (k + 1) c6 rfl a' k c' z HQ6.out ?_
                intro w7 he7 ho7
                have HE7 := Lib.hid he7
                have HO7 : Hid (OwnO (q + 1) w7 a6 (k + 1) c6 ((L.take (k + 1)).map cutO)) := Lib.hid (by rw [HSN.out]; exact ownO_only HO6.out ho7 (by omega))
                have HB7 : Hid (Below q w4 w7) := Lib.hid (HB.out.trans ((HBy13.out.mono (by omega)).trans (ho7.below (Nat.le_refl _))))
                have HOX := Lib.hid ho7
                clear he7 ho7
                refine hK.out _ _ (HSS.out _ ((HOX.out.block B (by have := HQB.out; omega)).trans (HBy13.out.block B (by have := HQB.out; omega))) ((HOX.out.block g (by have := HQB.out; have := HGW.out; omega)).trans (HBy13.out.block g (by have := HQB.out; have := HGW.out; omega)))) (fun hHeld => ?_)
                clear hK K
                try simp only [Act.put]
                refine wpAnyH_done (by kernel_rfl) ?_ _
                refine NoPanic.normal ?_
                go_wp2
                go_roundw
                case rel => exact ⟨k + 1, a6, c6, by go_num, by omega, by omega, HE7, HO7, HB7⟩
                case measure => simp [intOf]; omega
              exact AllReadyH.nil
            exact AllReadyH.nil
          exact AllReadyH.nil
        exact AllReadyH.nil
      exact AllReadyH.nil
    · have HE : Hid ((L.take k).map cutO = fewL L) := Lib.hid (few_end hk6 (by rw [HL.out]; exact hlt))
      rw [HE.out] at HO
      have HN : Hid ((fewL L).length = k) := Lib.hid (OpS.len HO.out.vs)
      by_cases hkn : k < n
      · have hk20 : k = 20 := by omega
        subst hk20
        go_wp2_with (first
          | (refine load_env rfl (.tmp 3) rfl q rfl a' 20 c' z HZ.out HQ.out ?_)
          | (refine store_env rfl (.tmp 2) (.tmp 30) rfl (B + 1) rfl a' 20 c' z rfl HZ.out none 0 0 z0 z0_len HRr.out ?_; intro w9 he9 ho9; have HE9 := Lib.hid he9; have HO9 := Lib.hid ho9; clear he9 ho9))
        refine bodyPost_ret (ret_env rfl _ _ (B + 1) a' 20 c' z HZ.out rfl HE9.out) rfl ⟨a', c', by rw [HN.out], ?_, ?_⟩
        · rw [HN.out]; exact OwnV.weak (ownO_only HO.out HO9.out (by have := HQB.out; omega)) (by have := HW.out; have := HQB.out; omega)
        · rw [← HW.out]; exact HBW.out.trans (HO9.out.below (by omega))
      · have hkn' : k = n := by omega
        subst hkn'
        go_wp2_with (first
          | (refine load_env rfl (.tmp 3) rfl q rfl a' k c' z HZ.out HQ.out ?_)
          | (refine store_env rfl (.tmp 2) (.tmp 30) rfl (B + 1) rfl a' k c' z rfl HZ.out none 0 0 z0 z0_len HRr.out ?_; intro w9 he9 ho9; have HE9 := Lib.hid he9; have HO9 := Lib.hid ho9; clear he9 ho9))
        refine bodyPost_ret (ret_env rfl _ _ (B + 1) a' k c' z HZ.out rfl HE9.out) rfl ⟨a', c', by rw [HN.out], ?_, ?_⟩
        · rw [HN.out]; exact OwnV.weak (ownO_only HO.out HO9.out (by have := HQB.out; omega)) (by have := HW.out; have := HQB.out; omega)
        · rw [← HW.out]; exact HBW.out.trans (HO9.out.below (by omega))

end Go.Proofs.YtcegbmhnbmfnnaaGreatDoor
