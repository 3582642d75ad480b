import Derived.Test.YtanhpgmiadgmjaaGreatDoorT31
import Derived.Test.YtanhpgmiadgmjaaGreatDoorT32
import Derived.Test.YtanhpgmiadgmjaaGreatDoorT34
import Derived.Test.YtanhpgmiadgmjaaGreatDoorT35
namespace Go.Proofs.YtanhpgmiadgmjaaGreatDoor
open Go.RowKit
theorem only_keeps {g : Nat} {W W' : World} (h : Only g W W') {cs : Array Value} {t : TypeId} {m : Nat × Nat} (hg : W.heap[g]? = some (.cells cs t m)) : KeepsOthers W W' :=
 ⟨by rw [h.size]; exact Nat.le_refl _, fun k o hk ho => by
  by_cases e : k = g
  ·subst e
   rw [hg] at hk
   cases hk
   cases ho
  ·exact (h.block k e).trans hk⟩
theorem back_up {L : List OP} {z : List Int} {tok : List TK} : ∀ (T : List ND) (i : Nat), backB L z tok T = true → backB L z tok (T.drop i) = true
 | [], i, h => by rw [List.drop_nil]; exact h
 | x :: T, 0, h => h
 | x :: T, i + 1, h => by
  rw [List.drop_succ_cons]
  unfold backB at h
  rw [Bool.and_eq_true] at h
  exact back_up T i h.1
theorem wp_load_n5 {o : Oper} {a : Act} {w : World} {K : Act → World → Prop} {Q : Exit → Act → World → Prop} (x : Operand) (ho : o.op = .load 37 x)
  (b : Nat) (hx : a.eval x = .pointer (some ⟨b, 0, none⟩)) (y : ND) (h : N5 w b y) (k : K (a.put o.dst (.agg (ndA y))) w) : o.wp Tryz.prog a w K Q :=
 wp_load_row 37 x ho b hx _ _ _ _ h Tryz.underlying37 rfl n5_info k
theorem wp_store_n5 {o : Oper} {a : Act} {w : World} {K : Act → World → Prop} {Q : Exit → Act → World → Prop} (x y : Operand) (ho : o.op = .store 37 x y)
  (b : Nat) (hx : a.eval x = .pointer (some ⟨b, 0, none⟩)) (v : ND) (hy : a.eval y = .agg (ndA v)) (u : ND) (h : N5 w b u)
  (k : ∀ w', N5 w' b v → Only b w w' → K (a.put o.dst undef) w') : o.wp Tryz.prog a w K Q :=
 wp_store_row 37 x y ho b _ hx hy _ _ h n5_info rfl (by kernel_rfl) (k _ (setRow_heap w b _ _ _ _ h) (Only.ofRow w b _))
theorem wp_store_c1 {o : Oper} {a : Act} {w : World} {K : Act → World → Prop} {Q : Exit → Act → World → Prop} (ty : TypeId) (x y : Operand) (ho : o.op = .store ty x y)
  (b : Nat) (hx : a.eval x = .pointer (some ⟨b, 0, none⟩)) (v : Value) (hy : a.eval y = v) (hi : (Tryz.prog.info? ty).map (·.size) = some 1) (hc : v.cells = #[v]) (h1 : v.oneCell' = true) (t : TypeId) (u : Value) (h : C1 w b t u)
  (k : ∀ w', C1 w' b t v → Only b w w' → K (a.put o.dst undef) w') : o.wp Tryz.prog a w K Q := by
 unfold Oper.wp execOp
 simp only [ho, hx, hy, Instr.storeAt, Instr.sureAddr, Sem.run_bind, Sem.run_pure, Result.andThen_ok, run_storeCell_at (P := Tryz.prog) w ty t b 0 [u] v hi hc h (by simp) h1]
 exact k _ (setRow_heap w b _ _ _ _ h) (Only.ofRow w b _)
theorem run_store_nrow (w : World) (b off : Nat) (v : ND) (cur : List Value) (h : w.heap[b]? = some (.cells cur.toArray 37 (0, 0))) (hfit : off + 5 ≤ cur.length) :
  (storeVar 37 ⟨b, off, none⟩ (.agg (ndA v))).run Tryz.prog w = .ok () (w.setRow b (cur.take off ++ ndC v ++ cur.drop (off + 5)).toArray) := by
 have hst := run_storeCells_at Tryz.prog b off 37 (ndC v) 0 cur.toArray w h (by simpa [ndC] using hfit) (by intro u hu; simp only [ndC, List.mem_cons, List.not_mem_nil, or_false] at hu; rcases hu with rfl | rfl | rfl | rfl | rfl <;> rfl)
 have hq := n5_info
 cases hi : Tryz.prog.info? 37 with
 | none => rw [hi] at hq; cases hq
 | some i =>
  have hsz : i.size = 5 := by rw [hi] at hq; simpa using hq
  simp [storeVar, sizeOf, typeInfo, hi, Value.cells, hsz, ndA, ndC] at hst ⊢
  exact hst
theorem wp_store_nrow {o : Oper} {a : Act} {w : World} {K : Act → World → Prop} {Q : Exit → Act → World → Prop} (x y : Operand) (ho : o.op = .store 37 x y)
  (b off : Nat) (hx : a.eval x = .pointer (some ⟨b, off, none⟩)) (v : ND) (hy : a.eval y = .agg (ndA v)) (cur : List Value) (h : w.heap[b]? = some (.cells cur.toArray 37 (0, 0))) (hfit : off + 5 ≤ cur.length)
  (k : ∀ w', w'.heap[b]? = some (.cells (cur.take off ++ ndC v ++ cur.drop (off + 5)).toArray 37 (0, 0)) → Only b w w' → K (a.put o.dst undef) w') : o.wp Tryz.prog a w K Q := by
 unfold Oper.wp execOp
 simp only [ho, hx, hy, Instr.storeAt, Instr.sureAddr, Sem.run_bind, Sem.run_pure, Result.andThen_ok, run_store_nrow w b off v cur h hfit]
 exact k _ (setRow_heap w b _ _ _ _ h) (Only.ofRow w b _)
theorem wpList_makek {P : Program} {ops : Array Oper} {rest : List Oper} {o : Oper} {a : Act} {w : World} {Q : Exit → Act → World → Prop} (hg : o.guard = none) (l c : Operand) (t : TypeId) (hop : o.op = .makeSlice t l c)
  (e k by_ : Nat) (z : Value) (ht : P.underlying t = some (.slice e)) (hinf : (P.info? e).map (fun i => (i.zero, i.size, i.bytes)) = some (some z, k, by_))
  (n : Nat) (hl : a.eval l = .int .i64 n) (hc : a.eval c = .int .i64 n) (hbytes : by_ * n ≤ 281474976710656) (h63 : n ≤ 9223372036854775807)
  (h : ∀ (cur : List Value) w', w'.heap[w.heap.size]? = some (.cells cur.toArray e (0, 0)) → cur.length = n * k → Below w.heap.size w w' → w'.heap.size = w.heap.size + 1 → wpList P ops Q rest (a.put o.dst (.slice (some ⟨w.heap.size, 0, none⟩) n n)) w') : wpList P ops Q (o :: rest) a w := by
 refine wpList_plain hg fun K hK => ?_
 obtain ⟨i, hi, hz, hsz, hby⟩ := info_parts hinf
 have hb' : (i.bytes : Int) * (n : Int) ≤ 281474976710656 := by
  have h : ((i.bytes * n : Nat) : Int) ≤ 281474976710656 := by rw [hby]; omega
  rwa [Int.natCast_mul] at h
 have hr := run_make (P := P) w t e i z ht hi hz .i64 .i64 n n (by omega) (Int.le_refl _) hb' (by omega)
 simp only [Int.toNat_natCast] at hr
 unfold Oper.wp
 simp only [execOp, hop, hl, hc, hr, Sem.run_bind, Result.andThen_ok, Sem.run_pure]
 refine hK _ _ (h (madeCells z.cells (n * i.size)).toList _ ?_ (by rw [Array.length_toList, size_madeCells, hsz]) ((Below.refl _ _).alloc (Nat.le_refl _) _) (by simp))
 rw [heap_alloc_new]
theorem nbool1 : (Tryz.prog.info? 4).map (·.size) = some 1 := by kernel_rfl
theorem ret_m {F : Fence} {n : Nat} {P : Program} {fn : Func} {R : Ending → World → Prop} {a : Act} {w : World} {v : Value} (hd : a.defers = []) (hr : (results fn a.tmps).run P w = .ok v w) (hR : R (.returned v) w) : bodyPostM F n P fn R .ret a w := by
 show LeavesInM F n P fn a.tmps R a.defers .returning w
 rw [hd]
 exact ⟨v, hr, hR⟩
theorem right_res (tmps : Array Value) (w : World) (b : Nat) (v : Bool) (hp : tmps.getD 6 undef = .pointer (some ⟨b, 0, none⟩)) (h : C1 w b 4 (.bool v)) : (results Tryz.f19 tmps).run Tryz.prog w = .ok (.bool v) w := by
 have c0 := h.cell
 rw [Array.getD_eq_getD_getElem?] at hp
 simp [results, Tryz.f19, go_sem, hp, c0]
theorem end_iff {T : List ND} : endV T 0 = (T.length : Int) ↔ skp T 1 = some T.length := by
 rw [show (0 : Int) = ((0 : Nat) : Int) from rfl, end_nat, List.drop_zero]
 cases skp T 1 with
 | none => simp
 | some m => simp; omega
theorem kids_row {W : World} {G tn f m : Nat} {cur : List Value} {R : List ND} (h3 : W.heap[G]? = some (.cells cur.toArray 37 (0, 0))) (h4 : cur.length = tn * 5) (h5 : cur.drop (f * 5) = cN R) (hf : f + R.length = tn) (hm : m ≤ R.length) (htn : tn ≤ 1000000) :
  ∃ o', (∀ w : World, (Instr.slice 24 (.slice (some ⟨G, 0, none⟩) tn tn) (some (.int .i64 (f : Int))) (some (.int .i64 ((f : Int) + (m : Int)))) none).run Tryz.prog w = .ok (.slice (some ⟨G, o', none⟩) m (tn - f)) w) ∧
   (∀ W' : World, W'.heap[G]? = W.heap[G]? → NdS W' (some ⟨G, o', none⟩) m (tn - f) (R.take m)) := by
 refine ⟨if tn = f then 0 else 0 + f * 5, fun w => ?_, fun W' hW => ?_⟩
 ·have := run_lh nodes_elem Tryz.underlying24 nd_info (g := G) (off := 0) (n := tn) (c := tn) (l := f) (h := f + m) (by omega) (by omega) w
  rw [Nat.add_sub_cancel_left, Int.natCast_add] at this
  exact this
 ·refine ⟨by rw [cN_len, List.length_take]; omega, by omega, by unfold maxLen; omega, fun h0 => ?_⟩
  rw [if_neg (by omega), Nat.zero_add]
  refine ⟨G, f * 5, rfl, by rw [h3] at hW; exact (Array.getElem?_eq_some_iff.1 hW).1, fun i hi => ?_⟩
  rw [cell_of_row W' G (f * 5 + i) _ _ _ (hW.trans h3), ← cN_take, List.getElem?_take, if_pos hi, ← h5, List.getElem?_drop, List.getElem?_toArray]
theorem row_next {tn f m : Nat} {cur : List Value} {R : List ND} {x : ND} (h4 : cur.length = tn * 5) (h5 : cur.drop (f * 5) = cN R) (hf : f + R.length = tn) (hm : m ≤ R.length) (hfm : 0 < f + m) :
  (cur.take ((f + m - 1) * 5) ++ ndC x ++ cur.drop ((f + m - 1) * 5 + 5)).length = tn * 5 ∧ (cur.take ((f + m - 1) * 5) ++ ndC x ++ cur.drop ((f + m - 1) * 5 + 5)).drop ((f + m - 1) * 5) = cN (x :: R.drop m) := by
 have hc : (ndC x).length = 5 := rfl
 refine ⟨by rw [List.length_append, List.length_append, List.length_take, List.length_drop, h4, hc]; omega, ?_⟩
 rw [List.append_assoc, List.drop_append_of_le_length (by rw [List.length_take, h4]; omega), List.drop_take, Nat.sub_self, List.take_zero, List.nil_append]
 have : cur.drop ((f + m - 1) * 5 + 5) = cN (R.drop m) := by
  rw [show (f + m - 1) * 5 + 5 = f * 5 + m * 5 by omega, ← List.drop_drop, h5, cN_drop]
 rw [this]
 rfl
attribute [local go_sem] Oper.semAt_some
structure RI (w : World) (B b1 b2 b3 b4 bs G : Nat) (a : Option Addr) (n c : Nat) (L : List OP) (z : List Int) (la : Option Addr) (ln lc : Nat) (tok : List TK) (ta : Option Addr) (tn tc : Nat) (T : List ND) (k : Nat) (W : World) : Prop where
 re : EB W B a n c z
 rl : C1 W b1 23 (.slice la ln lc)
 rr : C1 W b2 4 (.bool false)
 ro : C1 W b3 24 (.slice (some ⟨G, 0, none⟩) tn tn)
 rf : ∃ f : Nat, C1 W b4 3 (.int .i64 (f : Int)) ∧ f + (roots (T.drop (tn - k))).length = tn ∧ ∃ cur : List Value, W.heap[G]? = some (.cells cur.toArray 37 (0, 0)) ∧ cur.length = tn * 5 ∧ cur.drop (f * 5) = cN (roots (T.drop (tn - k)))
 rs : C1 W bs 24 (.slice ta tn tc)
 rb : Below w.heap.size w W
 rg : backB L z tok (T.drop (tn - k)) = true
theorem RI.calm {w : World} {B b1 b2 b3 b4 bs G : Nat} {a : Option Addr} {n c : Nat} {L : List OP} {z : List Int} {la : Option Addr} {ln lc : Nat} {tok : List TK} {ta : Option Addr} {tn tc : Nat} {T : List ND} {k : Nat} {W W' : World}
  (hc : Calm w.heap.size W W') (h : RI w B b1 b2 b3 b4 bs G a n c L z la ln lc tok ta tn tc T k W) : RI w B b1 b2 b3 b4 bs G a n c L z la ln lc tok ta tn tc T k W' := by
 obtain ⟨f, h1, h2, cur, h3, h4, h5⟩ := h.rf
 exact ⟨hc.2 _ _ h.re rfl, hc.2 _ _ h.rl rfl, hc.2 _ _ h.rr rfl, hc.2 _ _ h.ro rfl, ⟨f, hc.2 _ _ h1 rfl, h2, cur, hc.2 _ _ h3 rfl, h4, h5⟩, hc.2 _ _ h.rs rfl, h.rb.trans hc.1, h.rg⟩
set_option maxRecDepth 100000 in
set_option maxHeartbeats 16000000 in
theorem tright_any (a : Option Addr) (n c : Nat) (L : List OP) (z : List Int) (la : Option Addr) (ln lc : Nat) (tok : List TK) (ta : Option Addr) (tn tc : Nat) (T : List ND) (w : World) (ht : Tab w) (h : OpS w a n c L) (hz : z.length = 10) (hr : ∀ i, i < 10 → I64 (bt z i)) (hT : Ts w la ln lc tok) (hN : NdS w ta tn tc T)
  (hn : n ≤ 1000000) (hL : ∀ o ∈ L, o.1.length ≤ 1000000) (hln : ln ≤ 1000000) (htn : tn ≤ 1000000) (hnm : ∀ x ∈ T, x.n.length ≤ 1000000) :
  Calls Tryz.prog 19 #[.agg (ev a n c z), .slice la ln lc, .slice ta tn tc] w fun e w' => e = .returned (.bool (rightB L z tok T)) ∧ Below w.heap.size w w' := by
 obtain ⟨B, hB⟩ : ∃ B, B = w.heap.size := ⟨_, rfl⟩
 obtain ⟨w1, hw1⟩ : ∃ w1, w1 = w.alloc (.cells (ev a n c z) 30) := ⟨_, rfl⟩
 obtain ⟨w2, hw2⟩ : ∃ w2, w2 = w1.alloc (.cells #[.slice la ln lc] 23) := ⟨_, rfl⟩
 obtain ⟨w3, hw3⟩ : ∃ w3, w3 = w2.alloc (.cells #[.bool false] 4) := ⟨_, rfl⟩
 obtain ⟨b1, hb1⟩ : ∃ b, b = w1.heap.size := ⟨_, rfl⟩
 obtain ⟨b2, hb2⟩ : ∃ b, b = w2.heap.size := ⟨_, rfl⟩
 have s1 : b1 = B + 1 := by rw [hb1, hw1, hB]; simp
 have s2 : b2 = B + 1 + 1 := by rw [hb2, hw2]; simp; omega
 have hb03 : Below w.heap.size w w3 := by rw [hw3, hw2, hw1]; exact ((below_alloc w _).alloc (by simp) _).alloc (by simp; omega) _
 have HE3 : Hid (EB w3 B a n c z) := hid (by rw [hw3, hw2, hw1, hB]; exact ((EB.new w a n c z).alloc _).alloc _)
 have HL3 : Hid (C1 w3 b1 23 (.slice la ln lc)) := hid (by rw [hw3, hw2, hb1]; exact (C1.new w1 _ _).alloc _)
 have HR3 : Hid (C1 w3 b2 4 (.bool false)) := hid (by rw [hw3, hb2]; exact C1.new w2 _ _)
 have HB3 := hid hb03
 have HS3 : Hid (w3.heap.size = B + 3 ∧ B = w.heap.size ∧ b1 = B + 1 ∧ b2 = B + 2) := hid ⟨by rw [hw3]; simp; omega, hB, s1, by omega⟩
 have HW := hid (And.intro ht (And.intro h (And.intro hT hN)))
 have HZ := hid hz
 have HR := hid hr
 have HL := hid hL
 have HNM := hid hnm
 have HTL : Hid (T.length = tn ∧ tok.length = ln) := hid ⟨NdS.len hN, hT.hl⟩
 obtain ⟨V, hV⟩ : ∃ V, V = rightB L z tok T := ⟨_, rfl⟩
 have HV : Hid (V = ((skp T 1 == some T.length) && (headB tok T && backB L z tok T))) := hid (by rw [hV, right_back])
 rw [← hV]
 clear ht h hz hr hT hN hL hnm hb03 hV
 refine (callsIn_wide (n := 3)).1 (callsIn_of_wp_marks Tryz.func19 rfl trivial ?_ rfl)
 refine wpIn_wide.2 ?_
 simp only [Tryz.ntmps19, List.size_toArray, List.length_cons, List.length_nil, Nat.reduceAdd, Nat.reduceSub, Array.replicate_succ, Array.replicate_zero, List.push_toArray, List.append_toArray, List.nil_append, List.cons_append]
 go_upto_region 1 with fail
 rw [← hw1]
 try rw [← hw2]
 try rw [← hw3]
 rw [← hB]
 try rw [← s2]
 try rw [← s1]
 clear hw1 hw2 hw3 hB hb1 hb2 s1 s2
 obtain ⟨e0, he0⟩ : ∃ e, e = endV T 0 := ⟨_, rfl⟩
 have HE0 := hid he0
 have KE : Hid (∀ w', Below w3.heap.size w3 w' → Calls Tryz.prog 20 #[.slice ta tn tc, .int .i64 0] w' fun e w'' => e = .returned (.int .i64 e0) ∧ w' = w'') := hid fun w' hb => by
  rw [he0]
  exact tend_any ta tn tc T 0 w' (HW.out.2.2.2.below (HB3.out.trans (hb.mono HB3.out.size))) htn (by omega)
 clear he0
 by_cases hend : e0 = (tn : Int)
 ·have hsk : skp T 1 = some T.length := by rw [← end_iff, ← HE0.out, hend, HTL.out.1]
  have HSK := hid hsk
  subst hend
  have htn0 : 0 < tn := by
   rcases Nat.eq_zero_or_pos tn with h0 | h0
   ·have hT0 : T = [] := List.eq_nil_of_length_eq_zero (by rw [HTL.out.1, h0])
    rw [hT0] at hsk
    cases hsk
   ·exact h0
  clear hsk
  obtain ⟨tb, to_, rfl, _, hc⟩ := HW.out.2.2.2.at_ htn0
  clear hc
  obtain ⟨xf, hxf⟩ : ∃ q, q = (nA T 0).f := ⟨_, rfl⟩
  obtain ⟨xt, hxt⟩ : ∃ q, q = (nA T 0).t := ⟨_, rfl⟩
  have HVH : Hid (V = ((xf == 0 && xt == (ln : Int)) && backB L z tok T)) := hid (by
   rw [HV.out, HSK.out, beq_self_eq_true, Bool.true_and]
   congr 1
   have hd := nA_drop (L := T) (k := 0) (by rw [HTL.out.1]; exact htn0)
   rw [List.drop_zero] at hd
   have : headB tok T = headB tok (nA T 0 :: T.drop (0 + 1)) := by rw [← hd]
   rw [this, hxf, hxt, ← HTL.out.2]
   rfl)
  have HK1 : Hid (∀ w', Below w3.heap.size w3 w' → w'.cell? ⟨tb, to_ + 2, none⟩ = some (.int .i64 xf) ∧ w'.cell? ⟨tb, to_ + 3, none⟩ = some (.int .i64 xt) ∧ w'.cell? ⟨b1, 0, none⟩ = some (.slice la ln lc)) := hid fun w' hb => by
   obtain ⟨c0, c1, c2, c3, c4⟩ := NdS.at5 (HW.out.2.2.2.below (HB3.out.trans (hb.mono HB3.out.size))) htn0
   rw [Nat.zero_mul, Nat.add_zero] at c2 c3
   exact ⟨by rw [hxf]; exact c2, by rw [hxt]; exact c3, (HL3.out.below hb).cell⟩
  clear HV HE0 hxf hxt
  cases hc1 : (xf == 0) with
  | false =>
   have hv : V = false := by rw [HVH.out, hc1]; rfl
   subst hv
   have hcmp : (xf != 0) = true := by simp only [bne, hc1, Bool.not_false]
   refine wp_region_noPanic ?_
   refine wp_region_held_drew (S := fun w' => w'.cell? ⟨tb, to_ + 2, none⟩ = some (.int .i64 xf) ∧ w'.cell? ⟨tb, to_ + 3, none⟩ = some (.int .i64 xt) ∧ w'.cell? ⟨b1, 0, none⟩ = some (.slice la ln lc)) (by kernel_rfl) (HK1.out _ (Below.refl _ _).drew) (fun hHeld => ?_)
   refine zG 0 rfl ?_
   try simp only [Act.put, aS, aZ, aC]
   refine zG 2 rfl ?_
   try simp only [Act.put, aS, aZ, aC]
   refine zG 3 rfl ?_
   try simp only [Act.put, aS, aZ, aC]
   refine zR [1] ?_
   refine hDo rfl (fun K hK => ?_) ?_
   ·go_simp
    (go_at_call 20; (with_reducible refine (KE.out _ (Below.refl _ _).drew).mono ?_); rintro e w9 ⟨rfl, rfl⟩)
    refine hK.out _ _ (HK1.out _ (Below.refl _ _).drew) (fun hHeld => ?_)
    clear hK K
    try simp only [Act.put, aS, aZ, aC]
    refine zG 4 rfl ?_
    try simp only [Act.put, aS, aZ, aC]
    refine zG 5 rfl ?_
    try simp only [Act.put, aS, aZ, aC]
    refine zG 6 rfl ?_
    try simp only [Act.put, aS, aZ, aC]
    refine zG 7 rfl ?_
    try simp only [Act.put, aS, aZ, aC]
    refine zG 8 rfl ?_
    try simp only [Act.put, aS, aZ, aC]
    refine zG 9 rfl ?_
    try simp only [Act.put, aS, aZ, aC]
    refine zG 10 rfl ?_
    try simp only [Act.put, aS, aZ, aC]
    refine zG 11 rfl ?_
    try simp only [Act.put, aS, aZ, aC]
    refine zG 12 rfl ?_
    try simp only [Act.put, aS, aZ, aC]
    refine hTn 13 rfl (by kernel_rfl) (fun _ _ _ h => h) (by rfl) (by assumption) ?_
    try simp only [Act.put, aS, aZ, aC]
    refine hTn 14 rfl (by kernel_rfl) (fun _ _ _ h => h) (by rfl) (by assumption) ?_
    try simp only [Act.put, aS, aZ, aC]
    refine hTn 15 rfl (by kernel_rfl) (fun _ _ _ h => h) (by rfl) (by assumption) ?_
    try simp only [Act.put, aS, aZ, aC]
    refine hTn 16 rfl (by kernel_rfl) (fun _ _ _ h => h) (by rfl) (by assumption) ?_
    try simp only [Act.put, aS, aZ, aC]
    refine hTn 17 rfl (by kernel_rfl) (fun _ _ _ h => h) (by rfl) (by assumption) ?_
    try simp only [Act.put, aS, aZ, aC]
    refine hTn 18 rfl (by kernel_rfl) (fun _ _ _ h => h) (by rfl) (by assumption) ?_
    try simp only [Act.put, aS, aZ, aC]
    refine hTn 19 rfl (by kernel_rfl) (fun _ _ _ h => h) (by rfl) (by assumption) ?_
    try simp only [Act.put, aS, aZ, aC]
    refine zG 20 rfl ?_
    try simp only [Act.put, aS, aZ, aC]
    refine wpAnyH_done (by kernel_rfl) ?_ _
    refine NoPanic.normal ?_
    obtain ⟨wq, hwq⟩ : ∃ wq, wq = w3.drew := ⟨_, rfl⟩
    rw [← hwq]
    have HQ : Hid (Below w3.heap.size w3 wq) := hid (by rw [hwq]; exact (Below.refl _ _).drew)
    clear hwq
    go_wp2_with (refine store_c1 rfl 4 (.tmp 6) (.const (.bool false)) rfl b2 rfl (.bool false) rfl nbool1 rfl rfl 4 (.bool false) (HR3.out.below HQ.out) ?_; intro wz hz9 hoz; have HZ9 := hid hz9; have HOZ := hid hoz; clear hz9 hoz)
    exact ret_m rfl (right_res _ _ b2 false rfl HZ9.out) ⟨rfl, (HB3.out.trans (HQ.out.mono HB3.out.size)).trans (HOZ.out.below (by have := HS3.out; omega))⟩
   ·exact AllReadyH.nil
  | true =>
   have hcmp : (xf != 0) = false := by simp only [bne, hc1, Bool.not_true]
   cases hc2 : (xt == (ln : Int)) with
   | false =>
    have hv : V = false := by rw [HVH.out, hc1, hc2]; rfl
    subst hv
    have hcmp2 : (xt != (ln : Int)) = true := by simp only [bne, hc2, Bool.not_false]
    refine wp_region_noPanic ?_
    refine wp_region_held_drew (S := fun w' => w'.cell? ⟨tb, to_ + 2, none⟩ = some (.int .i64 xf) ∧ w'.cell? ⟨tb, to_ + 3, none⟩ = some (.int .i64 xt) ∧ w'.cell? ⟨b1, 0, none⟩ = some (.slice la ln lc)) (by kernel_rfl) (HK1.out _ (Below.refl _ _).drew) (fun hHeld => ?_)
    refine zG 0 rfl ?_
    try simp only [Act.put, aS, aZ, aC]
    refine zG 2 rfl ?_
    try simp only [Act.put, aS, aZ, aC]
    refine zG 3 rfl ?_
    try simp only [Act.put, aS, aZ, aC]
    refine zR [1] ?_
    refine hDo rfl (fun K hK => ?_) ?_
    ·go_simp
     (go_at_call 20; (with_reducible refine (KE.out _ (Below.refl _ _).drew).mono ?_); rintro e w9 ⟨rfl, rfl⟩)
     refine hK.out _ _ (HK1.out _ (Below.refl _ _).drew) (fun hHeld => ?_)
     clear hK K
     try simp only [Act.put, aS, aZ, aC]
     refine zG 4 rfl ?_
     try simp only [Act.put, aS, aZ, aC]
     refine zG 5 rfl ?_
     try simp only [Act.put, aS, aZ, aC]
     refine zG 6 rfl ?_
     try simp only [Act.put, aS, aZ, aC]
     refine zG 7 rfl ?_
     try simp only [Act.put, aS, aZ, aC]
     refine zG 8 rfl ?_
     try simp only [Act.put, aS, aZ, aC]
     refine zG 9 rfl ?_
     try simp only [Act.put, aS, aZ, aC]
     refine zG 10 rfl ?_
     try simp only [Act.put, aS, aZ, aC]
     refine zG 11 rfl ?_
     try simp only [Act.put, aS, aZ, aC]
     refine zG 12 rfl ?_
     try simp only [Act.put, aS, aZ, aC]
     refine zG 13 rfl ?_
     try simp only [Act.put, aS, aZ, aC]
     refine zG 14 rfl ?_
     try simp only [Act.put, aS, aZ, aC]
     refine zG 15 rfl ?_
     try simp only [Act.put, aS, aZ, aC]
     refine zG 16 rfl ?_
     try simp only [Act.put, aS, aZ, aC]
     refine zG 17 rfl ?_
     try simp only [Act.put, aS, aZ, aC]
     refine zG 18 rfl ?_
     try simp only [Act.put, aS, aZ, aC]
     refine zG 19 rfl ?_
     try simp only [Act.put, aS, aZ, aC]
     refine zG 20 rfl ?_
     try simp only [Act.put, aS, aZ, aC]
     refine wpAnyH_done (by kernel_rfl) ?_ _
     refine NoPanic.normal ?_
     obtain ⟨wq, hwq⟩ : ∃ wq, wq = w3.drew := ⟨_, rfl⟩
     rw [← hwq]
     have HQ : Hid (Below w3.heap.size w3 wq) := hid (by rw [hwq]; exact (Below.refl _ _).drew)
     clear hwq
     go_wp2_with (refine store_c1 rfl 4 (.tmp 6) (.const (.bool false)) rfl b2 rfl (.bool false) rfl nbool1 rfl rfl 4 (.bool false) (HR3.out.below HQ.out) ?_; intro wz hz9 hoz; have HZ9 := hid hz9; have HOZ := hid hoz; clear hz9 hoz)
     exact ret_m rfl (right_res _ _ b2 false rfl HZ9.out) ⟨rfl, (HB3.out.trans (HQ.out.mono HB3.out.size)).trans (HOZ.out.below (by have := HS3.out; omega))⟩
    ·exact AllReadyH.nil
   | true =>
    have HVB : Hid (V = backB L z tok T) := hid (by rw [HVH.out, hc1, hc2]; rfl)
    have hcmp2 : (xt != (ln : Int)) = false := by simp only [bne, hc2, Bool.not_true]
    clear HVH
    refine wp_region_noPanic ?_
    refine wp_region_held_drew (S := fun w' => w'.cell? ⟨tb, to_ + 2, none⟩ = some (.int .i64 xf) ∧ w'.cell? ⟨tb, to_ + 3, none⟩ = some (.int .i64 xt) ∧ w'.cell? ⟨b1, 0, none⟩ = some (.slice la ln lc)) (by kernel_rfl) (HK1.out _ (Below.refl _ _).drew) (fun hHeld => ?_)
    refine zG 0 rfl ?_
    try simp only [Act.put, aS, aZ, aC]
    refine zG 2 rfl ?_
    try simp only [Act.put, aS, aZ, aC]
    refine zG 3 rfl ?_
    try simp only [Act.put, aS, aZ, aC]
    refine zR [1] ?_
    refine hDo rfl (fun K hK => ?_) ?_
    ·go_simp
     (go_at_call 20; (with_reducible refine (KE.out _ (Below.refl _ _).drew).mono ?_); rintro e w9 ⟨rfl, rfl⟩)
     refine hK.out _ _ (HK1.out _ (Below.refl _ _).drew) (fun hHeld => ?_)
     clear hK K
     try simp only [Act.put, aS, aZ, aC]
     refine zG 4 rfl ?_
     try simp only [Act.put, aS, aZ, aC]
     refine zG 5 rfl ?_
     try simp only [Act.put, aS, aZ, aC]
     refine zG 6 rfl ?_
     try simp only [Act.put, aS, aZ, aC]
     refine zG 7 rfl ?_
     try simp only [Act.put, aS, aZ, aC]
     refine zG 8 rfl ?_
     try simp only [Act.put, aS, aZ, aC]
     refine zG 9 rfl ?_
     try simp only [Act.put, aS, aZ, aC]
     refine zG 10 rfl ?_
     try simp only [Act.put, aS, aZ, aC]
     refine zG 11 rfl ?_
     try simp only [Act.put, aS, aZ, aC]
     refine zG 12 rfl ?_
     try simp only [Act.put, aS, aZ, aC]
     refine zG 13 rfl ?_
     try simp only [Act.put, aS, aZ, aC]
     refine zG 14 rfl ?_
     try simp only [Act.put, aS, aZ, aC]
     refine zG 15 rfl ?_
     try simp only [Act.put, aS, aZ, aC]
     refine zG 16 rfl ?_
     try simp only [Act.put, aS, aZ, aC]
     refine zG 17 rfl ?_
     try simp only [Act.put, aS, aZ, aC]
     refine zG 18 rfl ?_
     try simp only [Act.put, aS, aZ, aC]
     refine zG 19 rfl ?_
     try simp only [Act.put, aS, aZ, aC]
     refine zG 20 rfl ?_
     try simp only [Act.put, aS, aZ, aC]
     refine wpAnyH_done (by kernel_rfl) ?_ _
     refine NoPanic.normal ?_
     obtain ⟨w4, hw4⟩ : ∃ q, q = w3.drew := ⟨_, rfl⟩
     rw [← hw4]
     have HB4 : Hid (Below w3.heap.size w3 w4) := hid (by rw [hw4]; exact (Below.refl _ _).drew)
     have HS4 : Hid (w4.heap.size = B + 3) := hid (by rw [hw4]; exact HS3.out.1)
     clear hw4 KE HK1
     obtain ⟨G, hG⟩ : ∃ q, q = w4.heap.size := ⟨_, rfl⟩
     have HG := hid hG
     clear hG
     go_wp2_with (first
      | (refine wpList_makek rfl (.tmp 33) (.tmp 33) 24 rfl 37 5 48 _ Tryz.underlying24 nd_info tn rfl rfl (by omega) (by omega) ?_; intro cur w5 h5 hl5 hb5 hs5; rw [← HG.out] at h5 hs5 ⊢; have H5 := hid h5; have HL5 := hid hl5; have HB5 := hid hb5; have HS5 := hid hs5; obtain ⟨b3, hb3⟩ : ∃ q, q = w5.heap.size := ⟨_, rfl⟩; have HB3' := hid hb3; clear h5 hl5 hb5 hs5 hb3)
      | (refine store_c1 rfl 24 (.tmp 7) (.tmp 34) rfl _ rfl (.slice (some ⟨G, 0, none⟩) tn tn) rfl (by kernel_rfl) rfl rfl 24 (.slice none 0 0) (C1.new w5 24 (.slice none 0 0)) ?_; rw [← HB3'.out]; intro w6 h6 ho6; have H6 := hid h6; have HB6 : Hid (Below w5.heap.size w5 w6) := hid ((below_alloc w5 _).trans (ho6.below (by rw [HB3'.out]; exact Nat.le_refl _))); obtain ⟨b4, hb4⟩ : ∃ q, q = w6.heap.size := ⟨_, rfl⟩; have HB4' := hid hb4; clear h6 ho6 hb4)
      | (refine store_c1 rfl 3 (.tmp 8) (.tmp 36) rfl _ rfl (.int .i64 (tn : Int)) rfl nint1 rfl rfl 3 (.int .i64 0) (C1.new w6 3 (.int .i64 0)) ?_; rw [← HB4'.out]; intro w7 h7 ho7; have H7 := hid h7; have HB7 : Hid (Below w6.heap.size w6 w7) := hid ((below_alloc w6 _).trans (ho7.below (by rw [HB4'.out]; exact Nat.le_refl _))); clear h7 ho7))
     refine (backward_any _ tn tc w7).mono ?_
     rintro e w8 ⟨rfl, hw8⟩
     obtain ⟨bs, hbs⟩ : ∃ q, q = w7.heap.size := ⟨_, rfl⟩
     rw [← hbs]
     have HS8 : Hid (C1 w8 bs 24 (.slice (some ⟨tb, to_, none⟩) tn tc)) := hid (by rw [hw8, hbs]; exact C1.new w7 _ _)
     have HB8 : Hid (Below w7.heap.size w7 w8) := hid (by rw [hw8]; exact below_alloc w7 _)
     have HBS := hid hbs
     clear hbs hw8
     have HB58 : Hid (Below w5.heap.size w5 w8) := hid (HB6.out.trans ((HB7.out.trans (HB8.out.mono HB7.out.size)).mono HB6.out.size))
     have HB48 : Hid (Below w4.heap.size w4 w8) := hid (HB5.out.trans (HB58.out.mono HB5.out.size))
     have HB38 : Hid (Below w3.heap.size w3 w8) := hid (HB4.out.trans (HB48.out.mono HB4.out.size))
     have hI0 : RI w B b1 b2 b3 b4 bs G a n c L z la ln lc tok (some ⟨tb, to_, none⟩) tn tc T 0 w8 := by
      have hd : T.drop (tn - 0) = [] := List.drop_eq_nil_of_le (by rw [HTL.out.1]; exact Nat.le_refl _)
      refine ⟨HE3.out.below HB38.out, HL3.out.below HB38.out, HR3.out.below HB38.out, (H6.out.below HB7.out).below HB8.out, ⟨tn, H7.out.below HB8.out, by rw [hd]; rfl, cur, (HB58.out.block G (Array.getElem?_eq_some_iff.1 H5.out).1).trans H5.out, HL5.out, ?_⟩, HS8.out, HB3.out.trans (HB38.out.mono HB3.out.size), by rw [hd]; rfl⟩
      rw [hd, List.drop_eq_nil_of_le (by rw [HL5.out]; exact Nat.le_refl _)]
      rfl
     have HI0 := hid hI0
     have HNE : Hid (b2 < b3 ∧ b1 < b2 ∧ B < b1 ∧ b3 < b4 ∧ b4 < bs ∧ G < b3 ∧ b2 < G ∧ bs < w8.heap.size) := hid (by
      have h1 := HS3.out
      have h2 := HG.out
      have h3 := HS4.out
      have h4 := HS5.out
      have h5 := HB3'.out
      have h6 := HB4'.out
      have h7 := H6.out.lt
      have h8 := H7.out.lt
      have h9 := HBS.out
      have h10 := HS8.out.lt
      have h11 := HB7.out.size
      omega)
     clear hI0
     go_wp2_with fail
     refine (wpIn_wide (n := 3)).1 (wp_rounds (gf := 64) (lb := #[.pointer (some ⟨bs, 0, none⟩)]) rfl (enters_of Tryz.func64 (by kernel_rfl) rfl) (encs := fun k => #[.int .i64 ((tn - 1 - k : Nat) : Int), .agg (ndA (nA T (tn - 1 - k)))]) (N := tn) (n₀ := w.heap.size) (Nat.le_trans HB3.out.size HB38.out.size) (fun _ => rfl)
      (fun W => W.cell? ⟨bs, 0, none⟩ = some (.slice (some ⟨tb, to_, none⟩) tn tc) ∧ NdS W (some ⟨tb, to_, none⟩) tn tc T)
      (fun l J Jx W hJR hY h0 => back1_in l bs _ tn tc T J Jx W htn hJR hY h0)
      (RI w B b1 b2 b3 b4 bs G a n c L z la ln lc tok (some ⟨tb, to_, none⟩) tn tc T)
      (fun W => C1 W b2 4 (.bool false) ∧ Below w.heap.size w W ∧ V = false)
      (fun k W W' hc h => h.calm hc) (fun W W' hc h => ⟨hc.2 _ _ h.1 rfl, h.2.1.trans hc.1, h.2.2⟩) (fun k W h => ⟨h.rs.cell, HW.out.2.2.2.below h.rb⟩) HI0.out ?round ?done ?stop)
     case round =>
      intro l k W hk hi
      have HI := hid hi
      clear hi
      obtain ⟨j, hj⟩ : ∃ j, j = tn - 1 - k := ⟨_, rfl⟩
      have HJ := hid (And.intro hj hk)
      simp only [← hj]
      obtain ⟨x, hx⟩ : ∃ x, x = nA T j := ⟨_, rfl⟩
      have HX := hid hx
      rw [← hx]
      clear hj hx
      obtain ⟨bn, hbn⟩ : ∃ b, b = W.heap.size := ⟨_, rfl⟩
      have HBN := hid hbn
      clear hbn
      gi_wp2_with (refine listIn_of_wp rfl rfl ?_; intro K hK; refine wp_store_n5 (.tmp 10) (.tmp 40) rfl _ rfl x rfl ⟨0, [], 0, 0, 0⟩ (N5.zero W) ?_; rw [← HBN.out]; intro w5 h5 ho5; have H5 := hid h5; have HB5 : Hid (Below W.heap.size W w5) := hid ((below_alloc W _).trans (ho5.below (by rw [HBN.out]; exact Nat.le_refl _))); clear h5 ho5; refine hK _ _ ?_; clear hK K)
      refine ⟨below_keeps HB5.out, fun W2 hcalm => ?_⟩
      have HI2 : Hid (RI w B b1 b2 b3 b4 bs G a n c L z la ln lc tok (some ⟨tb, to_, none⟩) tn tc T k W2) := hid ((HI.out.calm (Calm.of HB5.out HI.out.rb.size)).calm hcalm)
      have HN2 : Hid (N5 W2 bn x) := hid (hcalm.2 _ _ H5.out rfl)
      have HBW : Hid (w.heap.size ≤ bn ∧ b2 < bn ∧ b4 < bn ∧ G < bn ∧ b3 < bn ∧ bn < W2.heap.size) := hid (by
       have h1 := HI.out.rb.size
       have h2 := HI.out.rr.lt
       obtain ⟨f, h3, _, cur, h4, _⟩ := HI.out.rf
       have h5 := h3.lt
       have h6 := (Array.getElem?_eq_some_iff.1 h4).1
       have h7 := HI.out.ro.lt
       have h8 := HN2.out.lt
       have h9 := HBN.out
       omega)
      clear hcalm HI H5 HB5 HBN
      obtain ⟨f, hf1, hf2, cur, hf3, hf4, hf5⟩ := HI2.out.rf
      have hjj := HJ.out
      have ek : tn - k = j + 1 := by omega
      have hjT : j < T.length := by rw [HTL.out.1]; omega
      have hdj : T.drop j = x :: T.drop (j + 1) := by rw [nA_drop hjT, HX.out]
      rw [ek] at hf2 hf5
      obtain ⟨R, hR⟩ : ∃ R, R = roots (T.drop (j + 1)) := ⟨_, rfl⟩
      rw [← hR] at hf2 hf5
      have hback : backB L z tok (T.drop (j + 1)) = true := by rw [← ek]; exact HI2.out.rg
      have hcl : x.c.toNat ≤ R.length := by
       obtain ⟨m', hm'⟩ := skp_drop T 1 HSK.out j (by omega)
       rw [hdj] at hm'
       cases m' with
       | zero => rw [skp_zero, List.length_cons] at hm'; cases hm'
       | succ m' =>
        rw [skp_cons] at hm'
        obtain ⟨n', h', _⟩ := Option.map_eq_some_iff.1 hm'
        rw [skp_add] at h'
        cases hs : skp (T.drop (j + 1)) x.c.toNat with
        | none => rw [hs] at h'; cases h'
        | some p =>
         rw [hR]
         exact (roots_kid _ _ _ hs).2.1
      have hnot : ∀ d : Bool, (decide (0 ≤ x.c) && drvB L z tok x (R.take x.c.toNat)) = d → d = false → V = false := by
       intro d hd hd0
       rw [HVB.out]
       cases hv : backB L z tok T with
       | false => rfl
       | true =>
        have h1 := back_up T j hv
        rw [hdj] at h1
        unfold backB at h1
        rw [← hR, hd, hd0, Bool.and_false] at h1
        cases h1
      have HRB : Hid (C1 W2 b2 4 (.bool false)) := hid HI2.out.rr
      have HRW : Hid (Below w.heap.size w W2) := hid HI2.out.rb
      obtain ⟨xc, hxc⟩ : ∃ q, q = x.c := ⟨_, rfl⟩
      by_cases hc0 : xc < 0
      ·have hv : V = false := hnot _ rfl (by rw [← hxc, decide_eq_false (by omega), Bool.false_and])
       have HVF := hid hv
       have HK7 : ∀ w', Below W2.heap.size W2 w' → w'.cell? ⟨bn, 4, none⟩ = some (.int .i64 xc) := fun w' hb => by rw [hxc]; exact (HN2.out.below hb).cells.2.2.2.2
       have HQ : ∀ w', w' = W2.drew → Hid (Below W2.heap.size W2 w') := fun w' e => hid (by rw [e]; exact (Below.refl _ _).drew)
       clear hnot hf1 hf2 hf3 hf4 hf5 hcl hback hdj hv hxc
       refine wpIn_block (wpIn_seq (wpIn_seq ?_))
       refine region_roundN (S := fun w' => w'.cell? ⟨bn, 4, none⟩ = some (.int .i64 xc)) (by kernel_rfl) (fun h => by obtain ⟨a, w, h⟩ := h; exact h) (by kernel_rfl) (HK7 _ (Below.refl _ _).drew) (fun hHeld => ?_)
       refine zG 0 rfl ?_
       try simp only [Act.put, aS, aZ, aC]
       refine zG 1 rfl ?_
       try simp only [Act.put, aS, aZ, aC]
       refine zG 2 rfl ?_
       try simp only [Act.put, aS, aZ, aC]
       refine zG 3 rfl ?_
       try simp only [Act.put, aS, aZ, aC]
       refine hTn 4 rfl (by kernel_rfl) (fun _ _ _ h => h) (by rfl) (by assumption) ?_
       try simp only [Act.put, aS, aZ, aC]
       refine hTn 5 rfl (by kernel_rfl) (fun _ _ _ h => h) (by rfl) (by assumption) ?_
       try simp only [Act.put, aS, aZ, aC]
       refine hTn 6 rfl (by kernel_rfl) (fun _ _ _ h => h) (by rfl) (by assumption) ?_
       try simp only [Act.put, aS, aZ, aC]
       refine hTn 7 rfl (by kernel_rfl) (fun _ _ _ h => h) (by rfl) (by assumption) ?_
       try simp only [Act.put, aS, aZ, aC]
       refine hTn 8 rfl (by kernel_rfl) (fun _ _ _ h => h) (by rfl) (by assumption) ?_
       try simp only [Act.put, aS, aZ, aC]
       refine hTn 9 rfl (by kernel_rfl) (fun _ _ _ h => h) (by rfl) (by assumption) ?_
       try simp only [Act.put, aS, aZ, aC]
       refine hTn 10 rfl (by kernel_rfl) (fun _ _ _ h => h) (by rfl) (by assumption) ?_
       try simp only [Act.put, aS, aZ, aC]
       refine hTn 11 rfl (by kernel_rfl) (fun _ _ _ h => h) (by rfl) (by assumption) ?_
       try simp only [Act.put, aS, aZ, aC]
       refine hTn 12 rfl (by kernel_rfl) (fun _ _ _ h => h) (by rfl) (by assumption) ?_
       try simp only [Act.put, aS, aZ, aC]
       refine hTn 13 rfl (by kernel_rfl) (fun _ _ _ h => h) (by rfl) (by assumption) ?_
       try simp only [Act.put, aS, aZ, aC]
       refine hTn 14 rfl (by kernel_rfl) (fun _ _ _ h => h) (by rfl) (by assumption) ?_
       try simp only [Act.put, aS, aZ, aC]
       refine hTn 15 rfl (by kernel_rfl) (fun _ _ _ h => h) (by rfl) (by assumption) ?_
       try simp only [Act.put, aS, aZ, aC]
       refine zG 16 rfl ?_
       try simp only [Act.put, aS, aZ, aC]
       refine wpAnyH_done (by kernel_rfl) ?_ _
       refine NoPanic.normal ?_
       obtain ⟨wq, hwq⟩ : ∃ wq, wq = W2.drew := ⟨_, rfl⟩
       rw [← hwq]
       have HBQ := HQ wq hwq
       clear hwq HK7 HQ
       gi_wp2_with (refine listIn_of_wp rfl rfl ?_; intro K hK; refine wp_store_c1 4 (.tmp 6) (.const (.bool false)) rfl b2 rfl (.bool false) rfl nbool1 rfl rfl 4 (.bool false) (HRB.out.below HBQ.out) ?_; intro wz hz9 hoz; have HZ9 := hid hz9; have HOZ := hid hoz; clear hz9 hoz; refine hK _ _ ?_; clear hK K)
       exact ⟨(below_keeps HBQ.out).trans (only_keeps HOZ.out (HRB.out.below HBQ.out)), HZ9.out, (HRW.out.trans (HBQ.out.mono HRW.out.size)).trans (HOZ.out.below (by have := HS3.out; omega)), HVF.out⟩
      ·obtain ⟨m, hm⟩ : ∃ m : Nat, x.c = (m : Int) := ⟨x.c.toNat, by omega⟩
       have hmt : x.c.toNat = m := by omega
       rw [hmt] at hcl hnot
       have hfm : 0 < f + m := by
        have h1 := roots_len (T.drop (j + 1))
        rw [← hR, List.length_drop, HTL.out.1] at h1
        omega
       obtain ⟨o', hsl, hks⟩ := kids_row hf3 hf4 hf5 hf2 hcl htn
       have hrn := row_next (x := x) hf4 hf5 hf2 hcl hfm
       obtain ⟨d, hd⟩ : ∃ d, d = drvB L z tok x (R.take m) := ⟨_, rfl⟩
       have HD : Hid (d = false → V = false) := hid fun h0 => hnot _ rfl (by rw [← hd, h0, Bool.and_false])
       have hRgood : ∀ c ∈ R.take m, goodN tok c := fun c hc => back_good _ hback c (roots_sub _ c (by rw [← hR]; exact List.mem_of_mem_take hc))
       have hxT : x ∈ T := by rw [HX.out]; exact nA_mem hjT
       obtain ⟨xk, hxk⟩ : ∃ q, q = x.k := ⟨_, rfl⟩
       obtain ⟨xn, hxn⟩ : ∃ q, q = x.n := ⟨_, rfl⟩
       obtain ⟨xf1, hxf1⟩ : ∃ q, q = x.f := ⟨_, rfl⟩
       obtain ⟨xt1, hxt1⟩ : ∃ q, q = x.t := ⟨_, rfl⟩
       have hna : ndA x = #[.int .i64 xk, .string (mk xn), .int .i64 xf1, .int .i64 xt1, .int .i64 (m : Int)] := by unfold ndA; rw [← hxk, ← hxn, ← hxf1, ← hxt1, hm]
       have KD : Hid (∀ w', Below W2.heap.size W2 w' → Calls Tryz.prog 40 #[.agg (ev a n c z), .slice la ln lc, .agg #[.int .i64 xk, .string (mk xn), .int .i64 xf1, .int .i64 xt1, .int .i64 (m : Int)], .slice (some ⟨G, o', none⟩) m (tn - f)] w' fun e w'' => e = .returned (.bool d) ∧ Below w'.heap.size w' w'') := hid fun w' hb => by
        have hbw := HRW.out.trans (hb.mono HRW.out.size)
        rw [← hna, hd]
        exact derives_any a n c L z la ln lc tok x _ m (tn - f) (R.take m) w' (HW.out.1.keep hbw) (HW.out.2.1.below hbw) HZ.out HR.out (HW.out.2.2.1.below hbw) (hks w' (hb.block G (Array.getElem?_eq_some_iff.1 hf3).1)) hn HL.out hln (by omega) (HNM.out x hxT) hRgood
       have HK7 : Hid (∀ w', Below W2.heap.size W2 w' → EB w' B a n c z ∧ w'.cell? ⟨b1, 0, none⟩ = some (.slice la ln lc) ∧ w'.cell? ⟨bn, 0, none⟩ = some (.int .i64 xk) ∧ w'.cell? ⟨bn, 1, none⟩ = some (.string (mk xn)) ∧ w'.cell? ⟨bn, 2, none⟩ = some (.int .i64 xf1) ∧ w'.cell? ⟨bn, 3, none⟩ = some (.int .i64 xt1) ∧ w'.cell? ⟨bn, 4, none⟩ = some (.int .i64 (m : Int)) ∧ w'.cell? ⟨b3, 0, none⟩ = some (.slice (some ⟨G, 0, none⟩) tn tn) ∧ w'.cell? ⟨b4, 0, none⟩ = some (.int .i64 (f : Int))) := hid fun w' hb => by
        obtain ⟨n0, n1, n2, n3, n4⟩ := (HN2.out.below hb).cells
        exact ⟨HI2.out.re.below hb, (HI2.out.rl.below hb).cell, by rw [hxk]; exact n0, by rw [hxn]; exact n1, by rw [hxf1]; exact n2, by rw [hxt1]; exact n3, by rw [← hm]; exact n4, (HI2.out.ro.below hb).cell, (hf1.below hb).cell⟩
       have HF : Hid (C1 W2 b4 3 (.int .i64 (f : Int)) ∧ W2.heap[G]? = some (.cells cur.toArray 37 (0, 0)) ∧ cur.length = tn * 5 ∧ (cur.take ((f + m - 1) * 5) ++ ndC x ++ cur.drop ((f + m - 1) * 5 + 5)).length = tn * 5 ∧ (cur.take ((f + m - 1) * 5) ++ ndC x ++ cur.drop ((f + m - 1) * 5 + 5)).drop ((f + m - 1) * 5) = cN (roots (T.drop j)) ∧ (f + m - 1) + (roots (T.drop j)).length = tn ∧ 0 < f + m ∧ f + m ≤ tn) := hid (by
        have er : roots (T.drop j) = x :: R.drop m := by rw [hdj, roots, ← hR, hmt]
        refine ⟨hf1, hf3, hf4, hrn.1, by rw [er]; exact hrn.2, ?_, hfm, by omega⟩
        rw [er, List.length_cons, List.length_drop]
        omega)
       have HBD : Hid (d = true → backB L z tok (T.drop j) = true) := hid fun h0 => by
        rw [hdj]
        unfold backB
        rw [hback, ← hR, hmt, ← hd, h0, hm]
        simp
       have HNA := hid hna
       have hw1 : IntKind.i64.wrap ((f : Int) + (m : Int)) = (f : Int) + (m : Int) := IntWalk.i64_in _ (by omega)
       have hm0 : (0 : Int) ≤ (m : Int) := Int.natCast_nonneg _
       have hfm2 : f + m ≤ tn := by omega
       have hcm : x.c = (m : Int) := hm
       clear hnot hf1 hf2 hf3 hf4 hf5 hcl hback hdj hrn hd hRgood hxT hna hks hc0 hxc hfm hxk hxn hxf1 hxt1 hm hmt hcm hR
       refine wpIn_block (wpIn_seq (wpIn_seq ?_))
       cases d with
       | false =>
        refine region_roundN (S := fun w' => EB w' B a n c z ∧ w'.cell? ⟨b1, 0, none⟩ = some (.slice la ln lc) ∧ w'.cell? ⟨bn, 0, none⟩ = some (.int .i64 xk) ∧ w'.cell? ⟨bn, 1, none⟩ = some (.string (mk xn)) ∧ w'.cell? ⟨bn, 2, none⟩ = some (.int .i64 xf1) ∧ w'.cell? ⟨bn, 3, none⟩ = some (.int .i64 xt1) ∧ w'.cell? ⟨bn, 4, none⟩ = some (.int .i64 (m : Int)) ∧ w'.cell? ⟨b3, 0, none⟩ = some (.slice (some ⟨G, 0, none⟩) tn tn) ∧ w'.cell? ⟨b4, 0, none⟩ = some (.int .i64 (f : Int))) (by kernel_rfl) (fun h => by obtain ⟨a, w, h⟩ := h; exact h) (by kernel_rfl) (HK7.out _ (Below.refl _ _).drew) (fun hHeld => ?_)
        refine zG 0 rfl ?_
        try simp only [Act.put, aS, aZ, aC]
        refine zG 1 rfl ?_
        try simp only [Act.put, aS, aZ, aC]
        refine zG 2 rfl ?_
        try simp only [Act.put, aS, aZ, aC]
        refine zG 3 rfl ?_
        try simp only [Act.put, aS, aZ, aC]
        refine take_env (i := 4) (oi := { dst := some 45, op := Op.load 30 (Operand.tmp 3), type := 30, pos := "tree.go:52", after := #[{ on := 3, ground := Ground.guard }], guard := some (3, false) }) (Operand.tmp 3) rfl (by kernel_rfl) (by kernel_rfl) (by kernel_rfl) a n c (z) (fun _ _ _ h => h) (by rfl) rfl (B) rfl (HZ.out) (fun w h => h.1) (by assumption) ?_
        try simp only [Act.put, aS, aZ, aC]
        refine zG 5 rfl ?_
        try simp only [Act.put, aS, aZ, aC]
        refine zG 6 rfl ?_
        try simp only [Act.put, aS, aZ, aC]
        refine zG 7 rfl ?_
        try simp only [Act.put, aS, aZ, aC]
        refine zG 8 rfl ?_
        try simp only [Act.put, aS, aZ, aC]
        refine zG 9 rfl ?_
        try simp only [Act.put, aS, aZ, aC]
        refine zG 10 rfl ?_
        try simp only [Act.put, aS, aZ, aC]
        refine zG 11 rfl ?_
        try simp only [Act.put, aS, aZ, aC]
        refine zG 12 rfl ?_
        try simp only [Act.put, aS, aZ, aC]
        refine zG 13 rfl ?_
        try simp only [Act.put, aS, aZ, aC]
        refine zR [14] ?_
        refine hDo rfl (fun K hK => ?_) ?_
        ·go_simp
         (go_at_call 40; (with_reducible refine (KD.out _ (Below.refl _ _).drew).mono ?_); rintro e w9 ⟨rfl, hb9⟩)
         have HB9 : Hid (Below W2.heap.size W2 w9) := hid ((Below.refl _ _).drew.trans hb9)
         clear hb9
         refine hK.out _ _ (HK7.out _ HB9.out) (fun hHeld => ?_)
         clear hK K
         try simp only [Act.put, aS, aZ, aC]
         refine zG 15 rfl ?_
         try simp only [Act.put, aS, aZ, aC]
         refine zG 16 rfl ?_
         try simp only [Act.put, aS, aZ, aC]
         refine wpAnyH_done (by kernel_rfl) ?_ _
         refine NoPanic.normal ?_
         have HVF : Hid (V = false) := hid (HD.out rfl)
         have HBQ := HB9
         gi_wp2_with (refine listIn_of_wp rfl rfl ?_; intro K hK; refine wp_store_c1 4 (.tmp 6) (.const (.bool false)) rfl b2 rfl (.bool false) rfl nbool1 rfl rfl 4 (.bool false) (HRB.out.below HBQ.out) ?_; intro wz hz9 hoz; have HZ9 := hid hz9; have HOZ := hid hoz; clear hz9 hoz; refine hK _ _ ?_; clear hK K)
         exact ⟨(below_keeps HBQ.out).trans (only_keeps HOZ.out (HRB.out.below HBQ.out)), HZ9.out, (HRW.out.trans (HBQ.out.mono HRW.out.size)).trans (HOZ.out.below (by have := HS3.out; omega)), HVF.out⟩
        ·exact AllReadyH.nil
       | true =>
        refine region_roundN (S := fun w' => EB w' B a n c z ∧ w'.cell? ⟨b1, 0, none⟩ = some (.slice la ln lc) ∧ w'.cell? ⟨bn, 0, none⟩ = some (.int .i64 xk) ∧ w'.cell? ⟨bn, 1, none⟩ = some (.string (mk xn)) ∧ w'.cell? ⟨bn, 2, none⟩ = some (.int .i64 xf1) ∧ w'.cell? ⟨bn, 3, none⟩ = some (.int .i64 xt1) ∧ w'.cell? ⟨bn, 4, none⟩ = some (.int .i64 (m : Int)) ∧ w'.cell? ⟨b3, 0, none⟩ = some (.slice (some ⟨G, 0, none⟩) tn tn) ∧ w'.cell? ⟨b4, 0, none⟩ = some (.int .i64 (f : Int))) (by kernel_rfl) (fun h => by obtain ⟨a, w, h⟩ := h; exact h) (by kernel_rfl) (HK7.out _ (Below.refl _ _).drew) (fun hHeld => ?_)
        refine zG 0 rfl ?_
        try simp only [Act.put, aS, aZ, aC]
        refine zG 1 rfl ?_
        try simp only [Act.put, aS, aZ, aC]
        refine zG 2 rfl ?_
        try simp only [Act.put, aS, aZ, aC]
        refine zG 3 rfl ?_
        try simp only [Act.put, aS, aZ, aC]
        refine take_env (i := 4) (oi := { dst := some 45, op := Op.load 30 (Operand.tmp 3), type := 30, pos := "tree.go:52", after := #[{ on := 3, ground := Ground.guard }], guard := some (3, false) }) (Operand.tmp 3) rfl (by kernel_rfl) (by kernel_rfl) (by kernel_rfl) a n c (z) (fun _ _ _ h => h) (by rfl) rfl (B) rfl (HZ.out) (fun w h => h.1) (by assumption) ?_
        try simp only [Act.put, aS, aZ, aC]
        refine zG 5 rfl ?_
        try simp only [Act.put, aS, aZ, aC]
        refine zG 6 rfl ?_
        try simp only [Act.put, aS, aZ, aC]
        refine zG 7 rfl ?_
        try simp only [Act.put, aS, aZ, aC]
        refine zG 8 rfl ?_
        try simp only [Act.put, aS, aZ, aC]
        refine zG 9 rfl ?_
        try simp only [Act.put, aS, aZ, aC]
        refine zG 10 rfl ?_
        try simp only [Act.put, aS, aZ, aC]
        refine zG 11 rfl ?_
        try simp only [Act.put, aS, aZ, aC]
        refine zG 12 rfl ?_
        try simp only [Act.put, aS, aZ, aC]
        refine zG 13 rfl ?_
        try simp only [Act.put, aS, aZ, aC]
        refine zR [14] ?_
        refine hDo rfl (fun K hK => ?_) ?_
        ·go_simp
         (go_at_call 40; (with_reducible refine (KD.out _ (Below.refl _ _).drew).mono ?_); rintro e w9 ⟨rfl, hb9⟩)
         have HB9 : Hid (Below W2.heap.size W2 w9) := hid ((Below.refl _ _).drew.trans hb9)
         clear hb9
         refine hK.out _ _ (HK7.out _ HB9.out) (fun hHeld => ?_)
         clear hK K
         try simp only [Act.put, aS, aZ, aC]
         refine zG 15 rfl ?_
         try simp only [Act.put, aS, aZ, aC]
         refine zG 16 rfl ?_
         try simp only [Act.put, aS, aZ, aC]
         refine wpAnyH_done (by kernel_rfl) ?_ _
         refine NoPanic.normal ?_
         obtain ⟨q, hq⟩ : ∃ q, q = f + m - 1 := ⟨_, rfl⟩
         have HQQ : Hid ((f : Int) + ((m : Int) - 1) = (q : Int)) := hid (by have := HF.out.2.2.2.2.2.2; omega)
         have hqt : (q : Int) < (tn : Int) := by have := HF.out.2.2.2.2.2.2; omega
         have hq0 : (0 : Int) ≤ (q : Int) := Int.natCast_nonneg _
         have hqn : q < tn := by omega
         rw [← hq] at HF
         have hf9 := (HF.out.1.below HB9.out)
         have f0 := hf9.cell
         have HF9 := hid hf9
         have hx4 := (HN2.out.below HB9.out).cells.2.2.2.2
         have e4 : w9.cell? ⟨bn, 4, none⟩ = some (.int .i64 (m : Int)) := by
          have h1 := hx4
          have h2 := HK7.out w9 HB9.out
          exact h2.2.2.2.2.2.2.1
         have hw2 : IntKind.i64.wrap ((m : Int) - 1) = (m : Int) - 1 := IntWalk.i64_in _ (by omega)
         have hw3 : IntKind.i64.wrap ((f : Int) + ((m : Int) - 1)) = (f : Int) + ((m : Int) - 1) := IntWalk.i64_in _ (by omega)
         clear hf9 hx4 hq hw1 hsl
         gi_wp2_with (first
          | (refine listIn_of_wp rfl rfl ?_; intro K hK; refine wp_store_c1 3 (.tmp 8) (.tmp 62) rfl b4 rfl (.int .i64 (q : Int)) (congrArg (Value.int IntKind.i64) HQQ.out) nint1 rfl rfl 3 _ HF9.out ?_; intro wy hy hoy; have HY := hid hy; have HOY := hid hoy; refine hK _ _ ?_; clear hK K; have f1 := hy.cell; have o3 := (((HI2.out.ro).below HB9.out).only hoy (show b3 ≠ b4 by have := HNE.out; omega)).cell; have HNY := hid ((HN2.out.below HB9.out).only hoy (show bn ≠ b4 by have := HBW.out; omega)); have HGY : Hid (wy.heap[G]? = some (.cells cur.toArray 37 (0, 0))) := hid ((hoy.block G (show G ≠ b4 by have := HNE.out; omega)).trans ((HB9.out.block G (Array.getElem?_eq_some_iff.1 HF.out.2.1).1).trans HF.out.2.1)); clear hy hoy f0 e4)
          | (refine listIn_of_wp rfl rfl ?_; intro K hK; refine wp_load_n5 (.tmp 10) rfl bn rfl x HNY.out ?_; refine hK _ _ ?_; clear hK K)
          | (refine listIn_of_wp rfl rfl ?_; intro K hK; refine wp_store_nrow (.tmp 66) (.tmp 65) rfl G (q * 5) rfl x rfl cur HGY.out (by rw [HF.out.2.2.1]; omega) ?_; intro wz hz9 hoz; have HZ9 := hid hz9; have HOZ := hid hoz; refine hK _ _ ?_; clear hK K hz9 hoz))
         have hjk : tn - (k + 1) = j := by have := HJ.out; omega
         have hnn := HNE.out
         have hbw := HBW.out
         refine ⟨(below_keeps HB9.out).trans ((only_keeps HOY.out HF9.out).trans (only_keeps HOZ.out HGY.out)), ?_⟩
         have hb1 : ∀ (b : Nat) (o : Obj), W2.heap[b]? = some o → b ≠ b4 → b ≠ G → wz.heap[b]? = some o := fun b o hb h1 h2 =>
          (HOZ.out.block b h2).trans ((HOY.out.block b h1).trans ((HB9.out.block b (Array.getElem?_eq_some_iff.1 hb).1).trans hb))
         refine ⟨hb1 _ _ HI2.out.re (by omega) (by omega), hb1 _ _ HI2.out.rl (by omega) (by omega), hb1 _ _ HI2.out.rr (by omega) (by omega), hb1 _ _ HI2.out.ro (by omega) (by omega), ⟨q, HY.out.only HOZ.out (by omega), by rw [hjk]; exact HF.out.2.2.2.2.2.1, _, HZ9.out, HF.out.2.2.2.1, by rw [hjk]; exact HF.out.2.2.2.2.1⟩, hb1 _ _ HI2.out.rs (by omega) (by omega), ?_, by rw [hjk]; exact HBD.out (by trivial)⟩
         exact ((HRW.out.trans (HB9.out.mono HRW.out.size)).trans (HOY.out.below (by have := HS3.out; omega))).trans (HOZ.out.below (by have := HS3.out; omega))
        ·exact AllReadyH.nil
     case done =>
      intro D W hD hi hK
      have HI := hid hi
      have HK := hid hK
      have HDD : Hid (D ≠ b2) := hid (by have := HNE.out; omega)
      have HDW : Hid (w.heap.size ≤ D) := hid (by have := HB3.out.size; have := HB38.out.size; omega)
      have hv : V = true := by
       rw [HVB.out]
       have h1 := hi.rg
       rw [Nat.sub_self, List.drop_zero] at h1
       exact h1
      subst hv
      clear hi hK hD
      go_wp2_with (refine store_c1 rfl 4 (.tmp 6) (.const (.bool true)) rfl b2 rfl (.bool true) rfl nbool1 rfl rfl 4 (.bool false) HI.out.rr ?_; intro wz hz9 hoz; have HZ9 := hid hz9; have HOZ := hid hoz; clear hz9 hoz)
      have hk9 : wz.heap[D]? = some (.deferred (some [])) := (HOZ.out.block D HDD.out).trans HK.out
      have hcm : Calm w.heap.size wz (wz.putObj D (.deferred none)) := Calm.put HDW.out hk9 rfl _
      exact ⟨by simp, .inl ⟨D, _, rfl, run_takeDeferred hk9, ⟨_, right_res _ _ b2 true rfl (hcm.2 _ _ HZ9.out rfl), rfl, (HI.out.rb.trans (HOZ.out.below (by have := HS3.out; omega))).trans hcm.1⟩⟩⟩
     case stop =>
      rintro D W hD ⟨h1, h2, hv⟩ hK
      subst hv
      refine wpIn_ret ?_
      have hcm : Calm w.heap.size W (W.putObj D (.deferred none)) := Calm.put (by have := HB3.out.size; have := HB38.out.size; omega) hK rfl _
      exact ⟨by simp, .inl ⟨D, _, rfl, run_takeDeferred hK, ⟨_, right_res _ _ b2 false rfl (hcm.2 _ _ h1 rfl), rfl, h2.trans hcm.1⟩⟩⟩
    ·exact AllReadyH.nil
 ·have hv : V = false := by
   rw [HV.out]
   have : (skp T 1 == some T.length) = false := by
    rw [beq_eq_false_iff_ne]
    intro h
    exact hend (by rw [HE0.out, end_iff.2 h, HTL.out.1])
   rw [this, Bool.false_and]
  subst hv
  have hcmp : (e0 != (tn : Int)) = true := by simp [hend]
  refine wp_region_noPanic ?_
  refine wp_region_held_drew (S := fun _ => True) (by kernel_rfl) (trivial) (fun hHeld => ?_)
  refine zG 0 rfl ?_
  try simp only [Act.put, aS, aZ, aC]
  refine zG 2 rfl ?_
  try simp only [Act.put, aS, aZ, aC]
  refine zG 3 rfl ?_
  try simp only [Act.put, aS, aZ, aC]
  refine zR [1] ?_
  refine hDo rfl (fun K hK => ?_) ?_
  ·go_simp
   (go_at_call 20; (with_reducible refine (KE.out _ (Below.refl _ _).drew).mono ?_); rintro e w9 ⟨rfl, rfl⟩)
   refine hK.out _ _ (trivial) (fun hHeld => ?_)
   clear hK K
   try simp only [Act.put, aS, aZ, aC]
   refine zG 4 rfl ?_
   try simp only [Act.put, aS, aZ, aC]
   refine zG 5 rfl ?_
   try simp only [Act.put, aS, aZ, aC]
   refine hTn 6 rfl (by kernel_rfl) (fun _ _ _ h => h) (by rfl) (by assumption) ?_
   try simp only [Act.put, aS, aZ, aC]
   refine hTn 7 rfl (by kernel_rfl) (fun _ _ _ h => h) (by rfl) (by assumption) ?_
   try simp only [Act.put, aS, aZ, aC]
   refine hTn 8 rfl (by kernel_rfl) (fun _ _ _ h => h) (by rfl) (by assumption) ?_
   try simp only [Act.put, aS, aZ, aC]
   refine hTn 9 rfl (by kernel_rfl) (fun _ _ _ h => h) (by rfl) (by assumption) ?_
   try simp only [Act.put, aS, aZ, aC]
   refine hTn 10 rfl (by kernel_rfl) (fun _ _ _ h => h) (by rfl) (by assumption) ?_
   try simp only [Act.put, aS, aZ, aC]
   refine zG 11 rfl ?_
   try simp only [Act.put, aS, aZ, aC]
   refine zG 12 rfl ?_
   try simp only [Act.put, aS, aZ, aC]
   refine hTn 13 rfl (by kernel_rfl) (fun _ _ _ h => h) (by rfl) (by assumption) ?_
   try simp only [Act.put, aS, aZ, aC]
   refine hTn 14 rfl (by kernel_rfl) (fun _ _ _ h => h) (by rfl) (by assumption) ?_
   try simp only [Act.put, aS, aZ, aC]
   refine hTn 15 rfl (by kernel_rfl) (fun _ _ _ h => h) (by rfl) (by assumption) ?_
   try simp only [Act.put, aS, aZ, aC]
   refine hTn 16 rfl (by kernel_rfl) (fun _ _ _ h => h) (by rfl) (by assumption) ?_
   try simp only [Act.put, aS, aZ, aC]
   refine hTn 17 rfl (by kernel_rfl) (fun _ _ _ h => h) (by rfl) (by assumption) ?_
   try simp only [Act.put, aS, aZ, aC]
   refine hTn 18 rfl (by kernel_rfl) (fun _ _ _ h => h) (by rfl) (by assumption) ?_
   try simp only [Act.put, aS, aZ, aC]
   refine hTn 19 rfl (by kernel_rfl) (fun _ _ _ h => h) (by rfl) (by assumption) ?_
   try simp only [Act.put, aS, aZ, aC]
   refine zG 20 rfl ?_
   try simp only [Act.put, aS, aZ, aC]
   refine wpAnyH_done (by kernel_rfl) ?_ _
   refine NoPanic.normal ?_
   obtain ⟨wq, hwq⟩ : ∃ wq, wq = w3.drew := ⟨_, rfl⟩
   rw [← hwq]
   have HQ : Hid (Below w3.heap.size w3 wq) := hid (by rw [hwq]; exact (Below.refl _ _).drew)
   clear hwq
   go_wp2_with (refine store_c1 rfl 4 (.tmp 6) (.const (.bool false)) rfl b2 rfl (.bool false) rfl nbool1 rfl rfl 4 (.bool false) (HR3.out.below HQ.out) ?_; intro wz hz9 hoz; have HZ9 := hid hz9; have HOZ := hid hoz; clear hz9 hoz)
   exact ret_m rfl (right_res _ _ b2 false rfl HZ9.out) ⟨rfl, (HB3.out.trans (HQ.out.mono HB3.out.size)).trans (HOZ.out.below (by have := HS3.out; omega))⟩
  ·exact AllReadyH.nil
end Go.Proofs.YtanhpgmiadgmjaaGreatDoor
