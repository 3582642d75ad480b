/- Texts laid one behind the other. -/
import Derived.Test.YtcpmpidpoelleaaDoorMN
import Derived.Test.YtcpmpidpoelleaaDoorMO
import Derived.Test.YtcpmpidpoelleaaDoorMF
import Derived.Deep.DeepCutAuto
import Derived.Test.YtcpmpidpoelleaaDoorML

/- The document's Drop and Add (laid by genBf.py). -/
namespace Go.Proofs.YtcpmpidpoelleaaDoor
open Go.RowKit

theorem sl_from {w : World} {a : Option Addr} {n c k : Nat} {L : List OP} (h : OpS w a n c L) (hk : k ≤ n) : ∃ a', (∀ w0 : World, (Instr.slice 23 (.slice a n c) (some (.int .i64 k)) none none).run Tryd.prog w0 = .ok (.slice a' (n - k) (c - k)) w0) ∧ ∀ w', OpS w' a n c L → OpS w' a' (n - k) (c - k) (L.drop k) := by
  cases a with
  | none =>
    have hn : n = 0 := by
      rcases Nat.eq_zero_or_pos n with h0 | h0
      · exact h0
      · obtain ⟨b, o, ha, _⟩ := h.at_ h0; cases ha
    subst hn
    obtain rfl : k = 0 := by omega
    obtain ⟨i, hi, hz, hs, hby⟩ := info_parts op_info
    refine ⟨none, fun w0 => ?_, fun w' h' => h'⟩
    have := run_slice_l (P := Tryd.prog) w0 23 none 0 c (by rw [op_elem]; exact Tryd.underlying23) .i64 ((0 : Nat) : Int) (by omega) (by omega)
    rw [this, op_elem]
    simp [sizeOf, typeInfo, hi, hs, Result.andThen, sliced]
  | some ad =>
    by_cases hn : n = 0
    · obtain ⟨b, off, sp⟩ := ad
      subst hn
      obtain rfl : k = 0 := by omega
      obtain ⟨i, hi, hz, hs, hby⟩ := info_parts op_info
      refine ⟨some ⟨b, off, sp⟩, fun w0 => ?_, fun w' h' => h'⟩
      have := run_slice_l (P := Tryd.prog) w0 23 (some ⟨b, off, sp⟩) 0 c (by rw [op_elem]; exact Tryd.underlying23) .i64 ((0 : Nat) : Int) (by omega) (by omega)
      rw [this, op_elem]
      simp [sizeOf, typeInfo, hi, hs, Result.andThen, sliced, Addr.add]
    · obtain ⟨b, off, hb, _⟩ := h.at_ (by omega)
      obtain rfl := Option.some.inj hb
      refine ⟨_, fun w0 => run_l op_elem Tryd.underlying23 op_info hk w0, fun w' h' => ?_⟩
      have := Vs.from h' hk
      rw [cO_drop] at this
      exact this
theorem sl_upto {w : World} {a : Option Addr} {n c k : Nat} {L : List OP} (h : OpS w a n c L) (hk : k ≤ n) : (∀ w0 : World, (Instr.slice 23 (.slice a n c) none (some (.int .i64 k)) none).run Tryd.prog w0 = .ok (.slice a k c) w0) ∧ ∀ w', OpS w' a n c L → OpS w' a k c (L.take k) := by
  have hlc := h.lc
  refine ⟨fun w0 => ?_, fun w' h' => ?_⟩
  · obtain ⟨i, hi, hz, hs, hby⟩ := info_parts op_info
    have := run_slice_h (P := Tryd.prog) w0 23 a n c (by rw [op_elem]; exact Tryd.underlying23) .i64 (k : Int) (by omega) (by omega)
    rw [this, op_elem, Int.toNat_natCast]
    cases a with
    | none => simp [sizeOf, typeInfo, hi, hs, Result.andThen, sliced]
    | some ad => by_cases h0 : c = 0 <;> simp [sizeOf, typeInfo, hi, hs, Result.andThen, sliced, h0, Addr.add]
  · refine ⟨by rw [cO_len, List.length_take, OpS.len h']; congr 1; omega, Nat.le_trans hk hlc, h'.cm, fun h0 => ?_⟩
    obtain ⟨b, off, ha, hb, hc⟩ := h'.at_ (by omega)
    refine ⟨b, off, ha, hb, fun j hj => ?_⟩
    rw [hc j (by have : k * 3 ≤ n * 3 := Nat.mul_le_mul_right _ hk; omega), ← cO_take, List.getElem?_take, if_pos hj]

theorem OpS_below {w w' : World} {a : Option Addr} {n c : Nat} {L : List OP} (h : OpS w a n c L) (hb : Below w.heap.size w w') : OpS w' a n c L := h.below hb

/-- One row grew: another one is as it was. -/
theorem one_grown {base : Nat} {w w' : World} {gE gL n0 c0 : Nat} {q : OP} (h : OwnO base w (some ⟨gL, 0, none⟩) 1 1 [q]) (hne : gE ≠ gL) (hg : w.grownBy w' (Value.ownBlock (.slice (some ⟨gE, 0, none⟩) n0 c0))) : OpS w' (some ⟨gL, 0, none⟩) 1 1 [q] :=
  (OwnV.other h hg (.inr (by simp only [Value.ownBlock]; simpa using hne.symm))).vs

/-- An empty row laid in a region that draws. -/
theorem step_empty {ops : Array Oper} {o : Oper} {A : Act} {w : World} {K : Act → World → Prop} {Q : Exit → Act → World → Prop} {E : Prop} (hgd : o.guard = none) (ho : o.op = .buildSlice 23 0 #[])
    (k : ∀ w' g, g = w.heap.size → OwnO w.heap.size w' (some ⟨g, 0, none⟩) 0 0 [] → w' = w.alloc (.cells #[] 33) → K (A.put o.dst (.slice (some ⟨g, 0, none⟩) 0 0)) w') : if Region.wanted o (yielded ops A.tmps) = true then o.wp Tryd.prog A w K Q else E := by
  rw [if_pos (show Region.wanted o (yielded ops A.tmps) = true by simp [Region.wanted, hgd])]
  have h := k (w.alloc (.cells #[] 33)) w.heap.size rfl (OwnV.emptyAt (heap_alloc_new w _) (Nat.le_refl _)) rfl
  have hr : (Instr.buildSlice 23 0 #[]).run Tryd.prog w = .ok (.slice (some ⟨w.heap.size, 0, none⟩) 0 0) (w.alloc (.cells #[] 33)) := by kernel_rfl
  unfold Oper.wp execOp
  simp only [ho, List.map_toArray, List.map_nil, hr, Sem.run_bind, Result.andThen_ok, Sem.run_pure]
  exact h
/-- A row of one operator. -/
theorem step_one {ops : Array Oper} {o : Oper} {A : Act} {w : World} {K : Act → World → Prop} {Q : Exit → Act → World → Prop} {E : Prop} (hgd : o.guard = none) (x : Operand) (ho : o.op = .buildSlice 23 1 #[(0, x)]) (q : OP) (hx : A.eval x = .agg #[.string (mk q.1), .int .i64 q.2.1, .int .i64 q.2.2])
    (k : ∀ w' g, g = w.heap.size → OwnO w.heap.size w' (some ⟨g, 0, none⟩) 1 1 [q] → w' = w.alloc (.cells #[.string (mk q.1), .int .i64 q.2.1, .int .i64 q.2.2] 33) → K (A.put o.dst (.slice (some ⟨g, 0, none⟩) 1 1)) w') : if Region.wanted o (yielded ops A.tmps) = true then o.wp Tryd.prog A w K Q else E := by
  rw [if_pos (show Region.wanted o (yielded ops A.tmps) = true by simp [Region.wanted, hgd])]
  have h := k (w.alloc (.cells #[.string (mk q.1), .int .i64 q.2.1, .int .i64 q.2.2] 33)) w.heap.size rfl (own_of (cur := cO [q]) (heap_alloc_new w _) (Nat.le_refl _) rfl (Nat.le_refl _) (by decide) rfl) rfl
  have hr : (Instr.buildSlice 23 1 #[(0, .agg #[.string (mk q.1), .int .i64 q.2.1, .int .i64 q.2.2])]).run Tryd.prog w = .ok (.slice (some ⟨w.heap.size, 0, none⟩) 1 1) (w.alloc (.cells #[.string (mk q.1), .int .i64 q.2.1, .int .i64 q.2.2] 33)) := by kernel_rfl
  unfold Oper.wp execOp
  simp only [ho, List.map_toArray, List.map_cons, List.map_nil, hx, hr, Sem.run_bind, Result.andThen_ok, Sem.run_pure]
  exact h

end Go.Proofs.YtcpmpidpoelleaaDoor

/- shape.Of, oper.May, env.Add at any text that there is room for. -/
namespace Go.Proofs.YtcpmpidpoelleaaDoor
open Go.RowKit

set_option maxRecDepth 100000 in
set_option maxHeartbeats 4000000 in
theorem sof_long (p : Nm) (w : World) (hb : 40 < p.length) (hsz : p.length ≤ 140737488355328) :
    Calls Tryd.prog 22 #[.string (mk p)] w fun e w' => e = .returned (shV none 0 0 (⟨[], false, false⟩, 23)) ∧ Below w.heap.size w w' := by
  have hms := mk_size p
  obtain ⟨m, hm⟩ : ∃ m, m = p.length := ⟨_, rfl⟩
  rw [← hm] at hms hb hsz
  have HB2 : Hid (Below w.heap.size w (w.alloc (.cells #[.slice none 0 0, .bool false, .bool false] 61))) := Lib.hid ((Below.refl _ _).alloc (Nat.le_refl _) _)
  have HZ : Hid ((w.alloc (.cells #[.slice none 0 0, .bool false, .bool false] 61)).heap[w.heap.size]? = some (.cells #[.slice none 0 0, .bool false, .bool false] 61 (0, 0))) := Lib.hid (heap_alloc_new w _)
  clear hm
  go_enter Tryd.func22, Tryd.ntmps22
  go_wp2
  exact bodyPost_ret (results_pair rfl _ _ w.heap.size 61 #[.slice none 0 0, .bool false, .bool false] (0, 0) _ rfl HZ.out Tryd.underlying61 rfl shape_info) rfl ⟨rfl, HB2.out⟩

set_option maxRecDepth 20000 in
set_option maxHeartbeats 4000000 in
theorem omay_long (p : Nm) (g a : Int) (w : World) (hb : 40 < p.length) (hsz : p.length ≤ 140737488355328) :
    Calls Tryd.prog 18 #[.agg #[.string (mk p), .int .i64 g, .int .i64 a]] w fun e w' => e = .returned (.int .i64 23) ∧ Below w.heap.size w w' := by
  obtain ⟨B, hB⟩ : ∃ B, B = w.heap.size := ⟨_, rfl⟩
  obtain ⟨w1, hw1⟩ : ∃ w1, w1 = w.alloc (.cells #[.string (mk p), .int .i64 g, .int .i64 a] 33) := ⟨_, rfl⟩
  have HX1 : Hid (w1.heap[B]? = some (.cells #[.string (mk p), .int .i64 g, .int .i64 a] 33 (0, 0))) := Lib.hid (by rw [hw1, hB]; exact heap_alloc_new w _)
  have HB1 : Hid (Below w.heap.size w w1) := Lib.hid (by rw [hw1]; exact (Below.refl _ _).alloc (Nat.le_refl _) _)
  obtain ⟨⟨x0, x1, x2⟩, _⟩ := three HX1.out
  have HOF := Lib.hid (sof_long p w1 hb hsz)
  simp only [shV] at HOF
  clear hb hsz
  go_enter Tryd.func18, Tryd.ntmps18
  go_wp2_with fail
  rw [← hw1, ← hB]
  clear hw1 hB
  refine HOF.out.mono ?_
  rintro e w2 ⟨rfl, hb2⟩
  have HB2 : Hid (Below w.heap.size w (w2.alloc (.cells #[.slice none 0 0, .bool false, .bool false] 61))) := Lib.hid ((HB1.out.trans (hb2.mono HB1.out.size)).alloc (by have := HB1.out.size; have := hb2.size; omega) _)
  clear hb2
  go_wp2
  go_ret
  exact ⟨rfl, HB2.out⟩

set_option maxRecDepth 20000 in
set_option maxHeartbeats 4000000 in
theorem add_long (a : Option Addr) (n c : Nat) (L : List OP) (z : List Int) (o : OP) (w : World) (hp : 40 < o.1.length) (hsz : o.1.length ≤ 140737488355328) :
    Calls Tryd.prog 14 #[.agg (ev a n c z), .agg #[.string (mk o.1), .int .i64 o.2.1, .int .i64 o.2.2]] w fun e w' => ∃ a' n' c', e = .returned (.tuple #[.agg (ev a' n' c' (addZ L z o)), .int .i64 (addE L o)]) ∧ OwnO w.heap.size w' a' n' c' (addR L o) ∧ Below w.heap.size w w' := by
  obtain ⟨B, hB⟩ : ∃ B, B = w.heap.size := ⟨_, rfl⟩
  obtain ⟨w1, hw1⟩ : ∃ w1, w1 = w.alloc (.cells (ev a n c z) 27) := ⟨_, rfl⟩
  have HM : Hid (mayV o.1 o.2.1 o.2.2 = 23) := Lib.hid (mayV_none (ofS_big hp) _ _)
  obtain ⟨p, g, s⟩ := o
  dsimp only at hp hsz HM ⊢
  obtain ⟨w2, hw2⟩ : ∃ w2, w2 = w1.alloc (.cells #[.string (mk p), .int .i64 g, .int .i64 s] 33) := ⟨_, rfl⟩
  obtain ⟨w3, hw3⟩ : ∃ w3, w3 = w2.alloc (.cells #[.slice none 0 0, .int .i64 0, .int .i64 0, .int .i64 0, .int .i64 0, .int .i64 0, .int .i64 0, .int .i64 0, .int .i64 0, .int .i64 0, .int .i64 0] 27) := ⟨_, rfl⟩
  have s1 : w1.heap.size = B + 1 := by rw [hw1, hB]; simp
  have s2 : w2.heap.size = B + 1 + 1 := by rw [hw2]; simp [s1]
  have HD3 : Hid (D3 w3 (B + 1) (p, g, s)) := Lib.hid (by rw [hw3, ← s1, hw2]; exact (D3.new w1 (p, g, s)).below (below_alloc _ _))
  have HR3 : Hid (EB w3 (B + 1 + 1) none 0 0 z0) := Lib.hid (by rw [hw3, ← s2, ← ev_zero]; exact EB.new w2 none 0 0 z0)
  have HB3 : Hid (Below B w w3) := Lib.hid (by rw [hw3, hw2, hw1, hB]; exact (((Below.refl _ _).alloc (Nat.le_refl _) _).alloc (by simp) _).alloc (by simp; omega) _)
  have HS3 : Hid (w3.heap.size = B + 1 + 1 + 1) := Lib.hid (by rw [hw3]; simp [s2])
  have HBB := Lib.hid hB
  have HP := Lib.hid (And.intro hp hsz)
  obtain ⟨d0, d1, d2⟩ := HD3.out.cells
  dsimp only at d0 d1 d2
  clear s1 s2 hp hsz
  go_enter Tryd.func14, Tryd.ntmps14
  go_wp2_with fail
  rw [← hw1, ← hw2, ← hw3, ← hB]
  clear hw1 hw2 hw3 hB
  refine (omay_long p g s w3 HP.out.1 HP.out.2).mono ?_
  rintro e w4 ⟨rfl, hb4⟩
  have HR4 := Lib.hid (HR3.out.below hb4)
  have HB4 : Hid (Below B w w4) := Lib.hid (HB3.out.trans (hb4.mono (by have := HS3.out; omega)))
  clear hb4 d0 d1 d2
  have hbu : ∀ w, (Instr.build 27 #[]).run Tryd.prog w = .ok (.agg (ev none 0 0 z0)) w := fun w => built_none w
  have HBAD : Hid (addE L (p, g, s) = 23 ∧ addE L (p, g, s) ≠ 0) := Lib.hid (by
    have h := addE_bad (L := L) (o := (p, g, s)) (by show mayV p g s ≠ 0; rw [HM.out]; decide)
    exact ⟨h.1.trans HM.out, h.2⟩)
  go_wp2_with (refine store_env rfl (.tmp 4) (.tmp 13) rfl (B + 1 + 1) rfl none 0 0 z0 rfl rfl none 0 0 z0 z0_len HR4.out ?_; intro w5 he5 ho5; have HE5 := Lib.hid he5; have HO5 := Lib.hid ho5; clear he5 ho5)
  refine bodyPost_ret (ret_envp rfl _ _ (B + 1 + 1) none 0 0 z0 z0_len rfl HE5.out) rfl ⟨none, 0, 0, ?_, ?_, ?_⟩
  · unfold addZ; rw [if_neg HBAD.out.2, HBAD.out.1]; rfl
  · unfold addR; rw [if_neg HBAD.out.2]; exact OwnV.none0
  · rw [← HBB.out]; exact HB4.out.trans (HO5.out.below (by omega))

theorem add_all (a : Option Addr) (n c : Nat) (L : List OP) (z : List Int) (o : OP) (w : World) (ht : Tab w) (h : OpS w a n c L) (hz : z.length = 10) (hn : n ≤ 1000000) (hp : o.1.length ≤ 140737488355328) :
    Calls Tryd.prog 14 #[.agg (ev a n c z), .agg #[.string (mk o.1), .int .i64 o.2.1, .int .i64 o.2.2]] w fun e w' => ∃ a' n' c', e = .returned (.tuple #[.agg (ev a' n' c' (addZ L z o)), .int .i64 (addE L o)]) ∧ OwnO w.heap.size w' a' n' c' (addR L o) ∧ Below w.heap.size w w' := by
  by_cases h1 : o.1.length ≤ 1000000
  · exact add_any a n c L z o w ht h hz hn h1
  · exact add_long a n c L z o w (by omega) hp

end Go.Proofs.YtcpmpidpoelleaaDoor
