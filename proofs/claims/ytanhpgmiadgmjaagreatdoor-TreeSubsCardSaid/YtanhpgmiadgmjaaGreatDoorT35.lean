import Derived.RangeFuncNested
import Derived.RangeFuncBound
import Derived.RangeFuncCalls
import Derived.RangeFuncLeaves
import Derived.OrdersIn
import Derived.TacticsIn
import Derived.OrdersHeld
import Derived.Deep.RegionHeld3
import Derived.Shelf.Abstract
import Derived.Shelf.RegionOpen
import Derived.WalkKit
import Derived.OwnWalkIn
import Derived.TacticsInMore
import Derived.LoopNIn
import Derived.LoopIn
import Derived.Test.YtanhpgmiadgmjaaGreatDoorT28
namespace Go.Proofs.YtanhpgmiadgmjaaGreatDoor
section
open Go.RowKit
section
variable {P : Program} {ops : Array Oper} {Q : Exit → Act → World → Prop} {l n : Nat}
def noDefer (o : Oper) : Bool := match o.op with | .defer _ => false | _ => true
theorem noDefer_spec {o : Oper} (h : noDefer o = true) : ∀ c, o.op ≠ .defer c := by
 intro c hc
 unfold noDefer at h
 rw [hc] at h
 cases h
theorem op_round {o : Oper} {a : Act} {w : World} {K : Act → World → Prop} (nd : noDefer o = true) (h : o.wp P a w K Q) : o.wpIn (Fence.wide.inRound l) n P a w K Q := by
 refine ⟨fun _ _ => trivial, ?_⟩
 unfold Oper.wp at h
 rw [Oper.semAt_eq _ _ _ (noDefer_spec nd)]
 generalize (execOp a.eval o).run P w = r at h ⊢
 cases r with
 | ok x w' =>
  cases x with
  | value v => exact h
  | skip => exact h
  | defer d => exact h
  | enter f args => exact ⟨(fun h => by cases h), CallsIn.inRound l (callsIn_wide.2 h)⟩
  | row row args => exact ⟨(fun h => by cases h), fun c cs _ => let ⟨v, w'', r, s⟩ := h c cs; ⟨v, w'', r, stepsIn_wide.2 s⟩⟩
  | _ => exact h.elim
 | halt x w' => cases x <;> exact h
theorem wpOp_round {i : Nat} {K : Act → World → Prop} {a : Act} {w : World} (hQ : ¬ LetsOut Q) (nd : ∀ (i : Nat) o, ops[i]? = some o → noDefer o = true) (h : wpOp P ops Q i K a w) : wpOpIn (Fence.wide.inRound l) n P ops Q i K a w := by
 unfold wpOp at h
 unfold wpOpIn
 cases ho : ops[i]? with
 | none => rw [ho] at h; exact h
 | some o =>
  rw [ho] at h
  by_cases hw : Region.wanted o (yielded ops a.tmps) = true
  ·simp only [hw, if_true] at h ⊢
   rcases h with h | h
   ·exact op_round (nd i o ho) h
   ·exact absurd h.2 hQ
  ·simp only [hw] at h ⊢
   exact ⟨fun _ _ => trivial, h⟩
theorem any_round {md : Region.Mode} (hQ : ¬ LetsOut Q) (nd : ∀ (i : Nat) o, ops[i]? = some o → noDefer o = true) : ∀ (fuel : Nat) (listed : Array Bool) (a : Act) (w : World), wpAny P md ops Q fuel listed a w → wpAnyIn (Fence.wide.inRound l) n P md ops Q fuel listed a w
 | 0, _, _, _, h => h
 | fuel + 1, _, _, _, h => ⟨h.1, fun i hi => wpOpIn_mono (fun a' w' h' => any_round hQ nd fuel _ a' w' h') (wpOp_round hQ nd (h.2 i hi))⟩
theorem region_round {S : World → Prop} {id : Nat} {a : Act} {w : World} (hm : P.follows .mixedOrders = true) (hQ : ¬ LetsOut Q) (nd : ∀ (i : Nat) o, ops[i]? = some o → noDefer o = true) (hS : S w.drew)
  (h : S w.drew → wpAnyH P .any ops Q S ops.size (Array.replicate ops.size false) a w.drew) : (Code.region id ops true).wpIn (Fence.wide.inRound l) n P Q a w :=
 wpIn_region_any hm (any_round hQ nd _ _ _ _ (wpAny_of_held _ _ _ _ (h hS)))
theorem all_noDefer (h : ops.all noDefer = true) : ∀ (i : Nat) o, ops[i]? = some o → noDefer o = true := fun _ o ho => (Array.all_eq_true_iff_forall_mem.1 h) o (Array.mem_of_getElem? ho)
theorem region_roundN {S : World → Prop} {id : Nat} {a : Act} {w : World} (hm : P.follows .mixedOrders = true) (hQ : ¬ LetsOut Q) (nd : ops.all noDefer = true) (hS : S w.drew)
  (h : S w.drew → wpAnyH P .any ops (NoPanic Q) S ops.size (Array.replicate ops.size false) a w.drew) : (Code.region id ops true).wpIn (Fence.wide.inRound l) n P Q a w :=
 wpIn_mono (Q := NoPanic Q) (region_round hm (fun ⟨a, w, h⟩ => hQ ⟨a, w, h⟩) (all_noDefer nd) hS h) NoPanic.imp
theorem listIn_of_wp {o : Oper} {rest : List Oper} {a : Act} {w : World} (hg : o.guard = none) (nd : noDefer o = true) (h : ∀ K : Act → World → Prop, (∀ a w, wpListIn (Fence.wide.inRound l) n P ops Q rest a w → K a w) → o.wp P a w K Q) : wpListIn (Fence.wide.inRound l) n P ops Q (o :: rest) a w :=
 wpListIn_plain hg fun K hK => op_round nd (h K hK)
theorem below_keeps {W W' : World} (h : Below W.heap.size W W') : KeepsOthers W W' := ⟨h.size, fun k _ hk _ => (h.block k (Array.getElem?_eq_some_iff.1 hk).1).trans hk⟩
end
def Calm (n₀ : Nat) (W W' : World) : Prop := Below n₀ W W' ∧ ∀ (b : Nat) (o : Obj), W.heap[b]? = some o → o.isCells = true → W'.heap[b]? = some o
theorem Calm.alloc {n₀ : Nat} {W : World} (h : n₀ ≤ W.heap.size) (o : Obj) : Calm n₀ W (W.alloc o) :=
 ⟨(Below.refl n₀ W).alloc h o, fun b _ hb _ => (Below.heap_alloc W o b (Array.getElem?_eq_some_iff.1 hb).1).trans hb⟩
theorem Calm.put {n₀ l : Nat} {W : World} {o : Obj} (hl : n₀ ≤ l) (h : W.heap[l]? = some o) (hc : o.isCells = false) (o' : Obj) : Calm n₀ W (W.putObj l o') := by
 refine ⟨(Below.refl n₀ W).grown (grownBy_putObj' W l o') (by have := (Array.getElem?_eq_some_iff.1 h).1; omega) (fun k e => by cases e; omega), fun b x hb hx => ?_⟩
 by_cases e : b = l
 ·subst e
  rw [h] at hb
  cases hb
  rw [hc] at hx
  cases hx
 ·exact (World.putObj_heap_other e).trans hb
theorem Calm.of {n₀ : Nat} {W W' : World} (h : Below W.heap.size W W') (hn : n₀ ≤ W.heap.size) : Calm n₀ W W' := ⟨h.mono hn, fun b _ hb _ => (h.block b (Array.getElem?_eq_some_iff.1 hb).1).trans hb⟩
def roundEnd (I : Nat → World → Prop) (Ix : World → Prop) (k : Nat) (W : World) : Exit → Act → World → Prop
 | .normal, _, W' => KeepsOthers W W' ∧ I (k + 1) W'
 | .ret, _, W' => KeepsOthers W W' ∧ Ix W'
 | _, _, _ => False
theorem wp_rounds {P : Program} {g : Operand} {ps : Array Tmp} {assign body : Code} {Q : Exit → Act → World → Prop} {a : Act} {w : World} {gf : Nat} {lb : Array Value} (hg : a.eval g = .func (.func gf) #[] lb)
  (eg : ∀ args w, (callFunc gf args).run P w = .ok (.enter gf args) w) {encs : Nat → Array Value} {N n₀ : Nat} (hn₀ : n₀ ≤ w.heap.size) (hps : ∀ k, (encs k).size = ps.size) (R : World → Prop)
  (hseq : ∀ (l : Nat) (J : Nat → World → Prop) (Jx : World → Prop) (W : World), (∀ k W1, J k W1 → R W1) →
   (∀ k W1, k < N → J k W1 → YieldAt Fence.wide 1 P l (encs k) W1 fun e W' => (e = .returned (.bool true) ∧ J (k + 1) W') ∨ (e = .returned (.bool false) ∧ Jx W')) →
   J 0 W → CallsIn Fence.wide 2 P gf (#[.func (.yield l) #[] #[]] ++ lb) W fun e W' => (∃ v, e = .returned v) ∧ (J N W' ∨ Jx W'))
  (I : Nat → World → Prop) (Ix : World → Prop) (hI : ∀ k W W', Calm n₀ W W' → I k W → I k W') (hIx : ∀ W W', Calm n₀ W W' → Ix W → Ix W') (hR : ∀ k W, I k W → R W) (h0 : I 0 w)
  (hround : ∀ (l k : Nat) (W : World), k < N → I k W →
   assign.wpIn (Fence.wide.inRound l) 1 P (Exit.then (fun a₁ W1 => KeepsOthers W W1 ∧ ∀ W2, Calm n₀ W1 W2 → body.wpIn (Fence.wide.inRound l) 1 P (roundEnd I Ix k W2) a₁ W2) (fun _ _ _ => False))
    { tmps := (ps.zip (encs k)).foldl (fun t (p, v) => t.setIfInBounds p v) a.tmps, defers := [] } W)
  (hdone : ∀ (D : Nat) (W : World), w.heap.size ≤ D → I N W → W.heap[D]? = some (.deferred (some [])) → Q .normal { a with defers := { target := .collected D, args := #[] } :: a.defers } W)
  (hstop : ∀ (D : Nat) (W : World), w.heap.size ≤ D → Ix W → W.heap[D]? = some (.deferred (some [])) → Code.ret.wpIn Fence.wide 3 P Q { a with defers := { target := .collected D, args := #[] } :: a.defers } W) :
  (Code.rangeFunc g ps assign body).wpIn Fence.wide 3 P Q a w := by
 refine wpIn_rangeFunc fun fn _ => ?_
 obtain ⟨rec, hrec⟩ : ∃ rec : LoopState → Option Code → Loop, rec = fun st pe => { state := st, pending := pe, fn, tmps := a.tmps, params := ps, assign, body, defers := w.heap.size } := ⟨_, rfl⟩
 obtain ⟨D, hD⟩ : ∃ D, D = w.heap.size := ⟨_, rfl⟩
 obtain ⟨W0, hW0⟩ : ∃ W0, W0 = w.alloc (.deferred (some [])) := ⟨_, rfl⟩
 obtain ⟨W1, hW1⟩ : ∃ W1, W1 = W0.alloc (.loop (rec .ready none)) := ⟨_, rfl⟩
 have hs0 : W0.heap.size = D + 1 := by rw [hW0, hD]; simp
 have hL1 : W1.heap[D + 1]? = some (.loop (rec .ready none)) := by rw [hW1, ← hs0]; exact World.alloc_heap_new W0 _
 have hD0 : W0.heap[D]? = some (.deferred (some [])) := by rw [hW0, hD]; exact World.alloc_heap_new w _
 have hD1 : W1.heap[D]? = some (.deferred (some [])) := by rw [hW1]; exact (Below.heap_alloc _ _ _ (by omega)).trans hD0
 have hI1 : I 0 W1 := hI _ _ _ (by rw [hW1]; exact Calm.alloc (by omega) _) (hI _ _ _ (by rw [hW0]; exact Calm.alloc hn₀ _) h0)
 have henter : (Instr.enterLoop fn a.tmps ps assign body Fence.wide.round).run P w = .ok (D + 1, [{ target := .collected D, args := #[] }]) W1 := by
  rw [hW1, hW0, hD, hrec]; exact run_enterLoop_outer _ _ _ _ _
 refine ⟨D + 1, [{ target := .collected D, args := #[] }], W1, { target := .fn (.func gf) lb, args := #[.func (.yield (D + 1)) #[] #[]] }, W1, gf, #[.func (.yield (D + 1)) #[] #[]] ++ lb, W1, henter, ?_, (fun _ _ => trivial), ?_, (fun h => by cases h), ?_⟩
 ·simp only [resolve, hg]
  simp [go_sem]
 ·simp [invoke, go_sem, eg]
 have turn : ∀ (st st' : LoopState) (pe pe' : Option Code) (W : World), W.heap[D + 1]? = some (.loop (rec st pe)) → W.heap[D]? = some (.deferred (some [])) →
   (W.putObj (D + 1) (.loop (rec st' pe'))).heap[D + 1]? = some (.loop (rec st' pe')) ∧ (W.putObj (D + 1) (.loop (rec st' pe'))).heap[D]? = some (.deferred (some [])) ∧ Calm n₀ W (W.putObj (D + 1) (.loop (rec st' pe'))) :=
  fun st st' pe pe' W hl hd => ⟨World.putObj_heap_same (Array.getElem?_eq_some_iff.1 hl).1, (World.putObj_heap_other (by omega)).trans hd, Calm.put (by omega) hl rfl _⟩
 refine (hseq (D + 1)
  (fun k W => I k W ∧ W.heap[D + 1]? = some (.loop (rec .ready none)) ∧ W.heap[D]? = some (.deferred (some [])))
  (fun W => Ix W ∧ W.heap[D + 1]? = some (.loop (rec .done (some .ret))) ∧ W.heap[D]? = some (.deferred (some [])))
  W1 (fun k W h => hR k W h.1) ?_ ⟨hI1, hL1, hD1⟩).mono ?_
 ·rintro k W hk ⟨hi, hl, hd⟩
  have hy := run_yield (P := P) (args := encs k) hl (by rw [hrec]; exact hps k)
  rw [hrec] at hy
  refine ⟨fn, _, assign, body, hy, roundIn_of_wpIn trivial (wpIn_mono (hround (D + 1) k W hk hi) ?_)⟩
  rintro e a₁ Wa hp
  cases e with
  | normal =>
   obtain ⟨hko, hb⟩ := hp
   have hla := hko.same _ _ hl rfl
   have hda := hko.same _ _ hd rfl
   have hbegin := run_beginRound (P := P) hla (by rw [hrec])
   obtain ⟨tl, td, tc⟩ := turn .ready .busy none none Wa hla hda
   have e0 : ({ rec .ready none with state := .busy } : Loop) = rec .busy none := by rw [hrec]
   rw [e0] at hbegin
   refine ⟨_, hbegin, wpIn_mono (hb _ tc) ?_⟩
   rintro e a₃ W3 hp
   cases e with
   | normal =>
    obtain ⟨hk3, hi3⟩ := hp
    have hl3 := hk3.same _ _ tl rfl
    have hd3 := hk3.same _ _ td rfl
    have hend := run_endRound (P := P) none hl3
    rw [show ({ rec .busy none with state := if (none : Option Code).isNone then LoopState.ready else .done, pending := none } : Loop) = rec .ready none by rw [hrec]; rfl] at hend
    obtain ⟨ul, ud, uc⟩ := turn .busy .ready none none W3 hl3 hd3
    exact ⟨_, _, hend, .inl ⟨rfl, hI _ _ _ uc hi3, ul, ud⟩⟩
   | ret =>
    obtain ⟨hk3, hi3⟩ := hp
    have hl3 := hk3.same _ _ tl rfl
    have hd3 := hk3.same _ _ td rfl
    have hend := run_endRound (P := P) (some .ret) hl3
    rw [show ({ rec .busy none with state := if (some Code.ret : Option Code).isNone then LoopState.ready else .done, pending := some .ret } : Loop) = rec .done (some .ret) by rw [hrec]; rfl] at hend
    obtain ⟨ul, ud, uc⟩ := turn .busy .done none (some .ret) W3 hl3 hd3
    exact ⟨_, _, hend, .inr ⟨rfl, hIx _ _ uc hi3, ul, ud⟩⟩
   | exit id => exact hp.elim
   | goto t => exact hp.elim
   | panic c => exact hp.elim
   | outgrown => exact hp.elim
  | exit id => exact hp.elim
  | goto t => exact hp.elim
  | ret => exact hp.elim
  | panic c => exact hp.elim
  | outgrown => exact hp.elim
 ·rintro e W2 ⟨⟨v, rfl⟩, ⟨hi, hl, hd⟩ | ⟨hi, hl, hd⟩⟩
  ·have hend := run_endLoop (P := P) hl (by rw [hrec]; simp)
   rw [show ({ rec .ready none with state := .exhausted } : Loop) = rec .exhausted none by rw [hrec]] at hend
   obtain ⟨_, ud, uc⟩ := turn .ready .exhausted none none W2 hl hd
   exact ⟨none, _, by rw [hend, hrec], hdone D _ (by omega) (hI _ _ _ uc hi) ud⟩
  ·have hend := run_endLoop (P := P) hl (by rw [hrec]; simp)
   rw [show ({ rec .done (some .ret) with state := .exhausted } : Loop) = rec .exhausted (some .ret) by rw [hrec]] at hend
   obtain ⟨_, ud, uc⟩ := turn .done .exhausted (some .ret) (some .ret) W2 hl hd
   exact ⟨some .ret, _, by rw [hend, hrec], hstop D _ (by omega) (hIx _ _ uc hi) ud⟩
end
section
open Go.RowKit
theorem backward_any (a : Option Addr) (n c : Nat) (w : World) :
  Calls Tryz.prog 39 #[.slice a n c] w fun e w' => e = .returned (.func (.func 64) #[] #[.pointer (some ⟨w.heap.size, 0, none⟩)]) ∧ w' = w.alloc (.cells #[.slice a n c] 24) := by
 go_enter Tryz.func39, Tryz.ntmps39
 go_wp2
 go_ret
 exact ⟨rfl, rfl⟩
set_option maxRecDepth 100000 in
set_option maxHeartbeats 4000000 in
theorem back1_in (l Bs : Nat) (a : Option Addr) (n c : Nat) (T : List ND) (J : Nat → World → Prop) (Jx : World → Prop) (W : World) (hn : n ≤ 1000000)
  (hR : ∀ k W1, J k W1 → W1.cell? ⟨Bs, 0, none⟩ = some (.slice a n c) ∧ NdS W1 a n c T)
  (hY : ∀ k W1, k < n → J k W1 → YieldAt Fence.wide 1 Tryz.prog l #[.int .i64 ((n - 1 - k : Nat) : Int), .agg (ndA (nA T (n - 1 - k)))] W1 fun e W' => (e = .returned (.bool true) ∧ J (k + 1) W') ∨ (e = .returned (.bool false) ∧ Jx W'))
  (h0 : J 0 W) : CallsIn Fence.wide 2 Tryz.prog 64 #[.func (.yield l) #[] #[], .pointer (some ⟨Bs, 0, none⟩)] W fun e W' => (∃ v, e = .returned v) ∧ (J n W' ∨ Jx W') := by
 refine callsIn_of_wp Tryz.func64 rfl trivial ?_ rfl
 simp only [Tryz.ntmps64, List.size_toArray, List.length_cons, List.length_nil, Nat.reduceAdd, Nat.reduceSub, Array.replicate_succ, Array.replicate_zero, List.push_toArray, List.append_toArray, List.nil_append, List.cons_append]
 have c0 := (hR 0 W h0).1
 gi_wp2
 gi_loopw [3] (fun i wr => ∃ (q : Int) (k : Nat), i = .int .i64 q ∧ k ≤ n ∧ q = (n : Int) - 1 - k ∧ J k wr)
  (fun i _ => (intOf i + 1).toNat)
 case atStart => exact ⟨_, 0, rfl, by omega, by omega, h0⟩
 case round =>
  obtain ⟨q, k, rfl, hk, hq, hJs⟩ := hrel
  clear c0
  by_cases hlt : k < n
  ·obtain ⟨hc, hs⟩ := hR k wr hJs
   obtain ⟨fn, tmps, assign, body, hy, hRd⟩ := hY k wr hlt hJs
   obtain ⟨b, o, rfl, _, hcs⟩ := hs.at_ (by omega)
   clear hcs
   obtain ⟨j, hj⟩ : ∃ j, j = n - 1 - k := ⟨_, rfl⟩
   rw [← hj] at hy
   obtain rfl : q = (j : Int) := by omega
   have hjn : j < n := by omega
   have hjn' : (j : Int) < (n : Int) := by omega
   have hj0 : (0 : Int) ≤ (j : Int) := Int.natCast_nonneg _
   obtain ⟨c0, c1, c2, c3, c4⟩ := NdS.at5 hs hjn
   dsimp only [ndA] at hy
   have HJ := hid hj
   have HQ := hid hq
   clear hs hJs hj hq
   gi_wp2
   refine hRd.mono ?_
   rintro e W3 (⟨rfl, hJ3⟩ | ⟨rfl, hJx3⟩)
   ·gi_wp2
    go_roundw
    case rel => exact ⟨_, k + 1, rfl, by omega, by have := HQ.out; omega, hJ3⟩
    case measure => simp [intOf]
   ·gi_wp2
    refine bodyPost_ret (results_none rfl _ _ _) rfl ?_
    exact ⟨⟨_, rfl⟩, .inr hJx3⟩
  ·have hkn : k = n := by omega
   have hqn : ¬ (0 : Int) ≤ q := by omega
   gi_wp2
   go_end0
   exact ⟨⟨_, rfl⟩, .inl (by rw [← hkn]; exact hJs)⟩
end
end Go.Proofs.YtanhpgmiadgmjaaGreatDoor
