/- slices.Clone and slices.Insert at rows of operators. -/
import Derived.Test.YtjkjbgekpkhpfaaGreatDoorAv
import Derived.Laws.CopyRow
import Derived.Laws.CopyOwn
import Derived.Lib.Overlaps
import Derived.Lib.AppendZeros
namespace Go.Proofs.YtjkjbgekpkhpfaaGreatDoor
open Go.RowKit

/-- copy, whatever the elements' size: the run. -/
theorem run_copyk {P : Program} (w : World) (dT sT ty elem : TypeId) (k m g o dLen dCap : Nat) (a : Addr) (sLen sCap : Nat) (cur : List Value) (t : TypeId) (cs : List Value)
    (hu : P.underlying dT = some (.slice elem)) (hs : (P.info? elem).map (·.size) = some k)
    (hg : w.heap[g]? = some (.cells cur.toArray t (0, 0))) (hm : m = Nat.min sLen dLen) (hn : cs.length = m * k)
    (hsrc : ∀ j v, cs[j]? = some v → w.cell? (a.add j) = some v) (hfit : o + cs.length ≤ cur.length) (h1 : ∀ v ∈ cs, v.oneCell' = true) :
    (Builtin.copy_ #[dT, sT] ty #[.slice (some ⟨g, o, none⟩) dLen dCap, .slice (some a) sLen sCap]).run P w = .ok (goInt m) (w.setRow g (splice cur o cs).toArray) := by
  have hl := run_loadCells_list (P := P) w a cs hsrc
  have hst := run_storeCells_at P g o t cs 0 cur.toArray w hg (by simpa using hfit) h1
  cases hq : P.info? elem with
  | none => simp [hq] at hs
  | some i =>
    have hi : i.size = k := by simpa [hq] using hs
    rw [hn] at hl
    simp [Builtin.copy_, run_underlying hu, Builtin.lenOf, Builtin.firstCells, sizeOf, typeInfo, hq, hi, hl, hst, ← hm, splice]
theorem wpList_copyk {P : Program} {w : World} {ops : Array Oper} {rest : List Oper} {o : Oper} {a : Act} {Q : Exit → Act → World → Prop} (hgd : o.guard = none) (d s : Operand) (dT sT : TypeId)
    (ho : o.op = .call { callee := .builtin .copy, args := #[d, s], argTypes := #[dT, sT] }) (elem : TypeId) (k m : Nat) (hu : P.underlying dT = some (.slice elem)) (hsz : (P.info? elem).map (·.size) = some k)
    (g off dLen dCap : Nat) (ad : Addr) (sLen sCap : Nat) (hd : a.eval d = .slice (some ⟨g, off, none⟩) dLen dCap) (hs : a.eval s = .slice (some ad) sLen sCap)
    (cur : List Value) (t : TypeId) (hg : w.heap[g]? = some (.cells cur.toArray t (0, 0))) (cs : List Value) (hm : m = Nat.min sLen dLen) (hn : cs.length = m * k)
    (hsrc : ∀ j v, cs[j]? = some v → w.cell? (ad.add j) = some v) (hfit : off + cs.length ≤ cur.length) (h1 : ∀ v ∈ cs, v.oneCell' = true)
    (h : ∀ w', w'.heap[g]? = some (.cells (splice cur off cs).toArray t (0, 0)) → Only g w w' → wpList P ops Q rest (a.put o.dst (goInt m)) w') : wpList P ops Q (o :: rest) a w := by
  refine wpList_plain hgd fun K hK => ?_
  have hrun := run_copyk (P := P) w dT sT o.type elem k m g off dLen dCap ad sLen sCap cur t cs hu hsz hg hm hn hsrc hfit h1
  unfold Oper.wp
  simp [execOp, ho, resolve, invoke, builtin, hd, hs, hrun, Result.andThen]
  exact hK _ _ (h _ (setRow_heap w g _ _ t _ hg) (Only.ofRow w g _))
theorem step_copyk {P : Program} {w : World} {ops : Array Oper} {o : Oper} {a : Act} {K : Act → World → Prop} {Q : Exit → Act → World → Prop} {E : Prop} (hgd : o.guard = none) (d s : Operand) (dT sT : TypeId)
    (ho : o.op = .call { callee := .builtin .copy, args := #[d, s], argTypes := #[dT, sT] }) (elem : TypeId) (k m : Nat) (hu : P.underlying dT = some (.slice elem)) (hsz : (P.info? elem).map (·.size) = some k)
    (g off dLen dCap : Nat) (ad : Addr) (sLen sCap : Nat) (hd : a.eval d = .slice (some ⟨g, off, none⟩) dLen dCap) (hs : a.eval s = .slice (some ad) sLen sCap)
    (cur : List Value) (t : TypeId) (hg : w.heap[g]? = some (.cells cur.toArray t (0, 0))) (cs : List Value) (hm : m = Nat.min sLen dLen) (hn : cs.length = m * k)
    (hsrc : ∀ j v, cs[j]? = some v → w.cell? (ad.add j) = some v) (hfit : off + cs.length ≤ cur.length) (h1 : ∀ v ∈ cs, v.oneCell' = true)
    (h : ∀ w', w'.heap[g]? = some (.cells (splice cur off cs).toArray t (0, 0)) → Only g w w' → K (a.put o.dst (goInt m)) w') :
    if Region.wanted o (yielded ops a.tmps) = true then Oper.wp P o a w K Q else E := by
  rw [if_pos (show Region.wanted o (yielded ops a.tmps) = true by simp [Region.wanted, hgd])]
  have hrun := run_copyk (P := P) w dT sT o.type elem k m g off dLen dCap ad sLen sCap cur t cs hu hsz hg hm hn hsrc hfit h1
  unfold Oper.wp
  simp [execOp, ho, resolve, invoke, builtin, hd, hs, hrun, Result.andThen]
  exact h _ (setRow_heap w g _ _ t _ hg) (Only.ofRow w g _)

/-- append(s, make([]T, m)...) where there is no room: a new row. -/
theorem run_append_zeros {P : Program} (w : World) (t tn ty e : TypeId) (i : TypeInfo) (z : Value) (kn : IntKind) (ht : P.underlying t = some (.slice e)) (htn : P.underlying tn = some (.int kn)) (hi : P.info? e = some i) (hz : i.zero = some z)
    (a : Addr) (n c m : Nat) (x : Int) (hx : x = (m : Int)) (old : List Value) (hl : old.length = n * i.size) (hold : ∀ j v, old[j]? = some v → w.cell? (a.add j) = some v) (h0 : 0 < m) (hs : 0 < i.size) (hc : c < n + m) (hb : (n + m) * i.bytes ≤ 140737488355328) (h63 : (n + m : Nat) ≤ 1000000000) :
    (Builtin.append_ #[t, tn] ty #[.slice (some a) n c, .int .i64 x]).run P w =
      .ok (.slice (some ⟨w.heap.size, 0, none⟩) (n + m) (grownCap w (n + m) c e)) (w.drew.alloc (.cells (old.toArray ++ Builtin.zeroCells z.cells m ++ Builtin.zeroCells z.cells (grownCap w (n + m) c e - (n + m))) e)) := by
  subst hx
  have hn : m ≠ 0 := by omega
  have hw : IntKind.i64.wrap (m : Int) = m := by rw [IntKind.wrap_i64]; omega
  have hneg : ¬ ((m : Int) < 0) := by omega
  have hle : (n + m) * i.bytes = n * i.bytes + m * i.bytes := Nat.add_mul ..
  have h48i : ¬ (281474976710656 < (m : Int) * (i.bytes : Int)) := by
    rw [← Int.natCast_mul]; omega
  have hroom : ¬ (n + m ≤ c) := by omega
  have h63' : ¬ (9223372036854775807 < (n : Int) + (m : Int)) := by omega
  have hns : ¬ (m * i.size = 0) := Nat.mul_ne_zero hn (by omega)
  have hfit := growslice_fits (bytes := i.bytes) hc hb
  have h48' : ¬ (281474976710656 < Builtin.nextslicecap (n + m) c * i.bytes) := by omega
  have hf := run_firstCells_some (P := P) w.drew i.size n a n c old hl (by simpa using hold)
  simp [Builtin.append_, run_underlying ht, run_underlying htn, sizeOf, typeInfo, zeroValue, hi, hz, asInt, asIntOf, hw, hneg, hns, h63', h48', h48i, hroom, Question.forced, hf, newRow, grownCap]

/-! ### What was put in -/

theorem splice_two {α : Type} (Z A Y W : List α) (p q : Nat) (hp : A.length = p) (hq : Y.length = q) (hZ : p + q + W.length ≤ Z.length) (hA : Z.take p = A) : (splice (splice Z p Y) (p + q) W).take (p + q + W.length) = A ++ Y ++ W := by
  subst hp; subst hq
  unfold splice
  rw [hA]
  have e : (A ++ (Y ++ Z.drop (A.length + Y.length))).take (A.length + Y.length) = A ++ Y := by
    rw [← List.append_assoc, List.take_append_of_le_length (by simp)]
    exact List.take_of_length_le (by simp)
  rw [e, ← List.append_assoc, List.take_append_of_le_length (by simp; omega)]
  exact List.take_of_length_le (by simp; omega)
theorem splice_back {α : Type} (Z A Y W : List α) (p q : Nat) (hp : A.length = p) (hq : Y.length = q) (hZ : p + q + W.length ≤ Z.length) (hA : Z.take p = A) : (splice (splice Z (p + q) W) p Y).take (p + q + W.length) = A ++ Y ++ W := by
  subst hp; subst hq
  unfold splice
  have e1 : (Z.take (A.length + Y.length) ++ (W ++ Z.drop (A.length + Y.length + W.length))).take A.length = A := by
    rw [List.take_append_of_le_length (by rw [List.length_take]; omega), List.take_take, Nat.min_eq_left (by omega), hA]
  have e2 : (Z.take (A.length + Y.length) ++ (W ++ Z.drop (A.length + Y.length + W.length))).drop (A.length + Y.length) = W ++ Z.drop (A.length + Y.length + W.length) := by
    rw [List.drop_append_of_le_length (by rw [List.length_take]; omega), List.drop_of_length_le (by rw [List.length_take]; omega), List.nil_append]
  rw [e1, e2, ← List.append_assoc, ← List.append_assoc, List.take_append_of_le_length (by simp; omega)]
  exact List.take_of_length_le (by simp; omega)

set_option maxRecDepth 20000 in
set_option maxHeartbeats 1000000 in
theorem clone_ops (a : Option Addr) (n c : Nat) (L : List OP) (w : World) (h : OpS w a n c L) (hsz : n ≤ 1000000) :
    Calls Tryz.prog 28 #[.slice a n c] w fun e w' => ∃ a' c', e = .returned (.slice a' n c') ∧ OwnO w.heap.size w' a' n c' L ∧ Below w.heap.size w w' := by
  have hcm := h.cm
  have hlc := h.lc
  unfold maxLen at hcm
  have H := Lib.hid h
  have hnn : (binOp .eql 22 (.slice a n c) (.slice none 0 0)).run Tryz.prog w = .ok (.bool a.isNone) w := by
    unfold binOp
    simp [run_equal_slice_nil w 22 28 a n c Tryz.underlying22]
  cases a with
  | none =>
    have h0 : n = 0 := by
      rcases Nat.eq_zero_or_pos n with h0 | h0
      · exact h0
      · obtain ⟨b, o, ha, _⟩ := h.at_ h0; cases ha
    have hL : L = [] := List.eq_nil_of_length_eq_zero (by rw [OpS.len h, h0])
    subst h0; subst hL
    clear h
    go_enter Tryz.func28, Tryz.ntmps28
    go_wp2
    go_ret
    exact ⟨_, _, rfl, OwnV.none0, Below.refl _ _⟩
  | some ad =>
    clear h
    go_enter Tryz.func28, Tryz.ntmps28
    go_wp2_with (at_builtin; refine Hid.out ?_)
    refine Lib.hid ?_
    refine wpList_appv rfl (.tmp 5) (.tmp 6) 22 rfl 28 w.heap.size 3 32 _ Tryz.underlying22 op_info rfl (by omega) _ 0 _ [] rfl (OwnV.emptyAt (heap_alloc_new w _) (Nat.le_refl _)) _ _ _ (cO L) rfl (H.out.below ((Below.refl _ _).alloc (Nat.le_refl _) _)) (cO_one L) (by unfold maxLen; omega) (by omega) (by simp) ?_
    intro a2 c2 w2 ho2 hg2 hb2 _
    rw [Nat.zero_add, List.nil_append] at ho2
    rw [Nat.zero_add]
    have HO2 := Lib.hid ho2
    have HB2 : Hid (Below w.heap.size w w2) := Lib.hid (((Below.refl _ _).alloc (Nat.le_refl _) _).trans hb2)
    clear ho2 hg2 hb2
    go_wp2
    go_ret
    exact ⟨_, _, rfl, HO2.out, HB2.out⟩

end Go.Proofs.YtjkjbgekpkhpfaaGreatDoor
