/- Texts laid one behind the other. -/
import Derived.Test.YtcegbmhnbmfnnaaGreatDoorMK
import Derived.MapKept
import Derived.Test.YtcegbmhnbmfnnaaGreatDoorML

/- A map of texts to true, of the call's own: what is in it; env.Unique. -/
namespace Go.Proofs.YtcegbmhnbmfnnaaGreatDoor
open Go.RowKit

def kvM (S : List Nm) : List (Value × Value) := S.map fun x => (Value.string (mk x), Value.bool true)
/-- The block g holds a map with true at each of these. -/
def MS (w : World) (g : Nat) (S : List Nm) : Prop := ∃ es clock, w.heap[g]? = some (.map es clock) ∧ es.toList.map (fun e => (e.key, e.val)) = kvM S

theorem beq_mk (x y : Nm) : (mk x == mk y) = (x == y) := by
  rw [Bool.eq_iff_iff, MapKept.bytes_beq, beq_iff_eq]
  exact ⟨mk_inj, fun h => by rw [h]⟩
theorem find_no {x : Nm} : ∀ (l : List MapEntry) (S : List Nm) (i : Nat), l.map (fun e => (e.key, e.val)) = kvM S → x ∉ S → Instr.findNow .string (.string (mk x)) l i = some none
  | [], _, _, _, _ => rfl
  | e :: l, [], i, h, _ => by simp [kvM] at h
  | e :: l, y :: S, i, h, hx => by
    simp only [kvM, List.map_cons, List.cons.injEq, Prod.mk.injEq] at h
    obtain ⟨⟨hk, _⟩, ht⟩ := h
    have hxy : (x == y) = false := beq_eq_false_iff_ne.2 fun e => hx (by rw [e]; exact List.mem_cons_self ..)
    unfold Instr.findNow
    rw [hk]
    simp only [Instr.sameNow, beq_mk, hxy]
    exact find_no l S (i + 1) ht fun h => hx (List.mem_cons_of_mem _ h)
theorem find_yes {x : Nm} : ∀ (l : List MapEntry) (S : List Nm) (i : Nat), l.map (fun e => (e.key, e.val)) = kvM S → x ∈ S → ∃ j, Instr.findNow .string (.string (mk x)) l i = some (some (j, .bool true)) ∧ i ≤ j ∧ j < i + l.length
  | [], S, i, h, hx => by
    cases S with
    | nil => cases hx
    | cons y S => simp [kvM] at h
  | e :: l, [], i, h, _ => by simp [kvM] at h
  | e :: l, y :: S, i, h, hx => by
    simp only [kvM, List.map_cons, List.cons.injEq, Prod.mk.injEq] at h
    obtain ⟨⟨hk, hv⟩, ht⟩ := h
    unfold Instr.findNow
    rw [hk]
    simp only [Instr.sameNow, beq_mk]
    cases hxy : (x == y) with
    | true => exact ⟨i, by simp [hv], Nat.le_refl _, by simp⟩
    | false =>
      obtain ⟨j, h1, h2, h3⟩ := find_yes l S (i + 1) ht ((List.mem_cons.1 hx).resolve_left (beq_eq_false_iff_ne.1 hxy))
      exact ⟨j, h1, by omega, by rw [List.length_cons]; omega⟩

theorem MS.new (w : World) : MS (w.alloc (.map #[] 0)) w.heap.size [] := ⟨#[], 0, heap_alloc_new w _, rfl⟩
theorem MS.lt {w : World} {g : Nat} {S : List Nm} (h : MS w g S) : g < w.heap.size := by obtain ⟨_, _, h, _⟩ := h; exact (Array.getElem?_eq_some_iff.1 h).1
theorem MS.below {w w' : World} {g : Nat} {S : List Nm} (h : MS w g S) (hb : Below w.heap.size w w') : MS w' g S := by
  have hl := h.lt
  obtain ⟨es, cl, h, h2⟩ := h
  exact ⟨es, cl, (hb.block g hl).trans h, h2⟩
/-- Texts that are read are not in the map's block. -/
theorem Ss.only {w w' : World} {g : Nat} {S P : List Nm} {a : Option Addr} {n c : Nat} (h : Ss w a n c P) (hm : MS w g S) (ho : Only g w w') : Ss w' a n c P :=
  ⟨h.hl, h.lc, h.cm, fun h0 => by
    obtain ⟨b, off, ha, hb, hc⟩ := h.at_ h0
    have hne : b ≠ g := fun e => by
      subst e
      obtain ⟨es, cl, hm, _⟩ := hm
      have h1 := hc 0 (by omega)
      have hl := h.hl
      rw [List.getElem?_eq_getElem (by omega)] at h1
      unfold World.cell? at h1
      dsimp only at h1
      rw [hm] at h1
      cases h1
    exact ⟨b, off, ha, by rw [ho.size]; exact hb, fun j hj => (World.cell?_of_block (ho.block b hne)).trans (hc j hj)⟩⟩

/-! ### env.Unique -/

def allP (L : List OP) : List Nm := L.flatMap fun o => prt o.1
theorem allP_snoc {L : List OP} {k : Nat} (h : k < L.length) : allP (L.take (k + 1)) = allP (L.take k) ++ prt (opA L k).1 := by unfold allP; rw [opA_take h]; simp
def uniqB (L : List OP) : Bool := decide (allP L).Nodup
theorem pt_snoc {P : List Nm} {j : Nat} (h : j < P.length) : P.take (j + 1) = P.take j ++ [pt P j] := by rw [List.take_add_one]; unfold pt; simp [List.getD, h]
theorem uniq_no {L : List OP} {k j : Nat} (hk : k < L.length) (hj : j < (prt (opA L k).1).length) (h : pt (prt (opA L k).1) j ∈ allP (L.take k) ++ (prt (opA L k).1).take j) : uniqB L = false := by
  refine decide_eq_false fun hn => ?_
  have e : allP L = allP (L.take k) ++ (prt (opA L k).1).take j ++ (pt (prt (opA L k).1) j :: ((prt (opA L k).1).drop (j + 1) ++ allP (L.drop (k + 1)))) := by
    conv => lhs; rw [← List.take_append_drop k L, opA_drop hk]
    unfold allP
    rw [List.flatMap_append, List.flatMap_cons, List.append_assoc]
    congr 1
    conv => lhs; rw [← List.take_append_drop j (prt (opA L k).1)]
    rw [List.append_assoc]
    congr 1
    rw [List.drop_eq_getElem_cons hj, List.cons_append]
    congr 1
    unfold pt; simp [List.getD, hj]
  rw [e] at hn
  exact (List.nodup_append.1 hn).2.2 _ h _ (List.mem_cons_self ..) rfl

end Go.Proofs.YtcegbmhnbmfnnaaGreatDoor

/- env.Drop. -/
namespace Go.Proofs.YtcegbmhnbmfnnaaGreatDoor
open Go.RowKit Go.ChangeMaps

/-! ### The map of what is due -/

theorem MS.keep {w w' : World} {g B : Nat} {S : List Nm} (h : MS w g S) (hb : Below B w w') (hg : g < B) : MS w' g S := by
  obtain ⟨es, cl, h, h2⟩ := h
  exact ⟨es, cl, (hb.block g hg).trans h, h2⟩
theorem MS.alloc {w : World} {g : Nat} {S : List Nm} (h : MS w g S) (o : Obj) : MS (w.alloc o) g S := h.below (below_alloc w o)
theorem ms_one (w : World) (p : Nm) : MS (w.alloc (.map #[⟨.string (mk p), .bool true, 0⟩] 1)) w.heap.size [p] := ⟨_, _, heap_alloc_new w _, rfl⟩
/-! ### What Drop answers -/

def fk (L : List OP) (p : Nm) (k : Nat) : Bool := (L.take k).any fun o => o.1 == p
def dk (L : List OP) (p : Nm) (k : Nat) : List OP := (L.take k).eraseP fun o => o.1 == p
theorem fk_step {L : List OP} {p : Nm} {k : Nat} (h : k < L.length) : fk L p (k + 1) = (fk L p k || (opA L k).1 == p) := by unfold fk; rw [opA_take h, List.any_append]; simp
theorem dk_step {L : List OP} {p : Nm} {k : Nat} (h : k < L.length) : dk L p (k + 1) = if fk L p k = false ∧ ((opA L k).1 == p) = true then dk L p k else dk L p k ++ [opA L k] := by
  unfold dk
  rw [opA_take h, List.eraseP_append]
  have e : fk L p k = (L.take k).any fun o => o.1 == p := rfl
  rw [← e]
  cases hf : fk L p k with
  | true => simp
  | false =>
    have hn : (L.take k).eraseP (fun o => o.1 == p) = L.take k := List.eraseP_of_forall_not fun a ha => by
      have := List.any_eq_false.1 (e ▸ hf) a ha
      simpa using this
    cases hp : ((opA L k).1 == p) with
    | true => simp [hn, hp]
    | false => simp [hn, hp]
def drpE (L : List OP) (p : Nm) : Int := match drpI L p with
  | none => 2
  | some _ => 0
def drpZ (L : List OP) (z : List Int) (p : Nm) : List Int := if drpE L p = 0 then z else z0
theorem drp_yes {L : List OP} {p : Nm} (h : fk L p L.length = true) : drpE L p = 0 ∧ drpL L p = dk L p L.length := by
  unfold fk at h
  rw [List.take_length] at h
  cases hi : drpI L p with
  | none =>
    obtain ⟨x, hx, e⟩ := List.any_eq_true.1 h
    exact absurd (eq_of_beq e) (drpI_none.1 hi x hx)
  | some i =>
    refine ⟨by unfold drpE; rw [hi], ?_⟩
    have hi2 : L.findIdx? (fun o => o.1 == p) = some i := hi
    unfold drpL dk
    rw [hi, List.take_length, List.eraseP_eq_eraseIdx, hi2]
    exact (List.eraseIdx_eq_take_drop_succ L i).symm
theorem drp_no {L : List OP} {p : Nm} (h : fk L p L.length = false) : drpE L p = 2 ∧ drpL L p = [] := by
  unfold fk at h
  rw [List.take_length] at h
  have hi : drpI L p = none := drpI_none.2 fun x hx => by have := List.any_eq_false.1 h x hx; simpa using this
  exact ⟨by unfold drpE; rw [hi], by unfold drpL; rw [hi]⟩

end Go.Proofs.YtcegbmhnbmfnnaaGreatDoor
