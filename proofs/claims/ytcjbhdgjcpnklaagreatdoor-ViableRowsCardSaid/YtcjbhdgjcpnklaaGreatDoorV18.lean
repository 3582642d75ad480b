import Derived.Sort.Walk0
import Derived.Laws.CopyRow
import Derived.Laws.CopyOwn
import Derived.Lib.Overlaps
import Derived.Lib.AppendZeros
import Derived.Test.YtcjbhdgjcpnklaaGreatDoorV22
import Derived.Test.YtcjbhdgjcpnklaaGreatDoorV09
import Derived.Test.YtcjbhdgjcpnklaaGreatDoorV14
import Derived.Test.YtcjbhdgjcpnklaaGreatDoorV15
import Derived.Test.YtcjbhdgjcpnklaaGreatDoorV17
namespace Go.Proofs.YtcjbhdgjcpnklaaGreatDoor
section
abbrev OP := List UInt8 × Int × Int
theorem zGI {x y : List UInt8} (h : x ≤ y) (hn : x ≠ y) : x < y := by
 apply Decidable.byContradiction
 intro h1
 exact hn (List.le_antisymm h h1)
theorem zCl {x y : List UInt8} (h : x < y) : x ≤ y := fun h1 => by
 rcases List.le_total x y with h2 | h2
 ·exact h2 h1
 ·exact h2 h
theorem zFT (x : List UInt8) : ¬ x < x := fun h => zCl h h
theorem zKR {x y z : List UInt8} (h : x < y) (h1 : y < z) : x < z := by
 refine zGI (List.le_trans (zCl h) (zCl h1)) fun e => ?_
 subst e
 exact zCl h1 h
theorem zCE {x y : List UInt8} (h : x < y) : x ≠ y := fun e => by subst e; exact zFT _ h
theorem zGJ (x y : List UInt8) : x < y ∨ x = y ∨ y < x := by
 by_cases h : x < y
 ·exact .inl h
 ·by_cases e : x = y
  ·exact .inr (.inl e)
  ·exact .inr (.inr (zGI h fun e' => e e'.symm))
theorem zFU (x y : List UInt8) : Op.bytesLess x y = true ↔ x < y := by rw [bytesLess_eq, decide_eq_true_eq]
theorem zOV (x y : List UInt8) : Op.bytesLess x y = false ↔ ¬ x < y := by rw [bytesLess_eq, decide_eq_false_iff_not]
def posL (L : List OP) (p : List UInt8) : Nat := (L.takeWhile fun o => Op.bytesLess o.1 p).length
def hitL (L : List OP) (p : List UInt8) : Bool := match L.drop (posL L p) with
 | [] => false
 | x :: _ => x.1 == p
def addL (L : List OP) (o : OP) : List OP := L.take (posL L o.1) ++ [o] ++ L.drop (posL L o.1 + if hitL L o.1 = true then 1 else 0)
theorem zHD (L : List OP) (p : List UInt8) : posL L p ≤ L.length := by
 unfold posL
 induction L with
 | nil => simp
 | cons x L ih => rw [List.takeWhile_cons]; split <;> simp_all
theorem zDb {x : OP} {L : List OP} {p : List UInt8} (h : x.1 < p) : posL (x :: L) p = posL L p + 1 := by unfold posL; rw [List.takeWhile_cons, if_pos ((zFU _ _).2 h)]; rfl
theorem zDC {x : OP} {L : List OP} {p : List UInt8} (h : ¬ x.1 < p) : posL (x :: L) p = 0 := by unfold posL; rw [List.takeWhile_cons, if_neg (fun e => h ((zFU _ _).1 e))]; rfl
theorem zKS {p : List UInt8} : ∀ (L : List OP) (k : Nat) (h : k < L.length), k < posL L p → L[k].1 < p
 | x :: L, k, h, hk => by
  by_cases hx : x.1 < p
  ·rw [zDb hx] at hk
   cases k with
   | zero => exact hx
   | succ k => exact zKS L k (by simpa using h) (by omega)
  ·rw [zDC hx] at hk; omega
theorem zKT {p : List UInt8} : ∀ (L : List OP) (k : Nat) (h : k < L.length), posL L p = k → ¬ L[k].1 < p
 | x :: L, k, h, hk => by
  by_cases hx : x.1 < p
  ·rw [zDb hx] at hk
   cases k with
   | zero => omega
   | succ k => exact zKT L k (by simpa using h) (by omega)
  ·rw [zDC hx] at hk
   subst hk
   exact hx
theorem zFV {L : List OP} {p : List UInt8} (h : L.length ≤ posL L p) : hitL L p = false := by
 unfold hitL; rw [List.drop_eq_nil_of_le h]
theorem zFW {L : List OP} {p : List UInt8} {k : Nat} (hk : posL L p = k) (h : k < L.length) : hitL L p = (L[k].1 == p) := by
 unfold hitL; rw [hk, List.drop_eq_getElem_cons h]
def Srt (L : List OP) : Prop := L.Pairwise fun a b => a.1 < b.1
theorem srt_nil : Srt [] := List.Pairwise.nil
theorem zID (o : OP) : addL [] o = [o] := rfl
theorem zGK {x : OP} {L : List OP} {o : OP} (h : x.1 < o.1) : addL (x :: L) o = x :: addL L o := by
 unfold addL
 rw [zDb h, show hitL (x :: L) o.1 = hitL L o.1 by unfold hitL; rw [zDb h]; rfl, List.take_succ_cons, Nat.add_right_comm, List.drop_succ_cons]
 rfl
theorem zGL {x : OP} {L : List OP} {o : OP} (h : x.1 = o.1) : addL (x :: L) o = o :: L := by
 have hn : ¬ x.1 < o.1 := by rw [h]; exact zFT _
 have hh : hitL (x :: L) o.1 = true := by unfold hitL; rw [zDC hn]; show (x.1 == o.1) = true; rw [h]; simp
 unfold addL
 rw [zDC hn, hh]
 rfl
theorem zGM {x : OP} {L : List OP} {o : OP} (h : o.1 < x.1) : addL (x :: L) o = o :: x :: L := by
 have hn : ¬ x.1 < o.1 := fun h' => zFT _ (zKR h h')
 have hh : hitL (x :: L) o.1 = false := by unfold hitL; rw [zDC hn]; show (x.1 == o.1) = false; exact beq_eq_false_iff_ne.2 (zCE h).symm
 unfold addL
 rw [zDC hn, hh]
 rfl
theorem zFX {o : OP} : ∀ {L : List OP}, Srt L → ∀ x, x ∈ addL L o ↔ x = o ∨ (x ∈ L ∧ x.1 ≠ o.1)
 | [], _, x => by rw [zID]; simp
 | y :: L, h, x => by
  have h' := List.pairwise_cons.1 h
  rcases zGJ y.1 o.1 with hy | hy | hy
  ·rw [zGK hy, List.mem_cons, zFX h'.2, List.mem_cons]
   constructor
   ·rintro (rfl | rfl | ⟨h1, h2⟩)
    ·exact .inr ⟨.inl rfl, zCE hy⟩
    ·exact .inl rfl
    ·exact .inr ⟨.inr h1, h2⟩
   ·rintro (rfl | ⟨rfl | h1, h2⟩)
    ·exact .inr (.inl rfl)
    ·exact .inl rfl
    ·exact .inr (.inr ⟨h1, h2⟩)
  ·rw [zGL hy, List.mem_cons, List.mem_cons]
   constructor
   ·rintro (rfl | h1)
    ·exact .inl rfl
    ·exact .inr ⟨.inr h1, fun e => zFT x.1 (by have := h'.1 x h1; rw [hy, ← e] at this; exact this)⟩
   ·rintro (rfl | ⟨rfl | h1, h2⟩)
    ·exact .inl rfl
    ·exact absurd hy h2
    ·exact .inr h1
  ·simp only [zGM hy, List.mem_cons]
   constructor
   ·rintro (rfl | rfl | h1)
    ·exact .inl rfl
    ·exact .inr ⟨.inl rfl, (zCE hy).symm⟩
    ·exact .inr ⟨.inr h1, (zCE (zKR hy (h'.1 x h1))).symm⟩
   ·rintro (rfl | ⟨h1, _⟩)
    ·exact .inl rfl
    ·exact .inr h1
theorem zIE {o : OP} : ∀ {L : List OP}, Srt L → Srt (addL L o)
 | [], _ => by rw [zID]; exact List.pairwise_singleton _ _
 | y :: L, h => by
  have h' := List.pairwise_cons.1 h
  rcases zGJ y.1 o.1 with hy | hy | hy
  ·rw [zGK hy]
   refine List.pairwise_cons.2 ⟨fun x hx => ?_, zIE h'.2⟩
   rcases (zFX h'.2 x).1 hx with rfl | ⟨h1, _⟩
   ·exact hy
   ·exact h'.1 x h1
  ·rw [zGL hy]
   exact List.pairwise_cons.2 ⟨fun x hx => by rw [← hy]; exact h'.1 x hx, h'.2⟩
  ·rw [zGM hy]
   refine List.pairwise_cons.2 ⟨fun x hx => ?_, h⟩
   rcases List.mem_cons.1 hx with rfl | hx
   ·exact hy
   ·exact zKR hy (h'.1 x hx)
theorem zMN (L : List OP) (o : OP) : (addL L o).length = L.length + (if hitL L o.1 = true then 0 else 1) := by
 have h := zHD L o.1
 unfold addL
 simp only [List.length_append, List.length_take, List.length_cons, List.length_nil, List.length_drop]
 by_cases hh : hitL L o.1 = true
 ·have : posL L o.1 < L.length := by
   apply Decidable.byContradiction
   intro h2
   rw [zFV (by omega)] at hh; cases hh
  rw [if_pos hh, if_pos hh]
  omega
 ·rw [if_neg hh, if_neg hh]
  omega
def drpI (L : List OP) (p : List UInt8) : Option Nat := L.findIdx? fun o => o.1 == p
def drpL (L : List OP) (p : List UInt8) : List OP := match drpI L p with
 | none => []
 | some i => L.take i ++ L.drop (i + 1)
theorem zKU {L : List OP} {p : List UInt8} : drpI L p = none ↔ ∀ x ∈ L, x.1 ≠ p := by
 unfold drpI; rw [List.findIdx?_eq_none_iff]; simp
theorem zDD {p : List UInt8} : ∀ {L : List OP}, Srt L → ∀ i, drpI L p = some i → L.take i ++ L.drop (i + 1) = L.filter fun o => o.1 != p
 | [], _, i, hi => by simp [drpI] at hi
 | y :: L, h, i, hi => by
  have h' := List.pairwise_cons.1 h
  unfold drpI at hi
  rw [List.findIdx?_cons] at hi
  by_cases hy : y.1 = p
  ·rw [if_pos (by rw [hy]; simp)] at hi
   obtain rfl := Option.some.inj hi
   rw [List.filter_cons, if_neg (by rw [hy]; simp)]
   show L = _
   exact (List.filter_eq_self.2 fun x hx => by
    have := h'.1 x hx
    rw [hy] at this
    exact bne_iff_ne.2 (zCE this).symm).symm
  ·rw [if_neg (by simpa using hy)] at hi
   obtain ⟨j, hj, rfl⟩ := Option.map_eq_some_iff.1 hi
   rw [List.filter_cons, if_pos (by simpa using hy), ← zDD h'.2 j hj]
   rfl
theorem zMO {L : List OP} (h : Srt L) {p : List UInt8} {i : Nat} (hi : drpI L p = some i) (x : OP) : x ∈ drpL L p ↔ x ∈ L ∧ x.1 ≠ p := by
 unfold drpL; rw [hi]
 show x ∈ L.take i ++ L.drop (i + 1) ↔ _
 rw [zDD h i hi, List.mem_filter]
 simp
theorem zMP {L : List OP} (h : Srt L) {p : List UInt8} {i : Nat} (hi : drpI L p = some i) : Srt (drpL L p) := by
 unfold drpL; rw [hi]
 show Srt (L.take i ++ L.drop (i + 1))
 rw [zDD h i hi]
 exact h.filter _
theorem zMQ {L : List OP} {p : List UInt8} {i : Nat} (hi : drpI L p = some i) : (drpL L p).length + 1 = L.length := by
 have hlt : i < L.length := by
  have := List.findIdx?_eq_some_iff_getElem.1 hi
  exact this.1
 unfold drpL; rw [hi]
 show (L.take i ++ L.drop (i + 1)).length + 1 = L.length
 rw [List.length_append, List.length_take, List.length_drop]
 omega
end
section
open Go.RowKit
def opC (o : OP) : List Value := [.string (mk o.1), .int .i64 o.2.1, .int .i64 o.2.2]
def cO (L : List OP) : List Value := L.flatMap opC
theorem zIF : cO [] = [] := rfl
theorem cO_cons (o : OP) (L : List OP) : cO (o :: L) = .string (mk o.1) :: .int .i64 o.2.1 :: .int .i64 o.2.2 :: cO L := rfl
theorem cO_app (A B : List OP) : cO (A ++ B) = cO A ++ cO B := by simp [cO]
theorem cO_len : ∀ L : List OP, (cO L).length = L.length * 3
 | [] => rfl
 | o :: L => by rw [cO_cons, List.length_cons, List.length_cons, List.length_cons, cO_len L, List.length_cons]; omega
theorem zAX : ∀ L : List OP, ∀ u ∈ cO L, u.oneCell' = true
 | [], u, h => by cases h
 | o :: L, u, h => by
  rw [cO_cons, List.mem_cons, List.mem_cons, List.mem_cons] at h
  rcases h with rfl | rfl | rfl | h
  ·rfl
  ·rfl
  ·rfl
  ·exact zAX L u h
theorem zHE : ∀ (L : List OP) (k : Nat), (cO L).take (k * 3) = cO (L.take k)
 | [], k => by simp [zIF]
 | o :: L, 0 => by simp [zIF]
 | o :: L, k + 1 => by rw [show (k + 1) * 3 = k * 3 + 1 + 1 + 1 by omega, cO_cons, List.take_succ_cons, List.take_succ_cons, List.take_succ_cons, zHE L k, List.take_succ_cons, cO_cons]
theorem zHF : ∀ (L : List OP) (k : Nat), (cO L).drop (k * 3) = cO (L.drop k)
 | [], k => by simp [zIF]
 | o :: L, 0 => by simp
 | o :: L, k + 1 => by rw [show (k + 1) * 3 = k * 3 + 1 + 1 + 1 by omega, cO_cons, List.drop_succ_cons, List.drop_succ_cons, List.drop_succ_cons, zHF L k, List.drop_succ_cons]
theorem zPo : ∀ (L : List OP) (k : Nat) (h : k < L.length), (cO L)[k * 3]? = some (.string (mk L[k].1)) ∧ (cO L)[k * 3 + 1]? = some (.int .i64 L[k].2.1) ∧ (cO L)[k * 3 + 2]? = some (.int .i64 L[k].2.2)
 | o :: L, 0, h => ⟨rfl, rfl, rfl⟩
 | o :: L, k + 1, h => by
  have ih := zPo L k (by simpa using h)
  rw [show (k + 1) * 3 = k * 3 + 1 + 1 + 1 by omega, cO_cons]
  simpa using ih
def opA (L : List OP) (k : Nat) : OP := L.getD k ([], 0, 0)
theorem zBh {L : List OP} {k : Nat} (h : k < L.length) : opA L k = L[k] := by simp [opA, List.getD, h]
theorem zBZ {L : List OP} {k : Nat} (h : k < L.length) : opA L k ∈ L := by rw [zBh h]; exact List.getElem_mem h
theorem zIG {L : List OP} {k : Nat} (h : k < L.length) : L.take (k + 1) = L.take k ++ [opA L k] := by rw [List.take_add_one, zBh h]; simp [h]
theorem zFY {L : List OP} {k : Nat} (h : k < L.length) : L.drop k = opA L k :: L.drop (k + 1) := by rw [zBh h, List.drop_eq_getElem_cons h]
abbrev OpS (w : World) (a : Option Addr) (n c : Nat) (L : List OP) : Prop := Vs 3 w a n c (cO L)
theorem OpS.len {w : World} {a : Option Addr} {n c : Nat} {L : List OP} (h : OpS w a n c L) : L.length = n := by
 have := Vs.hl h; rw [cO_len] at this; omega
theorem OpS.at3 {w : World} {b o n c : Nat} {L : List OP} (h : OpS w (some ⟨b, o, none⟩) n c L) {k : Nat} (hk : k < n) :
  w.cell? ⟨b, o + k * 3, none⟩ = some (.string (mk (opA L k).1)) ∧ w.cell? ⟨b, o + k * 3 + 1, none⟩ = some (.int .i64 (opA L k).2.1) ∧ w.cell? ⟨b, o + k * 3 + 2, none⟩ = some (.int .i64 (opA L k).2.2) := by
 have hl := OpS.len h
 have h3 := zPo L k (by omega)
 rw [zBh (by omega)]
 rw [Nat.add_assoc o (k * 3) 1, Nat.add_assoc o (k * 3) 2]
 exact ⟨(Vs.cells h (by omega) (by omega)).trans h3.1, (Vs.cells h (by omega) (by omega)).trans h3.2.1, (Vs.cells h (by omega) (by omega)).trans h3.2.2⟩
abbrev OwnO (base : Nat) (w : World) (a : Option Addr) (n c : Nat) (L : List OP) : Prop := OwnV base 38 3 w a n c (cO L)
theorem zAJ : (Tryz.prog.info? 38).map (fun i => (i.zero, i.size, i.bytes)) = some (some (.agg #[.string ByteArray.empty, .int .i64 0, .int .i64 0]), 3, 32) := by kernel_rfl
theorem op_elem : Tryz.prog.elem 30 = 38 := by kernel_rfl
def ev (a : Option Addr) (n c : Nat) (z : List Int) : Array Value := (Value.slice a n c :: rlz z).toArray
theorem zA7 {a : Option Addr} {n c : Nat} {z : List Int} (hz : z.length = 10) : (ev a n c z).size = 11 := by simp [ev, rlz, hz]
theorem zNf (a : Option Addr) (n c : Nat) (z : List Int) : (ev a n c z).all (·.oneCell') = true := by
 have := zKJ z
 rw [Array.all_eq_true_iff_forall_mem] at *
 intro v hv
 simp only [ev, List.mem_toArray, List.mem_cons] at hv
 rcases hv with rfl | hv
 ·rfl
 ·exact this v (by simpa [rv] using hv)
theorem ten {z : List Int} (hz : z.length = 10) : ∃ z0 z1 z2 z3 z4 z5 z6 z7 z8 z9, z = [z0, z1, z2, z3, z4, z5, z6, z7, z8, z9] := by
 match z, hz with
 | [z0, z1, z2, z3, z4, z5, z6, z7, z8, z9], _ => exact ⟨z0, z1, z2, z3, z4, z5, z6, z7, z8, z9, rfl⟩
theorem zB0 : (Tryz.prog.info? 34).map (·.size) = some 11 := by kernel_rfl
theorem zGN (a : Option Addr) (n c : Nat) {z : List Int} (hz : z.length = 10) (w : World) : (Instr.build 34 #[(0, .slice a n c), (1, .agg (rv z))]).run Tryz.prog w = .ok (.agg (ev a n c z)) w := by
 obtain ⟨z0, z1, z2, z3, z4, z5, z6, z7, z8, z9, rfl⟩ := ten hz
 kernel_rfl
theorem zEw {z : List Int} (hz : z.length = 10) (w : World) : (Instr.build 34 #[(1, .agg (rv z))]).run Tryz.prog w = .ok (.agg (ev none 0 0 z)) w := by
 obtain ⟨z0, z1, z2, z3, z4, z5, z6, z7, z8, z9, rfl⟩ := ten hz
 kernel_rfl
theorem zAx (w : World) : (Instr.build 34 #[]).run Tryz.prog w = .ok (.agg (ev none 0 0 z0)) w := by kernel_rfl
def EB (w : World) (b : Nat) (a : Option Addr) (n c : Nat) (z : List Int) : Prop := w.heap[b]? = some (.cells (ev a n c z) 34 (0, 0))
section
variable {w w' : World} {b B : Nat} {a : Option Addr} {n c : Nat} {z : List Int}
theorem EB.lt (h : EB w b a n c z) : b < w.heap.size := (Array.getElem?_eq_some_iff.1 h).1
theorem EB.c0 (h : EB w b a n c z) : w.cell? ⟨b, 0, none⟩ = some (.slice a n c) := (cell_of_row w b 0 _ _ _ h).trans rfl
theorem EB.frozen (h : EB w b a n c z) (j : Nat) : w.frozen? ⟨b, j, none⟩ = false := frozen_of_row w b j _ _ h
theorem EB.keep (h : EB w b a n c z) (hb : Below B w w') (hB : b < B) : EB w' b a n c z := (hb.block b hB).trans h
theorem EB.below (h : EB w b a n c z) (hb : Below w.heap.size w w') : EB w' b a n c z := h.keep hb h.lt
theorem EB.drew (h : EB w b a n c z) : EB w.drew b a n c z := h
theorem EB.alloc (h : EB w b a n c z) (o : Obj) : EB (w.alloc o) b a n c z := (Below.heap_alloc w o b h.lt).trans h
theorem EB.new (w : World) (a : Option Addr) (n c : Nat) (z : List Int) : EB (w.alloc (.cells (ev a n c z) 34)) w.heap.size a n c z := heap_alloc_new w _
theorem EB.row (h : EB w b a n c z) (a' : Option Addr) (n' c' : Nat) (z' : List Int) : EB (w.setRow b (ev a' n' c' z')) b a' n' c' z' := setRow_heap w b _ _ _ _ h
theorem EB.only (h : EB w b a n c z) {g : Nat} (hg : Only g w w') (hne : b ≠ g) : EB w' b a n c z := (hg.block b hne).trans h
theorem EB.range (h : EB w b a n c z) : w.rangeAt b 1 (rlz z) := fun j v hv => by
 rw [cell_of_row w b (1 + j) _ _ _ h]
 simpa [ev, Nat.add_comm 1 j] using hv
theorem EB.inj {a' : Option Addr} {n' c' : Nat} {z' : List Int} (h : EB w b a n c z) (h' : EB w b a' n' c' z') : a = a' ∧ n = n' ∧ c = c' := by
 have := h.c0.symm.trans h'.c0
 simp only [Option.some.injEq, Value.slice.injEq] at this
 exact this
end
theorem zD7 {ops : Array Oper} {rest : List Oper} {o : Oper} {A : Act} {w : World} {Q : Exit → Act → World → Prop} (hgd : o.guard = none) (x y : Operand) (ho : o.op = .build 34 #[(0, x), (1, y)])
  (a : Option Addr) (n c : Nat) (z : List Int) (hz : z.length = 10) (hx : A.eval x = .slice a n c) (hy : A.eval y = .agg (rv z))
  (k : wpList Tryz.prog ops Q rest (A.put o.dst (.agg (ev a n c z))) w) : wpList Tryz.prog ops Q (o :: rest) A w :=
 wpList_plain hgd fun K hK => by
  have hb := zGN a n c hz w
  unfold Oper.wp execOp
  simp only [ho, List.map_toArray, List.map_cons, List.map_nil, hx, hy, hb, Sem.run_bind, Result.andThen_ok, Sem.run_pure]
  exact hK _ _ k
theorem zAS {ops : Array Oper} {rest : List Oper} {o : Oper} {A : Act} {w : World} {Q : Exit → Act → World → Prop} (hw : Region.wanted o (yielded ops A.tmps) = true) (x : Operand) (ho : o.op = .load 34 x)
  (b : Nat) (hx : A.eval x = .pointer (some ⟨b, 0, none⟩)) (a : Option Addr) (n c : Nat) (z : List Int) (hz : z.length = 10) (h : EB w b a n c z)
  (k : wpList Tryz.prog ops Q rest (A.put o.dst (.agg (ev a n c z))) w) : wpList Tryz.prog ops Q (o :: rest) A w :=
 wpList_step fun K hK => by
  rw [if_pos hw]
  exact wp_load_row 34 x ho b hx _ _ _ _ h Tryz.underlying34 rfl (by rw [zA7 hz]; exact zB0) (hK _ _ k)
theorem zD8 {ops : Array Oper} {rest : List Oper} {o : Oper} {A : Act} {w : World} {Q : Exit → Act → World → Prop} (hw : Region.wanted o (yielded ops A.tmps) = true) (x : Operand) (ho : o.op = .load 32 x)
  (b : Nat) (hx : A.eval x = .pointer (some ⟨b, 1, none⟩)) (a : Option Addr) (n c : Nat) (z : List Int) (hz : z.length = 10) (h : EB w b a n c z)
  (k : wpList Tryz.prog ops Q rest (A.put o.dst (.agg (rv z))) w) : wpList Tryz.prog ops Q (o :: rest) A w :=
 wpList_step fun K hK => by
  rw [if_pos hw]
  exact wp_load_mid 32 x ho b 1 hx (rlz z) _ h.range Tryz.underlying32 rfl (by rw [zH7 hz]; exact zA1) (hK _ _ k)
theorem zAD {ops : Array Oper} {rest : List Oper} {o : Oper} {A : Act} {w : World} {Q : Exit → Act → World → Prop} (hgd : o.guard = none) (x y : Operand) (ho : o.op = .store 34 x y)
  (b : Nat) (hx : A.eval x = .pointer (some ⟨b, 0, none⟩)) (a' : Option Addr) (n' c' : Nat) (z' : List Int) (hy : A.eval y = .agg (ev a' n' c' z')) (hz' : z'.length = 10) (a : Option Addr) (n c : Nat) (z : List Int) (hz : z.length = 10) (h : EB w b a n c z)
  (k : ∀ w', EB w' b a' n' c' z' → Only b w w' → wpList Tryz.prog ops Q rest (A.put o.dst undef) w') : wpList Tryz.prog ops Q (o :: rest) A w :=
 wpList_store_row hgd 34 x y ho b _ hx hy _ _ h (by rw [zA7 hz']; exact zB0) (by rw [zA7 hz, zA7 hz']) (zNf a' n' c' z') (k _ (h.row a' n' c' z') (Only.ofRow w b _))
theorem zAT {ops : Array Oper} {o : Oper} {A : Act} {w : World} {K : Act → World → Prop} {Q : Exit → Act → World → Prop} {E : Prop} (hgd : o.guard = none) (x y : Operand) (ho : o.op = .store 34 x y)
  (b : Nat) (hx : A.eval x = .pointer (some ⟨b, 0, none⟩)) (a' : Option Addr) (n' c' : Nat) (z' : List Int) (hy : A.eval y = .agg (ev a' n' c' z')) (hz' : z'.length = 10) (a : Option Addr) (n c : Nat) (z : List Int) (hz : z.length = 10) (h : EB w b a n c z)
  (k : ∀ w', EB w' b a' n' c' z' → Only b w w' → K (A.put o.dst undef) w') : if Region.wanted o (yielded ops A.tmps) = true then o.wp Tryz.prog A w K Q else E := by
 rw [if_pos (show Region.wanted o (yielded ops A.tmps) = true by simp [Region.wanted, hgd])]
 exact wp_store_row 34 x y ho b _ hx hy _ _ h (by rw [zA7 hz']; exact zB0) (by rw [zA7 hz, zA7 hz']) (zNf a' n' c' z') (k _ (h.row a' n' c' z') (Only.ofRow w b _))
theorem zAh {md : Region.Mode} {ops : Array Oper} {Q : Exit → Act → World → Prop} {S : World → Prop} {fuel : Nat} {listed : Array Bool} {A : Act} {w : World} {i : Nat} {oi : Oper} (x : Operand) (hi : ops[i]? = some oi)
  (hs : Region.noSelect ops = true) (hf : Region.free md ops listed i = true) (hr : (Region.ready md ops listed).contains i = true) (a : Option Addr) (n c : Nat) (z : List Int)
  (hQ : ∀ c' a' w, Q (.panic c') (a'.put oi.dst (.agg (ev a n c z))) w → Q (.panic c') a' w) (hw : Region.wanted oi (yielded ops A.tmps) = true) (ho : oi.op = .load 34 x) (b : Nat) (hx : A.eval x = .pointer (some ⟨b, 0, none⟩))
  (hz : z.length = 10) (hS : ∀ w, S w → EB w b a n c z) (h0 : S w)
  (k : wpAnyH Tryz.prog md ops Q S fuel (listed.setIfInBounds i true) (A.put oi.dst (.agg (ev a n c z))) w) : wpAnyH Tryz.prog md ops Q S (fuel + 1) listed A w :=
 wpAnyH_take hi hs hf hr hQ (yieldsIf_load_mid hw 34 x ho b 0 hx (Value.slice a n c :: rlz z) _ (fun w h j v hv => by rw [Nat.zero_add, cell_of_row w b j _ _ _ (hS w h)]; simpa [ev] using hv) Tryz.underlying34 rfl (by rw [List.length_cons, zH7 hz]; exact zB0)) h0 k
theorem zD9 {md : Region.Mode} {ops : Array Oper} {Q : Exit → Act → World → Prop} {S : World → Prop} {fuel : Nat} {listed : Array Bool} {A : Act} {w : World} {i : Nat} {oi : Oper} (x : Operand) (hi : ops[i]? = some oi)
  (hs : Region.noSelect ops = true) (hf : Region.free md ops listed i = true) (hr : (Region.ready md ops listed).contains i = true) (z : List Int)
  (hQ : ∀ c' a' w, Q (.panic c') (a'.put oi.dst (.agg (rv z))) w → Q (.panic c') a' w) (hw : Region.wanted oi (yielded ops A.tmps) = true) (ho : oi.op = .load 32 x) (b : Nat) (hx : A.eval x = .pointer (some ⟨b, 1, none⟩))
  (hz : z.length = 10) (a : Option Addr) (n c : Nat) (hS : ∀ w, S w → EB w b a n c z) (h0 : S w)
  (k : wpAnyH Tryz.prog md ops Q S fuel (listed.setIfInBounds i true) (A.put oi.dst (.agg (rv z))) w) : wpAnyH Tryz.prog md ops Q S (fuel + 1) listed A w :=
 wpAnyH_take hi hs hf hr hQ (yieldsIf_load_mid hw 32 x ho b 1 hx (rlz z) _ (fun w h => (hS w h).range) Tryz.underlying32 rfl (by rw [zH7 hz]; exact zA1)) h0 k
theorem zBa {fn : Func} {p : Tmp} (h : fn.results = #[.cell p 34]) (tmps : Array Value) (w : World) (b : Nat) (a : Option Addr) (n c : Nat) (z : List Int) (hz : z.length = 10)
  (hp : tmps.getD p undef = .pointer (some ⟨b, 0, none⟩)) (hg : EB w b a n c z) : (results fn tmps).run Tryz.prog w = .ok (.agg (ev a n c z)) w :=
 results_cell_row h tmps w b _ _ _ _ hp hg Tryz.underlying34 rfl (by rw [zA7 hz]; exact zB0)
theorem zAb {fn : Func} {p u : Tmp} (h : fn.results = #[.cell p 34, .tmp u]) (tmps : Array Value) (w : World) (b : Nat) (a : Option Addr) (n c : Nat) (z : List Int) (hz : z.length = 10)
  (hp : tmps.getD p undef = .pointer (some ⟨b, 0, none⟩)) (hg : EB w b a n c z) : (results fn tmps).run Tryz.prog w = .ok (.tuple #[.agg (ev a n c z), tmps.getD u undef]) w :=
 zAG h tmps w b _ _ _ _ hp hg Tryz.underlying34 rfl (by rw [zA7 hz]; exact zB0)
theorem zB1 : ev none 0 0 z0 = #[.slice none 0 0, .int .i64 0, .int .i64 0, .int .i64 0, .int .i64 0, .int .i64 0, .int .i64 0, .int .i64 0, .int .i64 0, .int .i64 0, .int .i64 0] := rfl
end
section
open Go.RowKit
theorem zEA {P : Program} (w : World) (dT sT ty elem : TypeId) (k m g o dLen dCap : Nat) (a : Addr) (sLen sCap : Nat) (cur : List Value) (t : TypeId) (cs : List Value)
  (hu : P.underlying dT = some (.slice elem)) (hs : (P.info? elem).map (·.size) = some k)
  (hg : w.heap[g]? = some (.cells cur.toArray t (0, 0))) (hm : m = Nat.min sLen dLen) (hn : cs.length = m * k)
  (hsrc : ∀ j v, cs[j]? = some v → w.cell? (a.add j) = some v) (hfit : o + cs.length ≤ cur.length) (h1 : ∀ v ∈ cs, v.oneCell' = true) :
  (Builtin.copy_ #[dT, sT] ty #[.slice (some ⟨g, o, none⟩) dLen dCap, .slice (some a) sLen sCap]).run P w = .ok (goInt m) (w.setRow g (splice cur o cs).toArray) := by
 have hl := run_loadCells_list (P := P) w a cs hsrc
 have hst := run_storeCells_at P g o t cs 0 cur.toArray w hg (by simpa using hfit) h1
 cases hq : P.info? elem with
 | none => simp [hq] at hs
 | some i =>
  have hi : i.size = k := by simpa [hq] using hs
  rw [hn] at hl
  simp [Builtin.copy_, run_underlying hu, Builtin.lenOf, Builtin.firstCells, sizeOf, typeInfo, hq, hi, hl, hst, ← hm, splice]
theorem zEx {P : Program} {w : World} {ops : Array Oper} {o : Oper} {a : Act} {K : Act → World → Prop} {Q : Exit → Act → World → Prop} {E : Prop} (hgd : o.guard = none) (d s : Operand) (dT sT : TypeId)
  (ho : o.op = .call { callee := .builtin .copy, args := #[d, s], argTypes := #[dT, sT] }) (elem : TypeId) (k m : Nat) (hu : P.underlying dT = some (.slice elem)) (hsz : (P.info? elem).map (·.size) = some k)
  (g off dLen dCap : Nat) (ad : Addr) (sLen sCap : Nat) (hd : a.eval d = .slice (some ⟨g, off, none⟩) dLen dCap) (hs : a.eval s = .slice (some ad) sLen sCap)
  (cur : List Value) (t : TypeId) (hg : w.heap[g]? = some (.cells cur.toArray t (0, 0))) (cs : List Value) (hm : m = Nat.min sLen dLen) (hn : cs.length = m * k)
  (hsrc : ∀ j v, cs[j]? = some v → w.cell? (ad.add j) = some v) (hfit : off + cs.length ≤ cur.length) (h1 : ∀ v ∈ cs, v.oneCell' = true)
  (h : ∀ w', w'.heap[g]? = some (.cells (splice cur off cs).toArray t (0, 0)) → Only g w w' → K (a.put o.dst (goInt m)) w') :
  if Region.wanted o (yielded ops a.tmps) = true then Oper.wp P o a w K Q else E := by
 rw [if_pos (show Region.wanted o (yielded ops a.tmps) = true by simp [Region.wanted, hgd])]
 have hrun := zEA (P := P) w dT sT o.type elem k m g off dLen dCap ad sLen sCap cur t cs hu hsz hg hm hn hsrc hfit h1
 unfold Oper.wp
 simp [execOp, ho, resolve, invoke, builtin, hd, hs, hrun, Result.andThen]
 exact h _ (setRow_heap w g _ _ t _ hg) (Only.ofRow w g _)
theorem zDR {P : Program} (w : World) (t tn ty e : TypeId) (i : TypeInfo) (z : Value) (kn : IntKind) (ht : P.underlying t = some (.slice e)) (htn : P.underlying tn = some (.int kn)) (hi : P.info? e = some i) (hz : i.zero = some z)
  (a : Addr) (n c m : Nat) (x : Int) (hx : x = (m : Int)) (old : List Value) (hl : old.length = n * i.size) (hold : ∀ j v, old[j]? = some v → w.cell? (a.add j) = some v) (h0 : 0 < m) (hs : 0 < i.size) (hc : c < n + m) (hb : (n + m) * i.bytes ≤ 140737488355328) (h63 : (n + m : Nat) ≤ 1000000000) :
  (Builtin.append_ #[t, tn] ty #[.slice (some a) n c, .int .i64 x]).run P w =
   .ok (.slice (some ⟨w.heap.size, 0, none⟩) (n + m) (grownCap w (n + m) c e)) (w.drew.alloc (.cells (old.toArray ++ Builtin.zeroCells z.cells m ++ Builtin.zeroCells z.cells (grownCap w (n + m) c e - (n + m))) e)) := by
 subst hx
 have hn : m ≠ 0 := by omega
 have hw : IntKind.i64.wrap (m : Int) = m := by rw [IntKind.wrap_i64]; omega
 have hneg : ¬ ((m : Int) < 0) := by omega
 have hle : (n + m) * i.bytes = n * i.bytes + m * i.bytes := Nat.add_mul ..
 have h48i : ¬ (281474976710656 < (m : Int) * (i.bytes : Int)) := by
  rw [← Int.natCast_mul]; omega
 have hroom : ¬ (n + m ≤ c) := by omega
 have h63' : ¬ (9223372036854775807 < (n : Int) + (m : Int)) := by omega
 have hns : ¬ (m * i.size = 0) := Nat.mul_ne_zero hn (by omega)
 have hfit := growslice_fits (bytes := i.bytes) hc hb
 have h48' : ¬ (281474976710656 < Builtin.nextslicecap (n + m) c * i.bytes) := by omega
 have hf := run_firstCells_some (P := P) w.drew i.size n a n c old hl (by simpa using hold)
 simp [Builtin.append_, run_underlying ht, run_underlying htn, sizeOf, typeInfo, zeroValue, hi, hz, asInt, asIntOf, hw, hneg, hns, h63', h48', h48i, hroom, Question.forced, hf, newRow, grownCap]
theorem zJA {α : Type} (Z A Y W : List α) (p q : Nat) (hp : A.length = p) (hq : Y.length = q) (hZ : p + q + W.length ≤ Z.length) (hA : Z.take p = A) : (splice (splice Z p Y) (p + q) W).take (p + q + W.length) = A ++ Y ++ W := by
 subst hp; subst hq
 unfold splice
 rw [hA]
 have e : (A ++ (Y ++ Z.drop (A.length + Y.length))).take (A.length + Y.length) = A ++ Y := by
  rw [← List.append_assoc, List.take_append_of_le_length (by simp)]
  exact List.take_of_length_le (by simp)
 rw [e, ← List.append_assoc, List.take_append_of_le_length (by simp; omega)]
 exact List.take_of_length_le (by simp; omega)
theorem zHG {α : Type} (Z A Y W : List α) (p q : Nat) (hp : A.length = p) (hq : Y.length = q) (hZ : p + q + W.length ≤ Z.length) (hA : Z.take p = A) : (splice (splice Z (p + q) W) p Y).take (p + q + W.length) = A ++ Y ++ W := by
 subst hp; subst hq
 unfold splice
 have e1 : (Z.take (A.length + Y.length) ++ (W ++ Z.drop (A.length + Y.length + W.length))).take A.length = A := by
  rw [List.take_append_of_le_length (by rw [List.length_take]; omega), List.take_take, Nat.min_eq_left (by omega), hA]
 have e2 : (Z.take (A.length + Y.length) ++ (W ++ Z.drop (A.length + Y.length + W.length))).drop (A.length + Y.length) = W ++ Z.drop (A.length + Y.length + W.length) := by
  rw [List.drop_append_of_le_length (by rw [List.length_take]; omega), List.drop_of_length_le (by rw [List.length_take]; omega), List.nil_append]
 rw [e1, e2, ← List.append_assoc, ← List.append_assoc, List.take_append_of_le_length (by simp; omega)]
 exact List.take_of_length_le (by simp; omega)
set_option maxRecDepth 20000 in
set_option maxHeartbeats 1000000 in
theorem zEB (a : Option Addr) (n c : Nat) (L : List OP) (w : World) (h : OpS w a n c L) (hsz : n ≤ 1000000) :
  Calls Tryz.prog 47 #[.slice a n c] w fun e w' => ∃ a' c', e = .returned (.slice a' n c') ∧ OwnO w.heap.size w' a' n c' L ∧ Below w.heap.size w w' := by
 have hcm := h.cm
 have hlc := h.lc
 unfold maxLen at hcm
 have H := hid h
 have hnn : (binOp .eql 30 (.slice a n c) (.slice none 0 0)).run Tryz.prog w = .ok (.bool a.isNone) w := by
  unfold binOp
  simp [run_equal_slice_nil w 30 38 a n c Tryz.underlying30]
 cases a with
 | none =>
  have h0 : n = 0 := by
   rcases Nat.eq_zero_or_pos n with h0 | h0
   ·exact h0
   ·obtain ⟨b, o, ha, _⟩ := h.at_ h0; cases ha
  have hL : L = [] := List.eq_nil_of_length_eq_zero (by rw [OpS.len h, h0])
  subst h0; subst hL
  clear h
  go_enter Tryz.func47, Tryz.ntmps47
  go_wp2
  go_ret
  exact ⟨_, _, rfl, OwnV.none0, Below.refl _ _⟩
 | some ad =>
  clear h
  go_enter Tryz.func47, Tryz.ntmps47
  go_wp2_with (at_builtin; refine Hid.out ?_)
  refine hid ?_
  refine zAL rfl (.tmp 5) (.tmp 6) 30 rfl 38 w.heap.size 3 32 _ Tryz.underlying30 zAJ rfl (by omega) _ 0 _ [] rfl (OwnV.emptyAt (heap_alloc_new w _) (Nat.le_refl _)) _ _ _ (cO L) rfl (H.out.below ((Below.refl _ _).alloc (Nat.le_refl _) _)) (zAX L) (by unfold maxLen; omega) (by omega) (by simp) ?_
  intro a2 c2 w2 ho2 hg2 hb2 _
  rw [Nat.zero_add, List.nil_append] at ho2
  rw [Nat.zero_add]
  have HO2 := hid ho2
  have HB2 : Hid (Below w.heap.size w w2) := hid (((Below.refl _ _).alloc (Nat.le_refl _) _).trans hb2)
  clear ho2 hg2 hb2
  go_wp2
  go_ret
  exact ⟨_, _, rfl, HO2.out, HB2.out⟩
end
section
open Go.RowKit
def prt (p : Nm) : List Nm := (ofR p).1.P
theorem zMR {p : Nm} {s : SH} (h : ofS p = some s) : prt p = s.P := by unfold prt; rw [zAl h]
theorem zMS {p : Nm} (h : ofS p = none) : prt p = [] := by unfold prt; rw [zAZ h]
theorem zOW (p : Nm) : (prt p).length ≤ 4 := by
 cases h : ofS p with
 | none => rw [zMS h]; exact Nat.zero_le _
 | some s =>
  rw [zMR h]
  unfold ofS at h
  split at h
  ·rename_i h2
   obtain rfl := Option.some.inj h
   apply Decidable.byContradiction
   intro h3
   have := zFN (s := rd p) (by omega)
   rw [this] at h2
   exact absurd h2.2 (by decide)
  ·cases h
set_option maxRecDepth 20000 in
set_option maxHeartbeats 4000000 in
theorem zKV (p : Nm) (g a : Int) (w : World) (ht : Tab w) (hsz : p.length ≤ 1000000) :
  Calls Tryz.prog 58 #[.agg #[.string (mk p), .int .i64 g, .int .i64 a]] w fun e w' => ∃ a n c, e = .returned (.slice a n c) ∧ Ss w' a n c (prt p) ∧ Below w.heap.size w w' := by
 obtain ⟨B, hB⟩ : ∃ B, B = w.heap.size := ⟨_, rfl⟩
 obtain ⟨w1, hw1⟩ : ∃ w1, w1 = w.alloc (.cells #[.string (mk p), .int .i64 g, .int .i64 a] 38) := ⟨_, rfl⟩
 have HX1 : Hid (w1.heap[B]? = some (.cells #[.string (mk p), .int .i64 g, .int .i64 a] 38 (0, 0))) := hid (by rw [hw1, hB]; exact heap_alloc_new w _)
 have HB1 : Hid (Below w.heap.size w w1) := hid (by rw [hw1]; exact (Below.refl _ _).alloc (Nat.le_refl _) _)
 have HT1 : Hid (Tab w1) := hid (ht.keep HB1.out)
 have HOF : Hid (∀ w, Tab w → Calls Tryz.prog 85 #[.string (mk p)] w fun e w' => ∃ a n c, e = .returned (shV a n c (ofR p)) ∧ Ss w' a n c (prt p) ∧ Below w.heap.size w w') := hid fun w h => zFP p w h hsz
 clear ht
 obtain ⟨⟨x0, x1, x2⟩, _⟩ := three HX1.out
 obtain ⟨s, l, r, k, hR⟩ : ∃ P l r k, ofR p = (⟨P, l, r⟩, k) := ⟨_, _, _, _, rfl⟩
 have HP : Hid (prt p = s) := hid (by unfold prt; rw [hR])
 have HK : Hid (k ≠ 0 → s = []) := hid (fun h => by
  unfold ofR at hR
  cases hO : ofS p with
  | none => rw [hO] at hR; simp only [Prod.mk.injEq, SH.mk.injEq] at hR; exact hR.1.1.symm
  | some x => rw [hO] at hR; simp only [Prod.mk.injEq] at hR; exact absurd hR.2.symm h)
 rw [hR] at HOF
 simp only [shV] at HOF
 clear hR
 go_enter Tryz.func58, Tryz.ntmps58
 go_wp2_with fail
 rw [← hw1, ← hB]
 clear hw1 hB
 refine (HOF.out w1 HT1.out).mono ?_
 rintro e w2 ⟨sa, sn, sc, rfl, hs, hb2⟩
 have HS := hid (hs.below ((Below.refl _ w2).alloc (Nat.le_refl _) (.cells #[.slice sa sn sc, .bool l, .bool r] 157)))
 have HB2 : Hid (Below w.heap.size w (w2.alloc (.cells #[.slice sa sn sc, .bool l, .bool r] 157))) := hid ((HB1.out.trans (hb2.mono HB1.out.size)).alloc (by have := HB1.out.size; have := hb2.size; omega) _)
 obtain ⟨⟨z0, z1, z2⟩, _⟩ := three (heap_alloc_new w2 (.cells #[.slice sa sn sc, .bool l, .bool r] 157))
 clear hs hb2 x0 x1 x2
 by_cases hk : k = 0
 ·subst hk
  go_wp2
  go_ret
  exact ⟨_, _, _, rfl, HS.out, HB2.out⟩
 ·have HN := hid (HK.out hk)
  go_wp2
  go_ret
  exact ⟨_, _, _, rfl, by rw [HP.out, HN.out]; exact Vs.nil _ _ _ _ (Nat.zero_le _), HB2.out⟩
set_option maxRecDepth 20000 in
theorem zJB (a : Option Addr) (n c : Nat) (P : List Nm) (x : Nm) (w : World) (h : Ss w a n c P) (hsz : n ≤ 1000000) :
  Calls Tryz.prog 107 #[.slice a n c, .string (mk x)] w fun e w' => ∃ v : Int, e = .returned (.int .i64 v) ∧ (0 ≤ v ↔ x ∈ P) ∧ w = w' := by
 have HL := hid (Ss.len h)
 have H := hid h
 have hlc := h.lc
 have hcm := h.cm
 unfold maxLen at hcm
 have hx := mk_toList x
 clear h
 go_enter Tryz.func107, Tryz.ntmps107
 go_wp2
 go_loopw [8] (fun v wr => ∃ k : Nat, v = .int .i64 k ∧ k ≤ n ∧ Hid (∀ j, j < k → pt P j ≠ x) ∧ wr = w) (fun v _ => n - (intOf v).toNat)
 case atStart => exact ⟨0, rfl, by omega, hid fun j hj => by omega, rfl⟩
 case round =>
  obtain ⟨k, rfl, hk, HN, rfl⟩ := hrel
  by_cases hlt : k < n
  ·obtain ⟨b, o, rfl, _, hc⟩ := H.out.at_ (by omega)
   clear hc
   have c0 := Ss.str H.out hlt
   have hp := mk_toList (pt P k)
   obtain ⟨q, hq⟩ : ∃ q, q = pt P k := ⟨_, rfl⟩
   rw [← hq] at c0 hp
   have HQ := hid hq
   clear hq
   cases he : (x == q) with
   | true =>
    have HE := hid he
    go_wp2
    go_ret
    exact ⟨_, rfl, ⟨fun _ => by rw [eq_of_beq HE.out, HQ.out]; exact zDO (by rw [HL.out]; exact hlt), fun _ => by omega⟩, rfl⟩
   | false =>
    have HN1 : Hid (∀ j, j < k + 1 → pt P j ≠ x) := hid fun j hj => by
     by_cases hjk : j = k
     ·subst hjk; rw [← HQ.out]; exact (beq_eq_false_iff_ne.1 he).symm
     ·exact HN.out j (by omega)
    go_wp2
    go_roundw
    case rel => exact ⟨k + 1, by go_num, by omega, HN1, trivial⟩
    case measure => simp [intOf]; omega
  ·go_wp2
   go_ret
   refine ⟨_, rfl, ⟨fun h => absurd h (by decide), fun hm => ?_⟩, rfl⟩
   obtain ⟨j, hj, e⟩ := List.mem_iff_getElem.1 hm
   refine absurd ?_ (HN.out j (by rw [HL.out] at hj; omega))
   unfold pt; rw [← e]; simp [List.getD, hj]
set_option maxRecDepth 20000 in
theorem zFZ (a : Option Addr) (n c : Nat) (P : List Nm) (x : Nm) (w : World) (h : Ss w a n c P) (hsz : n ≤ 1000000) :
  Calls Tryz.prog 57 #[.slice a n c, .string (mk x)] w fun e w' => e = .returned (.bool (P.contains x)) ∧ w = w' := by
 have H := hid h
 clear h
 go_enter Tryz.func57, Tryz.ntmps57
 go_wp2_with fail
 refine (zJB a n c P x w H.out hsz).mono ?_
 rintro e w1 ⟨v, rfl, hv, rfl⟩
 have HV : Hid (decide (0 ≤ v) = P.contains x) := hid (by rw [Bool.eq_iff_iff, decide_eq_true_eq, hv]; simp)
 clear hv
 go_wp2
 go_ret
 exact ⟨by rw [← HV.out]; rfl, rfl⟩
def rowV (z : List Int) (g : Int) : Int := if 0 ≤ g ∧ g < 10 then bt z g.toNat else 0
set_option maxRecDepth 20000 in
theorem zOX (z : List Int) (hz : z.length = 10) (g : Int) (w : World) :
  Calls Tryz.prog 59 #[.agg (rv z), .int .i64 g] w fun e w' => e = .returned (.int .i64 (rowV z g)) ∧ w' = w.alloc (.cells (rv z) 32) := by
 by_cases h0 : g < 0
 ·have HE : Hid (rowV z g = 0) := hid (if_neg (by omega))
  go_enter Tryz.func59, Tryz.ntmps59
  go_wp2
  go_ret
  exact ⟨by rw [HE.out]; rfl, rfl⟩
 by_cases h1 : 10 ≤ g
 ·have HE : Hid (rowV z g = 0) := hid (if_neg (by omega))
  go_enter Tryz.func59, Tryz.ntmps59
  go_wp2
  go_ret
  exact ⟨by rw [HE.out]; rfl, rfl⟩
 ·obtain ⟨k, rfl⟩ : ∃ k : Nat, g = (k : Int) := ⟨g.toNat, by omega⟩
  have HE : Hid (rowV z (k : Int) = bt z k) := hid (if_pos ⟨by omega, by omega⟩)
  have hk : k < 10 := by omega
  have hc := (RB.new w z).cell hz hk
  go_enter Tryz.func59, Tryz.ntmps59
  go_wp2
  go_ret
  exact ⟨by rw [HE.out]; rfl, rfl⟩
set_option maxRecDepth 20000 in
theorem zKW (w : World) : Calls Tryz.prog 23 #[] w fun e w' => e = .returned (.agg (ev none 0 0 zS)) ∧ Below w.heap.size w w' := by
 obtain ⟨w0, hw0⟩ : ∃ w0, w0 = w.alloc (.cells #[.slice none 0 0, .int .i64 0, .int .i64 0, .int .i64 0, .int .i64 0, .int .i64 0, .int .i64 0, .int .i64 0, .int .i64 0, .int .i64 0, .int .i64 0] 34) := ⟨_, rfl⟩
 obtain ⟨B, hB⟩ : ∃ B, B = w.heap.size := ⟨_, rfl⟩
 have HE0 : Hid (EB w0 B none 0 0 z0) := hid (by rw [hw0, hB, ← zB1]; exact EB.new w none 0 0 z0)
 have HB0 : Hid (Below B w w0) := hid (by rw [hw0, hB]; exact (Below.refl _ _).alloc (Nat.le_refl _) _)
 have HS : Hid (B < w0.heap.size) := hid HE0.out.lt
 have HBB := hid hB
 have hbu : ∀ w, (Instr.build 34 #[(1, .agg (rv zS))]).run Tryz.prog w = .ok (.agg (ev none 0 0 zS)) w := fun w => zEw rfl w
 go_enter Tryz.func23, Tryz.ntmps23
 go_wp2_with fail
 rw [← hw0, ← hB]
 clear hw0 hB
 refine (zKN w0).mono ?_
 rintro e w1 ⟨rfl, hb1⟩
 have HE1 := hid (HE0.out.below hb1)
 have HB1 := hid (HB0.out.trans (hb1.mono (Nat.le_of_lt HS.out)))
 clear hb1
 go_wp2_with (refine zAD rfl (.tmp 0) (.tmp 2) rfl B rfl none 0 0 zS rfl rfl none 0 0 z0 zAF HE1.out ?_; intro w2 he2 ho2; have HE2 := hid he2; have HO2 := hid ho2; clear he2 ho2)
 exact bodyPost_ret (zBa rfl _ _ B none 0 0 zS rfl rfl HE2.out) rfl ⟨rfl, by rw [← HBB.out]; exact HB1.out.trans (HO2.out.below (Nat.le_refl _))⟩
end
section
open Go.RowKit
abbrev EN := OP × Int
def enC (x : EN) : List Value := [.string (mk x.1.1), .int .i64 x.1.2.1, .int .i64 x.1.2.2, .int .i64 x.2]
def cE (E : List EN) : List Value := E.flatMap enC
theorem zPp (A B : List EN) : cE (A ++ B) = cE A ++ cE B := by simp [cE]
theorem zHH (x : EN) (E : List EN) : cE (x :: E) = .string (mk x.1.1) :: .int .i64 x.1.2.1 :: .int .i64 x.1.2.2 :: .int .i64 x.2 :: cE E := rfl
theorem zNg : ∀ E : List EN, (cE E).length = E.length * 4
 | [] => rfl
 | x :: E => by rw [zHH, List.length_cons, List.length_cons, List.length_cons, List.length_cons, zNg E, List.length_cons]; omega
theorem zNh : ∀ E : List EN, ∀ u ∈ cE E, u.oneCell' = true
 | [], u, h => by cases h
 | x :: E, u, h => by
  rw [zHH, List.mem_cons, List.mem_cons, List.mem_cons, List.mem_cons] at h
  rcases h with rfl | rfl | rfl | rfl | h
  ·rfl
  ·rfl
  ·rfl
  ·rfl
  ·exact zNh E u h
theorem zPq : ∀ (E : List EN) (k : Nat) (h : k < E.length), (cE E)[k * 4]? = some (.string (mk E[k].1.1)) ∧ (cE E)[k * 4 + 1]? = some (.int .i64 E[k].1.2.1) ∧ (cE E)[k * 4 + 2]? = some (.int .i64 E[k].1.2.2) ∧ (cE E)[k * 4 + 3]? = some (.int .i64 E[k].2)
 | x :: E, 0, h => ⟨rfl, rfl, rfl, rfl⟩
 | x :: E, k + 1, h => by
  have ih := zPq E k (by simpa using h)
  rw [show (k + 1) * 4 = k * 4 + 1 + 1 + 1 + 1 by omega, zHH]
  simpa using ih
def enA (E : List EN) (k : Nat) : EN := E.getD k (([], 0, 0), 0)
theorem zKX {E : List EN} {k : Nat} (h : k < E.length) : enA E k = E[k] := by simp [enA, List.getD, h]
abbrev Ens (w : World) (a : Option Addr) (n c : Nat) (E : List EN) : Prop := Vs 4 w a n c (cE E)
theorem Ens.len {w : World} {a : Option Addr} {n c : Nat} {E : List EN} (h : Ens w a n c E) : E.length = n := by
 have := Vs.hl h; rw [zNg] at this; omega
theorem Ens.at4 {w : World} {b o n c : Nat} {E : List EN} (h : Ens w (some ⟨b, o, none⟩) n c E) {k : Nat} (hk : k < n) :
  w.cell? ⟨b, o + k * 4, none⟩ = some (.string (mk (enA E k).1.1)) ∧ w.cell? ⟨b, o + k * 4 + 1, none⟩ = some (.int .i64 (enA E k).1.2.1) ∧ w.cell? ⟨b, o + k * 4 + 2, none⟩ = some (.int .i64 (enA E k).1.2.2) ∧ w.cell? ⟨b, o + k * 4 + 3, none⟩ = some (.int .i64 (enA E k).2) := by
 have hl := Ens.len h
 have h3 := zPq E k (by omega)
 rw [zKX (by omega)]
 rw [Nat.add_assoc o (k * 4) 1, Nat.add_assoc o (k * 4) 2, Nat.add_assoc o (k * 4) 3]
 exact ⟨(Vs.cells h (by omega) (by omega)).trans h3.1, (Vs.cells h (by omega) (by omega)).trans h3.2.1, (Vs.cells h (by omega) (by omega)).trans h3.2.2.1, (Vs.cells h (by omega) (by omega)).trans h3.2.2.2⟩
theorem zOY : (Tryz.prog.info? 72).map (fun i => (i.zero, i.size, i.bytes)) = some (some (.agg #[.string ByteArray.empty, .int .i64 0, .int .i64 0, .int .i64 0]), 4, 40) := by kernel_rfl
def hasP (x : Nm) (o : OP) : Bool := (prt o.1).contains x
def entL (L : List OP) (z : List Int) (x : Nm) : List EN := (L.filter (hasP x)).map fun o => (o, rowV z o.2.1)
theorem zKY {L : List OP} {k : Nat} (h : k < L.length) (z : List Int) (x : Nm) : entL (L.take (k + 1)) z x = entL (L.take k) z x ++ (if hasP x (opA L k) = true then [(opA L k, rowV z (opA L k).2.1)] else []) := by
 unfold entL
 rw [zIG h, List.filter_append, List.map_append]
 congr 1
 split <;> simp_all
theorem zDc (L : List OP) (z : List Int) (x : Nm) : (entL L z x).length ≤ L.length := by
 unfold entL; rw [List.length_map]; exact List.length_filter_le ..
def D3 (w : World) (D : Nat) (o : OP) : Prop := w.heap[D]? = some (.cells #[.string (mk o.1), .int .i64 o.2.1, .int .i64 o.2.2] 38 (0, 0))
theorem D3.below {w w' : World} {D : Nat} {o : OP} (h : D3 w D o) (hb : Below w.heap.size w w') : D3 w' D o := (hb.block D (Array.getElem?_eq_some_iff.1 h).1).trans h
theorem D3.cells {w : World} {D : Nat} {o : OP} (h : D3 w D o) : w.cell? ⟨D, 0, none⟩ = some (.string (mk o.1)) ∧ w.cell? ⟨D, 1, none⟩ = some (.int .i64 o.2.1) ∧ w.cell? ⟨D, 2, none⟩ = some (.int .i64 o.2.2) := (three h).1
theorem D3.new (w : World) (o : OP) : D3 (w.alloc (.cells #[.string (mk o.1), .int .i64 o.2.1, .int .i64 o.2.2] 38)) w.heap.size o := heap_alloc_new w _
theorem D3.grown {w w' : World} {D base : Nat} {o : OP} {e : TypeId} {k n c : Nat} {a : Option Addr} {xs : List Value} (h : D3 w D o) (hO : OwnV base e k w a n c xs) (he : e ≠ 38) (hg : w.grownBy w' (Value.ownBlock (.slice a n c))) : D3 w' D o := by
 refine (hg.block D (Array.getElem?_eq_some_iff.1 h).1 fun e2 => ?_).trans h
 cases a with
 | none => simp [Value.ownBlock] at e2
 | some ad =>
  obtain ⟨g, cur, ha, _, _, hb, _⟩ := hO.form (by simp)
  obtain rfl := Option.some.inj ha
  have e3 : D = g := by simpa [Value.ownBlock] using e2
  subst e3
  unfold D3 at h
  rw [hb] at h
  simp only [Option.some.injEq, Obj.cells.injEq] at h
  exact he h.2.1
theorem zAA (w : World) (o : Obj) : Below w.heap.size w (w.alloc o) := (Below.refl _ _).alloc (Nat.le_refl _) _
theorem zMT {w : World} {B : Nat} {a : Option Addr} {n c : Nat} {z : List Int} {D : Nat} {o : OP} (h : EB w B a n c z) (h2 : D3 w D o) : (EB w B a n c z ∧ D3 w D o) ∧ w.cell? ⟨D, 0, none⟩ = some (.string (mk o.1)) ∧ w.cell? ⟨D, 1, none⟩ = some (.int .i64 o.2.1) ∧ w.cell? ⟨D, 2, none⟩ = some (.int .i64 o.2.2) := ⟨⟨h, h2⟩, h2.cells⟩
set_option maxRecDepth 20000 in
set_option maxHeartbeats 4000000 in
theorem zEC (a : Option Addr) (n c : Nat) (L : List OP) (z : List Int) (x : Nm) (w : World) (ht : Tab w) (h : OpS w a n c L) (hz : z.length = 10) (hn : n ≤ 1000000) (hp : ∀ o ∈ L, o.1.length ≤ 1000000) :
  Calls Tryz.prog 35 #[.agg (ev a n c z), .string (mk x)] w fun e w' => ∃ a' c', e = .returned (.slice a' (entL L z x).length c') ∧ Ens w' a' (entL L z x).length c' (entL L z x) ∧ Below w.heap.size w w' := by
 have hlc := h.lc
 have hcm := h.cm
 unfold maxLen at hcm
 obtain ⟨B, hB⟩ : ∃ B, B = w.heap.size := ⟨_, rfl⟩
 obtain ⟨w0, hw0⟩ : ∃ w0, w0 = w.alloc (.cells (ev a n c z) 34) := ⟨_, rfl⟩
 have HE0 : Hid (EB w0 B a n c z) := hid (by rw [hw0, hB]; exact EB.new w a n c z)
 have HB0 : Hid (Below B w w0) := hid (by rw [hw0, hB]; exact zAA w _)
 have HT : Hid (Tab w) := hid ht
 have H0 : Hid (OpS w0 a n c L) := hid (h.below (by rw [← hB]; exact HB0.out))
 have HL := hid (OpS.len h)
 have HZ := hid hz
 have HP := hid hp
 have HBB := hid hB
 have hS : B < w0.heap.size := HE0.out.lt
 have HS := hid hS
 have e0 := (EB.new w a n c z).c0
 clear ht h hz hp hS
 go_enter Tryz.func35, Tryz.ntmps35
 go_wp2
 rw [← hw0, ← hB]
 clear hw0 hB e0
 go_loopw [5, 11] (fun u v wr => ∃ a3, ∃ m q k : Nat, u = .slice a3 m q ∧ v = .int .i64 k ∧ k ≤ n ∧ Hid ((entL (L.take k) z x).length = m) ∧ Hid (OwnV w0.heap.size 72 4 wr a3 m q (cE (entL (L.take k) z x))) ∧ Hid (Below w0.heap.size w0 wr)) (fun _ v _ => n - (intOf v).toNat)
 case atStart => exact ⟨_, 0, 0, 0, rfl, rfl, by omega, hid rfl, hid OwnV.none0, hid (Below.refl _ _)⟩
 case round =>
  obtain ⟨a3, m, q, k, rfl, rfl, hk, HM, HO, HB⟩ := hrel
  by_cases hlt : k < n
  ·have hs := H0.out.below HB.out
   obtain ⟨b, off, rfl, _, hc⟩ := hs.at_ (by omega)
   clear hc
   obtain ⟨c0, c1, c2⟩ := OpS.at3 hs hlt
   have HSN := hid (zKY (L := L) (k := k) (by rw [HL.out]; exact hlt) z x)
   have HML : Hid (m ≤ k) := hid (by rw [← HM.out]; exact Nat.le_trans (zDc ..) (by rw [List.length_take]; omega))
   obtain ⟨o, ho⟩ : ∃ o, o = opA L k := ⟨_, rfl⟩
   have HPo : Hid (o.1.length ≤ 1000000) := hid (by rw [ho]; exact HP.out _ (zBZ (by rw [HL.out]; exact hlt)))
   rw [← ho] at c0 c1 c2 HSN
   clear hs ho
   obtain ⟨p, g, s⟩ := o
   dsimp only at c0 c1 c2
   obtain ⟨w1, hw1⟩ : ∃ w1, w1 = wr.alloc (.cells #[.string (mk p), .int .i64 g, .int .i64 s] 38) := ⟨_, rfl⟩
   obtain ⟨D, hD⟩ : ∃ D, D = wr.heap.size := ⟨_, rfl⟩
   have HD1 : Hid (D3 w1 D (p, g, s)) := hid (by rw [hw1, hD]; exact D3.new wr (p, g, s))
   have HB1 : Hid (Below w0.heap.size w0 w1) := hid (by rw [hw1]; exact HB.out.alloc HB.out.size _)
   have HO1 : Hid (OwnV w0.heap.size 72 4 w1 a3 m q (cE (entL (L.take k) z x))) := hid (by rw [hw1]; exact HO.out.alloc _)
   have HT1 : Hid (Tab w1) := hid ((HT.out.keep (HBB.out ▸ HB0.out)).keep HB1.out)
   have HGD : Hid (w0.heap.size ≤ D) := hid (by rw [hD]; exact HB.out.size)
   obtain ⟨d0, d1, d2⟩ := HD1.out.cells
   dsimp only at d0 d1 d2
   go_wp2_with fail
   rw [← hw1, ← hD]
   clear hw1 hD c0 c1 c2
   refine (zKV p g s w1 HT1.out HPo.out).mono ?_
   rintro e w2 ⟨sa, sn, sc, rfl, hps, hb2⟩
   have HD2 := hid (HD1.out.below hb2)
   have HB2 := hid (HB1.out.trans (hb2.mono HB1.out.size))
   have HO2 : Hid (OwnV w0.heap.size 72 4 w2 a3 m q (cE (entL (L.take k) z x))) := hid (HO1.out.keep hb2 (Nat.le_refl _))
   have HSP := hid hps
   clear hps hb2 d0 d1 d2
   go_wp2_with fail
   refine (zFZ sa sn sc (prt p) x w2 HSP.out (by have := Ss.len HSP.out; have := zOW p; omega)).mono ?_
   rintro e w3 ⟨rfl, rfl⟩
   cases hh : (prt p).contains x with
   | false =>
    have HN : Hid (entL (L.take (k + 1)) z x = entL (L.take k) z x) := hid (by rw [HSN.out, if_neg (by unfold hasP; rw [hh]; decide), List.append_nil])
    go_wp2
    go_roundw
    case rel => exact ⟨a3, m, q, k + 1, rfl, by go_num, by omega, by rw [HN.out]; exact HM, by rw [HN.out]; exact HO2, HB2⟩
    case measure => simp [intOf]; omega
   | true =>
    have HN : Hid (entL (L.take (k + 1)) z x = entL (L.take k) z x ++ [((p, g, s), rowV z g)]) := hid (by rw [HSN.out, if_pos (by unfold hasP; exact hh)])
    clear hh
    have HE2 := hid (HE0.out.below HB2.out)
    go_wp2_with fail
    refine wp_region_noPanic ?_
    refine wp_region_held_drew (S := fun w' => (EB w' B (some ⟨b, off, none⟩) n c z ∧ D3 w' D (p, g, s)) ∧ w'.cell? ⟨D, 0, none⟩ = some (.string (mk p)) ∧ w'.cell? ⟨D, 1, none⟩ = some (.int .i64 g) ∧ w'.cell? ⟨D, 2, none⟩ = some (.int .i64 s)) (by kernel_rfl) (zMT HE2.out HD2.out) (fun hHeld => ?_)
    refine zG 0 rfl ?_
    try simp only [Act.put, aS, aZ, aC]
    refine zG 1 rfl ?_
    try simp only [Act.put, aS, aZ, aC]
    refine zG 2 rfl ?_
    try simp only [Act.put, aS, aZ, aC]
    refine zD9 (i := 3) (oi := { dst := some 22, op := Op.load 32 (Operand.tmp 21), type := 32, pos := "env.go:70", after := #[{ on := 2, ground := Ground.data }], guard := none }) (Operand.tmp 21) rfl (by kernel_rfl) (by kernel_rfl) (by kernel_rfl) (z) (fun _ _ _ h => h) (by rfl) rfl (B) rfl (HZ.out) _ _ _ (fun _ h => h.1.1) (by assumption) ?_
    try simp only [Act.put, aS, aZ, aC]
    refine zG 4 rfl ?_
    try simp only [Act.put, aS, aZ, aC]
    refine zG 5 rfl ?_
    try simp only [Act.put, aS, aZ, aC]
    refine zR [6] ?_
    refine hDo rfl (fun K hK => ?_) ?_
    ·go_simp
     (go_at_call 59; (with_reducible refine (zOX z HZ.out g _).mono ?_); rintro e w4 ⟨rfl, hw4⟩)
     have hb4 : Below w2.heap.size w2 w4 := by rw [hw4]; exact (Below.refl _ _).drew.alloc (by simp) _
     have HK4 := hid hb4
     have HB4 := hid (HB2.out.trans (hb4.mono HB2.out.size))
     have HO4 : Hid (OwnV w0.heap.size 72 4 w4 a3 m q (cE (entL (L.take k) z x))) := hid (HO2.out.keep hb4 (Nat.le_refl _))
     clear hb4 hw4
     refine hK.out _ _ (zMT (HE2.out.below HK4.out) (HD2.out.below HK4.out)) (fun hHeld => ?_)
     clear hK K
     try simp only [Act.put, aS, aZ, aC]
     refine zG 7 rfl ?_
     try simp only [Act.put, aS, aZ, aC]
     refine zR [8] ?_
     refine hDo rfl (fun K hK => ?_) ?_
     ·go_simp
      refine hK.out _ _ (zMT ((HE2.out.below HK4.out).alloc _) ((HD2.out.below HK4.out).below (zAA _ _))) (fun hHeld => ?_)
      clear hK K
      try simp only [Act.put, aS, aZ, aC]
      refine zR [9] ?_
      refine hDo rfl (fun K hK => ?_) ?_
      ·refine zAH rfl (.tmp 19) (.tmp 27) 70 rfl 72 w0.heap.size 4 40 _ Tryz.underlying70 zOY rfl (by omega) _ m _ (cE (entL (L.take k) z x)) rfl (HO4.out.alloc _) _ 1 _ (cE [((p, g, s), rowV z g)]) rfl (Vs.lit (k := 4) (xs := cE [((p, g, s), rowV z g)]) _ _ rfl rfl rfl) (zNh _) (by unfold maxLen; have := HML.out; omega) (by have := HML.out; omega) (Nat.le_trans HB4.out.size (by simp)) ?_
       intro a6 c6 w6 ho6 hg6 hb6 _
       have HO5 := hid ho6
       have HB6 := hid ((HB4.out.alloc HB4.out.size _).trans hb6)
       have HKE := hid (((HE2.out.below HK4.out).alloc (.cells #[.string (mk p), .int .i64 g, .int .i64 s, .int .i64 (rowV z g)] 72)).keep hb6 HS.out)
       have hkd : D3 w6 D (p, g, s) := ((HD2.out.below HK4.out).below (zAA _ _)).grown (HO4.out.alloc _) (by decide) hg6
       have HKD := hid hkd
       clear ho6 hg6 hb6 hkd
       refine hK.out _ _ (zMT HKE.out HKD.out) (fun hHeld => ?_)
       clear hK K
       try simp only [Act.put, aS, aZ, aC]
       refine zG 10 rfl ?_
       try simp only [Act.put, aS, aZ, aC]
       refine wpAnyH_done (by kernel_rfl) ?_ _
       refine NoPanic.normal ?_
       have HN6 : Hid ((entL (L.take (k + 1)) z x).length = m + 1) := hid (by rw [HN.out, List.length_append, HM.out]; rfl)
       have HO6 : Hid (OwnV w0.heap.size 72 4 w6 a6 (m + 1) c6 (cE (entL (L.take (k + 1)) z x))) := hid (by rw [HN.out, zPp]; exact HO5.out)
       go_wp2
       go_roundw
       case rel => exact ⟨_, m + 1, _, k + 1, rfl, by go_num, by omega, HN6, HO6, HB6⟩
       case measure => simp [intOf]; omega
      ·exact AllReadyH.nil
     ·exact AllReadyH.nil
    ·exact AllReadyH.nil
  ·have HA : Hid (L.take k = L) := hid (List.take_of_length_le (by rw [HL.out]; omega))
   rw [HA.out] at HM HO
   have HBE : Hid (Below w.heap.size w wr) := hid (by rw [← HBB.out]; exact HB0.out.trans (HB.out.mono (Nat.le_of_lt HS.out)))
   go_wp2
   go_ret
   refine ⟨_, _, by rw [HM.out]; rfl, ?_, HBE.out⟩
   rw [HM.out]; exact HO.out.vs
end
end Go.Proofs.YtcjbhdgjcpnklaaGreatDoor
