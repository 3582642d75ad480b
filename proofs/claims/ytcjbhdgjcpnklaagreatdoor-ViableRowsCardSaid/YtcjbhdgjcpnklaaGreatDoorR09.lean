import Derived.Test.YtcjbhdgjcpnklaaGreatDoorR06
import Derived.Test.YtcjbhdgjcpnklaaGreatDoorR07
import Derived.Test.YtcjbhdgjcpnklaaGreatDoorR08
namespace Go.Proofs.YtcjbhdgjcpnklaaGreatDoor
section
open Go.RowKit
inductive Cn (P : List ND → Prop) : Nat → List ND → Prop
 | none : (∀ u, ¬ P u) → Cn P 0 []
 | one {t : List ND} : P t → (∀ u, P u → u = t) → Cn P 1 t
 | two {u v : List ND} : u ≠ v → P u → P v → Cn P 2 []
theorem Cn.congr {P Q : List ND → Prop} {n : Nat} {t : List ND} (h : Cn P n t) (e : ∀ u, P u ↔ Q u) : Cn Q n t := by
 cases h with
 | none h => exact .none fun u hu => h u ((e u).2 hu)
 | one h1 h2 => exact .one ((e _).1 h1) fun u hu => h2 u ((e u).2 hu)
 | two h h1 h2 => exact .two h ((e _).1 h1) ((e _).1 h2)
theorem Cn.mono {P Q : List ND → Prop} {n : Nat} {t : List ND} (h : Cn P n t) (hn : 2 ≤ n) (e : ∀ u, P u → Q u) : Cn Q n t := by
 cases h with
 | none h => omega
 | one h1 h2 => omega
 | two h h1 h2 => exact .two h (e _ h1) (e _ h2)
theorem Cn.zero {P : List ND → Prop} {t : List ND} (h : Cn P 0 t) (u : List ND) : ¬ P u := by
 cases h with
 | none h => exact h u
theorem Cn.pos {P : List ND → Prop} {n : Nat} {t : List ND} (h : Cn P n t) (hn : 0 < n) : ∃ u, P u := by
 cases h with
 | none h => omega
 | one h1 h2 => exact ⟨_, h1⟩
 | two h h1 h2 => exact ⟨_, h1⟩
abbrev FV := Nat × List ND
inductive Sd
 | br (x : Nm)
 | pt (x : Nm)
 | ho (K : List Nat)
def Sd.ok : Sd → TK → Bool
 | .br x, t => t.k == 6 && txN t == x
 | .pt x, t => partB t.k (txN t) x
 | .ho _, _ => false
structure FD where
 k : Int
 n : Nm
 c : Int
 o : OP
 S : List Sd
def fA (F : List FD) (i : Nat) : FD := F.getD i ⟨0, [], 0, ([], 0, 0), []⟩
theorem zQP {F : List FD} {k : Nat} (h : k < F.length) : fA F k = F[k] := by simp [fA, List.getD, h]
def ndF (f : FD) (a b : Nat) : ND := ⟨f.k, f.n, a, b, f.c⟩
def TopF (F : List FD) (K : List Nat) (t : List ND) : Prop := ∃ x r, t = x :: r ∧ (x.k = 1 ∨ ∃ i ∈ K, x.k = (fA F i).k ∧ x.n = (fA F i).n)
section
variable (L : List OP) (z : List Int) (tok : List TK) (F : List FD)
def DS : List Sd → Nat → Nat → List ND → Prop
 | [], a, b, l => a = b ∧ l = []
 | s :: r, a, b, l => match s with
  | .ho K => ∃ c t l', a < c ∧ c ≤ b ∧ (Dv L z tok .tr a c t 1 ∧ TopF F K t) ∧ DS r c b l' ∧ l = t ++ l'
  | s => a < b ∧ s.ok (tat tok a) = true ∧ DS r (a + 1) b l
def lfD (a : Nat) : ND := ⟨1, txN (tat tok a), a, (a + 1 : Nat), 0⟩
def KD (K : List Nat) (a b : Nat) (t : List ND) : Prop :=
 (b = a + 1 ∧ leafB (tat tok a).k (freeB L z (txN (tat tok a))) = true ∧ t = [lfD tok a]) ∨ ∃ i ∈ K, ∃ l, DS L z tok F (fA F i).S a b l ∧ t = ndF (fA F i) a b :: l
end
theorem zBH {L : List OP} {z : List Int} {tok : List TK} {F : List FD} {a b : Nat} {l : List ND} : DS L z tok F [] a b l ↔ a = b ∧ l = [] := Iff.rfl
theorem zBb {L : List OP} {z : List Int} {tok : List TK} {F : List FD} {K : List Nat} {r : List Sd} {a b : Nat} {l : List ND} : DS L z tok F (.ho K :: r) a b l ↔ ∃ c t l', a < c ∧ c ≤ b ∧ (Dv L z tok .tr a c t 1 ∧ TopF F K t) ∧ DS L z tok F r c b l' ∧ l = t ++ l' := Iff.rfl
theorem zCV {L : List OP} {z : List Int} {tok : List TK} {F : List FD} {x : Nm} {r : List Sd} {a b : Nat} {l : List ND} : DS L z tok F (.br x :: r) a b l ↔ a < b ∧ (Sd.br x).ok (tat tok a) = true ∧ DS L z tok F r (a + 1) b l := Iff.rfl
theorem zCv {L : List OP} {z : List Int} {tok : List TK} {F : List FD} {x : Nm} {r : List Sd} {a b : Nat} {l : List ND} : DS L z tok F (.pt x :: r) a b l ↔ a < b ∧ (Sd.pt x).ok (tat tok a) = true ∧ DS L z tok F r (a + 1) b l := Iff.rfl
section
variable {L : List OP} {z : List Int} {tok : List TK} {F : List FD}
theorem zKy : ∀ (S : List Sd) (a b : Nat) (l : List ND), DS L z tok F S a b l → a ≤ b
 | [], a, b, l, h => by have := (zBH.1 h).1; omega
 | .ho K :: r, a, b, l, h => by obtain ⟨c, _, _, h1, h2, _⟩ := zBb.1 h; omega
 | .br x :: r, a, b, l, h => by have := (zCV.1 h).1; omega
 | .pt x :: r, a, b, l, h => by have := (zCv.1 h).1; omega
theorem zIb : ∀ (S : List Sd) (a b : Nat) (l : List ND), S ≠ [] → DS L z tok F S a b l → a < b
 | [], a, b, l, h0, h => absurd rfl h0
 | .ho K :: r, a, b, l, _, h => by obtain ⟨c, _, _, h1, h2, _⟩ := zBb.1 h; omega
 | .br x :: r, a, b, l, _, h => (zCV.1 h).1
 | .pt x :: r, a, b, l, _, h => (zCv.1 h).1
theorem zOs {a b : Nat} {t : List ND} (h : Dv L z tok .tr a b t 1) : skp t 1 = some t.length ∧ ∃ x r, t = x :: r ∧ x.f = a ∧ x.t = b := ⟨(zCs h).1, (zCs h).2.1⟩
end
end
section
open Go.RowKit
def isMap (w : World) (M : Nat) : Prop := ∃ es cl, w.heap[M]? = some (.map es cl)
structure Kx (M : Nat) (w w' : World) : Prop where
 os : w'.os = w.os
 tape : w'.tape = w.tape
 output : w'.output = w.output
 size : w.heap.size ≤ w'.heap.size
 block : ∀ k, k < w.heap.size → k ≠ M → w'.heap[k]? = w.heap[k]?
theorem Kx.refl (M : Nat) (w : World) : Kx M w w := ⟨rfl, rfl, rfl, Nat.le_refl _, fun _ _ _ => rfl⟩
theorem Kx.trans {M : Nat} {a b c : World} (h : Kx M a b) (k : Kx M b c) : Kx M a c :=
 ⟨k.os.trans h.os, k.tape.trans h.tape, k.output.trans h.output, Nat.le_trans h.size k.size, fun i hi hm => (k.block i (Nat.lt_of_lt_of_le hi h.size) hm).trans (h.block i hi hm)⟩
theorem Kx.of {M : Nat} {w w' : World} (h : Below w.heap.size w w') : Kx M w w' := ⟨h.os, h.tape, h.output, h.size, fun k hk _ => h.block k hk⟩
theorem Kx.only {M : Nat} {w w' : World} (h : Only M w w') : Kx M w w' := ⟨h.os, h.tape, h.output, by rw [h.size]; exact Nat.le_refl _, fun k _ hm => h.block k hm⟩
theorem Kx.below {M B : Nat} {w w' : World} (h : Kx M w w') (hB : B ≤ M) (hM : B ≤ w.heap.size) : Below B w w' := ⟨h.os, h.tape, h.output, h.size, fun k hk => h.block k (by omega) (by omega)⟩
theorem isMap.below {w w' : World} {M : Nat} (h : isMap w M) (hb : Below w.heap.size w w') : isMap w' M := by
 obtain ⟨es, cl, h⟩ := h
 exact ⟨es, cl, (hb.block M (Array.getElem?_eq_some_iff.1 h).1).trans h⟩
theorem Kx.blk {M : Nat} {w w' : World} (h : Kx M w w') (hm : isMap w M) {b : Nat} {cs : Array Value} {t : TypeId} {fr : Nat × Nat} (hb : w.heap[b]? = some (.cells cs t fr)) : w'.heap[b]? = some (.cells cs t fr) := by
 refine (h.block b (Array.getElem?_eq_some_iff.1 hb).1 fun e => ?_).trans hb
 obtain ⟨es, cl, hm⟩ := hm
 rw [e, hm] at hb
 cases hb
theorem Kx.cell {M : Nat} {w w' : World} (h : Kx M w w') (hm : isMap w M) {x : Addr} {v : Value} (hx : w.cell? x = some v) : w'.cell? x = some v := by
 unfold World.cell? at hx ⊢
 cases hb : w.heap[x.block]? with
 | none => rw [hb] at hx; cases hx
 | some o =>
  cases o with
  | cells cs t fr => rw [h.blk hm hb]; rw [hb] at hx; exact hx
  | _ => rw [hb] at hx; cases hx
theorem Vs.kx {k : Nat} {M : Nat} {w w' : World} {a : Option Addr} {n c : Nat} {xs : List Value} (v : Vs k w a n c xs) (h : Kx M w w') (hm : isMap w M) : Vs k w' a n c xs :=
 ⟨v.hl, v.lc, v.cm, fun h0 => by
  obtain ⟨b, off, ha, hb, hc⟩ := v.at_ h0
  refine ⟨b, off, ha, Nat.lt_of_lt_of_le hb h.size, fun j hj => ?_⟩
  have hj' : j < xs.length := by rw [v.hl]; exact hj
  have h1 := hc j hj
  rw [List.getElem?_eq_getElem hj'] at h1 ⊢
  exact h.cell hm h1⟩
theorem Ts.kx {M : Nat} {w w' : World} {a : Option Addr} {n c : Nat} {L : List TK} (v : Ts w a n c L) (h : Kx M w w') (hm : isMap w M) : Ts w' a n c L :=
 ⟨v.hl, v.lc, v.cm, fun h0 => by
  obtain ⟨b, off, ha, hb, hc⟩ := v.at_ h0
  refine ⟨b, off, ha, Nat.lt_of_lt_of_le hb h.size, fun j hj i hi => ?_⟩
  have h1 := hc j hj i hi
  have hi' : i < (cellsT (tat L j)).length := hi
  rw [List.getElem?_eq_getElem hi'] at h1 ⊢
  exact h.cell hm h1⟩
theorem Tab.kx {M : Nat} {w w' : World} (v : Tab w) (h : Kx M w w') (hm : isMap w M) : Tab w' :=
 ⟨Nat.lt_of_lt_of_le v.1 h.size, fun i x hx => h.cell hm (v.2 i x hx)⟩
theorem C1.kx {M : Nat} {w w' : World} {b : Nat} {t : TypeId} {x : Value} (v : C1 w b t x) (h : Kx M w w') (hm : isMap w M) : C1 w' b t x := h.blk hm v
theorem T5.kx {M : Nat} {w w' : World} {b : Nat} {k f t : Int} {x : Nm} {e : Int} (v : T5 w b k f t x e) (h : Kx M w w') (hm : isMap w M) : T5 w' b k f t x e := h.blk hm v
end
section
open Go.RowKit
def itemsO (o : OP) : List Nm := match ofS o.1 with
 | none => []
 | some s => itemsL s
theorem zA8 {o : OP} {s : SH} (h : ofS o.1 = some s) : itemsO o = itemsL s := by unfold itemsO; rw [h]
section
variable {L : List OP} {z : List Int} {tok : List TK}
end
end
end Go.Proofs.YtcjbhdgjcpnklaaGreatDoor
