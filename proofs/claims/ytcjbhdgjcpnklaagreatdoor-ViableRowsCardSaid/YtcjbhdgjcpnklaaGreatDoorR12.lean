import Derived.Deep.DeepCutAuto
import Derived.Test.YtcjbhdgjcpnklaaGreatDoorV09
import Derived.Deep.RegionHeld3
import Derived.Test.YtcjbhdgjcpnklaaGreatDoorR02
import Derived.Test.YtcjbhdgjcpnklaaGreatDoorR03
import Derived.Test.YtcjbhdgjcpnklaaGreatDoorR06
import Derived.Test.YtcjbhdgjcpnklaaGreatDoorR11
namespace Go.Proofs.YtcjbhdgjcpnklaaGreatDoor
section
open Go.RowKit
theorem zGd {ops : Array Oper} {o : Oper} {A : Act} {w : World} {K : Act → World → Prop} {Q : Exit → Act → World → Prop} {E : Prop} (hgd : o.guard = none) (ho : o.op = .alloc 34)
  (k : ∀ w' X, X = w.heap.size → EB w' X none 0 0 z0 → Below w.heap.size w w' → K (A.put o.dst (.pointer (some ⟨X, 0, none⟩))) w') : if Region.wanted o (yielded ops A.tmps) = true then o.wp Tryz.prog A w K Q else E := by
 rw [if_pos (show Region.wanted o (yielded ops A.tmps) = true by simp [Region.wanted, hgd])]
 have h := k (w.alloc (.cells (ev none 0 0 z0) 34)) w.heap.size rfl (EB.new w none 0 0 z0) (zAA w _)
 have hr : (Instr.alloc 34 true (.tuple #[])).run Tryz.prog w = .ok (.pointer (some ⟨w.heap.size, 0, none⟩)) (w.alloc (.cells (ev none 0 0 z0) 34)) := by kernel_rfl
 unfold Oper.wp execOp
 simp only [ho, hr, Sem.run_bind, Result.andThen_ok, Sem.run_pure]
 exact h
def tE (t : TypeId) : Prop := t = 34
end
section
open Go.RowKit
section
variable {L : List OP} {z : List Int} {tok tok' : List TK}
theorem zET {A B : Nat} {f : Nat → Nat} {c : Int} (hf : ∀ a, A ≤ a → a ≤ B → ((f a : Nat) : Int) = (a : Int) - c ∧ f a ≤ tok'.length) (ht : ∀ a, A ≤ a → a < B → tat tok' (f a) = tat tok a) {g : Gl} {a b n : Nat} {l : List ND} (h : Dv L z tok g a b l n) :
  A ≤ a → b ≤ B → Dv L z tok' g (f a) (f b) (l.map (ND.sh c)) n := by
 have hs : ∀ a, A ≤ a → a + 1 ≤ B → f (a + 1) = f a + 1 := fun a h1 h2 => by
  have e1 := (hf a h1 (by omega)).1
  have e2 := (hf (a + 1) (by omega) h2).1
  omega
 have hl : ∀ a b, A ≤ a → a < b → b ≤ B → f a < f b := fun a b h1 h2 h3 => by
  have e1 := (hf a h1 (by omega)).1
  have e2 := (hf b (by omega) h3).1
  omega
 induction h with
 | @leaf a ha hlf =>
  intro h1 h2
  have e := hs a h1 h2
  have e1 := (hf a h1 (by omega)).1
  have e2 := (hf (a + 1) (by omega) h2)
  rw [e, List.map_cons, List.map_nil]
  have en : ND.sh c ⟨1, txN (tat tok a), a, (a + 1 : Nat), 0⟩ = ⟨1, txN (tat tok' (f a)), (f a : Nat), (f a + 1 : Nat), 0⟩ := by
   unfold ND.sh
   rw [ht a h1 (by omega)]
   congr 1
   ·exact e1.symm
   ·show ((a + 1 : Nat) : Int) - c = _; omega
  rw [en]
  exact .leaf (by omega) (by rw [ht a h1 (by omega)]; exact hlf)
 | @paren a b t hb k1 t1 k2 t2 hd ih =>
  intro h1 h2
  have hab := zB3 hd
  have e := hs a h1 (by omega)
  have eb := hs b (by omega) h2
  have e1 := (hf a h1 (by omega)).1
  have e2 := hf (b + 1) (by omega) h2
  have ih' := ih (by omega) (by omega)
  rw [e] at ih'
  rw [eb, List.map_cons]
  have en : ND.sh c ⟨2, [], a, (b + 1 : Nat), 1⟩ = ⟨2, [], (f a : Nat), (f b + 1 : Nat), 1⟩ := by
   unfold ND.sh
   congr 1
   ·exact e1.symm
   ·show ((b + 1 : Nat) : Int) - c = _; omega
  rw [en]
  have ta := ht a h1 (by omega)
  have tb := ht b (by omega) (by omega)
  exact .paren (by omega) (by rw [ta]; exact k1) (by rw [ta]; exact t1) (by rw [tb]; exact k2) (by rw [tb]; exact t2) ih'
 | @oper a b n o s l ho hso hab hd ih =>
  intro h1 h2
  have e1 := (hf a h1 (by omega)).1
  have e2 := (hf b (by omega) h2).1
  rw [List.map_cons]
  have en : ND.sh c ⟨3, o.1, a, b, n⟩ = ⟨3, o.1, (f a : Nat), (f b : Nat), n⟩ := by
   unfold ND.sh
   congr 1
   ·exact e1.symm
   ·exact e2.symm
  rw [en]
  exact .oper ho hso (hl a b h1 hab h2) (ih h1 h2)
 | @nil o first a ha => exact fun h1 h2 => .nil (hf a h1 h2).2
 | @part o x r first a b n l hx ha hp hd ih =>
  intro h1 h2
  have hab := zGZ hd
  have e := hs a h1 (by omega)
  have e2 := hf b (by omega) h2
  have e1 := hf (a + 1) (by omega) (by omega)
  have ih' := ih (by omega) h2
  rw [e] at ih'
  exact .part hx (by omega) (by rw [ht a h1 (by omega)]; exact hp) ih'
 | @hole o r first a c' b n x t l hd1 hm1 hm2 hd2 ih1 ih2 =>
  intro h1 h2
  have g1 := zB3 hd1
  have g2 := zGZ hd2
  have i1 := ih1 h1 (by omega)
  have i2 := ih2 (by omega) h2
  rw [List.map_append]
  rw [List.map_cons] at i1 ⊢
  exact .hole i1 hm1 hm2 i2
end
end
section
open Go.RowKit
section
variable {L : List OP} {z : List Int} {tok : List TK}
theorem zQp {o : OP} {x : Nm} (hs : ofS o.1 = some ⟨[x], true, true⟩) {a b n : Nat} {l : List ND} (h : Dv L z tok (.it o (itemsL ⟨[x], true, true⟩) true) a b l n) :
  ∃ f u t v t', Dv L z tok .tr a f (u :: t) 1 ∧ mayH L z o u false = true ∧ partB (tat tok f).k (txN (tat tok f)) x = true ∧ Dv L z tok .tr (f + 1) b (v :: t') 1 ∧ mayH L z o v true = true ∧ f < tok.length := by
 have hx := ((zAc hs).2 x (by simp)).1
 have e : itemsL ⟨[x], true, true⟩ = [[], x, []] := rfl
 rw [e] at h
 cases h with
 | part h => exact absurd rfl h
 | @hole _ _ _ _ f _ n u t l h1 m1 _ h2 =>
  cases h2 with
  | hole => exact absurd rfl hx
  | part _ hf hp h3 =>
   cases h3 with
   | part h => exact absurd rfl h
   | @hole _ _ _ _ c _ n v t' l h4 _ m2 h5 =>
    cases h5
    exact ⟨f, u, t, v, t', h1, m1 rfl, hp, h4, m2 rfl, hf⟩
end
end
section
open Go.RowKit
section
variable {L : List OP} {z : List Int} {tok : List TK}
end
theorem zBm : RowsOk zS := zIN []
theorem zEU : ∀ i, i < 10 → I64 (bt zS i) := fun i hi => by have := zS_rng i hi; unfold I64; exact this
def pPlus : Nm := [95, 43, 95]
def oN : OP := (pPlus, 3, 0)
def pIf : Nm := [105, 102, 95, 116, 104, 101, 110, 95]
theorem zQw : ofS pPlus = some ⟨[[43]], true, true⟩ := by kernel_rfl
end
section
open Go.RowKit
end
section
open Go.RowKit
end
end Go.Proofs.YtcjbhdgjcpnklaaGreatDoor
