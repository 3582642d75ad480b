import Derived.Deep.DeepCutAuto
import Derived.Deep.RegionHeld3
import Derived.Test.YtcjbhdgjcpnklaaGreatDoorV09
import Derived.Test.YtcjbhdgjcpnklaaGreatDoorV20
import Derived.Test.YtcjbhdgjcpnklaaGreatDoorV24
import Derived.Test.YtcjbhdgjcpnklaaGreatDoorV25
import Derived.Test.YtcjbhdgjcpnklaaGreatDoorV28
import Derived.Test.YtcjbhdgjcpnklaaGreatDoorV33
namespace Go.Proofs.YtcjbhdgjcpnklaaGreatDoor
section
open Go.RowKit
theorem zGd {ops : Array Oper} {o : Oper} {A : Act} {w : World} {K : Act → World → Prop} {Q : Exit → Act → World → Prop} {E : Prop} (hgd : o.guard = none) (ho : o.op = .alloc 34)
  (k : ∀ w' X, X = w.heap.size → EB w' X none 0 0 z0 → Below w.heap.size w w' → K (A.put o.dst (.pointer (some ⟨X, 0, none⟩))) w') : if Region.wanted o (yielded ops A.tmps) = true then o.wp Tryz.prog A w K Q else E := by
 rw [if_pos (show Region.wanted o (yielded ops A.tmps) = true by simp [Region.wanted, hgd])]
 have h := k (w.alloc (.cells (ev none 0 0 z0) 34)) w.heap.size rfl (EB.new w none 0 0 z0) (zAA w _)
 have hr : (Instr.alloc 34 true (.tuple #[])).run Tryz.prog w = .ok (.pointer (some ⟨w.heap.size, 0, none⟩)) (w.alloc (.cells (ev none 0 0 z0) 34)) := by kernel_rfl
 unfold Oper.wp execOp
 simp only [ho, hr, Sem.run_bind, Result.andThen_ok, Sem.run_pure]
 exact h
def tE (t : TypeId) : Prop := t = 34
end
section
open Go.RowKit
section
variable {L : List OP} {z : List Int} {tok tok' : List TK}
theorem zET {A B : Nat} {f : Nat → Nat} {c : Int} (hf : ∀ a, A ≤ a → a ≤ B → ((f a : Nat) : Int) = (a : Int) - c ∧ f a ≤ tok'.length) (ht : ∀ a, A ≤ a → a < B → tat tok' (f a) = tat tok a) {g : Gl} {a b n : Nat} {l : List ND} (h : Dv L z tok g a b l n) :
  A ≤ a → b ≤ B → Dv L z tok' g (f a) (f b) (l.map (ND.sh c)) n := by
 have hs : ∀ a, A ≤ a → a + 1 ≤ B → f (a + 1) = f a + 1 := fun a h1 h2 => by
  have e1 := (hf a h1 (by omega)).1
  have e2 := (hf (a + 1) (by omega) h2).1
  omega
 have hl : ∀ a b, A ≤ a → a < b → b ≤ B → f a < f b := fun a b h1 h2 h3 => by
  have e1 := (hf a h1 (by omega)).1
  have e2 := (hf b (by omega) h3).1
  omega
 induction h with
 | @leaf a ha hlf =>
  intro h1 h2
  have e := hs a h1 h2
  have e1 := (hf a h1 (by omega)).1
  have e2 := (hf (a + 1) (by omega) h2)
  rw [e, List.map_cons, List.map_nil]
  have en : ND.sh c ⟨1, txN (tat tok a), a, (a + 1 : Nat), 0⟩ = ⟨1, txN (tat tok' (f a)), (f a : Nat), (f a + 1 : Nat), 0⟩ := by
   unfold ND.sh
   rw [ht a h1 (by omega)]
   congr 1
   ·exact e1.symm
   ·show ((a + 1 : Nat) : Int) - c = _; omega
  rw [en]
  exact .leaf (by omega) (by rw [ht a h1 (by omega)]; exact hlf)
 | @paren a b t hb k1 t1 k2 t2 hd ih =>
  intro h1 h2
  have hab := zB3 hd
  have e := hs a h1 (by omega)
  have eb := hs b (by omega) h2
  have e1 := (hf a h1 (by omega)).1
  have e2 := hf (b + 1) (by omega) h2
  have ih' := ih (by omega) (by omega)
  rw [e] at ih'
  rw [eb, List.map_cons]
  have en : ND.sh c ⟨2, [], a, (b + 1 : Nat), 1⟩ = ⟨2, [], (f a : Nat), (f b + 1 : Nat), 1⟩ := by
   unfold ND.sh
   congr 1
   ·exact e1.symm
   ·show ((b + 1 : Nat) : Int) - c = _; omega
  rw [en]
  have ta := ht a h1 (by omega)
  have tb := ht b (by omega) (by omega)
  exact .paren (by omega) (by rw [ta]; exact k1) (by rw [ta]; exact t1) (by rw [tb]; exact k2) (by rw [tb]; exact t2) ih'
 | @oper a b n o s l ho hso hab hd ih =>
  intro h1 h2
  have e1 := (hf a h1 (by omega)).1
  have e2 := (hf b (by omega) h2).1
  rw [List.map_cons]
  have en : ND.sh c ⟨3, o.1, a, b, n⟩ = ⟨3, o.1, (f a : Nat), (f b : Nat), n⟩ := by
   unfold ND.sh
   congr 1
   ·exact e1.symm
   ·exact e2.symm
  rw [en]
  exact .oper ho hso (hl a b h1 hab h2) (ih h1 h2)
 | @nil o first a ha => exact fun h1 h2 => .nil (hf a h1 h2).2
 | @part o x r first a b n l hx ha hp hd ih =>
  intro h1 h2
  have hab := zGZ hd
  have e := hs a h1 (by omega)
  have e2 := hf b (by omega) h2
  have e1 := hf (a + 1) (by omega) (by omega)
  have ih' := ih (by omega) h2
  rw [e] at ih'
  exact .part hx (by omega) (by rw [ht a h1 (by omega)]; exact hp) ih'
 | @hole o r first a c' b n x t l hd1 hm1 hm2 hd2 ih1 ih2 =>
  intro h1 h2
  have g1 := zB3 hd1
  have g2 := zGZ hd2
  have i1 := ih1 h1 (by omega)
  have i2 := ih2 (by omega) h2
  rw [List.map_append]
  rw [List.map_cons] at i1 ⊢
  exact .hole i1 hm1 hm2 i2
def Bal0 (tok : List TK) : Gl → Nat → Nat → Prop
 | .tr, a, b => bal [] (sg tok a b) 0 = some 0
 | .it _ I _, a, b => (∀ x ∈ I, x ≠ [40] ∧ x ≠ [41]) → bal [] (sg tok a b) 0 = some 0
theorem brk0 {x : TK} : (clB [] x = true ↔ x.k = 6 ∧ txN x = [41]) ∧ (opB [] x = true ↔ x.k = 6 ∧ txN x = [40]) := by
 unfold clB opB
 rw [List.any_nil, List.any_nil, Bool.and_false, Bool.or_false, Bool.or_false]
 simp only [Bool.and_eq_true, beq_iff_eq, and_self]
theorem zK3 {x : TK} (h : x.k = 6 → txN x ≠ [40] ∧ txN x ≠ [41]) : clB [] x = false ∧ opB [] x = false := by
 constructor
 ·rw [Bool.eq_false_iff]; intro hc
  have := brk0.1.1 hc
  exact (h this.1).2 this.2
 ·rw [Bool.eq_false_iff]; intro hc
  have := brk0.2.1 hc
  exact (h this.1).1 this.2
theorem zFl {g : Gl} {a b n : Nat} {l : List ND} (h : Dv L z tok g a b l n) : Bal0 tok g a b := by
 induction h with
 | @leaf a ha hl =>
  show bal [] (sg tok a (a + 1)) 0 = some 0
  have w : clB [] (tat tok a) = false ∧ opB [] (tat tok a) = false := zK3 fun h6 => by
   rcases zIT hl with hk | ⟨hk, _⟩ <;> omega
  rw [zEI (by omega) ha, zHM]
  unfold bal
  rw [w.1, w.2]; rfl
 | @paren a b t hb k1 t1 k2 t2 hd ih =>
  have hab := zB3 hd
  show bal [] (sg tok a (b + 1)) 0 = some 0
  rw [zEI (by omega) (by omega), zKl tok (c := b) (by omega) (by omega), zEI (a := b) (by omega) hb, zHM]
  have w1 : clB [] (tat tok a) = false ∧ opB [] (tat tok a) = true := (zCt (L := []) k1).1 t1
  have w2 : clB [] (tat tok b) = true ∧ opB [] (tat tok b) = false := (zCt (L := []) k2).2 t2
  unfold bal
  rw [w1.1, w1.2, if_neg (by decide), bal_app]
  have e : bal [] (sg tok (a + 1) b) (0 + 1) = some (0 + 1) := zIS [] _ _ _ ih 1
  show (bal [] (sg tok (a + 1) b) (0 + 1)).bind _ = _
  rw [e]
  show bal [] [tat tok b] 1 = some 0
  unfold bal
  rw [w2.1, w2.2]; rfl
 | @oper a b n o s l ho hs hab _ ih =>
  refine ih fun x hx => ?_
  by_cases hx0 : x = []
  ·subst hx0; exact ⟨by decide, by decide⟩
  ·have hm : x ∈ prs (itemsL s) := List.mem_filter.2 ⟨hx, by simpa using hx0⟩
   rw [zCu hs] at hm
   exact ((zAc hs).2 x hm).2
 | @nil o first a ha => intro _; rw [zHM]; rfl
 | @part o x r first a b n l hx ha hp hd ih =>
  intro hI
  have hab := zGZ hd
  have i2 := ih fun y hy => hI y (List.mem_cons_of_mem _ hy)
  have hx2 := hI x (List.mem_cons_self ..)
  have w : clB [] (tat tok a) = false ∧ opB [] (tat tok a) = false := zK3 fun _ => by rw [(zEJ hp).2]; exact hx2
  rw [zEI (by omega) ha]
  unfold bal
  rw [w.1, w.2]
  exact i2
 | @hole o r first a c b n x t l hd1 _ _ hd2 ih1 ih2 =>
  intro hI
  have h1 := zB3 hd1
  have h2 := zGZ hd2
  have i2 := ih2 fun y hy => hI y (List.mem_cons_of_mem _ hy)
  rw [zKl tok (c := c) (by omega) (by omega), bal_app, ih1]
  exact i2
theorem zNt (tok : List TK) : sg tok 0 tok.length = tok := by unfold sg; rw [List.drop_zero, Nat.sub_zero, List.take_length]
theorem zPw {o s : TK} (ho : o.k = 6 ∧ txN o = [40]) (hs : s.k = 6 ∧ txN s = [41]) (hb : bal [] tok 0 = some 0) {u : List ND} :
  Dv L z (o :: (tok ++ [s])) .tr 0 (o :: (tok ++ [s])).length u 1 ↔ ∃ t, Dv L z tok .tr 0 tok.length t 1 ∧ u = ⟨2, [], 0, (tok.length + 2 : Nat), 1⟩ :: t.map (ND.sh (-1)) := by
 have hlen : (o :: (tok ++ [s])).length = tok.length + 2 := by simp
 have t0 : tat (o :: (tok ++ [s])) 0 = o := rfl
 have ta : ∀ a, a < tok.length → tat (o :: (tok ++ [s])) (a + 1) = tat tok a := fun a ha => by
  unfold tat
  simp only [List.getD, List.getElem?_cons_succ]
  rw [List.getElem?_append_left ha]
 have te : tat (o :: (tok ++ [s])) (tok.length + 1) = s := by
  unfold tat
  simp [List.getD]
 rw [hlen]
 constructor
 ·intro h
  generalize hc : tok.length + 2 = c at h
  generalize hz : 0 = a0 at h
  cases h with
  | leaf => omega
  | @paren _ b t hbl k1 t1 k2 t2 hd =>
   subst hz
   obtain rfl : b = tok.length + 1 := by omega
   have hm := zET (tok' := tok) (A := 1) (B := tok.length + 1) (f := fun a => a - 1) (c := 1) (fun a h1 h2 => ⟨by omega, by omega⟩) (fun a h1 h2 => by
    obtain ⟨a', rfl⟩ : ∃ a', a = a' + 1 := ⟨a - 1, by omega⟩
    rw [ta a' (by omega)]; rfl) hd (Nat.le_refl _) (Nat.le_refl _)
   refine ⟨_, hm, ?_⟩
   rw [List.map_map]
   have e : (ND.sh (-1) ∘ ND.sh 1) = id := by
    funext x
    show ND.sh (-1) (ND.sh 1 x) = x
    unfold ND.sh
    congr 1
    ·show x.f - 1 - -1 = x.f; omega
    ·show x.t - 1 - -1 = x.t; omega
   rw [e, List.map_id]; rfl
  | @oper _ _ n op sh l hk hs2 hab hd =>
   subst hz
   obtain ⟨q, P, hP⟩ : ∃ q P, sh.P = q :: P := by
    cases hP : sh.P with
    | nil => exact absurd hP (zAc hs2).1
    | cons q P => exact ⟨q, P, rfl⟩
   have hq := (zAc hs2).2 q (by rw [hP]; simp)
   rw [zB2 hP] at hd
   have low : ∀ c', 0 < c' → c' ≤ tok.length + 1 → bal [] (sg (o :: (tok ++ [s])) 0 c') 0 = some 0 → False := by
    intro c' h1 h2 hb'
    rw [zEI (by omega) (by rw [hlen]; omega), t0] at hb'
    have w1 := (zCt (L := []) ho.1).1 ho.2
    rw [show bal [] (o :: sg (o :: (tok ++ [s])) (0 + 1) c') 0 = if clB [] o then none else bal [] (sg (o :: (tok ++ [s])) (0 + 1) c') (0 + b2n (opB [] o)) from rfl, w1.1, w1.2, if_neg (by decide)] at hb'
    have e : sg (o :: (tok ++ [s])) (0 + 1) c' = sg tok 0 (c' - 1) := by
     unfold sg
     rw [Nat.zero_add, List.drop_succ_cons, List.drop_zero, List.drop_zero, Nat.sub_zero, List.take_append_of_le_length (by omega)]
    rw [e] at hb'
    have hb2 : bal [] (sg tok 0 tok.length) 0 = some 0 := by rw [zNt]; exact hb
    obtain ⟨m, hm⟩ := zKm hb2 (Nat.zero_le (c' - 1)) (by omega)
    have h3 : bal [] (sg tok 0 (c' - 1)) (0 + b2n true) = some (m + 1) := zIS [] _ _ _ hm 1
    rw [h3] at hb'
    cases hb'
   cases hl : sh.l with
   | false =>
    rw [hl] at hd
    have hd' : Dv L z (o :: (tok ++ [s])) (.it op (q :: sepN sh.r P) true) 0 c l n := hd
    cases hd' with
    | part _ _ hp _ =>
     rw [t0] at hp
     have := (zEJ hp).2
     rw [ho.2] at this
     exact absurd this.symm hq.2.1
    | hole => exact absurd rfl hq.1
   | true =>
    rw [hl] at hd
    have hd' : Dv L z (o :: (tok ++ [s])) (.it op ([] :: q :: sepN sh.r P) true) 0 c l n := hd
    cases hd' with
    | part h => exact absurd rfl h
    | @hole _ _ _ _ c' _ n' x t l' hd1 _ _ hd2 =>
     have g1 := zB3 hd1
     have g2 := zNn hd2 _ _ rfl (zKp hq.1 _)
     exact (low c' g1.1 (by omega) (zFl hd1)).elim
 ·rintro ⟨t, hd, rfl⟩
  have hm := zET (tok' := o :: (tok ++ [s])) (A := 0) (B := tok.length) (f := fun a => a + 1) (c := -1) (fun a h1 h2 => ⟨by omega, by rw [hlen]; omega⟩) (fun a h1 h2 => ta a h2) hd (Nat.le_refl _) (Nat.le_refl _)
  exact .paren (by rw [hlen]; omega) (by rw [t0]; exact ho.1) (by rw [t0]; exact ho.2) (by rw [te]; exact hs.1) (by rw [te]; exact hs.2) hm
end
end
section
open Go.RowKit
section
variable {L : List OP} {z : List Int} {tok : List TK}
end
end
section
open Go.RowKit
section
variable {L : List OP} {z : List Int} {tok : List TK}
end
theorem zBm : RowsOk zS := zIN []
theorem zEU : ∀ i, i < 10 → I64 (bt zS i) := fun i hi => by have := zS_rng i hi; unfold I64; exact this
def pPlus : Nm := [95, 43, 95]
def oN : OP := (pPlus, 3, 0)
def pIf : Nm := [105, 102, 95, 116, 104, 101, 110, 95]
def pEl : Nm := [105, 102, 95, 116, 104, 101, 110, 95, 101, 108, 115, 101, 95]
def oE : OP := (pEl, 5, 2)
end
section
open Go.RowKit
end
section
open Go.RowKit
theorem zFm (aC : Option Addr) (len cap : Nat) (C : List CH) (hok : ∀ x ∈ C, okC x) : ∃ (L : List OP) (Z : List Int), RowsOk Z ∧ okE L Z ∧ ∀ w : World, ChS w aC len cap C → Calls Tryz.prog 13 #[.slice aC len cap] w fun e w' => ∃ a n c, e = .returned (.agg (ev a n c Z)) ∧ OwnO w.heap.size w' a n c L ∧ Below w.heap.size w w' :=
 ⟨_, _, zIN _, zNj _, fun w h => zKd aC len cap C w h hok⟩
end
end Go.Proofs.YtcjbhdgjcpnklaaGreatDoor
