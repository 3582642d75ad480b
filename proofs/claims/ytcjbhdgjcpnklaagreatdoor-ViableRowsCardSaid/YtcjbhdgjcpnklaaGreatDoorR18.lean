import Derived.Deep.RegionHeld3
import Derived.Test.YtcjbhdgjcpnklaaGreatDoorR17
namespace Go.Proofs.YtcjbhdgjcpnklaaGreatDoor
section
open Go.RowKit
theorem zGl : ∀ (N : Nat) (l : List Nat), l.Nodup → (∀ x ∈ l, x < N) → l.length ≤ N
 | 0, l, _, h => by
  cases l with
  | nil => exact Nat.le_refl _
  | cons x l => exact absurd (h x (List.mem_cons_self ..)) (by omega)
 | N + 1, l, hn, h => by
  have h1 := zGl N (l.erase N) (hn.erase N) fun x hx => by
   have h2 := (hn.mem_erase_iff).1 hx
   have := h x h2.2
   omega
  have h3 : l.length ≤ (l.erase N).length + 1 := by
   by_cases hm : N ∈ l
   ·rw [List.length_erase_of_mem hm]; omega
   ·rw [List.erase_of_not_mem hm]; omega
  omega
theorem zLM {I : List IT} (hn : I.Nodup) {a b c : Nat} (h : ∀ x ∈ I, x.1 < a ∧ x.2.1 < b ∧ x.2.2 < c) : I.length ≤ a * b * c := by
 have key : ∀ x y : IT, x.2.1 < b → x.2.2 < c → y.2.1 < b → y.2.2 < c → (x.1 * b + x.2.1) * c + x.2.2 = (y.1 * b + y.2.1) * c + y.2.2 → x = y := by
  rintro ⟨x1, x2, x3⟩ ⟨y1, y2, y3⟩ h1 h2 h3 h4 e
  dsimp only at h1 h2 h3 h4 e
  have e3 : x3 = y3 := by
   have := congrArg (· % c) e
   simp only [Nat.mul_comm _ c, Nat.mul_add_mod, Nat.mod_eq_of_lt h2, Nat.mod_eq_of_lt h4] at this
   exact this
  subst e3
  have e2 : x1 * b + x2 = y1 * b + y2 := by
   have hc : 0 < c := by omega
   exact Nat.eq_of_mul_eq_mul_right hc (by omega)
  have e1 : x2 = y2 := by
   have := congrArg (· % b) e2
   simp only [Nat.mul_comm _ b, Nat.mul_add_mod, Nat.mod_eq_of_lt h1, Nat.mod_eq_of_lt h3] at this
   exact this
  subst e1
  have hb : 0 < b := by omega
  have := Nat.eq_of_mul_eq_mul_right hb (show x1 * b = y1 * b by omega)
  rw [this]
 have h1 := zGl (a * b * c) (I.map fun x => (x.1 * b + x.2.1) * c + x.2.2) (List.pairwise_map.2 (hn.imp_of_mem fun {x y} hx hy hne e => by
  have h1 := h x hx
  have h2 := h y hy
  exact hne (key x y h1.2.1 h1.2.2 h2.2.1 h2.2.2 e))) fun v hv => by
  obtain ⟨x, hx, rfl⟩ := List.mem_map.1 hv
  obtain ⟨h1, h2, h3⟩ := h x hx
  have k1 : (x.1 * b + x.2.1) + 1 ≤ a * b := by
   have := Nat.mul_le_mul_right b (show x.1 + 1 ≤ a by omega)
   rw [Nat.add_mul, Nat.one_mul] at this
   omega
  have k2 := Nat.mul_le_mul_right c k1
  rw [Nat.add_mul, Nat.one_mul] at k2
  omega
 rwa [List.length_map] at h1
def kdsF (F : List FD) (x : IT) : List Nat := match (fA F x.1).S.drop x.2.1 with
 | .ho K :: _ => K
 | _ => []
theorem zNx {F : List FD} {x : IT} {K : List Nat} {r : List Sd} (h : (fA F x.1).S.drop x.2.1 = .ho K :: r) : kdsF F x = K := by unfold kdsF; rw [h]
theorem zLN {F : List FD} {x : IT} {k : Nat} (h : k ∈ kdsF F x) : ∃ K r, (fA F x.1).S.drop x.2.1 = .ho K :: r ∧ k ∈ K := by
 unfold kdsF at h
 split at h
 ·exact ⟨_, _, by assumption, h⟩
 ·cases h
structure PlS (L : List OP) (z : List Int) (tok : List TK) (F : List FD) (n : Nat) (I : List IT) (A : List (List IT)) : Prop where
 it : ∀ f s a, (f, s, a) ∈ I ↔ It L z tok F n f s a
 al : A.length = F.length
 af : ∀ k, k < F.length → ∀ y, y ∈ aA A k ↔ ∃ x ∈ I, k ∈ kdsF F x ∧ y = nexI x
 ln : ∀ k, k < F.length → (aA A k).length ≤ 500000000
 li : I.length ≤ 2000000
def dnF (F : List FD) (Pd : List IT) (x : IT) : List Nat := if x ∈ Pd then kdsF F x else []
def dkF (F : List FD) (Pd : List IT) (x0 : IT) (j : Nat) (x : IT) : List Nat := if x ∈ Pd then kdsF F x else if x = x0 then (kdsF F x0).take j else []
structure CI (L : List OP) (z : List Int) (tok : List TK) (F : List FD) (n : Nat) (As : List (List (List IT))) (X : List IT) (D : IT → List Nat) (Pd : List IT) (I : List IT) (A : List (List IT)) (m : Nat) : Prop where
 nd : I.Nodup
 it : ∀ x ∈ I, It L z tok F n x.1 x.2.1 x.2.2
 sd : ∀ x ∈ X, x ∈ I
 pr : ∀ x, ∀ k ∈ D x, (k, 0, n) ∈ I
 al : A.length = F.length
 af : ∀ k, k < F.length → ∀ y, y ∈ aA A k ↔ ∃ x, k ∈ D x ∧ y = nexI x
 cm : ∀ x ∈ Pd, (fA F x.1).S.drop x.2.1 = [] → ∀ y ∈ aA (As.getD x.2.2 []) x.1, y ∈ I
 ln : ∀ k, k < F.length → (aA A k).length ≤ m
section
variable {L : List OP} {z : List Int} {tok : List TK} {F : List FD} {n : Nat} {As : List (List (List IT))} {X Pd I : List IT} {A : List (List IT)} {m : Nat}
theorem zLO (c k : Nat) : aA (List.replicate c []) k = [] := by
 unfold aA
 simp only [List.getD, List.getElem?_replicate]
 split <;> rfl
theorem CI.start (hX : ∀ x ∈ X, It L z tok F n x.1 x.2.1 x.2.2) : CI L z tok F n As X (dnF F []) [] (addI [] X) (List.replicate F.length []) 0 := by
 refine ⟨zDI List.nodup_nil, fun x hx => ?_, fun x hx => zBK.2 (.inr hx), fun x k hk => ?_, List.length_replicate, fun k hk y => ?_, fun x hx => by (cases hx), fun k hk => by rw [zLO]; exact Nat.le_refl _⟩
 ·rcases zBK.1 hx with h | h
  ·cases h
  ·exact hX x h
 ·unfold dnF at hk
  rw [if_neg (by simp)] at hk
  cases hk
 ·rw [zLO]
  constructor
  ·intro h; cases h
  ·rintro ⟨x, hk, _⟩
   unfold dnF at hk
   rw [if_neg (by simp)] at hk
   cases hk
theorem CI.more {D : IT → List Nat} (h : CI L z tok F n As X D Pd I A m) {Y : List IT} (hY : ∀ x ∈ Y, It L z tok F n x.1 x.2.1 x.2.2) : CI L z tok F n As X D Pd (addI I Y) A m :=
 ⟨zDI h.nd, fun x hx => (zBK.1 hx).elim (h.it x) (hY x), fun x hx => zBK.2 (.inl (h.sd x hx)), fun x k hk => zBK.2 (.inl (h.pr x k hk)), h.al, h.af, fun x hx hd y hy => zBK.2 (.inl (h.cm x hx hd y hy)), h.ln⟩
theorem CI.comp (h : CI L z tok F n As X (dnF F Pd) Pd I A m) {x0 : IT} (hx0 : It L z tok F n x0.1 x0.2.1 x0.2.2) (hd : (fA F x0.1).S.drop x0.2.1 = []) (hG : GoodV L z F) {Ib : List IT} (hb : PlS L z tok F x0.2.2 Ib (As.getD x0.2.2 [])) :
  CI L z tok F n As X (dnF F (Pd ++ [x0])) (Pd ++ [x0]) (addI I (aA (As.getD x0.2.2 []) x0.1)) A m := by
 obtain ⟨_, _, hf, hs, _⟩ := zAu hG hx0
 have hs' : x0.2.1 = (fA F x0.1).S.length := by
  have := List.drop_eq_nil_iff.1 hd
  omega
 have hk0 : kdsF F x0 = [] := by unfold kdsF; rw [hd]
 have hD : ∀ x, dnF F (Pd ++ [x0]) x = dnF F Pd x := fun x => by
  unfold dnF
  by_cases h1 : x ∈ Pd
  ·rw [if_pos h1, if_pos (List.mem_append_left _ h1)]
  ·rw [if_neg h1]
   split
   ·rename_i h2
    rcases List.mem_append.1 h2 with h2 | h2
    ·exact absurd h2 h1
    ·rw [List.mem_singleton.1 h2, hk0]
   ·rfl
 have hm := h.more (Y := aA (As.getD x0.2.2 []) x0.1) fun y hy => by
  obtain ⟨x, hx, hk, rfl⟩ := (hb.af x0.1 hf y).1 hy
  obtain ⟨K, r, hK, hkK⟩ := zLN hk
  rw [hs'] at hx0
  exact .comp hx0 ((hb.it x.1 x.2.1 x.2.2).1 hx) hK hkK
 refine ⟨hm.nd, hm.it, hm.sd, fun x k hk => hm.pr x k (by rw [← hD]; exact hk), hm.al, fun k hk y => ?_, fun x hx hdx y hy => ?_, hm.ln⟩
 ·rw [hm.af k hk y]
  exact ⟨fun ⟨x, h1, h2⟩ => ⟨x, by rw [hD]; exact h1, h2⟩, fun ⟨x, h1, h2⟩ => ⟨x, by rw [← hD]; exact h1, h2⟩⟩
 ·rcases List.mem_append.1 hx with hx | hx
  ·exact hm.cm x hx hdx y hy
  ·rw [List.mem_singleton.1 hx] at hy
   exact zBK.2 (.inr hy)
theorem CI.congr {D D' : IT → List Nat} (h : CI L z tok F n As X D Pd I A m) (e : ∀ x, D x = D' x) : CI L z tok F n As X D' Pd I A m := by
 have : D = D' := funext e
 rw [← this]; exact h
theorem CI.begin (h : CI L z tok F n As X (dnF F Pd) Pd I A m) (x0 : IT) : CI L z tok F n As X (dkF F Pd x0 0) Pd I A m :=
 h.congr fun x => by
  unfold dnF dkF
  split
  ·rfl
  ·rw [List.take_zero]; split <;> rfl
theorem CI.kid {x0 : IT} {j : Nat} (h : CI L z tok F n As X (dkF F Pd x0 j) Pd I A m) (hx0 : It L z tok F n x0.1 x0.2.1 x0.2.2) (hn : x0 ∉ Pd) (hj : j < (kdsF F x0).length) (hG : GoodV L z F) :
  (kdsF F x0)[j] < F.length ∧ CI L z tok F n As X (dkF F Pd x0 (j + 1)) Pd (addI I [((kdsF F x0)[j], 0, n)]) (A.set (kdsF F x0)[j] (aA A (kdsF F x0)[j] ++ [nexI x0])) (m + 1) := by
 obtain ⟨_, _, hf, _⟩ := zAu hG hx0
 have hkm : (kdsF F x0)[j] ∈ kdsF F x0 := List.getElem_mem hj
 obtain ⟨K, r, hK, hkK⟩ := zLN hkm
 have hlt := (hG.ks x0.1 hf K (zAf hK).2.2.2 _ hkK).2
 obtain ⟨k0, hk0⟩ : ∃ k0, k0 = (kdsF F x0)[j] := ⟨_, rfl⟩
 have ht : (kdsF F x0).take (j + 1) = (kdsF F x0).take j ++ [k0] := by rw [List.take_succ_eq_append_getElem hj, hk0]
 rw [← hk0] at hlt hkK ⊢
 have hm := h.more (Y := [(k0, 0, n)]) fun y hy => by
  rw [List.mem_singleton.1 hy]
  exact .pred hx0 hK hkK
 have hD : ∀ x k, k ∈ dkF F Pd x0 (j + 1) x ↔ k ∈ dkF F Pd x0 j x ∨ (x = x0 ∧ k = k0) := fun x k => by
  unfold dkF
  by_cases h1 : x ∈ Pd
  ·rw [if_pos h1, if_pos h1]
   exact ⟨.inl, fun h => h.elim id fun h => absurd (h.1 ▸ h1) hn⟩
  ·rw [if_neg h1, if_neg h1]
   by_cases h2 : x = x0
   ·rw [if_pos h2, if_pos h2, ht, List.mem_append, List.mem_singleton]
    exact ⟨fun h => h.imp id fun h => ⟨h2, h⟩, fun h => h.imp id fun h => h.2⟩
   ·rw [if_neg h2, if_neg h2]
    exact ⟨.inl, fun h => h.elim id fun h => absurd h.1 h2⟩
 have hkA : k0 < A.length := by rw [h.al]; exact hlt
 refine ⟨hlt, hm.nd, hm.it, hm.sd, fun x k hk => ?_, by rw [List.length_set]; exact hm.al, fun k hk y => ?_, hm.cm, fun k hk => ?_⟩
 ·rcases (hD x k).1 hk with h1 | ⟨rfl, rfl⟩
  ·exact hm.pr x k h1
  ·exact zBK.2 (.inr (List.mem_singleton.2 rfl))
 ·rw [zLI hkA]
  by_cases hkk : k = k0
  ·subst hkk
   rw [if_pos rfl, List.mem_append, List.mem_singleton, h.af k hk y]
   constructor
   ·rintro (⟨x, h1, h2⟩ | rfl)
    ·exact ⟨x, (hD x k).2 (.inl h1), h2⟩
    ·exact ⟨x0, (hD x0 k).2 (.inr ⟨rfl, rfl⟩), rfl⟩
   ·rintro ⟨x, h1, h2⟩
    rcases (hD x k).1 h1 with h1 | ⟨rfl, _⟩
    ·exact .inl ⟨x, h1, h2⟩
    ·exact .inr h2
  ·rw [if_neg hkk, h.af k hk y]
   constructor
   ·rintro ⟨x, h1, h2⟩
    exact ⟨x, (hD x k).2 (.inl h1), h2⟩
   ·rintro ⟨x, h1, h2⟩
    rcases (hD x k).1 h1 with h1 | ⟨_, h1⟩
    ·exact ⟨x, h1, h2⟩
    ·exact absurd h1 hkk
 ·rw [zLI hkA]
  split
  ·rw [List.length_append, List.length_singleton]
   exact Nat.succ_le_succ (h.ln k0 hlt)
  ·exact Nat.le_succ_of_le (h.ln k hk)
theorem CI.end {x0 : IT} {j : Nat} (h : CI L z tok F n As X (dkF F Pd x0 j) Pd I A m) (hj : (kdsF F x0).length ≤ j) (hd : (fA F x0.1).S.drop x0.2.1 ≠ []) : CI L z tok F n As X (dnF F (Pd ++ [x0])) (Pd ++ [x0]) I A m := by
 have h1 := h.congr (D' := dnF F (Pd ++ [x0])) fun x => by
  unfold dnF dkF
  by_cases h1 : x ∈ Pd
  ·rw [if_pos h1, if_pos (List.mem_append_left _ h1)]
  ·rw [if_neg h1]
   by_cases h2 : x = x0
   ·rw [if_pos h2, if_pos (by rw [h2]; simp), h2, List.take_of_length_le hj]
   ·rw [if_neg h2, if_neg (by simp [h1, h2])]
 refine ⟨h1.nd, h1.it, h1.sd, h1.pr, h1.al, h1.af, fun x hx hdx y hy => ?_, h1.ln⟩
 rcases List.mem_append.1 hx with hx | hx
 ·exact h1.cm x hx hdx y hy
 ·rw [List.mem_singleton.1 hx] at hdx
  exact absurd hdx hd
theorem CI.len {D : IT → List Nat} (h : CI L z tok F n As X D Pd I A m) (hG : GoodV L z F) {c : Nat} (hF : F.length ≤ 100) (hS : ∀ f, f < F.length → (fA F f).S.length ≤ 100) (hc : n ≤ c) : I.length ≤ 100 * 101 * (c + 1) := by
 refine zLM h.nd fun x hx => ?_
 obtain ⟨h1, _, h3, h4, _⟩ := zAu hG (h.it x hx)
 have := hS x.1 h3
 exact ⟨by omega, by omega, by omega⟩
theorem CI.fin (h : CI L z tok F n As X (dnF F I) I I A m) (h0 : n = 0 → (0, 0, 0) ∈ X) (h1 : ∀ n' f s a d r, n = n' + 1 → It L z tok F n' f s a → n' < tok.length → (fA F f).S.drop s = d :: r → letsB L z d (tat tok n') = true → (f, s + 1, a) ∈ X)
  (hA : ∀ b, b < n → ∃ Ib, PlS L z tok F b Ib (As.getD b [])) (hG : GoodV L z F) (hm : m ≤ 500000000) (hl : I.length ≤ 2000000) : PlS L z tok F n I A := by
 refine ⟨fun f s a => ⟨h.it (f, s, a), ?_⟩, h.al, fun k hk y => ?_, fun k hk => Nat.le_trans (h.ln k hk) hm, hl⟩
 ·refine zNu (I := fun f s a => (f, s, a) ∈ I) (fun e => h.sd _ (h0 e)) (fun n' f s a d r e hi hlt hd hls => h.sd _ (h1 n' f s a d r e hi hlt hd hls)) (fun f s a K r k hi hd hk => h.pr (f, s, a) k ?_) (fun k b f s a K r hi hit hd hk => ?_) f s a
  ·unfold dnF
   rw [if_pos hi, zNx (x := (f, s, a)) hd]
   exact hk
  ·have hb := zNv hG (h.it _ hi)
   obtain ⟨Ib, hP⟩ := hA b hb
   obtain ⟨_, _, hf, _⟩ := zAu hG (h.it _ hi)
   refine h.cm (k, (fA F k).S.length, b) hi (List.drop_eq_nil_of_le (Nat.le_refl _)) _ ?_
   exact (hP.af k hf _).2 ⟨(f, s, a), (hP.it f s a).2 hit, by rw [zNx (x := (f, s, a)) hd]; exact hk, rfl⟩
 ·rw [h.af k hk y]
  constructor
  ·rintro ⟨x, h2, h3⟩
   unfold dnF at h2
   split at h2
   ·exact ⟨x, by assumption, h2, h3⟩
   ·cases h2
  ·rintro ⟨x, h2, h3, h4⟩
   exact ⟨x, by unfold dnF; rw [if_pos h2]; exact h3, h4⟩
end
section
variable {B p M q : Nat} {w w' w'' : World} {ia : Option Addr} {ic : Nat} {R : List SLV} {I Im : List IT} {A : List (List IT)}
theorem Cur.after (h : Cur B w p M q ia ic R I Im A) {k g' c' : Nat} {y : IT} (hk : k < A.length) (ho : OwnV B 93 3 w' (some ⟨g', 0, none⟩) ((aA A k).length + 1) c' (itC (aA A k) ++ itL y)) (hg : w.grownBy w' (Value.ownBlock (.slice (rA R k).a (aA A k).length (rA R k).c))) (hl : (rA R k).a = some ⟨g', 0, none⟩ ∨ g' = w.heap.size)
  (ha : OwnV B 94 1 w'' (some ⟨q, 0, none⟩) A.length A.length ((slC R).set k (.slice (some ⟨g', 0, none⟩) ((aA A k).length + 1) c'))) (hs : Only q w' w'') :
  Cur B w'' p M q ia ic (R.set k ⟨some ⟨g', 0, none⟩, (aA A k).length + 1, c'⟩) I Im (A.set k (aA A k ++ [y])) ∧ KX (fun b => b = q ∨ (rA R k).a = some ⟨b, 0, none⟩) w w'' := by
 obtain ⟨a1, a2, a3, a4, a5⟩ := h.apart
 obtain ⟨l1, l2, l3⟩ := h.lt
 have k1 : KX (fun b => (rA R k).a = some ⟨b, 0, none⟩) w w' := KX.grown (h.ro k hk).2 hg fun g hg => hg
 have k2 : KX (fun b => b = q) w' w'' := KX.only hs rfl
 have hkR : k < R.length := by rw [h.rl]; exact hk
 have hgq : g' ≠ q := by
  rcases hl with hl | hl
  ·exact (a5 k g' hk hl).2.2
  ·omega
 have hnew : ∀ j g, j < A.length → j ≠ k → (rA R j).a = some ⟨g, 0, none⟩ → g ≠ g' := fun j g hj hjk hg e => by
  subst e
  rcases hl with hl | hl
  ·exact h.sr j k _ hj hk hjk hg hl
  ·have := (zAj (h.ro j hj).2 hg).2.1
   omega
 refine ⟨⟨by rw [List.length_set]; exact zDS (zDS h.pb k1 fun e => (a5 k p hk e).1 rfl) k2 a2, (h.mp.kx k1 fun e => (a5 k M hk e).2.1 rfl).kx k2 a3, ?_, (h.io.kx k1 fun g hg e => h.si k g hk e hg).kx k2 fun g hg => (a4 g hg).2.2, by rw [List.length_set, List.length_set]; exact h.rl, fun j hj => ?_, fun j g hj hg e => ?_, fun i j g hi hj hij hgi hgj => ?_, h.lp, h.lm⟩,
  ⟨k2.os.trans k1.os, k2.tape.trans k1.tape, k2.output.trans k1.output, Nat.le_trans k1.size k2.size, fun b hb hn => (k2.block b (Nat.lt_of_lt_of_le hb k1.size) fun e => hn (.inl e)).trans (k1.block b hb fun e => hn (.inr e))⟩⟩
 ·rw [List.length_set]
  have := ha
  rw [zO4 (r := ⟨some ⟨g', 0, none⟩, (aA A k).length + 1, c'⟩)] at this
  exact this
 ·rw [List.length_set] at hj
  rw [zIl hkR, zLI hk]
  by_cases hjk : j = k
  ·rw [if_pos hjk, if_pos hjk, itC_app, itC_one, List.length_append]
   exact ⟨rfl, ho.kx k2 fun g hg e => by
    simp only [Option.some.injEq, Addr.mk.injEq, and_true] at hg
    exact hgq (hg.trans e)⟩
  ·rw [if_neg hjk, if_neg hjk]
   exact ⟨(h.ro j hj).1, ((h.ro j hj).2.kx k1 fun g hg e => h.sr j k g hj hk hjk hg e).kx k2 fun g hg => (a5 j g hj hg).2.2⟩
 ·rw [List.length_set] at hj
  rw [zIl hkR] at hg
  by_cases hjk : j = k
  ·rw [if_pos hjk] at hg
   simp only [Option.some.injEq, Addr.mk.injEq, and_true] at hg
   subst hg
   rcases hl with hl | hl
   ·exact h.si k _ hk hl e
   ·have := (zAj h.io e).2.1
    omega
  ·rw [if_neg hjk] at hg
   exact h.si j g hj hg e
 ·rw [List.length_set] at hi hj
  rw [zIl hkR] at hgi hgj
  by_cases hik : i = k
  ·rw [if_pos hik] at hgi
   rw [if_neg (by omega)] at hgj
   simp only [Option.some.injEq, Addr.mk.injEq, and_true] at hgi
   exact hnew j g hj (by omega) hgj hgi.symm
  ·rw [if_neg hik] at hgi
   by_cases hjk : j = k
   ·rw [if_pos hjk] at hgj
    simp only [Option.some.injEq, Addr.mk.injEq, and_true] at hgj
    exact hnew i g hi hik hgi hgj.symm
   ·rw [if_neg hjk] at hgj
    exact h.sr i j g hi hj hij hgi hgj
theorem zBG {ex : Nat → Prop} (h : KX ex w w') {b j : Nat} {v : Value} (hv : w.cell? ⟨b, j, none⟩ = some v) (he : ¬ ex b) : w'.cell? ⟨b, j, none⟩ = some v := by
 rw [← hv]
 have hb := World.block_lt_of_cell? w ⟨b, j, none⟩ hv
 unfold World.cell?
 dsimp only
 rw [h.block b hb he]
end
end
section
open Go.RowKit
def ptC (Ps : List Nat) : List Value := Ps.map fun p => .pointer (some ⟨p, 0, none⟩)
theorem zNy {Ps : List Nat} {j : Nat} (h : j < Ps.length) : (ptC Ps)[j]? = some (.pointer (some ⟨Ps.getD j 0, 0, none⟩)) := by
 unfold ptC
 rw [List.getElem?_map, List.getElem?_eq_getElem h]
 simp [List.getD, h]
theorem zO5 (Ps : List Nat) : (ptC Ps).length = Ps.length := List.length_map ..
def tV (t : TypeId) : Prop := t = 90 ∨ t = 144
def tRv (t : TypeId) : Prop := t = 93 ∨ t = 94 ∨ t = 148
structure WkS (Bx : Nat) (w : World) (W : Nat) (fa : Option Addr) (fn fc : Nat) (pa : Option Addr) (pc : Nat) (Ps : List Nat) (Is : List (List IT)) (As : List (List (List IT))) : Prop where
 bw : Bk w W 90 (wkA fa fn fc pa Ps.length pc)
 ro : OwnV Bx 144 1 w pa Ps.length pc (ptC Ps)
 il : Is.length = Ps.length
 al : As.length = Ps.length
 pl : ∀ i, i < Ps.length → PlF w (Ps.getD i 0) (Is.getD i []) (As.getD i [])
 lw : Bx ≤ W
theorem WkS.below {Bx W fn fc pc : Nat} {w w' : World} {fa pa : Option Addr} {Ps : List Nat} {Is : List (List IT)} {As : List (List (List IT))} (h : WkS Bx w W fa fn fc pa pc Ps Is As) (hb : Below w.heap.size w w') : WkS Bx w' W fa fn fc pa pc Ps Is As :=
 ⟨h.bw.below hb, h.ro.keep hb (Nat.le_refl _), h.il, h.al, fun i hi => (h.pl i hi).kt (P := fun _ => False) (Kt.below hb) id id id, h.lw⟩
def kdS : Sd → List Nat
 | .ho K => K
 | _ => []
theorem zMr {F : List FD} {x : IT} {d : Sd} {r : List Sd} (h : (fA F x.1).S.drop x.2.1 = d :: r) : kdsF F x = kdS d := by
 unfold kdsF
 rw [h]
 cases d <;> rfl
theorem zMs {w : World} {p : VV} {d : Sd} (h : SdV w p d) : ∃ ka kc, p.2 = .slice ka (kdS d).length kc ∧ Vs 1 w ka (kdS d).length kc (intsK (kdS d)) := by
 cases d with
 | br x => exact ⟨none, 0, h.2, Vs.nil _ _ _ _ (Nat.zero_le _)⟩
 | pt x => exact ⟨none, 0, h.2, Vs.nil _ _ _ _ (Nat.zero_le _)⟩
 | ho K => obtain ⟨_, a, c, h2, h3⟩ := h; exact ⟨a, c, h2, h3⟩
theorem zIo {w : World} {a : Option Addr} {n c : Nat} {d : Sd} {r : List Sd} (h : StV w a n c (d :: r)) : ∃ b off p ka kc, a = some ⟨b, off, none⟩ ∧ SdV w (p, .slice ka (kdS d).length kc) d ∧ Vs 1 w ka (kdS d).length kc (intsK (kdS d)) ∧ ∀ u, Below w.heap.size w u → ∀ j, j < 2 → u.cell? ⟨b, off + j, none⟩ = (#[p, .slice ka (kdS d).length kc] : Array Value)[j]? := by
 obtain ⟨h0, vs, h1, h2, h3⟩ := h
 have hn : 0 < n := by rw [← h0]; exact Nat.succ_pos _
 obtain ⟨b, off, ha, hb, hc⟩ := h2.at_ hn
 have h4 := h3 0 hn
 rw [show sA (d :: r) 0 = d from rfl] at h4
 obtain ⟨ka, kc, k1, k2⟩ := zMs h4
 have hv : vs = vA vs 0 :: vs.tail := by
  cases vs with
  | nil => rw [List.length_nil] at h1; omega
  | cons v vs => rfl
 obtain ⟨p, hp⟩ : ∃ p, p = (vA vs 0).1 := ⟨_, rfl⟩
 have hpair : vA vs 0 = (p, .slice ka (kdS d).length kc) := by rw [hp, ← k1]
 rw [hpair] at h4 hv
 refine ⟨b, off, p, ka, kc, ha, h4, k2, fun u hu j hj => ?_⟩
 rw [hu.cell hb, hc j (by omega), hv]
 have : j = 0 ∨ j = 1 := by omega
 rcases this with rfl | rfl <;> rfl
section
variable {ops : Array Oper} {rest : List Oper} {o : Oper} {A : Act} {w : World} {Q : Exit → Act → World → Prop} {K : Act → World → Prop} {E : Prop}
theorem zFr (hgd : o.guard = none) (p : Operand) (ho : o.op = .buildSlice 88 1 #[(0, p)]) (x : Nat) (hx : A.eval p = .pointer (some ⟨x, 0, none⟩))
  (kk : ∀ w' g, g = w.heap.size → Vs 1 w' (some ⟨g, 0, none⟩) 1 1 (ptC [x]) → Below w.heap.size w w' → wpList Tryz.prog ops Q rest (A.put o.dst (.slice (some ⟨g, 0, none⟩) 1 1)) w') : wpList Tryz.prog ops Q (o :: rest) A w :=
 wpList_plain hgd fun K hK => by
  have h := kk (w.alloc (.cells #[.pointer (some ⟨x, 0, none⟩)] 144)) w.heap.size rfl (Vs.lit (k := 1) (xs := ptC [x]) w _ rfl rfl rfl) (zAA w _)
  have hr : (Instr.buildSlice 88 1 #[(0, .pointer (some ⟨x, 0, none⟩))]).run Tryz.prog w = .ok (.slice (some ⟨w.heap.size, 0, none⟩) 1 1) (w.alloc (.cells #[.pointer (some ⟨x, 0, none⟩)] 144)) := by kernel_rfl
  unfold Oper.wp execOp
  simp only [ho, List.map_toArray, List.map_cons, List.map_nil, hx, hr, Sem.run_bind, Result.andThen_ok, Sem.run_pure]
  exact hK _ _ h
theorem zMt : (Tryz.prog.info? 88).map (·.size) = some 1 := by kernel_rfl
theorem zMu (hgd : o.guard = none) (x y : Operand) (ho : o.op = .store 88 x y) (b : Nat) (hx : A.eval x = .pointer (some ⟨b, 1, none⟩)) (a' : Option Addr) (n' c' : Nat) (hy : A.eval y = .slice a' n' c') (fa : Option Addr) (fn fc : Nat) (a : Option Addr) (n c : Nat) (h : Bk w b 90 (wkA fa fn fc a n c))
  (k : ∀ w', Bk w' b 90 (wkA fa fn fc a' n' c') → Only b w w' → wpList Tryz.prog ops Q rest (A.put o.dst undef) w') : wpList Tryz.prog ops Q (o :: rest) A w :=
 zAm hgd 88 90 x y ho b 1 [.slice fa fn fc, .slice a n c] (.slice a' n' c') hx hy zMt rfl h (by simp) rfl fun w' h' ho' => k w' h' ho'
end
theorem zLP (Ps : List Nat) : ∀ u ∈ ptC Ps, u.oneCell' = true := by
 intro u hu
 obtain ⟨p, _, rfl⟩ := List.mem_map.1 hu
 rfl
theorem zO6 (w : World) (q : Nat) (hq : q ≤ 4000000) : ∃ W, (Instr.makeSlice 146 (.int .i64 q) (.int .i64 q)).run Tryz.prog w = .ok (.slice (some ⟨w.heap.size, 0, none⟩) q q) W ∧ OwnV w.heap.size 94 1 W (some ⟨w.heap.size, 0, none⟩) q q (List.replicate q (.slice none 0 0)) ∧ Below w.heap.size w W := by
 obtain ⟨i, hi, hz, hs, hby⟩ := info_parts zJK
 have := run_make (P := Tryz.prog) w 146 94 i (.slice none 0 0) Tryz.underlying146 hi hz .i64 .i64 q q (by omega) (by omega) (by rw [hby]; omega) (by omega)
 rw [hs] at this
 simp only [Int.toNat_natCast, Nat.mul_one] at this
 refine ⟨_, this, ?_, (Below.refl _ _).alloc (Nat.le_refl _) _⟩
 have hm : (madeCells (Value.slice none 0 0).cells q).toList = List.replicate q (.slice none 0 0) := by
  simp only [madeCells, Value.cells]
  simp
  refine List.eq_replicate_iff.2 ⟨by simp, fun b hb => ?_⟩
  obtain ⟨x, _, rfl⟩ := List.mem_map.1 hb
  rw [Nat.mod_one]; rfl
 refine ⟨by simp, .inr ⟨w.heap.size, q, _, rfl, Nat.le_refl _, heap_alloc_new w _, Nat.le_refl _, by unfold maxLen; omega, ?_, ?_⟩⟩
 ·rw [← Array.length_toList, hm]; simp
 ·rw [hm, Nat.mul_one, List.take_of_length_le (by simp)]
theorem zO7 {B p M q n : Nat} {w : World} (hp : Bk w p 148 (pcA none 0 0 M (some ⟨q, 0, none⟩) n n)) (hm : MV w M []) (ha : OwnV B 94 1 w (some ⟨q, 0, none⟩) n n (List.replicate n (.slice none 0 0))) (lp : B ≤ p) (lm : B ≤ M) :
  Cur B w p M q none 0 (List.replicate n ⟨none, 0, 0⟩) [] [] (List.replicate n []) := by
 have hr : ∀ k, rA (List.replicate n ⟨none, 0, 0⟩) k = ⟨none, 0, 0⟩ := fun k => by
  unfold rA
  simp only [List.getD, List.getElem?_replicate]
  split <;> rfl
 refine ⟨by rw [List.length_replicate]; exact hp, hm, by rw [List.length_replicate]; unfold slC; rw [List.map_replicate]; exact ha, OwnV.none0, by rw [List.length_replicate, List.length_replicate], fun k hk => by rw [hr, zLO]; exact ⟨rfl, OwnV.none0⟩, fun k g hk hg => ?_, fun j k g hj hk hjk hg => ?_, lp, lm⟩
 ·rw [hr] at hg; cases hg
 ·rw [hr] at hg; cases hg
theorem Cur.kx {ex : Nat → Prop} {B p M q : Nat} {w w' : World} {ia : Option Addr} {ic : Nat} {R : List SLV} {I Im : List IT} {A : List (List IT)} (h : Cur B w p M q ia ic R I Im A) (hk : KX ex w w') (hB : ∀ b, ex b → b < B) (hI : ∀ g, ia = some ⟨g, 0, none⟩ → B ≤ g) (hR : ∀ k g, k < A.length → (rA R k).a = some ⟨g, 0, none⟩ → B ≤ g) : Cur B w' p M q ia ic R I Im A := by
 have lq := h.lq
 refine ⟨zDS h.pb hk fun e => ?_, h.mp.kx hk fun e => ?_, h.ar.kx hk fun g hg e => ?_, h.io.kx hk fun g hg e => ?_, h.rl, fun k hk' => ⟨(h.ro k hk').1, (h.ro k hk').2.kx hk fun g hg e => ?_⟩, h.si, h.sr, h.lp, h.lm⟩
 ·have := hB _ e; have := h.lp; omega
 ·have := hB _ e; have := h.lm; omega
 ·simp only [Option.some.injEq, Addr.mk.injEq, and_true] at hg
  have := hB _ e; omega
 ·have := hB _ e; have := hI g hg; omega
 ·have := hB _ e; have := hR k g hk' hg; omega
theorem Cur.rows {B p M q : Nat} {w : World} {ia : Option Addr} {ic : Nat} {R : List SLV} {I Im : List IT} {A : List (List IT)} (h : Cur B w p M q ia ic R I Im A) : (∀ g, ia = some ⟨g, 0, none⟩ → B ≤ g ∧ g < w.heap.size) ∧ ∀ k g, k < A.length → (rA R k).a = some ⟨g, 0, none⟩ → B ≤ g ∧ g < w.heap.size :=
 ⟨fun _ hg => ⟨(zAj h.io hg).1, (zAj h.io hg).2.1⟩, fun k _ hk hg => ⟨(zAj (h.ro k hk).2 hg).1, (zAj (h.ro k hk).2 hg).2.1⟩⟩
def curHas (p M q : Nat) (ia : Option Addr) (R : List SLV) (n b : Nat) : Prop := b = p ∨ b = M ∨ b = q ∨ ia = some ⟨b, 0, none⟩ ∨ ∃ k, k < n ∧ (rA R k).a = some ⟨b, 0, none⟩
structure Md (Bc : Nat) (wS u : World) : Prop where
 be : Below Bc wS u
 kt : Kt tRv wS u
 lb : Bc ≤ wS.heap.size
theorem KX.weak {ex ex' : Nat → Prop} {w w' : World} (h : KX ex w w') (he : ∀ b, ex b → ex' b) : KX ex' w w' := ⟨h.os, h.tape, h.output, h.size, fun b hb hn => h.block b hb fun e => hn (he b e)⟩
section
variable {B p M q : Nat} {w w' u u' wS : World} {ia ia' : Option Addr} {ic : Nat} {R : List SLV} {I Im : List IT} {A : List (List IT)}
theorem Cur.has_ge (h : Cur B w p M q ia ic R I Im A) {b : Nat} (hb : curHas p M q ia R A.length b) : B ≤ b ∧ b < w.heap.size := by
 have hl := h.lt
 have hr := h.rows
 rcases hb with rfl | rfl | rfl | e | ⟨k, hk, e⟩
 ·exact ⟨h.lp, hl.1⟩
 ·exact ⟨h.lm, hl.2.1⟩
 ·exact ⟨h.lq, hl.2.2⟩
 ·exact hr.1 b e
 ·exact hr.2 k b hk e
theorem Cur.has_ty (h : Cur B w p M q ia ic R I Im A) {b : Nat} (hb : curHas p M q ia R A.length b) {cs : Array Value} {t : TypeId} (hc : w.heap[b]? = some (.cells cs t (0, 0))) : tRv t := by
 rcases hb with rfl | rfl | rfl | e | ⟨k, hk, e⟩
 ·have h1 : w.heap[b]? = _ := h.pb
  rw [h1] at hc
  simp only [Option.some.injEq, Obj.cells.injEq] at hc
  exact .inr (.inr hc.2.1.symm)
 ·obtain ⟨es, cl, h1, _⟩ := h.mp
  rw [h1] at hc; cases hc
 ·obtain ⟨_, _, cur, h1⟩ := zAj h.ar rfl
  rw [h1] at hc
  simp only [Option.some.injEq, Obj.cells.injEq] at hc
  exact .inr (.inl hc.2.1.symm)
 ·obtain ⟨_, _, cur, h1⟩ := zAj h.io e
  rw [h1] at hc
  simp only [Option.some.injEq, Obj.cells.injEq] at hc
  exact .inl hc.2.1.symm
 ·obtain ⟨_, _, cur, h1⟩ := zAj (h.ro k hk).2 e
  rw [h1] at hc
  simp only [Option.some.injEq, Obj.cells.injEq] at hc
  exact .inl hc.2.1.symm
theorem Md.below (h : Md B wS u) (hb : Below u.heap.size u u') : Md B wS u' :=
 ⟨h.be.trans (hb.mono (Nat.le_trans h.lb h.be.size)), h.kt.trans (Kt.below hb), h.lb⟩
theorem Md.step (h : Md B wS u) (hc : Cur B u p M q ia ic R I Im A) (hk : KX (curHas p M q ia R A.length) u u') : Md B wS u' :=
 ⟨h.be.trans (hk.below (fun _ hb => (hc.has_ge hb).1) (Nat.le_trans h.lb h.be.size)), h.kt.trans (hk.kt fun _ _ _ hb ht => hc.has_ty hb ht), h.lb⟩
def Apt (u : World) (D : Nat) (x : IT) (p M q : Nat) (ia : Option Addr) (R : List SLV) (n : Nat) : Prop := Bk u D 93 (itA x) ∧ ¬ curHas p M q ia R n D
theorem Apt.below {D n : Nat} {x : IT} (h : Apt u D x p M q ia R n) (hb : Below u.heap.size u u') : Apt u' D x p M q ia R n := ⟨h.1.below hb, h.2⟩
theorem Apt.step {D n n' : Nat} {x : IT} {R' : List SLV} (h : Apt u D x p M q ia R n) (hk : KX (curHas p M q ia R n) u u') (hn : ∀ b, b < u.heap.size → curHas p M q ia' R' n' b → curHas p M q ia R n b) : Apt u' D x p M q ia' R' n' :=
 ⟨zDS h.1 hk h.2, fun e => h.2 (hn D h.1.lt e)⟩
theorem zHT {n : Nat} (hi : ∀ b, b < u.heap.size → ia' = some ⟨b, 0, none⟩ → ia = some ⟨b, 0, none⟩) : ∀ b, b < u.heap.size → curHas p M q ia' R n b → curHas p M q ia R n b := fun b hb h => by
 rcases h with e | e | e | e | e
 ·exact .inl e
 ·exact .inr (.inl e)
 ·exact .inr (.inr (.inl e))
 ·exact .inr (.inr (.inr (.inl (hi b hb e))))
 ·exact .inr (.inr (.inr (.inr e)))
theorem zEY {n k g' m c : Nat} (hkR : k < R.length) (hkn : k < n) (hl : (rA R k).a = some ⟨g', 0, none⟩ ∨ g' = u.heap.size) : ∀ b, b < u.heap.size → curHas p M q ia (R.set k ⟨some ⟨g', 0, none⟩, m, c⟩) n b → curHas p M q ia R n b := fun b hb h => by
 rcases h with e | e | e | e | ⟨j, hj, e⟩
 ·exact .inl e
 ·exact .inr (.inl e)
 ·exact .inr (.inr (.inl e))
 ·exact .inr (.inr (.inr (.inl e)))
 ·rw [zIl hkR] at e
  by_cases hjk : j = k
  ·rw [if_pos hjk] at e
   simp only [Option.some.injEq, Addr.mk.injEq, and_true] at e
   subst e
   rcases hl with hl | hl
   ·exact .inr (.inr (.inr (.inr ⟨k, hkn, hl⟩)))
   ·omega
  ·rw [if_neg hjk] at e
   exact .inr (.inr (.inr (.inr ⟨j, hj, e⟩)))
end
theorem CI.weak {L : List OP} {z : List Int} {tok : List TK} {F : List FD} {n : Nat} {As : List (List (List IT))} {X Pd I : List IT} {A : List (List IT)} {m m' : Nat} {D : IT → List Nat} (h : CI L z tok F n As X D Pd I A m) (hm : m ≤ m') : CI L z tok F n As X D Pd I A m' :=
 ⟨h.nd, h.it, h.sd, h.pr, h.al, h.af, h.cm, fun k hk => Nat.le_trans (h.ln k hk) hm⟩
def ComeP (L : List OP) (z : List Int) (tok : List TK) (F : List FD) (Bx W : Nat) (fa : Option Addr) (fc : Nat) (Ps : List Nat) (Is : List (List IT)) (As : List (List (List IT))) (w w' : World) : Prop :=
 ∃ p I A pa' pc', WkS Bx w' W fa F.length fc pa' pc' (Ps ++ [p]) (Is ++ [I]) (As ++ [A]) ∧ PlS L z tok F Ps.length I A ∧ Below Bx w w'
end
end Go.Proofs.YtcjbhdgjcpnklaaGreatDoor
