import Derived.Test.YtcjbhdgjcpnklaaGreatDoorN03
import Derived.Test.YtcjbhdgjcpnklaaGreatDoorN04
import Derived.Test.YtcjbhdgjcpnklaaGreatDoorN05
namespace Go.Proofs.YtcjbhdgjcpnklaaGreatDoor
section
open Go.RowKit
inductive Cn (P : List ND → Prop) : Nat → List ND → Prop
 | none : (∀ u, ¬ P u) → Cn P 0 []
 | one {t : List ND} : P t → (∀ u, P u → u = t) → Cn P 1 t
 | two {u v : List ND} : u ≠ v → P u → P v → Cn P 2 []
theorem Cn.congr {P Q : List ND → Prop} {n : Nat} {t : List ND} (h : Cn P n t) (e : ∀ u, P u ↔ Q u) : Cn Q n t := by
 cases h with
 | none h => exact .none fun u hu => h u ((e u).2 hu)
 | one h1 h2 => exact .one ((e _).1 h1) fun u hu => h2 u ((e u).2 hu)
 | two h h1 h2 => exact .two h ((e _).1 h1) ((e _).1 h2)
theorem Cn.mono {P Q : List ND → Prop} {n : Nat} {t : List ND} (h : Cn P n t) (hn : 2 ≤ n) (e : ∀ u, P u → Q u) : Cn Q n t := by
 cases h with
 | none h => omega
 | one h1 h2 => omega
 | two h h1 h2 => exact .two h (e _ h1) (e _ h2)
theorem Cn.le {P : List ND → Prop} {n : Nat} {t : List ND} (h : Cn P n t) : n ≤ 2 := by
 cases h <;> omega
theorem Cn.zero {P : List ND → Prop} {t : List ND} (h : Cn P 0 t) (u : List ND) : ¬ P u := by
 cases h with
 | none h => exact h u
theorem Cn.pos {P : List ND → Prop} {n : Nat} {t : List ND} (h : Cn P n t) (hn : 0 < n) : ∃ u, P u := by
 cases h with
 | none h => omega
 | one h1 h2 => exact ⟨_, h1⟩
 | two h h1 h2 => exact ⟨_, h1⟩
theorem zT7 {L : List OP} {z : List Int} {tok : List TK} {n : Nat} {t : List ND} (h : Cn (fun u => Dv L z tok .tr 0 tok.length u 1) n t) : CntP L z tok n t := by
 cases h with
 | none h => exact .none h
 | one h1 h2 => exact .one h1 h2
 | two h h1 h2 => exact .two h h1 h2
abbrev FV := Nat × List ND
def orV (a b : FV) : FV := if a.1 = 0 then b else if b.1 = 0 then a else (2, [])
def andV (a b : FV) : FV := if a.1 = 0 ∨ b.1 = 0 then (0, []) else if a.1 = 1 ∧ b.1 = 1 then (1, a.2 ++ b.2) else (2, [])
theorem zT8 {P Q : List ND → Prop} (hd : ∀ u, P u → Q u → False) {a b : FV} (h : Cn P a.1 a.2) (k : Cn Q b.1 b.2) : Cn (fun u => P u ∨ Q u) (orV a b).1 (orV a b).2 := by
 obtain ⟨n, t⟩ := a
 obtain ⟨m, s⟩ := b
 dsimp only at h k
 cases h with
 | none h => exact k.congr fun u => ⟨.inr, fun hu => hu.resolve_left (h u)⟩
 | @one t h1 h2 =>
  cases k with
  | none k => exact Cn.one (.inl h1) fun u hu => h2 u (hu.resolve_right (k u))
  | @one s k1 k2 => exact Cn.two (fun e : t = s => hd _ h1 (by rw [e]; exact k1)) (.inl h1) (.inr k1)
  | two k k1 k2 => exact .two k (.inr k1) (.inr k2)
 | two h h1 h2 =>
  cases k with
  | none k => exact .two h (.inl h1) (.inl h2)
  | one k1 k2 => exact .two h (.inl h1) (.inl h2)
  | two k k1 k2 => exact .two h (.inl h1) (.inl h2)
theorem zTQ {P Q R : List ND → Prop} (hR : ∀ u, R u ↔ ∃ t l, P t ∧ Q l ∧ u = t ++ l) (hi : ∀ t t' l l', P t → P t' → Q l → Q l' → t ++ l = t' ++ l' → t = t' ∧ l = l') {a b : FV} (h : Cn P a.1 a.2) (k : Cn Q b.1 b.2) : Cn R (andV a b).1 (andV a b).2 := by
 obtain ⟨n, t⟩ := a
 obtain ⟨m, s⟩ := b
 dsimp only at h k
 cases h with
 | none h => exact Cn.none fun u hu => by obtain ⟨t, _, ht, _⟩ := (hR u).1 hu; exact h t ht
 | one h1 h2 =>
  cases k with
  | none k => exact Cn.none fun u hu => by obtain ⟨_, l, _, hl, _⟩ := (hR u).1 hu; exact k l hl
  | one k1 k2 => exact Cn.one ((hR _).2 ⟨_, _, h1, k1, rfl⟩) fun u hu => by obtain ⟨t', l', ht, hl, rfl⟩ := (hR u).1 hu; rw [h2 _ ht, k2 _ hl]; rfl
  | two k k1 k2 => exact Cn.two (fun e => k (hi _ _ _ _ h1 h1 k1 k2 e).2) ((hR _).2 ⟨_, _, h1, k1, rfl⟩) ((hR _).2 ⟨_, _, h1, k2, rfl⟩)
 | two h h1 h2 =>
  cases k with
  | none k => exact Cn.none fun u hu => by obtain ⟨_, l, _, hl, _⟩ := (hR u).1 hu; exact k l hl
  | one k1 k2 => exact Cn.two (fun e => h (hi _ _ _ _ h1 h2 k1 k1 e).1) ((hR _).2 ⟨_, _, h1, k1, rfl⟩) ((hR _).2 ⟨_, _, h2, k1, rfl⟩)
  | two k k1 k2 => exact Cn.two (fun e => h (hi _ _ _ _ h1 h2 k1 k1 e).1) ((hR _).2 ⟨_, _, h1, k1, rfl⟩) ((hR _).2 ⟨_, _, h2, k1, rfl⟩)
inductive Sd
 | br (x : Nm)
 | pt (x : Nm)
 | ho (K : List Nat)
def Sd.ok : Sd → TK → Bool
 | .br x, t => t.k == 6 && txN t == x
 | .pt x, t => partB t.k (txN t) x
 | .ho _, _ => false
structure FD where
 k : Int
 n : Nm
 c : Int
 o : OP
 S : List Sd
def fA (F : List FD) (i : Nat) : FD := F.getD i ⟨0, [], 0, ([], 0, 0), []⟩
theorem zQP {F : List FD} {k : Nat} (h : k < F.length) : fA F k = F[k] := by simp [fA, List.getD, h]
def ndF (f : FD) (a b : Nat) : ND := ⟨f.k, f.n, a, b, f.c⟩
def TopF (F : List FD) (K : List Nat) (t : List ND) : Prop := ∃ x r, t = x :: r ∧ (x.k = 1 ∨ ∃ i ∈ K, x.k = (fA F i).k ∧ x.n = (fA F i).n)
section
variable (L : List OP) (z : List Int) (tok : List TK) (F : List FD)
def DS : List Sd → Nat → Nat → List ND → Prop
 | [], a, b, l => a = b ∧ l = []
 | s :: r, a, b, l => match s with
  | .ho K => ∃ c t l', a < c ∧ c ≤ b ∧ (Dv L z tok .tr a c t 1 ∧ TopF F K t) ∧ DS r c b l' ∧ l = t ++ l'
  | s => a < b ∧ s.ok (tat tok a) = true ∧ DS r (a + 1) b l
def lfD (a : Nat) : ND := ⟨1, txN (tat tok a), a, (a + 1 : Nat), 0⟩
def KD (K : List Nat) (a b : Nat) (t : List ND) : Prop :=
 (b = a + 1 ∧ leafB (tat tok a).k (freeB L z (txN (tat tok a))) = true ∧ t = [lfD tok a]) ∨ ∃ i ∈ K, ∃ l, DS L z tok F (fA F i).S a b l ∧ t = ndF (fA F i) a b :: l
structure GoodF : Prop where
 kid : ∀ (K : List Nat) (a b : Nat) (t : List ND), (∀ i ∈ K, i < F.length) → a < b → b ≤ tok.length → (Dv L z tok .tr a b t 1 ∧ TopF F K t ↔ KD L z tok F K a b t)
 top : ∀ (a b : Nat) (t : List ND), Dv L z tok .tr a b t 1 → TopF F (List.range F.length) t
 dif : ∀ i j, i < F.length → j < F.length → (fA F i).k = (fA F j).k → (fA F i).n = (fA F j).n → i = j
 nl : ∀ i, i < F.length → (fA F i).k ≠ 1
 two : ∀ i, i < F.length → 2 ≤ (fA F i).S.length
 ks : ∀ i, i < F.length → ∀ K, .ho K ∈ (fA F i).S → (∀ j ∈ K, j < F.length) ∧ K.Nodup
end
theorem zBH {L : List OP} {z : List Int} {tok : List TK} {F : List FD} {a b : Nat} {l : List ND} : DS L z tok F [] a b l ↔ a = b ∧ l = [] := Iff.rfl
theorem zBb {L : List OP} {z : List Int} {tok : List TK} {F : List FD} {K : List Nat} {r : List Sd} {a b : Nat} {l : List ND} : DS L z tok F (.ho K :: r) a b l ↔ ∃ c t l', a < c ∧ c ≤ b ∧ (Dv L z tok .tr a c t 1 ∧ TopF F K t) ∧ DS L z tok F r c b l' ∧ l = t ++ l' := Iff.rfl
theorem zCV {L : List OP} {z : List Int} {tok : List TK} {F : List FD} {x : Nm} {r : List Sd} {a b : Nat} {l : List ND} : DS L z tok F (.br x :: r) a b l ↔ a < b ∧ (Sd.br x).ok (tat tok a) = true ∧ DS L z tok F r (a + 1) b l := Iff.rfl
theorem zCv {L : List OP} {z : List Int} {tok : List TK} {F : List FD} {x : Nm} {r : List Sd} {a b : Nat} {l : List ND} : DS L z tok F (.pt x :: r) a b l ↔ a < b ∧ (Sd.pt x).ok (tat tok a) = true ∧ DS L z tok F r (a + 1) b l := Iff.rfl
section
variable {L : List OP} {z : List Int} {tok : List TK} {F : List FD}
theorem zKy : ∀ (S : List Sd) (a b : Nat) (l : List ND), DS L z tok F S a b l → a ≤ b
 | [], a, b, l, h => by have := (zBH.1 h).1; omega
 | .ho K :: r, a, b, l, h => by obtain ⟨c, _, _, h1, h2, _⟩ := zBb.1 h; omega
 | .br x :: r, a, b, l, h => by have := (zCV.1 h).1; omega
 | .pt x :: r, a, b, l, h => by have := (zCv.1 h).1; omega
theorem zIb : ∀ (S : List Sd) (a b : Nat) (l : List ND), S ≠ [] → DS L z tok F S a b l → a < b
 | [], a, b, l, h0, h => absurd rfl h0
 | .ho K :: r, a, b, l, _, h => by obtain ⟨c, _, _, h1, h2, _⟩ := zBb.1 h; omega
 | .br x :: r, a, b, l, _, h => (zCV.1 h).1
 | .pt x :: r, a, b, l, _, h => (zCv.1 h).1
theorem zOs {a b : Nat} {t : List ND} (h : Dv L z tok .tr a b t 1) : skp t 1 = some t.length ∧ ∃ x r, t = x :: r ∧ x.f = a ∧ x.t = b := ⟨(zCs h).1, (zCs h).2.1⟩
theorem zTR {a b c : Nat} {t t' l l' : List ND} (h : Dv L z tok .tr a b t 1) (h' : Dv L z tok .tr a c t' 1) (e : t ++ l = t' ++ l') : t = t' ∧ l = l' := zTc (zOs h).1 (zOs h').1 e
theorem zUN {a b c : Nat} {t : List ND} (h : Dv L z tok .tr a b t 1) (h' : Dv L z tok .tr a c t 1) : b = c := by
 obtain ⟨x, r, e, _, h1⟩ := (zOs h).2
 obtain ⟨x', r', e', _, h2⟩ := (zOs h').2
 rw [e] at e'
 cases e'
 rw [h1] at h2
 exact Int.ofNat.inj h2
theorem zR5 {a b : Nat} (n : FV) (h : n = if a = b then (1, []) else (0, [])) : Cn (DS L z tok F [] a b) n.1 n.2 := by
 subst h
 split
 ·rename_i e
  exact Cn.one (zBH.2 ⟨e, rfl⟩) fun u hu => (zBH.1 hu).2
 ·rename_i e
  exact Cn.none fun u hu => e (zBH.1 hu).1
theorem zSG {S : List Sd} (h : S ≠ []) {a b : Nat} (hab : b ≤ a) : Cn (DS L z tok F S a b) 0 [] := .none fun u hu => by have := zIb _ _ _ _ h hu; omega
theorem zRN {s : Sd} {r : List Sd} (hs : ∀ K, s ≠ .ho K) {a b n : Nat} {t : List ND} (hab : a < b) (hk : s.ok (tat tok a) = true) (h : Cn (DS L z tok F r (a + 1) b) n t) : Cn (DS L z tok F (s :: r) a b) n t := by
 refine h.congr fun u => ?_
 cases s with
 | ho K => exact absurd rfl (hs K)
 | br x => exact ⟨fun h => zCV.2 ⟨hab, hk, h⟩, fun h => (zCV.1 h).2.2⟩
 | pt x => exact ⟨fun h => zCv.2 ⟨hab, hk, h⟩, fun h => (zCv.1 h).2.2⟩
theorem zRO {s : Sd} {r : List Sd} (hs : ∀ K, s ≠ .ho K) {a b : Nat} (hk : s.ok (tat tok a) = false) : Cn (DS L z tok F (s :: r) a b) 0 [] := by
 refine .none fun u hu => ?_
 cases s with
 | ho K => exact absurd rfl (hs K)
 | br x => have := (zCV.1 hu).2.1; rw [hk] at this; cases this
 | pt x => have := (zCv.1 hu).2.1; rw [hk] at this; cases this
def FilP (L : List OP) (z : List Int) (tok : List TK) (F : List FD) (K : List Nat) (r : List Sd) (a b e : Nat) (l : List ND) : Prop :=
 ∃ c t l', a < c ∧ c < e ∧ (Dv L z tok .tr a c t 1 ∧ TopF F K t) ∧ DS L z tok F r c b l' ∧ l = t ++ l'
theorem zST {K : List Nat} {r : List Sd} {a b : Nat} : Cn (FilP L z tok F K r a b (a + 1)) 0 [] := .none fun u hu => by obtain ⟨c, _, _, h1, h2, _⟩ := hu; omega
theorem zS4 {K : List Nat} {r : List Sd} {a b e n : Nat} {t s : List ND} (h : Cn (FilP L z tok F K r a b e) n t) (hb : Cn (DS L z tok F r e b) 0 s) : Cn (FilP L z tok F K r a b (e + 1)) n t := by
 refine h.congr fun u => ⟨fun ⟨c, t, l', h1, h2, h3⟩ => ⟨c, t, l', h1, by omega, h3⟩, fun ⟨c, t, l', h1, h2, h3, h4, h5⟩ => ⟨c, t, l', h1, ?_, h3, h4, h5⟩⟩
 by_cases hc : c = e
 ·subst hc; exact absurd h4 (hb.zero _)
 ·omega
theorem zRb {K : List Nat} {r : List Sd} {a b e : Nat} {x y u : FV} (ha : a < e) (h : Cn (FilP L z tok F K r a b e) x.1 x.2) (hk : Cn (fun t => Dv L z tok .tr a e t 1 ∧ TopF F K t) y.1 y.2) (hb : Cn (DS L z tok F r e b) u.1 u.2) :
  Cn (FilP L z tok F K r a b (e + 1)) (orV x (andV y u)).1 (orV x (andV y u)).2 := by
 have h2 : Cn (fun l => ∃ t l', (Dv L z tok .tr a e t 1 ∧ TopF F K t) ∧ DS L z tok F r e b l' ∧ l = t ++ l') (andV y u).1 (andV y u).2 := zTQ (fun u => Iff.rfl) (fun t t' l l' h1 h2 _ _ e => zTR h1.1 h2.1 e) hk hb
 refine (zT8 (fun l h3 h4 => ?_) h h2).congr fun l => ⟨?_, ?_⟩
 ·obtain ⟨c, t, l', _, g2, g3, _, rfl⟩ := h3
  obtain ⟨t', l'', g3', _, ee⟩ := h4
  obtain ⟨rfl, _⟩ := zTR g3.1 g3'.1 ee
  have := zUN g3.1 g3'.1
  omega
 ·rintro (⟨c, t, l', g1, g2, g⟩ | ⟨t, l', g3, g4, g5⟩)
  ·exact ⟨c, t, l', g1, by omega, g⟩
  ·exact ⟨e, t, l', ha, by omega, g3, g4, g5⟩
 ·rintro ⟨c, t, l', g1, g2, g3, g4, g5⟩
  by_cases hc : c = e
  ·subst hc; exact .inr ⟨t, l', g3, g4, g5⟩
  ·exact .inl ⟨c, t, l', g1, by omega, g3, g4, g5⟩
theorem zTf {K : List Nat} {r : List Sd} {a b n : Nat} {t : List ND} (h : Cn (FilP L z tok F K r a b (b + 1)) n t) : Cn (DS L z tok F (.ho K :: r) a b) n t :=
 h.congr fun u => ⟨fun ⟨c, t, l', h1, h2, h3⟩ => zBb.2 ⟨c, t, l', h1, by omega, h3⟩, fun h => by obtain ⟨c, t, l', h1, h2, h3⟩ := zBb.1 h; exact ⟨c, t, l', h1, by omega, h3⟩⟩
theorem zSU {K : List Nat} {r : List Sd} {a b e n : Nat} {t : List ND} (he : e ≤ b + 1) (hn : 2 ≤ n) (h : Cn (FilP L z tok F K r a b e) n t) : Cn (DS L z tok F (.ho K :: r) a b) n t :=
 h.mono hn fun u ⟨c, t, l', h1, h2, h3⟩ => zBb.2 ⟨c, t, l', h1, by omega, h3⟩
theorem zSV {K : List Nat} {a b : Nat} (x : FV) (h : x = if b = a + 1 ∧ leafB (tat tok a).k (freeB L z (txN (tat tok a))) = true then (1, [lfD tok a]) else (0, [])) : Cn (KD L z tok F (K.take 0) a b) x.1 x.2 := by
 subst h
 rw [List.take_zero]
 split
 ·rename_i e
  exact Cn.one (.inl ⟨e.1, e.2, rfl⟩) fun u hu => by
   rcases hu with hu | ⟨_, hi, _⟩
   ·exact hu.2.2
   ·cases hi
 ·rename_i e
  exact Cn.none fun u hu => by
   rcases hu with hu | ⟨_, hi, _⟩
   ·exact e ⟨hu.1, hu.2.1⟩
   ·cases hi
theorem zR6 {K : List Nat} {k : Nat} (h : k < K.length) : K.take (k + 1) = K.take k ++ [K.getD k 0] := by rw [List.take_add_one]; simp [List.getD, h]
theorem zS5 (G : GoodF L z tok F) {K : List Nat} (hK : ∀ i ∈ K, i < F.length) (hN : K.Nodup) {a b k : Nat} (hk : k < K.length) {x y : FV} (h : Cn (KD L z tok F (K.take k) a b) x.1 x.2) (hy : Cn (DS L z tok F (fA F (K.getD k 0)).S a b) y.1 y.2) :
  Cn (KD L z tok F (K.take (k + 1)) a b) (orV x (andV (1, [ndF (fA F (K.getD k 0)) a b]) y)).1 (orV x (andV (1, [ndF (fA F (K.getD k 0)) a b]) y)).2 := by
 obtain ⟨i, hi⟩ : ∃ i, i = K.getD k 0 := ⟨_, rfl⟩
 have hm : i ∈ K := by rw [hi]; simp [List.getD, hk]
 have hni : i ∉ K.take k := by
  intro hc
  have hd : (K.take (k + 1)).Nodup := hN.sublist (List.take_sublist ..)
  rw [zR6 hk, ← hi, List.nodup_append] at hd
  exact hd.2.2 _ hc _ (List.mem_singleton.2 rfl) rfl
 rw [zR6 hk, ← hi]
 rw [← hi] at hy
 have h2 : Cn (fun l => ∃ t l', t = [ndF (fA F i) a b] ∧ DS L z tok F (fA F i).S a b l' ∧ l = t ++ l') (andV (1, [ndF (fA F i) a b]) y).1 (andV (1, [ndF (fA F i) a b]) y).2 :=
  zTQ (fun u => Iff.rfl) (fun t t' l l' h1 h2 _ _ e => by subst h1; subst h2; exact ⟨rfl, List.append_cancel_left e⟩) (Cn.one rfl fun u hu => hu) hy
 refine (zT8 (fun l h3 h4 => ?_) h h2).congr fun l => ⟨?_, ?_⟩
 ·obtain ⟨_, l', rfl, _, rfl⟩ := h4
  rcases h3 with ⟨_, _, e⟩ | ⟨j, hj, l'', _, e⟩
  ·have := (List.cons.inj e).1
   exact G.nl i (hK i hm) (congrArg ND.k this)
  ·have e := (List.cons.inj e).1
   exact hni (G.dif i j (hK i hm) (hK j (List.mem_of_mem_take hj)) (congrArg ND.k e) (congrArg ND.n e) ▸ hj)
 ·rintro ((h | ⟨j, hj, g⟩) | ⟨_, l', rfl, g, rfl⟩)
  ·exact .inl h
  ·exact .inr ⟨j, List.mem_append_left _ hj, g⟩
  ·exact .inr ⟨i, List.mem_append_right _ (List.mem_singleton.2 rfl), l', g, rfl⟩
 ·rintro (h | ⟨j, hj, l', g, e⟩)
  ·exact .inl (.inl h)
  ·rcases List.mem_append.1 hj with hj | hj
   ·exact .inl (.inr ⟨j, hj, l', g, e⟩)
   ·rw [List.mem_singleton.1 hj] at g e
    exact .inr ⟨_, l', rfl, g, e⟩
theorem zTg {K : List Nat} {a b n k : Nat} {t : List ND} (hk : K.length ≤ k) (h : Cn (KD L z tok F (K.take k) a b) n t) : Cn (KD L z tok F K a b) n t := by rwa [List.take_of_length_le hk] at h
theorem zSW {K : List Nat} {a b n k : Nat} {t : List ND} (hn : 2 ≤ n) (h : Cn (KD L z tok F (K.take k) a b) n t) : Cn (KD L z tok F K a b) n t :=
 h.mono hn fun u hu => by
  rcases hu with hu | ⟨i, hi, g⟩
  ·exact .inl hu
  ·exact .inr ⟨i, List.mem_of_mem_take hi, g⟩
theorem zS6 (G : GoodF L z tok F) {K : List Nat} (hK : ∀ i ∈ K, i < F.length) {a b n : Nat} {t : List ND} (hab : b ≤ a) (h : Cn (KD L z tok F K a b) n t) : n = 0 := by
 cases h with
 | none h => rfl
 | one h1 h2 =>
  rcases h1 with ⟨h1, _⟩ | ⟨i, hi, l, h1, _⟩
  ·omega
  ·have := zIb _ _ _ _ (by have := G.two i (hK i hi); intro e; rw [e] at this; simp at this) h1; omega
 | two h h1 h2 =>
  rcases h1 with ⟨h1, _⟩ | ⟨i, hi, l, h1, _⟩
  ·omega
  ·have := zIb _ _ _ _ (by have := G.two i (hK i hi); intro e; rw [e] at this; simp at this) h1; omega
theorem zSX {g : Gl} {a b n : Nat} {l : List ND} (h : Dv L z tok g a b l n) : l.length + a ≤ b ∧ ∀ o I first, g = .it o I first → l.length + (prs I).length + a ≤ b := by
 induction h with
 | leaf => exact ⟨by simp; omega, fun _ _ _ e => by cases e⟩
 | paren _ _ _ _ _ _ ih => exact ⟨by have := ih.1; simp; omega, fun _ _ _ e => by cases e⟩
 | @oper a b n o s l ho hs hab hd ih =>
  have h1 := ih.2 _ _ _ rfl
  have h2 := (zBl hs).2
  have h3 : 0 < (prs (itemsL s)).length := by
   unfold hasp at h2
   cases hp : prs (itemsL s) with
   | nil => rw [hp] at h2; cases h2
   | cons x r => simp
  exact ⟨by rw [List.length_cons]; omega, fun _ _ _ e => by cases e⟩
 | nil => exact ⟨by simp, fun _ _ _ e => by cases e; simp [prs]⟩
 | @part o x r first a b n l hx ha hp hd ih =>
  have h1 := ih.2 _ _ _ rfl
  have h2 : (prs (x :: r)).length = (prs r).length + 1 := by
   unfold prs
   rw [List.filter_cons_of_pos (by cases x with | nil => exact absurd rfl hx | cons _ _ => rfl)]; rfl
  exact ⟨by omega, fun _ _ _ e => by cases e; omega⟩
 | @hole o r first a c b n x t l hd _ _ hi ih1 ih2 =>
  have h1 := ih1.1
  have h2 := ih2.2 _ _ _ rfl
  have h3 : prs ([] :: r) = prs r := by unfold prs; rfl
  rw [List.length_cons] at h1
  exact ⟨by rw [List.length_append, List.length_cons]; omega, fun _ _ _ e => by cases e; rw [h3, List.length_append, List.length_cons]; omega⟩
theorem zQ8 : ∀ (S : List Sd) (a b : Nat) (l : List ND), DS L z tok F S a b l → l.length + a ≤ b
 | [], a, b, l, h => by obtain ⟨rfl, rfl⟩ := zBH.1 h; simp
 | .ho K :: r, a, b, l, h => by
  obtain ⟨c, t, l', h1, h2, ⟨h3, _⟩, h4, rfl⟩ := zBb.1 h
  have := (zSX h3).1
  have := zQ8 r c b l' h4
  rw [List.length_append]; omega
 | .br x :: r, a, b, l, h => by have := zQ8 r _ b l (zCV.1 h).2.2; omega
 | .pt x :: r, a, b, l, h => by have := zQ8 r _ b l (zCv.1 h).2.2; omega
theorem zQ0 {P : List ND → Prop} {n m : Nat} {t : List ND} (h : Cn P n t) (hP : ∀ u, P u → u.length ≤ m) : t.length ≤ m := by
 cases h with
 | none h => exact Nat.zero_le _
 | one h1 h2 => exact hP _ h1
 | two h h1 h2 => exact Nat.zero_le _
end
end
section
open Go.RowKit
def isMap (w : World) (M : Nat) : Prop := ∃ es cl, w.heap[M]? = some (.map es cl)
structure Kx (M : Nat) (w w' : World) : Prop where
 os : w'.os = w.os
 tape : w'.tape = w.tape
 output : w'.output = w.output
 size : w.heap.size ≤ w'.heap.size
 block : ∀ k, k < w.heap.size → k ≠ M → w'.heap[k]? = w.heap[k]?
theorem Kx.refl (M : Nat) (w : World) : Kx M w w := ⟨rfl, rfl, rfl, Nat.le_refl _, fun _ _ _ => rfl⟩
theorem Kx.trans {M : Nat} {a b c : World} (h : Kx M a b) (k : Kx M b c) : Kx M a c :=
 ⟨k.os.trans h.os, k.tape.trans h.tape, k.output.trans h.output, Nat.le_trans h.size k.size, fun i hi hm => (k.block i (Nat.lt_of_lt_of_le hi h.size) hm).trans (h.block i hi hm)⟩
theorem Kx.of {M : Nat} {w w' : World} (h : Below w.heap.size w w') : Kx M w w' := ⟨h.os, h.tape, h.output, h.size, fun k hk _ => h.block k hk⟩
theorem Kx.only {M : Nat} {w w' : World} (h : Only M w w') : Kx M w w' := ⟨h.os, h.tape, h.output, by rw [h.size]; exact Nat.le_refl _, fun k _ hm => h.block k hm⟩
theorem Kx.below {M B : Nat} {w w' : World} (h : Kx M w w') (hB : B ≤ M) (hM : B ≤ w.heap.size) : Below B w w' := ⟨h.os, h.tape, h.output, h.size, fun k hk => h.block k (by omega) (by omega)⟩
theorem isMap.below {w w' : World} {M : Nat} (h : isMap w M) (hb : Below w.heap.size w w') : isMap w' M := by
 obtain ⟨es, cl, h⟩ := h
 exact ⟨es, cl, (hb.block M (Array.getElem?_eq_some_iff.1 h).1).trans h⟩
theorem Kx.blk {M : Nat} {w w' : World} (h : Kx M w w') (hm : isMap w M) {b : Nat} {cs : Array Value} {t : TypeId} {fr : Nat × Nat} (hb : w.heap[b]? = some (.cells cs t fr)) : w'.heap[b]? = some (.cells cs t fr) := by
 refine (h.block b (Array.getElem?_eq_some_iff.1 hb).1 fun e => ?_).trans hb
 obtain ⟨es, cl, hm⟩ := hm
 rw [e, hm] at hb
 cases hb
theorem Kx.cell {M : Nat} {w w' : World} (h : Kx M w w') (hm : isMap w M) {x : Addr} {v : Value} (hx : w.cell? x = some v) : w'.cell? x = some v := by
 unfold World.cell? at hx ⊢
 cases hb : w.heap[x.block]? with
 | none => rw [hb] at hx; cases hx
 | some o =>
  cases o with
  | cells cs t fr => rw [h.blk hm hb]; rw [hb] at hx; exact hx
  | _ => rw [hb] at hx; cases hx
theorem Vs.kx {k : Nat} {M : Nat} {w w' : World} {a : Option Addr} {n c : Nat} {xs : List Value} (v : Vs k w a n c xs) (h : Kx M w w') (hm : isMap w M) : Vs k w' a n c xs :=
 ⟨v.hl, v.lc, v.cm, fun h0 => by
  obtain ⟨b, off, ha, hb, hc⟩ := v.at_ h0
  refine ⟨b, off, ha, Nat.lt_of_lt_of_le hb h.size, fun j hj => ?_⟩
  have hj' : j < xs.length := by rw [v.hl]; exact hj
  have h1 := hc j hj
  rw [List.getElem?_eq_getElem hj'] at h1 ⊢
  exact h.cell hm h1⟩
theorem Ts.kx {M : Nat} {w w' : World} {a : Option Addr} {n c : Nat} {L : List TK} (v : Ts w a n c L) (h : Kx M w w') (hm : isMap w M) : Ts w' a n c L :=
 ⟨v.hl, v.lc, v.cm, fun h0 => by
  obtain ⟨b, off, ha, hb, hc⟩ := v.at_ h0
  refine ⟨b, off, ha, Nat.lt_of_lt_of_le hb h.size, fun j hj i hi => ?_⟩
  have h1 := hc j hj i hi
  have hi' : i < (cellsT (tat L j)).length := hi
  rw [List.getElem?_eq_getElem hi'] at h1 ⊢
  exact h.cell hm h1⟩
theorem Tab.kx {M : Nat} {w w' : World} (v : Tab w) (h : Kx M w w') (hm : isMap w M) : Tab w' :=
 ⟨Nat.lt_of_lt_of_le v.1 h.size, fun i x hx => h.cell hm (v.2 i x hx)⟩
theorem C1.kx {M : Nat} {w w' : World} {b : Nat} {t : TypeId} {x : Value} (v : C1 w b t x) (h : Kx M w w') (hm : isMap w M) : C1 w' b t x := h.blk hm v
theorem T5.kx {M : Nat} {w w' : World} {b : Nat} {k f t : Int} {x : Nm} {e : Int} (v : T5 w b k f t x e) (h : Kx M w w') (hm : isMap w M) : T5 w' b k f t x e := h.blk hm v
end
section
open Go.RowKit
def thereB (tok : List TK) (o : OP) : Bool := match ofS o.1 with
 | none => false
 | some s => s.P.all fun p => tok.any fun t => partB t.k (txN t) p
def FO (L : List OP) (tok : List TK) : List OP := L.filter (thereB tok)
def endsK (z : List Int) (O : List OP) (o : OP) (right : Bool) : List Nat := (List.range (O.length + 1)).filter fun j => j == 0 || fitsB z o (opA O (j - 1)) right
def stepsF (z : List Int) (O : List OP) (o : OP) : List Nm → Bool → List Sd
 | [], _ => []
 | x :: r, first => (if x = [] then .ho (if (first || r.isEmpty) = true then endsK z O o (!first) else List.range (O.length + 1)) else .pt x) :: stepsF z O o r false
def itemsO (o : OP) : List Nm := match ofS o.1 with
 | none => []
 | some s => itemsL s
theorem zA8 {o : OP} {s : SH} (h : ofS o.1 = some s) : itemsO o = itemsL s := by unfold itemsO; rw [h]
def opF (z : List Int) (O : List OP) (o : OP) : FD := ⟨3, o.1, (holN (itemsO o) : Nat), o, stepsF z O o (itemsO o) true⟩
def brF (n : Nat) : FD := ⟨2, [], 1, ([], 0, 0), [.br [40], .ho (List.range n), .br [41]]⟩
def FF (z : List Int) (O : List OP) : List FD := brF (O.length + 1) :: O.map (opF z O)
theorem zQo (z : List Int) (O : List OP) : (FF z O).length = O.length + 1 := by simp [FF]
theorem zQv (z : List Int) (O : List OP) : fA (FF z O) 0 = brF (O.length + 1) := rfl
theorem zQh (z : List Int) (O : List OP) {j : Nat} (h : j < O.length) : fA (FF z O) (j + 1) = opF z O (opA O j) := by
 rw [zQP (by rw [zQo]; omega), zBh h]
 simp [FF]
theorem zQ1 (z : List Int) (O : List OP) (o : OP) : ∀ (I : List Nm) (first : Bool), (stepsF z O o I first).length = I.length
 | [], _ => rfl
 | x :: r, first => by rw [stepsF, List.length_cons, zQ1 z O o r false, List.length_cons]
theorem zSY (z : List Int) (O : List OP) (o : OP) (right : Bool) : (∀ j ∈ endsK z O o right, j < O.length + 1) ∧ (endsK z O o right).Nodup :=
 ⟨fun _ hj => List.mem_range.1 (List.mem_filter.1 hj).1, List.nodup_range.sublist (List.filter_sublist ..)⟩
theorem zR7 (n : Nat) : (∀ j ∈ List.range n, j < n) ∧ (List.range n).Nodup := ⟨fun _ hj => List.mem_range.1 hj, List.nodup_range⟩
theorem zR8 (z : List Int) (O : List OP) (o : OP) : ∀ (I : List Nm) (first : Bool) (K : List Nat), .ho K ∈ stepsF z O o I first → (∀ j ∈ K, j < O.length + 1) ∧ K.Nodup
 | [], _, K, h => by cases h
 | x :: r, first, K, h => by
  rw [stepsF] at h
  rcases List.mem_cons.1 h with h | h
  ·split at h
   ·cases h
    split
    ·exact zSY ..
    ·exact zR7 _
   ·cases h
  ·exact zR8 z O o r false K h
theorem zSZ : ∀ (P : List Nm) (p : Nm), p ∈ P → p ∈ sepL P
 | [], p, h => by cases h
 | [q], p, h => h
 | q :: q' :: P, p, h => by
  rcases List.mem_cons.1 h with rfl | h
  ·exact List.mem_cons_self ..
  ·exact List.mem_cons_of_mem _ (List.mem_cons_of_mem _ (zSZ (q' :: P) p h))
theorem zSa {s : SH} {p : Nm} (h : p ∈ s.P) : p ∈ itemsL s := List.mem_append_right _ (List.mem_append_left _ (zSZ _ _ h))
section
variable {L : List OP} {z : List Int} {tok : List TK}
theorem zRc {o : OP} : ∀ (I : List Nm) (first : Bool) (a b n : Nat) (l : List ND), Dv L z tok (.it o I first) a b l n → ∀ x ∈ I, x ≠ [] → ∃ q, q < tok.length ∧ partB (tat tok q).k (txN (tat tok q)) x = true
 | [], first, a, b, n, l, h, x, hx, _ => by cases hx
 | y :: r, first, a, b, n, l, h, x, hx, h0 => by
  cases h with
  | part hy ha hp hd =>
   rcases List.mem_cons.1 hx with rfl | hx
   ·exact ⟨a, ha, hp⟩
   ·exact zRc r false _ _ _ _ hd x hx h0
  | hole hd h1 h2 h3 =>
   rcases List.mem_cons.1 hx with rfl | hx
   ·exact absurd rfl h0
   ·exact zRc r false _ _ _ _ h3 x hx h0
theorem zQ4 {o : OP} {s : SH} {a b n : Nat} {l : List ND} (hs : ofS o.1 = some s) (h : Dv L z tok (.it o (itemsL s) true) a b l n) : thereB tok o = true := by
 unfold thereB
 rw [hs]
 refine List.all_eq_true.2 fun p hp => ?_
 obtain ⟨q, hq, h1⟩ := zRc _ _ _ _ _ _ h p (zSa hp) ((zAc hs).2 p hp).1
 exact List.any_eq_true.2 ⟨_, zSM hq, h1⟩
theorem zQ9 {o : OP} (h : o ∈ FO L tok) : o ∈ L ∧ ∃ s, ofS o.1 = some s := by
 refine ⟨(List.mem_filter.1 h).1, ?_⟩
 have h1 := (List.mem_filter.1 h).2
 unfold thereB at h1
 cases hs : ofS o.1 with
 | none => rw [hs] at h1; cases h1
 | some s => exact ⟨s, rfl⟩
theorem zTh (hD : Dst L) {o o' : OP} (h : o ∈ FO L tok) (h' : o' ∈ FO L tok) (e : o.1 = o'.1) : o = o' := by
 have h1 := zCH hD (zQ9 h).1
 have h2 := zCH hD (zQ9 h').1
 rw [e, h2] at h1
 exact (Option.some.inj h1).symm
theorem zR9 (hD : Dst L) {o' : OP} (h' : o' ∈ FO L tok) {K : List Nat} (hK : ∀ j ∈ K, j < (FO L tok).length + 1) {x : ND} {t : List ND} (hk : x.k = 3) (hn : x.n = o'.1) :
  TopF (FF z (FO L tok)) K (x :: t) ↔ ∃ j, j < (FO L tok).length ∧ opA (FO L tok) j = o' ∧ j + 1 ∈ K := by
 constructor
 ·rintro ⟨x', r, e, h⟩
  cases e
  rcases h with h | ⟨i, hi, h1, h2⟩
  ·rw [hk] at h; cases h
  ·cases i with
   | zero =>
    rw [zQv, hk] at h1
    cases h1
   | succ j =>
    have hj := hK _ hi
    rw [zQh z _ (by omega), hn] at h2
    exact ⟨j, by omega, (zTh hD h' (zBZ (by omega)) h2).symm, hi⟩
 ·rintro ⟨j, hj, e, hi⟩
  refine ⟨x, t, rfl, .inr ⟨j + 1, hi, ?_, ?_⟩⟩
  ·rw [zQh z _ hj]; exact hk
  ·rw [zQh z _ hj, e]; exact hn
theorem zRu (_ : Dst L) {a b : Nat} {t : List ND} (h : Dv L z tok .tr a b t 1) : TopF (FF z (FO L tok)) (List.range ((FO L tok).length + 1)) t := by
 cases h with
 | leaf => exact ⟨_, _, rfl, .inl rfl⟩
 | paren => exact ⟨_, _, rfl, .inr ⟨0, by simp, rfl, rfl⟩⟩
 | @oper _ _ _ o s _ ho hs hab hd =>
  obtain ⟨j, hj, e⟩ := zIY (L := FO L tok) (List.mem_filter.2 ⟨(zAq ho).1, zQ4 hs hd⟩)
  refine ⟨_, _, rfl, .inr ⟨j + 1, by simp; omega, ?_, ?_⟩⟩
  ·rw [zQh z _ hj]; rfl
  ·rw [zQh z _ hj, e]; rfl
theorem zQ6 (hD : Dst L) {o : OP} {right : Bool} {a b : Nat} {x : ND} {t : List ND} (h : Dv L z tok .tr a b (x :: t) 1) : TopF (FF z (FO L tok)) (endsK z (FO L tok) o right) (x :: t) ↔ mayH L z o x right = true := by
 cases h with
 | leaf => exact ⟨fun _ => by unfold mayH; exact if_neg (fun h => by cases h), fun _ => ⟨_, _, rfl, .inl rfl⟩⟩
 | paren => exact ⟨fun _ => by unfold mayH; exact if_neg (fun h => by cases h), fun _ => ⟨_, _, rfl, .inr ⟨0, by simp [endsK], rfl, rfl⟩⟩⟩
 | @oper _ _ _ o' s _ ho hs hab hd =>
  have hm : o' ∈ FO L tok := List.mem_filter.2 ⟨(zAq ho).1, zQ4 hs hd⟩
  rw [zR9 hD hm (zSY ..).1 rfl rfl]
  have he : ∀ c, mayH L z o ⟨3, o'.1, a, b, c⟩ right = fitsB z o o' right := fun c => by
   unfold mayH
   rw [if_pos rfl, ho]
  rw [he]
  constructor
  ·rintro ⟨j, hj, rfl, hi⟩
   have := (List.mem_filter.1 hi).2
   simpa using this
  ·intro hf
   obtain ⟨j, hj, e⟩ := zIY hm
   exact ⟨j, hj, e, List.mem_filter.2 ⟨by simp; omega, by rw [Nat.add_sub_cancel, e, hf]; simp⟩⟩
theorem zTi (hD : Dst L) {o : OP} : ∀ (I : List Nm) (first : Bool) (a b n : Nat) (l : List ND), (first = true → 2 ≤ I.length) → Dv L z tok (.it o I first) a b l n → DS L z tok (FF z (FO L tok)) (stepsF z (FO L tok) o I first) a b l ∧ n = holN I
 | [], first, a, b, n, l, _, h => by
  cases h with
  | nil ha => exact ⟨⟨rfl, rfl⟩, rfl⟩
 | x :: r, first, a, b, n, l, hI, h => by
  cases h with
  | part hx ha hp hd =>
   obtain ⟨h1, h2⟩ := zTi hD r false _ _ _ _ (fun h => by cases h) hd
   rw [stepsF, if_neg hx, zGb hx]
   exact ⟨zCv.2 ⟨by have := zKy _ _ _ _ h1; omega, hp, h1⟩, h2⟩
  | hole hd h1 h2 h3 =>
   obtain ⟨h4, h5⟩ := zTi hD r false _ _ _ _ (fun h => by cases h) h3
   rw [stepsF, if_pos rfl, zGa]
   refine ⟨zBb.2 ⟨_, _, _, (zCs hd).2.2.1, zKy _ _ _ _ h4, ⟨hd, ?_⟩, h4, rfl⟩, by rw [h5]⟩
   cases first with
   | true => exact (zQ6 hD hd).2 (h1 rfl)
   | false =>
    cases hr : r with
    | nil => exact (zQ6 hD hd).2 (h2 hr)
    | cons y r => exact zRu hD hd
theorem zTj (hD : Dst L) {o : OP} : ∀ (I : List Nm) (first : Bool) (a b : Nat) (l : List ND), (first = true → 2 ≤ I.length) → b ≤ tok.length → DS L z tok (FF z (FO L tok)) (stepsF z (FO L tok) o I first) a b l → Dv L z tok (.it o I first) a b l (holN I)
 | [], first, a, b, l, _, hb, h => by
  obtain ⟨rfl, rfl⟩ := zBH.1 h
  exact .nil hb
 | x :: r, first, a, b, l, hI, hb, h => by
  by_cases hx : x = []
  ·subst hx
   rw [stepsF, if_pos rfl] at h
   obtain ⟨c, t, l', h1, h2, ⟨h3, h4⟩, h5, rfl⟩ := zBb.1 h
   have h6 := zTj hD r false _ _ _ (fun h => by cases h) hb h5
   obtain ⟨y, t', rfl, _⟩ := (zOs h3).2
   rw [zGa]
   refine .hole h3 (fun hf => ?_) (fun hr => ?_) h6
   ·subst hf
    exact (zQ6 hD h3).1 h4
   ·subst hr
    cases first with
    | true => have := hI rfl; simp at this
    | false => exact (zQ6 hD h3).1 h4
  ·rw [stepsF, if_neg hx] at h
   obtain ⟨h1, h2, h3⟩ := zCv.1 h
   rw [zGb hx]
   exact .part hx (by omega) h2 (zTj hD r false _ _ _ (fun h => by cases h) hb h3)
theorem zTk (hS : Srt L) : GoodF L z tok (FF z (FO L tok)) := by
 have hD := zEP hS
 refine ⟨fun K a b t hK hab hb => ⟨?_, ?_⟩, fun a b t h => by rw [zQo]; exact zRu hD h, ?_, ?_, ?_, ?_⟩
 ·rintro ⟨hd, ht⟩
  rw [zQo] at hK
  cases hd with
  | leaf ha hl => exact .inl ⟨rfl, hl, rfl⟩
  | @paren _ b t hb' k1 t1 k2 t2 hd =>
   right
   obtain ⟨x', r, e, h⟩ := ht
   cases e
   have h0 : 0 ∈ K := by
    rcases h with h | ⟨i, hi, h1, _⟩
    ·cases h
    ·cases i with
     | zero => exact hi
     | succ j => have := hK _ hi; rw [zQh z _ (by omega)] at h1; cases h1
   refine ⟨0, h0, t, ?_, rfl⟩
   rw [zQv]
   have hlt := (zCs hd).2.2.1
   refine zCV.2 ⟨hab, by simp [Sd.ok, k1, t1], zBb.2 ⟨b, t, [], hlt, by omega, ⟨hd, zRu hD hd⟩, zCV.2 ⟨by omega, by simp [Sd.ok, k2, t2], zBH.2 ⟨rfl, rfl⟩⟩, by simp⟩⟩
  | @oper _ _ n o s l ho hs hab' hd =>
   right
   have hm : o ∈ FO L tok := List.mem_filter.2 ⟨(zAq ho).1, zQ4 hs hd⟩
   obtain ⟨j, hj, e, hi⟩ := (zR9 hD hm hK rfl rfl).1 ht
   obtain ⟨h1, h2⟩ := zTi hD _ _ _ _ _ _ (fun _ => (zBl hs).1) hd
   refine ⟨j + 1, hi, l, ?_, ?_⟩
   ·rw [zQh z _ hj, e]
    show DS L z tok _ (stepsF z (FO L tok) o (itemsO o) true) a b l
    rw [zA8 hs]; exact h1
   ·rw [zQh z _ hj, e]
    unfold ndF opF
    dsimp only
    rw [zA8 hs, h2]
 ·rintro (⟨rfl, hl, rfl⟩ | ⟨i, hi, l, hds, rfl⟩)
  ·exact ⟨.leaf (by omega) hl, _, _, rfl, .inl rfl⟩
  ·have hlt := hK i hi
   rw [zQo] at hlt
   refine ⟨?_, _, _, rfl, .inr ⟨i, hi, rfl, rfl⟩⟩
   cases i with
   | zero =>
    rw [zQv] at hds ⊢
    obtain ⟨_, h1, h2⟩ := zCV.1 hds
    obtain ⟨c, t, l', h3, h4, ⟨h5, _⟩, h6, rfl⟩ := zBb.1 h2
    obtain ⟨h7, h8, h9⟩ := zCV.1 h6
    obtain ⟨rfl, rfl⟩ := zBH.1 h9
    simp only [Sd.ok, Bool.and_eq_true, beq_iff_eq] at h1 h8
    rw [List.append_nil]
    exact .paren (by omega) h1.1 h1.2 h8.1 h8.2 h5
   | succ j =>
    have hj : j < (FO L tok).length := by omega
    rw [zQh z _ hj] at hds ⊢
    obtain ⟨h1, s, hs⟩ := zQ9 (zBZ hj)
    have h2 : DS L z tok (FF z (FO L tok)) (stepsF z (FO L tok) (opA (FO L tok) j) (itemsO (opA (FO L tok) j)) true) a b l := hds
    rw [zA8 hs] at h2
    have h3 := zTj hD _ _ _ _ _ (fun _ => (zBl hs).1) hb h2
    have h4 := Dv.oper (zCH hD h1) hs hab h3
    unfold ndF opF
    dsimp only
    rw [zA8 hs]
    exact h4
 ·intro i j hi hj h1 h2
  rw [zQo] at hi hj
  cases i with
  | zero =>
   cases j with
   | zero => rfl
   | succ j => rw [zQh z _ (by omega), zQv] at h1; cases h1
  | succ i =>
   cases j with
   | zero => rw [zQh z _ (by omega), zQv] at h1; cases h1
   | succ j =>
    rw [zQh z _ (by omega), zQh z _ (by omega)] at h2
    have := zTb (L := FO L tok) (List.Pairwise.sublist (List.filter_sublist ..) hS) (by omega) (by omega) h2
    omega
 ·intro i hi h1
  rw [zQo] at hi
  cases i with
  | zero => cases h1
  | succ i => rw [zQh z _ (by omega)] at h1; cases h1
 ·intro i hi
  rw [zQo] at hi
  cases i with
  | zero => exact Nat.le_succ 2
  | succ i =>
   rw [zQh z _ (by omega)]
   obtain ⟨_, s, hs⟩ := zQ9 (zBZ (L := FO L tok) (k := i) (by omega))
   show 2 ≤ (stepsF z (FO L tok) (opA (FO L tok) i) (itemsO (opA (FO L tok) i)) true).length
   rw [zQ1, zA8 hs]
   exact (zBl hs).1
 ·intro i hi K hK
  rw [zQo] at hi ⊢
  cases i with
  | zero =>
   rw [zQv] at hK
   simp only [brF, List.mem_cons, Sd.ho.injEq, reduceCtorEq, false_or, or_false, List.not_mem_nil] at hK
   subst hK
   exact zR7 _
  | succ i =>
   rw [zQh z _ (by omega)] at hK
   exact zR8 _ _ _ _ _ _ hK
end
end
end Go.Proofs.YtcjbhdgjcpnklaaGreatDoor
