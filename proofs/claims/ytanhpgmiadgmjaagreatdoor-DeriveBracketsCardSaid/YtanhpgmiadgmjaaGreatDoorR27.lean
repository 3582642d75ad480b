import Derived.Test.YtanhpgmiadgmjaaGreatDoorR26
namespace Go.Proofs.YtanhpgmiadgmjaaGreatDoor
open Go.RowKit
inductive Gl
 | tr
 | it (o : OP) (I : List Nm) (first : Bool)
inductive Dv (L : List OP) (z : List Int) (tok : List TK) : Gl → Nat → Nat → List ND → Nat → Prop
 | leaf {a : Nat} : a < tok.length → leafB (tat tok a).k (freeB L z (txN (tat tok a))) = true → Dv L z tok .tr a (a + 1) [⟨1, txN (tat tok a), a, (a + 1 : Nat), 0⟩] 1
 | paren {a b : Nat} {t : List ND} : b < tok.length → (tat tok a).k = 6 → txN (tat tok a) = [40] → (tat tok b).k = 6 → txN (tat tok b) = [41] → Dv L z tok .tr (a + 1) b t 1 → Dv L z tok .tr a (b + 1) (⟨2, [], a, (b + 1 : Nat), 1⟩ :: t) 1
 | oper {a b n : Nat} {o : OP} {s : SH} {l : List ND} : findO L o.1 = some o → ofS o.1 = some s → a < b → Dv L z tok (.it o (itemsL s) true) a b l n → Dv L z tok .tr a b (⟨3, o.1, a, b, n⟩ :: l) 1
 | nil {o : OP} {first : Bool} {a : Nat} : a ≤ tok.length → Dv L z tok (.it o [] first) a a [] 0
 | part {o : OP} {x : Nm} {r : List Nm} {first : Bool} {a b n : Nat} {l : List ND} : x ≠ [] → a < tok.length → partB (tat tok a).k (txN (tat tok a)) x = true → Dv L z tok (.it o r false) (a + 1) b l n → Dv L z tok (.it o (x :: r) first) a b l n
 | hole {o : OP} {r : List Nm} {first : Bool} {a c b n : Nat} {x : ND} {t l : List ND} : Dv L z tok .tr a c (x :: t) 1 → (first = true → mayH L z o x false = true) → (r = [] → mayH L z o x true = true) → Dv L z tok (.it o r false) c b l n → Dv L z tok (.it o ([] :: r) first) a b (x :: t ++ l) (n + 1)
theorem kid_app {m n : Nat} {l : List ND} (h : skp l m = some n) (y : List ND) : kidN m (l ++ y) = kidN m l := by
 have h1 := kid_take m (l ++ y) n (skp_app _ _ _ h y) l.length (skp_le _ _ _ h)
 rw [List.take_left] at h1
 exact h1.symm
theorem node_app {L : List OP} {z : List Int} {tok : List TK} {x : ND} {l : List ND} {n : Nat} (h : skp (x :: l) 1 = some n) (y : List ND) : nodeS L z tok (x :: l ++ y) = nodeS L z tok (x :: l) := by
 have h' := h
 rw [show 1 = 0 + 1 from rfl, skp_cons, Nat.add_zero] at h'
 obtain ⟨p, hp, _⟩ := Option.map_eq_some_iff.1 h'
 rw [List.cons_append]
 show (spanB tok x && (if x.k = 1 then leafNB L z tok x else if x.k = 2 then parenB tok x (l ++ y) else if x.k = 3 then decide (0 ≤ x.c) && operB L z tok x (l ++ y) else false)) = (spanB tok x && (if x.k = 1 then leafNB L z tok x else if x.k = 2 then parenB tok x l else if x.k = 3 then decide (0 ≤ x.c) && operB L z tok x l else false))
 have ho : operB L z tok x (l ++ y) = operB L z tok x l := by
  unfold operB; rw [kid_app hp]
 rw [ho]
 by_cases hc : x.c = 1
 ·have hp1 : parenB tok x (l ++ y) = parenB tok x l := by
   rw [hc] at hp
   cases l with
   | nil => cases hp
   | cons u l => rfl
  rw [hp1]
 ·have hp1 : ∀ l : List ND, parenB tok x l = false := fun l => by
   unfold parenB
   rw [show (x.c == 1) = false by simpa using hc, Bool.false_and]
  rw [hp1, hp1]
def DvP (L : List OP) (z : List Int) (tok : List TK) : Gl → Nat → Nat → List ND → Nat → Prop
 | .tr, a, b, l, _ => skp l 1 = some l.length ∧ (∃ x r, l = x :: r ∧ x.f = a ∧ x.t = b) ∧ a < b ∧ b ≤ tok.length ∧ ∀ i, i < l.length → nodeS L z tok (l.drop i) = true
 | .it o I first, a, b, l, n => skp l n = some l.length ∧ a ≤ b ∧ b ≤ tok.length ∧ (∀ i, i < l.length → nodeS L z tok (l.drop i) = true) ∧ itB L z tok o b I first a (kidN n l) = true
theorem dv_out {L : List OP} {z : List Int} {tok : List TK} {g : Gl} {a b n : Nat} {l : List ND} (h : Dv L z tok g a b l n) : DvP L z tok g a b l n := by
 induction h with
 | @leaf a ha hl =>
  refine ⟨rfl, ⟨_, _, rfl, rfl, rfl⟩, by omega, by omega, fun i hi => ?_⟩
  obtain rfl : i = 0 := by simp at hi; exact hi
  rw [List.drop_zero]
  unfold nodeS spanB leafNB tkn
  simp [hl]
  omega
 | @paren a b t hb k1 t1 k2 t2 _ ih =>
  obtain ⟨h1, ⟨x, r, rfl, hf, ht⟩, h3, h4, h5⟩ := ih
  refine ⟨?_, ⟨_, _, rfl, rfl, rfl⟩, by omega, by omega, fun i hi => ?_⟩
  ·rw [show 1 = 0 + 1 from rfl, skp_cons]
   show (skp (x :: r) 1).map (· + 1) = _
   rw [h1]; rfl
  ·cases i with
   | succ i => rw [List.drop_succ_cons]; exact h5 i (by simpa using hi)
   | zero =>
    rw [List.drop_zero]
    have e1 : tkn tok (((b + 1 : Nat) : Int) - 1) = tat tok b := by unfold tkn; congr 1; omega
    have e2 : tkn tok (a : Int) = tat tok a := rfl
    show (spanB tok ⟨2, [], a, (b + 1 : Nat), 1⟩ && parenB tok ⟨2, [], a, (b + 1 : Nat), 1⟩ (x :: r)) = true
    unfold spanB parenB
    simp only [Bool.and_eq_true, decide_eq_true_eq, beq_iff_eq, e1, e2]
    exact ⟨⟨by omega, by omega, by omega⟩, trivial, trivial, by omega, k1, t1, k2, t2, by omega, by omega⟩
 | @oper a b n o s l ho hs hab _ ih =>
  obtain ⟨h1, h2, h3, h4, h5⟩ := ih
  refine ⟨?_, ⟨_, _, rfl, rfl, rfl⟩, hab, h3, fun i hi => ?_⟩
  ·rw [show 1 = 0 + 1 from rfl, skp_cons]
   show (skp l (n + 0)).map (· + 1) = _
   rw [Nat.add_zero, h1]; rfl
  ·cases i with
   | succ i => rw [List.drop_succ_cons]; exact h4 i (by simpa using hi)
   | zero =>
    rw [List.drop_zero]
    show (spanB tok _ && (decide ((0 : Int) ≤ (n : Int)) && operB L z tok ⟨3, o.1, a, b, n⟩ l)) = true
    unfold spanB operB
    simp only [Bool.and_eq_true, decide_eq_true_eq, ho, hs]
    exact ⟨⟨by omega, by omega, by omega⟩, by omega, h5⟩
 | @nil o first a ha =>
  exact ⟨rfl, Nat.le_refl _, ha, (fun i hi => by cases hi), (by unfold itB kidN; simp)⟩
 | @part o x r first a b n l hx ha hp _ ih =>
  obtain ⟨h1, h2, h3, h4, h5⟩ := ih
  refine ⟨h1, by omega, h3, h4, ?_⟩
  unfold itB
  rw [if_pos hx]
  have e2 : tkn tok (a : Int) = tat tok a := rfl
  simp only [Bool.and_eq_true, decide_eq_true_eq, e2]
  exact ⟨⟨by omega, by omega⟩, hp, h5⟩
 | @hole o r first a c b n x t l _ hm1 hm2 _ ih1 ih2 =>
  obtain ⟨h1, ⟨x', r', e, hf, ht⟩, h3, h4, h5⟩ := ih1
  obtain ⟨g1, g2, g3, g4, g5⟩ := ih2
  cases e
  have hs1 : skp (x :: t ++ l) 1 = some (x :: t).length := skp_app _ _ _ h1 _
  have hd : (x :: t ++ l).drop (x :: t).length = l := List.drop_left ..
  refine ⟨?_, by omega, g3, fun i hi => ?_, ?_⟩
  ·rw [Nat.add_comm, skp_add, hs1]
   show (skp ((x :: t ++ l).drop (x :: t).length) n).map _ = _
   rw [hd, g1, List.length_append]; rfl
  ·by_cases hit : i < (x :: t).length
   ·rw [List.drop_append_of_le_length (Nat.le_of_lt hit)]
    obtain ⟨m, hm⟩ := skp_node _ _ h1 i hit
    have hc := List.drop_eq_getElem_cons hit
    have hn := h5 i hit
    rw [hc] at hm hn ⊢
    rw [node_app hm]; exact hn
   ·have e2 : (x :: t ++ l).drop i = l.drop (i - (x :: t).length) := by
     rw [List.drop_append, List.drop_of_length_le (by omega), List.nil_append]
    rw [e2]
    exact g4 _ (by rw [List.length_append] at hi; omega)
  ·rw [List.cons_append] at hs1 hd ⊢
   rw [kid_succ hs1, hd]
   unfold itB
   rw [if_neg (by simp)]
   simp only [Bool.and_eq_true, beq_iff_eq, Bool.or_eq_true, Bool.not_eq_true']
   refine ⟨hf, ?_, ?_, by rw [ht]; exact g5⟩
   ·cases first with
    | true => exact .inr (hm1 rfl)
    | false => exact .inl rfl
   ·cases r with
    | nil => exact .inr (hm2 rfl)
    | cons y r => exact .inl rfl
theorem it_in {L : List OP} {z : List Int} {tok : List TK} {N : Nat} {o : OP} {to_ : Int} (hto : to_ ≤ tok.length)
  (IH : ∀ (x : ND) (r : List ND) (n : Nat), (x :: r).length ≤ N → skp (x :: r) 1 = some n → (∀ i, i < (x :: r).length → nodeS L z tok ((x :: r).drop i) = true) → Dv L z tok .tr x.f.toNat x.t.toNat ((x :: r).take n) 1) :
  ∀ (I : List Nm) (first : Bool) (a : Int) (m : Nat) (l : List ND) (p : Nat), l.length ≤ N → skp l m = some p → (∀ i, i < l.length → nodeS L z tok (l.drop i) = true) → itB L z tok o to_ I first a (kidN m l) = true → 0 ≤ a → Dv L z tok (.it o I first) a.toNat to_.toNat (l.take p) m
 | [], first, a, m, l, p, hl, hp, hn, h, ha => by
  unfold itB at h
  rw [Bool.and_eq_true, beq_iff_eq, List.isEmpty_iff] at h
  obtain ⟨h1, rfl⟩ := h
  have hm : m = 0 := by rw [← kid_len m l p hp, h1]; rfl
  subst hm
  rw [skp_zero] at hp; cases hp
  exact .nil (by omega)
 | x :: r, first, a, m, l, p, hl, hp, hn, h, ha => by
  unfold itB at h
  by_cases hx : x ≠ []
  ·rw [if_pos hx] at h
   simp only [Bool.and_eq_true, decide_eq_true_eq] at h
   have ih := it_in hto IH r false (a + 1) m l p hl hp hn h.2.2 (by omega)
   rw [show (a + 1).toNat = a.toNat + 1 by omega] at ih
   exact .part hx (by omega) h.2.1 ih
  ·rw [if_neg hx] at h
   obtain rfl : x = [] := Classical.not_not.1 hx
   cases m with
   | zero => cases h
   | succ m =>
    cases l with
    | nil => cases hp
    | cons u l =>
     obtain ⟨n1, n2, h1, h2, rfl⟩ := skp_one hp
     rw [kid_succ h1] at h
     simp only [Bool.and_eq_true, beq_iff_eq, Bool.or_eq_true, Bool.not_eq_true'] at h
     obtain ⟨hf, hm1, hm2, hr⟩ := h
     have hu := span_of (hn 0 (by simp))
     have ih1 := IH u l n1 hl h1 hn
     have ih2 := it_in hto IH r false u.t m ((u :: l).drop n1) n2 (by rw [List.length_drop]; omega) h2 (fun i hi => by
      rw [List.drop_drop]
      exact hn _ (by rw [List.length_drop] at hi; omega)) hr (by omega)
     have hpos := skp_pos (m := 0) h1
     obtain ⟨q, rfl⟩ : ∃ q, n1 = q + 1 := ⟨n1 - 1, by omega⟩
     rw [List.take_add]
     rw [List.take_succ_cons] at ih1 ⊢
     rw [hf] at ih1
     refine .hole ih1 (fun e => ?_) (fun e => ?_) ih2
     ·rcases hm1 with h | h
      ·rw [e] at h; cases h
      ·exact h
     ·rcases hm2 with h | h
      ·rw [e] at h; cases h
      ·exact h
theorem dv_in {L : List OP} {z : List Int} {tok : List TK} : ∀ (N : Nat) (x : ND) (r : List ND) (n : Nat), (x :: r).length ≤ N → skp (x :: r) 1 = some n → (∀ i, i < (x :: r).length → nodeS L z tok ((x :: r).drop i) = true) → Dv L z tok .tr x.f.toNat x.t.toNat ((x :: r).take n) 1
 | 0, x, r, n, hl, hs, hn => by simp at hl
 | N + 1, x, r, n, hl, hs, hn => by
  have hx := hn 0 (by simp)
  rw [List.drop_zero] at hx
  have hsp := span_of hx
  rw [show 1 = 0 + 1 from rfl, skp_cons, Nat.add_zero] at hs
  obtain ⟨p, hp, rfl⟩ := Option.map_eq_some_iff.1 hs
  have hn' : ∀ i, i < r.length → nodeS L z tok (r.drop i) = true := fun i hi => by
   have := hn (i + 1) (by rw [List.length_cons]; omega)
   rwa [List.drop_succ_cons] at this
  have h2 : (if x.k = 1 then leafNB L z tok x else if x.k = 2 then parenB tok x r else if x.k = 3 then decide (0 ≤ x.c) && operB L z tok x r else false) = true := by
   unfold nodeS at hx
   rw [Bool.and_eq_true] at hx
   exact hx.2
  rw [List.take_succ_cons]
  obtain ⟨k, nm, f, t, c⟩ := x
  dsimp only at hsp h2 hp ⊢
  by_cases k1 : k = 1
  ·rw [if_pos k1] at h2
   unfold leafNB at h2
   simp only [Bool.and_eq_true, beq_iff_eq] at h2
   obtain ⟨rfl, rfl, h3, rfl⟩ := h2
   subst k1
   rw [show (0 : Int).toNat = 0 from rfl, skp_zero] at hp
   cases hp
   rw [List.take_zero, show (f + 1).toNat = f.toNat + 1 by omega]
   have e : (⟨1, txN (tkn tok f), f, f + 1, 0⟩ : ND) = ⟨1, txN (tat tok f.toNat), (f.toNat : Nat), (f.toNat + 1 : Nat), 0⟩ := by
    unfold tkn
    congr 1
    ·omega
    ·omega
   rw [e]
   exact .leaf (by omega) h3
  ·rw [if_neg k1] at h2
   by_cases k2 : k = 2
   ·rw [if_pos k2] at h2
    unfold parenB at h2
    simp only [Bool.and_eq_true, beq_iff_eq, decide_eq_true_eq] at h2
    obtain ⟨rfl, rfl, c3, c4, c5, c6, c7, h3⟩ := h2
    subst k2
    cases r with
    | nil => cases h3
    | cons y r =>
     simp only [Bool.and_eq_true, beq_iff_eq] at h3
     have ih := dv_in N y r p (by rw [List.length_cons] at hl; omega) hp hn'
     rw [h3.1, h3.2, show (f + 1).toNat = f.toNat + 1 by omega] at ih
     have e : (⟨2, [], f, t, 1⟩ : ND) = ⟨2, [], (f.toNat : Nat), ((t - 1).toNat + 1 : Nat), 1⟩ := by
      congr 1
      ·omega
      ·omega
     rw [e, show t.toNat = (t - 1).toNat + 1 by omega]
     exact .paren (by omega) c4 c5 c6 c7 ih
   ·rw [if_neg k2] at h2
    by_cases k3 : k = 3
    ·rw [if_pos k3, Bool.and_eq_true, decide_eq_true_eq] at h2
     have h3 := h2.2
     subst k3
     unfold operB at h3
     dsimp only at h3
     split at h3
     ·cases h3
     ·rename_i o ho
      split at h3
      ·cases h3
      ·rename_i s hs2
       have hon : o.1 = nm := by
        have := List.find?_some ho
        simpa using this
       have ih := it_in (N := N) (to_ := t) (by omega) (dv_in N) _ _ _ _ _ _ (by rw [List.length_cons] at hl; omega) hp hn' h3 (by omega)
       have e : (⟨3, nm, f, t, c⟩ : ND) = ⟨3, o.1, (f.toNat : Nat), (t.toNat : Nat), (c.toNat : Nat)⟩ := by
        rw [hon]
        congr 1
        ·omega
        ·omega
        ·omega
       rw [e]
       rw [← hon] at ho
       exact .oper ho hs2 (by omega) ih
    ·rw [if_neg k3] at h2; cases h2
theorem right_dv {L : List OP} {z : List Int} {tok : List TK} {t : List ND} : rightB L z tok t = true ↔ Dv L z tok .tr 0 tok.length t 1 := by
 constructor
 ·intro h
  obtain ⟨h1, h2, h3⟩ := rightB_iff.1 h
  cases t with
  | nil => cases h2
  | cons x r =>
   have h4 := dv_in _ x r _ (Nat.le_refl _) h1 h3
   unfold headB at h2
   simp only [Bool.and_eq_true, beq_iff_eq] at h2
   rw [List.take_length, h2.1, h2.2] at h4
   exact h4
 ·intro h
  obtain ⟨h1, ⟨x, r, rfl, hf, ht⟩, h3, h4, h5⟩ := dv_out h
  refine rightB_iff.2 ⟨h1, ?_, h5⟩
  unfold headB
  simp only [Bool.and_eq_true, beq_iff_eq]
  exact ⟨hf, ht⟩
end Go.Proofs.YtanhpgmiadgmjaaGreatDoor
