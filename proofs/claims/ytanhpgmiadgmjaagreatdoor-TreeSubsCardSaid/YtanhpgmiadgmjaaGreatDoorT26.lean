import Derived.Test.YtanhpgmiadgmjaaGreatDoorT07
import Derived.Test.YtanhpgmiadgmjaaGreatDoorT25
namespace Go.Proofs.YtanhpgmiadgmjaaGreatDoor
open Go.RowKit
structure ND where
 k : Int
 n : Nm
 f : Int
 t : Int
 c : Int
deriving DecidableEq
def ND.sh (d : Int) (x : ND) : ND := ⟨x.k, x.n, x.f - d, x.t - d, x.c⟩
def skp : List ND → Nat → Option Nat
 | _, 0 => some 0
 | [], _ + 1 => none
 | x :: l, m + 1 => (skp l (x.c.toNat + m)).map (· + 1)
theorem skp_zero (l : List ND) : skp l 0 = some 0 := by cases l <;> rfl
theorem skp_nil (m : Nat) : skp [] (m + 1) = none := rfl
theorem skp_cons (x : ND) (l : List ND) (m : Nat) : skp (x :: l) (m + 1) = (skp l (x.c.toNat + m)).map (· + 1) := rfl
theorem skp_le : ∀ (l : List ND) (m n : Nat), skp l m = some n → n ≤ l.length
 | l, 0, n, h => by rw [skp_zero] at h; cases h; omega
 | [], m + 1, n, h => by cases h
 | x :: l, m + 1, n, h => by
  rw [skp_cons] at h
  obtain ⟨n', h', rfl⟩ := Option.map_eq_some_iff.1 h
  have := skp_le l _ _ h'
  rw [List.length_cons]; omega
theorem skp_pos {l : List ND} {m n : Nat} (h : skp l (m + 1) = some n) : 0 < n := by
 cases l with
 | nil => cases h
 | cons x l =>
  rw [skp_cons] at h
  obtain ⟨n', h', rfl⟩ := Option.map_eq_some_iff.1 h
  omega
theorem skp_add : ∀ (l : List ND) (a b : Nat), skp l (a + b) = (skp l a).bind fun n => (skp (l.drop n) b).map (n + ·)
 | l, 0, b => by
  rw [skp_zero, Nat.zero_add]
  cases h : skp l b <;> simp [h]
 | [], a + 1, b => by
  rw [show a + 1 + b = (a + b) + 1 by omega, skp_nil, skp_nil]; rfl
 | x :: l, a + 1, b => by
  rw [show a + 1 + b = (a + b) + 1 by omega, skp_cons, skp_cons, show x.c.toNat + (a + b) = (x.c.toNat + a) + b by omega, skp_add l _ b]
  cases skp l (x.c.toNat + a) with
  | none => rfl
  | some n =>
   show ((skp (l.drop n) b).map (n + ·)).map (· + 1) = (skp ((x :: l).drop (n + 1)) b).map (n + 1 + ·)
   rw [List.drop_succ_cons]
   cases skp (l.drop n) b with
   | none => rfl
   | some m => show some (n + m + 1) = some (n + 1 + m); congr 1; omega
theorem skp_app : ∀ (l : List ND) (m n : Nat), skp l m = some n → ∀ x : List ND, skp (l ++ x) m = some n
 | l, 0, n, h, x => by rw [skp_zero] at h ⊢; exact h
 | [], m + 1, n, h, x => by cases h
 | y :: l, m + 1, n, h, x => by
  rw [skp_cons] at h
  obtain ⟨n', h', rfl⟩ := Option.map_eq_some_iff.1 h
  rw [List.cons_append, skp_cons, skp_app l _ _ h' x]; rfl
theorem skp_take : ∀ (l : List ND) (m n : Nat), skp l m = some n → ∀ r, n ≤ r → skp (l.take r) m = some n
 | l, 0, n, h, r, hr => by rw [skp_zero] at h ⊢; exact h
 | [], m + 1, n, h, r, hr => by cases h
 | y :: l, m + 1, n, h, r, hr => by
  rw [skp_cons] at h
  obtain ⟨n', h', rfl⟩ := Option.map_eq_some_iff.1 h
  obtain ⟨r', rfl⟩ : ∃ r', r = r' + 1 := ⟨r - 1, by omega⟩
  rw [List.take_succ_cons, skp_cons, skp_take l _ _ h' r' (by omega)]; rfl
theorem skp_map (d : Int) : ∀ (l : List ND) (m : Nat), skp (l.map (ND.sh d)) m = skp l m
 | l, 0 => by rw [skp_zero, skp_zero]
 | [], m + 1 => rfl
 | y :: l, m + 1 => by
  rw [List.map_cons, skp_cons, skp_cons, skp_map d l]; rfl
theorem skp_node : ∀ (l : List ND) (m : Nat), skp l m = some l.length → ∀ i, i < l.length → ∃ n, skp (l.drop i) 1 = some n
 | [], m, h, i, hi => by cases hi
 | x :: l, 0, h, i, hi => by rw [skp_zero, List.length_cons] at h; cases h
 | x :: l, m + 1, h, i, hi => by
  rw [skp_cons] at h
  obtain ⟨n', h', hn⟩ := Option.map_eq_some_iff.1 h
  rw [List.length_cons] at hn
  have hl : n' = l.length := by omega
  subst hl
  cases i with
  | zero =>
   rw [skp_add] at h'
   rw [List.drop_zero, show 1 = 0 + 1 from rfl, skp_cons, Nat.add_zero]
   cases hc : skp l x.c.toNat with
   | none => rw [hc] at h'; cases h'
   | some n => exact ⟨n + 1, rfl⟩
  | succ i =>
   rw [List.drop_succ_cons]
   exact skp_node l _ h' i (by rw [List.length_cons] at hi; omega)
def kidN : Nat → List ND → List ND
 | 0, _ => []
 | _ + 1, [] => []
 | m + 1, x :: l => x :: (match skp (x :: l) 1 with | some n => kidN m ((x :: l).drop n) | none => [])
theorem kid_succ {m n : Nat} {x : ND} {l : List ND} (h : skp (x :: l) 1 = some n) : kidN (m + 1) (x :: l) = x :: kidN m ((x :: l).drop n) := by
 show (x :: (match skp (x :: l) 1 with | some n => kidN m ((x :: l).drop n) | none => [])) = _
 rw [h]
theorem skp_one {l : List ND} {m n : Nat} (h : skp l (m + 1) = some n) : ∃ n1 n2, skp l 1 = some n1 ∧ skp (l.drop n1) m = some n2 ∧ n = n1 + n2 := by
 rw [Nat.add_comm, skp_add] at h
 cases h1 : skp l 1 with
 | none => rw [h1] at h; cases h
 | some n1 =>
  rw [h1] at h
  obtain ⟨n2, h2, rfl⟩ := Option.map_eq_some_iff.1 h
  exact ⟨n1, n2, rfl, h2, rfl⟩
theorem kid_len : ∀ (m : Nat) (l : List ND) (n : Nat), skp l m = some n → (kidN m l).length = m
 | 0, l, n, h => rfl
 | m + 1, [], n, h => by cases h
 | m + 1, x :: l, n, h => by
  obtain ⟨n1, n2, h1, h2, rfl⟩ := skp_one h
  rw [kid_succ h1, List.length_cons, kid_len m _ _ h2]
theorem kid_add : ∀ (a b : Nat) (l : List ND) (n : Nat), skp l a = some n → kidN (a + b) l = kidN a l ++ kidN b (l.drop n)
 | 0, b, l, n, h => by rw [skp_zero] at h; cases h; rw [Nat.zero_add, List.drop_zero]; rfl
 | a + 1, b, [], n, h => by cases h
 | a + 1, b, x :: l, n, h => by
  obtain ⟨n1, n2, h1, h2, rfl⟩ := skp_one h
  rw [show a + 1 + b = (a + b) + 1 by omega, kid_succ h1, kid_succ h1, kid_add a b _ _ h2, List.drop_drop, List.cons_append]
theorem kid_take : ∀ (m : Nat) (l : List ND) (n : Nat), skp l m = some n → ∀ r, n ≤ r → kidN m (l.take r) = kidN m l
 | 0, l, n, h, r, hr => rfl
 | m + 1, [], n, h, r, hr => by cases h
 | m + 1, x :: l, n, h, r, hr => by
  obtain ⟨n1, n2, h1, h2, rfl⟩ := skp_one h
  have hp := skp_pos h1
  have ht := skp_take _ _ _ h1 r (by omega)
  obtain ⟨r', rfl⟩ : ∃ r', r = r' + 1 := ⟨r - 1, by omega⟩
  rw [List.take_succ_cons] at ht ⊢
  rw [kid_succ h1, kid_succ ht, ← List.take_succ_cons, List.drop_take, kid_take m _ _ h2 _ (by omega)]
theorem kid_map (d : Int) : ∀ (m : Nat) (l : List ND), kidN m (l.map (ND.sh d)) = (kidN m l).map (ND.sh d)
 | 0, l => rfl
 | m + 1, [] => rfl
 | m + 1, x :: l => by
  have hs := skp_map d (x :: l) 1
  cases h : skp (x :: l) 1 with
  | none =>
   rw [h] at hs
   rw [List.map_cons] at hs ⊢
   show (ND.sh d x :: (match skp (ND.sh d x :: l.map (ND.sh d)) 1 with | some n => kidN m ((ND.sh d x :: l.map (ND.sh d)).drop n) | none => [])) = (x :: (match skp (x :: l) 1 with | some n => kidN m ((x :: l).drop n) | none => [])).map (ND.sh d)
   rw [h, hs]; rfl
  | some n =>
   rw [h] at hs
   rw [kid_succ h]
   rw [List.map_cons] at hs ⊢
   rw [kid_succ hs, ← List.map_cons, ← List.map_drop, kid_map d m, List.map_cons]
def tkn (tok : List TK) (a : Int) : TK := tat tok a.toNat
def txN (x : TK) : Nm := x.s.data.toList
def findO (L : List OP) (p : Nm) : Option OP := L.find? fun o => o.1 == p
def mayH (L : List OP) (z : List Int) (o : OP) (x : ND) (right : Bool) : Bool := if x.k = 3 then (match findO L x.n with | some k => fitsB z o k right | none => false) else true
def sepL : List Nm → List Nm
 | [] => []
 | [p] => [p]
 | p :: q :: P => p :: [] :: sepL (q :: P)
def itemsL (s : SH) : List Nm := (if s.l then [[]] else []) ++ (sepL s.P ++ (if s.r then [[]] else []))
def itB (L : List OP) (z : List Int) (tok : List TK) (o : OP) (to_ : Int) : List Nm → Bool → Int → List ND → Bool
 | [], _, a, K => K.isEmpty && a == to_
 | x :: r, first, a, K =>
  if x ≠ [] then (decide (0 ≤ a) && decide (a < to_)) && (partB (tkn tok a).k (txN (tkn tok a)) x && itB L z tok o to_ r false (a + 1) K)
  else match K with
   | [] => false
   | c :: K' => c.f == a && ((!first || mayH L z o c false) && ((!r.isEmpty || mayH L z o c true) && itB L z tok o to_ r false c.t K'))
def operB (L : List OP) (z : List Int) (tok : List TK) (x : ND) (l : List ND) : Bool :=
 match findO L x.n with
 | none => false
 | some o => match ofS o.1 with
  | none => false
  | some s => itB L z tok o x.t (itemsL s) true x.f (kidN x.c.toNat l)
def parenB (tok : List TK) (x : ND) (l : List ND) : Bool :=
 x.c == 1 && (x.n == [] && (decide (x.f + 3 ≤ x.t) && ((tkn tok x.f).k == 6 && (txN (tkn tok x.f) == [40] && ((tkn tok (x.t - 1)).k == 6 && (txN (tkn tok (x.t - 1)) == [41] &&
  (match l with | [] => false | y :: _ => y.f == x.f + 1 && y.t == x.t - 1)))))))
def leafNB (L : List OP) (z : List Int) (tok : List TK) (x : ND) : Bool := x.c == 0 && (x.t == x.f + 1 && (leafB (tkn tok x.f).k (freeB L z (txN (tkn tok x.f))) && txN (tkn tok x.f) == x.n))
def spanB (tok : List TK) (x : ND) : Bool := decide (0 ≤ x.f) && (decide (x.f < x.t) && decide (x.t ≤ tok.length))
def nodeS (L : List OP) (z : List Int) (tok : List TK) : List ND → Bool
 | [] => false
 | x :: l => spanB tok x && (if x.k = 1 then leafNB L z tok x else if x.k = 2 then parenB tok x l else if x.k = 3 then decide (0 ≤ x.c) && operB L z tok x l else false)
def headB (tok : List TK) : List ND → Bool
 | [] => false
 | x :: _ => x.f == 0 && x.t == tok.length
def rightB (L : List OP) (z : List Int) (tok : List TK) (t : List ND) : Bool := (skp t 1 == some t.length) && (headB tok t && (List.range t.length).all fun i => nodeS L z tok (t.drop i))
theorem rightB_iff {L : List OP} {z : List Int} {tok : List TK} {t : List ND} : rightB L z tok t = true ↔ skp t 1 = some t.length ∧ headB tok t = true ∧ ∀ i, i < t.length → nodeS L z tok (t.drop i) = true := by
 unfold rightB
 rw [Bool.and_eq_true, Bool.and_eq_true, beq_iff_eq, List.all_eq_true]
 simp only [List.mem_range]
theorem span_of {L : List OP} {z : List Int} {tok : List TK} {x : ND} {l : List ND} (h : nodeS L z tok (x :: l) = true) : 0 ≤ x.f ∧ x.f < x.t ∧ x.t ≤ tok.length := by
 unfold nodeS spanB at h
 simp only [Bool.and_eq_true, decide_eq_true_eq] at h
 exact h.1
theorem it_span {L : List OP} {z : List Int} {tok : List TK} {o : OP} {to_ : Int} : ∀ (I : List Nm) (first : Bool) (a : Int) (K : List ND), itB L z tok o to_ I first a K = true → (∀ c ∈ K, c.f < c.t) → a ≤ to_ ∧ ∀ c ∈ K, a ≤ c.f ∧ c.t ≤ to_
 | [], first, a, K, h, hk => by
  unfold itB at h
  rw [Bool.and_eq_true, beq_iff_eq, List.isEmpty_iff] at h
  obtain ⟨rfl, rfl⟩ := h
  exact ⟨by omega, fun c hc => by cases hc⟩
 | x :: r, first, a, K, h, hk => by
  unfold itB at h
  by_cases hx : x ≠ []
  ·rw [if_pos hx] at h
   simp only [Bool.and_eq_true, decide_eq_true_eq] at h
   have ih := it_span r false (a + 1) K h.2.2 hk
   exact ⟨by omega, fun c hc => by have := ih.2 c hc; omega⟩
  ·rw [if_neg hx] at h
   cases K with
   | nil => cases h
   | cons c K' =>
    simp only [Bool.and_eq_true, beq_iff_eq] at h
    have ih := it_span r false c.t K' h.2.2.2 fun y hy => hk y (List.mem_cons_of_mem _ hy)
    have h0 := hk c (List.mem_cons_self ..)
    refine ⟨by omega, fun y hy => ?_⟩
    rcases List.mem_cons.1 hy with rfl | hy
    ·omega
    ·have := ih.2 y hy; omega
theorem kids_span {L : List OP} {z : List Int} {tok : List TK} {x : ND} {l : List ND} (h : nodeS L z tok (x :: l) = true) (hk : ∀ c ∈ kidN x.c.toNat l, c.f < c.t) : ∀ c ∈ kidN x.c.toNat l, x.f ≤ c.f ∧ c.t ≤ x.t := by
 have hs := span_of h
 unfold nodeS at h
 rw [Bool.and_eq_true] at h
 have h2 := h.2
 by_cases k1 : x.k = 1
 ·rw [if_pos k1] at h2
  unfold leafNB at h2
  simp only [Bool.and_eq_true, beq_iff_eq] at h2
  rw [h2.1]
  intro c hc; cases hc
 ·rw [if_neg k1] at h2
  by_cases k2 : x.k = 2
  ·rw [if_pos k2] at h2
   unfold parenB at h2
   simp only [Bool.and_eq_true, beq_iff_eq, decide_eq_true_eq] at h2
   obtain ⟨c1, _, _, _, _, _, _, h3⟩ := h2
   rw [c1]
   cases l with
   | nil => cases h3
   | cons y l =>
    simp only [Bool.and_eq_true, beq_iff_eq] at h3
    intro c hc
    have hc' : c = y := by
     unfold kidN at hc
     rcases List.mem_cons.1 hc with h | h
     ·exact h
     ·split at h
      ·cases h
      ·cases h
    subst hc'
    omega
  ·rw [if_neg k2] at h2
   by_cases k3 : x.k = 3
   ·rw [if_pos k3, Bool.and_eq_true] at h2
    have h3 := h2.2
    unfold operB at h3
    split at h3
    ·cases h3
    ·split at h3
     ·cases h3
     ·exact (it_span _ _ _ _ h3 hk).2
   ·rw [if_neg k3] at h2; cases h2
theorem nest {L : List OP} {z : List Int} {tok : List TK} : ∀ (l : List ND) (m n : Nat), skp l m = some n → (∀ i, i < l.length → nodeS L z tok (l.drop i) = true) → ∀ j (x : ND), j < n → l[j]? = some x → ∃ r ∈ kidN m l, r.f ≤ x.f ∧ x.t ≤ r.t
 | l, 0, n, h, ha, j, x, hj, hx => by rw [skp_zero] at h; cases h; omega
 | [], m + 1, n, h, ha, j, x, hj, hx => by cases h
 | y :: l, m + 1, n, h, ha, j, x, hj, hx => by
  have h0 := h
  rw [skp_cons] at h0
  obtain ⟨n', h', rfl⟩ := Option.map_eq_some_iff.1 h0
  clear h0
  obtain ⟨n1, n2, h1, h2, hn⟩ := skp_one h
  have h1' := h1
  rw [show 1 = 0 + 1 from rfl, skp_cons, Nat.add_zero] at h1'
  obtain ⟨p, hp, hp1⟩ := Option.map_eq_some_iff.1 h1'
  have ha' : ∀ i, i < l.length → nodeS L z tok (l.drop i) = true := fun i hi => by
   have := ha (i + 1) (by rw [List.length_cons]; omega)
   rwa [List.drop_succ_cons] at this
  have hk : ∀ c ∈ kidN y.c.toNat l, c.f < c.t := by
   have hm : ∀ (m : Nat) (l : List ND), (∀ i, i < l.length → nodeS L z tok (l.drop i) = true) → ∀ c ∈ kidN m l, c.f < c.t := by
    intro m
    induction m with
    | zero => intro l _ c hc; cases hc
    | succ m ih =>
     intro l hl c hc
     cases l with
     | nil => cases hc
     | cons u l =>
      unfold kidN at hc
      rcases List.mem_cons.1 hc with rfl | hc
      ·exact (span_of (hl 0 (by simp))).2.1
      ·split at hc
       ·rename_i q hq
        refine ih _ (fun i hi => ?_) c hc
        rw [List.drop_drop]
        exact hl _ (by rw [List.length_drop] at hi; omega)
       ·cases hc
   exact hm _ _ ha'
  have hys := kids_span (ha 0 (by simp)) hk
  rw [kid_succ h1]
  cases j with
  | zero =>
   cases hx
   exact ⟨y, List.mem_cons_self .., by omega, by omega⟩
  | succ j =>
   rw [List.getElem?_cons_succ] at hx
   obtain ⟨r, hr, hr1, hr2⟩ := nest l _ _ h' ha' j x (by omega) hx
   rw [kid_add _ _ _ _ hp] at hr
   rcases List.mem_append.1 hr with hr | hr
   ·have := hys r hr
    exact ⟨y, List.mem_cons_self .., by omega, by omega⟩
   ·refine ⟨r, List.mem_cons_of_mem _ ?_, hr1, hr2⟩
    rw [← hp1, List.drop_succ_cons]
    exact hr
end Go.Proofs.YtanhpgmiadgmjaaGreatDoor
