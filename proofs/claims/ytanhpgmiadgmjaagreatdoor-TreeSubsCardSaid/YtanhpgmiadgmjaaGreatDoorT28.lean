import Derived.Test.YtanhpgmiadgmjaaGreatDoorT10
import Derived.Test.YtanhpgmiadgmjaaGreatDoorT18
import Derived.Test.YtanhpgmiadgmjaaGreatDoorT25
import Derived.Test.YtanhpgmiadgmjaaGreatDoorT27
namespace Go.Proofs.YtanhpgmiadgmjaaGreatDoor
section
open Go.RowKit
variable {L : List OP} {z : List Int} {tok : List TK}
def alI : Bool → List Nm → Bool → List Nm
 | _, [], r => if r then [[]] else []
 | l, p :: P, r => (if l then [[]] else []) ++ p :: alI true P r
theorem sep_alI : ∀ (P : List Nm) (p : Nm) (r : Bool), sepL (p :: P) ++ (if r then [[]] else []) = p :: alI true P r
 | [], p, r => by cases r <;> rfl
 | q :: P, p, r => by
  show p :: [] :: (sepL (q :: P) ++ (if r then [[]] else [])) = p :: ([[]] ++ q :: alI true P r)
  rw [sep_alI P q r]; rfl
theorem items_alI {s : SH} (h : s.P ≠ []) : itemsL s = alI s.l s.P s.r := by
 cases hP : s.P with
 | nil => exact absurd hP h
 | cons p P =>
  unfold itemsL
  rw [hP, sep_alI]
  rfl
def holN (I : List Nm) : Nat := (I.filter fun x => x == []).length
theorem holN_hole (I : List Nm) : holN ([] :: I) = holN I + 1 := by simp [holN]
theorem holN_part {x : Nm} (h : x ≠ []) (I : List Nm) : holN (x :: I) = holN I := by simp [holN, h]
def alB (tok : List TK) (to_ : Int) : List Nm → Int → List ND → Bool
 | [], a, K => K.isEmpty && a == to_
 | x :: r, a, K =>
  if x ≠ [] then decide (a < to_) && (partB (tkn tok a).k (txN (tkn tok a)) x && alB tok to_ r (a + 1) K)
  else match K with
   | [] => false
   | c :: K' => c.f == a && alB tok to_ r c.t K'
theorem al_len {to_ : Int} : ∀ (I : List Nm) (a : Int) (K : List ND), alB tok to_ I a K = true → K.length = holN I
 | [], a, K, h => by
  unfold alB at h
  rw [Bool.and_eq_true, List.isEmpty_iff] at h
  rw [h.1]; rfl
 | x :: r, a, K, h => by
  unfold alB at h
  by_cases hx : x = []
  ·subst hx
   rw [if_neg (by simp)] at h
   cases K with
   | nil => cases h
   | cons c K' =>
    simp only [Bool.and_eq_true] at h
    rw [holN_hole, List.length_cons, al_len r _ _ h.2]
  ·rw [if_pos hx] at h
   simp only [Bool.and_eq_true] at h
   rw [holN_part hx, al_len r _ _ h.2.2]
theorem it_false {o : OP} {to_ : Int} : ∀ (I : List Nm) (a : Int) (K : List ND), 0 ≤ a → (∀ c ∈ K, 0 ≤ c.t) → (itB L z tok o to_ I false a K = true ↔ alB tok to_ I a K = true ∧ (I.getLast? = some [] → ∃ c, K.getLast? = some c ∧ mayH L z o c true = true))
 | [], a, K, _, _ => by
  unfold itB alB
  simp
 | x :: r, a, K, ha, hk => by
  unfold itB alB
  by_cases hx : x = []
  ·subst hx
   rw [if_neg (by simp), if_neg (by simp)]
   cases K with
   | nil => simp
   | cons c K' =>
    have ih := it_false (o := o) (to_ := to_) r c.t K' (hk c (List.mem_cons_self ..)) fun y hy => hk y (List.mem_cons_of_mem _ hy)
    simp only [Bool.not_false, Bool.true_or, Bool.true_and, Bool.and_eq_true, beq_iff_eq]
    rw [ih]
    cases r with
    | nil =>
     simp only [List.isEmpty_nil, Bool.not_true, Bool.false_or, List.getLast?_nil, reduceCtorEq, false_implies, and_true, List.getLast?_singleton, forall_const]
     constructor
     ·rintro ⟨h1, h2, h3⟩
      have hl := al_len (tok := tok) [] _ _ h3
      have : K' = [] := List.eq_nil_of_length_eq_zero hl
      subst this
      exact ⟨⟨h1, h3⟩, c, rfl, h2⟩
     ·rintro ⟨⟨h1, h3⟩, c', hc', h2⟩
      have hl := al_len (tok := tok) [] _ _ h3
      have : K' = [] := List.eq_nil_of_length_eq_zero hl
      subst this
      simp only [List.getLast?_singleton, Option.some.injEq] at hc'
      subst hc'
      exact ⟨h1, h2, h3⟩
    | cons y r =>
     simp only [List.isEmpty_cons, Bool.not_false, Bool.true_or, true_and, List.getLast?_cons_cons]
     constructor
     ·rintro ⟨h1, h2, h3⟩
      refine ⟨⟨h1, h2⟩, fun hl => ?_⟩
      obtain ⟨c', hc', hm⟩ := h3 hl
      refine ⟨c', ?_, hm⟩
      cases K' with
      | nil => cases hc'
      | cons d K' => rw [List.getLast?_cons_cons]; exact hc'
     ·rintro ⟨⟨h1, h2⟩, h3⟩
      refine ⟨h1, h2, fun hl => ?_⟩
      obtain ⟨c', hc', hm⟩ := h3 hl
      have hlen := al_len (tok := tok) _ _ _ h2
      cases K' with
      | nil =>
       exfalso
       have : [] ∈ (y :: r) := List.mem_of_getLast? hl
       have h0 : holN (y :: r) ≠ 0 := by
        unfold holN
        intro hz
        have := List.eq_nil_of_length_eq_zero hz
        rw [List.filter_eq_nil_iff] at this
        exact this [] ‹_› (by simp)
       exact h0 hlen.symm
      | cons d K' => rw [List.getLast?_cons_cons] at hc'; exact ⟨c', hc', hm⟩
  ·rw [if_pos hx, if_pos hx]
   have ih := it_false (o := o) (to_ := to_) r (a + 1) K (by omega) hk
   simp only [Bool.and_eq_true, decide_eq_true_eq]
   rw [ih]
   have hg : (x :: r).getLast? = some [] ↔ r.getLast? = some [] := by
    cases r with
    | nil => simp [hx]
    | cons y r => rw [List.getLast?_cons_cons]
   rw [hg]
   constructor
   ·rintro ⟨⟨_, h1⟩, h2, h3, h4⟩; exact ⟨⟨h1, h2, h3⟩, h4⟩
   ·rintro ⟨⟨h1, h2, h3⟩, h4⟩; exact ⟨⟨ha, h1⟩, h2, h3, h4⟩
theorem it_true {o : OP} {to_ : Int} (I : List Nm) (a : Int) (K : List ND) (ha : 0 ≤ a) (hk : ∀ c ∈ K, 0 ≤ c.t) : itB L z tok o to_ I true a K = true ↔ alB tok to_ I a K = true ∧ (I.head? = some [] → ∃ c, K.head? = some c ∧ mayH L z o c false = true) ∧ (I.getLast? = some [] → ∃ c, K.getLast? = some c ∧ mayH L z o c true = true) := by
 have h0 := it_false (L := L) (z := z) (tok := tok) (o := o) (to_ := to_) I a K ha hk
 have e : itB L z tok o to_ I true a K = true ↔ itB L z tok o to_ I false a K = true ∧ (I.head? = some [] → ∃ c, K.head? = some c ∧ mayH L z o c false = true) := by
  cases I with
  | nil => simp [itB]
  | cons x r =>
   unfold itB
   by_cases hx : x = []
   ·subst hx
    rw [if_neg (by simp), if_neg (by simp)]
    cases K with
    | nil => simp
    | cons c K' =>
     simp only [Bool.not_true, Bool.false_or, Bool.not_false, Bool.true_or, Bool.true_and, Bool.and_eq_true, List.head?_cons, Option.some.injEq, forall_const, exists_eq_left']
     constructor
     ·rintro ⟨h1, h2, h3, h4⟩; exact ⟨⟨h1, h3, h4⟩, h2⟩
     ·rintro ⟨⟨h1, h3, h4⟩, h2⟩; exact ⟨h1, h2, h3, h4⟩
   ·rw [if_pos hx, if_pos hx]
    simp [hx]
 rw [e, h0]
 constructor
 ·rintro ⟨⟨h1, h2⟩, h3⟩; exact ⟨h1, h3, h2⟩
 ·rintro ⟨h1, h3, h2⟩; exact ⟨⟨h1, h2⟩, h3⟩
theorem alI_last : ∀ (P : List Nm) (l r : Bool), (∀ p ∈ P, p ≠ []) → P ≠ [] → ((alI l P r).getLast? = some [] ↔ r = true)
 | [], l, r, _, h => absurd rfl h
 | [p], l, r, hp, _ => by
  have := hp p (by simp)
  cases l <;> cases r <;> simp [alI, this]
 | p :: q :: P, l, r, hp, _ => by
  have ih := alI_last (q :: P) true r (fun x hx => hp x (List.mem_cons_of_mem _ hx)) (by simp)
  rw [← ih]
  cases l <;> simp [alI, List.getLast?_cons_cons]
theorem alI_head {p : Nm} {P : List Nm} (l r : Bool) (hp : p ≠ []) : (alI l (p :: P) r).head? = some [] ↔ l = true := by
 cases l <;> simp [alI, hp]
theorem alI_hol : ∀ (P : List Nm) (l r : Bool), (∀ p ∈ P, p ≠ []) → P ≠ [] → (l = true → 0 < holN (alI l P r)) ∧ (r = true → 0 < holN (alI l P r))
 | [], l, r, _, h => absurd rfl h
 | p :: P, l, r, hp, _ => by
  have h0 : p ≠ [] := hp p (by simp)
  have hr : ∀ (Q : List Nm), holN (alI true Q true) ≠ 0 := by
   intro Q
   cases Q with
   | nil => simp [alI, holN]
   | cons q Q => simp [alI, holN_hole]
  constructor
  ·rintro rfl
   simp [alI, holN_hole]
  ·rintro rfl
   have := hr P
   cases l
   ·simp [alI, holN_part h0]; omega
   ·simp [alI, holN_hole]
def opP (L : List OP) (z : List Int) (tok : List TK) (x : ND) (K : List ND) : Bool :=
 match findO L x.n with
 | none => false
 | some o => match ofS x.n with
  | none => false
  | some s => K.length == holN (alI s.l s.P s.r) && ((!s.l || (match K.head? with | some c => mayH L z o c false | none => false)) && ((!s.r || (match K.getLast? with | some c => mayH L z o c true | none => false)) && alB tok x.t (alI s.l s.P s.r) x.f K))
def soloB (y : TK) (c : UInt8) : Bool := y.k == 6 && txN y == [c]
def parP (tok : List TK) (x : ND) : List ND → Bool
 | [c] => x.n == [] && (c.f == x.f + 1 && (c.t == x.t - 1 && (soloB (tkn tok x.f) 40 && soloB (tkn tok (x.t - 1)) 41)))
 | _ => false
def leafP (L : List OP) (z : List Int) (tok : List TK) (x : ND) (K : List ND) : Bool := K.isEmpty && (x.t == x.f + 1 && (txN (tkn tok x.f) == x.n && leafB (tkn tok x.f).k (freeB L z (txN (tkn tok x.f)))))
def drvB (L : List OP) (z : List Int) (tok : List TK) (x : ND) (K : List ND) : Bool :=
 spanB tok x && (if x.k = 1 then leafP L z tok x K else if x.k = 2 then parP tok x K else if x.k = 3 then opP L z tok x K else false)
def backB (L : List OP) (z : List Int) (tok : List TK) : List ND → Bool
 | [] => true
 | x :: l => backB L z tok l && (decide (0 ≤ x.c) && drvB L z tok x ((roots l).take x.c.toNat))
def goodN (tok : List TK) (c : ND) : Prop := 0 ≤ c.f ∧ c.f < c.t ∧ c.t ≤ tok.length
theorem good_span {x : ND} : spanB tok x = true ↔ goodN tok x := by
 unfold spanB goodN
 simp only [Bool.and_eq_true, decide_eq_true_eq]
theorem drv_good {x : ND} {K : List ND} (h : drvB L z tok x K = true) : goodN tok x := by
 unfold drvB at h
 rw [Bool.and_eq_true] at h
 exact good_span.1 h.1
theorem roots_sub : ∀ (l : List ND), ∀ c ∈ roots l, c ∈ l
 | [], c, h => h
 | x :: l, c, h => by
  rw [roots] at h
  rcases List.mem_cons.1 h with h | h
  ·rw [h]; exact List.mem_cons_self ..
  ·exact List.mem_cons_of_mem _ (roots_sub l c (List.mem_of_mem_drop h))
theorem back_good : ∀ (l : List ND), backB L z tok l = true → ∀ c ∈ l, goodN tok c
 | [], _, c, hc => by cases hc
 | x :: l, h, c, hc => by
  unfold backB at h
  simp only [Bool.and_eq_true] at h
  rcases List.mem_cons.1 hc with rfl | hc
  ·exact drv_good h.2.2
  ·exact back_good l h.1 c hc
theorem op_same {x : ND} {l : List ND} (h0 : 0 ≤ x.f) (hk : ∀ c ∈ kidN x.c.toNat l, goodN tok c) : operB L z tok x l = opP L z tok x (kidN x.c.toNat l) := by
 unfold operB opP
 cases hf : findO L x.n with
 | none => rfl
 | some o =>
  have ho : o.1 = x.n := by
   have := List.find?_some hf
   simpa using this
  dsimp only
  rw [ho]
  cases hs : ofS x.n with
  | none => rfl
  | some s =>
   dsimp only
   obtain ⟨_, _, _, hw, _⟩ := ofS_some hs
   have hp : ∀ p ∈ s.P, p ≠ [] := fun p hp => (hw.2 p hp).1
   have hi := items_alI hw.1
   simp only [hi]
   rw [Bool.eq_iff_iff, it_true _ _ _ h0 fun c hc => by have := hk c hc; unfold goodN at this; omega]
   obtain ⟨p, P, hP⟩ : ∃ p P, s.P = p :: P := by
    cases hP : s.P with
    | nil => exact absurd hP hw.1
    | cons p P => exact ⟨p, P, rfl⟩
   have e1 : (alI s.l s.P s.r).head? = some [] ↔ s.l = true := by rw [hP]; exact alI_head _ _ (hp p (by rw [hP]; simp))
   have e2 := alI_last s.P s.l s.r hp hw.1
   rw [e1, e2]
   generalize kidN x.c.toNat l = K
   simp only [Bool.and_eq_true, beq_iff_eq, Bool.or_eq_true, Bool.not_eq_true']
   constructor
   ·rintro ⟨h1, h2, h3⟩
    refine ⟨al_len _ _ _ h1, ?_, ?_, h1⟩
    ·cases hl : s.l
     ·exact .inl rfl
     ·obtain ⟨c, hc, hm⟩ := h2 hl
      rw [hc]; exact .inr hm
    ·cases hl : s.r
     ·exact .inl rfl
     ·obtain ⟨c, hc, hm⟩ := h3 hl
      rw [hc]; exact .inr hm
   ·rintro ⟨_, h2, h3, h1⟩
    refine ⟨h1, fun hl => ?_, fun hl => ?_⟩
    ·rw [hl] at h2
     simp only [Bool.true_eq_false, false_or] at h2
     cases hc : K.head? with
     | none => rw [hc] at h2; cases h2
     | some c => rw [hc] at h2; exact ⟨c, rfl, h2⟩
    ·rw [hl] at h3
     simp only [Bool.true_eq_false, false_or] at h3
     cases hc : K.getLast? with
     | none => rw [hc] at h3; cases h3
     | some c => rw [hc] at h3; exact ⟨c, rfl, h3⟩
theorem node_same {x : ND} {l : List ND} {n : Nat} (hs : skp l x.c.toNat = some n) (hk : ∀ c ∈ l, goodN tok c) : nodeS L z tok (x :: l) = (decide (0 ≤ x.c) && drvB L z tok x ((roots l).take x.c.toNat)) := by
 obtain ⟨hr, _, _⟩ := roots_kid l _ _ hs
 have hsub : ∀ c ∈ kidN x.c.toNat l, goodN tok c := fun c hc => hk c (by rw [← hr] at hc; exact roots_sub l c (List.mem_of_mem_take hc))
 have hlen := kid_len _ _ _ hs
 rw [hr]
 show (spanB tok x && (if x.k = 1 then leafNB L z tok x else if x.k = 2 then parenB tok x l else if x.k = 3 then decide (0 ≤ x.c) && operB L z tok x l else false)) = (decide (0 ≤ x.c) && (spanB tok x && (if x.k = 1 then leafP L z tok x (kidN x.c.toNat l) else if x.k = 2 then parP tok x (kidN x.c.toNat l) else if x.k = 3 then opP L z tok x (kidN x.c.toNat l) else false)))
 cases hsp : spanB tok x with
 | false => simp
 | true =>
  have hg := good_span.1 hsp
  rw [Bool.true_and, Bool.true_and]
  by_cases k1 : x.k = 1
  ·rw [if_pos k1, if_pos k1]
   unfold leafNB leafP
   rw [Bool.eq_iff_iff]
   simp only [Bool.and_eq_true, beq_iff_eq, decide_eq_true_eq, List.isEmpty_iff]
   constructor
   ·rintro ⟨h1, h2, h3, h4⟩
    refine ⟨by omega, List.eq_nil_of_length_eq_zero (by rw [hlen, h1]; rfl), h2, h4, h3⟩
   ·rintro ⟨h0, h1, h2, h4, h3⟩
    rw [h1] at hlen
    simp only [List.length_nil] at hlen
    exact ⟨by omega, h2, h3, h4⟩
  ·rw [if_neg k1, if_neg k1]
   by_cases k2 : x.k = 2
   ·rw [if_pos k2, if_pos k2]
    unfold parenB
    rw [Bool.eq_iff_iff]
    simp only [Bool.and_eq_true, beq_iff_eq, decide_eq_true_eq]
    constructor
    ·rintro ⟨h1, h2, h3, h4, h5, h6, h7, h8⟩
     rw [h1]
     cases l with
     | nil => cases h8
     | cons y l =>
      simp only [Bool.and_eq_true, beq_iff_eq] at h8
      have hk1 : kidN (1 : Int).toNat (y :: l) = [y] := by
       show kidN (0 + 1) (y :: l) = [y]
       rw [h1] at hs
       rw [kid_succ (show skp (y :: l) 1 = some n from hs)]; rfl
      rw [hk1]
      unfold parP soloB
      simp only [Bool.and_eq_true, beq_iff_eq]
      exact ⟨by omega, h2, h8.1, h8.2, ⟨h4, h5⟩, h6, h7⟩
    ·rintro ⟨h0, h1⟩
     generalize hK : kidN x.c.toNat l = K at h1 hlen hsub
     match K, h1, hlen, hsub with
     | [c], h1, hlen, hsub =>
      unfold parP soloB at h1
      simp only [Bool.and_eq_true, beq_iff_eq] at h1
      obtain ⟨h2, h3, h4, ⟨h5, h6⟩, h7, h8⟩ := h1
      have hc := hsub c (by simp)
      unfold goodN at hc
      simp only [List.length_cons, List.length_nil] at hlen
      have hx1 : x.c = 1 := by omega
      refine ⟨hx1, h2, by omega, h5, h6, h7, h8, ?_⟩
      rw [hx1] at hK hs
      cases l with
      | nil => cases hK
      | cons y l =>
       have hk1 : kidN (1 : Int).toNat (y :: l) = [y] := by
        show kidN (0 + 1) (y :: l) = [y]
        rw [kid_succ (show skp (y :: l) 1 = some n from hs)]; rfl
       rw [hk1] at hK
       simp only [List.cons.injEq, and_true] at hK
       subst hK
       simp only [Bool.and_eq_true, beq_iff_eq]
       exact ⟨h3, h4⟩
   ·rw [if_neg k2, if_neg k2]
    by_cases k3 : x.k = 3
    ·rw [if_pos k3, if_pos k3, op_same hg.1 hsub]
    ·rw [if_neg k3, if_neg k3]; simp
theorem back_all : ∀ (l : List ND) (m : Nat), skp l m = some l.length → (backB L z tok l = true ↔ ∀ i, i < l.length → nodeS L z tok (l.drop i) = true)
 | [], m, h => by simp [backB]
 | x :: l, 0, h => by rw [skp_zero, List.length_cons] at h; cases h
 | x :: l, m + 1, h => by
  rw [skp_cons] at h
  obtain ⟨n', h', hn⟩ := Option.map_eq_some_iff.1 h
  rw [List.length_cons] at hn
  have hl : n' = l.length := by omega
  subst hl
  have ih := back_all l _ h'
  obtain ⟨p, hp⟩ : ∃ p, skp l x.c.toNat = some p := by
   rw [skp_add] at h'
   cases hc : skp l x.c.toNat with
   | none => rw [hc] at h'; cases h'
   | some p => exact ⟨p, rfl⟩
  unfold backB
  rw [Bool.and_eq_true, ih]
  constructor
  ·rintro ⟨h1, h2⟩ i hi
   cases i with
   | zero => rw [List.drop_zero, node_same hp (back_good l (ih.2 h1))]; exact h2
   | succ i => rw [List.drop_succ_cons]; exact h1 i (by rw [List.length_cons] at hi; omega)
  ·intro h1
   have h2 : ∀ i, i < l.length → nodeS L z tok (l.drop i) = true := fun i hi => by
    have := h1 (i + 1) (by rw [List.length_cons]; omega)
    rwa [List.drop_succ_cons] at this
   refine ⟨h2, ?_⟩
   rw [← node_same hp (back_good l (ih.2 h2))]
   exact h1 0 (by simp)
theorem right_back (L : List OP) (z : List Int) (tok : List TK) (t : List ND) : rightB L z tok t = ((skp t 1 == some t.length) && (headB tok t && backB L z tok t)) := by
 rw [Bool.eq_iff_iff, rightB_iff]
 simp only [Bool.and_eq_true, beq_iff_eq]
 constructor
 ·rintro ⟨h1, h2, h3⟩; exact ⟨h1, h2, (back_all t 1 h1).2 h3⟩
 ·rintro ⟨h1, h2, h3⟩; exact ⟨h1, h2, (back_all t 1 h1).1 h3⟩
theorem skp_drop : ∀ (l : List ND) (m : Nat), skp l m = some l.length → ∀ i, i ≤ l.length → ∃ m', skp (l.drop i) m' = some (l.drop i).length
 | l, m, h, 0, _ => ⟨m, h⟩
 | [], m, h, i + 1, hi => by cases hi
 | x :: l, 0, h, i + 1, hi => by rw [skp_zero, List.length_cons] at h; cases h
 | x :: l, m + 1, h, i + 1, hi => by
  rw [skp_cons] at h
  obtain ⟨n', h', hn⟩ := Option.map_eq_some_iff.1 h
  rw [List.length_cons] at hn
  have hl : n' = l.length := by omega
  subst hl
  rw [List.drop_succ_cons]
  exact skp_drop l _ h' i (by rw [List.length_cons] at hi; omega)
theorem skp_ge : ∀ (l : List ND) (m n : Nat), skp l m = some n → m ≤ n
 | l, 0, n, h => Nat.zero_le _
 | [], m + 1, n, h => by cases h
 | x :: l, m + 1, n, h => by
  rw [skp_cons] at h
  obtain ⟨n', h', rfl⟩ := Option.map_eq_some_iff.1 h
  have := skp_ge l _ _ h'
  omega
def endV (T : List ND) (i : Int) : Int := if i < 0 then -1 else match skp (T.drop i.toNat) 1 with | some n => i + n | none => -1
def plN : Nat → List ND → Nat → List Int
 | 0, _, _ => []
 | m + 1, l, p => (p : Int) :: (match skp l 1 with | some n => plN m (l.drop n) (p + n) | none => [])
theorem pl_succ {m n p : Nat} {l : List ND} (h : skp l 1 = some n) : plN (m + 1) l p = (p : Int) :: plN m (l.drop n) (p + n) := by
 show (p : Int) :: (match skp l 1 with | some n => plN m (l.drop n) (p + n) | none => []) = _
 rw [h]
theorem pl_len : ∀ (m : Nat) (l : List ND) (n p : Nat), skp l m = some n → (plN m l p).length = m
 | 0, l, n, p, h => rfl
 | m + 1, l, n, p, h => by
  obtain ⟨n1, n2, h1, h2, rfl⟩ := skp_one h
  rw [pl_succ h1, List.length_cons, pl_len m _ _ _ h2]
def kidV (T : List ND) (i : Int) : List Int :=
 if endV T i < 0 then [] else plN (nA T i.toNat).c.toNat (T.drop (i.toNat + 1)) (i.toNat + 1)
end
section
open Go.RowKit
def ndA (x : ND) : Array Value := #[.int .i64 x.k, .string (mk x.n), .int .i64 x.f, .int .i64 x.t, .int .i64 x.c]
def N5 (w : World) (b : Nat) (x : ND) : Prop := w.heap[b]? = some (.cells (ndA x) 37 (0, 0))
theorem N5.cells {w : World} {b : Nat} {x : ND} (h : N5 w b x) : w.cell? ⟨b, 0, none⟩ = some (.int .i64 x.k) ∧ w.cell? ⟨b, 1, none⟩ = some (.string (mk x.n)) ∧ w.cell? ⟨b, 2, none⟩ = some (.int .i64 x.f) ∧ w.cell? ⟨b, 3, none⟩ = some (.int .i64 x.t) ∧ w.cell? ⟨b, 4, none⟩ = some (.int .i64 x.c) :=
 ⟨cell_of_row w b 0 _ _ _ h, cell_of_row w b 1 _ _ _ h, cell_of_row w b 2 _ _ _ h, cell_of_row w b 3 _ _ _ h, cell_of_row w b 4 _ _ _ h⟩
theorem N5.lt {w : World} {b : Nat} {x : ND} (h : N5 w b x) : b < w.heap.size := (Array.getElem?_eq_some_iff.1 h).1
theorem N5.new (w : World) (x : ND) : N5 (w.alloc (.cells (ndA x) 37)) w.heap.size x := heap_alloc_new w _
theorem N5.keep {w w' : World} {b B : Nat} {x : ND} (h : N5 w b x) (hb : Below B w w') (hB : b < B) : N5 w' b x := (hb.block b hB).trans h
theorem N5.below {w w' : World} {b : Nat} {x : ND} (h : N5 w b x) (hb : Below w.heap.size w w') : N5 w' b x := h.keep hb h.lt
theorem N5.alloc {w : World} {b : Nat} {x : ND} (h : N5 w b x) (o : Obj) : N5 (w.alloc o) b x := h.below (below_alloc w o)
theorem N5.only {w w' : World} {b g : Nat} {x : ND} (h : N5 w b x) (ho : Only g w w') (hne : b ≠ g) : N5 w' b x := (ho.block b hne).trans h
theorem n5_info : (Tryz.prog.info? 37).map (·.size) = some 5 := by kernel_rfl
theorem load_n5 {ops : Array Oper} {rest : List Oper} {o : Oper} {a : Act} {w : World} {Q : Exit → Act → World → Prop} (hw : Region.wanted o (yielded ops a.tmps) = true) (x : Operand) (ho : o.op = .load 37 x)
  (b : Nat) (hx : a.eval x = .pointer (some ⟨b, 0, none⟩)) (y : ND) (h : N5 w b y)
  (kk : wpList Tryz.prog ops Q rest (a.put o.dst (.agg (ndA y))) w) : wpList Tryz.prog ops Q (o :: rest) a w :=
 wpList_step fun K hK => by
  rw [if_pos hw]
  exact wp_load_row 37 x ho b hx _ _ _ _ h Tryz.underlying37 rfl n5_info (hK _ _ kk)
def tkA (y : TK) : Array Value := #[.int .i64 y.k, .int .i64 y.f, .int .i64 y.t, .string y.s, .int .i64 y.e]
theorem txN_mk (y : TK) : mk (txN y) = y.s := by unfold txN mk; simp
set_option maxRecDepth 20000 in
theorem tsolo_any (y : TK) (c8 : UInt8) (w : World) :
  Calls Tryz.prog 105 #[.agg (tkA y), .string { data := #[c8] }] w fun e w' => e = .returned (.bool (soloB y c8)) ∧ Below w.heap.size w w' := by
 obtain ⟨B, hB⟩ : ∃ B, B = w.heap.size := ⟨_, rfl⟩
 obtain ⟨w1, hw1⟩ : ∃ w1, w1 = w.alloc (.cells (tkA y) 41) := ⟨_, rfl⟩
 have HT : Hid (w1.heap[B]? = some (.cells (tkA y) 41 (0, 0))) := hid (by rw [hw1, hB]; exact heap_alloc_new w _)
 have HB1 : Hid (Below w.heap.size w w1) := hid (by rw [hw1]; exact below_alloc w _)
 have c0 : w1.cell? ⟨B, 0, none⟩ = some (.int .i64 y.k) := cell_of_row w1 B 0 _ _ _ HT.out
 have c3 : w1.cell? ⟨B, 3, none⟩ = some (.string y.s) := cell_of_row w1 B 3 _ _ _ HT.out
 have hst : y.s.toList = txN y := by
  have := mk_toList (txN y)
  rwa [txN_mk] at this
 have HS : Hid (soloB y c8 = (y.k == 6 && txN y == [c8])) := hid rfl
 unfold tkA at hw1 ⊢
 go_enter Tryz.func105, Tryz.ntmps105
 go_upto_region 1 with fail
 rw [← hw1, ← hB]
 clear hw1 hB
 cases h6 : (y.k == 6) with
 | false =>
  go_wp2
  go_ret
  exact ⟨by rw [HS.out, h6]; rfl, HB1.out⟩
 | true =>
  cases he : (txN y == [c8]) with
  | true =>
   go_wp2
   go_ret
   exact ⟨ret_bool (by rw [HS.out, h6, he]; rfl), HB1.out⟩
  | false =>
   go_wp2
   go_ret
   exact ⟨ret_bool (by rw [HS.out, h6, he]; rfl), HB1.out⟩
theorem findO_hit {L : List OP} {q : Nm} {k : Nat} (hk : k < L.length) (hm : ∀ j, j < k → (opA L j).1 ≠ q) (he : (opA L k).1 = q) : findO L q = some (opA L k) := by
 unfold findO
 have hn : (L.take k).find? (fun o => o.1 == q) = none := by
  rw [List.find?_eq_none]
  intro o ho
  obtain ⟨j, hj, e⟩ := List.mem_iff_getElem.1 ho
  rw [List.getElem_take] at e
  rw [List.length_take] at hj
  have := hm j (by omega)
  rw [opA_eq (by omega), e] at this
  simpa using this
 have h2 : (L.drop k).find? (fun o => o.1 == q) = some (opA L k) := by rw [opA_drop hk, List.find?_cons_of_pos (by simpa using he)]
 have h3 : L.find? (fun o => o.1 == q) = (L.take k ++ L.drop k).find? (fun o => o.1 == q) := by rw [List.take_append_drop]
 rw [h3, List.find?_append, hn, h2]
 rfl
theorem findO_miss {L : List OP} {q : Nm} (hm : ∀ j, j < L.length → (opA L j).1 ≠ q) : findO L q = none := by
 unfold findO
 rw [List.find?_eq_none]
 intro o ho
 obtain ⟨j, hj, e⟩ := List.mem_iff_getElem.1 ho
 have := hm j hj
 rw [opA_eq hj, e] at this
 simpa using this
set_option maxRecDepth 20000 in
theorem oper1_any (p : Nm) (g s : Int) (q : Nm) (X : Nat) (w : World) (hX : w.cell? ⟨X, 0, none⟩ = some (.string (mk q))) :
  Calls Tryz.prog 151 #[.agg #[.string (mk p), .int .i64 g, .int .i64 s], .pointer (some ⟨X, 0, none⟩)] w fun e w' => e = .returned (.bool (p == q)) ∧ Below w.heap.size w w' := by
 obtain ⟨B, hB⟩ : ∃ B, B = w.heap.size := ⟨_, rfl⟩
 obtain ⟨w1, hw1⟩ : ∃ w1, w1 = w.alloc (.cells #[.string (mk p), .int .i64 g, .int .i64 s] 52) := ⟨_, rfl⟩
 have HT : Hid (D3 w1 B (p, g, s)) := hid (by rw [hw1, hB]; exact D3.new w (p, g, s))
 have HB1 : Hid (Below w.heap.size w w1) := hid (by rw [hw1]; exact below_alloc w _)
 have x0 := HT.out.cells.1
 have x1 : w1.cell? ⟨X, 0, none⟩ = some (.string (mk q)) := (HB1.out.cell (p := ⟨X, 0, none⟩) (World.block_lt_of_cell? w ⟨X, 0, none⟩ hX)).trans hX
 dsimp only at x0
 have hx := mk_toList p
 have hy := mk_toList q
 clear hX
 go_enter Tryz.func151, Tryz.ntmps151
 go_upto_region 1 with fail
 rw [← hw1, ← hB]
 clear hw1 hB
 cases he : (p == q) with
 | true =>
  go_wp2
  go_ret
  exact ⟨ret_bool (by simp [he]), HB1.out⟩
 | false =>
  go_wp2
  go_ret
  exact ⟨ret_bool (by simp [he]), HB1.out⟩
set_option maxRecDepth 20000 in
set_option maxHeartbeats 1000000 in
theorem indexO_any (a : Option Addr) (n c : Nat) (L : List OP) (q : Nm) (X : Nat) (w : World) (h : OpS w a n c L) (hX : w.cell? ⟨X, 0, none⟩ = some (.string (mk q))) (hn : n ≤ 1000000) :
  Calls Tryz.prog 150 #[.slice a n c, .func (.func 151) #[] #[.pointer (some ⟨X, 0, none⟩)]] w fun e w' =>
   (e = .returned (.int .i64 (-1)) ∧ findO L q = none ∨ ∃ k : Nat, e = .returned (.int .i64 k) ∧ k < n ∧ findO L q = some (opA L k)) ∧ Below w.heap.size w w' := by
 have H := hid h
 have HL := hid (OpS.len h)
 have HX := hid hX
 clear h hX
 go_enter Tryz.func150, Tryz.ntmps150
 go_wp2
 go_loopw [8] (fun i wr => ∃ k : Nat, i = .int .i64 k ∧ k ≤ n ∧ Hid (∀ j, j < k → (opA L j).1 ≠ q) ∧ Hid (Below w.heap.size w wr)) (fun i _ => n - (intOf i).toNat)
 case atStart => exact ⟨0, rfl, by omega, hid (fun j hj => by omega), hid (Below.refl _ _)⟩
 case round =>
  obtain ⟨k, rfl, hk, HM, HB⟩ := hrel
  by_cases hlt : k < n
  ·have hb := H.out.below HB.out
   obtain ⟨b, off, rfl, _, hc⟩ := hb.at_ (by omega)
   clear hc
   obtain ⟨c0, c1, c2⟩ := OpS.at3 hb hlt
   obtain ⟨T, hT⟩ : ∃ T, T = opA L k := ⟨_, rfl⟩
   rw [← hT] at c0 c1 c2
   have HTU := hid hT
   clear hb hT
   obtain ⟨p, g, s⟩ := T
   dsimp only at c0 c1 c2
   have KO : Hid (∀ w', Below wr.heap.size wr w' → Calls Tryz.prog 151 #[.agg #[.string (mk p), .int .i64 g, .int .i64 s], .pointer (some ⟨X, 0, none⟩)] w' fun e w'' => e = .returned (.bool (p == q)) ∧ Below w'.heap.size w' w'') := hid fun w' hh =>
    oper1_any p g s q X w' ((hh.cell (p := ⟨X, 0, none⟩) (by have := World.block_lt_of_cell? w ⟨X, 0, none⟩ HX.out; have := HB.out.size; dsimp only at *; omega)).trans ((HB.out.cell (p := ⟨X, 0, none⟩) (World.block_lt_of_cell? w ⟨X, 0, none⟩ HX.out)).trans HX.out))
   go_wp2_with fail
   refine (KO.out _ (Below.refl _ _)).mono ?_
   rintro e w1 ⟨rfl, hb1⟩
   have HW1 : Hid (Below w.heap.size w w1) := hid (HB.out.trans (hb1.mono HB.out.size))
   clear hb1 c0 c1 c2 KO
   cases hq : (p == q) with
   | true =>
    have HF : Hid (findO L q = some (opA L k)) := hid (findO_hit (by rw [HL.out]; exact hlt) HM.out (by rw [← HTU.out]; exact eq_of_beq hq))
    clear hq
    go_wp2
    go_ret
    exact ⟨Or.inr ⟨k, rfl, hlt, HF.out⟩, HW1.out⟩
   | false =>
    have HF : Hid (∀ j, j < k + 1 → (opA L j).1 ≠ q) := hid (fun j hj => by
     by_cases hjk : j < k
     ·exact HM.out j hjk
     ·have : j = k := by omega
      subst this
      rw [← HTU.out]
      exact beq_eq_false_iff_ne.1 hq)
    clear hq
    go_wp2
    go_roundw
    case rel => exact ⟨k + 1, by go_num, by omega, HF, HW1⟩
    case measure => simp [intOf]; omega
  ·have hkl : k = n := by omega
   have HF : Hid (findO L q = none) := hid (findO_miss (by rw [HL.out, ← hkl]; exact HM.out))
   go_wp2
   go_ret
   exact ⟨Or.inl ⟨rfl, HF.out⟩, HB.out⟩
def opV : Option OP → Array Value
 | some o => #[.string (mk o.1), .int .i64 o.2.1, .int .i64 o.2.2]
 | none => #[.string ⟨#[]⟩, .int .i64 0, .int .i64 0]
set_option maxRecDepth 20000 in
set_option maxHeartbeats 2000000 in
theorem operator_any (a : Option Addr) (n c : Nat) (L : List OP) (z : List Int) (q : Nm) (w : World) (h : OpS w a n c L) (hz : z.length = 10) (hn : n ≤ 1000000) :
  Calls Tryz.prog 106 #[.agg (ev a n c z), .string (mk q)] w fun e w' => e = .returned (.tuple #[.agg (opV (findO L q)), .bool (findO L q).isSome]) ∧ Below w.heap.size w w' := by
 obtain ⟨B, hB⟩ : ∃ B, B = w.heap.size := ⟨_, rfl⟩
 obtain ⟨w1, hw1⟩ : ∃ w1, w1 = w.alloc (.cells (ev a n c z) 30) := ⟨_, rfl⟩
 obtain ⟨w2, hw2⟩ : ∃ w2, w2 = w1.alloc (.cells #[.string (mk q)] 9) := ⟨_, rfl⟩
 obtain ⟨w3, hw3⟩ : ∃ w3, w3 = w2.alloc (.cells #[.string ⟨#[]⟩, .int .i64 0, .int .i64 0] 52) := ⟨_, rfl⟩
 obtain ⟨b1, hb1⟩ : ∃ b1, b1 = w1.heap.size := ⟨_, rfl⟩
 obtain ⟨b2, hb2⟩ : ∃ b2, b2 = w2.heap.size := ⟨_, rfl⟩
 have s1 : b1 = B + 1 := by rw [hb1, hw1, hB]; simp
 have s2 : b2 = B + 1 + 1 := by rw [hb2, hw2]; simp; omega
 have HE : Hid (EB w3 B a n c z) := hid (by rw [hw3, hw2, hw1, hB]; exact ((EB.new w a n c z).alloc _).alloc _)
 have HQ : Hid (w3.cell? ⟨b1, 0, none⟩ = some (.string (mk q))) := hid (by
  rw [hw3]
  refine ((below_alloc w2 _).cell (p := ⟨b1, 0, none⟩) (by dsimp only; omega)).trans ?_
  rw [hw2, hb1]
  exact cell_of_row (w1.alloc _) w1.heap.size 0 _ _ _ (heap_alloc_new w1 _))
 have HR : Hid (D3 w3 b2 ([], 0, 0)) := hid (by rw [hw3, hb2]; exact D3.new w2 ([], 0, 0))
 have HB3 : Hid (Below B w w3) := hid (by rw [hw3, hw2, hw1, hB]; exact ((below_alloc w _).alloc (by simp) _).alloc (by simp; omega) _)
 have HBW := hid hB
 have HBB : Hid (b1 = B + 1 ∧ b2 = B + 1 + 1) := hid ⟨s1, s2⟩
 have H3 : Hid (OpS w3 a n c L) := hid (h.below (by rw [← hB]; exact HB3.out))
 have HZ := hid hz
 have x0 := HE.out.c0
 clear h hz
 go_enter Tryz.func106, Tryz.ntmps106
 go_upto_region 1 with fail
 rw [← hw1]
 try rw [← hw2]
 try rw [← hw3]
 rw [← hB]
 try rw [← s2]
 try rw [← s1]
 clear hw1 hw2 hw3 s1 s2 hB hb1 hb2
 go_wp2_with fail
 refine (indexO_any a n c L q b1 w3 H3.out HQ.out hn).mono ?_
 rintro e w4 ⟨⟨rfl, hf⟩ | ⟨k, rfl, hk, hf⟩, hb4⟩
 ·have HF := hid hf
  have HB4 : Hid (Below B w w4) := hid (HB3.out.trans (hb4.mono (by have := HBW.out; have := HB3.out.size; omega)))
  have HR4 : Hid (D3 w4 b2 ([], 0, 0)) := hid (HR.out.below hb4)
  clear hf hb4 x0
  go_wp2_with (refine store_d3 rfl (.tmp 4) (.tmp 13) rfl b2 rfl [] 0 0 rfl ([], 0, 0) HR4.out ?_; intro w5 h5 ho5; have H5 := hid h5; have HO5 := hid ho5; clear h5 ho5)
  refine bodyPost_ret (results_pair rfl _ _ b2 52 #[.string (mk []), .int .i64 0, .int .i64 0] (0, 0) _ rfl H5.out Tryz.underlying52 rfl d3_info) rfl ⟨by rw [HF.out]; rfl, ?_⟩
  rw [← HBW.out]
  exact HB4.out.trans (HO5.out.below (by have := HBB.out; omega))
 ·have HF := hid hf
  have HB34 := hid hb4
  have HB4 : Hid (Below B w w4) := hid (HB3.out.trans (hb4.mono (by have := HBW.out; have := HB3.out.size; omega)))
  have HR4 : Hid (D3 w4 b2 ([], 0, 0)) := hid (HR.out.below hb4)
  have H4 : Hid (OpS w4 a n c L) := hid (H3.out.below hb4)
  have x4 := (HE.out.below hb4).c0
  clear hf hb4 x0
  obtain ⟨b, off, rfl, _, hc⟩ := H4.out.at_ (by omega)
  clear hc
  obtain ⟨c0, c1, c2⟩ := OpS.at3 H4.out hk
  obtain ⟨T, hT⟩ : ∃ T, T = opA L k := ⟨_, rfl⟩
  rw [← hT] at c0 c1 c2
  have HF' : Hid (findO L q = some T) := hid (by rw [hT]; exact HF.out)
  clear hT
  obtain ⟨p, g, s⟩ := T
  dsimp only at c0 c1 c2
  have hk0 : (0 : Int) ≤ (k : Int) := Int.natCast_nonneg _
  go_wp2_with (refine store_d3 rfl (.tmp 4) (.tmp 18) rfl b2 rfl p g s rfl ([], 0, 0) HR4.out ?_; intro w5 h5 ho5; have H5 := hid h5; have HO5 := hid ho5; clear h5 ho5)
  refine bodyPost_ret (results_pair rfl _ _ b2 52 #[.string (mk p), .int .i64 g, .int .i64 s] (0, 0) _ rfl H5.out Tryz.underlying52 rfl d3_info) rfl ⟨by rw [HF'.out]; rfl, ?_⟩
  rw [← HBW.out]
  exact HB4.out.trans (HO5.out.below (by have := HBB.out; omega))
set_option maxRecDepth 20000 in
set_option maxHeartbeats 4000000 in
theorem fitN_any (a : Option Addr) (n c : Nat) (L : List OP) (z : List Int) (p : Nm) (g s : Int) (x : ND) (right : Bool) (w : World) (ht : Tab w) (h : OpS w a n c L) (hz : z.length = 10) (hr : ∀ i, i < 10 → I64 (bt z i)) (hn : n ≤ 1000000) (hp : p.length ≤ 1000000) (hL : ∀ o ∈ L, o.1.length ≤ 1000000) :
  Calls Tryz.prog 108 #[.agg (ev a n c z), .agg #[.string (mk p), .int .i64 g, .int .i64 s], .agg (ndA x), .bool right] w fun e w' => e = .returned (.bool (mayH L z (p, g, s) x right)) ∧ Below w.heap.size w w' := by
 obtain ⟨B, hB⟩ : ∃ B, B = w.heap.size := ⟨_, rfl⟩
 obtain ⟨w1, hw1⟩ : ∃ w1, w1 = w.alloc (.cells (ev a n c z) 30) := ⟨_, rfl⟩
 obtain ⟨w2, hw2⟩ : ∃ w2, w2 = w1.alloc (.cells #[.string (mk p), .int .i64 g, .int .i64 s] 52) := ⟨_, rfl⟩
 obtain ⟨w3, hw3⟩ : ∃ w3, w3 = w2.alloc (.cells (ndA x) 37) := ⟨_, rfl⟩
 obtain ⟨b1, hb1⟩ : ∃ b1, b1 = w1.heap.size := ⟨_, rfl⟩
 obtain ⟨b2, hb2⟩ : ∃ b2, b2 = w2.heap.size := ⟨_, rfl⟩
 have s1 : b1 = B + 1 := by rw [hb1, hw1, hB]; simp
 have s2 : b2 = B + 1 + 1 := by rw [hb2, hw2]; simp; omega
 have HE : Hid (EB w3 B a n c z) := hid (by rw [hw3, hw2, hw1, hB]; exact ((EB.new w a n c z).alloc _).alloc _)
 have HO : Hid (D3 w3 b1 (p, g, s)) := hid (by rw [hw3, hw2, hb1]; exact (D3.new w1 (p, g, s)).alloc _)
 have HN : Hid (N5 w3 b2 x) := hid (by rw [hw3, hb2]; exact N5.new w2 x)
 have HB3 : Hid (Below B w w3) := hid (by rw [hw3, hw2, hw1, hB]; exact ((below_alloc w _).alloc (by simp) _).alloc (by simp; omega) _)
 have HBW := hid hB
 have H3 : Hid (OpS w3 a n c L) := hid (h.below (by rw [← hB]; exact HB3.out))
 have HZ := hid hz
 have HR := hid hr
 have HL := hid hL
 have HP := hid hp
 have HT := hid (Tab.keep ht (by rw [← hB]; exact HB3.out))
 obtain ⟨d0, d1, d2, d3, d4⟩ := HN.out.cells
 obtain ⟨V, hV⟩ : ∃ V, V = mayH L z (p, g, s) x right := ⟨_, rfl⟩
 have HV := hid hV
 rw [← hV]
 clear h hz hr hL hp ht d2 d3 d4 hV
 have hnd : ndA x = #[.int .i64 x.k, .string (mk x.n), .int .i64 x.f, .int .i64 x.t, .int .i64 x.c] := rfl
 obtain ⟨xk, hxk⟩ : ∃ k, k = x.k := ⟨_, rfl⟩
 have HK := hid hxk
 rw [← hxk] at d0
 clear hxk
 go_enter Tryz.func108, Tryz.ntmps108
 rw [hnd]
 go_upto_region 1 with fail
 rw [← hnd]
 rw [← hw1]
 try rw [← hw2]
 try rw [← hw3]
 rw [← hB]
 try rw [← s2]
 try rw [← s1]
 clear hw1 hw2 hw3 s1 s2 hB hnd hb1 hb2
 go_wp2_with (refine load_env rfl (.tmp 4) rfl B rfl a n c z HZ.out HE.out ?_)
 refine (operator_any a n c L z x.n w3 H3.out HZ.out hn).mono ?_
 rintro e w4 ⟨rfl, hb4⟩
 have HB4 : Hid (Below B w w4) := hid (HB3.out.trans (hb4.mono (by have := HBW.out; have := HB3.out.size; omega)))
 obtain ⟨D, hD⟩ : ∃ D, D = w4.heap.size := ⟨_, rfl⟩
 have HD := hid hD
 have HE4 := hid (HE.out.below hb4)
 have HO4 : Hid (D3 w4 b1 (p, g, s)) := hid (HO.out.below hb4)
 have HN4 : Hid (N5 w4 b2 x) := hid (HN.out.below hb4)
 have HT4 := hid (Tab.keep HT.out hb4)
 clear hb4 d0 d1 hD
 have hfin : ∀ w5 w' : World, Below w4.heap.size w4 w5 → Below w5.heap.size w5 w' → Below w.heap.size w w' := fun w5 w' h1 h2 => by
  rw [← HBW.out]
  exact HB4.out.trans ((h1.trans (h2.mono h1.size)).mono (by have := HBW.out; have := HB4.out.size; omega))
 have HFIN := hid hfin
 clear hfin
 cases hf : findO L x.n with
 | none =>
  have HF := hid hf
  clear hf
  by_cases h3 : xk = 3
  ·have hv : V = false := by rw [HV.out]; unfold mayH; rw [← HK.out, if_pos h3, HF.out]
   subst h3
   subst hv
   go_wp2_with (refine store_d3 rfl (.tmp 9) (.tmp 16) rfl _ rfl [] 0 0 rfl ([], 0, 0) (D3.new w4 ([], 0, 0)) ?_; rw [← HD.out]; intro w5 h5 ho5; have HK5 := hid h5; have HB45 : Hid (Below w4.heap.size w4 w5) := hid ((below_alloc w4 _).trans (ho5.below (by rw [HD.out]; exact Nat.le_refl _))); have e0 : w5.cell? ⟨b2, 0, none⟩ = some (.int .i64 3) := (by rw [HK.out]; exact (HN4.out.below HB45.out).cells.1); clear h5 ho5)
   go_ret
   exact ⟨rfl, HFIN.out _ _ HB45.out (Below.refl _ _)⟩
  ·have hv : V = true := by rw [HV.out]; unfold mayH; rw [← HK.out, if_neg h3]
   subst hv
   go_wp2_with (refine store_d3 rfl (.tmp 9) (.tmp 16) rfl _ rfl [] 0 0 rfl ([], 0, 0) (D3.new w4 ([], 0, 0)) ?_; rw [← HD.out]; intro w5 h5 ho5; have HK5 := hid h5; have HB45 : Hid (Below w4.heap.size w4 w5) := hid ((below_alloc w4 _).trans (ho5.below (by rw [HD.out]; exact Nat.le_refl _))); have e0 : w5.cell? ⟨b2, 0, none⟩ = some (.int .i64 xk) := (by rw [HK.out]; exact (HN4.out.below HB45.out).cells.1); clear h5 ho5)
   go_ret
   exact ⟨rfl, HFIN.out _ _ HB45.out (Below.refl _ _)⟩
 | some o =>
  have HF := hid hf
  have HQL : Hid (o.1.length ≤ 1000000) := hid (HL.out o (List.mem_of_find?_eq_some hf))
  clear hf
  obtain ⟨q', h', t'⟩ := o
  by_cases h3 : xk = 3
  ·have hv : V = fitsB z (p, g, s) (q', h', t') right := by rw [HV.out]; unfold mayH; rw [← HK.out, if_pos h3, HF.out]
   have HFT : Hid (∀ w', Below w4.heap.size w4 w' → Calls Tryz.prog 93 #[.agg (rv z), .agg #[.string (mk p), .int .i64 g, .int .i64 s], .agg #[.string (mk q'), .int .i64 h', .int .i64 t'], .bool right] w' fun e w'' => e = .returned (.bool V) ∧ Below w'.heap.size w' w'') := hid fun w' hb => by
    rw [hv]
    exact fits_any z HZ.out HR.out p g s q' h' t' right w' (Tab.keep HT4.out hb) HP.out HQL.out
   subst h3
   clear hv
   go_wp2_with (first
    | (refine store_d3 rfl (.tmp 9) (.tmp 16) rfl _ rfl q' h' t' rfl ([], 0, 0) (D3.new w4 ([], 0, 0)) ?_; rw [← HD.out]; intro w5 h5 ho5; have HK5 := hid h5; have HB45 : Hid (Below w4.heap.size w4 w5) := hid ((below_alloc w4 _).trans (ho5.below (by rw [HD.out]; exact Nat.le_refl _))); have e0 : w5.cell? ⟨b2, 0, none⟩ = some (.int .i64 3) := (by rw [HK.out]; exact (HN4.out.below HB45.out).cells.1); clear h5 ho5)
    | (refine load_er rfl (.tmp 24) rfl B rfl a n c z HZ.out (HE4.out.below HB45.out) ?_)
    | (refine load_d3 rfl (.tmp 5) rfl b1 rfl p g s (HO4.out.below HB45.out) ?_)
    | (refine load_d3 rfl (.tmp 9) rfl D rfl q' h' t' HK5.out ?_))
   refine (HFT.out _ HB45.out).mono ?_
   rintro e w6 ⟨rfl, hb6⟩
   have HB6 := hid hb6
   clear hb6
   cases V with
   | true =>
    go_wp2
    go_ret
    exact ⟨rfl, HFIN.out _ _ HB45.out HB6.out⟩
   | false =>
    go_wp2
    go_ret
    exact ⟨rfl, HFIN.out _ _ HB45.out HB6.out⟩
  ·have hv : V = true := by rw [HV.out]; unfold mayH; rw [← HK.out, if_neg h3]
   subst hv
   go_wp2_with (refine store_d3 rfl (.tmp 9) (.tmp 16) rfl _ rfl q' h' t' rfl ([], 0, 0) (D3.new w4 ([], 0, 0)) ?_; rw [← HD.out]; intro w5 h5 ho5; have HK5 := hid h5; have HB45 : Hid (Below w4.heap.size w4 w5) := hid ((below_alloc w4 _).trans (ho5.below (by rw [HD.out]; exact Nat.le_refl _))); have e0 : w5.cell? ⟨b2, 0, none⟩ = some (.int .i64 xk) := (by rw [HK.out]; exact (HN4.out.below HB45.out).cells.1); clear h5 ho5)
   go_ret
   exact ⟨rfl, HFIN.out _ _ HB45.out (Below.refl _ _)⟩
end
section
open Go.RowKit
structure But (m X Y : Nat) (w w' : World) : Prop where
 b : Below m w w'
 s : ∀ g, g < w.heap.size → g ≠ X → g ≠ Y → w'.heap[g]? = w.heap[g]?
theorem But.refl (m X Y : Nat) (w : World) : But m X Y w w := ⟨Below.refl _ _, fun _ _ _ _ => rfl⟩
theorem But.size {m X Y : Nat} {w w' : World} (h : But m X Y w w') : w.heap.size ≤ w'.heap.size := h.b.size
theorem But.trans {m X Y : Nat} {a b c : World} (h : But m X Y a b) (k : But m X Y b c) : But m X Y a c :=
 ⟨h.b.trans k.b, fun g hg h1 h2 => (k.s g (Nat.lt_of_lt_of_le hg h.size) h1 h2).trans (h.s g hg h1 h2)⟩
theorem But.of {m X Y : Nat} {w w' : World} (h : Below w.heap.size w w') (hm : m ≤ w.heap.size) : But m X Y w w' := ⟨h.mono hm, fun g hg _ _ => h.block g hg⟩
theorem But.onlyX {m X Y : Nat} {w w' : World} (h : Only X w w') (hm : m ≤ X) : But m X Y w w' := ⟨h.below hm, fun g _ h1 _ => h.block g h1⟩
theorem But.onlyY {m X Y : Nat} {w w' : World} (h : Only Y w w') (hm : m ≤ Y) : But m X Y w w' := ⟨h.below hm, fun g _ _ h2 => h.block g h2⟩
theorem But.row {m X Y g : Nat} {w w' : World} (h : But m X Y w w') (h1 : g ≠ X) (h2 : g ≠ Y) {o : Obj} (hg : w.heap[g]? = some o) : w'.heap[g]? = some o :=
 (h.s g (Array.getElem?_eq_some_iff.1 hg).1 h1 h2).trans hg
theorem pt_drop {P : List Nm} {k : Nat} (h : k < P.length) : P.drop k = pt P k :: P.drop (k + 1) := by
 rw [List.drop_eq_getElem_cons h]; unfold pt; simp [List.getD, h]
def remI (l : Bool) (P : List Nm) (r : Bool) (k : Nat) : List Nm := alI (decide (0 < k) || l) (P.drop k) r
theorem rem_hole {l : Bool} {P : List Nm} {r : Bool} {k : Nat} (hk : k < P.length) (h : (decide (0 < k) || l) = true) : remI l P r k = [] :: pt P k :: remI l P r (k + 1) := by
 unfold remI
 rw [h, pt_drop hk]
 have : decide (0 < k + 1) = true := by simp
 rw [this]
 rfl
theorem rem_part {l : Bool} {P : List Nm} {r : Bool} {k : Nat} (hk : k < P.length) (h : (decide (0 < k) || l) = false) : remI l P r k = pt P k :: remI l P r (k + 1) := by
 unfold remI
 rw [h, pt_drop hk]
 have : decide (0 < k + 1) = true := by simp
 rw [this]
 rfl
theorem rem_end {l : Bool} {P : List Nm} {r : Bool} {k : Nat} (hk : P.length ≤ k) : remI l P r k = if r then [[]] else [] := by
 unfold remI
 rw [List.drop_eq_nil_of_le hk]
 cases (decide (0 < k) || l) <;> rfl
set_option maxRecDepth 20000 in
set_option maxHeartbeats 8000000 in
theorem alongN_any (X0 : Nat) (m X Y : Nat) (J : List Nm → World → Prop) (Jx : World → Prop)
  (KP : ∀ (x : Nm) (r : List Nm) (w1 : World), x ≠ [] → J (x :: r) w1 → Calls Tryz.prog 152 #[.string (mk x)] w1 fun e w' => ∃ b, e = .returned (.bool b) ∧ (b = true → J r w') ∧ (b = false → Jx w') ∧ But m X Y w1 w')
  (KH : ∀ (r : List Nm) (w1 : World), J ([] :: r) w1 → Calls Tryz.prog 153 #[.pointer (some ⟨X0, 0, none⟩)] w1 fun e w' => ∃ b, e = .returned (.bool b) ∧ (b = true → J r w') ∧ (b = false → Jx w') ∧ But m X Y w1 w')
  (a : Option Addr) (n c : Nat) (P : List Nm) (l r : Bool) (w : World) (hS : ∀ w', But m X Y w w' → Ss w' a n c P) (hp : ∀ p ∈ P, p ≠ []) (hn : n ≤ 1000000) (hm : m ≤ w.heap.size) (hX : X < w.heap.size) (hY : Y < w.heap.size)
  (hJ : ∀ w', Below w.heap.size w w' → J (alI l P r) w') :
  Calls Tryz.prog 112 #[.agg #[.slice a n c, .bool l, .bool r], .func (.func 152) #[] #[], .func (.func 153) #[] #[.pointer (some ⟨X0, 0, none⟩)]] w fun e w' => ∃ b, e = .returned (.bool b) ∧ (b = true → J [] w') ∧ (b = false → Jx w') ∧ But m X Y w w' := by
 obtain ⟨B, hB⟩ : ∃ B, B = w.heap.size := ⟨_, rfl⟩
 obtain ⟨w1, hw1⟩ : ∃ w1, w1 = w.alloc (.cells #[.slice a n c, .bool l, .bool r] 168) := ⟨_, rfl⟩
 have HB1 : Hid (But m X Y w w1) := hid (by rw [hw1]; exact But.of (below_alloc w _) hm)
 have HS1 : Hid (w1.heap[B]? = some (.cells #[.slice a n c, .bool l, .bool r] 168 (0, 0))) := hid (by rw [hw1, hB]; exact heap_alloc_new w _)
 have HJ1 : Hid (J (remI l P r 0) w1) := hid (hJ _ (by rw [hw1]; exact below_alloc w _))
 have HNE : Hid (B ≠ X ∧ B ≠ Y) := hid ⟨by omega, by omega⟩
 have HP := hid hp
 have HSS := hid hS
 have HL : Hid (P.length = n) := hid (Ss.len (hS w (But.refl _ _ _ _)))
 have HKP := hid KP
 have HKH := hid KH
 obtain ⟨⟨y0, y1, y2⟩, _⟩ := three HS1.out
 clear KP KH hp hS hJ hm hX hY
 go_enter Tryz.func112, Tryz.ntmps112
 go_upto_region 1 with fail
 rw [← hw1, ← hB]
 clear hw1 hB
 go_wp2
 go_loopw [12] (fun u wr => ∃ k : Nat, u = .int .i64 k ∧ k ≤ n ∧ Hid (J (remI l P r k) wr) ∧ Hid (But m X Y w1 wr)) (fun u _ => n - (intOf u).toNat)
 case atStart => exact ⟨0, rfl, by omega, HJ1, hid (But.refl _ _ _ _)⟩
 case round =>
  obtain ⟨k, rfl, hk, HJ, HB⟩ := hrel
  clear y0 y1 y2
  obtain ⟨⟨y0, y1, y2⟩, _⟩ := three (HB.out.row HNE.out.1 HNE.out.2 HS1.out)
  have hss := HSS.out _ (HB1.out.trans HB.out)
  have hk0 : (0 : Int) ≤ (k : Int) := Int.natCast_nonneg _
  by_cases hlt : k < n
  ·obtain ⟨b, o, rfl, _, hc⟩ := hss.at_ (by omega)
   clear hc
   have s0 := Ss.str hss hlt
   have hkb : k + 1 ≤ 1000000 := by omega
   obtain ⟨p, hp⟩ : ∃ p, p = pt P k := ⟨_, rfl⟩
   have HPN : Hid (p ≠ []) := hid (by rw [hp]; exact HP.out _ (pt_mem (by rw [HL.out]; exact hlt)))
   have HR1 : Hid ((decide (0 < k) || l) = true → remI l P r k = [] :: p :: remI l P r (k + 1)) := hid fun h => by rw [hp]; exact rem_hole (by rw [HL.out]; exact hlt) h
   have HR0 : Hid ((decide (0 < k) || l) = false → remI l P r k = p :: remI l P r (k + 1)) := hid fun h => by rw [hp]; exact rem_part (by rw [HL.out]; exact hlt) h
   rw [← hp] at s0
   clear hp hss
   have HPART : Hid (∀ w2, But m X Y wr w2 → J (p :: remI l P r (k + 1)) w2 → Calls Tryz.prog 152 #[.string (mk p)] w2 fun e w' => ∃ b, e = .returned (.bool b) ∧ (b = true → J (remI l P r (k + 1)) w') ∧ (b = false → Jx w') ∧ But m X Y w1 w') := hid fun w2 hb hj =>
    (HKP.out p _ w2 HPN.out hj).mono fun e w' ⟨b, he, h1, h2, h3⟩ => ⟨b, he, h1, h2, HB.out.trans (hb.trans h3)⟩
   by_cases hh : k = 0 ∧ l = false
   ·obtain ⟨rfl, rfl⟩ := hh
    rw [Nat.add_zero] at s0
    have hj := HJ.out
    rw [HR0.out rfl] at hj
    have HJ' := hid hj
    clear hj
    go_wp2_with fail
    refine (HPART.out wr (But.refl _ _ _ _) HJ'.out).mono ?_
    rintro e w3 ⟨b3, rfl, hb1, hb0, hbut⟩
    cases b3 with
    | false =>
     have HF := hid (And.intro (hb0 rfl) hbut)
     clear hb0 hb1 hbut y0 y1 y2
     go_wp2
     go_ret
     exact ⟨false, rfl, (fun h => by cases h), fun _ => HF.out.1, HB1.out.trans HF.out.2⟩
    | true =>
     have HF := hid (And.intro (hb1 rfl) hbut)
     clear hb0 hb1 hbut y0 y1 y2
     go_wp2
     go_roundw
     case rel => exact ⟨1, by go_num, by omega, hid HF.out.1, hid HF.out.2⟩
     case measure => simp [intOf]; omega
   ·have hd : (decide (0 < k) || l) = true := by
     cases l with
     | true => simp
     | false =>
      have : 0 < k := by
       rcases Nat.eq_zero_or_pos k with h | h
       ·exact absurd ⟨h, rfl⟩ hh
       ·exact h
      simp [this]
    have hj := HJ.out
    rw [HR1.out hd] at hj
    have KH1 : Hid (Calls Tryz.prog 153 #[.pointer (some ⟨X0, 0, none⟩)] wr fun e w' => ∃ b, e = .returned (.bool b) ∧ (b = true → J (p :: remI l P r (k + 1)) w') ∧ (b = false → Jx w') ∧ But m X Y wr w') := hid (HKH.out _ wr hj)
    clear hj hd
    by_cases hkp : (0 : Int) < (k : Int)
    ·clear hh
     go_wp2_with fail
     refine KH1.out.mono ?_
     rintro e w2 ⟨b2, rfl, hb1, hb0, hbut⟩
     cases b2 with
     | false =>
      have HF := hid (And.intro (hb0 rfl) hbut)
      clear hb0 hb1 hbut y0 y1 y2
      go_wp2
      go_ret
      exact ⟨false, rfl, (fun h => by cases h), fun _ => HF.out.1, HB1.out.trans (HB.out.trans HF.out.2)⟩
     | true =>
      have HF := hid (And.intro (hb1 rfl) hbut)
      clear hb0 hb1 hbut y0 y1 y2
      go_wp2_with fail
      refine (HPART.out w2 HF.out.2 HF.out.1).mono ?_
      rintro e w3 ⟨b3, rfl, hb1, hb0, hbut⟩
      cases b3 with
      | false =>
       have HG := hid (And.intro (hb0 rfl) hbut)
       clear hb0 hb1 hbut
       go_wp2
       go_ret
       exact ⟨false, rfl, (fun h => by cases h), fun _ => HG.out.1, HB1.out.trans HG.out.2⟩
      | true =>
       have HG := hid (And.intro (hb1 rfl) hbut)
       clear hb0 hb1 hbut
       go_wp2
       go_roundw
       case rel => exact ⟨k + 1, by go_num, by omega, hid HG.out.1, hid HG.out.2⟩
       case measure => simp [intOf]; omega
    ·obtain rfl : k = 0 := by omega
     have hl : l = true := by
      cases l with
      | true => rfl
      | false => exact absurd ⟨rfl, rfl⟩ hh
     subst hl
     rw [Nat.add_zero] at s0
     clear hh
     go_wp2_with fail
     refine KH1.out.mono ?_
     rintro e w2 ⟨b2, rfl, hb1, hb0, hbut⟩
     cases b2 with
     | false =>
      have HF := hid (And.intro (hb0 rfl) hbut)
      clear hb0 hb1 hbut y0 y1 y2
      go_wp2
      go_ret
      exact ⟨false, rfl, (fun h => by cases h), fun _ => HF.out.1, HB1.out.trans (HB.out.trans HF.out.2)⟩
     | true =>
      have HF := hid (And.intro (hb1 rfl) hbut)
      clear hb0 hb1 hbut y0 y1 y2
      go_wp2_with fail
      refine (HPART.out w2 HF.out.2 HF.out.1).mono ?_
      rintro e w3 ⟨b3, rfl, hb1, hb0, hbut⟩
      cases b3 with
      | false =>
       have HG := hid (And.intro (hb0 rfl) hbut)
       clear hb0 hb1 hbut
       go_wp2
       go_ret
       exact ⟨false, rfl, (fun h => by cases h), fun _ => HG.out.1, HB1.out.trans HG.out.2⟩
      | true =>
       have HG := hid (And.intro (hb1 rfl) hbut)
       clear hb0 hb1 hbut
       go_wp2
       go_roundw
       case rel => exact ⟨1, by go_num, by omega, hid HG.out.1, hid HG.out.2⟩
       case measure => simp [intOf]; omega
  ·obtain rfl : k = n := by omega
   have HE : Hid (remI l P r k = if r then [[]] else []) := hid (rem_end (by rw [HL.out]; exact Nat.le_refl _))
   clear hss
   cases r with
   | false =>
    have hj := HJ.out
    rw [HE.out] at hj
    have HJ' := hid hj
    clear hj
    go_wp2
    go_ret
    exact ⟨true, rfl, (fun _ => HJ'.out), (fun h => by cases h), HB1.out.trans HB.out⟩
   | true =>
    have hj := HJ.out
    rw [HE.out] at hj
    have KH1 : Hid (Calls Tryz.prog 153 #[.pointer (some ⟨X0, 0, none⟩)] wr fun e w' => ∃ b, e = .returned (.bool b) ∧ (b = true → J [] w') ∧ (b = false → Jx w') ∧ But m X Y wr w') := hid (HKH.out _ wr hj)
    clear hj
    go_wp2_with fail
    refine KH1.out.mono ?_
    rintro e w2 ⟨b2, rfl, hb1, hb0, hbut⟩
    cases b2 with
    | false =>
     have HF := hid (And.intro (hb0 rfl) hbut)
     clear hb0 hb1 hbut y0 y1 y2
     go_wp2
     go_ret
     exact ⟨false, rfl, (fun h => by cases h), fun _ => HF.out.1, HB1.out.trans (HB.out.trans HF.out.2)⟩
    | true =>
     have HF := hid (And.intro (hb1 rfl) hbut)
     clear hb0 hb1 hbut y0 y1 y2
     go_wp2
     go_ret
     exact ⟨true, rfl, (fun _ => HF.out.1), (fun h => by cases h), HB1.out.trans (HB.out.trans HF.out.2)⟩
set_option maxRecDepth 20000 in
set_option maxHeartbeats 8000000 in
theorem alongO_any (ba bn bl bk : Nat) (m X Y : Nat) (J : List Nm → World → Prop) (Jx : World → Prop)
  (KP : ∀ (x : Nm) (r : List Nm) (w1 : World), x ≠ [] → J (x :: r) w1 → Calls Tryz.prog 109 #[.string (mk x), .pointer (some ⟨ba, 0, none⟩), .pointer (some ⟨bn, 0, none⟩), .pointer (some ⟨bl, 0, none⟩)] w1 fun e w' => ∃ b, e = .returned (.bool b) ∧ (b = true → J r w') ∧ (b = false → Jx w') ∧ But m X Y w1 w')
  (KH : ∀ (r : List Nm) (w1 : World), J ([] :: r) w1 → Calls Tryz.prog 111 #[.pointer (some ⟨bk, 0, none⟩), .pointer (some ⟨ba, 0, none⟩)] w1 fun e w' => ∃ b, e = .returned (.bool b) ∧ (b = true → J r w') ∧ (b = false → Jx w') ∧ But m X Y w1 w')
  (a : Option Addr) (n c : Nat) (P : List Nm) (l r : Bool) (w : World) (hS : ∀ w', But m X Y w w' → Ss w' a n c P) (hp : ∀ p ∈ P, p ≠ []) (hn : n ≤ 1000000) (hm : m ≤ w.heap.size) (hX : X < w.heap.size) (hY : Y < w.heap.size)
  (hJ : ∀ w', Below w.heap.size w w' → J (alI l P r) w') :
  Calls Tryz.prog 112 #[.agg #[.slice a n c, .bool l, .bool r], .func (.func 109) #[] #[.pointer (some ⟨ba, 0, none⟩), .pointer (some ⟨bn, 0, none⟩), .pointer (some ⟨bl, 0, none⟩)], .func (.func 111) #[] #[.pointer (some ⟨bk, 0, none⟩), .pointer (some ⟨ba, 0, none⟩)]] w fun e w' => ∃ b, e = .returned (.bool b) ∧ (b = true → J [] w') ∧ (b = false → Jx w') ∧ But m X Y w w' := by
 obtain ⟨B, hB⟩ : ∃ B, B = w.heap.size := ⟨_, rfl⟩
 obtain ⟨w1, hw1⟩ : ∃ w1, w1 = w.alloc (.cells #[.slice a n c, .bool l, .bool r] 168) := ⟨_, rfl⟩
 have HB1 : Hid (But m X Y w w1) := hid (by rw [hw1]; exact But.of (below_alloc w _) hm)
 have HS1 : Hid (w1.heap[B]? = some (.cells #[.slice a n c, .bool l, .bool r] 168 (0, 0))) := hid (by rw [hw1, hB]; exact heap_alloc_new w _)
 have HJ1 : Hid (J (remI l P r 0) w1) := hid (hJ _ (by rw [hw1]; exact below_alloc w _))
 have HNE : Hid (B ≠ X ∧ B ≠ Y) := hid ⟨by omega, by omega⟩
 have HP := hid hp
 have HSS := hid hS
 have HL : Hid (P.length = n) := hid (Ss.len (hS w (But.refl _ _ _ _)))
 have HKP := hid KP
 have HKH := hid KH
 obtain ⟨⟨y0, y1, y2⟩, _⟩ := three HS1.out
 clear KP KH hp hS hJ hm hX hY
 go_enter Tryz.func112, Tryz.ntmps112
 go_upto_region 1 with fail
 rw [← hw1, ← hB]
 clear hw1 hB
 go_wp2
 go_loopw [12] (fun u wr => ∃ k : Nat, u = .int .i64 k ∧ k ≤ n ∧ Hid (J (remI l P r k) wr) ∧ Hid (But m X Y w1 wr)) (fun u _ => n - (intOf u).toNat)
 case atStart => exact ⟨0, rfl, by omega, HJ1, hid (But.refl _ _ _ _)⟩
 case round =>
  obtain ⟨k, rfl, hk, HJ, HB⟩ := hrel
  clear y0 y1 y2
  obtain ⟨⟨y0, y1, y2⟩, _⟩ := three (HB.out.row HNE.out.1 HNE.out.2 HS1.out)
  have hss := HSS.out _ (HB1.out.trans HB.out)
  have hk0 : (0 : Int) ≤ (k : Int) := Int.natCast_nonneg _
  by_cases hlt : k < n
  ·obtain ⟨b, o, rfl, _, hc⟩ := hss.at_ (by omega)
   clear hc
   have s0 := Ss.str hss hlt
   have hkb : k + 1 ≤ 1000000 := by omega
   obtain ⟨p, hp⟩ : ∃ p, p = pt P k := ⟨_, rfl⟩
   have HPN : Hid (p ≠ []) := hid (by rw [hp]; exact HP.out _ (pt_mem (by rw [HL.out]; exact hlt)))
   have HR1 : Hid ((decide (0 < k) || l) = true → remI l P r k = [] :: p :: remI l P r (k + 1)) := hid fun h => by rw [hp]; exact rem_hole (by rw [HL.out]; exact hlt) h
   have HR0 : Hid ((decide (0 < k) || l) = false → remI l P r k = p :: remI l P r (k + 1)) := hid fun h => by rw [hp]; exact rem_part (by rw [HL.out]; exact hlt) h
   rw [← hp] at s0
   clear hp hss
   have HPART : Hid (∀ w2, But m X Y wr w2 → J (p :: remI l P r (k + 1)) w2 → Calls Tryz.prog 109 #[.string (mk p), .pointer (some ⟨ba, 0, none⟩), .pointer (some ⟨bn, 0, none⟩), .pointer (some ⟨bl, 0, none⟩)] w2 fun e w' => ∃ b, e = .returned (.bool b) ∧ (b = true → J (remI l P r (k + 1)) w') ∧ (b = false → Jx w') ∧ But m X Y w1 w') := hid fun w2 hb hj =>
    (HKP.out p _ w2 HPN.out hj).mono fun e w' ⟨b, he, h1, h2, h3⟩ => ⟨b, he, h1, h2, HB.out.trans (hb.trans h3)⟩
   by_cases hh : k = 0 ∧ l = false
   ·obtain ⟨rfl, rfl⟩ := hh
    rw [Nat.add_zero] at s0
    have hj := HJ.out
    rw [HR0.out rfl] at hj
    have HJ' := hid hj
    clear hj
    go_wp2_with fail
    refine (HPART.out wr (But.refl _ _ _ _) HJ'.out).mono ?_
    rintro e w3 ⟨b3, rfl, hb1, hb0, hbut⟩
    cases b3 with
    | false =>
     have HF := hid (And.intro (hb0 rfl) hbut)
     clear hb0 hb1 hbut y0 y1 y2
     go_wp2
     go_ret
     exact ⟨false, rfl, (fun h => by cases h), fun _ => HF.out.1, HB1.out.trans HF.out.2⟩
    | true =>
     have HF := hid (And.intro (hb1 rfl) hbut)
     clear hb0 hb1 hbut y0 y1 y2
     go_wp2
     go_roundw
     case rel => exact ⟨1, by go_num, by omega, hid HF.out.1, hid HF.out.2⟩
     case measure => simp [intOf]; omega
   ·have hd : (decide (0 < k) || l) = true := by
     cases l with
     | true => simp
     | false =>
      have : 0 < k := by
       rcases Nat.eq_zero_or_pos k with h | h
       ·exact absurd ⟨h, rfl⟩ hh
       ·exact h
      simp [this]
    have hj := HJ.out
    rw [HR1.out hd] at hj
    have KH1 : Hid (Calls Tryz.prog 111 #[.pointer (some ⟨bk, 0, none⟩), .pointer (some ⟨ba, 0, none⟩)] wr fun e w' => ∃ b, e = .returned (.bool b) ∧ (b = true → J (p :: remI l P r (k + 1)) w') ∧ (b = false → Jx w') ∧ But m X Y wr w') := hid (HKH.out _ wr hj)
    clear hj hd
    by_cases hkp : (0 : Int) < (k : Int)
    ·clear hh
     go_wp2_with fail
     refine KH1.out.mono ?_
     rintro e w2 ⟨b2, rfl, hb1, hb0, hbut⟩
     cases b2 with
     | false =>
      have HF := hid (And.intro (hb0 rfl) hbut)
      clear hb0 hb1 hbut y0 y1 y2
      go_wp2
      go_ret
      exact ⟨false, rfl, (fun h => by cases h), fun _ => HF.out.1, HB1.out.trans (HB.out.trans HF.out.2)⟩
     | true =>
      have HF := hid (And.intro (hb1 rfl) hbut)
      clear hb0 hb1 hbut y0 y1 y2
      go_wp2_with fail
      refine (HPART.out w2 HF.out.2 HF.out.1).mono ?_
      rintro e w3 ⟨b3, rfl, hb1, hb0, hbut⟩
      cases b3 with
      | false =>
       have HG := hid (And.intro (hb0 rfl) hbut)
       clear hb0 hb1 hbut
       go_wp2
       go_ret
       exact ⟨false, rfl, (fun h => by cases h), fun _ => HG.out.1, HB1.out.trans HG.out.2⟩
      | true =>
       have HG := hid (And.intro (hb1 rfl) hbut)
       clear hb0 hb1 hbut
       go_wp2
       go_roundw
       case rel => exact ⟨k + 1, by go_num, by omega, hid HG.out.1, hid HG.out.2⟩
       case measure => simp [intOf]; omega
    ·obtain rfl : k = 0 := by omega
     have hl : l = true := by
      cases l with
      | true => rfl
      | false => exact absurd ⟨rfl, rfl⟩ hh
     subst hl
     rw [Nat.add_zero] at s0
     clear hh
     go_wp2_with fail
     refine KH1.out.mono ?_
     rintro e w2 ⟨b2, rfl, hb1, hb0, hbut⟩
     cases b2 with
     | false =>
      have HF := hid (And.intro (hb0 rfl) hbut)
      clear hb0 hb1 hbut y0 y1 y2
      go_wp2
      go_ret
      exact ⟨false, rfl, (fun h => by cases h), fun _ => HF.out.1, HB1.out.trans (HB.out.trans HF.out.2)⟩
     | true =>
      have HF := hid (And.intro (hb1 rfl) hbut)
      clear hb0 hb1 hbut y0 y1 y2
      go_wp2_with fail
      refine (HPART.out w2 HF.out.2 HF.out.1).mono ?_
      rintro e w3 ⟨b3, rfl, hb1, hb0, hbut⟩
      cases b3 with
      | false =>
       have HG := hid (And.intro (hb0 rfl) hbut)
       clear hb0 hb1 hbut
       go_wp2
       go_ret
       exact ⟨false, rfl, (fun h => by cases h), fun _ => HG.out.1, HB1.out.trans HG.out.2⟩
      | true =>
       have HG := hid (And.intro (hb1 rfl) hbut)
       clear hb0 hb1 hbut
       go_wp2
       go_roundw
       case rel => exact ⟨1, by go_num, by omega, hid HG.out.1, hid HG.out.2⟩
       case measure => simp [intOf]; omega
  ·obtain rfl : k = n := by omega
   have HE : Hid (remI l P r k = if r then [[]] else []) := hid (rem_end (by rw [HL.out]; exact Nat.le_refl _))
   clear hss
   cases r with
   | false =>
    have hj := HJ.out
    rw [HE.out] at hj
    have HJ' := hid hj
    clear hj
    go_wp2
    go_ret
    exact ⟨true, rfl, (fun _ => HJ'.out), (fun h => by cases h), HB1.out.trans HB.out⟩
   | true =>
    have hj := HJ.out
    rw [HE.out] at hj
    have KH1 : Hid (Calls Tryz.prog 111 #[.pointer (some ⟨bk, 0, none⟩), .pointer (some ⟨ba, 0, none⟩)] wr fun e w' => ∃ b, e = .returned (.bool b) ∧ (b = true → J [] w') ∧ (b = false → Jx w') ∧ But m X Y wr w') := hid (HKH.out _ wr hj)
    clear hj
    go_wp2_with fail
    refine KH1.out.mono ?_
    rintro e w2 ⟨b2, rfl, hb1, hb0, hbut⟩
    cases b2 with
    | false =>
     have HF := hid (And.intro (hb0 rfl) hbut)
     clear hb0 hb1 hbut y0 y1 y2
     go_wp2
     go_ret
     exact ⟨false, rfl, (fun h => by cases h), fun _ => HF.out.1, HB1.out.trans (HB.out.trans HF.out.2)⟩
    | true =>
     have HF := hid (And.intro (hb1 rfl) hbut)
     clear hb0 hb1 hbut y0 y1 y2
     go_wp2
     go_ret
     exact ⟨true, rfl, (fun _ => HF.out.1), (fun h => by cases h), HB1.out.trans (HB.out.trans HF.out.2)⟩
end
section
open Go.RowKit
def C1 (w : World) (b : Nat) (t : TypeId) (v : Value) : Prop := w.heap[b]? = some (.cells #[v] t (0, 0))
theorem C1.cell {w : World} {b : Nat} {t : TypeId} {v : Value} (h : C1 w b t v) : w.cell? ⟨b, 0, none⟩ = some v := cell_of_row w b 0 _ _ _ h
theorem C1.frozen {w : World} {b : Nat} {t : TypeId} {v : Value} (h : C1 w b t v) : w.frozen? ⟨b, 0, none⟩ = false := frozen_of_row w b 0 _ _ h
theorem C1.lt {w : World} {b : Nat} {t : TypeId} {v : Value} (h : C1 w b t v) : b < w.heap.size := (Array.getElem?_eq_some_iff.1 h).1
theorem C1.new (w : World) (t : TypeId) (v : Value) : C1 (w.alloc (.cells #[v] t)) w.heap.size t v := heap_alloc_new w _
theorem C1.set {w : World} {b : Nat} {t : TypeId} {v : Value} (h : C1 w b t v) (v' : Value) : C1 (w.setCell ⟨b, 0, none⟩ v') b t v' := by
 unfold C1 at h ⊢
 rw [blk_set _ h]; simp
theorem C1.keep {w w' : World} {b B : Nat} {t : TypeId} {v : Value} (h : C1 w b t v) (hb : Below B w w') (hB : b < B) : C1 w' b t v := (hb.block b hB).trans h
theorem C1.below {w w' : World} {b : Nat} {t : TypeId} {v : Value} (h : C1 w b t v) (hb : Below w.heap.size w w') : C1 w' b t v := h.keep hb h.lt
theorem C1.alloc {w : World} {b : Nat} {t : TypeId} {v : Value} (h : C1 w b t v) (o : Obj) : C1 (w.alloc o) b t v := h.below (below_alloc w o)
theorem C1.only {w w' : World} {b g : Nat} {t : TypeId} {v : Value} (h : C1 w b t v) (ho : Only g w w') (hne : b ≠ g) : C1 w' b t v := (ho.block b hne).trans h
theorem C1.but {w w' : World} {b m X Y : Nat} {t : TypeId} {v : Value} (h : C1 w b t v) (ho : But m X Y w w') (h1 : b ≠ X) (h2 : b ≠ Y) : C1 w' b t v := ho.row h1 h2 h
theorem N5.but {w w' : World} {b m X Y : Nat} {x : ND} (h : N5 w b x) (ho : But m X Y w w') (h1 : b ≠ X) (h2 : b ≠ Y) : N5 w' b x := ho.row h1 h2 h
theorem nint1 : (Tryz.prog.info? 3).map (·.size) = some 1 := by kernel_rfl
theorem store_c1 {ops : Array Oper} {rest : List Oper} {o : Oper} {A : Act} {w : World} {Q : Exit → Act → World → Prop} (hgd : o.guard = none) (ty : TypeId) (x y : Operand) (ho : o.op = .store ty x y)
  (b : Nat) (hx : A.eval x = .pointer (some ⟨b, 0, none⟩)) (v : Value) (hy : A.eval y = v) (hi : (Tryz.prog.info? ty).map (·.size) = some 1) (hc : v.cells = #[v]) (h1 : v.oneCell' = true) (t : TypeId) (u : Value) (h : C1 w b t u)
  (k : ∀ w', C1 w' b t v → Only b w w' → wpList Tryz.prog ops Q rest (A.put o.dst undef) w') : wpList Tryz.prog ops Q (o :: rest) A w :=
 wpList_store_cell hgd ty t x y ho b 0 [u] v hx hy hi hc h (by simp) h1 fun w' h' ho' => k w' h' ho'
theorem holN_le (p : Nm) (I : List Nm) : holN (p :: I) ≤ holN I + 1 := by
 by_cases hp : p = []
 ·subst hp; rw [holN_hole]; exact Nat.le_refl _
 ·rw [holN_part hp]; omega
theorem holN_alI : ∀ (P : List Nm) (l r : Bool), holN (alI l P r) ≤ 2 * P.length + 1
 | [], l, r => by cases r <;> simp [alI, holN]
 | p :: P, l, r => by
  have ih := holN_alI P true r
  have h1 := holN_le p (alI true P r)
  rw [List.length_cons]
  cases l with
  | true =>
   show holN ([] :: p :: alI true P r) ≤ _
   rw [holN_hole]; omega
  | false =>
   show holN (p :: alI true P r) ≤ _
   omega
set_option maxRecDepth 20000 in
theorem holes1_any (x : Nm) (w : World) : Calls Tryz.prog 152 #[.string (mk x)] w fun e w' => e = .returned (.bool true) ∧ w = w' := by
 go_enter Tryz.func152, Tryz.ntmps152
 go_wp2
 go_ret
 exact ⟨rfl, rfl⟩
set_option maxRecDepth 20000 in
theorem holes2_any (X : Nat) (k : Nat) (w : World) (h : C1 w X 3 (.int .i64 (k : Int))) (hk : k ≤ 100000000) : Calls Tryz.prog 153 #[.pointer (some ⟨X, 0, none⟩)] w fun e w' => e = .returned (.bool true) ∧ C1 w' X 3 (.int .i64 ((k + 1 : Nat) : Int)) ∧ Only X w w' := by
 have x0 := h.cell
 have H := hid h
 clear h
 go_enter Tryz.func153, Tryz.ntmps153
 go_wp2_with (refine store_c1 rfl 3 (.tmp 0) (.tmp 3) rfl X rfl _ rfl nint1 rfl rfl 3 _ H.out ?_; intro w2 h2 ho2; have H2 := hid h2; have HO2 := hid ho2; clear h2 ho2 x0)
 go_ret
 exact ⟨rfl, by rw [show ((k + 1 : Nat) : Int) = (k : Int) + 1 by omega]; exact H2.out, HO2.out⟩
set_option maxRecDepth 20000 in
set_option maxHeartbeats 4000000 in
theorem holes_any (a : Option Addr) (n c : Nat) (P : List Nm) (l r : Bool) (w : World) (h : Ss w a n c P) (hp : ∀ p ∈ P, p ≠ []) (hn : n ≤ 1000000) :
  Calls Tryz.prog 107 #[.agg #[.slice a n c, .bool l, .bool r]] w fun e w' => e = .returned (.int .i64 (holN (alI l P r) : Nat)) ∧ Below w.heap.size w w' := by
 obtain ⟨B, hB⟩ : ∃ B, B = w.heap.size := ⟨_, rfl⟩
 obtain ⟨w1, hw1⟩ : ∃ w1, w1 = w.alloc (.cells #[.slice a n c, .bool l, .bool r] 168) := ⟨_, rfl⟩
 have s1 : w1.heap.size = B + 1 := by rw [hw1, hB]; simp
 have HB1 : Hid (Below B w w1) := hid (by rw [hw1, hB]; exact below_alloc w _)
 have HS1 : Hid (w1.heap[B]? = some (.cells #[.slice a n c, .bool l, .bool r] 168 (0, 0))) := hid (by rw [hw1, hB]; exact heap_alloc_new w _)
 obtain ⟨X, hX⟩ : ∃ X, X = w1.heap.size := ⟨_, rfl⟩
 have HX : Hid (B = w.heap.size ∧ X = B + 1) := hid ⟨hB, by omega⟩
 obtain ⟨N, hN⟩ : ∃ N, N = holN (alI l P r) := ⟨_, rfl⟩
 have HL : Hid (P.length = n) := hid (Ss.len h)
 have HNN : Hid (N ≤ 2000001 ∧ N = holN (alI l P r)) := hid ⟨by have := holN_alI P l r; have := HL.out; omega, hN⟩
 have H := hid h
 have HP := hid hp
 have KA : Hid (∀ w3 : World, Below w.heap.size w w3 → X < w3.heap.size → C1 w3 X 3 (.int .i64 ((0 : Nat) : Int)) → Calls Tryz.prog 112 #[.agg #[.slice a n c, .bool l, .bool r], .func (.func 152) #[] #[], .func (.func 153) #[] #[.pointer (some ⟨X, 0, none⟩)]] w3 fun e w' => ∃ b, e = .returned (.bool b) ∧ C1 w' X 3 (.int .i64 (N : Int)) ∧ Below B w3 w') := hid fun w3 hb hx hc => by
  have hBx := HX.out
  refine (alongN_any X B X X (fun I w1 => ∃ k : Nat, C1 w1 X 3 (.int .i64 (k : Int)) ∧ k + holN I = N ∧ B ≤ w1.heap.size) (fun _ => False) ?_ ?_ a n c P l r w3 ?_ HP.out hn (by have := hb.size; omega) hx hx ?_).mono ?_
  ·rintro x r w1 hx ⟨k, h1, h2, h3⟩
   refine (holes1_any x w1).mono ?_
   rintro e w' ⟨rfl, rfl⟩
   exact ⟨true, rfl, fun _ => ⟨k, h1, by rw [← h2, holN_part hx], h3⟩, (fun h => by cases h), But.refl _ _ _ _⟩
  ·rintro r w1 ⟨k, h1, h2, h3⟩
   rw [holN_hole] at h2
   refine (holes2_any X k w1 h1 (by have := HNN.out.1; omega)).mono ?_
   rintro e w' ⟨rfl, h4, h5⟩
   exact ⟨true, rfl, fun _ => ⟨k + 1, h4, by omega, by rw [h5.size]; exact h3⟩, (fun h => by cases h), But.onlyX h5 (by omega)⟩
  ·intro w' hbut
   exact H.out.below (hb.trans (hbut.b.mono (by omega)))
  ·intro w' hb'
   exact ⟨0, hc.below hb', by rw [Nat.zero_add, HNN.out.2], by have := hb.size; have := hb'.size; omega⟩
  ·rintro e w' ⟨b, rfl, h1, h2, h3⟩
   cases b with
   | false => exact (h2 rfl).elim
   | true =>
    obtain ⟨k, h4, h5, _⟩ := h1 rfl
    have h5 : k = N := h5
    subst h5
    exact ⟨true, rfl, h4, h3.b⟩
 obtain ⟨⟨y0, y1, y2⟩, _⟩ := three HS1.out
 rw [← hN]
 have HXX := hid hX
 clear h hp hN hX
 go_enter Tryz.func107, Tryz.ntmps107
 go_upto_region 1 with fail
 rw [← hw1, ← hB]
 clear hw1 hB s1
 have hnx : C1 (w1.alloc (.cells #[.int .i64 0] 3)) X 3 (.int .i64 0) := by rw [HXX.out]; exact C1.new w1 _ _
 have HNX := hid hnx
 clear hnx y0 y1 y2
 go_wp2_with (refine store_c1 rfl 3 (.tmp 3) (.const (.int .i64 0)) rfl X (by rw [HXX.out]; rfl) (.int .i64 0) rfl nint1 rfl rfl 3 (.int .i64 0) HNX.out ?_; rw [← HXX.out]; intro w2 h2 ho2; have H2 := hid h2; have HB2 : Hid (Below w1.heap.size w1 w2) := hid ((below_alloc w1 _).trans (ho2.below (by rw [HXX.out]; exact Nat.le_refl _))); obtain ⟨⟨y0, y1, y2⟩, _⟩ := three (cells3 HS1.out HB2.out); clear h2 ho2)
 have HBW : Hid (Below B w w2) := hid (HB1.out.trans (HB2.out.mono (by have := HX.out; have := HB1.out.size; omega)))
 refine (KA.out w2 (by rw [← HX.out.1]; exact HBW.out) H2.out.lt H2.out).mono ?_
 rintro e w3 ⟨b, rfl, h3, hb3⟩
 have x3 := h3.cell
 have HB3 : Hid (Below B w w3) := hid (HBW.out.trans hb3)
 clear h3 hb3 y0 y1 y2
 go_wp2
 go_ret
 exact ⟨rfl, by rw [← HX.out.1]; exact HB3.out⟩
theorem tok_at {w : World} {a : Option Addr} {n c : Nat} {tok : List TK} (h : Ts w a n c tok) {k : Nat} (hk : k < n) : ∃ b o, a = some ⟨b, o, none⟩ ∧ w.cell? ⟨b, o + k * 5, none⟩ = some (.int .i64 (tat tok k).k) ∧ w.cell? ⟨b, o + k * 5 + 1, none⟩ = some (.int .i64 (tat tok k).f) ∧ w.cell? ⟨b, o + k * 5 + 2, none⟩ = some (.int .i64 (tat tok k).t) ∧ w.cell? ⟨b, o + k * 5 + 3, none⟩ = some (.string (mk (txN (tat tok k)))) ∧ w.cell? ⟨b, o + k * 5 + 4, none⟩ = some (.int .i64 (tat tok k).e) := by
 obtain ⟨b, o, rfl, _, _⟩ := h.at_ (by omega)
 obtain ⟨c0, c1, c2, c3, c4⟩ := h.at5 hk
 exact ⟨b, o, rfl, c0, c1, c2, by rw [txN_mk]; exact c3, c4⟩
set_option maxRecDepth 20000 in
set_option maxHeartbeats 4000000 in
theorem opart_any (p : Nm) (ba bn bl bk m : Nat) (at_ : Nat) (x : ND) (la : Option Addr) (ln lc : Nat) (tok : List TK) (w : World) (hA : C1 w ba 3 (.int .i64 (at_ : Int))) (hN : N5 w bn x) (hL : C1 w bl 23 (.slice la ln lc)) (hT : Ts w la ln lc tok)
  (hln : ln ≤ 1000000) (hat : at_ ≤ 1000000) (hxt : x.t ≤ ln) (hm : m ≤ ba) (h1 : bn ≠ ba) (h2 : bl ≠ ba) :
  Calls Tryz.prog 109 #[.string (mk p), .pointer (some ⟨ba, 0, none⟩), .pointer (some ⟨bn, 0, none⟩), .pointer (some ⟨bl, 0, none⟩)] w fun e w' =>
   e = .returned (.bool (decide ((at_ : Int) < x.t) && partB (tkn tok at_).k (txN (tkn tok at_)) p)) ∧ C1 w' ba 3 (.int .i64 ((at_ + 1 : Nat) : Int)) ∧ But m ba bk w w' := by
 have x0 := hA.cell
 have HA := hid hA
 have HN := hid hN
 have HL := hid hL
 have HT := hid hT
 have HD := hid (And.intro h1 (And.intro h2 hm))
 obtain ⟨xt, hxt'⟩ : ∃ t, t = x.t := ⟨_, rfl⟩
 have HXT := hid hxt'
 rw [← hxt'] at hxt ⊢
 have hTs : ∀ w', Only ba w w' → at_ < ln → Ts w' la ln lc tok := fun w' ho hl => by
  obtain ⟨b, o, rfl, hb, hc⟩ := HT.out.at_ (by omega)
  have hne : b ≠ ba := by
   intro e
   subst e
   have := hc 0 (by omega) 3 (by omega)
   rw [show o + (0 * 5 + 3) = o + 3 by omega] at this
   unfold C1 at hA
   rw [cell_of_row w b (o + 3) _ _ _ hA] at this
   simp [cellsT] at this
  exact ⟨HT.out.hl, HT.out.lc, HT.out.cm, fun _ => ⟨b, o, rfl, by rw [ho.size]; exact hb, fun j hj i hi => by
   rw [← hc j hj i hi]
   unfold World.cell?
   rw [show (w'.heap[b]? = w.heap[b]?) from ho.block b hne]⟩⟩
 have HTS := hid hTs
 obtain ⟨tk, htk⟩ : ∃ y, y = tkn tok at_ := ⟨_, rfl⟩
 have htk' : tat tok at_ = tk := by rw [htk]; unfold tkn; rw [Int.toNat_natCast]
 have HTK := hid htk'
 rw [← htk]
 clear hA hN hL hT h1 h2 hm hxt' hTs htk htk'
 have hat0 : (0 : Int) ≤ (at_ : Int) := Int.natCast_nonneg _
 have hcast : ((at_ + 1 : Nat) : Int) = (at_ : Int) + 1 := by omega
 rw [hcast]
 clear hcast
 by_cases hlt : (at_ : Int) < xt
 ·have hln' : at_ < ln := by omega
  obtain ⟨b, o, rfl, hcs⟩ : ∃ b o, la = some ⟨b, o, none⟩ ∧ ∀ w', Only ba w w' → w'.cell? ⟨b, o + at_ * 5, none⟩ = some (.int .i64 tk.k) ∧ w'.cell? ⟨b, o + at_ * 5 + 1, none⟩ = some (.int .i64 tk.f) ∧ w'.cell? ⟨b, o + at_ * 5 + 2, none⟩ = some (.int .i64 tk.t) ∧ w'.cell? ⟨b, o + at_ * 5 + 3, none⟩ = some (.string (mk (txN tk))) ∧ w'.cell? ⟨b, o + at_ * 5 + 4, none⟩ = some (.int .i64 tk.e) := by
   obtain ⟨b, o, e, _, _⟩ := HT.out.at_ (by omega)
   refine ⟨b, o, e, fun w' ho => ?_⟩
   obtain ⟨b', o', e', h⟩ := tok_at (HTS.out w' ho hln') hln'
   rw [e] at e'
   simp only [Option.some.injEq, Addr.mk.injEq, and_true] at e'
   obtain ⟨rfl, rfl⟩ := e'
   rw [HTK.out] at h
   exact h
  have HV : Hid (partB tk.k (txN tk) p = (decide ((at_ : Int) < xt) && partB tk.k (txN tk) p)) := hid (by rw [decide_eq_true hlt, Bool.true_and])
  rw [← HV.out]
  obtain ⟨V, hV⟩ : ∃ V, V = partB tk.k (txN tk) p := ⟨_, rfl⟩
  obtain ⟨tx, htx⟩ : ∃ y, y = txN tk := ⟨_, rfl⟩
  have KP : Hid (∀ w' : World, Calls Tryz.prog 110 #[.agg #[.int .i64 tk.k, .int .i64 tk.f, .int .i64 tk.t, .string (mk tx), .int .i64 tk.e], .string (mk p)] w' fun e w'' => e = .returned (.bool V) ∧ Below w'.heap.size w' w'') := hid fun w' => by rw [hV, htx]; exact fpart_any tk.k tk.f tk.t (txN tk) tk.e p w'
  rw [← hV]
  rw [← htx] at hcs
  have HCS := hid hcs
  clear hV hcs HV htx
  go_enter Tryz.func109, Tryz.ntmps109
  go_wp2_with (refine store_c1 rfl 3 (.tmp 1) (.tmp 7) rfl ba rfl (.int .i64 ((at_ : Int) + 1)) rfl nint1 rfl rfl 3 _ HA.out ?_; intro w2 h2 ho2; have H2 := hid h2; have HO2 := hid ho2; have e0 := h2.cell; have e1 := (HN.out.only ho2 HD.out.1).cells.2.2.2.1; rw [← HXT.out] at e1; have e2 := (HL.out.only ho2 HD.out.2.1).cell; obtain ⟨d0, d1, d2, d3, d4⟩ := HCS.out w2 ho2; clear h2 ho2 x0)
  refine (KP.out w2).mono ?_
  rintro e w3 ⟨rfl, hb3⟩
  have HB3 := hid hb3
  clear hb3 e0 e1 e2 d0 d1 d2 d3 d4
  cases V with
  | true =>
   go_wp2
   go_ret
   exact ⟨rfl, H2.out.below HB3.out, (But.onlyX HO2.out HD.out.2.2).trans (But.of HB3.out (by have := H2.out.lt; have := HD.out.2.2; omega))⟩
  | false =>
   go_wp2
   go_ret
   exact ⟨rfl, H2.out.below HB3.out, (But.onlyX HO2.out HD.out.2.2).trans (But.of HB3.out (by have := H2.out.lt; have := HD.out.2.2; omega))⟩
 ·go_enter Tryz.func109, Tryz.ntmps109
  have HV : Hid ((decide ((at_ : Int) < xt) && partB tk.k (txN tk) p) = false) := hid (by rw [decide_eq_false hlt, Bool.false_and])
  go_wp2_with (refine store_c1 rfl 3 (.tmp 1) (.tmp 7) rfl ba rfl (.int .i64 ((at_ : Int) + 1)) rfl nint1 rfl rfl 3 _ HA.out ?_; intro w2 h2 ho2; have H2 := hid h2; have HO2 := hid ho2; have e0 := h2.cell; have e1 := (HN.out.only ho2 HD.out.1).cells.2.2.2.1; rw [← HXT.out] at e1; clear h2 ho2 x0)
  go_ret
  exact ⟨ret_bool (by rw [HV.out]), H2.out, But.onlyX HO2.out HD.out.2.2⟩
theorem vs_but {k : Nat} {w w' : World} {a : Option Addr} {n c m X Y : Nat} {xs : List Value} {t t' : TypeId} {u u' : Value} (hk : 2 ≤ k) (h : Vs k w a n c xs) (hX : C1 w X t u) (hY : C1 w Y t' u') (hb : But m X Y w w') : Vs k w' a n c xs :=
 ⟨h.hl, h.lc, h.cm, fun h0 => by
  obtain ⟨b, o, ha, hlt, hc⟩ := h.at_ h0
  have hm : 1 * k ≤ n * k := Nat.mul_le_mul_right k h0
  have hne : ∀ (Z : Nat) (s : TypeId) (v : Value), C1 w Z s v → b ≠ Z := by
   intro Z s v hZ e
   subst e
   have h1 := hc 1 (by omega)
   rw [cell_of_row w b (o + 1) _ _ _ hZ, List.getElem?_eq_getElem (by rw [h.hl]; omega)] at h1
   rw [Array.getElem?_eq_none (by simp)] at h1
   cases h1
  refine ⟨b, o, ha, Nat.lt_of_lt_of_le hlt hb.size, fun j hj => ?_⟩
  rw [← hc j hj]
  unfold World.cell?
  rw [hb.s b hlt (hne X t u hX) (hne Y t' u' hY)]⟩
theorem Only.cellOf {g b j : Nat} {w w' : World} (h : Only g w w') (hne : b ≠ g) : w'.cell? ⟨b, j, none⟩ = w.cell? ⟨b, j, none⟩ := by
 unfold World.cell?
 rw [show (w'.heap[b]? = w.heap[b]?) from h.block b hne]
theorem nodes_elem : Tryz.prog.elem 24 = 37 := by kernel_rfl
theorem five {w : World} {q : Nat} {x y z u v : Value} {e : TypeId} (h : w.heap[q]? = some (.cells #[x, y, z, u, v] e (0, 0))) :
  (w.cell? ⟨q, 0, none⟩ = some x ∧ w.cell? ⟨q, 1, none⟩ = some y ∧ w.cell? ⟨q, 2, none⟩ = some z ∧ w.cell? ⟨q, 3, none⟩ = some u ∧ w.cell? ⟨q, 4, none⟩ = some v) ∧ w.frozen? ⟨q, 0, none⟩ = false ∧ w.frozen? ⟨q, 1, none⟩ = false ∧ w.frozen? ⟨q, 2, none⟩ = false ∧ w.frozen? ⟨q, 3, none⟩ = false ∧ w.frozen? ⟨q, 4, none⟩ = false :=
 ⟨⟨cell_of_row w q 0 _ _ _ h, cell_of_row w q 1 _ _ _ h, cell_of_row w q 2 _ _ _ h, cell_of_row w q 3 _ _ _ h, cell_of_row w q 4 _ _ _ h⟩, frozen_of_row w q 0 _ _ h, frozen_of_row w q 1 _ _ h, frozen_of_row w q 2 _ _ h, frozen_of_row w q 3 _ _ h, frozen_of_row w q 4 _ _ h⟩
theorem run_from1 {g o n c : Nat} : ∃ o', (∀ w : World, (Instr.slice 24 (.slice (some ⟨g, o, none⟩) (n + 1) c) (some (.int .i64 1)) none none).run Tryz.prog w = .ok (.slice (some ⟨g, o', none⟩) n (c - 1)) w) ∧ (∀ (w : World) (T : List ND), NdS w (some ⟨g, o, none⟩) (n + 1) c T → NdS w (some ⟨g, o', none⟩) n (c - 1) (T.drop 1)) := by
 refine ⟨if c = 1 then o else o + 1 * 5, fun w => ?_, fun w T h => ?_⟩
 ·have := run_l nodes_elem Tryz.underlying24 nd_info (g := g) (off := o) (n := n + 1) (c := c) (l := 1) (by omega) w
  rw [Nat.add_sub_cancel] at this
  exact this
 ·have := Vs.from h (l := 1) (by omega)
  rw [Nat.add_sub_cancel, cN_drop] at this
  exact this
set_option maxRecDepth 20000 in
set_option maxHeartbeats 8000000 in
theorem ohole_any (ba bk m : Nat) (at_ : Int) (ka : Option Addr) (n kc : Nat) (x : ND) (K : List ND) (w : World) (hA : C1 w ba 3 (.int .i64 at_)) (hK : C1 w bk 24 (.slice ka (n + 1) kc)) (hS : NdS w ka (n + 1) kc (x :: K)) (h1 : ba ≠ bk) (hm : m ≤ ba) (hm' : m ≤ bk) (hmw : m ≤ w.heap.size) :
  Calls Tryz.prog 111 #[.pointer (some ⟨bk, 0, none⟩), .pointer (some ⟨ba, 0, none⟩)] w fun e w' => e = .returned (.bool (x.f == at_)) ∧ C1 w' ba 3 (.int .i64 x.t) ∧ (∃ ka' kc', C1 w' bk 24 (.slice ka' n kc') ∧ NdS w' ka' n kc' K) ∧ But m ba bk w w' := by
 have HS0 := hid hS
 obtain ⟨b, o, rfl, _, hc⟩ := hS.at_ (by omega)
 clear hc
 obtain ⟨o', hsl, hsl'⟩ := run_from1 (g := b) (o := o) (n := n) (c := kc)
 have HSL := hid hsl'
 obtain ⟨c0, c1, c2, c3, c4⟩ := NdS.at5 hS (show 0 < n + 1 by omega)
 rw [show nA (x :: K) 0 = x from rfl, Nat.zero_mul, Nat.add_zero] at c0 c1 c2 c3 c4
 obtain ⟨xk, xn, xf, xt, xc⟩ := x
 dsimp only at c0 c1 c2 c3 c4 ⊢
 obtain ⟨wz, hwz⟩ : ∃ wz, wz = w.alloc (.cells #[.int .i64 0, .string ⟨#[]⟩, .int .i64 0, .int .i64 0, .int .i64 0] 37) := ⟨_, rfl⟩
 have hbz : Below w.heap.size w wz := by rw [hwz]; exact below_alloc w _
 have a0 := hA.cell
 have k0 := hK.cell
 have az := (hA.below hbz).cell
 have kz := (hK.below hbz).cell
 obtain ⟨d0, d1, d2, d3, d4⟩ := NdS.at5 (hS.below hbz) (show 0 < n + 1 by omega)
 rw [show nA (⟨xk, xn, xf, xt, xc⟩ :: K) 0 = ⟨xk, xn, xf, xt, xc⟩ from rfl, Nat.zero_mul, Nat.add_zero] at d0 d1 d2 d3 d4
 dsimp only at d0 d1 d2 d3 d4
 obtain ⟨⟨n0, n1, n2, n3, n4⟩, f0, f1, f2, f3, f4⟩ := five (heap_alloc_new w (.cells #[.int .i64 0, .string ⟨#[]⟩, .int .i64 0, .int .i64 0, .int .i64 0] 37))
 rw [hwz] at az kz d0 d1 d2 d3 d4
 obtain ⟨wx, hwx⟩ : ∃ wx, wx = w.alloc (.cells #[.int .i64 xk, .string (mk xn), .int .i64 xf, .int .i64 xt, .int .i64 xc] 37) := ⟨_, rfl⟩
 have hbx : Below w.heap.size w wx := by rw [hwx]; exact below_alloc w _
 have ax := (hA.below hbx).cell
 have HA := hid (hA.below hbx)
 have HK := hid (hK.below hbx)
 have HSX := hid (hS.below hbx)
 have HBX := hid hbx
 have HB0 := hid (And.intro hA.lt hK.lt)
 obtain ⟨G, hG⟩ : ∃ G, G = w.heap.size := ⟨_, rfl⟩
 have HNX : Hid (N5 wx G ⟨xk, xn, xf, xt, xc⟩) := hid (by rw [hwx, hG]; exact N5.new w ⟨xk, xn, xf, xt, xc⟩)
 have HWX := hid (And.intro hwx hG)
 rw [hwx] at ax
 clear hA hK hS hbz hwz hsl' hbx hwx hG
 have HH := hid (And.intro h1 (And.intro hm (And.intro hm' hmw)))
 clear h1 hm hm' hmw
 go_enter Tryz.func111, Tryz.ntmps111
 go_upto_region 1 with fail
 go_region
 rw [← HWX.out.1, ← HWX.out.2]
 clear a0 k0 az kz c0 c1 c2 c3 c4 d0 d1 d2 d3 d4 n0 n1 n2 n3 n4 f0 f1 f2 f3 f4 ax
 have k0 := HK.out.cell
 have kf := HK.out.frozen
 have a0 := HA.out.cell
 have af := HA.out.frozen
 have x3 := HNX.out.cells.2.2.2.1
 have x2 := HNX.out.cells.2.2.1
 dsimp only at x2 x3
 have hne := HH.out.1
 have hne' : bk ≠ ba := fun e => hne e.symm
 have sA : ∀ v, (wx.setCell ⟨bk, 0, none⟩ v).cell? ⟨ba, 0, none⟩ = some (.int .i64 at_) := fun v => ((Only.ofCell wx bk 0 v).cellOf hne).trans a0
 have fA : ∀ v, (wx.setCell ⟨bk, 0, none⟩ v).frozen? ⟨ba, 0, none⟩ = false := fun v => (World.frozen?_setCell ..).trans af
 have sK : ∀ v, (wx.setCell ⟨ba, 0, none⟩ v).cell? ⟨bk, 0, none⟩ = some (.slice (some ⟨b, o, none⟩) (n + 1) kc) := fun v => ((Only.ofCell wx ba 0 v).cellOf hne').trans k0
 have fK : ∀ v, (wx.setCell ⟨ba, 0, none⟩ v).frozen? ⟨bk, 0, none⟩ = false := fun v => (World.frozen?_setCell ..).trans kf
 go_upto_region 1 with fail
 go_region
 obtain ⟨wy, hwy⟩ : ∃ wy, wy = wx.setCell ⟨bk, 0, none⟩ (.slice (some ⟨b, o', none⟩) n (kc - 1)) := ⟨_, rfl⟩
 obtain ⟨w9, hw9⟩ : ∃ w9, w9 = (wy.setCell ⟨ba, 0, none⟩ (.int .i64 xt)).drew.drew := ⟨_, rfl⟩
 have hoy : Only bk wx wy := by rw [hwy]; exact Only.ofCell _ _ _ _
 have hky : C1 wy bk 24 (.slice (some ⟨b, o', none⟩) n (kc - 1)) := by rw [hwy]; exact HK.out.set _
 have hay : C1 wy ba 3 (.int .i64 at_) := HA.out.only hoy hne
 have ho9 : Only ba wy w9 := by
  have h0 := Only.ofCell wy ba 0 (.int .i64 xt)
  rw [hw9]; exact ⟨h0.os, h0.tape, h0.output, h0.size, h0.block⟩
 have hk9 : C1 w9 bk 24 (.slice (some ⟨b, o', none⟩) n (kc - 1)) := hky.only ho9 hne'
 have ha9 : C1 w9 ba 3 (.int .i64 xt) := by rw [hw9]; exact hay.set _
 have hGG : G ≠ bk ∧ G ≠ ba := by
  have := HWX.out.2
  have h3 := HB0.out
  omega
 have hx9 := (((HNX.out.only hoy hGG.1).only ho9 hGG.2).cells).2.2.1
 dsimp only at hx9
 have HB9 : Hid (But m ba bk w w9) := hid ((But.of HBX.out HH.out.2.2.2).trans ((But.onlyY hoy HH.out.2.2.1).trans (But.onlyX ho9 HH.out.2.1)))
 have HXY : Hid (But m ba bk wx w9) := hid ((But.onlyY hoy HH.out.2.2.1).trans (But.onlyX ho9 HH.out.2.1))
 have HK9 := hid hk9
 have HA9 := hid ha9
 rw [← hwy, ← hw9]
 clear hwy hw9 hoy hky hay ho9 hk9 ha9 hGG k0 kf a0 af x2 x3 hne hne' sA fA sK fK
 go_wp2
 go_ret
 exact ⟨rfl, HA9.out, ⟨_, _, HK9.out, HSL.out _ _ (vs_but (by omega) HSX.out HA.out HK.out HXY.out)⟩, HB9.out⟩
end
end Go.Proofs.YtanhpgmiadgmjaaGreatDoor
