import Derived.Test.YtanhpgmiadgmjaaGreatDoorR28
namespace Go.Proofs.YtanhpgmiadgmjaaGreatDoor
open Go.RowKit
def prs (I : List Nm) : List Nm := I.filter fun x => !x.isEmpty
def hasp (I : List Nm) : Bool := !(prs I).isEmpty
theorem prs_app (A B : List Nm) : prs (A ++ B) = prs A ++ prs B := List.filter_append ..
theorem prs_part {x : Nm} (h : x ≠ []) (r : List Nm) : prs (x :: r) = x :: prs r := List.filter_cons_of_pos (by simpa using h)
theorem prs_hole (r : List Nm) : prs ([] :: r) = prs r := List.filter_cons_of_neg (by simp)
theorem prs_sep (b : Bool) : ∀ P : List Nm, (∀ x ∈ P, x ≠ []) → prs (sepN b P) = P
 | [], _ => by cases b <;> rfl
 | q :: P, h => by
  show prs ([] :: q :: sepN b P) = _
  rw [prs_hole, prs_part (h q (List.mem_cons_self ..)), prs_sep b P fun x hx => h x (List.mem_cons_of_mem _ hx)]
theorem prs_items {p : Nm} {s : SH} (h : ofS p = some s) : prs (itemsL s) = s.P := by
 obtain ⟨h1, h2⟩ := parts_ok h
 cases hP : s.P with
 | nil => exact absurd hP h1
 | cons q P =>
  rw [items_eq hP, prs_app, prs_part (h2 q (by rw [hP]; simp)).1, prs_sep _ _ fun x hx => (h2 x (by rw [hP]; exact List.mem_cons_of_mem _ hx)).1]
  cases s.l <;> rfl
theorem hasp_app (A B : List Nm) : hasp (A ++ B) = (hasp A || hasp B) := by
 unfold hasp
 rw [prs_app]
 cases prs A <;> simp
theorem hasp_part {x : Nm} (h : x ≠ []) (r : List Nm) : hasp (x :: r) = true := by unfold hasp; rw [prs_part h]; rfl
theorem hasp_hole (r : List Nm) : hasp ([] :: r) = hasp r := by unfold hasp; rw [prs_hole]
def nadj : List Nm → Prop
 | [] => True
 | [_] => True
 | x :: y :: r => (x = [] → y ≠ []) ∧ nadj (y :: r)
theorem nadj_tail {x : Nm} {r : List Nm} (h : nadj (x :: r)) : nadj r := by
 cases r with
 | nil => trivial
 | cons y r => exact h.2
theorem nadj_drop : ∀ (J I : List Nm), nadj (J ++ I) → nadj I
 | [], _, h => h
 | _ :: J, I, h => nadj_drop J I (nadj_tail h)
theorem nadj_sep (b : Bool) : ∀ (p : Nm) (P : List Nm), p ≠ [] → (∀ x ∈ P, x ≠ []) → nadj (p :: sepN b P)
 | p, [], hp, _ => by
  cases b
  ·trivial
  ·exact ⟨fun h => absurd h hp, trivial⟩
 | p, q :: P, hp, h => by
  have hq := h q (List.mem_cons_self ..)
  exact ⟨fun h => absurd h hp, fun _ => hq, nadj_sep b q P hq fun x hx => h x (List.mem_cons_of_mem _ hx)⟩
theorem nadj_items {p : Nm} {s : SH} (h : ofS p = some s) : nadj (itemsL s) := by
 obtain ⟨h1, h2⟩ := parts_ok h
 cases hP : s.P with
 | nil => exact absurd hP h1
 | cons q P =>
  have hq := (h2 q (by rw [hP]; simp)).1
  have hr := nadj_sep s.r q P hq fun x hx => (h2 x (by rw [hP]; exact List.mem_cons_of_mem _ hx)).1
  rw [items_eq hP]
  cases s.l
  ·exact hr
  ·exact ⟨fun _ => hq, hr⟩
theorem nadj_hole {r : List Nm} (h : nadj ([] :: r)) : r = [] ∨ ∃ y r', r = y :: r' ∧ y ≠ [] := by
 cases r with
 | nil => exact .inl rfl
 | cons y r => exact .inr ⟨y, r, rfl, h.1 rfl⟩
section
variable {L : List OP} {z : List Int} {tok : List TK}
theorem dv_tr {a b n : Nat} {l : List ND} (h : Dv L z tok .tr a b l n) : a < b ∧ b ≤ tok.length := by
 obtain ⟨_, _, h3, h4, _⟩ := dv_out h
 exact ⟨h3, h4⟩
theorem dv_it {o : OP} {I : List Nm} {first : Bool} {a b n : Nat} {l : List ND} (h : Dv L z tok (.it o I first) a b l n) : a ≤ b ∧ b ≤ tok.length := by
 obtain ⟨_, h2, h3, _⟩ := dv_out h
 exact ⟨h2, h3⟩
def BalP (L : List OP) (tok : List TK) : Gl → Nat → Nat → Prop
 | .tr, a, b => bal L (sg tok a b) 0 = some 0
 | .it o I _, a, b => ∀ s J, o ∈ L → ofS o.1 = some s → itemsL s = J ++ I → bal L (sg tok a b) (b2n (hasp J && hasp I)) = some 0
theorem part_at {o : OP} {s : SH} {J r : List Nm} {x : Nm} (U : Uq L) (ho : o ∈ L) (hs : ofS o.1 = some s) (hJ : itemsL s = J ++ x :: r) (hx : x ≠ []) {t : TK} (hp : partB t.k (txN t) x = true) : clB L t = hasp J ∧ opB L t = hasp r := by
 have hP : s.P = prs J ++ x :: prs r := by rw [← prs_items hs, hJ, prs_app, prs_part hx]
 exact part_w U ho hs hP hp
theorem dv_bal (U : Uq L) {g : Gl} {a b n : Nat} {l : List ND} (h : Dv L z tok g a b l n) : BalP L tok g a b := by
 induction h with
 | @leaf a ha hl =>
  show bal L (sg tok a (a + 1)) 0 = some 0
  have w := (leaf_w hl).1
  rw [sg_cons (by omega) ha, sg_self]
  unfold bal
  rw [w.1, w.2]; rfl
 | @paren a b t hb k1 t1 k2 t2 hd ih =>
  have hab := dv_tr hd
  show bal L (sg tok a (b + 1)) 0 = some 0
  rw [sg_cons (by omega) (by omega), sg_app tok (c := b) (by omega) (by omega), sg_cons (a := b) (by omega) hb, sg_self]
  have w1 := (bracket_w (L := L) k1).1 t1
  have w2 := (bracket_w (L := L) k2).2 t2
  unfold bal
  rw [w1.1, w1.2, if_neg (by decide), bal_app]
  have e : bal L (sg tok (a + 1) b) (0 + 1) = some (0 + 1) := bal_up L _ _ _ ih 1
  show (bal L (sg tok (a + 1) b) (0 + 1)).bind _ = _
  rw [e]
  show bal L [tat tok b] 1 = some 0
  unfold bal
  rw [w2.1, w2.2]; rfl
 | @oper a b n o s l ho hs hab _ ih =>
  exact ih s [] (findO_mem ho).1 hs rfl
 | @nil o first a ha =>
  intro s J _ _ _
  rw [sg_self, show hasp [] = false from rfl, Bool.and_false]; rfl
 | @part o x r first a b n l hx ha hp hd ih =>
  intro s J ho hs hJ
  have w := part_at U ho hs hJ hx hp
  have hab := dv_it hd
  have i2 := ih s (J ++ [x]) ho hs (by rw [hJ]; simp)
  rw [hasp_app, hasp_part hx, Bool.or_true, Bool.true_and] at i2
  rw [hasp_part hx, Bool.and_true, sg_cons (by omega) ha]
  unfold bal
  rw [w.1, w.2]
  cases hasp J with
  | true => rw [if_pos rfl]; show bal L _ (0 + b2n (hasp r)) = _; rw [Nat.zero_add]; exact i2
  | false => rw [if_neg (by decide)]; show bal L _ (0 + b2n (hasp r)) = _; rw [Nat.zero_add]; exact i2
 | @hole o r first a c b n x t l hd1 _ _ hd2 ih1 ih2 =>
  intro s J ho hs hJ
  have h1 := dv_tr hd1
  have h2 := dv_it hd2
  have i2 := ih2 s (J ++ [[]]) ho hs (by rw [hJ]; simp)
  rw [hasp_app, show hasp [[]] = false from rfl, Bool.or_false] at i2
  rw [hasp_hole, sg_app tok (c := c) (by omega) (by omega), bal_app]
  have e : bal L (sg tok a c) (0 + b2n (hasp J && hasp r)) = some (0 + b2n (hasp J && hasp r)) := bal_up L _ _ _ ih1 _
  rw [Nat.zero_add] at e
  rw [e]
  exact i2
def RestP (L : List OP) (z : List Int) (tok : List TK) : Gl → Nat → Nat → Prop
 | .tr, _, _ => True
 | .it o I _, a, b => ∀ s J, o ∈ L → ofS o.1 = some s → itemsL s = J ++ I → hasp J = true → ∃ e, a ≤ e ∧ e ≤ b ∧ bal L (sg tok a e) (b2n (hasp I)) = some 0 ∧ (∀ q, a ≤ q → q < e → ∃ h, bal L (sg tok a q) (b2n (hasp I)) = some (h + 1)) ∧ (e < b → ∃ x t, Dv L z tok .tr e b (x :: t) 1 ∧ mayH L z o x true = true)
theorem dv_rest (U : Uq L) {g : Gl} {a b n : Nat} {l : List ND} (h : Dv L z tok g a b l n) : RestP L z tok g a b := by
 induction h with
 | leaf => trivial
 | paren => trivial
 | oper => trivial
 | @nil o first a ha =>
  intro s J _ _ _ _
  exact ⟨a, Nat.le_refl _, Nat.le_refl _, by rw [sg_self]; rfl, fun q h1 h2 => by omega, fun h => by omega⟩
 | @part o x r first a b n l hx ha hp hd ih =>
  intro s J ho hs hJ hj
  have w := part_at U ho hs hJ hx hp
  have hab := dv_it hd
  obtain ⟨e, e1, e2, e3, e4, e5⟩ := ih s (J ++ [x]) ho hs (by rw [hJ]; simp) (by rw [hasp_app, hasp_part hx, Bool.or_true])
  have key : ∀ q, a + 1 ≤ q → bal L (sg tok a q) (b2n (hasp (x :: r))) = bal L (sg tok (a + 1) q) (b2n (hasp r)) := fun q hq => by
   rw [hasp_part hx, sg_cons (by omega) ha]
   show bal L (tat tok a :: _) 1 = _
   rw [show bal L (tat tok a :: sg tok (a + 1) q) 1 = if clB L (tat tok a) then bal L (sg tok (a + 1) q) (0 + b2n (opB L (tat tok a))) else bal L (sg tok (a + 1) q) (1 + b2n (opB L (tat tok a))) from rfl, w.1, w.2, hj, if_pos rfl, Nat.zero_add]
  refine ⟨e, by omega, e2, by rw [key e e1]; exact e3, fun q h1 h2 => ?_, e5⟩
  by_cases hq : q = a
  ·subst hq
   rw [sg_self, hasp_part hx]
   exact ⟨0, rfl⟩
  ·rw [key q (by omega)]
   exact e4 q (by omega) h2
 | @hole o r first a c b n x t l hd1 _ hm2 hd2 ih1 ih2 =>
  intro s J ho hs hJ hj
  have h1 := dv_tr hd1
  have h2 := dv_it hd2
  have i1 := dv_bal U hd1
  cases hr : hasp r with
  | true =>
   obtain ⟨e, e1, e2, e3, e4, e5⟩ := ih2 s (J ++ [[]]) ho hs (by rw [hJ]; simp) (by rw [hasp_app, hj, Bool.true_or])
   rw [hr] at e3 e4
   rw [hasp_hole, hr]
   have e0 : bal L (sg tok a c) 1 = some 1 := bal_up L _ _ _ i1 1
   refine ⟨e, by omega, e2, ?_, fun q q1 q2 => ?_, e5⟩
   ·rw [sg_app tok (c := c) (by omega) e1, bal_app, show b2n true = 1 from rfl, e0]
    exact e3
   ·by_cases hq : q < c
    ·obtain ⟨m, hm⟩ := bal_pre i1 q1 (Nat.le_of_lt hq)
     exact ⟨m, bal_up L _ _ _ hm 1⟩
    ·rw [sg_app tok (c := c) (by omega) (by omega), bal_app, show b2n true = 1 from rfl, e0]
     exact e4 q (by omega) q2
  | false =>
   have hn := nadj_drop J _ (hJ ▸ nadj_items hs)
   have hr0 : r = [] := by
    rcases nadj_hole hn with h | ⟨y, r', rfl, hy⟩
    ·exact h
    ·rw [hasp_part hy] at hr; cases hr
   subst hr0
   cases hd2
   rw [hasp_hole, hr]
   exact ⟨a, Nat.le_refl _, by omega, by rw [sg_self]; rfl, fun q q1 q2 => by omega, fun _ => ⟨x, t, hd1, hm2 rfl⟩⟩
end
end Go.Proofs.YtanhpgmiadgmjaaGreatDoor
