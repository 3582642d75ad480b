import Derived.Test.YtanhpgmiadgmjaaGreatDoorR29
namespace Go.Proofs.YtanhpgmiadgmjaaGreatDoor
open Go.RowKit
section
variable {L : List OP} {z : List Int} {tok : List TK}
structure Fst (L : List OP) (z : List Int) (tok : List TK) (o : OP) (s : SH) (a b n : Nat) (l : List ND) (p : Nm) (P : List Nm) (f n' : Nat) (tl l' : List ND) : Prop where
 hP : s.P = p :: P
 h1 : a ≤ f
 h2 : f < b
 part : partB (tat tok f).k (txN (tat tok f)) p = true
 low : bal L (sg tok a f) 0 = some 0
 app : l = tl ++ l'
 num : n = n' + b2n s.l
 rest : Dv L z tok (.it o (sepN s.r P) false) (f + 1) b l' n'
 left : s.l = true → ∃ x t, tl = x :: t ∧ Dv L z tok .tr a f (x :: t) 1 ∧ mayH L z o x false = true
 none_ : s.l = false → f = a ∧ tl = []
theorem it_first (U : Uq L) {o : OP} {s : SH} (hs : ofS o.1 = some s) {a b n : Nat} {l : List ND} (D : Dv L z tok (.it o (itemsL s) true) a b l n) : ∃ p P f n' tl l', Fst L z tok o s a b n l p P f n' tl l' := by
 obtain ⟨h1, h2⟩ := parts_ok hs
 cases hP : s.P with
 | nil => exact absurd hP h1
 | cons p P =>
  have hp := (h2 p (by rw [hP]; simp)).1
  rw [items_eq hP] at D
  cases hl : s.l with
  | false =>
   rw [hl] at D
   cases D with
   | part hx ha hpt hd =>
    have := dv_it hd
    exact ⟨p, P, a, n, [], l, hP, Nat.le_refl _, by omega, hpt, by rw [sg_self]; rfl, rfl, by rw [hl]; rfl, hd, (fun h => by rw [hl] at h; cases h), fun _ => ⟨rfl, rfl⟩⟩
   | hole => exact absurd rfl hp
  | true =>
   rw [hl] at D
   cases D with
   | part hx => exact absurd rfl hx
   | @hole _ _ _ _ c _ n' x t l' hd1 hm1 hm2 hd2 =>
    have hd2' : Dv L z tok (.it o (p :: sepN s.r P) false) c b l' n' := hd2
    cases hd2' with
    | part hx ha hpt hd =>
     have := dv_it hd
     have hc := dv_tr hd1
     exact ⟨p, P, c, n', x :: t, l', hP, by omega, by omega, hpt, dv_bal U hd1, rfl, by rw [hl]; rfl, hd, (fun _ => ⟨x, t, rfl, hd1, hm1 rfl⟩), fun h => by rw [hl] at h; cases h⟩
    | hole => exact absurd rfl hp
theorem fst_high (U : Uq L) {o : OP} {s : SH} (ho : o ∈ L) (hs : ofS o.1 = some s) {a b n : Nat} {l : List ND} {p : Nm} {P : List Nm} {f n' : Nat} {tl l' : List ND} (F : Fst L z tok o s a b n l p P f n' tl l') :
  ∃ e, f < e ∧ e ≤ b ∧ bal L (sg tok a e) 0 = some 0 ∧ (∀ q, f < q → q < e → ∃ h, bal L (sg tok a q) 0 = some (h + 1)) ∧ (e < b → ∃ x t, Dv L z tok .tr e b (x :: t) 1 ∧ mayH L z o x true = true) := by
 have hp := ((parts_ok hs).2 p (by rw [F.hP]; simp)).1
 have hI : itemsL s = ((if s.l then [[]] else []) ++ [p]) ++ sepN s.r P := by rw [items_eq F.hP]; simp
 have hI2 : itemsL s = (if s.l then [[]] else []) ++ p :: sepN s.r P := items_eq F.hP
 have hj0 : hasp (if s.l then [[]] else ([] : List Nm)) = false := by cases s.l <;> rfl
 obtain ⟨e, e1, e2, e3, e4, e5⟩ := dv_rest U F.rest s _ ho hs hI (by rw [hasp_app, hasp_part hp, Bool.or_true])
 have w := part_at U ho hs hI2 hp F.part
 have hb := dv_it F.rest
 have hlt : f < tok.length := by have := F.h2; omega
 have key : ∀ q, f + 1 ≤ q → bal L (sg tok a q) 0 = bal L (sg tok (f + 1) q) (b2n (hasp (sepN s.r P))) := fun q hq => by
  rw [sg_app tok F.h1 (show f ≤ q by omega), bal_app, F.low, sg_cons (by omega) hlt]
  rw [show (some 0).bind (bal L (tat tok f :: sg tok (f + 1) q)) = if clB L (tat tok f) then none else bal L (sg tok (f + 1) q) (0 + b2n (opB L (tat tok f))) from rfl, w.1, w.2, hj0, if_neg (by decide), Nat.zero_add]
 refine ⟨e, by omega, e2, by rw [key e e1]; exact e3, fun q q1 q2 => ?_, e5⟩
 rw [key q q1]
 exact e4 q q1 q2
theorem may_fits {o k : OP} {x : ND} {right : Bool} (hx : x.k = 3) (hn : findO L x.n = some k) (h : mayH L z o x right = true) : fitsB z o k right = true := by
 unfold mayH at h
 rw [if_pos hx, hn] at h
 exact h
theorem dv_seen (U : Uq L) (hz : RowsOk z) {o2 : OP} {s2 : SH} {p2 : Nm} {P2 : List Nm} (ho2 : o2 ∈ L) (hs2 : ofS o2.1 = some s2) (hP2 : s2.P = p2 :: P2) :
  ∀ (N a b : Nat) (x : ND) (t : List ND), b - a ≤ N → Dv L z tok .tr a b (x :: t) 1 → ∀ q, a ≤ q → q < b → bal L (sg tok a q) 0 = some 0 → partB (tat tok q).k (txN (tat tok q)) p2 = true →
   ∀ (o : OP) (right : Bool), mayH L z o x right = true → fitsB z o o2 right = true
 | 0, a, b, x, t, hN, D, q, q1, q2, hb, hp, o, right, hm => by omega
 | N + 1, a, b, x, t, hN, D, q, q1, q2, hb, hp, o, right, hm => by
  have hm2 : p2 ∈ s2.P := by rw [hP2]; simp
  cases D with
  | leaf ha hl =>
   obtain rfl : q = a := by omega
   have := (leaf_w hl).2 o2 ho2 s2 hs2 p2 hm2
   rw [this] at hp; cases hp
  | @paren _ b t hbl k1 t1 k2 t2 hd =>
   by_cases hq : q = a
   ·subst hq
    have h2 := (isP_of hp).2
    rw [t1] at h2
    exact absurd h2.symm ((parts_ok hs2).2 p2 hm2).2.1
   ·have hab := dv_tr hd
    have w1 := (bracket_w (L := L) k1).1 t1
    obtain ⟨m, hm'⟩ := bal_pre (dv_bal U hd) (show a + 1 ≤ q by omega) (by omega)
    rw [sg_cons (by omega) (by omega)] at hb
    rw [show bal L (tat tok a :: sg tok (a + 1) q) 0 = if clB L (tat tok a) then none else bal L (sg tok (a + 1) q) (0 + b2n (opB L (tat tok a))) from rfl, w1.1, w1.2, if_neg (by decide)] at hb
    have h3 : bal L (sg tok (a + 1) q) (0 + b2n true) = some (m + 1) := bal_up L _ _ _ hm' 1
    rw [h3] at hb
    cases hb
  | @oper _ _ n k s l hk hs hab hd =>
   have hkm := (findO_mem hk).1
   have hfit : fitsB z o k right = true := may_fits rfl hk hm
   obtain ⟨p, P, f, n', tl, l', F⟩ := it_first U hs hd
   obtain ⟨e, e1, e2, e3, e4, e5⟩ := fst_high U hkm hs F
   have hf1 := F.h1
   have hf2 := F.h2
   by_cases hq : q < f
   ·have hsl : s.l = true := by
     cases hl : s.l with
     | true => rfl
     | false => have := (F.none_ hl).1; omega
    obtain ⟨x', t', _, hd', hm'⟩ := F.left hsl
    have h1 := dv_seen U hz ho2 hs2 hP2 N a f x' t' (by omega) hd' q q1 hq hb hp k false hm'
    cases right with
    | false => exact fits_through hz o k o2 false hfit h1
    | true => exact fits_cross hz o k o2 true hfit h1
   ·by_cases hq2 : q = f
    ·subst hq2
     have h2 := (isP_of hp).2
     rw [(isP_of F.part).2] at h2
     have : k = o2 := U.one k hkm o2 ho2 s s2 hs hs2 p (by rw [F.hP]; simp) (by rw [h2]; exact hm2)
     rw [← this]; exact hfit
    ·by_cases hq3 : q < e
     ·obtain ⟨h, hh⟩ := e4 q (by omega) hq3
      rw [hh] at hb; cases hb
     ·obtain ⟨x', t', hd', hm'⟩ := e5 (by omega)
      rw [bal_cut e3 (by omega) (by omega)] at hb
      have h1 := dv_seen U hz ho2 hs2 hP2 N e b x' t' (by omega) hd' q (by omega) q2 hb hp k true hm'
      cases right with
      | true => exact fits_through hz o k o2 true hfit h1
      | false => exact fits_cross hz o k o2 false hfit h1
theorem it_same (U : Uq L) {o : OP} {s : SH} (ho : o ∈ L) (hs : ofS o.1 = some s) {N : Nat} (IH : ∀ (a b : Nat) (t t' : List ND), b - a ≤ N → Dv L z tok .tr a b t 1 → Dv L z tok .tr a b t' 1 → t = t') :
  ∀ (I J : List Nm) (a b : Nat) (fst fst' : Bool) (l l' : List ND) (n n' : Nat), itemsL s = J ++ I → hasp J = true → b - a ≤ N → Dv L z tok (.it o I fst) a b l n → Dv L z tok (.it o I fst') a b l' n' → l = l' ∧ n = n'
 | [], J, a, b, fst, fst', l, l', n, n', hJ, hj, hN, D, D' => by
  cases D
  cases D'
  exact ⟨rfl, rfl⟩
 | x :: r, J, a, b, fst, fst', l, l', n, n', hJ, hj, hN, D, D' => by
  by_cases hx : x ≠ []
  ·cases D with
   | hole => exact absurd rfl hx
   | part _ _ _ hd =>
    cases D' with
    | hole => exact absurd rfl hx
    | part _ _ _ hd' =>
     exact it_same U ho hs IH r (J ++ [x]) (a + 1) b _ _ l l' n n' (by rw [hJ]; simp) (by rw [hasp_app, hj, Bool.true_or]) (by omega) hd hd'
  ·obtain rfl : x = [] := Classical.not_not.1 hx
   cases D with
   | part h => exact absurd rfl h
   | @hole _ _ _ _ c _ m u t l1 hd1 _ _ hd2 =>
    cases D' with
    | part h => exact absurd rfl h
    | @hole _ _ _ _ c' _ m' u' t' l1' hd1' _ _ hd2' =>
     have h1 := dv_tr hd1
     have h1' := dv_tr hd1'
     have h2 := dv_it hd2
     have h2' := dv_it hd2'
     have hc : c = c' := by
      rcases nadj_hole (nadj_drop J _ (hJ ▸ nadj_items hs)) with h | ⟨y, r', rfl, hy⟩
      ·subst h
       cases hd2
       cases hd2'
       rfl
      ·have hJ' : itemsL s = (J ++ [[]]) ++ y :: r' := by rw [hJ]; simp
       have hj' : hasp (J ++ [[]]) = true := by rw [hasp_app, hj, Bool.true_or]
       have no : ∀ c c' : Nat, a < c → c < c' → c' ≤ tok.length → bal L (sg tok a c) 0 = some 0 → bal L (sg tok a c') 0 = some 0 → partB (tat tok c).k (txN (tat tok c)) y = true → False := by
        intro c c' k1 k2 k3 b1 b2 hp
        have w := part_at U ho hs hJ' hy hp
        obtain ⟨m, hm⟩ := bal_pre b2 (show a ≤ c + 1 by omega) (by omega)
        rw [sg_app tok (show a ≤ c by omega) (show c ≤ c + 1 by omega), bal_app, b1, sg_cons (by omega) (by omega), sg_self] at hm
        rw [show (some 0).bind (bal L [tat tok c]) = if clB L (tat tok c) then none else some (0 + b2n (opB L (tat tok c))) from rfl, w.1, hj', if_pos rfl] at hm
        cases hm
       have g1 := dv_bal U hd1
       have g1' := dv_bal U hd1'
       have p1 : partB (tat tok c).k (txN (tat tok c)) y = true := by
        cases hd2 with
        | part _ _ hp _ => exact hp
        | hole => exact absurd rfl hy
       have p1' : partB (tat tok c').k (txN (tat tok c')) y = true := by
        cases hd2' with
        | part _ _ hp _ => exact hp
        | hole => exact absurd rfl hy
       rcases Nat.lt_trichotomy c c' with h | h | h
       ·exact (no c c' h1.1 h h1'.2 g1 g1' p1).elim
       ·exact h
       ·exact (no c' c h1'.1 h h1.2 g1' g1 p1').elim
     subst hc
     have e1 := IH a c (u :: t) (u' :: t') (by omega) hd1 hd1'
     obtain ⟨e2, e3⟩ := it_same U ho hs IH r (J ++ [[]]) c b _ _ l1 l1' m m' (by rw [hJ]; simp) (by rw [hasp_app, hj, Bool.true_or]) (by omega) hd2 hd2'
     rw [e1, e2, e3]
     exact ⟨rfl, rfl⟩
theorem dv_unique (U : Uq L) (hz : RowsOk z) : ∀ (N a b : Nat) (t t' : List ND), b - a ≤ N → Dv L z tok .tr a b t 1 → Dv L z tok .tr a b t' 1 → t = t'
 | 0, a, b, t, t', hN, D, D' => by have := dv_tr D; omega
 | N + 1, a, b, t, t', hN, D, D' => by
  have leafNo : ∀ {t : List ND} {n : Nat} {o : OP} {s : SH} {l : List ND} {a b : Nat}, leafB (tat tok a).k (freeB L z (txN (tat tok a))) = true → b = a + 1 → findO L o.1 = some o → ofS o.1 = some s → Dv L z tok (.it o (itemsL s) true) a b l n → False := by
   intro t n o s l a b hl hb hk hs hd
   obtain ⟨p, P, f, n', tl, l', F⟩ := it_first U hs hd
   have hf1 := F.h1
   have hf2 := F.h2
   obtain rfl : f = a := by omega
   have := (leaf_w hl).2 o (findO_mem hk).1 s hs p (by rw [F.hP]; simp)
   rw [F.part] at this; cases this
  have parenNo : ∀ {t : List ND} {n : Nat} {o : OP} {s : SH} {l : List ND} {a b c : Nat}, (tat tok a).k = 6 → txN (tat tok a) = [40] → Dv L z tok .tr (a + 1) b t 1 → c = b + 1 → findO L o.1 = some o → ofS o.1 = some s → Dv L z tok (.it o (itemsL s) true) a c l n → False := by
   intro t n o s l a b c k1 t1 hdp hc hk hs hd
   obtain ⟨p, P, f, n', tl, l', F⟩ := it_first U hs hd
   have hf1 := F.h1
   have hf2 := F.h2
   have hab := dv_tr hdp
   by_cases hfa : f = a
   ·have h2 := (isP_of F.part).2
    rw [hfa, t1] at h2
    exact ((parts_ok hs).2 p (by rw [F.hP]; simp)).2.1 h2.symm
   ·have w1 := (bracket_w (L := L) k1).1 t1
    obtain ⟨m, hm'⟩ := bal_pre (dv_bal U hdp) (show a + 1 ≤ f by omega) (by omega)
    have hb := F.low
    rw [sg_cons (by omega) (by omega)] at hb
    rw [show bal L (tat tok a :: sg tok (a + 1) f) 0 = if clB L (tat tok a) then none else bal L (sg tok (a + 1) f) (0 + b2n (opB L (tat tok a))) from rfl, w1.1, w1.2, if_neg (by decide)] at hb
    have h3 : bal L (sg tok (a + 1) f) (0 + b2n true) = some (m + 1) := bal_up L _ _ _ hm' 1
    rw [h3] at hb
    cases hb
  have apart : ∀ {o1 o2 : OP} {s1 s2 : SH} {n1 n2 : Nat} {l1 l2 : List ND} {p1 p2 : Nm} {P1 P2 : List Nm} {f1 f2 m1 m2 : Nat} {tl1 tl2 r1 r2 : List ND}, o1 ∈ L → o2 ∈ L → ofS o1.1 = some s1 → ofS o2.1 = some s2 →
    Fst L z tok o1 s1 a b n1 l1 p1 P1 f1 m1 tl1 r1 → Fst L z tok o2 s2 a b n2 l2 p2 P2 f2 m2 tl2 r2 → f1 < f2 → False := by
   intro o1 o2 s1 s2 n1 n2 l1 l2 p1 p2 P1 P2 f1 f2 m1 m2 tl1 tl2 r1 r2 ho1 ho2 hs1 hs2 F1 F2 hlt
   obtain ⟨e, e1, e2, e3, e4, e5⟩ := fst_high U ho1 hs1 F1
   have g1 := F1.h1
   have g2 := F2.h2
   have hle : e ≤ f2 := by
    by_cases h : e ≤ f2
    ·exact h
    ·obtain ⟨h, hh⟩ := e4 f2 hlt (by omega)
     rw [F2.low] at hh; cases hh
   obtain ⟨x, t, hd, hm⟩ := e5 (by omega)
   have hlow : bal L (sg tok e f2) 0 = some 0 := (bal_cut e3 (by omega) hle).1 F2.low
   have q1 := dv_seen U hz ho2 hs2 F2.hP _ e b x t (Nat.le_refl _) hd f2 hle g2 hlow F2.part o1 true hm
   have hsl : s2.l = true := by
    cases hl : s2.l with
    | true => rfl
    | false => have := (F2.none_ hl).1; omega
   obtain ⟨x', t', _, hd', hm'⟩ := F2.left hsl
   have q2 := dv_seen U hz ho1 hs1 F1.hP _ a f2 x' t' (Nat.le_refl _) hd' f1 g1 hlt F1.low F1.part o2 false hm'
   have := fits_once hz o1 o2
   rw [q1, q2] at this
   cases this
  cases D with
  | leaf ha hl =>
   generalize hb : a + 1 = b at D'
   cases D' with
   | leaf => rfl
   | paren _ _ _ _ _ hd => have := dv_tr hd; omega
   | oper hk hs hab hd => exact (leafNo (t := []) hl hb.symm hk hs hd).elim
  | @paren _ b t hbl k1 t1 k2 t2 hd =>
   generalize hb : b + 1 = c at D'
   have hab := dv_tr hd
   cases D' with
   | leaf => omega
   | @paren _ b' t' _ _ _ _ _ hd' =>
    obtain rfl : b = b' := by omega
    rw [dv_unique U hz N (a + 1) b t t' (by omega) hd hd']
   | oper hk hs _ hd' => exact (parenNo k1 t1 hd hb.symm hk hs hd').elim
  | @oper _ _ n1 o1 s1 l1 hk1 hs1 hab hd1 =>
   generalize hc : b = c at D'
   cases D' with
   | leaf ha hl => exact (leafNo (t := []) hl hc hk1 hs1 hd1).elim
   | paren hbl k1 t1 k2 t2 hd => exact (parenNo k1 t1 hd hc hk1 hs1 hd1).elim
   | @oper _ _ n2 o2 s2 l2 hk2 hs2 _ hd2 =>
    subst hc
    obtain ⟨p1, P1, f1, m1, tl1, r1, F1⟩ := it_first U hs1 hd1
    obtain ⟨p2, P2, f2, m2, tl2, r2, F2⟩ := it_first U hs2 hd2
    have ho1 := (findO_mem hk1).1
    have ho2 := (findO_mem hk2).1
    have hf : f1 = f2 := by
     rcases Nat.lt_trichotomy f1 f2 with h | h | h
     ·exact (apart ho1 ho2 hs1 hs2 F1 F2 h).elim
     ·exact h
     ·exact (apart ho2 ho1 hs2 hs1 F2 F1 h).elim
    subst hf
    have hp : p1 = p2 := by rw [← (isP_of F1.part).2, ← (isP_of F2.part).2]
    have ho : o1 = o2 := U.one o1 ho1 o2 ho2 s1 s2 hs1 hs2 p1 (by rw [F1.hP]; simp) (by rw [hp, F2.hP]; simp)
    subst ho
    rw [hs1] at hs2; cases hs2
    have hPP : P1 = P2 := by have := F1.hP; rw [F2.hP] at this; exact (List.cons.inj this).2.symm
    subst hPP
    have g1 := F1.h1
    have g2 := F1.h2
    have hpn := ((parts_ok hs1).2 p1 (by rw [F1.hP]; simp)).1
    obtain ⟨q1, q2⟩ := it_same U ho1 hs1 (dv_unique U hz N) (sepN s1.r P1) ((if s1.l then [[]] else []) ++ [p1]) (f1 + 1) b _ _ _ _ _ _ (by rw [items_eq F1.hP]; simp) (by rw [hasp_app, hasp_part hpn, Bool.or_true]) (by omega) F1.rest F2.rest
    have q3 : tl1 = tl2 := by
     cases hl : s1.l with
     | false => rw [(F1.none_ hl).2, (F2.none_ hl).2]
     | true =>
      obtain ⟨x, t, e, hd, _⟩ := F1.left hl
      obtain ⟨x', t', e', hd', _⟩ := F2.left hl
      rw [e, e']
      exact dv_unique U hz N a f1 _ _ (by omega) hd hd'
    rw [F1.app, F2.app, F1.num, F2.num, q1, q2, q3]
theorem right_unique (hU : uniqB L = true) (hz : RowsOk z) {t t' : List ND} (h : rightB L z tok t = true) (h' : rightB L z tok t' = true) : t = t' :=
 dv_unique (uq_of hU) hz _ _ _ _ _ (Nat.le_refl _) (right_dv.1 h) (right_dv.1 h')
end
end Go.Proofs.YtanhpgmiadgmjaaGreatDoor
