import Derived.Test.YtanhpgmiadgmjaaGreatDoorR31
namespace Go.Proofs.YtanhpgmiadgmjaaGreatDoor
section
open Go.RowKit
section
variable {L : List OP} {z : List Int} {tok tok' : List TK}
theorem dv_move {A B : Nat} {f : Nat → Nat} {c : Int} (hf : ∀ a, A ≤ a → a ≤ B → ((f a : Nat) : Int) = (a : Int) - c ∧ f a ≤ tok'.length) (ht : ∀ a, A ≤ a → a < B → tat tok' (f a) = tat tok a) {g : Gl} {a b n : Nat} {l : List ND} (h : Dv L z tok g a b l n) :
  A ≤ a → b ≤ B → Dv L z tok' g (f a) (f b) (l.map (ND.sh c)) n := by
 have hs : ∀ a, A ≤ a → a + 1 ≤ B → f (a + 1) = f a + 1 := fun a h1 h2 => by
  have e1 := (hf a h1 (by omega)).1
  have e2 := (hf (a + 1) (by omega) h2).1
  omega
 have hl : ∀ a b, A ≤ a → a < b → b ≤ B → f a < f b := fun a b h1 h2 h3 => by
  have e1 := (hf a h1 (by omega)).1
  have e2 := (hf b (by omega) h3).1
  omega
 induction h with
 | @leaf a ha hlf =>
  intro h1 h2
  have e := hs a h1 h2
  have e1 := (hf a h1 (by omega)).1
  have e2 := (hf (a + 1) (by omega) h2)
  rw [e, List.map_cons, List.map_nil]
  have en : ND.sh c ⟨1, txN (tat tok a), a, (a + 1 : Nat), 0⟩ = ⟨1, txN (tat tok' (f a)), (f a : Nat), (f a + 1 : Nat), 0⟩ := by
   unfold ND.sh
   rw [ht a h1 (by omega)]
   congr 1
   ·exact e1.symm
   ·show ((a + 1 : Nat) : Int) - c = _; omega
  rw [en]
  exact .leaf (by omega) (by rw [ht a h1 (by omega)]; exact hlf)
 | @paren a b t hb k1 t1 k2 t2 hd ih =>
  intro h1 h2
  have hab := dv_tr hd
  have e := hs a h1 (by omega)
  have eb := hs b (by omega) h2
  have e1 := (hf a h1 (by omega)).1
  have e2 := hf (b + 1) (by omega) h2
  have ih' := ih (by omega) (by omega)
  rw [e] at ih'
  rw [eb, List.map_cons]
  have en : ND.sh c ⟨2, [], a, (b + 1 : Nat), 1⟩ = ⟨2, [], (f a : Nat), (f b + 1 : Nat), 1⟩ := by
   unfold ND.sh
   congr 1
   ·exact e1.symm
   ·show ((b + 1 : Nat) : Int) - c = _; omega
  rw [en]
  have ta := ht a h1 (by omega)
  have tb := ht b (by omega) (by omega)
  exact .paren (by omega) (by rw [ta]; exact k1) (by rw [ta]; exact t1) (by rw [tb]; exact k2) (by rw [tb]; exact t2) ih'
 | @oper a b n o s l ho hso hab hd ih =>
  intro h1 h2
  have e1 := (hf a h1 (by omega)).1
  have e2 := (hf b (by omega) h2).1
  rw [List.map_cons]
  have en : ND.sh c ⟨3, o.1, a, b, n⟩ = ⟨3, o.1, (f a : Nat), (f b : Nat), n⟩ := by
   unfold ND.sh
   congr 1
   ·exact e1.symm
   ·exact e2.symm
  rw [en]
  exact .oper ho hso (hl a b h1 hab h2) (ih h1 h2)
 | @nil o first a ha => exact fun h1 h2 => .nil (hf a h1 h2).2
 | @part o x r first a b n l hx ha hp hd ih =>
  intro h1 h2
  have hab := dv_it hd
  have e := hs a h1 (by omega)
  have e2 := hf b (by omega) h2
  have e1 := hf (a + 1) (by omega) (by omega)
  have ih' := ih (by omega) h2
  rw [e] at ih'
  exact .part hx (by omega) (by rw [ht a h1 (by omega)]; exact hp) ih'
 | @hole o r first a c' b n x t l hd1 hm1 hm2 hd2 ih1 ih2 =>
  intro h1 h2
  have g1 := dv_tr hd1
  have g2 := dv_it hd2
  have i1 := ih1 h1 (by omega)
  have i2 := ih2 (by omega) h2
  rw [List.map_append]
  rw [List.map_cons] at i1 ⊢
  exact .hole i1 hm1 hm2 i2
def Bal0 (tok : List TK) : Gl → Nat → Nat → Prop
 | .tr, a, b => bal [] (sg tok a b) 0 = some 0
 | .it _ I _, a, b => (∀ x ∈ I, x ≠ [40] ∧ x ≠ [41]) → bal [] (sg tok a b) 0 = some 0
theorem brk0 {x : TK} : (clB [] x = true ↔ x.k = 6 ∧ txN x = [41]) ∧ (opB [] x = true ↔ x.k = 6 ∧ txN x = [40]) := by
 unfold clB opB
 rw [List.any_nil, List.any_nil, Bool.and_false, Bool.or_false, Bool.or_false]
 simp only [Bool.and_eq_true, beq_iff_eq, and_self]
theorem brk0_no {x : TK} (h : x.k = 6 → txN x ≠ [40] ∧ txN x ≠ [41]) : clB [] x = false ∧ opB [] x = false := by
 constructor
 ·rw [Bool.eq_false_iff]; intro hc
  have := brk0.1.1 hc
  exact (h this.1).2 this.2
 ·rw [Bool.eq_false_iff]; intro hc
  have := brk0.2.1 hc
  exact (h this.1).1 this.2
theorem dv_bal0 {g : Gl} {a b n : Nat} {l : List ND} (h : Dv L z tok g a b l n) : Bal0 tok g a b := by
 induction h with
 | @leaf a ha hl =>
  show bal [] (sg tok a (a + 1)) 0 = some 0
  have w : clB [] (tat tok a) = false ∧ opB [] (tat tok a) = false := brk0_no fun h6 => by
   rcases leaf_k hl with hk | ⟨hk, _⟩ <;> omega
  rw [sg_cons (by omega) ha, sg_self]
  unfold bal
  rw [w.1, w.2]; rfl
 | @paren a b t hb k1 t1 k2 t2 hd ih =>
  have hab := dv_tr hd
  show bal [] (sg tok a (b + 1)) 0 = some 0
  rw [sg_cons (by omega) (by omega), sg_app tok (c := b) (by omega) (by omega), sg_cons (a := b) (by omega) hb, sg_self]
  have w1 : clB [] (tat tok a) = false ∧ opB [] (tat tok a) = true := (bracket_w (L := []) k1).1 t1
  have w2 : clB [] (tat tok b) = true ∧ opB [] (tat tok b) = false := (bracket_w (L := []) k2).2 t2
  unfold bal
  rw [w1.1, w1.2, if_neg (by decide), bal_app]
  have e : bal [] (sg tok (a + 1) b) (0 + 1) = some (0 + 1) := bal_up [] _ _ _ ih 1
  show (bal [] (sg tok (a + 1) b) (0 + 1)).bind _ = _
  rw [e]
  show bal [] [tat tok b] 1 = some 0
  unfold bal
  rw [w2.1, w2.2]; rfl
 | @oper a b n o s l ho hs hab _ ih =>
  refine ih fun x hx => ?_
  by_cases hx0 : x = []
  ·subst hx0; exact ⟨by decide, by decide⟩
  ·have hm : x ∈ prs (itemsL s) := List.mem_filter.2 ⟨hx, by simpa using hx0⟩
   rw [prs_items hs] at hm
   exact ((parts_ok hs).2 x hm).2
 | @nil o first a ha => intro _; rw [sg_self]; rfl
 | @part o x r first a b n l hx ha hp hd ih =>
  intro hI
  have hab := dv_it hd
  have i2 := ih fun y hy => hI y (List.mem_cons_of_mem _ hy)
  have hx2 := hI x (List.mem_cons_self ..)
  have w : clB [] (tat tok a) = false ∧ opB [] (tat tok a) = false := brk0_no fun _ => by rw [(isP_of hp).2]; exact hx2
  rw [sg_cons (by omega) ha]
  unfold bal
  rw [w.1, w.2]
  exact i2
 | @hole o r first a c b n x t l hd1 _ _ hd2 ih1 ih2 =>
  intro hI
  have h1 := dv_tr hd1
  have h2 := dv_it hd2
  have i2 := ih2 fun y hy => hI y (List.mem_cons_of_mem _ hy)
  rw [sg_app tok (c := c) (by omega) (by omega), bal_app, ih1]
  exact i2
theorem sg_all (tok : List TK) : sg tok 0 tok.length = tok := by unfold sg; rw [List.drop_zero, Nat.sub_zero, List.take_length]
theorem cnt_odd (h : bal [] tok 0 ≠ some 0) : CntP L z tok 0 [] := .none fun u hu => h (by have := dv_bal0 hu; rw [← sg_all tok]; exact this)
theorem dv_brk {o s : TK} (ho : o.k = 6 ∧ txN o = [40]) (hs : s.k = 6 ∧ txN s = [41]) (hb : bal [] tok 0 = some 0) {u : List ND} :
  Dv L z (o :: (tok ++ [s])) .tr 0 (o :: (tok ++ [s])).length u 1 ↔ ∃ t, Dv L z tok .tr 0 tok.length t 1 ∧ u = ⟨2, [], 0, (tok.length + 2 : Nat), 1⟩ :: t.map (ND.sh (-1)) := by
 have hlen : (o :: (tok ++ [s])).length = tok.length + 2 := by simp
 have t0 : tat (o :: (tok ++ [s])) 0 = o := rfl
 have ta : ∀ a, a < tok.length → tat (o :: (tok ++ [s])) (a + 1) = tat tok a := fun a ha => by
  unfold tat
  simp only [List.getD, List.getElem?_cons_succ]
  rw [List.getElem?_append_left ha]
 have te : tat (o :: (tok ++ [s])) (tok.length + 1) = s := by
  unfold tat
  simp [List.getD]
 rw [hlen]
 constructor
 ·intro h
  generalize hc : tok.length + 2 = c at h
  generalize hz : 0 = a0 at h
  cases h with
  | leaf => omega
  | @paren _ b t hbl k1 t1 k2 t2 hd =>
   subst hz
   obtain rfl : b = tok.length + 1 := by omega
   have hm := dv_move (tok' := tok) (A := 1) (B := tok.length + 1) (f := fun a => a - 1) (c := 1) (fun a h1 h2 => ⟨by omega, by omega⟩) (fun a h1 h2 => by
    obtain ⟨a', rfl⟩ : ∃ a', a = a' + 1 := ⟨a - 1, by omega⟩
    rw [ta a' (by omega)]; rfl) hd (Nat.le_refl _) (Nat.le_refl _)
   refine ⟨_, hm, ?_⟩
   rw [List.map_map]
   have e : (ND.sh (-1) ∘ ND.sh 1) = id := by
    funext x
    show ND.sh (-1) (ND.sh 1 x) = x
    unfold ND.sh
    congr 1
    ·show x.f - 1 - -1 = x.f; omega
    ·show x.t - 1 - -1 = x.t; omega
   rw [e, List.map_id]; rfl
  | @oper _ _ n op sh l hk hs2 hab hd =>
   subst hz
   obtain ⟨q, P, hP⟩ : ∃ q P, sh.P = q :: P := by
    cases hP : sh.P with
    | nil => exact absurd hP (parts_ok hs2).1
    | cons q P => exact ⟨q, P, rfl⟩
   have hq := (parts_ok hs2).2 q (by rw [hP]; simp)
   rw [items_eq hP] at hd
   have low : ∀ c', 0 < c' → c' ≤ tok.length + 1 → bal [] (sg (o :: (tok ++ [s])) 0 c') 0 = some 0 → False := by
    intro c' h1 h2 hb'
    rw [sg_cons (by omega) (by rw [hlen]; omega), t0] at hb'
    have w1 := (bracket_w (L := []) ho.1).1 ho.2
    rw [show bal [] (o :: sg (o :: (tok ++ [s])) (0 + 1) c') 0 = if clB [] o then none else bal [] (sg (o :: (tok ++ [s])) (0 + 1) c') (0 + b2n (opB [] o)) from rfl, w1.1, w1.2, if_neg (by decide)] at hb'
    have e : sg (o :: (tok ++ [s])) (0 + 1) c' = sg tok 0 (c' - 1) := by
     unfold sg
     rw [Nat.zero_add, List.drop_succ_cons, List.drop_zero, List.drop_zero, Nat.sub_zero, List.take_append_of_le_length (by omega)]
    rw [e] at hb'
    have hb2 : bal [] (sg tok 0 tok.length) 0 = some 0 := by rw [sg_all]; exact hb
    obtain ⟨m, hm⟩ := bal_pre hb2 (Nat.zero_le (c' - 1)) (by omega)
    have h3 : bal [] (sg tok 0 (c' - 1)) (0 + b2n true) = some (m + 1) := bal_up [] _ _ _ hm 1
    rw [h3] at hb'
    cases hb'
   cases hl : sh.l with
   | false =>
    rw [hl] at hd
    have hd' : Dv L z (o :: (tok ++ [s])) (.it op (q :: sepN sh.r P) true) 0 c l n := hd
    cases hd' with
    | part _ _ hp _ =>
     rw [t0] at hp
     have := (isP_of hp).2
     rw [ho.2] at this
     exact absurd this.symm hq.2.1
    | hole => exact absurd rfl hq.1
   | true =>
    rw [hl] at hd
    have hd' : Dv L z (o :: (tok ++ [s])) (.it op ([] :: q :: sepN sh.r P) true) 0 c l n := hd
    cases hd' with
    | part h => exact absurd rfl h
    | @hole _ _ _ _ c' _ n' x t l' hd1 _ _ hd2 =>
     have g1 := dv_tr hd1
     have g2 := it_pos hd2 _ _ rfl (hasp_part hq.1 _)
     exact (low c' g1.1 (by omega) (dv_bal0 hd1)).elim
 ·rintro ⟨t, hd, rfl⟩
  have hm := dv_move (tok' := o :: (tok ++ [s])) (A := 0) (B := tok.length) (f := fun a => a + 1) (c := -1) (fun a h1 h2 => ⟨by omega, by rw [hlen]; omega⟩) (fun a h1 h2 => ta a h2) hd (Nat.le_refl _) (Nat.le_refl _)
  exact .paren (by rw [hlen]; omega) (by rw [t0]; exact ho.1) (by rw [t0]; exact ho.2) (by rw [te]; exact hs.1) (by rw [te]; exact hs.2) hm
theorem sh_inj {c : Int} {t t' : List ND} (h : t.map (ND.sh c) = t'.map (ND.sh c)) : t = t' := by
 refine (List.map_inj_right fun x y e => ?_).1 h
 obtain ⟨k, n, f, u, m⟩ := x
 obtain ⟨k', n', f', u', m'⟩ := y
 unfold ND.sh at e
 simp only [ND.mk.injEq] at e ⊢
 exact ⟨e.1, e.2.1, by omega, by omega, e.2.2.2.2⟩
theorem cnt_brk {o s : TK} (ho : o.k = 6 ∧ txN o = [40]) (hs : s.k = 6 ∧ txN s = [41]) (hb : bal [] tok 0 = some 0) {n : Nat} {t : List ND} (h : CntP L z tok n t) :
  CntP L z (o :: (tok ++ [s])) n (if n = 1 then ⟨2, [], 0, (tok.length + 2 : Nat), 1⟩ :: t.map (ND.sh (-1)) else []) := by
 cases h with
 | none h =>
  exact .none fun u hu => by
   obtain ⟨t, ht, _⟩ := (dv_brk ho hs hb).1 hu
   exact h t ht
 | one h1 h2 =>
  rw [if_pos rfl]
  exact .one ((dv_brk ho hs hb).2 ⟨_, h1, rfl⟩) fun u hu => by
   obtain ⟨t', ht, rfl⟩ := (dv_brk ho hs hb).1 hu
   rw [h2 t' ht]
 | two h h1 h2 =>
  rw [if_neg (by decide)]
  refine .two (fun e => h ?_) ((dv_brk ho hs hb).2 ⟨_, h1, rfl⟩) ((dv_brk ho hs hb).2 ⟨_, h2, rfl⟩)
  exact sh_inj (List.cons.inj e).2
theorem bare_sh (c : Int) (t : List ND) : bareL (t.map (ND.sh c)) = bareL t := by
 induction t with
 | nil => rfl
 | cons x t ih =>
  rw [List.map_cons]
  by_cases h : x.k = 2
  ·rw [bare_no (x := ND.sh c x) h, bare_no h, ih]
  ·rw [bare_yes (x := ND.sh c x) h, bare_yes h, ih]; rfl
end
end
section
open Go.RowKit
section
variable {L : List OP} {z : List Int} {tok : List TK}
theorem infix_inv {o : OP} {x : Nm} (hs : ofS o.1 = some ⟨[x], true, true⟩) {a b n : Nat} {l : List ND} (h : Dv L z tok (.it o (itemsL ⟨[x], true, true⟩) true) a b l n) :
  ∃ f u t v t', Dv L z tok .tr a f (u :: t) 1 ∧ mayH L z o u false = true ∧ partB (tat tok f).k (txN (tat tok f)) x = true ∧ Dv L z tok .tr (f + 1) b (v :: t') 1 ∧ mayH L z o v true = true ∧ f < tok.length := by
 have hx := ((parts_ok hs).2 x (by simp)).1
 have e : itemsL ⟨[x], true, true⟩ = [[], x, []] := rfl
 rw [e] at h
 cases h with
 | part h => exact absurd rfl h
 | @hole _ _ _ _ f _ n u t l h1 m1 _ h2 =>
  cases h2 with
  | hole => exact absurd rfl hx
  | part _ hf hp h3 =>
   cases h3 with
   | part h => exact absurd rfl h
   | @hole _ _ _ _ c _ n v t' l h4 _ m2 h5 =>
    cases h5
    exact ⟨f, u, t, v, t', h1, m1 rfl, hp, h4, m2 rfl, hf⟩
theorem fits_self (hz : RowsOk z) {o : OP} {s : SH} (hs : ofS o.1 = some s) (hh : s.l = true ∨ s.r = true) (right : Bool) : fitsB z o o right = (endB s right && o.2.2 == sideV right) := by
 rw [fitsB_some hs hs]
 have h1 : tgt z o.2.1 o.2.1 = false := by
  rw [Bool.eq_false_iff]; exact fun h => tgt_irr hz h
 have h2 : (!s.l && !s.r) = false := by rcases hh with h | h <;> rw [h] <;> simp
 rw [h1, h2, beq_self_eq_true, Bool.and_self]; rfl
theorem find_self (o : OP) : findO [o] o.1 = some o := by unfold findO; simp
theorem chain_root {o : OP} (hno : ∀ a, a < tok.length → (tat tok a).k = 6 → txN (tat tok a) ≠ [40]) {a b : Nat} {x : ND} {t : List ND} (h : Dv [o] z tok .tr a b (x :: t) 1) (hb : a + 1 < b) : x.k = 3 ∧ x.n = o.1 ∧ ∃ s l n, ofS o.1 = some s ∧ Dv [o] z tok (.it o (itemsL s) true) a b l n := by
 cases h with
 | leaf => omega
 | @paren _ b t hbl k1 t1 k2 t2 hd =>
  have := dv_tr hd
  exact absurd t1 (hno a (by omega) k1)
 | @oper _ _ n o' s l ho hs hab hd =>
  have h1 := List.mem_singleton.1 (findO_mem ho).1
  subst h1
  exact ⟨rfl, rfl, s, _, n, hs, hd⟩
theorem chain_n {o : OP} (hz : RowsOk z) (hs : ofS o.1 = some ⟨[[43]], true, true⟩) (ha : o.2.2 ≠ 1 ∧ o.2.2 ≠ 2) (hno : ∀ a, a < tok.length → (tat tok a).k = 6 → txN (tat tok a) ≠ [40]) (hl : 4 ≤ tok.length) (u : List ND) : ¬ Dv [o] z tok .tr 0 tok.length u 1 := by
 intro h
 obtain ⟨x, t, rfl, _⟩ := (dv_out h).2.1
 obtain ⟨_, _, s, l, n, hs', hd⟩ := chain_root hno h (by omega)
 rw [hs] at hs'; cases hs'
 obtain ⟨f, u, t1, v, t2, d1, m1, _, d2, m2, _⟩ := infix_inv hs hd
 have g1 := dv_tr d1
 have g2 := dv_tr d2
 have no : ∀ rt, fitsB z o o rt = false := fun rt => by
  rw [fits_self hz hs (.inl rfl)]
  cases rt
  ·show (true && (o.2.2 == 1)) = false
   rw [Bool.true_and]; simpa using ha.1
  ·show (true && (o.2.2 == 2)) = false
   rw [Bool.true_and]; simpa using ha.2
 have key : ∀ {a b : Nat} {x : ND} {t : List ND} {rt : Bool}, Dv [o] z tok .tr a b (x :: t) 1 → a + 1 < b → mayH [o] z o x rt = true → False := fun hd hb hm => by
  obtain ⟨h1, h2, _⟩ := chain_root hno hd hb
  have := may_fits h1 (by rw [h2]; exact find_self o) hm
  rw [no] at this; cases this
 by_cases hf : 1 < f
 ·exact key d1 (by omega) m1
 ·exact key d2 (by omega) m2
end
end
end Go.Proofs.YtanhpgmiadgmjaaGreatDoor
