import Derived.Test.YtcjbhdgjcpnklaaGreatDoorV22
import Derived.Test.YtcjbhdgjcpnklaaGreatDoorV07
import Derived.Test.YtcjbhdgjcpnklaaGreatDoorV09
namespace Go.Proofs.YtcjbhdgjcpnklaaGreatDoor
section
open Go.RowKit
abbrev Nm := List UInt8
def nb (p : Nm) : List Int := p.map fun b => (b.toNat : Int)
theorem zQC (s : ByteArray) : sb s = nb s.toList := rfl
structure SH where
 P : List Nm
 l : Bool
 r : Bool
def hol (b : Bool) : Nm := if b then [95] else []
def jnP : List Nm → Nm
 | [] => []
 | [p] => p
 | p :: q :: P => p ++ 95 :: jnP (q :: P)
def stx (s : SH) : Nm := hol s.l ++ jnP s.P ++ hol s.r
def hd (l : Nm) : Nm := l.takeWhile (· != 95)
def tl (l : Nm) : Nm := l.dropWhile (· != 95)
theorem zG4 (l : Nm) : hd l ++ tl l = l := List.takeWhile_append_dropWhile
theorem zQY (l : Nm) : hd (95 :: l) = [] := rfl
theorem zQB {c : UInt8} (h : c ≠ 95) (l : Nm) : hd (c :: l) = c :: hd l := by unfold hd; rw [List.takeWhile_cons, if_pos (by simpa using h)]
theorem zQD {c : UInt8} (h : c ≠ 95) (l : Nm) : tl (c :: l) = tl l := by unfold tl; rw [List.dropWhile_cons, if_pos (by simpa using h)]
theorem zPW (l : Nm) : (95 : UInt8) ∉ hd l := by
 induction l with
 | nil => simp [hd]
 | cons c l ih =>
  by_cases h : c = 95
  ·subst h; simp [zQY]
  ·rw [zQB h]; simp [ih, Ne.symm h]
theorem zDz (l : Nm) : tl l = [] ∨ ∃ r, tl l = 95 :: r := by
 induction l with
 | nil => exact .inl rfl
 | cons c l ih =>
  by_cases h : c = 95
  ·subst h; exact .inr ⟨l, rfl⟩
  ·rw [zQD h]; exact ih
theorem zHv {l : Nm} (h : (95 : UInt8) ∉ l) : hd l = l ∧ tl l = [] := by
 induction l with
 | nil => exact ⟨rfl, rfl⟩
 | cons c l ih =>
  have hc : c ≠ 95 := fun e => h (by simp [e])
  have := ih fun e => h (List.mem_cons_of_mem _ e)
  rw [zQB hc, zQD hc, this.1, this.2]
  exact ⟨rfl, rfl⟩
theorem zGD (p x : Nm) (h : (95 : UInt8) ∉ p) : hd (p ++ 95 :: x) = p ∧ tl (p ++ 95 :: x) = 95 :: x := by
 induction p with
 | nil => exact ⟨rfl, rfl⟩
 | cons c p ih =>
  have hc : c ≠ 95 := fun e => h (by simp [e])
  have := ih fun e => h (List.mem_cons_of_mem _ e)
  rw [List.cons_append, zQB hc, zQD hc, this.1, this.2]
  exact ⟨rfl, rfl⟩
def prF : Nat → Nm → List Nm × Bool
 | 0, l => ([hd l], false)
 | f + 1, l => match tl l with
  | [] => ([hd l], false)
  | _ :: r => if r = [] then ([hd l], true) else (hd l :: (prF f r).1, (prF f r).2)
def pr (l : Nm) : List Nm × Bool := prF l.length l
def cont : Nm → List Nm × Bool
 | [] => ([], false)
 | _ :: r => if r = [] then ([], true) else pr r
theorem zGE {l r : Nm} {c : UInt8} (h : tl l = c :: r) : r.length < l.length := by
 have := congrArg List.length (zG4 l)
 rw [List.length_append, h, List.length_cons] at this
 omega
theorem zHw : ∀ (f g : Nat) (l : Nm), l.length ≤ f → l.length ≤ g → prF f l = prF g l
 | 0, 0, _, _, _ => rfl
 | 0, g + 1, l, h, _ => by
  have : l = [] := List.eq_nil_of_length_eq_zero (by omega)
  subst this; rfl
 | f + 1, 0, l, _, h => by
  have : l = [] := List.eq_nil_of_length_eq_zero (by omega)
  subst this; rfl
 | f + 1, g + 1, l, hf, hg => by
  rw [prF, prF]
  cases h : tl l with
  | nil => rfl
  | cons c r =>
   have := zGE h
   simp only
   rw [zHw f g r (by omega) (by omega)]
theorem zBu (l : Nm) : pr l = (hd l :: (cont (tl l)).1, (cont (tl l)).2) := by
 unfold pr
 cases hl : l.length with
 | zero =>
  have : l = [] := List.eq_nil_of_length_eq_zero hl
  subst this; rfl
 | succ f =>
  rw [prF]
  cases h : tl l with
  | nil => rfl
  | cons c r =>
   have := zGE h
   simp only [cont]
   by_cases hr : r = []
   ·rw [if_pos hr, if_pos hr]
   ·rw [if_neg hr, if_neg hr]
    unfold pr
    rw [zHw f r.length r (by omega) (Nat.le_refl _)]
theorem zPX (l : Nm) : (pr l).1 ≠ [] := by rw [zBu]; simp
def rd (l : Nm) : SH := if l.head? = some 95 then ⟨(pr l.tail).1, true, (pr l.tail).2⟩ else ⟨(pr l).1, false, (pr l).2⟩
theorem rd_m (l : Nm) : rd (95 :: l) = ⟨(pr l).1, true, (pr l).2⟩ := by unfold rd; rw [if_pos (by rfl)]; rfl
theorem rd_n {l : Nm} (h : l.head? ≠ some 95) : rd l = ⟨(pr l).1, false, (pr l).2⟩ := by unfold rd; rw [if_neg h]
theorem zQE (l : Nm) : (rd l).P ≠ [] := by
 unfold rd; split <;> exact zPX _
theorem snoc {P : List Nm} (h : P ≠ []) : ∃ Q q, P = Q ++ [q] := ⟨_, _, (List.dropLast_concat_getLast h).symm⟩
theorem zBv (p : Nm) {P : List Nm} (h : P ≠ []) : jnP (p :: P) = p ++ 95 :: jnP P := by
 cases P with
 | nil => exact absurd rfl h
 | cons q P => rfl
theorem zJ1 {Q : Nm → Prop} (h : ∀ l, (∀ r : Nm, r.length < l.length → Q r) → Q l) : ∀ l, Q l := by
 have : ∀ n (l : Nm), l.length ≤ n → Q l := by
  intro n
  induction n with
  | zero => intro l hl; exact h l fun r hr => by omega
  | succ n ih => intro l hl; exact h l fun r hr => ih r (by omega)
 exact fun l => this l.length l (Nat.le_refl _)
theorem zPY : ∀ l : Nm, jnP (pr l).1 ++ hol (pr l).2 = l := by
 refine zJ1 fun l ih => ?_
 rw [zBu]
 have hl := zG4 l
 rcases zDz l with h | ⟨r, h⟩
 ·rw [h] at hl
  rw [h]
  simpa [cont, jnP, hol] using hl
 ·have hlt := zGE h
  rw [h] at hl
  rw [h]
  simp only [cont]
  by_cases hr : r = []
  ·subst hr
   rw [if_pos rfl]
   simpa [jnP, hol] using hl
  ·rw [if_neg hr, zBv _ (zPX r), List.append_assoc, List.cons_append, ih r hlt, hl]
theorem zJ2 (l : Nm) : stx (rd l) = l := by
 unfold rd
 split
 ·rename_i h
  obtain ⟨t, rfl⟩ : ∃ t, l = 95 :: t := by
   cases l with
   | nil => simp at h
   | cons c t => simp at h; exact ⟨t, by rw [h]⟩
  have := zPY t
  show hol true ++ jnP (pr t).1 ++ hol (pr t).2 = _
  rw [List.append_assoc, this]; rfl
 ·exact zPY l
theorem zQF : ∀ l : Nm, ∀ p ∈ (pr l).1, (95 : UInt8) ∉ p := by
 refine zJ1 fun l ih => ?_
 rw [zBu]
 intro p hp
 rcases List.mem_cons.1 hp with rfl | hp
 ·exact zPW l
 ·rcases zDz l with h | ⟨r, h⟩
  ·rw [h] at hp; cases hp
  ·rw [h] at hp
   simp only [cont] at hp
   by_cases hr : r = []
   ·rw [if_pos hr] at hp; cases hp
   ·rw [if_neg hr] at hp
    exact ih r (zGE h) p hp
theorem zQG (l : Nm) : ∀ p ∈ (rd l).P, (95 : UInt8) ∉ p := by
 unfold rd; split <;> exact zQF _
def noU (p : Nm) : Prop := p ≠ [] ∧ (95 : UInt8) ∉ p
def wel (s : SH) : Prop := s.P ≠ [] ∧ ∀ p ∈ s.P, noU p
theorem zNS {P : List Nm} (h : P ≠ []) (hp : ∀ p ∈ P, noU p) : jnP P ≠ [] ∧ (jnP P).head? ≠ some 95 := by
 cases P with
 | nil => exact absurd rfl h
 | cons p P =>
  have h1 := hp p (by simp)
  obtain ⟨c, q, rfl⟩ : ∃ c q, p = c :: q := by
   cases p with
   | nil => exact absurd rfl h1.1
   | cons c q => exact ⟨c, q, rfl⟩
  have hc : c ≠ 95 := fun e => h1.2 (by simp [e])
  cases P with
  | nil => simp [jnP, hc]
  | cons q' P => simp [jnP, hc]
theorem zJ3 : ∀ (P : List Nm) (r : Bool), P ≠ [] → (∀ p ∈ P, noU p) → pr (jnP P ++ hol r) = (P, r)
 | [], _, h, _ => absurd rfl h
 | [p], r, _, h => by
  have h1 := (h p (by simp)).2
  rw [zBu]
  cases r with
  | false =>
   have := zHv h1
   simp [jnP, hol, this.1, this.2, cont]
  | true =>
   have := zGD p [] h1
   simp [jnP, hol, this.1, this.2, cont]
 | p :: q :: P, r, _, h => by
  have h1 := (h p (by simp)).2
  have h2 := zNS (P := q :: P) (by simp) fun x hx => h x (List.mem_cons_of_mem _ hx)
  have ih := zJ3 (q :: P) r (by simp) fun x hx => h x (List.mem_cons_of_mem _ hx)
  rw [zBv _ (by simp), List.append_assoc, List.cons_append, zBu]
  have := zGD p (jnP (q :: P) ++ hol r) h1
  rw [this.1, this.2]
  simp only [cont]
  rw [if_neg (by simp [h2.1]), ih]
theorem zPZ {s : SH} (h : wel s) : rd (stx s) = s := by
 obtain ⟨P, l, r⟩ := s
 have hj := zJ3 P r h.1 h.2
 have hn := zNS h.1 h.2
 cases l with
 | true =>
  show rd (hol true ++ jnP P ++ hol r) = _
  rw [show hol true ++ jnP P ++ hol r = 95 :: (jnP P ++ hol r) from rfl, rd_m, hj]
 | false =>
  show rd (hol false ++ jnP P ++ hol r) = _
  rw [show hol false ++ jnP P ++ hol r = jnP P ++ hol r from rfl, rd_n, hj]
  rw [List.head?_append]
  cases hh : (jnP P).head? with
  | none => exact absurd (List.head?_eq_none_iff.1 hh) hn.1
  | some c => rw [hh] at hn; simpa using hn.2
def cutF (K : List Nm) (c : UInt8) : List Nm := if c = 95 then K ++ [[]] else K.dropLast ++ [K.getLastD [] ++ [c]]
def cuts (l : Nm) : List Nm := l.foldl cutF [[]]
theorem cutF_m (K : List Nm) (x : Nm) : cutF (K ++ [x]) 95 = K ++ [x] ++ [[]] := by unfold cutF; rw [if_pos rfl]
theorem zNT {c : UInt8} (h : c ≠ 95) (K : List Nm) (x : Nm) : cutF (K ++ [x]) c = K ++ [x ++ [c]] := by
 unfold cutF; rw [if_neg h]; simp
theorem zFL : ∀ (p : Nm) (K : List Nm) (x : Nm), (95 : UInt8) ∉ p → p.foldl cutF (K ++ [x]) = K ++ [x ++ p]
 | [], K, x, _ => by simp
 | c :: p, K, x, h => by
  have hc : c ≠ 95 := fun e => h (by simp [e])
  rw [List.foldl_cons, zNT hc, zFL p K _ fun e => h (List.mem_cons_of_mem _ e)]
  simp
theorem zHx : ∀ (P : List Nm) (K : List Nm), P ≠ [] → (∀ p ∈ P, noU p) → (jnP P).foldl cutF (K ++ [[]]) = K ++ P
 | [], _, h, _ => absurd rfl h
 | [p], K, _, h => by rw [jnP, zFL p K [] (h p (by simp)).2]; simp
 | p :: q :: P, K, _, h => by
  rw [zBv _ (by simp), List.foldl_append, zFL p K [] (h p (by simp)).2, List.foldl_cons, cutF_m, zHx (q :: P) _ (by simp) fun x hx => h x (List.mem_cons_of_mem _ hx)]
  simp
theorem zL7 {s : SH} (h : wel s) : cuts (stx s) = (if s.l then [[]] else []) ++ s.P ++ (if s.r then [[]] else []) := by
 obtain ⟨P, l, r⟩ := s
 unfold cuts stx
 rw [List.foldl_append, List.foldl_append]
 have e1 : (hol l).foldl cutF [[]] = (if l then [[]] else []) ++ [[]] := by cases l <;> rfl
 simp only
 rw [e1, zHx P _ h.1 h.2]
 cases r with
 | false => simp [hol]
 | true =>
  have hne : (if l then [[]] else []) ++ P ≠ [] := by simp [h.1]
  obtain ⟨Q, q, hq⟩ := snoc hne
  rw [hq]
  show [95].foldl cutF _ = _
  rw [List.foldl_cons, List.foldl_nil, cutF_m]; rfl
def c1 (C : List Nm) : List Nm := if C.headD [] = [] then C.tail else C
def rB (C : List Nm) : Bool := C != [] && C.getLastD [] == []
def dD (C : List Nm) : SH := ⟨if rB (c1 C) then (c1 C).dropLast else c1 C, C.headD [] == [], rB (c1 C)⟩
theorem zPa {s : SH} (h : wel s) : dD (cuts (stx s)) = s := by
 rw [zL7 h]
 obtain ⟨P, l, r⟩ := s
 obtain ⟨h1, h2⟩ := h
 simp only at h1 h2 ⊢
 obtain ⟨Q, q, hq⟩ := snoc h1
 have hq1 : q ≠ [] := (h2 q (by rw [hq]; simp)).1
 have hh : P.headD [] ≠ [] := by
  cases P with
  | nil => exact absurd rfl h1
  | cons p P' => exact (h2 p (by simp)).1
 have hc : c1 ((if l then [[]] else []) ++ P ++ (if r then [[]] else [])) = P ++ (if r then [[]] else []) := by
  unfold c1
  cases l with
  | true => simp
  | false =>
   rw [if_neg]
   ·simp
   ·cases P with
    | nil => exact absurd rfl h1
    | cons p P' => simpa using hh
 have hd0 : (((if l then [[]] else []) ++ P ++ (if r then [[]] else [])).headD [] == []) = l := by
  cases l with
  | true => simp
  | false =>
   cases P with
   | nil => exact absurd rfl h1
   | cons p P' => simpa using hh
 have hb : rB (P ++ (if r then [[]] else [])) = r := by
  unfold rB
  cases r with
  | true => simp [List.getLastD_eq_getLast?]
  | false => simp [hq, hq1, List.getLastD_eq_getLast?]
 unfold dD
 rw [hc, hb, hd0]
 cases r with
 | true => simp
 | false => simp
def kdB (k : Int) : Bool := k == 1 || (k == 2 || k == 6)
def bar (p : Nm) : Bool := p == [40] || (p == [41] || (p == [44] || (p == [46] || p == [58, 45])))
def oneB (p : Nm) : Bool := match toks (nb p) with
 | [t] => t.s.toList == p && kdB t.k
 | _ => false
def stB (p : Nm) : Bool := !bar p && oneB p
theorem zL8 : oneB [] = false := by decide +kernel
theorem zJ4 {p : Nm} (h : stB p = true) : p ≠ [] := by
 rintro rfl
 unfold stB at h
 rw [zL8, Bool.and_false] at h
 exact absurd h (by simp)
def hlB (s : SH) : Bool := s.P.length != 1 || (s.l || s.r)
def shM (s : SH) : Bool := decide (s.P.length ≤ 4) && (hlB s && s.P.all stB)
def shD (s : SH) : Bool := decide (1 ≤ s.P.length ∧ s.P.length ≤ 4) && (hlB s && (decide ((stx s).length ≤ 40) && s.P.all fun p => !p.contains 95 && stB p))
def ofS (l : Nm) : Option SH := if l.length ≤ 40 ∧ shM (rd l) = true then some (rd l) else none
def ofD (l : Nm) : Option SH := if shD (dD (cuts l)) = true ∧ stx (dD (cuts l)) = l then some (dD (cuts l)) else none
theorem zOB {s : SH} (h : shD s = true) : wel s ∧ shM s = true ∧ (stx s).length ≤ 40 := by
 unfold shD at h
 simp only [Bool.and_eq_true, decide_eq_true_eq, List.all_eq_true, Bool.not_eq_true', List.contains_eq_mem, decide_eq_false_iff_not] at h
 obtain ⟨⟨h1, h2⟩, h3, h4, h5⟩ := h
 refine ⟨⟨fun e => by rw [e] at h1; simp at h1, fun p hp => ⟨zJ4 (h5 p hp).2, (h5 p hp).1⟩⟩, ?_, h4⟩
 unfold shM
 simp only [Bool.and_eq_true, decide_eq_true_eq, List.all_eq_true]
 exact ⟨h2, h3, fun p hp => (h5 p hp).2⟩
theorem zJ5 {s : SH} (h : shM s = true) (h0 : s.P ≠ []) (hn : ∀ p ∈ s.P, (95 : UInt8) ∉ p) (ht : (stx s).length ≤ 40) : shD s = true ∧ wel s := by
 unfold shM at h
 simp only [Bool.and_eq_true, decide_eq_true_eq, List.all_eq_true] at h
 obtain ⟨h1, h2, h3⟩ := h
 have hl : 1 ≤ s.P.length := by
  cases hP : s.P with
  | nil => exact absurd hP h0
  | cons p P => simp
 refine ⟨?_, h0, fun p hp => ⟨zJ4 (h3 p hp), hn p hp⟩⟩
 unfold shD
 simp only [Bool.and_eq_true, decide_eq_true_eq, List.all_eq_true, Bool.not_eq_true', List.contains_eq_mem, decide_eq_false_iff_not]
 exact ⟨⟨hl, h1⟩, h2, ht, fun p hp => ⟨hn p hp, h3 p hp⟩⟩
theorem zCh {l : Nm} {s : SH} (h : ofS l = some s) : s = rd l ∧ l.length ≤ 40 ∧ shM s = true ∧ wel s ∧ stx s = l := by
 unfold ofS at h
 split at h
 ·rename_i hc
  simp only [Option.some.injEq] at h
  subst h
  have := zJ5 hc.2 (zQE l) (zQG l) (by rw [zJ2]; exact hc.1)
  exact ⟨rfl, hc.1, hc.2, this.2, zJ2 l⟩
 ·exact absurd h (by simp)
theorem zOC {s : SH} (hg : wel s) (hm : shM s = true) (hl : (stx s).length ≤ 40) : ofS (stx s) = some s := by
 unfold ofS
 rw [zPZ hg, if_pos ⟨hl, hm⟩]
theorem zAs (l : Nm) : ofD l = ofS l := by
 unfold ofD
 split
 ·rename_i h
  obtain ⟨hg, hm, hl⟩ := zOB h.1
  have := zOC hg hm hl
  rw [h.2] at this
  rw [this]
 ·rename_i h
  cases ho : ofS l with
  | none => rfl
  | some s =>
   obtain ⟨rfl, h1, h2, h3, h4⟩ := zCh ho
   exfalso
   apply h
   have e := zPa h3
   rw [h4] at e
   rw [e]
   exact ⟨(zJ5 h2 h3.1 (fun p hp => (h3.2 p hp).2) (by rw [h4]; exact h1)).1, h4⟩
end
section
open Go.RowKit
def mk (p : Nm) : ByteArray := ⟨p.toArray⟩
theorem mk_toList (p : Nm) : (mk p).toList = p := by rw [ByteArray.toList_eq]; rfl
theorem mk_size (p : Nm) : (mk p).size = p.length := by simp [mk, ByteArray.size]
theorem zQH (s : ByteArray) : mk s.toList = s := toList_inj (mk_toList _)
theorem zG5 (s : ByteArray) : s.size = s.toList.length := by rw [← mk_size, zQH]
def enS (p : Nm) : Value := .string (mk p)
def pt (P : List Nm) (k : Nat) : Nm := P.getD k []
theorem zDO {P : List Nm} {k : Nat} (h : k < P.length) : pt P k ∈ P := by
 unfold pt; rw [show P.getD k [] = P[k] by simp [List.getD, h]]; exact List.getElem_mem h
theorem zJ6 {P : List Nm} {k : Nat} (h : k < P.length) : P.take (k + 1) = P.take k ++ [pt P k] := by
 rw [List.take_add_one]; unfold pt; simp [List.getD, h]
abbrev Ss (w : World) (a : Option Addr) (len cap : Nat) (P : List Nm) : Prop := Vs 1 w a len cap (P.map enS)
theorem Ss.len {w : World} {a : Option Addr} {len cap : Nat} {P : List Nm} (h : Ss w a len cap P) : P.length = len := by
 have := Vs.hl h; simpa using this
theorem Ss.str {w : World} {b o len cap : Nat} {P : List Nm} (h : Ss w (some ⟨b, o, none⟩) len cap P) {k : Nat} (hk : k < len) : w.cell? ⟨b, o + k, none⟩ = some (.string (mk (pt P k))) := by
 have hl := Ss.len h
 have := Vs.cells h (by omega) (j := k) (by omega)
 rw [List.getElem?_map] at this
 rw [this, List.getElem?_eq_getElem (by omega)]
 unfold pt
 simp [List.getD, show k < P.length by omega, enS]
theorem jnP_snoc : ∀ (Q : List Nm) (p : Nm), jnP (Q ++ [p]) = jnP Q ++ hol (Q != []) ++ p
 | [], p => by simp [jnP, hol]
 | [q], p => by simp [jnP, hol]
 | q :: q' :: Q, p => by
  have := jnP_snoc (q' :: Q) p
  rw [List.cons_append, zBv q (P := (q' :: Q) ++ [p]) (by simp), this, zBv q (P := q' :: Q) (by simp)]
  simp [hol]
def sof (P : List Nm) (l : Bool) (k : Nat) : Nm := hol l ++ jnP (P.take k)
theorem zHy {P : List Nm} (l : Bool) {k : Nat} (h : k < P.length) : sof P l (k + 1) = sof P l k ++ hol (decide (0 < k)) ++ pt P k := by
 unfold sof
 rw [zJ6 h, jnP_snoc]
 have : (P.take k != []) = decide (0 < k) := by
  cases k with
  | zero => simp
  | succ k =>
   cases P with
   | nil => simp at h
   | cons p P => simp
 rw [this]
 simp
theorem zHz (P : List Nm) (l : Bool) : sof P l 0 = hol l := by simp [sof, jnP]
theorem zG6 (P : List Nm) (l r : Bool) : sof P l P.length ++ hol r = stx ⟨P, l, r⟩ := by simp [sof, stx]
theorem zJ7 (b : Bool) : (hol b).length ≤ 1 := by cases b <;> simp [hol]
theorem zL9 (P : List Nm) : ∀ k, (jnP (P.take k)).length ≤ (jnP P).length := by
 intro k
 by_cases h : k < P.length
 ·have : ∀ m, k + m ≤ P.length → (jnP (P.take k)).length ≤ (jnP (P.take (k + m))).length := by
   intro m
   induction m with
   | zero => intro _; exact Nat.le_refl _
   | succ m ih =>
    intro hm
    have h1 := ih (by omega)
    rw [← Nat.add_assoc, zJ6 (by omega), jnP_snoc, List.length_append, List.length_append]
    omega
  have := this (P.length - k) (by omega)
  rw [show k + (P.length - k) = P.length by omega, List.take_length] at this
  exact this
 ·rw [List.take_of_length_le (by omega)]; exact Nat.le_refl _
theorem zOD (P : List Nm) (l : Bool) (k : Nat) : (sof P l k).length ≤ (sof P l P.length).length := by
 unfold sof
 rw [List.length_append, List.length_append, List.take_length]
 have := zL9 P k
 omega
theorem zBw : (Tryz.prog.info? 9).map (fun i => (i.zero, i.size, i.bytes)) = some (some (.string { data := #[] }), 1, 16) := by kernel_rfl
end
section
open Go.RowKit
theorem mk_app (p q : Nm) : mk p ++ mk q = mk (p ++ q) := by
 apply toList_inj
 rw [mk_toList, ByteArray.toList_eq]
 simp [mk]
theorem mk_mark : (⟨#[95]⟩ : ByteArray) = mk [95] := rfl
set_option maxRecDepth 100000 in
set_option maxHeartbeats 4000000 in
theorem zBC (a : Option Addr) (n c : Nat) (P : List Nm) (l r : Bool) (w : World) (h : Ss w a n c P) (hsz : (stx ⟨P, l, r⟩).length ≤ 100000) :
  Calls Tryz.prog 146 #[.agg #[.slice a n c, .bool l, .bool r]] w fun e w' => e = .returned (.string (mk (stx ⟨P, l, r⟩))) ∧ Below w.heap.size w w' := by
 have hcm := h.cm
 have hlc := h.lc
 unfold maxLen at hcm
 have H := hid h
 have HP := hid (Ss.len h)
 have hall : (sof P l P.length).length ≤ 100000 := by
  have := congrArg List.length (zG6 P l r)
  rw [List.length_append] at this
  omega
 have HSZ : Hid (∀ k, (sof P l k).length ≤ 100000) := hid fun k => Nat.le_trans (zOD P l k) hall
 have HB2 : Hid (Below w.heap.size w (w.alloc (.cells #[.slice a n c, .bool l, .bool r] 157))) := hid ((Below.refl _ _).alloc (Nat.le_refl _) _)
 have HCAT : Hid (∀ A B : Nm, mk A ++ mk B = mk (A ++ B)) := hid mk_app
 clear h hall
 cases l with
 | true =>
  go_enter Tryz.func146, Tryz.ntmps146
  go_wp2
  go_loopw [3, 4] (fun v3 v wr => ∃ k : Nat, v = .int .i64 k ∧ k ≤ n ∧ v3 = .string (mk (sof P true k)) ∧ w.alloc (.cells #[.slice a n c, .bool true, .bool r] 157) = wr) (fun _ v _ => n - (intOf v).toNat)
  case atStart => exact ⟨0, rfl, by omega, by rw [zHz]; rfl, rfl⟩
  case round =>
   obtain ⟨k, rfl, hk, rfl, rfl⟩ := hrel
   have hk0 : (0 : Int) ≤ (k : Int) := Int.natCast_nonneg _
   obtain ⟨X, hX⟩ : ∃ X, X = sof P true k := ⟨_, rfl⟩
   have hXl : X.length ≤ 100000 := by rw [hX]; exact HSZ.out _
   rw [← hX]
   by_cases hlt : k < n
   ·have hk1 : (k : Int) < (n : Int) := by omega
    have hS := H.out.below HB2.out
    obtain ⟨d, o, rfl, _, hx⟩ := hS.at_ (by omega)
    clear hx
    have hs := Ss.str hS hlt
    obtain ⟨p, hp⟩ : ∃ p, p = pt P k := ⟨_, rfl⟩
    have hst : sof P true (k + 1) = X ++ hol (decide (0 < k)) ++ p := by rw [hp, hX]; exact zHy true (by rw [HP.out]; exact hlt)
    have hpl : p.length ≤ 100000 := by
     have := HSZ.out (k + 1)
     rw [hst, List.length_append] at this
     omega
    rw [← hp] at hs
    have hz1 : (mk X).size + (⟨#[95]⟩ : ByteArray).size ≤ 300000 := by rw [mk_size, mk_mark, mk_size]; simp; omega
    have hz2 : (mk X ++ ⟨#[95]⟩).size + (mk p).size ≤ 300000 := by rw [mk_mark, mk_app, mk_size, mk_size, List.length_append]; simp; omega
    have hz3 : (mk X).size + (mk p).size ≤ 300000 := by rw [mk_size, mk_size]; omega
    have HST := hid hst
    clear hS hp hX hst
    by_cases hz : 0 < k
    ·have hzi : (0 : Int) < (k : Int) := by omega
     have HE : Hid (mk X ++ ⟨#[95]⟩ ++ mk p = mk (sof P true (k + 1))) := hid (by rw [HST.out, decide_eq_true hz, mk_mark, mk_app, mk_app]; rfl)
     go_wp2
     rw [HE.out]
     go_roundw
     case rel => exact ⟨k + 1, by go_num, by omega, rfl, trivial⟩
     case measure => simp [intOf]; omega
    ·have hzi : ¬ (0 : Int) < (k : Int) := by omega
     have HE : Hid (mk X ++ mk p = mk (sof P true (k + 1))) := hid (by rw [HST.out, decide_eq_false hz, mk_app]; simp [hol])
     clear hz1 hz2
     go_wp2
     rw [HE.out]
     go_roundw
     case rel => exact ⟨k + 1, by go_num, by omega, rfl, trivial⟩
     case measure => simp [intOf]; omega
   ·have hkn : k = n := by omega
    have hF : X ++ hol r = stx ⟨P, true, r⟩ := by rw [hX, hkn, ← HP.out]; exact zG6 P true r
    have hz1 : (mk X).size + (⟨#[95]⟩ : ByteArray).size ≤ 300000 := by rw [mk_size, mk_mark, mk_size]; simp; omega
    have HF := hid hF
    clear hX hkn hF
    cases r with
    | true =>
     have HE : Hid (mk X ++ ⟨#[95]⟩ = mk (stx ⟨P, true, true⟩)) := hid (by rw [← HF.out, mk_mark, mk_app]; rfl)
     go_wp2
     go_ret
     exact ⟨by rw [HE.out]; rfl, HB2.out⟩
    | false =>
     have HE : Hid (mk X = mk (stx ⟨P, true, false⟩)) := hid (by rw [← HF.out]; simp [hol])
     clear hz1
     go_wp2
     go_ret
     exact ⟨by rw [HE.out]; rfl, HB2.out⟩
 | false =>
  go_enter Tryz.func146, Tryz.ntmps146
  go_wp2
  go_loopw [3, 4] (fun v3 v wr => ∃ k : Nat, v = .int .i64 k ∧ k ≤ n ∧ v3 = .string (mk (sof P false k)) ∧ w.alloc (.cells #[.slice a n c, .bool false, .bool r] 157) = wr) (fun _ v _ => n - (intOf v).toNat)
  case atStart => exact ⟨0, rfl, by omega, by rw [zHz]; rfl, rfl⟩
  case round =>
   obtain ⟨k, rfl, hk, rfl, rfl⟩ := hrel
   have hk0 : (0 : Int) ≤ (k : Int) := Int.natCast_nonneg _
   obtain ⟨X, hX⟩ : ∃ X, X = sof P false k := ⟨_, rfl⟩
   have hXl : X.length ≤ 100000 := by rw [hX]; exact HSZ.out _
   rw [← hX]
   by_cases hlt : k < n
   ·have hk1 : (k : Int) < (n : Int) := by omega
    have hS := H.out.below HB2.out
    obtain ⟨d, o, rfl, _, hx⟩ := hS.at_ (by omega)
    clear hx
    have hs := Ss.str hS hlt
    obtain ⟨p, hp⟩ : ∃ p, p = pt P k := ⟨_, rfl⟩
    have hst : sof P false (k + 1) = X ++ hol (decide (0 < k)) ++ p := by rw [hp, hX]; exact zHy false (by rw [HP.out]; exact hlt)
    have hpl : p.length ≤ 100000 := by
     have := HSZ.out (k + 1)
     rw [hst, List.length_append] at this
     omega
    rw [← hp] at hs
    have hz1 : (mk X).size + (⟨#[95]⟩ : ByteArray).size ≤ 300000 := by rw [mk_size, mk_mark, mk_size]; simp; omega
    have hz2 : (mk X ++ ⟨#[95]⟩).size + (mk p).size ≤ 300000 := by rw [mk_mark, mk_app, mk_size, mk_size, List.length_append]; simp; omega
    have hz3 : (mk X).size + (mk p).size ≤ 300000 := by rw [mk_size, mk_size]; omega
    have HST := hid hst
    clear hS hp hX hst
    by_cases hz : 0 < k
    ·have hzi : (0 : Int) < (k : Int) := by omega
     have HE : Hid (mk X ++ ⟨#[95]⟩ ++ mk p = mk (sof P false (k + 1))) := hid (by rw [HST.out, decide_eq_true hz, mk_mark, mk_app, mk_app]; rfl)
     go_wp2
     rw [HE.out]
     go_roundw
     case rel => exact ⟨k + 1, by go_num, by omega, rfl, trivial⟩
     case measure => simp [intOf]; omega
    ·have hzi : ¬ (0 : Int) < (k : Int) := by omega
     have HE : Hid (mk X ++ mk p = mk (sof P false (k + 1))) := hid (by rw [HST.out, decide_eq_false hz, mk_app]; simp [hol])
     clear hz1 hz2
     go_wp2
     rw [HE.out]
     go_roundw
     case rel => exact ⟨k + 1, by go_num, by omega, rfl, trivial⟩
     case measure => simp [intOf]; omega
   ·have hkn : k = n := by omega
    have hF : X ++ hol r = stx ⟨P, false, r⟩ := by rw [hX, hkn, ← HP.out]; exact zG6 P false r
    have hz1 : (mk X).size + (⟨#[95]⟩ : ByteArray).size ≤ 300000 := by rw [mk_size, mk_mark, mk_size]; simp; omega
    have HF := hid hF
    clear hX hkn hF
    cases r with
    | true =>
     have HE : Hid (mk X ++ ⟨#[95]⟩ = mk (stx ⟨P, false, true⟩)) := hid (by rw [← HF.out, mk_mark, mk_app]; rfl)
     go_wp2
     go_ret
     exact ⟨by rw [HE.out]; rfl, HB2.out⟩
    | false =>
     have HE : Hid (mk X = mk (stx ⟨P, false, false⟩)) := hid (by rw [← HF.out]; simp [hol])
     clear hz1
     go_wp2
     go_ret
     exact ⟨by rw [HE.out]; rfl, HB2.out⟩
end
end Go.Proofs.YtcjbhdgjcpnklaaGreatDoor
