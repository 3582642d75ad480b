import Derived.Test.YtcjbhdgjcpnklaaGreatDoorR12
namespace Go.Proofs.YtcjbhdgjcpnklaaGreatDoor
section
open Go.RowKit
abbrev Hl := Option (Nat × Bool)
section
variable (L : List OP) (z : List Int) (tok : List TK)
def hMay (h : Hl) (k : Nat) : Bool := match h with | none => true | some (j, r) => fitsB z (opA L j) (opA L k) r
def holT (h : Hl) (i : Int) : Bool := decide (i < 0) || hMay L z h i.toNat
def wholeB (T : Nat → Nat → List TT) (a b : Nat) (h : Hl) : Bool := (T a b).any fun t => holT L z h t.1
def restB (G : Nat → Hl → Bool) (T : Nat → Nat → List TT) (To k : Nat) : List Nm → Nat → Bool
 | [], a => a == To
 | x :: r, a => if a = To then true else
  if x ≠ [] then partB (tat tok a).k (txN (tat tok a)) x && restB G T To k r (a + 1)
  else G a (if r.isEmpty then some (k, true) else none) || (List.range' (a + 1) (To - (a + 1))).any fun b => wholeB L z T a b (if r.isEmpty then some (k, true) else none) && restB G T To k r b
def operG (G : Nat → Hl → Bool) (T : Nat → Nat → List TT) (To k a : Nat) : Bool :=
 match ofS (opA L k).1 with
 | none => false
 | some s => if s.l then (List.range' (a + 1) (To - (a + 1))).any fun b => wholeB L z T a b (some (k, false)) && restB L z tok G T To k (itemsL s).tail b
  else restB L z tok G T To k (itemsL s) a
def lookB (G : Nat → Hl → Bool) (T : Nat → Nat → List TT) (To a : Nat) (h : Hl) : Bool :=
 (decide (a + 1 = To) && leafB (tat tok a).k (freeB L z (txN (tat tok a)))) ||
 ((((tat tok a).k == 6 && txN (tat tok a) == [40]) && (G (a + 1) none || (decide (a + 2 < To) && ((tat tok (To - 1)).k == 6 && txN (tat tok (To - 1)) == [41]) && wholeB L z T (a + 1) (To - 1) none))) ||
 (List.range L.length).any fun k => hMay L z h k && operG L z tok G T To k a)
def goB (T : Nat → Nat → List TT) (To : Nat) : Nat → Nat → Hl → Bool
 | 0 => fun a _ => a == To
 | n + 1 => fun a h => if a = To then true else lookB L z tok (goB T To n) T To a h
def Vi (To a : Nat) (h : Hl) : Prop := ∃ (ext : List TK) (t : List ND) (i : Int), Dv L z (tok.take To ++ ext) .tr a (To + ext.length) t 1 ∧ topOk L i t ∧ holT L z h i = true
end
section
variable {L : List OP} {z : List Int} {tok : List TK}
theorem zK4 (l : List ND) : l.map (ND.sh 0) = l := by
 have e : ND.sh 0 = id := by
  funext x
  show ND.sh 0 x = x
  unfold ND.sh
  congr 1
  ·omega
  ·omega
 rw [e, List.map_id]
theorem zA9 {A B : List TK} {a : Nat} (h : a < A.length) : tat (A ++ B) a = tat A a := by
 unfold tat
 simp only [List.getD]
 rw [List.getElem?_append_left h]
theorem zB7 {g : Gl} {a b n : Nat} {l : List ND} (h : Dv L z tok g a b l n) (hb : b ≤ tok.length) (y : List TK) : Dv L z (tok ++ y) g a b l n := by
 have := zET (tok' := tok ++ y) (A := 0) (B := tok.length) (f := fun a => a) (c := 0) (fun a _ h2 => ⟨by omega, by rw [List.length_append]; omega⟩) (fun a _ h2 => zA9 h2) h (Nat.zero_le _) hb
 rwa [zK4] at this
theorem zCb {A B : List TK} {g : Gl} {a b n : Nat} {l : List ND} (h : Dv L z (A ++ B) g a b l n) (hb : b ≤ A.length) : Dv L z A g a b l n := by
 have := zET (tok' := A) (A := 0) (B := A.length) (f := fun a => a) (c := 0) (fun a _ h2 => ⟨by omega, by omega⟩) (fun a _ h2 => (zA9 h2).symm) h (Nat.zero_le _) hb
 rwa [zK4] at this
def tk7 : TK := ⟨4, 0, 0, ⟨#[55]⟩, 0⟩
def tkP (x : Nm) : TK := ⟨1, 0, 0, ⟨x.toArray⟩, 0⟩
theorem zIf (x : Nm) : partB (tkP x).k (txN (tkP x)) x = true := by
 unfold tkP txN partB
 simp
theorem zB5 (A B : List TK) (x : TK) : tat (A ++ x :: B) A.length = x := by
 unfold tat
 simp [List.getD]
theorem supply (o : OP) : ∀ (I : List Nm) (A : List TK), ∃ (ext : List TK) (l : List ND) (n : Nat), Dv L z (A ++ ext) (.it o I false) A.length (A.length + ext.length) l n
 | [], A => ⟨[], [], 0, by rw [List.append_nil, List.length_nil, Nat.add_zero]; exact .nil (Nat.le_refl _)⟩
 | x :: r, A => by
  by_cases hx : x ≠ []
  ·obtain ⟨ext, l, n, h⟩ := supply o r (A ++ [tkP x])
   refine ⟨tkP x :: ext, l, n, ?_⟩
   have e : A ++ tkP x :: ext = (A ++ [tkP x]) ++ ext := by simp
   rw [e]
   refine .part hx (by simp <;> omega) ?_ ?_
   ·rw [← e, zB5]; exact zIf x
   ·have e2 : (A ++ [tkP x]).length = A.length + 1 := by simp
    rw [e2] at h
    have e3 : A.length + (tkP x :: ext).length = A.length + 1 + ext.length := by rw [List.length_cons]; omega
    rw [e3]; exact h
  ·obtain rfl : x = [] := Classical.not_not.1 hx
   obtain ⟨ext, l, n, h⟩ := supply o r (A ++ [tk7])
   have e : A ++ tk7 :: ext = (A ++ [tk7]) ++ ext := by simp
   have e2 : (A ++ [tk7]).length = A.length + 1 := by simp
   rw [e2] at h
   have e3 : A.length + (tk7 :: ext).length = A.length + 1 + ext.length := by rw [List.length_cons]; omega
   have ht : tat ((A ++ [tk7]) ++ ext) A.length = tk7 := by rw [← e, zB5]
   have hp : Dv L z ((A ++ [tk7]) ++ ext) (.it o ([] :: r) false) A.length (A.length + 1 + ext.length) _ (n + 1) := .hole (.leaf (by simp <;> omega) (by rw [ht]; rfl)) (fun h => by cases h) (fun _ => rfl) h
   rw [← e, ← e3] at hp
   exact ⟨tk7 :: ext, _, n + 1, hp⟩
variable {T : Nat → Nat → List TT} {To : Nat}
def TabOk (L : List OP) (z : List Int) (tok : List TK) (T : Nat → Nat → List TT) (To : Nat) : Prop := ∀ a b h, b ≤ To → (wholeB L z T a b h = true ↔ ∃ t i, Dv L z tok .tr a b t 1 ∧ topOk L i t ∧ holT L z h i = true)
theorem zAU (hTo : To ≤ tok.length) : (tok.take To).length = To := by rw [List.length_take]; omega
theorem zCc (_ : To ≤ tok.length) {a : Nat} (ha : a < To) : tat (tok.take To) a = tat tok a := by
 unfold tat
 simp only [List.getD, List.getElem?_take]
 rw [if_pos ha]
theorem zEV (hTo : To ≤ tok.length) {g : Gl} {a b n : Nat} {l : List ND} (hb : b ≤ To) (ext : List TK) : Dv L z (tok.take To ++ ext) g a b l n ↔ Dv L z tok g a b l n := by
 constructor
 ·intro h
  have h1 := zCb h (by rw [zAU hTo]; exact hb)
  have h2 := zB7 h1 (by rw [zAU hTo]; exact hb) (tok.drop To)
  rwa [List.take_append_drop] at h2
 ·intro h
  rw [← List.take_append_drop To tok] at h
  exact zB7 (zCb h (by rw [zAU hTo]; exact hb)) (by rw [zAU hTo]; exact hb) ext
theorem zFn (hD : Dst L) {j : Nat} {r : Bool} {i : Int} {x : ND} {t : List ND} (ht : topOk L i (x :: t)) : holT L z (some (j, r)) i = true ↔ mayH L z (opA L j) x r = true := by
 obtain ⟨x', r', e, h⟩ := ht
 cases e
 rcases h with ⟨rfl, h2⟩ | ⟨k, h1, rfl, h3, h4⟩
 ·have hm : mayH L z (opA L j) x r = true := by unfold mayH; rw [if_neg h2]
  rw [hm]
  exact ⟨fun _ => rfl, fun _ => rfl⟩
 ·have hm : mayH L z (opA L j) x r = fitsB z (opA L j) (opA L k) r := by unfold mayH; rw [if_pos h3, h4, hD k h1]
  rw [hm]
  unfold holT hMay
  rw [show decide ((k : Int) < 0) = false by simp, Bool.false_or, Int.toNat_natCast]
theorem zDg (hD : Dst L) (hTo : To ≤ tok.length) (HT : TabOk L z tok T To) {G : Nat → Hl → Bool} {k : Nat} (hk : k < L.length) : ∀ (I : List Nm) (a : Nat), (∀ b h, a ≤ b → b ≤ To → G b h = true → Vi L z tok To b h) → a ≤ To → restB L z tok G T To k I a = true →
  ∃ (ext : List TK) (l : List ND) (n : Nat), Dv L z (tok.take To ++ ext) (.it (opA L k) I false) a (To + ext.length) l n
 | [], a, hG, ha, h => by
  unfold restB at h
  obtain rfl : a = To := by simpa using h
  exact ⟨[], [], 0, by rw [List.length_nil, Nat.add_zero, List.append_nil]; exact .nil (by rw [zAU hTo]; exact Nat.le_refl _)⟩
 | x :: r, a, hG, ha, h => by
  unfold restB at h
  by_cases haT : a = To
  ·subst haT
   obtain ⟨ext, l, n, hs⟩ := supply (L := L) (z := z) (opA L k) (x :: r) (tok.take a)
   rw [zAU hTo] at hs
   exact ⟨ext, l, n, hs⟩
  ·rw [if_neg haT] at h
   by_cases hx : x ≠ []
   ·rw [if_pos hx, Bool.and_eq_true] at h
    obtain ⟨ext, l, n, hd⟩ := zDg hD hTo HT hk r (a + 1) (fun b h' hb => hG b h' (by omega)) (by omega) h.2
    refine ⟨ext, l, n, .part hx (by rw [List.length_append, zAU hTo]; omega) ?_ hd⟩
    rw [zA9 (by rw [zAU hTo]; omega), zCc hTo (by omega)]
    exact h.1
   ·obtain rfl : x = [] := Classical.not_not.1 hx
    rw [if_neg (by simp)] at h
    obtain ⟨h0, hh0⟩ : ∃ h0 : Hl, h0 = if r.isEmpty then some (k, true) else none := ⟨_, rfl⟩
    rw [← hh0] at h
    have hright : ∀ {i : Int} {x : ND} {t : List ND}, topOk L i (x :: t) → holT L z h0 i = true → r = [] → mayH L z (opA L k) x true = true := fun ht hm e => by
     subst e
     rw [hh0] at hm
     exact (zFn hD ht).1 hm
    rcases Bool.or_eq_true _ _ |>.mp h with h | h
    ·obtain ⟨ext, t, i, hd, ht, hm⟩ := hG a h0 (Nat.le_refl _) ha h
     obtain ⟨x, t', rfl, _⟩ := id ht
     obtain ⟨ext2, l, n, hs⟩ := supply (L := L) (z := z) (opA L k) r (tok.take To ++ ext)
     rw [List.length_append, zAU hTo] at hs
     have hd' := zB7 hd (by rw [List.length_append, zAU hTo]; exact Nat.le_refl _) ext2
     refine ⟨ext ++ ext2, x :: t' ++ l, n + 1, ?_⟩
     rw [← List.append_assoc, List.length_append, ← Nat.add_assoc]
     exact .hole hd' (fun h => by cases h) (fun e => hright ht hm e) hs
    ·obtain ⟨b, hb, h2⟩ := List.any_eq_true.1 h
     have hbr := List.mem_range'_1.1 hb
     rw [Bool.and_eq_true] at h2
     obtain ⟨t, i, hd, ht, hm⟩ := (HT a b h0 (by omega)).1 h2.1
     obtain ⟨x, t', rfl, _⟩ := id ht
     obtain ⟨ext, l, n, hr⟩ := zDg hD hTo HT hk r b (fun c h' hc => hG c h' (by omega)) (by omega) h2.2
     exact ⟨ext, x :: t' ++ l, n + 1, .hole ((zEV hTo (by omega) ext).2 hd) (fun h => by cases h) (fun e => hright ht hm e) hr⟩
theorem zMm (hD : Dst L) (hTo : To ≤ tok.length) (HT : TabOk L z tok T To) {G : Nat → Hl → Bool} {a : Nat} (ha : a < To) (hG : ∀ b h, a < b → b ≤ To → G b h = true → Vi L z tok To b h) {h : Hl} (hl : lookB L z tok G T To a h = true) : Vi L z tok To a h := by
 have hlen := zAU hTo
 have ta : ∀ (ext : List TK) (q : Nat), q < To → tat (tok.take To ++ ext) q = tat tok q := fun ext q hq => by rw [zA9 (by rw [hlen]; exact hq), zCc hTo hq]
 unfold lookB at hl
 rw [Bool.or_eq_true, Bool.or_eq_true] at hl
 rcases hl with hl | hl | hl
 ·rw [Bool.and_eq_true, decide_eq_true_eq] at hl
  obtain ⟨e, hlf⟩ := hl
  have hp : Dv L z tok .tr a To [⟨1, txN (tat tok a), a, (a + 1 : Nat), 0⟩] 1 := by rw [← e]; exact .leaf (by omega) hlf
  have hp2 := (zEV hTo (Nat.le_refl _) []).2 hp
  exact ⟨[], _, -1, hp2, ⟨_, _, rfl, .inl ⟨rfl, by show (1 : Int) ≠ 3; decide⟩⟩, rfl⟩
 ·rw [Bool.and_eq_true, Bool.and_eq_true, beq_iff_eq, beq_iff_eq] at hl
  obtain ⟨⟨k1, t1⟩, hl⟩ := hl
  rcases Bool.or_eq_true _ _ |>.mp hl with hl | hl
  ·obtain ⟨ext, t, i, hd, _, _⟩ := hG (a + 1) none (by omega) (by omega) hl
   have hd' := zB7 hd (by rw [List.length_append, hlen]; exact Nat.le_refl _) [⟨6, 0, 0, ⟨#[41]⟩, 0⟩]
   have te : tat ((tok.take To ++ ext) ++ [⟨6, 0, 0, ⟨#[41]⟩, 0⟩]) (To + ext.length) = ⟨6, 0, 0, ⟨#[41]⟩, 0⟩ := by
    have := zB5 (tok.take To ++ ext) [] ⟨6, 0, 0, ⟨#[41]⟩, 0⟩
    rwa [List.length_append, hlen] at this
   have t0 : tat ((tok.take To ++ ext) ++ [⟨6, 0, 0, ⟨#[41]⟩, 0⟩]) a = tat tok a := by rw [List.append_assoc, ta _ _ ha]
   have hp := Dv.paren (L := L) (z := z) (by rw [List.length_append, List.length_append, hlen]; simp) (by rw [t0]; exact k1) (by rw [t0]; exact t1) (by rw [te]) (by rw [te]; rfl) hd'
   rw [List.append_assoc] at hp
   have e : To + ext.length + 1 = To + (ext ++ [(⟨6, 0, 0, ⟨#[41]⟩, 0⟩ : TK)]).length := by rw [List.length_append, List.length_singleton]; omega
   rw [e] at hp
   exact ⟨_, _, -1, hp, ⟨_, _, rfl, .inl ⟨rfl, by show (2 : Int) ≠ 3; decide⟩⟩, rfl⟩
  ·rw [Bool.and_eq_true, Bool.and_eq_true, Bool.and_eq_true, decide_eq_true_eq, beq_iff_eq, beq_iff_eq] at hl
   obtain ⟨⟨h2, k2, t2⟩, hw⟩ := hl
   obtain ⟨t, i, hd, _, _⟩ := (HT (a + 1) (To - 1) none (by omega)).1 hw
   obtain ⟨b, rfl⟩ : ∃ b, To = b + 1 := ⟨To - 1, by omega⟩
   rw [Nat.add_sub_cancel] at hd k2 t2
   have hp := (zEV hTo (Nat.le_refl _) []).2 (Dv.paren (L := L) (z := z) (by omega) k1 t1 k2 t2 hd)
   exact ⟨[], _, -1, hp, ⟨_, _, rfl, .inl ⟨rfl, by show (2 : Int) ≠ 3; decide⟩⟩, rfl⟩
 ·obtain ⟨k, hk, hl⟩ := List.any_eq_true.1 hl
  have hkl := List.mem_range.1 hk
  rw [Bool.and_eq_true] at hl
  obtain ⟨hm, ho⟩ := hl
  unfold operG at ho
  cases hs : ofS (opA L k).1 with
  | none => rw [hs] at ho; cases ho
  | some s =>
   rw [hs] at ho
   dsimp only at ho
   obtain ⟨q, P, hP⟩ : ∃ q P, s.P = q :: P := by
    cases hP : s.P with
    | nil => exact absurd hP (zAc hs).1
    | cons q P => exact ⟨q, P, rfl⟩
   have hq := (zAc hs).2 q (by rw [hP]; simp)
   have hi := zB2 hP
   have fin : ∀ {ext : List TK} {l : List ND} {n : Nat}, Dv L z (tok.take To ++ ext) (.it (opA L k) (itemsL s) true) a (To + ext.length) l n → Vi L z tok To a h := fun hd =>
    ⟨_, _, k, .oper (hD k hkl) hs (by omega) hd, ⟨_, _, rfl, .inr ⟨k, hkl, rfl, rfl, rfl⟩⟩, by unfold holT; rw [Int.toNat_natCast, hm, Bool.or_true]⟩
   cases hsl : s.l with
   | false =>
    rw [hsl, if_neg (by decide)] at ho
    rw [hsl] at hi
    have hi' : itemsL s = q :: sepN s.r P := hi
    rw [hi'] at ho fin
    unfold restB at ho
    rw [if_neg (by omega), if_pos hq.1, Bool.and_eq_true] at ho
    obtain ⟨ext, l, n, hd⟩ := zDg hD hTo HT hkl _ (a + 1) (fun b h' hb hb2 => hG b h' (by omega) hb2) (by omega) ho.2
    refine fin (ext := ext) (.part hq.1 (by rw [List.length_append, hlen]; omega) ?_ hd)
    rw [ta _ _ ha]; exact ho.1
   | true =>
    rw [hsl, if_pos rfl] at ho
    rw [hsl] at hi
    have hi' : itemsL s = [] :: q :: sepN s.r P := hi
    rw [hi'] at ho fin
    obtain ⟨b, hb, h2⟩ := List.any_eq_true.1 ho
    have hbr := List.mem_range'_1.1 hb
    rw [Bool.and_eq_true, List.tail_cons] at h2
    obtain ⟨t, i, hd, ht, hm2⟩ := (HT a b _ (by omega)).1 h2.1
    obtain ⟨x, t', rfl, _⟩ := id ht
    obtain ⟨ext, l, n, hr⟩ := zDg hD hTo HT hkl _ b (fun c h' hc hb2 => hG c h' (by omega) hb2) (by omega) h2.2
    exact fin (ext := ext) (.hole ((zEV hTo (by omega) ext).2 hd) (fun _ => (zFn hD ht).1 hm2) (fun e => by cases e) hr)
theorem zPx (hD : Dst L) (hTo : To ≤ tok.length) (HT : TabOk L z tok T To) : ∀ (n a : Nat) (h : Hl), a ≤ To → goB L z tok T To n a h = true → Vi L z tok To a h := by
 have base : ∀ h, Vi L z tok To To h := fun h => by
  refine ⟨[tk7], _, -1, .leaf ?_ ?_, ⟨_, _, rfl, .inl ⟨rfl, by show (1 : Int) ≠ 3; decide⟩⟩, rfl⟩
  ·rw [List.length_append, zAU hTo]; simp
  ·have e := zB5 (tok.take To) [] tk7
   rw [zAU hTo] at e
   rw [e]; rfl
 intro n
 induction n with
 | zero =>
  intro a h ha hg
  obtain rfl : a = To := by unfold goB at hg; simpa using hg
  exact base h
 | succ n ih =>
  intro a h ha hg
  unfold goB at hg
  by_cases haT : a = To
  ·subst haT; exact base h
  ·rw [if_neg haT] at hg
   exact zMm hD hTo HT (by omega) (fun b h' _ hb => ih b h' hb) hg
end
end
section
open Go.RowKit
section
variable {L : List OP} {z : List Int} {tok : List TK} {T : Nat → Nat → List TT} {To : Nat}
theorem zDE (hTo : To ≤ tok.length) {ext : List TK} {a c : Nat} {t : List ND} (hd : Dv L z (tok.take To ++ ext) .tr a c t 1) (hc : To ≤ c) :
  ∃ e2 : List TK, Dv L z (tok.take To ++ e2) .tr a (To + e2.length) t 1 := by
 have hl := (zB3 hd).2
 rw [List.length_append, zAU hTo] at hl
 refine ⟨ext.take (c - To), ?_⟩
 have e : tok.take To ++ ext = (tok.take To ++ ext.take (c - To)) ++ ext.drop (c - To) := by rw [List.append_assoc, List.take_append_drop]
 rw [e] at hd
 have e2 : To + (ext.take (c - To)).length = c := by rw [List.length_take]; omega
 rw [e2]
 refine zCb hd ?_
 rw [List.length_append, zAU hTo, List.length_take]; omega
theorem zFo (hD : Dst L) (hTo : To ≤ tok.length) (HT : TabOk L z tok T To) {G : Nat → Hl → Bool} {k a0 : Nat} (hk : k < L.length) (hG : ∀ b h, a0 < b → b ≤ To → Vi L z tok To b h → G b h = true) {ext : List TK} :
  ∀ (I : List Nm) (fst : Bool) (a : Nat) (l : List ND) (m : Nat), Dv L z (tok.take To ++ ext) (.it (opA L k) I fst) a (To + ext.length) l m → a ≤ To → a0 < a → restB L z tok G T To k I a = true
 | [], fst, a, l, m, hd, ha, h0 => by
  unfold restB
  generalize hb : To + ext.length = b at hd
  cases hd
  simp
  omega
 | x :: r, fst, a, l, m, hd, ha, h0 => by
  unfold restB
  by_cases haT : a = To
  ·rw [if_pos haT]
  ·rw [if_neg haT]
   by_cases hx : x ≠ []
   ·rw [if_pos hx]
    cases hd with
    | hole => exact absurd rfl hx
    | part _ _ hp hd =>
     rw [zA9 (by rw [zAU hTo]; omega), zCc hTo (by omega)] at hp
     rw [hp, Bool.true_and]
     exact zFo hD hTo HT hk hG r false (a + 1) _ _ hd (by omega) (by omega)
   ·obtain rfl : x = [] := Classical.not_not.1 hx
    rw [if_neg (by simp)]
    cases hd with
    | part h => exact absurd rfl h
    | @hole _ _ _ _ c _ n x t l hd1 _ hm2 hd2 =>
     obtain ⟨i, ht⟩ := zE2 hd1
     have g1 := zB3 hd1
     have hh : holT L z (if r.isEmpty then some (k, true) else none) i = true := by
      cases r with
      | nil => exact (zFn hD ht).2 (hm2 rfl)
      | cons y r => show (decide (i < 0) || true) = true; rw [Bool.or_true]
     rw [Bool.or_eq_true]
     by_cases hc : c < To
     ·right
      refine List.any_eq_true.2 ⟨c, List.mem_range'_1.2 (by omega), ?_⟩
      rw [Bool.and_eq_true]
      exact ⟨(HT a c _ (by omega)).2 ⟨_, i, (zEV hTo (by omega) ext).1 hd1, ht, hh⟩, zFo hD hTo HT hk hG r false c _ _ hd2 (by omega) (by omega)⟩
     ·left
      obtain ⟨e2, h2⟩ := zDE hTo hd1 (by omega)
      exact hG a _ h0 ha ⟨e2, _, i, h2, ht, hh⟩
theorem zK5 (hz : RowsOk z) (hD : Dst L) {h : Hl} {k : Nat} (hm : hMay L z h k = true) {i : Int} {x : ND} {t : List ND} (ht : topOk L i (x :: t)) (hl : mayH L z (opA L k) x false = true) : holT L z h i = true := by
 obtain ⟨x', r', e, ht⟩ := ht
 cases e
 unfold holT
 rcases ht with ⟨rfl, _⟩ | ⟨k', h1, rfl, h3, h4⟩
 ·rfl
 ·rw [Int.toNat_natCast, Bool.or_eq_true]
  right
  have hf : fitsB z (opA L k) (opA L k') false = true := by
   unfold mayH at hl
   rw [if_pos h3, h4, hD k' h1] at hl
   exact hl
  match h, hm with
  | none, _ => rfl
  | some (j, false), hm => exact zDQ hz _ _ _ false hm hf
  | some (j, true), hm => exact zE0 hz _ _ _ true hm hf
theorem zK6 (hz : RowsOk z) (hD : Dst L) (hTo : To ≤ tok.length) (HT : TabOk L z tok T To) {G : Nat → Hl → Bool} {a : Nat} (ha : a < To) (hG : ∀ b h, a < b → b ≤ To → Vi L z tok To b h → G b h = true) :
  ∀ (N : Nat) (ext : List TK) (t : List ND) (i : Int) (h : Hl), t.length ≤ N → Dv L z (tok.take To ++ ext) .tr a (To + ext.length) t 1 → topOk L i t → holT L z h i = true → lookB L z tok G T To a h = true
 | 0, ext, t, i, h, hN, hd, ht, hh => by
  obtain ⟨x, r, rfl, _⟩ := ht
  simp at hN
 | N + 1, ext, t, i, h, hN, hd, ht, hh => by
  have hlen := zAU hTo
  have ta : ∀ q, q < To → tat (tok.take To ++ ext) q = tat tok q := fun q hq => by rw [zA9 (by rw [hlen]; exact hq), zCc hTo hq]
  have c1 : (decide (a + 1 = To) && leafB (tat tok a).k (freeB L z (txN (tat tok a)))) = true → lookB L z tok G T To a h = true := fun h => by unfold lookB; rw [h]; rfl
  have c2 : (((tat tok a).k == 6 && txN (tat tok a) == [40]) && (G (a + 1) none || (decide (a + 2 < To) && ((tat tok (To - 1)).k == 6 && txN (tat tok (To - 1)) == [41]) && wholeB L z T (a + 1) (To - 1) none))) = true → lookB L z tok G T To a h = true := fun h => by unfold lookB; rw [h, Bool.true_or, Bool.or_true]
  have c3 : ((List.range L.length).any fun k => hMay L z h k && operG L z tok G T To k a) = true → lookB L z tok G T To a h = true := fun h => by unfold lookB; rw [h, Bool.or_true, Bool.or_true]
  generalize hc : To + ext.length = c at hd
  cases hd with
  | leaf _ hl =>
   apply c1
   rw [ta a ha] at hl
   rw [Bool.and_eq_true, decide_eq_true_eq]
   exact ⟨by omega, hl⟩
  | @paren _ b t' hb k1 t1 k2 t2 hd =>
   apply c2
   have hab := zB3 hd
   rw [ta a ha] at k1 t1
   rw [Bool.and_eq_true, Bool.and_eq_true, beq_iff_eq, beq_iff_eq, Bool.or_eq_true]
   refine ⟨⟨k1, t1⟩, ?_⟩
   obtain ⟨i', ht'⟩ := zE2 hd
   have hn : holT L z none i' = true := by show (decide (i' < 0) || true) = true; rw [Bool.or_true]
   by_cases he : ext.length = 0
   ·right
    obtain rfl : b = To - 1 := by omega
    rw [ta (To - 1) (by omega)] at k2 t2
    simp only [Bool.and_eq_true, decide_eq_true_eq, beq_iff_eq]
    exact ⟨⟨by omega, k2, t2⟩, (HT _ _ _ (by omega)).2 ⟨t', i', (zEV hTo (by omega) ext).1 hd, ht', hn⟩⟩
   ·left
    obtain ⟨e2, h2⟩ := zDE hTo hd (by omega)
    exact hG (a + 1) none (by omega) (by omega) ⟨e2, t', i', h2, ht', hn⟩
  | @oper _ _ n o s l ho hs hab hd =>
   obtain ⟨x', r', e, htt⟩ := ht
   cases e
   rcases htt with ⟨_, h2⟩ | ⟨k, hk, rfl, _, hn⟩
   ·exact absurd rfl h2
   ·have e : o = opA L k := by
     have h1 := hD k hk
     rw [show (opA L k).1 = o.1 from hn.symm, ho] at h1
     exact Option.some.inj h1
    subst e
    have hm : hMay L z h k = true := by
     unfold holT at hh
     rw [show decide ((k : Int) < 0) = false by simp, Bool.false_or, Int.toNat_natCast] at hh
     exact hh
    obtain ⟨q, P, hP⟩ : ∃ q P, s.P = q :: P := by
     cases hP : s.P with
     | nil => exact absurd hP (zAc hs).1
     | cons q P => exact ⟨q, P, rfl⟩
    have hq := (zAc hs).2 q (by rw [hP]; simp)
    have hi := zB2 hP
    subst hc
    have fin : operG L z tok G T To k a = true → lookB L z tok G T To a h = true := fun hg =>
     c3 <| List.any_eq_true.2 ⟨k, List.mem_range.2 hk, by rw [hm, hg]; rfl⟩
    have ho' : operG L z tok G T To k a = if s.l then (List.range' (a + 1) (To - (a + 1))).any fun b => wholeB L z T a b (some (k, false)) && restB L z tok G T To k (itemsL s).tail b else restB L z tok G T To k (itemsL s) a := by
     unfold operG; rw [hs]
    rw [ho'] at fin
    cases hsl : s.l with
    | false =>
     rw [hsl] at fin hi
     have hi' : itemsL s = q :: sepN s.r P := hi
     rw [hi'] at fin hd
     refine fin ?_
     rw [if_neg (by decide)]
     cases hd with
     | hole => exact absurd rfl hq.1
     | part _ _ hp hd =>
      rw [ta a ha] at hp
      unfold restB
      rw [if_neg (by omega), if_pos hq.1, hp, Bool.true_and]
      exact zFo hD hTo HT hk hG _ false (a + 1) _ _ hd (by omega) (by omega)
    | true =>
     rw [hsl] at fin hi
     have hi' : itemsL s = [] :: q :: sepN s.r P := hi
     rw [hi'] at fin hd
     rw [if_pos rfl, List.tail_cons] at fin
     cases hd with
     | part h => exact absurd rfl h
     | @hole _ _ _ _ c' _ n' x t l' hd1 hm1 _ hd2 =>
      obtain ⟨i', ht'⟩ := zE2 hd1
      have g1 := zB3 hd1
      by_cases hc' : c' < To
      ·refine fin (List.any_eq_true.2 ⟨c', List.mem_range'_1.2 (by omega), ?_⟩)
       rw [Bool.and_eq_true]
       exact ⟨(HT a c' _ (by omega)).2 ⟨_, i', (zEV hTo (by omega) ext).1 hd1, ht', (zFn hD ht').2 (hm1 rfl)⟩, zFo hD hTo HT hk hG _ false c' _ _ hd2 (by omega) (by omega)⟩
      ·-- the operator is left out
       have hh' := zK5 hz hD hm ht' (hm1 rfl)
       obtain ⟨e2, h2⟩ := zDE hTo hd1 (by omega)
       exact zK6 hz hD hTo HT ha hG N e2 (x :: t) i' h (by simp at hN ⊢; omega) h2 ht' hh'
theorem zPy (hz : RowsOk z) (hD : Dst L) (hTo : To ≤ tok.length) (HT : TabOk L z tok T To) : ∀ (n a : Nat) (h : Hl), a ≤ To → To - a ≤ n → Vi L z tok To a h → goB L z tok T To n a h = true
 | 0, a, h, ha, hn, _ => by
  unfold goB
  simp
  omega
 | n + 1, a, h, ha, hn, hv => by
  unfold goB
  by_cases haT : a = To
  ·rw [if_pos haT]
  ·rw [if_neg haT]
   obtain ⟨ext, t, i, hd, ht, hh⟩ := hv
   exact zK6 hz hD hTo HT (by omega) (fun b h' hb hb2 hv => zPy hz hD hTo HT n b h' hb2 (by omega) hv) _ ext t i h (Nat.le_refl _) hd ht hh
theorem zPz (hz : RowsOk z) (hD : Dst L) (hTo : To ≤ tok.length) (HT : TabOk L z tok T To) {n a : Nat} {h : Hl} (ha : a ≤ To) (hn : To - a ≤ n) : goB L z tok T To n a h = true ↔ Vi L z tok To a h :=
 ⟨zPx hD hTo HT n a h ha, zPy hz hD hTo HT n a h ha hn⟩
theorem zP0 (hS : Srt L) : TabOk L z tok (tabC L z tok tok.length) To := by
 intro a b h hb
 have hm := zKu (z := z) (tok := tok) (zEP hS) tok.length a b
 unfold wholeB
 rw [zKs, List.any_eq_true]
 constructor
 ·rintro ⟨t, h1, h2⟩
  have h3 := (hm t.1 t.2).1 (zOm _ _ t h1)
  exact ⟨t.2, t.1, h3.2.1, h3.2.2, h2⟩
 ·rintro ⟨t, i, h1, h2, h3⟩
  have g1 := zB3 h1
  have h4 : (i, t) ∈ tabF L z tok tok.length a b := (hm i t).2 ⟨by omega, h1, h2⟩
  have h5 : 0 < cnt (fun t : TT => t.1) i (capK (fun t : TT => t.1) (tabF L z tok tok.length a b)) := by
   rw [zEM]
   have h8 : 0 < cnt (fun t : TT => t.1) i (tabF L z tok tok.length a b) := zFh.2 ⟨(i, t), h4, rfl⟩
   omega
  obtain ⟨u, h6, h7⟩ := zFh.1 h5
  exact ⟨u, h6, by rw [h7]; exact h3⟩
def VL (L : List OP) (z : List Int) (tok : List TK) (m : Nat) : Prop := ∃ (ext : List TK) (t : List ND), Dv L z (tok.take m ++ ext) .tr 0 (m + ext.length) t 1
theorem zQQ : Vi L z tok To 0 none ↔ VL L z tok To := by
 constructor
 ·rintro ⟨ext, t, i, h, _, _⟩
  exact ⟨ext, t, h⟩
 ·rintro ⟨ext, t, h⟩
  obtain ⟨i, hi⟩ := zE2 h
  exact ⟨ext, t, i, h, hi, by show (decide (i < 0) || true) = true; rw [Bool.or_true]⟩
theorem zHQ {m n : Nat} (h : VL L z tok n) (hn : n ≤ tok.length) (hm : m ≤ n) : VL L z tok m := by
 obtain ⟨ext, t, hd⟩ := h
 refine ⟨(tok.take n).drop m ++ ext, t, ?_⟩
 have e : tok.take m ++ ((tok.take n).drop m ++ ext) = tok.take n ++ ext := by
  rw [← List.append_assoc]
  congr 1
  rw [show tok.take m = (tok.take n).take m by rw [List.take_take, Nat.min_eq_left hm], List.take_append_drop]
 rw [e]
 have e2 : m + ((tok.take n).drop m ++ ext).length = n + ext.length := by rw [List.length_append, List.length_drop, List.length_take]; omega
 rw [e2]; exact hd
def LonP (L : List OP) (z : List Int) (tok : List TK) (n : Nat) : Prop := n ≤ tok.length ∧ ∀ m, m ≤ tok.length → (VL L z tok m ↔ m ≤ n)
theorem zBF {n n' : Nat} (h : LonP L z tok n) (h' : LonP L z tok n') : n = n' := by
 have h1 := (h'.2 n h.1).1 ((h.2 n h.1).2 (Nat.le_refl _))
 have h2 := (h.2 n' h'.1).1 ((h'.2 n' h'.1).2 (Nat.le_refl _))
 omega
theorem zIg {n : Nat} (hn : n ≤ tok.length) (h1 : VL L z tok n) (h2 : n < tok.length → ¬ VL L z tok (n + 1)) : LonP L z tok n := by
 refine ⟨hn, fun m hm => ⟨fun h => ?_, fun h => zHQ h1 hn h⟩⟩
 by_cases hmn : m ≤ n
 ·exact hmn
 ·exact absurd (zHQ h hm (show n + 1 ≤ m by omega)) (h2 (by omega))
end
end
end Go.Proofs.YtcjbhdgjcpnklaaGreatDoor
