import Derived.Test.YtcjbhdgjcpnklaaGreatDoorV35
import Derived.Test.YtcjbhdgjcpnklaaGreatDoorV52
namespace Go.Proofs.YtcjbhdgjcpnklaaGreatDoor
section
open Go.RowKit
section
variable {L L' : List OP} {z z' : List Int} {tok : List TK} {To : Nat}
theorem zLi (hE : SameN L z L' z' tok) {a : Nat} (ha : a < tok.length) (h : leafB (tat tok a).k (freeB L z (txN (tat tok a))) = true) : leafB (tat tok a).k (freeB L' z' (txN (tat tok a))) = true := by
 rcases zIT h with hk | ⟨hk, hf⟩
 ·unfold leafB
  rcases hk with h | h | h <;> rw [h] <;> rfl
 ·have e := hE a ha (by unfold isP; rcases hk with h | h <;> rw [h] <;> rfl)
  have hf' : freeB L' z' (txN (tat tok a)) = true := by unfold freeB at hf ⊢; rw [← e]; exact hf
  rw [hf']
  unfold leafB
  rcases hk with h | h <;> rw [h] <;> rfl
theorem zLj (hE : SameN L z L' z' tok) {o : OP} {s : SH} (ho : o ∈ L) (hs : ofS o.1 = some s) {x : Nm} (hx : x ∈ s.P) {a : Nat} (ha : a < tok.length) (hp : partB (tat tok a).k (txN (tat tok a)) x = true) : o ∈ L' ∧ rowV z o.2.1 = rowV z' o.2.1 := by
 have h := zEJ hp
 have e := hE a ha h.1
 rw [h.2] at e
 exact zNo ho (by unfold hasP; rw [zNm hs]; simpa using hx) e
theorem zN3 (hD' : Dst L') (hE : SameN L z L' z' tok) {o : OP} (hr : rowV z o.2.1 = rowV z' o.2.1) {a b : Nat} {x : ND} {t : List ND} (h : Dv L z tok .tr a b (x :: t) 1) {rt : Bool} (hm : mayH L z o x rt = true) : mayH L' z' o x rt = true := by
 unfold mayH at hm ⊢
 by_cases hx : x.k = 3
 ·rw [if_pos hx] at hm ⊢
  obtain ⟨k, hk, h1, _⟩ := zKw hE h hx
  have hk' := zCH hD' h1
  rw [(zAq hk).2] at hk'
  rw [hk] at hm
  rw [hk']
  dsimp only at hm ⊢
  rw [← zFi hr]; exact hm
 ·rw [if_neg hx]
def InH (L : List OP) (z : List Int) (h : Option (OP × Bool)) (x : ND) : Prop := ∀ o rt, h = some (o, rt) → mayH L z o x rt = true
def RowH (z z' : List Int) (h : Option (OP × Bool)) : Prop := ∀ o rt, h = some (o, rt) → rowV z o.2.1 = rowV z' o.2.1
theorem zCU (hD' : Dst L') (hTo : To ≤ tok.length) (hE : SameN L z L' z' (tok.take To)) {a0 : Nat} {o : OP} (hr : rowV z o.2.1 = rowV z' o.2.1)
  (IH : ∀ (a : Nat) (ext : List TK) (x : ND) (r : List ND) (h : Option (OP × Bool)), a0 < a → a < To → Dv L z (tok.take To ++ ext) .tr a (To + ext.length) (x :: r) 1 → InH L z h x → RowH z z' h → ∃ (e2 : List TK) (x' : ND) (r' : List ND), Dv L' z' (tok.take To ++ e2) .tr a (To + e2.length) (x' :: r') 1 ∧ InH L' z' h x') :
  ∀ (I : List Nm) (fst : Bool) (a : Nat) (ext : List TK) (l : List ND) (n : Nat), fst = false → a0 < a → a ≤ To → Dv L z (tok.take To ++ ext) (.it o I fst) a (To + ext.length) l n → ∃ (e2 : List TK) (l' : List ND) (n' : Nat), Dv L' z' (tok.take To ++ e2) (.it o I false) a (To + e2.length) l' n'
 | [], fst, a, ext, l, n, hf, h0, ha, hd => by
  have hlen := zAU hTo
  have haT : a = To := by
   generalize hb : To + ext.length = b at hd
   cases hd
   omega
  subst haT
  obtain ⟨e2, l', n', hs⟩ := supply (L := L') (z := z') o [] (tok.take a)
  rw [hlen] at hs
  exact ⟨e2, l', n', hs⟩
 | x :: r, fst, a, ext, l, n, hf, h0, ha, hd => by
  have hlen := zAU hTo
  by_cases haT : a = To
  ·subst haT
   obtain ⟨e2, l', n', hs⟩ := supply (L := L') (z := z') o (x :: r) (tok.take a)
   rw [hlen] at hs
   exact ⟨e2, l', n', hs⟩
  ·subst hf
   cases hd with
   | part hx _ hp hd =>
    obtain ⟨e2, l', n', h2⟩ := zCU hD' hTo hE hr IH r false (a + 1) ext _ _ rfl (by omega) (by omega) hd
    refine ⟨e2, l', n', .part hx (by rw [List.length_append, hlen]; omega) ?_ h2⟩
    rw [zA9 (by rw [hlen]; omega)] at hp ⊢
    exact hp
   | @hole _ _ _ _ c _ m x t l hd1 _ hm2 hd2 =>
    have g1 := zB3 hd1
    by_cases hc : c < To
    ·obtain ⟨e2, l', n', h2⟩ := zCU hD' hTo hE hr IH r false c ext _ _ rfl (by omega) (by omega) hd2
     have k1 := zCb hd1 (by rw [hlen]; omega)
     have k2 := zFj hD' hE k1 trivial
     have k3 := zB7 k2 (by rw [hlen]; omega) e2
     exact ⟨e2, _, _, .hole k3 (fun h => by cases h) (fun e => zN3 hD' hE hr k1 (hm2 e)) h2⟩
    ·obtain ⟨e1, h1⟩ := zDE hTo hd1 (by omega)
     obtain ⟨e2, x', r', h2, hi⟩ := IH a e1 x t (if r = [] then some (o, true) else none) h0 (by omega) h1 (fun o' rt e => by
      split at e
      ·rename_i hrn
       cases e
       exact hm2 hrn
      ·cases e) (fun o' rt e => by
      split at e
      ·cases e; exact hr
      ·cases e)
     obtain ⟨e3, l', n', hs⟩ := supply (L := L') (z := z') o r (tok.take To ++ e2)
     rw [List.length_append, hlen] at hs
     have h3 := zB7 h2 (by rw [List.length_append, hlen]; exact Nat.le_refl _) e3
     have hp : Dv L' z' (tok.take To ++ e2 ++ e3) (.it o ([] :: r) false) a (To + e2.length + e3.length) _ (n' + 1) := .hole h3 (fun h => by cases h) (fun e => hi o true (by rw [if_pos e])) hs
     rw [List.append_assoc, Nat.add_assoc, ← List.length_append] at hp
     exact ⟨e2 ++ e3, _, _, hp⟩
theorem zFw (hz : RowsOk z) (hD : Dst L) (hD' : Dst L') (hTo : To ≤ tok.length) (hE : SameN L z L' z' (tok.take To)) : ∀ (M : Nat) (N : Nat) (a : Nat) (ext : List TK) (x : ND) (r : List ND) (h : Option (OP × Bool)), To - a ≤ M → (x :: r).length ≤ N → a < To →
  Dv L z (tok.take To ++ ext) .tr a (To + ext.length) (x :: r) 1 → InH L z h x → RowH z z' h → ∃ (e2 : List TK) (x' : ND) (r' : List ND), Dv L' z' (tok.take To ++ e2) .tr a (To + e2.length) (x' :: r') 1 ∧ InH L' z' h x'
 | 0, _, a, ext, x, r, h, hM, hN, ha, hd, hi, hr => by omega
 | M + 1, 0, a, ext, x, r, h, hM, hN, ha, hd, hi, hr => by simp at hN
 | M + 1, N + 1, a, ext, x, r, h, hM, hN, ha, hd, hi, hr => by
  have hlen := zAU hTo
  have ta : ∀ (ext : List TK) (q : Nat), q < To → tat (tok.take To ++ ext) q = tat (tok.take To) q := fun ext q hq => zA9 (by rw [hlen]; exact hq)
  have IH : ∀ (b : Nat) (ext : List TK) (x : ND) (r : List ND) (h : Option (OP × Bool)), a < b → b < To → Dv L z (tok.take To ++ ext) .tr b (To + ext.length) (x :: r) 1 → InH L z h x → RowH z z' h → ∃ (e2 : List TK) (x' : ND) (r' : List ND), Dv L' z' (tok.take To ++ e2) .tr b (To + e2.length) (x' :: r') 1 ∧ InH L' z' h x' :=
   fun b ext x r h h1 h2 hd hi hr => zFw hz hD hD' hTo hE M (x :: r).length b ext x r h (by omega) (Nat.le_refl _) h2 hd hi hr
  generalize hc : To + ext.length = c at hd
  cases hd with
  | leaf hal hl =>
   rw [ta ext a ha] at hl
   have h2 : Dv L' z' (tok.take To ++ []) .tr a (a + 1) _ 1 := zB7 (.leaf (by rw [hlen]; exact ha) (zLi hE (by rw [hlen]; exact ha) hl)) (by rw [hlen]; omega) []
   have e : To + ([] : List TK).length = a + 1 := by simp; omega
   rw [← e] at h2
   exact ⟨[], _, _, h2, fun o rt _ => by unfold mayH; rw [if_neg (by show ¬ (1 : Int) = 3; decide)]⟩
  | @paren _ b _ hb k1 t1 k2 t2 hd =>
   have hab := zB3 hd
   rw [ta ext a ha] at k1 t1
   have hin : ∀ o rt {a b : Nat}, mayH L' z' o ⟨2, [], a, b, 1⟩ rt = true := fun o rt a b => by unfold mayH; rw [if_neg (by show ¬ (2 : Int) = 3; decide)]
   by_cases he : ext.length = 0
   ·obtain rfl : b = To - 1 := by omega
    rw [ta ext (To - 1) (by omega)] at k2 t2
    have h1 := zFj hD' hE (zCb hd (by rw [hlen]; omega)) trivial
    have h2 : Dv L' z' (tok.take To ++ []) .tr a (To - 1 + 1) _ 1 := zB7 (.paren (by rw [hlen]; omega) k1 t1 k2 t2 h1) (by rw [hlen]; omega) []
    have e : To + ([] : List TK).length = To - 1 + 1 := by simp; omega
    rw [← e] at h2
    exact ⟨[], _, _, h2, fun o rt _ => hin o rt⟩
   ·have hx : ∃ e2 x' r', Dv L' z' (tok.take To ++ e2) .tr (a + 1) (To + e2.length) (x' :: r') 1 := by
     by_cases haT : a + 1 = To
     ·have h7 := zB5 (tok.take To) [] tk7
      rw [hlen] at h7
      have h2 : Dv L' z' (tok.take To ++ [tk7]) .tr To (To + 1) _ 1 := .leaf (by rw [List.length_append, hlen]; simp) (by rw [h7]; rfl)
      rw [haT]
      exact ⟨[tk7], _, _, h2⟩
     ·obtain ⟨e1, h1⟩ := zDE hTo hd (by omega)
      obtain ⟨u, t', e, _⟩ := (zCs h1).2.1
      rw [e] at h1
      obtain ⟨e2, x', r', h2, _⟩ := IH (a + 1) e1 u t' none (by omega) (by omega) h1 (fun o rt h => by cases h) (fun o rt h => by cases h)
      exact ⟨e2, x', r', h2⟩
    obtain ⟨e2, x', r', h2⟩ := hx
    have h3 := zB7 h2 (by rw [List.length_append, hlen]; exact Nat.le_refl _) [⟨6, 0, 0, ⟨#[41]⟩, 0⟩]
    have te : tat ((tok.take To ++ e2) ++ [⟨6, 0, 0, ⟨#[41]⟩, 0⟩]) (To + e2.length) = ⟨6, 0, 0, ⟨#[41]⟩, 0⟩ := by
     have := zB5 (tok.take To ++ e2) [] ⟨6, 0, 0, ⟨#[41]⟩, 0⟩
     rwa [List.length_append, hlen] at this
    have t0 : tat ((tok.take To ++ e2) ++ [⟨6, 0, 0, ⟨#[41]⟩, 0⟩]) a = tat (tok.take To) a := by rw [List.append_assoc, ta _ _ ha]
    have hp := Dv.paren (L := L') (z := z') (by rw [List.length_append, List.length_append, hlen]; simp) (by rw [t0]; exact k1) (by rw [t0]; exact t1) (by rw [te]) (by rw [te]; rfl) h3
    rw [List.append_assoc] at hp
    have e : To + e2.length + 1 = To + (e2 ++ [(⟨6, 0, 0, ⟨#[41]⟩, 0⟩ : TK)]).length := by rw [List.length_append, List.length_singleton]; omega
    rw [e] at hp
    exact ⟨_, _, _, hp, fun o rt _ => hin o rt⟩
  | @oper _ _ n o s _ ho hs hab hd =>
   subst hc
   have hom := zAq ho
   obtain ⟨q, P, hP⟩ : ∃ q P, s.P = q :: P := by
    cases hP : s.P with
    | nil => exact absurd hP (zAc hs).1
    | cons q P => exact ⟨q, P, rfl⟩
   have hqm : q ∈ s.P := by rw [hP]; simp
   have hq := (zAc hs).2 q hqm
   have hie := zB2 hP
   have fin : o ∈ L' → rowV z o.2.1 = rowV z' o.2.1 → ∀ {e2 : List TK} {l' : List ND} {n' : Nat}, Dv L' z' (tok.take To ++ e2) (.it o (itemsL s) true) a (To + e2.length) l' n' → ∃ (e2 : List TK) (x' : ND) (r' : List ND), Dv L' z' (tok.take To ++ e2) .tr a (To + e2.length) (x' :: r') 1 ∧ InH L' z' h x' := fun ho' hrow e2 l' n' hd' =>
    ⟨e2, _, _, .oper (zCH hD' ho') hs (by omega) hd', fun oh rt e => by
     have h1 := hi oh rt e
     unfold mayH at h1 ⊢
     rw [if_pos rfl] at h1 ⊢
     dsimp only at h1 ⊢
     rw [ho] at h1
     rw [zCH hD' ho']
     dsimp only at h1 ⊢
     rw [← zFi (hr oh rt e)]; exact h1⟩
   cases hsl : s.l with
   | false =>
    rw [hsl] at hie
    have hi' : itemsL s = q :: sepN s.r P := hie
    rw [hi'] at fin hd
    cases hd with
    | hole => exact absurd rfl hq.1
    | part _ _ hp hd =>
     rw [ta ext a ha] at hp
     have hin := zLj hE hom.1 hs hqm (by rw [hlen]; exact ha) hp
     obtain ⟨e2, l', n', h2⟩ := zCU hD' hTo hE hin.2 IH _ false (a + 1) ext _ _ rfl (by omega) (by omega) hd
     exact fin hin.1 hin.2 (.part hq.1 (by rw [List.length_append, hlen]; omega) (by rw [ta e2 a ha]; exact hp) h2)
   | true =>
    rw [hsl] at hie
    have hi' : itemsL s = [] :: q :: sepN s.r P := hie
    rw [hi'] at fin hd
    cases hd with
    | part h => exact absurd rfl h
    | @hole _ _ _ _ c' _ n' x1 t1 l' hd1 hm1 _ hd2 =>
     have g1 := zB3 hd1
     by_cases hc' : c' < To
     ·have hp : partB (tat (tok.take To) c').k (txN (tat (tok.take To) c')) q = true := by
       cases hd2 with
       | part _ _ hp _ => rw [ta ext c' hc'] at hp; exact hp
       | hole => exact absurd rfl hq.1
      have hin := zLj hE hom.1 hs hqm (by rw [hlen]; exact hc') hp
      obtain ⟨e2, l2, n2, h2⟩ := zCU hD' hTo hE hin.2 IH _ false c' ext _ _ rfl (by omega) (by omega) hd2
      have k1 := zCb hd1 (by rw [hlen]; omega)
      have k3 := zB7 (zFj hD' hE k1 trivial) (by rw [hlen]; omega) e2
      exact fin hin.1 hin.2 (.hole k3 (fun _ => zN3 hD' hE hin.2 k1 (hm1 rfl)) (fun e => by cases e) h2)
     ·-- the operator is left out
      obtain ⟨e1, h1⟩ := zDE hTo hd1 (by omega)
      refine zFw hz hD hD' hTo hE (M + 1) N a e1 x1 t1 h hM (by simp at hN ⊢; omega) ha h1 (fun oh rt e => ?_) hr
      have f1 : fitsB z oh o rt = true := zMg rfl ho (hi oh rt e)
      have f2 := hm1 rfl
      unfold mayH at f2 ⊢
      by_cases hx : x1.k = 3
      ·rw [if_pos hx] at f2 ⊢
       cases hk : findO L x1.n with
       | none => rw [hk] at f2; cases f2
       | some k =>
        rw [hk] at f2
        dsimp only at f2 ⊢
        cases rt with
        | false => exact zDQ hz _ _ _ false f1 f2
        | true => exact zE0 hz _ _ _ true f1 f2
      ·rw [if_neg hx]
theorem zIx (hz : RowsOk z) (hD : Dst L) (hD' : Dst L') {m : Nat} (hm : m ≤ tok.length) (hE : SameN L z L' z' tok) (h : VL L z tok m) : VL L' z' tok m := by
 cases m with
 | zero => exact zOy
 | succ m =>
  obtain ⟨ext, t, hd⟩ := h
  have hE' : SameN L z L' z' (tok.take (m + 1)) := fun a ha hp => by
   rw [zAU hm] at ha
   rw [zCc hm ha] at hp ⊢
   exact hE a (by omega) hp
  obtain ⟨x, r, rfl, _⟩ := (zCs hd).2.1
  obtain ⟨e2, x', r', h2, _⟩ := zFw hz hD hD' hm hE' (m + 1) _ 0 ext x r none (by omega) (Nat.le_refl _) (by omega) hd (fun o rt h => by cases h) (fun o rt h => by cases h)
  exact ⟨e2, _, h2⟩
end
end
section
open Go.RowKit
section
variable {L L' L'' : List OP} {z z' z'' : List Int} {tok : List TK}
theorem zLk : SameN L z L z tok := fun _ _ _ => rfl
theorem zJW (h : SameN L z L' z' tok) (h' : SameN L' z' L'' z'' tok) : SameN L z L'' z'' tok := fun a ha hp => (h a ha hp).trans (h' a ha hp)
def allS (L : List OP) (z : List Int) (L' : List OP) (z' : List Int) (M : List Nm) : Bool := M.all fun x => decide (entL L z x = entL L' z' x)
theorem zLl {M : List Nm} {k : Nat} (h : k < M.length) : allS L z L' z' (M.take (k + 1)) = (allS L z L' z' (M.take k) && decide (entL L z (at_ M k) = entL L' z' (at_ M k))) := by
 unfold allS at_
 rw [List.take_add_one, List.all_append, List.getD_eq_getElem?_getD, List.getElem?_eq_getElem h]
 simp
theorem zJX (h : allS L z L' z' (nmR (nms tok)) = true) : SameN L z L' z' tok := by
 intro a ha hp
 have hm : txN (tat tok a) ∈ nmR (nms tok) := by
  rw [zPI]
  unfold nms
  refine List.mem_map.2 ⟨tat tok a, List.mem_filter.2 ⟨?_, hp⟩, ?_⟩
  ·unfold tat
   rw [List.getD_eq_getElem?_getD, List.getElem?_eq_getElem ha]
   exact List.getElem_mem ha
  ·unfold txN
   rw [ByteArray.toList_eq]
 unfold allS at h
 have := List.all_eq_true.1 h _ hm
 simpa using this
theorem zGt (hz : RowsOk z) (hz' : RowsOk z') (hD : Dst L) (hD' : Dst L') (hE : SameN L z L' z' tok) {n : Nat} (h : LonP L z tok n) : LonP L' z' tok n :=
 ⟨h.1, fun m hm => (Iff.intro (zIx hz' hD' hD hm hE.symm) (zIx hz hD hD' hm hE)).trans (h.2 m hm)⟩
end
end
end Go.Proofs.YtcjbhdgjcpnklaaGreatDoor
