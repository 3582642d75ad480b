import Derived.Test.YtcjbhdgjcpnklaaGreatDoorV07
import Derived.Test.YtcjbhdgjcpnklaaGreatDoorR01
import Derived.Test.YtcjbhdgjcpnklaaGreatDoorR03
namespace Go.Proofs.YtcjbhdgjcpnklaaGreatDoor
section
open Go.RowKit
structure ND where
 k : Int
 n : Nm
 f : Int
 t : Int
 c : Int
deriving DecidableEq
def ND.sh (d : Int) (x : ND) : ND := ⟨x.k, x.n, x.f - d, x.t - d, x.c⟩
def skp : List ND → Nat → Option Nat
 | _, 0 => some 0
 | [], _ + 1 => none
 | x :: l, m + 1 => (skp l (x.c.toNat + m)).map (· + 1)
theorem zCr (l : List ND) : skp l 0 = some 0 := by cases l <;> rfl
theorem skp_nil (m : Nat) : skp [] (m + 1) = none := rfl
theorem skp_cons (x : ND) (l : List ND) (m : Nat) : skp (x :: l) (m + 1) = (skp l (x.c.toNat + m)).map (· + 1) := rfl
theorem zNl : ∀ (l : List ND) (m n : Nat), skp l m = some n → n ≤ l.length
 | l, 0, n, h => by rw [zCr] at h; cases h; omega
 | [], m + 1, n, h => by cases h
 | x :: l, m + 1, n, h => by
  rw [skp_cons] at h
  obtain ⟨n', h', rfl⟩ := Option.map_eq_some_iff.1 h
  have := zNl l _ _ h'
  rw [List.length_cons]; omega
theorem zOj {l : List ND} {m n : Nat} (h : skp l (m + 1) = some n) : 0 < n := by
 cases l with
 | nil => cases h
 | cons x l =>
  rw [skp_cons] at h
  obtain ⟨n', h', rfl⟩ := Option.map_eq_some_iff.1 h
  omega
theorem skp_add : ∀ (l : List ND) (a b : Nat), skp l (a + b) = (skp l a).bind fun n => (skp (l.drop n) b).map (n + ·)
 | l, 0, b => by
  rw [zCr, Nat.zero_add]
  cases h : skp l b <;> simp [h]
 | [], a + 1, b => by
  rw [show a + 1 + b = (a + b) + 1 by omega, skp_nil, skp_nil]; rfl
 | x :: l, a + 1, b => by
  rw [show a + 1 + b = (a + b) + 1 by omega, skp_cons, skp_cons, show x.c.toNat + (a + b) = (x.c.toNat + a) + b by omega, skp_add l _ b]
  cases skp l (x.c.toNat + a) with
  | none => rfl
  | some n =>
   show ((skp (l.drop n) b).map (n + ·)).map (· + 1) = (skp ((x :: l).drop (n + 1)) b).map (n + 1 + ·)
   rw [List.drop_succ_cons]
   cases skp (l.drop n) b with
   | none => rfl
   | some m => show some (n + m + 1) = some (n + 1 + m); congr 1; omega
theorem zHL : ∀ (l : List ND) (m n : Nat), skp l m = some n → ∀ x : List ND, skp (l ++ x) m = some n
 | l, 0, n, h, x => by rw [zCr] at h ⊢; exact h
 | [], m + 1, n, h, x => by cases h
 | y :: l, m + 1, n, h, x => by
  rw [skp_cons] at h
  obtain ⟨n', h', rfl⟩ := Option.map_eq_some_iff.1 h
  rw [List.cons_append, skp_cons, zHL l _ _ h' x]; rfl
theorem zIO : ∀ (l : List ND) (m n : Nat), skp l m = some n → ∀ r, n ≤ r → skp (l.take r) m = some n
 | l, 0, n, h, r, hr => by rw [zCr] at h ⊢; exact h
 | [], m + 1, n, h, r, hr => by cases h
 | y :: l, m + 1, n, h, r, hr => by
  rw [skp_cons] at h
  obtain ⟨n', h', rfl⟩ := Option.map_eq_some_iff.1 h
  obtain ⟨r', rfl⟩ : ∃ r', r = r' + 1 := ⟨r - 1, by omega⟩
  rw [List.take_succ_cons, skp_cons, zIO l _ _ h' r' (by omega)]; rfl
theorem zIP : ∀ (l : List ND) (m : Nat), skp l m = some l.length → ∀ i, i < l.length → ∃ n, skp (l.drop i) 1 = some n
 | [], m, h, i, hi => by cases hi
 | x :: l, 0, h, i, hi => by rw [zCr, List.length_cons] at h; cases h
 | x :: l, m + 1, h, i, hi => by
  rw [skp_cons] at h
  obtain ⟨n', h', hn⟩ := Option.map_eq_some_iff.1 h
  rw [List.length_cons] at hn
  have hl : n' = l.length := by omega
  subst hl
  cases i with
  | zero =>
   rw [skp_add] at h'
   rw [List.drop_zero, show 1 = 0 + 1 from rfl, skp_cons, Nat.add_zero]
   cases hc : skp l x.c.toNat with
   | none => rw [hc] at h'; cases h'
   | some n => exact ⟨n + 1, rfl⟩
  | succ i =>
   rw [List.drop_succ_cons]
   exact zIP l _ h' i (by rw [List.length_cons] at hi; omega)
def kidN : Nat → List ND → List ND
 | 0, _ => []
 | _ + 1, [] => []
 | m + 1, x :: l => x :: (match skp (x :: l) 1 with | some n => kidN m ((x :: l).drop n) | none => [])
theorem zFf {m n : Nat} {x : ND} {l : List ND} (h : skp (x :: l) 1 = some n) : kidN (m + 1) (x :: l) = x :: kidN m ((x :: l).drop n) := by
 show (x :: (match skp (x :: l) 1 with | some n => kidN m ((x :: l).drop n) | none => [])) = _
 rw [h]
theorem zOk {l : List ND} {m n : Nat} (h : skp l (m + 1) = some n) : ∃ n1 n2, skp l 1 = some n1 ∧ skp (l.drop n1) m = some n2 ∧ n = n1 + n2 := by
 rw [Nat.add_comm, skp_add] at h
 cases h1 : skp l 1 with
 | none => rw [h1] at h; cases h
 | some n1 =>
  rw [h1] at h
  obtain ⟨n2, h2, rfl⟩ := Option.map_eq_some_iff.1 h
  exact ⟨n1, n2, rfl, h2, rfl⟩
theorem zIQ : ∀ (m : Nat) (l : List ND) (n : Nat), skp l m = some n → ∀ r, n ≤ r → kidN m (l.take r) = kidN m l
 | 0, l, n, h, r, hr => rfl
 | m + 1, [], n, h, r, hr => by cases h
 | m + 1, x :: l, n, h, r, hr => by
  obtain ⟨n1, n2, h1, h2, rfl⟩ := zOk h
  have hp := zOj h1
  have ht := zIO _ _ _ h1 r (by omega)
  obtain ⟨r', rfl⟩ : ∃ r', r = r' + 1 := ⟨r - 1, by omega⟩
  rw [List.take_succ_cons] at ht ⊢
  rw [zFf h1, zFf ht, ← List.take_succ_cons, List.drop_take, zIQ m _ _ h2 _ (by omega)]
def tkn (tok : List TK) (a : Int) : TK := tat tok a.toNat
def txN (x : TK) : Nm := x.s.data.toList
def findO (L : List OP) (p : Nm) : Option OP := L.find? fun o => o.1 == p
def mayH (L : List OP) (z : List Int) (o : OP) (x : ND) (right : Bool) : Bool := if x.k = 3 then (match findO L x.n with | some k => fitsB z o k right | none => false) else true
def sepL : List Nm → List Nm
 | [] => []
 | [p] => [p]
 | p :: q :: P => p :: [] :: sepL (q :: P)
def itemsL (s : SH) : List Nm := (if s.l then [[]] else []) ++ (sepL s.P ++ (if s.r then [[]] else []))
def itB (L : List OP) (z : List Int) (tok : List TK) (o : OP) (to_ : Int) : List Nm → Bool → Int → List ND → Bool
 | [], _, a, K => K.isEmpty && a == to_
 | x :: r, first, a, K =>
  if x ≠ [] then (decide (0 ≤ a) && decide (a < to_)) && (partB (tkn tok a).k (txN (tkn tok a)) x && itB L z tok o to_ r false (a + 1) K)
  else match K with
   | [] => false
   | c :: K' => c.f == a && ((!first || mayH L z o c false) && ((!r.isEmpty || mayH L z o c true) && itB L z tok o to_ r false c.t K'))
def operB (L : List OP) (z : List Int) (tok : List TK) (x : ND) (l : List ND) : Bool :=
 match findO L x.n with
 | none => false
 | some o => match ofS o.1 with
  | none => false
  | some s => itB L z tok o x.t (itemsL s) true x.f (kidN x.c.toNat l)
def parenB (tok : List TK) (x : ND) (l : List ND) : Bool :=
 x.c == 1 && (x.n == [] && (decide (x.f + 3 ≤ x.t) && ((tkn tok x.f).k == 6 && (txN (tkn tok x.f) == [40] && ((tkn tok (x.t - 1)).k == 6 && (txN (tkn tok (x.t - 1)) == [41] &&
  (match l with | [] => false | y :: _ => y.f == x.f + 1 && y.t == x.t - 1)))))))
def leafNB (L : List OP) (z : List Int) (tok : List TK) (x : ND) : Bool := x.c == 0 && (x.t == x.f + 1 && (leafB (tkn tok x.f).k (freeB L z (txN (tkn tok x.f))) && txN (tkn tok x.f) == x.n))
def spanB (tok : List TK) (x : ND) : Bool := decide (0 ≤ x.f) && (decide (x.f < x.t) && decide (x.t ≤ tok.length))
def nodeS (L : List OP) (z : List Int) (tok : List TK) : List ND → Bool
 | [] => false
 | x :: l => spanB tok x && (if x.k = 1 then leafNB L z tok x else if x.k = 2 then parenB tok x l else if x.k = 3 then decide (0 ≤ x.c) && operB L z tok x l else false)
end
section
open Go.RowKit
end
end Go.Proofs.YtcjbhdgjcpnklaaGreatDoor
