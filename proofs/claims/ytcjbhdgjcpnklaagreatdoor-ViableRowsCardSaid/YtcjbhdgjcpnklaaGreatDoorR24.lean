import Derived.Test.YtcjbhdgjcpnklaaGreatDoorV07
import Derived.Test.YtcjbhdgjcpnklaaGreatDoorV09
import Derived.Test.YtcjbhdgjcpnklaaGreatDoorR01
import Derived.Test.YtcjbhdgjcpnklaaGreatDoorR12
import Derived.Test.YtcjbhdgjcpnklaaGreatDoorR23
namespace Go.Proofs.YtcjbhdgjcpnklaaGreatDoor
section
open Go.RowKit
structure PK where
 f : Int
 t : Int
 i : Int
 L : List TK
end
section
open Go.RowKit
theorem Ts.sub {w : World} {g off n c l h : Nat} {L : List TK} (hv : Ts w (some ⟨g, off, none⟩) n c L) (hl : l ≤ h) (hh : h ≤ n) : Ts w (some ⟨g, if c = l then off else off + l * 5, none⟩) (h - l) (c - l) ((L.take h).drop l) := by
 have h1 := hv.hl
 have h2 := hv.lc
 have h3 := hv.cm
 refine ⟨by rw [List.length_drop, List.length_take, h1, Nat.min_eq_left hh], by omega, by omega, fun h0 => ?_⟩
 obtain ⟨b, o, ha, hb, hc⟩ := hv.at_ (by omega)
 simp only [Option.some.injEq, Addr.mk.injEq] at ha
 obtain ⟨rfl, rfl, _⟩ := ha
 rw [if_neg (by omega)]
 refine ⟨g, off + l * 5, rfl, hb, fun j hj i hi => ?_⟩
 have e : tat ((L.take h).drop l) j = tat L (l + j) := by
  unfold tat; simp [List.getD, show l + j < h by omega]
 rw [e, ← hc (l + j) (by omega) i hi, show off + l * 5 + (j * 5 + i) = off + ((l + j) * 5 + i) by omega]
theorem Ts.from {w : World} {g off n c l : Nat} {L : List TK} (hv : Ts w (some ⟨g, off, none⟩) n c L) (hl : l ≤ n) : Ts w (some ⟨g, if c = l then off else off + l * 5, none⟩) (n - l) (c - l) (L.drop l) := by
 have := hv.sub hl (Nat.le_refl n)
 rwa [List.take_of_length_le (by rw [hv.hl]; exact Nat.le_refl _)] at this
structure SVc where
 a : Option Addr
 n : Nat
 c : Nat
 L : List TK
def SVc.v (s : SVc) : Value := .slice s.a s.n s.c
def SVc.ok (w : World) (s : SVc) : Prop := Ts w s.a s.n s.c s.L
structure PV where
 f : Int
 t : Int
 i : Int
 s : SVc
def cellsP (p : PV) : List Value := [.int .i64 p.f, .int .i64 p.t, .int .i64 p.i, .slice p.s.a p.s.n p.s.c]
def rowP : List PV → List Value
 | [] => []
 | p :: V => cellsP p ++ rowP V
def PV.k (p : PV) : PK := ⟨p.f, p.t, p.i, p.s.L⟩
theorem zIv : ∀ V : List PV, (rowP V).length = V.length * 4
 | [] => rfl
 | p :: V => by rw [rowP, List.length_append, zIv V, List.length_cons]; simp [cellsP]; omega
structure Ps (w : World) (a : Option Addr) (len cap : Nat) (V : List PV) : Prop where
 row : Vs 4 w a len cap (rowP V)
 ok : ∀ p ∈ V, p.s.ok w
theorem Ps.hl {w : World} {a : Option Addr} {len cap : Nat} {V : List PV} (h : Ps w a len cap V) : V.length = len := by
 have := h.row.hl
 rw [zIv] at this
 omega
theorem Ps.below {w w' : World} {a : Option Addr} {len cap : Nat} {V : List PV} (h : Ps w a len cap V) (hb : Below w.heap.size w w') : Ps w' a len cap V :=
 ⟨h.row.below hb, fun p hp => Ts.below (h.ok p hp) hb⟩
theorem Ps.form {w : World} {a : Option Addr} {len cap : Nat} {V : List PV} (h : Ps w a len cap V) (h0 : 0 < len) : ∃ b off, a = some ⟨b, off, none⟩ ∧ b < w.heap.size := by
 obtain ⟨b, off, ha, hb, _⟩ := h.row.at_ h0
 exact ⟨b, off, ha, hb⟩
end
section
open Go.RowKit
def rowS : Nat → Nm
 | 0 => [97]
 | n + 1 => rowS n ++ [32, 43, 32, 98]
def rowB (j : Nat) (e : Bool) : Nm := rowS j ++ (if e then [32, 43] else [])
def bI (p : Nm) : List Int := p.map fun x => (x.toNat : Int)
def rowY (j : Nat) (e : Bool) : List TK := toks (bI (rowB j e))
def rowN (j : Nat) (e : Bool) : Nat := 2 * j + 1 + (if e then 1 else 0)
def oPr (r : Bool) : OP := (pPlus, 3, if r then 2 else 1)
def dblT (l : List TK) (k : Nat) : List TK := l.take (k + 1) ++ [tat l k] ++ l.drop (k + 1)
def enT (x : TK) : Int × Int × Int × Nm × Int := (x.k, x.f, x.t, x.s.data.toList, x.e)
theorem zQx {l m : List TK} (h : l.map enT = m.map enT) : l = m := by
 refine (List.map_inj_right fun x y e => ?_).1 h
 obtain ⟨k, f, t, ⟨⟨s⟩⟩, e1⟩ := x
 obtain ⟨k', f', t', ⟨⟨s'⟩⟩, e2⟩ := y
 unfold enT at e
 simp only [Prod.mk.injEq] at e
 obtain ⟨rfl, rfl, rfl, h4, rfl⟩ := e
 obtain rfl : s = s' := h4
 rfl
def rowM : List TK := rowY 6 true
def chkA (j : Nat) (e : Bool) : Bool := decide ((rowY j e).map enT = (rowM.take (rowN j e)).map enT) && decide ((rowS j).length ≤ 25)
theorem zQ4 : ((List.range 7).all fun j => [false, true].all fun e => chkA j e) = true := by decide +kernel
theorem zQd : rowM.length = 14 := by decide +kernel
theorem zQz : (rowM.all fun x => x.k != 6) = true := by decide +kernel
theorem zQ0 : lonG [oPr false] zS rowM 14 = true := by decide +kernel
theorem zQ1 : lonG [oPr true] zS rowM 14 = true := by decide +kernel
theorem zQq {z : List Int} {tok : List TK} {o : OP} {x : Nm} (hs : ofS o.1 = some ⟨[x], true, true⟩) : ∀ (n a b : Nat) (l : List ND), b - a ≤ n → Dv [o] z tok .tr a b l 1 →
  (a < b ∧ partB (tat tok a).k (txN (tat tok a)) x = false ∧ partB (tat tok (b - 1)).k (txN (tat tok (b - 1))) x = false) ∧ ∀ p, a ≤ p → p + 1 < b → (tat tok p).k ≠ 6 → tat tok (p + 1) ≠ tat tok p := by
 have hx := (zAc hs).2 x (by simp)
 intro n
 induction n with
 | zero => intro a b l hn h; have := zB3 h; omega
 | succ n ih =>
  intro a b l hn h
  cases h with
  | leaf ha hl =>
   have hw := (zQy hl).2 o (List.mem_singleton.2 rfl) _ hs x (by simp)
   exact ⟨⟨by omega, hw, hw⟩, fun p h1 h2 => by omega⟩
  | @paren _ b t hb k1 t1 k2 t2 hd =>
   have hab := zB3 hd
   have n1 : ∀ y : TK, txN y = [40] ∨ txN y = [41] → partB y.k (txN y) x = false := fun y hy => by
    rw [Bool.eq_false_iff]; intro hc
    have := (zEJ hc).2
    rcases hy with h | h
    ·exact hx.2.1 (this.symm.trans h)
    ·exact hx.2.2 (this.symm.trans h)
   refine ⟨⟨by omega, n1 _ (Or.inl t1), n1 _ (Or.inr t2)⟩, fun p h1 h2 h6 => ?_⟩
   have hpa : p ≠ a := fun e => h6 (by rw [e]; exact k1)
   by_cases hpb : p + 1 = b
   ·intro e; exact h6 (by rw [← e, hpb]; exact k2)
   ·exact (ih (a + 1) b t (by omega) hd).2 p (by omega) (by omega) h6
  | @oper _ _ _ o' s l ho hso hab hd =>
   obtain rfl := List.mem_singleton.1 (zAq ho).1
   rw [hs] at hso
   obtain rfl := Option.some.inj hso
   obtain ⟨f, u, t, v, t', h1, _, hp, h2, _, _⟩ := zQp hs hd
   have g1 := zB3 h1
   have g2 := zB3 h2
   have i1 := ih a f _ (by omega) h1
   have i2 := ih (f + 1) b _ (by omega) h2
   refine ⟨⟨by omega, i1.1.2.1, i2.1.2.2⟩, fun p q1 q2 h6 => ?_⟩
   by_cases c1 : p + 1 < f
   ·exact i1.2 p q1 c1 h6
   ·by_cases c2 : p + 1 = f
    ·intro e
     have := i1.1.2.2
     rw [show f - 1 = p by omega, ← e, c2, hp] at this
     cases this
    ·by_cases c3 : p = f
     ·intro e
      have := i2.1.2.1
      rw [← c3, e, c3, hp] at this
      cases this
     ·exact i2.2 p (by omega) q2 h6
theorem zQf {j : Nat} (hj : j < 7) (e : Bool) : rowY j e = rowM.take (rowN j e) ∧ (rowS j).length ≤ 25 := by
 have h := List.all_eq_true.1 zQ4 j (List.mem_range.2 hj)
 have h := List.all_eq_true.1 h e (by cases e <;> simp)
 unfold chkA at h
 simp only [Bool.and_eq_true, decide_eq_true_eq] at h
 exact ⟨zQx h.1, h.2⟩
theorem zQk {j : Nat} (hj : j < 7) (e : Bool) : rowN j e ≤ 14 := by unfold rowN; cases e <;> simp <;> omega
theorem zQg {j : Nat} (hj : j < 7) (e : Bool) : (rowY j e).length = rowN j e ∧ (rowS j).length ≤ 25 := by
 have h := zQf hj e
 refine ⟨?_, h.2⟩
 rw [h.1, List.length_take, zQd]
 have := zQk hj e
 omega
theorem zQr (r : Bool) : Srt [oPr r] := by unfold Srt; simp
theorem zQl {j : Nat} (hj : j < 7) (e r : Bool) : LonP [oPr r] zS (rowY j e) (rowN j e) := by
 have hm : LonP [oPr r] zS rowM 14 := zEZ zBm (zQr r) (by cases r; exact zQ0; exact zQ1)
 have hn := zQk hj e
 have h := zC3 (i := rowN j e) (by rw [zQd]; exact hn) hm
 rw [Nat.min_eq_left hn, ← (zQf hj e).1] at h
 exact h
theorem zQs {j k : Nat} (hj : j < 7) (e r : Bool) (hk : k < rowN j e) : LonP [oPr r] zS (dblT (rowY j e) k) (k + 1) := by
 have hn := zQk hj e
 have hm := zQl hj e r
 have hl : (rowY j e).length = rowN j e := (zQg hj e).1
 have h6 : (tat (rowY j e) k).k ≠ 6 := by
  rw [(zQf hj e).1, zCc (by rw [zQd]; exact hn) hk]
  have := List.all_eq_true.1 zQz (tat rowM k) (zQu (by rw [zQd]; omega))
  simpa using this
 obtain ⟨Y, hY⟩ : ∃ Y, Y = rowY j e := ⟨_, rfl⟩
 obtain ⟨N, hN⟩ : ∃ N, N = rowN j e := ⟨_, rfl⟩
 rw [← hY] at hm hl h6 ⊢
 rw [← hN] at hm hl hk
 clear hY hN
 have l1 : (Y.take (k + 1) ++ [tat Y k]).length = k + 2 := by rw [List.length_append, List.length_take, List.length_singleton]; omega
 have hd : (dblT Y k).take (k + 1) = Y.take (k + 1) := by
  unfold dblT
  rw [List.take_append_of_le_length (by omega), List.take_append_of_le_length (by rw [List.length_take]; omega), List.take_take, Nat.min_self]
 have hdd : k + 2 ≤ (dblT Y k).length := by
  unfold dblT
  rw [List.length_append, l1]; omega
 refine zIg (by omega) ?_ fun _ hv => ?_
 ·have h1 := (hm.2 (k + 1) (by omega)).2 (by omega)
  rw [← zPB (i := k + 1) (Nat.le_refl _), ← hd, zPB (Nat.le_refl _)] at h1
  exact h1
 ·obtain ⟨ext, t, hv⟩ := hv
  have hp := (zQq (o := oPr r) (x := [43]) zQw _ 0 _ t (Nat.le_refl _) hv).2 k (Nat.zero_le _) (by omega)
  have e0 : ∀ q, q < k + 2 → tat ((dblT Y k).take (k + 1 + 1) ++ ext) q = tat (Y.take (k + 1) ++ [tat Y k]) q := fun q hq => by
   rw [zA9 (by rw [List.length_take]; omega), zCc (by omega) (by omega)]
   unfold dblT
   rw [zA9 (by rw [l1]; exact hq)]
  have e1 : tat ((dblT Y k).take (k + 1 + 1) ++ ext) k = tat Y k := by
   rw [e0 k (by omega), zA9 (by rw [List.length_take]; omega), zCc (by omega) (by omega)]
  have e2 : tat ((dblT Y k).take (k + 1 + 1) ++ ext) (k + 1) = tat Y k := by
   rw [e0 (k + 1) (by omega)]
   have hlt : (Y.take (k + 1)).length = k + 1 := by rw [List.length_take]; omega
   have := zB5 (Y.take (k + 1)) [] (tat Y k)
   rw [hlt] at this
   exact this
  rw [e1, e2] at hp
  exact hp h6 rfl
theorem zQ2 (r : Bool) : ∀ o ∈ [oPr r], ∃ s, ofS o.1 = some s := by
 have h : ∀ r : Bool, ∀ o ∈ [oPr r], (ofS o.1).isSome = true := by decide +kernel
 exact fun o ho => Option.isSome_iff_exists.1 (h r o ho)
theorem zQ3 (r : Bool) : ∀ o ∈ [oPr r], o.1.length ≤ 1000000 := by cases r <;> decide +kernel
theorem zQt (r : Bool) : addR [] (oPr r) = [oPr r] ∧ addZ [] zS (oPr r) = zS ∧ addE [] (oPr r) = 0 := by cases r <;> decide +kernel
theorem zQh (p : Nm) : mk p = bstr (bI p) := by
 apply toList_inj
 rw [mk_toList, zA4]
 unfold bI
 rw [List.map_map]
 symm
 refine (List.map_congr_left (g := id) fun x _ => ?_).trans (List.map_id p)
 simp
theorem zQn (p : Nm) : ∀ x ∈ bI p, 0 ≤ x ∧ x ≤ 255 := by
 intro x hx
 unfold bI at hx
 obtain ⟨y, _, rfl⟩ := List.mem_map.1 hx
 have := y.toNat_lt
 omega
theorem zQi : ∀ i, (rowS i).length = 1 + 4 * i
 | 0 => rfl
 | i + 1 => by
  show (rowS i ++ [32, 43, 32, 98]).length = _
  rw [List.length_append, zQi i]; simp; omega
theorem zQc (p : Nm) : (bI p).length = p.length := by unfold bI; rw [List.length_map]
theorem zQj {b off n c k : Nat} {L : List TK} (hk : k ≤ n) : ∃ o', (∀ w0 : World, (Instr.slice 23 (.slice (some ⟨b, off, none⟩) n c) (some (.int .i64 k)) none none).run Tryz.prog w0 = .ok (.slice (some ⟨b, o', none⟩) (n - k) (c - k)) w0) ∧ ∀ w', Ts w' (some ⟨b, off, none⟩) n c L → Ts w' (some ⟨b, o', none⟩) (n - k) (c - k) (L.drop k) := by
 refine ⟨if c = k then off else off + k * 5, fun w0 => zFK tok_elemV Tryz.underlying23 zLa hk w0, fun w' h' => ?_⟩
 have := Ts.sub h' hk (Nat.le_refl n)
 rwa [List.take_of_length_le (by rw [h'.hl]; exact Nat.le_refl _)] at this
end
end Go.Proofs.YtcjbhdgjcpnklaaGreatDoor
