import Derived.Test.YtcjbhdgjcpnklaaGreatDoorV33
import Derived.Test.YtcjbhdgjcpnklaaGreatDoorV34
import Derived.Test.YtcjbhdgjcpnklaaGreatDoorV35
namespace Go.Proofs.YtcjbhdgjcpnklaaGreatDoor
section
open Go.RowKit
end
section
open Go.RowKit
theorem T5.zero (w : World) : T5 (w.alloc (.cells #[.int .i64 0, .int .i64 0, .int .i64 0, .string ⟨#[]⟩, .int .i64 0] 51)) w.heap.size 0 0 0 [] 0 := heap_alloc_new w _
end
section
open Go.RowKit
theorem zEc {ops : Array Oper} {o : Oper} {A : Act} {w : World} {K : Act → World → Prop} {Q : Exit → Act → World → Prop} {E : Prop} (hgd : o.guard = none) (x : Operand) (ho : o.op = .buildSlice 23 1 #[(0, x)]) (k f t : Int) (s : Nm) (e : Int) (hx : A.eval x = .agg #[.int .i64 k, .int .i64 f, .int .i64 t, .string (mk s), .int .i64 e])
  (kk : ∀ w' g, g = w.heap.size → T5 w' g k f t s e → Below w.heap.size w w' → K (A.put o.dst (.slice (some ⟨g, 0, none⟩) 1 1)) w') : if Region.wanted o (yielded ops A.tmps) = true then o.wp Tryz.prog A w K Q else E := by
 rw [if_pos (show Region.wanted o (yielded ops A.tmps) = true by simp [Region.wanted, hgd])]
 have h := kk _ w.heap.size rfl (T5.new w k f t s e) (zAA w _)
 have hr : (Instr.buildSlice 23 1 #[(0, .agg #[.int .i64 k, .int .i64 f, .int .i64 t, .string (mk s), .int .i64 e])]).run Tryz.prog w = .ok (.slice (some ⟨w.heap.size, 0, none⟩) 1 1) (w.alloc (.cells #[.int .i64 k, .int .i64 f, .int .i64 t, .string (mk s), .int .i64 e] 51)) := by kernel_rfl
 unfold Oper.wp execOp
 simp only [ho, List.map_toArray, List.map_cons, List.map_nil, hx, hr, Sem.run_bind, Result.andThen_ok, Sem.run_pure]
 exact h
theorem T5.own {base g : Nat} {w : World} {k f t : Int} {s : Nm} {e : Int} (h : T5 w g k f t s e) (hb : base ≤ g) : OwnT base 51 w (some ⟨g, 0, none⟩) 1 1 [⟨k, f, t, mk s, e⟩] :=
 ⟨by rw [zBs]; rfl, .inr ⟨g, 1, _, rfl, hb, h, Nat.le_refl _, by unfold maxLen; omega, rfl, rfl⟩⟩
theorem zBU {ops : Array Oper} {w : World} {o : Oper} {a : Act} {K : Act → World → Prop} {Q : Exit → Act → World → Prop} {E : Prop} (hgd : o.guard = none) (s x : Operand)
  (ho : o.op = .call { callee := .builtin .append, args := #[s, x], argTypes := #[23, 23] })
  (base : Nat) (sa : Option Addr) (n c : Nat) (L : List TK) (hs : a.eval s = .slice sa n c) (hown : OwnT base 51 w sa n c L)
  (xa : Option Addr) (m d : Nat) (M : List TK) (hx : a.eval x = .slice xa m d) (hb : Ts w xa m d M)
  (hbig : n + m ≤ 1000000000000) (hbase : base ≤ w.heap.size)
  (h : ∀ a' c' w', OwnT base 51 w' a' (n + m) c' (L ++ M) → w.grownBy w' (Value.ownBlock (.slice sa n c)) → Below base w w' → K (a.put o.dst (.slice a' (n + m) c')) w') : if Region.wanted o (yielded ops a.tmps) = true then o.wp Tryz.prog a w K Q else E := by
 rw [if_pos (show Region.wanted o (yielded ops a.tmps) = true by simp [Region.wanted, hgd])]
 exact zJy s x ho base sa n c L hs hown xa m d M hx hb hbig hbase h
theorem T5.grown {w w' : World} {b g : Nat} {n c : Nat} {k f t : Int} {s : Nm} {e : Int} (h : T5 w b k f t s e) (hg : w.grownBy w' (Value.ownBlock (.slice (some ⟨g, 0, none⟩) n c))) (hne : b ≠ g) : T5 w' b k f t s e :=
 (hg.block b (Array.getElem?_eq_some_iff.1 h).1 (fun e => by simp only [Value.ownBlock, Option.some.injEq] at e; omega)).trans h
end
section
open Go.RowKit
section
variable {L : List OP} {z : List Int} {tok : List TK}
def OpnP (L : List OP) (z : List Int) (tok : List TK) : Gl → Nat → Nat → Prop
 | .tr, a, b => (tat tok a).k = 6 → txN (tat tok a) = [40] → ∃ q u, a < q ∧ q < b ∧ (tat tok q).k = 6 ∧ txN (tat tok q) = [41] ∧ Dv L z tok .tr (a + 1) q u 1
 | .it _ I _, a, b => (∀ x ∈ I, x ≠ [40]) → a < b → (tat tok a).k = 6 → txN (tat tok a) = [40] → ∃ q u, a < q ∧ q < b ∧ (tat tok q).k = 6 ∧ txN (tat tok q) = [41] ∧ Dv L z tok .tr (a + 1) q u 1
theorem zP3 {g : Gl} {a b n : Nat} {l : List ND} (h : Dv L z tok g a b l n) : OpnP L z tok g a b := by
 induction h with
 | @leaf a ha hl =>
  intro h6 _
  rcases zIT hl with hk | ⟨hk, _⟩ <;> omega
 | @paren a b t hb k1 t1 k2 t2 hd ih =>
  intro _ _
  have hab := zB3 hd
  exact ⟨b, t, by omega, by omega, k2, t2, hd⟩
 | @oper a b n o s l ho hs hab _ ih =>
  intro h6 h4
  refine ih (fun x hx => ?_) hab h6 h4
  by_cases hx0 : x = []
  ·subst hx0; decide
  ·have hm : x ∈ prs (itemsL s) := List.mem_filter.2 ⟨hx, by simpa using hx0⟩
   rw [zCu hs] at hm
   exact ((zAc hs).2 x hm).2.1
 | @nil o first a ha => intro _ h; omega
 | @part o x r first a b n l hx ha hp hd ih =>
  intro hI _ _ h4
  have h2 := (zEJ hp).2
  rw [h4] at h2
  exact absurd h2.symm (hI x (List.mem_cons_self ..))
 | @hole o r first a c b n x t l hd1 _ _ hd2 ih1 ih2 =>
  intro _ _ h6 h4
  obtain ⟨q, u, h1, h2, h3⟩ := ih1 h6 h4
  have g2 := zGZ hd2
  exact ⟨q, u, h1, by omega, h3⟩
theorem zM7 {X : List TK} {q : Nat} : bal [] (sg X 0 q) 0 = bal [] (X.take q) 0 := by unfold sg; rw [List.drop_zero, Nat.sub_zero]
theorem zP4 {q : Nat} (hq : q < tok.length) (hb : bal [] (tok.take q) 0 = some 0) (h6 : (tat tok q).k = 6) (h4 : txN (tat tok q) = [41]) : ¬ VL L z tok (q + 1) := by
 rintro ⟨ext, t, hd⟩
 have h0 := zFl hd
 have h0 : bal [] (sg (tok.take (q + 1) ++ ext) 0 (q + 1 + ext.length)) 0 = some 0 := h0
 obtain ⟨m, hm⟩ := zKm h0 (Nat.zero_le (q + 1)) (by omega)
 rw [zM7, List.take_append_of_le_length (by rw [List.length_take]; omega), List.take_take, Nat.min_self, List.take_add_one, bal_app, hb] at hm
 have e : tok[q]?.toList = [tat tok q] := by
  unfold tat
  rw [List.getD_eq_getElem?_getD, List.getElem?_eq_getElem hq]; rfl
 rw [e] at hm
 have w2 := (zCt (L := []) h6).2 h4
 have hm : bal [] [tat tok q] 0 = some m := hm
 unfold bal at hm
 rw [w2.1, if_pos rfl] at hm
 cases hm
theorem zP5 {o : TK} (ho : o.k = 6 ∧ txN o = [40]) {j : Nat} (hj : j ≤ tok.length) (h : VL L z tok j) : VL L z (o :: tok) (j + 1) := by
 obtain ⟨ext, t, hd⟩ := h
 have e : (tok.take j ++ ext).length = j + ext.length := by rw [List.length_append, List.length_take]; omega
 rw [← e] at hd
 have hb : bal [] (tok.take j ++ ext) 0 = some 0 := by have := zFl hd; rw [← zNt (tok.take j ++ ext)]; exact this
 have hd2 := (zPw (L := L) (z := z) ho (s := ⟨6, 0, 0, ⟨#[41]⟩, 0⟩) ⟨rfl, by rfl⟩ hb).2 ⟨t, hd, rfl⟩
 refine ⟨ext ++ [⟨6, 0, 0, ⟨#[41]⟩, 0⟩], ⟨2, [], 0, ((tok.take j ++ ext).length + 2 : Nat), 1⟩ :: t.map (ND.sh (-1)), ?_⟩
 have e2 : (o :: tok).take (j + 1) ++ (ext ++ [⟨6, 0, 0, ⟨#[41]⟩, 0⟩]) = o :: ((tok.take j ++ ext) ++ [⟨6, 0, 0, ⟨#[41]⟩, 0⟩]) := by
  rw [List.take_succ_cons, List.cons_append, List.append_assoc]
 have e3 : j + 1 + (ext ++ [(⟨6, 0, 0, ⟨#[41]⟩, 0⟩ : TK)]).length = (o :: ((tok.take j ++ ext) ++ [(⟨6, 0, 0, ⟨#[41]⟩, 0⟩ : TK)])).length := by
  simp only [List.length_cons, List.length_append, List.length_take, List.length_nil]; omega
 rw [e2, e3]
 exact hd2
theorem zPH {o : TK} (ho : o.k = 6 ∧ txN o = [40]) {j : Nat} (hj : j < tok.length) (hv : VL L z tok j) (hs : ¬ ((tat tok j).k = 6 ∧ txN (tat tok j) = [41])) (h : VL L z (o :: tok) (j + 2)) : VL L z tok (j + 1) := by
 obtain ⟨ext, t, hd⟩ := h
 have eX : (o :: tok).take (j + 2) ++ ext = o :: (tok.take (j + 1) ++ ext) := by rw [List.take_succ_cons, List.cons_append]
 rw [eX] at hd
 have lX : (tok.take (j + 1)).length = j + 1 := by rw [List.length_take]; omega
 obtain ⟨q, u, h1, h2, h6, h4, hu⟩ := zP3 hd (by exact ho.1) (by exact ho.2)
 have tX : ∀ a, tat (o :: (tok.take (j + 1) ++ ext)) (a + 1) = tat (tok.take (j + 1) ++ ext) a := fun a => rfl
 obtain ⟨p, rfl⟩ : ∃ p, q = p + 1 := ⟨q - 1, by omega⟩
 rw [tX] at h6 h4
 by_cases hq : j + 1 ≤ p
 ·have hp : p ≤ j + 1 + ext.length := by omega
  have hm := zET (tok' := tok.take (j + 1) ++ ext.take (p - (j + 1))) (A := 1) (B := p + 1) (f := fun a => a - 1) (c := 1) (fun a g1 g2 => ⟨by omega, by rw [List.length_append, lX, List.length_take]; omega⟩) (fun a g1 g2 => by
   obtain ⟨a', rfl⟩ : ∃ a', a = a' + 1 := ⟨a - 1, by omega⟩
   rw [tX]
   show tat (tok.take (j + 1) ++ ext.take (p - (j + 1))) a' = _
   unfold tat
   rw [List.getD_eq_getElem?_getD, List.getD_eq_getElem?_getD]
   congr 1
   rw [List.getElem?_append, List.getElem?_append]
   split
   ·rfl
   ·rw [lX, List.getElem?_take, if_pos (by omega)]) hu (Nat.le_refl _) (Nat.le_refl _)
  refine ⟨ext.take (p - (j + 1)), u.map (ND.sh 1), ?_⟩
  rw [show j + 1 + (ext.take (p - (j + 1))).length = p by rw [List.length_take]; omega]
  exact hm
 ·have e0 : tat (tok.take (j + 1) ++ ext) p = tat tok p := by rw [zA9 (by rw [lX]; omega), zCc (by omega) (by omega)]
  rw [e0] at h6 h4
  by_cases hpj : p = j
  ·subst hpj; exact absurd ⟨h6, h4⟩ hs
  ·have hb0 : bal [] (sg (o :: (tok.take (j + 1) ++ ext)) (0 + 1) (p + 1)) 0 = some 0 := zFl hu
   have hb : bal [] (tok.take p) 0 = some 0 := by
    have e : sg (o :: (tok.take (j + 1) ++ ext)) (0 + 1) (p + 1) = tok.take p := by
     unfold sg
     rw [Nat.zero_add, List.drop_succ_cons, List.drop_zero, Nat.add_sub_cancel, List.take_append_of_le_length (by rw [lX]; omega), List.take_take, Nat.min_eq_left (by omega)]
    rw [← e]; exact hb0
   exact absurd (zHQ hv (by omega) (show p + 1 ≤ j by omega)) (zP4 (by omega) hb h6 h4)
def shutA (tok : List TK) (n : Nat) : Prop := n < tok.length ∧ (tat tok n).k = 6 ∧ txN (tat tok n) = [41]
theorem zP6 {o : TK} (ho : o.k = 6 ∧ txN o = [40]) {n : Nat} (h : LonP L z tok n) (hs : ¬ shutA tok n) : LonP L z (o :: tok) (n + 1) := by
 refine zIg (by rw [List.length_cons]; have := h.1; omega) (zP5 ho h.1 ((h.2 n h.1).2 (Nat.le_refl _))) fun hl hv => ?_
 have hl : n < tok.length := by rw [List.length_cons] at hl; omega
 have := zPH ho hl ((h.2 n h.1).2 (Nat.le_refl _)) (fun hc => hs ⟨hl, hc⟩) hv
 have := (h.2 (n + 1) hl).1 this
 omega
theorem zN2 {o : TK} (ho : o.k = 6 ∧ txN o = [40]) {n : Nat} (hn : n ≤ tok.length) (h : VL L z tok n) : ∀ k, VL L z (List.replicate k o ++ tok) (n + k)
 | 0 => h
 | k + 1 => by
  have := zP5 ho (by rw [List.length_append, List.length_replicate]; omega) (zN2 ho hn h k)
  rw [List.replicate_succ, List.cons_append]
  exact this
theorem zIu {o : TK} {n : Nat} : ∀ k, shutA (List.replicate k o ++ tok) (n + k) ↔ shutA tok n
 | 0 => Iff.rfl
 | k + 1 => by
  rw [← zIu (o := o) (n := n) k, List.replicate_succ, List.cons_append]
  unfold shutA
  rw [List.length_cons, show n + (k + 1) = (n + k) + 1 from rfl, show tat (o :: (List.replicate k o ++ tok)) (n + k + 1) = tat (List.replicate k o ++ tok) (n + k) from rfl, Nat.add_lt_add_iff_right]
theorem zLd {o : TK} (ho : o.k = 6 ∧ txN o = [40]) {n : Nat} (h : LonP L z tok n) (hs : ¬ shutA tok n) : ∀ k, LonP L z (List.replicate k o ++ tok) (n + k)
 | 0 => h
 | k + 1 => by
  have := zP6 ho (zLd ho h hs k) (fun hc => hs ((zIu k).1 hc))
  rw [List.replicate_succ, List.cons_append]
  exact this
theorem zP7 {o : TK} (ho : o.k = 6 ∧ txN o = [40]) {n m k : Nat} (h : LonP L z tok n) (h' : LonP L z (List.replicate k o ++ tok) m) : m = n + k ∨ (shutA tok n ∧ n + k ≤ m) := by
 by_cases hs : shutA tok n
 ·exact Or.inr ⟨hs, (h'.2 _ (by rw [List.length_append, List.length_replicate]; have := h.1; omega)).1 (zN2 ho h.1 ((h.2 n h.1).2 (Nat.le_refl _)) k)⟩
 ·exact Or.inl (zBF h' (zLd ho h hs k))
def AdjP (tok : List TK) : Gl → Nat → Nat → Prop
 | .tr, a, b => ∀ p, a ≤ p → p + 1 < b → isP (tat tok p) = true ∨ isP (tat tok (p + 1)) = true
 | .it _ I _, a, b => nadj I → ∀ p, a ≤ p → p + 1 < b → isP (tat tok p) = true ∨ isP (tat tok (p + 1)) = true
theorem zP8 {g : Gl} {a b n : Nat} {l : List ND} (h : Dv L z tok g a b l n) : AdjP tok g a b := by
 induction h with
 | @leaf a ha hl => intro p h1 h2; omega
 | @paren a b t hb k1 t1 k2 t2 hd ih =>
  intro p h1 h2
  have e1 : isP (tat tok a) = true := by unfold isP; rw [k1]; rfl
  have e2 : isP (tat tok b) = true := by unfold isP; rw [k2]; rfl
  by_cases hp : p = a
  ·subst hp; exact Or.inl e1
  ·by_cases hq : p + 1 = b
   ·rw [hq]; exact Or.inr e2
   ·exact ih p (by omega) (by omega)
 | @oper a b n o s l ho hs hab _ ih => exact ih (zJF hs)
 | @nil o first a ha => intro _ p h1 h2; omega
 | @part o x r first a b n l hx ha hp hd ih =>
  intro hI p h1 h2
  by_cases hpa : p = a
  ·subst hpa; exact Or.inl (zEJ hp).1
  ·exact ih (zGY hI) p (by omega) h2
 | @hole o r first a c b n x t l hd1 _ _ hd2 ih1 ih2 =>
  intro hI p h1 h2
  by_cases hpc : p + 1 < c
  ·exact ih1 p h1 hpc
  ·by_cases hpc2 : c ≤ p
   ·exact ih2 (zGY hI) p hpc2 h2
   ·obtain rfl : c = p + 1 := by omega
    rcases zKq hI with rfl | ⟨y, r', rfl, hy⟩
    ·cases hd2; omega
    ·cases hd2 with
     | part _ _ hp _ => exact Or.inr (zEJ hp).1
     | hole => exact absurd rfl hy
theorem zM8 {x : TK} (hk : x.k = 3 ∨ x.k = 4 ∨ x.k = 5) {n : Nat} (h : LonP L z [x] n) : n = 1 := by
 have hv : VL L z [x] 1 := zK7 (t := _) (.leaf (a := 0) (by simp) (by
  show leafB x.k _ = true
  unfold leafB
  rcases hk with e | e | e <;> rw [e] <;> rfl))
 have h1 := h.1
 have := (h.2 1 (by simp)).1 hv
 simp at h1
 omega
theorem zLe {x y : TK} (hk : x.k = 3 ∨ x.k = 4 ∨ x.k = 5) (hy : y.k = 3 ∨ y.k = 4 ∨ y.k = 5) {n : Nat} (h : LonP L z [x, y] n) : n = 1 := by
 have hv : VL L z [x, y] 1 := zK7 (t := _) (.leaf (a := 0) (by simp) (by
  show leafB x.k _ = true
  unfold leafB
  rcases hk with e | e | e <;> rw [e] <;> rfl))
 have h1 := (h.2 1 (by simp)).1 hv
 have h2 := h.1
 simp at h2
 by_cases hn : n = 2
 ·exfalso
  subst hn
  obtain ⟨ext, t, hd⟩ := (h.2 2 (by simp)).2 (Nat.le_refl _)
  rcases zP8 hd 0 (Nat.le_refl _) (by omega) with e | e
  ·have e : isP x = true := e
   unfold isP at e
   rcases hk with k | k | k <;> rw [k] at e <;> cases e
  ·have e : isP y = true := e
   unfold isP at e
   rcases hy with k | k | k <;> rw [k] at e <;> cases e
 ·omega
end
end
end Go.Proofs.YtcjbhdgjcpnklaaGreatDoor
