import Derived.MapKept
import Derived.WideKeyRuns
import Derived.Laws.StructEq
import Derived.Test.YtcjbhdgjcpnklaaGreatDoorR11
import Derived.Test.YtcjbhdgjcpnklaaGreatDoorR14
namespace Go.Proofs.YtcjbhdgjcpnklaaGreatDoor
open Go.RowKit
theorem zIj {P : Program} (w : World) (t ty e base k by_ : Nat) (z : Value) (ht : P.underlying t = some (.slice e)) (hinf : (P.info? e).map (fun i => (i.zero, i.size, i.bytes)) = some (some z, k, by_)) (hzk : z.cells.size = k) (hk : 0 < k)
  (sa : Option Addr) (n c : Nat) (xs : List Value) (hown : OwnV base e k w sa n c xs) (b off m d : Nat) (ys : List Value) (hb : Vs k w (some ⟨b, off, none⟩) m d ys) (hm : 0 < m) (h1 : ∀ u ∈ ys, u.oneCell' = true)
  (hbig : n + m ≤ maxLen) (hbytes : (n + m) * by_ ≤ 140737488355328) (hbase : base ≤ w.heap.size) :
  ∃ g' c' w', (Builtin.append_ #[t, t] ty #[.slice sa n c, .slice (some ⟨b, off, none⟩) m d]).run P w = .ok (.slice (some ⟨g', 0, none⟩) (n + m) c') w' ∧ OwnV base e k w' (some ⟨g', 0, none⟩) (n + m) c' (xs ++ ys) ∧ w.grownBy w' (Value.ownBlock (.slice sa n c)) ∧ Below base w w' ∧ (sa = some ⟨g', 0, none⟩ ∨ g' = w.heap.size) := by
 obtain ⟨i, hi, hz, hsz, hby⟩ := info_parts hinf
 have hnews := hb.news b off rfl hm
 obtain ⟨v', w', hr, h2, h3, h4⟩ := run_append_own (P := P) w base t ty e i z k by_ ht hi hz hsz hby hzk hk (.slice sa n c) n xs hown ⟨b, off, none⟩ m d ys hb.hl hnews h1 hbig hbytes hbase
 have hbe : Below base w w' := (Below.refl base w).grown h3 hbase fun k hk => (World.ownsRow.lt hown k hk).1
 have hl' : ys.length = m * i.size := by rw [hsz]; exact hb.hl
 have hwh : (∃ g' n' c', sa = some ⟨g', 0, none⟩ ∧ v' = .slice (some ⟨g', 0, none⟩) n' c') ∨ ∃ n' c', v' = .slice (some ⟨w.heap.size, 0, none⟩) n' c' := by
  rcases hown.2 with ⟨hv, hn0⟩ | ⟨g', cap, cur, hv, hbg, hg, hnc, hcm, hcs, htake⟩
  ·simp only [Value.slice.injEq] at hv
   obtain ⟨rfl, rfl, rfl⟩ := hv
   have := run_append_nil (P := P) w t ty e i z ht hi hz ⟨b, off, none⟩ m d ys hl' hnews hm (by unfold maxLen at hbig; omega) (by rw [hby]; have hb := hbytes; simp only [Nat.zero_add] at hb; omega)
   rw [hr] at this
   cases this
   exact .inr ⟨_, _, rfl⟩
  ·simp only [Value.slice.injEq, true_and] at hv
   obtain ⟨rfl, rfl⟩ := hv
   by_cases hroom : n + m ≤ c
   ·have hfit : n * i.size + ys.length ≤ cur.size := by rw [hl', hsz, hcs, ← Nat.add_mul]; exact Nat.mul_le_mul_right _ hroom
    have := run_append_room (P := P) w t ty e i ht hi g' n c cur hg ⟨b, off, none⟩ m d ys hl' hnews h1 hroom hfit
    rw [hr] at this
    cases this
    exact .inl ⟨g', _, _, rfl, rfl⟩
   ·have holds : ∀ j u, xs[j]? = some u → w.cell? ((⟨g', 0, none⟩ : Addr).add j) = some u := World.ownsRow.cells hown (g := g') rfl
    have := run_append_grow (P := P) w t ty e i z ht hi hz ⟨g', 0, none⟩ n c xs (by rw [hsz]; exact hown.1) holds ⟨b, off, none⟩ m d ys hl' hnews (by omega) (by unfold maxLen at hbig; omega) (growslice_fits (by omega) (by rw [hby]; exact hbytes))
    rw [hr] at this
    cases this
    exact .inr ⟨_, _, rfl⟩
 rcases hwh with ⟨g', n', c', hsa, rfl⟩ | ⟨n', c', rfl⟩
 ·rcases h2.2 with ⟨hh, _⟩ | ⟨g2, cp, cur, hh, r⟩
  ·simp at hh
  ·simp only [Value.slice.injEq, Option.some.injEq, Addr.mk.injEq, and_true] at hh
   obtain ⟨rfl, rfl, rfl⟩ := hh
   exact ⟨_, _, _, hr, h2, h3, hbe, .inl hsa⟩
 ·rcases h2.2 with ⟨hh, _⟩ | ⟨g2, cp, cur, hh, r⟩
  ·simp at hh
  ·simp only [Value.slice.injEq, Option.some.injEq, Addr.mk.injEq, and_true] at hh
   obtain ⟨rfl, rfl, rfl⟩ := hh
   exact ⟨_, _, _, hr, h2, h3, hbe, .inr rfl⟩
section
variable {P : Program} {w : World} {ops : Array Oper} {rest : List Oper} {o : Oper} {a : Act} {Q : Exit → Act → World → Prop} {K : Act → World → Prop} {E : Prop}
theorem zEW (hw : Region.wanted o (yielded ops a.tmps) = true) (s x : Operand) (t : TypeId)
  (ho : o.op = .call { callee := .builtin .append, args := #[s, x], argTypes := #[t, t] })
  (e base k by_ : Nat) (z : Value) (ht : P.underlying t = some (.slice e)) (hinf : (P.info? e).map (fun i => (i.zero, i.size, i.bytes)) = some (some z, k, by_)) (hzk : z.cells.size = k) (hk : 0 < k)
  (sa : Option Addr) (n c : Nat) (xs : List Value) (hs : a.eval s = .slice sa n c) (hown : OwnV base e k w sa n c xs)
  (b off m d : Nat) (ys : List Value) (hx : a.eval x = .slice (some ⟨b, off, none⟩) m d) (hb : Vs k w (some ⟨b, off, none⟩) m d ys) (hm : 0 < m) (h1 : ∀ u ∈ ys, u.oneCell' = true)
  (hbig : n + m ≤ maxLen) (hbytes : (n + m) * by_ ≤ 140737488355328) (hbase : base ≤ w.heap.size)
  (h : ∀ g' c' w', OwnV base e k w' (some ⟨g', 0, none⟩) (n + m) c' (xs ++ ys) → w.grownBy w' (Value.ownBlock (.slice sa n c)) → Below base w w' → (sa = some ⟨g', 0, none⟩ ∨ g' = w.heap.size) → wpList P ops Q rest (a.put o.dst (.slice (some ⟨g', 0, none⟩) (n + m) c')) w') : wpList P ops Q (o :: rest) a w :=
 wpList_step fun K hK => by
  rw [if_pos hw]
  obtain ⟨g', c', w', hr, h2, h3, h4, h5⟩ := zIj (P := P) w t o.type e base k by_ z ht hinf hzk hk sa n c xs hown b off m d ys hb hm h1 hbig hbytes hbase
  unfold Oper.wp execOp
  simp only [ho, resolve, invoke, builtin, Sem.run_bind, Sem.run_pure, Result.andThen_ok, List.map_toArray, List.map_cons, List.map_nil, hs, hx, hr]
  exact hK _ _ (h g' c' w' h2 h3 h4 h5)
theorem zCJ (hgd : o.guard = none) (s x : Operand) (t : TypeId)
  (ho : o.op = .call { callee := .builtin .append, args := #[s, x], argTypes := #[t, t] })
  (e base k by_ : Nat) (z : Value) (ht : P.underlying t = some (.slice e)) (hinf : (P.info? e).map (fun i => (i.zero, i.size, i.bytes)) = some (some z, k, by_)) (hzk : z.cells.size = k) (hk : 0 < k)
  (sa : Option Addr) (n c : Nat) (xs : List Value) (hs : a.eval s = .slice sa n c) (hown : OwnV base e k w sa n c xs)
  (b off m d : Nat) (ys : List Value) (hx : a.eval x = .slice (some ⟨b, off, none⟩) m d) (hb : Vs k w (some ⟨b, off, none⟩) m d ys) (hm : 0 < m) (h1 : ∀ u ∈ ys, u.oneCell' = true)
  (hbig : n + m ≤ maxLen) (hbytes : (n + m) * by_ ≤ 140737488355328) (hbase : base ≤ w.heap.size)
  (h : ∀ g' c' w', OwnV base e k w' (some ⟨g', 0, none⟩) (n + m) c' (xs ++ ys) → w.grownBy w' (Value.ownBlock (.slice sa n c)) → Below base w w' → (sa = some ⟨g', 0, none⟩ ∨ g' = w.heap.size) → K (a.put o.dst (.slice (some ⟨g', 0, none⟩) (n + m) c')) w') : if Region.wanted o (yielded ops a.tmps) = true then o.wp P a w K Q else E := by
 rw [if_pos (show Region.wanted o (yielded ops a.tmps) = true by simp [Region.wanted, hgd])]
 obtain ⟨g', c', w', hr, h2, h3, h4, h5⟩ := zIj (P := P) w t o.type e base k by_ z ht hinf hzk hk sa n c xs hown b off m d ys hb hm h1 hbig hbytes hbase
 unfold Oper.wp execOp
 simp only [ho, resolve, invoke, builtin, Sem.run_bind, Sem.run_pure, Result.andThen_ok, List.map_toArray, List.map_cons, List.map_nil, hs, hx, hr]
 exact h g' c' w' h2 h3 h4 h5
end
structure KX (ex : Nat → Prop) (w w' : World) : Prop where
 os : w'.os = w.os
 tape : w'.tape = w.tape
 output : w'.output = w.output
 size : w.heap.size ≤ w'.heap.size
 block : ∀ b, b < w.heap.size → ¬ ex b → w'.heap[b]? = w.heap[b]?
section
variable {ex ex' : Nat → Prop} {w w' w'' : World}
theorem KX.refl (ex : Nat → Prop) (w : World) : KX ex w w := ⟨rfl, rfl, rfl, Nat.le_refl _, fun _ _ _ => rfl⟩
theorem KX.trans (h : KX ex w w') (k : KX ex' w' w'') (he : ∀ b, b < w.heap.size → ex' b → ex b) : KX ex w w'' :=
 ⟨k.os.trans h.os, k.tape.trans h.tape, k.output.trans h.output, Nat.le_trans h.size k.size, fun b hb hn => (k.block b (Nat.lt_of_lt_of_le hb h.size) fun h' => hn (he b hb h')).trans (h.block b hb hn)⟩
theorem KX.of (ex : Nat → Prop) (h : Below w.heap.size w w') : KX ex w w' := ⟨h.os, h.tape, h.output, h.size, fun b hb _ => h.block b hb⟩
theorem KX.only {g : Nat} (h : Only g w w') (he : ex g) : KX ex w w' := ⟨h.os, h.tape, h.output, by rw [h.size]; exact Nat.le_refl _, fun b _ hn => h.block b fun e => hn (e ▸ he)⟩
theorem KX.below {B : Nat} (h : KX ex w w') (he : ∀ b, ex b → B ≤ b) (hB : B ≤ w.heap.size) : Below B w w' := ⟨h.os, h.tape, h.output, h.size, fun b hb => h.block b (by omega) fun e => by have := he b e; omega⟩
theorem KX.kt {P : TypeId → Prop} (h : KX ex w w') (he : ∀ b cs t, ex b → w.heap[b]? = some (.cells cs t (0, 0)) → P t) : Kt P w w' :=
 ⟨h.size, fun b cs t hb hp => (h.block b (Array.getElem?_eq_some_iff.1 hb).1 fun e => hp (he b cs t e hb)).trans hb⟩
theorem KX.grown {base : Nat} {e : TypeId} {k n c : Nat} {sa : Option Addr} {xs : List Value} (hown : OwnV base e k w sa n c xs) (hg : w.grownBy w' (Value.ownBlock (.slice sa n c))) (he : ∀ g, sa = some ⟨g, 0, none⟩ → ex g) : KX ex w w' :=
 ⟨hg.os, hg.tape, hg.output, hg.size, fun b hb hn => hg.block b hb (by
  intro hbb
  rcases hown.2 with ⟨hv, _⟩ | ⟨q, cp, cur, hv, _⟩
  ·simp only [Value.slice.injEq] at hv
   obtain ⟨rfl, _⟩ := hv
   simp [Value.ownBlock] at hbb
  ·simp only [Value.slice.injEq, true_and] at hv
   obtain ⟨rfl, _⟩ := hv
   simp [Value.ownBlock] at hbb
   subst hbb
   exact hn (he _ rfl))⟩
theorem OwnV.kx {base : Nat} {e : TypeId} {k n c : Nat} {a : Option Addr} {xs : List Value} (h : OwnV base e k w a n c xs) (hk : KX ex w w') (he : ∀ g, a = .some ⟨g, 0, none⟩ → ¬ ex g) : OwnV base e k w' a n c xs := by
 refine ⟨h.1, h.2.imp id ?_⟩
 rintro ⟨q, cp, cur, hv, hq, hb, r⟩
 refine ⟨q, cp, cur, hv, hq, (hk.block q (Array.getElem?_eq_some_iff.1 hb).1 (he q ?_)).trans hb, r⟩
 simp only [Value.slice.injEq] at hv
 exact hv.1
theorem zDS {b : Nat} {T : TypeId} {cs : Array Value} (h : Bk w b T cs) (hk : KX ex w w') (he : ¬ ex b) : Bk w' b T cs := (hk.block b h.lt he).trans h
theorem zQR {k n c : Nat} {a : Option Addr} {xs : List Value} (h : Vs k w a n c xs) (hk : KX ex w w') (he : ∀ g off, 0 < n → a = some ⟨g, off, none⟩ → ¬ ex g) : Vs k w' a n c xs :=
 ⟨h.hl, h.lc, h.cm, fun h0 => by
  obtain ⟨b, off, ha, hb, hc⟩ := h.at_ h0
  refine ⟨b, off, ha, Nat.lt_of_lt_of_le hb hk.size, fun j hj => ?_⟩
  rw [← hc j hj]
  unfold World.cell?
  dsimp only
  rw [hk.block b hb (he b off h0 ha)]⟩
theorem Kt.then_below {P : TypeId → Prop} {w0 : World} (h : Kt P w0 w) (hb : Below w0.heap.size w w') : Kt P w0 w' :=
 ⟨Nat.le_trans h.size hb.size, fun b cs t hq hp => (hb.block b (Array.getElem?_eq_some_iff.1 hq).1).trans (h.row b cs t hq hp)⟩
theorem zJI {P : TypeId → Prop} {b : Nat} {T : TypeId} {cs : Array Value} (h : Bk w b T cs) (hk : Kt P w w') (hp : ¬ P T) : Bk w' b T cs := hk.row b cs T h hp
theorem zAj {base : Nat} {e : TypeId} {k n c : Nat} {a : Option Addr} {xs : List Value} (h : OwnV base e k w a n c xs) {g : Nat} (ha : a = some ⟨g, 0, none⟩) : base ≤ g ∧ g < w.heap.size ∧ ∃ cur, w.heap[g]? = some (.cells cur e (0, 0)) := by
 obtain ⟨g', cur, e1, h2, h3, h4, _⟩ := h.form (by rw [ha]; simp)
 rw [ha] at e1
 simp only [Option.some.injEq, Addr.mk.injEq, and_true] at e1
 subst e1
 exact ⟨h2, h3, cur, h4⟩
end
abbrev IT := Nat × Nat × Nat
def itL (x : IT) : List Value := [.int .i64 (x.1 : Int), .int .i64 (x.2.1 : Int), .int .i64 (x.2.2 : Int)]
def itA (x : IT) : Array Value := #[.int .i64 (x.1 : Int), .int .i64 (x.2.1 : Int), .int .i64 (x.2.2 : Int)]
def itC (X : List IT) : List Value := X.flatMap itL
def xA (X : List IT) (j : Nat) : IT := X.getD j (0, 0, 0)
theorem zJJ {X : List IT} {j : Nat} (h : j < X.length) : xA X j = X[j] := by simp [xA, List.getD, h]
theorem zLD {X : List IT} {j : Nat} (h : j < X.length) : xA X j ∈ X := by rw [zJJ h]; exact List.getElem_mem h
theorem zLE (X : List IT) : (itC X).length = X.length * 3 := by
 induction X with
 | nil => rfl
 | cons x X ih => show (itL x ++ itC X).length = _; rw [List.length_append, ih, List.length_cons]; show 3 + _ = _; omega
theorem itC_app (A B : List IT) : itC (A ++ B) = itC A ++ itC B := by simp [itC]
theorem itC_one (x : IT) : itC [x] = itL x := by simp [itC]
theorem zBn (X : List IT) : ∀ u ∈ itC X, u.oneCell' = true := by
 intro u hu
 obtain ⟨x, _, hx⟩ := List.mem_flatMap.1 hu
 simp only [itL, List.mem_cons, List.not_mem_nil, or_false] at hx
 rcases hx with rfl | rfl | rfl <;> rfl
theorem zNw : ∀ (X : List IT) (j i : Nat), j < X.length → i < 3 → (itC X)[j * 3 + i]? = (itA (xA X j))[i]?
 | x :: X, 0, i, _, hi => by
  show (itL x ++ itC X)[0 * 3 + i]? = _
  rw [Nat.zero_mul, Nat.zero_add, List.getElem?_append_left (by show i < 3; exact hi)]
  show (itL x)[i]? = (itL x).toArray[i]?
  simp
 | x :: X, j + 1, i, h, hi => by
  show (itL x ++ itC X)[(j + 1) * 3 + i]? = _
  rw [List.getElem?_append_right (by show 3 ≤ _; omega), show (j + 1) * 3 + i - (itL x).length = j * 3 + i by show _ - 3 = _; omega, zNw X j i (by simpa using h) hi]
  rfl
theorem zHR (x : IT) : (itA x).all (·.oneCell') = true := by kernel_rfl
theorem zAo : RT 93 3 := ⟨⟨_, Tryz.underlying93, rfl⟩, by kernel_rfl⟩
theorem zBW : RT 136 2 := ⟨⟨_, Tryz.underlying136, rfl⟩, by kernel_rfl⟩
theorem zO3 : RT 90 2 := ⟨⟨_, Tryz.underlying90, rfl⟩, by kernel_rfl⟩
theorem zBo : (Tryz.prog.info? 93).map (fun i => (i.zero, i.size, i.bytes)) = some (some (.agg #[.int .i64 0, .int .i64 0, .int .i64 0]), 3, 24) := by kernel_rfl
theorem zJK : (Tryz.prog.info? 94).map (fun i => (i.zero, i.size, i.bytes)) = some (some (.slice none 0 0), 1, 24) := by kernel_rfl
theorem zJL : (Tryz.prog.info? 138).map (fun i => (i.zero, i.size, i.bytes)) = some (some (.slice none 0 0), 1, 24) := by kernel_rfl
theorem zJM : (Tryz.prog.info? 144).map (fun i => (i.zero, i.size, i.bytes)) = some (some (.pointer none), 1, 8) := by kernel_rfl
theorem zAg : (Tryz.prog.info? 136).map (fun i => (i.zero, i.size, i.bytes)) = some (some (.agg #[.nilFunc, .slice none 0 0]), 2, 32) := by kernel_rfl
theorem zHS {w : World} {b off n c : Nat} {X : List IT} (h : Vs 3 w (some ⟨b, off, none⟩) n c (itC X)) {j : Nat} (hj : j < n) : ∀ i, i < 3 → w.cell? ⟨b, off + j * 3 + i, none⟩ = (itA (xA X j))[i]? := fun i hi => by
 have hl := h.hl
 rw [zLE] at hl
 rw [Nat.add_assoc, h.cells (by omega) (by omega), zNw X j i (by omega) hi]
theorem zIk {w : World} {a : Option Addr} {n c : Nat} {X : List IT} (h : Vs 3 w a n c (itC X)) : X.length = n := by
 have := h.hl
 rw [zLE] at this
 omega
structure SLV where
 a : Option Addr
 n : Nat
 c : Nat
def slC (R : List SLV) : List Value := R.map fun r => .slice r.a r.n r.c
def rA (R : List SLV) (i : Nat) : SLV := R.getD i ⟨none, 0, 0⟩
theorem zQS {R : List SLV} {j : Nat} (h : j < R.length) : rA R j = R[j] := by simp [rA, List.getD, h]
theorem zLF {R : List SLV} {j : Nat} (h : j < R.length) : (slC R)[j]? = some (.slice (rA R j).a (rA R j).n (rA R j).c) := by
 unfold slC
 rw [List.getElem?_map, List.getElem?_eq_getElem h, zQS h]
 rfl
theorem zO4 {R : List SLV} {j : Nat} {r : SLV} : (slC R).set j (.slice r.a r.n r.c) = slC (R.set j r) := by unfold slC; rw [List.map_set]
theorem zIl {R : List SLV} {j k : Nat} {r : SLV} (h : j < R.length) : rA (R.set j r) k = if k = j then r else rA R k := by
 unfold rA
 simp only [List.getD, List.getElem?_set]
 by_cases hk : k = j
 ·subst hk; simp [h]
 ·rw [if_neg fun e => hk e.symm, if_neg hk]
def SdV (w : World) (p : VV) : Sd → Prop
 | .br x => p.1 = .func (.func 72) #[.string (mk x)] #[] ∧ p.2 = .slice none 0 0
 | .pt x => p.1 = .func (.func 122) #[.string (mk x)] #[] ∧ p.2 = .slice none 0 0
 | .ho K => p.1 = .nilFunc ∧ ∃ a c, p.2 = .slice a K.length c ∧ Vs 1 w a K.length c (intsK K)
theorem SdV.below {w w' : World} {p : VV} {s : Sd} (h : SdV w p s) (hb : Below w.heap.size w w') : SdV w' p s := by
 cases s with
 | br x => exact h
 | pt x => exact h
 | ho K => obtain ⟨h1, a, c, h2, h3⟩ := h; exact ⟨h1, a, c, h2, h3.below hb⟩
def StV (w : World) (a : Option Addr) (n c : Nat) (S : List Sd) : Prop := S.length = n ∧ ∃ vs : List VV, vs.length = n ∧ Vs 2 w a n c (cV vs) ∧ ∀ j, j < n → SdV w (vA vs j) (sA S j)
theorem StV.below {w w' : World} {a : Option Addr} {n c : Nat} {S : List Sd} (h : StV w a n c S) (hb : Below w.heap.size w w') : StV w' a n c S := by
 obtain ⟨h0, vs, h1, h2, h3⟩ := h
 exact ⟨h0, vs, h1, h2.below hb, fun j hj => (h3 j hj).below hb⟩
def FsV (w : World) (a : Option Addr) (c : Nat) (F : List FD) : Prop := ∃ R : List SLV, R.length = F.length ∧ Vs 1 w a F.length c (slC R) ∧ ∀ i, i < F.length → StV w (rA R i).a (rA R i).n (rA R i).c (fA F i).S
theorem FsV.below {w w' : World} {a : Option Addr} {c : Nat} {F : List FD} (h : FsV w a c F) (hb : Below w.heap.size w w') : FsV w' a c F := by
 obtain ⟨R, h1, h2, h3⟩ := h
 exact ⟨R, h1, h2.below hb, fun i hi => (h3 i hi).below hb⟩
def eqI (f i a f' i' a' : Nat) : Bool := ((f : Int) == f') && (((i : Int) == i') && ((a : Int) == a'))
theorem zLG {f i a f' i' a' : Nat} : eqI f i a f' i' a' = true ↔ (f, i, a) = (f', i', a') := by
 unfold eqI
 simp only [Bool.and_eq_true, beq_iff_eq, Int.natCast_inj, Prod.mk.injEq]
theorem zLH (f i a f' i' a' : Nat) (w : World) : (Op.equal 93 (.agg (itA (f, i, a))) (.agg (itA (f', i', a')))).run Tryz.prog w = .ok (eqI f i a f' i' a') w := by
 show (Op.equalIn 10000 93 (.agg (itA (f, i, a))) (.agg (itA (f', i', a')))).run Tryz.prog w = _
 have hu : Tryz.prog.underlying 93 = some (.struct (Tryz.prog.fieldsOf 93)) := by
  unfold Program.fieldsOf
  rw [Tryz.underlying93]
 rw [run_equalIn_struct w 9999 93 _ _ hu (by kernel_rfl)]
 unfold Program.fieldsOf
 rw [Tryz.underlying93]
 have p0 : ∀ w (a b c : Value), (part 3 #[a, b, c] 0).run Tryz.prog w = .ok a w := fun _ _ _ _ => by kernel_rfl
 have p1 : ∀ w (a b c : Value), (part 3 #[a, b, c] 1).run Tryz.prog w = .ok b w := fun _ _ _ _ => by kernel_rfl
 have p2 : ∀ w (a b c : Value), (part 3 #[a, b, c] 2).run Tryz.prog w = .ok c w := fun _ _ _ _ => by kernel_rfl
 have e1 : ∀ w (a b : Int), (Op.equalIn 9999 3 (.int .i64 a) (.int .i64 b)).run Tryz.prog w = .ok (a == b) w := fun w a b => run_equalIn_int w 9998 _ _ _ a b Tryz.underlying3
 unfold itA eqI
 simp only [Op.eqFields, Sem.run_bind, Sem.run_ite, p0, p1, p2, e1, Result.andThen_ok, Sem.run_pure, ne_eq, String.reduceEq, not_false_eq_true, if_true]
 cases (f : Int) == f' <;> cases (i : Int) == i' <;> cases (a : Int) == a' <;> rfl
def kvI (l : List MapEntry) : List (Value × Value) := l.map fun e => (e.key, e.val)
def MV (w : World) (g : Nat) (X : List IT) : Prop := ∃ es cl, w.heap[g]? = some (.map es cl) ∧ kvI es.toList = X.map fun x => (.agg (itA x), .bool true)
theorem zDH (x : IT) (w : World) : ∀ (l : List MapEntry) (X : List IT) (n : Nat), kvI l = X.map (fun x => (.agg (itA x), .bool true)) → x ∉ X → (Instr.findAsking 93 (.agg (itA x)) l n).run Tryz.prog w = .ok none w
 | [], X, n, _, _ => rfl
 | e :: l, [], n, h, _ => by simp [kvI] at h
 | e :: l, y :: X, n, h, hx => by
  simp only [kvI, List.map_cons, List.cons.injEq, Prod.mk.injEq] at h
  obtain ⟨⟨hk, hv⟩, ht⟩ := h
  have he := zLH x.1 x.2.1 x.2.2 y.1 y.2.1 y.2.2 w
  have hq : eqI x.1 x.2.1 x.2.2 y.1 y.2.1 y.2.2 = false := by
   cases h : eqI x.1 x.2.1 x.2.2 y.1 y.2.1 y.2.2 with
   | false => rfl
   | true => exact absurd (List.mem_cons.2 (.inl (zLG.1 h))) hx
  rw [hq] at he
  unfold Instr.findAsking
  simp only [Sem.run_bind, hk, he, Result.andThen_ok, Bool.false_eq_true, if_false]
  exact zDH x w l X (n + 1) ht fun h => hx (List.mem_cons_of_mem _ h)
theorem zE4 (x : IT) (w : World) : ∀ (l : List MapEntry) (X : List IT) (n : Nat), kvI l = X.map (fun x => (.agg (itA x), .bool true)) → x ∈ X → ∃ j, (Instr.findAsking 93 (.agg (itA x)) l n).run Tryz.prog w = .ok (some (j, .bool true)) w
 | [], X, n, h, hx => by
  cases X with
  | nil => cases hx
  | cons y X => simp [kvI] at h
 | e :: l, [], n, h, hx => by cases hx
 | e :: l, y :: X, n, h, hx => by
  simp only [kvI, List.map_cons, List.cons.injEq, Prod.mk.injEq] at h
  obtain ⟨⟨hk, hv⟩, ht⟩ := h
  have he := zLH x.1 x.2.1 x.2.2 y.1 y.2.1 y.2.2 w
  cases hq : eqI x.1 x.2.1 x.2.2 y.1 y.2.1 y.2.2 with
  | true =>
   rw [hq] at he
   refine ⟨n, ?_⟩
   unfold Instr.findAsking
   simp only [Sem.run_bind, hk, he, Result.andThen_ok, if_true, Sem.run_pure, hv]
  | false =>
   rw [hq] at he
   have hx' : x ∈ X := (List.mem_cons.1 hx).resolve_left fun e => by
    have : eqI x.1 x.2.1 x.2.2 y.1 y.2.1 y.2.2 = true := zLG.2 e
    rw [hq] at this; cases this
   obtain ⟨j, hj⟩ := zE4 x w l X (n + 1) ht hx'
   refine ⟨j, ?_⟩
   unfold Instr.findAsking
   simp only [Sem.run_bind, hk, he, Result.andThen_ok, Bool.false_eq_true, if_false]
   exact hj
theorem zIm (x : IT) (em : Bool) (w : World) : (Instr.checkKey em 10000 93 (.agg (itA x))).run Tryz.prog w = .ok () w := by kernel_rfl
theorem MV.lt {w : World} {g : Nat} {X : List IT} (h : MV w g X) : g < w.heap.size := by obtain ⟨_, _, h, _⟩ := h; exact (Array.getElem?_eq_some_iff.1 h).1
theorem MV.new (w : World) : MV (w.alloc (.map #[] 0)) w.heap.size [] := ⟨#[], 0, heap_alloc_new w _, rfl⟩
theorem MV.kx {ex : Nat → Prop} {w w' : World} {g : Nat} {X : List IT} (h : MV w g X) (hk : KX ex w w') (he : ¬ ex g) : MV w' g X := by
 have hl := h.lt
 obtain ⟨es, cl, h, h2⟩ := h
 exact ⟨es, cl, (hk.block g hl he).trans h, h2⟩
theorem MV.below {w w' : World} {g : Nat} {X : List IT} (h : MV w g X) (hb : Below w.heap.size w w') : MV w' g X := h.kx (KX.of (fun _ => False) hb) id
theorem MV.look {w : World} {g : Nat} {X : List IT} (h : MV w g X) (x : IT) : (Instr.lookup 145 (.map (some g)) (.agg (itA x)) false).run Tryz.prog w = .ok (.bool (decide (x ∈ X))) w := by
 obtain ⟨es, cl, hb, hs⟩ := h
 have hkey := zIm x es.isEmpty w
 have hf := run_findKey_eq (P := Tryz.prog) (k := 93) w (by rw [Tryz.underlying93]) (.agg (itA x)) es.toList
 by_cases hx : x ∈ X
 ·obtain ⟨j, h1⟩ := zE4 x w es.toList X 0 hs hx
  rw [h1] at hf
  rw [decide_eq_true hx]
  simp [Instr.lookup, run_underlying Tryz.underlying145, MapKept.run_getObj_map hb, hkey, hf, Result.andThen]
 ·have h1 := zDH x w es.toList X 0 hs hx
  rw [h1] at hf
  have hzv : (zeroValue 4).run Tryz.prog w = .ok (.bool false) w := by kernel_rfl
  rw [decide_eq_false hx]
  simp [Instr.lookup, run_underlying Tryz.underlying145, MapKept.run_getObj_map hb, hkey, hf, Result.andThen, hzv]
theorem MV.put {w : World} {g : Nat} {X : List IT} (h : MV w g X) {x : IT} (hx : x ∉ X) : ∃ w', (Instr.mapUpdate 145 (.map (some g)) (.agg (itA x)) (.bool true)).run Tryz.prog w = .ok () w' ∧ MV w' g (X ++ [x]) ∧ Only g w w' := by
 obtain ⟨es, cl, hb, hs⟩ := h
 have hkey := zIm x false w
 have hf := run_findKey_eq (P := Tryz.prog) (k := 93) w (by rw [Tryz.underlying93]) (.agg (itA x)) es.toList
 rw [zDH x w es.toList X 0 hs hx] at hf
 refine ⟨{ w with heap := w.heap.setIfInBounds g (.map (es.push ⟨.agg (itA x), .bool true, cl⟩) (cl + 1)) }, ?_, ⟨_, _, (MapKept.heap_set hb).1, ?_⟩, ⟨rfl, rfl, rfl, by simp, fun k hk => (MapKept.heap_set hb).2 k hk⟩⟩
 ·simp [Instr.mapUpdate, run_underlying Tryz.underlying145, MapKept.run_getObj_map hb, hkey, hf, MapKept.run_setObj_map _ hb, Result.andThen]
 ·simp [kvI] at hs ⊢
  exact hs
def pcA (ia : Option Addr) (n c M : Nat) (aa : Option Addr) (m d : Nat) : Array Value := #[.slice ia n c, .map (some M), .slice aa m d]
def aA (A : List (List IT)) (k : Nat) : List IT := A.getD k []
theorem zLI {A : List (List IT)} {j k : Nat} {x : List IT} (h : j < A.length) : aA (A.set j x) k = if k = j then x else aA A k := by
 unfold aA
 simp only [List.getD, List.getElem?_set]
 by_cases hk : k = j
 ·subst hk; simp [h]
 ·rw [if_neg fun e => hk e.symm, if_neg hk]
structure PlF (w : World) (p : Nat) (I : List IT) (A : List (List IT)) : Prop where
 ex : ∃ ia ic M aa ac R, Bk w p 148 (pcA ia I.length ic M aa A.length ac) ∧ OwnV 0 93 3 w ia I.length ic (itC I) ∧ OwnV 0 94 1 w aa A.length ac (slC R) ∧ R.length = A.length ∧
  ∀ k, k < A.length → (rA R k).n = (aA A k).length ∧ OwnV 0 93 3 w (rA R k).a (aA A k).length (rA R k).c (itC (aA A k))
theorem PlF.kt {P : TypeId → Prop} {w w' : World} {p : Nat} {I : List IT} {A : List (List IT)} (h : PlF w p I A) (hk : Kt P w w') (h1 : ¬ P 148) (h2 : ¬ P 93) (h3 : ¬ P 94) : PlF w' p I A := by
 obtain ⟨ia, ic, M, aa, ac, R, k1, k2, k3, k4, k5⟩ := h.ex
 exact ⟨ia, ic, M, aa, ac, R, zJI k1 hk h1, k2.kt h2 hk, k3.kt h3 hk, k4, fun k hk' => ⟨(k5 k hk').1, (k5 k hk').2.kt h2 hk⟩⟩
structure Cur (B : Nat) (w : World) (p M q : Nat) (ia : Option Addr) (ic : Nat) (R : List SLV) (I Im : List IT) (A : List (List IT)) : Prop where
 pb : Bk w p 148 (pcA ia I.length ic M (some ⟨q, 0, none⟩) A.length A.length)
 mp : MV w M Im
 ar : OwnV B 94 1 w (some ⟨q, 0, none⟩) A.length A.length (slC R)
 io : OwnV B 93 3 w ia I.length ic (itC I)
 rl : R.length = A.length
 ro : ∀ k, k < A.length → (rA R k).n = (aA A k).length ∧ OwnV B 93 3 w (rA R k).a (aA A k).length (rA R k).c (itC (aA A k))
 si : ∀ k g, k < A.length → (rA R k).a = some ⟨g, 0, none⟩ → ia ≠ some ⟨g, 0, none⟩
 sr : ∀ j k g, j < A.length → k < A.length → j ≠ k → (rA R j).a = some ⟨g, 0, none⟩ → (rA R k).a ≠ some ⟨g, 0, none⟩
 lp : B ≤ p
 lm : B ≤ M
section
variable {B p M q : Nat} {w w' w'' : World} {ia : Option Addr} {ic : Nat} {R : List SLV} {I Im : List IT} {A : List (List IT)}
theorem Cur.lq (h : Cur B w p M q ia ic R I Im A) : B ≤ q := (zAj h.ar rfl).1
theorem Cur.apart (h : Cur B w p M q ia ic R I Im A) : p ≠ M ∧ p ≠ q ∧ M ≠ q ∧ (∀ g, ia = some ⟨g, 0, none⟩ → g ≠ p ∧ g ≠ M ∧ g ≠ q) ∧ ∀ k g, k < A.length → (rA R k).a = some ⟨g, 0, none⟩ → g ≠ p ∧ g ≠ M ∧ g ≠ q := by
 have hp : w.heap[p]? = _ := h.pb
 obtain ⟨es, cl, hm, _⟩ := h.mp
 obtain ⟨_, _, cur, hq⟩ := zAj h.ar rfl
 have row : ∀ g, (∃ cur, w.heap[g]? = some (.cells cur 93 (0, 0))) → g ≠ p ∧ g ≠ M ∧ g ≠ q := by
  rintro g ⟨cur, hg⟩
  refine ⟨?_, ?_, ?_⟩ <;> intro e <;> subst e
  ·rw [hp] at hg; simp only [Option.some.injEq, Obj.cells.injEq] at hg; exact absurd hg.2.1 (by decide)
  ·rw [hm] at hg; cases hg
  ·rw [hq] at hg; simp only [Option.some.injEq, Obj.cells.injEq] at hg; exact absurd hg.2.1 (by decide)
 refine ⟨?_, ?_, ?_, fun g hg => row g (zAj h.io hg).2.2, fun k g hk hg => row g (zAj (h.ro k hk).2 hg).2.2⟩ <;> intro e <;> subst e
 ·rw [hp] at hm; cases hm
 ·rw [hp] at hq; simp only [Option.some.injEq, Obj.cells.injEq] at hq; exact absurd hq.2.1 (by decide)
 ·rw [hm] at hq; cases hq
theorem Cur.lt (h : Cur B w p M q ia ic R I Im A) : p < w.heap.size ∧ M < w.heap.size ∧ q < w.heap.size := ⟨h.pb.lt, h.mp.lt, (zAj h.ar rfl).2.1⟩
theorem Cur.below (h : Cur B w p M q ia ic R I Im A) (hb : Below w.heap.size w w') : Cur B w' p M q ia ic R I Im A :=
 ⟨h.pb.below hb, h.mp.below hb, h.ar.keep hb (Nat.le_refl _), h.io.keep hb (Nat.le_refl _), h.rl, fun k hk => ⟨(h.ro k hk).1, (h.ro k hk).2.keep hb (Nat.le_refl _)⟩, h.si, h.sr, h.lp, h.lm⟩
theorem Cur.done (h : Cur B w p M q ia ic R I Im A) : PlF w p I A :=
 ⟨ia, ic, M, some ⟨q, 0, none⟩, A.length, R, h.pb, h.io.weaken (Nat.zero_le _), h.ar.weaken (Nat.zero_le _), h.rl, fun k hk => ⟨(h.ro k hk).1, (h.ro k hk).2.weaken (Nat.zero_le _)⟩⟩
theorem Cur.put (h : Cur B w p M q ia ic R I Im A) {Im' : List IT} (hm : MV w' M Im') (ho : Only M w w') : Cur B w' p M q ia ic R I Im' A := by
 obtain ⟨a1, a2, a3, a4, a5⟩ := h.apart
 have hk : KX (fun b => b = M) w w' := KX.only ho rfl
 refine ⟨zDS h.pb hk a1, hm, h.ar.kx hk fun g hg => ?_, h.io.kx hk fun g hg => (a4 g hg).2.1, h.rl, fun k hk' => ⟨(h.ro k hk').1, (h.ro k hk').2.kx hk fun g hg => (a5 k g hk' hg).2.1⟩, h.si, h.sr, h.lp, h.lm⟩
 simp only [Option.some.injEq, Addr.mk.injEq, and_true] at hg
 rw [← hg]
 exact fun e => a3 e.symm
theorem Cur.items (h : Cur B w p M q ia ic R I Im A) {g' c' : Nat} {x : IT} (ho : OwnV B 93 3 w' (some ⟨g', 0, none⟩) (I.length + 1) c' (itC I ++ itL x)) (hg : w.grownBy w' (Value.ownBlock (.slice ia I.length ic))) (hl : ia = some ⟨g', 0, none⟩ ∨ g' = w.heap.size)
  (hp : Bk w'' p 148 (pcA (some ⟨g', 0, none⟩) (I.length + 1) c' M (some ⟨q, 0, none⟩) A.length A.length)) (hs : Only p w' w'') : Cur B w'' p M q (some ⟨g', 0, none⟩) c' R (I ++ [x]) Im A ∧ KX (fun b => b = p ∨ ia = some ⟨b, 0, none⟩) w w'' := by
 obtain ⟨a1, a2, a3, a4, a5⟩ := h.apart
 obtain ⟨l1, l2, l3⟩ := h.lt
 have k1 : KX (fun b => ia = some ⟨b, 0, none⟩) w w' := KX.grown h.io hg fun g hg => hg
 have k2 : KX (fun b => b = p) w' w'' := KX.only hs rfl
 have hgp : g' ≠ p := by
  rcases hl with hl | hl
  ·exact (a4 g' hl).1
  ·omega
 refine ⟨⟨by rw [List.length_append]; exact hp, (h.mp.kx k1 fun e => (a4 M e).2.1 rfl).kx k2 fun e => a1 e.symm, (h.ar.kx k1 fun g hg e => ?_).kx k2 fun g hg e => ?_, ?_, h.rl, fun k hk => ⟨(h.ro k hk).1, ((h.ro k hk).2.kx k1 fun g hg e => h.si k g hk hg e).kx k2 fun g hg => (a5 k g hk hg).1⟩, fun k g hk hg e => ?_, h.sr, h.lp, h.lm⟩,
  ⟨k2.os.trans k1.os, k2.tape.trans k1.tape, k2.output.trans k1.output, Nat.le_trans k1.size k2.size, fun b hb hn => (k2.block b (Nat.lt_of_lt_of_le hb k1.size) fun e => hn (.inl e)).trans (k1.block b hb fun e => hn (.inr e))⟩⟩
 ·simp only [Option.some.injEq, Addr.mk.injEq, and_true] at hg
  subst hg
  exact (a4 q e).2.2 rfl
 ·simp only [Option.some.injEq, Addr.mk.injEq, and_true] at hg
  exact a2 (e.symm.trans hg.symm)
 ·rw [itC_app, itC_one, List.length_append]
  exact ho.kx k2 fun g hg e => by
   simp only [Option.some.injEq, Addr.mk.injEq, and_true] at hg
   exact hgp (hg.trans e)
 ·simp only [Option.some.injEq, Addr.mk.injEq, and_true] at e
  subst e
  rcases hl with hl | hl
  ·exact h.si k _ hk hg hl
  ·have := (zAj (h.ro k hk).2 hg).2.1
   omega
end
end Go.Proofs.YtcjbhdgjcpnklaaGreatDoor
