/- Rows of any one-cell values (XGv without tokens). -/
import Derived.Test.YtnedappnmkbbpaaMr
namespace Go.Proofs.Ytnedappnmkbbpaa
open Go.RowKit

/-- The slice value (a, len, cap) reads, in the world w, as the cells xs, k an element. -/
structure Vs (k : Nat) (w : World) (a : Option Addr) (len cap : Nat) (xs : List Value) : Prop where
  hl : xs.length = len * k
  lc : len ≤ cap
  cm : cap ≤ maxLen
  at_ : 0 < len → ∃ b off, a = some ⟨b, off, none⟩ ∧ b < w.heap.size ∧ ∀ j, j < len * k → w.cell? ⟨b, off + j, none⟩ = xs[j]?

theorem Vs.keep {k : Nat} {w w' : World} {a : Option Addr} {len cap : Nat} {xs : List Value} (h : Vs k w a len cap xs) (hs : w.heap.size ≤ w'.heap.size)
    (hk : ∀ x, x.block < w.heap.size → w'.cell? x = w.cell? x) : Vs k w' a len cap xs :=
  ⟨h.hl, h.lc, h.cm, fun h0 => by
    obtain ⟨b, off, ha, hb, hc⟩ := h.at_ h0
    exact ⟨b, off, ha, by omega, fun j hj => (hk _ hb).trans (hc j hj)⟩⟩
theorem Vs.below {k : Nat} {w w' : World} {a : Option Addr} {len cap : Nat} {xs : List Value} (h : Vs k w a len cap xs) (hb : Below w.heap.size w w') : Vs k w' a len cap xs :=
  h.keep hb.size fun _ hx => hb.cell hx
theorem Vs.nil (k : Nat) (w : World) (a : Option Addr) (cap : Nat) (h : cap ≤ maxLen) : Vs k w a 0 cap [] := ⟨by simp, Nat.zero_le _, h, fun h => by omega⟩
theorem Vs.cells {k : Nat} {w : World} {b off len cap : Nat} {xs : List Value} (h : Vs k w (some ⟨b, off, none⟩) len cap xs) (h0 : 0 < len) {j : Nat} (hj : j < len * k) : w.cell? ⟨b, off + j, none⟩ = xs[j]? := by
  obtain ⟨b', off', ha, _, hc⟩ := h.at_ h0
  simp only [Option.some.injEq, Addr.mk.injEq] at ha
  obtain ⟨rfl, rfl, _⟩ := ha
  exact hc j hj

/-- A row that the call itself has made, from block 'base' on. -/
def OwnV (base : Nat) (e : TypeId) (k : Nat) (w : World) (a : Option Addr) (len cap : Nat) (xs : List Value) : Prop := w.ownsRow base e k (.slice a len cap) len xs

theorem OwnV.bounds {base : Nat} {e : TypeId} {k : Nat} {w : World} {a : Option Addr} {len cap : Nat} {xs : List Value} (h : OwnV base e k w a len cap xs) : xs.length = len * k ∧ len ≤ cap ∧ cap ≤ maxLen := by
  obtain ⟨hl, h1⟩ := h
  rcases h1 with ⟨hv, hn⟩ | ⟨g, cp, cur, hv, hb, hg, hnc, hcm, hcs, htake⟩
  · simp only [Value.slice.injEq] at hv
    obtain ⟨rfl, rfl, rfl⟩ := hv
    exact ⟨hl, Nat.le_refl _, Nat.zero_le _⟩
  · simp only [Value.slice.injEq, true_and] at hv
    obtain ⟨rfl, rfl⟩ := hv
    exact ⟨hl, hnc, hcm⟩
theorem OwnV.form {base : Nat} {e : TypeId} {k : Nat} {w : World} {a : Option Addr} {len cap : Nat} {xs : List Value} (h : OwnV base e k w a len cap xs) (ha : a ≠ none) :
    ∃ g cur, a = some ⟨g, 0, none⟩ ∧ base ≤ g ∧ g < w.heap.size ∧ w.heap[g]? = some (.cells cur e (0, 0)) ∧ cur.size = cap * k ∧ cur.toList.take (len * k) = xs := by
  rcases h.2 with ⟨hv, hn⟩ | ⟨g, cp, cur, hv, hb, hg, hnc, hcm, hcs, htake⟩
  · simp only [Value.slice.injEq] at hv
    exact absurd hv.1 ha
  · simp only [Value.slice.injEq, true_and] at hv
    obtain ⟨rfl, rfl⟩ := hv
    exact ⟨g, cur, rfl, hb, (Array.getElem?_eq_some_iff.1 hg).1, hg, hcs, htake⟩
theorem OwnV.some {base : Nat} {e : TypeId} {k : Nat} {w : World} {a : Option Addr} {len cap : Nat} {xs : List Value} (h : OwnV base e k w a len cap xs) (h0 : 0 < len) : a ≠ none := by
  rcases h.2 with ⟨hv, hn⟩ | ⟨g, cp, cur, hv, _⟩
  · omega
  · simp only [Value.slice.injEq, true_and] at hv
    rw [hv.1]; simp
theorem OwnV.vs {base : Nat} {e : TypeId} {k : Nat} {w : World} {a : Option Addr} {len cap : Nat} {xs : List Value} (h : OwnV base e k w a len cap xs) : Vs k w a len cap xs :=
  ⟨h.bounds.1, h.bounds.2.1, h.bounds.2.2, fun h0 => by
    obtain ⟨g, cur, ha, _, hlt, hg, _, ht⟩ := h.form (h.some h0)
    refine ⟨g, 0, ha, hlt, fun j hj => ?_⟩
    rw [cell_of_row w g (0 + j) cur e (0, 0) hg, Nat.zero_add, ← ht, List.getElem?_take, if_pos hj]
    simp⟩
theorem OwnV.none0 {base : Nat} {e : TypeId} {k : Nat} {w : World} : OwnV base e k w none 0 0 [] := ⟨by simp, .inl ⟨rfl, rfl⟩⟩
theorem OwnV.keep {base B : Nat} {e : TypeId} {k : Nat} {w w' : World} {a : Option Addr} {len cap : Nat} {xs : List Value} (h : OwnV base e k w a len cap xs) (hb : Below B w w') (hB : w.heap.size ≤ B) : OwnV base e k w' a len cap xs :=
  World.ownsRow.kept h (row := none) ⟨hb.os, hb.tape, hb.output, hb.size, fun j hj _ => hb.block j (by omega)⟩ (by cases hv : (Value.slice a len cap).ownBlock <;> simp)
theorem OwnV.alloc {base : Nat} {e : TypeId} {k : Nat} {w : World} {a : Option Addr} {len cap : Nat} {xs : List Value} (h : OwnV base e k w a len cap xs) (o : Obj) : OwnV base e k (w.alloc o) a len cap xs := World.ownsRow.alloc h o
/-- Another row of the call's own grew: not this one. -/
theorem OwnV.other {base : Nat} {e : TypeId} {k : Nat} {w w' : World} {a : Option Addr} {len cap : Nat} {xs : List Value} {row : Option Nat} (h : OwnV base e k w a len cap xs) (hg : w.grownBy w' row) (hne : (Value.slice a len cap).ownBlock = none ∨ (Value.slice a len cap).ownBlock ≠ row) : OwnV base e k w' a len cap xs :=
  World.ownsRow.kept h hg hne
/-- An empty row that a literal has laid, by its block. -/
theorem OwnV.emptyAt {base X k : Nat} {e : TypeId} {w : World} (h : w.heap[X]? = .some (.cells #[] e (0, 0))) (hb : base ≤ X) : OwnV base e k w (.some ⟨X, 0, none⟩) 0 0 [] :=
  ⟨by simp, .inr ⟨X, 0, #[], rfl, hb, h, Nat.le_refl _, Nat.zero_le _, by simp, by simp⟩⟩
/-- A row cut off behind its first m elements. -/
theorem OwnV.cut {base : Nat} {e : TypeId} {k : Nat} {w : World} {g len cap m : Nat} {xs : List Value} (h : OwnV base e k w (.some ⟨g, 0, none⟩) len cap xs) (hm : m ≤ len) : OwnV base e k w (.some ⟨g, 0, none⟩) m cap (xs.take (m * k)) := by
  have hb := h.bounds
  obtain ⟨g', cur, ha, hbg, _, hg, hcs, ht⟩ := h.form (by simp)
  simp only [Option.some.injEq, Addr.mk.injEq, and_true] at ha
  subst ha
  have hmk : m * k ≤ len * k := Nat.mul_le_mul_right _ hm
  refine ⟨by rw [List.length_take, hb.1]; omega, .inr ⟨g, cap, cur, rfl, hbg, hg, by omega, hb.2.2, hcs, ?_⟩⟩
  rw [← ht, List.take_take, Nat.min_eq_left hmk]
/-- One element that a literal has laid. -/
theorem Vs.lit {k : Nat} (w : World) (e : TypeId) {mk : Nat × Nat} {xs : List Value} {cs : Array Value} (hc : cs = xs.toArray) (hk : xs.length = k) {g : Nat} (hg : g = w.heap.size) : Vs k (w.alloc (.cells cs e mk)) (some ⟨g, 0, none⟩) 1 1 xs := by
  subst hc; subst hg
  refine ⟨by rw [hk, Nat.one_mul], Nat.le_refl _, by decide, fun _ => ⟨w.heap.size, 0, rfl, by simp, fun j hj => ?_⟩⟩
  rw [cell_of_row (w.alloc (.cells xs.toArray e mk)) w.heap.size (0 + j) _ e mk (heap_alloc_new w _)]
  simp

theorem Vs.drew {k : Nat} {w : World} {a : Option Addr} {len cap : Nat} {xs : List Value} (h : Vs k w a len cap xs) : Vs k w.drew a len cap xs := h.below (Below.refl _ _).drew
theorem OwnV.drew {base : Nat} {e : TypeId} {k : Nat} {w : World} {a : Option Addr} {len cap : Nat} {xs : List Value} (h : OwnV base e k w a len cap xs) : OwnV base e k w.drew a len cap xs := h.keep (Below.refl _ _).drew (Nat.le_refl _)

theorem Vs.news {k : Nat} {w : World} {a : Option Addr} {len cap : Nat} {xs : List Value} (h : Vs k w a len cap xs) : ∀ b off, a = some ⟨b, off, none⟩ → 0 < len → ∀ j u, xs[j]? = some u → w.cell? ((⟨b, off, none⟩ : Addr).add j) = some u := by
  intro b off ha h0 j u hj
  subst ha
  have := (List.getElem?_eq_some_iff.1 hj).1
  rw [addr_add, h.cells h0 (by rw [← h.hl]; exact this), hj]

/-- 'append(s, x...)', s a row of the call's own, x whatever slice of the type. -/
theorem wp_appv {P : Program} {w : World} {o : Oper} {a : Act} {K : Act → World → Prop} {Q : Exit → Act → World → Prop} (s x : Operand) (t : TypeId)
    (ho : o.op = .call { callee := .builtin .append, args := #[s, x], argTypes := #[t, t] })
    (e base k by_ : Nat) (z : Value) (ht : P.underlying t = some (.slice e)) (hinf : (P.info? e).map (fun i => (i.zero, i.size, i.bytes)) = some (some z, k, by_)) (hzk : z.cells.size = k) (hk : 0 < k)
    (sa : Option Addr) (n c : Nat) (xs : List Value) (hs : a.eval s = .slice sa n c) (hown : OwnV base e k w sa n c xs)
    (xa : Option Addr) (m d : Nat) (ys : List Value) (hx : a.eval x = .slice xa m d) (hb : Vs k w xa m d ys) (h1 : ∀ u ∈ ys, u.oneCell' = true)
    (hbig : n + m ≤ maxLen) (hbytes : (n + m) * by_ ≤ 140737488355328) (hbase : base ≤ w.heap.size)
    (h : ∀ a' c' w', OwnV base e k w' a' (n + m) c' (xs ++ ys) → w.grownBy w' (Value.ownBlock (.slice sa n c)) → Below base w w' → (sa ≠ none → a' ≠ none) → K (a.put o.dst (.slice a' (n + m) c')) w') : o.wp P a w K Q := by
  obtain ⟨i, hi, hz, hsz, hby⟩ := info_parts hinf
  have fin : ∀ v' w', w'.ownsRow base e k v' (n + m) (xs ++ ys) → w.grownBy w' (Value.ownBlock (.slice sa n c)) → (v' = .slice none 0 0 → sa = none) → K (a.put o.dst v') w' := by
    intro v' w' ho' hg hnn
    have hbe : Below base w w' := (Below.refl base w).grown hg hbase fun k hk => (World.ownsRow.lt hown k hk).1
    rcases ho'.2 with ⟨rfl, hn0⟩ | ⟨g, cp, cur, rfl, r⟩
    · have hh := h none 0 w' (by rw [hn0]; rw [hn0] at ho'; exact ho') hg hbe (fun hsa => absurd (hnn rfl) hsa)
      rw [hn0] at hh; exact hh
    · exact h _ _ w' ho' hg hbe (by simp)
  by_cases h0 : 0 < m
  · obtain ⟨b, off, rfl, _, _⟩ := hb.at_ h0
    exact wp_append_own w s x t ho base e i _ k by_ ht hi hz hsz hby hzk hk _ _ _ hs hown ⟨b, off, none⟩ m d ys hx hb.hl
      (hb.news b off rfl h0) h1 hbig hbytes hbase (fun v' w' h1 h2 h3 => fin v' w' h1 h2 fun hv => by have := (h3.1 hv).1; simp only [Value.slice.injEq] at this; exact this.1)
  · have hm0 : m = 0 := by omega
    subst hm0
    have hk0 : ys = [] := List.eq_nil_of_length_eq_zero (by rw [hb.hl, Nat.zero_mul])
    subst hk0
    cases xa with
    | some ad => exact wp_append_own w s x t ho base e i _ k by_ ht hi hz hsz hby hzk hk _ _ _ hs hown ad 0 d [] hx (by simp) (by simp) (by simp) hbig hbytes hbase (fun v' w' h1 h2 h3 => fin v' w' (by simpa using h1) h2 fun hv => by have := (h3.1 hv).1; simp only [Value.slice.injEq] at this; exact this.1)
    | none =>
      have hr : (Builtin.append_ #[t, t] o.type #[.slice sa n c, .slice none 0 d]).run P w = .ok (.slice sa n c) w := by
        rcases hown.2 with ⟨hv, hn⟩ | ⟨g, cp, cur, hv, _, _, hnc, _⟩
        · simp only [Value.slice.injEq] at hv
          obtain ⟨rfl, rfl, rfl⟩ := hv
          simp [Builtin.append_, run_underlying ht, sizeOf, typeInfo, hi, Builtin.lenOf, Builtin.firstCells]
        · simp only [Value.slice.injEq, true_and] at hv
          obtain ⟨rfl, rfl⟩ := hv
          simp [Builtin.append_, run_underlying ht, sizeOf, typeInfo, hi, Builtin.lenOf, Builtin.firstCells, hnc, storeCells]
      unfold Oper.wp execOp
      simp only [ho, resolve, invoke, builtin, Sem.run_bind, Sem.run_pure, Result.andThen_ok, List.map_toArray, List.map_cons, List.map_nil, hs, hx, hr]
      exact fin _ w (by rw [List.append_nil]; exact hown) ⟨rfl, rfl, rfl, Nat.le_refl _, fun _ _ _ => rfl⟩ (by simp only [Value.slice.injEq]; exact fun hv => hv.1)

theorem wpList_appv {P : Program} {ops : Array Oper} {rest : List Oper} {w : World} {o : Oper} {a : Act} {Q : Exit → Act → World → Prop} (hw : Region.wanted o (yielded ops a.tmps) = true) (s x : Operand) (t : TypeId)
    (ho : o.op = .call { callee := .builtin .append, args := #[s, x], argTypes := #[t, t] })
    (e base k by_ : Nat) (z : Value) (ht : P.underlying t = some (.slice e)) (hinf : (P.info? e).map (fun i => (i.zero, i.size, i.bytes)) = some (some z, k, by_)) (hzk : z.cells.size = k) (hk : 0 < k)
    (sa : Option Addr) (n c : Nat) (xs : List Value) (hs : a.eval s = .slice sa n c) (hown : OwnV base e k w sa n c xs)
    (xa : Option Addr) (m d : Nat) (ys : List Value) (hx : a.eval x = .slice xa m d) (hb : Vs k w xa m d ys) (h1 : ∀ u ∈ ys, u.oneCell' = true)
    (hbig : n + m ≤ maxLen) (hbytes : (n + m) * by_ ≤ 140737488355328) (hbase : base ≤ w.heap.size)
    (h : ∀ a' c' w', OwnV base e k w' a' (n + m) c' (xs ++ ys) → w.grownBy w' (Value.ownBlock (.slice sa n c)) → Below base w w' → (sa ≠ none → a' ≠ none) → wpList P ops Q rest (a.put o.dst (.slice a' (n + m) c')) w') : wpList P ops Q (o :: rest) a w :=
  wpList_step fun K hK => by
    rw [if_pos hw]
    exact wp_appv s x t ho e base k by_ z ht hinf hzk hk sa n c xs hs hown xa m d ys hx hb h1 hbig hbytes hbase fun a' c' w' h1 h2 h3 h4 => hK _ _ (h a' c' w' h1 h2 h3 h4)

/-- The same at a step of a region that draws its order. -/
theorem step_appv {P : Program} {w : World} {ops : Array Oper} {o : Oper} {a : Act} {K : Act → World → Prop} {Q : Exit → Act → World → Prop} {E : Prop} (hgd : o.guard = none) (s x : Operand) (t : TypeId)
    (ho : o.op = .call { callee := .builtin .append, args := #[s, x], argTypes := #[t, t] })
    (e base k by_ : Nat) (z : Value) (ht : P.underlying t = some (.slice e)) (hinf : (P.info? e).map (fun i => (i.zero, i.size, i.bytes)) = some (some z, k, by_)) (hzk : z.cells.size = k) (hk : 0 < k)
    (sa : Option Addr) (n c : Nat) (xs : List Value) (hs : a.eval s = .slice sa n c) (hown : OwnV base e k w sa n c xs)
    (xa : Option Addr) (m d : Nat) (ys : List Value) (hx : a.eval x = .slice xa m d) (hb : Vs k w xa m d ys) (h1 : ∀ u ∈ ys, u.oneCell' = true)
    (hbig : n + m ≤ maxLen) (hbytes : (n + m) * by_ ≤ 140737488355328) (hbase : base ≤ w.heap.size)
    (h : ∀ a' c' w', OwnV base e k w' a' (n + m) c' (xs ++ ys) → w.grownBy w' (Value.ownBlock (.slice sa n c)) → Below base w w' → (sa ≠ none → a' ≠ none) → K (a.put o.dst (.slice a' (n + m) c')) w') :
    if Region.wanted o (yielded ops a.tmps) = true then o.wp P a w K Q else E := by
  rw [if_pos (show Region.wanted o (yielded ops a.tmps) = true by simp [Region.wanted, hgd])]
  exact wp_appv s x t ho e base k by_ z ht hinf hzk hk sa n c xs hs hown xa m d ys hx hb h1 hbig hbytes hbase h

end Go.Proofs.Ytnedappnmkbbpaa
