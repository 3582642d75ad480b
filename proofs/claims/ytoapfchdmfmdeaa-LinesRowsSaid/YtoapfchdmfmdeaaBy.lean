/- Rows of bytes of the call's own: what they look like, a store into one, an append onto one, at a step of a region that draws, too. -/
import Derived.Test.YtoapfchdmfmdeaaRows
import Derived.Test.YtoapfchdmfmdeaaUb
import Derived.Deep.RegionLaw
import Derived.Laws.BitsAllLaws
import Derived.Lib.Hide
import Derived.Deep.OwnRows
namespace Go.Proofs.Ytoapfchdmfmdeaa
open Go.RowKit

theorem bt_append_left (x y : List Int) (j : Nat) (h : j < x.length) : bt (x ++ y) j = bt x j := by
  unfold bt; simp [List.getD, List.getElem?_append_left h]
theorem bt_append_right (x y : List Int) (j : Nat) (h : x.length ≤ j) : bt (x ++ y) j = bt y (j - x.length) := by
  unfold bt; simp [List.getD, List.getElem?_append_right h]

/-- 'append' in a walk, guarded or not. -/
theorem wpList_app {P : Program} {ops : Array Oper} {rest : List Oper} {w : World} {o : Oper} {a : Act} {Q : Exit → Act → World → Prop} (hw : Region.wanted o (yielded ops a.tmps) = true) (s x : Operand) (t : TypeId)
    (ho : o.op = .call { callee := .builtin .append, args := #[s, x], argTypes := #[t, t] })
    (e base : Nat) (ht : P.underlying t = some (.slice e)) (hinf : (P.info? e).map (fun i => (i.zero, i.size, i.bytes)) = some (some (.int .u8 0), 1, 1))
    (sa : Option Addr) (n c : Nat) (l : List Int) (hs : a.eval s = .slice sa n c) (hown : OwnB base e w sa n c l)
    (xa : Option Addr) (m d : Nat) (k : List Int) (hx : a.eval x = .slice xa m d) (hb : Bs w xa m d k)
    (hbig : n + m ≤ 140737488355328) (hbase : base ≤ w.heap.size)
    (h : ∀ a' c' w', OwnB base e w' a' (n + m) c' (l ++ k) → Below base w w' → wpList P ops Q rest (a.put o.dst (.slice a' (n + m) c')) w') : wpList P ops Q (o :: rest) a w :=
  wpList_step fun K hK => by
    rw [if_pos hw]
    exact wp_app s x t ho e base ht hinf sa n c l hs hown xa m d k hx hb hbig hbase fun a' c' w' h1 h2 => hK _ _ (h a' c' w' h1 h2)

theorem info5 : (Try.prog.info? 5).map (fun i => (i.zero, i.size, i.bytes)) = some (some (.int .u8 0), 1, 1) := by kernel_rfl

theorem Bs.alloc {w : World} {a : Option Addr} {len cap : Nat} {l : List Int} (h : Bs w a len cap l) (o : Obj) : Bs (w.alloc o) a len cap l := h.below ((Below.refl _ _).alloc (Nat.le_refl _) o)
theorem OwnB.alloc {base : Nat} {e : TypeId} {w : World} {a : Option Addr} {len cap : Nat} {l : List Int} (h : OwnB base e w a len cap l) (o : Obj) : OwnB base e (w.alloc o) a len cap l := ⟨h.1.alloc o, h.2⟩

theorem OwnB.form {base : Nat} {e : TypeId} {w : World} {a : Option Addr} {len cap : Nat} {l : List Int} (h : OwnB base e w a len cap l) (ha : a ≠ none) :
    ∃ g, a = some ⟨g, 0, none⟩ ∧ base ≤ g ∧ g < w.heap.size := by
  rcases h.1.2 with ⟨hv, _⟩ | ⟨g, cp, cur, hv, hb, hg, _⟩
  · simp only [Value.slice.injEq] at hv; exact absurd hv.1 ha
  · simp only [Value.slice.injEq] at hv; exact ⟨g, hv.1, hb, (Array.getElem?_eq_some_iff.1 hg).1⟩

theorem OwnB.frozen {base : Nat} {e : TypeId} {w : World} {g len cap : Nat} {l : List Int} (h : OwnB base e w (some ⟨g, 0, none⟩) len cap l) (j : Nat) : w.frozen? ⟨g, j, none⟩ = false := h.1.frozenAt j

theorem OwnB.set {base : Nat} {e : TypeId} {w : World} {g len cap : Nat} {l : List Int} (h : OwnB base e w (some ⟨g, 0, none⟩) len cap l) (j : Nat) (x : Int) (hx : 0 ≤ x ∧ x ≤ 255) :
    OwnB base e (w.setCell ⟨g, j, none⟩ (.int .u8 x)) (some ⟨g, 0, none⟩) len cap (l.set j x) := by
  refine ⟨?_, ?_⟩
  · rw [List.map_set]; exact (h.1.stored j (.int .u8 x)).1
  · intro y hy
    rcases List.mem_or_eq_of_mem_set hy with h1 | rfl
    · exact h.2 y h1
    · exact hx

theorem bt_set (l : List Int) (j k : Nat) (x : Int) (hk : k < l.length) : bt (l.set k x) j = if j = k then x else bt l j := by
  unfold bt
  by_cases h : j = k
  · subst h; simp [List.getD, hk]
  · simp [List.getD, h, Ne.symm h]

/-- Bytes in another block than the one that was written. -/
theorem Bs.grown {w w' : World} {b off len cap : Nat} {l : List Int} {row : Option Nat} (h : Bs w (some ⟨b, off, none⟩) len cap l) (hg : w.grownBy w' row) (hne : some b ≠ row) : Bs w' (some ⟨b, off, none⟩) len cap l :=
  ⟨h.hl, h.lc, h.cm, h.rng, fun h0 => by
    obtain ⟨b', off', ha, hb, hc⟩ := h.at_ h0
    simp only [Option.some.injEq, Addr.mk.injEq] at ha
    obtain ⟨rfl, rfl, _⟩ := ha
    exact ⟨b, off, rfl, Nat.lt_of_lt_of_le hb hg.size, fun j hj => (World.cell?_of_block (hg.block b hb hne)).trans (hc j hj)⟩⟩

/-- An empty row that a literal has laid, by its block. -/
theorem OwnB.emptyAt {base X : Nat} {e : TypeId} {w : World} (h : w.heap[X]? = some (.cells #[] e (0, 0))) (hb : base ≤ X) : OwnB base e w (some ⟨X, 0, none⟩) 0 0 [] :=
  ⟨⟨by simp, .inr ⟨X, 0, #[], rfl, hb, h, Nat.le_refl _, Nat.zero_le _, rfl, by simp⟩⟩, by simp⟩

/-- One byte that a literal has laid, by its block. -/
theorem Bs.oneAt {X : Nat} {e : TypeId} {w : World} {x : Int} {mk : Nat × Nat} (h : w.heap[X]? = some (.cells #[.int .u8 x] e mk)) (hx : 0 ≤ x ∧ x ≤ 255) : Bs w (some ⟨X, 0, none⟩) 1 1 [x] :=
  ⟨rfl, Nat.le_refl _, by decide, by simpa using hx, fun _ => ⟨X, 0, rfl, (Array.getElem?_eq_some_iff.1 h).1, fun j hj => by
    obtain rfl : j = 0 := by omega
    rw [cell_of_row w X (0 + 0) _ e mk h]
    simp [bt, List.getD]⟩⟩

theorem heapAt1 (w : World) (o : Obj) : ((w.alloc o).drew).heap[w.heap.size]? = some o := heap_alloc_new w o
theorem heapAt2 (w : World) (o o' : Obj) : (((w.alloc o).alloc o').drew).heap[w.heap.size]? = some o := (Below.heap_alloc (w.alloc o) o' w.heap.size (by simp)).trans (heap_alloc_new w o)
theorem heapAt3 (w : World) (o o' : Obj) : (((w.alloc o).alloc o').drew).heap[w.heap.size + 1]? = some o' := by
  have h := heap_alloc_new (w.alloc o) o'
  rw [show (w.alloc o).heap.size = w.heap.size + 1 from by simp] at h
  exact h
theorem heapAt4 (w : World) (o : Obj) : (w.alloc o).heap[w.heap.size]? = some o := heap_alloc_new w o

theorem wp_appx {P : Program} {w : World} {o : Oper} {a : Act} {K : Act → World → Prop} {Q : Exit → Act → World → Prop} (s x : Operand) (t : TypeId)
    (ho : o.op = .call { callee := .builtin .append, args := #[s, x], argTypes := #[t, t] })
    (e base : Nat) (ht : P.underlying t = some (.slice e)) (hinf : (P.info? e).map (fun i => (i.zero, i.size, i.bytes)) = some (some (.int .u8 0), 1, 1))
    (sa : Option Addr) (n c : Nat) (l : List Int) (hs : a.eval s = .slice sa n c) (hown : OwnB base e w sa n c l) (hsa : sa ≠ none)
    (xa : Option Addr) (m d : Nat) (k : List Int) (hx : a.eval x = .slice xa m d) (hb : Bs w xa m d k)
    (hbig : n + m ≤ 140737488355328) (hbase : base ≤ w.heap.size)
    (h : ∀ g c' w', OwnB base e w' (some ⟨g, 0, none⟩) (n + m) c' (l ++ k) → w.grownBy w' (Value.ownBlock (.slice sa n c)) → Below base w w' → K (a.put o.dst (.slice (some ⟨g, 0, none⟩) (n + m) c')) w') : o.wp P a w K Q := by
  obtain ⟨i, hi, hz, hsz, hby⟩ := info_parts hinf
  have hlt : n + m ≤ maxLen := by unfold maxLen; omega
  have hrng : ∀ x ∈ l ++ k, 0 ≤ x ∧ x ≤ 255 := by
    intro x hx
    rcases List.mem_append.1 hx with h | h
    · exact hown.2 x h
    · exact hb.rng x h
  have fin : ∀ v' w', w'.ownsRow base e 1 v' (n + m) (l.map (Value.int .u8) ++ k.map (Value.int .u8)) → w.grownBy w' (Value.ownBlock (.slice sa n c)) → v' ≠ .slice none 0 0 → K (a.put o.dst v') w' := by
    intro v' w' ho' hg hne
    rw [← List.map_append] at ho'
    have hbe : Below base w w' := (Below.refl base w).grown hg hbase fun k hk => (hown.1.lt k hk).1
    rcases ho'.2 with ⟨rfl, hn0⟩ | ⟨g, cp, cur, rfl, r⟩
    · exact absurd rfl hne
    · exact h _ _ w' ⟨ho', hrng⟩ hg hbe
  have hvne : Value.slice sa n c ≠ .slice none 0 0 := by intro hh; simp only [Value.slice.injEq] at hh; exact hsa hh.1
  by_cases h0 : 0 < m
  · obtain ⟨b, off, rfl, _, _⟩ := hb.at_ h0
    exact wp_append_own w s x t ho base e i (.int .u8 0) 1 1 ht hi hz hsz hby rfl (by omega) _ _ _ hs hown.1 ⟨b, off, none⟩ m d (k.map (Value.int .u8)) hx (by simp [hb.hl])
      (hb.news b off rfl h0) (fun u hu => by obtain ⟨z, _, rfl⟩ := List.mem_map.1 hu; rfl) hlt (by omega) hbase (fun v' w' h1 h2 h3 => fin v' w' h1 h2 (fun hh => hvne (h3.1 hh).1))
  · have hm0 : m = 0 := by omega
    subst hm0
    have hk0 : k = [] := List.eq_nil_of_length_eq_zero hb.hl
    subst hk0
    cases xa with
    | some ad => exact wp_append_own w s x t ho base e i (.int .u8 0) 1 1 ht hi hz hsz hby rfl (by omega) _ _ _ hs hown.1 ad 0 d [] hx rfl (by simp) (by simp) hlt (by omega) hbase (fun v' w' h1 h2 h3 => fin v' w' (by simpa using h1) h2 (fun hh => hvne (h3.1 hh).1))
    | none =>
      have hr : (Builtin.append_ #[t, t] o.type #[.slice sa n c, .slice none 0 d]).run P w = .ok (.slice sa n c) w := by
        rcases hown.1.2 with ⟨hv, hn⟩ | ⟨g, cp, cur, hv, _, _, hnc, _⟩
        · exact absurd hv (by rw [Value.slice.injEq]; intro hh; exact hsa hh.1)
        · simp only [Value.slice.injEq, true_and] at hv
          obtain ⟨rfl, rfl⟩ := hv
          simp [Builtin.append_, run_underlying ht, sizeOf, typeInfo, hi, Builtin.lenOf, Builtin.firstCells, hnc, storeCells]
      unfold Oper.wp execOp
      simp only [ho, resolve, invoke, builtin, Sem.run_bind, Sem.run_pure, Result.andThen_ok, List.map_toArray, List.map_cons, List.map_nil, hs, hx, hr]
      exact fin _ w (by simpa using hown.1) ⟨rfl, rfl, rfl, Nat.le_refl _, fun _ _ _ => rfl⟩ hvne

/-- The same at a step of a region that draws its order. -/
theorem step_appx {P : Program} {w : World} {ops : Array Oper} {o : Oper} {a : Act} {K : Act → World → Prop} {Q : Exit → Act → World → Prop} {E : Prop} (hgd : o.guard = none) (s x : Operand) (t : TypeId)
    (ho : o.op = .call { callee := .builtin .append, args := #[s, x], argTypes := #[t, t] })
    (e base : Nat) (ht : P.underlying t = some (.slice e)) (hinf : (P.info? e).map (fun i => (i.zero, i.size, i.bytes)) = some (some (.int .u8 0), 1, 1))
    (sa : Option Addr) (n c : Nat) (l : List Int) (hs : a.eval s = .slice sa n c) (hown : OwnB base e w sa n c l) (hsa : sa ≠ none)
    (xa : Option Addr) (m d : Nat) (k : List Int) (hx : a.eval x = .slice xa m d) (hb : Bs w xa m d k)
    (hbig : n + m ≤ 140737488355328) (hbase : base ≤ w.heap.size)
    (h : ∀ g c' w', OwnB base e w' (some ⟨g, 0, none⟩) (n + m) c' (l ++ k) → w.grownBy w' (Value.ownBlock (.slice sa n c)) → Below base w w' → K (a.put o.dst (.slice (some ⟨g, 0, none⟩) (n + m) c')) w') :
    if Region.wanted o (yielded ops a.tmps) = true then o.wp P a w K Q else E := by
  rw [if_pos (show Region.wanted o (yielded ops a.tmps) = true by simp [Region.wanted, hgd])]
  exact wp_appx s x t ho e base ht hinf sa n c l hs hown hsa xa m d k hx hb hbig hbase h

theorem wpList_appx {P : Program} {ops : Array Oper} {rest : List Oper} {w : World} {o : Oper} {a : Act} {Q : Exit → Act → World → Prop} (hw : Region.wanted o (yielded ops a.tmps) = true) (s x : Operand) (t : TypeId)
    (ho : o.op = .call { callee := .builtin .append, args := #[s, x], argTypes := #[t, t] })
    (e base : Nat) (ht : P.underlying t = some (.slice e)) (hinf : (P.info? e).map (fun i => (i.zero, i.size, i.bytes)) = some (some (.int .u8 0), 1, 1))
    (sa : Option Addr) (n c : Nat) (l : List Int) (hs : a.eval s = .slice sa n c) (hown : OwnB base e w sa n c l) (hsa : sa ≠ none)
    (xa : Option Addr) (m d : Nat) (k : List Int) (hx : a.eval x = .slice xa m d) (hb : Bs w xa m d k)
    (hbig : n + m ≤ 140737488355328) (hbase : base ≤ w.heap.size)
    (h : ∀ g c' w', OwnB base e w' (some ⟨g, 0, none⟩) (n + m) c' (l ++ k) → w.grownBy w' (Value.ownBlock (.slice sa n c)) → Below base w w' → wpList P ops Q rest (a.put o.dst (.slice (some ⟨g, 0, none⟩) (n + m) c')) w') : wpList P ops Q (o :: rest) a w :=
  wpList_step fun K hK => by
    rw [if_pos hw]
    exact wp_appx s x t ho e base ht hinf sa n c l hs hown hsa xa m d k hx hb hbig hbase fun g c' w' h1 h2 h3 => hK _ _ (h g c' w' h1 h2 h3)

/-- A row that a literal has laid. -/
theorem OwnB.lit {base : Nat} (w : World) (e : TypeId) (l : List Int) {cs : Array Value} {g n : Nat} (hb : base ≤ w.heap.size) (hc : cs = (l.map (Value.int .u8)).toArray) (hr : ∀ x ∈ l, 0 ≤ x ∧ x ≤ 255) (hg : g = w.heap.size) (hn : n = l.length) (hm : n ≤ maxLen) :
    OwnB base e (w.alloc (.cells cs e)) (some ⟨g, 0, none⟩) n n l := by
  subst hc; subst hn; subst hg
  have := World.ownsRow_lit (base := base) (e := e) (size := 1) w (l.map (Value.int .u8)).toArray l.length hb hm (by simp)
  exact ⟨by simpa using this, hr⟩

/-- A row of zeros that 'make' has laid. -/
theorem OwnB.zeros {base : Nat} (w : World) (e : TypeId) (n : Nat) (hb : base ≤ w.heap.size) (hn : n ≤ 140737488355328) :
    OwnB base e (w.alloc (.cells (madeCells #[.int .u8 0] n) e)) (some ⟨w.heap.size, 0, none⟩) n n (List.replicate n 0) := by
  refine ⟨?_, fun x hx => by rw [List.eq_of_mem_replicate hx]; omega⟩
  have := World.ownsRow_lit (base := base) (e := e) (size := 1) w (madeCells #[.int .u8 0] n) n hb (by unfold maxLen; omega) (by rw [size_madeCells]; omega)
  rw [toList_madeCells_one] at this
  simpa using this

/-- A row of the call's own is as it was behind a call that writes in none of the blocks that there were. -/
theorem OwnB.keep {base B : Nat} {e : TypeId} {w w' : World} {a : Option Addr} {len cap : Nat} {l : List Int} (h : OwnB base e w a len cap l) (hb : Below B w w') (hB : w.heap.size ≤ B) : OwnB base e w' a len cap l :=
  ⟨h.1.kept (row := none) ⟨hb.os, hb.tape, hb.output, hb.size, fun j hj _ => hb.block j (by omega)⟩ (by cases hv : (Value.slice a len cap).ownBlock <;> simp), h.2⟩

theorem OwnB.none0 {base : Nat} {e : TypeId} {w : World} : OwnB base e w none 0 0 [] := ⟨⟨rfl, .inl ⟨rfl, rfl⟩⟩, by simp⟩

/-- A cell of a row of the call's own. -/
theorem OwnB.cell {base : Nat} {e : TypeId} {w : World} {g len cap : Nat} {l : List Int} (h : OwnB base e w (some ⟨g, 0, none⟩) len cap l) (k : Nat) (hk : k < len) : w.cell? ⟨g, k, none⟩ = some (.int .u8 (bt l k)) := by
  obtain ⟨b, off, hab, _, hc⟩ := h.bs.at_ (by omega)
  simp only [Option.some.injEq, Addr.mk.injEq] at hab
  obtain ⟨rfl, rfl, _⟩ := hab
  simpa using hc k hk

end Go.Proofs.Ytoapfchdmfmdeaa
