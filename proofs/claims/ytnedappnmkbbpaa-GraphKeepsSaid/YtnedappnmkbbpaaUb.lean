/- What the walks are told of a slice of bytes: which numbers it holds, in which world; how that is kept; and what an append onto a row of the call's own makes. No program here. -/
import Derived.Test.YtnedappnmkbbpaaUm
import Derived.WalkKit
import Derived.WalkSpells
import Derived.WalkLawsBesides
import Derived.Laws.OwnMore
import Derived.WalkSmall
namespace Go.Proofs.Ytnedappnmkbbpaa
open Go.RowKit

/-- The slice value (a, len, cap) reads, in the world w, as the bytes l. -/
structure Bs (w : World) (a : Option Addr) (len cap : Nat) (l : List Int) : Prop where
  hl : l.length = len
  lc : len ≤ cap
  cm : cap ≤ maxLen
  rng : ∀ x ∈ l, 0 ≤ x ∧ x ≤ 255
  at_ : 0 < len → ∃ b off, a = some ⟨b, off, none⟩ ∧ b < w.heap.size ∧ ∀ j, j < len → w.cell? ⟨b, off + j, none⟩ = some (.int .u8 (bt l j))

theorem addr_add (b off j : Nat) : (⟨b, off, none⟩ : Addr).add j = ⟨b, off + j, none⟩ := by unfold Addr.add; split <;> simp_all

theorem bt_rng {l : List Int} (h : ∀ x ∈ l, 0 ≤ x ∧ x ≤ 255) (j : Nat) : 0 ≤ bt l j ∧ bt l j ≤ 255 := by
  unfold bt
  by_cases hj : j < l.length
  · rw [show l.getD j 0 = l[j] from by simp [List.getD, hj]]; exact h _ (List.getElem_mem hj)
  · rw [show l.getD j 0 = 0 from by simp [List.getD, List.getElem?_eq_none (Nat.le_of_not_lt hj)]]; omega

theorem bt_drop (l : List Int) (k j : Nat) : bt (l.drop k) j = bt l (k + j) := by unfold bt; simp [List.getD]
theorem bt_take (l : List Int) (k j : Nat) (h : j < k) : bt (l.take k) j = bt l j := by unfold bt; simp [List.getD, h]

theorem Bs.lt {w : World} {a : Option Addr} {len cap : Nat} {l : List Int} (h : Bs w a len cap l) : len ≤ maxLen := Nat.le_trans h.lc h.cm

theorem Bs.keep {w w' : World} {a : Option Addr} {len cap : Nat} {l : List Int} (h : Bs w a len cap l) (hs : w.heap.size ≤ w'.heap.size)
    (hk : ∀ x, x.block < w.heap.size → w'.cell? x = w.cell? x) : Bs w' a len cap l :=
  ⟨h.hl, h.lc, h.cm, h.rng, fun h0 => by
    obtain ⟨b, off, ha, hb, hc⟩ := h.at_ h0
    exact ⟨b, off, ha, by omega, fun j hj => (hk _ hb).trans (hc j hj)⟩⟩

theorem Bs.below {w w' : World} {a : Option Addr} {len cap : Nat} {l : List Int} (h : Bs w a len cap l) (hb : Below w.heap.size w w') : Bs w' a len cap l :=
  h.keep hb.size fun _ hx => hb.cell hx

theorem Bs.nil (w : World) (a : Option Addr) (cap : Nat) (h : cap ≤ maxLen) : Bs w a 0 cap [] := ⟨rfl, Nat.zero_le _, h, by simp, fun h => by omega⟩

/-- The bytes from k on, at the address that Go reckons. -/
theorem Bs.drop {w : World} {b off len cap : Nat} {l : List Int} (h : Bs w (some ⟨b, off, none⟩) len cap l) {k : Nat} (hk : k ≤ len) : Bs w (some ⟨b, off + k, none⟩) (len - k) (cap - k) (l.drop k) :=
  ⟨by rw [List.length_drop, h.hl], by have := h.lc; omega, by have := h.cm; omega, fun x hx => h.rng x (List.drop_subset _ _ hx), fun h0 => by
    obtain ⟨b', off', ha, hb, hc⟩ := h.at_ (by omega)
    simp only [Option.some.injEq, Addr.mk.injEq] at ha
    obtain ⟨rfl, rfl, _⟩ := ha
    exact ⟨b, off + k, rfl, hb, fun j hj => by rw [bt_drop, Nat.add_assoc]; exact hc _ (by omega)⟩⟩

/-- Nothing is left. -/
theorem Bs.none_left {w : World} {a : Option Addr} {len cap : Nat} {l : List Int} (h : Bs w a len cap l) (a' : Option Addr) (c' : Nat) (hc : c' ≤ maxLen) : Bs w a' 0 c' (l.drop len) := by
  rw [show l.drop len = [] from by rw [List.drop_eq_nil_iff, h.hl]; omega]
  exact Bs.nil w a' c' hc

/-- The first k bytes. -/
theorem Bs.take {w : World} {a : Option Addr} {len cap : Nat} {l : List Int} (h : Bs w a len cap l) {k c' : Nat} (hk : k ≤ len) (hc : k ≤ c') (hm : c' ≤ maxLen) : Bs w a k c' (l.take k) :=
  ⟨by rw [List.length_take, h.hl]; omega, hc, hm, fun x hx => h.rng x (List.take_subset _ _ hx), fun h0 => by
    obtain ⟨b', off', ha, hb, hcc⟩ := h.at_ (by omega)
    exact ⟨b', off', ha, hb, fun j hj => by rw [bt_take _ _ _ hj]; exact hcc _ (by omega)⟩⟩

/-- A row of bytes that the call itself has made, from block 'base' on. -/
def OwnB (base : Nat) (e : TypeId) (w : World) (a : Option Addr) (len cap : Nat) (l : List Int) : Prop :=
  w.ownsRow base e 1 (.slice a len cap) len (l.map (Value.int .u8)) ∧ ∀ x ∈ l, 0 ≤ x ∧ x ≤ 255

theorem OwnB.bs {base : Nat} {e : TypeId} {w : World} {a : Option Addr} {len cap : Nat} {l : List Int} (h : OwnB base e w a len cap l) : Bs w a len cap l := by
  obtain ⟨⟨hl, h1⟩, hr⟩ := h
  have hl' : l.length = len := by simpa using hl
  rcases h1 with ⟨hv, hn⟩ | ⟨g, cp, cur, hv, hb, hg, hnc, hcm, hcs, htake⟩
  · simp only [Value.slice.injEq] at hv
    obtain ⟨rfl, rfl, rfl⟩ := hv
    exact ⟨hl', Nat.le_refl _, Nat.zero_le _, hr, fun h => by omega⟩
  · simp only [Value.slice.injEq, true_and] at hv
    obtain ⟨rfl, rfl⟩ := hv
    have hgl : g < w.heap.size := (Array.getElem?_eq_some_iff.1 hg).1
    refine ⟨hl', hnc, hcm, hr, fun h => ⟨g, 0, rfl, hgl, fun j hj => ?_⟩⟩
    have hc := World.ownsRow.cells (w := w) (base := base) (e := e) (size := 1) (v := .slice (some ⟨g, 0, none⟩) len cap) (n := len) (xs := l.map (Value.int .u8))
      ⟨by simpa using hl', .inr ⟨g, cap, cur, rfl, hb, hg, hnc, hcm, hcs, htake⟩⟩ (g := g) rfl j (.int .u8 (bt l j)) (by
        rw [List.getElem?_map, List.getElem?_eq_getElem (by omega)]; simp [bt, List.getD, show j < l.length from by omega])
    rw [addr_add] at hc; simpa using hc

theorem OwnB.made {base : Nat} {e : TypeId} {w : World} (hb : base ≤ w.heap.size) : OwnB base e (w.alloc (.cells #[] e)) (some ⟨w.heap.size, 0, none⟩) 0 0 [] :=
  ⟨World.ownsRow_made w #[] 0 hb (Nat.zero_le _) rfl, by simp⟩

/-- A slice that a literal has laid. -/
theorem Bs.lit {l : List Int} {cs : Array Value} (w : World) (e : TypeId) {mk : Nat × Nat} (hc : cs = (l.map (Value.int .u8)).toArray) (hr : ∀ x ∈ l, 0 ≤ x ∧ x ≤ 255) {g n : Nat} (hg : g = w.heap.size) (hn : n = l.length) (hm : n ≤ maxLen) : Bs (w.alloc (.cells cs e mk)) (some ⟨g, 0, none⟩) n n l := by
  subst hc; subst hn; subst hg
  refine ⟨rfl, Nat.le_refl _, hm, hr, fun _ => ⟨w.heap.size, 0, rfl, by simp, fun j hj => ?_⟩⟩
  rw [cell_of_row (w.alloc (.cells (l.map (Value.int .u8)).toArray e mk)) w.heap.size (0 + j) _ e mk (heap_alloc_new w _)]
  simp [bt, List.getD, hj]

theorem Bs.news {w : World} {a : Option Addr} {len cap : Nat} {l : List Int} (h : Bs w a len cap l) : ∀ b off, a = some ⟨b, off, none⟩ → 0 < len → ∀ j u, (l.map (Value.int .u8))[j]? = some u → w.cell? ((⟨b, off, none⟩ : Addr).add j) = some u := by
  intro b off ha h0 j u hj
  obtain ⟨b', off', ha', _, hc⟩ := h.at_ h0
  subst ha
  simp only [Option.some.injEq, Addr.mk.injEq] at ha'
  obtain ⟨rfl, rfl, _⟩ := ha'
  rw [List.getElem?_map] at hj
  have hjl : j < l.length := by
    apply Decidable.byContradiction
    intro hn
    rw [List.getElem?_eq_none (by omega)] at hj
    simp at hj
  rw [List.getElem?_eq_getElem hjl] at hj
  simp only [Option.map_some, Option.some.injEq] at hj
  have := hc j (by have := h.hl; omega)
  rw [show bt l j = l[j] from by simp [bt, List.getD, hjl]] at this
  rw [← hj, ← this, addr_add]

/-- 'append(s, x...)', s a row of the call's own, x whatever slice of bytes: a row of the call's own, with the bytes of both; below 'base' all is as it was. -/
theorem wp_app {P : Program} {w : World} {o : Oper} {a : Act} {K : Act → World → Prop} {Q : Exit → Act → World → Prop} (s x : Operand) (t : TypeId)
    (ho : o.op = .call { callee := .builtin .append, args := #[s, x], argTypes := #[t, t] })
    (e base : Nat) (ht : P.underlying t = some (.slice e)) (hinf : (P.info? e).map (fun i => (i.zero, i.size, i.bytes)) = some (some (.int .u8 0), 1, 1))
    (sa : Option Addr) (n c : Nat) (l : List Int) (hs : a.eval s = .slice sa n c) (hown : OwnB base e w sa n c l)
    (xa : Option Addr) (m d : Nat) (k : List Int) (hx : a.eval x = .slice xa m d) (hb : Bs w xa m d k)
    (hbig : n + m ≤ 140737488355328) (hbase : base ≤ w.heap.size)
    (h : ∀ a' c' w', OwnB base e w' a' (n + m) c' (l ++ k) → Below base w w' → K (a.put o.dst (.slice a' (n + m) c')) w') : o.wp P a w K Q := by
  obtain ⟨i, hi, hz, hsz, hby⟩ := info_parts hinf
  have hlt : n + m ≤ maxLen := by unfold maxLen; omega
  have hrng : ∀ x ∈ l ++ k, 0 ≤ x ∧ x ≤ 255 := by
    intro x hx
    rcases List.mem_append.1 hx with h | h
    · exact hown.2 x h
    · exact hb.rng x h
  have fin : ∀ v' w', w'.ownsRow base e 1 v' (n + m) (l.map (Value.int .u8) ++ k.map (Value.int .u8)) → w.grownBy w' (Value.ownBlock (.slice sa n c)) → K (a.put o.dst v') w' := by
    intro v' w' ho' hg
    rw [← List.map_append] at ho'
    have hbe : Below base w w' := (Below.refl base w).grown hg hbase fun k hk => (hown.1.lt k hk).1
    rcases ho'.2 with ⟨rfl, hn0⟩ | ⟨g, cp, cur, rfl, r⟩
    · have hh := h none 0 w' (by rw [hn0]; rw [hn0] at ho'; exact ⟨ho', hrng⟩) hbe
      rw [hn0] at hh; exact hh
    · exact h _ _ w' ⟨ho', hrng⟩ hbe
  by_cases h0 : 0 < m
  · obtain ⟨b, off, rfl, _, _⟩ := hb.at_ h0
    exact wp_append_own w s x t ho base e i (.int .u8 0) 1 1 ht hi hz hsz hby rfl (by omega) _ _ _ hs hown.1 ⟨b, off, none⟩ m d (k.map (Value.int .u8)) hx (by simp [hb.hl])
      (hb.news b off rfl h0) (fun u hu => by obtain ⟨z, _, rfl⟩ := List.mem_map.1 hu; rfl) hlt (by omega) hbase (fun v' w' h1 h2 _ => fin v' w' h1 h2)
  · have hm0 : m = 0 := by omega
    subst hm0
    have hk0 : k = [] := List.eq_nil_of_length_eq_zero hb.hl
    subst hk0
    cases xa with
    | some ad => exact wp_append_own w s x t ho base e i (.int .u8 0) 1 1 ht hi hz hsz hby rfl (by omega) _ _ _ hs hown.1 ad 0 d [] hx rfl (by simp) (by simp) hlt (by omega) hbase (fun v' w' h1 h2 _ => fin v' w' (by simpa using h1) h2)
    | none =>
      have hr : (Builtin.append_ #[t, t] o.type #[.slice sa n c, .slice none 0 d]).run P w = .ok (.slice sa n c) w := by
        rcases hown.1.2 with ⟨hv, hn⟩ | ⟨g, cp, cur, hv, _, _, hnc, _⟩
        · simp only [Value.slice.injEq] at hv
          obtain ⟨rfl, rfl, rfl⟩ := hv
          simp [Builtin.append_, run_underlying ht, sizeOf, typeInfo, hi, Builtin.lenOf, Builtin.firstCells]
        · simp only [Value.slice.injEq, true_and] at hv
          obtain ⟨rfl, rfl⟩ := hv
          simp [Builtin.append_, run_underlying ht, sizeOf, typeInfo, hi, Builtin.lenOf, Builtin.firstCells, hnc, storeCells]
      unfold Oper.wp execOp
      simp only [ho, resolve, invoke, builtin, Sem.run_bind, Sem.run_pure, Result.andThen_ok, List.map_toArray, List.map_cons, List.map_nil, hs, hx, hr]
      exact fin _ w (by simpa using hown.1) ⟨rfl, rfl, rfl, Nat.le_refl _, fun _ _ _ => rfl⟩

end Go.Proofs.Ytnedappnmkbbpaa
