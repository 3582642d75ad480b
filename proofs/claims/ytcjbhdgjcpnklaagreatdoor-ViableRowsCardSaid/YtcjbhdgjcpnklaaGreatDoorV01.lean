import Derived.WalkKit
import Derived.WalkSpells
import Derived.WalkLawsBesides
import Derived.Laws.OwnMore
import Derived.WalkSmall
import Derived.ProofKit
import Derived.Test.YtcjbhdgjcpnklaaGreatDoorRows
import Derived.Deep.RegionLaw
import Derived.Laws.BitsAllLaws
import Derived.Lib.Hide
import Derived.Deep.OwnRows
import Derived.Laws.IdiomStrings
import Derived.IntWalk
import Derived.Deep.QuietTactic
import Derived.BigQuiet
import Derived.Shelf.Small.Wraps
import Derived.Shelf.LaysM
import Derived.Shelf.Strconv.Clone
import Derived.Shelf.Strings.Search1
import Derived.Shelf.Strings.Search2
import Derived.Shelf.Strings.Cut
import Derived.Shelf.Strings.Shaped
import Derived.Shelf.Sort.Plain
import Derived.Shelf.Strings.Prefix
import Derived.Shelf.Slices.CompactS
import Derived.Shelf.Slices.In.SortNone
import Derived.Test.YtcjbhdgjcpnklaaGreatDoorProg
import Derived.Test.YtcjbhdgjcpnklaaGreatDoorV22
namespace Go.Proofs.YtcjbhdgjcpnklaaGreatDoor
section
def bt (l : List Int) (j : Nat) : Int := l.getD j 0
def lenOf (c : Int) : Nat := if c ≤ 127 then 1 else if c < 194 then 0 else if c ≤ 223 then 2 else if c ≤ 239 then 3 else if c ≤ 244 then 4 else 0
def loOf (c : Int) : Int := if c = 224 then 160 else if c = 240 then 144 else 128
def hiOf (c : Int) : Int := if c = 237 then 159 else if c = 244 then 143 else 191
def lowAt (c : Int) (j : Nat) : Int := if j = 0 then loOf c else 128
def highAt (c : Int) (j : Nat) : Int := if j = 0 then hiOf c else 191
def goodTo (l : List Int) (k : Nat) : Prop := ∀ j, j < k → lowAt (bt l 0) j ≤ bt l (j + 1) ∧ bt l (j + 1) ≤ highAt (bt l 0) j
instance (l : List Int) (k : Nat) : Decidable (goodTo l k) := by unfold goodTo; infer_instance
def okSeq (l : List Int) : Bool := decide (l ≠ [] ∧ 0 < lenOf (bt l 0) ∧ lenOf (bt l 0) ≤ l.length ∧ goodTo l (lenOf (bt l 0) - 1))
def takeN (l : List Int) : Nat := if l = [] then 0 else if okSeq l then lenOf (bt l 0) else 1
theorem zE8 (c : Int) : lenOf c ≤ 4 := by unfold lenOf; (repeat' split) <;> omega
theorem zAp (l : List Int) : okSeq l = true ↔ (l ≠ [] ∧ 0 < lenOf (bt l 0) ∧ lenOf (bt l 0) ≤ l.length ∧ goodTo l (lenOf (bt l 0) - 1)) := by unfold okSeq; simp
theorem zDj {l : List Int} (h : okSeq l = true) : 0 < lenOf (bt l 0) ∧ lenOf (bt l 0) ≤ l.length := ⟨((zAp l).1 h).2.1, ((zAp l).1 h).2.2.1⟩
theorem zAy {l : List Int} (h : l ≠ []) : 0 < takeN l := by
 unfold takeN; rw [if_neg h]; split
 ·exact (zDj (by assumption)).1
 ·omega
theorem zCK (l : List Int) : takeN l ≤ l.length := by
 unfold takeN; split
 ·omega
 ·split
  ·exact (zDj (by assumption)).2
  ·cases l with
   | nil => contradiction
   | cons => simp
theorem zDk (l : List Int) : takeN l ≤ 4 := by
 unfold takeN; split
 ·omega
 ·split
  ·exact zE8 _
  ·omega
end
section
open Go.RowKit
structure Bs (w : World) (a : Option Addr) (len cap : Nat) (l : List Int) : Prop where
 hl : l.length = len
 lc : len ≤ cap
 cm : cap ≤ maxLen
 rng : ∀ x ∈ l, 0 ≤ x ∧ x ≤ 255
 at_ : 0 < len → ∃ b off, a = some ⟨b, off, none⟩ ∧ b < w.heap.size ∧ ∀ j, j < len → w.cell? ⟨b, off + j, none⟩ = some (.int .u8 (bt l j))
theorem zAe (b off j : Nat) : (⟨b, off, none⟩ : Addr).add j = ⟨b, off + j, none⟩ := by unfold Addr.add; split <;> simp_all
theorem zAI {l : List Int} (h : ∀ x ∈ l, 0 ≤ x ∧ x ≤ 255) (j : Nat) : 0 ≤ bt l j ∧ bt l j ≤ 255 := by
 unfold bt
 by_cases hj : j < l.length
 ·rw [show l.getD j 0 = l[j] from by simp [List.getD, hj]]; exact h _ (List.getElem_mem hj)
 ·rw [show l.getD j 0 = 0 from by simp [List.getD, List.getElem?_eq_none (Nat.le_of_not_lt hj)]]; omega
theorem zAB (l : List Int) (k j : Nat) : bt (l.drop k) j = bt l (k + j) := by unfold bt; simp [List.getD]
theorem zDl (l : List Int) (k j : Nat) (h : j < k) : bt (l.take k) j = bt l j := by unfold bt; simp [List.getD, h]
theorem Bs.lt {w : World} {a : Option Addr} {len cap : Nat} {l : List Int} (h : Bs w a len cap l) : len ≤ maxLen := Nat.le_trans h.lc h.cm
theorem Bs.keep {w w' : World} {a : Option Addr} {len cap : Nat} {l : List Int} (h : Bs w a len cap l) (hs : w.heap.size ≤ w'.heap.size)
  (hk : ∀ x, x.block < w.heap.size → w'.cell? x = w.cell? x) : Bs w' a len cap l :=
 ⟨h.hl, h.lc, h.cm, h.rng, fun h0 => by
  obtain ⟨b, off, ha, hb, hc⟩ := h.at_ h0
  exact ⟨b, off, ha, by omega, fun j hj => (hk _ hb).trans (hc j hj)⟩⟩
theorem Bs.below {w w' : World} {a : Option Addr} {len cap : Nat} {l : List Int} (h : Bs w a len cap l) (hb : Below w.heap.size w w') : Bs w' a len cap l :=
 h.keep hb.size fun _ hx => hb.cell hx
theorem Bs.nil (w : World) (a : Option Addr) (cap : Nat) (h : cap ≤ maxLen) : Bs w a 0 cap [] := ⟨rfl, Nat.zero_le _, h, by simp, fun h => by omega⟩
theorem Bs.drop {w : World} {b off len cap : Nat} {l : List Int} (h : Bs w (some ⟨b, off, none⟩) len cap l) {k : Nat} (hk : k ≤ len) : Bs w (some ⟨b, off + k, none⟩) (len - k) (cap - k) (l.drop k) :=
 ⟨by rw [List.length_drop, h.hl], by have := h.lc; omega, by have := h.cm; omega, fun x hx => h.rng x (List.drop_subset _ _ hx), fun h0 => by
  obtain ⟨b', off', ha, hb, hc⟩ := h.at_ (by omega)
  simp only [Option.some.injEq, Addr.mk.injEq] at ha
  obtain ⟨rfl, rfl, _⟩ := ha
  exact ⟨b, off + k, rfl, hb, fun j hj => by rw [zAB, Nat.add_assoc]; exact hc _ (by omega)⟩⟩
theorem Bs.none_left {w : World} {a : Option Addr} {len cap : Nat} {l : List Int} (h : Bs w a len cap l) (a' : Option Addr) (c' : Nat) (hc : c' ≤ maxLen) : Bs w a' 0 c' (l.drop len) := by
 rw [show l.drop len = [] from by rw [List.drop_eq_nil_iff, h.hl]; omega]
 exact Bs.nil w a' c' hc
theorem Bs.take {w : World} {a : Option Addr} {len cap : Nat} {l : List Int} (h : Bs w a len cap l) {k c' : Nat} (hk : k ≤ len) (hc : k ≤ c') (hm : c' ≤ maxLen) : Bs w a k c' (l.take k) :=
 ⟨by rw [List.length_take, h.hl]; omega, hc, hm, fun x hx => h.rng x (List.take_subset _ _ hx), fun h0 => by
  obtain ⟨b', off', ha, hb, hcc⟩ := h.at_ (by omega)
  exact ⟨b', off', ha, hb, fun j hj => by rw [zDl _ _ _ hj]; exact hcc _ (by omega)⟩⟩
def OwnB (base : Nat) (e : TypeId) (w : World) (a : Option Addr) (len cap : Nat) (l : List Int) : Prop :=
 w.ownsRow base e 1 (.slice a len cap) len (l.map (Value.int .u8)) ∧ ∀ x ∈ l, 0 ≤ x ∧ x ≤ 255
theorem OwnB.bs {base : Nat} {e : TypeId} {w : World} {a : Option Addr} {len cap : Nat} {l : List Int} (h : OwnB base e w a len cap l) : Bs w a len cap l := by
 obtain ⟨⟨hl, h1⟩, hr⟩ := h
 have hl' : l.length = len := by simpa using hl
 rcases h1 with ⟨hv, hn⟩ | ⟨g, cp, cur, hv, hb, hg, hnc, hcm, hcs, htake⟩
 ·simp only [Value.slice.injEq] at hv
  obtain ⟨rfl, rfl, rfl⟩ := hv
  exact ⟨hl', Nat.le_refl _, Nat.zero_le _, hr, fun h => by omega⟩
 ·simp only [Value.slice.injEq, true_and] at hv
  obtain ⟨rfl, rfl⟩ := hv
  have hgl : g < w.heap.size := (Array.getElem?_eq_some_iff.1 hg).1
  refine ⟨hl', hnc, hcm, hr, fun h => ⟨g, 0, rfl, hgl, fun j hj => ?_⟩⟩
  have hc := World.ownsRow.cells (w := w) (base := base) (e := e) (size := 1) (v := .slice (some ⟨g, 0, none⟩) len cap) (n := len) (xs := l.map (Value.int .u8))
   ⟨by simpa using hl', .inr ⟨g, cap, cur, rfl, hb, hg, hnc, hcm, hcs, htake⟩⟩ (g := g) rfl j (.int .u8 (bt l j)) (by
    rw [List.getElem?_map, List.getElem?_eq_getElem (by omega)]; simp [bt, List.getD, show j < l.length from by omega])
  rw [zAe] at hc; simpa using hc
theorem OwnB.made {base : Nat} {e : TypeId} {w : World} (hb : base ≤ w.heap.size) : OwnB base e (w.alloc (.cells #[] e)) (some ⟨w.heap.size, 0, none⟩) 0 0 [] :=
 ⟨World.ownsRow_made w #[] 0 hb (Nat.zero_le _) rfl, by simp⟩
theorem Bs.lit {l : List Int} {cs : Array Value} (w : World) (e : TypeId) {mk : Nat × Nat} (hc : cs = (l.map (Value.int .u8)).toArray) (hr : ∀ x ∈ l, 0 ≤ x ∧ x ≤ 255) {g n : Nat} (hg : g = w.heap.size) (hn : n = l.length) (hm : n ≤ maxLen) : Bs (w.alloc (.cells cs e mk)) (some ⟨g, 0, none⟩) n n l := by
 subst hc; subst hn; subst hg
 refine ⟨rfl, Nat.le_refl _, hm, hr, fun _ => ⟨w.heap.size, 0, rfl, by simp, fun j hj => ?_⟩⟩
 rw [cell_of_row (w.alloc (.cells (l.map (Value.int .u8)).toArray e mk)) w.heap.size (0 + j) _ e mk (heap_alloc_new w _)]
 simp [bt, List.getD, hj]
theorem Bs.news {w : World} {a : Option Addr} {len cap : Nat} {l : List Int} (h : Bs w a len cap l) : ∀ b off, a = some ⟨b, off, none⟩ → 0 < len → ∀ j u, (l.map (Value.int .u8))[j]? = some u → w.cell? ((⟨b, off, none⟩ : Addr).add j) = some u := by
 intro b off ha h0 j u hj
 obtain ⟨b', off', ha', _, hc⟩ := h.at_ h0
 subst ha
 simp only [Option.some.injEq, Addr.mk.injEq] at ha'
 obtain ⟨rfl, rfl, _⟩ := ha'
 rw [List.getElem?_map] at hj
 have hjl : j < l.length := by
  apply Decidable.byContradiction
  intro hn
  rw [List.getElem?_eq_none (by omega)] at hj
  simp at hj
 rw [List.getElem?_eq_getElem hjl] at hj
 simp only [Option.map_some, Option.some.injEq] at hj
 have := hc j (by have := h.hl; omega)
 rw [show bt l j = l[j] from by simp [bt, List.getD, hjl]] at this
 rw [← hj, ← this, zAe]
theorem zPN {P : Program} {w : World} {o : Oper} {a : Act} {K : Act → World → Prop} {Q : Exit → Act → World → Prop} (s x : Operand) (t : TypeId)
  (ho : o.op = .call { callee := .builtin .append, args := #[s, x], argTypes := #[t, t] })
  (e base : Nat) (ht : P.underlying t = some (.slice e)) (hinf : (P.info? e).map (fun i => (i.zero, i.size, i.bytes)) = some (some (.int .u8 0), 1, 1))
  (sa : Option Addr) (n c : Nat) (l : List Int) (hs : a.eval s = .slice sa n c) (hown : OwnB base e w sa n c l)
  (xa : Option Addr) (m d : Nat) (k : List Int) (hx : a.eval x = .slice xa m d) (hb : Bs w xa m d k)
  (hbig : n + m ≤ 140737488355328) (hbase : base ≤ w.heap.size)
  (h : ∀ a' c' w', OwnB base e w' a' (n + m) c' (l ++ k) → Below base w w' → K (a.put o.dst (.slice a' (n + m) c')) w') : o.wp P a w K Q := by
 obtain ⟨i, hi, hz, hsz, hby⟩ := info_parts hinf
 have hlt : n + m ≤ maxLen := by unfold maxLen; omega
 have hrng : ∀ x ∈ l ++ k, 0 ≤ x ∧ x ≤ 255 := by
  intro x hx
  rcases List.mem_append.1 hx with h | h
  ·exact hown.2 x h
  ·exact hb.rng x h
 have fin : ∀ v' w', w'.ownsRow base e 1 v' (n + m) (l.map (Value.int .u8) ++ k.map (Value.int .u8)) → w.grownBy w' (Value.ownBlock (.slice sa n c)) → K (a.put o.dst v') w' := by
  intro v' w' ho' hg
  rw [← List.map_append] at ho'
  have hbe : Below base w w' := (Below.refl base w).grown hg hbase fun k hk => (hown.1.lt k hk).1
  rcases ho'.2 with ⟨rfl, hn0⟩ | ⟨g, cp, cur, rfl, r⟩
  ·have hh := h none 0 w' (by rw [hn0]; rw [hn0] at ho'; exact ⟨ho', hrng⟩) hbe
   rw [hn0] at hh; exact hh
  ·exact h _ _ w' ⟨ho', hrng⟩ hbe
 by_cases h0 : 0 < m
 ·obtain ⟨b, off, rfl, _, _⟩ := hb.at_ h0
  exact wp_append_own w s x t ho base e i (.int .u8 0) 1 1 ht hi hz hsz hby rfl (by omega) _ _ _ hs hown.1 ⟨b, off, none⟩ m d (k.map (Value.int .u8)) hx (by simp [hb.hl])
   (hb.news b off rfl h0) (fun u hu => by obtain ⟨z, _, rfl⟩ := List.mem_map.1 hu; rfl) hlt (by omega) hbase (fun v' w' h1 h2 _ => fin v' w' h1 h2)
 ·have hm0 : m = 0 := by omega
  subst hm0
  have hk0 : k = [] := List.eq_nil_of_length_eq_zero hb.hl
  subst hk0
  cases xa with
  | some ad => exact wp_append_own w s x t ho base e i (.int .u8 0) 1 1 ht hi hz hsz hby rfl (by omega) _ _ _ hs hown.1 ad 0 d [] hx rfl (by simp) (by simp) hlt (by omega) hbase (fun v' w' h1 h2 _ => fin v' w' (by simpa using h1) h2)
  | none =>
   have hr : (Builtin.append_ #[t, t] o.type #[.slice sa n c, .slice none 0 d]).run P w = .ok (.slice sa n c) w := by
    rcases hown.1.2 with ⟨hv, hn⟩ | ⟨g, cp, cur, hv, _, _, hnc, _⟩
    ·simp only [Value.slice.injEq] at hv
     obtain ⟨rfl, rfl, rfl⟩ := hv
     simp [Builtin.append_, run_underlying ht, sizeOf, typeInfo, hi, Builtin.lenOf, Builtin.firstCells]
    ·simp only [Value.slice.injEq, true_and] at hv
     obtain ⟨rfl, rfl⟩ := hv
     simp [Builtin.append_, run_underlying ht, sizeOf, typeInfo, hi, Builtin.lenOf, Builtin.firstCells, hnc, storeCells]
   unfold Oper.wp execOp
   simp only [ho, resolve, invoke, builtin, Sem.run_bind, Sem.run_pure, Result.andThen_ok, List.map_toArray, List.map_cons, List.map_nil, hs, hx, hr]
   exact fin _ w (by simpa using hown.1) ⟨rfl, rfl, rfl, Nat.le_refl _, fun _ _ _ => rfl⟩
end
section
open Go.RowKit
end
section
open Go.RowKit
theorem zE9 {k : IntKind} {a b : Int} (h : a = b) : Ending.returned (.int k a) = .returned (.int k b) := by rw [h]
theorem zLo {k k' : IntKind} {a b a' b' : Int} (h : a = b) (h' : a' = b') : Ending.returned (.tuple #[.int k a, .int k' a']) = .returned (.tuple #[.int k b, .int k' b']) := by rw [h, h']
theorem zNB {k : IntKind} {a b : Int} {x y : Bool} (h : a = b) (h' : x = y) : Ending.returned (.tuple #[.int k a, .bool x]) = .returned (.tuple #[.int k b, .bool y]) := by rw [h, h']
theorem zAk {a b : Bool} (h : a = b) : Ending.returned (.bool a) = .returned (.bool b) := by rw [h]
theorem zCL {c : Int} (h : (Lit.int .u8 c).wf = true) : 0 ≤ c ∧ c ≤ 255 := by
 have h1 : IntKind.u8.min = 0 := rfl
 have h2 : IntKind.u8.max = 255 := rfl
 simp only [Lit.wf, Bool.and_eq_true, decide_eq_true_eq] at h
 omega
end
section
open Go.RowKit
theorem zAv {P : Program} {ops : Array Oper} {rest : List Oper} {w : World} {o : Oper} {a : Act} {Q : Exit → Act → World → Prop} (hw : Region.wanted o (yielded ops a.tmps) = true) (s x : Operand) (t : TypeId)
  (ho : o.op = .call { callee := .builtin .append, args := #[s, x], argTypes := #[t, t] })
  (e base : Nat) (ht : P.underlying t = some (.slice e)) (hinf : (P.info? e).map (fun i => (i.zero, i.size, i.bytes)) = some (some (.int .u8 0), 1, 1))
  (sa : Option Addr) (n c : Nat) (l : List Int) (hs : a.eval s = .slice sa n c) (hown : OwnB base e w sa n c l)
  (xa : Option Addr) (m d : Nat) (k : List Int) (hx : a.eval x = .slice xa m d) (hb : Bs w xa m d k)
  (hbig : n + m ≤ 140737488355328) (hbase : base ≤ w.heap.size)
  (h : ∀ a' c' w', OwnB base e w' a' (n + m) c' (l ++ k) → Below base w w' → wpList P ops Q rest (a.put o.dst (.slice a' (n + m) c')) w') : wpList P ops Q (o :: rest) a w :=
 wpList_step fun K hK => by
  rw [if_pos hw]
  exact zPN s x t ho e base ht hinf sa n c l hs hown xa m d k hx hb hbig hbase fun a' c' w' h1 h2 => hK _ _ (h a' c' w' h1 h2)
theorem info5 : (Tryz.prog.info? 5).map (fun i => (i.zero, i.size, i.bytes)) = some (some (.int .u8 0), 1, 1) := by kernel_rfl
theorem Bs.alloc {w : World} {a : Option Addr} {len cap : Nat} {l : List Int} (h : Bs w a len cap l) (o : Obj) : Bs (w.alloc o) a len cap l := h.below ((Below.refl _ _).alloc (Nat.le_refl _) o)
theorem OwnB.alloc {base : Nat} {e : TypeId} {w : World} {a : Option Addr} {len cap : Nat} {l : List Int} (h : OwnB base e w a len cap l) (o : Obj) : OwnB base e (w.alloc o) a len cap l := ⟨h.1.alloc o, h.2⟩
theorem OwnB.form {base : Nat} {e : TypeId} {w : World} {a : Option Addr} {len cap : Nat} {l : List Int} (h : OwnB base e w a len cap l) (ha : a ≠ none) :
  ∃ g, a = some ⟨g, 0, none⟩ ∧ base ≤ g ∧ g < w.heap.size := by
 rcases h.1.2 with ⟨hv, _⟩ | ⟨g, cp, cur, hv, hb, hg, _⟩
 ·simp only [Value.slice.injEq] at hv; exact absurd hv.1 ha
 ·simp only [Value.slice.injEq] at hv; exact ⟨g, hv.1, hb, (Array.getElem?_eq_some_iff.1 hg).1⟩
theorem OwnB.frozen {base : Nat} {e : TypeId} {w : World} {g len cap : Nat} {l : List Int} (h : OwnB base e w (some ⟨g, 0, none⟩) len cap l) (j : Nat) : w.frozen? ⟨g, j, none⟩ = false := h.1.frozenAt j
theorem OwnB.set {base : Nat} {e : TypeId} {w : World} {g len cap : Nat} {l : List Int} (h : OwnB base e w (some ⟨g, 0, none⟩) len cap l) (j : Nat) (x : Int) (hx : 0 ≤ x ∧ x ≤ 255) :
  OwnB base e (w.setCell ⟨g, j, none⟩ (.int .u8 x)) (some ⟨g, 0, none⟩) len cap (l.set j x) := by
 refine ⟨?_, ?_⟩
 ·rw [List.map_set]; exact (h.1.stored j (.int .u8 x)).1
 ·intro y hy
  rcases List.mem_or_eq_of_mem_set hy with h1 | rfl
  ·exact h.2 y h1
  ·exact hx
theorem Bs.grown {w w' : World} {b off len cap : Nat} {l : List Int} {row : Option Nat} (h : Bs w (some ⟨b, off, none⟩) len cap l) (hg : w.grownBy w' row) (hne : some b ≠ row) : Bs w' (some ⟨b, off, none⟩) len cap l :=
 ⟨h.hl, h.lc, h.cm, h.rng, fun h0 => by
  obtain ⟨b', off', ha, hb, hc⟩ := h.at_ h0
  simp only [Option.some.injEq, Addr.mk.injEq] at ha
  obtain ⟨rfl, rfl, _⟩ := ha
  exact ⟨b, off, rfl, Nat.lt_of_lt_of_le hb hg.size, fun j hj => (World.cell?_of_block (hg.block b hb hne)).trans (hc j hj)⟩⟩
theorem OwnB.emptyAt {base X : Nat} {e : TypeId} {w : World} (h : w.heap[X]? = some (.cells #[] e (0, 0))) (hb : base ≤ X) : OwnB base e w (some ⟨X, 0, none⟩) 0 0 [] :=
 ⟨⟨by simp, .inr ⟨X, 0, #[], rfl, hb, h, Nat.le_refl _, Nat.zero_le _, rfl, by simp⟩⟩, by simp⟩
theorem OwnB.lit {base : Nat} (w : World) (e : TypeId) (l : List Int) {cs : Array Value} {g n : Nat} (hb : base ≤ w.heap.size) (hc : cs = (l.map (Value.int .u8)).toArray) (hr : ∀ x ∈ l, 0 ≤ x ∧ x ≤ 255) (hg : g = w.heap.size) (hn : n = l.length) (hm : n ≤ maxLen) :
  OwnB base e (w.alloc (.cells cs e)) (some ⟨g, 0, none⟩) n n l := by
 subst hc; subst hn; subst hg
 have := World.ownsRow_lit (base := base) (e := e) (size := 1) w (l.map (Value.int .u8)).toArray l.length hb hm (by simp)
 exact ⟨by simpa using this, hr⟩
theorem OwnB.keep {base B : Nat} {e : TypeId} {w w' : World} {a : Option Addr} {len cap : Nat} {l : List Int} (h : OwnB base e w a len cap l) (hb : Below B w w') (hB : w.heap.size ≤ B) : OwnB base e w' a len cap l :=
 ⟨h.1.kept (row := none) ⟨hb.os, hb.tape, hb.output, hb.size, fun j hj _ => hb.block j (by omega)⟩ (by cases hv : (Value.slice a len cap).ownBlock <;> simp), h.2⟩
theorem OwnB.none0 {base : Nat} {e : TypeId} {w : World} : OwnB base e w none 0 0 [] := ⟨⟨rfl, .inl ⟨rfl, rfl⟩⟩, by simp⟩
theorem OwnB.cell {base : Nat} {e : TypeId} {w : World} {g len cap : Nat} {l : List Int} (h : OwnB base e w (some ⟨g, 0, none⟩) len cap l) (k : Nat) (hk : k < len) : w.cell? ⟨g, k, none⟩ = some (.int .u8 (bt l k)) := by
 obtain ⟨b, off, hab, _, hc⟩ := h.bs.at_ (by omega)
 simp only [Option.some.injEq, Addr.mk.injEq] at hab
 obtain ⟨rfl, rfl, _⟩ := hab
 simpa using hc k hk
end
section
open Go.RowKit
def bstr (l : List Int) : ByteArray := ⟨(l.map fun x => UInt8.ofNat x.toNat).toArray⟩
theorem zFA {x : Int} (h : 0 ≤ x ∧ x ≤ 255) : ((UInt8.ofNat x.toNat).toNat : Int) = x := by
 rw [UInt8.toNat_ofNat']; omega
theorem Bs.str {P : Program} {w : World} {a : Option Addr} {len cap : Nat} {l : List Int} (h : Bs w a len cap l) (src dst e : TypeId)
  (hs : P.underlying src = some (.slice e)) (he : P.underlying e = some (.int .u8)) (hd : P.underlying dst = some .string) :
  (convert src dst (.slice a len cap)).run P w = .ok (.string (bstr l)) w := by
 have hl := h.hl
 by_cases h0 : 0 < len
 ·obtain ⟨b, off, rfl, _, hc⟩ := h.at_ h0
  have := run_convert_bytes_back (P := P) w src dst e ⟨b, off, none⟩ cap (l.map fun x => UInt8.ofNat x.toNat) hs he hd (fun j hj => by
   have hj' : j < l.length := by simpa using hj
   rw [zAe, hc j (by omega)]
   simp only [List.getElem_map]
   rw [zFA (h.rng _ (List.getElem_mem hj'))]
   simp [bt, List.getD, hj'])
  rw [List.length_map, hl] at this
  exact this
 ·have hlen : len = 0 := by omega
  subst hlen
  have hl0 : l = [] := List.eq_nil_of_length_eq_zero hl
  subst hl0
  rw [run_convert_bytes_string w src dst e a 0 cap hs he hd]
  cases a with
  | none => simp [Conv.bytesToString, bstr]; rfl
  | some b => simp [Conv.bytesToString, loadCells, loadCellsFrom, bstr]; rfl
theorem zA4 (l : List Int) : (bstr l).toList = l.map fun x => UInt8.ofNat x.toNat := by
 rw [ByteArray.toList_eq]; simp [bstr]
theorem zLp {l k : List Int} (hl : ∀ x ∈ l, 0 ≤ x ∧ x ≤ 255) (hk : ∀ x ∈ k, 0 ≤ x ∧ x ≤ 255) (h : (bstr l).toList = (bstr k).toList) : l = k := by
 rw [zA4, zA4] at h
 have : ∀ (l k : List Int), (∀ x ∈ l, 0 ≤ x ∧ x ≤ 255) → (∀ x ∈ k, 0 ≤ x ∧ x ≤ 255) → (l.map fun x => UInt8.ofNat x.toNat) = (k.map fun x => UInt8.ofNat x.toNat) → l = k := by
  intro l
  induction l with
  | nil => intro k _ _ h; cases k with | nil => rfl | cons => simp at h
  | cons a l ih =>
   intro k h1 h2 h
   cases k with
   | nil => simp at h
   | cons b k =>
    simp only [List.map_cons, List.cons.injEq] at h
    have ea : ((UInt8.ofNat a.toNat).toNat : Int) = a := zFA (h1 a (by simp))
    have eb : ((UInt8.ofNat b.toNat).toNat : Int) = b := zFA (h2 b (by simp))
    rw [h.1] at ea
    rw [show a = b by omega, ih k (fun x hx => h1 x (by simp [hx])) (fun x hx => h2 x (by simp [hx])) h.2]
 exact this l k hl hk h
end
section
open Go.RowKit
end
section
open Go.RowKit
set_option maxHeartbeats 400000 in
theorem zC4 (c : Int) (w : World) :
  Calls Tryz.prog 195 #[.int .u8 c] w fun e w' => e = .returned (.int .i64 (lenOf c)) ∧ w = w' := by
 go_enter Tryz.func195, Tryz.ntmps195
 go_wp2
 all_goals
  go_ret
  refine ⟨zE9 ?_, rfl⟩
  unfold lenOf
  (repeat' split) <;> omega
set_option maxHeartbeats 400000 in
theorem zIy (c : Int) (w : World) :
  Calls Tryz.prog 196 #[.int .u8 c] w fun e w' => e = .returned (.tuple #[.int .u8 (loOf c), .int .u8 (hiOf c)]) ∧ w = w' := by
 go_enter Tryz.func196, Tryz.ntmps196
 go_wp2
 all_goals
  go_ret2
  refine ⟨zLo ?_ ?_, rfl⟩ <;> simp only [beq_iff_eq, beq_eq_false_iff_ne, ne_eq] at * <;> (first | unfold loOf | unfold hiOf) <;> (repeat' split) <;> omega
theorem zDU {l : List Int} (h : lenOf (bt l 0) = 0 ∨ l.length < lenOf (bt l 0)) : okSeq l = false := by
 unfold okSeq; simp; intro _ h1 h2; omega
theorem zB8 {l : List Int} {k : Nat} (hk : k < lenOf (bt l 0) - 1) (h : ¬ (lowAt (bt l 0) k ≤ bt l (k + 1) ∧ bt l (k + 1) ≤ highAt (bt l 0) k)) : okSeq l = false := by
 cases hs : okSeq l with
 | false => rfl
 | true => exact absurd (((zAp l).1 hs).2.2.2 k hk) h
set_option maxHeartbeats 400000 in
theorem zCM (a : Option Addr) (len cap : Nat) (l : List Int) (w : World) (h : Bs w a len cap l) :
  Calls Tryz.prog 186 #[.slice a len cap] w fun e w' => e = .returned (.tuple #[.int .i64 (takeN l), .bool (okSeq l)]) ∧ w = w' := by
 have hm := h.lt
 unfold maxLen at hm
 by_cases h0 : len = 0
 ·subst h0
  have hl : l = [] := List.eq_nil_of_length_eq_zero h.hl
  subst hl
  clear h
  go_enter Tryz.func186, Tryz.ntmps186
  go_wp2
  go_ret2
  exact ⟨zNB rfl rfl, rfl⟩
 ·obtain ⟨b, off, rfl, hbl, hc⟩ := h.at_ (by omega)
  have hll := h.hl
  have hne : l ≠ [] := by intro e; subst e; simp at hll; omega
  have hc0 : w.cell? ⟨b, off, none⟩ = some (.int .u8 (bt l 0)) := hc 0 (by omega)
  have hpos : 0 < len := by omega
  have hz : ((len : Int) == 0) = false := by simp; omega
  have HR := hid h.rng
  have HC := hid hc
  have HL := hid hll
  have h4 := zE8 (bt l 0)
  clear h hc hll hbl h0
  by_cases hn0 : lenOf (bt l 0) = 0
  ·have hf := zDU (Or.inl hn0)
   have HT : Hid (takeN l = 1 ∧ okSeq l = false) := hid ⟨by unfold takeN; simp [hne, hf], hf⟩
   have hn : (((lenOf (bt l 0) : Nat) : Int) == 0) = true := by simp [hn0]
   clear hf hn0 hne
   go_enter Tryz.func186, Tryz.ntmps186
   go_wp2_with (first | (go_at_call 195; refine (zC4 _ _).mono ?_; rintro e w' ⟨rfl, rfl⟩))
   go_ret2
   exact ⟨by rw [HT.out.1, HT.out.2]; rfl, rfl⟩
  ·by_cases hn1 : len < lenOf (bt l 0)
   ·have hf : okSeq l = false := zDU (Or.inr (by rw [HL.out]; exact hn1))
    have HT : Hid (takeN l = 1 ∧ okSeq l = false) := hid ⟨by unfold takeN; simp [hne, hf], hf⟩
    have hn : (((lenOf (bt l 0) : Nat) : Int) == 0) = false := by simp [hn0]
    clear hf hn0 hne
    go_enter Tryz.func186, Tryz.ntmps186
    go_wp2_with (first | (go_at_call 195; refine (zC4 _ _).mono ?_; rintro e w' ⟨rfl, rfl⟩))
    go_ret2
    exact ⟨by rw [HT.out.1, HT.out.2]; rfl, rfl⟩
   ·have hn : (((lenOf (bt l 0) : Nat) : Int) == 0) = false := by simp [hn0]
    have hp : 0 < lenOf (bt l 0) := by omega
    have HN := hid hne
    clear hn0 hne
    go_enter Tryz.func186, Tryz.ntmps186
    go_wp2_with (first | (go_at_call 195; refine (zC4 _ _).mono ?_; rintro e w' ⟨rfl, rfl⟩) | (go_at_call 196; refine (zIy _ _).mono ?_; rintro e w' ⟨rfl, rfl⟩))
    go_loop [33, 5, 6] (fun i f t => ∃ k : Nat, k + 1 ≤ lenOf (bt l 0) ∧ i = .int .i64 k ∧ f = .int .u8 (lowAt (bt l 0) k) ∧ t = .int .u8 (highAt (bt l 0) k) ∧ Hid (goodTo l k)) (fun i _ _ => lenOf (bt l 0) - (intOf i).toNat)
    case atStart => exact ⟨0, by omega, rfl, rfl, rfl, hid (fun j hj => by omega)⟩
    case round =>
     obtain ⟨k, hk, rfl, rfl, rfl, HG⟩ := hrel
     by_cases hlt : k + 1 < lenOf (bt l 0)
     ·have hck : w.cell? ⟨b, off + (k + 1), none⟩ = some (.int .u8 (bt l (k + 1))) := HC.out _ (by omega)
      have hkl : k + 1 < len := by omega
      by_cases h1 : lowAt (bt l 0) k ≤ bt l (k + 1)
      ·by_cases h2 : bt l (k + 1) ≤ highAt (bt l 0) k
       ·go_wp2
        go_round
        case rel => exact ⟨k + 1, by omega, by go_num, rfl, rfl, hid (fun j hj => by
         by_cases hjk : j = k
         ·subst hjk; exact ⟨h1, h2⟩
         ·exact HG.out j (by omega))⟩
        case measure => simp [intOf]; omega
       ·have HT : Hid (takeN l = 1 ∧ okSeq l = false) := hid (by
         have hf : okSeq l = false := zB8 (k := k) (by omega) (fun hh => h2 hh.2)
         exact ⟨by unfold takeN; simp [HN.out, hf], hf⟩)
        go_wp2
        go_ret2
        exact ⟨by rw [HT.out.1, HT.out.2]; rfl, rfl⟩
      ·have HT : Hid (takeN l = 1 ∧ okSeq l = false) := hid (by
         have hf : okSeq l = false := zB8 (k := k) (by omega) (fun hh => h1 hh.1)
         exact ⟨by unfold takeN; simp [HN.out, hf], hf⟩)
       go_wp2
       all_goals
        go_ret2
        exact ⟨by rw [HT.out.1, HT.out.2]; rfl, rfl⟩
     ·have HT : Hid (takeN l = lenOf (bt l 0) ∧ okSeq l = true) := hid (by
       have hf : okSeq l = true := (zAp l).2 ⟨HN.out, hp, by rw [HL.out]; omega, fun j hj => HG.out j (by omega)⟩
       exact ⟨by unfold takeN; simp [HN.out, hf], hf⟩)
      have hge : ¬ ((k : Int) < (lenOf (bt l 0) : Int) - 1) := by omega
      go_wp2
      go_ret2
      exact ⟨by rw [HT.out.1, HT.out.2]; rfl, rfl⟩
end
section
open Go.RowKit
def Dr (w w' : World) : Prop := ∃ n, w' = w.drewN n
theorem Dr.refl (w : World) : Dr w w := ⟨0, rfl⟩
theorem Dr.trans {a b c : World} (h : Dr a b) (k : Dr b c) : Dr a c := by
 obtain ⟨n, rfl⟩ := h; obtain ⟨m, rfl⟩ := k; exact ⟨n + m, World.drewN_drewN _ _ _⟩
theorem Dr.below {B : Nat} {a w w' : World} (h : Below B a w) (k : Dr w w') : Below B a w' := by obtain ⟨n, rfl⟩ := k; exact below_drewN h n
theorem Bs.dr {w w' : World} {a : Option Addr} {len cap : Nat} {l : List Int} (h : Bs w a len cap l) (k : Dr w w') : Bs w' a len cap l := h.below (Dr.below (Below.refl _ _) k)
set_option maxHeartbeats 400000 in
theorem zCd (c : Int) (w : World) :
  Calls Tryz.prog 211 #[.int .u8 c] w fun e w' => e = .returned (.int .i64 (lenOf c)) ∧ w = w' := by
 go_enter Tryz.func211, Tryz.ntmps211
 go_wp2
 all_goals
  go_ret
  refine ⟨zE9 ?_, rfl⟩
  unfold lenOf
  (repeat' split) <;> omega
def mayB (c d : Int) : Bool := decide (loOf c ≤ d ∧ d ≤ hiOf c)
set_option maxHeartbeats 400000 in
theorem zJY (c d : Int) (w : World) :
  Calls Tryz.prog 212 #[.int .u8 c, .int .u8 d] w fun e w' => e = .returned (.bool (mayB c d)) ∧ w = w' := by
 go_enter Tryz.func212, Tryz.ntmps212
 go_wp2
 all_goals
  go_ret
  refine ⟨zAk ?_, rfl⟩
  simp only [beq_iff_eq, beq_eq_false_iff_ne, ne_eq] at *
  unfold mayB loOf hiOf
  rw [Bool.eq_iff_iff]
  simp
  try (repeat' split)
  all_goals omega
set_option maxHeartbeats 1000000 in
theorem zAM (a : Option Addr) (len cap : Nat) (l : List Int) (w : World) (h : Bs w a len cap l) :
  Calls Tryz.prog 204 #[.slice a len cap] w fun e w' => e = .returned (.tuple #[.int .i64 (takeN l), .bool (okSeq l)]) ∧ Dr w w' := by
 have hm := h.lt
 unfold maxLen at hm
 by_cases h0 : len = 0
 ·subst h0
  have hl : l = [] := List.eq_nil_of_length_eq_zero h.hl
  subst hl
  clear h
  go_enter Tryz.func204, Tryz.ntmps204
  go_wp2
  go_ret2
  exact ⟨zNB rfl rfl, Dr.refl _⟩
 ·obtain ⟨b, off, rfl, hbl, hc⟩ := h.at_ (by omega)
  have hll := h.hl
  have hne : l ≠ [] := by intro e; subst e; simp at hll; omega
  have hc0 : w.cell? ⟨b, off, none⟩ = some (.int .u8 (bt l 0)) := hc 0 (by omega)
  have hpos : 0 < len := by omega
  have hz : ((len : Int) == 0) = false := by simp; omega
  have HC := hid hc
  have HL := hid hll
  have HN := hid hne
  have h4 := zE8 (bt l 0)
  clear h hc hll hbl h0 hne
  by_cases hn0 : lenOf (bt l 0) = 0
  ·have hf := zDU (Or.inl hn0)
   have HT : Hid (takeN l = 1 ∧ okSeq l = false) := hid ⟨by unfold takeN; simp [HN.out, hf], hf⟩
   have hn : (((lenOf (bt l 0) : Nat) : Int) == 0) = true := by simp [hn0]
   clear hf hn0
   go_enter Tryz.func204, Tryz.ntmps204
   go_wp2_with (first | (go_at_call 211; refine (zCd _ _).mono ?_; rintro e w' ⟨rfl, rfl⟩))
   go_quiet (fail)
   go_wp2
   go_ret2
   exact ⟨by rw [HT.out.1, HT.out.2]; rfl, ⟨_, rfl⟩⟩
  ·have hn : (((lenOf (bt l 0) : Nat) : Int) == 0) = false := by simp [hn0]
   by_cases hn1 : len < lenOf (bt l 0)
   ·have hf : okSeq l = false := zDU (Or.inr (by rw [HL.out]; exact hn1))
    have HT : Hid (takeN l = 1 ∧ okSeq l = false) := hid ⟨by unfold takeN; simp [HN.out, hf], hf⟩
    clear hf hn0
    have hd : decide (len < lenOf (bt l 0)) = true := by simpa using hn1
    go_enter Tryz.func204, Tryz.ntmps204
    go_wp2_with (first | (go_at_call 211; refine (zCd _ _).mono ?_; rintro e w' ⟨rfl, rfl⟩))
    go_quiet (fail)
    go_wp2
    go_ret2
    exact ⟨by rw [HT.out.1, HT.out.2]; rfl, ⟨_, rfl⟩⟩
   ·have hp : 0 < lenOf (bt l 0) := by omega
    have hd : decide (len < lenOf (bt l 0)) = false := by simpa using hn1
    clear hn0
    by_cases hone : lenOf (bt l 0) = 1
    ·have hf : okSeq l = true := (zAp l).2 ⟨HN.out, hp, by rw [HL.out]; omega, fun j hj => by omega⟩
     have HT : Hid (takeN l = 1 ∧ okSeq l = true) := hid ⟨by unfold takeN; simp [HN.out, hf, hone], hf⟩
     have hd2 : decide ((len : Int) < 1) = false := by simp; omega
     have HONE := hid hone
     clear hone hf hn hn1 hp hd h4
     go_enter Tryz.func204, Tryz.ntmps204
     go_wp2_with (first | (go_at_call 211; refine (zCd _ _).mono ?_; rintro e w' ⟨rfl, rfl⟩; rw [HONE.out]))
     go_quiet (fail)
     go_wp2
     refine wp_loop_rounds 1 ?_
     rw [rounds_succ]
     go_wp2
     go_ret2
     exact ⟨by rw [HT.out.1, HT.out.2]; rfl, ⟨_, rfl⟩⟩
    ·have h2 : 2 ≤ lenOf (bt l 0) := by omega
     have hd1 : decide ((1 : Int) < ((lenOf (bt l 0) : Nat) : Int)) = true := by simp; omega
     have hlen1 : (1 : Int) < (len : Int) := by omega
     have hc1 : w.cell? ⟨b, off + 1, none⟩ = some (.int .u8 (bt l 1)) := HC.out 1 (by omega)
     clear hone
     cases hs : mayB (bt l 0) (bt l 1) with
     | false =>
      have HT : Hid (takeN l = 1 ∧ okSeq l = false) := hid (by
       have hf : okSeq l = false := zB8 (k := 0) (by omega) (fun hh => by
        have : mayB (bt l 0) (bt l 1) = true := by unfold mayB; simpa [lowAt, highAt] using hh
        rw [hs] at this; cases this)
       exact ⟨by unfold takeN; simp [HN.out, hf], hf⟩)
      go_enter Tryz.func204, Tryz.ntmps204
      go_wp2_with (first | (go_at_call 211; refine (zCd _ _).mono ?_; rintro e w' ⟨rfl, rfl⟩))
      go_quiet ((go_at_call 212; exact Calls.quiet_of_same ((zJY _ _ _).mono fun _ _ ⟨h1, h2⟩ => ⟨by rw [h1, hs], h2.symm⟩)))
      go_wp2
      go_ret2
      exact ⟨by rw [HT.out.1, HT.out.2]; rfl, ⟨_, rfl⟩⟩
     | true =>
      have HS : Hid (loOf (bt l 0) ≤ bt l 1 ∧ bt l 1 ≤ hiOf (bt l 0)) := hid (by simpa [mayB] using hs)
      go_enter Tryz.func204, Tryz.ntmps204
      go_wp2_with (first | (go_at_call 211; refine (zCd _ _).mono ?_; rintro e w' ⟨rfl, rfl⟩))
      go_quiet ((go_at_call 212; exact Calls.quiet_of_same ((zJY _ _ _).mono fun _ _ ⟨h1, h2⟩ => ⟨by rw [h1, hs], h2.symm⟩)))
      go_wp2
      go_loop [5] (fun i => ∃ k : Nat, 2 ≤ k ∧ k ≤ lenOf (bt l 0) ∧ i = .int .i64 k ∧ Hid (goodTo l (k - 1))) (fun i => lenOf (bt l 0) - (intOf i).toNat)
      case atStart => exact ⟨2, by omega, h2, rfl, hid (fun j hj => by
       obtain rfl : j = 0 := by omega
       exact HS.out)⟩
      case round =>
       obtain ⟨k, hk2, hk, rfl, HG⟩ := hrel
       by_cases hlt : k < lenOf (bt l 0)
       ·have hck : w.cell? ⟨b, off + k, none⟩ = some (.int .u8 (bt l k)) := HC.out _ (by omega)
        have hkl : k < len := by omega
        have hlow : lowAt (bt l 0) (k - 1) = 128 ∧ highAt (bt l 0) (k - 1) = 191 := by simp [lowAt, highAt, show ¬ k - 1 = 0 from by omega]
        have HLO := hid hlow
        clear hlow
        by_cases hg1 : (128 : Int) ≤ bt l k
        ·by_cases hg2 : bt l k ≤ 191
         ·go_wp2
          go_round
          case rel => exact ⟨k + 1, by omega, by omega, by go_num, hid (fun j hj => by
           by_cases hjk : j = k - 1
           ·subst hjk
            rw [HLO.out.1, HLO.out.2, show k - 1 + 1 = k from by omega]
            exact ⟨hg1, hg2⟩
           ·exact HG.out j (by omega))⟩
          case measure => simp [intOf]; omega
         ·have HT : Hid (takeN l = 1 ∧ okSeq l = false) := hid (by
           have hf : okSeq l = false := zB8 (k := k - 1) (by omega) (fun hh => by
            rw [HLO.out.2, show k - 1 + 1 = k from by omega] at hh; exact hg2 hh.2)
           exact ⟨by unfold takeN; simp [HN.out, hf], hf⟩)
          go_wp2
          go_ret2
          exact ⟨by rw [HT.out.1, HT.out.2]; rfl, ⟨_, rfl⟩⟩
        ·have HT : Hid (takeN l = 1 ∧ okSeq l = false) := hid (by
           have hf : okSeq l = false := zB8 (k := k - 1) (by omega) (fun hh => by
            rw [HLO.out.1, show k - 1 + 1 = k from by omega] at hh; exact hg1 hh.1)
           exact ⟨by unfold takeN; simp [HN.out, hf], hf⟩)
         go_wp2
         all_goals
          go_ret2
          exact ⟨by rw [HT.out.1, HT.out.2]; rfl, ⟨_, rfl⟩⟩
       ·have HT : Hid (takeN l = lenOf (bt l 0) ∧ okSeq l = true) := hid (by
         have hf : okSeq l = true := (zAp l).2 ⟨HN.out, hp, by rw [HL.out]; omega, fun j hj => HG.out j (by omega)⟩
         exact ⟨by unfold takeN; simp [HN.out, hf], hf⟩)
        go_wp2
        go_ret2
        exact ⟨by rw [HT.out.1, HT.out.2]; rfl, ⟨_, rfl⟩⟩
end
section
open Go.Shelf Go.RowKit Go.Sort Go.Lib
def Tryz.lays103_ren : Go.Shelf.Ren := ⟨fun | 103 => 157 | 210 => 173 | 206 => 184 | n => n, fun | 9 => 9 | 4 => 4 | 24 => 226 | 3 => 3 | n => n, fun | n => n⟩
theorem Tryz.lays103 : Go.Proofs.Lays.n103 Tryz.prog Tryz.lays103_ren := {
 mixed := by kernel_rfl
 f103 := Tryz.func157.trans (congrArg some (by kernel_rfl))
 f206 := Tryz.func184.trans (congrArg some (by kernel_rfl))
 f210 := Tryz.func173.trans (congrArg some (by kernel_rfl))
 t3 := Tryz.underlying3
 a3 := Tryz.isAgg3
 z3 := Tryz.sizeOf3
 v3 := Tryz.zeroValue3
 t4 := Tryz.underlying4
 a4 := Tryz.isAgg4
 z4 := Tryz.sizeOf4
 v4 := Tryz.zeroValue4
 t9 := Tryz.underlying9
 a9 := Tryz.isAgg9
 z9 := Tryz.sizeOf9
 v9 := Tryz.zeroValue9
 t24 := Tryz.underlying226
 a24 := Tryz.isAgg226
 z24 := Tryz.sizeOf226
 v24 := Tryz.zeroValue226 }
theorem Tryz.strings_CutPrefix (s p : ByteArray) (w : World) :
  Calls Tryz.prog 157 #[.string s, .string p] w fun e w' => e = .returned (.tuple #[.string ⟨(Lib.trimPrefix s.data.toList p.data.toList).toArray⟩, .bool (Lib.hasPrefix s.data.toList p.data.toList)]) ∧ w' = w := Any.strings_CutPrefix Tryz.lays103 s p w
def Tryz.laysM316_ren : Go.Shelf.Ren := ⟨fun | 316 => 175 | n => n, fun | 9 => 9 | 3 => 3 | 4 => 4 | 37 => 59 | 0 => 0 | 127 => 249 | 5 => 5 | n => n, fun | n => n⟩
theorem Tryz.laysM316 : Go.Proofs.LaysM.n316 Tryz.prog Tryz.laysM316_ren := {
 mixed := by kernel_rfl
 f316 := Tryz.func175.trans (congrArg some (by kernel_rfl))
 t0 := Tryz.underlying0
 a0 := Tryz.isAgg0
 z0 := Tryz.sizeOf0
 v0 := Tryz.zeroValue0
 t3 := Tryz.underlying3
 a3 := Tryz.isAgg3
 z3 := Tryz.sizeOf3
 v3 := Tryz.zeroValue3
 t4 := Tryz.underlying4
 a4 := Tryz.isAgg4
 z4 := Tryz.sizeOf4
 v4 := Tryz.zeroValue4
 t9 := Tryz.underlying9
 a9 := Tryz.isAgg9
 z9 := Tryz.sizeOf9
 v9 := Tryz.zeroValue9
 t37 := Tryz.underlying59
 a37 := Tryz.isAgg59
 z37 := Tryz.sizeOf59
 v37 := Tryz.zeroValue59
 t127 := Tryz.underlying249
 a127 := Tryz.isAgg249
 z127 := Tryz.sizeOf249
 v127 := Tryz.zeroValue249
 t5 := Tryz.underlying5
 a5 := Tryz.isAgg5
 z5 := Tryz.sizeOf5
 v5 := Tryz.zeroValue5
 i0 := by kernel_rfl
 i3 := by kernel_rfl
 i4 := by kernel_rfl
 i5 := by kernel_rfl
 i9 := by kernel_rfl
 i37 := by kernel_rfl
 i127 := by kernel_rfl }
theorem Tryz.stringslite_Clone (s : ByteArray) (w : World) (hlim : s.size ≤ 281474976710656) :
  Calls Tryz.prog 175 #[.string s] w fun e w' => e = .returned (.string s) ∧ Below w.heap.size w w' := Any.stringslite_Clone Tryz.laysM316 s w hlim
def Tryz.lays217_ren : Go.Shelf.Ren := ⟨fun | 217 => 191 | 266 => 199 | n => n, fun | 9 => 9 | 5 => 5 | 3 => 3 | n => n, fun | n => n⟩
theorem Tryz.lays217 : Go.Proofs.Lays.n217 Tryz.prog Tryz.lays217_ren := {
 mixed := by kernel_rfl
 f217 := Tryz.func191.trans (congrArg some (by kernel_rfl))
 f266 := Tryz.func199.trans (congrArg some (by kernel_rfl))
 t3 := Tryz.underlying3
 a3 := Tryz.isAgg3
 z3 := Tryz.sizeOf3
 v3 := Tryz.zeroValue3
 t5 := Tryz.underlying5
 a5 := Tryz.isAgg5
 z5 := Tryz.sizeOf5
 v5 := Tryz.zeroValue5
 t9 := Tryz.underlying9
 a9 := Tryz.isAgg9
 z9 := Tryz.sizeOf9
 v9 := Tryz.zeroValue9 }
theorem Tryz.stringslite_IndexByte (s : ByteArray) (c : Int) (w : World) :
  Calls Tryz.prog 191 #[.string s, .int .u8 c] w fun e w' => e = .returned (.int .i64 (Lib.indexByte s.data.toList c.toNat.toUInt8)) ∧ w' = w := Any.stringslite_IndexByte Tryz.lays217 s c w
def Tryz.lays190_ren : Go.Shelf.Ren := ⟨fun | 190 => 27 | 125 => 53 | 258 => 52 | 128 => 103 | 129 => 104 | 302 => 94 | 303 => 95 | 304 => 96 | 305 => 97 | 306 => 98 | 307 => 99 | 308 => 100 | 309 => 101 | 310 => 102 | 333 => 139 | 329 => 140 | 330 => 141 | 334 => 142 | 335 => 143 | 336 => 144 | 344 => 171 | n => n, fun | 31 => 26 | 9 => 9 | 3 => 3 | 46 => 110 | 0 => 0 | 51 => 179 | 53 => 181 | 4 => 4 | 183 => 171 | 182 => 170 | 131 => 176 | 5 => 5 | 218 => 212 | 222 => 216 | 228 => 238 | 229 => 239 | n => n, fun | n => n⟩
theorem Tryz.lays190 : Go.Proofs.Lays.n190 Tryz.prog Tryz.lays190_ren := {
 mixed := by kernel_rfl
 f125 := Tryz.func53.trans (congrArg some (by kernel_rfl))
 f128 := Tryz.func103.trans (congrArg some (by kernel_rfl))
 f129 := Tryz.func104.trans (congrArg some (by kernel_rfl))
 f190 := Tryz.func27.trans (congrArg some (by kernel_rfl))
 f258 := Tryz.func52.trans (congrArg some (by kernel_rfl))
 f302 := Tryz.func94.trans (congrArg some (by kernel_rfl))
 f303 := Tryz.func95.trans (congrArg some (by kernel_rfl))
 f304 := Tryz.func96.trans (congrArg some (by kernel_rfl))
 f305 := Tryz.func97.trans (congrArg some (by kernel_rfl))
 f306 := Tryz.func98.trans (congrArg some (by kernel_rfl))
 f307 := Tryz.func99.trans (congrArg some (by kernel_rfl))
 f308 := Tryz.func100.trans (congrArg some (by kernel_rfl))
 f309 := Tryz.func101.trans (congrArg some (by kernel_rfl))
 f310 := Tryz.func102.trans (congrArg some (by kernel_rfl))
 f329 := Tryz.func140.trans (congrArg some (by kernel_rfl))
 f330 := Tryz.func141.trans (congrArg some (by kernel_rfl))
 f333 := Tryz.func139.trans (congrArg some (by kernel_rfl))
 f334 := Tryz.func142.trans (congrArg some (by kernel_rfl))
 f335 := Tryz.func143.trans (congrArg some (by kernel_rfl))
 f336 := Tryz.func144.trans (congrArg some (by kernel_rfl))
 f344 := Tryz.func171.trans (congrArg some (by kernel_rfl))
 t0 := Tryz.underlying0
 a0 := Tryz.isAgg0
 z0 := Tryz.sizeOf0
 v0 := Tryz.zeroValue0
 t3 := Tryz.underlying3
 a3 := Tryz.isAgg3
 z3 := Tryz.sizeOf3
 v3 := Tryz.zeroValue3
 t4 := Tryz.underlying4
 a4 := Tryz.isAgg4
 z4 := Tryz.sizeOf4
 v4 := Tryz.zeroValue4
 t5 := Tryz.underlying5
 a5 := Tryz.isAgg5
 z5 := Tryz.sizeOf5
 v5 := Tryz.zeroValue5
 t9 := Tryz.underlying9
 a9 := Tryz.isAgg9
 z9 := Tryz.sizeOf9
 v9 := Tryz.zeroValue9
 t31 := Tryz.underlying26
 a31 := Tryz.isAgg26
 z31 := Tryz.sizeOf26
 v31 := Tryz.zeroValue26
 t46 := Tryz.underlying110
 a46 := Tryz.isAgg110
 z46 := Tryz.sizeOf110
 v46 := Tryz.zeroValue110
 t51 := Tryz.underlying179
 a51 := Tryz.isAgg179
 z51 := Tryz.sizeOf179
 v51 := Tryz.zeroValue179
 t53 := Tryz.underlying181
 a53 := Tryz.isAgg181
 z53 := Tryz.sizeOf181
 v53 := Tryz.zeroValue181
 t131 := Tryz.underlying176
 a131 := Tryz.isAgg176
 z131 := Tryz.sizeOf176
 v131 := Tryz.zeroValue176
 t182 := Tryz.underlying170
 a182 := Tryz.isAgg170
 z182 := Tryz.sizeOf170
 v182 := Tryz.zeroValue170
 t183 := Tryz.underlying171
 a183 := Tryz.isAgg171
 z183 := Tryz.sizeOf171
 v183 := Tryz.zeroValue171
 t218 := Tryz.underlying212
 a218 := Tryz.isAgg212
 z218 := Tryz.sizeOf212
 v218 := Tryz.zeroValue212
 t222 := Tryz.underlying216
 a222 := Tryz.isAgg216
 z222 := Tryz.sizeOf216
 v222 := Tryz.zeroValue216
 t228 := Tryz.underlying238
 a228 := Tryz.isAgg238
 z228 := Tryz.sizeOf238
 v228 := Tryz.zeroValue238
 t229 := Tryz.underlying239
 a229 := Tryz.isAgg239
 z229 := Tryz.sizeOf239
 v229 := Tryz.zeroValue239 }
theorem Tryz.slices_Sort_string (blk off cap : Nat) (ss : List (List UInt8)) (w : World) (hH : Holds encStr w blk off ss.toArray) (hblk : blk < w.heap.size) (hsz : ss.length < 4611686018427387904) :
  Calls Tryz.prog 27 #[.slice (some ⟨blk, off, none⟩) ss.length cap] w fun e w' =>
   e = .returned (.tuple #[]) ∧ ∃ n os, w' = grow (putRow encStr (Sort.ahead w n) blk off (ss.mergeSort fun x y => decide (x ≤ y)).toArray) os := Any.slices_Sort_string Tryz.lays190 blk off cap ss w hH hblk hsz
def Tryz.lays194_ren : Go.Shelf.Ren := ⟨fun | 194 => 28 | n => n, fun | 31 => 26 | 9 => 9 | 3 => 3 | 4 => 4 | 0 => 0 | n => n, fun | n => n⟩
theorem Tryz.lays194 : Go.Proofs.Lays.n194 Tryz.prog Tryz.lays194_ren := {
 mixed := by kernel_rfl
 f194 := Tryz.func28.trans (congrArg some (by kernel_rfl))
 t0 := Tryz.underlying0
 a0 := Tryz.isAgg0
 z0 := Tryz.sizeOf0
 v0 := Tryz.zeroValue0
 t3 := Tryz.underlying3
 a3 := Tryz.isAgg3
 z3 := Tryz.sizeOf3
 v3 := Tryz.zeroValue3
 t4 := Tryz.underlying4
 a4 := Tryz.isAgg4
 z4 := Tryz.sizeOf4
 v4 := Tryz.zeroValue4
 t9 := Tryz.underlying9
 a9 := Tryz.isAgg9
 z9 := Tryz.sizeOf9
 v9 := Tryz.zeroValue9
 t31 := Tryz.underlying26
 a31 := Tryz.isAgg26
 z31 := Tryz.sizeOf26
 v31 := Tryz.zeroValue26 }
theorem Tryz.slices_Compact_string (blk off cap : Nat) (zs : List (List UInt8)) (w : World) (hH : Holds encStr w blk off zs.toArray) (hsz : zs.length ≤ 9223372036854775807) (hcap : zs.length ≤ cap) :
  Calls Tryz.prog 28 #[.slice (some ⟨blk, off, none⟩) zs.length cap] w fun e w' => e = .returned (.slice (some ⟨blk, off, none⟩) (Lib.compact zs).length cap) ∧ ∃ q, w' = putRow encStr (Sort.ahead w q) blk off (Lib.compact zs ++ List.replicate (zs.length - (Lib.compact zs).length) []).toArray := Any.slices_Compact_string Tryz.lays194 blk off cap zs w hH hsz hcap
theorem Tryz.slices_Compact_string_empty (a : Option Addr) (cap : Nat) (w : World) :
  Calls Tryz.prog 28 #[.slice a 0 cap] w fun e w' => e = .returned (.slice a 0 cap) ∧ w' = w := Any.slices_Compact_string_empty Tryz.lays194 a cap w
theorem Tryz.slices_Sort_string_none (p : Option Addr) (cap : Nat) (w : World) :
  Calls Tryz.prog 27 #[.slice p 0 cap] w fun e w' => e = .returned (.tuple #[]) ∧ w' = w := Any.slices_Sort_string_none Tryz.lays190 p cap w
end
end Go.Proofs.YtcjbhdgjcpnklaaGreatDoor
