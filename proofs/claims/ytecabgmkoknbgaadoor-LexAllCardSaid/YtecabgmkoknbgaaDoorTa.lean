/- Contracts of package token's smallest functions: bad, plain, moved; and of its map: what it holds, and what is told of a class. The block of a token, laid for a result. -/
import Derived.Test.YtecabgmkoknbgaaDoorM1
import Derived.Maps.Keyed
import Derived.Carry
namespace Go.Proofs.YtecabgmkoknbgaaDoor
open Go.RowKit Go.ChangeMaps

theorem info_tok : (Tryd.prog.info? 34).map (·.size) = some 5 := by kernel_rfl

def tok0 : Array Value := #[.int .i64 0, .int .i64 0, .int .i64 0, .string { data := #[] }, .int .i64 0]
abbrev wTok (w : World) : World := w.alloc (.cells #[.int .i64 0, .int .i64 0, .int .i64 0, .string { data := #[] }, .int .i64 0] 34)

/-- Block g holds a token of zeros, and may be written. -/
structure TC (g : Nat) (w : World) : Prop where
  lt : g < w.heap.size
  c : ∀ i, w.cell? ⟨g, i, none⟩ = tok0[i]?
  z : ∀ i, w.frozen? ⟨g, i, none⟩ = false

theorem wTok_below (w : World) : Below w.heap.size w (wTok w) := (Below.refl _ _).alloc (Nat.le_refl _) _
theorem wTok_tc (w : World) : TC w.heap.size (wTok w) := ⟨by simp [wTok], fun i => cell_of_row _ _ _ _ _ _ (heap_alloc_new w _), fun i => frozen_of_row _ _ _ _ _ (heap_alloc_new w _)⟩
theorem TC.keep {g : Nat} {w w' : World} (h : TC g w) (hb : Below w.heap.size w w') : TC g w' :=
  ⟨Nat.lt_of_lt_of_le h.lt hb.size, fun i => (hb.cell (p := ⟨g, i, none⟩) h.lt).trans (h.c i), fun i => (hb.frozen (p := ⟨g, i, none⟩) h.lt).trans (h.z i)⟩
theorem TC.q0 {g : Nat} {w : World} (h : TC g w) : w.cell? ⟨g, 0, none⟩ = some (.int .i64 0) := h.c 0
theorem TC.q1 {g : Nat} {w : World} (h : TC g w) : w.cell? ⟨g, 1, none⟩ = some (.int .i64 0) := h.c 1
theorem TC.q2 {g : Nat} {w : World} (h : TC g w) : w.cell? ⟨g, 2, none⟩ = some (.int .i64 0) := h.c 2
theorem TC.q3 {g : Nat} {w : World} (h : TC g w) : w.cell? ⟨g, 3, none⟩ = some (.string { data := #[] }) := h.c 3
theorem TC.q4 {g : Nat} {w : World} (h : TC g w) : w.cell? ⟨g, 4, none⟩ = some (.int .i64 0) := h.c 4
theorem set5_below {B g : Nat} {w w' : World} (h : Below B w w') (hg : B ≤ g) (v0 v1 v2 v3 v4 : Value) :
    Below B w (((((w'.setCell ⟨g, 0, none⟩ v0).setCell ⟨g, 1, none⟩ v1).setCell ⟨g, 2, none⟩ v2).setCell ⟨g, 3, none⟩ v3).setCell ⟨g, 4, none⟩ v4) :=
  ((((h.setCell hg _).setCell hg _).setCell hg _).setCell hg _).setCell hg _

theorem bad_any (n e : Int) (w : World) :
    Calls Tryd.prog 31 #[.int .i64 n, .int .i64 e] w fun r w' => r = .returned (.agg #[.int .i64 8, .int .i64 0, .int .i64 n, .string ⟨#[]⟩, .int .i64 e]) ∧ Below w.heap.size w w' := by
  go_enter Tryd.func31, Tryd.ntmps31
  go_wp2
  exact bodyPost_ret (results_cell_row rfl _ _ w.heap.size 34 _ _ _ rfl (heap_alloc_new w _) Tryd.underlying34 rfl info_tok) rfl ⟨rfl, (Below.refl _ _).alloc (Nat.le_refl _) _⟩

theorem plain_any (k : Int) (a : Option Addr) (len cap : Nat) (l : List Int) (w : World) (h : Bs w a len cap l) :
    Calls Tryd.prog 69 #[.int .i64 k, .slice a len cap] w fun r w' => r = .returned (.agg #[.int .i64 k, .int .i64 0, .int .i64 len, .string (bstr l), .int .i64 0]) ∧ Below w.heap.size w w' := by
  have hs := (h.below (wTok_below w)).str (P := Tryd.prog) 22 9 5 Tryd.underlying22 Tryd.underlying5 Tryd.underlying9
  have hm := h.lt
  unfold maxLen at hm
  clear h
  go_enter Tryd.func69, Tryd.ntmps69
  go_wp2
  exact bodyPost_ret (results_cell_row rfl _ _ w.heap.size 34 _ _ _ rfl (heap_alloc_new w _) Tryd.underlying34 rfl info_tok) rfl ⟨rfl, (Below.refl _ _).alloc (Nat.le_refl _) _⟩

theorem moved_any (k c : Int) (f t n : Nat) (s : ByteArray) (w : World) (hf : f + n ≤ 4000000000) (ht : t + n ≤ 4000000000) :
    Calls Tryd.prog 30 #[.agg #[.int .i64 k, .int .i64 f, .int .i64 t, .string s, .int .i64 c], .int .i64 n] w fun r w' => r = .returned (.agg #[.int .i64 k, .int .i64 (f + n : Nat), .int .i64 (t + n : Nat), .string s, .int .i64 c]) ∧ Below w.heap.size w w' := by
  go_enter Tryd.func30, Tryd.ntmps30
  go_wp2
  refine bodyPost_ret (results_cell_row rfl _ _ (w.heap.size + 1) 34 #[.int .i64 k, .int .i64 ((f : Int) + n), .int .i64 ((t : Int) + n), .string s, .int .i64 c] (0, 0) _ rfl ?_ Tryd.underlying34 rfl info_tok) rfl ⟨?_, ((Below.refl _ _).alloc (Nat.le_refl _) _).alloc (by simp) _⟩
  · have := heap_alloc_new (w.alloc (.cells #[.int .i64 k, .int .i64 ((f : Int) + n), .int .i64 ((t : Int) + n), .string s, .int .i64 c] 34)) (.cells #[.int .i64 k, .int .i64 ((f : Int) + n), .int .i64 ((t : Int) + n), .string s, .int .i64 c] 34)
    rw [show (w.alloc (.cells #[.int .i64 k, .int .i64 ((f : Int) + n), .int .i64 ((t : Int) + n), .string s, .int .i64 c] 34)).heap.size = w.heap.size + 1 from by simp] at this
    exact this
  · simp

/-- The entries of the map that package token makes. -/
def scanEs : Array MapEntry := #[⟨.int .i64 2, .func (.func 56) #[] #[], 0⟩, ⟨.int .i64 9, .func (.func 56) #[] #[], 1⟩, ⟨.int .i64 3, .func (.func 57) #[] #[], 2⟩, ⟨.int .i64 5, .func (.func 58) #[] #[], 3⟩,
  ⟨.int .i64 4, .func (.func 59) #[] #[], 4⟩, ⟨.int .i64 7, .func (.func 60) #[] #[], 5⟩, ⟨.int .i64 6, .func (.func 61) #[] #[], 6⟩]

theorem map_set (w : World) (o o' : Obj) : setBlock (w.alloc o) w.heap.size o' = w.alloc o' := by
  have : (w.heap.push o).setIfInBounds w.heap.size o' = w.heap.push o' := by
    apply Array.ext (by simp)
    intro i h1 h2
    rw [Array.getElem_setIfInBounds (by simpa using h1)]
    by_cases hi : w.heap.size = i
    · subst hi; simp
    · rw [if_neg hi, Array.getElem_push_lt (by simp at h1; omega), Array.getElem_push_lt (by simp at h1; omega)]
  show { (w.alloc o) with heap := (w.heap.push o).setIfInBounds w.heap.size o' } = w.alloc o'
  rw [this]
  rfl

theorem ins_new (w : World) (es : Array MapEntry) (clock : Nat) (k : Int) (v : Value) (hn : Instr.findNow (.int .i64) (.int .i64 k) es.toList 0 = some none) :
    (Instr.mapUpdate 60 (.map (some w.heap.size)) (.int .i64 k) v).run Tryd.prog (w.alloc (.map es clock)) = .ok () (w.alloc (.map (es.push ⟨.int .i64 k, v, clock⟩) (clock + 1))) := by
  have hb : (w.alloc (.map es clock)).heap[w.heap.size]? = some (.map es clock) := heap_alloc_new w _
  have hk : (Instr.findKey 3 (.int .i64 k) es.toList).run Tryd.prog (w.alloc (.map es clock)) = .ok none (w.alloc (.map es clock)) := by
    simp [Instr.findKey, run_underlying Tryd.underlying3, hn]
  have hz := map_set w (.map es clock) (.map (es.push ⟨.int .i64 k, v, clock⟩) (clock + 1))
  unfold setBlock at hz
  simp [Instr.mapUpdate, run_underlying Tryd.underlying60, MapKept.run_getObj_map hb, MapKept.run_checkKey Tryd.underlying3 (k := .int .i64 k) rfl false 9999, hk, MapKept.run_setObj_map _ hb, Result.andThen]
  exact hz

theorem scans_any (w : World) :
    Calls Tryd.prog 41 #[] w fun r w' => r = .returned (.map (some w.heap.size)) ∧ w' = w.alloc (.map scanEs 7) := by
  have hmm := @run_makeMap Tryd.prog
  have i0 := ins_new w #[] 0 2 (.func (.func 56) #[] #[]) (by rfl)
  have i1 := ins_new w #[⟨.int .i64 2, .func (.func 56) #[] #[], 0⟩] 1 9 (.func (.func 56) #[] #[]) (by rfl)
  have i2 := ins_new w #[⟨.int .i64 2, .func (.func 56) #[] #[], 0⟩, ⟨.int .i64 9, .func (.func 56) #[] #[], 1⟩] 2 3 (.func (.func 57) #[] #[]) (by rfl)
  have i3 := ins_new w #[⟨.int .i64 2, .func (.func 56) #[] #[], 0⟩, ⟨.int .i64 9, .func (.func 56) #[] #[], 1⟩, ⟨.int .i64 3, .func (.func 57) #[] #[], 2⟩] 3 5 (.func (.func 58) #[] #[]) (by rfl)
  have i4 := ins_new w #[⟨.int .i64 2, .func (.func 56) #[] #[], 0⟩, ⟨.int .i64 9, .func (.func 56) #[] #[], 1⟩, ⟨.int .i64 3, .func (.func 57) #[] #[], 2⟩, ⟨.int .i64 5, .func (.func 58) #[] #[], 3⟩] 4 4 (.func (.func 59) #[] #[]) (by rfl)
  have i5 := ins_new w #[⟨.int .i64 2, .func (.func 56) #[] #[], 0⟩, ⟨.int .i64 9, .func (.func 56) #[] #[], 1⟩, ⟨.int .i64 3, .func (.func 57) #[] #[], 2⟩, ⟨.int .i64 5, .func (.func 58) #[] #[], 3⟩, ⟨.int .i64 4, .func (.func 59) #[] #[], 4⟩] 5 7 (.func (.func 60) #[] #[]) (by rfl)
  have i6 := ins_new w #[⟨.int .i64 2, .func (.func 56) #[] #[], 0⟩, ⟨.int .i64 9, .func (.func 56) #[] #[], 1⟩, ⟨.int .i64 3, .func (.func 57) #[] #[], 2⟩, ⟨.int .i64 5, .func (.func 58) #[] #[], 3⟩, ⟨.int .i64 4, .func (.func 59) #[] #[], 4⟩, ⟨.int .i64 7, .func (.func 60) #[] #[], 5⟩] 6 6 (.func (.func 61) #[] #[]) (by rfl)
  simp only [List.push_toArray, List.nil_append, List.cons_append, Nat.zero_add, Nat.reduceAdd] at i0 i1 i2 i3 i4 i5 i6
  go_enter Tryd.func41, Tryd.ntmps41
  go_wp2
  go_ret
  exact ⟨rfl, rfl⟩

/-- What the map tells of a class. -/
def scanV (c : Int) : Value := match c with
  | 2 => .func (.func 56) #[] #[]
  | 9 => .func (.func 56) #[] #[]
  | 3 => .func (.func 57) #[] #[]
  | 5 => .func (.func 58) #[] #[]
  | 4 => .func (.func 59) #[] #[]
  | 7 => .func (.func 60) #[] #[]
  | 6 => .func (.func 61) #[] #[]
  | _ => .nilFunc
def scanB (c : Int) : Bool := match c with
  | 0 => false
  | 1 => false
  | 8 => false
  | _ => true

theorem look_any (M : Nat) (c : Int) (hc : 0 ≤ c ∧ c ≤ 9) (w : World) (hb : w.heap[M]? = some (.map scanEs 7)) :
    (Instr.lookup 60 (.map (some M)) (.int .i64 c) true).run Tryd.prog w = .ok (.tuple #[scanV c, .bool (scanB c)]) w := by
  have hk : (Instr.findKey 3 (.int .i64 c) scanEs.toList).run Tryd.prog w = .ok (if scanB c then some (([2, 9, 3, 5, 4, 7, 6] : List Int).idxOf c, scanV c) else none) w := by
    obtain rfl | rfl | rfl | rfl | rfl | rfl | rfl | rfl | rfl | rfl : c = 0 ∨ c = 1 ∨ c = 2 ∨ c = 3 ∨ c = 4 ∨ c = 5 ∨ c = 6 ∨ c = 7 ∨ c = 8 ∨ c = 9 := by omega
    all_goals
      simp [Instr.findKey, run_underlying Tryd.underlying3, scanEs, Instr.findNow, Instr.sameNow, scanB, scanV]
      try rfl
  have he : scanEs.isEmpty = false := rfl
  by_cases hs : scanB c = true
  · rw [hs, if_pos rfl] at hk
    simp [Instr.lookup, run_underlying Tryd.underlying60, MapKept.run_getObj_map hb, MapKept.run_checkKey Tryd.underlying3 (k := .int .i64 c) rfl, he, hk, hs, Result.andThen]
  · have hs' : scanB c = false := by simpa using hs
    have hv : scanV c = .nilFunc := by
      obtain rfl | rfl | rfl | rfl | rfl | rfl | rfl | rfl | rfl | rfl : c = 0 ∨ c = 1 ∨ c = 2 ∨ c = 3 ∨ c = 4 ∨ c = 5 ∨ c = 6 ∨ c = 7 ∨ c = 8 ∨ c = 9 := by omega
      all_goals first | rfl | (exact absurd rfl hs)
    have hz : (zeroValue 58).run Tryd.prog w = .ok .nilFunc w := by kernel_rfl
    rw [hs', if_neg (by simp)] at hk
    simp [Instr.lookup, run_underlying Tryd.underlying60, MapKept.run_getObj_map hb, MapKept.run_checkKey Tryd.underlying3 (k := .int .i64 c) rfl, he, hk, hs', hv, hz, Result.andThen]

end Go.Proofs.YtecabgmkoknbgaaDoor
