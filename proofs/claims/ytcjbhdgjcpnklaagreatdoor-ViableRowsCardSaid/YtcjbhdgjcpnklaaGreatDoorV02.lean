import Derived.LaidLaws
import Derived.ChangeArms
import Derived.Lib.LaidTab
import Derived.Test.YtcjbhdgjcpnklaaGreatDoorRows
import Derived.Lib.Hide
import Derived.Laws.RangeString
import Derived.Laws.RangeAny
import Derived.BigQuiet
import Derived.Deep.QuietTactic
import Derived.Test.YtcjbhdgjcpnklaaGreatDoorV22
import Derived.Test.YtcjbhdgjcpnklaaGreatDoorV01
namespace Go.Proofs.YtcjbhdgjcpnklaaGreatDoor
section
open Go
def cellsKids (P : Program) {H : Type} (f : TypeId → DataW H → Option (List Value)) (total : Nat) : Nat → List (Nat × TypeId) → List (DataW H) → Option (List Value)
 | off, [], [] => if off = total then some [] else none
 | off, (o, t) :: ks, d :: ds => if o = off then (f t d).bind fun v => (cellsKids P f total (off + P.cellsOf t) ks ds).map fun r => v ++ r else none
 | _, _, _ => none
def cellsFor (P : Program) {H : Type} : Nat → TypeId → DataW H → Option (List Value)
 | 0, _, _ => none
 | n + 1, t, d =>
  match P.underlying t, d with
  | some .bool, .lit (.bool b) => some [.bool b]
  | some (.int _), .lit (.int k z) => some [.int k z]
  | some .string, .lit (.string l) => some [.string ⟨l.toArray⟩]
  | some (.array m e), .agg ds => cellsKids P (cellsFor P n) (P.cellsOf t) 0 ((List.range m).map fun i => (i * P.cellsOf e, e)) ds
  | some (.struct fs), .agg ds => cellsKids P (cellsFor P n) (P.cellsOf t) 0 (fs.toList.map fun f => (f.offset, f.type)) ds
  | _, _ => none
theorem zBN {P : Program} {H : Type} {f : TypeId → DataW H → Option (List Value)} {g : TypeId → List Value → Option (DataW H × List MemPlace)} {cs : List Value}
  (hf : ∀ t d vs c p, f t d = some vs → g t c = some (d, p) → c = vs) :
  ∀ (ks : List (Nat × TypeId)) (off : Nat) (xs : List (DataW H × List MemPlace)) (vs : List Value),
   (ks.mapM fun k => g k.2 ((cs.drop k.1).take (P.cellsOf k.2))) = some xs → cellsKids P f cs.length off ks (xs.map (·.1)) = some vs → cs.drop off = vs
 | [], off, xs, vs, h, hc => by
  simp at h
  subst h
  simp only [List.map_nil, cellsKids] at hc
  split at hc
  ·rename_i ho
   simp only [Option.some.injEq] at hc
   subst hc
   exact List.drop_eq_nil_iff.2 (by omega)
  ·cases hc
 | (o, t) :: ks, off, xs, vs, h, hc => by
  simp only [List.mapM_cons, Option.bind_eq_bind, Option.bind_eq_some_iff, Option.pure_def, Option.some.injEq] at h
  obtain ⟨y, hy, r, hr, rfl⟩ := h
  simp only [List.map_cons, cellsKids] at hc
  split at hc
  ·rename_i ho
   subst ho
   simp only [Option.bind_eq_some_iff, Option.map_eq_some_iff] at hc
   obtain ⟨v, hv, r', hr', rfl⟩ := hc
   have h1 := hf t y.1 v _ y.2 hv hy
   have h2 := zBN hf ks (o + P.cellsOf t) r r' hr hr'
   rw [← h1, ← h2, ← List.drop_drop, List.take_append_drop]
  ·cases hc
theorem zCW {H : Type} {enc : TypeId × Value → H} {P : Program} {w : World} {base : Nat} {sp : Nat → Bool} {held : Bool} :
  ∀ (n fuel : Nat) (t : TypeId) (d : DataW H) (vs cs : List Value) (p : List MemPlace), cellsFor P n t d = some vs → DataW.trod enc P w base sp held fuel t cs = some (d, p) → cs = vs
 | 0, _, _, _, _, _, _, h, _ => by cases h
 | n + 1, 0, _, _, _, _, _, _, h => by simp [DataW.trod] at h
 | n + 1, fuel + 1, t, d, vs, cs, p, h, hd => by
  have ih := fun t d vs c p => zCW (P := P) (enc := enc) (w := w) (base := base) (sp := sp) (held := held) n fuel t d vs c p
  unfold cellsFor at h
  unfold DataW.trod at hd
  cases hu : P.underlying t with
  | none => simp [hu] at h
  | some u =>
   rw [hu] at h hd
   split at h
   case h_1 h1 =>
    cases h1
    simp only [Option.some.injEq] at h
    subst h
    split at hd <;> simp_all
   case h_2 h1 =>
    cases h1
    simp only [Option.some.injEq] at h
    subst h
    split at hd <;> simp_all
   case h_3 h1 =>
    cases h1
    simp only [Option.some.injEq] at h
    subst h
    split at hd <;> simp_all
    obtain ⟨_, e, _⟩ := hd
    subst e
    rfl
   case h_4 h1 =>
    cases h1
    simp only at hd
    split at hd
    ·rename_i hl
     obtain ⟨xs, hm, hx⟩ := Option.map_eq_some_iff.1 hd
     simp only [Prod.mk.injEq, DataW.agg.injEq] at hx
     obtain ⟨rfl, _⟩ := hx
     rw [← hl] at h
     have := zBN (P := P) ih _ 0 xs vs (by rw [List.mapM_map]; exact hm) h
     simpa using this
    ·cases hd
   case h_5 h1 =>
    cases h1
    simp only at hd
    split at hd
    ·rename_i hl
     obtain ⟨xs, hm, hx⟩ := Option.map_eq_some_iff.1 hd
     simp only [Prod.mk.injEq, DataW.agg.injEq] at hx
     obtain ⟨rfl, _⟩ := hx
     rw [← hl] at h
     have := zBN (P := P) ih _ 0 xs vs (by rw [List.mapM_map]; exact hm) h
     simpa using this
    ·cases hd
   case h_6 => cases h
theorem zIz {P : Program} {W : World} {name : String} {d : DataW Unit} {rest : List (String × DataW Unit)} {g : Nat} {t : TypeId} {n : Nat} {vs : List Value}
  (hg : P.globalNamed name = some g) (hty : (P.globals[g]?).map (·.type) = some t) (hc : cellsFor P n t d = some vs)
  (h : laidMet P ((name, d) :: rest) W) : W.var? P name = some vs.toArray := by
 obtain ⟨ps, ⟨g', t', cs, fuel, p, q, hg', ht', hvar, hd, _, _⟩, _⟩ := h
 obtain rfl := Option.some.inj (hg.symm.trans hg')
 obtain rfl := Option.some.inj (hty.symm.trans ht')
 rw [hvar, ← zCW n fuel _ _ _ _ _ hc hd]
end
section
open Go.RowKit
def memFrom (s : ByteArray) (c : Int) (k : Nat) : Bool := (s.data.toList.drop k).any fun b => (b.toNat : Int) == c
theorem zDm {s : ByteArray} {c : Int} {k : Nat} (h : ¬ k < s.size) : memFrom s c k = false := by
 unfold memFrom
 rw [List.drop_eq_nil_iff.2 (by rw [Array.length_toList]; exact Nat.le_of_not_lt h)]
 rfl
theorem zDL {s : ByteArray} {c : Int} {k : Nat} (h : k < s.size) : memFrom s c k = (((s[k].toNat : Int) == c) || memFrom s c (k + 1)) := by
 unfold memFrom
 rw [List.drop_eq_getElem_cons (by rw [Array.length_toList]; exact h)]
 rfl
set_option maxHeartbeats 400000 in
theorem zB9 (s : ByteArray) (c : Int) (w : World) (ha : ∀ k (h : k < s.size), (s[k]'h).toNat < 128) (h0 : 0 ≤ c) (h1 : c ≤ 255) :
  Calls Tryz.prog 170 #[.string s, .int .u8 c] w fun e w' => e = .returned (.bool (memFrom s c 0)) ∧ ∃ pos, w' = w.iter s pos := by
 go_enter Tryz.func170, Tryz.ntmps170
 go_wp2
 go_loopw [] (fun w' => ∃ pos, w' = w.iter s pos ∧ Hid (memFrom s c pos = memFrom s c 0)) (fun w' => s.size - w'.iterPos w.heap.size)
 case atStart => exact ⟨0, rfl, hid rfl⟩
 case round =>
  obtain ⟨pos, rfl, HM⟩ := hrel
  by_cases hp : pos < s.size
  ·have hnx : ∀ ty, (Instr.next (.pointer (some ⟨w.heap.size, 0, none⟩)) true ty).run Tryz.prog (w.iter s pos) = _ := fun ty => run_next_ascii w s pos ty hp (ha pos hp)
   have hst := zDL (c := c) hp
   have HS := hid hst
   clear hst
   go_wp2
   ·rename_i hq
    have HT : Hid (memFrom s c 0 = true) := hid (by rw [← HM.out, HS.out, hq]; rfl)
    go_ret
    exact ⟨by rw [HT.out]; rfl, _, rfl⟩
   ·rename_i hq
    go_roundw
    case rel => exact ⟨pos + 1, rfl, hid (by rw [← HM.out, HS.out, hq]; rfl)⟩
    case measure => simp; omega
  ·have hnx : ∀ ty, (Instr.next (.pointer (some ⟨w.heap.size, 0, none⟩)) true ty).run Tryz.prog (w.iter s pos) = _ := fun ty => run_next_end w s pos ty hp
   have HT : Hid (memFrom s c 0 = false) := hid (by rw [← HM.out]; exact zDm hp)
   go_wp2
   go_ret
   exact ⟨by rw [HT.out]; rfl, _, rfl⟩
end
section
open Go.RowKit
def setAt (k : Nat) : Int × List UInt8 := [((1 : Int), ([9, 10, 13, 32] : List UInt8)), (2, [97, 98, 99, 100, 101, 102, 103, 104, 105, 106, 107, 108, 109, 110, 111, 112, 113, 114, 115, 116, 117, 118, 119, 120, 121, 122]), (3, [65, 66, 67, 68, 69, 70, 71, 72, 73, 74, 75, 76, 77, 78, 79, 80, 81, 82, 83, 84, 85, 86, 87, 88, 89, 90, 95]), (4, [48, 49, 50, 51, 52, 53, 54, 55, 56, 57]), (5, [43, 45, 42, 47, 92, 94, 60, 62, 61, 126, 58, 46, 63, 64, 35, 38, 36, 33]), (6, [40, 41, 44, 124, 59, 91, 93, 123, 125]), (7, [39]), (8, [37])].getD k (0, [])
def txt (k : Nat) : ByteArray := ⟨(setAt k).2.toArray⟩
theorem zLq : cellsFor Tryz.prog 3 236 (Rows.laid_tmesis_class_sets (H := Unit)) = some (((List.range 8).map fun k => [Value.int .i64 (setAt k).1, .string (txt k)]).flatten) := by kernel_rfl
theorem g0 : Tryz.prog.globalNamed "tmesis/class.sets" = some 0 := by kernel_rfl
theorem gt0 : (Tryz.prog.globals[0]?).map (·.type) = some 236 := by kernel_rfl
def tabCells : Array Value := (((List.range 8).map fun k => [Value.int .i64 (setAt k).1, .string (txt k)]).flatten).toArray
def Tab (w : World) : Prop := 0 < w.heap.size ∧ ∀ i v, tabCells[i]? = some v → w.cell? ⟨0, i, none⟩ = some v
theorem zBq {W : World} {rest : List (String × DataW Unit)} (h : laidMet Tryz.prog (("tmesis/class.sets", Rows.laid_tmesis_class_sets) :: rest) W) : Tab W := by
 have hv := zIz g0 gt0 zLq h
 have hc : ∀ i v, tabCells[i]? = some v → W.cell? ⟨0, i, none⟩ = some v := fun i v hi => by rw [World.var?_cell g0 hv i]; exact hi
 exact ⟨World.block_lt_of_cell? W _ (hc 0 _ rfl), hc⟩
theorem Tab.cell {w : World} (h : Tab w) (i : Nat) (v : Value) (hv : tabCells[i]? = some v) : w.cell? ⟨0, i, none⟩ = some v := h.2 i v hv
theorem Tab.below {w w' : World} {B : Nat} (h : Tab w) (hb : Below B w w') (hB : 0 < B) : Tab w' := by
 have := hb.size
 exact ⟨by have := h.1; omega, fun i v hi => by rw [hb.cell hB]; exact h.2 i v hi⟩
theorem Tab.keep {w w' : World} (h : Tab w) (hb : Below w.heap.size w w') : Tab w' := h.below hb h.1
def clsGo (c : Int) : List Nat → Int
 | [] => 0
 | k :: r => if memFrom (txt k) c 0 then (setAt k).1 else clsGo c r
def rows (k : Nat) : List Nat := [0, 1, 2, 3, 4, 5, 6, 7].drop k
def cls (c : Int) : Int := if 128 ≤ c then 9 else clsGo c (rows 0)
theorem zBA : ∀ k, k < 8 → ∀ i (h : i < (txt k).size), ((txt k)[i]'h).toNat < 128 := by decide +kernel
theorem zAw (c : Int) (k : Nat) (h : k < 8) : clsGo c (rows k) = if memFrom (txt k) c 0 then (setAt k).1 else clsGo c (rows (k + 1)) := by
 obtain rfl | rfl | rfl | rfl | rfl | rfl | rfl | rfl : k = 0 ∨ k = 1 ∨ k = 2 ∨ k = 3 ∨ k = 4 ∨ k = 5 ∨ k = 6 ∨ k = 7 := by omega
 all_goals rfl
theorem zBB (w : World) (cs : Array Value) (t : TypeId) (s : ByteArray) (i : Nat) (v : Value) (h : cs[i]? = some v) (pos : Nat) : ((w.alloc (.cells cs t)).iter s pos).cell? ⟨w.heap.size, i, none⟩ = some v := by
 have h1 : Below (w.heap.size + 1) (w.alloc (.cells cs t)) ((w.alloc (.cells cs t)).iter s pos) := (Below.refl _ _).alloc (by simp) _
 rw [h1.cell (by simp), cell_of_row (w.alloc (.cells cs t)) w.heap.size i _ t _ (heap_alloc_new w _)]
 exact h
theorem ix0 (w : World) : (Instr.index 236 (.agg #[.int .i64 (setAt 0).1, .string (txt 0), .int .i64 (setAt 1).1, .string (txt 1), .int .i64 (setAt 2).1, .string (txt 2), .int .i64 (setAt 3).1, .string (txt 3), .int .i64 (setAt 4).1, .string (txt 4), .int .i64 (setAt 5).1, .string (txt 5), .int .i64 (setAt 6).1, .string (txt 6), .int .i64 (setAt 7).1, .string (txt 7)]) (.int .i64 0)).run Tryz.prog w = .ok (.agg #[.int .i64 (setAt 0).1, .string (txt 0)]) w := by kernel_rfl
theorem ix1 (w : World) : (Instr.index 236 (.agg #[.int .i64 (setAt 0).1, .string (txt 0), .int .i64 (setAt 1).1, .string (txt 1), .int .i64 (setAt 2).1, .string (txt 2), .int .i64 (setAt 3).1, .string (txt 3), .int .i64 (setAt 4).1, .string (txt 4), .int .i64 (setAt 5).1, .string (txt 5), .int .i64 (setAt 6).1, .string (txt 6), .int .i64 (setAt 7).1, .string (txt 7)]) (.int .i64 1)).run Tryz.prog w = .ok (.agg #[.int .i64 (setAt 1).1, .string (txt 1)]) w := by kernel_rfl
theorem ix2 (w : World) : (Instr.index 236 (.agg #[.int .i64 (setAt 0).1, .string (txt 0), .int .i64 (setAt 1).1, .string (txt 1), .int .i64 (setAt 2).1, .string (txt 2), .int .i64 (setAt 3).1, .string (txt 3), .int .i64 (setAt 4).1, .string (txt 4), .int .i64 (setAt 5).1, .string (txt 5), .int .i64 (setAt 6).1, .string (txt 6), .int .i64 (setAt 7).1, .string (txt 7)]) (.int .i64 2)).run Tryz.prog w = .ok (.agg #[.int .i64 (setAt 2).1, .string (txt 2)]) w := by kernel_rfl
theorem ix3 (w : World) : (Instr.index 236 (.agg #[.int .i64 (setAt 0).1, .string (txt 0), .int .i64 (setAt 1).1, .string (txt 1), .int .i64 (setAt 2).1, .string (txt 2), .int .i64 (setAt 3).1, .string (txt 3), .int .i64 (setAt 4).1, .string (txt 4), .int .i64 (setAt 5).1, .string (txt 5), .int .i64 (setAt 6).1, .string (txt 6), .int .i64 (setAt 7).1, .string (txt 7)]) (.int .i64 3)).run Tryz.prog w = .ok (.agg #[.int .i64 (setAt 3).1, .string (txt 3)]) w := by kernel_rfl
theorem ix4 (w : World) : (Instr.index 236 (.agg #[.int .i64 (setAt 0).1, .string (txt 0), .int .i64 (setAt 1).1, .string (txt 1), .int .i64 (setAt 2).1, .string (txt 2), .int .i64 (setAt 3).1, .string (txt 3), .int .i64 (setAt 4).1, .string (txt 4), .int .i64 (setAt 5).1, .string (txt 5), .int .i64 (setAt 6).1, .string (txt 6), .int .i64 (setAt 7).1, .string (txt 7)]) (.int .i64 4)).run Tryz.prog w = .ok (.agg #[.int .i64 (setAt 4).1, .string (txt 4)]) w := by kernel_rfl
theorem ix5 (w : World) : (Instr.index 236 (.agg #[.int .i64 (setAt 0).1, .string (txt 0), .int .i64 (setAt 1).1, .string (txt 1), .int .i64 (setAt 2).1, .string (txt 2), .int .i64 (setAt 3).1, .string (txt 3), .int .i64 (setAt 4).1, .string (txt 4), .int .i64 (setAt 5).1, .string (txt 5), .int .i64 (setAt 6).1, .string (txt 6), .int .i64 (setAt 7).1, .string (txt 7)]) (.int .i64 5)).run Tryz.prog w = .ok (.agg #[.int .i64 (setAt 5).1, .string (txt 5)]) w := by kernel_rfl
theorem ix6 (w : World) : (Instr.index 236 (.agg #[.int .i64 (setAt 0).1, .string (txt 0), .int .i64 (setAt 1).1, .string (txt 1), .int .i64 (setAt 2).1, .string (txt 2), .int .i64 (setAt 3).1, .string (txt 3), .int .i64 (setAt 4).1, .string (txt 4), .int .i64 (setAt 5).1, .string (txt 5), .int .i64 (setAt 6).1, .string (txt 6), .int .i64 (setAt 7).1, .string (txt 7)]) (.int .i64 6)).run Tryz.prog w = .ok (.agg #[.int .i64 (setAt 6).1, .string (txt 6)]) w := by kernel_rfl
theorem ix7 (w : World) : (Instr.index 236 (.agg #[.int .i64 (setAt 0).1, .string (txt 0), .int .i64 (setAt 1).1, .string (txt 1), .int .i64 (setAt 2).1, .string (txt 2), .int .i64 (setAt 3).1, .string (txt 3), .int .i64 (setAt 4).1, .string (txt 4), .int .i64 (setAt 5).1, .string (txt 5), .int .i64 (setAt 6).1, .string (txt 6), .int .i64 (setAt 7).1, .string (txt 7)]) (.int .i64 7)).run Tryz.prog w = .ok (.agg #[.int .i64 (setAt 7).1, .string (txt 7)]) w := by kernel_rfl
set_option maxRecDepth 20000 in
set_option maxHeartbeats 1000000 in
theorem zDM (c : Int) (w : World) (ht : Tab w) (h0 : 0 ≤ c) (h1 : c ≤ 255) :
  Calls Tryz.prog 138 #[.int .u8 c] w fun e w' => e = .returned (.int .i64 (cls c)) ∧ Below w.heap.size w w' := by
 by_cases hh : 128 ≤ c
 ·have HT : Hid (cls c = 9) := hid (by unfold cls; rw [if_pos hh])
  clear ht
  go_enter Tryz.func138, Tryz.ntmps138
  go_wp2
  go_ret
  exact ⟨by rw [HT.out]; rfl, Below.refl _ _⟩
 have c0 : w.cell? ⟨0, 0, none⟩ = some (.int .i64 (setAt 0).1) := ht.cell 0 _ rfl
 have c1 : w.cell? ⟨0, 1, none⟩ = some (.string (txt 0)) := ht.cell 1 _ rfl
 have c2 : w.cell? ⟨0, 2, none⟩ = some (.int .i64 (setAt 1).1) := ht.cell 2 _ rfl
 have c3 : w.cell? ⟨0, 3, none⟩ = some (.string (txt 1)) := ht.cell 3 _ rfl
 have c4 : w.cell? ⟨0, 4, none⟩ = some (.int .i64 (setAt 2).1) := ht.cell 4 _ rfl
 have c5 : w.cell? ⟨0, 5, none⟩ = some (.string (txt 2)) := ht.cell 5 _ rfl
 have c6 : w.cell? ⟨0, 6, none⟩ = some (.int .i64 (setAt 3).1) := ht.cell 6 _ rfl
 have c7 : w.cell? ⟨0, 7, none⟩ = some (.string (txt 3)) := ht.cell 7 _ rfl
 have c8 : w.cell? ⟨0, 8, none⟩ = some (.int .i64 (setAt 4).1) := ht.cell 8 _ rfl
 have c9 : w.cell? ⟨0, 9, none⟩ = some (.string (txt 4)) := ht.cell 9 _ rfl
 have c10 : w.cell? ⟨0, 10, none⟩ = some (.int .i64 (setAt 5).1) := ht.cell 10 _ rfl
 have c11 : w.cell? ⟨0, 11, none⟩ = some (.string (txt 5)) := ht.cell 11 _ rfl
 have c12 : w.cell? ⟨0, 12, none⟩ = some (.int .i64 (setAt 6).1) := ht.cell 12 _ rfl
 have c13 : w.cell? ⟨0, 13, none⟩ = some (.string (txt 6)) := ht.cell 13 _ rfl
 have c14 : w.cell? ⟨0, 14, none⟩ = some (.int .i64 (setAt 7).1) := ht.cell 14 _ rfl
 have c15 : w.cell? ⟨0, 15, none⟩ = some (.string (txt 7)) := ht.cell 15 _ rfl
 have HC : Hid (cls c = clsGo c (rows 0)) := hid (by unfold cls; rw [if_neg hh])
 clear ht
 go_enter Tryz.func138, Tryz.ntmps138
 go_wp2
 clear c0 c1 c2 c3 c4 c5 c6 c7 c8 c9 c10 c11 c12 c13 c14 c15
 go_loopw [8] (fun i wr => ∃ k : Nat, i = .int .i64 k ∧ k ≤ 8 ∧ Hid (clsGo c (rows k) = cls c) ∧ Hid (Below w.heap.size w wr)) (fun i _ => 8 - (intOf i).toNat)
 case atStart => exact ⟨0, rfl, by omega, hid HC.out.symm, hid (Below.refl _ _)⟩
 case round =>
  obtain ⟨k, rfl, hk, HM, HB⟩ := hrel
  obtain rfl | rfl | rfl | rfl | rfl | rfl | rfl | rfl | rfl : k = 0 ∨ k = 1 ∨ k = 2 ∨ k = 3 ∨ k = 4 ∨ k = 5 ∨ k = 6 ∨ k = 7 ∨ k = 8 := by omega
  ·have HS := hid (zAw c 0 (by omega))
   have hx := ix0 wr
   have hc := zBB wr #[.int .i64 (setAt 0).1, .string (txt 0)] 235 (txt 0) 0 _ rfl
   go_wp2_with (first | (go_at_call 170; refine (zB9 _ _ _ (zBA _ (by omega)) h0 h1).mono ?_; rintro e w' ⟨rfl, pos, rfl⟩))
   ·rename_i hq
    have HT : Hid (cls c = (setAt 0).1) := hid (by rw [← HM.out, HS.out, if_pos hq])
    go_ret
    exact ⟨by rw [HT.out]; rfl, (HB.out.alloc HB.out.size _).alloc (by have := HB.out.size; simp; omega) _⟩
   ·rename_i hq
    go_roundw
    case rel => exact ⟨0 + 1, by go_num, by omega, hid (by rw [← HM.out, HS.out, if_neg (by rw [hq]; decide)]), hid ((HB.out.alloc HB.out.size _).alloc (by have := HB.out.size; simp; omega) _)⟩
    case measure => simp [intOf]
  ·have HS := hid (zAw c 1 (by omega))
   have hx := ix1 wr
   have hc := zBB wr #[.int .i64 (setAt 1).1, .string (txt 1)] 235 (txt 1) 0 _ rfl
   go_wp2_with (first | (go_at_call 170; refine (zB9 _ _ _ (zBA _ (by omega)) h0 h1).mono ?_; rintro e w' ⟨rfl, pos, rfl⟩))
   ·rename_i hq
    have HT : Hid (cls c = (setAt 1).1) := hid (by rw [← HM.out, HS.out, if_pos hq])
    go_ret
    exact ⟨by rw [HT.out]; rfl, (HB.out.alloc HB.out.size _).alloc (by have := HB.out.size; simp; omega) _⟩
   ·rename_i hq
    go_roundw
    case rel => exact ⟨1 + 1, by go_num, by omega, hid (by rw [← HM.out, HS.out, if_neg (by rw [hq]; decide)]), hid ((HB.out.alloc HB.out.size _).alloc (by have := HB.out.size; simp; omega) _)⟩
    case measure => simp [intOf]
  ·have HS := hid (zAw c 2 (by omega))
   have hx := ix2 wr
   have hc := zBB wr #[.int .i64 (setAt 2).1, .string (txt 2)] 235 (txt 2) 0 _ rfl
   go_wp2_with (first | (go_at_call 170; refine (zB9 _ _ _ (zBA _ (by omega)) h0 h1).mono ?_; rintro e w' ⟨rfl, pos, rfl⟩))
   ·rename_i hq
    have HT : Hid (cls c = (setAt 2).1) := hid (by rw [← HM.out, HS.out, if_pos hq])
    go_ret
    exact ⟨by rw [HT.out]; rfl, (HB.out.alloc HB.out.size _).alloc (by have := HB.out.size; simp; omega) _⟩
   ·rename_i hq
    go_roundw
    case rel => exact ⟨2 + 1, by go_num, by omega, hid (by rw [← HM.out, HS.out, if_neg (by rw [hq]; decide)]), hid ((HB.out.alloc HB.out.size _).alloc (by have := HB.out.size; simp; omega) _)⟩
    case measure => simp [intOf]
  ·have HS := hid (zAw c 3 (by omega))
   have hx := ix3 wr
   have hc := zBB wr #[.int .i64 (setAt 3).1, .string (txt 3)] 235 (txt 3) 0 _ rfl
   go_wp2_with (first | (go_at_call 170; refine (zB9 _ _ _ (zBA _ (by omega)) h0 h1).mono ?_; rintro e w' ⟨rfl, pos, rfl⟩))
   ·rename_i hq
    have HT : Hid (cls c = (setAt 3).1) := hid (by rw [← HM.out, HS.out, if_pos hq])
    go_ret
    exact ⟨by rw [HT.out]; rfl, (HB.out.alloc HB.out.size _).alloc (by have := HB.out.size; simp; omega) _⟩
   ·rename_i hq
    go_roundw
    case rel => exact ⟨3 + 1, by go_num, by omega, hid (by rw [← HM.out, HS.out, if_neg (by rw [hq]; decide)]), hid ((HB.out.alloc HB.out.size _).alloc (by have := HB.out.size; simp; omega) _)⟩
    case measure => simp [intOf]
  ·have HS := hid (zAw c 4 (by omega))
   have hx := ix4 wr
   have hc := zBB wr #[.int .i64 (setAt 4).1, .string (txt 4)] 235 (txt 4) 0 _ rfl
   go_wp2_with (first | (go_at_call 170; refine (zB9 _ _ _ (zBA _ (by omega)) h0 h1).mono ?_; rintro e w' ⟨rfl, pos, rfl⟩))
   ·rename_i hq
    have HT : Hid (cls c = (setAt 4).1) := hid (by rw [← HM.out, HS.out, if_pos hq])
    go_ret
    exact ⟨by rw [HT.out]; rfl, (HB.out.alloc HB.out.size _).alloc (by have := HB.out.size; simp; omega) _⟩
   ·rename_i hq
    go_roundw
    case rel => exact ⟨4 + 1, by go_num, by omega, hid (by rw [← HM.out, HS.out, if_neg (by rw [hq]; decide)]), hid ((HB.out.alloc HB.out.size _).alloc (by have := HB.out.size; simp; omega) _)⟩
    case measure => simp [intOf]
  ·have HS := hid (zAw c 5 (by omega))
   have hx := ix5 wr
   have hc := zBB wr #[.int .i64 (setAt 5).1, .string (txt 5)] 235 (txt 5) 0 _ rfl
   go_wp2_with (first | (go_at_call 170; refine (zB9 _ _ _ (zBA _ (by omega)) h0 h1).mono ?_; rintro e w' ⟨rfl, pos, rfl⟩))
   ·rename_i hq
    have HT : Hid (cls c = (setAt 5).1) := hid (by rw [← HM.out, HS.out, if_pos hq])
    go_ret
    exact ⟨by rw [HT.out]; rfl, (HB.out.alloc HB.out.size _).alloc (by have := HB.out.size; simp; omega) _⟩
   ·rename_i hq
    go_roundw
    case rel => exact ⟨5 + 1, by go_num, by omega, hid (by rw [← HM.out, HS.out, if_neg (by rw [hq]; decide)]), hid ((HB.out.alloc HB.out.size _).alloc (by have := HB.out.size; simp; omega) _)⟩
    case measure => simp [intOf]
  ·have HS := hid (zAw c 6 (by omega))
   have hx := ix6 wr
   have hc := zBB wr #[.int .i64 (setAt 6).1, .string (txt 6)] 235 (txt 6) 0 _ rfl
   go_wp2_with (first | (go_at_call 170; refine (zB9 _ _ _ (zBA _ (by omega)) h0 h1).mono ?_; rintro e w' ⟨rfl, pos, rfl⟩))
   ·rename_i hq
    have HT : Hid (cls c = (setAt 6).1) := hid (by rw [← HM.out, HS.out, if_pos hq])
    go_ret
    exact ⟨by rw [HT.out]; rfl, (HB.out.alloc HB.out.size _).alloc (by have := HB.out.size; simp; omega) _⟩
   ·rename_i hq
    go_roundw
    case rel => exact ⟨6 + 1, by go_num, by omega, hid (by rw [← HM.out, HS.out, if_neg (by rw [hq]; decide)]), hid ((HB.out.alloc HB.out.size _).alloc (by have := HB.out.size; simp; omega) _)⟩
    case measure => simp [intOf]
  ·have HS := hid (zAw c 7 (by omega))
   have hx := ix7 wr
   have hc := zBB wr #[.int .i64 (setAt 7).1, .string (txt 7)] 235 (txt 7) 0 _ rfl
   go_wp2_with (first | (go_at_call 170; refine (zB9 _ _ _ (zBA _ (by omega)) h0 h1).mono ?_; rintro e w' ⟨rfl, pos, rfl⟩))
   ·rename_i hq
    have HT : Hid (cls c = (setAt 7).1) := hid (by rw [← HM.out, HS.out, if_pos hq])
    go_ret
    exact ⟨by rw [HT.out]; rfl, (HB.out.alloc HB.out.size _).alloc (by have := HB.out.size; simp; omega) _⟩
   ·rename_i hq
    go_roundw
    case rel => exact ⟨7 + 1, by go_num, by omega, hid (by rw [← HM.out, HS.out, if_neg (by rw [hq]; decide)]), hid ((HB.out.alloc HB.out.size _).alloc (by have := HB.out.size; simp; omega) _)⟩
    case measure => simp [intOf]
  ·have HT : Hid (cls c = 0) := hid (by rw [← HM.out]; rfl)
   go_wp2
   go_ret
   exact ⟨by rw [HT.out]; rfl, HB.out⟩
end
section
open Go.RowKit
def runL (n : Int) : List Int → Nat
 | [] => 0
 | c :: r => if cls c = n then 1 + runL n r else 0
theorem zAz (n : Int) : ∀ l : List Int, runL n l ≤ l.length
 | [] => Nat.le_refl _
 | c :: r => by have := zAz n r; simp only [runL, List.length_cons]; split <;> omega
theorem zFx (n : Int) (l : List Int) (k : Nat) (h : k < l.length) : runL n (l.drop k) = if cls (bt l k) = n then 1 + runL n (l.drop (k + 1)) else 0 := by
 rw [List.drop_eq_getElem_cons h, runL, show bt l k = l[k] from by simp [bt, List.getD, h]]
theorem zAa (a : Option Addr) (len cap : Nat) (l : List Int) (n : Int) (w : World) (h : Bs w a len cap l) (ht : Tab w) :
  Calls Tryz.prog 134 #[.slice a len cap, .int .i64 n] w fun e w' => e = .returned (.int .i64 (runL n l)) ∧ Below w.heap.size w w' := by
 have hm := h.lt
 unfold maxLen at hm
 have H := hid h
 have HT := hid ht
 clear h ht
 go_enter Tryz.func134, Tryz.ntmps134
 go_wp2
 go_loopw [9] (fun i wr => ∃ k : Nat, i = .int .i64 k ∧ k ≤ len ∧ Hid (k + runL n (l.drop k) = runL n l) ∧ Hid (Below w.heap.size w wr)) (fun i _ => len - (intOf i).toNat)
 case atStart => exact ⟨0, rfl, by omega, hid (by simp), hid (Below.refl _ _)⟩
 case round =>
  obtain ⟨k, rfl, hk, HM, HB⟩ := hrel
  by_cases hlt : k < len
  ·have hb := H.out.below HB.out
   have hll := hb.hl
   have HS := hid (zFx n l k (by omega))
   have h0 := (zAI hb.rng k).1
   have h1 := (zAI hb.rng k).2
   obtain ⟨b, off, rfl, _, hc⟩ := hb.at_ (by omega)
   have hck := hc k hlt
   have HTT := hid (HT.out.keep HB.out)
   clear hb hll hc
   go_wp2_with (first | (go_at_call 138; refine (zDM _ _ HTT.out h0 h1).mono ?_; rintro e w' ⟨rfl, hb2⟩; have HB2 := hid hb2; clear hb2))
   ·rename_i hq
    have HF : Hid (runL n l = k) := hid (by rw [← HM.out, HS.out, if_neg (by simpa using hq)]; rfl)
    go_ret
    exact ⟨by rw [HF.out]; rfl, HB.out.trans (HB2.out.mono HB.out.size)⟩
   ·rename_i hq
    go_roundw
    case rel => exact ⟨k + 1, by go_num, by omega, hid (by rw [← HM.out, HS.out, if_pos (by simpa using hq)]; omega), hid (HB.out.trans (HB2.out.mono HB.out.size))⟩
    case measure => simp [intOf]; omega
  ·have HF : Hid (runL n l = len) := hid (by rw [← HM.out, List.drop_eq_nil_iff.2 (by have := H.out.hl; omega)]; simp [runL]; omega)
   go_wp2
   go_ret
   exact ⟨by rw [HF.out]; rfl, HB.out⟩
end
section
open Go.RowKit
def nameB (c : Int) : Bool := cls c == 2 || (cls c == 3 || cls c == 4)
theorem zHX (c : Int) (w : World) (ht : Tab w) (h0 : 0 ≤ c) (h1 : c ≤ 255) :
  Calls Tryz.prog 187 #[.int .u8 c] w fun e w' => e = .returned (.bool (nameB c)) ∧ Below w.heap.size w w' := by
 have HT := hid ht
 clear ht
 go_enter Tryz.func187, Tryz.ntmps187
 go_wp2_with (first | (go_at_call 138; refine (zDM c _ HT.out h0 h1).mono ?_; rintro e w' ⟨rfl, hb⟩; have HB := hid hb; clear hb))
 all_goals
  go_ret
  exact ⟨zAk (by simp_all [nameB]), HB.out⟩
end
end Go.Proofs.YtcjbhdgjcpnklaaGreatDoor
