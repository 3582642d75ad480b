/- Contract of package class's Of: what a byte is, off the table. -/
import Derived.Test.YtecabgmkoknbgaaDoorKa
namespace Go.Proofs.YtecabgmkoknbgaaDoor
open Go.RowKit

/-- The table's rows: a class, and the bytes that are of it. -/
def setAt (k : Nat) : Int × List UInt8 := [((1 : Int), ([9, 10, 13, 32] : List UInt8)), (2, [97, 98, 99, 100, 101, 102, 103, 104, 105, 106, 107, 108, 109, 110, 111, 112, 113, 114, 115, 116, 117, 118, 119, 120, 121, 122]), (3, [65, 66, 67, 68, 69, 70, 71, 72, 73, 74, 75, 76, 77, 78, 79, 80, 81, 82, 83, 84, 85, 86, 87, 88, 89, 90, 95]), (4, [48, 49, 50, 51, 52, 53, 54, 55, 56, 57]), (5, [43, 45, 42, 47, 92, 94, 60, 62, 61, 126, 58, 46, 63, 64, 35, 38, 36, 33]), (6, [40, 41, 44, 124, 59, 91, 93, 123, 125]), (7, [39]), (8, [37])].getD k (0, [])

def txt (k : Nat) : ByteArray := ⟨(setAt k).2.toArray⟩

theorem cells_eq : cellsFor Tryd.prog 3 72 (Rows.laid_tmesis_class_sets (H := Unit)) = some (((List.range 8).map fun k => [Value.int .i64 (setAt k).1, .string (txt k)]).flatten) := by kernel_rfl

theorem g0 : Tryd.prog.globalNamed "tmesis/class.sets" = some 0 := by kernel_rfl
theorem gt0 : (Tryd.prog.globals[0]?).map (·.type) = some 72 := by kernel_rfl

def tabCells : Array Value := (((List.range 8).map fun k => [Value.int .i64 (setAt k).1, .string (txt k)]).flatten).toArray

/-- The table is in its place. -/
def Tab (w : World) : Prop := 0 < w.heap.size ∧ ∀ i v, tabCells[i]? = some v → w.cell? ⟨0, i, none⟩ = some v

theorem tab_of_laid {W : World} {rest : List (String × DataW Unit)} (h : laidMet Tryd.prog (("tmesis/class.sets", Rows.laid_tmesis_class_sets) :: rest) W) : Tab W := by
  have hv := laid_cells g0 gt0 cells_eq h
  have hc : ∀ i v, tabCells[i]? = some v → W.cell? ⟨0, i, none⟩ = some v := fun i v hi => by rw [World.var?_cell g0 hv i]; exact hi
  exact ⟨World.block_lt_of_cell? W _ (hc 0 _ rfl), hc⟩

theorem Tab.cell {w : World} (h : Tab w) (i : Nat) (v : Value) (hv : tabCells[i]? = some v) : w.cell? ⟨0, i, none⟩ = some v := h.2 i v hv
theorem Tab.below {w w' : World} {B : Nat} (h : Tab w) (hb : Below B w w') (hB : 0 < B) : Tab w' := by
  have := hb.size
  exact ⟨by have := h.1; omega, fun i v hi => by rw [hb.cell hB]; exact h.2 i v hi⟩
theorem Tab.keep {w w' : World} (h : Tab w) (hb : Below w.heap.size w w') : Tab w' := h.below hb h.1

/-- The class of a byte, by the table's rows one by one. -/
def clsGo (c : Int) : List Nat → Int
  | [] => 0
  | k :: r => if memFrom (txt k) c 0 then (setAt k).1 else clsGo c r
def rows (k : Nat) : List Nat := [0, 1, 2, 3, 4, 5, 6, 7].drop k
def cls (c : Int) : Int := if 128 ≤ c then 9 else clsGo c (rows 0)

theorem txt_ascii : ∀ k, k < 8 → ∀ i (h : i < (txt k).size), ((txt k)[i]'h).toNat < 128 := by decide +kernel

theorem clsGo_step (c : Int) (k : Nat) (h : k < 8) : clsGo c (rows k) = if memFrom (txt k) c 0 then (setAt k).1 else clsGo c (rows (k + 1)) := by
  obtain rfl | rfl | rfl | rfl | rfl | rfl | rfl | rfl : k = 0 ∨ k = 1 ∨ k = 2 ∨ k = 3 ∨ k = 4 ∨ k = 5 ∨ k = 6 ∨ k = 7 := by omega
  all_goals rfl

theorem iter_cell (w : World) (cs : Array Value) (t : TypeId) (s : ByteArray) (i : Nat) (v : Value) (h : cs[i]? = some v) (pos : Nat) : ((w.alloc (.cells cs t)).iter s pos).cell? ⟨w.heap.size, i, none⟩ = some v := by
  have h1 : Below (w.heap.size + 1) (w.alloc (.cells cs t)) ((w.alloc (.cells cs t)).iter s pos) := (Below.refl _ _).alloc (by simp) _
  rw [h1.cell (by simp), cell_of_row (w.alloc (.cells cs t)) w.heap.size i _ t _ (heap_alloc_new w _)]
  exact h

theorem ix0 (w : World) : (Instr.index 72 (.agg #[.int .i64 (setAt 0).1, .string (txt 0), .int .i64 (setAt 1).1, .string (txt 1), .int .i64 (setAt 2).1, .string (txt 2), .int .i64 (setAt 3).1, .string (txt 3), .int .i64 (setAt 4).1, .string (txt 4), .int .i64 (setAt 5).1, .string (txt 5), .int .i64 (setAt 6).1, .string (txt 6), .int .i64 (setAt 7).1, .string (txt 7)]) (.int .i64 0)).run Tryd.prog w = .ok (.agg #[.int .i64 (setAt 0).1, .string (txt 0)]) w := by kernel_rfl
theorem ix1 (w : World) : (Instr.index 72 (.agg #[.int .i64 (setAt 0).1, .string (txt 0), .int .i64 (setAt 1).1, .string (txt 1), .int .i64 (setAt 2).1, .string (txt 2), .int .i64 (setAt 3).1, .string (txt 3), .int .i64 (setAt 4).1, .string (txt 4), .int .i64 (setAt 5).1, .string (txt 5), .int .i64 (setAt 6).1, .string (txt 6), .int .i64 (setAt 7).1, .string (txt 7)]) (.int .i64 1)).run Tryd.prog w = .ok (.agg #[.int .i64 (setAt 1).1, .string (txt 1)]) w := by kernel_rfl
theorem ix2 (w : World) : (Instr.index 72 (.agg #[.int .i64 (setAt 0).1, .string (txt 0), .int .i64 (setAt 1).1, .string (txt 1), .int .i64 (setAt 2).1, .string (txt 2), .int .i64 (setAt 3).1, .string (txt 3), .int .i64 (setAt 4).1, .string (txt 4), .int .i64 (setAt 5).1, .string (txt 5), .int .i64 (setAt 6).1, .string (txt 6), .int .i64 (setAt 7).1, .string (txt 7)]) (.int .i64 2)).run Tryd.prog w = .ok (.agg #[.int .i64 (setAt 2).1, .string (txt 2)]) w := by kernel_rfl
theorem ix3 (w : World) : (Instr.index 72 (.agg #[.int .i64 (setAt 0).1, .string (txt 0), .int .i64 (setAt 1).1, .string (txt 1), .int .i64 (setAt 2).1, .string (txt 2), .int .i64 (setAt 3).1, .string (txt 3), .int .i64 (setAt 4).1, .string (txt 4), .int .i64 (setAt 5).1, .string (txt 5), .int .i64 (setAt 6).1, .string (txt 6), .int .i64 (setAt 7).1, .string (txt 7)]) (.int .i64 3)).run Tryd.prog w = .ok (.agg #[.int .i64 (setAt 3).1, .string (txt 3)]) w := by kernel_rfl
theorem ix4 (w : World) : (Instr.index 72 (.agg #[.int .i64 (setAt 0).1, .string (txt 0), .int .i64 (setAt 1).1, .string (txt 1), .int .i64 (setAt 2).1, .string (txt 2), .int .i64 (setAt 3).1, .string (txt 3), .int .i64 (setAt 4).1, .string (txt 4), .int .i64 (setAt 5).1, .string (txt 5), .int .i64 (setAt 6).1, .string (txt 6), .int .i64 (setAt 7).1, .string (txt 7)]) (.int .i64 4)).run Tryd.prog w = .ok (.agg #[.int .i64 (setAt 4).1, .string (txt 4)]) w := by kernel_rfl
theorem ix5 (w : World) : (Instr.index 72 (.agg #[.int .i64 (setAt 0).1, .string (txt 0), .int .i64 (setAt 1).1, .string (txt 1), .int .i64 (setAt 2).1, .string (txt 2), .int .i64 (setAt 3).1, .string (txt 3), .int .i64 (setAt 4).1, .string (txt 4), .int .i64 (setAt 5).1, .string (txt 5), .int .i64 (setAt 6).1, .string (txt 6), .int .i64 (setAt 7).1, .string (txt 7)]) (.int .i64 5)).run Tryd.prog w = .ok (.agg #[.int .i64 (setAt 5).1, .string (txt 5)]) w := by kernel_rfl
theorem ix6 (w : World) : (Instr.index 72 (.agg #[.int .i64 (setAt 0).1, .string (txt 0), .int .i64 (setAt 1).1, .string (txt 1), .int .i64 (setAt 2).1, .string (txt 2), .int .i64 (setAt 3).1, .string (txt 3), .int .i64 (setAt 4).1, .string (txt 4), .int .i64 (setAt 5).1, .string (txt 5), .int .i64 (setAt 6).1, .string (txt 6), .int .i64 (setAt 7).1, .string (txt 7)]) (.int .i64 6)).run Tryd.prog w = .ok (.agg #[.int .i64 (setAt 6).1, .string (txt 6)]) w := by kernel_rfl
theorem ix7 (w : World) : (Instr.index 72 (.agg #[.int .i64 (setAt 0).1, .string (txt 0), .int .i64 (setAt 1).1, .string (txt 1), .int .i64 (setAt 2).1, .string (txt 2), .int .i64 (setAt 3).1, .string (txt 3), .int .i64 (setAt 4).1, .string (txt 4), .int .i64 (setAt 5).1, .string (txt 5), .int .i64 (setAt 6).1, .string (txt 6), .int .i64 (setAt 7).1, .string (txt 7)]) (.int .i64 7)).run Tryd.prog w = .ok (.agg #[.int .i64 (setAt 7).1, .string (txt 7)]) w := by kernel_rfl

set_option maxHeartbeats 400000 in
theorem of_any (c : Int) (w : World) (ht : Tab w) (h0 : 0 ≤ c) (h1 : c ≤ 255) :
    Calls Tryd.prog 42 #[.int .u8 c] w fun e w' => e = .returned (.int .i64 (cls c)) ∧ Below w.heap.size w w' := by
  by_cases hh : 128 ≤ c
  · have HT : Hid (cls c = 9) := Lib.hid (by unfold cls; rw [if_pos hh])
    clear ht
    go_enter Tryd.func42, Tryd.ntmps42
    go_wp2
    go_ret
    exact ⟨by rw [HT.out]; rfl, Below.refl _ _⟩
  have c0 : w.cell? ⟨0, 0, none⟩ = some (.int .i64 (setAt 0).1) := ht.cell 0 _ rfl
  have c1 : w.cell? ⟨0, 1, none⟩ = some (.string (txt 0)) := ht.cell 1 _ rfl
  have c2 : w.cell? ⟨0, 2, none⟩ = some (.int .i64 (setAt 1).1) := ht.cell 2 _ rfl
  have c3 : w.cell? ⟨0, 3, none⟩ = some (.string (txt 1)) := ht.cell 3 _ rfl
  have c4 : w.cell? ⟨0, 4, none⟩ = some (.int .i64 (setAt 2).1) := ht.cell 4 _ rfl
  have c5 : w.cell? ⟨0, 5, none⟩ = some (.string (txt 2)) := ht.cell 5 _ rfl
  have c6 : w.cell? ⟨0, 6, none⟩ = some (.int .i64 (setAt 3).1) := ht.cell 6 _ rfl
  have c7 : w.cell? ⟨0, 7, none⟩ = some (.string (txt 3)) := ht.cell 7 _ rfl
  have c8 : w.cell? ⟨0, 8, none⟩ = some (.int .i64 (setAt 4).1) := ht.cell 8 _ rfl
  have c9 : w.cell? ⟨0, 9, none⟩ = some (.string (txt 4)) := ht.cell 9 _ rfl
  have c10 : w.cell? ⟨0, 10, none⟩ = some (.int .i64 (setAt 5).1) := ht.cell 10 _ rfl
  have c11 : w.cell? ⟨0, 11, none⟩ = some (.string (txt 5)) := ht.cell 11 _ rfl
  have c12 : w.cell? ⟨0, 12, none⟩ = some (.int .i64 (setAt 6).1) := ht.cell 12 _ rfl
  have c13 : w.cell? ⟨0, 13, none⟩ = some (.string (txt 6)) := ht.cell 13 _ rfl
  have c14 : w.cell? ⟨0, 14, none⟩ = some (.int .i64 (setAt 7).1) := ht.cell 14 _ rfl
  have c15 : w.cell? ⟨0, 15, none⟩ = some (.string (txt 7)) := ht.cell 15 _ rfl
  have HC : Hid (cls c = clsGo c (rows 0)) := Lib.hid (by unfold cls; rw [if_neg hh])
  clear ht
  go_enter Tryd.func42, Tryd.ntmps42
  go_wp2
  clear c0 c1 c2 c3 c4 c5 c6 c7 c8 c9 c10 c11 c12 c13 c14 c15
  go_loopw [8] (fun i wr => ∃ k : Nat, i = .int .i64 k ∧ k ≤ 8 ∧ Hid (clsGo c (rows k) = cls c) ∧ Hid (Below w.heap.size w wr)) (fun i _ => 8 - (intOf i).toNat)
  case atStart => exact ⟨0, rfl, by omega, Lib.hid HC.out.symm, Lib.hid (Below.refl _ _)⟩
  case round =>
    obtain ⟨k, rfl, hk, HM, HB⟩ := hrel
    obtain rfl | rfl | rfl | rfl | rfl | rfl | rfl | rfl | rfl : k = 0 ∨ k = 1 ∨ k = 2 ∨ k = 3 ∨ k = 4 ∨ k = 5 ∨ k = 6 ∨ k = 7 ∨ k = 8 := by omega
    · have HS := Lib.hid (clsGo_step c 0 (by omega))
      have hx := ix0 wr
      have hc := iter_cell wr #[.int .i64 (setAt 0).1, .string (txt 0)] 71 (txt 0) 0 _ rfl
      go_wp2_with (first | (go_at_call 62; refine (has_any _ _ _ (txt_ascii _ (by omega)) h0 h1).mono ?_; rintro e w' ⟨rfl, pos, rfl⟩))
      · rename_i hq
        have HT : Hid (cls c = (setAt 0).1) := Lib.hid (by rw [← HM.out, HS.out, if_pos hq])
        go_ret
        exact ⟨by rw [HT.out]; rfl, (HB.out.alloc HB.out.size _).alloc (by have := HB.out.size; simp; omega) _⟩
      · rename_i hq
        go_roundw
        case rel => exact ⟨0 + 1, by go_num, by omega, Lib.hid (by rw [← HM.out, HS.out, if_neg (by rw [hq]; decide)]), Lib.hid ((HB.out.alloc HB.out.size _).alloc (by have := HB.out.size; simp; omega) _)⟩
        case measure => simp [intOf]
    · have HS := Lib.hid (clsGo_step c 1 (by omega))
      have hx := ix1 wr
      have hc := iter_cell wr #[.int .i64 (setAt 1).1, .string (txt 1)] 71 (txt 1) 0 _ rfl
      go_wp2_with (first | (go_at_call 62; refine (has_any _ _ _ (txt_ascii _ (by omega)) h0 h1).mono ?_; rintro e w' ⟨rfl, pos, rfl⟩))
      · rename_i hq
        have HT : Hid (cls c = (setAt 1).1) := Lib.hid (by rw [← HM.out, HS.out, if_pos hq])
        go_ret
        exact ⟨by rw [HT.out]; rfl, (HB.out.alloc HB.out.size _).alloc (by have := HB.out.size; simp; omega) _⟩
      · rename_i hq
        go_roundw
        case rel => exact ⟨1 + 1, by go_num, by omega, Lib.hid (by rw [← HM.out, HS.out, if_neg (by rw [hq]; decide)]), Lib.hid ((HB.out.alloc HB.out.size _).alloc (by have := HB.out.size; simp; omega) _)⟩
        case measure => simp [intOf]
    · have HS := Lib.hid (clsGo_step c 2 (by omega))
      have hx := ix2 wr
      have hc := iter_cell wr #[.int .i64 (setAt 2).1, .string (txt 2)] 71 (txt 2) 0 _ rfl
      go_wp2_with (first | (go_at_call 62; refine (has_any _ _ _ (txt_ascii _ (by omega)) h0 h1).mono ?_; rintro e w' ⟨rfl, pos, rfl⟩))
      · rename_i hq
        have HT : Hid (cls c = (setAt 2).1) := Lib.hid (by rw [← HM.out, HS.out, if_pos hq])
        go_ret
        exact ⟨by rw [HT.out]; rfl, (HB.out.alloc HB.out.size _).alloc (by have := HB.out.size; simp; omega) _⟩
      · rename_i hq
        go_roundw
        case rel => exact ⟨2 + 1, by go_num, by omega, Lib.hid (by rw [← HM.out, HS.out, if_neg (by rw [hq]; decide)]), Lib.hid ((HB.out.alloc HB.out.size _).alloc (by have := HB.out.size; simp; omega) _)⟩
        case measure => simp [intOf]
    · have HS := Lib.hid (clsGo_step c 3 (by omega))
      have hx := ix3 wr
      have hc := iter_cell wr #[.int .i64 (setAt 3).1, .string (txt 3)] 71 (txt 3) 0 _ rfl
      go_wp2_with (first | (go_at_call 62; refine (has_any _ _ _ (txt_ascii _ (by omega)) h0 h1).mono ?_; rintro e w' ⟨rfl, pos, rfl⟩))
      · rename_i hq
        have HT : Hid (cls c = (setAt 3).1) := Lib.hid (by rw [← HM.out, HS.out, if_pos hq])
        go_ret
        exact ⟨by rw [HT.out]; rfl, (HB.out.alloc HB.out.size _).alloc (by have := HB.out.size; simp; omega) _⟩
      · rename_i hq
        go_roundw
        case rel => exact ⟨3 + 1, by go_num, by omega, Lib.hid (by rw [← HM.out, HS.out, if_neg (by rw [hq]; decide)]), Lib.hid ((HB.out.alloc HB.out.size _).alloc (by have := HB.out.size; simp; omega) _)⟩
        case measure => simp [intOf]
    · have HS := Lib.hid (clsGo_step c 4 (by omega))
      have hx := ix4 wr
      have hc := iter_cell wr #[.int .i64 (setAt 4).1, .string (txt 4)] 71 (txt 4) 0 _ rfl
      go_wp2_with (first | (go_at_call 62; refine (has_any _ _ _ (txt_ascii _ (by omega)) h0 h1).mono ?_; rintro e w' ⟨rfl, pos, rfl⟩))
      · rename_i hq
        have HT : Hid (cls c = (setAt 4).1) := Lib.hid (by rw [← HM.out, HS.out, if_pos hq])
        go_ret
        exact ⟨by rw [HT.out]; rfl, (HB.out.alloc HB.out.size _).alloc (by have := HB.out.size; simp; omega) _⟩
      · rename_i hq
        go_roundw
        case rel => exact ⟨4 + 1, by go_num, by omega, Lib.hid (by rw [← HM.out, HS.out, if_neg (by rw [hq]; decide)]), Lib.hid ((HB.out.alloc HB.out.size _).alloc (by have := HB.out.size; simp; omega) _)⟩
        case measure => simp [intOf]
    · have HS := Lib.hid (clsGo_step c 5 (by omega))
      have hx := ix5 wr
      have hc := iter_cell wr #[.int .i64 (setAt 5).1, .string (txt 5)] 71 (txt 5) 0 _ rfl
      go_wp2_with (first | (go_at_call 62; refine (has_any _ _ _ (txt_ascii _ (by omega)) h0 h1).mono ?_; rintro e w' ⟨rfl, pos, rfl⟩))
      · rename_i hq
        have HT : Hid (cls c = (setAt 5).1) := Lib.hid (by rw [← HM.out, HS.out, if_pos hq])
        go_ret
        exact ⟨by rw [HT.out]; rfl, (HB.out.alloc HB.out.size _).alloc (by have := HB.out.size; simp; omega) _⟩
      · rename_i hq
        go_roundw
        case rel => exact ⟨5 + 1, by go_num, by omega, Lib.hid (by rw [← HM.out, HS.out, if_neg (by rw [hq]; decide)]), Lib.hid ((HB.out.alloc HB.out.size _).alloc (by have := HB.out.size; simp; omega) _)⟩
        case measure => simp [intOf]
    · have HS := Lib.hid (clsGo_step c 6 (by omega))
      have hx := ix6 wr
      have hc := iter_cell wr #[.int .i64 (setAt 6).1, .string (txt 6)] 71 (txt 6) 0 _ rfl
      go_wp2_with (first | (go_at_call 62; refine (has_any _ _ _ (txt_ascii _ (by omega)) h0 h1).mono ?_; rintro e w' ⟨rfl, pos, rfl⟩))
      · rename_i hq
        have HT : Hid (cls c = (setAt 6).1) := Lib.hid (by rw [← HM.out, HS.out, if_pos hq])
        go_ret
        exact ⟨by rw [HT.out]; rfl, (HB.out.alloc HB.out.size _).alloc (by have := HB.out.size; simp; omega) _⟩
      · rename_i hq
        go_roundw
        case rel => exact ⟨6 + 1, by go_num, by omega, Lib.hid (by rw [← HM.out, HS.out, if_neg (by rw [hq]; decide)]), Lib.hid ((HB.out.alloc HB.out.size _).alloc (by have := HB.out.size; simp; omega) _)⟩
        case measure => simp [intOf]
    · have HS := Lib.hid (clsGo_step c 7 (by omega))
      have hx := ix7 wr
      have hc := iter_cell wr #[.int .i64 (setAt 7).1, .string (txt 7)] 71 (txt 7) 0 _ rfl
      go_wp2_with (first | (go_at_call 62; refine (has_any _ _ _ (txt_ascii _ (by omega)) h0 h1).mono ?_; rintro e w' ⟨rfl, pos, rfl⟩))
      · rename_i hq
        have HT : Hid (cls c = (setAt 7).1) := Lib.hid (by rw [← HM.out, HS.out, if_pos hq])
        go_ret
        exact ⟨by rw [HT.out]; rfl, (HB.out.alloc HB.out.size _).alloc (by have := HB.out.size; simp; omega) _⟩
      · rename_i hq
        go_roundw
        case rel => exact ⟨7 + 1, by go_num, by omega, Lib.hid (by rw [← HM.out, HS.out, if_neg (by rw [hq]; decide)]), Lib.hid ((HB.out.alloc HB.out.size _).alloc (by have := HB.out.size; simp; omega) _)⟩
        case measure => simp [intOf]
    · have HT : Hid (cls c = 0) := Lib.hid (by rw [← HM.out]; rfl)
      go_wp2
      go_ret
      exact ⟨by rw [HT.out]; rfl, HB.out⟩

end Go.Proofs.YtecabgmkoknbgaaDoor
