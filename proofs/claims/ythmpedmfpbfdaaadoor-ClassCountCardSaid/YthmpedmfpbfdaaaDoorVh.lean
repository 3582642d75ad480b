/- The walk of ClassCount. -/
import Derived.Test.YthmpedmfpbfdaaaDoorVe
import Derived.Deep.OwnRows
namespace Go.Proofs.YthmpedmfpbfdaaaDoor
open Go.RowKit

/-- How many of the first i bytes are of class j. -/
def cnt : Nat → Nat → Nat
  | 0, _ => 0
  | i + 1, j => cnt i j + if cls i = j then 1 else 0
def cntV (i : Nat) : List Value := (List.range 10).map fun j => Value.int .i64 (cnt i j : Nat)

theorem cls_small : ∀ n : Nat, n < 256 → ∃ K : Nat, K < 10 ∧ cls n = K := by
  intro n hn
  have h := (by decide +kernel : ∀ n : Nat, n < 256 → 0 ≤ cls n ∧ cls n < 10) n hn
  exact ⟨(cls n).toNat, by omega, by omega⟩

theorem cnt_le (i j : Nat) : cnt i j ≤ i := by
  induction i with
  | zero => exact Nat.le_refl _
  | succ i ih => simp only [cnt]; split <;> omega

theorem cntV_set (i K : Nat) (hK : cls i = K) (h10 : K < 10) : (cntV i).set K (.int .i64 ((cnt i K : Nat) + 1 : Int)) = cntV (i + 1) := by
  apply List.ext_getElem?
  intro j
  rw [List.getElem?_set]
  by_cases hj : K = j
  · subst hj
    simp [cntV, cnt, h10, hK]
  · rw [if_neg hj]
    by_cases h1 : j < 10
    · have hj' : ¬ (K : Int) = (j : Int) := by omega
      simp [cntV, cnt, h1, hK, hj']
    · simp [cntV, h1]

theorem cnt_all : cntV 256 = [.int .i64 32, .int .i64 4, .int .i64 26, .int .i64 27, .int .i64 10, .int .i64 18, .int .i64 9, .int .i64 1, .int .i64 1, .int .i64 128] := by
  have h := (by decide +kernel : (List.range 10).map (cnt 256) = [32, 4, 26, 27, 10, 18, 9, 1, 1, 128])
  have e : cntV 256 = ((List.range 10).map (cnt 256)).map fun j : Nat => Value.int .i64 j := by simp [cntV]
  rw [e, h]
  rfl

abbrev OwnR (base : Nat) (w : World) (g : Nat) (xs : List Value) : Prop := w.ownsRow base 30 1 (.slice (some ⟨g, 0, none⟩) 10 10) 10 xs

theorem OwnR.keep {base B : Nat} {w w' : World} {g : Nat} {xs : List Value} (h : OwnR base w g xs) (hb : Below B w w') (hg : g < B) : OwnR base w' g xs := by
  obtain ⟨hl, h1⟩ := h
  refine ⟨hl, ?_⟩
  rcases h1 with ⟨hv, _⟩ | ⟨g', cp, cur, hv, hbg, hh, hr⟩
  · simp at hv
  · have hv' := hv
    simp only [Value.slice.injEq, Option.some.injEq, Addr.mk.injEq] at hv'
    obtain ⟨⟨rfl, _⟩, _⟩ := hv'
    exact .inr ⟨g, cp, cur, hv, hbg, by rw [hb.block g hg]; exact hh, hr⟩

theorem OwnB.set {base : Nat} {e : TypeId} {w : World} {g len cap : Nat} {l : List Int} (h : OwnB base e w (some ⟨g, 0, none⟩) len cap l) (j : Nat) (x : Int) (hx : 0 ≤ x ∧ x ≤ 255) :
    OwnB base e (w.setCell ⟨g, j, none⟩ (.int .u8 x)) (some ⟨g, 0, none⟩) len cap (l.set j x) := by
  refine ⟨?_, ?_⟩
  · rw [List.map_set]; exact (h.1.stored j (.int .u8 x)).1
  · intro y hy
    rcases List.mem_or_eq_of_mem_set hy with h1 | rfl
    · exact h.2 y h1
    · exact hx

theorem fillL_set (c : Int) (m i : Nat) (h : i < m) : (List.replicate i c ++ List.replicate (m - i) 0).set i c = List.replicate (i + 1) c ++ List.replicate (m - (i + 1)) 0 := by
  obtain ⟨r, hr⟩ : ∃ r, m - i = r + 1 := ⟨m - i - 1, by omega⟩
  rw [hr, show m - (i + 1) = r from by omega, List.set_append_right _ _ (by simp), List.length_replicate, Nat.sub_self, List.replicate_succ, List.set_cons_zero, List.replicate_succ']
  simp

theorem runL_rep (K c : Int) (m : Nat) : runL K (List.replicate m c) = if cls c = K then m else 0 := by
  induction m with
  | zero => simp [runL]
  | succ m ih =>
    rw [List.replicate_succ, runL, ih]
    split <;> omega

theorem ten_eq (w : World) : (Op.equalIn 10000 30 (.agg #[.int .i64 32, .int .i64 4, .int .i64 26, .int .i64 27, .int .i64 10, .int .i64 18, .int .i64 9, .int .i64 1, .int .i64 1, .int .i64 128]) (.agg #[.int .i64 32, .int .i64 4, .int .i64 26, .int .i64 27, .int .i64 10, .int .i64 18, .int .i64 9, .int .i64 1, .int .i64 1, .int .i64 128])).run Tryd.prog w = .ok true w := by kernel_rfl
theorem info5 : (Tryd.prog.info? 5).map (fun i => (i.zero, i.size, i.bytes)) = some (some (.int .u8 0), 1, 1) := by kernel_rfl

set_option maxHeartbeats 1000000 in
set_option maxRecDepth 20000 in
theorem classCount_any (c n k : Int) (w : World) (ht : Tab w) (hc : 0 ≤ c ∧ c ≤ 255) (hn : 0 ≤ n ∧ n ≤ 255) (hk : 0 ≤ k ∧ k ≤ 255) :
    Calls Tryd.prog 6 #[.int .u8 c, .int .u8 n, .int .u8 k] w fun e w' => e = .returned (.bool true) ∧ Below w.heap.size w w' := by
  have HT := Lib.hid ht
  clear ht
  go_enter Tryd.func6, Tryd.ntmps6
  go_wp2_with fail
  refine (shown_any _ HT.out).mono ?_
  rintro e w1 ⟨rfl, hb1⟩
  have HW1 := Lib.hid hb1
  clear hb1
  have hT1 := HT.out.keep HW1.out
  have hg0 : 0 < w1.heap.size := hT1.1
  have HT1 := Lib.hid hT1
  clear hT1
  go_wp2
  go_loopw [9] (fun i wr => ∃ j : Nat, i = .int .i64 j ∧ j ≤ 256 ∧ Hid (OwnR w1.heap.size wr w1.heap.size (cntV j)) ∧ Hid (Below w1.heap.size w1 wr)) (fun i _ => 256 - (intOf i).toNat)
  case atStart => exact ⟨0, rfl, by omega, Lib.hid (World.ownsRow_lit w1 _ 10 (Nat.le_refl _) (by decide) rfl), Lib.hid ((Below.refl _ _).alloc (Nat.le_refl _) _)⟩
  case round =>
    obtain ⟨j, rfl, hj, HO, HB⟩ := hrel
    have HTR : Hid (Tab wr) := Lib.hid (HT1.out.keep HB.out)
    have hgr : w1.heap.size < wr.heap.size := (HO.out.lt w1.heap.size rfl).2
    by_cases hlt : j < 256
    · obtain ⟨K, hK10, hKK⟩ := cls_small j hlt
      have HK := Lib.hid hKK
      clear hKK

      have HCL := Lib.hid (cnt_le j K)

      go_wp2_with (first | (go_at_call 8; refine (of_any _ _ HTR.out (by omega) (by omega)).mono ?_; rintro e w3 ⟨rfl, hb3⟩; rw [HK.out]; have HB3 := Lib.hid hb3; clear hb3; have HO3 := Lib.hid (HO.out.keep HB3.out hgr); have hcell : w3.cell? ⟨w1.heap.size, K, none⟩ = some (.int .i64 (cnt j K)) := by { rw [HO3.out.cellAt K (by omega)]; simp [cntV, hK10] }; have hfz := HO3.out.frozenAt K))
      have HW : Hid (wrap64 ((cnt j K : Nat) + 1 : Int) = (cnt j K : Nat) + 1) := Lib.hid (by have := HCL.out; unfold wrap64; omega)
      rw [HW.out]
      go_roundw
      case rel => exact ⟨j + 1, by go_num, by omega, Lib.hid (by rw [← cntV_set j K HK.out hK10]; exact (HO3.out.stored K _).1), Lib.hid ((HB.out.trans (HB3.out.mono HB.out.size)).setCell (Nat.le_refl _) _)⟩
      case measure => simp [intOf]; omega
    · rename World => wa
      obtain rfl : j = 256 := by omega
      rw [cnt_all] at HO
      obtain ⟨m, hm⟩ : ∃ m : Nat, n % 64 = m := ⟨(n % 64).toNat, by omega⟩
      have hm64 : m < 64 := by omega
      have hmk := run_make_row' (P := Tryd.prog) 22 5 (.int .u8 0) 1 Tryd.underlying22 info5 rfl .i64 .i64 m (by omega) (by omega)
      go_wp2
      have HO2 : Hid (OwnR w1.heap.size (wa.alloc (.cells (madeCells #[.int .u8 0] m) 5)) w1.heap.size [.int .i64 32, .int .i64 4, .int .i64 26, .int .i64 27, .int .i64 10, .int .i64 18, .int .i64 9, .int .i64 1, .int .i64 1, .int .i64 128]) := Lib.hid (HO.out.alloc _)
      have HB2 : Hid (Below w1.heap.size w1 (wa.alloc (.cells (madeCells #[.int .u8 0] m) 5))) := Lib.hid (HB.out.alloc (Nat.le_of_lt hgr) _)
      go_loopw [12] (fun i wr => ∃ q : Nat, i = .int .i64 q ∧ q ≤ m ∧ Hid (OwnB wa.heap.size 5 wr (some ⟨wa.heap.size, 0, none⟩) m m (List.replicate q c ++ List.replicate (m - q) 0)) ∧ Hid (OwnR w1.heap.size wr w1.heap.size [.int .i64 32, .int .i64 4, .int .i64 26, .int .i64 27, .int .i64 10, .int .i64 18, .int .i64 9, .int .i64 1, .int .i64 1, .int .i64 128]) ∧ Hid (Below w1.heap.size w1 wr)) (fun i _ => m - (intOf i).toNat)
      case atStart =>
        refine ⟨0, rfl, by omega, Lib.hid ⟨?_, by simp⟩, HO2, HB2⟩
        have := World.ownsRow_lit (base := wa.heap.size) (e := 5) (size := 1) wa (madeCells #[.int .u8 0] m) m (Nat.le_refl _) (by unfold maxLen; omega) (by rw [size_madeCells]; omega)
        rw [toList_madeCells_one] at this
        simpa using this
      case round =>
        obtain ⟨q, rfl, hq, HOB, HOR, HBL⟩ := hrel
        by_cases hqm : q < m
        · have hfz := HOB.out.1.frozenAt q
          have hcell : wr.cell? ⟨wa.heap.size, q, none⟩ = some (.int .u8 0) := by
            rw [HOB.out.1.cellAt q (by omega)]
            simp [List.getElem?_append]
            rw [List.getElem?_replicate, if_pos (by omega)]
          go_wp2
          go_roundw
          case rel =>
            refine ⟨q + 1, by go_num, by omega, Lib.hid (by rw [← fillL_set c m q hqm]; exact HOB.out.set q c hc), Lib.hid ?_, Lib.hid (HBL.out.setCell (by simp; omega) _)⟩
            exact HOR.out.keep (Below.setCell (Below.refl (w1.heap.size + 1) _) (by simp; omega) _) (by omega)
          case measure => simp [intOf]; omega
        · obtain rfl : q = m := by omega
          by_cases hck : cls c = k % 10
          · have hcb : (cls c == k % 10) = true := by simpa using hck
            have HRL : Hid (runL (k % 10) (List.replicate q c) = q) := Lib.hid (by rw [runL_rep, if_pos hck])
            clear hck
            have hbs := HOB.out.bs
            rw [Nat.sub_self, List.replicate_zero, List.append_nil] at hbs
            have HBS := Lib.hid hbs
            have hgw : w1.heap.size < wr.heap.size := (HOR.out.lt w1.heap.size rfl).2
            clear hbs
            go_wp2_with fail
            refine (of_any _ _ (HT1.out.keep HBL.out) hc.1 hc.2).mono ?_
            rintro e w4 ⟨rfl, hb4⟩
            have HO4 := Lib.hid (HOR.out.keep hb4 hgw)
            have HBS4 := Lib.hid (HBS.out.below hb4)
            have HB4 : Hid (Below w1.heap.size w1 w4) := Lib.hid (HBL.out.trans (hb4.mono HBL.out.size))
            have hg4 : w1.heap.size < w4.heap.size := (HO4.out.lt w1.heap.size rfl).2
            clear hb4
            have c0 : w4.cell? ⟨w1.heap.size, 0, none⟩ = some (.int .i64 32) := (HO4.out.cellAt 0 (by omega)).trans rfl
            have c1 : w4.cell? ⟨w1.heap.size, 1, none⟩ = some (.int .i64 4) := (HO4.out.cellAt 1 (by omega)).trans rfl
            have c2 : w4.cell? ⟨w1.heap.size, 2, none⟩ = some (.int .i64 26) := (HO4.out.cellAt 2 (by omega)).trans rfl
            have c3 : w4.cell? ⟨w1.heap.size, 3, none⟩ = some (.int .i64 27) := (HO4.out.cellAt 3 (by omega)).trans rfl
            have c4 : w4.cell? ⟨w1.heap.size, 4, none⟩ = some (.int .i64 10) := (HO4.out.cellAt 4 (by omega)).trans rfl
            have c5 : w4.cell? ⟨w1.heap.size, 5, none⟩ = some (.int .i64 18) := (HO4.out.cellAt 5 (by omega)).trans rfl
            have c6 : w4.cell? ⟨w1.heap.size, 6, none⟩ = some (.int .i64 9) := (HO4.out.cellAt 6 (by omega)).trans rfl
            have c7 : w4.cell? ⟨w1.heap.size, 7, none⟩ = some (.int .i64 1) := (HO4.out.cellAt 7 (by omega)).trans rfl
            have c8 : w4.cell? ⟨w1.heap.size, 8, none⟩ = some (.int .i64 1) := (HO4.out.cellAt 8 (by omega)).trans rfl
            have c9 : w4.cell? ⟨w1.heap.size, 9, none⟩ = some (.int .i64 128) := (HO4.out.cellAt 9 (by omega)).trans rfl
            have hte := ten_eq w4
            go_wp2_with fail
            clear c0 c1 c2 c3 c4 c5 c6 c7 c8 c9
            refine (run_any _ _ _ _ _ _ HBS4.out (HT1.out.keep HB4.out)).mono ?_
            rintro e w5 ⟨rfl, hb5⟩
            rw [HRL.out]
            have HO5 := Lib.hid (HO4.out.keep hb5 hg4)
            have HB5 : Hid (Below w1.heap.size w1 w5) := Lib.hid (HB4.out.trans (hb5.mono HB4.out.size))
            clear hb5
            have c6 : w5.cell? ⟨w1.heap.size, 6, none⟩ = some (.int .i64 9) := (HO5.out.cellAt 6 (by omega)).trans rfl
            go_wp2
            go_ret
            exact ⟨rfl, HW1.out.trans (HB5.out.mono HW1.out.size)⟩
          · have hcb : (cls c == k % 10) = false := by simpa using hck
            have HRL : Hid (runL (k % 10) (List.replicate q c) = 0) := Lib.hid (by rw [runL_rep, if_neg hck])
            clear hck
            have hbs := HOB.out.bs
            rw [Nat.sub_self, List.replicate_zero, List.append_nil] at hbs
            have HBS := Lib.hid hbs
            have hgw : w1.heap.size < wr.heap.size := (HOR.out.lt w1.heap.size rfl).2
            clear hbs
            go_wp2_with fail
            refine (of_any _ _ (HT1.out.keep HBL.out) hc.1 hc.2).mono ?_
            rintro e w4 ⟨rfl, hb4⟩
            have HO4 := Lib.hid (HOR.out.keep hb4 hgw)
            have HBS4 := Lib.hid (HBS.out.below hb4)
            have HB4 : Hid (Below w1.heap.size w1 w4) := Lib.hid (HBL.out.trans (hb4.mono HBL.out.size))
            have hg4 : w1.heap.size < w4.heap.size := (HO4.out.lt w1.heap.size rfl).2
            clear hb4
            have c0 : w4.cell? ⟨w1.heap.size, 0, none⟩ = some (.int .i64 32) := (HO4.out.cellAt 0 (by omega)).trans rfl
            have c1 : w4.cell? ⟨w1.heap.size, 1, none⟩ = some (.int .i64 4) := (HO4.out.cellAt 1 (by omega)).trans rfl
            have c2 : w4.cell? ⟨w1.heap.size, 2, none⟩ = some (.int .i64 26) := (HO4.out.cellAt 2 (by omega)).trans rfl
            have c3 : w4.cell? ⟨w1.heap.size, 3, none⟩ = some (.int .i64 27) := (HO4.out.cellAt 3 (by omega)).trans rfl
            have c4 : w4.cell? ⟨w1.heap.size, 4, none⟩ = some (.int .i64 10) := (HO4.out.cellAt 4 (by omega)).trans rfl
            have c5 : w4.cell? ⟨w1.heap.size, 5, none⟩ = some (.int .i64 18) := (HO4.out.cellAt 5 (by omega)).trans rfl
            have c6 : w4.cell? ⟨w1.heap.size, 6, none⟩ = some (.int .i64 9) := (HO4.out.cellAt 6 (by omega)).trans rfl
            have c7 : w4.cell? ⟨w1.heap.size, 7, none⟩ = some (.int .i64 1) := (HO4.out.cellAt 7 (by omega)).trans rfl
            have c8 : w4.cell? ⟨w1.heap.size, 8, none⟩ = some (.int .i64 1) := (HO4.out.cellAt 8 (by omega)).trans rfl
            have c9 : w4.cell? ⟨w1.heap.size, 9, none⟩ = some (.int .i64 128) := (HO4.out.cellAt 9 (by omega)).trans rfl
            have hte := ten_eq w4
            go_wp2_with fail
            clear c0 c1 c2 c3 c4 c5 c6 c7 c8 c9
            refine (run_any _ _ _ _ _ _ HBS4.out (HT1.out.keep HB4.out)).mono ?_
            rintro e w5 ⟨rfl, hb5⟩
            rw [HRL.out]
            have HO5 := Lib.hid (HO4.out.keep hb5 hg4)
            have HB5 : Hid (Below w1.heap.size w1 w5) := Lib.hid (HB4.out.trans (hb5.mono HB4.out.size))
            clear hb5
            have c6 : w5.cell? ⟨w1.heap.size, 6, none⟩ = some (.int .i64 9) := (HO5.out.cellAt 6 (by omega)).trans rfl
            go_wp2
            go_ret
            exact ⟨rfl, HW1.out.trans (HB5.out.mono HW1.out.size)⟩

end Go.Proofs.YthmpedmfpbfdaaaDoor
