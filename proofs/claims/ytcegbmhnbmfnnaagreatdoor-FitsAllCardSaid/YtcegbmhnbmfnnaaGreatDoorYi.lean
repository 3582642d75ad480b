/- Contracts of fits.Part, fits.Leaf, and the document's. -/
import Derived.Test.YtcegbmhnbmfnnaaGreatDoorMU
import Derived.Test.YtcegbmhnbmfnnaaGreatDoorMK
import Derived.Test.YtcegbmhnbmfnnaaGreatDoorMP
namespace Go.Proofs.YtcegbmhnbmfnnaaGreatDoor
open Go.RowKit

theorem ints_at {w : World} {b off n c : Nat} {K : List Int} (h : Vs 1 w (some ⟨b, off, none⟩) n c (K.map (Value.int .i64))) {k : Nat} (hk : k < n) : w.cell? ⟨b, off + k, none⟩ = some (.int .i64 (bt K k)) := by
  have hl := h.hl
  rw [List.length_map] at hl
  rw [h.cells (by omega) (by omega), List.getElem?_map, List.getElem?_eq_getElem (by omega)]
  unfold bt
  simp [List.getD, show k < K.length by omega]

set_option maxRecDepth 20000 in
theorem index_ints (a : Option Addr) (n c : Nat) (K : List Int) (x : Int) (w : World) (h : Vs 1 w a n c (K.map (Value.int .i64))) (hsz : n ≤ 1000000) :
    Calls Tryz.prog 54 #[.slice a n c, .int .i64 x] w fun e w' => ∃ v : Int, e = .returned (.int .i64 v) ∧ (0 ≤ v ↔ x ∈ K) ∧ w = w' := by
  have HL : Hid (K.length = n) := Lib.hid (by have := h.hl; rw [List.length_map] at this; omega)
  have H := Lib.hid h
  have hlc := h.lc
  clear h
  go_enter Tryz.func54, Tryz.ntmps54
  go_wp2
  go_loopw [8] (fun v wr => ∃ k : Nat, v = .int .i64 k ∧ k ≤ n ∧ Hid (∀ j, j < k → bt K j ≠ x) ∧ wr = w) (fun v _ => n - (intOf v).toNat)
  case atStart => exact ⟨0, rfl, by omega, Lib.hid fun j hj => by omega, rfl⟩
  case round =>
    obtain ⟨k, rfl, hk, HN, rfl⟩ := hrel
    by_cases hlt : k < n
    · obtain ⟨b, o, rfl, _, hc⟩ := H.out.at_ (by omega)
      clear hc
      have c0 := ints_at H.out hlt
      obtain ⟨q, hq⟩ : ∃ q, q = bt K k := ⟨_, rfl⟩
      rw [← hq] at c0
      have HQ := Lib.hid hq
      clear hq
      cases he : (x == q) with
      | true =>
        have HE := Lib.hid he
        go_wp2
        go_ret
        exact ⟨_, rfl, ⟨fun _ => by
          have hkl : k < K.length := by rw [HL.out]; exact hlt
          rw [eq_of_beq HE.out, HQ.out]; unfold bt; simp [List.getD, hkl], fun _ => by omega⟩, rfl⟩
      | false =>
        have HN1 : Hid (∀ j, j < k + 1 → bt K j ≠ x) := Lib.hid fun j hj => by
          by_cases hjk : j = k
          · subst hjk; rw [← HQ.out]; exact (beq_eq_false_iff_ne.1 he).symm
          · exact HN.out j (by omega)
        go_wp2
        go_roundw
        case rel => exact ⟨k + 1, by go_num, by omega, HN1, trivial⟩
        case measure => simp [intOf]; omega
    · go_wp2
      go_ret
      refine ⟨_, rfl, ⟨fun h => absurd h (by decide), fun hm => ?_⟩, rfl⟩
      obtain ⟨j, hj, e⟩ := List.mem_iff_getElem.1 hm
      refine absurd ?_ (HN.out j (by rw [HL.out] at hj; omega))
      unfold bt; rw [← e]; simp [List.getD, hj]

set_option maxRecDepth 20000 in
theorem contains_ints (a : Option Addr) (n c : Nat) (K : List Int) (x : Int) (w : World) (h : Vs 1 w a n c (K.map (Value.int .i64))) (hsz : n ≤ 1000000) :
    Calls Tryz.prog 38 #[.slice a n c, .int .i64 x] w fun e w' => e = .returned (.bool (K.contains x)) ∧ w = w' := by
  have H := Lib.hid h
  clear h
  go_enter Tryz.func38, Tryz.ntmps38
  go_wp2_with fail
  refine (index_ints a n c K x w H.out hsz).mono ?_
  rintro e w1 ⟨v, rfl, hv, rfl⟩
  have HV : Hid (decide (0 ≤ v) = K.contains x) := Lib.hid (by rw [Bool.eq_iff_iff, decide_eq_true_eq, hv]; simp)
  clear hv
  go_wp2
  go_ret
  exact ⟨by rw [← HV.out]; rfl, rfl⟩

/-! ### A token in a block -/

/-- A token's value. -/
def T5 (w : World) (b : Nat) (k f t : Int) (x : Nm) (e : Int) : Prop := w.heap[b]? = some (.cells #[.int .i64 k, .int .i64 f, .int .i64 t, .string (mk x), .int .i64 e] 33 (0, 0))
theorem T5.cells {w : World} {b : Nat} {k f t : Int} {x : Nm} {e : Int} (h : T5 w b k f t x e) : w.cell? ⟨b, 0, none⟩ = some (.int .i64 k) ∧ w.cell? ⟨b, 1, none⟩ = some (.int .i64 f) ∧ w.cell? ⟨b, 2, none⟩ = some (.int .i64 t) ∧ w.cell? ⟨b, 3, none⟩ = some (.string (mk x)) ∧ w.cell? ⟨b, 4, none⟩ = some (.int .i64 e) :=
  ⟨cell_of_row w b 0 _ _ _ h, cell_of_row w b 1 _ _ _ h, cell_of_row w b 2 _ _ _ h, cell_of_row w b 3 _ _ _ h, cell_of_row w b 4 _ _ _ h⟩
theorem T5.new (w : World) (k f t : Int) (x : Nm) (e : Int) : T5 (w.alloc (.cells #[.int .i64 k, .int .i64 f, .int .i64 t, .string (mk x), .int .i64 e] 33)) w.heap.size k f t x e := heap_alloc_new w _
theorem T5.below {w w' : World} {b : Nat} {k f t : Int} {x : Nm} {e : Int} (h : T5 w b k f t x e) (hb : Below w.heap.size w w') : T5 w' b k f t x e := (hb.block b (Array.getElem?_eq_some_iff.1 h).1).trans h
theorem T5.alloc {w : World} {b : Nat} {k f t : Int} {x : Nm} {e : Int} (h : T5 w b k f t x e) (o : Obj) : T5 (w.alloc o) b k f t x e := h.below (below_alloc w o)
theorem ints_lit (w : World) (K : List Int) {g n : Nat} (hn : K.length = n) (hm : n ≤ 10) (hg : g = w.heap.size) : Vs 1 (w.alloc (.cells (K.map (Value.int .i64)).toArray 3)) (some ⟨g, 0, none⟩) n n (K.map (Value.int .i64)) := by
  subst hg
  refine ⟨by rw [List.length_map]; omega, Nat.le_refl _, by unfold maxLen; omega, fun _ => ⟨w.heap.size, 0, rfl, by simp, fun j hj => ?_⟩⟩
  rw [cell_of_row _ w.heap.size (0 + j) _ _ _ (heap_alloc_new w _), Nat.zero_add, List.getElem?_toArray]

set_option maxRecDepth 20000 in
theorem tokof_any (k f t : Int) (x : Nm) (e : Int) (a : Option Addr) (n c : Nat) (K : List Int) (w : World) (h : Vs 1 w a n c (K.map (Value.int .i64))) (hsz : n ≤ 1000000) :
    Calls Tryz.prog 24 #[.agg #[.int .i64 k, .int .i64 f, .int .i64 t, .string (mk x), .int .i64 e], .slice a n c] w fun e' w' => e' = .returned (.bool (K.contains k)) ∧ Below w.heap.size w w' := by
  have hb := below_alloc w (.cells #[.int .i64 k, .int .i64 f, .int .i64 t, .string (mk x), .int .i64 e] 33)
  have HB := Lib.hid hb
  have H := Lib.hid (h.below hb)
  have c0 := (T5.new w k f t x e).cells.1
  clear h hb
  go_enter Tryz.func24, Tryz.ntmps24
  go_wp2_with fail
  refine (contains_ints a n c K k _ H.out hsz).mono ?_
  rintro e' w1 ⟨rfl, rfl⟩
  go_wp2
  go_ret
  exact ⟨ret_bool (by simp), HB.out⟩

theorem part_con (k : Int) : [1, 2, 6].contains k = (k == 1 || (k == 2 || k == 6)) := by simp only [List.contains, List.elem]; cases k == 1 <;> cases k == 2 <;> cases k == 6 <;> rfl
theorem leaf_con2 (k : Int) : [1, 2].contains k = (k == 1 || k == 2) := by simp only [List.contains, List.elem]; cases k == 1 <;> cases k == 2 <;> rfl
theorem leaf_con3 (k : Int) : [3, 4, 5].contains k = (k == 3 || (k == 4 || k == 5)) := by simp only [List.contains, List.elem]; cases k == 3 <;> cases k == 4 <;> cases k == 5 <;> rfl

set_option maxRecDepth 20000 in
set_option maxHeartbeats 4000000 in
theorem fpart_any (k f t : Int) (x : Nm) (e : Int) (y : Nm) (w : World) :
    Calls Tryz.prog 10 #[.agg #[.int .i64 k, .int .i64 f, .int .i64 t, .string (mk x), .int .i64 e], .string (mk y)] w fun e' w' => e' = .returned (.bool (partB k x y)) ∧ Below w.heap.size w w' := by
  obtain ⟨B, hB⟩ : ∃ B, B = w.heap.size := ⟨_, rfl⟩
  obtain ⟨w1, hw1⟩ : ∃ w1, w1 = w.alloc (.cells #[.int .i64 k, .int .i64 f, .int .i64 t, .string (mk x), .int .i64 e] 33) := ⟨_, rfl⟩
  have HT1 : Hid (T5 w1 B k f t x e) := Lib.hid (by rw [hw1, hB]; exact T5.new w k f t x e)
  have HB1 : Hid (Below w.heap.size w w1) := Lib.hid (by rw [hw1]; exact below_alloc w _)
  obtain ⟨v, hv⟩ : ∃ v, v = [1, 2, 6].contains k := ⟨_, rfl⟩
  have HP : Hid (partB k x y = (v && x == y)) := Lib.hid (by rw [hv, part_con]; rfl)
  have KO : Hid (∀ (g : Nat) (w' : World), Vs 1 w' (some ⟨g, 0, none⟩) 3 3 ([1, 2, 6].map (Value.int .i64)) → Calls Tryz.prog 24 #[.agg #[.int .i64 k, .int .i64 f, .int .i64 t, .string (mk x), .int .i64 e], .slice (some ⟨g, 0, none⟩) 3 3] w' fun e' w'' => e' = .returned (.bool v) ∧ Below w'.heap.size w' w'') := Lib.hid fun g w' hh => by rw [hv]; exact tokof_any k f t x e _ 3 3 [1, 2, 6] w' hh (by decide)
  have hx := mk_toList x
  have hy := mk_toList y
  clear hv
  obtain ⟨c0, c1, c2, c3, c4⟩ := HT1.out.cells
  go_enter Tryz.func10, Tryz.ntmps10
  go_upto_region 1 with fail
  rw [← hw1, ← hB]
  clear hw1 hB
  go_wp2_with fail
  refine (KO.out _ _ (ints_lit w1 [1, 2, 6] rfl (by decide) rfl)).mono ?_
  rintro e' w2 ⟨rfl, hb2⟩
  have HB2 : Hid (Below w1.heap.size w1 w2) := Lib.hid ((below_alloc w1 _).trans (hb2.mono (by simp)))
  have d3 := (HT1.out.below HB2.out).cells.2.2.2.1
  clear hb2 c0 c1 c2 c3 c4
  cases v with
  | false =>
    go_wp2
    go_ret
    exact ⟨by rw [HP.out]; rfl, HB1.out.trans (HB2.out.mono HB1.out.size)⟩
  | true =>
    cases he : (x == y) with
    | true =>
      go_wp2
      go_ret
      exact ⟨ret_bool (by rw [HP.out]; simp [he]), HB1.out.trans (HB2.out.mono HB1.out.size)⟩
    | false =>
      go_wp2
      go_ret
      exact ⟨ret_bool (by rw [HP.out]; simp [he]), HB1.out.trans (HB2.out.mono HB1.out.size)⟩

/-- That no operator has the text as a part. -/
def freeB (L : List OP) (z : List Int) (x : Nm) : Bool := (entL L z x).length == 0

set_option maxRecDepth 100000 in
set_option maxHeartbeats 8000000 in
theorem fleaf_any (a : Option Addr) (n c : Nat) (L : List OP) (z : List Int) (k f t : Int) (x : Nm) (e : Int) (w : World) (ht : Tab w) (h : OpS w a n c L) (hz : z.length = 10) (hn : n ≤ 1000000) (hp : ∀ o ∈ L, o.1.length ≤ 1000000) :
    Calls Tryz.prog 12 #[.agg (ev a n c z), .agg #[.int .i64 k, .int .i64 f, .int .i64 t, .string (mk x), .int .i64 e]] w fun e' w' => e' = .returned (.bool (leafB k (freeB L z x))) ∧ Below w.heap.size w w' := by
  obtain ⟨B, hB⟩ : ∃ B, B = w.heap.size := ⟨_, rfl⟩
  obtain ⟨w0, hw0⟩ : ∃ w0, w0 = w.alloc (.cells (ev a n c z) 26) := ⟨_, rfl⟩
  obtain ⟨w1, hw1⟩ : ∃ w1, w1 = w0.alloc (.cells #[.int .i64 k, .int .i64 f, .int .i64 t, .string (mk x), .int .i64 e] 33) := ⟨_, rfl⟩
  have s0 : w0.heap.size = B + 1 := by rw [hw0, hB]; simp
  have HE1 : Hid (EB w1 B a n c z) := Lib.hid (by rw [hw1, hw0, hB]; exact (EB.new w a n c z).alloc _)
  have HT1 : Hid (T5 w1 (B + 1) k f t x e) := Lib.hid (by rw [hw1, ← s0]; exact T5.new w0 k f t x e)
  have hb1 : Below w.heap.size w w1 := by rw [hw1, hw0]; exact (below_alloc w _).alloc (by simp) _
  have HB1 := Lib.hid hb1
  obtain ⟨v, hv⟩ : ∃ v, v = [1, 2].contains k := ⟨_, rfl⟩
  obtain ⟨u, hu⟩ : ∃ u, u = [3, 4, 5].contains k := ⟨_, rfl⟩
  obtain ⟨m, hm⟩ : ∃ m, m = (entL L z x).length := ⟨_, rfl⟩
  have HP1 : Hid (v = true → leafB k (freeB L z x) = (m == 0)) := Lib.hid fun h0 => by
    rw [h0, leaf_con2] at hv
    unfold leafB
    rw [← hv, Bool.true_and]
    rw [show freeB L z x = (m == 0) by rw [hm]; rfl]
    have hk : k = 1 ∨ k = 2 := by simpa using hv.symm
    rcases hk with rfl | rfl <;> rfl
  have HP2 : Hid (v = false → leafB k (freeB L z x) = u) := Lib.hid fun h0 => by
    rw [h0, leaf_con2] at hv
    unfold leafB
    rw [← hv, Bool.false_and, Bool.or_false, hu, leaf_con3]
  have KO : Hid (∀ (g : Nat) (w' : World), Vs 1 w' (some ⟨g, 0, none⟩) 2 2 ([1, 2].map (Value.int .i64)) → Calls Tryz.prog 24 #[.agg #[.int .i64 k, .int .i64 f, .int .i64 t, .string (mk x), .int .i64 e], .slice (some ⟨g, 0, none⟩) 2 2] w' fun e' w'' => e' = .returned (.bool v) ∧ Below w'.heap.size w' w'') := Lib.hid fun g w' hh => by rw [hv]; exact tokof_any k f t x e _ 2 2 [1, 2] w' hh (by decide)
  have KU : Hid (∀ (g : Nat) (w' : World), Vs 1 w' (some ⟨g, 0, none⟩) 3 3 ([3, 4, 5].map (Value.int .i64)) → Calls Tryz.prog 24 #[.agg #[.int .i64 k, .int .i64 f, .int .i64 t, .string (mk x), .int .i64 e], .slice (some ⟨g, 0, none⟩) 3 3] w' fun e' w'' => e' = .returned (.bool u) ∧ Below w'.heap.size w' w'') := Lib.hid fun g w' hh => by rw [hu]; exact tokof_any k f t x e _ 3 3 [3, 4, 5] w' hh (by decide)
  have KE : Hid (∀ w' : World, Below w1.heap.size w1 w' → Calls Tryz.prog 15 #[.agg (ev a n c z), .string (mk x)] w' fun e' w'' => ∃ a' c', e' = .returned (.slice a' m c') ∧ Below w'.heap.size w' w'') := Lib.hid fun w' hh => by
    rw [hm]
    refine (entry_any a n c L z x w' ((ht.keep hb1).keep hh) ((h.below hb1).below hh) hz hn hp).mono ?_
    rintro e' w'' ⟨a', c', rfl, _, hb⟩
    exact ⟨a', c', rfl, hb⟩
  have HZ := Lib.hid hz
  have HM : Hid (m ≤ 4611686018427387904) := Lib.hid (by
    rw [hm]
    have h1 : (entL L z x).length ≤ L.length := entL_len ..
    have := OpS.len h
    omega)
  clear hv hu hm ht h hz hn hp hb1
  obtain ⟨c0, c1, c2, c3, c4⟩ := HT1.out.cells
  go_enter Tryz.func12, Tryz.ntmps12
  go_upto_region 1 with fail
  rw [← hw0, ← hw1]
  try rw [s0]
  try rw [← hB]
  clear hw0 hw1 s0 hB
  go_wp2_with fail
  refine (KO.out _ _ (ints_lit w1 [1, 2] rfl (by decide) rfl)).mono ?_
  rintro e' w2 ⟨rfl, hb2⟩
  have HB2 : Hid (Below w1.heap.size w1 w2) := Lib.hid ((below_alloc w1 _).trans (hb2.mono (by simp)))
  clear hb2 c0 c1 c2 c3 c4
  obtain ⟨c0, c1, c2, c3, c4⟩ := (HT1.out.below HB2.out).cells
  cases v with
  | true =>
    have HP := Lib.hid (HP1.out rfl)
    have hm0 := HM.out
    go_wp2_with (first
      | (refine load_env rfl (.tmp 2) rfl B rfl a n c z HZ.out (HE1.out.below HB2.out) ?_)
      | (go_at_call 15; refine (KE.out w2 HB2.out).mono ?_; rintro e' w3 ⟨a', c', rfl, hb3⟩; have HB3 := Lib.hid (HB2.out.trans (hb3.mono HB2.out.size)); clear hb3))
    go_ret
    exact ⟨ret_bool (by rw [HP.out, Bool.eq_iff_iff]; simp), HB1.out.trans (HB3.out.mono HB1.out.size)⟩
  | false =>
    have HP := Lib.hid (HP2.out rfl)
    go_wp2_with fail
    refine (KU.out _ _ (ints_lit w2 [3, 4, 5] rfl (by decide) rfl)).mono ?_
    rintro e' w3 ⟨rfl, hb3⟩
    have HB3 : Hid (Below w1.heap.size w1 w3) := Lib.hid (HB2.out.trans (((below_alloc w2 _).trans (hb3.mono (by simp))).mono HB2.out.size))
    clear hb3 c0 c1 c2 c3 c4
    go_wp2
    go_ret
    exact ⟨by rw [HP.out]; rfl, HB1.out.trans (HB3.out.mono HB1.out.size)⟩

end Go.Proofs.YtcegbmhnbmfnnaaGreatDoor
