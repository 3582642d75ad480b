/- Tokens compared; a token in a block; the document's example at the head of layer 6's statements. -/
import Derived.Test.YtglgdpcfjbahdaaDoorTe
import Derived.Laws.StructEq
import Derived.Lib.SmallJoins
namespace Go.Proofs.YtglgdpcfjbahdaaDoor
open Go.RowKit

theorem few_any (a : Option Addr) (len cap : Nat) (l : List Int) (w : World) (h : Bs w a len cap l) :
    Calls Tryd.prog 10 #[.slice a len cap] w fun e w' => e = .returned (.slice a (min len 120) cap) ∧ w = w' := by
  have hm := h.lt
  have hlc := h.lc
  have hcm := h.cm
  unfold maxLen at hm hcm
  clear h
  go_enter Tryd.func10, Tryd.ntmps10
  go_wp2
  all_goals
    go_ret
    exact ⟨ret_slice (by omega) rfl, rfl⟩

theorem few_bs {w : World} {a : Option Addr} {len cap : Nat} {l : List Int} (h : Bs w a len cap l) : Bs w a (min len 120) cap (l.take 120) := by
  have h1 := h.lc
  have h2 := h.cm
  have h3 := h.take (k := min len 120) (c' := cap) (Nat.min_le_left _ _) (by omega) h2
  rwa [show l.take (min len 120) = l.take 120 from by
    rw [← h.hl, Nat.min_comm, ← List.take_take, List.take_length]] at h3

def ex1 : List Int := [97, 46, 98, 46, 32, 88]
theorem nx_ex1 : nx ex1 1 = some (1, ⟨2, 1, [46], 0⟩) := by decide +kernel
theorem nx_ex3 : nx ex1 3 = some (3, ⟨7, 1, [46], 0⟩) := by decide +kernel
theorem nx_ex4 : nx ex1 4 = some (5, ⟨3, 1, [88], 0⟩) := by decide +kernel
theorem nx_ex6 : nx ex1 6 = none := by decide +kernel

theorem eq_tok (k f t e k' f' t' e' : Int) (s s' : ByteArray) (w : World) :
    (Op.equalIn 10000 27 (.agg #[.int .i64 k, .int .i64 f, .int .i64 t, .string s, .int .i64 e]) (.agg #[.int .i64 k', .int .i64 f', .int .i64 t', .string s', .int .i64 e'])).run Tryd.prog w = .ok ((k == k') && ((f == f') && ((t == t') && ((s.toList == s'.toList) && (e == e'))))) w := by
  have hu : Tryd.prog.underlying 27 = some (.struct (Tryd.prog.fieldsOf 27)) := by
    unfold Program.fieldsOf
    rw [Tryd.underlying27]
  rw [run_equalIn_struct w 9999 27 _ _ hu (by kernel_rfl)]
  unfold Program.fieldsOf
  rw [Tryd.underlying27]
  have p0 : ∀ w (a b c d : Value) (q : ByteArray), (part 3 #[a, b, c, .string q, d] 0).run Tryd.prog w = .ok a w := fun _ _ _ _ _ _ => by kernel_rfl
  have p1 : ∀ w (a b c d : Value) (q : ByteArray), (part 3 #[a, b, c, .string q, d] 1).run Tryd.prog w = .ok b w := fun _ _ _ _ _ _ => by kernel_rfl
  have p2 : ∀ w (a b c d : Value) (q : ByteArray), (part 3 #[a, b, c, .string q, d] 2).run Tryd.prog w = .ok c w := fun _ _ _ _ _ _ => by kernel_rfl
  have p3 : ∀ w (a b c d : Value) (q : ByteArray), (part 9 #[a, b, c, .string q, d] 3).run Tryd.prog w = .ok (.string q) w := fun _ _ _ _ _ _ => by kernel_rfl
  have p4 : ∀ w (a b c d : Value) (q : ByteArray), (part 25 #[a, b, c, .string q, d] 4).run Tryd.prog w = .ok d w := fun _ _ _ _ _ _ => by kernel_rfl
  have e1 : ∀ w (a b : Int), (Op.equalIn 9999 3 (.int .i64 a) (.int .i64 b)).run Tryd.prog w = .ok (a == b) w := fun w a b => run_equalIn_int w 9998 _ _ _ a b Tryd.underlying3
  have e2 : ∀ w (a b : Int), (Op.equalIn 9999 25 (.int .i64 a) (.int .i64 b)).run Tryd.prog w = .ok (a == b) w := fun w a b => run_equalIn_int w 9998 _ _ _ a b Tryd.underlying25
  have e3 : ∀ w (a b : ByteArray), (Op.equalIn 9999 9 (.string a) (.string b)).run Tryd.prog w = .ok (a.toList == b.toList) w := fun w a b => run_equalIn_string w 9998 _ a b Tryd.underlying9
  simp only [Op.eqFields, Sem.run_bind, Sem.run_ite, p0, p1, p2, p3, p4, e1, e2, e3, Result.andThen_ok, Sem.run_pure, ne_eq, String.reduceEq, not_false_eq_true, if_true]
  cases k == k' <;> cases f == f' <;> cases t == t' <;> cases (s.toList == s'.toList) <;> cases e == e' <;> rfl

/-- Block g holds these cells. -/
structure TV (g : Nat) (cs : Array Value) (w : World) : Prop where
  lt : g < w.heap.size
  c : ∀ i, w.cell? ⟨g, i, none⟩ = cs[i]?
  z : ∀ i, w.frozen? ⟨g, i, none⟩ = false

theorem tv_new (w : World) (cs : Array Value) (e : TypeId) : TV w.heap.size cs (w.alloc (.cells cs e)) := ⟨by simp, fun i => cell_of_row _ _ _ _ _ _ (heap_alloc_new w _), fun i => frozen_of_row _ _ _ _ _ (heap_alloc_new w _)⟩
theorem TV.keep {g : Nat} {cs : Array Value} {w w' : World} (h : TV g cs w) (hb : Below w.heap.size w w') : TV g cs w' :=
  ⟨Nat.lt_of_lt_of_le h.lt hb.size, fun i => (hb.cell (p := ⟨g, i, none⟩) h.lt).trans (h.c i), fun i => (hb.frozen (p := ⟨g, i, none⟩) h.lt).trans (h.z i)⟩
theorem TV.keepB {g B : Nat} {cs : Array Value} {w w' : World} (h : TV g cs w) (hB : g < B) (hb : Below B w w') : TV g cs w' :=
  ⟨Nat.lt_of_lt_of_le h.lt hb.size, fun i => (hb.cell (p := ⟨g, i, none⟩) hB).trans (h.c i), fun i => (hb.frozen (p := ⟨g, i, none⟩) hB).trans (h.z i)⟩
theorem past_alloc {w w' : World} {o : Obj} (h : Below (w.alloc o).heap.size (w.alloc o) w') : Below w.heap.size w w' := ((Below.refl _ w).alloc (Nat.le_refl _) _).trans (h.mono (by simp))

theorem ex1_v1 : nxV (nx ex1 1) = .tuple #[.agg #[.int .i64 2, .int .i64 1, .int .i64 2, .string ⟨#[46]⟩, .int .i64 0], .bool true] := by rw [nx_ex1]; rfl
theorem ex1_v3 : nxV (nx ex1 3) = .tuple #[.agg #[.int .i64 7, .int .i64 3, .int .i64 4, .string ⟨#[46]⟩, .int .i64 0], .bool true] := by rw [nx_ex3]; rfl
theorem ex1_v4 : nxV (nx ex1 4) = .tuple #[.agg #[.int .i64 3, .int .i64 5, .int .i64 6, .string ⟨#[88]⟩, .int .i64 0], .bool true] := by rw [nx_ex4]; rfl
theorem ex1_v6 : nxV (nx ex1 6) = .tuple #[.agg #[.int .i64 0, .int .i64 0, .int .i64 0, .string ⟨#[]⟩, .int .i64 0], .bool false] := by rw [nx_ex6]; rfl

set_option maxRecDepth 20000 in
set_option maxHeartbeats 1000000 in
theorem shown_any (w : World) (ht : Tab w) :
    Calls Tryd.prog 9 #[] w fun e w' => e = .returned (.bool true) ∧ Below w.heap.size w w' := by
  have kc := Joins.run_convert_bytes_const_at (P := Tryd.prog) w 22 5 #[.int .u8 97, .int .u8 46, .int .u8 98, .int .u8 46, .int .u8 32, .int .u8 88] 6 6 w.heap.size rfl Tryd.underlying22 Tryd.underlying5
  have hb0 : Below w.heap.size w (w.alloc (.cells #[.int .u8 97, .int .u8 46, .int .u8 98, .int .u8 46, .int .u8 32, .int .u8 88] 5 (6, 7))) := (Below.refl _ _).alloc (Nat.le_refl _) _
  have HL1 : Hid (Bs (w.alloc (.cells #[.int .u8 97, .int .u8 46, .int .u8 98, .int .u8 46, .int .u8 32, .int .u8 88] 5 (6, 7))) (some ⟨w.heap.size, 0, none⟩) 6 6 ex1) := Lib.hid (Bs.lit w 5 (by simp [ex1]) (by simp [ex1]) rfl rfl (by decide))
  have HT := Lib.hid ht
  have HB0 := Lib.hid hb0
  clear ht hb0
  go_enter Tryd.func9, Tryd.ntmps9
  go_wp2_with fail
  refine (next_any _ _ _ ex1 1 _ HL1.out (HT.out.keep HB0.out) (by decide) (by decide)).mono ?_
  rw [ex1_v1]
  rintro e w1 ⟨rfl, hb1⟩
  have HW1 : Hid (Below w.heap.size w w1) := Lib.hid (HB0.out.trans (hb1.mono HB0.out.size))
  have HL11 := Lib.hid (HL1.out.below hb1)
  clear hb1 kc
  go_wp2_with fail
  refine (next_any _ _ _ ex1 3 _ (HL11.out.alloc _) (HT.out.keep (HW1.out.alloc HW1.out.size _)) (by decide) (by decide)).mono ?_
  rw [ex1_v3]
  rintro e w2 ⟨rfl, hb2⟩
  have hc2 := past_alloc hb2
  have HW2 : Hid (Below w.heap.size w w2) := Lib.hid (HW1.out.trans (hc2.mono HW1.out.size))
  have HL12 := Lib.hid (HL11.out.below hc2)
  have HV1_2 : Hid (TV w1.heap.size _ w2) := Lib.hid ((tv_new w1 _ 27).keep hb2)
  clear hb2 hc2
  go_wp2_with fail
  refine (next_any _ _ _ ex1 4 _ (HL12.out.alloc _) (HT.out.keep (HW2.out.alloc HW2.out.size _)) (by decide) (by decide)).mono ?_
  rw [ex1_v4]
  rintro e w3 ⟨rfl, hb3⟩
  have hc3 := past_alloc hb3
  have HW3 : Hid (Below w.heap.size w w3) := Lib.hid (HW2.out.trans (hc3.mono HW2.out.size))
  have HL13 := Lib.hid (HL12.out.below hc3)
  have HV2_3 : Hid (TV w2.heap.size _ w3) := Lib.hid ((tv_new w2 _ 27).keep hb3)
  have HV1_3 := Lib.hid (HV1_2.out.keep hc3)
  clear hb3 hc3
  go_wp2_with fail
  refine (next_any _ _ _ ex1 6 _ (HL13.out.alloc _) (HT.out.keep (HW3.out.alloc HW3.out.size _)) (by decide) (by decide)).mono ?_
  rw [ex1_v6]
  rintro e w4 ⟨rfl, hb4⟩
  have hc4 := past_alloc hb4
  have HW4 : Hid (Below w.heap.size w w4) := Lib.hid (HW3.out.trans (hc4.mono HW3.out.size))
  have HL14 := Lib.hid (HL13.out.below hc4)
  have HV3_4 : Hid (TV w3.heap.size _ w4) := Lib.hid ((tv_new w3 _ 27).keep hb4)
  have HV1_4 := Lib.hid (HV1_3.out.keep hc4)
  have HV2_4 := Lib.hid (HV2_3.out.keep hc4)
  clear hb4 hc4
  have q10 := HV1_4.out.c 0
  have q11 := HV1_4.out.c 1
  have q12 := HV1_4.out.c 2
  have q13 := HV1_4.out.c 3
  have q14 := HV1_4.out.c 4
  have q20 := HV2_4.out.c 0
  have q21 := HV2_4.out.c 1
  have q22 := HV2_4.out.c 2
  have q23 := HV2_4.out.c 3
  have q24 := HV2_4.out.c 4
  have q30 := HV3_4.out.c 0
  have q31 := HV3_4.out.c 1
  have q32 := HV3_4.out.c 2
  have q33 := HV3_4.out.c 3
  have q34 := HV3_4.out.c 4
  have hlt1 := HV1_4.out.lt
  have hlt2 := HV2_4.out.lt
  have hlt3 := HV3_4.out.lt
  simp only [List.getElem?_toArray, List.getElem?_cons_zero, List.getElem?_cons_succ] at q10 q11 q12 q13 q14 q20 q21 q22 q23 q24 q30 q31 q32 q33 q34
  have e1 := eq_tok 7 3 4 0 7 3 4 0 ⟨#[46]⟩ ⟨#[46]⟩
  have e2 := eq_tok 3 5 6 0 3 5 6 0 ⟨#[88]⟩ ⟨#[88]⟩
  go_wp2
  go_ret
  exact ⟨rfl, HW4.out.alloc HW4.out.size _⟩

end Go.Proofs.YtglgdpcfjbahdaaDoor
