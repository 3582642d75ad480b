/- Contracts of tree.solo, tree.encloses, tree.operator, tree.fit. -/
import Derived.Test.YtkaeanaeklilfaaGreatDoorXb
import Derived.Test.YtkaeanaeklilfaaGreatDoorNA
namespace Go.Proofs.YtkaeanaeklilfaaGreatDoor
open Go.RowKit

/-! ### A node in a block -/

def ndA (x : ND) : Array Value := #[.int .i64 x.k, .string (mk x.n), .int .i64 x.f, .int .i64 x.t, .int .i64 x.c]
/-- The block b holds this node. -/
def N5 (w : World) (b : Nat) (x : ND) : Prop := w.heap[b]? = some (.cells (ndA x) 43 (0, 0))
theorem N5.cells {w : World} {b : Nat} {x : ND} (h : N5 w b x) : w.cell? ⟨b, 0, none⟩ = some (.int .i64 x.k) ∧ w.cell? ⟨b, 1, none⟩ = some (.string (mk x.n)) ∧ w.cell? ⟨b, 2, none⟩ = some (.int .i64 x.f) ∧ w.cell? ⟨b, 3, none⟩ = some (.int .i64 x.t) ∧ w.cell? ⟨b, 4, none⟩ = some (.int .i64 x.c) :=
  ⟨cell_of_row w b 0 _ _ _ h, cell_of_row w b 1 _ _ _ h, cell_of_row w b 2 _ _ _ h, cell_of_row w b 3 _ _ _ h, cell_of_row w b 4 _ _ _ h⟩
theorem N5.lt {w : World} {b : Nat} {x : ND} (h : N5 w b x) : b < w.heap.size := (Array.getElem?_eq_some_iff.1 h).1
theorem N5.new (w : World) (x : ND) : N5 (w.alloc (.cells (ndA x) 43)) w.heap.size x := heap_alloc_new w _
theorem N5.keep {w w' : World} {b B : Nat} {x : ND} (h : N5 w b x) (hb : Below B w w') (hB : b < B) : N5 w' b x := (hb.block b hB).trans h
theorem N5.below {w w' : World} {b : Nat} {x : ND} (h : N5 w b x) (hb : Below w.heap.size w w') : N5 w' b x := h.keep hb h.lt
theorem N5.alloc {w : World} {b : Nat} {x : ND} (h : N5 w b x) (o : Obj) : N5 (w.alloc o) b x := h.below (below_alloc w o)
theorem N5.only {w w' : World} {b g : Nat} {x : ND} (h : N5 w b x) (ho : Only g w w') (hne : b ≠ g) : N5 w' b x := (ho.block b hne).trans h
theorem n5_info : (Tryz.prog.info? 43).map (·.size) = some 5 := by kernel_rfl
theorem load_n5 {ops : Array Oper} {rest : List Oper} {o : Oper} {a : Act} {w : World} {Q : Exit → Act → World → Prop} (hw : Region.wanted o (yielded ops a.tmps) = true) (x : Operand) (ho : o.op = .load 43 x)
    (b : Nat) (hx : a.eval x = .pointer (some ⟨b, 0, none⟩)) (y : ND) (h : N5 w b y)
    (kk : wpList Tryz.prog ops Q rest (a.put o.dst (.agg (ndA y))) w) : wpList Tryz.prog ops Q (o :: rest) a w :=
  wpList_step fun K hK => by
    rw [if_pos hw]
    exact wp_load_row 43 x ho b hx _ _ _ _ h Tryz.underlying43 rfl n5_info (hK _ _ kk)

/-! ### solo, encloses -/

def tkA (y : TK) : Array Value := #[.int .i64 y.k, .int .i64 y.f, .int .i64 y.t, .string y.s, .int .i64 y.e]
theorem txN_mk (y : TK) : mk (txN y) = y.s := by unfold txN mk; simp

set_option maxRecDepth 20000 in
theorem tsolo_any (y : TK) (c8 : UInt8) (w : World) :
    Calls Tryz.prog 59 #[.agg (tkA y), .string { data := #[c8] }] w fun e w' => e = .returned (.bool (soloB y c8)) ∧ Below w.heap.size w w' := by
  obtain ⟨B, hB⟩ : ∃ B, B = w.heap.size := ⟨_, rfl⟩
  obtain ⟨w1, hw1⟩ : ∃ w1, w1 = w.alloc (.cells (tkA y) 47) := ⟨_, rfl⟩
  have HT : Hid (w1.heap[B]? = some (.cells (tkA y) 47 (0, 0))) := Lib.hid (by rw [hw1, hB]; exact heap_alloc_new w _)
  have HB1 : Hid (Below w.heap.size w w1) := Lib.hid (by rw [hw1]; exact below_alloc w _)
  have c0 : w1.cell? ⟨B, 0, none⟩ = some (.int .i64 y.k) := cell_of_row w1 B 0 _ _ _ HT.out
  have c3 : w1.cell? ⟨B, 3, none⟩ = some (.string y.s) := cell_of_row w1 B 3 _ _ _ HT.out
  have hst : y.s.toList = txN y := by
    have := mk_toList (txN y)
    rwa [txN_mk] at this
  have HS : Hid (soloB y c8 = (y.k == 6 && txN y == [c8])) := Lib.hid rfl
  unfold tkA at hw1 ⊢
  go_enter Tryz.func59, Tryz.ntmps59
  go_upto_region 1 with fail
  rw [← hw1, ← hB]
  clear hw1 hB
  cases h6 : (y.k == 6) with
  | false =>
    go_wp2
    go_ret
    exact ⟨by rw [HS.out, h6]; rfl, HB1.out⟩
  | true =>
    cases he : (txN y == [c8]) with
    | true =>
      go_wp2
      go_ret
      exact ⟨ret_bool (by rw [HS.out, h6, he]; rfl), HB1.out⟩
    | false =>
      go_wp2
      go_ret
      exact ⟨ret_bool (by rw [HS.out, h6, he]; rfl), HB1.out⟩

/-! ### operator -/

theorem findO_hit {L : List OP} {q : Nm} {k : Nat} (hk : k < L.length) (hm : ∀ j, j < k → (opA L j).1 ≠ q) (he : (opA L k).1 = q) : findO L q = some (opA L k) := by
  unfold findO
  have hn : (L.take k).find? (fun o => o.1 == q) = none := by
    rw [List.find?_eq_none]
    intro o ho
    obtain ⟨j, hj, e⟩ := List.mem_iff_getElem.1 ho
    rw [List.getElem_take] at e
    rw [List.length_take] at hj
    have := hm j (by omega)
    rw [opA_eq (by omega), e] at this
    simpa using this
  have h2 : (L.drop k).find? (fun o => o.1 == q) = some (opA L k) := by rw [opA_drop hk, List.find?_cons_of_pos (by simpa using he)]
  have h3 : L.find? (fun o => o.1 == q) = (L.take k ++ L.drop k).find? (fun o => o.1 == q) := by rw [List.take_append_drop]
  rw [h3, List.find?_append, hn, h2]
  rfl
theorem findO_miss {L : List OP} {q : Nm} (hm : ∀ j, j < L.length → (opA L j).1 ≠ q) : findO L q = none := by
  unfold findO
  rw [List.find?_eq_none]
  intro o ho
  obtain ⟨j, hj, e⟩ := List.mem_iff_getElem.1 ho
  have := hm j hj
  rw [opA_eq hj, e] at this
  simpa using this

set_option maxRecDepth 20000 in
theorem oper1_any (p : Nm) (g s : Int) (q : Nm) (X : Nat) (w : World) (hX : w.cell? ⟨X, 0, none⟩ = some (.string (mk q))) :
    Calls Tryz.prog 88 #[.agg #[.string (mk p), .int .i64 g, .int .i64 s], .pointer (some ⟨X, 0, none⟩)] w fun e w' => e = .returned (.bool (p == q)) ∧ Below w.heap.size w w' := by
  obtain ⟨B, hB⟩ : ∃ B, B = w.heap.size := ⟨_, rfl⟩
  obtain ⟨w1, hw1⟩ : ∃ w1, w1 = w.alloc (.cells #[.string (mk p), .int .i64 g, .int .i64 s] 52) := ⟨_, rfl⟩
  have HT : Hid (D3 w1 B (p, g, s)) := Lib.hid (by rw [hw1, hB]; exact D3.new w (p, g, s))
  have HB1 : Hid (Below w.heap.size w w1) := Lib.hid (by rw [hw1]; exact below_alloc w _)
  have x0 := HT.out.cells.1
  have x1 : w1.cell? ⟨X, 0, none⟩ = some (.string (mk q)) := (HB1.out.cell (p := ⟨X, 0, none⟩) (World.block_lt_of_cell? w ⟨X, 0, none⟩ hX)).trans hX
  dsimp only at x0
  have hx := mk_toList p
  have hy := mk_toList q
  clear hX
  go_enter Tryz.func88, Tryz.ntmps88
  go_upto_region 1 with fail
  rw [← hw1, ← hB]
  clear hw1 hB
  cases he : (p == q) with
  | true =>
    go_wp2
    go_ret
    exact ⟨ret_bool (by simp [he]), HB1.out⟩
  | false =>
    go_wp2
    go_ret
    exact ⟨ret_bool (by simp [he]), HB1.out⟩

set_option maxRecDepth 20000 in
set_option maxHeartbeats 1000000 in
theorem indexO_any (a : Option Addr) (n c : Nat) (L : List OP) (q : Nm) (X : Nat) (w : World) (h : OpS w a n c L) (hX : w.cell? ⟨X, 0, none⟩ = some (.string (mk q))) (hn : n ≤ 1000000) :
    Calls Tryz.prog 87 #[.slice a n c, .func (.func 88) #[] #[.pointer (some ⟨X, 0, none⟩)]] w fun e w' =>
      (e = .returned (.int .i64 (-1)) ∧ findO L q = none ∨ ∃ k : Nat, e = .returned (.int .i64 k) ∧ k < n ∧ findO L q = some (opA L k)) ∧ Below w.heap.size w w' := by
  have H := Lib.hid h
  have HL := Lib.hid (OpS.len h)
  have HX := Lib.hid hX
  clear h hX
  go_enter Tryz.func87, Tryz.ntmps87
  go_wp2
  go_loopw [8] (fun i wr => ∃ k : Nat, i = .int .i64 k ∧ k ≤ n ∧ Hid (∀ j, j < k → (opA L j).1 ≠ q) ∧ Hid (Below w.heap.size w wr)) (fun i _ => n - (intOf i).toNat)
  case atStart => exact ⟨0, rfl, by omega, Lib.hid (fun j hj => by omega), Lib.hid (Below.refl _ _)⟩
  case round =>
    obtain ⟨k, rfl, hk, HM, HB⟩ := hrel
    by_cases hlt : k < n
    · have hb := H.out.below HB.out
      obtain ⟨b, off, rfl, _, hc⟩ := hb.at_ (by omega)
      clear hc
      obtain ⟨c0, c1, c2⟩ := OpS.at3 hb hlt
      obtain ⟨T, hT⟩ : ∃ T, T = opA L k := ⟨_, rfl⟩
      rw [← hT] at c0 c1 c2
      have HTU := Lib.hid hT
      clear hb hT
      obtain ⟨p, g, s⟩ := T
      dsimp only at c0 c1 c2
      have KO : Hid (∀ w', Below wr.heap.size wr w' → Calls Tryz.prog 88 #[.agg #[.string (mk p), .int .i64 g, .int .i64 s], .pointer (some ⟨X, 0, none⟩)] w' fun e w'' => e = .returned (.bool (p == q)) ∧ Below w'.heap.size w' w'') := Lib.hid fun w' hh =>
        oper1_any p g s q X w' ((hh.cell (p := ⟨X, 0, none⟩) (by have := World.block_lt_of_cell? w ⟨X, 0, none⟩ HX.out; have := HB.out.size; dsimp only at *; omega)).trans ((HB.out.cell (p := ⟨X, 0, none⟩) (World.block_lt_of_cell? w ⟨X, 0, none⟩ HX.out)).trans HX.out))
      go_wp2_with fail
      refine (KO.out _ (Below.refl _ _)).mono ?_
      rintro e w1 ⟨rfl, hb1⟩
      have HW1 : Hid (Below w.heap.size w w1) := Lib.hid (HB.out.trans (hb1.mono HB.out.size))
      clear hb1 c0 c1 c2 KO
      cases hq : (p == q) with
      | true =>
        have HF : Hid (findO L q = some (opA L k)) := Lib.hid (findO_hit (by rw [HL.out]; exact hlt) HM.out (by rw [← HTU.out]; exact eq_of_beq hq))
        clear hq
        go_wp2
        go_ret
        exact ⟨Or.inr ⟨k, rfl, hlt, HF.out⟩, HW1.out⟩
      | false =>
        have HF : Hid (∀ j, j < k + 1 → (opA L j).1 ≠ q) := Lib.hid (fun j hj => by
          by_cases hjk : j < k
          · exact HM.out j hjk
          · have : j = k := by omega
            subst this
            rw [← HTU.out]
            exact beq_eq_false_iff_ne.1 hq)
        clear hq
        go_wp2
        go_roundw
        case rel => exact ⟨k + 1, by go_num, by omega, HF, HW1⟩
        case measure => simp [intOf]; omega
    · have hkl : k = n := by omega
      have HF : Hid (findO L q = none) := Lib.hid (findO_miss (by rw [HL.out, ← hkl]; exact HM.out))
      go_wp2
      go_ret
      exact ⟨Or.inl ⟨rfl, HF.out⟩, HB.out⟩

def opV : Option OP → Array Value
  | some o => #[.string (mk o.1), .int .i64 o.2.1, .int .i64 o.2.2]
  | none => #[.string ⟨#[]⟩, .int .i64 0, .int .i64 0]

set_option maxRecDepth 20000 in
set_option maxHeartbeats 2000000 in
theorem operator_any (a : Option Addr) (n c : Nat) (L : List OP) (z : List Int) (q : Nm) (w : World) (h : OpS w a n c L) (hz : z.length = 10) (hn : n ≤ 1000000) :
    Calls Tryz.prog 60 #[.agg (ev a n c z), .string (mk q)] w fun e w' => e = .returned (.tuple #[.agg (opV (findO L q)), .bool (findO L q).isSome]) ∧ Below w.heap.size w w' := by
  obtain ⟨B, hB⟩ : ∃ B, B = w.heap.size := ⟨_, rfl⟩
  obtain ⟨w1, hw1⟩ : ∃ w1, w1 = w.alloc (.cells (ev a n c z) 26) := ⟨_, rfl⟩
  obtain ⟨w2, hw2⟩ : ∃ w2, w2 = w1.alloc (.cells #[.string (mk q)] 9) := ⟨_, rfl⟩
  obtain ⟨w3, hw3⟩ : ∃ w3, w3 = w2.alloc (.cells #[.string ⟨#[]⟩, .int .i64 0, .int .i64 0] 52) := ⟨_, rfl⟩
  obtain ⟨b1, hb1⟩ : ∃ b1, b1 = w1.heap.size := ⟨_, rfl⟩
  obtain ⟨b2, hb2⟩ : ∃ b2, b2 = w2.heap.size := ⟨_, rfl⟩
  have s1 : b1 = B + 1 := by rw [hb1, hw1, hB]; simp
  have s2 : b2 = B + 1 + 1 := by rw [hb2, hw2]; simp; omega
  have HE : Hid (EB w3 B a n c z) := Lib.hid (by rw [hw3, hw2, hw1, hB]; exact ((EB.new w a n c z).alloc _).alloc _)
  have HQ : Hid (w3.cell? ⟨b1, 0, none⟩ = some (.string (mk q))) := Lib.hid (by
    rw [hw3]
    refine ((below_alloc w2 _).cell (p := ⟨b1, 0, none⟩) (by dsimp only; omega)).trans ?_
    rw [hw2, hb1]
    exact cell_of_row (w1.alloc _) w1.heap.size 0 _ _ _ (heap_alloc_new w1 _))
  have HR : Hid (D3 w3 b2 ([], 0, 0)) := Lib.hid (by rw [hw3, hb2]; exact D3.new w2 ([], 0, 0))
  have HB3 : Hid (Below B w w3) := Lib.hid (by rw [hw3, hw2, hw1, hB]; exact ((below_alloc w _).alloc (by simp) _).alloc (by simp; omega) _)
  have HBW := Lib.hid hB
  have HBB : Hid (b1 = B + 1 ∧ b2 = B + 1 + 1) := Lib.hid ⟨s1, s2⟩
  have H3 : Hid (OpS w3 a n c L) := Lib.hid (h.below (by rw [← hB]; exact HB3.out))
  have HZ := Lib.hid hz
  have x0 := HE.out.c0
  clear h hz
  go_enter Tryz.func60, Tryz.ntmps60
  go_upto_region 1 with fail
  rw [← hw1]
  try rw [← hw2]
  try rw [← hw3]
  rw [← hB]
  try rw [← s2]
  try rw [← s1]
  clear hw1 hw2 hw3 s1 s2 hB hb1 hb2
  go_wp2_with fail
  refine (indexO_any a n c L q b1 w3 H3.out HQ.out hn).mono ?_
  rintro e w4 ⟨⟨rfl, hf⟩ | ⟨k, rfl, hk, hf⟩, hb4⟩
  · have HF := Lib.hid hf
    have HB4 : Hid (Below B w w4) := Lib.hid (HB3.out.trans (hb4.mono (by have := HBW.out; have := HB3.out.size; omega)))
    have HR4 : Hid (D3 w4 b2 ([], 0, 0)) := Lib.hid (HR.out.below hb4)
    clear hf hb4 x0
    go_wp2_with (refine store_d3 rfl (.tmp 4) (.tmp 13) rfl b2 rfl [] 0 0 rfl ([], 0, 0) HR4.out ?_; intro w5 h5 ho5; have H5 := Lib.hid h5; have HO5 := Lib.hid ho5; clear h5 ho5)
    refine bodyPost_ret (results_pair rfl _ _ b2 52 #[.string (mk []), .int .i64 0, .int .i64 0] (0, 0) _ rfl H5.out Tryz.underlying52 rfl d3_info) rfl ⟨by rw [HF.out]; rfl, ?_⟩
    rw [← HBW.out]
    exact HB4.out.trans (HO5.out.below (by have := HBB.out; omega))
  · have HF := Lib.hid hf
    have HB34 := Lib.hid hb4
    have HB4 : Hid (Below B w w4) := Lib.hid (HB3.out.trans (hb4.mono (by have := HBW.out; have := HB3.out.size; omega)))
    have HR4 : Hid (D3 w4 b2 ([], 0, 0)) := Lib.hid (HR.out.below hb4)
    have H4 : Hid (OpS w4 a n c L) := Lib.hid (H3.out.below hb4)
    have x4 := (HE.out.below hb4).c0
    clear hf hb4 x0
    obtain ⟨b, off, rfl, _, hc⟩ := H4.out.at_ (by omega)
    clear hc
    obtain ⟨c0, c1, c2⟩ := OpS.at3 H4.out hk
    obtain ⟨T, hT⟩ : ∃ T, T = opA L k := ⟨_, rfl⟩
    rw [← hT] at c0 c1 c2
    have HF' : Hid (findO L q = some T) := Lib.hid (by rw [hT]; exact HF.out)
    clear hT
    obtain ⟨p, g, s⟩ := T
    dsimp only at c0 c1 c2
    have hk0 : (0 : Int) ≤ (k : Int) := Int.natCast_nonneg _
    go_wp2_with (refine store_d3 rfl (.tmp 4) (.tmp 18) rfl b2 rfl p g s rfl ([], 0, 0) HR4.out ?_; intro w5 h5 ho5; have H5 := Lib.hid h5; have HO5 := Lib.hid ho5; clear h5 ho5)
    refine bodyPost_ret (results_pair rfl _ _ b2 52 #[.string (mk p), .int .i64 g, .int .i64 s] (0, 0) _ rfl H5.out Tryz.underlying52 rfl d3_info) rfl ⟨by rw [HF'.out]; rfl, ?_⟩
    rw [← HBW.out]
    exact HB4.out.trans (HO5.out.below (by have := HBB.out; omega))

/-! ### fit -/

set_option maxRecDepth 20000 in
set_option maxHeartbeats 4000000 in
theorem fitN_any (a : Option Addr) (n c : Nat) (L : List OP) (z : List Int) (p : Nm) (g s : Int) (x : ND) (right : Bool) (w : World) (ht : Tab w) (h : OpS w a n c L) (hz : z.length = 10) (hr : ∀ i, i < 10 → I64 (bt z i)) (hn : n ≤ 1000000) (hp : p.length ≤ 1000000) (hL : ∀ o ∈ L, o.1.length ≤ 1000000) :
    Calls Tryz.prog 62 #[.agg (ev a n c z), .agg #[.string (mk p), .int .i64 g, .int .i64 s], .agg (ndA x), .bool right] w fun e w' => e = .returned (.bool (mayH L z (p, g, s) x right)) ∧ Below w.heap.size w w' := by
  obtain ⟨B, hB⟩ : ∃ B, B = w.heap.size := ⟨_, rfl⟩
  obtain ⟨w1, hw1⟩ : ∃ w1, w1 = w.alloc (.cells (ev a n c z) 26) := ⟨_, rfl⟩
  obtain ⟨w2, hw2⟩ : ∃ w2, w2 = w1.alloc (.cells #[.string (mk p), .int .i64 g, .int .i64 s] 52) := ⟨_, rfl⟩
  obtain ⟨w3, hw3⟩ : ∃ w3, w3 = w2.alloc (.cells (ndA x) 43) := ⟨_, rfl⟩
  obtain ⟨b1, hb1⟩ : ∃ b1, b1 = w1.heap.size := ⟨_, rfl⟩
  obtain ⟨b2, hb2⟩ : ∃ b2, b2 = w2.heap.size := ⟨_, rfl⟩
  have s1 : b1 = B + 1 := by rw [hb1, hw1, hB]; simp
  have s2 : b2 = B + 1 + 1 := by rw [hb2, hw2]; simp; omega
  have HE : Hid (EB w3 B a n c z) := Lib.hid (by rw [hw3, hw2, hw1, hB]; exact ((EB.new w a n c z).alloc _).alloc _)
  have HO : Hid (D3 w3 b1 (p, g, s)) := Lib.hid (by rw [hw3, hw2, hb1]; exact (D3.new w1 (p, g, s)).alloc _)
  have HN : Hid (N5 w3 b2 x) := Lib.hid (by rw [hw3, hb2]; exact N5.new w2 x)
  have HB3 : Hid (Below B w w3) := Lib.hid (by rw [hw3, hw2, hw1, hB]; exact ((below_alloc w _).alloc (by simp) _).alloc (by simp; omega) _)
  have HBW := Lib.hid hB
  have H3 : Hid (OpS w3 a n c L) := Lib.hid (h.below (by rw [← hB]; exact HB3.out))
  have HZ := Lib.hid hz
  have HR := Lib.hid hr
  have HL := Lib.hid hL
  have HP := Lib.hid hp
  have HT := Lib.hid (Tab.keep ht (by rw [← hB]; exact HB3.out))
  obtain ⟨d0, d1, d2, d3, d4⟩ := HN.out.cells
  obtain ⟨V, hV⟩ : ∃ V, V = mayH L z (p, g, s) x right := ⟨_, rfl⟩
  have HV := Lib.hid hV
  rw [← hV]
  clear h hz hr hL hp ht d2 d3 d4 hV
  have hnd : ndA x = #[.int .i64 x.k, .string (mk x.n), .int .i64 x.f, .int .i64 x.t, .int .i64 x.c] := rfl
  obtain ⟨xk, hxk⟩ : ∃ k, k = x.k := ⟨_, rfl⟩
  have HK := Lib.hid hxk
  rw [← hxk] at d0
  clear hxk
  go_enter Tryz.func62, Tryz.ntmps62
  rw [hnd]
  go_upto_region 1 with fail
  rw [← hnd]
  rw [← hw1]
  try rw [← hw2]
  try rw [← hw3]
  rw [← hB]
  try rw [← s2]
  try rw [← s1]
  clear hw1 hw2 hw3 s1 s2 hB hnd hb1 hb2
  go_wp2_with (refine load_env rfl (.tmp 4) rfl B rfl a n c z HZ.out HE.out ?_)
  refine (operator_any a n c L z x.n w3 H3.out HZ.out hn).mono ?_
  rintro e w4 ⟨rfl, hb4⟩
  have HB4 : Hid (Below B w w4) := Lib.hid (HB3.out.trans (hb4.mono (by have := HBW.out; have := HB3.out.size; omega)))
  obtain ⟨D, hD⟩ : ∃ D, D = w4.heap.size := ⟨_, rfl⟩
  have HD := Lib.hid hD
  have HE4 := Lib.hid (HE.out.below hb4)
  have HO4 : Hid (D3 w4 b1 (p, g, s)) := Lib.hid (HO.out.below hb4)
  have HN4 : Hid (N5 w4 b2 x) := Lib.hid (HN.out.below hb4)
  have HT4 := Lib.hid (Tab.keep HT.out hb4)
  clear hb4 d0 d1 hD
  have hfin : ∀ w5 w' : World, Below w4.heap.size w4 w5 → Below w5.heap.size w5 w' → Below w.heap.size w w' := fun w5 w' h1 h2 => by
    rw [← HBW.out]
    exact HB4.out.trans ((h1.trans (h2.mono h1.size)).mono (by have := HBW.out; have := HB4.out.size; omega))
  have HFIN := Lib.hid hfin
  clear hfin
  cases hf : findO L x.n with
  | none =>
    have HF := Lib.hid hf
    clear hf
    by_cases h3 : xk = 3
    · have hv : V = false := by rw [HV.out]; unfold mayH; rw [← HK.out, if_pos h3, HF.out]
      subst h3
      subst hv
      go_wp2_with (refine store_d3 rfl (.tmp 9) (.tmp 16) rfl _ rfl [] 0 0 rfl ([], 0, 0) (D3.new w4 ([], 0, 0)) ?_; rw [← HD.out]; intro w5 h5 ho5; have HK5 := Lib.hid h5; have HB45 : Hid (Below w4.heap.size w4 w5) := Lib.hid ((below_alloc w4 _).trans (ho5.below (by rw [HD.out]; exact Nat.le_refl _))); have e0 : w5.cell? ⟨b2, 0, none⟩ = some (.int .i64 3) := (by rw [HK.out]; exact (HN4.out.below HB45.out).cells.1); clear h5 ho5)
      go_ret
      exact ⟨rfl, HFIN.out _ _ HB45.out (Below.refl _ _)⟩
    · have hv : V = true := by rw [HV.out]; unfold mayH; rw [← HK.out, if_neg h3]
      subst hv
      go_wp2_with (refine store_d3 rfl (.tmp 9) (.tmp 16) rfl _ rfl [] 0 0 rfl ([], 0, 0) (D3.new w4 ([], 0, 0)) ?_; rw [← HD.out]; intro w5 h5 ho5; have HK5 := Lib.hid h5; have HB45 : Hid (Below w4.heap.size w4 w5) := Lib.hid ((below_alloc w4 _).trans (ho5.below (by rw [HD.out]; exact Nat.le_refl _))); have e0 : w5.cell? ⟨b2, 0, none⟩ = some (.int .i64 xk) := (by rw [HK.out]; exact (HN4.out.below HB45.out).cells.1); clear h5 ho5)
      go_ret
      exact ⟨rfl, HFIN.out _ _ HB45.out (Below.refl _ _)⟩
  | some o =>
    have HF := Lib.hid hf
    have HQL : Hid (o.1.length ≤ 1000000) := Lib.hid (HL.out o (List.mem_of_find?_eq_some hf))
    clear hf
    obtain ⟨q', h', t'⟩ := o
    by_cases h3 : xk = 3
    · have hv : V = fitsB z (p, g, s) (q', h', t') right := by rw [HV.out]; unfold mayH; rw [← HK.out, if_pos h3, HF.out]
      have HFT : Hid (∀ w', Below w4.heap.size w4 w' → Calls Tryz.prog 91 #[.agg (rv z), .agg #[.string (mk p), .int .i64 g, .int .i64 s], .agg #[.string (mk q'), .int .i64 h', .int .i64 t'], .bool right] w' fun e w'' => e = .returned (.bool V) ∧ Below w'.heap.size w' w'') := Lib.hid fun w' hb => by
        rw [hv]
        exact fits_any z HZ.out HR.out p g s q' h' t' right w' (Tab.keep HT4.out hb) HP.out HQL.out
      subst h3
      clear hv
      go_wp2_with (first
        | (refine store_d3 rfl (.tmp 9) (.tmp 16) rfl _ rfl q' h' t' rfl ([], 0, 0) (D3.new w4 ([], 0, 0)) ?_; rw [← HD.out]; intro w5 h5 ho5; have HK5 := Lib.hid h5; have HB45 : Hid (Below w4.heap.size w4 w5) := Lib.hid ((below_alloc w4 _).trans (ho5.below (by rw [HD.out]; exact Nat.le_refl _))); have e0 : w5.cell? ⟨b2, 0, none⟩ = some (.int .i64 3) := (by rw [HK.out]; exact (HN4.out.below HB45.out).cells.1); clear h5 ho5)
        | (refine load_er rfl (.tmp 24) rfl B rfl a n c z HZ.out (HE4.out.below HB45.out) ?_)
        | (refine load_d3 rfl (.tmp 5) rfl b1 rfl p g s (HO4.out.below HB45.out) ?_)
        | (refine load_d3 rfl (.tmp 9) rfl D rfl q' h' t' HK5.out ?_))
      refine (HFT.out _ HB45.out).mono ?_
      rintro e w6 ⟨rfl, hb6⟩
      have HB6 := Lib.hid hb6
      clear hb6
      cases V with
      | true =>
        go_wp2
        go_ret
        exact ⟨rfl, HFIN.out _ _ HB45.out HB6.out⟩
      | false =>
        go_wp2
        go_ret
        exact ⟨rfl, HFIN.out _ _ HB45.out HB6.out⟩
    · have hv : V = true := by rw [HV.out]; unfold mayH; rw [← HK.out, if_neg h3]
      subst hv
      go_wp2_with (refine store_d3 rfl (.tmp 9) (.tmp 16) rfl _ rfl q' h' t' rfl ([], 0, 0) (D3.new w4 ([], 0, 0)) ?_; rw [← HD.out]; intro w5 h5 ho5; have HK5 := Lib.hid h5; have HB45 : Hid (Below w4.heap.size w4 w5) := Lib.hid ((below_alloc w4 _).trans (ho5.below (by rw [HD.out]; exact Nat.le_refl _))); have e0 : w5.cell? ⟨b2, 0, none⟩ = some (.int .i64 xk) := (by rw [HK.out]; exact (HN4.out.below HB45.out).cells.1); clear h5 ho5)
      go_ret
      exact ⟨rfl, HFIN.out _ _ HB45.out (Below.refl _ _)⟩

end Go.Proofs.YtkaeanaeklilfaaGreatDoor
