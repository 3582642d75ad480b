/- The law FitsAll (laid by genYv.py). -/
import Derived.Test.YtcegbmhnbmfnnaaGreatDoorYj
import Derived.Test.YtcegbmhnbmfnnaaGreatDoorYk
import Derived.Deep.DeepCutAuto
namespace Go.Proofs.YtcegbmhnbmfnnaaGreatDoor
open Go.RowKit

/-- A text stored into a token's fourth cell. -/
theorem store_t5 {ops : Array Oper} {rest : List Oper} {o : Oper} {A : Act} {w : World} {Q : Exit → Act → World → Prop} (hgd : o.guard = none) (x y : Operand) (ho : o.op = .store 9 x y)
    (b : Nat) (hx : A.eval x = .pointer (some ⟨b, 3, none⟩)) (s' : Nm) (hy : A.eval y = .string (mk s')) (k f t : Int) (s : Nm) (e : Int) (h : T5 w b k f t s e)
    (kk : ∀ w', T5 w' b k f t s' e → Only b w w' → wpList Tryz.prog ops Q rest (A.put o.dst undef) w') : wpList Tryz.prog ops Q (o :: rest) A w :=
  wpList_store_cell hgd 9 33 x y ho b 3 [.int .i64 k, .int .i64 f, .int .i64 t, .string (mk s), .int .i64 e] (.string (mk s')) hx hy string_size1 rfl h (by simp) rfl fun w' h' ho' => kk w' h' ho'
theorem T5.only {w w' : World} {b g : Nat} {k f t : Int} {x : Nm} {e : Int} (h : T5 w b k f t x e) (ho : Only g w w') (hne : b ≠ g) : T5 w' b k f t x e := (ho.block b hne).trans h
/-- The block b holds a pair. -/
def PB (w : World) (b : Nat) (p : Nm) (g s : Int) (q : Nm) (h t : Int) (right : Bool) : Prop := w.heap[b]? = some (.cells #[.string (mk p), .int .i64 g, .int .i64 s, .string (mk q), .int .i64 h, .int .i64 t, .bool right] 30 (0, 0))
theorem PB.cells {w : World} {b : Nat} {p : Nm} {g s : Int} {q : Nm} {h t : Int} {right : Bool} (H : PB w b p g s q h t right) : (w.cell? ⟨b, 0, none⟩ = some (.string (mk p)) ∧ w.cell? ⟨b, 1, none⟩ = some (.int .i64 g) ∧ w.cell? ⟨b, 2, none⟩ = some (.int .i64 s)) ∧ (w.cell? ⟨b, 3, none⟩ = some (.string (mk q)) ∧ w.cell? ⟨b, 4, none⟩ = some (.int .i64 h) ∧ w.cell? ⟨b, 5, none⟩ = some (.int .i64 t)) ∧ w.cell? ⟨b, 6, none⟩ = some (.bool right) :=
  ⟨⟨cell_of_row w b 0 _ _ _ H, cell_of_row w b 1 _ _ _ H, cell_of_row w b 2 _ _ _ H⟩, ⟨cell_of_row w b 3 _ _ _ H, cell_of_row w b 4 _ _ _ H, cell_of_row w b 5 _ _ _ H⟩, cell_of_row w b 6 _ _ _ H⟩
theorem PB.below {w w' : World} {b : Nat} {p : Nm} {g s : Int} {q : Nm} {h t : Int} {right : Bool} (H : PB w b p g s q h t right) (hb : Below w.heap.size w w') : PB w' b p g s q h t right := (hb.block b (Array.getElem?_eq_some_iff.1 H).1).trans H
theorem PB.only {w w' : World} {b y : Nat} {p : Nm} {g s : Int} {q : Nm} {h t : Int} {right : Bool} (H : PB w b p g s q h t right) (ho : Only y w w') (hne : b ≠ y) : PB w' b p g s q h t right := (ho.block b hne).trans H

set_option maxRecDepth 100000 in
set_option maxHeartbeats 16000000 in
theorem fitsAll_any (a : Option Addr) (n c : Nat) (L : List OP) (z : List Int) (p : Nm) (g s : Int) (q : Nm) (h t : Int) (right : Bool) (k f u : Int) (x : Nm) (e : Int) (w : World) (ht : Tab w) (hO : OpS w a n c L) (hz : z.length = 10) (hr : ∀ i, i < 10 → I64 (bt z i)) (hL : ∀ o ∈ L, o.1.length ≤ 140737488355328) (hp : p.length ≤ 140737488355328) (hq : q.length ≤ 140737488355328) (hx : x.length ≤ 140737488355328) :
    Calls Tryz.prog 3 #[.agg (ev a n c z), .agg #[.string (mk p), .int .i64 g, .int .i64 s, .string (mk q), .int .i64 h, .int .i64 t, .bool right], .agg #[.int .i64 k, .int .i64 f, .int .i64 u, .string (mk x), .int .i64 e]] w fun e' w' => e' = .returned (.bool true) ∧ Below w.heap.size w w' := by
  -- the arguments' blocks
  obtain ⟨B, hB⟩ : ∃ B, B = w.heap.size := ⟨_, rfl⟩
  obtain ⟨wA, hwA⟩ : ∃ wA, wA = w.alloc (.cells (ev a n c z) 26) := ⟨_, rfl⟩
  obtain ⟨wB, hwB⟩ : ∃ wB, wB = wA.alloc (.cells #[.string (mk p), .int .i64 g, .int .i64 s, .string (mk q), .int .i64 h, .int .i64 t, .bool right] 30) := ⟨_, rfl⟩
  obtain ⟨wC, hwC⟩ : ∃ wC, wC = wB.alloc (.cells #[.int .i64 k, .int .i64 f, .int .i64 u, .string (mk x), .int .i64 e] 33) := ⟨_, rfl⟩
  have sA : wA.heap.size = B + 1 := by rw [hwA, hB]; simp
  have sB : wB.heap.size = B + 1 + 1 := by rw [hwB]; simp [sA]
  have sC : wC.heap.size = B + 1 + 1 + 1 := by rw [hwC]; simp [sB]
  have HEC : Hid (EB wC B a n c z) := Lib.hid (by rw [hwC, hwB, hwA, hB]; exact ((EB.new w a n c z).alloc _).alloc _)
  have HPC : Hid (PB wC (B + 1) p g s q h t right) := Lib.hid (by
    have h0 : PB wB (B + 1) p g s q h t right := by rw [hwB, ← sA]; exact heap_alloc_new wA _
    rw [hwC]; exact h0.below (below_alloc wB _))
  have HTC : Hid (T5 wC (B + 1 + 1) k f u x e) := Lib.hid (by rw [hwC, ← sB]; exact T5.new wB k f u x e)
  have hbc : Below w.heap.size w wC := by rw [hwC, hwB, hwA]; exact ((below_alloc w _).alloc (by simp) _).alloc (by simp; omega) _
  have HBC := Lib.hid hbc
  have HSC := Lib.hid sC
  have HT0 := Lib.hid ht
  have HTB : Hid (Tab wC) := Lib.hid (ht.keep hbc)
  have HBB := Lib.hid hB
  have HOC : Hid (OpS wC a n c L) := Lib.hid (hO.below hbc)
  have HZ := Lib.hid hz
  have HRG := Lib.hid hr
  -- the text cut
  have hsz : (mk x).size = x.length := mk_size x
  obtain ⟨m, hm⟩ : ∃ m, m = x.length := ⟨_, rfl⟩
  rw [← hm] at hsz
  obtain ⟨v, hv⟩ : ∃ v, v = min m 60 := ⟨_, rfl⟩
  have hmin : min (m : Int) 60 = (v : Int) := by omega
  have hsl : ∀ w, (Instr.slice 9 (.string (mk x)) none (some (.int .i64 v)) none).run Tryz.prog w = .ok (.string (mk (x.take 60))) w := fun w => by
    rw [run_hi w x v (by omega)]
    congr 3
    rw [hv, hm]
    by_cases h30 : x.length ≤ 60
    · rw [Nat.min_eq_left h30, List.take_of_length_le (Nat.le_refl _), List.take_of_length_le h30]
    · rw [Nat.min_eq_right (by omega)]
  have hv0 : (0 : Int) ≤ (v : Int) := Int.natCast_nonneg _
  obtain ⟨x1, hx1⟩ : ∃ y, y = x.take 60 := ⟨_, rfl⟩
  rw [← hx1] at hsl
  -- what the calls answer
  obtain ⟨p1, hp1, hp60, hF1⟩ : ∃ p1, p1 = p.take 60 ∧ p1.length ≤ 60 ∧ ∀ w, Calls Tryz.prog 7 #[.agg #[.string (mk p), .int .i64 g, .int .i64 s]] w fun e w' => e = .returned (.agg #[.string (mk p1), .int .i64 g, .int .i64 s]) ∧ Below w.heap.size w w' := ⟨_, rfl, by rw [List.length_take]; omega, fun w => fewO_any p g s w hp⟩
  obtain ⟨q1, hq1, hq60, hF2⟩ : ∃ q1, q1 = q.take 60 ∧ q1.length ≤ 60 ∧ ∀ w, Calls Tryz.prog 7 #[.agg #[.string (mk q), .int .i64 h, .int .i64 t]] w fun e w' => e = .returned (.agg #[.string (mk q1), .int .i64 h, .int .i64 t]) ∧ Below w.heap.size w w' := ⟨_, rfl, by rw [List.length_take]; omega, fun w => fewO_any q h t w hq⟩
  have HF1 := Lib.hid hF1
  have HF2 := Lib.hid hF2
  obtain ⟨L1, hL1, hl20, hl60⟩ : ∃ L1, L1 = fewL L ∧ L1.length ≤ 20 ∧ ∀ o ∈ L1, o.1.length ≤ 60 := ⟨_, rfl, fewL_len L, fewL_pat⟩
  obtain ⟨n1, hn1⟩ : ∃ m, m = L1.length := ⟨_, rfl⟩
  have HFO : Hid (∀ w, OpS w a n c L → Calls Tryz.prog 6 #[.agg (ev a n c z)] w fun e w' => ∃ a' c', e = .returned (.agg (ev a' n1 c' z)) ∧ OwnO w.heap.size w' a' n1 c' L1 ∧ Below w.heap.size w w') := Lib.hid fun w hh => by
    refine (fewOf_any a n c L z w hh hz hL).mono ?_
    rintro e w' ⟨a', c', rfl, ho, hb⟩
    rw [hn1, hL1]
    exact ⟨a', c', rfl, ho, hb⟩
  obtain ⟨v1, hv1⟩ : ∃ v, v = fitsB z (p1, g, s) (q1, h, t) right := ⟨_, rfl⟩
  obtain ⟨v2, hv2⟩ : ∃ v, v = partB k x1 q1 := ⟨_, rfl⟩
  obtain ⟨v3, hv3⟩ : ∃ v, v = partB k x1 x1 := ⟨_, rfl⟩
  obtain ⟨v4, hv4⟩ : ∃ v, v = leafB k (freeB L1 z x1) := ⟨_, rfl⟩
  have KF : Hid (∀ w0 w' : World, Tab w0 → Below w0.heap.size w0 w' → Calls Tryz.prog 8 #[.agg (rv z), .agg #[.string (mk p1), .int .i64 g, .int .i64 s], .agg #[.string (mk q1), .int .i64 h, .int .i64 t], .bool right] w' fun e w'' => e = .returned (.bool v1) ∧ Below w0.heap.size w0 w'') := Lib.hid fun w0 w' h1 hb => by
    rw [hv1]
    exact (fits_any z hz hr p1 g s q1 h t right w' (h1.keep hb) (by omega) (by omega)).mono (by rintro e w'' ⟨rfl, hb2⟩; exact ⟨rfl, hb.trans (hb2.mono hb.size)⟩)
  have KRF : Hid (∀ w0 w' : World, Below w0.heap.size w0 w' → Calls Tryz.prog 9 #[.agg (rv z), .agg #[.string (mk p1), .int .i64 g, .int .i64 s], .agg #[.string (mk q1), .int .i64 h, .int .i64 t], .bool right] w' fun e w'' => e = .returned (.bool v1) ∧ Below w0.heap.size w0 w'') := Lib.hid fun w0 w' hb => by
    rw [hv1]
    exact (rfits_any z hz p1 g s q1 h t right w' (by omega) (by omega)).mono (by rintro e w'' ⟨rfl, hb2⟩; exact ⟨rfl, hb.trans (hb2.mono hb.size)⟩)
  have KP2 : Hid (∀ w0 w' : World, Below w0.heap.size w0 w' → Calls Tryz.prog 10 #[.agg #[.int .i64 k, .int .i64 f, .int .i64 u, .string (mk x1), .int .i64 e], .string (mk q1)] w' fun e w'' => e = .returned (.bool v2) ∧ Below w0.heap.size w0 w'') := Lib.hid fun w0 w' hb => by
    rw [hv2]
    exact (fpart_any k f u x1 e q1 w').mono (by rintro e w'' ⟨rfl, hb2⟩; exact ⟨rfl, hb.trans (hb2.mono hb.size)⟩)
  have KRP2 : Hid (∀ w0 w' : World, Below w0.heap.size w0 w' → Calls Tryz.prog 11 #[.agg #[.int .i64 k, .int .i64 f, .int .i64 u, .string (mk x1), .int .i64 e], .string (mk q1)] w' fun e w'' => e = .returned (.bool v2) ∧ Below w0.heap.size w0 w'') := Lib.hid fun w0 w' hb => by
    rw [hv2]
    exact (frpart_any k f u x1 e q1 w').mono (by rintro e w'' ⟨rfl, hb2⟩; exact ⟨rfl, hb.trans (hb2.mono hb.size)⟩)
  have KP3 : Hid (∀ w0 w' : World, Below w0.heap.size w0 w' → Calls Tryz.prog 10 #[.agg #[.int .i64 k, .int .i64 f, .int .i64 u, .string (mk x1), .int .i64 e], .string (mk x1)] w' fun e w'' => e = .returned (.bool v3) ∧ Below w0.heap.size w0 w'') := Lib.hid fun w0 w' hb => by
    rw [hv3]
    exact (fpart_any k f u x1 e x1 w').mono (by rintro e w'' ⟨rfl, hb2⟩; exact ⟨rfl, hb.trans (hb2.mono hb.size)⟩)
  have KRP3 : Hid (∀ w0 w' : World, Below w0.heap.size w0 w' → Calls Tryz.prog 11 #[.agg #[.int .i64 k, .int .i64 f, .int .i64 u, .string (mk x1), .int .i64 e], .string (mk x1)] w' fun e w'' => e = .returned (.bool v3) ∧ Below w0.heap.size w0 w'') := Lib.hid fun w0 w' hb => by
    rw [hv3]
    exact (frpart_any k f u x1 e x1 w').mono (by rintro e w'' ⟨rfl, hb2⟩; exact ⟨rfl, hb.trans (hb2.mono hb.size)⟩)
  have KL : Hid (∀ (a1 : Option Addr) (c1 : Nat) (w0 w' : World), Tab w0 → OpS w0 a1 n1 c1 L1 → Below w0.heap.size w0 w' → Calls Tryz.prog 12 #[.agg (ev a1 n1 c1 z), .agg #[.int .i64 k, .int .i64 f, .int .i64 u, .string (mk x1), .int .i64 e]] w' fun e w'' => e = .returned (.bool v4) ∧ Below w0.heap.size w0 w'') := Lib.hid fun a1 c1 w0 w' h1 h2 hb => by
    rw [hv4]
    exact (fleaf_any a1 n1 c1 L1 z k f u x1 e w' (h1.keep hb) (h2.below hb) hz (by omega) (fun o ho => Nat.le_trans (hl60 o ho) (by decide))).mono (by rintro e w'' ⟨rfl, hb2⟩; exact ⟨rfl, hb.trans (hb2.mono hb.size)⟩)
  have KRL : Hid (∀ (a1 : Option Addr) (c1 : Nat) (w0 w' : World), OpS w0 a1 n1 c1 L1 → Below w0.heap.size w0 w' → Calls Tryz.prog 13 #[.agg (ev a1 n1 c1 z), .agg #[.int .i64 k, .int .i64 f, .int .i64 u, .string (mk x1), .int .i64 e]] w' fun e w'' => e = .returned (.bool v4) ∧ Below w0.heap.size w0 w'') := Lib.hid fun a1 c1 w0 w' h2 hb => by
    rw [hv4]
    exact (frleaf_any a1 n1 c1 L1 z k f u x1 e w' (h2.below hb) hz (by omega) (fun o ho => Nat.le_trans (hl60 o ho) (by decide))).mono (by rintro e w'' ⟨rfl, hb2⟩; exact ⟨rfl, hb.trans (hb2.mono hb.size)⟩)
  have hnew : ∀ W : World, EB (W.alloc (.cells #[.slice none 0 0, .int .i64 0, .int .i64 0, .int .i64 0, .int .i64 0, .int .i64 0, .int .i64 0, .int .i64 0, .int .i64 0, .int .i64 0, .int .i64 0] 26)) W.heap.size none 0 0 z0 := fun W => EB.new W none 0 0 z0
  clear ht hO hz hr hL hp hq hx hm hv hx1 hp1 hp60 hF1 hq1 hq60 hF2 hL1 hl20 hl60 hn1 hv1 hv2 hv3 hv4 hbc
  go_enter Tryz.func3, Tryz.ntmps3
  go_upto_region 1 with fail
  rw [← hwA, ← hwB, ← hwC]
  try rw [sA]
  try rw [sB]
  try rw [← hB]
  clear hwA hwB hwC sA sB sC hB
  go_wp2_with fail
  refine (shown_any wC HTB.out).mono ?_
  rintro e' w1 ⟨rfl, hb1⟩
  have HB1 : Hid (Below wC.heap.size wC w1) := Lib.hid hb1
  clear hb1
  go_wp2_with (refine load_env rfl (.tmp 3) rfl B rfl a n c z HZ.out (HEC.out.below HB1.out) ?_)
  refine (HFO.out w1 (HOC.out.below HB1.out)).mono ?_
  rintro e' w2 ⟨a1, c1, rfl, ho2, hb2⟩
  have HB2 : Hid (Below wC.heap.size wC w2) := Lib.hid (HB1.out.trans (hb2.mono HB1.out.size))
  have HO2 := Lib.hid ho2
  clear hb2 ho2
  obtain ⟨q8, hq8⟩ : ∃ y, y = w2.heap.size := ⟨_, rfl⟩
  go_upto_region 3 with (refine store_env rfl (.tmp 8) (.tmp 13) rfl w2.heap.size rfl a1 n1 c1 z rfl HZ.out none 0 0 z0 z0_len (hnew w2) ?_; intro w3 he3 ho3; have HE3 := Lib.hid he3; have HQ3 := Lib.hid ho3; clear he3 ho3)
  have HI3 : Hid (Below w2.heap.size w2 w3) := Lib.hid ((below_alloc w2 _).trans (HQ3.out.below (Nat.le_refl _)))
  have HB3 : Hid (Below wC.heap.size wC w3) := Lib.hid (HB2.out.trans (HI3.out.mono HB2.out.size))
  have HO3 : Hid (OwnO w1.heap.size w3 a1 n1 c1 L1) := Lib.hid (HO2.out.keep HI3.out (Nat.le_refl _))
  have HS8 : Hid (wC.heap.size ≤ q8) := Lib.hid (by rw [hq8]; exact HB2.out.size)
  rw [← hq8] at HE3 ⊢
  clear hnew hq8 HQ3 HO2
  have HT3 := Lib.hid (HTC.out.below HB3.out)
  obtain ⟨c0, c1', c2, c3, c4⟩ := HT3.out.cells
  go_upto_region 4 with (refine store_t5 rfl (.tmp 21) (.tmp 20) rfl (B + 1 + 1) rfl x1 rfl k f u x e HT3.out ?_; intro w4 ht4 ho4; have HT4 := Lib.hid ht4; have HQ4 := Lib.hid ho4; clear ht4 ho4)
  clear c0 c1' c2 c3 c4 hsz hmin hsl hv0
  have HE4 : Hid (EB w4 q8 a1 n1 c1 z) := Lib.hid (HE3.out.only HQ4.out (by have := HS8.out; have := HSC.out; omega))
  have HP4 : Hid (PB w4 (B + 1) p g s q h t right) := Lib.hid ((HPC.out.below HB3.out).only HQ4.out (by omega))
  have HO4 : Hid (OwnO w1.heap.size w4 a1 n1 c1 L1) := Lib.hid (ownO_only HO3.out HQ4.out (by have := HSC.out; have := HB1.out.size; omega))
  have HB4 : Hid (Below w.heap.size w w4) := Lib.hid ((HBC.out.trans (HB3.out.mono HBC.out.size)).trans (HQ4.out.below (by have := HBB.out; omega)))
  clear HE3 HT3 HQ4 HO3
  obtain ⟨⟨c0, c1', c2⟩, _, _⟩ := HP4.out.cells
  go_wp2_with fail
  refine (HF1.out w4).mono ?_
  rintro e' w5 ⟨rfl, hb5⟩
  obtain ⟨q9, hq9⟩ : ∃ y, y = w5.heap.size := ⟨_, rfl⟩
  obtain ⟨w6, hw6⟩ : ∃ y, y = w5.alloc (.cells #[.string (mk p1), .int .i64 g, .int .i64 s] 28) := ⟨_, rfl⟩
  have HI6 : Hid (Below w4.heap.size w4 w6) := Lib.hid (by rw [hw6]; exact hb5.alloc hb5.size _)
  have HD6 : Hid (D3 w6 q9 (p1, g, s)) := Lib.hid (by rw [hw6, hq9]; exact D3.new w5 (p1, g, s))
  have HP6 := Lib.hid (HP4.out.below HI6.out)
  clear hb5 c0 c1' c2
  go_upto_region 5 with fail
  rw [← hw6, ← hq9]
  clear hw6 hq9
  obtain ⟨_, ⟨c0, c1', c2⟩, _⟩ := HP6.out.cells
  go_wp2_with fail
  refine (HF2.out w6).mono ?_
  rintro e' w7 ⟨rfl, hb7⟩
  obtain ⟨qA, hqA⟩ : ∃ y, y = w7.heap.size := ⟨_, rfl⟩
  obtain ⟨w8, hw8⟩ : ∃ y, y = w7.alloc (.cells #[.string (mk q1), .int .i64 h, .int .i64 t] 28) := ⟨_, rfl⟩
  have HI8 : Hid (Below w6.heap.size w6 w8) := Lib.hid (by rw [hw8]; exact hb7.alloc hb7.size _)
  have HJ8 : Hid (Below w4.heap.size w4 w8) := Lib.hid (HI6.out.trans (HI8.out.mono HI6.out.size))
  have HDA : Hid (D3 w8 qA (q1, h, t)) := Lib.hid (by rw [hw8, hqA]; exact D3.new w7 (q1, h, t))
  have HD9 := Lib.hid (HD6.out.below HI8.out)
  clear hb7 c0 c1' c2
  go_upto_region 6 with fail
  rw [← hw8, ← hqA]
  clear hw8 hqA
  have HP8 := Lib.hid (HP6.out.below HI8.out)
  have HT8 := Lib.hid (HT4.out.below HJ8.out)
  have HE8 := Lib.hid (HE4.out.below HJ8.out)
  have HO8 : Hid (OpS w8 a1 n1 c1 L1) := Lib.hid (HO4.out.vs.below HJ8.out)
  have HB8 : Hid (Below w.heap.size w w8) := Lib.hid (HB4.out.trans (HJ8.out.mono HB4.out.size))
  have HTT : Hid (Tab w8) := Lib.hid (HT0.out.keep HB8.out)
  clear HP4 HP6 HT4 HE4 HO4 HD6 HI6 HI8 HJ8 HF1 HF2 HFO
  have KS : Hid (∀ w' : World, Below w8.heap.size w8 w' → EB w' q8 a1 n1 c1 z ∧ (w'.cell? ⟨q9, 0, none⟩ = some (.string (mk p1)) ∧ w'.cell? ⟨q9, 1, none⟩ = some (.int .i64 g) ∧ w'.cell? ⟨q9, 2, none⟩ = some (.int .i64 s)) ∧ (w'.cell? ⟨qA, 0, none⟩ = some (.string (mk q1)) ∧ w'.cell? ⟨qA, 1, none⟩ = some (.int .i64 h) ∧ w'.cell? ⟨qA, 2, none⟩ = some (.int .i64 t)) ∧ (w'.cell? ⟨B + 1 + 1, 0, none⟩ = some (.int .i64 k) ∧ w'.cell? ⟨B + 1 + 1, 1, none⟩ = some (.int .i64 f) ∧ w'.cell? ⟨B + 1 + 1, 2, none⟩ = some (.int .i64 u) ∧ w'.cell? ⟨B + 1 + 1, 3, none⟩ = some (.string (mk x1)) ∧ w'.cell? ⟨B + 1 + 1, 4, none⟩ = some (.int .i64 e)) ∧ w'.cell? ⟨B + 1, 6, none⟩ = some (.bool right)) := Lib.hid fun w' hh => ⟨HE8.out.below hh, (HD9.out.below hh).cells, (HDA.out.below hh).cells, (HT8.out.below hh).cells, (HP8.out.below hh).cells.2.2⟩
  -- the region, by hand
  refine wp_region_noPanic ?_
  refine wp_region_held_drew (S := fun w' => EB w' q8 a1 n1 c1 z ∧ (w'.cell? ⟨q9, 0, none⟩ = some (.string (mk p1)) ∧ w'.cell? ⟨q9, 1, none⟩ = some (.int .i64 g) ∧ w'.cell? ⟨q9, 2, none⟩ = some (.int .i64 s)) ∧ (w'.cell? ⟨qA, 0, none⟩ = some (.string (mk q1)) ∧ w'.cell? ⟨qA, 1, none⟩ = some (.int .i64 h) ∧ w'.cell? ⟨qA, 2, none⟩ = some (.int .i64 t)) ∧ (w'.cell? ⟨B + 1 + 1, 0, none⟩ = some (.int .i64 k) ∧ w'.cell? ⟨B + 1 + 1, 1, none⟩ = some (.int .i64 f) ∧ w'.cell? ⟨B + 1 + 1, 2, none⟩ = some (.int .i64 u) ∧ w'.cell? ⟨B + 1 + 1, 3, none⟩ = some (.string (mk x1)) ∧ w'.cell? ⟨B + 1 + 1, 4, none⟩ = some (.int .i64 e)) ∧ w'.cell? ⟨B + 1, 6, none⟩ = some (.bool right)) (by kernel_rfl) (KS.out _ (Below.refl w8.heap.size w8).drew) (fun hHeld => ?_)
  refine wpAnyH_take (i := 0) (oi := { dst := some 28, op := Op.move (Operand.tmp 7), type := 4, pos := "law.go:48", after := #[], guard := none }) (v := ?_) rfl (by kernel_rfl) (by kernel_rfl) (by kernel_rfl) (fun _ _ _ h => h) (Or.inl ⟨by rfl, ?_⟩) (by assumption) ?_
  rotate_left
  · intro w' hSw
    try dsimp only at hSw
    go_simp
    try with_reducible rfl
  try simp only [Act.put, List.setIfInBounds_toArray, List.set_cons_zero, List.set_cons_succ]
  refine wpAnyH_take (i := 1) (oi := { dst := some 29, op := Op.move (Operand.tmp 28), type := 4, pos := "law.go:48", after := #[{ on := 0, ground := Ground.data }], guard := none }) (v := ?_) rfl (by kernel_rfl) (by kernel_rfl) (by kernel_rfl) (fun _ _ _ h => h) (Or.inl ⟨by rfl, ?_⟩) (by assumption) ?_
  rotate_left
  · intro w' hSw
    try dsimp only at hSw
    go_simp
    try with_reducible rfl
  try simp only [Act.put, List.setIfInBounds_toArray, List.set_cons_zero, List.set_cons_succ]
  refine wpAnyH_take (i := 2) (oi := { dst := some 30, op := Op.fieldAddr 26 (Operand.tmp 8) 1, type := 0, pos := "law.go:48", after := #[{ on := 1, ground := Ground.guard }], guard := some (1, true) }) (v := ?_) rfl (by kernel_rfl) (by kernel_rfl) (by kernel_rfl) (fun _ _ _ h => h) (Or.inl ⟨by rfl, ?_⟩) (by assumption) ?_
  rotate_left
  · intro w' hSw
    try dsimp only at hSw
    go_simp
    try with_reducible rfl
  try simp only [Act.put, List.setIfInBounds_toArray, List.set_cons_zero, List.set_cons_succ]
  refine take_er (i := 3) (oi := { dst := some 31, op := Op.load 24 (Operand.tmp 30), type := 24, pos := "law.go:48", after := #[{ on := 2, ground := Ground.data }, { on := 1, ground := Ground.guard }], guard := some (1, true) }) (Operand.tmp 30) rfl (by kernel_rfl) (by kernel_rfl) (by kernel_rfl) (z) (fun _ _ _ h => h) (by rfl) rfl (q8) rfl (HZ.out) a1 n1 c1 (fun _ h => h.1) (by assumption) ?_
  try simp only [Act.put, List.setIfInBounds_toArray, List.set_cons_zero, List.set_cons_succ]
  refine wpAnyH_take (i := 4) (oi := { dst := some 32, op := Op.load 28 (Operand.tmp 9), type := 28, pos := "law.go:48", after := #[{ on := 1, ground := Ground.guard }], guard := some (1, true) }) (v := ?_) rfl (by kernel_rfl) (by kernel_rfl) (by kernel_rfl) (fun _ _ _ h => h) (Or.inl ⟨by rfl, ?_⟩) (by assumption) ?_
  rotate_left
  · intro w' hSw
    try dsimp only at hSw
    go_simp
    try with_reducible rfl
  try simp only [Act.put, List.setIfInBounds_toArray, List.set_cons_zero, List.set_cons_succ]
  refine wpAnyH_take (i := 5) (oi := { dst := some 33, op := Op.load 28 (Operand.tmp 10), type := 28, pos := "law.go:48", after := #[{ on := 1, ground := Ground.guard }], guard := some (1, true) }) (v := ?_) rfl (by kernel_rfl) (by kernel_rfl) (by kernel_rfl) (fun _ _ _ h => h) (Or.inl ⟨by rfl, ?_⟩) (by assumption) ?_
  rotate_left
  · intro w' hSw
    try dsimp only at hSw
    go_simp
    try with_reducible rfl
  try simp only [Act.put, List.setIfInBounds_toArray, List.set_cons_zero, List.set_cons_succ]
  refine wpAnyH_take (i := 6) (oi := { dst := some 34, op := Op.fieldAddr 30 (Operand.tmp 4) 2, type := 0, pos := "law.go:48", after := #[{ on := 1, ground := Ground.guard }], guard := some (1, true) }) (v := ?_) rfl (by kernel_rfl) (by kernel_rfl) (by kernel_rfl) (fun _ _ _ h => h) (Or.inl ⟨by rfl, ?_⟩) (by assumption) ?_
  rotate_left
  · intro w' hSw
    try dsimp only at hSw
    go_simp
    try with_reducible rfl
  try simp only [Act.put, List.setIfInBounds_toArray, List.set_cons_zero, List.set_cons_succ]
  refine wpAnyH_take (i := 7) (oi := { dst := some 35, op := Op.load 4 (Operand.tmp 34), type := 4, pos := "law.go:48", after := #[{ on := 6, ground := Ground.data }, { on := 1, ground := Ground.guard }], guard := some (1, true) }) (v := ?_) rfl (by kernel_rfl) (by kernel_rfl) (by kernel_rfl) (fun _ _ _ h => h) (Or.inl ⟨by rfl, ?_⟩) (by assumption) ?_
  rotate_left
  · intro w' hSw
    try dsimp only at hSw
    go_simp
    try with_reducible rfl
  try simp only [Act.put, List.setIfInBounds_toArray, List.set_cons_zero, List.set_cons_succ]
  refine wpAnyH_take (i := 9) (oi := { dst := some 37, op := Op.fieldAddr 26 (Operand.tmp 8) 1, type := 0, pos := "law.go:48", after := #[{ on := 1, ground := Ground.guard }], guard := some (1, true) }) (v := ?_) rfl (by kernel_rfl) (by kernel_rfl) (by kernel_rfl) (fun _ _ _ h => h) (Or.inl ⟨by rfl, ?_⟩) (by assumption) ?_
  rotate_left
  · intro w' hSw
    try dsimp only at hSw
    go_simp
    try with_reducible rfl
  try simp only [Act.put, List.setIfInBounds_toArray, List.set_cons_zero, List.set_cons_succ]
  refine take_er (i := 10) (oi := { dst := some 38, op := Op.load 24 (Operand.tmp 37), type := 24, pos := "law.go:48", after := #[{ on := 9, ground := Ground.data }, { on := 1, ground := Ground.guard }], guard := some (1, true) }) (Operand.tmp 37) rfl (by kernel_rfl) (by kernel_rfl) (by kernel_rfl) (z) (fun _ _ _ h => h) (by rfl) rfl (q8) rfl (HZ.out) a1 n1 c1 (fun _ h => h.1) (by assumption) ?_
  try simp only [Act.put, List.setIfInBounds_toArray, List.set_cons_zero, List.set_cons_succ]
  refine wpAnyH_take (i := 11) (oi := { dst := some 39, op := Op.load 28 (Operand.tmp 9), type := 28, pos := "law.go:48", after := #[{ on := 1, ground := Ground.guard }], guard := some (1, true) }) (v := ?_) rfl (by kernel_rfl) (by kernel_rfl) (by kernel_rfl) (fun _ _ _ h => h) (Or.inl ⟨by rfl, ?_⟩) (by assumption) ?_
  rotate_left
  · intro w' hSw
    try dsimp only at hSw
    go_simp
    try with_reducible rfl
  try simp only [Act.put, List.setIfInBounds_toArray, List.set_cons_zero, List.set_cons_succ]
  refine wpAnyH_take (i := 12) (oi := { dst := some 40, op := Op.load 28 (Operand.tmp 10), type := 28, pos := "law.go:48", after := #[{ on := 1, ground := Ground.guard }], guard := some (1, true) }) (v := ?_) rfl (by kernel_rfl) (by kernel_rfl) (by kernel_rfl) (fun _ _ _ h => h) (Or.inl ⟨by rfl, ?_⟩) (by assumption) ?_
  rotate_left
  · intro w' hSw
    try dsimp only at hSw
    go_simp
    try with_reducible rfl
  try simp only [Act.put, List.setIfInBounds_toArray, List.set_cons_zero, List.set_cons_succ]
  refine wpAnyH_take (i := 13) (oi := { dst := some 41, op := Op.fieldAddr 30 (Operand.tmp 4) 2, type := 0, pos := "law.go:48", after := #[{ on := 1, ground := Ground.guard }], guard := some (1, true) }) (v := ?_) rfl (by kernel_rfl) (by kernel_rfl) (by kernel_rfl) (fun _ _ _ h => h) (Or.inl ⟨by rfl, ?_⟩) (by assumption) ?_
  rotate_left
  · intro w' hSw
    try dsimp only at hSw
    go_simp
    try with_reducible rfl
  try simp only [Act.put, List.setIfInBounds_toArray, List.set_cons_zero, List.set_cons_succ]
  refine wpAnyH_take (i := 14) (oi := { dst := some 42, op := Op.load 4 (Operand.tmp 41), type := 4, pos := "law.go:48", after := #[{ on := 13, ground := Ground.data }, { on := 1, ground := Ground.guard }], guard := some (1, true) }) (v := ?_) rfl (by kernel_rfl) (by kernel_rfl) (by kernel_rfl) (fun _ _ _ h => h) (Or.inl ⟨by rfl, ?_⟩) (by assumption) ?_
  rotate_left
  · intro w' hSw
    try dsimp only at hSw
    go_simp
    try with_reducible rfl
  try simp only [Act.put, List.setIfInBounds_toArray, List.set_cons_zero, List.set_cons_succ]
  refine wpAnyH_ready (rs := [8]) (by kernel_rfl) (by simp) ?_
  refine AllReadyH.cons (o := { dst := some 36, op := Op.call { callee := Callee.value (Operand.func 8), args := #[Operand.tmp 31, Operand.tmp 32, Operand.tmp 33, Operand.tmp 35], argTypes := #[24, 28, 28, 4] }, type := 4, pos := "law.go:48", after := #[{ on := 3, ground := Ground.data }, { on := 4, ground := Ground.data }, { on := 5, ground := Ground.data }, { on := 7, ground := Ground.data }, { on := 1, ground := Ground.chain }, { on := 1, ground := Ground.guard }], guard := some (1, true) }) rfl (fun K hK => ?_) ?_
  · go_simp
    (go_at_call 8; (with_reducible refine (KF.out w8 _ HTT.out (Below.refl w8.heap.size w8).drew).mono ?_); rintro e1 x1 ⟨rfl, hbc1⟩)
    have HBc1 := Lib.hid hbc1
    clear hbc1
    refine hK.out _ _ (KS.out _ HBc1.out) (fun hHeld => ?_)
    clear hK K
    try simp only [Act.put, List.setIfInBounds_toArray, List.set_cons_zero, List.set_cons_succ]
    refine wpAnyH_ready (rs := [15]) (by kernel_rfl) (by simp) ?_
    refine AllReadyH.cons (o := { dst := some 43, op := Op.call { callee := Callee.value (Operand.func 9), args := #[Operand.tmp 38, Operand.tmp 39, Operand.tmp 40, Operand.tmp 42], argTypes := #[24, 28, 28, 4] }, type := 4, pos := "law.go:48", after := #[{ on := 10, ground := Ground.data }, { on := 11, ground := Ground.data }, { on := 12, ground := Ground.data }, { on := 14, ground := Ground.data }, { on := 8, ground := Ground.chain }, { on := 1, ground := Ground.guard }], guard := some (1, true) }) rfl (fun K hK => ?_) ?_
    · go_simp
      (go_at_call 9; (with_reducible refine (KRF.out w8 _ HBc1.out).mono ?_); rintro e2 x2 ⟨rfl, hbc2⟩)
      have HBc2 := Lib.hid hbc2
      clear hbc2
      refine hK.out _ _ (KS.out _ HBc2.out) (fun hHeld => ?_)
      clear hK K
      try simp only [Act.put, List.setIfInBounds_toArray, List.set_cons_zero, List.set_cons_succ]
      refine wpAnyH_take (i := 16) (oi := { dst := some 44, op := Op.binOp BinOp.eql 4 (Operand.tmp 36) (Operand.tmp 43) 4, type := 4, pos := "law.go:48", after := #[{ on := 8, ground := Ground.data }, { on := 15, ground := Ground.data }, { on := 1, ground := Ground.guard }], guard := some (1, true) }) (v := ?_) rfl (by kernel_rfl) (by kernel_rfl) (by kernel_rfl) (fun _ _ _ h => h) (Or.inl ⟨by rfl, ?_⟩) (by assumption) ?_
      rotate_left
      · intro w' hSw
        try dsimp only at hSw
        go_simp
        try with_reducible rfl
      try simp only [Act.put, List.setIfInBounds_toArray, List.set_cons_zero, List.set_cons_succ]
      refine wpAnyH_take (i := 17) (oi := { dst := some 45, op := Op.pick (Operand.tmp 29) (Operand.tmp 44) (Operand.const (Value.bool false)), type := 4, pos := "law.go:48", after := #[{ on := 1, ground := Ground.data }, { on := 16, ground := Ground.data }], guard := none }) (v := ?_) rfl (by kernel_rfl) (by kernel_rfl) (by kernel_rfl) (fun _ _ _ h => h) (Or.inl ⟨by rfl, ?_⟩) (by assumption) ?_
      rotate_left
      · intro w' hSw
        try dsimp only at hSw
        go_simp
        try with_reducible rfl
      try simp only [Act.put, List.setIfInBounds_toArray, List.set_cons_zero, List.set_cons_succ]
      refine wpAnyH_take (i := 18) (oi := { dst := some 46, op := Op.move (Operand.tmp 45), type := 4, pos := "law.go:48", after := #[{ on := 17, ground := Ground.data }, { on := 15, ground := Ground.chain }], guard := none }) (v := ?_) rfl (by kernel_rfl) (by kernel_rfl) (by kernel_rfl) (fun _ _ _ h => h) (Or.inl ⟨by rfl, ?_⟩) (by assumption) ?_
      rotate_left
      · intro w' hSw
        try dsimp only at hSw
        go_simp
        try with_reducible rfl
      try simp only [Act.put, List.setIfInBounds_toArray, List.set_cons_zero, List.set_cons_succ]
      refine wpAnyH_take (i := 19) (oi := { dst := some 47, op := Op.load 33 (Operand.tmp 5), type := 33, pos := "law.go:48", after := #[{ on := 18, ground := Ground.guard }], guard := some (18, true) }) (v := ?_) rfl (by kernel_rfl) (by kernel_rfl) (by kernel_rfl) (fun _ _ _ h => h) (Or.inl ⟨by rfl, ?_⟩) (by assumption) ?_
      rotate_left
      · intro w' hSw
        try dsimp only at hSw
        go_simp
        try with_reducible rfl
      try simp only [Act.put, List.setIfInBounds_toArray, List.set_cons_zero, List.set_cons_succ]
      refine wpAnyH_take (i := 20) (oi := { dst := some 48, op := Op.fieldAddr 28 (Operand.tmp 10) 0, type := 0, pos := "law.go:48", after := #[{ on := 18, ground := Ground.guard }], guard := some (18, true) }) (v := ?_) rfl (by kernel_rfl) (by kernel_rfl) (by kernel_rfl) (fun _ _ _ h => h) (Or.inl ⟨by rfl, ?_⟩) (by assumption) ?_
      rotate_left
      · intro w' hSw
        try dsimp only at hSw
        go_simp
        try with_reducible rfl
      try simp only [Act.put, List.setIfInBounds_toArray, List.set_cons_zero, List.set_cons_succ]
      refine wpAnyH_take (i := 21) (oi := { dst := some 49, op := Op.load 9 (Operand.tmp 48), type := 9, pos := "law.go:48", after := #[{ on := 20, ground := Ground.data }, { on := 18, ground := Ground.guard }], guard := some (18, true) }) (v := ?_) rfl (by kernel_rfl) (by kernel_rfl) (by kernel_rfl) (fun _ _ _ h => h) (Or.inl ⟨by rfl, ?_⟩) (by assumption) ?_
      rotate_left
      · intro w' hSw
        try dsimp only at hSw
        go_simp
        try with_reducible rfl
      try simp only [Act.put, List.setIfInBounds_toArray, List.set_cons_zero, List.set_cons_succ]
      refine wpAnyH_take (i := 23) (oi := { dst := some 51, op := Op.load 33 (Operand.tmp 5), type := 33, pos := "law.go:48", after := #[{ on := 18, ground := Ground.guard }], guard := some (18, true) }) (v := ?_) rfl (by kernel_rfl) (by kernel_rfl) (by kernel_rfl) (fun _ _ _ h => h) (Or.inl ⟨by rfl, ?_⟩) (by assumption) ?_
      rotate_left
      · intro w' hSw
        try dsimp only at hSw
        go_simp
        try with_reducible rfl
      try simp only [Act.put, List.setIfInBounds_toArray, List.set_cons_zero, List.set_cons_succ]
      refine wpAnyH_take (i := 24) (oi := { dst := some 52, op := Op.fieldAddr 28 (Operand.tmp 10) 0, type := 0, pos := "law.go:48", after := #[{ on := 18, ground := Ground.guard }], guard := some (18, true) }) (v := ?_) rfl (by kernel_rfl) (by kernel_rfl) (by kernel_rfl) (fun _ _ _ h => h) (Or.inl ⟨by rfl, ?_⟩) (by assumption) ?_
      rotate_left
      · intro w' hSw
        try dsimp only at hSw
        go_simp
        try with_reducible rfl
      try simp only [Act.put, List.setIfInBounds_toArray, List.set_cons_zero, List.set_cons_succ]
      refine wpAnyH_take (i := 25) (oi := { dst := some 53, op := Op.load 9 (Operand.tmp 52), type := 9, pos := "law.go:48", after := #[{ on := 24, ground := Ground.data }, { on := 18, ground := Ground.guard }], guard := some (18, true) }) (v := ?_) rfl (by kernel_rfl) (by kernel_rfl) (by kernel_rfl) (fun _ _ _ h => h) (Or.inl ⟨by rfl, ?_⟩) (by assumption) ?_
      rotate_left
      · intro w' hSw
        try dsimp only at hSw
        go_simp
        try with_reducible rfl
      try simp only [Act.put, List.setIfInBounds_toArray, List.set_cons_zero, List.set_cons_succ]
      refine wpAnyH_ready (rs := [22]) (by kernel_rfl) (by simp) ?_
      refine AllReadyH.cons (o := { dst := some 50, op := Op.call { callee := Callee.value (Operand.func 10), args := #[Operand.tmp 47, Operand.tmp 49], argTypes := #[33, 9] }, type := 4, pos := "law.go:48", after := #[{ on := 19, ground := Ground.data }, { on := 21, ground := Ground.data }, { on := 18, ground := Ground.chain }, { on := 18, ground := Ground.guard }], guard := some (18, true) }) rfl (fun K hK => ?_) ?_
      · go_simp
        (go_at_call 10; (with_reducible refine (KP2.out w8 _ HBc2.out).mono ?_); rintro e3 x3 ⟨rfl, hbc3⟩)
        have HBc3 := Lib.hid hbc3
        clear hbc3
        refine hK.out _ _ (KS.out _ HBc3.out) (fun hHeld => ?_)
        clear hK K
        try simp only [Act.put, List.setIfInBounds_toArray, List.set_cons_zero, List.set_cons_succ]
        refine wpAnyH_ready (rs := [26]) (by kernel_rfl) (by simp) ?_
        refine AllReadyH.cons (o := { dst := some 54, op := Op.call { callee := Callee.value (Operand.func 11), args := #[Operand.tmp 51, Operand.tmp 53], argTypes := #[33, 9] }, type := 4, pos := "law.go:48", after := #[{ on := 23, ground := Ground.data }, { on := 25, ground := Ground.data }, { on := 22, ground := Ground.chain }, { on := 18, ground := Ground.guard }], guard := some (18, true) }) rfl (fun K hK => ?_) ?_
        · go_simp
          (go_at_call 11; (with_reducible refine (KRP2.out w8 _ HBc3.out).mono ?_); rintro e4 x4 ⟨rfl, hbc4⟩)
          have HBc4 := Lib.hid hbc4
          clear hbc4
          refine hK.out _ _ (KS.out _ HBc4.out) (fun hHeld => ?_)
          clear hK K
          try simp only [Act.put, List.setIfInBounds_toArray, List.set_cons_zero, List.set_cons_succ]
          refine wpAnyH_take (i := 27) (oi := { dst := some 55, op := Op.binOp BinOp.eql 4 (Operand.tmp 50) (Operand.tmp 54) 4, type := 4, pos := "law.go:48", after := #[{ on := 22, ground := Ground.data }, { on := 26, ground := Ground.data }, { on := 18, ground := Ground.guard }], guard := some (18, true) }) (v := ?_) rfl (by kernel_rfl) (by kernel_rfl) (by kernel_rfl) (fun _ _ _ h => h) (Or.inl ⟨by rfl, ?_⟩) (by assumption) ?_
          rotate_left
          · intro w' hSw
            try dsimp only at hSw
            go_simp
            try with_reducible rfl
          try simp only [Act.put, List.setIfInBounds_toArray, List.set_cons_zero, List.set_cons_succ]
          refine wpAnyH_take (i := 28) (oi := { dst := some 56, op := Op.pick (Operand.tmp 46) (Operand.tmp 55) (Operand.const (Value.bool false)), type := 4, pos := "law.go:48", after := #[{ on := 18, ground := Ground.data }, { on := 27, ground := Ground.data }], guard := none }) (v := ?_) rfl (by kernel_rfl) (by kernel_rfl) (by kernel_rfl) (fun _ _ _ h => h) (Or.inl ⟨by rfl, ?_⟩) (by assumption) ?_
          rotate_left
          · intro w' hSw
            try dsimp only at hSw
            go_simp
            try with_reducible rfl
          try simp only [Act.put, List.setIfInBounds_toArray, List.set_cons_zero, List.set_cons_succ]
          refine wpAnyH_take (i := 29) (oi := { dst := some 57, op := Op.move (Operand.tmp 56), type := 4, pos := "law.go:48", after := #[{ on := 28, ground := Ground.data }, { on := 26, ground := Ground.chain }], guard := none }) (v := ?_) rfl (by kernel_rfl) (by kernel_rfl) (by kernel_rfl) (fun _ _ _ h => h) (Or.inl ⟨by rfl, ?_⟩) (by assumption) ?_
          rotate_left
          · intro w' hSw
            try dsimp only at hSw
            go_simp
            try with_reducible rfl
          try simp only [Act.put, List.setIfInBounds_toArray, List.set_cons_zero, List.set_cons_succ]
          refine wpAnyH_take (i := 30) (oi := { dst := some 58, op := Op.load 33 (Operand.tmp 5), type := 33, pos := "law.go:48", after := #[{ on := 29, ground := Ground.guard }], guard := some (29, true) }) (v := ?_) rfl (by kernel_rfl) (by kernel_rfl) (by kernel_rfl) (fun _ _ _ h => h) (Or.inl ⟨by rfl, ?_⟩) (by assumption) ?_
          rotate_left
          · intro w' hSw
            try dsimp only at hSw
            go_simp
            try with_reducible rfl
          try simp only [Act.put, List.setIfInBounds_toArray, List.set_cons_zero, List.set_cons_succ]
          refine wpAnyH_take (i := 31) (oi := { dst := some 59, op := Op.fieldAddr 33 (Operand.tmp 5) 3, type := 0, pos := "law.go:48", after := #[{ on := 29, ground := Ground.guard }], guard := some (29, true) }) (v := ?_) rfl (by kernel_rfl) (by kernel_rfl) (by kernel_rfl) (fun _ _ _ h => h) (Or.inl ⟨by rfl, ?_⟩) (by assumption) ?_
          rotate_left
          · intro w' hSw
            try dsimp only at hSw
            go_simp
            try with_reducible rfl
          try simp only [Act.put, List.setIfInBounds_toArray, List.set_cons_zero, List.set_cons_succ]
          refine wpAnyH_take (i := 32) (oi := { dst := some 60, op := Op.load 9 (Operand.tmp 59), type := 9, pos := "law.go:48", after := #[{ on := 31, ground := Ground.data }, { on := 29, ground := Ground.guard }], guard := some (29, true) }) (v := ?_) rfl (by kernel_rfl) (by kernel_rfl) (by kernel_rfl) (fun _ _ _ h => h) (Or.inl ⟨by rfl, ?_⟩) (by assumption) ?_
          rotate_left
          · intro w' hSw
            try dsimp only at hSw
            go_simp
            try with_reducible rfl
          try simp only [Act.put, List.setIfInBounds_toArray, List.set_cons_zero, List.set_cons_succ]
          refine wpAnyH_take (i := 34) (oi := { dst := some 62, op := Op.load 33 (Operand.tmp 5), type := 33, pos := "law.go:48", after := #[{ on := 29, ground := Ground.guard }], guard := some (29, true) }) (v := ?_) rfl (by kernel_rfl) (by kernel_rfl) (by kernel_rfl) (fun _ _ _ h => h) (Or.inl ⟨by rfl, ?_⟩) (by assumption) ?_
          rotate_left
          · intro w' hSw
            try dsimp only at hSw
            go_simp
            try with_reducible rfl
          try simp only [Act.put, List.setIfInBounds_toArray, List.set_cons_zero, List.set_cons_succ]
          refine wpAnyH_take (i := 35) (oi := { dst := some 63, op := Op.fieldAddr 33 (Operand.tmp 5) 3, type := 0, pos := "law.go:48", after := #[{ on := 29, ground := Ground.guard }], guard := some (29, true) }) (v := ?_) rfl (by kernel_rfl) (by kernel_rfl) (by kernel_rfl) (fun _ _ _ h => h) (Or.inl ⟨by rfl, ?_⟩) (by assumption) ?_
          rotate_left
          · intro w' hSw
            try dsimp only at hSw
            go_simp
            try with_reducible rfl
          try simp only [Act.put, List.setIfInBounds_toArray, List.set_cons_zero, List.set_cons_succ]
          refine wpAnyH_take (i := 36) (oi := { dst := some 64, op := Op.load 9 (Operand.tmp 63), type := 9, pos := "law.go:48", after := #[{ on := 35, ground := Ground.data }, { on := 29, ground := Ground.guard }], guard := some (29, true) }) (v := ?_) rfl (by kernel_rfl) (by kernel_rfl) (by kernel_rfl) (fun _ _ _ h => h) (Or.inl ⟨by rfl, ?_⟩) (by assumption) ?_
          rotate_left
          · intro w' hSw
            try dsimp only at hSw
            go_simp
            try with_reducible rfl
          try simp only [Act.put, List.setIfInBounds_toArray, List.set_cons_zero, List.set_cons_succ]
          refine wpAnyH_ready (rs := [33]) (by kernel_rfl) (by simp) ?_
          refine AllReadyH.cons (o := { dst := some 61, op := Op.call { callee := Callee.value (Operand.func 10), args := #[Operand.tmp 58, Operand.tmp 60], argTypes := #[33, 9] }, type := 4, pos := "law.go:48", after := #[{ on := 30, ground := Ground.data }, { on := 32, ground := Ground.data }, { on := 29, ground := Ground.chain }, { on := 29, ground := Ground.guard }], guard := some (29, true) }) rfl (fun K hK => ?_) ?_
          · go_simp
            (go_at_call 10; (with_reducible refine (KP3.out w8 _ HBc4.out).mono ?_); rintro e5 x5 ⟨rfl, hbc5⟩)
            have HBc5 := Lib.hid hbc5
            clear hbc5
            refine hK.out _ _ (KS.out _ HBc5.out) (fun hHeld => ?_)
            clear hK K
            try simp only [Act.put, List.setIfInBounds_toArray, List.set_cons_zero, List.set_cons_succ]
            refine wpAnyH_ready (rs := [37]) (by kernel_rfl) (by simp) ?_
            refine AllReadyH.cons (o := { dst := some 65, op := Op.call { callee := Callee.value (Operand.func 11), args := #[Operand.tmp 62, Operand.tmp 64], argTypes := #[33, 9] }, type := 4, pos := "law.go:48", after := #[{ on := 34, ground := Ground.data }, { on := 36, ground := Ground.data }, { on := 33, ground := Ground.chain }, { on := 29, ground := Ground.guard }], guard := some (29, true) }) rfl (fun K hK => ?_) ?_
            · go_simp
              (go_at_call 11; (with_reducible refine (KRP3.out w8 _ HBc5.out).mono ?_); rintro e6 x6 ⟨rfl, hbc6⟩)
              have HBc6 := Lib.hid hbc6
              clear hbc6
              refine hK.out _ _ (KS.out _ HBc6.out) (fun hHeld => ?_)
              clear hK K
              try simp only [Act.put, List.setIfInBounds_toArray, List.set_cons_zero, List.set_cons_succ]
              refine wpAnyH_take (i := 38) (oi := { dst := some 66, op := Op.binOp BinOp.eql 4 (Operand.tmp 61) (Operand.tmp 65) 4, type := 4, pos := "law.go:48", after := #[{ on := 33, ground := Ground.data }, { on := 37, ground := Ground.data }, { on := 29, ground := Ground.guard }], guard := some (29, true) }) (v := ?_) rfl (by kernel_rfl) (by kernel_rfl) (by kernel_rfl) (fun _ _ _ h => h) (Or.inl ⟨by rfl, ?_⟩) (by assumption) ?_
              rotate_left
              · intro w' hSw
                try dsimp only at hSw
                go_simp
                try with_reducible rfl
              try simp only [Act.put, List.setIfInBounds_toArray, List.set_cons_zero, List.set_cons_succ]
              refine wpAnyH_take (i := 39) (oi := { dst := some 67, op := Op.pick (Operand.tmp 57) (Operand.tmp 66) (Operand.const (Value.bool false)), type := 4, pos := "law.go:48", after := #[{ on := 29, ground := Ground.data }, { on := 38, ground := Ground.data }], guard := none }) (v := ?_) rfl (by kernel_rfl) (by kernel_rfl) (by kernel_rfl) (fun _ _ _ h => h) (Or.inl ⟨by rfl, ?_⟩) (by assumption) ?_
              rotate_left
              · intro w' hSw
                try dsimp only at hSw
                go_simp
                try with_reducible rfl
              try simp only [Act.put, List.setIfInBounds_toArray, List.set_cons_zero, List.set_cons_succ]
              refine wpAnyH_take (i := 40) (oi := { dst := some 68, op := Op.move (Operand.tmp 67), type := 4, pos := "law.go:48", after := #[{ on := 39, ground := Ground.data }, { on := 37, ground := Ground.chain }], guard := none }) (v := ?_) rfl (by kernel_rfl) (by kernel_rfl) (by kernel_rfl) (fun _ _ _ h => h) (Or.inl ⟨by rfl, ?_⟩) (by assumption) ?_
              rotate_left
              · intro w' hSw
                try dsimp only at hSw
                go_simp
                try with_reducible rfl
              try simp only [Act.put, List.setIfInBounds_toArray, List.set_cons_zero, List.set_cons_succ]
              refine take_env (i := 41) (oi := { dst := some 69, op := Op.load 26 (Operand.tmp 8), type := 26, pos := "law.go:48", after := #[{ on := 40, ground := Ground.guard }], guard := some (40, true) }) (Operand.tmp 8) rfl (by kernel_rfl) (by kernel_rfl) (by kernel_rfl) a1 n1 c1 (z) (fun _ _ _ h => h) (by rfl) rfl (q8) rfl (HZ.out) (fun _ h => h.1) (by assumption) ?_
              try simp only [Act.put, List.setIfInBounds_toArray, List.set_cons_zero, List.set_cons_succ]
              refine wpAnyH_take (i := 42) (oi := { dst := some 70, op := Op.load 33 (Operand.tmp 5), type := 33, pos := "law.go:48", after := #[{ on := 40, ground := Ground.guard }], guard := some (40, true) }) (v := ?_) rfl (by kernel_rfl) (by kernel_rfl) (by kernel_rfl) (fun _ _ _ h => h) (Or.inl ⟨by rfl, ?_⟩) (by assumption) ?_
              rotate_left
              · intro w' hSw
                try dsimp only at hSw
                go_simp
                try with_reducible rfl
              try simp only [Act.put, List.setIfInBounds_toArray, List.set_cons_zero, List.set_cons_succ]
              refine take_env (i := 44) (oi := { dst := some 72, op := Op.load 26 (Operand.tmp 8), type := 26, pos := "law.go:48", after := #[{ on := 40, ground := Ground.guard }], guard := some (40, true) }) (Operand.tmp 8) rfl (by kernel_rfl) (by kernel_rfl) (by kernel_rfl) a1 n1 c1 (z) (fun _ _ _ h => h) (by rfl) rfl (q8) rfl (HZ.out) (fun _ h => h.1) (by assumption) ?_
              try simp only [Act.put, List.setIfInBounds_toArray, List.set_cons_zero, List.set_cons_succ]
              refine wpAnyH_take (i := 45) (oi := { dst := some 73, op := Op.load 33 (Operand.tmp 5), type := 33, pos := "law.go:48", after := #[{ on := 40, ground := Ground.guard }], guard := some (40, true) }) (v := ?_) rfl (by kernel_rfl) (by kernel_rfl) (by kernel_rfl) (fun _ _ _ h => h) (Or.inl ⟨by rfl, ?_⟩) (by assumption) ?_
              rotate_left
              · intro w' hSw
                try dsimp only at hSw
                go_simp
                try with_reducible rfl
              try simp only [Act.put, List.setIfInBounds_toArray, List.set_cons_zero, List.set_cons_succ]
              refine wpAnyH_ready (rs := [43]) (by kernel_rfl) (by simp) ?_
              refine AllReadyH.cons (o := { dst := some 71, op := Op.call { callee := Callee.value (Operand.func 12), args := #[Operand.tmp 69, Operand.tmp 70], argTypes := #[26, 33] }, type := 4, pos := "law.go:48", after := #[{ on := 41, ground := Ground.data }, { on := 42, ground := Ground.data }, { on := 40, ground := Ground.chain }, { on := 40, ground := Ground.guard }], guard := some (40, true) }) rfl (fun K hK => ?_) ?_
              · go_simp
                (go_at_call 12; (with_reducible refine (KL.out a1 c1 w8 _ HTT.out HO8.out HBc6.out).mono ?_); rintro e7 x7 ⟨rfl, hbc7⟩)
                have HBc7 := Lib.hid hbc7
                clear hbc7
                refine hK.out _ _ (KS.out _ HBc7.out) (fun hHeld => ?_)
                clear hK K
                try simp only [Act.put, List.setIfInBounds_toArray, List.set_cons_zero, List.set_cons_succ]
                refine wpAnyH_ready (rs := [46]) (by kernel_rfl) (by simp) ?_
                refine AllReadyH.cons (o := { dst := some 74, op := Op.call { callee := Callee.value (Operand.func 13), args := #[Operand.tmp 72, Operand.tmp 73], argTypes := #[26, 33] }, type := 4, pos := "law.go:48", after := #[{ on := 44, ground := Ground.data }, { on := 45, ground := Ground.data }, { on := 43, ground := Ground.chain }, { on := 40, ground := Ground.guard }], guard := some (40, true) }) rfl (fun K hK => ?_) ?_
                · go_simp
                  (go_at_call 13; (with_reducible refine (KRL.out a1 c1 w8 _ HO8.out HBc7.out).mono ?_); rintro e8 x8 ⟨rfl, hbc8⟩)
                  have HBc8 := Lib.hid hbc8
                  clear hbc8
                  refine hK.out _ _ (KS.out _ HBc8.out) (fun hHeld => ?_)
                  clear hK K
                  try simp only [Act.put, List.setIfInBounds_toArray, List.set_cons_zero, List.set_cons_succ]
                  refine wpAnyH_take (i := 47) (oi := { dst := some 75, op := Op.binOp BinOp.eql 4 (Operand.tmp 71) (Operand.tmp 74) 4, type := 4, pos := "law.go:48", after := #[{ on := 43, ground := Ground.data }, { on := 46, ground := Ground.data }, { on := 40, ground := Ground.guard }], guard := some (40, true) }) (v := ?_) rfl (by kernel_rfl) (by kernel_rfl) (by kernel_rfl) (fun _ _ _ h => h) (Or.inl ⟨by rfl, ?_⟩) (by assumption) ?_
                  rotate_left
                  · intro w' hSw
                    try dsimp only at hSw
                    go_simp
                    try with_reducible rfl
                  try simp only [Act.put, List.setIfInBounds_toArray, List.set_cons_zero, List.set_cons_succ]
                  refine wpAnyH_take (i := 48) (oi := { dst := some 76, op := Op.pick (Operand.tmp 68) (Operand.tmp 75) (Operand.const (Value.bool false)), type := 4, pos := "law.go:48", after := #[{ on := 40, ground := Ground.data }, { on := 47, ground := Ground.data }], guard := none }) (v := ?_) rfl (by kernel_rfl) (by kernel_rfl) (by kernel_rfl) (fun _ _ _ h => h) (Or.inl ⟨by rfl, ?_⟩) (by assumption) ?_
                  rotate_left
                  · intro w' hSw
                    try dsimp only at hSw
                    go_simp
                    try with_reducible rfl
                  try simp only [Act.put, List.setIfInBounds_toArray, List.set_cons_zero, List.set_cons_succ]
                  refine wpAnyH_take (i := 49) (oi := { dst := some 6, op := Op.assign (Operand.tmp 76), type := 4, pos := "law.go:48", after := #[{ on := 48, ground := Ground.data }, { on := 46, ground := Ground.chain }, { on := 0, ground := Ground.phase }, { on := 1, ground := Ground.phase }, { on := 2, ground := Ground.phase }, { on := 3, ground := Ground.phase }, { on := 4, ground := Ground.phase }, { on := 5, ground := Ground.phase }, { on := 6, ground := Ground.phase }, { on := 7, ground := Ground.phase }, { on := 8, ground := Ground.phase }, { on := 9, ground := Ground.phase }, { on := 10, ground := Ground.phase }, { on := 11, ground := Ground.phase }, { on := 12, ground := Ground.phase }, { on := 13, ground := Ground.phase }, { on := 14, ground := Ground.phase }, { on := 15, ground := Ground.phase }, { on := 16, ground := Ground.phase }, { on := 17, ground := Ground.phase }, { on := 18, ground := Ground.phase }, { on := 19, ground := Ground.phase }, { on := 20, ground := Ground.phase }, { on := 21, ground := Ground.phase }, { on := 22, ground := Ground.phase }, { on := 23, ground := Ground.phase }, { on := 24, ground := Ground.phase }, { on := 25, ground := Ground.phase }, { on := 26, ground := Ground.phase }, { on := 27, ground := Ground.phase }, { on := 28, ground := Ground.phase }, { on := 29, ground := Ground.phase }, { on := 30, ground := Ground.phase }, { on := 31, ground := Ground.phase }, { on := 32, ground := Ground.phase }, { on := 33, ground := Ground.phase }, { on := 34, ground := Ground.phase }, { on := 35, ground := Ground.phase }, { on := 36, ground := Ground.phase }, { on := 37, ground := Ground.phase }, { on := 38, ground := Ground.phase }, { on := 39, ground := Ground.phase }, { on := 40, ground := Ground.phase }, { on := 41, ground := Ground.phase }, { on := 42, ground := Ground.phase }, { on := 43, ground := Ground.phase }, { on := 44, ground := Ground.phase }, { on := 45, ground := Ground.phase }, { on := 46, ground := Ground.phase }, { on := 47, ground := Ground.phase }, { on := 48, ground := Ground.phase }], guard := none }) (v := ?_) rfl (by kernel_rfl) (by kernel_rfl) (by kernel_rfl) (fun _ _ _ h => h) (Or.inl ⟨by rfl, ?_⟩) (by assumption) ?_
                  rotate_left
                  · intro w' hSw
                    try dsimp only at hSw
                    go_simp
                    try with_reducible rfl
                  try simp only [Act.put, List.setIfInBounds_toArray, List.set_cons_zero, List.set_cons_succ]
                  refine wpAnyH_done (by kernel_rfl) ?_ _
                  refine NoPanic.normal ?_
                  go_wp2
                  go_ret
                  exact ⟨ret_bool (by simp), HB8.out.trans (HBc8.out.mono HB8.out.size)⟩
                · exact AllReadyH.nil
              · exact AllReadyH.nil
            · exact AllReadyH.nil
          · exact AllReadyH.nil
        · exact AllReadyH.nil
      · exact AllReadyH.nil
    · exact AllReadyH.nil
  · exact AllReadyH.nil

end Go.Proofs.YtcegbmhnbmfnnaaGreatDoor
