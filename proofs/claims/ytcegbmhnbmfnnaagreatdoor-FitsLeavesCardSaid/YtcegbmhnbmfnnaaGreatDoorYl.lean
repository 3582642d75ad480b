/- The law FitsLeaves (laid by genYl.py). -/
import Derived.Test.YtcegbmhnbmfnnaaGreatDoorYd
import Derived.Test.YtcegbmhnbmfnnaaGreatDoorYi
namespace Go.Proofs.YtcegbmhnbmfnnaaGreatDoor
open Go.RowKit

theorem t5_info : (Tryz.prog.info? 33).map (·.size) = some 5 := by kernel_rfl
/-- A load of a token in a block of its own. -/
theorem load_t5 {ops : Array Oper} {rest : List Oper} {o : Oper} {a : Act} {w : World} {Q : Exit → Act → World → Prop} (hw : Region.wanted o (yielded ops a.tmps) = true) (x : Operand) (ho : o.op = .load 33 x)
    (b : Nat) (hx : a.eval x = .pointer (some ⟨b, 0, none⟩)) (k f t : Int) (s : Nm) (e : Int) (h : T5 w b k f t s e)
    (kk : wpList Tryz.prog ops Q rest (a.put o.dst (.agg #[.int .i64 k, .int .i64 f, .int .i64 t, .string (mk s), .int .i64 e])) w) : wpList Tryz.prog ops Q (o :: rest) a w :=
  wpList_step fun K hK => by
    rw [if_pos hw]
    exact wp_load_row 33 x ho b hx _ _ _ _ h Tryz.underlying33 rfl t5_info (hK _ _ kk)
theorem partB_more (k : Int) (x : Nm) : partB k x (x ++ [120]) = false := by
  unfold partB
  rw [show (x == x ++ [120]) = false by rw [beq_eq_false_iff_ne]; intro h; have := congrArg List.length h; simp at this, Bool.and_false]
theorem partB_self (k : Int) (x : Nm) : partB k x x = (k == 1 || (k == 2 || k == 6)) := by unfold partB; rw [beq_self_eq_true, Bool.and_true]

set_option maxRecDepth 100000 in
set_option maxHeartbeats 16000000 in
theorem fitsLeaves_any (aC : Option Addr) (len cap : Nat) (C : List CH) (p : Nm) (w : World) (ht : Tab w) (hC : ChS w aC len cap C) (hok : ∀ x ∈ C, okC x) :
    Calls Tryz.prog 4 #[.slice aC len cap, .string (mk p)] w fun e w' => e = .returned (.bool true) ∧ Below w.heap.size w w' := by
  obtain ⟨L, Z, -, hE, hM⟩ := make_lit aC len cap C hok
  have hZ := hE.2.2.2.1
  have hpat : ∀ o ∈ L, o.1.length ≤ 1000000 := fun o ho => Nat.le_trans (hE.2.1 o ho).2 (by decide)
  have HL16 := Lib.hid hE.2.2.1
  have HPAT := Lib.hid hpat
  have HZ := Lib.hid hZ
  have HM := Lib.hid hM
  have hsz : (mk p).size = p.length := mk_size p
  obtain ⟨mp, hmp⟩ : ∃ m, m = p.length := ⟨_, rfl⟩
  rw [← hmp] at hsz
  obtain ⟨v, hv⟩ : ∃ v, v = min mp 60 := ⟨_, rfl⟩
  have hmin : min (mp : Int) 60 = (v : Int) := by omega
  have hsl : ∀ w, (Instr.slice 9 (.string (mk p)) none (some (.int .i64 v)) none).run Tryz.prog w = .ok (.string (mk (p.take 60))) w := fun w => by
    rw [run_hi w p v (by omega)]
    congr 3
    rw [hv, hmp]
    by_cases h30 : p.length ≤ 60
    · rw [Nat.min_eq_left h30, List.take_of_length_le (Nat.le_refl _), List.take_of_length_le h30]
    · rw [Nat.min_eq_right (by omega)]
  have hv0 : (0 : Int) ≤ (v : Int) := Int.natCast_nonneg _
  clear hmp hv
  obtain ⟨x, hx⟩ : ∃ x, x = p.take 60 := ⟨_, rfl⟩
  have hxl : x.length ≤ 60 := by rw [hx, List.length_take]; omega
  rw [← hx] at hsl
  have hz1 : (mk x).size + (⟨#[120]⟩ : ByteArray).size ≤ 300 := by
    have h1 : (⟨#[120]⟩ : ByteArray).size = 1 := rfl
    rw [mk_size, h1]; omega
  have hcat : mk x ++ ({ data := #[120] } : ByteArray) = mk (x ++ [120]) := by rw [show ({ data := #[120] } : ByteArray) = mk [120] from rfl, mk_app]
  obtain ⟨m, hm⟩ : ∃ m, m = (entL L Z x).length := ⟨_, rfl⟩
  have hm16 : m ≤ 16 := by
    rw [hm]
    exact Nat.le_trans (entL_len ..) hE.2.2.1
  obtain ⟨fr, hfr⟩ : ∃ fr, fr = freeB L Z x := ⟨_, rfl⟩
  have hfm : fr = (m == 0) := by rw [hfr, hm]; rfl
  have KE : Hid (∀ (a : Option Addr) (n c : Nat) (w' : World), Tab w' → OpS w' a n c L → Calls Tryz.prog 15 #[.agg (ev a n c Z), .string (mk x)] w' fun e w'' => ∃ a' c', e = .returned (.slice a' m c') ∧ Below w'.heap.size w' w'') := Lib.hid fun a n c w' h1 h2 => by
    rw [hm]
    refine (entry_any a n c L Z x w' h1 h2 hZ (by have := OpS.len h2; have := hE.2.2.1; omega) hpat).mono ?_
    rintro e w'' ⟨a', c', rfl, _, hb⟩
    exact ⟨a', c', rfl, hb⟩
  have KL : Hid (∀ (a : Option Addr) (n c : Nat) (k : Int) (w0 w' : World), Tab w0 → OpS w0 a n c L → Below w0.heap.size w0 w' → Calls Tryz.prog 12 #[.agg (ev a n c Z), .agg #[.int .i64 k, .int .i64 0, .int .i64 0, .string (mk x), .int .i64 0]] w' fun e w'' => e = .returned (.bool (leafB k fr)) ∧ Below w0.heap.size w0 w'') := Lib.hid fun a n c k w0 w' h1 h2 hb => by
    rw [hfr]
    refine (fleaf_any a n c L Z k 0 0 x 0 w' (h1.keep hb) (h2.below hb) hZ (by have := OpS.len h2; have := hE.2.2.1; omega) hpat).mono ?_
    rintro e w'' ⟨rfl, hb2⟩
    exact ⟨rfl, hb.trans (hb2.mono hb.size)⟩
  have KP : Hid (∀ (k : Int) (w0 w' : World), Below w0.heap.size w0 w' → Calls Tryz.prog 10 #[.agg #[.int .i64 k, .int .i64 0, .int .i64 0, .string (mk x), .int .i64 0], .string (mk x)] w' fun e w'' => e = .returned (.bool (k == 1 || (k == 2 || k == 6))) ∧ Below w0.heap.size w0 w'') := Lib.hid fun k w0 w' hb => by
    refine (fpart_any k 0 0 x 0 x w').mono ?_
    rintro e w'' ⟨rfl, hb2⟩
    exact ⟨by rw [partB_self], hb.trans (hb2.mono hb.size)⟩
  have KN : Hid (∀ (k : Int) (w0 w' : World), Below w0.heap.size w0 w' → Calls Tryz.prog 10 #[.agg #[.int .i64 k, .int .i64 0, .int .i64 0, .string (mk x), .int .i64 0], .string (mk x ++ ({ data := #[120] } : ByteArray))] w' fun e w'' => e = .returned (.bool false) ∧ Below w0.heap.size w0 w'') := Lib.hid fun k w0 w' hb => by
    rw [hcat]
    refine (fpart_any k 0 0 x 0 (x ++ [120]) w').mono ?_
    rintro e w'' ⟨rfl, hb2⟩
    exact ⟨by rw [partB_more], hb.trans (hb2.mono hb.size)⟩
  have HT := Lib.hid ht
  have HC := Lib.hid hC
  have hnew : ∀ W : World, EB (W.alloc (.cells #[.slice none 0 0, .int .i64 0, .int .i64 0, .int .i64 0, .int .i64 0, .int .i64 0, .int .i64 0, .int .i64 0, .int .i64 0, .int .i64 0, .int .i64 0] 26)) W.heap.size none 0 0 z0 := fun W => EB.new W none 0 0 z0
  have hm2 : (m : Int) ≤ 16 := by omega
  clear hcat hx hxl hm hfr hE hM hZ hpat ht hC hok hm16
  go_enter Tryz.func4, Tryz.ntmps4
  go_wp2_with fail
  refine (shown_any w HT.out).mono ?_
  rintro e w1 ⟨rfl, hb1⟩
  have HB1 : Hid (Below w.heap.size w w1) := Lib.hid hb1
  clear hb1
  go_wp2_with fail
  refine (HM.out w1 (HC.out.below HB1.out)).mono ?_
  rintro e w2 ⟨a', n', c', rfl, ho2, hb2⟩
  have HO2 : Hid (OpS w2 a' n' c' L) := Lib.hid ho2.vs
  have HB2 : Hid (Below w.heap.size w w2) := Lib.hid (HB1.out.trans (hb2.mono HB1.out.size))
  clear hb2 ho2
  obtain ⟨q0, hq0⟩ : ∃ q, q = w2.heap.size := ⟨_, rfl⟩
  go_upto_region 3 with (refine store_env rfl (.tmp 6) (.tmp 15) rfl w2.heap.size rfl a' n' c' Z rfl HZ.out none 0 0 z0 z0_len (hnew w2) ?_; intro w3 he3 ho3; have HE3 := Lib.hid he3; have HO3 := Lib.hid ho3; clear he3 ho3)
  have HI3 : Hid (Below w2.heap.size w2 w3) := Lib.hid ((below_alloc w2 _).trans (HO3.out.below (Nat.le_refl _)))
  have HB3 : Hid (Below w.heap.size w w3) := Lib.hid (HB2.out.trans (HI3.out.mono HB2.out.size))
  have HX3 : Hid (OpS w3 a' n' c' L) := Lib.hid (HO2.out.below HI3.out)
  rw [← hq0] at HE3 ⊢
  clear hnew hq0 HO3 HO2
  go_upto_region 4 with fail
  clear hsz hmin hsl hv0
  go_wp2_with (first
    | (refine load_env rfl (.tmp 6) rfl q0 rfl a' n' c' Z HZ.out HE3.out ?_)
    | fail)
  refine (KE.out a' n' c' w3 (HT.out.keep HB3.out) HX3.out).mono ?_
  rintro e w4 ⟨a4, c4, rfl, hb4⟩
  have HB4 : Hid (Below w.heap.size w w4) := Lib.hid (HB3.out.trans (hb4.mono HB3.out.size))
  have KQ : Hid (∀ w', Below w4.heap.size w4 w' → EB w' q0 a' n' c' Z) := Lib.hid fun w' hh => (HE3.out.below hb4).below hh
  have HX4 : Hid (OpS w4 a' n' c' L) := Lib.hid (HX3.out.below hb4)
  have HT4 : Hid (Tab w4) := Lib.hid (HT.out.keep HB4.out)
  clear hb4
  by_cases hm0 : m = 0
  · subst hm0
    obtain rfl : fr = true := hfm
    try clear hfm
    go_wp2
    go_loopw [9] (fun v wr => ∃ k : Int, v = .int .i64 k ∧ -1 ≤ k ∧ k ≤ 10 ∧ Hid (Below w4.heap.size w4 wr)) (fun v _ => (10 - intOf v).toNat)
    case atStart => exact ⟨-1, rfl, by omega, by omega, Lib.hid (Below.refl _ _)⟩
    case round =>
      obtain ⟨k, rfl, hk, hk10, HBR⟩ := hrel
      by_cases hlt : k = 10
      · subst hlt
        go_wp2
        go_ret
        exact ⟨rfl, HB4.out.trans (HBR.out.mono HB4.out.size)⟩
      · obtain rfl | rfl | rfl | rfl | rfl | rfl | rfl | rfl | rfl | rfl | rfl : k = -1 ∨ k = 0 ∨ k = 1 ∨ k = 2 ∨ k = 3 ∨ k = 4 ∨ k = 5 ∨ k = 6 ∨ k = 7 ∨ k = 8 ∨ k = 9 := by omega
        · have HL : Hid (∀ w0 w', Below w4.heap.size w4 w0 → Below w0.heap.size w0 w' → Calls Tryz.prog 12 #[.agg (ev a' n' c' Z), .agg #[.int .i64 (-1), .int .i64 0, .int .i64 0, .string (mk x), .int .i64 0]] w' fun e w'' => e = .returned (.bool false) ∧ Below w0.heap.size w0 w'') := Lib.hid fun w0 w' h0 hh => KL.out a' n' c' (-1) w0 w' (HT4.out.keep h0) (HX4.out.below h0) hh
          have HP : Hid (∀ w0 w', Below w0.heap.size w0 w' → Calls Tryz.prog 10 #[.agg #[.int .i64 (-1), .int .i64 0, .int .i64 0, .string (mk x), .int .i64 0], .string (mk x)] w' fun e w'' => e = .returned (.bool false) ∧ Below w0.heap.size w0 w'') := Lib.hid fun w0 w' hh => KP.out (-1) w0 w' hh
          obtain ⟨b, hb⟩ : ∃ b, b = wr.heap.size := ⟨_, rfl⟩
          obtain ⟨w5, hw5⟩ : ∃ w5, w5 = wr.alloc (.cells #[.int .i64 (-1), .int .i64 0, .int .i64 0, .string (mk x), .int .i64 0] 33) := ⟨_, rfl⟩
          have HT5 : Hid (T5 w5 b (-1) 0 0 x 0) := Lib.hid (by rw [hw5, hb]; exact T5.new wr (-1) 0 0 x 0)
          have HB5 : Hid (Below w4.heap.size w4 w5) := Lib.hid (by rw [hw5]; exact HBR.out.alloc HBR.out.size _)
          have KT : Hid (∀ w', Below w5.heap.size w5 w' → T5 w' b (-1) 0 0 x 0) := Lib.hid fun w' hh => HT5.out.below hh
          have KQ5 : Hid (∀ w', Below w5.heap.size w5 w' → EB w' q0 a' n' c' Z) := Lib.hid fun w' hh => KQ.out w' (HB5.out.trans (hh.mono HB5.out.size))
          have HBc := Lib.hid (Below.refl w5.heap.size w5)
          go_upto_region 9 with fail
          rw [← hw5, ← hb]
          clear hw5 hb
          go_wp2_with (first
            | (refine load_env rfl (.tmp 6) rfl q0 rfl a' n' c' Z HZ.out (KQ5.out _ HBc.out) ?_)
            | (refine load_t5 rfl (.tmp 10) rfl b rfl (-1) 0 0 x 0 (KT.out _ HBc.out) ?_)
            | (go_at_call 12; (with_reducible refine (HL.out w5 _ HB5.out HBc.out).mono ?_); rintro e w7 ⟨rfl, hb7⟩; have HBc := Lib.hid hb7; clear hb7)
            | (go_at_call 10; (with_reducible first | refine (HP.out w5 _ HBc.out).mono ?_ | refine (KN.out _ w5 _ HBc.out).mono ?_); rintro e w7 ⟨rfl, hb7⟩; have HBc := Lib.hid hb7; clear hb7))
          go_roundw
          case rel => exact ⟨0, by go_num, by omega, by omega, Lib.hid (HB5.out.trans (HBc.out.mono HB5.out.size))⟩
          case measure => simp [intOf]
        · have HL : Hid (∀ w0 w', Below w4.heap.size w4 w0 → Below w0.heap.size w0 w' → Calls Tryz.prog 12 #[.agg (ev a' n' c' Z), .agg #[.int .i64 0, .int .i64 0, .int .i64 0, .string (mk x), .int .i64 0]] w' fun e w'' => e = .returned (.bool false) ∧ Below w0.heap.size w0 w'') := Lib.hid fun w0 w' h0 hh => KL.out a' n' c' 0 w0 w' (HT4.out.keep h0) (HX4.out.below h0) hh
          have HP : Hid (∀ w0 w', Below w0.heap.size w0 w' → Calls Tryz.prog 10 #[.agg #[.int .i64 0, .int .i64 0, .int .i64 0, .string (mk x), .int .i64 0], .string (mk x)] w' fun e w'' => e = .returned (.bool false) ∧ Below w0.heap.size w0 w'') := Lib.hid fun w0 w' hh => KP.out 0 w0 w' hh
          obtain ⟨b, hb⟩ : ∃ b, b = wr.heap.size := ⟨_, rfl⟩
          obtain ⟨w5, hw5⟩ : ∃ w5, w5 = wr.alloc (.cells #[.int .i64 0, .int .i64 0, .int .i64 0, .string (mk x), .int .i64 0] 33) := ⟨_, rfl⟩
          have HT5 : Hid (T5 w5 b 0 0 0 x 0) := Lib.hid (by rw [hw5, hb]; exact T5.new wr 0 0 0 x 0)
          have HB5 : Hid (Below w4.heap.size w4 w5) := Lib.hid (by rw [hw5]; exact HBR.out.alloc HBR.out.size _)
          have KT : Hid (∀ w', Below w5.heap.size w5 w' → T5 w' b 0 0 0 x 0) := Lib.hid fun w' hh => HT5.out.below hh
          have KQ5 : Hid (∀ w', Below w5.heap.size w5 w' → EB w' q0 a' n' c' Z) := Lib.hid fun w' hh => KQ.out w' (HB5.out.trans (hh.mono HB5.out.size))
          have HBc := Lib.hid (Below.refl w5.heap.size w5)
          go_upto_region 9 with fail
          rw [← hw5, ← hb]
          clear hw5 hb
          go_wp2_with (first
            | (refine load_env rfl (.tmp 6) rfl q0 rfl a' n' c' Z HZ.out (KQ5.out _ HBc.out) ?_)
            | (refine load_t5 rfl (.tmp 10) rfl b rfl 0 0 0 x 0 (KT.out _ HBc.out) ?_)
            | (go_at_call 12; (with_reducible refine (HL.out w5 _ HB5.out HBc.out).mono ?_); rintro e w7 ⟨rfl, hb7⟩; have HBc := Lib.hid hb7; clear hb7)
            | (go_at_call 10; (with_reducible first | refine (HP.out w5 _ HBc.out).mono ?_ | refine (KN.out _ w5 _ HBc.out).mono ?_); rintro e w7 ⟨rfl, hb7⟩; have HBc := Lib.hid hb7; clear hb7))
          go_roundw
          case rel => exact ⟨1, by go_num, by omega, by omega, Lib.hid (HB5.out.trans (HBc.out.mono HB5.out.size))⟩
          case measure => simp [intOf]
        · have HL : Hid (∀ w0 w', Below w4.heap.size w4 w0 → Below w0.heap.size w0 w' → Calls Tryz.prog 12 #[.agg (ev a' n' c' Z), .agg #[.int .i64 1, .int .i64 0, .int .i64 0, .string (mk x), .int .i64 0]] w' fun e w'' => e = .returned (.bool true) ∧ Below w0.heap.size w0 w'') := Lib.hid fun w0 w' h0 hh => KL.out a' n' c' 1 w0 w' (HT4.out.keep h0) (HX4.out.below h0) hh
          have HP : Hid (∀ w0 w', Below w0.heap.size w0 w' → Calls Tryz.prog 10 #[.agg #[.int .i64 1, .int .i64 0, .int .i64 0, .string (mk x), .int .i64 0], .string (mk x)] w' fun e w'' => e = .returned (.bool true) ∧ Below w0.heap.size w0 w'') := Lib.hid fun w0 w' hh => KP.out 1 w0 w' hh
          obtain ⟨b, hb⟩ : ∃ b, b = wr.heap.size := ⟨_, rfl⟩
          obtain ⟨w5, hw5⟩ : ∃ w5, w5 = wr.alloc (.cells #[.int .i64 1, .int .i64 0, .int .i64 0, .string (mk x), .int .i64 0] 33) := ⟨_, rfl⟩
          have HT5 : Hid (T5 w5 b 1 0 0 x 0) := Lib.hid (by rw [hw5, hb]; exact T5.new wr 1 0 0 x 0)
          have HB5 : Hid (Below w4.heap.size w4 w5) := Lib.hid (by rw [hw5]; exact HBR.out.alloc HBR.out.size _)
          have KT : Hid (∀ w', Below w5.heap.size w5 w' → T5 w' b 1 0 0 x 0) := Lib.hid fun w' hh => HT5.out.below hh
          have KQ5 : Hid (∀ w', Below w5.heap.size w5 w' → EB w' q0 a' n' c' Z) := Lib.hid fun w' hh => KQ.out w' (HB5.out.trans (hh.mono HB5.out.size))
          have HBc := Lib.hid (Below.refl w5.heap.size w5)
          go_upto_region 9 with fail
          rw [← hw5, ← hb]
          clear hw5 hb
          go_wp2_with (first
            | (refine load_env rfl (.tmp 6) rfl q0 rfl a' n' c' Z HZ.out (KQ5.out _ HBc.out) ?_)
            | (refine load_t5 rfl (.tmp 10) rfl b rfl 1 0 0 x 0 (KT.out _ HBc.out) ?_)
            | (go_at_call 12; (with_reducible refine (HL.out w5 _ HB5.out HBc.out).mono ?_); rintro e w7 ⟨rfl, hb7⟩; have HBc := Lib.hid hb7; clear hb7)
            | (go_at_call 10; (with_reducible first | refine (HP.out w5 _ HBc.out).mono ?_ | refine (KN.out _ w5 _ HBc.out).mono ?_); rintro e w7 ⟨rfl, hb7⟩; have HBc := Lib.hid hb7; clear hb7))
          go_roundw
          case rel => exact ⟨2, by go_num, by omega, by omega, Lib.hid (HB5.out.trans (HBc.out.mono HB5.out.size))⟩
          case measure => simp [intOf]
        · have HL : Hid (∀ w0 w', Below w4.heap.size w4 w0 → Below w0.heap.size w0 w' → Calls Tryz.prog 12 #[.agg (ev a' n' c' Z), .agg #[.int .i64 2, .int .i64 0, .int .i64 0, .string (mk x), .int .i64 0]] w' fun e w'' => e = .returned (.bool true) ∧ Below w0.heap.size w0 w'') := Lib.hid fun w0 w' h0 hh => KL.out a' n' c' 2 w0 w' (HT4.out.keep h0) (HX4.out.below h0) hh
          have HP : Hid (∀ w0 w', Below w0.heap.size w0 w' → Calls Tryz.prog 10 #[.agg #[.int .i64 2, .int .i64 0, .int .i64 0, .string (mk x), .int .i64 0], .string (mk x)] w' fun e w'' => e = .returned (.bool true) ∧ Below w0.heap.size w0 w'') := Lib.hid fun w0 w' hh => KP.out 2 w0 w' hh
          obtain ⟨b, hb⟩ : ∃ b, b = wr.heap.size := ⟨_, rfl⟩
          obtain ⟨w5, hw5⟩ : ∃ w5, w5 = wr.alloc (.cells #[.int .i64 2, .int .i64 0, .int .i64 0, .string (mk x), .int .i64 0] 33) := ⟨_, rfl⟩
          have HT5 : Hid (T5 w5 b 2 0 0 x 0) := Lib.hid (by rw [hw5, hb]; exact T5.new wr 2 0 0 x 0)
          have HB5 : Hid (Below w4.heap.size w4 w5) := Lib.hid (by rw [hw5]; exact HBR.out.alloc HBR.out.size _)
          have KT : Hid (∀ w', Below w5.heap.size w5 w' → T5 w' b 2 0 0 x 0) := Lib.hid fun w' hh => HT5.out.below hh
          have KQ5 : Hid (∀ w', Below w5.heap.size w5 w' → EB w' q0 a' n' c' Z) := Lib.hid fun w' hh => KQ.out w' (HB5.out.trans (hh.mono HB5.out.size))
          have HBc := Lib.hid (Below.refl w5.heap.size w5)
          go_upto_region 9 with fail
          rw [← hw5, ← hb]
          clear hw5 hb
          go_wp2_with (first
            | (refine load_env rfl (.tmp 6) rfl q0 rfl a' n' c' Z HZ.out (KQ5.out _ HBc.out) ?_)
            | (refine load_t5 rfl (.tmp 10) rfl b rfl 2 0 0 x 0 (KT.out _ HBc.out) ?_)
            | (go_at_call 12; (with_reducible refine (HL.out w5 _ HB5.out HBc.out).mono ?_); rintro e w7 ⟨rfl, hb7⟩; have HBc := Lib.hid hb7; clear hb7)
            | (go_at_call 10; (with_reducible first | refine (HP.out w5 _ HBc.out).mono ?_ | refine (KN.out _ w5 _ HBc.out).mono ?_); rintro e w7 ⟨rfl, hb7⟩; have HBc := Lib.hid hb7; clear hb7))
          go_roundw
          case rel => exact ⟨3, by go_num, by omega, by omega, Lib.hid (HB5.out.trans (HBc.out.mono HB5.out.size))⟩
          case measure => simp [intOf]
        · have HL : Hid (∀ w0 w', Below w4.heap.size w4 w0 → Below w0.heap.size w0 w' → Calls Tryz.prog 12 #[.agg (ev a' n' c' Z), .agg #[.int .i64 3, .int .i64 0, .int .i64 0, .string (mk x), .int .i64 0]] w' fun e w'' => e = .returned (.bool true) ∧ Below w0.heap.size w0 w'') := Lib.hid fun w0 w' h0 hh => KL.out a' n' c' 3 w0 w' (HT4.out.keep h0) (HX4.out.below h0) hh
          have HP : Hid (∀ w0 w', Below w0.heap.size w0 w' → Calls Tryz.prog 10 #[.agg #[.int .i64 3, .int .i64 0, .int .i64 0, .string (mk x), .int .i64 0], .string (mk x)] w' fun e w'' => e = .returned (.bool false) ∧ Below w0.heap.size w0 w'') := Lib.hid fun w0 w' hh => KP.out 3 w0 w' hh
          obtain ⟨b, hb⟩ : ∃ b, b = wr.heap.size := ⟨_, rfl⟩
          obtain ⟨w5, hw5⟩ : ∃ w5, w5 = wr.alloc (.cells #[.int .i64 3, .int .i64 0, .int .i64 0, .string (mk x), .int .i64 0] 33) := ⟨_, rfl⟩
          have HT5 : Hid (T5 w5 b 3 0 0 x 0) := Lib.hid (by rw [hw5, hb]; exact T5.new wr 3 0 0 x 0)
          have HB5 : Hid (Below w4.heap.size w4 w5) := Lib.hid (by rw [hw5]; exact HBR.out.alloc HBR.out.size _)
          have KT : Hid (∀ w', Below w5.heap.size w5 w' → T5 w' b 3 0 0 x 0) := Lib.hid fun w' hh => HT5.out.below hh
          have KQ5 : Hid (∀ w', Below w5.heap.size w5 w' → EB w' q0 a' n' c' Z) := Lib.hid fun w' hh => KQ.out w' (HB5.out.trans (hh.mono HB5.out.size))
          have HBc := Lib.hid (Below.refl w5.heap.size w5)
          go_upto_region 9 with fail
          rw [← hw5, ← hb]
          clear hw5 hb
          go_wp2_with (first
            | (refine load_env rfl (.tmp 6) rfl q0 rfl a' n' c' Z HZ.out (KQ5.out _ HBc.out) ?_)
            | (refine load_t5 rfl (.tmp 10) rfl b rfl 3 0 0 x 0 (KT.out _ HBc.out) ?_)
            | (go_at_call 12; (with_reducible refine (HL.out w5 _ HB5.out HBc.out).mono ?_); rintro e w7 ⟨rfl, hb7⟩; have HBc := Lib.hid hb7; clear hb7)
            | (go_at_call 10; (with_reducible first | refine (HP.out w5 _ HBc.out).mono ?_ | refine (KN.out _ w5 _ HBc.out).mono ?_); rintro e w7 ⟨rfl, hb7⟩; have HBc := Lib.hid hb7; clear hb7))
          go_roundw
          case rel => exact ⟨4, by go_num, by omega, by omega, Lib.hid (HB5.out.trans (HBc.out.mono HB5.out.size))⟩
          case measure => simp [intOf]
        · have HL : Hid (∀ w0 w', Below w4.heap.size w4 w0 → Below w0.heap.size w0 w' → Calls Tryz.prog 12 #[.agg (ev a' n' c' Z), .agg #[.int .i64 4, .int .i64 0, .int .i64 0, .string (mk x), .int .i64 0]] w' fun e w'' => e = .returned (.bool true) ∧ Below w0.heap.size w0 w'') := Lib.hid fun w0 w' h0 hh => KL.out a' n' c' 4 w0 w' (HT4.out.keep h0) (HX4.out.below h0) hh
          have HP : Hid (∀ w0 w', Below w0.heap.size w0 w' → Calls Tryz.prog 10 #[.agg #[.int .i64 4, .int .i64 0, .int .i64 0, .string (mk x), .int .i64 0], .string (mk x)] w' fun e w'' => e = .returned (.bool false) ∧ Below w0.heap.size w0 w'') := Lib.hid fun w0 w' hh => KP.out 4 w0 w' hh
          obtain ⟨b, hb⟩ : ∃ b, b = wr.heap.size := ⟨_, rfl⟩
          obtain ⟨w5, hw5⟩ : ∃ w5, w5 = wr.alloc (.cells #[.int .i64 4, .int .i64 0, .int .i64 0, .string (mk x), .int .i64 0] 33) := ⟨_, rfl⟩
          have HT5 : Hid (T5 w5 b 4 0 0 x 0) := Lib.hid (by rw [hw5, hb]; exact T5.new wr 4 0 0 x 0)
          have HB5 : Hid (Below w4.heap.size w4 w5) := Lib.hid (by rw [hw5]; exact HBR.out.alloc HBR.out.size _)
          have KT : Hid (∀ w', Below w5.heap.size w5 w' → T5 w' b 4 0 0 x 0) := Lib.hid fun w' hh => HT5.out.below hh
          have KQ5 : Hid (∀ w', Below w5.heap.size w5 w' → EB w' q0 a' n' c' Z) := Lib.hid fun w' hh => KQ.out w' (HB5.out.trans (hh.mono HB5.out.size))
          have HBc := Lib.hid (Below.refl w5.heap.size w5)
          go_upto_region 9 with fail
          rw [← hw5, ← hb]
          clear hw5 hb
          go_wp2_with (first
            | (refine load_env rfl (.tmp 6) rfl q0 rfl a' n' c' Z HZ.out (KQ5.out _ HBc.out) ?_)
            | (refine load_t5 rfl (.tmp 10) rfl b rfl 4 0 0 x 0 (KT.out _ HBc.out) ?_)
            | (go_at_call 12; (with_reducible refine (HL.out w5 _ HB5.out HBc.out).mono ?_); rintro e w7 ⟨rfl, hb7⟩; have HBc := Lib.hid hb7; clear hb7)
            | (go_at_call 10; (with_reducible first | refine (HP.out w5 _ HBc.out).mono ?_ | refine (KN.out _ w5 _ HBc.out).mono ?_); rintro e w7 ⟨rfl, hb7⟩; have HBc := Lib.hid hb7; clear hb7))
          go_roundw
          case rel => exact ⟨5, by go_num, by omega, by omega, Lib.hid (HB5.out.trans (HBc.out.mono HB5.out.size))⟩
          case measure => simp [intOf]
        · have HL : Hid (∀ w0 w', Below w4.heap.size w4 w0 → Below w0.heap.size w0 w' → Calls Tryz.prog 12 #[.agg (ev a' n' c' Z), .agg #[.int .i64 5, .int .i64 0, .int .i64 0, .string (mk x), .int .i64 0]] w' fun e w'' => e = .returned (.bool true) ∧ Below w0.heap.size w0 w'') := Lib.hid fun w0 w' h0 hh => KL.out a' n' c' 5 w0 w' (HT4.out.keep h0) (HX4.out.below h0) hh
          have HP : Hid (∀ w0 w', Below w0.heap.size w0 w' → Calls Tryz.prog 10 #[.agg #[.int .i64 5, .int .i64 0, .int .i64 0, .string (mk x), .int .i64 0], .string (mk x)] w' fun e w'' => e = .returned (.bool false) ∧ Below w0.heap.size w0 w'') := Lib.hid fun w0 w' hh => KP.out 5 w0 w' hh
          obtain ⟨b, hb⟩ : ∃ b, b = wr.heap.size := ⟨_, rfl⟩
          obtain ⟨w5, hw5⟩ : ∃ w5, w5 = wr.alloc (.cells #[.int .i64 5, .int .i64 0, .int .i64 0, .string (mk x), .int .i64 0] 33) := ⟨_, rfl⟩
          have HT5 : Hid (T5 w5 b 5 0 0 x 0) := Lib.hid (by rw [hw5, hb]; exact T5.new wr 5 0 0 x 0)
          have HB5 : Hid (Below w4.heap.size w4 w5) := Lib.hid (by rw [hw5]; exact HBR.out.alloc HBR.out.size _)
          have KT : Hid (∀ w', Below w5.heap.size w5 w' → T5 w' b 5 0 0 x 0) := Lib.hid fun w' hh => HT5.out.below hh
          have KQ5 : Hid (∀ w', Below w5.heap.size w5 w' → EB w' q0 a' n' c' Z) := Lib.hid fun w' hh => KQ.out w' (HB5.out.trans (hh.mono HB5.out.size))
          have HBc := Lib.hid (Below.refl w5.heap.size w5)
          go_upto_region 9 with fail
          rw [← hw5, ← hb]
          clear hw5 hb
          go_wp2_with (first
            | (refine load_env rfl (.tmp 6) rfl q0 rfl a' n' c' Z HZ.out (KQ5.out _ HBc.out) ?_)
            | (refine load_t5 rfl (.tmp 10) rfl b rfl 5 0 0 x 0 (KT.out _ HBc.out) ?_)
            | (go_at_call 12; (with_reducible refine (HL.out w5 _ HB5.out HBc.out).mono ?_); rintro e w7 ⟨rfl, hb7⟩; have HBc := Lib.hid hb7; clear hb7)
            | (go_at_call 10; (with_reducible first | refine (HP.out w5 _ HBc.out).mono ?_ | refine (KN.out _ w5 _ HBc.out).mono ?_); rintro e w7 ⟨rfl, hb7⟩; have HBc := Lib.hid hb7; clear hb7))
          go_roundw
          case rel => exact ⟨6, by go_num, by omega, by omega, Lib.hid (HB5.out.trans (HBc.out.mono HB5.out.size))⟩
          case measure => simp [intOf]
        · have HL : Hid (∀ w0 w', Below w4.heap.size w4 w0 → Below w0.heap.size w0 w' → Calls Tryz.prog 12 #[.agg (ev a' n' c' Z), .agg #[.int .i64 6, .int .i64 0, .int .i64 0, .string (mk x), .int .i64 0]] w' fun e w'' => e = .returned (.bool false) ∧ Below w0.heap.size w0 w'') := Lib.hid fun w0 w' h0 hh => KL.out a' n' c' 6 w0 w' (HT4.out.keep h0) (HX4.out.below h0) hh
          have HP : Hid (∀ w0 w', Below w0.heap.size w0 w' → Calls Tryz.prog 10 #[.agg #[.int .i64 6, .int .i64 0, .int .i64 0, .string (mk x), .int .i64 0], .string (mk x)] w' fun e w'' => e = .returned (.bool true) ∧ Below w0.heap.size w0 w'') := Lib.hid fun w0 w' hh => KP.out 6 w0 w' hh
          obtain ⟨b, hb⟩ : ∃ b, b = wr.heap.size := ⟨_, rfl⟩
          obtain ⟨w5, hw5⟩ : ∃ w5, w5 = wr.alloc (.cells #[.int .i64 6, .int .i64 0, .int .i64 0, .string (mk x), .int .i64 0] 33) := ⟨_, rfl⟩
          have HT5 : Hid (T5 w5 b 6 0 0 x 0) := Lib.hid (by rw [hw5, hb]; exact T5.new wr 6 0 0 x 0)
          have HB5 : Hid (Below w4.heap.size w4 w5) := Lib.hid (by rw [hw5]; exact HBR.out.alloc HBR.out.size _)
          have KT : Hid (∀ w', Below w5.heap.size w5 w' → T5 w' b 6 0 0 x 0) := Lib.hid fun w' hh => HT5.out.below hh
          have KQ5 : Hid (∀ w', Below w5.heap.size w5 w' → EB w' q0 a' n' c' Z) := Lib.hid fun w' hh => KQ.out w' (HB5.out.trans (hh.mono HB5.out.size))
          have HBc := Lib.hid (Below.refl w5.heap.size w5)
          go_upto_region 9 with fail
          rw [← hw5, ← hb]
          clear hw5 hb
          go_wp2_with (first
            | (refine load_env rfl (.tmp 6) rfl q0 rfl a' n' c' Z HZ.out (KQ5.out _ HBc.out) ?_)
            | (refine load_t5 rfl (.tmp 10) rfl b rfl 6 0 0 x 0 (KT.out _ HBc.out) ?_)
            | (go_at_call 12; (with_reducible refine (HL.out w5 _ HB5.out HBc.out).mono ?_); rintro e w7 ⟨rfl, hb7⟩; have HBc := Lib.hid hb7; clear hb7)
            | (go_at_call 10; (with_reducible first | refine (HP.out w5 _ HBc.out).mono ?_ | refine (KN.out _ w5 _ HBc.out).mono ?_); rintro e w7 ⟨rfl, hb7⟩; have HBc := Lib.hid hb7; clear hb7))
          go_roundw
          case rel => exact ⟨7, by go_num, by omega, by omega, Lib.hid (HB5.out.trans (HBc.out.mono HB5.out.size))⟩
          case measure => simp [intOf]
        · have HL : Hid (∀ w0 w', Below w4.heap.size w4 w0 → Below w0.heap.size w0 w' → Calls Tryz.prog 12 #[.agg (ev a' n' c' Z), .agg #[.int .i64 7, .int .i64 0, .int .i64 0, .string (mk x), .int .i64 0]] w' fun e w'' => e = .returned (.bool false) ∧ Below w0.heap.size w0 w'') := Lib.hid fun w0 w' h0 hh => KL.out a' n' c' 7 w0 w' (HT4.out.keep h0) (HX4.out.below h0) hh
          have HP : Hid (∀ w0 w', Below w0.heap.size w0 w' → Calls Tryz.prog 10 #[.agg #[.int .i64 7, .int .i64 0, .int .i64 0, .string (mk x), .int .i64 0], .string (mk x)] w' fun e w'' => e = .returned (.bool false) ∧ Below w0.heap.size w0 w'') := Lib.hid fun w0 w' hh => KP.out 7 w0 w' hh
          obtain ⟨b, hb⟩ : ∃ b, b = wr.heap.size := ⟨_, rfl⟩
          obtain ⟨w5, hw5⟩ : ∃ w5, w5 = wr.alloc (.cells #[.int .i64 7, .int .i64 0, .int .i64 0, .string (mk x), .int .i64 0] 33) := ⟨_, rfl⟩
          have HT5 : Hid (T5 w5 b 7 0 0 x 0) := Lib.hid (by rw [hw5, hb]; exact T5.new wr 7 0 0 x 0)
          have HB5 : Hid (Below w4.heap.size w4 w5) := Lib.hid (by rw [hw5]; exact HBR.out.alloc HBR.out.size _)
          have KT : Hid (∀ w', Below w5.heap.size w5 w' → T5 w' b 7 0 0 x 0) := Lib.hid fun w' hh => HT5.out.below hh
          have KQ5 : Hid (∀ w', Below w5.heap.size w5 w' → EB w' q0 a' n' c' Z) := Lib.hid fun w' hh => KQ.out w' (HB5.out.trans (hh.mono HB5.out.size))
          have HBc := Lib.hid (Below.refl w5.heap.size w5)
          go_upto_region 9 with fail
          rw [← hw5, ← hb]
          clear hw5 hb
          go_wp2_with (first
            | (refine load_env rfl (.tmp 6) rfl q0 rfl a' n' c' Z HZ.out (KQ5.out _ HBc.out) ?_)
            | (refine load_t5 rfl (.tmp 10) rfl b rfl 7 0 0 x 0 (KT.out _ HBc.out) ?_)
            | (go_at_call 12; (with_reducible refine (HL.out w5 _ HB5.out HBc.out).mono ?_); rintro e w7 ⟨rfl, hb7⟩; have HBc := Lib.hid hb7; clear hb7)
            | (go_at_call 10; (with_reducible first | refine (HP.out w5 _ HBc.out).mono ?_ | refine (KN.out _ w5 _ HBc.out).mono ?_); rintro e w7 ⟨rfl, hb7⟩; have HBc := Lib.hid hb7; clear hb7))
          go_roundw
          case rel => exact ⟨8, by go_num, by omega, by omega, Lib.hid (HB5.out.trans (HBc.out.mono HB5.out.size))⟩
          case measure => simp [intOf]
        · have HL : Hid (∀ w0 w', Below w4.heap.size w4 w0 → Below w0.heap.size w0 w' → Calls Tryz.prog 12 #[.agg (ev a' n' c' Z), .agg #[.int .i64 8, .int .i64 0, .int .i64 0, .string (mk x), .int .i64 0]] w' fun e w'' => e = .returned (.bool false) ∧ Below w0.heap.size w0 w'') := Lib.hid fun w0 w' h0 hh => KL.out a' n' c' 8 w0 w' (HT4.out.keep h0) (HX4.out.below h0) hh
          have HP : Hid (∀ w0 w', Below w0.heap.size w0 w' → Calls Tryz.prog 10 #[.agg #[.int .i64 8, .int .i64 0, .int .i64 0, .string (mk x), .int .i64 0], .string (mk x)] w' fun e w'' => e = .returned (.bool false) ∧ Below w0.heap.size w0 w'') := Lib.hid fun w0 w' hh => KP.out 8 w0 w' hh
          obtain ⟨b, hb⟩ : ∃ b, b = wr.heap.size := ⟨_, rfl⟩
          obtain ⟨w5, hw5⟩ : ∃ w5, w5 = wr.alloc (.cells #[.int .i64 8, .int .i64 0, .int .i64 0, .string (mk x), .int .i64 0] 33) := ⟨_, rfl⟩
          have HT5 : Hid (T5 w5 b 8 0 0 x 0) := Lib.hid (by rw [hw5, hb]; exact T5.new wr 8 0 0 x 0)
          have HB5 : Hid (Below w4.heap.size w4 w5) := Lib.hid (by rw [hw5]; exact HBR.out.alloc HBR.out.size _)
          have KT : Hid (∀ w', Below w5.heap.size w5 w' → T5 w' b 8 0 0 x 0) := Lib.hid fun w' hh => HT5.out.below hh
          have KQ5 : Hid (∀ w', Below w5.heap.size w5 w' → EB w' q0 a' n' c' Z) := Lib.hid fun w' hh => KQ.out w' (HB5.out.trans (hh.mono HB5.out.size))
          have HBc := Lib.hid (Below.refl w5.heap.size w5)
          go_upto_region 9 with fail
          rw [← hw5, ← hb]
          clear hw5 hb
          go_wp2_with (first
            | (refine load_env rfl (.tmp 6) rfl q0 rfl a' n' c' Z HZ.out (KQ5.out _ HBc.out) ?_)
            | (refine load_t5 rfl (.tmp 10) rfl b rfl 8 0 0 x 0 (KT.out _ HBc.out) ?_)
            | (go_at_call 12; (with_reducible refine (HL.out w5 _ HB5.out HBc.out).mono ?_); rintro e w7 ⟨rfl, hb7⟩; have HBc := Lib.hid hb7; clear hb7)
            | (go_at_call 10; (with_reducible first | refine (HP.out w5 _ HBc.out).mono ?_ | refine (KN.out _ w5 _ HBc.out).mono ?_); rintro e w7 ⟨rfl, hb7⟩; have HBc := Lib.hid hb7; clear hb7))
          go_roundw
          case rel => exact ⟨9, by go_num, by omega, by omega, Lib.hid (HB5.out.trans (HBc.out.mono HB5.out.size))⟩
          case measure => simp [intOf]
        · have HL : Hid (∀ w0 w', Below w4.heap.size w4 w0 → Below w0.heap.size w0 w' → Calls Tryz.prog 12 #[.agg (ev a' n' c' Z), .agg #[.int .i64 9, .int .i64 0, .int .i64 0, .string (mk x), .int .i64 0]] w' fun e w'' => e = .returned (.bool false) ∧ Below w0.heap.size w0 w'') := Lib.hid fun w0 w' h0 hh => KL.out a' n' c' 9 w0 w' (HT4.out.keep h0) (HX4.out.below h0) hh
          have HP : Hid (∀ w0 w', Below w0.heap.size w0 w' → Calls Tryz.prog 10 #[.agg #[.int .i64 9, .int .i64 0, .int .i64 0, .string (mk x), .int .i64 0], .string (mk x)] w' fun e w'' => e = .returned (.bool false) ∧ Below w0.heap.size w0 w'') := Lib.hid fun w0 w' hh => KP.out 9 w0 w' hh
          obtain ⟨b, hb⟩ : ∃ b, b = wr.heap.size := ⟨_, rfl⟩
          obtain ⟨w5, hw5⟩ : ∃ w5, w5 = wr.alloc (.cells #[.int .i64 9, .int .i64 0, .int .i64 0, .string (mk x), .int .i64 0] 33) := ⟨_, rfl⟩
          have HT5 : Hid (T5 w5 b 9 0 0 x 0) := Lib.hid (by rw [hw5, hb]; exact T5.new wr 9 0 0 x 0)
          have HB5 : Hid (Below w4.heap.size w4 w5) := Lib.hid (by rw [hw5]; exact HBR.out.alloc HBR.out.size _)
          have KT : Hid (∀ w', Below w5.heap.size w5 w' → T5 w' b 9 0 0 x 0) := Lib.hid fun w' hh => HT5.out.below hh
          have KQ5 : Hid (∀ w', Below w5.heap.size w5 w' → EB w' q0 a' n' c' Z) := Lib.hid fun w' hh => KQ.out w' (HB5.out.trans (hh.mono HB5.out.size))
          have HBc := Lib.hid (Below.refl w5.heap.size w5)
          go_upto_region 9 with fail
          rw [← hw5, ← hb]
          clear hw5 hb
          go_wp2_with (first
            | (refine load_env rfl (.tmp 6) rfl q0 rfl a' n' c' Z HZ.out (KQ5.out _ HBc.out) ?_)
            | (refine load_t5 rfl (.tmp 10) rfl b rfl 9 0 0 x 0 (KT.out _ HBc.out) ?_)
            | (go_at_call 12; (with_reducible refine (HL.out w5 _ HB5.out HBc.out).mono ?_); rintro e w7 ⟨rfl, hb7⟩; have HBc := Lib.hid hb7; clear hb7)
            | (go_at_call 10; (with_reducible first | refine (HP.out w5 _ HBc.out).mono ?_ | refine (KN.out _ w5 _ HBc.out).mono ?_); rintro e w7 ⟨rfl, hb7⟩; have HBc := Lib.hid hb7; clear hb7))
          go_roundw
          case rel => exact ⟨10, by go_num, by omega, by omega, Lib.hid (HB5.out.trans (HBc.out.mono HB5.out.size))⟩
          case measure => simp [intOf]
  · have hmb : ((m : Int) == 0) = false := by simpa using hm0
    have hmi : ¬ (m : Int) = 0 := by omega
    obtain rfl : fr = false := by rw [hfm]; simpa using hm0
    try clear hfm
    go_wp2
    go_loopw [9] (fun v wr => ∃ k : Int, v = .int .i64 k ∧ -1 ≤ k ∧ k ≤ 10 ∧ Hid (Below w4.heap.size w4 wr)) (fun v _ => (10 - intOf v).toNat)
    case atStart => exact ⟨-1, rfl, by omega, by omega, Lib.hid (Below.refl _ _)⟩
    case round =>
      obtain ⟨k, rfl, hk, hk10, HBR⟩ := hrel
      by_cases hlt : k = 10
      · subst hlt
        go_wp2
        go_ret
        exact ⟨rfl, HB4.out.trans (HBR.out.mono HB4.out.size)⟩
      · obtain rfl | rfl | rfl | rfl | rfl | rfl | rfl | rfl | rfl | rfl | rfl : k = -1 ∨ k = 0 ∨ k = 1 ∨ k = 2 ∨ k = 3 ∨ k = 4 ∨ k = 5 ∨ k = 6 ∨ k = 7 ∨ k = 8 ∨ k = 9 := by omega
        · have HL : Hid (∀ w0 w', Below w4.heap.size w4 w0 → Below w0.heap.size w0 w' → Calls Tryz.prog 12 #[.agg (ev a' n' c' Z), .agg #[.int .i64 (-1), .int .i64 0, .int .i64 0, .string (mk x), .int .i64 0]] w' fun e w'' => e = .returned (.bool false) ∧ Below w0.heap.size w0 w'') := Lib.hid fun w0 w' h0 hh => KL.out a' n' c' (-1) w0 w' (HT4.out.keep h0) (HX4.out.below h0) hh
          have HP : Hid (∀ w0 w', Below w0.heap.size w0 w' → Calls Tryz.prog 10 #[.agg #[.int .i64 (-1), .int .i64 0, .int .i64 0, .string (mk x), .int .i64 0], .string (mk x)] w' fun e w'' => e = .returned (.bool false) ∧ Below w0.heap.size w0 w'') := Lib.hid fun w0 w' hh => KP.out (-1) w0 w' hh
          obtain ⟨b, hb⟩ : ∃ b, b = wr.heap.size := ⟨_, rfl⟩
          obtain ⟨w5, hw5⟩ : ∃ w5, w5 = wr.alloc (.cells #[.int .i64 (-1), .int .i64 0, .int .i64 0, .string (mk x), .int .i64 0] 33) := ⟨_, rfl⟩
          have HT5 : Hid (T5 w5 b (-1) 0 0 x 0) := Lib.hid (by rw [hw5, hb]; exact T5.new wr (-1) 0 0 x 0)
          have HB5 : Hid (Below w4.heap.size w4 w5) := Lib.hid (by rw [hw5]; exact HBR.out.alloc HBR.out.size _)
          have KT : Hid (∀ w', Below w5.heap.size w5 w' → T5 w' b (-1) 0 0 x 0) := Lib.hid fun w' hh => HT5.out.below hh
          have KQ5 : Hid (∀ w', Below w5.heap.size w5 w' → EB w' q0 a' n' c' Z) := Lib.hid fun w' hh => KQ.out w' (HB5.out.trans (hh.mono HB5.out.size))
          have HBc := Lib.hid (Below.refl w5.heap.size w5)
          go_upto_region 9 with fail
          rw [← hw5, ← hb]
          clear hw5 hb
          go_wp2_with (first
            | (refine load_env rfl (.tmp 6) rfl q0 rfl a' n' c' Z HZ.out (KQ5.out _ HBc.out) ?_)
            | (refine load_t5 rfl (.tmp 10) rfl b rfl (-1) 0 0 x 0 (KT.out _ HBc.out) ?_)
            | (go_at_call 12; (with_reducible refine (HL.out w5 _ HB5.out HBc.out).mono ?_); rintro e w7 ⟨rfl, hb7⟩; have HBc := Lib.hid hb7; clear hb7)
            | (go_at_call 10; (with_reducible first | refine (HP.out w5 _ HBc.out).mono ?_ | refine (KN.out _ w5 _ HBc.out).mono ?_); rintro e w7 ⟨rfl, hb7⟩; have HBc := Lib.hid hb7; clear hb7))
          go_roundw
          case rel => exact ⟨0, by go_num, by omega, by omega, Lib.hid (HB5.out.trans (HBc.out.mono HB5.out.size))⟩
          case measure => simp [intOf]
        · have HL : Hid (∀ w0 w', Below w4.heap.size w4 w0 → Below w0.heap.size w0 w' → Calls Tryz.prog 12 #[.agg (ev a' n' c' Z), .agg #[.int .i64 0, .int .i64 0, .int .i64 0, .string (mk x), .int .i64 0]] w' fun e w'' => e = .returned (.bool false) ∧ Below w0.heap.size w0 w'') := Lib.hid fun w0 w' h0 hh => KL.out a' n' c' 0 w0 w' (HT4.out.keep h0) (HX4.out.below h0) hh
          have HP : Hid (∀ w0 w', Below w0.heap.size w0 w' → Calls Tryz.prog 10 #[.agg #[.int .i64 0, .int .i64 0, .int .i64 0, .string (mk x), .int .i64 0], .string (mk x)] w' fun e w'' => e = .returned (.bool false) ∧ Below w0.heap.size w0 w'') := Lib.hid fun w0 w' hh => KP.out 0 w0 w' hh
          obtain ⟨b, hb⟩ : ∃ b, b = wr.heap.size := ⟨_, rfl⟩
          obtain ⟨w5, hw5⟩ : ∃ w5, w5 = wr.alloc (.cells #[.int .i64 0, .int .i64 0, .int .i64 0, .string (mk x), .int .i64 0] 33) := ⟨_, rfl⟩
          have HT5 : Hid (T5 w5 b 0 0 0 x 0) := Lib.hid (by rw [hw5, hb]; exact T5.new wr 0 0 0 x 0)
          have HB5 : Hid (Below w4.heap.size w4 w5) := Lib.hid (by rw [hw5]; exact HBR.out.alloc HBR.out.size _)
          have KT : Hid (∀ w', Below w5.heap.size w5 w' → T5 w' b 0 0 0 x 0) := Lib.hid fun w' hh => HT5.out.below hh
          have KQ5 : Hid (∀ w', Below w5.heap.size w5 w' → EB w' q0 a' n' c' Z) := Lib.hid fun w' hh => KQ.out w' (HB5.out.trans (hh.mono HB5.out.size))
          have HBc := Lib.hid (Below.refl w5.heap.size w5)
          go_upto_region 9 with fail
          rw [← hw5, ← hb]
          clear hw5 hb
          go_wp2_with (first
            | (refine load_env rfl (.tmp 6) rfl q0 rfl a' n' c' Z HZ.out (KQ5.out _ HBc.out) ?_)
            | (refine load_t5 rfl (.tmp 10) rfl b rfl 0 0 0 x 0 (KT.out _ HBc.out) ?_)
            | (go_at_call 12; (with_reducible refine (HL.out w5 _ HB5.out HBc.out).mono ?_); rintro e w7 ⟨rfl, hb7⟩; have HBc := Lib.hid hb7; clear hb7)
            | (go_at_call 10; (with_reducible first | refine (HP.out w5 _ HBc.out).mono ?_ | refine (KN.out _ w5 _ HBc.out).mono ?_); rintro e w7 ⟨rfl, hb7⟩; have HBc := Lib.hid hb7; clear hb7))
          go_roundw
          case rel => exact ⟨1, by go_num, by omega, by omega, Lib.hid (HB5.out.trans (HBc.out.mono HB5.out.size))⟩
          case measure => simp [intOf]
        · have HL : Hid (∀ w0 w', Below w4.heap.size w4 w0 → Below w0.heap.size w0 w' → Calls Tryz.prog 12 #[.agg (ev a' n' c' Z), .agg #[.int .i64 1, .int .i64 0, .int .i64 0, .string (mk x), .int .i64 0]] w' fun e w'' => e = .returned (.bool false) ∧ Below w0.heap.size w0 w'') := Lib.hid fun w0 w' h0 hh => KL.out a' n' c' 1 w0 w' (HT4.out.keep h0) (HX4.out.below h0) hh
          have HP : Hid (∀ w0 w', Below w0.heap.size w0 w' → Calls Tryz.prog 10 #[.agg #[.int .i64 1, .int .i64 0, .int .i64 0, .string (mk x), .int .i64 0], .string (mk x)] w' fun e w'' => e = .returned (.bool true) ∧ Below w0.heap.size w0 w'') := Lib.hid fun w0 w' hh => KP.out 1 w0 w' hh
          obtain ⟨b, hb⟩ : ∃ b, b = wr.heap.size := ⟨_, rfl⟩
          obtain ⟨w5, hw5⟩ : ∃ w5, w5 = wr.alloc (.cells #[.int .i64 1, .int .i64 0, .int .i64 0, .string (mk x), .int .i64 0] 33) := ⟨_, rfl⟩
          have HT5 : Hid (T5 w5 b 1 0 0 x 0) := Lib.hid (by rw [hw5, hb]; exact T5.new wr 1 0 0 x 0)
          have HB5 : Hid (Below w4.heap.size w4 w5) := Lib.hid (by rw [hw5]; exact HBR.out.alloc HBR.out.size _)
          have KT : Hid (∀ w', Below w5.heap.size w5 w' → T5 w' b 1 0 0 x 0) := Lib.hid fun w' hh => HT5.out.below hh
          have KQ5 : Hid (∀ w', Below w5.heap.size w5 w' → EB w' q0 a' n' c' Z) := Lib.hid fun w' hh => KQ.out w' (HB5.out.trans (hh.mono HB5.out.size))
          have HBc := Lib.hid (Below.refl w5.heap.size w5)
          go_upto_region 9 with fail
          rw [← hw5, ← hb]
          clear hw5 hb
          go_wp2_with (first
            | (refine load_env rfl (.tmp 6) rfl q0 rfl a' n' c' Z HZ.out (KQ5.out _ HBc.out) ?_)
            | (refine load_t5 rfl (.tmp 10) rfl b rfl 1 0 0 x 0 (KT.out _ HBc.out) ?_)
            | (go_at_call 12; (with_reducible refine (HL.out w5 _ HB5.out HBc.out).mono ?_); rintro e w7 ⟨rfl, hb7⟩; have HBc := Lib.hid hb7; clear hb7)
            | (go_at_call 10; (with_reducible first | refine (HP.out w5 _ HBc.out).mono ?_ | refine (KN.out _ w5 _ HBc.out).mono ?_); rintro e w7 ⟨rfl, hb7⟩; have HBc := Lib.hid hb7; clear hb7))
          go_roundw
          case rel => exact ⟨2, by go_num, by omega, by omega, Lib.hid (HB5.out.trans (HBc.out.mono HB5.out.size))⟩
          case measure => simp [intOf]
        · have HL : Hid (∀ w0 w', Below w4.heap.size w4 w0 → Below w0.heap.size w0 w' → Calls Tryz.prog 12 #[.agg (ev a' n' c' Z), .agg #[.int .i64 2, .int .i64 0, .int .i64 0, .string (mk x), .int .i64 0]] w' fun e w'' => e = .returned (.bool false) ∧ Below w0.heap.size w0 w'') := Lib.hid fun w0 w' h0 hh => KL.out a' n' c' 2 w0 w' (HT4.out.keep h0) (HX4.out.below h0) hh
          have HP : Hid (∀ w0 w', Below w0.heap.size w0 w' → Calls Tryz.prog 10 #[.agg #[.int .i64 2, .int .i64 0, .int .i64 0, .string (mk x), .int .i64 0], .string (mk x)] w' fun e w'' => e = .returned (.bool true) ∧ Below w0.heap.size w0 w'') := Lib.hid fun w0 w' hh => KP.out 2 w0 w' hh
          obtain ⟨b, hb⟩ : ∃ b, b = wr.heap.size := ⟨_, rfl⟩
          obtain ⟨w5, hw5⟩ : ∃ w5, w5 = wr.alloc (.cells #[.int .i64 2, .int .i64 0, .int .i64 0, .string (mk x), .int .i64 0] 33) := ⟨_, rfl⟩
          have HT5 : Hid (T5 w5 b 2 0 0 x 0) := Lib.hid (by rw [hw5, hb]; exact T5.new wr 2 0 0 x 0)
          have HB5 : Hid (Below w4.heap.size w4 w5) := Lib.hid (by rw [hw5]; exact HBR.out.alloc HBR.out.size _)
          have KT : Hid (∀ w', Below w5.heap.size w5 w' → T5 w' b 2 0 0 x 0) := Lib.hid fun w' hh => HT5.out.below hh
          have KQ5 : Hid (∀ w', Below w5.heap.size w5 w' → EB w' q0 a' n' c' Z) := Lib.hid fun w' hh => KQ.out w' (HB5.out.trans (hh.mono HB5.out.size))
          have HBc := Lib.hid (Below.refl w5.heap.size w5)
          go_upto_region 9 with fail
          rw [← hw5, ← hb]
          clear hw5 hb
          go_wp2_with (first
            | (refine load_env rfl (.tmp 6) rfl q0 rfl a' n' c' Z HZ.out (KQ5.out _ HBc.out) ?_)
            | (refine load_t5 rfl (.tmp 10) rfl b rfl 2 0 0 x 0 (KT.out _ HBc.out) ?_)
            | (go_at_call 12; (with_reducible refine (HL.out w5 _ HB5.out HBc.out).mono ?_); rintro e w7 ⟨rfl, hb7⟩; have HBc := Lib.hid hb7; clear hb7)
            | (go_at_call 10; (with_reducible first | refine (HP.out w5 _ HBc.out).mono ?_ | refine (KN.out _ w5 _ HBc.out).mono ?_); rintro e w7 ⟨rfl, hb7⟩; have HBc := Lib.hid hb7; clear hb7))
          go_roundw
          case rel => exact ⟨3, by go_num, by omega, by omega, Lib.hid (HB5.out.trans (HBc.out.mono HB5.out.size))⟩
          case measure => simp [intOf]
        · have HL : Hid (∀ w0 w', Below w4.heap.size w4 w0 → Below w0.heap.size w0 w' → Calls Tryz.prog 12 #[.agg (ev a' n' c' Z), .agg #[.int .i64 3, .int .i64 0, .int .i64 0, .string (mk x), .int .i64 0]] w' fun e w'' => e = .returned (.bool true) ∧ Below w0.heap.size w0 w'') := Lib.hid fun w0 w' h0 hh => KL.out a' n' c' 3 w0 w' (HT4.out.keep h0) (HX4.out.below h0) hh
          have HP : Hid (∀ w0 w', Below w0.heap.size w0 w' → Calls Tryz.prog 10 #[.agg #[.int .i64 3, .int .i64 0, .int .i64 0, .string (mk x), .int .i64 0], .string (mk x)] w' fun e w'' => e = .returned (.bool false) ∧ Below w0.heap.size w0 w'') := Lib.hid fun w0 w' hh => KP.out 3 w0 w' hh
          obtain ⟨b, hb⟩ : ∃ b, b = wr.heap.size := ⟨_, rfl⟩
          obtain ⟨w5, hw5⟩ : ∃ w5, w5 = wr.alloc (.cells #[.int .i64 3, .int .i64 0, .int .i64 0, .string (mk x), .int .i64 0] 33) := ⟨_, rfl⟩
          have HT5 : Hid (T5 w5 b 3 0 0 x 0) := Lib.hid (by rw [hw5, hb]; exact T5.new wr 3 0 0 x 0)
          have HB5 : Hid (Below w4.heap.size w4 w5) := Lib.hid (by rw [hw5]; exact HBR.out.alloc HBR.out.size _)
          have KT : Hid (∀ w', Below w5.heap.size w5 w' → T5 w' b 3 0 0 x 0) := Lib.hid fun w' hh => HT5.out.below hh
          have KQ5 : Hid (∀ w', Below w5.heap.size w5 w' → EB w' q0 a' n' c' Z) := Lib.hid fun w' hh => KQ.out w' (HB5.out.trans (hh.mono HB5.out.size))
          have HBc := Lib.hid (Below.refl w5.heap.size w5)
          go_upto_region 9 with fail
          rw [← hw5, ← hb]
          clear hw5 hb
          go_wp2_with (first
            | (refine load_env rfl (.tmp 6) rfl q0 rfl a' n' c' Z HZ.out (KQ5.out _ HBc.out) ?_)
            | (refine load_t5 rfl (.tmp 10) rfl b rfl 3 0 0 x 0 (KT.out _ HBc.out) ?_)
            | (go_at_call 12; (with_reducible refine (HL.out w5 _ HB5.out HBc.out).mono ?_); rintro e w7 ⟨rfl, hb7⟩; have HBc := Lib.hid hb7; clear hb7)
            | (go_at_call 10; (with_reducible first | refine (HP.out w5 _ HBc.out).mono ?_ | refine (KN.out _ w5 _ HBc.out).mono ?_); rintro e w7 ⟨rfl, hb7⟩; have HBc := Lib.hid hb7; clear hb7))
          go_roundw
          case rel => exact ⟨4, by go_num, by omega, by omega, Lib.hid (HB5.out.trans (HBc.out.mono HB5.out.size))⟩
          case measure => simp [intOf]
        · have HL : Hid (∀ w0 w', Below w4.heap.size w4 w0 → Below w0.heap.size w0 w' → Calls Tryz.prog 12 #[.agg (ev a' n' c' Z), .agg #[.int .i64 4, .int .i64 0, .int .i64 0, .string (mk x), .int .i64 0]] w' fun e w'' => e = .returned (.bool true) ∧ Below w0.heap.size w0 w'') := Lib.hid fun w0 w' h0 hh => KL.out a' n' c' 4 w0 w' (HT4.out.keep h0) (HX4.out.below h0) hh
          have HP : Hid (∀ w0 w', Below w0.heap.size w0 w' → Calls Tryz.prog 10 #[.agg #[.int .i64 4, .int .i64 0, .int .i64 0, .string (mk x), .int .i64 0], .string (mk x)] w' fun e w'' => e = .returned (.bool false) ∧ Below w0.heap.size w0 w'') := Lib.hid fun w0 w' hh => KP.out 4 w0 w' hh
          obtain ⟨b, hb⟩ : ∃ b, b = wr.heap.size := ⟨_, rfl⟩
          obtain ⟨w5, hw5⟩ : ∃ w5, w5 = wr.alloc (.cells #[.int .i64 4, .int .i64 0, .int .i64 0, .string (mk x), .int .i64 0] 33) := ⟨_, rfl⟩
          have HT5 : Hid (T5 w5 b 4 0 0 x 0) := Lib.hid (by rw [hw5, hb]; exact T5.new wr 4 0 0 x 0)
          have HB5 : Hid (Below w4.heap.size w4 w5) := Lib.hid (by rw [hw5]; exact HBR.out.alloc HBR.out.size _)
          have KT : Hid (∀ w', Below w5.heap.size w5 w' → T5 w' b 4 0 0 x 0) := Lib.hid fun w' hh => HT5.out.below hh
          have KQ5 : Hid (∀ w', Below w5.heap.size w5 w' → EB w' q0 a' n' c' Z) := Lib.hid fun w' hh => KQ.out w' (HB5.out.trans (hh.mono HB5.out.size))
          have HBc := Lib.hid (Below.refl w5.heap.size w5)
          go_upto_region 9 with fail
          rw [← hw5, ← hb]
          clear hw5 hb
          go_wp2_with (first
            | (refine load_env rfl (.tmp 6) rfl q0 rfl a' n' c' Z HZ.out (KQ5.out _ HBc.out) ?_)
            | (refine load_t5 rfl (.tmp 10) rfl b rfl 4 0 0 x 0 (KT.out _ HBc.out) ?_)
            | (go_at_call 12; (with_reducible refine (HL.out w5 _ HB5.out HBc.out).mono ?_); rintro e w7 ⟨rfl, hb7⟩; have HBc := Lib.hid hb7; clear hb7)
            | (go_at_call 10; (with_reducible first | refine (HP.out w5 _ HBc.out).mono ?_ | refine (KN.out _ w5 _ HBc.out).mono ?_); rintro e w7 ⟨rfl, hb7⟩; have HBc := Lib.hid hb7; clear hb7))
          go_roundw
          case rel => exact ⟨5, by go_num, by omega, by omega, Lib.hid (HB5.out.trans (HBc.out.mono HB5.out.size))⟩
          case measure => simp [intOf]
        · have HL : Hid (∀ w0 w', Below w4.heap.size w4 w0 → Below w0.heap.size w0 w' → Calls Tryz.prog 12 #[.agg (ev a' n' c' Z), .agg #[.int .i64 5, .int .i64 0, .int .i64 0, .string (mk x), .int .i64 0]] w' fun e w'' => e = .returned (.bool true) ∧ Below w0.heap.size w0 w'') := Lib.hid fun w0 w' h0 hh => KL.out a' n' c' 5 w0 w' (HT4.out.keep h0) (HX4.out.below h0) hh
          have HP : Hid (∀ w0 w', Below w0.heap.size w0 w' → Calls Tryz.prog 10 #[.agg #[.int .i64 5, .int .i64 0, .int .i64 0, .string (mk x), .int .i64 0], .string (mk x)] w' fun e w'' => e = .returned (.bool false) ∧ Below w0.heap.size w0 w'') := Lib.hid fun w0 w' hh => KP.out 5 w0 w' hh
          obtain ⟨b, hb⟩ : ∃ b, b = wr.heap.size := ⟨_, rfl⟩
          obtain ⟨w5, hw5⟩ : ∃ w5, w5 = wr.alloc (.cells #[.int .i64 5, .int .i64 0, .int .i64 0, .string (mk x), .int .i64 0] 33) := ⟨_, rfl⟩
          have HT5 : Hid (T5 w5 b 5 0 0 x 0) := Lib.hid (by rw [hw5, hb]; exact T5.new wr 5 0 0 x 0)
          have HB5 : Hid (Below w4.heap.size w4 w5) := Lib.hid (by rw [hw5]; exact HBR.out.alloc HBR.out.size _)
          have KT : Hid (∀ w', Below w5.heap.size w5 w' → T5 w' b 5 0 0 x 0) := Lib.hid fun w' hh => HT5.out.below hh
          have KQ5 : Hid (∀ w', Below w5.heap.size w5 w' → EB w' q0 a' n' c' Z) := Lib.hid fun w' hh => KQ.out w' (HB5.out.trans (hh.mono HB5.out.size))
          have HBc := Lib.hid (Below.refl w5.heap.size w5)
          go_upto_region 9 with fail
          rw [← hw5, ← hb]
          clear hw5 hb
          go_wp2_with (first
            | (refine load_env rfl (.tmp 6) rfl q0 rfl a' n' c' Z HZ.out (KQ5.out _ HBc.out) ?_)
            | (refine load_t5 rfl (.tmp 10) rfl b rfl 5 0 0 x 0 (KT.out _ HBc.out) ?_)
            | (go_at_call 12; (with_reducible refine (HL.out w5 _ HB5.out HBc.out).mono ?_); rintro e w7 ⟨rfl, hb7⟩; have HBc := Lib.hid hb7; clear hb7)
            | (go_at_call 10; (with_reducible first | refine (HP.out w5 _ HBc.out).mono ?_ | refine (KN.out _ w5 _ HBc.out).mono ?_); rintro e w7 ⟨rfl, hb7⟩; have HBc := Lib.hid hb7; clear hb7))
          go_roundw
          case rel => exact ⟨6, by go_num, by omega, by omega, Lib.hid (HB5.out.trans (HBc.out.mono HB5.out.size))⟩
          case measure => simp [intOf]
        · have HL : Hid (∀ w0 w', Below w4.heap.size w4 w0 → Below w0.heap.size w0 w' → Calls Tryz.prog 12 #[.agg (ev a' n' c' Z), .agg #[.int .i64 6, .int .i64 0, .int .i64 0, .string (mk x), .int .i64 0]] w' fun e w'' => e = .returned (.bool false) ∧ Below w0.heap.size w0 w'') := Lib.hid fun w0 w' h0 hh => KL.out a' n' c' 6 w0 w' (HT4.out.keep h0) (HX4.out.below h0) hh
          have HP : Hid (∀ w0 w', Below w0.heap.size w0 w' → Calls Tryz.prog 10 #[.agg #[.int .i64 6, .int .i64 0, .int .i64 0, .string (mk x), .int .i64 0], .string (mk x)] w' fun e w'' => e = .returned (.bool true) ∧ Below w0.heap.size w0 w'') := Lib.hid fun w0 w' hh => KP.out 6 w0 w' hh
          obtain ⟨b, hb⟩ : ∃ b, b = wr.heap.size := ⟨_, rfl⟩
          obtain ⟨w5, hw5⟩ : ∃ w5, w5 = wr.alloc (.cells #[.int .i64 6, .int .i64 0, .int .i64 0, .string (mk x), .int .i64 0] 33) := ⟨_, rfl⟩
          have HT5 : Hid (T5 w5 b 6 0 0 x 0) := Lib.hid (by rw [hw5, hb]; exact T5.new wr 6 0 0 x 0)
          have HB5 : Hid (Below w4.heap.size w4 w5) := Lib.hid (by rw [hw5]; exact HBR.out.alloc HBR.out.size _)
          have KT : Hid (∀ w', Below w5.heap.size w5 w' → T5 w' b 6 0 0 x 0) := Lib.hid fun w' hh => HT5.out.below hh
          have KQ5 : Hid (∀ w', Below w5.heap.size w5 w' → EB w' q0 a' n' c' Z) := Lib.hid fun w' hh => KQ.out w' (HB5.out.trans (hh.mono HB5.out.size))
          have HBc := Lib.hid (Below.refl w5.heap.size w5)
          go_upto_region 9 with fail
          rw [← hw5, ← hb]
          clear hw5 hb
          go_wp2_with (first
            | (refine load_env rfl (.tmp 6) rfl q0 rfl a' n' c' Z HZ.out (KQ5.out _ HBc.out) ?_)
            | (refine load_t5 rfl (.tmp 10) rfl b rfl 6 0 0 x 0 (KT.out _ HBc.out) ?_)
            | (go_at_call 12; (with_reducible refine (HL.out w5 _ HB5.out HBc.out).mono ?_); rintro e w7 ⟨rfl, hb7⟩; have HBc := Lib.hid hb7; clear hb7)
            | (go_at_call 10; (with_reducible first | refine (HP.out w5 _ HBc.out).mono ?_ | refine (KN.out _ w5 _ HBc.out).mono ?_); rintro e w7 ⟨rfl, hb7⟩; have HBc := Lib.hid hb7; clear hb7))
          go_roundw
          case rel => exact ⟨7, by go_num, by omega, by omega, Lib.hid (HB5.out.trans (HBc.out.mono HB5.out.size))⟩
          case measure => simp [intOf]
        · have HL : Hid (∀ w0 w', Below w4.heap.size w4 w0 → Below w0.heap.size w0 w' → Calls Tryz.prog 12 #[.agg (ev a' n' c' Z), .agg #[.int .i64 7, .int .i64 0, .int .i64 0, .string (mk x), .int .i64 0]] w' fun e w'' => e = .returned (.bool false) ∧ Below w0.heap.size w0 w'') := Lib.hid fun w0 w' h0 hh => KL.out a' n' c' 7 w0 w' (HT4.out.keep h0) (HX4.out.below h0) hh
          have HP : Hid (∀ w0 w', Below w0.heap.size w0 w' → Calls Tryz.prog 10 #[.agg #[.int .i64 7, .int .i64 0, .int .i64 0, .string (mk x), .int .i64 0], .string (mk x)] w' fun e w'' => e = .returned (.bool false) ∧ Below w0.heap.size w0 w'') := Lib.hid fun w0 w' hh => KP.out 7 w0 w' hh
          obtain ⟨b, hb⟩ : ∃ b, b = wr.heap.size := ⟨_, rfl⟩
          obtain ⟨w5, hw5⟩ : ∃ w5, w5 = wr.alloc (.cells #[.int .i64 7, .int .i64 0, .int .i64 0, .string (mk x), .int .i64 0] 33) := ⟨_, rfl⟩
          have HT5 : Hid (T5 w5 b 7 0 0 x 0) := Lib.hid (by rw [hw5, hb]; exact T5.new wr 7 0 0 x 0)
          have HB5 : Hid (Below w4.heap.size w4 w5) := Lib.hid (by rw [hw5]; exact HBR.out.alloc HBR.out.size _)
          have KT : Hid (∀ w', Below w5.heap.size w5 w' → T5 w' b 7 0 0 x 0) := Lib.hid fun w' hh => HT5.out.below hh
          have KQ5 : Hid (∀ w', Below w5.heap.size w5 w' → EB w' q0 a' n' c' Z) := Lib.hid fun w' hh => KQ.out w' (HB5.out.trans (hh.mono HB5.out.size))
          have HBc := Lib.hid (Below.refl w5.heap.size w5)
          go_upto_region 9 with fail
          rw [← hw5, ← hb]
          clear hw5 hb
          go_wp2_with (first
            | (refine load_env rfl (.tmp 6) rfl q0 rfl a' n' c' Z HZ.out (KQ5.out _ HBc.out) ?_)
            | (refine load_t5 rfl (.tmp 10) rfl b rfl 7 0 0 x 0 (KT.out _ HBc.out) ?_)
            | (go_at_call 12; (with_reducible refine (HL.out w5 _ HB5.out HBc.out).mono ?_); rintro e w7 ⟨rfl, hb7⟩; have HBc := Lib.hid hb7; clear hb7)
            | (go_at_call 10; (with_reducible first | refine (HP.out w5 _ HBc.out).mono ?_ | refine (KN.out _ w5 _ HBc.out).mono ?_); rintro e w7 ⟨rfl, hb7⟩; have HBc := Lib.hid hb7; clear hb7))
          go_roundw
          case rel => exact ⟨8, by go_num, by omega, by omega, Lib.hid (HB5.out.trans (HBc.out.mono HB5.out.size))⟩
          case measure => simp [intOf]
        · have HL : Hid (∀ w0 w', Below w4.heap.size w4 w0 → Below w0.heap.size w0 w' → Calls Tryz.prog 12 #[.agg (ev a' n' c' Z), .agg #[.int .i64 8, .int .i64 0, .int .i64 0, .string (mk x), .int .i64 0]] w' fun e w'' => e = .returned (.bool false) ∧ Below w0.heap.size w0 w'') := Lib.hid fun w0 w' h0 hh => KL.out a' n' c' 8 w0 w' (HT4.out.keep h0) (HX4.out.below h0) hh
          have HP : Hid (∀ w0 w', Below w0.heap.size w0 w' → Calls Tryz.prog 10 #[.agg #[.int .i64 8, .int .i64 0, .int .i64 0, .string (mk x), .int .i64 0], .string (mk x)] w' fun e w'' => e = .returned (.bool false) ∧ Below w0.heap.size w0 w'') := Lib.hid fun w0 w' hh => KP.out 8 w0 w' hh
          obtain ⟨b, hb⟩ : ∃ b, b = wr.heap.size := ⟨_, rfl⟩
          obtain ⟨w5, hw5⟩ : ∃ w5, w5 = wr.alloc (.cells #[.int .i64 8, .int .i64 0, .int .i64 0, .string (mk x), .int .i64 0] 33) := ⟨_, rfl⟩
          have HT5 : Hid (T5 w5 b 8 0 0 x 0) := Lib.hid (by rw [hw5, hb]; exact T5.new wr 8 0 0 x 0)
          have HB5 : Hid (Below w4.heap.size w4 w5) := Lib.hid (by rw [hw5]; exact HBR.out.alloc HBR.out.size _)
          have KT : Hid (∀ w', Below w5.heap.size w5 w' → T5 w' b 8 0 0 x 0) := Lib.hid fun w' hh => HT5.out.below hh
          have KQ5 : Hid (∀ w', Below w5.heap.size w5 w' → EB w' q0 a' n' c' Z) := Lib.hid fun w' hh => KQ.out w' (HB5.out.trans (hh.mono HB5.out.size))
          have HBc := Lib.hid (Below.refl w5.heap.size w5)
          go_upto_region 9 with fail
          rw [← hw5, ← hb]
          clear hw5 hb
          go_wp2_with (first
            | (refine load_env rfl (.tmp 6) rfl q0 rfl a' n' c' Z HZ.out (KQ5.out _ HBc.out) ?_)
            | (refine load_t5 rfl (.tmp 10) rfl b rfl 8 0 0 x 0 (KT.out _ HBc.out) ?_)
            | (go_at_call 12; (with_reducible refine (HL.out w5 _ HB5.out HBc.out).mono ?_); rintro e w7 ⟨rfl, hb7⟩; have HBc := Lib.hid hb7; clear hb7)
            | (go_at_call 10; (with_reducible first | refine (HP.out w5 _ HBc.out).mono ?_ | refine (KN.out _ w5 _ HBc.out).mono ?_); rintro e w7 ⟨rfl, hb7⟩; have HBc := Lib.hid hb7; clear hb7))
          go_roundw
          case rel => exact ⟨9, by go_num, by omega, by omega, Lib.hid (HB5.out.trans (HBc.out.mono HB5.out.size))⟩
          case measure => simp [intOf]
        · have HL : Hid (∀ w0 w', Below w4.heap.size w4 w0 → Below w0.heap.size w0 w' → Calls Tryz.prog 12 #[.agg (ev a' n' c' Z), .agg #[.int .i64 9, .int .i64 0, .int .i64 0, .string (mk x), .int .i64 0]] w' fun e w'' => e = .returned (.bool false) ∧ Below w0.heap.size w0 w'') := Lib.hid fun w0 w' h0 hh => KL.out a' n' c' 9 w0 w' (HT4.out.keep h0) (HX4.out.below h0) hh
          have HP : Hid (∀ w0 w', Below w0.heap.size w0 w' → Calls Tryz.prog 10 #[.agg #[.int .i64 9, .int .i64 0, .int .i64 0, .string (mk x), .int .i64 0], .string (mk x)] w' fun e w'' => e = .returned (.bool false) ∧ Below w0.heap.size w0 w'') := Lib.hid fun w0 w' hh => KP.out 9 w0 w' hh
          obtain ⟨b, hb⟩ : ∃ b, b = wr.heap.size := ⟨_, rfl⟩
          obtain ⟨w5, hw5⟩ : ∃ w5, w5 = wr.alloc (.cells #[.int .i64 9, .int .i64 0, .int .i64 0, .string (mk x), .int .i64 0] 33) := ⟨_, rfl⟩
          have HT5 : Hid (T5 w5 b 9 0 0 x 0) := Lib.hid (by rw [hw5, hb]; exact T5.new wr 9 0 0 x 0)
          have HB5 : Hid (Below w4.heap.size w4 w5) := Lib.hid (by rw [hw5]; exact HBR.out.alloc HBR.out.size _)
          have KT : Hid (∀ w', Below w5.heap.size w5 w' → T5 w' b 9 0 0 x 0) := Lib.hid fun w' hh => HT5.out.below hh
          have KQ5 : Hid (∀ w', Below w5.heap.size w5 w' → EB w' q0 a' n' c' Z) := Lib.hid fun w' hh => KQ.out w' (HB5.out.trans (hh.mono HB5.out.size))
          have HBc := Lib.hid (Below.refl w5.heap.size w5)
          go_upto_region 9 with fail
          rw [← hw5, ← hb]
          clear hw5 hb
          go_wp2_with (first
            | (refine load_env rfl (.tmp 6) rfl q0 rfl a' n' c' Z HZ.out (KQ5.out _ HBc.out) ?_)
            | (refine load_t5 rfl (.tmp 10) rfl b rfl 9 0 0 x 0 (KT.out _ HBc.out) ?_)
            | (go_at_call 12; (with_reducible refine (HL.out w5 _ HB5.out HBc.out).mono ?_); rintro e w7 ⟨rfl, hb7⟩; have HBc := Lib.hid hb7; clear hb7)
            | (go_at_call 10; (with_reducible first | refine (HP.out w5 _ HBc.out).mono ?_ | refine (KN.out _ w5 _ HBc.out).mono ?_); rintro e w7 ⟨rfl, hb7⟩; have HBc := Lib.hid hb7; clear hb7))
          go_roundw
          case rel => exact ⟨10, by go_num, by omega, by omega, Lib.hid (HB5.out.trans (HBc.out.mono HB5.out.size))⟩
          case measure => simp [intOf]

end Go.Proofs.YtcegbmhnbmfnnaaGreatDoor
