/- The example at the head of layer 16's laws. -/
import Derived.Test.YtcpmpidpoelleaaGreatDoorZh
namespace Go.Proofs.YtcpmpidpoelleaaGreatDoor
open Go.RowKit

def dv4 : DV := (4, ([], 0, 0), 0, 0)
def dv1 : DV := (1, ([95, 43, 95], 1, 0), 0, 0)
def dv5 : DV := (5, ([], 0, 0), 0, 0)
def xS : XV := ⟨⟨none, 0, 0, [], zS⟩, none, 0, 0, []⟩
theorem xS_own (w : World) : xS.own w := ⟨⟨OwnV.none0, rfl⟩, OwnV.none0, fun y hy => by cases hy⟩
theorem xS_k : xS.k = scS := rfl
theorem okS_zero : okS sc0 := ⟨⟨(fun o h => by cases h), by decide, rfl, fun i hi => by
  have : bt z0 i = 0 := (by decide : ∀ i : Nat, i < 10 → bt z0 i = 0) i hi
  show I64 (bt z0 i)
  rw [this]; unfold I64; omega⟩, (fun x h => by cases h), by decide⟩
theorem okS_V {s : SC} (h : okS s) (d : DV) : okS (stpV s d) := by
  unfold stpV
  split
  · rename_i he; exact okS_step h he
  · exact okS_zero
theorem may_x1 : mayV [95, 43, 95] 1 0 = 0 := by decide +kernel
theorem shown_1 : stpE scS dv4 = 0 ∧ stpV scS dv4 = ⟨([], zS), [([], zS)]⟩ := step_begin (s := scS) (d := dv4) rfl (by decide)
theorem shown_2 : stpE ⟨([], zS), [([], zS)]⟩ dv1 = 0 ∧ stpV ⟨([], zS), [([], zS)]⟩ dv1 = ⟨([([95, 43, 95], 1, 0)], zS), [([], zS)]⟩ := by
  have h : addE [] ([95, 43, 95], 1, 0) = 0 := addE_room may_x1 rfl (by decide)
  have e : stpE ⟨([], zS), [([], zS)]⟩ dv1 = 0 := by unfold stpE; rw [if_pos (show dv1.1 = 1 from rfl)]; exact h
  exact ⟨e, by unfold stpV stpG; rw [if_pos e, if_pos (show dv1.1 = 1 from rfl)]; rfl⟩
theorem shown_3 : stpE ⟨([([95, 43, 95], 1, 0)], zS), [([], zS)]⟩ dv5 = 0 ∧ stpV ⟨([([95, 43, 95], 1, 0)], zS), [([], zS)]⟩ dv5 = scS := step_end (s := ⟨([([95, 43, 95], 1, 0)], zS), [([], zS)]⟩) (d := dv5) rfl (by decide)
theorem XV.lens {w : World} {x : XV} (h : x.own w) : x.e.n = x.k.e.1.length ∧ x.n = x.k.st.length := ⟨(OpS.len h.e.1.vs).symm, by rw [← h.sk.len]; show x.V.length = (x.V.map AV.k).length; rw [List.length_map]⟩

set_option maxRecDepth 20000 in
set_option maxHeartbeats 8000000 in
theorem lshown_any (w : World) (ht : Tab w) : Calls Tryz.prog 5 #[] w fun e w' => e = .returned (.bool true) ∧ Below w.heap.size w w' := by
  have hnew : ∀ W : World, SB (W.alloc (.cells #[.slice none 0 0, .int .i64 0, .int .i64 0, .int .i64 0, .int .i64 0, .int .i64 0, .int .i64 0, .int .i64 0, .int .i64 0, .int .i64 0, .int .i64 0, .slice none 0 0] 31)) W.heap.size x0 := fun W => SB.new W x0
  have HT := Lib.hid ht
  clear ht
  go_enter Tryz.func5, Tryz.ntmps5
  go_wp2_with fail
  refine (sstart_any w).mono ?_
  rintro e w1 ⟨rfl, hb1⟩
  have HB1 : Hid (Below w.heap.size w w1) := Lib.hid hb1
  clear hb1
  go_wp2_with fail
  refine (sstep_any xS dv4 w1 (HT.out.keep HB1.out) (xS_own w1).ok okS_start (by decide)).mono ?_
  rw [xS_k, shown_1.1, shown_1.2]
  rintro e w2 ⟨y2, rfl, ho2, hk2, hb2⟩
  have HO2 := Lib.hid ho2
  have HK2 := Lib.hid hk2
  have HB2 : Hid (Below w.heap.size w w2) := Lib.hid (HB1.out.trans (hb2.mono HB1.out.size))
  clear ho2 hk2 hb2
  obtain ⟨A, hA⟩ : ∃ A, A = w2.heap.size := ⟨_, rfl⟩
  go_wp2_with (first
    | (refine load_scope rfl (.tmp 1) rfl A rfl y2 HO2.out.z HA3.out ?_)
    | (refine store_scope rfl (.tmp 1) (.tmp 11) rfl _ rfl y2 rfl HO2.out.z x0 rfl (hnew w2) ?_; rw [← hA]; intro w3 he3 hq3; have HA3 := Lib.hid he3; have HB23 : Hid (Below w2.heap.size w2 w3) := Lib.hid ((below_alloc w2 _).trans (hq3.below (by rw [hA]; exact Nat.le_refl _))); clear he3 hq3 hA))
  have HO3 := Lib.hid (HO2.out.below HB23.out)
  have HB3 : Hid (Below w.heap.size w w3) := Lib.hid (HB2.out.trans (HB23.out.mono HB2.out.size))
  refine (sstep_any y2 dv1 w3 (HT.out.keep HB3.out) HO3.out.ok (by rw [HK2.out, ← shown_1.2]; exact okS_V okS_start _) (by decide)).mono ?_
  rw [HK2.out, shown_2.1, shown_2.2]
  rintro e w4 ⟨y4, rfl, ho4, hk4, hb4⟩
  have HO4 := Lib.hid ho4
  have HK4 := Lib.hid hk4
  have HA4 := Lib.hid (HA3.out.below hb4)
  have HB4 : Hid (Below w.heap.size w w4) := Lib.hid (HB3.out.trans (hb4.mono HB3.out.size))
  clear ho4 hk4 hb4
  obtain ⟨B, hB⟩ : ∃ B, B = w4.heap.size := ⟨_, rfl⟩
  go_wp2_with (first
    | (refine load_scope rfl (.tmp 3) rfl B rfl y4 HO4.out.z HC5.out ?_)
    | (refine store_scope rfl (.tmp 3) (.tmp 18) rfl _ rfl y4 rfl HO4.out.z x0 rfl (hnew w4) ?_; rw [← hB]; intro w5 he5 hq5; have HC5 := Lib.hid he5; have HB45 : Hid (Below w4.heap.size w4 w5) := Lib.hid ((below_alloc w4 _).trans (hq5.below (by rw [hB]; exact Nat.le_refl _))); clear he5 hq5 hB))
  have HO5 := Lib.hid (HO4.out.below HB45.out)
  have HB5 : Hid (Below w.heap.size w w5) := Lib.hid (HB4.out.trans (HB45.out.mono HB4.out.size))
  refine (sstep_any y4 dv5 w5 (HT.out.keep HB5.out) HO5.out.ok (by rw [HK4.out, ← shown_2.2, ← shown_1.2]; exact okS_V (okS_V okS_start _) _) (by decide)).mono ?_
  rw [HK4.out, shown_3.1, shown_3.2]
  rintro e w6 ⟨y6, rfl, ho6, hk6, hb6⟩
  have HO6 := Lib.hid ho6
  have HK6 := Lib.hid hk6
  have HC6 := Lib.hid (HC5.out.below hb6)
  have HB6 : Hid (Below w.heap.size w w6) := Lib.hid (HB5.out.trans (hb6.mono HB5.out.size))
  clear ho6 hk6 hb6
  obtain ⟨C, hC⟩ : ∃ C, C = w6.heap.size := ⟨_, rfl⟩
  have L4 := XV.lens HO4.out
  rw [HK4.out] at L4
  have L6 := XV.lens HO6.out
  rw [HK6.out] at L6
  have HN : Hid (y4.e.n = 1 ∧ y6.e.n = 0 ∧ y6.n = 0) := Lib.hid ⟨L4.1, L6.1, L6.2⟩
  clear L4 L6
  go_wp2_with (refine store_scope rfl (.tmp 5) (.tmp 24) rfl _ rfl y6 rfl HO6.out.z x0 rfl (hnew w6) ?_; rw [← hC]; intro w7 he7 hq7; have HD7 := Lib.hid he7; have HB67 : Hid (Below w6.heap.size w6 w7) := Lib.hid ((below_alloc w6 _).trans (hq7.below (by rw [hC]; exact Nat.le_refl _))); have c1 := (HC6.out.below HB67.out).c0 HO4.out.z; have c2 := HD7.out.c0 HO6.out.z; have c3 := HD7.out.c11 HO6.out.z; rw [HN.out.1] at c1; rw [HN.out.2.1] at c2; rw [HN.out.2.2] at c3; clear he7 hq7 hC)
  go_ret
  exact ⟨rfl, HB6.out.trans (HB67.out.mono HB6.out.size)⟩

end Go.Proofs.YtcpmpidpoelleaaGreatDoor
