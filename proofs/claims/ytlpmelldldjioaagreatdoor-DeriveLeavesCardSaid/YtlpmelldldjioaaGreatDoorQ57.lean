import Derived.Test.YtlpmelldldjioaaGreatDoorQ56
import Derived.Test.YtlpmelldldjioaaGreatDoorQ49
namespace Go.Proofs.YtlpmelldldjioaaGreatDoor
section
open Go.RowKit
def tK (t : TypeId) : Prop := t = 58
theorem nodes_one (k : Int) (f t : Int) (s : Nm) (e : Int) : txN (⟨k, f, t, mk s, e⟩ : TK) = s := rfl
set_option maxRecDepth 100000 in
set_option maxHeartbeats 32000000 in
theorem deriveLeaves_any (k f t : Int) (s : Nm) (e : Int) (w : World) (ht : Tab w) :
  Calls Tryz.prog 13 #[.agg #[.int .i64 k, .int .i64 f, .int .i64 t, .string (mk s), .int .i64 e]] w fun e' w' => e' = .returned (.bool true) ∧ Below w.heap.size w w' := by
 have HT := hid ht
 obtain ⟨B, hB⟩ : ∃ B, B = w.heap.size := ⟨_, rfl⟩
 obtain ⟨w1, hw1⟩ : ∃ w1, w1 = w.alloc (.cells #[.int .i64 k, .int .i64 f, .int .i64 t, .string (mk s), .int .i64 e] 58) := ⟨_, rfl⟩
 have HX1 : Hid (T5 w1 B k f t s e) := hid (by rw [hw1, hB]; exact T5.new w k f t s e)
 have HB1 : Hid (Below w.heap.size w w1) := hid (by rw [hw1]; exact below_alloc w _)
 have HBB : Hid (w.heap.size ≤ B) := hid (by rw [hB]; exact Nat.le_refl _)
 have hsz : (mk s).size = s.length := mk_size s
 obtain ⟨m, hm⟩ : ∃ m, m = s.length := ⟨_, rfl⟩
 rw [← hm] at hsz
 obtain ⟨v, hv⟩ : ∃ v, v = min m 20 := ⟨_, rfl⟩
 have hmin : min (m : Int) 20 = (v : Int) := by omega
 have hsl := cut20 s v (by rw [hv, hm])
 have hv0 : (0 : Int) ≤ (v : Int) := Int.natCast_nonneg _
 obtain ⟨p', hp'⟩ : ∃ q, q = s.take 20 := ⟨_, rfl⟩
 rw [← hp'] at hsl
 clear hm hv hp' ht
 go_enter Tryz.func13, Tryz.ntmps13
 go_upto_region 1 with fail
 rw [← hw1, ← hB]
 clear hw1 hB
 go_wp2_with fail
 refine (dshown_any w1 (HT.out.keep HB1.out)).mono ?_
 rintro e' w2 ⟨rfl, hb2⟩
 have HB2 : Hid (Below w.heap.size w w2) := hid (HB1.out.trans (hb2.mono HB1.out.size))
 have HX2 := hid (HX1.out.below hb2)
 clear hb2 HX1 HB1
 go_wp2_with fail
 obtain ⟨wA, hwA⟩ : ∃ q, q = w2.alloc (.cells #[.string { data := #[95, 43, 95] }, .int .i64 3, .int .i64 0, .string { data := #[105, 102, 95, 116, 104, 101, 110, 95] }, .int .i64 5, .int .i64 0, .string { data := #[91, 95, 93] }, .int .i64 2, .int .i64 0] 51) := ⟨_, rfl⟩
 have HOP : Hid (OpS wA (some ⟨w2.heap.size, 0, none⟩) 3 3 [(pPlus, 3, 0), (pIf, 5, 0), (pBr, 2, 0)]) := hid (by rw [hwA]; exact ops_lits w2 [(pPlus, 3, 0), (pIf, 5, 0), (pBr, 2, 0)] rfl (by decide) rfl rfl)
 have HBA : Hid (Below w2.heap.size w2 wA) := hid (by rw [hwA]; exact below_alloc w2 _)
 obtain ⟨g, hg⟩ : ∃ g, g = w2.heap.size := ⟨_, rfl⟩
 rw [← hwA, ← hg]
 rw [← hg] at HOP
 clear hwA hg
 refine (dwith_own _ 3 3 [(pPlus, 3, 0), (pIf, 5, 0), (pBr, 2, 0)] wA (HT.out.keep (HB2.out.trans (HBA.out.mono HB2.out.size))) HOP.out (by decide) (by decide)).mono ?_
 rw [wth_3]
 rintro e' wB ⟨ea, em, ec, rfl, ho, hb⟩
 obtain rfl : em = 3 := (OpS.len ho.vs).symm
 have HBC : Hid (Below w2.heap.size w2 wB) := hid (HBA.out.trans (hb.mono HBA.out.size))
 have HBW : Hid (Below w.heap.size w wB) := hid (HB2.out.trans (HBC.out.mono HB2.out.size))
 have HXB := hid (HX2.out.below HBC.out)
 have HOB := hid ho
 obtain ⟨E, hE⟩ : ∃ q, q = wB.heap.size := ⟨_, rfl⟩
 have HEE := hid hE
 have HEB : Hid (B < E) := hid (by rw [hE]; exact (Array.getElem?_eq_some_iff.1 HXB.out).1)
 have hnew : EB (wB.alloc (.cells #[.slice none 0 0, .int .i64 0, .int .i64 0, .int .i64 0, .int .i64 0, .int .i64 0, .int .i64 0, .int .i64 0, .int .i64 0, .int .i64 0, .int .i64 0] 26)) E none 0 0 z0 := by rw [hE]; exact EB.new wB none 0 0 z0
 have HNEW := hid hnew
 clear ho hb hE hnew HOP HBA HX2 HB2 HBC
 go_wp2_with (first
  | (refine store_env rfl (.tmp 4) (.tmp 16) rfl E (by rw [HEE.out]; rfl) ea 3 ec zS rfl rfl none 0 0 z0 z0_len HNEW.out ?_; rw [← HEE.out]; intro wC h3 ho3; have HE3 := hid h3; have HB3 : Hid (Below wB.heap.size wB wC) := hid ((below_alloc wB _).trans (ho3.below (by rw [HEE.out]; exact Nat.le_refl _))); have HXC := hid (HXB.out.below HB3.out); have d3 := HXC.out.cells.2.2.2.1; clear h3 ho3)
  | (refine store_t5 rfl (.tmp 24) (.tmp 23) rfl B rfl p' rfl k f t s e HXC.out ?_; intro w5 h5 ho5; have H5 := hid h5; have HE5 : Hid (EB w5 E ea 3 ec zS) := hid (HE3.out.only ho5 (by have := HEB.out; omega)); have HB5 : Hid (Below w.heap.size w w5) := hid ((HBW.out.trans (HB3.out.mono HBW.out.size)).trans (ho5.below HBB.out)); have HO5 : Hid (OpS w5 ea 3 ec L3) := hid ((HOB.out.keep HB3.out (Nat.le_refl _)).kt (P := tK) (by unfold tK; decide) (Kt.only HXC.out rfl ho5)).vs; clear h5 ho5 d3)
  | (refine load_env rfl (.tmp 4) rfl E rfl ea 3 ec zS rfl HE5.out ?_)
  | (refine load_t5 rfl (.tmp 1) rfl B rfl k f t p' e H5.out ?_))
 refine (count_any ea 3 ec L3 zS _ 1 1 [⟨k, f, t, mk p', e⟩] _ (HT.out.keep (HB5.out.alloc HB5.out.size _)) (HO5.out.below (below_alloc w5 _)) (Ts.one w5 58 ⟨k, f, t, mk p', e⟩ rfl rfl) rfl zS_i64d srt_3 (by decide) nm_3 (by decide)).mono ?_
 rintro e' w6 ⟨m1, T1, na, nc, rfl, hn, hc, hb6⟩
 have HB6 : Hid (Below w5.heap.size w5 w6) := hid ((below_alloc w5 _).trans (hb6.mono (below_alloc w5 _).size))
 have HE6 := hid (HE5.out.below HB6.out)
 have HCN := hid (cnt_leaf hc)
 have HN6 := hid hn
 clear hn hc hb6
 go_wp2_with (refine load_env rfl (.tmp 4) rfl E rfl ea 3 ec zS rfl HE6.out ?_)
 refine (count_any ea 3 ec L3 zS none 0 0 [] w6 (HT.out.keep (HB5.out.trans (HB6.out.mono HB5.out.size))) (HO5.out.below HB6.out) (Ts.nil _ _ _ (Nat.zero_le _)) rfl zS_i64d srt_3 (by decide) nm_3 (by decide)).mono ?_
 rintro e' w7 ⟨m2, T2, na2, nc2, rfl, _, hc2, hb7⟩
 obtain rfl := cnt_nothing hc2
 have HB7 : Hid (Below w5.heap.size w5 w7) := hid (HB6.out.trans (hb7.mono HB6.out.size))
 have HW7 : Hid (Below w.heap.size w w7) := hid (HB5.out.trans (HB7.out.mono HB5.out.size))
 obtain ⟨d0, d1, d2, d3, d4⟩ := (H5.out.below HB7.out).cells
 have HN7 : Hid (NdS w7 na T1.length nc T1) := hid (HN6.out.below hb7)
 clear hc2 hb7 HB6 HE6 HN6 HB7 HOB HNEW HEE HXB HBW HE3 HB3 HXC H5 HE5 HO5 d1 d2 d4 hsl hmin hv0 hsz
 have HQ : Hid (∀ l, ((mk p').toList == l) = (p' == l)) := hid fun l => by rw [mk_toList]
 go_upto_region 6 with fail
 go_cut [9] (fun v wx => v = .bool (part3 p') ∧ wx = w7)
 case first =>
  go_wp2
  all_goals
   go_meet
   refine ⟨congrArg Value.bool ?_, rfl⟩
   simp_all [part3, mk_toList, Bool.or_assoc]
 case rest =>
  obtain ⟨rfl, rfl⟩ := hcut
  obtain ⟨b, hb⟩ : ∃ b, b = part3 p' := ⟨_, rfl⟩
  have HCB := HCN.out
  rw [nodes_one, ← hb] at HCB
  rw [← hb]
  clear hb
  cases hl : leafB k (!b) with
  | false =>
   obtain rfl := HCB.2 hl
   have k3 : (k == 3) = false := by cases h : k == 3 <;> simp_all [leafB]
   have k4 : (k == 4) = false := by cases h : k == 4 <;> simp_all [leafB]
   have k5 : (k == 5) = false := by cases h : k == 5 <;> simp_all [leafB]
   have k12 : (k == 1 || k == 2) = true → b = true := by intro h; cases b <;> simp_all [leafB]
   cases h1 : k == 1 with
   | true =>
    obtain rfl := k12 (by rw [h1]; rfl)
    obtain rfl : k = 1 := eq_of_beq h1
    clear hl HCB k12 k3 k4 k5 h1
    go_wp2
    go_ret
    exact ⟨rfl, HW7.out⟩
   | false =>
    cases h2 : k == 2 with
    | true =>
     obtain rfl := k12 (by rw [h1, h2]; rfl)
     obtain rfl : k = 2 := eq_of_beq h2
     clear hl HCB k12 k3 k4 k5 h1 h2
     go_wp2
     go_ret
     exact ⟨rfl, HW7.out⟩
    | false =>
     clear hl HCB k12
     go_wp2
     go_ret
     exact ⟨rfl, HW7.out⟩
  | true =>
   obtain ⟨rfl, rfl⟩ := HCB.1 hl
   have HN8 : Hid (NdS wc na 1 nc [⟨1, p', 0, 1, 0⟩]) := HN7
   obtain ⟨nb, no, rfl, _, hcc⟩ := HN8.out.at_ (show 0 < 1 by decide)
   clear hcc
   obtain ⟨c0, c1, c2, c3, c4⟩ := NdS.at5 HN8.out (show 0 < 1 by decide)
   rw [Nat.zero_mul, Nat.add_zero] at c0 c1 c2 c3 c4
   rw [show nA [(⟨1, p', 0, 1, 0⟩ : ND)] 0 = ⟨1, p', 0, 1, 0⟩ from rfl] at c0 c1 c2 c3 c4
   dsimp only at c0 c1 c2 c3 c4
   have hkk : (k = 3 ∨ k = 4 ∨ k = 5) ∨ (k = 1 ∨ k = 2) ∧ b = false := by cases b <;> simp_all [leafB]
   clear hl HCB
   rcases hkk with (rfl | rfl | rfl) | ⟨rfl | rfl, rfl⟩
   all_goals
    go_wp2
    go_region
    go_wp2
    go_ret
    exact ⟨rfl, HW7.out.drew⟩
end
end Go.Proofs.YtlpmelldldjioaaGreatDoor
