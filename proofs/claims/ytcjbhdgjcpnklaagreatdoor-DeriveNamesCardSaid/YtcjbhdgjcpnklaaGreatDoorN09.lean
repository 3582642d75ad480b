import Derived.Deep.RegionHeld3
import Derived.Deep.QuietTactic
import Derived.BigQuiet
import Derived.Test.YtcjbhdgjcpnklaaGreatDoorN07
import Derived.Test.YtcjbhdgjcpnklaaGreatDoorN08
namespace Go.Proofs.YtcjbhdgjcpnklaaGreatDoor
open Go.RowKit
def leafV (x : SR) (a b : Nat) : FV := if b = a + 1 ∧ leafB (tat x.tok a).k (freeB x.L x.z (txN (tat x.tok a))) = true then (1, [lfD x.tok a]) else (0, [])
set_option maxRecDepth 100000 in
set_option maxHeartbeats 8000000 in
theorem zSd (x : SR) (hx : SOk x) (a b : Nat) (hab : a ≤ b) (hb : b ≤ x.tn) (w : World) (s : Sit w x) :
  Calls Tryz.prog 64 #[.agg (srA x), .int .i64 (a : Int), .int .i64 (b : Int)] w fun e w' => FdP (leafV x a b) e w' ∧ Below w.heap.size w w' := by
 obtain ⟨B, hB⟩ : ∃ B, B = w.heap.size := ⟨_, rfl⟩
 obtain ⟨w1, hw1⟩ : ∃ w1, w1 = w.alloc (.cells (srA x) 78) := ⟨_, rfl⟩
 obtain ⟨w2, hw2⟩ : ∃ w2, w2 = w1.alloc (.cells (fdA 0 none 0 0) 80) := ⟨_, rfl⟩
 have s1 : w1.heap.size = B + 1 := by rw [hw1, hB]; simp
 have HX : Hid (Bk w2 B 78 (srA x)) := hid (by rw [hw2, hw1, hB]; exact (Bk.new w _ _).alloc _)
 have HR : Hid (Bk w2 (B + 1) 80 (fdA 0 none 0 0)) := hid (by rw [hw2, ← s1]; exact Bk.new w1 _ _)
 have HB2 : Hid (Below B w w2) := hid (by rw [hw2, hw1, hB]; exact (zAA w _).alloc (by simp) _)
 have HBB := hid hB
 have hz : fdA 0 none 0 0 = #[.int .i64 0, .slice none 0 0] := rfl
 have HS : Hid (Sit w2 x) := hid (s.below (by rw [← HBB.out]; exact HB2.out))
 have HSZ : Hid (B + 1 < w2.heap.size) := hid HR.out.lt
 rw [hz] at hw2
 have HOK := hid hx
 have hn := hx.tn
 obtain ⟨v, hv⟩ : ∃ v, v = leafV x a b := ⟨_, rfl⟩
 rw [← hv]
 have hab1 : IntKind.i64.wrap ((b : Int) - (a : Int)) = (b : Int) - (a : Int) := IntWalk.i64_in _ (by omega)
 by_cases hd : b = a + 1
 ·have HD := hid hd
  have hne : ((b : Int) - (a : Int) != 1) = false := by simp; omega
  have hlt : (a : Int) < (x.tn : Int) := by omega
  have ha0 : (0 : Int) ≤ (a : Int) := Int.natCast_nonneg _
  obtain ⟨tb, to_, hta, c0, c1, c2, c3, c4⟩ := zIa HS.out.tk (show a < x.tn by omega)
  obtain ⟨y, hy⟩ : ∃ y, y = tat x.tok a := ⟨_, rfl⟩
  rw [← hy] at c0 c1 c2 c3 c4
  have HY := hid hy
  obtain ⟨d, hdd⟩ : ∃ d, d = leafB y.k (freeB x.L x.z (txN y)) := ⟨_, rfl⟩
  have KL : Hid (∀ w', Below w2.heap.size w2 w' → Calls Tryz.prog 42 #[.agg (ev x.a x.n x.c x.z), .agg #[.int .i64 y.k, .int .i64 y.f, .int .i64 y.t, .string (mk (txN y)), .int .i64 y.e]] w' fun e w'' => e = .returned (.bool d) ∧ Below w'.heap.size w' w'') := hid fun w' hb' => by
   rw [hdd]
   exact zKk x.a x.n x.c x.L x.z y.k y.f y.t (txN y) y.e w' (HS.out.tab.keep hb') (HS.out.ops.below hb') HOK.out.z HOK.out.n HOK.out.nm
  have HK : Hid (∀ w', Below w2.heap.size w2 w' → (∀ j, j < 11 → w'.cell? ⟨B, 0 + j, none⟩ = (ev x.a x.n x.c x.z)[j]?) ∧ w'.cell? ⟨B, 11, none⟩ = some (.slice (some ⟨tb, to_, none⟩) x.tn x.tc) ∧ w'.cell? ⟨tb, to_ + a * 5, none⟩ = some (.int .i64 y.k) ∧ w'.cell? ⟨tb, to_ + a * 5 + 1, none⟩ = some (.int .i64 y.f) ∧ w'.cell? ⟨tb, to_ + a * 5 + 2, none⟩ = some (.int .i64 y.t) ∧ w'.cell? ⟨tb, to_ + a * 5 + 3, none⟩ = some (.string (mk (txN y))) ∧ w'.cell? ⟨tb, to_ + a * 5 + 4, none⟩ = some (.int .i64 y.e)) := hid fun w' hb' => by
   have hlt : tb < w2.heap.size := World.block_lt_of_cell? w2 ⟨tb, to_ + a * 5, none⟩ c0
   refine ⟨fun j hj => ?_, ?_, (hb'.cell hlt).trans c0, (hb'.cell hlt).trans c1, (hb'.cell hlt).trans c2, (hb'.cell hlt).trans c3, (hb'.cell hlt).trans c4⟩
   ·rw [Nat.zero_add, (HX.out.below hb').cell, zUA HOK.out.z hj]
   ·rw [(HX.out.below hb').cell, (zRi HOK.out.z).1, hta]
  have HL : Hid (v = if d = true then (1, [lfD x.tok a]) else (0, [])) := hid (by rw [hv]; unfold leafV; rw [← HY.out, ← hdd]; simp [HD.out])
  obtain ⟨nm, hnm⟩ : ∃ q, q = txN y := ⟨_, rfl⟩
  have HNM : Hid (lfD x.tok a = ⟨1, nm, a, b, 0⟩) := hid (by unfold lfD; rw [← HY.out, ← hnm, HD.out])
  rw [← hnm] at HK KL
  clear hy hv hdd hnm c0 c1 c2 c3 c4 hx hb hab hd
  go_enter Tryz.func64, Tryz.ntmps64
  go_upto_region 1 with fail
  rw [← hw1]
  try rw [← hw2]
  rw [← hB]
  try rw [s1]
  clear hw1 hw2 s1 hB hz
  refine wp_region_noPanic ?_
  refine wp_region_held_drew (S := fun w' => (∀ j, j < 11 → w'.cell? ⟨B, 0 + j, none⟩ = (ev x.a x.n x.c x.z)[j]?) ∧ w'.cell? ⟨B, 11, none⟩ = some (.slice (some ⟨tb, to_, none⟩) x.tn x.tc) ∧ w'.cell? ⟨tb, to_ + a * 5, none⟩ = some (.int .i64 y.k) ∧ w'.cell? ⟨tb, to_ + a * 5 + 1, none⟩ = some (.int .i64 y.f) ∧ w'.cell? ⟨tb, to_ + a * 5 + 2, none⟩ = some (.int .i64 y.t) ∧ w'.cell? ⟨tb, to_ + a * 5 + 3, none⟩ = some (.string (mk nm)) ∧ w'.cell? ⟨tb, to_ + a * 5 + 4, none⟩ = some (.int .i64 y.e)) (by kernel_rfl) (HK.out _ (Below.refl _ _).drew) (fun hHeld => ?_)
  refine zG 0 rfl ?_
  try simp only [Act.put, aS, aZ, aC]
  refine zG 1 rfl ?_
  try simp only [Act.put, aS, aZ, aC]
  refine zG 2 rfl ?_
  try simp only [Act.put, aS, aZ, aC]
  refine zG 3 rfl ?_
  try simp only [Act.put, aS, aZ, aC]
  refine zG 4 rfl ?_
  try simp only [Act.put, aS, aZ, aC]
  refine zG 5 rfl ?_
  try simp only [Act.put, aS, aZ, aC]
  refine zT 6 (v := .agg (ev x.a x.n x.c x.z)) rfl (fun w0 h0 => zEQ zKz (.tmp 12) B 0 rfl (ev x.a x.n x.c x.z) (zA7 HOK.out.z) h0.1) ?_
  try simp only [Act.put, aS, aZ, aC]
  refine zG 7 rfl ?_
  try simp only [Act.put, aS, aZ, aC]
  refine zG 8 rfl ?_
  try simp only [Act.put, aS, aZ, aC]
  refine zG 9 rfl ?_
  try simp only [Act.put, aS, aZ, aC]
  refine zG 10 rfl ?_
  try simp only [Act.put, aS, aZ, aC]
  refine zG 11 rfl ?_
  try simp only [Act.put, aS, aZ, aC]
  refine zR [12] ?_
  refine hDo rfl (fun K hK => ?_) ?_
  ·go_simp
   (go_at_call 42; (with_reducible refine (KL.out _ (Below.refl _ _).drew).mono ?_); rintro e w9 ⟨rfl, hb9⟩)
   have HB9 : Hid (Below w2.heap.size w2 w9) := hid ((Below.refl _ _).drew.trans hb9)
   clear hb9
   refine hK.out _ _ (HK.out _ HB9.out) (fun hHeld => ?_)
   clear hK K
   try simp only [Act.put, aS, aZ, aC]
   refine zG 13 rfl ?_
   try simp only [Act.put, aS, aZ, aC]
   refine zG 14 rfl ?_
   try simp only [Act.put, aS, aZ, aC]
   refine wpAnyH_done (by kernel_rfl) ?_ _
   refine NoPanic.normal ?_
   cases d with
   | false =>
    have HV : Hid (v = (0, [])) := hid (by rw [HL.out]; rfl)
    go_wp2_with (refine zAn zQc rfl (.tmp 6) (.tmp 22) rfl (B + 1) rfl (fdA 0 none 0 0) rfl rfl (zQe ..) (fdA 0 none 0 0) rfl (HR.out.below HB9.out) ?_; intro w4 h4 ho4; have H4 := hid h4; have HO4 := hid ho4; clear h4 ho4)
    refine bodyPost_ret (zNr zQc rfl _ _ (B + 1) (fdA 0 none 0 0) rfl rfl H4.out) rfl ⟨⟨none, 0, by rw [HV.out]; rfl, by rw [HV.out]; exact zQl _⟩, ?_⟩
    rw [← HBB.out]
    exact (HB2.out.trans (HB9.out.mono (Nat.le_of_lt (Nat.lt_of_succ_lt HSZ.out)))).trans (HO4.out.below (by omega))
   | true =>
    have HV : Hid (v = (1, [⟨1, nm, a, b, 0⟩])) := hid (by rw [HL.out, HNM.out]; rfl)
    obtain ⟨_, e11, _, _, _, f3, _⟩ := HK.out _ HB9.out
    go_wp2_with fail
    obtain ⟨wA, hwA⟩ : ∃ q, q = w9.alloc (.cells #[.int .i64 1, .string (mk nm), .int .i64 (a : Int), .int .i64 (b : Int), .int .i64 0] 85) := ⟨_, rfl⟩
    have HN : Hid (NdS wA (some ⟨w9.heap.size, 0, none⟩) 1 1 [⟨1, nm, a, b, 0⟩]) := hid (by rw [hwA]; exact zTP w9 ⟨1, nm, a, b, 0⟩ rfl)
    have HBA : Hid (Below w2.heap.size w2 wA) := hid (by rw [hwA]; exact HB9.out.alloc HB9.out.size _)
    obtain ⟨g, hg⟩ : ∃ g, g = w9.heap.size := ⟨_, rfl⟩
    rw [← hwA, ← hg]
    rw [← hg] at HN
    clear hwA hg e11 f3
    refine (zQ5 _ 1 1 _).mono ?_
    rintro e w10 ⟨rfl, hb10⟩
    have HN10 := hid (HN.out.below hb10)
    have HB10 : Hid (Below w2.heap.size w2 w10) := hid (HBA.out.trans (hb10.mono HBA.out.size))
    clear hb10
    go_wp2_with (refine zAn zQc rfl (.tmp 6) (.tmp 33) rfl (B + 1) rfl (fdA 1 (some ⟨g, 0, none⟩) 1 1) rfl rfl (zQe ..) (fdA 0 none 0 0) rfl (HR.out.below HB10.out) ?_; intro w4 h4 ho4; have H4 := hid h4; have HO4 := hid ho4; clear h4 ho4)
    refine bodyPost_ret (zNr zQc rfl _ _ (B + 1) (fdA 1 (some ⟨g, 0, none⟩) 1 1) rfl rfl H4.out) rfl ⟨⟨some ⟨g, 0, none⟩, 1, by rw [HV.out]; rfl, by rw [HV.out]; exact HN10.out.fnd (HR.out.below HB10.out) HO4.out⟩, ?_⟩
    rw [← HBB.out]
    exact (HB2.out.trans (HB10.out.mono (by have := HSZ.out; omega))).trans (HO4.out.below (by omega))
  ·exact AllReadyH.nil
 ·have hne : ((b : Int) - (a : Int) != 1) = true := by simp; omega
  have HV : Hid (v = (0, [])) := hid (by rw [hv]; unfold leafV; rw [if_neg (by omega)])
  clear hv hx hb hab hd
  go_enter Tryz.func64, Tryz.ntmps64
  go_upto_region 1 with fail
  rw [← hw1]
  try rw [← hw2]
  rw [← hB]
  try rw [s1]
  clear hw1 hw2 s1 hB hz
  go_quiet (fail)
  go_wp2_with (refine zAn zQc rfl (.tmp 6) (.tmp 22) rfl (B + 1) rfl (fdA 0 none 0 0) rfl rfl (zQe ..) (fdA 0 none 0 0) rfl (HR.out.below (below_drewN (Below.refl _ _) _)) ?_; intro w4 h4 ho4; have H4 := hid h4; have HO4 := hid ho4; clear h4 ho4)
  refine bodyPost_ret (zNr zQc rfl _ _ (B + 1) (fdA 0 none 0 0) rfl rfl H4.out) rfl ⟨⟨none, 0, by rw [HV.out]; rfl, by rw [HV.out]; exact zQl _⟩, ?_⟩
  rw [← HBB.out]
  exact (below_drewN HB2.out _).trans (HO4.out.below (by omega))
end Go.Proofs.YtcjbhdgjcpnklaaGreatDoor
