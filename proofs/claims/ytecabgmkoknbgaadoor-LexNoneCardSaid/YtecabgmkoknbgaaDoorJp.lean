/- LexNone's walk. -/
import Derived.Test.YtecabgmkoknbgaaDoorJh
import Derived.Test.YtecabgmkoknbgaaDoorJl
import Derived.Test.YtecabgmkoknbgaaDoorJs
namespace Go.Proofs.YtecabgmkoknbgaaDoor
open Go.RowKit

def blkL (k q : Nat) : List Int := List.replicate q 32 ++ List.replicate (k - q) 0
theorem blkL_set (k q : Nat) (h : q < k) : (blkL k q).set q 32 = blkL k (q + 1) := by
  unfold blkL
  rw [List.set_append_right _ _ (by simp), List.length_replicate, Nat.sub_self, show k - q = (k - (q + 1)) + 1 by omega, List.replicate_succ, List.set_cons_zero, List.replicate_succ', List.append_assoc]
  rfl

set_option maxRecDepth 100000 in
set_option maxHeartbeats 4000000 in
theorem lexNone_any (a : Option Addr) (len cap : Nat) (l : List Int) (c : Int) (w : World) (h : Bs w a len cap l) (ht : Tab w) (h0 : 0 ≤ c) (h1 : c ≤ 255) :
    Calls Tryd.prog 7 #[.slice a len cap, .int .u8 c] w fun e w' => e = .returned (.bool true) ∧ Below w.heap.size w w' := by
  have hb := few_bs h
  have H := Lib.hid h
  have HT := Lib.hid ht
  obtain ⟨C, rfl⟩ := Int.eq_ofNat_of_zero_le h0
  obtain ⟨L, hL⟩ : ∃ L, L = l.take 200 := ⟨_, rfl⟩
  obtain ⟨m, hm⟩ : ∃ m, m = min len 200 := ⟨_, rfl⟩
  rw [← hL, ← hm] at hb
  have hm1 : m ≤ 200 := by omega
  have HM := Lib.hid hm
  have HB := Lib.hid hb
  obtain ⟨k, hk⟩ : ∃ k, k = C % 64 := ⟨_, rfl⟩
  have hk64 : k < 64 := by omega
  have hri : ((C : Nat) : Int) % 64 = (k : Int) := by rw [hk, Int.natCast_emod]; rfl
  obtain ⟨T, hT⟩ : ∃ T, T = toks L := ⟨_, rfl⟩
  obtain ⟨n, hn⟩ : ∃ n, n = T.length := ⟨_, rfl⟩
  have hn1 : n ≤ 200 := by have := (toks_fl hb.rng).2; rw [← hT, ← hn, hb.hl] at this; omega
  have HTN := Lib.hid (And.intro hT hn)
  have HR := Lib.hid hb.rng
  have hmk := run_make_row' (P := Tryd.prog) 22 5 (.int .u8 0) 1 Tryd.underlying22 info5 rfl .i64 .i64 k (by omega) (by omega)
  clear h ht hL hm hb hk h0 hT hn
  go_enter Tryd.func7, Tryd.ntmps7
  go_wp2_with fail
  refine (shown_any _ HT.out).mono ?_
  rintro e w1 ⟨rfl, hb1⟩
  have HW1 := Lib.hid hb1
  clear hb1
  go_wp2
  go_loopw [7] (fun i wr => ∃ q : Nat, i = .int .i64 q ∧ q ≤ k ∧ Hid (OwnB w1.heap.size 5 wr (some ⟨w1.heap.size, 0, none⟩) k k (blkL k q)) ∧ Hid (Below w1.heap.size w1 wr)) (fun i _ => k - (intOf i).toNat)
  case atStart =>
    refine ⟨0, rfl, by omega, Lib.hid ?_, Lib.hid ((Below.refl _ _).alloc (Nat.le_refl _) _)⟩
    have := OwnB.zeros (base := w1.heap.size) w1 5 k (Nat.le_refl _) (by omega)
    simpa [blkL] using this
  case round =>
    obtain ⟨q, rfl, hq, HOB, HBL⟩ := hrel
    by_cases hqk : q < k
    · have hfz := HOB.out.frozen q
      have hcell := HOB.out.cell q hqk
      go_wp2
      go_roundw
      case rel => exact ⟨q + 1, by go_num, by omega, Lib.hid (by rw [← blkL_set k q hqk]; exact HOB.out.set q 32 (by decide)), Lib.hid (HBL.out.setCell (Nat.le_refl _) _)⟩
      case measure => simp [intOf]; omega
    · rename World => wa
      obtain rfl : q = k := by omega
      have HX : Hid (blkL q q = List.replicate q 32) := Lib.hid (by unfold blkL; rw [Nat.sub_self]; simp)
      rw [HX.out] at HOB
      have HBX := Lib.hid HOB.out.bs
      have HWa : Hid (Below w.heap.size w wa) := Lib.hid (HW1.out.trans (HBL.out.mono HW1.out.size))
      have hsa : w1.heap.size < wa.heap.size := by
        obtain ⟨g, hg, _, hlt⟩ := HOB.out.form (by simp)
        simp only [Option.some.injEq, Addr.mk.injEq, and_true] at hg
        omega
      clear hqk hmk hri
      go_wp2_with fail
      refine (few_any _ _ _ _ _ (H.out.below HWa.out)).mono ?_
      rintro e w' ⟨rfl, rfl⟩
      rw [← HM.out]
      go_wp2_with fail
      refine (all_any _ _ _ L _ (HB.out.below HWa.out) (HT.out.keep HWa.out) (by omega)).mono ?_
      rintro e w2 ⟨a2, rfl, hr2, hb2⟩
      rw [← HTN.out.1, ← HTN.out.2] at hr2 ⊢
      have HT2 := Lib.hid hr2.ts
      have HX2 := Lib.hid (HBX.out.below hb2)
      have HW2 : Hid (Below w.heap.size w w2) := Lib.hid (HWa.out.trans (hb2.mono HWa.out.size))
      clear hr2 hb2
      go_wp2_with (at_builtin; refine Hid.out ?_)
      refine Lib.hid ?_
      refine wpList_app rfl (.tmp 28) (.tmp 29) 22 rfl 5 w2.heap.size Tryd.underlying22 info5 _ _ _ [] rfl (OwnB.made (Nat.le_refl _)) _ _ _ (List.replicate q 32) rfl (HX2.out.alloc _) (by omega) (by simp) ?_
      intro a3 c3 w3 ho3 hb3
      rw [Nat.zero_add, List.nil_append] at ho3
      rw [Nat.zero_add]
      have HW3 : Hid (Below w2.heap.size w2 w3) := Lib.hid (((Below.refl _ w2).alloc (Nat.le_refl _) _).trans hb3)
      have HV3 : Hid (Below w.heap.size w w3) := Lib.hid (HW2.out.trans (HW3.out.mono HW2.out.size))
      have HO3 := Lib.hid ho3
      clear ho3 hb3
      go_wp2_with fail
      refine (few_any _ _ _ _ _ (H.out.below HV3.out)).mono ?_
      rintro e w' ⟨rfl, rfl⟩
      rw [← HM.out]
      go_wp2_with (at_builtin; refine Hid.out ?_)
      refine Lib.hid ?_
      refine wpList_app rfl (.tmp 30) (.tmp 32) 22 rfl 5 w2.heap.size Tryd.underlying22 info5 _ _ _ (List.replicate q 32) rfl HO3.out _ _ _ L rfl (HB.out.below HV3.out) (by omega) HW3.out.size ?_
      intro a4 c4 w4 ho4 hb4
      have HW4 : Hid (Below w2.heap.size w2 w4) := Lib.hid (HW3.out.trans hb4)
      have HV4 : Hid (Below w.heap.size w w4) := Lib.hid (HW2.out.trans (HW4.out.mono HW2.out.size))
      have HO4 := Lib.hid ho4
      clear ho4 hb4
      have HTB : Hid (toks (List.replicate q 32 ++ L) = T.map (shTK q) ∧ (toks (List.replicate q 32 ++ L)).length = n) := Lib.hid (by
        have := toks_blank q HR.out
        rw [← HTN.out.1] at this
        exact ⟨this, by rw [this, List.length_map, HTN.out.2]⟩)
      go_wp2_with fail
      refine (all_any _ _ _ (List.replicate q 32 ++ L) _ HO4.out.bs (HT.out.keep HV4.out) (by omega)).mono ?_
      rintro e w5 ⟨a5, rfl, hr5, hb5⟩
      rw [HTB.out.2, HTB.out.1] at hr5
      rw [HTB.out.2]
      have HW5 : Hid (Below w2.heap.size w2 w5) := Lib.hid (HW4.out.trans (hb5.mono HW4.out.size))
      have HR5 := Lib.hid hr5
      have hs45 : w2.heap.size ≤ w4.heap.size := HW4.out.size
      have HB5 : Hid (Below w4.heap.size w4 w5) := Lib.hid hb5
      clear hr5 hb5
      go_wp2
      go_loopw [10] (fun i wr => ∃ j : Nat, i = .int .i64 j ∧ j ≤ n ∧ Hid (RowT w4.heap.size 34 wr a5 n n (mixT T (T.map (shTK q)) j)) ∧ Hid (Below w4.heap.size w4 wr)) (fun i _ => n - (intOf i).toNat)
      case atStart => exact ⟨0, rfl, by omega, Lib.hid (by rw [mixT_zero]; exact HR5.out), HB5⟩
      case round =>
        rename World => wb
        obtain ⟨j, rfl, hj, HRJ, HBJ⟩ := hrel
        have hql : (T.map (shTK q)).length = n := by rw [List.length_map, HTN.out.2]
        by_cases hjn : j < n
        · obtain ⟨g, rfl, hg1, hg2⟩ := HRJ.out.form (by omega)
          obtain ⟨d0, d1, d2, d3, d4⟩ := HRJ.out.at5 hjn
          have z1 := HRJ.out.frozen (by omega) (j * 5 + 1)
          have z2 := HRJ.out.frozen (by omega) (j * 5 + 2)
          rw [mixT_at (by rw [hql]; exact hjn) (by rw [hql, HTN.out.2]), tat_map (by rw [← HTN.out.2]; exact hjn)] at d1 d2
          obtain ⟨f, p, x1, x2, x3, x4⟩ := toks_at HR.out (j := j) (by rw [← HTN.out.1, ← HTN.out.2]; exact hjn)
          rw [← HTN.out.1] at x1 x2
          rw [HB.out.hl] at x3 x4
          rw [show (shTK q (tat T j)).f = ((f + q : Nat) : Int) by unfold shTK; simp only; rw [x1]; omega] at d1
          rw [show (shTK q (tat T j)).t = ((p + q : Nat) : Int) by unfold shTK; simp only; rw [x2]; omega] at d2
          have HXX := Lib.hid (And.intro x1 x2)
          clear d0 d3 d4 x1 x2 hql
          have HT2J := Lib.hid (HRJ.out.set2 j hjn (f : Int) (p : Int))
          have HMX : Hid ((mixT T (T.map (shTK q)) j).set j ⟨(tat (mixT T (T.map (shTK q)) j) j).k, (f : Int), (p : Int), (tat (mixT T (T.map (shTK q)) j) j).s, (tat (mixT T (T.map (shTK q)) j) j).e⟩ = mixT T (T.map (shTK q)) (j + 1)) := Lib.hid (by
            rw [← mixT_step (by rw [List.length_map, ← HTN.out.2]; exact hjn) (by rw [List.length_map]), mixT_at (by rw [List.length_map, ← HTN.out.2]; exact hjn) (by rw [List.length_map]), tat_map (by rw [← HTN.out.2]; exact hjn), ← HXX.out.1, ← HXX.out.2]
            rfl)
          rw [HMX.out] at HT2J
          go_wp2
          go_roundw
          case rel => exact ⟨j + 1, by go_num, by omega, HT2J, Lib.hid ((HBJ.out.setCell hg1 _).setCell hg1 _)⟩
          case measure => simp [intOf]; omega
        · obtain rfl : j = n := by omega
          rw [mixT_all HTN.out.2.symm hql] at HRJ
          have HV : Hid (Below w.heap.size w wb) := Lib.hid (HV4.out.trans (HBJ.out.mono HV4.out.size))
          have hb2b : Below w2.heap.size w2 wb := HW4.out.trans (HBJ.out.mono hs45)
          have HXb := Lib.hid (HX2.out.below hb2b)
          have HTb := Lib.hid (HT2.out.below hb2b)
          clear hb2b hql
          go_wp2_with fail
          refine (all_any _ _ _ (List.replicate q 32) _ HXb.out (HT.out.keep HV.out) (by omega)).mono ?_
          rw [toks_blanks, List.length_nil]
          rintro e w6 ⟨a6, rfl, hr6, hb6⟩
          have HV6 : Hid (Below w.heap.size w w6) := Lib.hid (HV.out.trans (hb6.mono HV.out.size))
          have HT6 := Lib.hid (HTb.out.below hb6)
          have HR6 := Lib.hid (HRJ.out.ts.below hb6)
          clear hr6 hb6
          go_wp2_with fail
          refine (same_any _ _ _ T _ _ _ HT6.out HR6.out).mono ?_
          rintro e w7 ⟨rfl, hb7⟩
          have HV7 : Hid (Below w.heap.size w w7) := Lib.hid (HV6.out.trans (hb7.mono HV6.out.size))
          clear hb7
          go_wp2
          go_ret
          exact ⟨rfl, HV7.out⟩

end Go.Proofs.YtecabgmkoknbgaaDoor
