/- RopeTwice's walk. -/
import Derived.Test.YtkpdehbffankkaaNt
namespace Go.Proofs.Ytkpdehbffankkaa
open Go.RowKit

theorem neqR_some (w : World) (a : Addr) : (binOp .neq 26 (.pointer (some a)) (.pointer none)).run Try.prog w = .ok (.bool true) w := by
  have h : ∀ d : Nat, (Op.equalIn (d + 1) 26 (.pointer (some a)) (.pointer none)).run Try.prog w = .ok false w := fun d => by
    simp [Op.equalIn, run_underlying (P := Try.prog) Try.underlying26, samePointer]
  simp only [binOp]
  simp [Op.equal, Op.maxDepth, h 9999]

/-- b[k:], whatever room there is. -/
theorem slice_from {g off n c k : Nat} (hk : k ≤ n) (hc : n ≤ c) (_ : c ≤ maxLen) : ∃ a' c', (∀ w, (Instr.slice 22 (.slice (some ⟨g, off, none⟩) n c) (some (.int .i64 k)) none none).run Try.prog w = .ok (.slice a' (n - k) c') w) ∧
    ∀ w l, Bs w (some ⟨g, off, none⟩) n c l → Bs w a' (n - k) c' (l.drop k) := by
  obtain ⟨i, hi, hz, hs, hby⟩ := info_parts info5
  have he : Try.prog.elem 22 = 5 := by kernel_rfl
  have hr : ∀ w, (Instr.slice 22 (.slice (some ⟨g, off, none⟩) n c) (some (.int .i64 k)) none none).run Try.prog w = .ok (sliced (some ⟨g, off, none⟩) k n c 1) w := fun w => by
    have := run_slice_l (P := Try.prog) w 22 (some ⟨g, off, none⟩) n c (by rw [he]; exact Try.underlying22) .i64 k (by omega) (by omega)
    rw [this, he, Int.toNat_natCast]
    simp [sizeOf, typeInfo, hi, hs, Result.andThen]
  by_cases h : c = k
  · refine ⟨some ⟨g, off, none⟩, c - k, fun w => by rw [hr w]; simp [sliced, h], fun w l hb => ?_⟩
    have hnk : n = k := by omega
    subst hnk
    rw [Nat.sub_self]
    exact hb.none_left _ _ (by omega)
  · refine ⟨some ⟨g, off + k, none⟩, c - k, fun w => by rw [hr w]; simp [sliced, h, addr_add], fun w l hb => ?_⟩
    exact hb.drop hk

/-- Y put in at k. -/
def ins (L : List Int) (k : Nat) (Y : List Int) : List Int := L.take k ++ Y ++ L.drop k

theorem ins_take {L Y : List Int} {k : Nat} (h : k ≤ L.length) : (ins L k Y).take k = L.take k := by
  unfold ins
  rw [List.append_assoc, List.take_append_of_le_length (by rw [List.length_take]; omega), List.take_take, Nat.min_self]
theorem ins_drop {L Y : List Int} {k j : Nat} (h : k ≤ L.length) : (ins L k Y).drop (k + j) = (Y ++ L.drop k).drop j := by
  unfold ins
  rw [List.append_assoc, List.drop_append, List.length_take, Nat.min_eq_left h, List.drop_of_length_le (by rw [List.length_take]; omega), List.nil_append]
  congr 1
  omega
theorem ins_length {L Y : List Int} {k : Nat} (h : k ≤ L.length) : (ins L k Y).length = L.length + Y.length := by
  unfold ins
  rw [List.length_append, List.length_append, List.length_take, List.length_drop]
  omega
theorem ins_ins {L X Y : List Int} {k : Nat} (h : k ≤ L.length) : ins (ins L k X) k Y = ins L k (Y ++ X) := by
  have h1 := ins_drop (Y := X) (j := 0) h
  rw [Nat.add_zero, List.drop_zero] at h1
  rw [ins, ins_take h, h1, ins]
  simp only [List.append_assoc]
theorem ins_nil {L : List Int} {k : Nat} : ins L k [] = L := by
  unfold ins; rw [List.append_nil, List.take_append_drop]
/-- The first j bytes of what was put in are taken out. -/
theorem ins_out {L Y : List Int} {k j : Nat} (h : k ≤ L.length) (hj : j ≤ Y.length) : (ins L k Y).take k ++ [] ++ (ins L k Y).drop (k + j) = ins L k (Y.drop j) := by
  rw [ins_take h, ins_drop h, List.append_nil, ins, List.drop_append_of_le_length hj, List.append_assoc]

set_option maxRecDepth 100000 in
set_option maxHeartbeats 2000000 in
theorem twice_any (a0 : Option Addr) (n0 c0 : Nat) (l0 : List Int) (a1 : Option Addr) (n1 c1 : Nat) (l1 : List Int) (z : Nat) (hz : z ≤ 65535) (w : World) (hB0 : Bs w a0 n0 c0 l0) (hB1 : Bs w a1 n1 c1 l1) :
    Calls Try.prog 8 #[.slice a0 n0 c0, .slice a1 n1 c1, .int .u16 z] w fun e w' => e = .returned (.bool true) ∧ Below w.heap.size w w' := by
  have H0 := Lib.hid hB0
  have H1 := Lib.hid hB1
  clear hB0 hB1
  have x3 := wrap_nat z (by omega)
  have kn := neqR_some
  go_enter Try.func8, Try.ntmps8
  go_wp2_with fail
  refine (shown_any w).mono ?_
  rintro e w1 ⟨rfl, hb1⟩
  have HW1 := Lib.hid hb1
  clear hb1
  go_wp2_with fail
  refine (few_any _ _ _ _ _ (H0.out.below HW1.out)).mono ?_
  rintro e w2 ⟨gb, cb, m, hm, rfl, ho, hb2⟩
  have HW2 := Lib.hid (HW1.out.trans (hb2.mono HW1.out.size))
  obtain ⟨B, hB⟩ : ∃ B, l0.take 300 = B := ⟨_, rfl⟩
  rw [hB] at ho
  have hm2 : m ≤ 300 := by omega
  have hBl := ho.bs.hl
  have HBL := Lib.hid hBl
  have HO2 := Lib.hid ho
  clear hb2 ho hm hB hBl
  go_wp2_with fail
  refine (new_any _ m _ _ w2 HO2.out.bs (by omega)).mono ?_
  rintro e w3 ⟨g, t, rfl, h1, h2, h3, h4⟩
  have HW3 := Lib.hid (HW2.out.trans (h4.mono HW2.out.size))
  have HR := Lib.hid h1
  have HL := Lib.hid h2
  clear h1 h2 h3 h4
  obtain ⟨k, hk⟩ : ∃ k, k = z % (m + 1) := ⟨_, rfl⟩
  have hk2 : k ≤ m := by have := Nat.mod_lt z (show 0 < m + 1 by omega); omega
  have e3 : (z : Int) % ((m : Int) + 1) = (k : Int) := by rw [hk]; simp
  have t3 : Int.tmod (z : Int) ((m : Int) + 1) = (k : Int) := by rw [Int.tmod_eq_emod_of_nonneg (by omega)]; exact e3
  have a1' := wrap_nat (m + 1) (by omega)
  rw [Int.natCast_add, show ((1 : Nat) : Int) = 1 from rfl] at a1'
  have z0 : ¬ ((m : Int) + 1 = 0) := by omega
  clear hk
  go_wp2_with fail
  refine (few_any _ _ _ _ _ (H1.out.below HW3.out)).mono ?_
  rintro e w4 ⟨gx, cx, mx, hmx, rfl, ho, hb4⟩
  have HW4 := Lib.hid (HW3.out.trans (hb4.mono HW3.out.size))
  obtain ⟨X, hX⟩ : ∃ X, l1.take 300 = X := ⟨_, rfl⟩
  rw [hX] at ho
  have hmx2 : mx ≤ 300 := by omega
  have HXL := Lib.hid ho.bs.hl
  have HX := Lib.hid ho
  have HR := Lib.hid (HR.out.below hb4)
  have hxc := ho.bs.lc
  have hxm := ho.bs.cm
  clear hb4 ho hmx hX
  obtain ⟨hf, hhf⟩ : ∃ hf, hf = mx / 2 := ⟨_, rfl⟩
  have q1 : (mx : Int) / 2 = (hf : Int) := by omega
  have q2 : Int.tdiv (mx : Int) 2 = (hf : Int) := by rw [Int.tdiv_eq_ediv_of_nonneg (by omega)]; exact q1
  have hle : hf ≤ mx := by omega
  have HLE := Lib.hid hle
  obtain ⟨ad, cd, hsl, hsb⟩ := slice_from (g := gx) (off := 0) hle hxc hxm
  have HSB := Lib.hid hsb
  have hhc : hf ≤ cx := by omega
  have hcm : cx ≤ 9223372036854775807 := by unfold maxLen at hxm; omega
  clear hhf hsb hle hxc hxm
  have i0 : (0 : Int) ≤ (hf : Int) := by omega
  have i1 : (hf : Int) ≤ (cx : Int) := by omega
  go_wp2_with fail
  refine (rep_any k 0 _ mx cx X HR.out HX.out.bs (by rw [HL.out, HBL.out]; omega) (by rw [HL.out, HBL.out]; omega)).mono ?_
  rintro e w5 ⟨g1, t1, e1, rfl, h1, h2, h3, h4⟩
  have HW5 := Lib.hid (HW4.out.trans (h4.mono HW4.out.size))
  have HR := Lib.hid (HR.out.below h4)
  have HX := Lib.hid (HX.out.keep h4 (Nat.le_refl _))
  have HR1 := Lib.hid h1
  have HL1 : Hid (t1.l = ins B k X) := Lib.hid (by rw [h2, HL.out]; rfl)
  clear h1 h2 h3 h4
  go_wp2_with fail
  refine (rep_any k 0 ad (mx - hf) cd (X.drop hf) HR.out (HSB.out _ _ HX.out.bs) (by rw [HL.out, HBL.out]; omega) (by rw [HL.out, HBL.out]; omega)).mono ?_
  rintro e w6 ⟨g2, t2, e2, rfl, h1, h2, h3, h4⟩
  have HW6 := Lib.hid (HW5.out.trans (h4.mono HW5.out.size))
  have HR := Lib.hid (HR.out.below h4)
  have HX := Lib.hid (HX.out.keep h4 (Nat.le_refl _))
  have HR1 := Lib.hid (HR1.out.below h4)
  have HR2 := Lib.hid h1
  have HL2 : Hid (t2.l = ins B k (X.drop hf)) := Lib.hid (by rw [h2, HL.out]; rfl)
  clear h1 h2 h3 h4
  have hN2 : t2.l.length = m + (mx - hf) := by rw [HL2.out, ins_length (by rw [HBL.out]; omega), List.length_drop, HBL.out, HXL.out]
  have HN2 := Lib.hid hN2
  clear hN2
  go_wp2_with fail
  refine (rep_any k 0 _ hf cx (X.take hf) HR2.out (HX.out.bs.take HLE.out hhc HX.out.bs.cm) (by rw [HN2.out]; omega) (by rw [HN2.out]; omega)).mono ?_
  rintro e w7 ⟨g3, t3, e3', rfl, h1, h2, h3, h4⟩
  have HW7 := Lib.hid (HW6.out.trans (h4.mono HW6.out.size))
  have HR := Lib.hid (HR.out.below h4)
  have HR1 := Lib.hid (HR1.out.below h4)
  have HR2 := Lib.hid (HR2.out.below h4)
  have HR3 := Lib.hid h1
  have HL3 : Hid (t3.l = ins B k X) := Lib.hid (by
    have := ins_ins (X := X.drop hf) (Y := X.take hf) (L := B) (k := k) (by rw [HBL.out]; omega)
    rw [List.take_append_drop] at this
    rw [h2, HL2.out]; exact this)
  have hN3 : t3.l.length = m + mx := by rw [HL3.out, ins_length (by rw [HBL.out]; omega), HBL.out, HXL.out]
  have HN3 := Lib.hid hN3
  clear h1 h2 h3 h4 hN3 HX
  go_wp2_with fail
  refine (rep_any k hf none 0 0 [] HR3.out (Bs.nil _ _ _ (Nat.zero_le _)) (by rw [HN3.out]; omega) (by rw [HN3.out]; omega)).mono ?_
  rintro e w8 ⟨g4, t4, e4, rfl, h1, h2, h3, h4⟩
  have HW8 := Lib.hid (HW7.out.trans (h4.mono HW7.out.size))
  have HR := Lib.hid (HR.out.below h4)
  have HR1 := Lib.hid (HR1.out.below h4)
  have HR2 := Lib.hid (HR2.out.below h4)
  have HR3 := Lib.hid (HR3.out.below h4)
  have HR4 := Lib.hid h1
  have HL4 : Hid (t4.l = ins B k (X.drop hf)) := Lib.hid (by rw [h2, HL3.out]; exact ins_out (by rw [HBL.out]; omega) (by rw [HXL.out]; omega))
  have hN4 : t4.l.length = m + (mx - hf) := by rw [HL4.out, ins_length (by rw [HBL.out]; omega), List.length_drop, HBL.out, HXL.out]
  have HN4 := Lib.hid hN4
  clear h1 h2 h3 h4 hN4
  have s1 : IntKind.i64.wrap ((mx : Int) - (hf : Int)) = ((mx - hf : Nat) : Int) := by rw [IntKind.wrap_i64]; omega
  obtain ⟨r, hr⟩ : ∃ r, mx - hf = r := ⟨_, rfl⟩
  rw [hr] at s1
  have HRR := Lib.hid hr
  rw [hr] at HN4
  have hr3 : r ≤ 300 := by omega
  clear hr
  go_wp2_with fail
  refine (rep_any k r none 0 0 [] HR4.out (Bs.nil _ _ _ (Nat.zero_le _)) (by rw [HN4.out]; omega) (by rw [HN4.out]; omega)).mono ?_
  rintro e w9 ⟨g5, t5, e5, rfl, h1, h2, h3, h4⟩
  have HW9 := Lib.hid (HW8.out.trans (h4.mono HW8.out.size))
  have HR := Lib.hid (HR.out.below h4)
  have HR1 := Lib.hid (HR1.out.below h4)
  have HR2 := Lib.hid (HR2.out.below h4)
  have HR3 := Lib.hid (HR3.out.below h4)
  have HR4 := Lib.hid (HR4.out.below h4)
  have HR5 := Lib.hid h1
  have HL5 : Hid (t5.l = B) := Lib.hid (by
    rw [h2, HL4.out]
    refine (ins_out (by rw [HBL.out]; omega) (by rw [List.length_drop, HXL.out, HRR.out]; omega)).trans ?_
    rw [List.drop_drop, List.drop_of_length_le (by rw [HXL.out, ← HRR.out]; have := HLE.out; omega), ins_nil])
  clear h1 h2 h3 h4 HN2 HN3 HN4 HRR s1 hsl HSB
  obtain ⟨V, hV⟩ : ∃ V, ins B k X = V := ⟨_, rfl⟩
  obtain ⟨U, hU⟩ : ∃ U, ins B k (X.drop hf) = U := ⟨_, rfl⟩
  rw [hV] at HL1 HL3
  rw [hU] at HL2 HL4
  have HA0 : Hid (Below w9.heap.size w9 w9) := Lib.hid (Below.refl _ _)
  go_wp2_with fail
  refine (whole_any (HR1.out.below HA0.out)).mono ?_
  rintro e v1 ⟨rfl, hb⟩
  rw [HL1.out]
  have HA1 : Hid (Below w9.heap.size w9 v1) := Lib.hid (HA0.out.trans (hb.mono HA0.out.size))
  clear hb
  go_wp2_with fail
  refine (whole_any (HR3.out.below HA1.out)).mono ?_
  rintro e v2 ⟨rfl, hb⟩
  rw [HL3.out]
  have HA2 : Hid (Below w9.heap.size w9 v2) := Lib.hid (HA1.out.trans (hb.mono HA1.out.size))
  clear hb
  go_wp2_with fail
  refine (whole_any (HR4.out.below HA2.out)).mono ?_
  rintro e v3 ⟨rfl, hb⟩
  rw [HL4.out]
  have HA3 : Hid (Below w9.heap.size w9 v3) := Lib.hid (HA2.out.trans (hb.mono HA2.out.size))
  clear hb
  go_wp2_with fail
  refine (whole_any (HR2.out.below HA3.out)).mono ?_
  rintro e v4 ⟨rfl, hb⟩
  rw [HL2.out]
  have HA4 : Hid (Below w9.heap.size w9 v4) := Lib.hid (HA3.out.trans (hb.mono HA3.out.size))
  clear hb
  go_wp2_with fail
  refine (whole_any (HR5.out.below HA4.out)).mono ?_
  rintro e v5 ⟨rfl, hb⟩
  rw [HL5.out]
  have HA5 : Hid (Below w9.heap.size w9 v5) := Lib.hid (HA4.out.trans (hb.mono HA4.out.size))
  clear hb
  go_wp2_with fail
  refine (whole_any (HR.out.below HA5.out)).mono ?_
  rintro e v6 ⟨rfl, hb⟩
  rw [HL.out]
  have HA6 : Hid (Below w9.heap.size w9 v6) := Lib.hid (HA5.out.trans (hb.mono HA5.out.size))
  clear hb
  go_wp2
  go_ret
  exact ⟨rfl, HW9.out.trans (HA6.out.mono HW9.out.size)⟩

end Go.Proofs.Ytkpdehbffankkaa
