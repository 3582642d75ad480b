/- RopeSlices' walk. -/
import Derived.Test.YtkpdehbffankkaaNy
import Derived.Test.YtkpdehbffankkaaNi
namespace Go.Proofs.Ytkpdehbffankkaa
open Go.RowKit

theorem OwnB.gb {base b : Nat} {e : TypeId} {w w' : World} {a : Option Addr} {len cap : Nat} {l : List Int} (h : OwnB base e w a len cap l) (hg : w.grownBy w' (some b)) (hb : b < base) : OwnB base e w' a len cap l := by
  refine ⟨h.1.kept hg ?_, h.2⟩
  cases a with
  | none => exact .inl rfl
  | some x =>
    right
    intro hh
    have := h.1.lt _ hh
    omega

theorem OwnB.gbn {base b x : Nat} {e : TypeId} {w w' : World} {len cap : Nat} {l : List Int} (h : OwnB base e w (some ⟨x, 0, none⟩) len cap l) (hg : w.grownBy w' (some b)) (hb : x ≠ b) : OwnB base e w' (some ⟨x, 0, none⟩) len cap l :=
  ⟨h.1.kept hg (.inr (by simp [Value.ownBlock, hb])), h.2⟩

theorem bs_gb {b B : Nat} {w w' : World} (h : w.grownBy w' (some b)) (hb : B ≤ b) (hB : B ≤ w.heap.size) : Below B w w' :=
  ⟨h.os, h.tape, h.output, h.size, fun k hk => h.block k (by omega) (by simp; omega)⟩

theorem bstr_append (l k : List Int) : bstr l ++ bstr k = bstr (l ++ k) := by
  apply ByteArray.ext
  simp [bstr]

set_option maxRecDepth 100000 in
set_option maxHeartbeats 4000000 in
theorem slices_any (a0 : Option Addr) (n0 c0 : Nat) (l0 : List Int) (x0 x1 x2 : Nat) (h0 : x0 ≤ 65535) (h1 : x1 ≤ 65535) (h2 : x2 ≤ 65535) (w : World) (hB0 : Bs w a0 n0 c0 l0) :
    Calls Try.prog 7 #[.slice a0 n0 c0, .agg #[.int .u16 x0, .int .u16 x1, .int .u16 x2]] w fun e w' => e = .returned (.bool true) ∧ Below w.heap.size w w' := by
  obtain ⟨w0, hw0⟩ : ∃ w0, w.alloc (.cells #[.int .u16 x0, .int .u16 x1, .int .u16 x2] 50) = w0 := ⟨_, rfl⟩
  have hb0 : Below w.heap.size w w0 := by rw [← hw0]; exact (Below.refl _ _).alloc (Nat.le_refl _) _
  have hg0 : w0.heap[w.heap.size]? = some (.cells #[.int .u16 x0, .int .u16 x1, .int .u16 x2] 50 (0, 0)) := by rw [← hw0]; exact heapAt4 w _
  obtain ⟨G, hG⟩ : ∃ G, w.heap.size = G := ⟨_, rfl⟩
  have H0 := Lib.hid (hB0.below hb0)
  rw [hG] at hg0
  have HG0 := Lib.hid hg0
  have HW0 := Lib.hid hb0
  have HL0 := Lib.hid (show G < w0.heap.size from (Array.getElem?_eq_some_iff.1 hg0).1)
  clear hB0 hb0 hg0
  go_enter Try.func7, Try.ntmps7
  go_wp2_with fail
  refine (shown_any w0).mono ?_
  rintro e w1 ⟨rfl, hb1⟩
  have HW1 := Lib.hid hb1
  clear hb1
  go_wp2_with fail
  refine (few_any _ _ _ _ _ (H0.out.below HW1.out)).mono ?_
  rintro e w2 ⟨gb, cb, m, hm, rfl, ho, hb2⟩
  have HW2 := Lib.hid (HW1.out.trans (hb2.mono HW1.out.size))
  obtain ⟨B, hB⟩ : ∃ B, l0.take 300 = B := ⟨_, rfl⟩
  rw [hB] at ho
  have hm2 : m ≤ 300 := by omega
  have HBL := Lib.hid ho.bs.hl
  have HO := Lib.hid ho
  have hbc := ho.bs.lc
  have hbm := ho.bs.cm
  have HGB : Hid (gb < w2.heap.size) := Lib.hid (by obtain ⟨x, hx, _, h⟩ := ho.form (by simp); simp only [Option.some.injEq, Addr.mk.injEq] at hx; rw [hx.1]; exact h)
  clear hb2 ho hm hB
  go_wp2_with fail
  refine (new_any _ m _ _ w2 HO.out.bs (by omega)).mono ?_
  rintro e w3 ⟨g, t, rfl, h1, h2, h3, h4⟩
  have HW3 := Lib.hid (HW2.out.trans (h4.mono HW2.out.size))
  have HO := Lib.hid (HO.out.keep h4 (Nat.le_refl _))
  have HR := Lib.hid h1
  have HL := Lib.hid h2
  have HGE := Lib.hid (Nat.le_trans HW2.out.size h3)
  have HG3 := Lib.hid HR.out.lt
  have HGN := Lib.hid (show gb ≠ g from by have := HGB.out; omega)
  clear h1 h2 h3 h4
  have hg3 := (HW3.out.block G HL0.out).trans HG0.out
  have d0 : w3.cell? ⟨G, 0, none⟩ = some (.int .u16 x0) := by simp [World.cell?, hg3]
  have d1 : w3.cell? ⟨G, 1, none⟩ = some (.int .u16 x1) := by simp [World.cell?, hg3]
  have d2 : w3.cell? ⟨G, 2, none⟩ = some (.int .u16 x2) := by simp [World.cell?, hg3]
  have y0 := wrap_nat x0 (by omega)
  have y1 := wrap_nat x1 (by omega)
  have y2 := wrap_nat x2 (by omega)
  obtain ⟨i, hi, hi2⟩ := tmod_nat (x0 : Int) m (by omega)
  obtain ⟨q1, hq1⟩ : ∃ q, m - i = q := ⟨_, rfl⟩
  obtain ⟨j', hj', hj2⟩ := tmod_nat (x1 : Int) q1 (by omega)
  obtain ⟨j, hj⟩ : ∃ j, i + j' = j := ⟨_, rfl⟩
  obtain ⟨q2, hq2⟩ : ∃ q, m - j = q := ⟨_, rfl⟩
  obtain ⟨k', hk', hk2⟩ := tmod_nat (x2 : Int) q2 (by omega)
  obtain ⟨k, hk⟩ : ∃ k, j + k' = k := ⟨_, rfl⟩
  have b1 := wrap_nat (m + 1) (by omega)
  rw [Int.natCast_add, show ((1 : Nat) : Int) = 1 from rfl] at b1
  have b2 : IntKind.i64.wrap ((m : Int) + 1 - (i : Int)) = (q1 : Int) + 1 := by rw [IntKind.wrap_i64]; omega
  have b3 : IntKind.i64.wrap ((i : Int) + (j' : Int)) = (j : Int) := by rw [IntKind.wrap_i64]; omega
  have b4 : IntKind.i64.wrap ((m : Int) + 1 - (j : Int)) = (q2 : Int) + 1 := by rw [IntKind.wrap_i64]; omega
  have b5 : IntKind.i64.wrap ((j : Int) + (k' : Int)) = (k : Int) := by rw [IntKind.wrap_i64]; omega
  have b6 : IntKind.i64.wrap ((i : Int) - 1) = (i : Int) - 1 := by rw [IntKind.wrap_i64]; omega
  have z0 : ¬ ((m : Int) + 1 = 0) := by omega
  have z1 : ¬ ((q1 : Int) + 1 = 0) := by omega
  have z2 : ¬ ((q2 : Int) + 1 = 0) := by omega
  have hij : i ≤ j := by omega
  have hjk : j ≤ k := by omega
  have hkm : k ≤ m := by omega
  obtain ⟨p1, hp1⟩ : ∃ p, j - i = p := ⟨_, rfl⟩
  obtain ⟨p2, hp2⟩ : ∃ p, k - j = p := ⟨_, rfl⟩
  obtain ⟨p3, hp3⟩ : ∃ p, k - i = p := ⟨_, rfl⟩
  obtain ⟨at', ct, hsl, hsb⟩ := slice_mid (g := gb) (off := 0) (show i ≤ k by omega) hkm hbc hbm
  rw [hp3] at hsl hsb
  have HSB := Lib.hid hsb
  have hki : i + p3 ≤ k := by omega
  have hp3b : p3 ≤ 300 := by omega
  have HP1 := Lib.hid hp1
  have HP2 := Lib.hid hp2
  have HP3 := Lib.hid hp3
  clear hq1 hq2 hj hk hg3 hbm hbc hsb hp1 hp2 hp3
  go_wp2_with fail
  refine (slice_any i j HR.out hij (by rw [HL.out, HBL.out]; omega)).mono ?_
  rintro r w4 ⟨ap, cp, rfl, o1, hb4⟩
  rw [HP1.out, HL.out] at o1
  rw [HP1.out]
  have HW4 := Lib.hid (HW3.out.trans (hb4.mono HW3.out.size))
  have HP := Lib.hid o1
  have HO := Lib.hid (HO.out.keep hb4 (Nat.le_refl _))
  have HR := Lib.hid (HR.out.below hb4)
  have HG4 := Lib.hid HR.out.lt
  clear o1 hb4
  go_wp2_with fail
  refine (slice_any j k HR.out hjk (by rw [HL.out, HBL.out]; omega)).mono ?_
  rintro r w5 ⟨aq, cq, rfl, o1, hb5⟩
  rw [HP2.out, HL.out] at o1
  rw [HP2.out]
  have HW5 := Lib.hid (HW4.out.trans (hb5.mono HW4.out.size))
  have HQ := Lib.hid o1
  have HP := Lib.hid (HP.out.keep hb5 (Nat.le_refl _))
  have HO := Lib.hid (HO.out.keep hb5 (Nat.le_refl _))
  have HR := Lib.hid (HR.out.below hb5)
  have HG5 := Lib.hid HR.out.lt
  clear o1 hb5
  go_wp2_with fail
  refine (slice_any i k HR.out (by omega) (by rw [HL.out, HBL.out]; omega)).mono ?_
  rintro r w6 ⟨as', cs, rfl, o1, hb6⟩
  rw [HP3.out, HL.out] at o1
  rw [HP3.out]
  have HW6 := Lib.hid (HW5.out.trans (hb6.mono HW5.out.size))
  have HS := Lib.hid o1
  have HQ := Lib.hid (HQ.out.keep hb6 (Nat.le_refl _))
  have HP := Lib.hid (HP.out.keep hb6 (Nat.le_refl _))
  have HO := Lib.hid (HO.out.keep hb6 (Nat.le_refl _))
  have HR := Lib.hid (HR.out.below hb6)
  clear o1 hb6
  have E1 := Lib.hid (slice_bad (k : Int) ((i : Int) - 1) HR.out (by omega))
  have E2 := Lib.hid (slice_bad (i : Int) ((m : Int) + 1) HR.out (by rw [HL.out, HBL.out]; omega))
  go_wp2_with fail
  (with_reducible refine E1.out.mono ?_)
  rintro r w' ⟨rfl, rfl⟩
  go_wp2_with fail
  (with_reducible refine E2.out.mono ?_)
  rintro r w' ⟨rfl, rfl⟩
  clear E1 E2 d0 d1 d2 hi hj' hk' z0 z1 z2 b1 b2 b3 b4 b5 b6
  go_wp2
  go_loopw [23] (fun v wr => ∃ jj : Nat, v = .int .i64 jj ∧ jj ≤ p3 ∧ Hid (w6.grownBy wr (some g)) ∧ Hid (∃ sv', RP wr g t 0 sv' 0 0)) (fun v _ => p3 - (intOf v).toNat)
  case atStart => exact ⟨0, rfl, by omega, Lib.hid (gb_below (Below.refl _ _)), Lib.hid ⟨_, HR.out⟩⟩
  case round =>
    obtain ⟨jj, rfl, hjj, HG, HRR⟩ := hrel
    have HSr := Lib.hid (HS.out.gb HG.out HG5.out)
    by_cases hlt : jj < p3
    · obtain ⟨sv', hR⟩ := HRR.out
      have KA := at_any (i + jj) hR (by rw [HL.out, HBL.out]; omega)
      rw [HL.out, Int.natCast_add] at KA
      have HKA := Lib.hid KA
      have w1 : IntKind.i64.wrap ((i : Int) + (jj : Int)) = (i : Int) + (jj : Int) := by rw [IntKind.wrap_i64]; omega
      have hbt : bt (sub B i k) jj = bt B (i + jj) := by
        unfold sub
        rw [bt_drop, bt_take _ _ _ (by omega)]
      obtain ⟨z, hz⟩ : ∃ z, bt B (i + jj) = z := ⟨_, rfl⟩
      rw [hz] at HKA hbt
      have HBT := Lib.hid hbt
      clear hz hbt hR KA
      go_wp2_with fail
      refine HKA.out.mono ?_
      rintro r w7 ⟨rfl, hR7, hg7⟩
      have HR7 := Lib.hid hR7
      have HG7 := Lib.hid (gb_trans HG.out hg7)
      have hS7 := (HS.out.gb HG7.out HG5.out).bs
      obtain ⟨bs, off, rfl, _, hc⟩ := hS7.at_ (by omega)
      have hcj := hc jj hlt
      rw [HBT.out] at hcj
      clear hc hS7 hR7 hg7 HKA
      go_wp2
      go_roundw
      case rel => exact ⟨jj + 1, by go_num, by omega, HG7, HR7⟩
      case measure => simp [intOf]; omega
    · obtain rfl : jj = p3 := by omega
      have HRg := Lib.hid (bs_gb HG.out (B := w.heap.size) (Nat.le_trans HW0.out.size HGE.out) (Nat.le_trans HW0.out.size HW6.out.size))
      have HZ := Lib.hid ((HW0.out.trans (HW6.out.mono HW0.out.size)).trans HRg.out)
      have kp := fun nq => (((HP.out.gb HG.out HG3.out).bs).below (below_drewN (Below.refl _ _) nq)).str (P := Try.prog) 22 9 5 Try.underlying22 Try.underlying5 Try.underlying9
      have kq := fun nq => (((HQ.out.gb HG.out HG4.out).bs).below (below_drewN (Below.refl _ _) nq)).str (P := Try.prog) 22 9 5 Try.underlying22 Try.underlying5 Try.underlying9
      have ks := fun nq => (((HS.out.gb HG.out HG5.out).bs).below (below_drewN (Below.refl _ _) nq)).str (P := Try.prog) 22 9 5 Try.underlying22 Try.underlying5 Try.underlying9
      have kt := fun nq => ((HSB.out _ _ (HO.out.gbn HG.out HGN.out).bs).below (below_drewN (Below.refl _ _) nq)).str (P := Try.prog) 22 9 5 Try.underlying22 Try.underlying5 Try.underlying9
      have hcat : bstr (sub B i j) ++ bstr (sub B j k) = bstr (sub B i k) := by
        rw [bstr_append]
        congr 1
        unfold sub
        conv => rhs; rw [← List.take_append_drop j (B.take k), List.drop_append_of_le_length (by rw [List.length_take, List.length_take, HBL.out]; omega), List.take_take, Nat.min_eq_left hjk]
      have hz1 : (bstr (sub B i j)).size ≤ 1000 := by rw [PT.bstr_size, sub_len (by rw [HBL.out]; omega)]; omega
      have hz2 : (bstr (sub B j k)).size ≤ 1000 := by rw [PT.bstr_size, sub_len (by rw [HBL.out]; omega)]; omega
      have HCAT := Lib.hid hcat
      obtain ⟨P, hP⟩ : ∃ P, bstr (sub B i j) = P := ⟨_, rfl⟩
      obtain ⟨Q, hQ⟩ : ∃ Q, bstr (sub B j k) = Q := ⟨_, rfl⟩
      obtain ⟨R, hR⟩ : ∃ R, bstr (sub B i k) = R := ⟨_, rfl⟩
      rw [hP] at kp hz1 hcat
      rw [hQ] at kq hz2 hcat
      rw [hR] at ks kt hcat
      clear hP hQ hR HCAT
      go_wp2
      go_quiet (fail)
      go_wp2
      go_ret
      exact ⟨rfl, below_drewN HZ.out _⟩

end Go.Proofs.Ytkpdehbffankkaa
