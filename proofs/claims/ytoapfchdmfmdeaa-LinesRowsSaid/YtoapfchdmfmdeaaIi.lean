/- LinesRows' walk (laid by genIi.py). -/
import Derived.Test.YtoapfchdmfmdeaaIh
namespace Go.Proofs.Ytoapfchdmfmdeaa
open Go.RowKit

/-- s bytes, each d-th of which is a newline, the others the letter x. -/
def Rp (d : Nat) (b : List Int) (s : Nat) : Prop := b.length = s ∧ ∀ t, t < s → bt b t = if (t + 1) % d = 0 then 10 else 120

theorem Rp_next {d s : Nat} {b : List Int} {c : Int} (h : Rp d b s) (hc : c = if (s + 1) % d = 0 then 10 else 120) : Rp d (b ++ [c]) (s + 1) := by
  obtain ⟨h1, h2⟩ := h
  refine ⟨by rw [List.length_append, h1]; rfl, fun t ht => ?_⟩
  rcases Nat.lt_succ_iff_lt_or_eq.1 ht with h3 | rfl
  · rw [bt_inl _ _ _ (by omega)]; exact h2 t h3
  · have := bt_inr b [c] 0
    rw [h1, Nat.add_zero] at this
    rw [this]; exact hc

theorem Rp_place {d s : Nat} {b : List Int} (h : Rp d b s) (hd : 0 < d) : ∀ t, t ≤ s → ln b t = t / d ∧ cl b t = t % d
  | 0, _ => ⟨by rw [Nat.zero_div]; rfl, by rw [Nat.zero_mod]; rfl⟩
  | t + 1, ht => by
    obtain ⟨h1, h2⟩ := Rp_place h hd t (by omega)
    have hb := h.2 t (by omega)
    have e1 := Nat.div_add_mod t d
    have e2 := Nat.mod_lt t hd
    rw [ln_succ, cl_succ]
    by_cases hz : (t + 1) % d = 0
    · rw [if_pos hz] at hb
      rw [if_pos hb, if_pos hb, h1, hz]
      refine ⟨?_, rfl⟩
      rw [Nat.succ_div_of_dvd (Nat.dvd_of_mod_eq_zero hz)]
    · rw [if_neg hz] at hb
      rw [if_neg (by rw [hb]; decide), if_neg (by rw [hb]; decide), h1, h2]
      refine ⟨by rw [Nat.succ_div_of_not_dvd (fun hh => hz (Nat.mod_eq_zero_of_dvd hh))], ?_⟩
      have hne : t % d + 1 ≠ d := fun hh => hz (by
        have : t + 1 = d * (t / d) + d := by omega
        rw [this, Nat.add_mod_right, Nat.mul_mod_right])
      have e3 := Nat.mod_add_mod t d 1
      rw [← e3, Nat.mod_eq_of_lt (show t % d + 1 < d by omega)]

theorem mod_in {D q k : Nat} (h : D % (q + 1) = 0) (hk : k < q) : ¬ (D + k + 1) % (q + 1) = 0 := by
  rw [Nat.add_assoc, Nat.add_mod, h, Nat.zero_add, Nat.mod_mod, Nat.mod_eq_of_lt (by omega)]
  omega

theorem place_in {q i c : Nat} (hc : c ≤ q) : (i * (q + 1) + c) / (q + 1) = i ∧ (i * (q + 1) + c) % (q + 1) = c := by
  rw [Nat.add_comm]
  refine ⟨?_, ?_⟩
  · rw [Nat.add_mul_div_right _ _ (by omega), Nat.div_eq_of_lt (by omega), Nat.zero_add]
  · rw [Nat.add_mul_mod_self_right, Nat.mod_eq_of_lt (by omega)]

/-- What Offset, Count answer of such bytes. -/
theorem rows_off {r q i c s : Nat} {L : List Int} (h : Rp (q + 1) L s) (hs : s + 1 = (r + 1) * (q + 1)) (hi : i ≤ r) (hc : c ≤ q) :
    offV L i c = ((i * (q + 1) + c : Nat) : Int) ∧ offE L i c = 0 ∧ offE L i ((q : Int) + 1) = 3 ∧ i * (q + 1) + c ≤ s ∧ ln L (i * (q + 1) + c) = i ∧ cl L (i * (q + 1) + c) = c ∧ ln L s = r := by
  have hle : i * (q + 1) + c ≤ s := by
    have := Nat.mul_le_mul_right (q + 1) hi
    rw [Nat.add_mul] at hs
    omega
  have hp := Rp_place h (Nat.succ_pos q)
  have h1 := place_in (i := i) hc
  have h2 := hp _ hle
  have h3 := offV_some (l := L) (x := i) (y := c) (k := i * (q + 1) + c) (by rw [h.1]; exact hle) (by rw [h2.1, h1.1]) (by rw [h2.2, h1.2])
  refine ⟨h3.1, h3.2, (offV_none fun k hk _ h5 => ?_).2, hle, h2.1.trans h1.1, h2.2.trans h1.2, ?_⟩
  · rw [h.1] at hk
    have h6 := (hp k hk).2
    have := Nat.mod_lt k (show 0 < q + 1 by omega)
    omega
  · have hsq : s = r * (q + 1) + q := by rw [Nat.add_mul] at hs; omega
    rw [(hp s (Nat.le_refl _)).1, hsq]
    exact (place_in (Nat.le_refl q)).1

theorem tmod_lit (z : Nat) : ∃ k : Nat, k ≤ 15 ∧ Int.tmod (z : Int) 16 = k := tmod_nat z 15 (by omega)

set_option maxRecDepth 100000 in
set_option maxHeartbeats 16000000 in
theorem linesrows_any (n0 n1 x0 x1 : Nat) (h0 : n0 ≤ 255) (h1 : n1 ≤ 255) (h2 : x0 ≤ 255) (h3 : x1 ≤ 255) (w : World) :
    Calls Try.prog 6 #[.agg #[.int .u8 n0, .int .u8 n1], .agg #[.int .u8 x0, .int .u8 x1]] w fun e w' => e = .returned (.bool true) ∧ Below w.heap.size w w' := by
  obtain ⟨w0, hw0⟩ : ∃ w0, (w.alloc (.cells #[.int .u8 n0, .int .u8 n1] 35)).alloc (.cells #[.int .u8 x0, .int .u8 x1] 35) = w0 := ⟨_, rfl⟩
  have hb0 : Below w.heap.size w w0 := by rw [← hw0]; exact ((Below.refl _ _).alloc (Nat.le_refl _) _).alloc (by simp) _
  have hg0 : w0.heap[w.heap.size]? = some (.cells #[.int .u8 n0, .int .u8 n1] 35 (0, 0)) := by
    rw [← hw0]; exact heapAt2 w _ _
  have hg1 : w0.heap[w.heap.size + 1]? = some (.cells #[.int .u8 x0, .int .u8 x1] 35 (0, 0)) := by
    rw [← hw0]; exact heapAt3 w _ _
  obtain ⟨G, hG⟩ : ∃ G, w.heap.size = G := ⟨_, rfl⟩
  rw [hG] at hg0 hg1
  have HG0 := Lib.hid hg0
  have HG1 := Lib.hid hg1
  have HW0 := Lib.hid hb0
  have HL1 := Lib.hid (show G + 1 < w0.heap.size from (Array.getElem?_eq_some_iff.1 hg1).1)
  clear hb0 hg0 hg1
  obtain ⟨r, hr, hr2⟩ := tmod_lit n0
  obtain ⟨q, hq, hq2⟩ := tmod_lit n1
  obtain ⟨i0, hi0, hi2⟩ := tmod_nat (x0 : Int) r (by omega)
  obtain ⟨c0, hc0, hc2⟩ := tmod_nat (x1 : Int) q (by omega)
  obtain ⟨P, hP⟩ : ∃ P, P = i0 * (q + 1) := ⟨_, rfl⟩
  have hP16 : P ≤ i0 * 16 := by rw [hP]; exact Nat.mul_le_mul_left _ (by omega)
  have hPI : (i0 : Int) * ((q : Int) + 1) = P := by rw [hP]; simp
  have y0 : IntKind.i64.wrap (n0 : Int) = n0 := by rw [IntKind.wrap_i64]; omega
  have y1 : IntKind.i64.wrap (n1 : Int) = n1 := by rw [IntKind.wrap_i64]; omega
  have y2 : IntKind.i64.wrap (x0 : Int) = x0 := by rw [IntKind.wrap_i64]; omega
  have y3 : IntKind.i64.wrap (x1 : Int) = x1 := by rw [IntKind.wrap_i64]; omega
  have b1 : IntKind.i64.wrap (1 + (r : Int)) = (r : Int) + 1 := by rw [IntKind.wrap_i64]; omega
  have b2 : IntKind.i64.wrap ((q : Int) + 1) = (q : Int) + 1 := by rw [IntKind.wrap_i64]; omega
  have b3 : IntKind.i64.wrap ((i0 : Int) * ((q : Int) + 1)) = P := by rw [hPI, IntKind.wrap_i64]; omega
  have b4 : IntKind.i64.wrap ((P : Int) + c0) = (P : Int) + c0 := by rw [IntKind.wrap_i64]; omega
  have z0 : ¬ ((r : Int) + 1 = 0) := by omega
  have z1 : ¬ ((q : Int) + 1 = 0) := by omega
  have HP := Lib.hid hP
  clear hPI hP16 hP
  go_enter Try.func6, Try.ntmps6
  go_wp2_with fail
  refine (shown_any w0).mono ?_
  rintro e w1 ⟨rfl, hb1⟩
  have HW1 := Lib.hid (HW0.out.trans (hb1.mono HW0.out.size))
  have HG0 := Lib.hid ((hb1.block G (by have := HL1.out; omega)).trans HG0.out)
  have HG1 := Lib.hid ((hb1.block (G + 1) HL1.out).trans HG1.out)
  have HL1 := Lib.hid (Nat.lt_of_lt_of_le HL1.out hb1.size)
  have d0 : w1.cell? ⟨G, 0, none⟩ = some (.int .u8 n0) := by simp [World.cell?, HG0.out]
  have d1 : w1.cell? ⟨G, 1, none⟩ = some (.int .u8 n1) := by simp [World.cell?, HG0.out]
  have HOa : Hid (OwnB w1.heap.size 5 (w1.alloc (.cells #[] 5)) (some ⟨w1.heap.size, 0, none⟩) 0 0 []) := Lib.hid (OwnB.made (Nat.le_refl _))
  have HBa : Hid (Below w1.heap.size w1 (w1.alloc (.cells #[] 5))) := Lib.hid ((Below.refl _ _).alloc (Nat.le_refl _) _)
  clear hb1 HG0
  go_wp2
  go_loopw [8, 9] (fun v i wr => ∃ (k s : Nat) (a' : Option Addr) (c' : Nat) (L : List Int), v = .slice a' s c' ∧ i = .int .i64 k ∧ k ≤ r + 1 ∧ s ≤ 16 * k ∧ Hid (k = 0 ∧ s = 0 ∨ 0 < k ∧ s + 1 = k * (q + 1)) ∧ Hid (Rp (q + 1) L s) ∧ Hid (OwnB w1.heap.size 5 wr a' s c' L) ∧ Hid (Below w1.heap.size w1 wr)) (fun _ i _ => r + 1 - (intOf i).toNat)
  case atStart => exact ⟨0, 0, _, _, [], rfl, rfl, by omega, by omega, Lib.hid (.inl ⟨rfl, rfl⟩), Lib.hid ⟨rfl, fun t ht => by omega⟩, HOa, HBa⟩
  case round =>
    obtain ⟨k, s, a', c', L, rfl, rfl, hk, hs, HS, HR, HO, HB⟩ := hrel
    clear HOa HBa
    rename World => wb
    by_cases hlt : k < r + 1
    · have hdk : decide ((k : Int) < (r : Int) + 1) = true := by simp; omega
      obtain ⟨D, hD⟩ : ∃ D, D = k * (q + 1) := ⟨_, rfl⟩
      have hDm : D % (q + 1) = 0 := by rw [hD]; exact Nat.mul_mod_left _ _
      have HD := Lib.hid hD
      have hD16 : D ≤ 16 * k := by rw [hD, Nat.mul_comm 16]; exact Nat.mul_le_mul_left _ (by omega)
      have HDM := Lib.hid hDm
      clear hD hDm
      rcases Nat.eq_zero_or_pos k with hz | hpos
      · subst hz
        have hs0 : s = 0 := by omega
        subst hs0
        obtain rfl : D = 0 := by omega
        go_wp2
        go_loopw [8, 10] (fun v i wr => ∃ (j : Nat) (a3 : Option Addr) (c3 : Nat) (L3 : List Int), v = .slice a3 (j) c3 ∧ i = .int .i64 j ∧ j ≤ q ∧ Hid (Rp (q + 1) L3 (j)) ∧ Hid (OwnB w1.heap.size 5 wr a3 (j) c3 L3) ∧ Hid (Below w1.heap.size w1 wr)) (fun _ i _ => q - (intOf i).toNat)
        case atStart => exact ⟨0, _, _, _, rfl, rfl, by omega, HR, HO, HB⟩
        case round =>
          obtain ⟨j, a3, c3, L3, rfl, rfl, hj, HR3, HO3, HB3⟩ := hrel
          clear HR HO HB
          rename World => wc
          by_cases hjq : j < q
          · have HRn := Lib.hid (Rp_next HR3.out (c := 120) (by rw [if_neg (by have := mod_in (D := 0) (q := q) (k := j) (Nat.zero_mod _) hjq; rwa [Nat.zero_add] at this)]))
            go_wp2_with (at_builtin; refine Hid.out ?_)
            refine Lib.hid ?_
            refine wpList_app rfl (.tmp 46) (.tmp 47) 22 rfl 5 w1.heap.size Try.underlying22 info5 _ _ _ _ rfl (HO3.out.alloc _) _ _ _ [120] rfl (Bs.lit _ 5 (by simp) (by simp) rfl rfl (by decide)) (by omega) (by have := HB3.out.size; simp; omega) ?_
            intro a2 d2 wd ho hb
            have HOn := Lib.hid ho
            have HBn := Lib.hid ((HB3.out.alloc HB3.out.size _).trans hb)
            clear ho hb
            go_wp2
            go_roundw
            case rel => exact ⟨j + 1, a2, d2, _, rfl, by go_num, by omega, HRn, HOn, HBn⟩
            case measure => simp [intOf]; omega
          · obtain rfl : j = q := by omega
            go_wp2
            go_roundw
            case rel => exact ⟨1, j, a3, c3, L3, rfl, by go_num, by omega, by omega, Lib.hid (.inr ⟨by omega, by omega⟩), HR3, HO3, HB3⟩
            case measure => simp [intOf]
      · have hk0 : decide ((0 : Int) < (k : Int)) = true := by simp; omega
        have hsD : s + 1 = D := by
          rcases HS.out with h | h
          · omega
          · rw [h.2, HD.out]
        have HSD := Lib.hid hsD
        have hs1 : s ≤ 300 := by omega
        clear hsD
        go_wp2_with (at_builtin; refine Hid.out ?_)
        refine Lib.hid ?_
        refine wpList_app rfl (.tmp 38) (.tmp 39) 22 rfl 5 w1.heap.size Try.underlying22 info5 _ _ _ _ rfl (HO.out.alloc _) _ _ _ [10] rfl (Bs.lit _ 5 (by simp) (by simp) rfl rfl (by decide)) (by omega) (by have := HB.out.size; simp; omega) ?_
        intro a2 d2 wd ho hb
        have HRn := Lib.hid (Rp_next HR.out (c := 10) (by rw [HSD.out, HDM.out]; rfl))
        have HOn := Lib.hid ho
        have HBn := Lib.hid ((HB.out.alloc HB.out.size _).trans hb)
        rw [HSD.out] at HRn HOn ⊢
        clear ho hb hs1 HSD HS HR
        go_wp2
        go_loopw [8, 10] (fun v i wr => ∃ (j : Nat) (a3 : Option Addr) (c3 : Nat) (L3 : List Int), v = .slice a3 (D + j) c3 ∧ i = .int .i64 j ∧ j ≤ q ∧ Hid (Rp (q + 1) L3 (D + j)) ∧ Hid (OwnB w1.heap.size 5 wr a3 (D + j) c3 L3) ∧ Hid (Below w1.heap.size w1 wr)) (fun _ i _ => q - (intOf i).toNat)
        case atStart => exact ⟨0, _, _, _, rfl, rfl, by omega, HRn, HOn, HBn⟩
        case round =>
          obtain ⟨j, a3, c3, L3, rfl, rfl, hj, HR3, HO3, HB3⟩ := hrel
          clear HRn HOn HBn
          rename World => wc
          by_cases hjq : j < q
          · have HRn := Lib.hid (Rp_next HR3.out (c := 120) (by rw [if_neg (mod_in HDM.out hjq)]))
            go_wp2_with (at_builtin; refine Hid.out ?_)
            refine Lib.hid ?_
            refine wpList_app rfl (.tmp 46) (.tmp 47) 22 rfl 5 w1.heap.size Try.underlying22 info5 _ _ _ _ rfl (HO3.out.alloc _) _ _ _ [120] rfl (Bs.lit _ 5 (by simp) (by simp) rfl rfl (by decide)) (by omega) (by have := HB3.out.size; simp; omega) ?_
            intro a2 d2 wd ho hb
            have HOn := Lib.hid ho
            have HBn := Lib.hid ((HB3.out.alloc HB3.out.size _).trans hb)
            clear ho hb
            go_wp2
            go_roundw
            case rel => exact ⟨j + 1, a2, d2, _, by rw [Nat.add_assoc], by go_num, by omega, HRn, HOn, HBn⟩
            case measure => simp [intOf]; omega
          · obtain rfl : j = q := by omega
            go_wp2
            go_roundw
            case rel => exact ⟨k + 1, D + j, a3, c3, L3, rfl, by go_num, by omega, by omega, Lib.hid (.inr ⟨by omega, by have := HD.out; rw [Nat.add_mul]; omega⟩), HR3, HO3, HB3⟩
            case measure => simp [intOf]; omega
    · obtain rfl : k = r + 1 := by omega
      have hsr : s + 1 = (r + 1) * (q + 1) := by
        rcases HS.out with h | h
        · omega
        · exact h.2
      have HX := Lib.hid (rows_off HR.out hsr hi0 hc0)
      rw [← HP.out] at HX
      have HPC := Lib.hid HX.out.2.2.2.1
      have hpc : P + c0 ≤ s := HPC.out
      have HBs := Lib.hid HO.out.bs
      have hg1 := (HB.out.block (G + 1) HL1.out).trans HG1.out
      have d2 : wb.cell? ⟨G + 1, 0, none⟩ = some (.int .u8 x0) := by simp [World.cell?, hg1]
      have d3 : wb.cell? ⟨G + 1, 1, none⟩ = some (.int .u8 x1) := by simp [World.cell?, hg1]
      have HPP := Lib.hid (fun w h => place_any a' s c' L (P + c0) w h hpc (by omega))
      rw [HX.out.2.2.2.2.1, HX.out.2.2.2.2.2.1, Int.natCast_add] at HPP
      have HOO := Lib.hid (fun w h => off_any a' s c' L i0 c0 w h (by omega))
      rw [HX.out.1, HX.out.2.1, Int.natCast_add] at HOO
      have HOE := Lib.hid (fun w h => off_any a' s c' L i0 ((q : Int) + 1) w h (by omega))
      rw [HX.out.2.2.1] at HOE
      have HCC := Lib.hid (fun w h => cnt_any a' s c' L w h (by omega))
      rw [HX.out.2.2.2.2.2.2] at HCC
      have HWb := Lib.hid (HW1.out.trans (HB.out.mono HW1.out.size))
      clear hsr hg1 hpc HS
      go_wp2_with fail
      refine (HOO.out _ HBs.out).mono ?_
      rintro e w2 ⟨rfl, hb⟩
      have HW2 := Lib.hid (HWb.out.trans (hb.mono HWb.out.size))
      have HB2 := Lib.hid (HBs.out.below hb)
      clear hb
      go_wp2_with fail
      refine (HPP.out _ HB2.out).mono ?_
      rintro e w3 ⟨rfl, hb⟩
      have HW3 := Lib.hid (HW2.out.trans (hb.mono HW2.out.size))
      have HB3 := Lib.hid (HB2.out.below hb)
      clear hb
      go_wp2_with fail
      refine (HOE.out _ HB3.out).mono ?_
      rintro e w4 ⟨rfl, hb⟩
      have HW4 := Lib.hid (HW3.out.trans (hb.mono HW3.out.size))
      have HB4 := Lib.hid (HB3.out.below hb)
      clear hb
      obtain ⟨E, hE⟩ : ∃ E, E = offV L i0 ((q : Int) + 1) := ⟨_, rfl⟩
      rw [← hE]
      clear hE
      go_wp2_with fail
      refine (HCC.out _ HB4.out).mono ?_
      rintro e w5 ⟨rfl, hb⟩
      have HW5 := Lib.hid (HW4.out.trans (hb.mono HW4.out.size))
      clear hb
      go_wp2
      go_ret
      exact ⟨rfl, HW5.out⟩

end Go.Proofs.Ytoapfchdmfmdeaa
