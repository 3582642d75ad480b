/- LexParts' walk. -/
import Derived.Test.YtecabgmkoknbgaaDoorJh
import Derived.Test.YtecabgmkoknbgaaDoorJl
import Derived.Test.YtecabgmkoknbgaaDoorJs
namespace Go.Proofs.YtecabgmkoknbgaaDoor
open Go.RowKit

/-- Neither a quote, nor a percent, nor a slash. -/
def okc (c : Int) : Bool := c != 39 && (c != 37 && c != 47)
theorem okc_snoc {L : List Int} {i : Nat} (h : i < L.length) : (L.take (i + 1)).filter okc = (L.take i).filter okc ++ (if okc (bt L i) then [bt L i] else []) := by
  rw [List.take_add_one, List.getElem?_eq_getElem h, Option.toList_some, List.filter_append, show bt L i = L[i] by simp [bt, List.getD, h]]
  congr 1
  rw [List.filter_cons]
  rfl
theorem okc_all {L : List Int} (hr : ∀ x ∈ L, 0 ≤ x ∧ x ≤ 255) : ∀ c ∈ L.filter okc, (0 ≤ c ∧ c ≤ 255) ∧ c ≠ 39 ∧ c ≠ 37 ∧ c ≠ 47 := by
  intro c hc
  obtain ⟨h1, h2⟩ := List.mem_filter.1 hc
  unfold okc at h2
  simp only [Bool.and_eq_true, bne_iff_ne] at h2
  exact ⟨hr c h1, h2⟩

set_option maxRecDepth 100000 in
set_option maxHeartbeats 4000000 in
theorem lexParts_any (a a' : Option Addr) (len cap len' cap' : Nat) (l l' : List Int) (w : World) (h : Bs w a len cap l) (h' : Bs w a' len' cap' l') (ht : Tab w) :
    Calls Tryd.prog 6 #[.slice a len cap, .slice a' len' cap'] w fun e w' => e = .returned (.bool true) ∧ Below w.heap.size w w' := by
  have hb := few_bs h
  have hb' := few_bs h'
  have H := Lib.hid h
  have H' := Lib.hid h'
  have HT := Lib.hid ht
  obtain ⟨L, hL⟩ : ∃ L, L = l.take 200 := ⟨_, rfl⟩
  obtain ⟨m, hm⟩ : ∃ m, m = min len 200 := ⟨_, rfl⟩
  rw [← hL, ← hm] at hb
  have hm1 : m ≤ 200 := by omega
  have hm2 : m ≤ len := by omega
  obtain ⟨Y, hY⟩ : ∃ Y, Y = l'.take 200 := ⟨_, rfl⟩
  obtain ⟨m', hm'⟩ : ∃ m', m' = min len' 200 := ⟨_, rfl⟩
  rw [← hY, ← hm'] at hb'
  have hm1' : m' ≤ 200 := by omega
  have HM := Lib.hid hm
  have HM' := Lib.hid hm'
  have HB := Lib.hid hb
  have HB' := Lib.hid hb'
  have HLT : Hid (∀ i, i < m → bt L i = bt l i) := Lib.hid fun i hi => by rw [hL]; exact bt_take _ _ _ (by omega)
  have HLL : Hid (L.length = m) := Lib.hid hb.hl
  obtain ⟨T, hT⟩ : ∃ T, T = toks Y := ⟨_, rfl⟩
  obtain ⟨n, hn⟩ : ∃ n, n = T.length := ⟨_, rfl⟩
  have hn1 : n ≤ 200 := by have := (toks_fl hb'.rng).2; rw [← hT, ← hn, hb'.hl] at this; omega
  have HTN := Lib.hid (And.intro hT hn)
  have HR := Lib.hid hb'.rng
  clear h h' ht hL hm hb hY hm' hb' hT hn
  go_enter Tryd.func6, Tryd.ntmps6
  go_wp2_with fail
  refine (shown_any _ HT.out).mono ?_
  rintro e w1 ⟨rfl, hb1⟩
  have HW1 := Lib.hid hb1
  clear hb1
  go_wp2
  go_loopw [6, 7] (fun v i wr => ∃ a1 c1, ∃ k p : Nat, v = .slice a1 p c1 ∧ i = .int .i64 k ∧ k ≤ m ∧ p ≤ k ∧ Hid (OwnB w1.heap.size 5 wr a1 p c1 ((L.take k).filter okc)) ∧ Hid (Below w1.heap.size w1 wr)) (fun _ i _ => m - (intOf i).toNat)
  case atStart => exact ⟨_, _, 0, 0, rfl, rfl, by omega, by omega, Lib.hid (OwnB.made (Nat.le_refl _)), Lib.hid ((Below.refl _ _).alloc (Nat.le_refl _) _)⟩
  case round =>
    obtain ⟨a1, c1, k, p, rfl, rfl, hk, hp, HO, HBL⟩ := hrel
    have HWr : Hid (Below w.heap.size w wr) := Lib.hid (HW1.out.trans (HBL.out.mono HW1.out.size))
    go_wp2_with fail
    refine (few_any _ _ _ _ _ (H.out.below HWr.out)).mono ?_
    rintro e w' ⟨rfl, rfl⟩
    rw [← HM.out]
    by_cases hlt : k < m
    · have hb := H.out.below HWr.out
      have hbr := bt_rng hb.rng k
      obtain ⟨b, off, rfl, _, hc⟩ := hb.at_ (by omega)
      have hck := hc k (by omega)
      have hS := okc_snoc (L := L) (i := k) (by rw [HLL.out]; exact hlt)
      rw [HLT.out k hlt] at hS
      unfold okc at hS
      have HS : Hid ((L.take (k + 1)).filter okc = (L.take k).filter okc ++ (if bt l k != 39 && (bt l k != 37 && bt l k != 47) then [bt l k] else [])) := Lib.hid hS
      clear hb hc hS
      cases h1 : bt l k != 39 with
      | false =>
        have HF : Hid ((L.take (k + 1)).filter okc = (L.take k).filter okc) := Lib.hid (by rw [HS.out, h1]; simp)
        rw [← HF.out] at HO
        go_wp2
        go_roundw
        case rel => exact ⟨_, _, k + 1, p, rfl, by go_num, by omega, by omega, HO, HBL⟩
        case measure => simp [intOf]; omega
      | true =>
        cases h2 : bt l k != 37 with
        | false =>
          have HF : Hid ((L.take (k + 1)).filter okc = (L.take k).filter okc) := Lib.hid (by rw [HS.out, h1, h2]; simp)
          rw [← HF.out] at HO
          go_wp2
          go_roundw
          case rel => exact ⟨_, _, k + 1, p, rfl, by go_num, by omega, by omega, HO, HBL⟩
          case measure => simp [intOf]; omega
        | true =>
          cases h3 : bt l k != 47 with
          | false =>
            have HF : Hid ((L.take (k + 1)).filter okc = (L.take k).filter okc) := Lib.hid (by rw [HS.out, h1, h2, h3]; simp)
            rw [← HF.out] at HO
            go_wp2
            go_roundw
            case rel => exact ⟨_, _, k + 1, p, rfl, by go_num, by omega, by omega, HO, HBL⟩
            case measure => simp [intOf]; omega
          | true =>
            have HF : Hid ((L.take (k + 1)).filter okc = (L.take k).filter okc ++ [bt l k]) := Lib.hid (by rw [HS.out, h1, h2, h3]; simp)
            go_wp2_with (at_builtin; refine Hid.out ?_)
            refine Lib.hid ?_
            refine wpList_app rfl (.tmp 40) (.tmp 45) 22 rfl 5 w1.heap.size Tryd.underlying22 info5 _ _ _ _ rfl (HO.out.alloc _) _ _ _ [bt l k] rfl (Bs.lit _ 5 (by simp) (by simp; omega) rfl rfl (by decide)) (by omega) (by have := HBL.out.size; simp; omega) ?_
            intro a2 c2 w2 ho2 hb2
            rw [← HF.out] at ho2
            have HO2 := Lib.hid ho2
            have HB2 : Hid (Below w1.heap.size w1 w2) := Lib.hid ((HBL.out.alloc HBL.out.size _).trans hb2)
            clear ho2 hb2
            go_wp2
            go_roundw
            case rel => exact ⟨_, _, k + 1, p + 1, rfl, by go_num, by omega, by omega, HO2, HB2⟩
            case measure => simp [intOf]; omega
    · have hkm : k = m := by omega
      subst hkm
      obtain ⟨U, hU⟩ : ∃ U, U = L.filter okc := ⟨_, rfl⟩
      rw [List.take_of_length_le (by rw [HLL.out]; exact Nat.le_refl _), ← hU] at HO
      have HUU : Hid (∀ c ∈ U, (0 ≤ c ∧ c ≤ 255) ∧ c ≠ 39 ∧ c ≠ 37 ∧ c ≠ 47) := Lib.hid (by rw [hU]; exact okc_all HB.out.rng)
      rename World => wa
      clear hlt hU
      go_wp2_with (at_builtin; refine Hid.out ?_)
      refine Lib.hid ?_
      refine wpList_app rfl (.tmp 47) (.tmp 48) 22 rfl 5 w1.heap.size Tryd.underlying22 info5 _ _ _ _ rfl (HO.out.alloc _) _ _ _ [32] rfl (Bs.lit _ 5 (by simp) (by simp) rfl rfl (by decide)) (by omega) (by have := HBL.out.size; simp; omega) ?_
      intro a2 c2 w2 ho2 hb2
      have HX2 := Lib.hid ho2.bs
      have HW2 : Hid (Below w.heap.size w w2) := Lib.hid (HW1.out.trans (((HBL.out.alloc HBL.out.size _).trans hb2).mono HW1.out.size))
      obtain ⟨X, hX⟩ : ∃ X, X = U ++ [32] := ⟨_, rfl⟩
      have HXP : Hid (toks (X ++ Y) = toks X ++ T.map (shTK (p + 1 : Nat))) := Lib.hid (by
        have := toks_parts U Y HUU.out HR.out
        rw [← hX, ← HTN.out.1] at this
        rw [this, hX, HX2.out.hl])
      rw [← hX] at HX2
      clear ho2 hb2 hX
      have HXR := Lib.hid HX2.out.rng
      have HXL : Hid (X.length = p + 1) := Lib.hid HX2.out.hl
      obtain ⟨S, hS⟩ : ∃ S, S = toks X := ⟨_, rfl⟩
      obtain ⟨s, hs⟩ : ∃ s, s = S.length := ⟨_, rfl⟩
      have hs1 : s ≤ 201 := by have := (toks_fl HXR.out).2; rw [← hS, ← hs, HXL.out] at this; omega
      have HSS := Lib.hid (And.intro hS hs)
      rw [← hS] at HXP
      clear hS hs
      go_wp2_with fail
      refine (all_any _ _ _ X _ HX2.out (HT.out.keep HW2.out) (by omega)).mono ?_
      rintro e w3 ⟨a3, rfl, hr3, hb3⟩
      rw [← HSS.out.1, ← HSS.out.2] at hr3 ⊢
      have HW3 : Hid (Below w.heap.size w w3) := Lib.hid (HW2.out.trans (hb3.mono HW2.out.size))
      have HS3 := Lib.hid hr3.ts
      have HX3 := Lib.hid (HX2.out.below hb3)
      clear hr3 hb3
      go_wp2_with fail
      refine (few_any _ _ _ _ _ (H'.out.below HW3.out)).mono ?_
      rintro e w' ⟨rfl, rfl⟩
      rw [← HM'.out]
      go_wp2_with fail
      refine (all_any _ _ _ Y _ (HB'.out.below HW3.out) (HT.out.keep HW3.out) (by omega)).mono ?_
      rintro e w4 ⟨a4, rfl, hr4, hb4⟩
      rw [← HTN.out.1, ← HTN.out.2] at hr4 ⊢
      have HW4 : Hid (Below w.heap.size w w4) := Lib.hid (HW3.out.trans (hb4.mono HW3.out.size))
      have HR4 := Lib.hid hr4
      have HS4 := Lib.hid (HS3.out.below hb4)
      have HX4 := Lib.hid (HX3.out.below hb4)
      have hs34 : w3.heap.size ≤ w4.heap.size := hb4.size
      have HG4 : Hid (Below w3.heap.size w3 w4) := Lib.hid hb4
      clear hr4 hb4
      go_wp2_with (at_builtin; refine Hid.out ?_)
      refine Lib.hid ?_
      refine wpList_app rfl (.tmp 55) (.tmp 56) 22 rfl 5 w4.heap.size Tryd.underlying22 info5 _ _ _ [] rfl (OwnB.made (Nat.le_refl _)) _ _ _ X rfl (HX4.out.alloc _) (by omega) (by simp) ?_
      intro a5 c5 w5 ho5 hb5
      rw [Nat.zero_add, List.nil_append] at ho5
      rw [Nat.zero_add]
      have HW5 : Hid (Below w4.heap.size w4 w5) := Lib.hid (((Below.refl _ w4).alloc (Nat.le_refl _) _).trans hb5)
      have HV5 : Hid (Below w.heap.size w w5) := Lib.hid (HW4.out.trans (HW5.out.mono HW4.out.size))
      have HO5 := Lib.hid ho5
      clear ho5 hb5
      go_wp2_with fail
      refine (few_any _ _ _ _ _ (H'.out.below HV5.out)).mono ?_
      rintro e w' ⟨rfl, rfl⟩
      rw [← HM'.out]
      go_wp2_with (at_builtin; refine Hid.out ?_)
      refine Lib.hid ?_
      refine wpList_app rfl (.tmp 57) (.tmp 59) 22 rfl 5 w4.heap.size Tryd.underlying22 info5 _ _ _ X rfl HO5.out _ _ _ Y rfl (HB'.out.below HV5.out) (by omega) HW5.out.size ?_
      intro a6 c6 w6 ho6 hb6
      have HW6 : Hid (Below w4.heap.size w4 w6) := Lib.hid (HW5.out.trans hb6)
      have HV6 : Hid (Below w.heap.size w w6) := Lib.hid (HW4.out.trans (HW6.out.mono HW4.out.size))
      have HO6 := Lib.hid ho6
      clear ho6 hb6
      obtain ⟨A, hA⟩ : ∃ A, A = S ++ T.map (shTK (p + 1 : Nat)) := ⟨_, rfl⟩
      have hAl : A.length = s + n := by rw [hA, List.length_append, List.length_map, ← HSS.out.2, ← HTN.out.2]
      have HAA : Hid (toks (X ++ Y) = A ∧ (toks (X ++ Y)).length = s + n ∧ A = S ++ T.map (shTK (p + 1 : Nat))) := Lib.hid (by
        rw [HXP.out]
        exact ⟨hA.symm, by rw [← hA]; exact hAl, hA⟩)
      clear hA hAl
      go_wp2_with fail
      refine (all_any _ _ _ (X ++ Y) _ HO6.out.bs (HT.out.keep HV6.out) (by omega)).mono ?_
      rintro e w7 ⟨a7, rfl, hr7, hb7⟩
      rw [HAA.out.2.1, HAA.out.1] at hr7
      rw [HAA.out.2.1]
      have HW7 : Hid (Below w4.heap.size w4 w7) := Lib.hid (HW6.out.trans (hb7.mono HW6.out.size))
      have HA7 := Lib.hid hr7
      have HV7 : Hid (Below w.heap.size w w7) := Lib.hid (HW4.out.trans (HW7.out.mono HW4.out.size))
      have HR7 : Hid (RowT w3.heap.size 34 w7 a4 n n T) := Lib.hid (HR4.out.keep HW7.out (Nat.le_refl _))
      have HS7 := Lib.hid (HS4.out.below HW7.out)
      have HB7 : Hid (Below w3.heap.size w3 w7) := Lib.hid (HG4.out.trans (HW7.out.mono hs34))
      have HS46 : Hid (w4.heap.size ≤ w6.heap.size) := Lib.hid HW6.out.size
      clear hr7 hb7
      go_wp2
      go_loopw [11] (fun i wr => ∃ j : Nat, i = .int .i64 j ∧ j ≤ n ∧ Hid (RowT w3.heap.size 34 wr a4 n n (mixT (T.map (shTK (p + 1 : Nat))) T j)) ∧ Hid (RowT w6.heap.size 34 wr a7 (s + n) (s + n) A) ∧ Hid (Below w3.heap.size w3 wr)) (fun i _ => n - (intOf i).toNat)
      case atStart => exact ⟨0, rfl, by omega, Lib.hid (by rw [mixT_zero]; exact HR7.out), HA7, HB7⟩
      case round =>
        rename World => wb
        obtain ⟨j, rfl, hj, HRJ, HAJ, HBJ⟩ := hrel
        have hql : (T.map (shTK (p + 1 : Nat))).length = T.length := List.length_map _
        by_cases hjn : j < n
        · obtain ⟨g, rfl, hg1, hg2⟩ := HR4.out.form (by omega)
          obtain ⟨d0, d1, d2, d3, d4⟩ := HRJ.out.at5 hjn
          have z1 := HRJ.out.frozen (by omega) (j * 5 + 1)
          have z2 := HRJ.out.frozen (by omega) (j * 5 + 2)
          have hjT : j < T.length := by rw [← HTN.out.2]; exact hjn
          rw [mixT_at hjT hql] at d1 d2
          obtain ⟨f, q, x1, x2, x3, x4⟩ := toks_at HR.out (j := j) (by rw [← HTN.out.1]; exact hjT)
          rw [← HTN.out.1] at x1 x2
          rw [HB'.out.hl] at x3 x4
          rw [x1] at d1
          rw [x2] at d2
          have HT2J := Lib.hid (HRJ.out.set2 j hjn ((f : Int) + ((p : Int) + 1)) ((q : Int) + ((p : Int) + 1)))
          have HMX : Hid ((mixT (T.map (shTK (p + 1 : Nat))) T j).set j ⟨(tat (mixT (T.map (shTK (p + 1 : Nat))) T j) j).k, (f : Int) + ((p : Int) + 1), (q : Int) + ((p : Int) + 1), (tat (mixT (T.map (shTK (p + 1 : Nat))) T j) j).s, (tat (mixT (T.map (shTK (p + 1 : Nat))) T j) j).e⟩ = mixT (T.map (shTK (p + 1 : Nat))) T (j + 1)) := Lib.hid (by
            rw [← mixT_step hjT hql, mixT_at hjT hql, tat_map hjT, ← x1, ← x2]
            rfl)
          rw [HMX.out] at HT2J
          have HA2J := Lib.hid ((HAJ.out.setOther (g := g) (Nat.lt_of_lt_of_le hg2 HS46.out) (j * 5 + 1) (.int .i64 ((f : Int) + ((p : Int) + 1)))).setOther (g := g) (Nat.lt_of_lt_of_le hg2 HS46.out) (j * 5 + 2) (.int .i64 ((q : Int) + ((p : Int) + 1))))
          clear d0 d3 d4 x1 x2 hql hjT
          go_wp2
          go_roundw
          case rel => exact ⟨j + 1, by go_num, by omega, HT2J, HA2J, Lib.hid ((HBJ.out.setCell hg1 _).setCell hg1 _)⟩
          case measure => simp [intOf]; omega
        · obtain rfl : j = n := by omega
          rw [mixT_all (by rw [List.length_map, ← HTN.out.2]) HTN.out.2.symm] at HRJ
          have HV : Hid (Below w.heap.size w wb) := Lib.hid (HW3.out.trans (HBJ.out.mono HW3.out.size))
          have HSb := Lib.hid (HS3.out.below HBJ.out)
          have HRb := Lib.hid HRJ.out.ts
          have HAb := Lib.hid HAJ.out.ts
          clear hql hjn
          go_wp2_with (at_builtin; refine Hid.out ?_)
          refine Lib.hid ?_
          refine wpList_appT rfl (.tmp 95) (.tmp 96) rfl wb.heap.size _ _ _ [] rfl (OwnT.emptyAt (heap_alloc_new wb _) (Nat.le_refl _)) _ _ _ S rfl (HSb.out.alloc _) (by omega) (by simp) ?_
          intro a8 c8 w8 ho8 hg8 hb8
          rw [Nat.zero_add, List.nil_append] at ho8
          rw [Nat.zero_add]
          have HW8 : Hid (Below wb.heap.size wb w8) := Lib.hid (((Below.refl _ wb).alloc (Nat.le_refl _) _).trans hb8)
          have HO8 := Lib.hid ho8
          clear ho8 hg8 hb8
          go_wp2_with (at_builtin; refine Hid.out ?_)
          refine Lib.hid ?_
          refine wpList_appT rfl (.tmp 97) (.tmp 98) rfl wb.heap.size _ _ _ S rfl HO8.out _ _ _ (T.map (shTK (p + 1 : Nat))) rfl (HRb.out.below HW8.out) (by omega) HW8.out.size ?_
          intro a9 c9 w9 ho9 hg9 hb9
          rw [← HAA.out.2.2] at ho9
          have HO9 := Lib.hid ho9.ts
          have HW9 : Hid (Below wb.heap.size wb w9) := Lib.hid (HW8.out.trans hb9)
          have HV9 : Hid (Below w.heap.size w w9) := Lib.hid (HV.out.trans (HW9.out.mono HV.out.size))
          clear ho9 hg9 hb9
          go_wp2_with fail
          refine (same_any _ _ _ A _ _ _ (HAb.out.below HW9.out) HO9.out).mono ?_
          rintro e w10 ⟨rfl, hb10⟩
          have HVA : Hid (Below w.heap.size w w10) := Lib.hid (HV9.out.trans (hb10.mono HV9.out.size))
          clear hb10
          go_wp2
          go_ret
          exact ⟨rfl, HVA.out⟩

end Go.Proofs.YtecabgmkoknbgaaDoor
