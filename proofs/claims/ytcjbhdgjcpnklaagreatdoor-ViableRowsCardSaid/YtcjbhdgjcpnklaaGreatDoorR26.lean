import Derived.Deep.DeepCutAuto
import Derived.Test.YtcjbhdgjcpnklaaGreatDoorR12
import Derived.Test.YtcjbhdgjcpnklaaGreatDoorR24
import Derived.Test.YtcjbhdgjcpnklaaGreatDoorR25
namespace Go.Proofs.YtcjbhdgjcpnklaaGreatDoor
open Go.RowKit
theorem zE7 {ops : Array Oper} {o : Oper} {A : Act} {w : World} {K : Act → World → Prop} {Q : Exit → Act → World → Prop} {E : Prop} (hgd : o.guard = none) (ho : o.op = .buildSlice 23 0 #[])
  (kk : ∀ w' g, g = w.heap.size → g < w'.heap.size → (∀ base, base ≤ g → OwnT base 51 w' (some ⟨g, 0, none⟩) 0 0 []) → Below w.heap.size w w' → K (A.put o.dst (.slice (some ⟨g, 0, none⟩) 0 0)) w') : if Region.wanted o (yielded ops A.tmps) = true then o.wp Tryz.prog A w K Q else E := by
 rw [if_pos (show Region.wanted o (yielded ops A.tmps) = true by simp [Region.wanted, hgd])]
 have h := kk (w.alloc (.cells #[] 51)) w.heap.size rfl (Array.getElem?_eq_some_iff.1 (heap_alloc_new w (.cells #[] 51))).1 (fun base hb => OwnT.emptyAt (heap_alloc_new w _) hb) (zAA w _)
 have hr : (Instr.buildSlice 23 0 #[]).run Tryz.prog w = .ok (.slice (some ⟨w.heap.size, 0, none⟩) 0 0) (w.alloc (.cells #[] 51)) := by kernel_rfl
 unfold Oper.wp execOp
 simp only [ho, List.map_toArray, List.map_nil, hr, Sem.run_bind, Result.andThen_ok, Sem.run_pure]
 exact h
set_option maxRecDepth 100000 in
set_option maxHeartbeats 12000000 in
theorem zQe (x y : Int) (en ri : Bool) (w : World) (ht : Tab w) (hx : 0 ≤ x ∧ x ≤ 255) (hy : 0 ≤ y ∧ y ≤ 255) :
  Calls Tryz.prog 8 #[.agg #[.int .u8 x, .int .u8 y], .bool en, .bool ri] w fun e w' => e = .returned (.bool true) ∧ Below w.heap.size w w' := by
 obtain ⟨X0, hX0⟩ : ∃ q, q = w.heap.size := ⟨_, rfl⟩
 obtain ⟨w0, hw0⟩ : ∃ q, q = w.alloc (.cells #[.int .u8 x, .int .u8 y] 54) := ⟨_, rfl⟩
 have HB0 : Hid (Below w.heap.size w w0) := hid (by rw [hw0]; exact zAA w _)
 have hrow : w0.heap[X0]? = some (.cells #[.int .u8 x, .int .u8 y] 54 (0, 0)) := by rw [hw0, hX0]; exact heap_alloc_new w _
 have HX : Hid (∀ u, Below w0.heap.size w0 u → u.cell? ⟨X0, 0, none⟩ = some (.int .u8 x) ∧ u.cell? ⟨X0, 1, none⟩ = some (.int .u8 y)) := hid fun u hu => by
  have h := (hu.block X0 (Array.getElem?_eq_some_iff.1 hrow).1).trans hrow
  exact ⟨cell_of_row u X0 0 _ _ _ h, cell_of_row u X0 1 _ _ _ h⟩
 have HT : Hid (Tab w0) := hid (ht.keep HB0.out)
 clear ht hrow
 go_enter Tryz.func8, Tryz.ntmps8
 go_wp2_with fail
 rw [← hw0, ← hX0]
 clear hw0 hX0
 refine (zCT w0 HT.out).mono ?_
 rintro e w1 ⟨rfl, hb1⟩
 have HB1 : Hid (Below w0.heap.size w0 w1) := hid hb1
 have c0 := (HX.out w1 hb1).1
 clear hb1
 obtain ⟨j, hj7, hjx⟩ : ∃ j : Nat, j < 7 ∧ x % 7 = (j : Int) := ⟨(x % 7).toNat, by omega, by omega⟩
 have hx64 : IntKind.i64.wrap x = x := IntWalk.i64_in _ (by omega)
 obtain ⟨X1, hX1⟩ : ∃ q, q = w1.heap.size := ⟨_, rfl⟩
 have HX1 := hid hX1
 clear hX1
 cases ri with
 | false =>
  go_upto_region 6 with (refine zQm rfl (.tmp 9) (.tmp 22) rfl X1 (by rw [HX1.out]; rfl) pPlus 3 1 rfl ([], 0, 0) (by rw [HX1.out]; exact D3.new w1 ([], 0, 0)) ?_; rw [← HX1.out]; intro w2 h2 ho2; have H2 : Hid (D3 w2 X1 (oPr false)) := hid h2; have HB2 : Hid (Below w0.heap.size w0 w2) := hid (HB1.out.trans (((zAA w1 _).trans (ho2.below (by rw [HX1.out]; exact Nat.le_refl _))).mono HB1.out.size)); clear h2 ho2)
  try rw [hjx]
  clear hjx hx64 hx c0
  obtain ⟨r, hr⟩ : ∃ r : Bool, r = false := ⟨_, rfl⟩
  rw [← hr] at H2
  clear hr
  have HAD := hid (zQt r)
  have HSR := hid (zQr r)
  have HSH := hid (zQ2 r)
  have HNM := hid (zQ3 r)
  have HLR := hid (fun (e : Bool) => zQl hj7 e r)
  have HLD := hid (fun (e : Bool) (k : Nat) (hk : k < rowN j e) => zQs hj7 e r hk)
  have HYL := hid (fun e => zQg hj7 e)
  have HTW : Hid (Tab w2) := hid (HT.out.keep HB2.out)
  obtain ⟨o, ho⟩ : ∃ q, q = oPr r := ⟨_, rfl⟩
  rw [← ho] at H2 HAD HSR HSH HNM HLR HLD
  clear ho
  have hks : ∀ u, Below w2.heap.size w2 u → u.cell? ⟨X1, 0, none⟩ = some (.string (mk o.1)) ∧ u.cell? ⟨X1, 1, none⟩ = some (.int .i64 o.2.1) ∧ u.cell? ⟨X1, 2, none⟩ = some (.int .i64 o.2.2) := fun u hu => (H2.out.below hu).cells
  have HKS := hid hks
  clear hks
  go_cut [10, 11] (fun u v wx => ∃ (X : Nat) (a : Option Addr) (c : Nat), u = .pointer (some ⟨X, 0, none⟩) ∧ v = .int .i64 0 ∧ Hid (EB wx X a 1 c zS) ∧ Hid (OpS wx a 1 c [o]) ∧ Hid (Below w2.heap.size w2 wx))
  case first =>
   refine wp_region_noPanic ?_
   refine wp_region_held_drew (S := fun u => u.cell? ⟨X1, 0, none⟩ = some (.string (mk o.1)) ∧ u.cell? ⟨X1, 1, none⟩ = some (.int .i64 o.2.1) ∧ u.cell? ⟨X1, 2, none⟩ = some (.int .i64 o.2.2)) (by kernel_rfl) (HKS.out _ (Below.refl _ _).drew) (fun hHeld => ?_)
   refine zG 1 rfl ?_
   try simp only [Act.put, aS, aZ, aC]
   refine zR [0, 6] ?_
   refine hDo rfl (fun K hK => ?_) ?_
   ·go_simp
    (go_at_call 23; (with_reducible refine (zKW _).mono ?_); rintro e v1 ⟨rfl, hb1⟩)
    have HX1 : Hid (Below w2.heap.size w2 v1) := hid ((Below.refl w2.heap.size w2).drew.trans (hb1.mono (Below.refl w2.heap.size w2).drew.size))
    clear hb1
    refine hK.out _ _ (HKS.out _ HX1.out) (fun hHeld => ?_)
    clear hK K
    try simp only [Act.put, aS, aZ, aC]
    refine zR [2, 6] ?_
    refine hDo rfl (fun K hK => ?_) ?_
    ·go_simp
     (go_at_call 22; (with_reducible refine (zHI none 0 0 [] zS o _ (HTW.out.keep HX1.out) (zGr _) rfl (by decide) (HNM.out o (List.mem_singleton.2 rfl))).mono ?_); rintro e v2 ⟨a2, n2, c2, rfl, ho2, hb2⟩)
     have HX2 : Hid (Below w2.heap.size w2 v2) := hid (HX1.out.trans (hb2.mono HX1.out.size))
     rw [HAD.out.1] at ho2
     rw [HAD.out.2.1, HAD.out.2.2]
     obtain rfl : n2 = 1 := (OpS.len ho2.vs).symm
     have HO2 := hid ho2
     clear ho2 hb2
     refine hK.out _ _ (HKS.out _ HX2.out) (fun hHeld => ?_)
     clear hK K
     try simp only [Act.put, aS, aZ, aC]
     refine zG 3 rfl ?_
     try simp only [Act.put, aS, aZ, aC]
     refine zG 4 rfl ?_
     try simp only [Act.put, aS, aZ, aC]
     refine zG 5 rfl ?_
     try simp only [Act.put, aS, aZ, aC]
     refine zR [6] ?_
     refine hDo rfl (fun K hK => ?_) ?_
     ·refine zGd rfl rfl ?_
      intro v3 X13 hX3 hx3 hb3
      have HX3 : Hid (Below w2.heap.size w2 v3) := hid (HX2.out.trans (hb3.mono HX2.out.size))
      have HO3 := hid (HO2.out.keep hb3 (Nat.le_refl _))
      have HF3 := hid hx3
      have HG3 : Hid (w2.heap.size ≤ X13) := hid (by rw [hX3]; exact HX2.out.size)
      clear hX3 hx3 hb3
      refine hK.out _ _ (HKS.out _ HX3.out) (fun hHeld => ?_)
      clear hK K
      try simp only [Act.put, aS, aZ, aC]
      refine zR [7] ?_
      refine hDo rfl (fun K hK => ?_) ?_
      ·refine zAT rfl (.tmp 10) (.tmp 29) rfl X13 rfl a2 1 c2 zS rfl rfl none 0 0 z0 zAF HF3.out ?_
       intro v4 h4 ho4
       have H4 := hid h4
       have HP4 := hid ho4
       clear h4 ho4
       refine hK.out _ _ (HKS.out _ (HX3.out.trans (HP4.out.below HG3.out))) (fun hHeld => ?_)
       clear hK K
       try simp only [Act.put]
       refine zG 8 rfl ?_
       try simp only [Act.put, aS, aZ, aC]
       refine wpAnyH_done (by kernel_rfl) ?_ _
       refine NoPanic.normal ?_
       go_wp2
       go_meet
       exact ⟨X13, a2, c2, rfl, rfl, H4, hid (HO3.out.kt (P := tE) (by unfold tE; decide) (Kt.only HF3.out rfl HP4.out)).vs, hid (HX3.out.trans (HP4.out.below HG3.out))⟩
      exact AllReadyH.nil
     exact AllReadyH.nil
    refine hDo rfl (fun K hK => ?_) ?_
    ·refine zGd rfl rfl ?_
     intro v5 X15 hX5 hx5 hb5
     have HX5 : Hid (Below w2.heap.size w2 v5) := hid (HX1.out.trans (hb5.mono HX1.out.size))
     have HF5 := hid hx5
     have HG5 : Hid (w2.heap.size ≤ X15) := hid (by rw [hX5]; exact HX1.out.size)
     clear hX5 hx5 hb5
     refine hK.out _ _ (HKS.out _ HX5.out) (fun hHeld => ?_)
     clear hK K
     try simp only [Act.put, aS, aZ, aC]
     refine zR [2] ?_
     refine hDo rfl (fun K hK => ?_) ?_
     ·go_simp
      (go_at_call 22; (with_reducible refine (zHI none 0 0 [] zS o _ (HTW.out.keep HX5.out) (zGr _) rfl (by decide) (HNM.out o (List.mem_singleton.2 rfl))).mono ?_); rintro e v6 ⟨a6, n6, c6, rfl, ho6, hb6⟩)
      have HX6 : Hid (Below w2.heap.size w2 v6) := hid (HX5.out.trans (hb6.mono HX5.out.size))
      rw [HAD.out.1] at ho6
      rw [HAD.out.2.1, HAD.out.2.2]
      obtain rfl : n6 = 1 := (OpS.len ho6.vs).symm
      have HF6 := hid (HF5.out.below hb6)
      have HO6 := hid ho6
      clear ho6 hb6
      refine hK.out _ _ (HKS.out _ HX6.out) (fun hHeld => ?_)
      clear hK K
      try simp only [Act.put, aS, aZ, aC]
      refine zG 3 rfl ?_
      try simp only [Act.put, aS, aZ, aC]
      refine zG 4 rfl ?_
      try simp only [Act.put, aS, aZ, aC]
      refine zG 5 rfl ?_
      try simp only [Act.put, aS, aZ, aC]
      refine zR [7] ?_
      refine hDo rfl (fun K hK => ?_) ?_
      ·refine zAT rfl (.tmp 10) (.tmp 29) rfl X15 rfl a6 1 c6 zS rfl rfl none 0 0 z0 zAF HF6.out ?_
       intro v7 h7 ho7
       have H7 := hid h7
       have HP7 := hid ho7
       clear h7 ho7
       refine hK.out _ _ (HKS.out _ (HX6.out.trans (HP7.out.below HG5.out))) (fun hHeld => ?_)
       clear hK K
       try simp only [Act.put]
       refine zG 8 rfl ?_
       try simp only [Act.put, aS, aZ, aC]
       refine wpAnyH_done (by kernel_rfl) ?_ _
       refine NoPanic.normal ?_
       go_wp2
       go_meet
       exact ⟨X15, a6, c6, rfl, rfl, H7, hid (HO6.out.kt (P := tE) (by unfold tE; decide) (Kt.only HF6.out rfl HP7.out)).vs, hid (HX6.out.trans (HP7.out.below HG5.out))⟩
      exact AllReadyH.nil
     exact AllReadyH.nil
    exact AllReadyH.nil
   refine hDo rfl (fun K hK => ?_) ?_
   ·refine zGd rfl rfl ?_
    intro v8 X18 hX8 hx8 hb8
    have HX8 : Hid (Below w2.heap.size w2 v8) := hid ((Below.refl w2.heap.size w2).drew.trans (hb8.mono (Below.refl w2.heap.size w2).drew.size))
    have HF8 := hid hx8
    have HG8 : Hid (w2.heap.size ≤ X18) := hid (by rw [hX8]; exact (Below.refl w2.heap.size w2).drew.size)
    clear hX8 hx8 hb8
    refine hK.out _ _ (HKS.out _ HX8.out) (fun hHeld => ?_)
    clear hK K
    try simp only [Act.put, aS, aZ, aC]
    refine zR [0] ?_
    refine hDo rfl (fun K hK => ?_) ?_
    ·go_simp
     (go_at_call 23; (with_reducible refine (zKW _).mono ?_); rintro e v9 ⟨rfl, hb9⟩)
     have HX9 : Hid (Below w2.heap.size w2 v9) := hid (HX8.out.trans (hb9.mono HX8.out.size))
     have HF9 := hid (HF8.out.below hb9)
     clear hb9
     refine hK.out _ _ (HKS.out _ HX9.out) (fun hHeld => ?_)
     clear hK K
     try simp only [Act.put, aS, aZ, aC]
     refine zR [2] ?_
     refine hDo rfl (fun K hK => ?_) ?_
     ·go_simp
      (go_at_call 22; (with_reducible refine (zHI none 0 0 [] zS o _ (HTW.out.keep HX9.out) (zGr _) rfl (by decide) (HNM.out o (List.mem_singleton.2 rfl))).mono ?_); rintro e v10 ⟨a10, n10, c10, rfl, ho10, hb10⟩)
      have HX10 : Hid (Below w2.heap.size w2 v10) := hid (HX9.out.trans (hb10.mono HX9.out.size))
      rw [HAD.out.1] at ho10
      rw [HAD.out.2.1, HAD.out.2.2]
      obtain rfl : n10 = 1 := (OpS.len ho10.vs).symm
      have HF10 := hid (HF9.out.below hb10)
      have HO10 := hid ho10
      clear ho10 hb10
      refine hK.out _ _ (HKS.out _ HX10.out) (fun hHeld => ?_)
      clear hK K
      try simp only [Act.put, aS, aZ, aC]
      refine zG 3 rfl ?_
      try simp only [Act.put, aS, aZ, aC]
      refine zG 4 rfl ?_
      try simp only [Act.put, aS, aZ, aC]
      refine zG 5 rfl ?_
      try simp only [Act.put, aS, aZ, aC]
      refine zR [7] ?_
      refine hDo rfl (fun K hK => ?_) ?_
      ·refine zAT rfl (.tmp 10) (.tmp 29) rfl X18 rfl a10 1 c10 zS rfl rfl none 0 0 z0 zAF HF10.out ?_
       intro v11 h11 ho11
       have H11 := hid h11
       have HP11 := hid ho11
       clear h11 ho11
       refine hK.out _ _ (HKS.out _ (HX10.out.trans (HP11.out.below HG8.out))) (fun hHeld => ?_)
       clear hK K
       try simp only [Act.put]
       refine zG 8 rfl ?_
       try simp only [Act.put, aS, aZ, aC]
       refine wpAnyH_done (by kernel_rfl) ?_ _
       refine NoPanic.normal ?_
       go_wp2
       go_meet
       exact ⟨X18, a10, c10, rfl, rfl, H11, hid (HO10.out.kt (P := tE) (by unfold tE; decide) (Kt.only HF10.out rfl HP11.out)).vs, hid (HX10.out.trans (HP11.out.below HG8.out))⟩
      exact AllReadyH.nil
     exact AllReadyH.nil
    exact AllReadyH.nil
   exact AllReadyH.nil
  case rest =>
   obtain ⟨X, ea, ec, rfl, rfl, HE, HO, HBc⟩ := hcut
   obtain ⟨wq, hwq⟩ : ∃ q, q = wc := ⟨_, rfl⟩
   rw [← hwq] at HE HO HBc ⊢
   clear hwq HKS HAD HTW
   have HBq : Hid (Below w0.heap.size w0 wq) := hid (HB2.out.trans (HBc.out.mono HB2.out.size))
   have HLQ : Hid (∀ (wr : World) (la : Option Addr) (ln lc : Nat) (tok : List TK), Below wq.heap.size wq wr → Ts wr la ln lc tok → ln ≤ 90 → Calls Tryz.prog 20 #[.agg (ev ea 1 ec zS), .slice la ln lc] wr fun e w' => ∃ n : Nat, e = .returned (.int .i64 (n : Int)) ∧ LonP [o] zS tok n ∧ Below wr.heap.size wr w') := hid fun wr la ln lc tok hb ht2 hln =>
    zAY zS rfl zEU ea 1 ec [o] la ln lc tok wr ((HT.out.keep HBq.out).keep hb) (zBR HO.out hb) HSR.out (by decide) HSH.out HNM.out ht2 hln
   clear HBc HSR HSH HNM HB2 HB1
   go_wp2_with fail
   go_loopw [12, 13] (fun u v wr => ∃ (i : Nat), u = .string (mk (rowS i)) ∧ v = .int .i64 i ∧ i ≤ j ∧ Hid (wr = wq)) (fun _ v _ => j - (intOf v).toNat)
   case atStart => exact ⟨0, rfl, rfl, Nat.zero_le _, hid rfl⟩
   case round =>
    obtain ⟨i, rfl, rfl, hi, HWQ⟩ := hrel
    have hi0 : (0 : Int) ≤ (i : Int) := Int.natCast_nonneg _
    have HPL : Hid ((rowS i).length = 1 + 4 * i) := hid (zQi i)
    have HCT : Hid (mk (rowS i) ++ ⟨#[32, 43, 32, 98]⟩ = mk (rowS (i + 1))) := hid (mk_app (rowS i) [32, 43, 32, 98])
    have HCE : Hid (mk (rowS i) ++ ⟨#[32, 43]⟩ = mk (rowB i true)) := hid (mk_app (rowS i) [32, 43])
    have HCF : Hid (mk (rowS i) = mk (rowB i false)) := hid (by unfold rowB; simp)
    have hsz : (mk (rowS i)).size ≤ 100 := by rw [mk_size, HPL.out]; omega
    obtain ⟨p, hp⟩ : ∃ p, p = mk (rowS i) := ⟨_, rfl⟩
    rw [← hp] at HCT HCE HCF hsz ⊢
    clear hp
    by_cases hij : i < j
    ·have hijI : (i : Int) < (j : Int) := by omega
     have hz1 : p.size + (⟨#[32, 43, 32, 98]⟩ : ByteArray).size ≤ 300000 := by
      have : (⟨#[32, 43, 32, 98]⟩ : ByteArray).size = 4 := rfl
      omega
     go_wp2
     go_roundw
     case rel => exact ⟨i + 1, by rw [HCT.out], by go_num, by omega, HWQ⟩
     case measure => simp [intOf]; omega
    ·have hijI : ¬ (i : Int) < (j : Int) := by omega
     obtain rfl : i = j := by omega
     obtain rfl := HWQ.out
     clear hij hi HCT HWQ
     cases en with
     | true =>
      have hz1 : p.size + (⟨#[32, 43]⟩ : ByteArray).size ≤ 300000 := by
       have : (⟨#[32, 43]⟩ : ByteArray).size = 2 := rfl
       omega
      obtain ⟨gq, Cq, wr2, hcv, hbs, hbq⟩ := zHr wr (p ++ ⟨#[32, 43]⟩) (bI (rowB i true)) (by rw [HCE.out, zQh]) (zQn _) (by rw [zQc]; unfold rowB; rw [List.length_append, HPL.out]; simp; omega)
      rw [zQc] at hcv hbs
      have HBS := hid hbs
      have HBQ : Hid (Below wr.heap.size wr wr2) := hid hbq
      clear hbs hbq
      go_wp2_with fail
      clear hcv
      refine (zDA (some ⟨gq, 0, none⟩) (rowB i true).length Cq (bI (rowB i true)) wr2 HBS.out ((HT.out.keep HBq.out).keep HBQ.out) (by unfold rowB; rw [List.length_append, HPL.out]; simp; omega)).mono ?_
      rintro e w4 ⟨la, rfl, hrow, hb4⟩
      rw [show toks (bI (rowB i true)) = rowY i true from rfl] at hrow ⊢
      have hyl := (HYL.out true).1
      rw [hyl] at hrow ⊢
      have HTS : Hid (Ts w4 la (rowN i true) (rowN i true) (rowY i true)) := hid hrow.ts
      have HB4 : Hid (Below wr.heap.size wr w4) := hid (HBQ.out.trans (hb4.mono HBQ.out.size))
      have HLR2 := hid (HLR.out true)
      have HLD2 := hid (HLD.out true)
      have hKn : 1 ≤ rowN i true ∧ rowN i true ≤ 14 := by unfold rowN; simp; omega
      obtain ⟨kN, hK⟩ : ∃ kN, kN = rowN i true := ⟨_, rfl⟩
      obtain ⟨Y, hY⟩ : ∃ Y, Y = rowY i true := ⟨_, rfl⟩
      rw [← hK] at HTS HLR2 HLD2 hKn ⊢
      rw [← hY] at HTS HLR2 HLD2
      clear hrow hb4 hyl hK hY HLR HLD HYL HPL HCE HCF HBS HBQ
      have hK0 : ((kN : Int) == 0) = false := by simp; omega
      have hKK : ((kN : Int) != (kN : Int)) = false := by simp
      have hK1 : 1 ≤ kN := hKn.1
      have hK14 : kN ≤ 14 := hKn.2
      clear hKn
      go_wp2_with (refine zAS rfl (.tmp 10) rfl X rfl ea 1 ec zS rfl (HE.out.below HB4.out) ?_)
      refine (HLQ.out w4 la kN kN Y HB4.out HTS.out (by omega)).mono ?_
      rintro e w5 ⟨n5, rfl, hl5, hb5⟩
      obtain rfl : kN = n5 := zBF HLR2.out hl5
      have HB5 : Hid (Below wr.heap.size wr w5) := hid (HB4.out.trans (hb5.mono HB4.out.size))
      have HTS5 : Hid (Ts w5 la kN kN Y) := hid (HTS.out.below hb5)
      clear hl5 hb5 HLR2 HTS
      obtain ⟨yn, rfl⟩ : ∃ q : Nat, y = (q : Int) := ⟨y.toNat, by omega⟩
      have c1 := (HX.out w5 (HBq.out.trans (HB5.out.mono HBq.out.size))).2
      obtain ⟨q, hq⟩ : ∃ q, q = yn % kN := ⟨_, rfl⟩
      have hqK : q < kN := by rw [hq]; exact Nat.mod_lt _ (by omega)
      have htm : Int.tmod (yn : Int) (kN : Int) = (q : Int) := by rw [hq]; rfl
      have hy64 : IntKind.i64.wrap (yn : Int) = (yn : Int) := IntWalk.i64_in _ (by omega)
      have hem : (yn : Int) % (kN : Int) = (q : Int) := by rw [hq]; rfl
      have hKne : ¬ (kN : Int) = 0 := by omega
      clear hq
      go_upto_region 18 with fail
      clear htm hem hy64 c1 hKne hy
      have hq0 : (0 : Int) ≤ (q : Int) := Int.natCast_nonneg _
      have hqI : (q : Int) < (kN : Int) := by omega
      obtain ⟨q1, hq1e⟩ : ∃ q1, q1 = q + 1 := ⟨_, rfl⟩
      have HQ1 := hid hq1e
      have hq1K : q1 ≤ kN := by omega
      have hq1l : q1 ≤ 14 := by omega
      have hq1 : IntKind.i64.wrap ((q : Int) + 1) = (q1 : Int) := by rw [show (q : Int) + 1 = (q1 : Int) by omega]; exact IntWalk.i64_in _ (by omega)
      have hq2 : IntKind.i64.wrap (q1 : Int) = (q1 : Int) := IntWalk.i64_in _ (by omega)
      have hq10 : (0 : Int) ≤ (q1 : Int) := Int.natCast_nonneg _
      obtain ⟨tb, to_, rfl, _, _⟩ := HTS5.out.at_ (by omega)
      have hsl := (zA3 HTS5.out hq1K).1
      obtain ⟨o2, hsf, hsT⟩ := zQj (b := tb) (off := to_) (n := kN) (c := kN) (L := Y) hq1K
      obtain ⟨d, hd⟩ : ∃ d, d = kN - q1 := ⟨_, rfl⟩
      rw [← hd] at hsT
      simp only [← hd] at hsf
      have hdl : d ≤ 14 := by omega
      have HSF := hid hsT
      clear hsT hd
      obtain ⟨tk, tf, tt, tx, te, htk⟩ : ∃ tk tf tt tx te, tat Y q = ⟨tk, tf, tt, mk tx, te⟩ := ⟨_, _, _, txN (tat Y q), _, by rw [zNq]⟩
      have hks : ∀ u, Below w5.heap.size w5 u → u.cell? ⟨tb, to_ + q * 5, none⟩ = some (.int .i64 tk) ∧ u.cell? ⟨tb, to_ + q * 5 + 1, none⟩ = some (.int .i64 tf) ∧ u.cell? ⟨tb, to_ + q * 5 + 2, none⟩ = some (.int .i64 tt) ∧ u.cell? ⟨tb, to_ + q * 5 + 3, none⟩ = some (.string (mk tx)) ∧ u.cell? ⟨tb, to_ + q * 5 + 4, none⟩ = some (.int .i64 te) := fun u hu => by
       have h := Ts.at5 (HTS5.out.below hu) hqK
       rw [htk] at h
       exact h
      have HKS := hid hks
      have HDB : Hid (dblT Y q = Y.take q1 ++ [⟨tk, tf, tt, mk tx, te⟩] ++ Y.drop q1) := hid (by unfold dblT; rw [htk, HQ1.out])
      have HLE : Hid (LonP [o] zS (dblT Y q) q1) := hid (by rw [HQ1.out]; exact HLD2.out q hqK)
      clear hks htk hq1e
      go_cut [16] (fun v wx => ∃ (a : Option Addr) (c : Nat), v = .slice a (q1 + 1 + d) c ∧ Hid (Ts wx a (q1 + 1 + d) c (dblT Y q)) ∧ Hid (Below w5.heap.size w5 wx))
      case first =>
       refine wp_region_noPanic ?_
       refine wp_region_held_drew (S := fun u => u.cell? ⟨tb, to_ + q * 5, none⟩ = some (.int .i64 tk) ∧ u.cell? ⟨tb, to_ + q * 5 + 1, none⟩ = some (.int .i64 tf) ∧ u.cell? ⟨tb, to_ + q * 5 + 2, none⟩ = some (.int .i64 tt) ∧ u.cell? ⟨tb, to_ + q * 5 + 3, none⟩ = some (.string (mk tx)) ∧ u.cell? ⟨tb, to_ + q * 5 + 4, none⟩ = some (.int .i64 te)) (by kernel_rfl) (HKS.out _ (Below.refl _ _).drew) (fun hHeld => ?_)
       refine zG 1 rfl ?_
       try simp only [Act.put, aS, aZ, aC]
       refine zG 2 rfl ?_
       try simp only [Act.put, aS, aZ, aC]
       refine zG 3 rfl ?_
       try simp only [Act.put, aS, aZ, aC]
       refine zG 4 rfl ?_
       try simp only [Act.put, aS, aZ, aC]
       refine zG 6 rfl ?_
       try simp only [Act.put, aS, aZ, aC]
       refine zG 7 rfl ?_
       try simp only [Act.put, aS, aZ, aC]
       refine zG 8 rfl ?_
       try simp only [Act.put, aS, aZ, aC]
       refine zG 9 rfl ?_
       try simp only [Act.put, aS, aZ, aC]
       refine zG 12 rfl ?_
       try simp only [Act.put, aS, aZ, aC]
       refine zG 13 rfl ?_
       try simp only [Act.put, aS, aZ, aC]
       refine zG 14 rfl ?_
       try simp only [Act.put, aS, aZ, aC]
       refine zG 15 rfl ?_
       try simp only [Act.put, aS, aZ, aC]
       refine zR [0, 10] ?_
       refine hDo rfl (fun K hK => ?_) ?_
       ·refine zE7 rfl rfl ?_
        intro p12 g12 hg12 hl12 ho12 hb12
        have HX12 : Hid (Below w5.heap.size w5 p12) := hid ((Below.refl w5.heap.size w5).drew.trans (hb12.mono (Below.refl w5.heap.size w5).drew.size))
        have HR12 := hid (ho12 w5.heap.size (by rw [hg12]; exact (Below.refl w5.heap.size w5).drew.size))
        have HL12 := hid hl12
        clear hg12 hl12 ho12 hb12
        refine hK.out _ _ (HKS.out _ HX12.out) (fun hHeld => ?_)
        clear hK K
        try simp only [Act.put, aS, aZ, aC]
        refine zR [5, 10] ?_
        refine hDo rfl (fun K hK => ?_) ?_
        ·refine zBU rfl (.tmp 61) (.tmp 65) rfl w5.heap.size (some ⟨g12, 0, none⟩) 0 0 [] rfl HR12.out (some ⟨tb, to_, none⟩) q1 kN (Y.take q1) rfl ((zA3 HTS5.out hq1K).2 _ (HTS5.out.below HX12.out)) (by omega) HX12.out.size ?_
         intro a13 c13 p13 ho13 hg13 hb13
         rw [Nat.zero_add] at ho13 ⊢
         rw [List.nil_append] at ho13
         have HX13 : Hid (Below w5.heap.size w5 p13) := hid (HX12.out.trans hb13)
         have HR13 := hid ho13
         clear ho13 hg13 hb13
         refine hK.out _ _ (HKS.out _ HX13.out) (fun hHeld => ?_)
         clear hK K
         try simp only [Act.put, aS, aZ, aC]
         refine zR [10] ?_
         refine hDo rfl (fun K hK => ?_) ?_
         ·refine zEc rfl (.tmp 70) rfl tk tf tt tx te rfl ?_
          intro p14 g14 hg14 ht14 hb14
          have HX14 : Hid (Below w5.heap.size w5 p14) := hid (HX13.out.trans (hb14.mono HX13.out.size))
          have HQ14 := hid ht14
          have HG14 : Hid (w5.heap.size ≤ g14) := hid (by rw [hg14]; exact HX13.out.size)
          have HR14 := hid (HR13.out.keep hb14 (Nat.le_refl _))
          clear hg14 ht14 hb14
          refine hK.out _ _ (HKS.out _ HX14.out) (fun hHeld => ?_)
          clear hK K
          try simp only [Act.put, aS, aZ, aC]
          refine zR [11] ?_
          refine hDo rfl (fun K hK => ?_) ?_
          ·refine zBU rfl (.tmp 66) (.tmp 71) rfl w5.heap.size a13 q1 c13 (Y.take q1) rfl HR14.out (some ⟨g14, 0, none⟩) 1 1 [⟨tk, tf, tt, mk tx, te⟩] rfl (HQ14.out.own HG14.out).ts (by omega) HX14.out.size ?_
           intro a15 c15 p15 ho15 hg15 hb15
           have HX15 : Hid (Below w5.heap.size w5 p15) := hid (HX14.out.trans hb15)
           have HR15 := hid ho15
           clear ho15 hg15 hb15
           refine hK.out _ _ (HKS.out _ HX15.out) (fun hHeld => ?_)
           clear hK K
           try simp only [Act.put, aS, aZ, aC]
           refine zR [16] ?_
           refine hDo rfl (fun K hK => ?_) ?_
           ·refine zBU rfl (.tmp 72) (.tmp 76) rfl w5.heap.size a15 (q1 + 1) c15 (Y.take q1 ++ [⟨tk, tf, tt, mk tx, te⟩]) rfl HR15.out (some ⟨tb, o2, none⟩) d d (Y.drop q1) rfl (HSF.out _ (HTS5.out.below HX15.out)) (by omega) HX15.out.size ?_
            intro a16 c16 p16 ho16 hg16 hb16
            have HX16 : Hid (Below w5.heap.size w5 p16) := hid (HX15.out.trans hb16)
            have HR16 := hid ho16.ts
            clear ho16 hg16 hb16
            refine hK.out _ _ (HKS.out _ HX16.out) (fun hHeld => ?_)
            clear hK K
            try simp only [Act.put, aS, aZ, aC]
            refine zG 17 rfl ?_
            try simp only [Act.put, aS, aZ, aC]
            refine wpAnyH_done (by kernel_rfl) ?_ _
            refine NoPanic.normal ?_
            go_wp2
            go_meet
            exact ⟨a16, c16, rfl, hid (by rw [HDB.out]; exact HR16.out), hid HX16.out⟩
           exact AllReadyH.nil
          exact AllReadyH.nil
         exact AllReadyH.nil
        refine hDo rfl (fun K hK => ?_) ?_
        ·refine zEc rfl (.tmp 70) rfl tk tf tt tx te rfl ?_
         intro p17 g17 hg17 ht17 hb17
         have HX17 : Hid (Below w5.heap.size w5 p17) := hid (HX12.out.trans (hb17.mono HX12.out.size))
         have HQ17 := hid ht17
         have HG17 : Hid (w5.heap.size ≤ g17) := hid (by rw [hg17]; exact HX12.out.size)
         have HR17 := hid (HR12.out.keep hb17 (Nat.le_refl _))
         have HN17 : Hid (g17 ≠ g12) := hid (by have := HL12.out; omega)
         clear hg17 ht17 hb17
         refine hK.out _ _ (HKS.out _ HX17.out) (fun hHeld => ?_)
         clear hK K
         try simp only [Act.put, aS, aZ, aC]
         refine zR [5] ?_
         refine hDo rfl (fun K hK => ?_) ?_
         ·refine zBU rfl (.tmp 61) (.tmp 65) rfl w5.heap.size (some ⟨g12, 0, none⟩) 0 0 [] rfl HR17.out (some ⟨tb, to_, none⟩) q1 kN (Y.take q1) rfl ((zA3 HTS5.out hq1K).2 _ (HTS5.out.below HX17.out)) (by omega) HX17.out.size ?_
          intro a18 c18 p18 ho18 hg18 hb18
          rw [Nat.zero_add] at ho18 ⊢
          rw [List.nil_append] at ho18
          have HX18 : Hid (Below w5.heap.size w5 p18) := hid (HX17.out.trans hb18)
          have HR18 := hid ho18
          have HQ18 := hid (HQ17.out.grown hg18 HN17.out)
          clear ho18 hg18 hb18
          refine hK.out _ _ (HKS.out _ HX18.out) (fun hHeld => ?_)
          clear hK K
          try simp only [Act.put, aS, aZ, aC]
          refine zR [11] ?_
          refine hDo rfl (fun K hK => ?_) ?_
          ·refine zBU rfl (.tmp 66) (.tmp 71) rfl w5.heap.size a18 q1 c18 (Y.take q1) rfl HR18.out (some ⟨g17, 0, none⟩) 1 1 [⟨tk, tf, tt, mk tx, te⟩] rfl (HQ18.out.own HG17.out).ts (by omega) HX18.out.size ?_
           intro a19 c19 p19 ho19 hg19 hb19
           have HX19 : Hid (Below w5.heap.size w5 p19) := hid (HX18.out.trans hb19)
           have HR19 := hid ho19
           clear ho19 hg19 hb19
           refine hK.out _ _ (HKS.out _ HX19.out) (fun hHeld => ?_)
           clear hK K
           try simp only [Act.put, aS, aZ, aC]
           refine zR [16] ?_
           refine hDo rfl (fun K hK => ?_) ?_
           ·refine zBU rfl (.tmp 72) (.tmp 76) rfl w5.heap.size a19 (q1 + 1) c19 (Y.take q1 ++ [⟨tk, tf, tt, mk tx, te⟩]) rfl HR19.out (some ⟨tb, o2, none⟩) d d (Y.drop q1) rfl (HSF.out _ (HTS5.out.below HX19.out)) (by omega) HX19.out.size ?_
            intro a20 c20 p20 ho20 hg20 hb20
            have HX20 : Hid (Below w5.heap.size w5 p20) := hid (HX19.out.trans hb20)
            have HR20 := hid ho20.ts
            clear ho20 hg20 hb20
            refine hK.out _ _ (HKS.out _ HX20.out) (fun hHeld => ?_)
            clear hK K
            try simp only [Act.put, aS, aZ, aC]
            refine zG 17 rfl ?_
            try simp only [Act.put, aS, aZ, aC]
            refine wpAnyH_done (by kernel_rfl) ?_ _
            refine NoPanic.normal ?_
            go_wp2
            go_meet
            exact ⟨a20, c20, rfl, hid (by rw [HDB.out]; exact HR20.out), hid HX20.out⟩
           exact AllReadyH.nil
          exact AllReadyH.nil
         exact AllReadyH.nil
        exact AllReadyH.nil
       refine hDo rfl (fun K hK => ?_) ?_
       ·refine zEc rfl (.tmp 70) rfl tk tf tt tx te rfl ?_
        intro p21 g21 hg21 ht21 hb21
        have HX21 : Hid (Below w5.heap.size w5 p21) := hid ((Below.refl w5.heap.size w5).drew.trans (hb21.mono (Below.refl w5.heap.size w5).drew.size))
        have HQ21 := hid ht21
        have HG21 : Hid (w5.heap.size ≤ g21) := hid (by rw [hg21]; exact (Below.refl w5.heap.size w5).drew.size)
        clear hg21 ht21 hb21
        refine hK.out _ _ (HKS.out _ HX21.out) (fun hHeld => ?_)
        clear hK K
        try simp only [Act.put, aS, aZ, aC]
        refine zR [0] ?_
        refine hDo rfl (fun K hK => ?_) ?_
        ·refine zE7 rfl rfl ?_
         intro p22 g22 hg22 hl22 ho22 hb22
         have HX22 : Hid (Below w5.heap.size w5 p22) := hid (HX21.out.trans (hb22.mono HX21.out.size))
         have HR22 := hid (ho22 w5.heap.size (by rw [hg22]; exact HX21.out.size))
         have HL22 := hid hl22
         have HQ22 := hid (HQ21.out.below hb22)
         have HN22 : Hid (g21 ≠ g22) := hid (by have := (Array.getElem?_eq_some_iff.1 HQ21.out).1; omega)
         clear hg22 hl22 ho22 hb22
         refine hK.out _ _ (HKS.out _ HX22.out) (fun hHeld => ?_)
         clear hK K
         try simp only [Act.put, aS, aZ, aC]
         refine zR [5] ?_
         refine hDo rfl (fun K hK => ?_) ?_
         ·refine zBU rfl (.tmp 61) (.tmp 65) rfl w5.heap.size (some ⟨g22, 0, none⟩) 0 0 [] rfl HR22.out (some ⟨tb, to_, none⟩) q1 kN (Y.take q1) rfl ((zA3 HTS5.out hq1K).2 _ (HTS5.out.below HX22.out)) (by omega) HX22.out.size ?_
          intro a23 c23 p23 ho23 hg23 hb23
          rw [Nat.zero_add] at ho23 ⊢
          rw [List.nil_append] at ho23
          have HX23 : Hid (Below w5.heap.size w5 p23) := hid (HX22.out.trans hb23)
          have HR23 := hid ho23
          have HQ23 := hid (HQ22.out.grown hg23 HN22.out)
          clear ho23 hg23 hb23
          refine hK.out _ _ (HKS.out _ HX23.out) (fun hHeld => ?_)
          clear hK K
          try simp only [Act.put, aS, aZ, aC]
          refine zR [11] ?_
          refine hDo rfl (fun K hK => ?_) ?_
          ·refine zBU rfl (.tmp 66) (.tmp 71) rfl w5.heap.size a23 q1 c23 (Y.take q1) rfl HR23.out (some ⟨g21, 0, none⟩) 1 1 [⟨tk, tf, tt, mk tx, te⟩] rfl (HQ23.out.own HG21.out).ts (by omega) HX23.out.size ?_
           intro a24 c24 p24 ho24 hg24 hb24
           have HX24 : Hid (Below w5.heap.size w5 p24) := hid (HX23.out.trans hb24)
           have HR24 := hid ho24
           clear ho24 hg24 hb24
           refine hK.out _ _ (HKS.out _ HX24.out) (fun hHeld => ?_)
           clear hK K
           try simp only [Act.put, aS, aZ, aC]
           refine zR [16] ?_
           refine hDo rfl (fun K hK => ?_) ?_
           ·refine zBU rfl (.tmp 72) (.tmp 76) rfl w5.heap.size a24 (q1 + 1) c24 (Y.take q1 ++ [⟨tk, tf, tt, mk tx, te⟩]) rfl HR24.out (some ⟨tb, o2, none⟩) d d (Y.drop q1) rfl (HSF.out _ (HTS5.out.below HX24.out)) (by omega) HX24.out.size ?_
            intro a25 c25 p25 ho25 hg25 hb25
            have HX25 : Hid (Below w5.heap.size w5 p25) := hid (HX24.out.trans hb25)
            have HR25 := hid ho25.ts
            clear ho25 hg25 hb25
            refine hK.out _ _ (HKS.out _ HX25.out) (fun hHeld => ?_)
            clear hK K
            try simp only [Act.put, aS, aZ, aC]
            refine zG 17 rfl ?_
            try simp only [Act.put, aS, aZ, aC]
            refine wpAnyH_done (by kernel_rfl) ?_ _
            refine NoPanic.normal ?_
            go_wp2
            go_meet
            exact ⟨a25, c25, rfl, hid (by rw [HDB.out]; exact HR25.out), hid HX25.out⟩
           exact AllReadyH.nil
          exact AllReadyH.nil
         exact AllReadyH.nil
        exact AllReadyH.nil
       exact AllReadyH.nil
      case rest =>
       obtain ⟨da, dc, rfl, HD, HBd⟩ := hcut
       obtain ⟨w6, hw6⟩ : ∃ q, q = wc := ⟨_, rfl⟩
       rw [← hw6] at HD HBd ⊢
       clear hw6 HKS HSF HDB
       have HB6 : Hid (Below wr.heap.size wr w6) := hid (HB5.out.trans (HBd.out.mono HB5.out.size))
       go_wp2_with (refine zAS rfl (.tmp 10) rfl X rfl ea 1 ec zS rfl (HE.out.below HB6.out) ?_)
       refine (HLQ.out w6 da _ dc (dblT Y q) HB6.out HD.out (by omega)).mono ?_
       rintro e w7 ⟨n7, rfl, hl7, hb7⟩
       obtain rfl : q1 = n7 := zBF HLE.out hl7
       have HB7 : Hid (Below wr.heap.size wr w7) := hid (HB6.out.trans (hb7.mono HB6.out.size))
       clear hl7 hb7
       have hqe : ((q1 : Int) == (q1 : Int)) = true := by simp
       go_wp2
       go_ret
       exact ⟨rfl, HB0.out.trans ((HBq.out.trans (HB7.out.mono HBq.out.size)).mono HB0.out.size)⟩
     | false =>
      obtain ⟨gq, Cq, wr2, hcv, hbs, hbq⟩ := zHr wr p (bI (rowB i false)) (by rw [HCF.out, zQh]) (zQn _) (by rw [zQc]; unfold rowB; rw [List.length_append, HPL.out]; simp; omega)
      rw [zQc] at hcv hbs
      have HBS := hid hbs
      have HBQ : Hid (Below wr.heap.size wr wr2) := hid hbq
      clear hbs hbq
      go_wp2_with fail
      clear hcv
      refine (zDA (some ⟨gq, 0, none⟩) (rowB i false).length Cq (bI (rowB i false)) wr2 HBS.out ((HT.out.keep HBq.out).keep HBQ.out) (by unfold rowB; rw [List.length_append, HPL.out]; simp; omega)).mono ?_
      rintro e w4 ⟨la, rfl, hrow, hb4⟩
      rw [show toks (bI (rowB i false)) = rowY i false from rfl] at hrow ⊢
      have hyl := (HYL.out false).1
      rw [hyl] at hrow ⊢
      have HTS : Hid (Ts w4 la (rowN i false) (rowN i false) (rowY i false)) := hid hrow.ts
      have HB4 : Hid (Below wr.heap.size wr w4) := hid (HBQ.out.trans (hb4.mono HBQ.out.size))
      have HLR2 := hid (HLR.out false)
      have HLD2 := hid (HLD.out false)
      have hKn : 1 ≤ rowN i false ∧ rowN i false ≤ 14 := by unfold rowN; simp; omega
      obtain ⟨kN, hK⟩ : ∃ kN, kN = rowN i false := ⟨_, rfl⟩
      obtain ⟨Y, hY⟩ : ∃ Y, Y = rowY i false := ⟨_, rfl⟩
      rw [← hK] at HTS HLR2 HLD2 hKn ⊢
      rw [← hY] at HTS HLR2 HLD2
      clear hrow hb4 hyl hK hY HLR HLD HYL HPL HCE HCF HBS HBQ
      have hK0 : ((kN : Int) == 0) = false := by simp; omega
      have hKK : ((kN : Int) != (kN : Int)) = false := by simp
      have hK1 : 1 ≤ kN := hKn.1
      have hK14 : kN ≤ 14 := hKn.2
      clear hKn
      go_wp2_with (refine zAS rfl (.tmp 10) rfl X rfl ea 1 ec zS rfl (HE.out.below HB4.out) ?_)
      refine (HLQ.out w4 la kN kN Y HB4.out HTS.out (by omega)).mono ?_
      rintro e w5 ⟨n5, rfl, hl5, hb5⟩
      obtain rfl : kN = n5 := zBF HLR2.out hl5
      have HB5 : Hid (Below wr.heap.size wr w5) := hid (HB4.out.trans (hb5.mono HB4.out.size))
      have HTS5 : Hid (Ts w5 la kN kN Y) := hid (HTS.out.below hb5)
      clear hl5 hb5 HLR2 HTS
      obtain ⟨yn, rfl⟩ : ∃ q : Nat, y = (q : Int) := ⟨y.toNat, by omega⟩
      have c1 := (HX.out w5 (HBq.out.trans (HB5.out.mono HBq.out.size))).2
      obtain ⟨q, hq⟩ : ∃ q, q = yn % kN := ⟨_, rfl⟩
      have hqK : q < kN := by rw [hq]; exact Nat.mod_lt _ (by omega)
      have htm : Int.tmod (yn : Int) (kN : Int) = (q : Int) := by rw [hq]; rfl
      have hy64 : IntKind.i64.wrap (yn : Int) = (yn : Int) := IntWalk.i64_in _ (by omega)
      have hem : (yn : Int) % (kN : Int) = (q : Int) := by rw [hq]; rfl
      have hKne : ¬ (kN : Int) = 0 := by omega
      clear hq
      go_upto_region 18 with fail
      clear htm hem hy64 c1 hKne hy
      have hq0 : (0 : Int) ≤ (q : Int) := Int.natCast_nonneg _
      have hqI : (q : Int) < (kN : Int) := by omega
      obtain ⟨q1, hq1e⟩ : ∃ q1, q1 = q + 1 := ⟨_, rfl⟩
      have HQ1 := hid hq1e
      have hq1K : q1 ≤ kN := by omega
      have hq1l : q1 ≤ 14 := by omega
      have hq1 : IntKind.i64.wrap ((q : Int) + 1) = (q1 : Int) := by rw [show (q : Int) + 1 = (q1 : Int) by omega]; exact IntWalk.i64_in _ (by omega)
      have hq2 : IntKind.i64.wrap (q1 : Int) = (q1 : Int) := IntWalk.i64_in _ (by omega)
      have hq10 : (0 : Int) ≤ (q1 : Int) := Int.natCast_nonneg _
      obtain ⟨tb, to_, rfl, _, _⟩ := HTS5.out.at_ (by omega)
      have hsl := (zA3 HTS5.out hq1K).1
      obtain ⟨o2, hsf, hsT⟩ := zQj (b := tb) (off := to_) (n := kN) (c := kN) (L := Y) hq1K
      obtain ⟨d, hd⟩ : ∃ d, d = kN - q1 := ⟨_, rfl⟩
      rw [← hd] at hsT
      simp only [← hd] at hsf
      have hdl : d ≤ 14 := by omega
      have HSF := hid hsT
      clear hsT hd
      obtain ⟨tk, tf, tt, tx, te, htk⟩ : ∃ tk tf tt tx te, tat Y q = ⟨tk, tf, tt, mk tx, te⟩ := ⟨_, _, _, txN (tat Y q), _, by rw [zNq]⟩
      have hks : ∀ u, Below w5.heap.size w5 u → u.cell? ⟨tb, to_ + q * 5, none⟩ = some (.int .i64 tk) ∧ u.cell? ⟨tb, to_ + q * 5 + 1, none⟩ = some (.int .i64 tf) ∧ u.cell? ⟨tb, to_ + q * 5 + 2, none⟩ = some (.int .i64 tt) ∧ u.cell? ⟨tb, to_ + q * 5 + 3, none⟩ = some (.string (mk tx)) ∧ u.cell? ⟨tb, to_ + q * 5 + 4, none⟩ = some (.int .i64 te) := fun u hu => by
       have h := Ts.at5 (HTS5.out.below hu) hqK
       rw [htk] at h
       exact h
      have HKS := hid hks
      have HDB : Hid (dblT Y q = Y.take q1 ++ [⟨tk, tf, tt, mk tx, te⟩] ++ Y.drop q1) := hid (by unfold dblT; rw [htk, HQ1.out])
      have HLE : Hid (LonP [o] zS (dblT Y q) q1) := hid (by rw [HQ1.out]; exact HLD2.out q hqK)
      clear hks htk hq1e
      go_cut [16] (fun v wx => ∃ (a : Option Addr) (c : Nat), v = .slice a (q1 + 1 + d) c ∧ Hid (Ts wx a (q1 + 1 + d) c (dblT Y q)) ∧ Hid (Below w5.heap.size w5 wx))
      case first =>
       refine wp_region_noPanic ?_
       refine wp_region_held_drew (S := fun u => u.cell? ⟨tb, to_ + q * 5, none⟩ = some (.int .i64 tk) ∧ u.cell? ⟨tb, to_ + q * 5 + 1, none⟩ = some (.int .i64 tf) ∧ u.cell? ⟨tb, to_ + q * 5 + 2, none⟩ = some (.int .i64 tt) ∧ u.cell? ⟨tb, to_ + q * 5 + 3, none⟩ = some (.string (mk tx)) ∧ u.cell? ⟨tb, to_ + q * 5 + 4, none⟩ = some (.int .i64 te)) (by kernel_rfl) (HKS.out _ (Below.refl _ _).drew) (fun hHeld => ?_)
       refine zG 1 rfl ?_
       try simp only [Act.put, aS, aZ, aC]
       refine zG 2 rfl ?_
       try simp only [Act.put, aS, aZ, aC]
       refine zG 3 rfl ?_
       try simp only [Act.put, aS, aZ, aC]
       refine zG 4 rfl ?_
       try simp only [Act.put, aS, aZ, aC]
       refine zG 6 rfl ?_
       try simp only [Act.put, aS, aZ, aC]
       refine zG 7 rfl ?_
       try simp only [Act.put, aS, aZ, aC]
       refine zG 8 rfl ?_
       try simp only [Act.put, aS, aZ, aC]
       refine zG 9 rfl ?_
       try simp only [Act.put, aS, aZ, aC]
       refine zG 12 rfl ?_
       try simp only [Act.put, aS, aZ, aC]
       refine zG 13 rfl ?_
       try simp only [Act.put, aS, aZ, aC]
       refine zG 14 rfl ?_
       try simp only [Act.put, aS, aZ, aC]
       refine zG 15 rfl ?_
       try simp only [Act.put, aS, aZ, aC]
       refine zR [0, 10] ?_
       refine hDo rfl (fun K hK => ?_) ?_
       ·refine zE7 rfl rfl ?_
        intro p26 g26 hg26 hl26 ho26 hb26
        have HX26 : Hid (Below w5.heap.size w5 p26) := hid ((Below.refl w5.heap.size w5).drew.trans (hb26.mono (Below.refl w5.heap.size w5).drew.size))
        have HR26 := hid (ho26 w5.heap.size (by rw [hg26]; exact (Below.refl w5.heap.size w5).drew.size))
        have HL26 := hid hl26
        clear hg26 hl26 ho26 hb26
        refine hK.out _ _ (HKS.out _ HX26.out) (fun hHeld => ?_)
        clear hK K
        try simp only [Act.put, aS, aZ, aC]
        refine zR [5, 10] ?_
        refine hDo rfl (fun K hK => ?_) ?_
        ·refine zBU rfl (.tmp 61) (.tmp 65) rfl w5.heap.size (some ⟨g26, 0, none⟩) 0 0 [] rfl HR26.out (some ⟨tb, to_, none⟩) q1 kN (Y.take q1) rfl ((zA3 HTS5.out hq1K).2 _ (HTS5.out.below HX26.out)) (by omega) HX26.out.size ?_
         intro a27 c27 p27 ho27 hg27 hb27
         rw [Nat.zero_add] at ho27 ⊢
         rw [List.nil_append] at ho27
         have HX27 : Hid (Below w5.heap.size w5 p27) := hid (HX26.out.trans hb27)
         have HR27 := hid ho27
         clear ho27 hg27 hb27
         refine hK.out _ _ (HKS.out _ HX27.out) (fun hHeld => ?_)
         clear hK K
         try simp only [Act.put, aS, aZ, aC]
         refine zR [10] ?_
         refine hDo rfl (fun K hK => ?_) ?_
         ·refine zEc rfl (.tmp 70) rfl tk tf tt tx te rfl ?_
          intro p28 g28 hg28 ht28 hb28
          have HX28 : Hid (Below w5.heap.size w5 p28) := hid (HX27.out.trans (hb28.mono HX27.out.size))
          have HQ28 := hid ht28
          have HG28 : Hid (w5.heap.size ≤ g28) := hid (by rw [hg28]; exact HX27.out.size)
          have HR28 := hid (HR27.out.keep hb28 (Nat.le_refl _))
          clear hg28 ht28 hb28
          refine hK.out _ _ (HKS.out _ HX28.out) (fun hHeld => ?_)
          clear hK K
          try simp only [Act.put, aS, aZ, aC]
          refine zR [11] ?_
          refine hDo rfl (fun K hK => ?_) ?_
          ·refine zBU rfl (.tmp 66) (.tmp 71) rfl w5.heap.size a27 q1 c27 (Y.take q1) rfl HR28.out (some ⟨g28, 0, none⟩) 1 1 [⟨tk, tf, tt, mk tx, te⟩] rfl (HQ28.out.own HG28.out).ts (by omega) HX28.out.size ?_
           intro a29 c29 p29 ho29 hg29 hb29
           have HX29 : Hid (Below w5.heap.size w5 p29) := hid (HX28.out.trans hb29)
           have HR29 := hid ho29
           clear ho29 hg29 hb29
           refine hK.out _ _ (HKS.out _ HX29.out) (fun hHeld => ?_)
           clear hK K
           try simp only [Act.put, aS, aZ, aC]
           refine zR [16] ?_
           refine hDo rfl (fun K hK => ?_) ?_
           ·refine zBU rfl (.tmp 72) (.tmp 76) rfl w5.heap.size a29 (q1 + 1) c29 (Y.take q1 ++ [⟨tk, tf, tt, mk tx, te⟩]) rfl HR29.out (some ⟨tb, o2, none⟩) d d (Y.drop q1) rfl (HSF.out _ (HTS5.out.below HX29.out)) (by omega) HX29.out.size ?_
            intro a30 c30 p30 ho30 hg30 hb30
            have HX30 : Hid (Below w5.heap.size w5 p30) := hid (HX29.out.trans hb30)
            have HR30 := hid ho30.ts
            clear ho30 hg30 hb30
            refine hK.out _ _ (HKS.out _ HX30.out) (fun hHeld => ?_)
            clear hK K
            try simp only [Act.put, aS, aZ, aC]
            refine zG 17 rfl ?_
            try simp only [Act.put, aS, aZ, aC]
            refine wpAnyH_done (by kernel_rfl) ?_ _
            refine NoPanic.normal ?_
            go_wp2
            go_meet
            exact ⟨a30, c30, rfl, hid (by rw [HDB.out]; exact HR30.out), hid HX30.out⟩
           exact AllReadyH.nil
          exact AllReadyH.nil
         exact AllReadyH.nil
        refine hDo rfl (fun K hK => ?_) ?_
        ·refine zEc rfl (.tmp 70) rfl tk tf tt tx te rfl ?_
         intro p31 g31 hg31 ht31 hb31
         have HX31 : Hid (Below w5.heap.size w5 p31) := hid (HX26.out.trans (hb31.mono HX26.out.size))
         have HQ31 := hid ht31
         have HG31 : Hid (w5.heap.size ≤ g31) := hid (by rw [hg31]; exact HX26.out.size)
         have HR31 := hid (HR26.out.keep hb31 (Nat.le_refl _))
         have HN31 : Hid (g31 ≠ g26) := hid (by have := HL26.out; omega)
         clear hg31 ht31 hb31
         refine hK.out _ _ (HKS.out _ HX31.out) (fun hHeld => ?_)
         clear hK K
         try simp only [Act.put, aS, aZ, aC]
         refine zR [5] ?_
         refine hDo rfl (fun K hK => ?_) ?_
         ·refine zBU rfl (.tmp 61) (.tmp 65) rfl w5.heap.size (some ⟨g26, 0, none⟩) 0 0 [] rfl HR31.out (some ⟨tb, to_, none⟩) q1 kN (Y.take q1) rfl ((zA3 HTS5.out hq1K).2 _ (HTS5.out.below HX31.out)) (by omega) HX31.out.size ?_
          intro a32 c32 p32 ho32 hg32 hb32
          rw [Nat.zero_add] at ho32 ⊢
          rw [List.nil_append] at ho32
          have HX32 : Hid (Below w5.heap.size w5 p32) := hid (HX31.out.trans hb32)
          have HR32 := hid ho32
          have HQ32 := hid (HQ31.out.grown hg32 HN31.out)
          clear ho32 hg32 hb32
          refine hK.out _ _ (HKS.out _ HX32.out) (fun hHeld => ?_)
          clear hK K
          try simp only [Act.put, aS, aZ, aC]
          refine zR [11] ?_
          refine hDo rfl (fun K hK => ?_) ?_
          ·refine zBU rfl (.tmp 66) (.tmp 71) rfl w5.heap.size a32 q1 c32 (Y.take q1) rfl HR32.out (some ⟨g31, 0, none⟩) 1 1 [⟨tk, tf, tt, mk tx, te⟩] rfl (HQ32.out.own HG31.out).ts (by omega) HX32.out.size ?_
           intro a33 c33 p33 ho33 hg33 hb33
           have HX33 : Hid (Below w5.heap.size w5 p33) := hid (HX32.out.trans hb33)
           have HR33 := hid ho33
           clear ho33 hg33 hb33
           refine hK.out _ _ (HKS.out _ HX33.out) (fun hHeld => ?_)
           clear hK K
           try simp only [Act.put, aS, aZ, aC]
           refine zR [16] ?_
           refine hDo rfl (fun K hK => ?_) ?_
           ·refine zBU rfl (.tmp 72) (.tmp 76) rfl w5.heap.size a33 (q1 + 1) c33 (Y.take q1 ++ [⟨tk, tf, tt, mk tx, te⟩]) rfl HR33.out (some ⟨tb, o2, none⟩) d d (Y.drop q1) rfl (HSF.out _ (HTS5.out.below HX33.out)) (by omega) HX33.out.size ?_
            intro a34 c34 p34 ho34 hg34 hb34
            have HX34 : Hid (Below w5.heap.size w5 p34) := hid (HX33.out.trans hb34)
            have HR34 := hid ho34.ts
            clear ho34 hg34 hb34
            refine hK.out _ _ (HKS.out _ HX34.out) (fun hHeld => ?_)
            clear hK K
            try simp only [Act.put, aS, aZ, aC]
            refine zG 17 rfl ?_
            try simp only [Act.put, aS, aZ, aC]
            refine wpAnyH_done (by kernel_rfl) ?_ _
            refine NoPanic.normal ?_
            go_wp2
            go_meet
            exact ⟨a34, c34, rfl, hid (by rw [HDB.out]; exact HR34.out), hid HX34.out⟩
           exact AllReadyH.nil
          exact AllReadyH.nil
         exact AllReadyH.nil
        exact AllReadyH.nil
       refine hDo rfl (fun K hK => ?_) ?_
       ·refine zEc rfl (.tmp 70) rfl tk tf tt tx te rfl ?_
        intro p35 g35 hg35 ht35 hb35
        have HX35 : Hid (Below w5.heap.size w5 p35) := hid ((Below.refl w5.heap.size w5).drew.trans (hb35.mono (Below.refl w5.heap.size w5).drew.size))
        have HQ35 := hid ht35
        have HG35 : Hid (w5.heap.size ≤ g35) := hid (by rw [hg35]; exact (Below.refl w5.heap.size w5).drew.size)
        clear hg35 ht35 hb35
        refine hK.out _ _ (HKS.out _ HX35.out) (fun hHeld => ?_)
        clear hK K
        try simp only [Act.put, aS, aZ, aC]
        refine zR [0] ?_
        refine hDo rfl (fun K hK => ?_) ?_
        ·refine zE7 rfl rfl ?_
         intro p36 g36 hg36 hl36 ho36 hb36
         have HX36 : Hid (Below w5.heap.size w5 p36) := hid (HX35.out.trans (hb36.mono HX35.out.size))
         have HR36 := hid (ho36 w5.heap.size (by rw [hg36]; exact HX35.out.size))
         have HL36 := hid hl36
         have HQ36 := hid (HQ35.out.below hb36)
         have HN36 : Hid (g35 ≠ g36) := hid (by have := (Array.getElem?_eq_some_iff.1 HQ35.out).1; omega)
         clear hg36 hl36 ho36 hb36
         refine hK.out _ _ (HKS.out _ HX36.out) (fun hHeld => ?_)
         clear hK K
         try simp only [Act.put, aS, aZ, aC]
         refine zR [5] ?_
         refine hDo rfl (fun K hK => ?_) ?_
         ·refine zBU rfl (.tmp 61) (.tmp 65) rfl w5.heap.size (some ⟨g36, 0, none⟩) 0 0 [] rfl HR36.out (some ⟨tb, to_, none⟩) q1 kN (Y.take q1) rfl ((zA3 HTS5.out hq1K).2 _ (HTS5.out.below HX36.out)) (by omega) HX36.out.size ?_
          intro a37 c37 p37 ho37 hg37 hb37
          rw [Nat.zero_add] at ho37 ⊢
          rw [List.nil_append] at ho37
          have HX37 : Hid (Below w5.heap.size w5 p37) := hid (HX36.out.trans hb37)
          have HR37 := hid ho37
          have HQ37 := hid (HQ36.out.grown hg37 HN36.out)
          clear ho37 hg37 hb37
          refine hK.out _ _ (HKS.out _ HX37.out) (fun hHeld => ?_)
          clear hK K
          try simp only [Act.put, aS, aZ, aC]
          refine zR [11] ?_
          refine hDo rfl (fun K hK => ?_) ?_
          ·refine zBU rfl (.tmp 66) (.tmp 71) rfl w5.heap.size a37 q1 c37 (Y.take q1) rfl HR37.out (some ⟨g35, 0, none⟩) 1 1 [⟨tk, tf, tt, mk tx, te⟩] rfl (HQ37.out.own HG35.out).ts (by omega) HX37.out.size ?_
           intro a38 c38 p38 ho38 hg38 hb38
           have HX38 : Hid (Below w5.heap.size w5 p38) := hid (HX37.out.trans hb38)
           have HR38 := hid ho38
           clear ho38 hg38 hb38
           refine hK.out _ _ (HKS.out _ HX38.out) (fun hHeld => ?_)
           clear hK K
           try simp only [Act.put, aS, aZ, aC]
           refine zR [16] ?_
           refine hDo rfl (fun K hK => ?_) ?_
           ·refine zBU rfl (.tmp 72) (.tmp 76) rfl w5.heap.size a38 (q1 + 1) c38 (Y.take q1 ++ [⟨tk, tf, tt, mk tx, te⟩]) rfl HR38.out (some ⟨tb, o2, none⟩) d d (Y.drop q1) rfl (HSF.out _ (HTS5.out.below HX38.out)) (by omega) HX38.out.size ?_
            intro a39 c39 p39 ho39 hg39 hb39
            have HX39 : Hid (Below w5.heap.size w5 p39) := hid (HX38.out.trans hb39)
            have HR39 := hid ho39.ts
            clear ho39 hg39 hb39
            refine hK.out _ _ (HKS.out _ HX39.out) (fun hHeld => ?_)
            clear hK K
            try simp only [Act.put, aS, aZ, aC]
            refine zG 17 rfl ?_
            try simp only [Act.put, aS, aZ, aC]
            refine wpAnyH_done (by kernel_rfl) ?_ _
            refine NoPanic.normal ?_
            go_wp2
            go_meet
            exact ⟨a39, c39, rfl, hid (by rw [HDB.out]; exact HR39.out), hid HX39.out⟩
           exact AllReadyH.nil
          exact AllReadyH.nil
         exact AllReadyH.nil
        exact AllReadyH.nil
       exact AllReadyH.nil
      case rest =>
       obtain ⟨da, dc, rfl, HD, HBd⟩ := hcut
       obtain ⟨w6, hw6⟩ : ∃ q, q = wc := ⟨_, rfl⟩
       rw [← hw6] at HD HBd ⊢
       clear hw6 HKS HSF HDB
       have HB6 : Hid (Below wr.heap.size wr w6) := hid (HB5.out.trans (HBd.out.mono HB5.out.size))
       go_wp2_with (refine zAS rfl (.tmp 10) rfl X rfl ea 1 ec zS rfl (HE.out.below HB6.out) ?_)
       refine (HLQ.out w6 da _ dc (dblT Y q) HB6.out HD.out (by omega)).mono ?_
       rintro e w7 ⟨n7, rfl, hl7, hb7⟩
       obtain rfl : q1 = n7 := zBF HLE.out hl7
       have HB7 : Hid (Below wr.heap.size wr w7) := hid (HB6.out.trans (hb7.mono HB6.out.size))
       clear hl7 hb7
       have hqe : ((q1 : Int) == (q1 : Int)) = true := by simp
       go_wp2
       go_ret
       exact ⟨rfl, HB0.out.trans ((HBq.out.trans (HB7.out.mono HBq.out.size)).mono HB0.out.size)⟩
 | true =>
  go_upto_region 6 with (first
   | (refine zQm rfl (.tmp 9) (.tmp 22) rfl X1 (by rw [HX1.out]; rfl) pPlus 3 1 rfl ([], 0, 0) (by rw [HX1.out]; exact D3.new w1 ([], 0, 0)) ?_; rw [← HX1.out]; intro w2 h2 ho2; have H2 : Hid (D3 w2 X1 (oPr false)) := hid h2; have HB2 : Hid (Below w0.heap.size w0 w2) := hid (HB1.out.trans (((zAA w1 _).trans (ho2.below (by rw [HX1.out]; exact Nat.le_refl _))).mono HB1.out.size)); clear h2 ho2)
   | (refine zAm rfl 3 38 (.tmp 24) (.const (.int .i64 2)) rfl X1 2 [.string (mk pPlus), .int .i64 3, .int .i64 1] (.int .i64 2) rfl rfl (by kernel_rfl) rfl H2.out (by simp) rfl ?_; intro w3 h3 ho3; have H3 : Hid (D3 w3 X1 (oPr true)) := hid h3; have HB3 : Hid (Below w0.heap.size w0 w3) := hid (HB2.out.trans (ho3.below (by rw [HX1.out]; exact HB1.out.size))); clear h3 ho3))
  try rw [hjx]
  clear hjx hx64 hx c0
  obtain ⟨r, hr⟩ : ∃ r : Bool, r = true := ⟨_, rfl⟩
  rw [← hr] at H3
  clear hr
  try simp only [Act.put]
  have HAD := hid (zQt r)
  have HSR := hid (zQr r)
  have HSH := hid (zQ2 r)
  have HNM := hid (zQ3 r)
  have HLR := hid (fun (e : Bool) => zQl hj7 e r)
  have HLD := hid (fun (e : Bool) (k : Nat) (hk : k < rowN j e) => zQs hj7 e r hk)
  have HYL := hid (fun e => zQg hj7 e)
  have HTW : Hid (Tab w3) := hid (HT.out.keep HB3.out)
  obtain ⟨o, ho⟩ : ∃ q, q = oPr r := ⟨_, rfl⟩
  rw [← ho] at H3 HAD HSR HSH HNM HLR HLD
  clear ho
  have hks : ∀ u, Below w3.heap.size w3 u → u.cell? ⟨X1, 0, none⟩ = some (.string (mk o.1)) ∧ u.cell? ⟨X1, 1, none⟩ = some (.int .i64 o.2.1) ∧ u.cell? ⟨X1, 2, none⟩ = some (.int .i64 o.2.2) := fun u hu => (H3.out.below hu).cells
  have HKS := hid hks
  clear hks
  go_cut [10, 11] (fun u v wx => ∃ (X : Nat) (a : Option Addr) (c : Nat), u = .pointer (some ⟨X, 0, none⟩) ∧ v = .int .i64 0 ∧ Hid (EB wx X a 1 c zS) ∧ Hid (OpS wx a 1 c [o]) ∧ Hid (Below w3.heap.size w3 wx))
  case first =>
   refine wp_region_noPanic ?_
   refine wp_region_held_drew (S := fun u => u.cell? ⟨X1, 0, none⟩ = some (.string (mk o.1)) ∧ u.cell? ⟨X1, 1, none⟩ = some (.int .i64 o.2.1) ∧ u.cell? ⟨X1, 2, none⟩ = some (.int .i64 o.2.2)) (by kernel_rfl) (HKS.out _ (Below.refl _ _).drew) (fun hHeld => ?_)
   refine zG 1 rfl ?_
   try simp only [Act.put, aS, aZ, aC]
   refine zR [0, 6] ?_
   refine hDo rfl (fun K hK => ?_) ?_
   ·go_simp
    (go_at_call 23; (with_reducible refine (zKW _).mono ?_); rintro e v40 ⟨rfl, hb40⟩)
    have HX40 : Hid (Below w3.heap.size w3 v40) := hid ((Below.refl w3.heap.size w3).drew.trans (hb40.mono (Below.refl w3.heap.size w3).drew.size))
    clear hb40
    refine hK.out _ _ (HKS.out _ HX40.out) (fun hHeld => ?_)
    clear hK K
    try simp only [Act.put, aS, aZ, aC]
    refine zR [2, 6] ?_
    refine hDo rfl (fun K hK => ?_) ?_
    ·go_simp
     (go_at_call 22; (with_reducible refine (zHI none 0 0 [] zS o _ (HTW.out.keep HX40.out) (zGr _) rfl (by decide) (HNM.out o (List.mem_singleton.2 rfl))).mono ?_); rintro e v41 ⟨a41, n41, c41, rfl, ho41, hb41⟩)
     have HX41 : Hid (Below w3.heap.size w3 v41) := hid (HX40.out.trans (hb41.mono HX40.out.size))
     rw [HAD.out.1] at ho41
     rw [HAD.out.2.1, HAD.out.2.2]
     obtain rfl : n41 = 1 := (OpS.len ho41.vs).symm
     have HO41 := hid ho41
     clear ho41 hb41
     refine hK.out _ _ (HKS.out _ HX41.out) (fun hHeld => ?_)
     clear hK K
     try simp only [Act.put, aS, aZ, aC]
     refine zG 3 rfl ?_
     try simp only [Act.put, aS, aZ, aC]
     refine zG 4 rfl ?_
     try simp only [Act.put, aS, aZ, aC]
     refine zG 5 rfl ?_
     try simp only [Act.put, aS, aZ, aC]
     refine zR [6] ?_
     refine hDo rfl (fun K hK => ?_) ?_
     ·refine zGd rfl rfl ?_
      intro v42 X52 hX42 hx42 hb42
      have HX42 : Hid (Below w3.heap.size w3 v42) := hid (HX41.out.trans (hb42.mono HX41.out.size))
      have HO42 := hid (HO41.out.keep hb42 (Nat.le_refl _))
      have HF42 := hid hx42
      have HG42 : Hid (w3.heap.size ≤ X52) := hid (by rw [hX42]; exact HX41.out.size)
      clear hX42 hx42 hb42
      refine hK.out _ _ (HKS.out _ HX42.out) (fun hHeld => ?_)
      clear hK K
      try simp only [Act.put, aS, aZ, aC]
      refine zR [7] ?_
      refine hDo rfl (fun K hK => ?_) ?_
      ·refine zAT rfl (.tmp 10) (.tmp 29) rfl X52 rfl a41 1 c41 zS rfl rfl none 0 0 z0 zAF HF42.out ?_
       intro v43 h43 ho43
       have H43 := hid h43
       have HP43 := hid ho43
       clear h43 ho43
       refine hK.out _ _ (HKS.out _ (HX42.out.trans (HP43.out.below HG42.out))) (fun hHeld => ?_)
       clear hK K
       try simp only [Act.put]
       refine zG 8 rfl ?_
       try simp only [Act.put, aS, aZ, aC]
       refine wpAnyH_done (by kernel_rfl) ?_ _
       refine NoPanic.normal ?_
       go_wp2
       go_meet
       exact ⟨X52, a41, c41, rfl, rfl, H43, hid (HO42.out.kt (P := tE) (by unfold tE; decide) (Kt.only HF42.out rfl HP43.out)).vs, hid (HX42.out.trans (HP43.out.below HG42.out))⟩
      exact AllReadyH.nil
     exact AllReadyH.nil
    refine hDo rfl (fun K hK => ?_) ?_
    ·refine zGd rfl rfl ?_
     intro v44 X54 hX44 hx44 hb44
     have HX44 : Hid (Below w3.heap.size w3 v44) := hid (HX40.out.trans (hb44.mono HX40.out.size))
     have HF44 := hid hx44
     have HG44 : Hid (w3.heap.size ≤ X54) := hid (by rw [hX44]; exact HX40.out.size)
     clear hX44 hx44 hb44
     refine hK.out _ _ (HKS.out _ HX44.out) (fun hHeld => ?_)
     clear hK K
     try simp only [Act.put, aS, aZ, aC]
     refine zR [2] ?_
     refine hDo rfl (fun K hK => ?_) ?_
     ·go_simp
      (go_at_call 22; (with_reducible refine (zHI none 0 0 [] zS o _ (HTW.out.keep HX44.out) (zGr _) rfl (by decide) (HNM.out o (List.mem_singleton.2 rfl))).mono ?_); rintro e v45 ⟨a45, n45, c45, rfl, ho45, hb45⟩)
      have HX45 : Hid (Below w3.heap.size w3 v45) := hid (HX44.out.trans (hb45.mono HX44.out.size))
      rw [HAD.out.1] at ho45
      rw [HAD.out.2.1, HAD.out.2.2]
      obtain rfl : n45 = 1 := (OpS.len ho45.vs).symm
      have HF45 := hid (HF44.out.below hb45)
      have HO45 := hid ho45
      clear ho45 hb45
      refine hK.out _ _ (HKS.out _ HX45.out) (fun hHeld => ?_)
      clear hK K
      try simp only [Act.put, aS, aZ, aC]
      refine zG 3 rfl ?_
      try simp only [Act.put, aS, aZ, aC]
      refine zG 4 rfl ?_
      try simp only [Act.put, aS, aZ, aC]
      refine zG 5 rfl ?_
      try simp only [Act.put, aS, aZ, aC]
      refine zR [7] ?_
      refine hDo rfl (fun K hK => ?_) ?_
      ·refine zAT rfl (.tmp 10) (.tmp 29) rfl X54 rfl a45 1 c45 zS rfl rfl none 0 0 z0 zAF HF45.out ?_
       intro v46 h46 ho46
       have H46 := hid h46
       have HP46 := hid ho46
       clear h46 ho46
       refine hK.out _ _ (HKS.out _ (HX45.out.trans (HP46.out.below HG44.out))) (fun hHeld => ?_)
       clear hK K
       try simp only [Act.put]
       refine zG 8 rfl ?_
       try simp only [Act.put, aS, aZ, aC]
       refine wpAnyH_done (by kernel_rfl) ?_ _
       refine NoPanic.normal ?_
       go_wp2
       go_meet
       exact ⟨X54, a45, c45, rfl, rfl, H46, hid (HO45.out.kt (P := tE) (by unfold tE; decide) (Kt.only HF45.out rfl HP46.out)).vs, hid (HX45.out.trans (HP46.out.below HG44.out))⟩
      exact AllReadyH.nil
     exact AllReadyH.nil
    exact AllReadyH.nil
   refine hDo rfl (fun K hK => ?_) ?_
   ·refine zGd rfl rfl ?_
    intro v47 X57 hX47 hx47 hb47
    have HX47 : Hid (Below w3.heap.size w3 v47) := hid ((Below.refl w3.heap.size w3).drew.trans (hb47.mono (Below.refl w3.heap.size w3).drew.size))
    have HF47 := hid hx47
    have HG47 : Hid (w3.heap.size ≤ X57) := hid (by rw [hX47]; exact (Below.refl w3.heap.size w3).drew.size)
    clear hX47 hx47 hb47
    refine hK.out _ _ (HKS.out _ HX47.out) (fun hHeld => ?_)
    clear hK K
    try simp only [Act.put, aS, aZ, aC]
    refine zR [0] ?_
    refine hDo rfl (fun K hK => ?_) ?_
    ·go_simp
     (go_at_call 23; (with_reducible refine (zKW _).mono ?_); rintro e v48 ⟨rfl, hb48⟩)
     have HX48 : Hid (Below w3.heap.size w3 v48) := hid (HX47.out.trans (hb48.mono HX47.out.size))
     have HF48 := hid (HF47.out.below hb48)
     clear hb48
     refine hK.out _ _ (HKS.out _ HX48.out) (fun hHeld => ?_)
     clear hK K
     try simp only [Act.put, aS, aZ, aC]
     refine zR [2] ?_
     refine hDo rfl (fun K hK => ?_) ?_
     ·go_simp
      (go_at_call 22; (with_reducible refine (zHI none 0 0 [] zS o _ (HTW.out.keep HX48.out) (zGr _) rfl (by decide) (HNM.out o (List.mem_singleton.2 rfl))).mono ?_); rintro e v49 ⟨a49, n49, c49, rfl, ho49, hb49⟩)
      have HX49 : Hid (Below w3.heap.size w3 v49) := hid (HX48.out.trans (hb49.mono HX48.out.size))
      rw [HAD.out.1] at ho49
      rw [HAD.out.2.1, HAD.out.2.2]
      obtain rfl : n49 = 1 := (OpS.len ho49.vs).symm
      have HF49 := hid (HF48.out.below hb49)
      have HO49 := hid ho49
      clear ho49 hb49
      refine hK.out _ _ (HKS.out _ HX49.out) (fun hHeld => ?_)
      clear hK K
      try simp only [Act.put, aS, aZ, aC]
      refine zG 3 rfl ?_
      try simp only [Act.put, aS, aZ, aC]
      refine zG 4 rfl ?_
      try simp only [Act.put, aS, aZ, aC]
      refine zG 5 rfl ?_
      try simp only [Act.put, aS, aZ, aC]
      refine zR [7] ?_
      refine hDo rfl (fun K hK => ?_) ?_
      ·refine zAT rfl (.tmp 10) (.tmp 29) rfl X57 rfl a49 1 c49 zS rfl rfl none 0 0 z0 zAF HF49.out ?_
       intro v50 h50 ho50
       have H50 := hid h50
       have HP50 := hid ho50
       clear h50 ho50
       refine hK.out _ _ (HKS.out _ (HX49.out.trans (HP50.out.below HG47.out))) (fun hHeld => ?_)
       clear hK K
       try simp only [Act.put]
       refine zG 8 rfl ?_
       try simp only [Act.put, aS, aZ, aC]
       refine wpAnyH_done (by kernel_rfl) ?_ _
       refine NoPanic.normal ?_
       go_wp2
       go_meet
       exact ⟨X57, a49, c49, rfl, rfl, H50, hid (HO49.out.kt (P := tE) (by unfold tE; decide) (Kt.only HF49.out rfl HP50.out)).vs, hid (HX49.out.trans (HP50.out.below HG47.out))⟩
      exact AllReadyH.nil
     exact AllReadyH.nil
    exact AllReadyH.nil
   exact AllReadyH.nil
  case rest =>
   obtain ⟨X, ea, ec, rfl, rfl, HE, HO, HBc⟩ := hcut
   obtain ⟨wq, hwq⟩ : ∃ q, q = wc := ⟨_, rfl⟩
   rw [← hwq] at HE HO HBc ⊢
   clear hwq HKS HAD HTW
   have HBq : Hid (Below w0.heap.size w0 wq) := hid (HB3.out.trans (HBc.out.mono HB3.out.size))
   have HLQ : Hid (∀ (wr : World) (la : Option Addr) (ln lc : Nat) (tok : List TK), Below wq.heap.size wq wr → Ts wr la ln lc tok → ln ≤ 90 → Calls Tryz.prog 20 #[.agg (ev ea 1 ec zS), .slice la ln lc] wr fun e w' => ∃ n : Nat, e = .returned (.int .i64 (n : Int)) ∧ LonP [o] zS tok n ∧ Below wr.heap.size wr w') := hid fun wr la ln lc tok hb ht2 hln =>
    zAY zS rfl zEU ea 1 ec [o] la ln lc tok wr ((HT.out.keep HBq.out).keep hb) (zBR HO.out hb) HSR.out (by decide) HSH.out HNM.out ht2 hln
   clear HBc HSR HSH HNM HB3 HB1
   go_wp2_with fail
   go_loopw [12, 13] (fun u v wr => ∃ (i : Nat), u = .string (mk (rowS i)) ∧ v = .int .i64 i ∧ i ≤ j ∧ Hid (wr = wq)) (fun _ v _ => j - (intOf v).toNat)
   case atStart => exact ⟨0, rfl, rfl, Nat.zero_le _, hid rfl⟩
   case round =>
    obtain ⟨i, rfl, rfl, hi, HWQ⟩ := hrel
    have hi0 : (0 : Int) ≤ (i : Int) := Int.natCast_nonneg _
    have HPL : Hid ((rowS i).length = 1 + 4 * i) := hid (zQi i)
    have HCT : Hid (mk (rowS i) ++ ⟨#[32, 43, 32, 98]⟩ = mk (rowS (i + 1))) := hid (mk_app (rowS i) [32, 43, 32, 98])
    have HCE : Hid (mk (rowS i) ++ ⟨#[32, 43]⟩ = mk (rowB i true)) := hid (mk_app (rowS i) [32, 43])
    have HCF : Hid (mk (rowS i) = mk (rowB i false)) := hid (by unfold rowB; simp)
    have hsz : (mk (rowS i)).size ≤ 100 := by rw [mk_size, HPL.out]; omega
    obtain ⟨p, hp⟩ : ∃ p, p = mk (rowS i) := ⟨_, rfl⟩
    rw [← hp] at HCT HCE HCF hsz ⊢
    clear hp
    by_cases hij : i < j
    ·have hijI : (i : Int) < (j : Int) := by omega
     have hz1 : p.size + (⟨#[32, 43, 32, 98]⟩ : ByteArray).size ≤ 300000 := by
      have : (⟨#[32, 43, 32, 98]⟩ : ByteArray).size = 4 := rfl
      omega
     go_wp2
     go_roundw
     case rel => exact ⟨i + 1, by rw [HCT.out], by go_num, by omega, HWQ⟩
     case measure => simp [intOf]; omega
    ·have hijI : ¬ (i : Int) < (j : Int) := by omega
     obtain rfl : i = j := by omega
     obtain rfl := HWQ.out
     clear hij hi HCT HWQ
     cases en with
     | true =>
      have hz1 : p.size + (⟨#[32, 43]⟩ : ByteArray).size ≤ 300000 := by
       have : (⟨#[32, 43]⟩ : ByteArray).size = 2 := rfl
       omega
      obtain ⟨gq, Cq, wr2, hcv, hbs, hbq⟩ := zHr wr (p ++ ⟨#[32, 43]⟩) (bI (rowB i true)) (by rw [HCE.out, zQh]) (zQn _) (by rw [zQc]; unfold rowB; rw [List.length_append, HPL.out]; simp; omega)
      rw [zQc] at hcv hbs
      have HBS := hid hbs
      have HBQ : Hid (Below wr.heap.size wr wr2) := hid hbq
      clear hbs hbq
      go_wp2_with fail
      clear hcv
      refine (zDA (some ⟨gq, 0, none⟩) (rowB i true).length Cq (bI (rowB i true)) wr2 HBS.out ((HT.out.keep HBq.out).keep HBQ.out) (by unfold rowB; rw [List.length_append, HPL.out]; simp; omega)).mono ?_
      rintro e w4 ⟨la, rfl, hrow, hb4⟩
      rw [show toks (bI (rowB i true)) = rowY i true from rfl] at hrow ⊢
      have hyl := (HYL.out true).1
      rw [hyl] at hrow ⊢
      have HTS : Hid (Ts w4 la (rowN i true) (rowN i true) (rowY i true)) := hid hrow.ts
      have HB4 : Hid (Below wr.heap.size wr w4) := hid (HBQ.out.trans (hb4.mono HBQ.out.size))
      have HLR2 := hid (HLR.out true)
      have HLD2 := hid (HLD.out true)
      have hKn : 1 ≤ rowN i true ∧ rowN i true ≤ 14 := by unfold rowN; simp; omega
      obtain ⟨kN, hK⟩ : ∃ kN, kN = rowN i true := ⟨_, rfl⟩
      obtain ⟨Y, hY⟩ : ∃ Y, Y = rowY i true := ⟨_, rfl⟩
      rw [← hK] at HTS HLR2 HLD2 hKn ⊢
      rw [← hY] at HTS HLR2 HLD2
      clear hrow hb4 hyl hK hY HLR HLD HYL HPL HCE HCF HBS HBQ
      have hK0 : ((kN : Int) == 0) = false := by simp; omega
      have hKK : ((kN : Int) != (kN : Int)) = false := by simp
      have hK1 : 1 ≤ kN := hKn.1
      have hK14 : kN ≤ 14 := hKn.2
      clear hKn
      go_wp2_with (refine zAS rfl (.tmp 10) rfl X rfl ea 1 ec zS rfl (HE.out.below HB4.out) ?_)
      refine (HLQ.out w4 la kN kN Y HB4.out HTS.out (by omega)).mono ?_
      rintro e w5 ⟨n5, rfl, hl5, hb5⟩
      obtain rfl : kN = n5 := zBF HLR2.out hl5
      have HB5 : Hid (Below wr.heap.size wr w5) := hid (HB4.out.trans (hb5.mono HB4.out.size))
      have HTS5 : Hid (Ts w5 la kN kN Y) := hid (HTS.out.below hb5)
      clear hl5 hb5 HLR2 HTS
      obtain ⟨yn, rfl⟩ : ∃ q : Nat, y = (q : Int) := ⟨y.toNat, by omega⟩
      have c1 := (HX.out w5 (HBq.out.trans (HB5.out.mono HBq.out.size))).2
      obtain ⟨q, hq⟩ : ∃ q, q = yn % kN := ⟨_, rfl⟩
      have hqK : q < kN := by rw [hq]; exact Nat.mod_lt _ (by omega)
      have htm : Int.tmod (yn : Int) (kN : Int) = (q : Int) := by rw [hq]; rfl
      have hy64 : IntKind.i64.wrap (yn : Int) = (yn : Int) := IntWalk.i64_in _ (by omega)
      have hem : (yn : Int) % (kN : Int) = (q : Int) := by rw [hq]; rfl
      have hKne : ¬ (kN : Int) = 0 := by omega
      clear hq
      go_upto_region 18 with fail
      clear htm hem hy64 c1 hKne hy
      have hq0 : (0 : Int) ≤ (q : Int) := Int.natCast_nonneg _
      have hqI : (q : Int) < (kN : Int) := by omega
      obtain ⟨q1, hq1e⟩ : ∃ q1, q1 = q + 1 := ⟨_, rfl⟩
      have HQ1 := hid hq1e
      have hq1K : q1 ≤ kN := by omega
      have hq1l : q1 ≤ 14 := by omega
      have hq1 : IntKind.i64.wrap ((q : Int) + 1) = (q1 : Int) := by rw [show (q : Int) + 1 = (q1 : Int) by omega]; exact IntWalk.i64_in _ (by omega)
      have hq2 : IntKind.i64.wrap (q1 : Int) = (q1 : Int) := IntWalk.i64_in _ (by omega)
      have hq10 : (0 : Int) ≤ (q1 : Int) := Int.natCast_nonneg _
      obtain ⟨tb, to_, rfl, _, _⟩ := HTS5.out.at_ (by omega)
      have hsl := (zA3 HTS5.out hq1K).1
      obtain ⟨o2, hsf, hsT⟩ := zQj (b := tb) (off := to_) (n := kN) (c := kN) (L := Y) hq1K
      obtain ⟨d, hd⟩ : ∃ d, d = kN - q1 := ⟨_, rfl⟩
      rw [← hd] at hsT
      simp only [← hd] at hsf
      have hdl : d ≤ 14 := by omega
      have HSF := hid hsT
      clear hsT hd
      obtain ⟨tk, tf, tt, tx, te, htk⟩ : ∃ tk tf tt tx te, tat Y q = ⟨tk, tf, tt, mk tx, te⟩ := ⟨_, _, _, txN (tat Y q), _, by rw [zNq]⟩
      have hks : ∀ u, Below w5.heap.size w5 u → u.cell? ⟨tb, to_ + q * 5, none⟩ = some (.int .i64 tk) ∧ u.cell? ⟨tb, to_ + q * 5 + 1, none⟩ = some (.int .i64 tf) ∧ u.cell? ⟨tb, to_ + q * 5 + 2, none⟩ = some (.int .i64 tt) ∧ u.cell? ⟨tb, to_ + q * 5 + 3, none⟩ = some (.string (mk tx)) ∧ u.cell? ⟨tb, to_ + q * 5 + 4, none⟩ = some (.int .i64 te) := fun u hu => by
       have h := Ts.at5 (HTS5.out.below hu) hqK
       rw [htk] at h
       exact h
      have HKS := hid hks
      have HDB : Hid (dblT Y q = Y.take q1 ++ [⟨tk, tf, tt, mk tx, te⟩] ++ Y.drop q1) := hid (by unfold dblT; rw [htk, HQ1.out])
      have HLE : Hid (LonP [o] zS (dblT Y q) q1) := hid (by rw [HQ1.out]; exact HLD2.out q hqK)
      clear hks htk hq1e
      go_cut [16] (fun v wx => ∃ (a : Option Addr) (c : Nat), v = .slice a (q1 + 1 + d) c ∧ Hid (Ts wx a (q1 + 1 + d) c (dblT Y q)) ∧ Hid (Below w5.heap.size w5 wx))
      case first =>
       refine wp_region_noPanic ?_
       refine wp_region_held_drew (S := fun u => u.cell? ⟨tb, to_ + q * 5, none⟩ = some (.int .i64 tk) ∧ u.cell? ⟨tb, to_ + q * 5 + 1, none⟩ = some (.int .i64 tf) ∧ u.cell? ⟨tb, to_ + q * 5 + 2, none⟩ = some (.int .i64 tt) ∧ u.cell? ⟨tb, to_ + q * 5 + 3, none⟩ = some (.string (mk tx)) ∧ u.cell? ⟨tb, to_ + q * 5 + 4, none⟩ = some (.int .i64 te)) (by kernel_rfl) (HKS.out _ (Below.refl _ _).drew) (fun hHeld => ?_)
       refine zG 1 rfl ?_
       try simp only [Act.put, aS, aZ, aC]
       refine zG 2 rfl ?_
       try simp only [Act.put, aS, aZ, aC]
       refine zG 3 rfl ?_
       try simp only [Act.put, aS, aZ, aC]
       refine zG 4 rfl ?_
       try simp only [Act.put, aS, aZ, aC]
       refine zG 6 rfl ?_
       try simp only [Act.put, aS, aZ, aC]
       refine zG 7 rfl ?_
       try simp only [Act.put, aS, aZ, aC]
       refine zG 8 rfl ?_
       try simp only [Act.put, aS, aZ, aC]
       refine zG 9 rfl ?_
       try simp only [Act.put, aS, aZ, aC]
       refine zG 12 rfl ?_
       try simp only [Act.put, aS, aZ, aC]
       refine zG 13 rfl ?_
       try simp only [Act.put, aS, aZ, aC]
       refine zG 14 rfl ?_
       try simp only [Act.put, aS, aZ, aC]
       refine zG 15 rfl ?_
       try simp only [Act.put, aS, aZ, aC]
       refine zR [0, 10] ?_
       refine hDo rfl (fun K hK => ?_) ?_
       ·refine zE7 rfl rfl ?_
        intro p51 g51 hg51 hl51 ho51 hb51
        have HX51 : Hid (Below w5.heap.size w5 p51) := hid ((Below.refl w5.heap.size w5).drew.trans (hb51.mono (Below.refl w5.heap.size w5).drew.size))
        have HR51 := hid (ho51 w5.heap.size (by rw [hg51]; exact (Below.refl w5.heap.size w5).drew.size))
        have HL51 := hid hl51
        clear hg51 hl51 ho51 hb51
        refine hK.out _ _ (HKS.out _ HX51.out) (fun hHeld => ?_)
        clear hK K
        try simp only [Act.put, aS, aZ, aC]
        refine zR [5, 10] ?_
        refine hDo rfl (fun K hK => ?_) ?_
        ·refine zBU rfl (.tmp 61) (.tmp 65) rfl w5.heap.size (some ⟨g51, 0, none⟩) 0 0 [] rfl HR51.out (some ⟨tb, to_, none⟩) q1 kN (Y.take q1) rfl ((zA3 HTS5.out hq1K).2 _ (HTS5.out.below HX51.out)) (by omega) HX51.out.size ?_
         intro a52 c52 p52 ho52 hg52 hb52
         rw [Nat.zero_add] at ho52 ⊢
         rw [List.nil_append] at ho52
         have HX52 : Hid (Below w5.heap.size w5 p52) := hid (HX51.out.trans hb52)
         have HR52 := hid ho52
         clear ho52 hg52 hb52
         refine hK.out _ _ (HKS.out _ HX52.out) (fun hHeld => ?_)
         clear hK K
         try simp only [Act.put, aS, aZ, aC]
         refine zR [10] ?_
         refine hDo rfl (fun K hK => ?_) ?_
         ·refine zEc rfl (.tmp 70) rfl tk tf tt tx te rfl ?_
          intro p53 g53 hg53 ht53 hb53
          have HX53 : Hid (Below w5.heap.size w5 p53) := hid (HX52.out.trans (hb53.mono HX52.out.size))
          have HQ53 := hid ht53
          have HG53 : Hid (w5.heap.size ≤ g53) := hid (by rw [hg53]; exact HX52.out.size)
          have HR53 := hid (HR52.out.keep hb53 (Nat.le_refl _))
          clear hg53 ht53 hb53
          refine hK.out _ _ (HKS.out _ HX53.out) (fun hHeld => ?_)
          clear hK K
          try simp only [Act.put, aS, aZ, aC]
          refine zR [11] ?_
          refine hDo rfl (fun K hK => ?_) ?_
          ·refine zBU rfl (.tmp 66) (.tmp 71) rfl w5.heap.size a52 q1 c52 (Y.take q1) rfl HR53.out (some ⟨g53, 0, none⟩) 1 1 [⟨tk, tf, tt, mk tx, te⟩] rfl (HQ53.out.own HG53.out).ts (by omega) HX53.out.size ?_
           intro a54 c54 p54 ho54 hg54 hb54
           have HX54 : Hid (Below w5.heap.size w5 p54) := hid (HX53.out.trans hb54)
           have HR54 := hid ho54
           clear ho54 hg54 hb54
           refine hK.out _ _ (HKS.out _ HX54.out) (fun hHeld => ?_)
           clear hK K
           try simp only [Act.put, aS, aZ, aC]
           refine zR [16] ?_
           refine hDo rfl (fun K hK => ?_) ?_
           ·refine zBU rfl (.tmp 72) (.tmp 76) rfl w5.heap.size a54 (q1 + 1) c54 (Y.take q1 ++ [⟨tk, tf, tt, mk tx, te⟩]) rfl HR54.out (some ⟨tb, o2, none⟩) d d (Y.drop q1) rfl (HSF.out _ (HTS5.out.below HX54.out)) (by omega) HX54.out.size ?_
            intro a55 c55 p55 ho55 hg55 hb55
            have HX55 : Hid (Below w5.heap.size w5 p55) := hid (HX54.out.trans hb55)
            have HR55 := hid ho55.ts
            clear ho55 hg55 hb55
            refine hK.out _ _ (HKS.out _ HX55.out) (fun hHeld => ?_)
            clear hK K
            try simp only [Act.put, aS, aZ, aC]
            refine zG 17 rfl ?_
            try simp only [Act.put, aS, aZ, aC]
            refine wpAnyH_done (by kernel_rfl) ?_ _
            refine NoPanic.normal ?_
            go_wp2
            go_meet
            exact ⟨a55, c55, rfl, hid (by rw [HDB.out]; exact HR55.out), hid HX55.out⟩
           exact AllReadyH.nil
          exact AllReadyH.nil
         exact AllReadyH.nil
        refine hDo rfl (fun K hK => ?_) ?_
        ·refine zEc rfl (.tmp 70) rfl tk tf tt tx te rfl ?_
         intro p56 g56 hg56 ht56 hb56
         have HX56 : Hid (Below w5.heap.size w5 p56) := hid (HX51.out.trans (hb56.mono HX51.out.size))
         have HQ56 := hid ht56
         have HG56 : Hid (w5.heap.size ≤ g56) := hid (by rw [hg56]; exact HX51.out.size)
         have HR56 := hid (HR51.out.keep hb56 (Nat.le_refl _))
         have HN56 : Hid (g56 ≠ g51) := hid (by have := HL51.out; omega)
         clear hg56 ht56 hb56
         refine hK.out _ _ (HKS.out _ HX56.out) (fun hHeld => ?_)
         clear hK K
         try simp only [Act.put, aS, aZ, aC]
         refine zR [5] ?_
         refine hDo rfl (fun K hK => ?_) ?_
         ·refine zBU rfl (.tmp 61) (.tmp 65) rfl w5.heap.size (some ⟨g51, 0, none⟩) 0 0 [] rfl HR56.out (some ⟨tb, to_, none⟩) q1 kN (Y.take q1) rfl ((zA3 HTS5.out hq1K).2 _ (HTS5.out.below HX56.out)) (by omega) HX56.out.size ?_
          intro a57 c57 p57 ho57 hg57 hb57
          rw [Nat.zero_add] at ho57 ⊢
          rw [List.nil_append] at ho57
          have HX57 : Hid (Below w5.heap.size w5 p57) := hid (HX56.out.trans hb57)
          have HR57 := hid ho57
          have HQ57 := hid (HQ56.out.grown hg57 HN56.out)
          clear ho57 hg57 hb57
          refine hK.out _ _ (HKS.out _ HX57.out) (fun hHeld => ?_)
          clear hK K
          try simp only [Act.put, aS, aZ, aC]
          refine zR [11] ?_
          refine hDo rfl (fun K hK => ?_) ?_
          ·refine zBU rfl (.tmp 66) (.tmp 71) rfl w5.heap.size a57 q1 c57 (Y.take q1) rfl HR57.out (some ⟨g56, 0, none⟩) 1 1 [⟨tk, tf, tt, mk tx, te⟩] rfl (HQ57.out.own HG56.out).ts (by omega) HX57.out.size ?_
           intro a58 c58 p58 ho58 hg58 hb58
           have HX58 : Hid (Below w5.heap.size w5 p58) := hid (HX57.out.trans hb58)
           have HR58 := hid ho58
           clear ho58 hg58 hb58
           refine hK.out _ _ (HKS.out _ HX58.out) (fun hHeld => ?_)
           clear hK K
           try simp only [Act.put, aS, aZ, aC]
           refine zR [16] ?_
           refine hDo rfl (fun K hK => ?_) ?_
           ·refine zBU rfl (.tmp 72) (.tmp 76) rfl w5.heap.size a58 (q1 + 1) c58 (Y.take q1 ++ [⟨tk, tf, tt, mk tx, te⟩]) rfl HR58.out (some ⟨tb, o2, none⟩) d d (Y.drop q1) rfl (HSF.out _ (HTS5.out.below HX58.out)) (by omega) HX58.out.size ?_
            intro a59 c59 p59 ho59 hg59 hb59
            have HX59 : Hid (Below w5.heap.size w5 p59) := hid (HX58.out.trans hb59)
            have HR59 := hid ho59.ts
            clear ho59 hg59 hb59
            refine hK.out _ _ (HKS.out _ HX59.out) (fun hHeld => ?_)
            clear hK K
            try simp only [Act.put, aS, aZ, aC]
            refine zG 17 rfl ?_
            try simp only [Act.put, aS, aZ, aC]
            refine wpAnyH_done (by kernel_rfl) ?_ _
            refine NoPanic.normal ?_
            go_wp2
            go_meet
            exact ⟨a59, c59, rfl, hid (by rw [HDB.out]; exact HR59.out), hid HX59.out⟩
           exact AllReadyH.nil
          exact AllReadyH.nil
         exact AllReadyH.nil
        exact AllReadyH.nil
       refine hDo rfl (fun K hK => ?_) ?_
       ·refine zEc rfl (.tmp 70) rfl tk tf tt tx te rfl ?_
        intro p60 g60 hg60 ht60 hb60
        have HX60 : Hid (Below w5.heap.size w5 p60) := hid ((Below.refl w5.heap.size w5).drew.trans (hb60.mono (Below.refl w5.heap.size w5).drew.size))
        have HQ60 := hid ht60
        have HG60 : Hid (w5.heap.size ≤ g60) := hid (by rw [hg60]; exact (Below.refl w5.heap.size w5).drew.size)
        clear hg60 ht60 hb60
        refine hK.out _ _ (HKS.out _ HX60.out) (fun hHeld => ?_)
        clear hK K
        try simp only [Act.put, aS, aZ, aC]
        refine zR [0] ?_
        refine hDo rfl (fun K hK => ?_) ?_
        ·refine zE7 rfl rfl ?_
         intro p61 g61 hg61 hl61 ho61 hb61
         have HX61 : Hid (Below w5.heap.size w5 p61) := hid (HX60.out.trans (hb61.mono HX60.out.size))
         have HR61 := hid (ho61 w5.heap.size (by rw [hg61]; exact HX60.out.size))
         have HL61 := hid hl61
         have HQ61 := hid (HQ60.out.below hb61)
         have HN61 : Hid (g60 ≠ g61) := hid (by have := (Array.getElem?_eq_some_iff.1 HQ60.out).1; omega)
         clear hg61 hl61 ho61 hb61
         refine hK.out _ _ (HKS.out _ HX61.out) (fun hHeld => ?_)
         clear hK K
         try simp only [Act.put, aS, aZ, aC]
         refine zR [5] ?_
         refine hDo rfl (fun K hK => ?_) ?_
         ·refine zBU rfl (.tmp 61) (.tmp 65) rfl w5.heap.size (some ⟨g61, 0, none⟩) 0 0 [] rfl HR61.out (some ⟨tb, to_, none⟩) q1 kN (Y.take q1) rfl ((zA3 HTS5.out hq1K).2 _ (HTS5.out.below HX61.out)) (by omega) HX61.out.size ?_
          intro a62 c62 p62 ho62 hg62 hb62
          rw [Nat.zero_add] at ho62 ⊢
          rw [List.nil_append] at ho62
          have HX62 : Hid (Below w5.heap.size w5 p62) := hid (HX61.out.trans hb62)
          have HR62 := hid ho62
          have HQ62 := hid (HQ61.out.grown hg62 HN61.out)
          clear ho62 hg62 hb62
          refine hK.out _ _ (HKS.out _ HX62.out) (fun hHeld => ?_)
          clear hK K
          try simp only [Act.put, aS, aZ, aC]
          refine zR [11] ?_
          refine hDo rfl (fun K hK => ?_) ?_
          ·refine zBU rfl (.tmp 66) (.tmp 71) rfl w5.heap.size a62 q1 c62 (Y.take q1) rfl HR62.out (some ⟨g60, 0, none⟩) 1 1 [⟨tk, tf, tt, mk tx, te⟩] rfl (HQ62.out.own HG60.out).ts (by omega) HX62.out.size ?_
           intro a63 c63 p63 ho63 hg63 hb63
           have HX63 : Hid (Below w5.heap.size w5 p63) := hid (HX62.out.trans hb63)
           have HR63 := hid ho63
           clear ho63 hg63 hb63
           refine hK.out _ _ (HKS.out _ HX63.out) (fun hHeld => ?_)
           clear hK K
           try simp only [Act.put, aS, aZ, aC]
           refine zR [16] ?_
           refine hDo rfl (fun K hK => ?_) ?_
           ·refine zBU rfl (.tmp 72) (.tmp 76) rfl w5.heap.size a63 (q1 + 1) c63 (Y.take q1 ++ [⟨tk, tf, tt, mk tx, te⟩]) rfl HR63.out (some ⟨tb, o2, none⟩) d d (Y.drop q1) rfl (HSF.out _ (HTS5.out.below HX63.out)) (by omega) HX63.out.size ?_
            intro a64 c64 p64 ho64 hg64 hb64
            have HX64 : Hid (Below w5.heap.size w5 p64) := hid (HX63.out.trans hb64)
            have HR64 := hid ho64.ts
            clear ho64 hg64 hb64
            refine hK.out _ _ (HKS.out _ HX64.out) (fun hHeld => ?_)
            clear hK K
            try simp only [Act.put, aS, aZ, aC]
            refine zG 17 rfl ?_
            try simp only [Act.put, aS, aZ, aC]
            refine wpAnyH_done (by kernel_rfl) ?_ _
            refine NoPanic.normal ?_
            go_wp2
            go_meet
            exact ⟨a64, c64, rfl, hid (by rw [HDB.out]; exact HR64.out), hid HX64.out⟩
           exact AllReadyH.nil
          exact AllReadyH.nil
         exact AllReadyH.nil
        exact AllReadyH.nil
       exact AllReadyH.nil
      case rest =>
       obtain ⟨da, dc, rfl, HD, HBd⟩ := hcut
       obtain ⟨w6, hw6⟩ : ∃ q, q = wc := ⟨_, rfl⟩
       rw [← hw6] at HD HBd ⊢
       clear hw6 HKS HSF HDB
       have HB6 : Hid (Below wr.heap.size wr w6) := hid (HB5.out.trans (HBd.out.mono HB5.out.size))
       go_wp2_with (refine zAS rfl (.tmp 10) rfl X rfl ea 1 ec zS rfl (HE.out.below HB6.out) ?_)
       refine (HLQ.out w6 da _ dc (dblT Y q) HB6.out HD.out (by omega)).mono ?_
       rintro e w7 ⟨n7, rfl, hl7, hb7⟩
       obtain rfl : q1 = n7 := zBF HLE.out hl7
       have HB7 : Hid (Below wr.heap.size wr w7) := hid (HB6.out.trans (hb7.mono HB6.out.size))
       clear hl7 hb7
       have hqe : ((q1 : Int) == (q1 : Int)) = true := by simp
       go_wp2
       go_ret
       exact ⟨rfl, HB0.out.trans ((HBq.out.trans (HB7.out.mono HBq.out.size)).mono HB0.out.size)⟩
     | false =>
      obtain ⟨gq, Cq, wr2, hcv, hbs, hbq⟩ := zHr wr p (bI (rowB i false)) (by rw [HCF.out, zQh]) (zQn _) (by rw [zQc]; unfold rowB; rw [List.length_append, HPL.out]; simp; omega)
      rw [zQc] at hcv hbs
      have HBS := hid hbs
      have HBQ : Hid (Below wr.heap.size wr wr2) := hid hbq
      clear hbs hbq
      go_wp2_with fail
      clear hcv
      refine (zDA (some ⟨gq, 0, none⟩) (rowB i false).length Cq (bI (rowB i false)) wr2 HBS.out ((HT.out.keep HBq.out).keep HBQ.out) (by unfold rowB; rw [List.length_append, HPL.out]; simp; omega)).mono ?_
      rintro e w4 ⟨la, rfl, hrow, hb4⟩
      rw [show toks (bI (rowB i false)) = rowY i false from rfl] at hrow ⊢
      have hyl := (HYL.out false).1
      rw [hyl] at hrow ⊢
      have HTS : Hid (Ts w4 la (rowN i false) (rowN i false) (rowY i false)) := hid hrow.ts
      have HB4 : Hid (Below wr.heap.size wr w4) := hid (HBQ.out.trans (hb4.mono HBQ.out.size))
      have HLR2 := hid (HLR.out false)
      have HLD2 := hid (HLD.out false)
      have hKn : 1 ≤ rowN i false ∧ rowN i false ≤ 14 := by unfold rowN; simp; omega
      obtain ⟨kN, hK⟩ : ∃ kN, kN = rowN i false := ⟨_, rfl⟩
      obtain ⟨Y, hY⟩ : ∃ Y, Y = rowY i false := ⟨_, rfl⟩
      rw [← hK] at HTS HLR2 HLD2 hKn ⊢
      rw [← hY] at HTS HLR2 HLD2
      clear hrow hb4 hyl hK hY HLR HLD HYL HPL HCE HCF HBS HBQ
      have hK0 : ((kN : Int) == 0) = false := by simp; omega
      have hKK : ((kN : Int) != (kN : Int)) = false := by simp
      have hK1 : 1 ≤ kN := hKn.1
      have hK14 : kN ≤ 14 := hKn.2
      clear hKn
      go_wp2_with (refine zAS rfl (.tmp 10) rfl X rfl ea 1 ec zS rfl (HE.out.below HB4.out) ?_)
      refine (HLQ.out w4 la kN kN Y HB4.out HTS.out (by omega)).mono ?_
      rintro e w5 ⟨n5, rfl, hl5, hb5⟩
      obtain rfl : kN = n5 := zBF HLR2.out hl5
      have HB5 : Hid (Below wr.heap.size wr w5) := hid (HB4.out.trans (hb5.mono HB4.out.size))
      have HTS5 : Hid (Ts w5 la kN kN Y) := hid (HTS.out.below hb5)
      clear hl5 hb5 HLR2 HTS
      obtain ⟨yn, rfl⟩ : ∃ q : Nat, y = (q : Int) := ⟨y.toNat, by omega⟩
      have c1 := (HX.out w5 (HBq.out.trans (HB5.out.mono HBq.out.size))).2
      obtain ⟨q, hq⟩ : ∃ q, q = yn % kN := ⟨_, rfl⟩
      have hqK : q < kN := by rw [hq]; exact Nat.mod_lt _ (by omega)
      have htm : Int.tmod (yn : Int) (kN : Int) = (q : Int) := by rw [hq]; rfl
      have hy64 : IntKind.i64.wrap (yn : Int) = (yn : Int) := IntWalk.i64_in _ (by omega)
      have hem : (yn : Int) % (kN : Int) = (q : Int) := by rw [hq]; rfl
      have hKne : ¬ (kN : Int) = 0 := by omega
      clear hq
      go_upto_region 18 with fail
      clear htm hem hy64 c1 hKne hy
      have hq0 : (0 : Int) ≤ (q : Int) := Int.natCast_nonneg _
      have hqI : (q : Int) < (kN : Int) := by omega
      obtain ⟨q1, hq1e⟩ : ∃ q1, q1 = q + 1 := ⟨_, rfl⟩
      have HQ1 := hid hq1e
      have hq1K : q1 ≤ kN := by omega
      have hq1l : q1 ≤ 14 := by omega
      have hq1 : IntKind.i64.wrap ((q : Int) + 1) = (q1 : Int) := by rw [show (q : Int) + 1 = (q1 : Int) by omega]; exact IntWalk.i64_in _ (by omega)
      have hq2 : IntKind.i64.wrap (q1 : Int) = (q1 : Int) := IntWalk.i64_in _ (by omega)
      have hq10 : (0 : Int) ≤ (q1 : Int) := Int.natCast_nonneg _
      obtain ⟨tb, to_, rfl, _, _⟩ := HTS5.out.at_ (by omega)
      have hsl := (zA3 HTS5.out hq1K).1
      obtain ⟨o2, hsf, hsT⟩ := zQj (b := tb) (off := to_) (n := kN) (c := kN) (L := Y) hq1K
      obtain ⟨d, hd⟩ : ∃ d, d = kN - q1 := ⟨_, rfl⟩
      rw [← hd] at hsT
      simp only [← hd] at hsf
      have hdl : d ≤ 14 := by omega
      have HSF := hid hsT
      clear hsT hd
      obtain ⟨tk, tf, tt, tx, te, htk⟩ : ∃ tk tf tt tx te, tat Y q = ⟨tk, tf, tt, mk tx, te⟩ := ⟨_, _, _, txN (tat Y q), _, by rw [zNq]⟩
      have hks : ∀ u, Below w5.heap.size w5 u → u.cell? ⟨tb, to_ + q * 5, none⟩ = some (.int .i64 tk) ∧ u.cell? ⟨tb, to_ + q * 5 + 1, none⟩ = some (.int .i64 tf) ∧ u.cell? ⟨tb, to_ + q * 5 + 2, none⟩ = some (.int .i64 tt) ∧ u.cell? ⟨tb, to_ + q * 5 + 3, none⟩ = some (.string (mk tx)) ∧ u.cell? ⟨tb, to_ + q * 5 + 4, none⟩ = some (.int .i64 te) := fun u hu => by
       have h := Ts.at5 (HTS5.out.below hu) hqK
       rw [htk] at h
       exact h
      have HKS := hid hks
      have HDB : Hid (dblT Y q = Y.take q1 ++ [⟨tk, tf, tt, mk tx, te⟩] ++ Y.drop q1) := hid (by unfold dblT; rw [htk, HQ1.out])
      have HLE : Hid (LonP [o] zS (dblT Y q) q1) := hid (by rw [HQ1.out]; exact HLD2.out q hqK)
      clear hks htk hq1e
      go_cut [16] (fun v wx => ∃ (a : Option Addr) (c : Nat), v = .slice a (q1 + 1 + d) c ∧ Hid (Ts wx a (q1 + 1 + d) c (dblT Y q)) ∧ Hid (Below w5.heap.size w5 wx))
      case first =>
       refine wp_region_noPanic ?_
       refine wp_region_held_drew (S := fun u => u.cell? ⟨tb, to_ + q * 5, none⟩ = some (.int .i64 tk) ∧ u.cell? ⟨tb, to_ + q * 5 + 1, none⟩ = some (.int .i64 tf) ∧ u.cell? ⟨tb, to_ + q * 5 + 2, none⟩ = some (.int .i64 tt) ∧ u.cell? ⟨tb, to_ + q * 5 + 3, none⟩ = some (.string (mk tx)) ∧ u.cell? ⟨tb, to_ + q * 5 + 4, none⟩ = some (.int .i64 te)) (by kernel_rfl) (HKS.out _ (Below.refl _ _).drew) (fun hHeld => ?_)
       refine zG 1 rfl ?_
       try simp only [Act.put, aS, aZ, aC]
       refine zG 2 rfl ?_
       try simp only [Act.put, aS, aZ, aC]
       refine zG 3 rfl ?_
       try simp only [Act.put, aS, aZ, aC]
       refine zG 4 rfl ?_
       try simp only [Act.put, aS, aZ, aC]
       refine zG 6 rfl ?_
       try simp only [Act.put, aS, aZ, aC]
       refine zG 7 rfl ?_
       try simp only [Act.put, aS, aZ, aC]
       refine zG 8 rfl ?_
       try simp only [Act.put, aS, aZ, aC]
       refine zG 9 rfl ?_
       try simp only [Act.put, aS, aZ, aC]
       refine zG 12 rfl ?_
       try simp only [Act.put, aS, aZ, aC]
       refine zG 13 rfl ?_
       try simp only [Act.put, aS, aZ, aC]
       refine zG 14 rfl ?_
       try simp only [Act.put, aS, aZ, aC]
       refine zG 15 rfl ?_
       try simp only [Act.put, aS, aZ, aC]
       refine zR [0, 10] ?_
       refine hDo rfl (fun K hK => ?_) ?_
       ·refine zE7 rfl rfl ?_
        intro p65 g65 hg65 hl65 ho65 hb65
        have HX65 : Hid (Below w5.heap.size w5 p65) := hid ((Below.refl w5.heap.size w5).drew.trans (hb65.mono (Below.refl w5.heap.size w5).drew.size))
        have HR65 := hid (ho65 w5.heap.size (by rw [hg65]; exact (Below.refl w5.heap.size w5).drew.size))
        have HL65 := hid hl65
        clear hg65 hl65 ho65 hb65
        refine hK.out _ _ (HKS.out _ HX65.out) (fun hHeld => ?_)
        clear hK K
        try simp only [Act.put, aS, aZ, aC]
        refine zR [5, 10] ?_
        refine hDo rfl (fun K hK => ?_) ?_
        ·refine zBU rfl (.tmp 61) (.tmp 65) rfl w5.heap.size (some ⟨g65, 0, none⟩) 0 0 [] rfl HR65.out (some ⟨tb, to_, none⟩) q1 kN (Y.take q1) rfl ((zA3 HTS5.out hq1K).2 _ (HTS5.out.below HX65.out)) (by omega) HX65.out.size ?_
         intro a66 c66 p66 ho66 hg66 hb66
         rw [Nat.zero_add] at ho66 ⊢
         rw [List.nil_append] at ho66
         have HX66 : Hid (Below w5.heap.size w5 p66) := hid (HX65.out.trans hb66)
         have HR66 := hid ho66
         clear ho66 hg66 hb66
         refine hK.out _ _ (HKS.out _ HX66.out) (fun hHeld => ?_)
         clear hK K
         try simp only [Act.put, aS, aZ, aC]
         refine zR [10] ?_
         refine hDo rfl (fun K hK => ?_) ?_
         ·refine zEc rfl (.tmp 70) rfl tk tf tt tx te rfl ?_
          intro p67 g67 hg67 ht67 hb67
          have HX67 : Hid (Below w5.heap.size w5 p67) := hid (HX66.out.trans (hb67.mono HX66.out.size))
          have HQ67 := hid ht67
          have HG67 : Hid (w5.heap.size ≤ g67) := hid (by rw [hg67]; exact HX66.out.size)
          have HR67 := hid (HR66.out.keep hb67 (Nat.le_refl _))
          clear hg67 ht67 hb67
          refine hK.out _ _ (HKS.out _ HX67.out) (fun hHeld => ?_)
          clear hK K
          try simp only [Act.put, aS, aZ, aC]
          refine zR [11] ?_
          refine hDo rfl (fun K hK => ?_) ?_
          ·refine zBU rfl (.tmp 66) (.tmp 71) rfl w5.heap.size a66 q1 c66 (Y.take q1) rfl HR67.out (some ⟨g67, 0, none⟩) 1 1 [⟨tk, tf, tt, mk tx, te⟩] rfl (HQ67.out.own HG67.out).ts (by omega) HX67.out.size ?_
           intro a68 c68 p68 ho68 hg68 hb68
           have HX68 : Hid (Below w5.heap.size w5 p68) := hid (HX67.out.trans hb68)
           have HR68 := hid ho68
           clear ho68 hg68 hb68
           refine hK.out _ _ (HKS.out _ HX68.out) (fun hHeld => ?_)
           clear hK K
           try simp only [Act.put, aS, aZ, aC]
           refine zR [16] ?_
           refine hDo rfl (fun K hK => ?_) ?_
           ·refine zBU rfl (.tmp 72) (.tmp 76) rfl w5.heap.size a68 (q1 + 1) c68 (Y.take q1 ++ [⟨tk, tf, tt, mk tx, te⟩]) rfl HR68.out (some ⟨tb, o2, none⟩) d d (Y.drop q1) rfl (HSF.out _ (HTS5.out.below HX68.out)) (by omega) HX68.out.size ?_
            intro a69 c69 p69 ho69 hg69 hb69
            have HX69 : Hid (Below w5.heap.size w5 p69) := hid (HX68.out.trans hb69)
            have HR69 := hid ho69.ts
            clear ho69 hg69 hb69
            refine hK.out _ _ (HKS.out _ HX69.out) (fun hHeld => ?_)
            clear hK K
            try simp only [Act.put, aS, aZ, aC]
            refine zG 17 rfl ?_
            try simp only [Act.put, aS, aZ, aC]
            refine wpAnyH_done (by kernel_rfl) ?_ _
            refine NoPanic.normal ?_
            go_wp2
            go_meet
            exact ⟨a69, c69, rfl, hid (by rw [HDB.out]; exact HR69.out), hid HX69.out⟩
           exact AllReadyH.nil
          exact AllReadyH.nil
         exact AllReadyH.nil
        refine hDo rfl (fun K hK => ?_) ?_
        ·refine zEc rfl (.tmp 70) rfl tk tf tt tx te rfl ?_
         intro p70 g70 hg70 ht70 hb70
         have HX70 : Hid (Below w5.heap.size w5 p70) := hid (HX65.out.trans (hb70.mono HX65.out.size))
         have HQ70 := hid ht70
         have HG70 : Hid (w5.heap.size ≤ g70) := hid (by rw [hg70]; exact HX65.out.size)
         have HR70 := hid (HR65.out.keep hb70 (Nat.le_refl _))
         have HN70 : Hid (g70 ≠ g65) := hid (by have := HL65.out; omega)
         clear hg70 ht70 hb70
         refine hK.out _ _ (HKS.out _ HX70.out) (fun hHeld => ?_)
         clear hK K
         try simp only [Act.put, aS, aZ, aC]
         refine zR [5] ?_
         refine hDo rfl (fun K hK => ?_) ?_
         ·refine zBU rfl (.tmp 61) (.tmp 65) rfl w5.heap.size (some ⟨g65, 0, none⟩) 0 0 [] rfl HR70.out (some ⟨tb, to_, none⟩) q1 kN (Y.take q1) rfl ((zA3 HTS5.out hq1K).2 _ (HTS5.out.below HX70.out)) (by omega) HX70.out.size ?_
          intro a71 c71 p71 ho71 hg71 hb71
          rw [Nat.zero_add] at ho71 ⊢
          rw [List.nil_append] at ho71
          have HX71 : Hid (Below w5.heap.size w5 p71) := hid (HX70.out.trans hb71)
          have HR71 := hid ho71
          have HQ71 := hid (HQ70.out.grown hg71 HN70.out)
          clear ho71 hg71 hb71
          refine hK.out _ _ (HKS.out _ HX71.out) (fun hHeld => ?_)
          clear hK K
          try simp only [Act.put, aS, aZ, aC]
          refine zR [11] ?_
          refine hDo rfl (fun K hK => ?_) ?_
          ·refine zBU rfl (.tmp 66) (.tmp 71) rfl w5.heap.size a71 q1 c71 (Y.take q1) rfl HR71.out (some ⟨g70, 0, none⟩) 1 1 [⟨tk, tf, tt, mk tx, te⟩] rfl (HQ71.out.own HG70.out).ts (by omega) HX71.out.size ?_
           intro a72 c72 p72 ho72 hg72 hb72
           have HX72 : Hid (Below w5.heap.size w5 p72) := hid (HX71.out.trans hb72)
           have HR72 := hid ho72
           clear ho72 hg72 hb72
           refine hK.out _ _ (HKS.out _ HX72.out) (fun hHeld => ?_)
           clear hK K
           try simp only [Act.put, aS, aZ, aC]
           refine zR [16] ?_
           refine hDo rfl (fun K hK => ?_) ?_
           ·refine zBU rfl (.tmp 72) (.tmp 76) rfl w5.heap.size a72 (q1 + 1) c72 (Y.take q1 ++ [⟨tk, tf, tt, mk tx, te⟩]) rfl HR72.out (some ⟨tb, o2, none⟩) d d (Y.drop q1) rfl (HSF.out _ (HTS5.out.below HX72.out)) (by omega) HX72.out.size ?_
            intro a73 c73 p73 ho73 hg73 hb73
            have HX73 : Hid (Below w5.heap.size w5 p73) := hid (HX72.out.trans hb73)
            have HR73 := hid ho73.ts
            clear ho73 hg73 hb73
            refine hK.out _ _ (HKS.out _ HX73.out) (fun hHeld => ?_)
            clear hK K
            try simp only [Act.put, aS, aZ, aC]
            refine zG 17 rfl ?_
            try simp only [Act.put, aS, aZ, aC]
            refine wpAnyH_done (by kernel_rfl) ?_ _
            refine NoPanic.normal ?_
            go_wp2
            go_meet
            exact ⟨a73, c73, rfl, hid (by rw [HDB.out]; exact HR73.out), hid HX73.out⟩
           exact AllReadyH.nil
          exact AllReadyH.nil
         exact AllReadyH.nil
        exact AllReadyH.nil
       refine hDo rfl (fun K hK => ?_) ?_
       ·refine zEc rfl (.tmp 70) rfl tk tf tt tx te rfl ?_
        intro p74 g74 hg74 ht74 hb74
        have HX74 : Hid (Below w5.heap.size w5 p74) := hid ((Below.refl w5.heap.size w5).drew.trans (hb74.mono (Below.refl w5.heap.size w5).drew.size))
        have HQ74 := hid ht74
        have HG74 : Hid (w5.heap.size ≤ g74) := hid (by rw [hg74]; exact (Below.refl w5.heap.size w5).drew.size)
        clear hg74 ht74 hb74
        refine hK.out _ _ (HKS.out _ HX74.out) (fun hHeld => ?_)
        clear hK K
        try simp only [Act.put, aS, aZ, aC]
        refine zR [0] ?_
        refine hDo rfl (fun K hK => ?_) ?_
        ·refine zE7 rfl rfl ?_
         intro p75 g75 hg75 hl75 ho75 hb75
         have HX75 : Hid (Below w5.heap.size w5 p75) := hid (HX74.out.trans (hb75.mono HX74.out.size))
         have HR75 := hid (ho75 w5.heap.size (by rw [hg75]; exact HX74.out.size))
         have HL75 := hid hl75
         have HQ75 := hid (HQ74.out.below hb75)
         have HN75 : Hid (g74 ≠ g75) := hid (by have := (Array.getElem?_eq_some_iff.1 HQ74.out).1; omega)
         clear hg75 hl75 ho75 hb75
         refine hK.out _ _ (HKS.out _ HX75.out) (fun hHeld => ?_)
         clear hK K
         try simp only [Act.put, aS, aZ, aC]
         refine zR [5] ?_
         refine hDo rfl (fun K hK => ?_) ?_
         ·refine zBU rfl (.tmp 61) (.tmp 65) rfl w5.heap.size (some ⟨g75, 0, none⟩) 0 0 [] rfl HR75.out (some ⟨tb, to_, none⟩) q1 kN (Y.take q1) rfl ((zA3 HTS5.out hq1K).2 _ (HTS5.out.below HX75.out)) (by omega) HX75.out.size ?_
          intro a76 c76 p76 ho76 hg76 hb76
          rw [Nat.zero_add] at ho76 ⊢
          rw [List.nil_append] at ho76
          have HX76 : Hid (Below w5.heap.size w5 p76) := hid (HX75.out.trans hb76)
          have HR76 := hid ho76
          have HQ76 := hid (HQ75.out.grown hg76 HN75.out)
          clear ho76 hg76 hb76
          refine hK.out _ _ (HKS.out _ HX76.out) (fun hHeld => ?_)
          clear hK K
          try simp only [Act.put, aS, aZ, aC]
          refine zR [11] ?_
          refine hDo rfl (fun K hK => ?_) ?_
          ·refine zBU rfl (.tmp 66) (.tmp 71) rfl w5.heap.size a76 q1 c76 (Y.take q1) rfl HR76.out (some ⟨g74, 0, none⟩) 1 1 [⟨tk, tf, tt, mk tx, te⟩] rfl (HQ76.out.own HG74.out).ts (by omega) HX76.out.size ?_
           intro a77 c77 p77 ho77 hg77 hb77
           have HX77 : Hid (Below w5.heap.size w5 p77) := hid (HX76.out.trans hb77)
           have HR77 := hid ho77
           clear ho77 hg77 hb77
           refine hK.out _ _ (HKS.out _ HX77.out) (fun hHeld => ?_)
           clear hK K
           try simp only [Act.put, aS, aZ, aC]
           refine zR [16] ?_
           refine hDo rfl (fun K hK => ?_) ?_
           ·refine zBU rfl (.tmp 72) (.tmp 76) rfl w5.heap.size a77 (q1 + 1) c77 (Y.take q1 ++ [⟨tk, tf, tt, mk tx, te⟩]) rfl HR77.out (some ⟨tb, o2, none⟩) d d (Y.drop q1) rfl (HSF.out _ (HTS5.out.below HX77.out)) (by omega) HX77.out.size ?_
            intro a78 c78 p78 ho78 hg78 hb78
            have HX78 : Hid (Below w5.heap.size w5 p78) := hid (HX77.out.trans hb78)
            have HR78 := hid ho78.ts
            clear ho78 hg78 hb78
            refine hK.out _ _ (HKS.out _ HX78.out) (fun hHeld => ?_)
            clear hK K
            try simp only [Act.put, aS, aZ, aC]
            refine zG 17 rfl ?_
            try simp only [Act.put, aS, aZ, aC]
            refine wpAnyH_done (by kernel_rfl) ?_ _
            refine NoPanic.normal ?_
            go_wp2
            go_meet
            exact ⟨a78, c78, rfl, hid (by rw [HDB.out]; exact HR78.out), hid HX78.out⟩
           exact AllReadyH.nil
          exact AllReadyH.nil
         exact AllReadyH.nil
        exact AllReadyH.nil
       exact AllReadyH.nil
      case rest =>
       obtain ⟨da, dc, rfl, HD, HBd⟩ := hcut
       obtain ⟨w6, hw6⟩ : ∃ q, q = wc := ⟨_, rfl⟩
       rw [← hw6] at HD HBd ⊢
       clear hw6 HKS HSF HDB
       have HB6 : Hid (Below wr.heap.size wr w6) := hid (HB5.out.trans (HBd.out.mono HB5.out.size))
       go_wp2_with (refine zAS rfl (.tmp 10) rfl X rfl ea 1 ec zS rfl (HE.out.below HB6.out) ?_)
       refine (HLQ.out w6 da _ dc (dblT Y q) HB6.out HD.out (by omega)).mono ?_
       rintro e w7 ⟨n7, rfl, hl7, hb7⟩
       obtain rfl : q1 = n7 := zBF HLE.out hl7
       have HB7 : Hid (Below wr.heap.size wr w7) := hid (HB6.out.trans (hb7.mono HB6.out.size))
       clear hl7 hb7
       have hqe : ((q1 : Int) == (q1 : Int)) = true := by simp
       go_wp2
       go_ret
       exact ⟨rfl, HB0.out.trans ((HBq.out.trans (HB7.out.mono HBq.out.size)).mono HB0.out.size)⟩
end Go.Proofs.YtcjbhdgjcpnklaaGreatDoor
