import Derived.Test.YtcjbhdgjcpnklaaGreatDoorV45
import Derived.Test.YtcjbhdgjcpnklaaGreatDoorV48
import Derived.Test.YtcjbhdgjcpnklaaGreatDoorV49
namespace Go.Proofs.YtcjbhdgjcpnklaaGreatDoor
open Go.RowKit
theorem zE7 {ops : Array Oper} {o : Oper} {A : Act} {w : World} {K : Act → World → Prop} {Q : Exit → Act → World → Prop} {E : Prop} (hgd : o.guard = none) (ho : o.op = .buildSlice 23 0 #[])
  (kk : ∀ w' g, g = w.heap.size → g < w'.heap.size → (∀ base, base ≤ g → OwnT base 51 w' (some ⟨g, 0, none⟩) 0 0 []) → Below w.heap.size w w' → K (A.put o.dst (.slice (some ⟨g, 0, none⟩) 0 0)) w') : if Region.wanted o (yielded ops A.tmps) = true then o.wp Tryz.prog A w K Q else E := by
 rw [if_pos (show Region.wanted o (yielded ops A.tmps) = true by simp [Region.wanted, hgd])]
 have h := kk (w.alloc (.cells #[] 51)) w.heap.size rfl (Array.getElem?_eq_some_iff.1 (heap_alloc_new w (.cells #[] 51))).1 (fun base hb => OwnT.emptyAt (heap_alloc_new w _) hb) (zAA w _)
 have hr : (Instr.buildSlice 23 0 #[]).run Tryz.prog w = .ok (.slice (some ⟨w.heap.size, 0, none⟩) 0 0) (w.alloc (.cells #[] 51)) := by kernel_rfl
 unfold Oper.wp execOp
 simp only [ho, List.map_toArray, List.map_nil, hr, Sem.run_bind, Result.andThen_ok, Sem.run_pure]
 exact h
set_option maxRecDepth 100000 in
set_option maxHeartbeats 32000000 in
theorem zDT (x y : Int) (w : World) (ht : Tab w) (hx : 0 ≤ x ∧ x < 256) (hy : 0 ≤ y ∧ y < 256) :
  Calls Tryz.prog 9 #[.int .u8 x, .int .u8 y] w fun e w' => e = .returned (.bool true) ∧ Below w.heap.size w w' := by
 have HT := hid ht
 clear ht
 go_enter Tryz.func9, Tryz.ntmps9
 go_wp2_with fail
 refine (zCT w HT.out).mono ?_
 rintro e w0 ⟨rfl, hb0⟩
 have HB0 := hid hb0
 clear hb0
 go_wp2_with fail
 refine (zKW w0).mono ?_
 rintro e w1 ⟨rfl, hb1⟩
 have HB1 : Hid (Below w.heap.size w w1) := hid (HB0.out.trans (hb1.mono HB0.out.size))
 clear hb1 HB0
 go_wp2_with fail
 refine (zHI none 0 0 [] zS oE w1 (HT.out.keep HB1.out) (zGr w1) rfl (by decide) (by decide)).mono ?_
 rintro e wB ⟨ea1, em, ec1, rfl, ho, hb⟩
 rw [addW1.1] at ho
 rw [addW1.2.1, addW1.2.2]
 obtain rfl : em = 1 := (OpS.len ho.vs).symm
 have HBB : Hid (Below w.heap.size w wB) := hid (HB1.out.trans (hb.mono HB1.out.size))
 obtain ⟨E1, hE⟩ : ∃ q, q = wB.heap.size := ⟨_, rfl⟩
 have HEE := hid hE
 have HOB : Hid (OpS wB ea1 1 ec1 [oE]) := hid ho.vs
 have hnew : EB (wB.alloc (.cells #[.slice none 0 0, .int .i64 0, .int .i64 0, .int .i64 0, .int .i64 0, .int .i64 0, .int .i64 0, .int .i64 0, .int .i64 0, .int .i64 0, .int .i64 0] 34)) E1 none 0 0 z0 := by rw [hE]; exact EB.new wB none 0 0 z0
 have HNEW := hid hnew
 clear ho hb hE hnew HB1
 have hcv : ∀ w3 : World, (convert 59 59 (.slice (some ⟨w3.heap.size, 0, none⟩) 18 18)).run Tryz.prog (w3.alloc (.cells #[.int .u8 105, .int .u8 102, .int .u8 32, .int .u8 97, .int .u8 32, .int .u8 116, .int .u8 104, .int .u8 101, .int .u8 110, .int .u8 32, .int .u8 98, .int .u8 32, .int .u8 101, .int .u8 108, .int .u8 115, .int .u8 101, .int .u8 32, .int .u8 99] 5)) = .ok (.slice (some ⟨w3.heap.size, 0, none⟩) 18 18) (w3.alloc (.cells #[.int .u8 105, .int .u8 102, .int .u8 32, .int .u8 97, .int .u8 32, .int .u8 116, .int .u8 104, .int .u8 101, .int .u8 110, .int .u8 32, .int .u8 98, .int .u8 32, .int .u8 101, .int .u8 108, .int .u8 115, .int .u8 101, .int .u8 32, .int .u8 99] 5 (18, 19))) := fun w3 => Joins.run_convert_bytes_const_at (P := Tryz.prog) w3 59 5 #[.int .u8 105, .int .u8 102, .int .u8 32, .int .u8 97, .int .u8 32, .int .u8 116, .int .u8 104, .int .u8 101, .int .u8 110, .int .u8 32, .int .u8 98, .int .u8 32, .int .u8 101, .int .u8 108, .int .u8 115, .int .u8 101, .int .u8 32, .int .u8 99] 18 18 w3.heap.size rfl Tryz.underlying59 Tryz.underlying5
 go_wp2_with (refine zAD rfl (.tmp 6) (.tmp 21) rfl E1 (by rw [HEE.out]; rfl) ea1 1 ec1 zS rfl rfl none 0 0 z0 zAF HNEW.out ?_; rw [← HEE.out]; intro v1 h3 ho3; have HE1 := hid h3; have HB3 : Hid (Below wB.heap.size wB v1) := hid ((zAA wB _).trans (ho3.below (by rw [HEE.out]; exact Nat.le_refl _))); clear h3 ho3)
 have HW1 : Hid (Below w.heap.size w v1) := hid (HBB.out.trans (HB3.out.mono HBB.out.size))
 have HO1 : Hid (OpS v1 ea1 1 ec1 [oE]) := hid (HOB.out.below HB3.out)
 clear HNEW HEE HBB HOB HB3 hcv
 have hbs := Bs.lit (l := lW1) (cs := #[.int .u8 105, .int .u8 102, .int .u8 32, .int .u8 97, .int .u8 32, .int .u8 116, .int .u8 104, .int .u8 101, .int .u8 110, .int .u8 32, .int .u8 98, .int .u8 32, .int .u8 101, .int .u8 108, .int .u8 115, .int .u8 101, .int .u8 32, .int .u8 99]) (mk := (18, 19)) v1 5 rfl (by decide) (g := v1.heap.size) (n := 18) rfl rfl (by decide)
 have HBS := hid hbs
 clear hbs
 refine (zDA _ 18 18 lW1 _ HBS.out (HT.out.keep (HW1.out.trans ((zAA v1 _).mono HW1.out.size))) (by decide)).mono ?_
 rw [tokW1]
 rintro e v2 ⟨la, rfl, hrow, hb⟩
 have HV2 : Hid (Below v1.heap.size v1 v2) := hid ((zAA v1 _).trans (hb.mono (zAA v1 _).size))
 have HTS : Hid (Ts v2 la 6 6 (toks lW1)) := hid hrow.ts
 have HW2 : Hid (Below w.heap.size w v2) := hid (HW1.out.trans (HV2.out.mono HW1.out.size))
 have HE2 := hid (HE1.out.below HV2.out)
 have HO2 : Hid (OpS v2 ea1 1 ec1 [oE]) := hid (HO1.out.below HV2.out)
 clear hrow hb HBS HW1 HE1 HO1 HV2
 obtain ⟨k, hk, hkx⟩ : ∃ k : Nat, k < 7 ∧ x % 7 = (k : Int) := ⟨(x % 7).toNat, by omega, by omega⟩
 have hx64 : IntKind.i64.wrap x = x := IntWalk.i64_in _ (by omega)
 go_upto_region 7 with fail
 rw [hkx]
 clear hkx hx64 hx
 have hk0 : (0 : Int) ≤ (k : Int) := Int.natCast_nonneg _
 have hsl := (zA3 HTS.out (show k ≤ 6 by omega)).1
 refine wp_region_noPanic ?_
 refine wp_region_held_drew (S := fun w' => EB w' E1 ea1 1 ec1 zS) (by kernel_rfl) (HE2.out.below (Below.refl _ _).drew) (fun hHeld => ?_)
 refine zAh (i := 0) (oi := { dst := some 32, op := Op.load 34 (Operand.tmp 6), type := 34, pos := "more.go:44", after := #[], guard := none }) (Operand.tmp 6) rfl (by kernel_rfl) (by kernel_rfl) (by kernel_rfl) ea1 1 ec1 (zS) (fun _ _ _ h => h) (by rfl) rfl (E1) rfl (rfl) (fun w h => h) (by assumption) ?_
 try simp only [Act.put, aS, aZ, aC]
 refine zG 1 rfl ?_
 try simp only [Act.put, aS, aZ, aC]
 refine zG 2 rfl ?_
 try simp only [Act.put, aS, aZ, aC]
 refine zG 3 rfl ?_
 try simp only [Act.put, aS, aZ, aC]
 refine zG 5 rfl ?_
 try simp only [Act.put, aS, aZ, aC]
 refine zR [4] ?_
 refine hDo rfl (fun K hK => ?_) ?_
 ·go_simp
  (go_at_call 20; (with_reducible refine (zAY zS rfl zEU ea1 1 ec1 [oE] la k 6 ((toks lW1).take k) _ (HT.out.keep (HW2.out.trans ((Below.refl v2.heap.size v2).drew.mono HW2.out.size))) (HO2.out.below (Below.refl v2.heap.size v2).drew) zM6 (by decide) zQW zQX ((zA3 HTS.out (show k ≤ 6 by omega)).2 _ (HTS.out.below (Below.refl v2.heap.size v2).drew)) (by omega)).mono ?_); rintro e u3 ⟨n3, rfl, hc3, hb3⟩)
  have HV3 : Hid (Below v2.heap.size v2 u3) := hid ((Below.refl v2.heap.size v2).drew.trans (hb3.mono (Nat.le_refl _)))
  obtain rfl : n3 = k := zBF hc3 (lonW1k (by omega))
  clear hc3 hb3
  refine hK.out _ _ (HE2.out.below HV3.out) (fun hHeld => ?_)
  clear hK K
  try simp only [Act.put, aS, aZ, aC]
  refine zG 6 rfl ?_
  try simp only [Act.put, aS, aZ, aC]
  refine wpAnyH_done (by kernel_rfl) ?_ _
  refine NoPanic.normal ?_
  have HW3 : Hid (Below w.heap.size w u3) := hid (HW2.out.trans (HV3.out.mono HW2.out.size))
  have HE3 := hid (HE2.out.below HV3.out)
  have HO3 : Hid (OpS u3 ea1 1 ec1 [oE]) := hid (HO2.out.below HV3.out)
  have HTS3 : Hid (Ts u3 la 6 6 (toks lW1)) := hid (HTS.out.below HV3.out)
  clear HE2 HO2 HTS HW2 HV3 hsl
  by_cases hkz : n3 = 0
  ·have hkb : ((n3 : Int) == 0) = true := by simp; exact hkz
   clear hkz
   go_wp2
   go_ret
   exact ⟨rfl, HW3.out⟩
  ·have hkb : ((n3 : Int) == 0) = false := by simp; exact hkz
   have hcv : ∀ w3 : World, (convert 59 59 (.slice (some ⟨w3.heap.size, 0, none⟩) 16 16)).run Tryz.prog (w3.alloc (.cells #[.int .u8 105, .int .u8 102, .int .u8 32, .int .u8 116, .int .u8 104, .int .u8 101, .int .u8 110, .int .u8 32, .int .u8 101, .int .u8 108, .int .u8 115, .int .u8 101, .int .u8 32, .int .u8 120, .int .u8 32, .int .u8 41] 5)) = .ok (.slice (some ⟨w3.heap.size, 0, none⟩) 16 16) (w3.alloc (.cells #[.int .u8 105, .int .u8 102, .int .u8 32, .int .u8 116, .int .u8 104, .int .u8 101, .int .u8 110, .int .u8 32, .int .u8 101, .int .u8 108, .int .u8 115, .int .u8 101, .int .u8 32, .int .u8 120, .int .u8 32, .int .u8 41] 5 (16, 17))) := fun w3 => Joins.run_convert_bytes_const_at (P := Tryz.prog) w3 59 5 #[.int .u8 105, .int .u8 102, .int .u8 32, .int .u8 116, .int .u8 104, .int .u8 101, .int .u8 110, .int .u8 32, .int .u8 101, .int .u8 108, .int .u8 115, .int .u8 101, .int .u8 32, .int .u8 120, .int .u8 32, .int .u8 41] 16 16 w3.heap.size rfl Tryz.underlying59 Tryz.underlying5
   go_wp2_with fail
   clear hcv
   have hbs := Bs.lit (l := lW2) (cs := #[.int .u8 105, .int .u8 102, .int .u8 32, .int .u8 116, .int .u8 104, .int .u8 101, .int .u8 110, .int .u8 32, .int .u8 101, .int .u8 108, .int .u8 115, .int .u8 101, .int .u8 32, .int .u8 120, .int .u8 32, .int .u8 41]) (mk := (16, 17)) u3 5 rfl (by decide) (g := u3.heap.size) (n := 16) rfl rfl (by decide)
   have HBS := hid hbs
   clear hbs
   refine (zDA _ 16 16 lW2 _ HBS.out (HT.out.keep (HW3.out.trans ((zAA u3 _).mono HW3.out.size))) (by decide)).mono ?_
   rw [tokW2]
   rintro e u4 ⟨lb, rfl, hrow, hb⟩
   have HV4 : Hid (Below u3.heap.size u3 u4) := hid ((zAA u3 _).trans (hb.mono (zAA u3 _).size))
   have HTB : Hid (Ts u4 lb 5 5 (toks lW2)) := hid hrow.ts
   have HW4 : Hid (Below w.heap.size w u4) := hid (HW3.out.trans (HV4.out.mono HW3.out.size))
   have HE4 := hid (HE3.out.below HV4.out)
   have HO4 : Hid (OpS u4 ea1 1 ec1 [oE]) := hid (HO3.out.below HV4.out)
   have HTA : Hid (Ts u4 la 6 6 (toks lW1)) := hid (HTS3.out.below HV4.out)
   clear hrow hb HBS HW3 HE3 HO3 HTS3 HV4
   obtain ⟨m, hm, hmy⟩ : ∃ m : Nat, m < 5 ∧ y % 5 = (m : Int) := ⟨(y % 5).toNat, by omega, by omega⟩
   have hy64 : IntKind.i64.wrap y = y := IntWalk.i64_in _ (by omega)
   go_upto_region 15 with fail
   rw [hmy]
   clear hmy hy64 hy
   obtain ⟨j, hj6, hjk⟩ : ∃ j : Nat, j < 6 ∧ n3 = j + 1 := ⟨n3 - 1, by omega, by omega⟩
   have hjI : (n3 : Int) - 1 = (j : Int) := by omega
   have hj64 : IntKind.i64.wrap ((n3 : Int) - 1) = (j : Int) := by rw [hjI]; exact IntWalk.i64_in _ (by omega)
   have hj65 : IntKind.i64.wrap (j : Int) = (j : Int) := IntWalk.i64_in _ (by omega)
   have hj0 : (0 : Int) ≤ (j : Int) := Int.natCast_nonneg _
   have hm0 : (0 : Int) ≤ (m : Int) := Int.natCast_nonneg _
   have hm5 : decide ((m : Int) < 5) = true := by simp; omega
   have hm5' : m < 5 := hm
   have hm5I : (m : Int) < 5 := by omega
   have hsl := (zA3 HTA.out (show j ≤ 6 by omega)).1
   obtain ⟨tb, to_, rfl, c0, c1, c2, c3, c4⟩ := zIa HTB.out hm
   clear c0 c1 c2 c3 c4
   obtain ⟨tk, tf, tt, tx, te, htk⟩ : ∃ tk tf tt tx te, tat (toks lW2) m = ⟨tk, tf, tt, mk tx, te⟩ := ⟨_, _, _, txN (tat (toks lW2) m), _, by rw [zNq]⟩
   have HOD : Hid (oddW j m = (toks lW1).take j ++ [⟨tk, tf, tt, mk tx, te⟩]) := hid (by unfold oddW; rw [htk])
   have HKS : Hid (∀ u, Below u4.heap.size u4 u → ∀ i, i < 5 → u.cell? ⟨tb, to_ + m * 5 + i, none⟩ = (#[.int .i64 tk, .int .i64 tf, .int .i64 tt, .string (mk tx), .int .i64 te] : Array Value)[i]?) := hid fun u hu i hi => by
    have := (HTB.out.below hu).cells hm i hi
    rw [htk] at this
    rw [Nat.add_assoc, this]
    rcases (show i = 0 ∨ i = 1 ∨ i = 2 ∨ i = 3 ∨ i = 4 by omega) with rfl | rfl | rfl | rfl | rfl <;> rfl
   clear htk
   go_cut [12] (fun v wx => ∃ (a : Option Addr) (c : Nat), v = .slice a (j + 1) c ∧ Hid (Ts wx a (j + 1) c (oddW j m)) ∧ Hid (Below u4.heap.size u4 wx))
   case first =>
    refine wp_region_noPanic ?_
    refine wp_region_held_drew (S := fun u => ∀ i, i < 5 → u.cell? ⟨tb, to_ + m * 5 + i, none⟩ = (#[.int .i64 tk, .int .i64 tf, .int .i64 tt, .string (mk tx), .int .i64 te] : Array Value)[i]?) (by kernel_rfl) (HKS.out _ (Below.refl _ _).drew) (fun hHeld => ?_)
    refine zG 1 rfl ?_
    try simp only [Act.put, aS, aZ, aC]
    refine zG 2 rfl ?_
    try simp only [Act.put, aS, aZ, aC]
    refine zG 3 rfl ?_
    try simp only [Act.put, aS, aZ, aC]
    refine zG 4 rfl ?_
    try simp only [Act.put, aS, aZ, aC]
    refine zG 6 rfl ?_
    try simp only [Act.put, aS, aZ, aC]
    refine zG 7 rfl ?_
    try simp only [Act.put, aS, aZ, aC]
    refine zG 8 rfl ?_
    try simp only [Act.put, aS, aZ, aC]
    refine zT 9 (v := .agg #[.int .i64 tk, .int .i64 tf, .int .i64 tt, .string (mk tx), .int .i64 te]) rfl (fun w0 h0 => zEQ zBJ (.tmp 59) tb (to_ + m * 5) rfl #[.int .i64 tk, .int .i64 tf, .int .i64 tt, .string (mk tx), .int .i64 te] rfl h0) ?_
    try simp only [Act.put, aS, aZ, aC]
    refine zR [0, 10] ?_
    refine hDo rfl (fun K hK => ?_) ?_
    ·refine zE7 rfl rfl ?_
     intro p1 g1 hg1 hl1 ho1 hb1
     have HX1 : Hid (Below u4.heap.size u4 p1) := hid ((Below.refl u4.heap.size u4).drew.trans (hb1.mono (Below.refl u4.heap.size u4).drew.size))
     have HR1 := hid (ho1 u4.heap.size (by rw [hg1]; exact (Below.refl u4.heap.size u4).drew.size))
     have HL1 := hid hl1
     clear hg1 hl1 ho1 hb1
     refine hK.out _ _ (HKS.out _ HX1.out) (fun hHeld => ?_)
     clear hK K
     try simp only [Act.put, aS, aZ, aC]
     refine zR [5, 10] ?_
     refine hDo rfl (fun K hK => ?_) ?_
     ·refine zBU rfl (.tmp 51) (.tmp 55) rfl u4.heap.size (some ⟨g1, 0, none⟩) 0 0 [] rfl HR1.out la j 6 ((toks lW1).take j) rfl ((zA3 HTA.out (show j ≤ 6 by omega)).2 _ (HTA.out.below HX1.out)) (by omega) HX1.out.size ?_
      intro a2 c2 p2 ho2 hg2 hb2
      rw [Nat.zero_add] at ho2 ⊢
      rw [List.nil_append] at ho2
      have HX2 : Hid (Below u4.heap.size u4 p2) := hid (HX1.out.trans hb2)
      have HR2 := hid ho2
      clear ho2 hg2 hb2
      refine hK.out _ _ (HKS.out _ HX2.out) (fun hHeld => ?_)
      clear hK K
      try simp only [Act.put, aS, aZ, aC]
      refine zR [10] ?_
      refine hDo rfl (fun K hK => ?_) ?_
      ·refine zEc rfl (.tmp 60) rfl tk tf tt tx te rfl ?_
       intro p3 g3 hg3 ht3 hb3
       have HX3 : Hid (Below u4.heap.size u4 p3) := hid (HX2.out.trans (hb3.mono HX2.out.size))
       have HT3 := hid ht3
       have HG3 : Hid (u4.heap.size ≤ g3) := hid (by rw [hg3]; exact HX2.out.size)
       have HR3 := hid (HR2.out.keep hb3 (Nat.le_refl _))
       clear hg3 ht3 hb3
       refine hK.out _ _ (HKS.out _ HX3.out) (fun hHeld => ?_)
       clear hK K
       try simp only [Act.put, aS, aZ, aC]
       refine zR [11] ?_
       refine hDo rfl (fun K hK => ?_) ?_
       ·refine zBU rfl (.tmp 56) (.tmp 61) rfl u4.heap.size a2 j c2 ((toks lW1).take j) rfl HR3.out (some ⟨g3, 0, none⟩) 1 1 [⟨tk, tf, tt, mk tx, te⟩] rfl (HT3.out.own HG3.out).ts (by omega) HX3.out.size ?_
        intro a4 c4 p4 ho4 hg4 hb4
        have HX4 : Hid (Below u4.heap.size u4 p4) := hid (HX3.out.trans hb4)
        have HR4 := hid ho4.ts
        clear ho4 hg4 hb4
        refine hK.out _ _ (HKS.out _ HX4.out) (fun hHeld => ?_)
        clear hK K
        try simp only [Act.put, aS, aZ, aC]
        refine zG 12 rfl ?_
        try simp only [Act.put, aS, aZ, aC]
        refine wpAnyH_done (by kernel_rfl) ?_ _
        refine NoPanic.normal ?_
        go_wp2
        go_meet
        exact ⟨a4, c4, rfl, hid (by rw [HOD.out]; exact HR4.out), HX4⟩
       exact AllReadyH.nil
      exact AllReadyH.nil
     refine hDo rfl (fun K hK => ?_) ?_
     ·refine zEc rfl (.tmp 60) rfl tk tf tt tx te rfl ?_
      intro p5 g5 hg5 ht5 hb5
      have HX5 : Hid (Below u4.heap.size u4 p5) := hid (HX1.out.trans (hb5.mono HX1.out.size))
      have HT5 := hid ht5
      have HG5 : Hid (u4.heap.size ≤ g5) := hid (by rw [hg5]; exact HX1.out.size)
      have HR5 := hid (HR1.out.keep hb5 (Nat.le_refl _))
      have HN5 : Hid (g5 ≠ g1) := hid (by have := HL1.out; omega)
      clear hg5 ht5 hb5
      refine hK.out _ _ (HKS.out _ HX5.out) (fun hHeld => ?_)
      clear hK K
      try simp only [Act.put, aS, aZ, aC]
      refine zR [5] ?_
      refine hDo rfl (fun K hK => ?_) ?_
      ·refine zBU rfl (.tmp 51) (.tmp 55) rfl u4.heap.size (some ⟨g1, 0, none⟩) 0 0 [] rfl HR5.out la j 6 ((toks lW1).take j) rfl ((zA3 HTA.out (show j ≤ 6 by omega)).2 _ (HTA.out.below HX5.out)) (by omega) HX5.out.size ?_
       intro a6 c6 p6 ho6 hg6 hb6
       rw [Nat.zero_add] at ho6 ⊢
       rw [List.nil_append] at ho6
       have HX6 : Hid (Below u4.heap.size u4 p6) := hid (HX5.out.trans hb6)
       have HR6 := hid ho6
       have HO6 := hid (HT5.out.grown hg6 HN5.out)
       clear ho6 hg6 hb6
       refine hK.out _ _ (HKS.out _ HX6.out) (fun hHeld => ?_)
       clear hK K
       try simp only [Act.put, aS, aZ, aC]
       refine zR [11] ?_
       refine hDo rfl (fun K hK => ?_) ?_
       ·refine zBU rfl (.tmp 56) (.tmp 61) rfl u4.heap.size a6 j c6 ((toks lW1).take j) rfl HR6.out (some ⟨g5, 0, none⟩) 1 1 [⟨tk, tf, tt, mk tx, te⟩] rfl (HO6.out.own HG5.out).ts (by omega) HX6.out.size ?_
        intro a7 c7 p7 ho7 hg7 hb7
        have HX7 : Hid (Below u4.heap.size u4 p7) := hid (HX6.out.trans hb7)
        have HR7 := hid ho7.ts
        clear ho7 hg7 hb7
        refine hK.out _ _ (HKS.out _ HX7.out) (fun hHeld => ?_)
        clear hK K
        try simp only [Act.put, aS, aZ, aC]
        refine zG 12 rfl ?_
        try simp only [Act.put, aS, aZ, aC]
        refine wpAnyH_done (by kernel_rfl) ?_ _
        refine NoPanic.normal ?_
        go_wp2
        go_meet
        exact ⟨a7, c7, rfl, hid (by rw [HOD.out]; exact HR7.out), HX7⟩
       exact AllReadyH.nil
      exact AllReadyH.nil
     exact AllReadyH.nil
    refine hDo rfl (fun K hK => ?_) ?_
    ·refine zEc rfl (.tmp 60) rfl tk tf tt tx te rfl ?_
     intro p8 g8 hg8 ht8 hb8
     have HX8 : Hid (Below u4.heap.size u4 p8) := hid ((Below.refl u4.heap.size u4).drew.trans (hb8.mono (Below.refl u4.heap.size u4).drew.size))
     have HT8 := hid ht8
     have HG8 : Hid (u4.heap.size ≤ g8) := hid (by rw [hg8]; exact (Below.refl u4.heap.size u4).drew.size)
     clear hg8 ht8 hb8
     refine hK.out _ _ (HKS.out _ HX8.out) (fun hHeld => ?_)
     clear hK K
     try simp only [Act.put, aS, aZ, aC]
     refine zR [0] ?_
     refine hDo rfl (fun K hK => ?_) ?_
     ·refine zE7 rfl rfl ?_
      intro p9 g9 hg9 hl9 ho9 hb9
      have HX9 : Hid (Below u4.heap.size u4 p9) := hid (HX8.out.trans (hb9.mono HX8.out.size))
      have HR9 := hid (ho9 u4.heap.size (by rw [hg9]; exact HX8.out.size))
      have HL9 := hid hl9
      have HO9 := hid (HT8.out.below hb9)
      have HN9 : Hid (g8 ≠ g9) := hid (by have := (Array.getElem?_eq_some_iff.1 HT8.out).1; omega)
      clear hg9 hl9 ho9 hb9
      refine hK.out _ _ (HKS.out _ HX9.out) (fun hHeld => ?_)
      clear hK K
      try simp only [Act.put, aS, aZ, aC]
      refine zR [5] ?_
      refine hDo rfl (fun K hK => ?_) ?_
      ·refine zBU rfl (.tmp 51) (.tmp 55) rfl u4.heap.size (some ⟨g9, 0, none⟩) 0 0 [] rfl HR9.out la j 6 ((toks lW1).take j) rfl ((zA3 HTA.out (show j ≤ 6 by omega)).2 _ (HTA.out.below HX9.out)) (by omega) HX9.out.size ?_
       intro a10 c10 p10 ho10 hg10 hb10
       rw [Nat.zero_add] at ho10 ⊢
       rw [List.nil_append] at ho10
       have HX10 : Hid (Below u4.heap.size u4 p10) := hid (HX9.out.trans hb10)
       have HR10 := hid ho10
       have HO10 := hid (HO9.out.grown hg10 HN9.out)
       clear ho10 hg10 hb10
       refine hK.out _ _ (HKS.out _ HX10.out) (fun hHeld => ?_)
       clear hK K
       try simp only [Act.put, aS, aZ, aC]
       refine zR [11] ?_
       refine hDo rfl (fun K hK => ?_) ?_
       ·refine zBU rfl (.tmp 56) (.tmp 61) rfl u4.heap.size a10 j c10 ((toks lW1).take j) rfl HR10.out (some ⟨g8, 0, none⟩) 1 1 [⟨tk, tf, tt, mk tx, te⟩] rfl (HO10.out.own HG8.out).ts (by omega) HX10.out.size ?_
        intro a11 c11 p11 ho11 hg11 hb11
        have HX11 : Hid (Below u4.heap.size u4 p11) := hid (HX10.out.trans hb11)
        have HR11 := hid ho11.ts
        clear ho11 hg11 hb11
        refine hK.out _ _ (HKS.out _ HX11.out) (fun hHeld => ?_)
        clear hK K
        try simp only [Act.put, aS, aZ, aC]
        refine zG 12 rfl ?_
        try simp only [Act.put, aS, aZ, aC]
        refine wpAnyH_done (by kernel_rfl) ?_ _
        refine NoPanic.normal ?_
        go_wp2
        go_meet
        exact ⟨a11, c11, rfl, hid (by rw [HOD.out]; exact HR11.out), HX11⟩
       exact AllReadyH.nil
      exact AllReadyH.nil
     exact AllReadyH.nil
    exact AllReadyH.nil
   case rest =>
    obtain ⟨a5, c5, rfl, HT5, HB5⟩ := hcut
    obtain ⟨u5, hu5⟩ : ∃ q, q = wc := ⟨_, rfl⟩
    rw [← hu5] at HT5 HB5 ⊢
    clear hu5
    have HW5 : Hid (Below w.heap.size w u5) := hid (HW4.out.trans (HB5.out.mono HW4.out.size))
    have HE5 := hid (HE4.out.below HB5.out)
    obtain ⟨v, hv⟩ : ∃ v, v = (if goesW (j + 1) m = true then j + 1 else j) := ⟨_, rfl⟩
    have HLW : Hid (LonP [oE] zS (oddW j m) v) := hid (by rw [hv]; exact lonW hj6 hm)
    have HCA := hid (zAY zS rfl zEU ea1 1 ec1 [oE] a5 (j + 1) c5 (oddW j m) u5 (HT.out.keep HW5.out) (HO4.out.below HB5.out) zM6 (by decide) zQW zQX HT5.out (by omega))
    have HV := hid hv
    clear hv HKS HOD HT5 HB5 HW4 HE4 HO4 HTA HTB hsl hm5 hm5' hm5I hjI hj64 hj65 hj0 hm0 hkb hk hk0
    subst hjk
    rcases (show j = 0 ∨ j = 1 ∨ j = 2 ∨ j = 3 ∨ j = 4 ∨ j = 5 by omega) with rfl | rfl | rfl | rfl | rfl | rfl <;>
    rcases (show m = 0 ∨ m = 1 ∨ m = 2 ∨ m = 3 ∨ m = 4 by omega) with rfl | rfl | rfl | rfl | rfl <;>
    (
     clear hj6 hm
     have hv := HV.out
     simp [goesW] at hv
     subst hv
     clear HV
     go_wp2_with (refine zAS rfl (.tmp 6) rfl E1 rfl ea1 1 ec1 zS rfl HE5.out ?_)
     refine HCA.out.mono ?_
     rintro e u6 ⟨n6, rfl, hc6, hb6⟩
     obtain rfl := zBF hc6 HLW.out
     have HW6 : Hid (Below w.heap.size w u6) := hid (HW5.out.trans (hb6.mono HW5.out.size))
     clear hc6 hb6
     go_wp2
     go_ret
     exact ⟨rfl, HW6.out⟩)
 ·exact AllReadyH.nil
end Go.Proofs.YtcjbhdgjcpnklaaGreatDoor
