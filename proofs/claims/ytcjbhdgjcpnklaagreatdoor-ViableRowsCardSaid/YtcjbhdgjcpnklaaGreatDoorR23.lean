import Derived.Test.YtcjbhdgjcpnklaaGreatDoorV18
import Derived.Test.YtcjbhdgjcpnklaaGreatDoorR12
import Derived.Test.YtcjbhdgjcpnklaaGreatDoorR13
import Derived.Test.YtcjbhdgjcpnklaaGreatDoorR22
namespace Go.Proofs.YtcjbhdgjcpnklaaGreatDoor
section
open Go.RowKit
section
variable {L : List OP} {z : List Int} {tok : List TK}
theorem zP2 (hz : RowsOk z) (hS : Srt L) {m : Nat} (hm : m ≤ tok.length) : VL L z tok m ↔ goB L z tok (tabC L z tok tok.length) m m 0 none = true := by
 rw [zPz hz (zEP hS) hm (zP0 hS) (Nat.zero_le _) (Nat.sub_le _ _), zQQ]
end
def lonG (L : List OP) (z : List Int) (tok : List TK) (n : Nat) : Bool :=
 decide (n ≤ tok.length) && goB L z tok (tabC L z tok tok.length) n n 0 none && (decide (tok.length ≤ n) || !goB L z tok (tabC L z tok tok.length) (n + 1) (n + 1) 0 none)
theorem zEZ {L : List OP} {z : List Int} {tok : List TK} {n : Nat} (hz : RowsOk z) (hS : Srt L) (h : lonG L z tok n = true) : LonP L z tok n := by
 unfold lonG at h
 simp only [Bool.and_eq_true, Bool.or_eq_true, decide_eq_true_eq, Bool.not_eq_true'] at h
 obtain ⟨⟨h1, h2⟩, h3⟩ := h
 refine zIg h1 ((zP2 hz hS h1).2 h2) fun hn hv => ?_
 rcases h3 with h3 | h3
 ·omega
 ·rw [(zP2 hz hS hn).1 hv] at h3
  cases h3
theorem zPB {L : List OP} {z : List Int} {tok : List TK} {i m : Nat} (hm : m ≤ i) : VL L z (tok.take i) m ↔ VL L z tok m := by
 unfold VL
 rw [List.take_take, Nat.min_eq_left hm]
theorem zC3 {L : List OP} {z : List Int} {tok : List TK} {n i : Nat} (hi : i ≤ tok.length) (h : LonP L z tok n) : LonP L z (tok.take i) (min i n) := by
 have e : (tok.take i).length = i := by rw [List.length_take]; omega
 refine ⟨by rw [e]; omega, fun m hm => ?_⟩
 rw [e] at hm
 rw [zPB hm, h.2 m (by omega)]
 omega
def oJ : OP := (pIf, 5, 0)
def lV1 : List Int := [97, 32, 43, 32, 41, 32, 98]
def lV2 : List Int := [97, 32, 98]
def lV3 : List Int := [105, 102, 32, 97]
theorem tokV1 : (toks lV1).length = 4 := by decide +kernel
theorem tokV2 : (toks lV2).length = 2 := by decide +kernel
theorem tokV3 : (toks lV3).length = 2 := by decide +kernel
theorem addV1 : addR [] oN = [oN] ∧ addZ [] zS oN = zS ∧ addE [] oN = 0 := by decide +kernel
theorem addV2 : addR [oN] oJ = [oN, oJ] ∧ addZ [oN] zS oJ = zS ∧ addE [oN] oJ = 0 := by decide +kernel
theorem zE6 : Srt [oN, oJ] := by
 unfold Srt
 rw [List.pairwise_cons]
 exact ⟨by simp; decide, by simp⟩
theorem zPC : ∀ o ∈ [oN, oJ], ∃ s, ofS o.1 = some s := by
 have h : ∀ o ∈ [oN, oJ], (ofS o.1).isSome = true := by decide +kernel
 exact fun o ho => Option.isSome_iff_exists.1 (h o ho)
theorem zPD : ∀ o ∈ [oN, oJ], o.1.length ≤ 1000000 := by decide +kernel
theorem lonV1 : LonP [oN, oJ] zS (toks lV1) 2 := zEZ zBm zE6 (by decide +kernel)
theorem lonV2 : LonP [oN, oJ] zS (toks lV2) 1 := zEZ zBm zE6 (by decide +kernel)
theorem lonV3 : LonP [oN, oJ] zS (toks lV3) 2 := zEZ zBm zE6 (by decide +kernel)
end
section
open Go.RowKit
theorem zGr (w : World) : OpS w none 0 0 [] := ⟨rfl, Nat.le_refl _, by unfold maxLen; omega, fun h => absurd h (by omega)⟩
theorem zPE (w : World) : (Instr.buildSlice 59 7 #[(0, .int .u8 97), (1, .int .u8 32), (2, .int .u8 43), (3, .int .u8 32), (4, .int .u8 41), (5, .int .u8 32), (6, .int .u8 98)]).run Tryz.prog w = .ok (.slice (some ⟨w.heap.size, 0, none⟩) 7 7) (w.alloc (.cells #[.int .u8 97, .int .u8 32, .int .u8 43, .int .u8 32, .int .u8 41, .int .u8 32, .int .u8 98] 5)) := by kernel_rfl
theorem zM0 {ops : Array Oper} {o : Oper} {A : Act} {w : World} {K : Act → World → Prop} {Q : Exit → Act → World → Prop} {E : Prop} (hgd : Region.wanted o (yielded ops A.tmps) = true) (ho : o.op = .buildSlice 59 7 #[(0, .const (.int .u8 97)), (1, .const (.int .u8 32)), (2, .const (.int .u8 43)), (3, .const (.int .u8 32)), (4, .const (.int .u8 41)), (5, .const (.int .u8 32)), (6, .const (.int .u8 98))])
  (k : ∀ w' X, X = w.heap.size → w' = w.alloc (.cells #[.int .u8 97, .int .u8 32, .int .u8 43, .int .u8 32, .int .u8 41, .int .u8 32, .int .u8 98] 5) → K (A.put o.dst (.slice (some ⟨X, 0, none⟩) 7 7)) w') : if Region.wanted o (yielded ops A.tmps) = true then o.wp Tryz.prog A w K Q else E := by
 rw [if_pos hgd]
 have h := k _ w.heap.size rfl rfl
 have hr := zPE w
 unfold Oper.wp execOp
 simp only [ho, List.map_toArray, List.map_cons, List.map_nil, Act.eval, hr, Sem.run_bind, Result.andThen_ok, Sem.run_pure]
 exact h
theorem zM1 {ops : Array Oper} {o : Oper} {A : Act} {w w0 : World} {X : Nat} {K : Act → World → Prop} {Q : Exit → Act → World → Prop} {E : Prop} (hX : X = w0.heap.size) (hw : w = w0.alloc (.cells #[.int .u8 97, .int .u8 32, .int .u8 43, .int .u8 32, .int .u8 41, .int .u8 32, .int .u8 98] 5)) (hgd : Region.wanted o (yielded ops A.tmps) = true) (x : Operand) (ho : o.op = .convert 59 59 x) (hx : A.eval x = .slice (some ⟨X, 0, none⟩) 7 7)
  (k : ∀ w', Bs w' (some ⟨X, 0, none⟩) 7 7 lV1 → Below w0.heap.size w0 w' → K (A.put o.dst (.slice (some ⟨X, 0, none⟩) 7 7)) w') : if Region.wanted o (yielded ops A.tmps) = true then o.wp Tryz.prog A w K Q else E := by
 rw [if_pos hgd]
 subst hX
 subst hw
 have h := k _ (Bs.lit (l := lV1) (cs := #[.int .u8 97, .int .u8 32, .int .u8 43, .int .u8 32, .int .u8 41, .int .u8 32, .int .u8 98]) (mk := (7, 8)) w0 5 rfl (by decide) (g := w0.heap.size) (n := 7) rfl rfl (by decide)) (zAA w0 _)
 have hr := Joins.run_convert_bytes_const_at (P := Tryz.prog) w0 59 5 #[.int .u8 97, .int .u8 32, .int .u8 43, .int .u8 32, .int .u8 41, .int .u8 32, .int .u8 98] 7 7 w0.heap.size rfl Tryz.underlying59 Tryz.underlying5
 unfold Oper.wp execOp
 simp only [ho, hx, hr, Sem.run_bind, Result.andThen_ok, Sem.run_pure]
 exact h
theorem zPF (w : World) : (Instr.buildSlice 59 3 #[(0, .int .u8 97), (1, .int .u8 32), (2, .int .u8 98)]).run Tryz.prog w = .ok (.slice (some ⟨w.heap.size, 0, none⟩) 3 3) (w.alloc (.cells #[.int .u8 97, .int .u8 32, .int .u8 98] 5)) := by kernel_rfl
theorem zM2 {ops : Array Oper} {o : Oper} {A : Act} {w : World} {K : Act → World → Prop} {Q : Exit → Act → World → Prop} {E : Prop} (hgd : Region.wanted o (yielded ops A.tmps) = true) (ho : o.op = .buildSlice 59 3 #[(0, .const (.int .u8 97)), (1, .const (.int .u8 32)), (2, .const (.int .u8 98))])
  (k : ∀ w' X, X = w.heap.size → w' = w.alloc (.cells #[.int .u8 97, .int .u8 32, .int .u8 98] 5) → K (A.put o.dst (.slice (some ⟨X, 0, none⟩) 3 3)) w') : if Region.wanted o (yielded ops A.tmps) = true then o.wp Tryz.prog A w K Q else E := by
 rw [if_pos hgd]
 have h := k _ w.heap.size rfl rfl
 have hr := zPF w
 unfold Oper.wp execOp
 simp only [ho, List.map_toArray, List.map_cons, List.map_nil, Act.eval, hr, Sem.run_bind, Result.andThen_ok, Sem.run_pure]
 exact h
theorem zM3 {ops : Array Oper} {o : Oper} {A : Act} {w w0 : World} {X : Nat} {K : Act → World → Prop} {Q : Exit → Act → World → Prop} {E : Prop} (hX : X = w0.heap.size) (hw : w = w0.alloc (.cells #[.int .u8 97, .int .u8 32, .int .u8 98] 5)) (hgd : Region.wanted o (yielded ops A.tmps) = true) (x : Operand) (ho : o.op = .convert 59 59 x) (hx : A.eval x = .slice (some ⟨X, 0, none⟩) 3 3)
  (k : ∀ w', Bs w' (some ⟨X, 0, none⟩) 3 3 lV2 → Below w0.heap.size w0 w' → K (A.put o.dst (.slice (some ⟨X, 0, none⟩) 3 3)) w') : if Region.wanted o (yielded ops A.tmps) = true then o.wp Tryz.prog A w K Q else E := by
 rw [if_pos hgd]
 subst hX
 subst hw
 have h := k _ (Bs.lit (l := lV2) (cs := #[.int .u8 97, .int .u8 32, .int .u8 98]) (mk := (3, 4)) w0 5 rfl (by decide) (g := w0.heap.size) (n := 3) rfl rfl (by decide)) (zAA w0 _)
 have hr := Joins.run_convert_bytes_const_at (P := Tryz.prog) w0 59 5 #[.int .u8 97, .int .u8 32, .int .u8 98] 3 3 w0.heap.size rfl Tryz.underlying59 Tryz.underlying5
 unfold Oper.wp execOp
 simp only [ho, hx, hr, Sem.run_bind, Result.andThen_ok, Sem.run_pure]
 exact h
theorem zPG (w : World) : (Instr.buildSlice 59 4 #[(0, .int .u8 105), (1, .int .u8 102), (2, .int .u8 32), (3, .int .u8 97)]).run Tryz.prog w = .ok (.slice (some ⟨w.heap.size, 0, none⟩) 4 4) (w.alloc (.cells #[.int .u8 105, .int .u8 102, .int .u8 32, .int .u8 97] 5)) := by kernel_rfl
theorem zM4 {ops : Array Oper} {o : Oper} {A : Act} {w : World} {K : Act → World → Prop} {Q : Exit → Act → World → Prop} {E : Prop} (hgd : Region.wanted o (yielded ops A.tmps) = true) (ho : o.op = .buildSlice 59 4 #[(0, .const (.int .u8 105)), (1, .const (.int .u8 102)), (2, .const (.int .u8 32)), (3, .const (.int .u8 97))])
  (k : ∀ w' X, X = w.heap.size → w' = w.alloc (.cells #[.int .u8 105, .int .u8 102, .int .u8 32, .int .u8 97] 5) → K (A.put o.dst (.slice (some ⟨X, 0, none⟩) 4 4)) w') : if Region.wanted o (yielded ops A.tmps) = true then o.wp Tryz.prog A w K Q else E := by
 rw [if_pos hgd]
 have h := k _ w.heap.size rfl rfl
 have hr := zPG w
 unfold Oper.wp execOp
 simp only [ho, List.map_toArray, List.map_cons, List.map_nil, Act.eval, hr, Sem.run_bind, Result.andThen_ok, Sem.run_pure]
 exact h
theorem zM5 {ops : Array Oper} {o : Oper} {A : Act} {w w0 : World} {X : Nat} {K : Act → World → Prop} {Q : Exit → Act → World → Prop} {E : Prop} (hX : X = w0.heap.size) (hw : w = w0.alloc (.cells #[.int .u8 105, .int .u8 102, .int .u8 32, .int .u8 97] 5)) (hgd : Region.wanted o (yielded ops A.tmps) = true) (x : Operand) (ho : o.op = .convert 59 59 x) (hx : A.eval x = .slice (some ⟨X, 0, none⟩) 4 4)
  (k : ∀ w', Bs w' (some ⟨X, 0, none⟩) 4 4 lV3 → Below w0.heap.size w0 w' → K (A.put o.dst (.slice (some ⟨X, 0, none⟩) 4 4)) w') : if Region.wanted o (yielded ops A.tmps) = true then o.wp Tryz.prog A w K Q else E := by
 rw [if_pos hgd]
 subst hX
 subst hw
 have h := k _ (Bs.lit (l := lV3) (cs := #[.int .u8 105, .int .u8 102, .int .u8 32, .int .u8 97]) (mk := (4, 5)) w0 5 rfl (by decide) (g := w0.heap.size) (n := 4) rfl rfl (by decide)) (zAA w0 _)
 have hr := Joins.run_convert_bytes_const_at (P := Tryz.prog) w0 59 5 #[.int .u8 105, .int .u8 102, .int .u8 32, .int .u8 97] 4 4 w0.heap.size rfl Tryz.underlying59 Tryz.underlying5
 unfold Oper.wp execOp
 simp only [ho, hx, hr, Sem.run_bind, Result.andThen_ok, Sem.run_pure]
 exact h
set_option maxRecDepth 100000 in
set_option maxHeartbeats 32000000 in
theorem zCT (w : World) (ht : Tab w) : Calls Tryz.prog 18 #[] w fun e w' => e = .returned (.bool true) ∧ Below w.heap.size w w' := by
 have HT := hid ht
 clear ht
 go_enter Tryz.func18, Tryz.ntmps18
 go_wp2_with fail
 refine (zKW w).mono ?_
 rintro e w1 ⟨rfl, hb1⟩
 have HB1 := hid hb1
 clear hb1
 go_wp2_with fail
 refine (zHI none 0 0 [] zS oN w1 (HT.out.keep HB1.out) (zGr w1) rfl (by decide) (by decide)).mono ?_
 rintro e wB ⟨ea1, em, ec1, rfl, ho, hb⟩
 rw [addV1.1] at ho
 rw [addV1.2.1, addV1.2.2]
 obtain rfl : em = 1 := (OpS.len ho.vs).symm
 have HBB : Hid (Below w.heap.size w wB) := hid (HB1.out.trans (hb.mono HB1.out.size))
 obtain ⟨E1, hE⟩ : ∃ q, q = wB.heap.size := ⟨_, rfl⟩
 have HEE := hid hE
 have HOB : Hid (OpS wB ea1 1 ec1 [oN]) := hid ho.vs
 have hnew : EB (wB.alloc (.cells #[.slice none 0 0, .int .i64 0, .int .i64 0, .int .i64 0, .int .i64 0, .int .i64 0, .int .i64 0, .int .i64 0, .int .i64 0, .int .i64 0, .int .i64 0] 34)) E1 none 0 0 z0 := by rw [hE]; exact EB.new wB none 0 0 z0
 have HNEW := hid hnew
 clear ho hb hE hnew HB1
 go_wp2_with (first | (refine zAS rfl (.tmp 1) rfl E1 rfl ea1 1 ec1 zS rfl HE1.out ?_) | (refine zAD rfl (.tmp 1) (.tmp 9) rfl E1 (by rw [HEE.out]; rfl) ea1 1 ec1 zS rfl rfl none 0 0 z0 zAF HNEW.out ?_; rw [← HEE.out]; intro v1 h3 ho3; have HE1 := hid h3; have HB3 : Hid (Below wB.heap.size wB v1) := hid ((zAA wB _).trans (ho3.below (by rw [HEE.out]; exact Nat.le_refl _))); clear h3 ho3))
 have HW1 : Hid (Below w.heap.size w v1) := hid (HBB.out.trans (HB3.out.mono HBB.out.size))
 have HO1 : Hid (OpS v1 ea1 1 ec1 [oN]) := hid (HOB.out.below HB3.out)
 clear HNEW HEE HBB HOB HB3
 refine (zHI ea1 1 ec1 [oN] zS oJ v1 (HT.out.keep HW1.out) HO1.out rfl (by decide) (by decide)).mono ?_
 rintro e wB ⟨ea2, em, ec2, rfl, ho, hb⟩
 rw [addV2.1] at ho
 rw [addV2.2.1, addV2.2.2]
 obtain rfl : em = 2 := (OpS.len ho.vs).symm
 have HBB : Hid (Below w.heap.size w wB) := hid (HW1.out.trans (hb.mono HW1.out.size))
 obtain ⟨E2, hE⟩ : ∃ q, q = wB.heap.size := ⟨_, rfl⟩
 have HEE := hid hE
 have HOB : Hid (OpS wB ea2 2 ec2 [oN, oJ]) := hid ho.vs
 have hnew : EB (wB.alloc (.cells #[.slice none 0 0, .int .i64 0, .int .i64 0, .int .i64 0, .int .i64 0, .int .i64 0, .int .i64 0, .int .i64 0, .int .i64 0, .int .i64 0, .int .i64 0] 34)) E2 none 0 0 z0 := by rw [hE]; exact EB.new wB none 0 0 z0
 have HNEW := hid hnew
 clear ho hb hE hnew
 go_wp2_with (refine zAD rfl (.tmp 3) (.tmp 15) rfl E2 (by rw [HEE.out]; rfl) ea2 2 ec2 zS rfl rfl none 0 0 z0 zAF HNEW.out ?_; rw [← HEE.out]; intro v2 h3 ho3; have HE2 := hid h3; have HB3 : Hid (Below wB.heap.size wB v2) := hid ((zAA wB _).trans (ho3.below (by rw [HEE.out]; exact Nat.le_refl _))); clear h3 ho3)
 have HW2 : Hid (Below w.heap.size w v2) := hid (HBB.out.trans (HB3.out.mono HBB.out.size))
 have HO2 : Hid (OpS v2 ea2 2 ec2 [oN, oJ]) := hid (HOB.out.below HB3.out)
 clear HNEW HEE HBB HOB HB3 HW1 HO1 HE1
 go_upto_region 3 with fail
 refine wp_region_noPanic ?_
 refine wp_region_held_drew (S := fun w' => EB w' E2 ea2 2 ec2 zS) (by kernel_rfl) (HE2.out.below (Below.refl _ _).drew) (fun hHeld => ?_)
 refine zT 0 (v := .agg (ev ea2 2 ec2 zS)) rfl (fun w0 h0 => zBc zKz (.tmp 3) E2 rfl (ev ea2 2 ec2 zS) (zA7 rfl) h0) ?_
 try simp only [Act.put, aS, aZ, aC]
 refine zR [1] ?_
 refine hDo rfl (fun K hK => ?_) ?_
 ·refine zM0 (by rfl) rfl ?_
  intro u1 X1 hX1 hu1
  have HU1 := hid hu1
  have HX1 := hid hX1
  have HV1 : Hid (Below v2.heap.size v2 u1) := hid (by rw [hu1]; exact ((Below.refl _ _).drew).alloc (Nat.le_refl _) _)
  clear hu1 hX1
  refine hK.out _ _ (HE2.out.below HV1.out) (fun hHeld => ?_)
  clear hK K
  try simp only [Act.put, aS, aZ, aC]
  refine zR [2] ?_
  refine hDo rfl (fun K hK => ?_) ?_
  ·refine zM1 HX1.out HU1.out (by rfl) (.tmp 18) rfl rfl ?_
   intro u2 hs2 hv2
   have HS2 := hid hs2
   have HV2 : Hid (Below v2.heap.size v2 u2) := hid (((Below.refl _ _).drew).trans (hv2.mono (Nat.le_refl _)))
   clear hs2 hv2 HU1 HX1 HV1
   refine hK.out _ _ (HE2.out.below HV2.out) (fun hHeld => ?_)
   clear hK K
   try simp only [Act.put, aS, aZ, aC]
   refine zR [3] ?_
   refine hDo rfl (fun K hK => ?_) ?_
   ·go_simp
    (go_at_call 24; (with_reducible refine (zDA _ 7 7 lV1 _ HS2.out (HT.out.keep (HW2.out.trans (HV2.out.mono HW2.out.size))) (by decide)).mono ?_); rw [tokV1]; rintro e u3 ⟨la3, rfl, hrow, hb⟩)
    have HV3 : Hid (Below v2.heap.size v2 u3) := hid (HV2.out.trans (hb.mono HV2.out.size))
    have HTS3 : Hid (Ts u3 la3 4 4 (toks lV1)) := hid hrow.ts
    clear hrow hb HV2 HS2
    refine hK.out _ _ (HE2.out.below HV3.out) (fun hHeld => ?_)
    clear hK K
    try simp only [Act.put, aS, aZ, aC]
    refine zR [4] ?_
    refine hDo rfl (fun K hK => ?_) ?_
    ·go_simp
     (go_at_call 20; (with_reducible refine (zAY zS rfl zEU ea2 2 ec2 [oN, oJ] la3 4 4 (toks lV1) _ (HT.out.keep (HW2.out.trans (HV3.out.mono HW2.out.size))) (HO2.out.below HV3.out) zE6 (by decide) zPC zPD HTS3.out (by decide)).mono ?_); rintro e u4 ⟨n4, rfl, hc, hb⟩)
     obtain rfl := zBF hc lonV1
     have HV4 : Hid (Below v2.heap.size v2 u4) := hid (HV3.out.trans (hb.mono HV3.out.size))
     clear hc hb HV3 HTS3
     refine hK.out _ _ (HE2.out.below HV4.out) (fun hHeld => ?_)
     clear hK K
     try simp only [Act.put, aS, aZ, aC]
     refine zG 5 rfl ?_
     try simp only [Act.put, aS, aZ, aC]
     refine zG 6 rfl ?_
     try simp only [Act.put, aS, aZ, aC]
     refine zT 7 (v := .agg (ev ea2 2 ec2 zS)) rfl (fun w0 h0 => zBc zKz (.tmp 3) E2 rfl (ev ea2 2 ec2 zS) (zA7 rfl) h0) ?_
     try simp only [Act.put, aS, aZ, aC]
     refine zR [8] ?_
     refine hDo rfl (fun K hK => ?_) ?_
     ·refine zM2 (by rfl) rfl ?_
      intro u8 X8 hX8 hu8
      have HU8 := hid hu8
      have HX8 := hid hX8
      have HV8 : Hid (Below v2.heap.size v2 u8) := hid (by rw [hu8]; exact (HV4.out).alloc (HV4.out.size) _)
      clear hu8 hX8
      refine hK.out _ _ (HE2.out.below HV8.out) (fun hHeld => ?_)
      clear hK K
      try simp only [Act.put, aS, aZ, aC]
      refine zR [9] ?_
      refine hDo rfl (fun K hK => ?_) ?_
      ·refine zM3 HX8.out HU8.out (by rfl) (.tmp 25) rfl rfl ?_
       intro u9 hs9 hv9
       have HS9 := hid hs9
       have HV9 : Hid (Below v2.heap.size v2 u9) := hid ((HV4.out).trans (hv9.mono (HV4.out.size)))
       clear hs9 hv9 HU8 HX8 HV8
       refine hK.out _ _ (HE2.out.below HV9.out) (fun hHeld => ?_)
       clear hK K
       try simp only [Act.put, aS, aZ, aC]
       refine zR [10] ?_
       refine hDo rfl (fun K hK => ?_) ?_
       ·go_simp
        (go_at_call 24; (with_reducible refine (zDA _ 3 3 lV2 _ HS9.out (HT.out.keep (HW2.out.trans (HV9.out.mono HW2.out.size))) (by decide)).mono ?_); rw [tokV2]; rintro e u10 ⟨la10, rfl, hrow, hb⟩)
        have HV10 : Hid (Below v2.heap.size v2 u10) := hid (HV9.out.trans (hb.mono HV9.out.size))
        have HTS10 : Hid (Ts u10 la10 2 2 (toks lV2)) := hid hrow.ts
        clear hrow hb HV9 HS9
        refine hK.out _ _ (HE2.out.below HV10.out) (fun hHeld => ?_)
        clear hK K
        try simp only [Act.put, aS, aZ, aC]
        refine zR [11] ?_
        refine hDo rfl (fun K hK => ?_) ?_
        ·go_simp
         (go_at_call 20; (with_reducible refine (zAY zS rfl zEU ea2 2 ec2 [oN, oJ] la10 2 2 (toks lV2) _ (HT.out.keep (HW2.out.trans (HV10.out.mono HW2.out.size))) (HO2.out.below HV10.out) zE6 (by decide) zPC zPD HTS10.out (by decide)).mono ?_); rintro e u11 ⟨n11, rfl, hc, hb⟩)
         obtain rfl := zBF hc lonV2
         have HV11 : Hid (Below v2.heap.size v2 u11) := hid (HV10.out.trans (hb.mono HV10.out.size))
         clear hc hb HV10 HTS10
         refine hK.out _ _ (HE2.out.below HV11.out) (fun hHeld => ?_)
         clear hK K
         try simp only [Act.put, aS, aZ, aC]
         refine zG 12 rfl ?_
         try simp only [Act.put, aS, aZ, aC]
         refine zG 13 rfl ?_
         try simp only [Act.put, aS, aZ, aC]
         refine zG 14 rfl ?_
         try simp only [Act.put, aS, aZ, aC]
         refine zT 15 (v := .agg (ev ea2 2 ec2 zS)) rfl (fun w0 h0 => zBc zKz (.tmp 3) E2 rfl (ev ea2 2 ec2 zS) (zA7 rfl) h0) ?_
         try simp only [Act.put, aS, aZ, aC]
         refine zR [16] ?_
         refine hDo rfl (fun K hK => ?_) ?_
         ·refine zM4 (by rfl) rfl ?_
          intro u16 X16 hX16 hu16
          have HU16 := hid hu16
          have HX16 := hid hX16
          have HV16 : Hid (Below v2.heap.size v2 u16) := hid (by rw [hu16]; exact (HV11.out).alloc (HV11.out.size) _)
          clear hu16 hX16
          refine hK.out _ _ (HE2.out.below HV16.out) (fun hHeld => ?_)
          clear hK K
          try simp only [Act.put, aS, aZ, aC]
          refine zR [17] ?_
          refine hDo rfl (fun K hK => ?_) ?_
          ·refine zM5 HX16.out HU16.out (by rfl) (.tmp 33) rfl rfl ?_
           intro u17 hs17 hv17
           have HS17 := hid hs17
           have HV17 : Hid (Below v2.heap.size v2 u17) := hid ((HV11.out).trans (hv17.mono (HV11.out.size)))
           clear hs17 hv17 HU16 HX16 HV16
           refine hK.out _ _ (HE2.out.below HV17.out) (fun hHeld => ?_)
           clear hK K
           try simp only [Act.put, aS, aZ, aC]
           refine zR [18] ?_
           refine hDo rfl (fun K hK => ?_) ?_
           ·go_simp
            (go_at_call 24; (with_reducible refine (zDA _ 4 4 lV3 _ HS17.out (HT.out.keep (HW2.out.trans (HV17.out.mono HW2.out.size))) (by decide)).mono ?_); rw [tokV3]; rintro e u18 ⟨la18, rfl, hrow, hb⟩)
            have HV18 : Hid (Below v2.heap.size v2 u18) := hid (HV17.out.trans (hb.mono HV17.out.size))
            have HTS18 : Hid (Ts u18 la18 2 2 (toks lV3)) := hid hrow.ts
            clear hrow hb HV17 HS17
            refine hK.out _ _ (HE2.out.below HV18.out) (fun hHeld => ?_)
            clear hK K
            try simp only [Act.put, aS, aZ, aC]
            refine zR [19] ?_
            refine hDo rfl (fun K hK => ?_) ?_
            ·go_simp
             (go_at_call 20; (with_reducible refine (zAY zS rfl zEU ea2 2 ec2 [oN, oJ] la18 2 2 (toks lV3) _ (HT.out.keep (HW2.out.trans (HV18.out.mono HW2.out.size))) (HO2.out.below HV18.out) zE6 (by decide) zPC zPD HTS18.out (by decide)).mono ?_); rintro e u19 ⟨n19, rfl, hc, hb⟩)
             obtain rfl := zBF hc lonV3
             have HV19 : Hid (Below v2.heap.size v2 u19) := hid (HV18.out.trans (hb.mono HV18.out.size))
             clear hc hb HV18 HTS18
             refine hK.out _ _ (HE2.out.below HV19.out) (fun hHeld => ?_)
             clear hK K
             try simp only [Act.put, aS, aZ, aC]
             refine zG 20 rfl ?_
             try simp only [Act.put, aS, aZ, aC]
             refine zG 21 rfl ?_
             try simp only [Act.put, aS, aZ, aC]
             refine zG 22 rfl ?_
             try simp only [Act.put, aS, aZ]
             refine wpAnyH_done (by kernel_rfl) ?_ _
             refine NoPanic.normal ?_
             go_wp2
             go_ret
             exact ⟨rfl, HW2.out.trans (HV19.out.mono HW2.out.size)⟩
            ·exact AllReadyH.nil
           ·exact AllReadyH.nil
          ·exact AllReadyH.nil
         ·exact AllReadyH.nil
        ·exact AllReadyH.nil
       ·exact AllReadyH.nil
      ·exact AllReadyH.nil
     ·exact AllReadyH.nil
    ·exact AllReadyH.nil
   ·exact AllReadyH.nil
  ·exact AllReadyH.nil
 ·exact AllReadyH.nil
end
section
open Go.RowKit
theorem tok_elemV : Tryz.prog.elem 23 = 51 := by kernel_rfl
theorem zLa : (Tryz.prog.info? 51).map (fun i => (i.zero, i.size, i.bytes)) = some (some (.agg #[.int .i64 0, .int .i64 0, .int .i64 0, .string ByteArray.empty, .int .i64 0]), 5, 48) := by kernel_rfl
theorem zA3 {w : World} {a : Option Addr} {n c k : Nat} {L : List TK} (h : Ts w a n c L) (hk : k ≤ n) : (∀ w0 : World, (Instr.slice 23 (.slice a n c) none (some (.int .i64 k)) none).run Tryz.prog w0 = .ok (.slice a k c) w0) ∧ ∀ w', Ts w' a n c L → Ts w' a k c (L.take k) := by
 have hlc := h.lc
 refine ⟨fun w0 => ?_, fun w' h' => ?_⟩
 ·obtain ⟨i, hi, hz, hs, hby⟩ := info_parts zLa
  have := run_slice_h (P := Tryz.prog) w0 23 a n c (by rw [tok_elemV]; exact Tryz.underlying23) .i64 (k : Int) (by omega) (by omega)
  rw [this, tok_elemV, Int.toNat_natCast]
  cases a with
  | none => simp [sizeOf, typeInfo, hi, hs, Result.andThen, sliced]
  | some ad => by_cases h0 : c = 0 <;> simp [sizeOf, typeInfo, hi, hs, Result.andThen, sliced, h0, Addr.add]
 ·refine ⟨by rw [List.length_take, h'.hl]; omega, Nat.le_trans hk hlc, h'.cm, fun h0 => ?_⟩
  obtain ⟨b, off, ha, hb, hc⟩ := h'.at_ (by omega)
  refine ⟨b, off, ha, hb, fun j hj i hi => ?_⟩
  rw [hc j (by omega) i hi, zCc (by rw [h'.hl]; exact hk) hj]
end
end Go.Proofs.YtcjbhdgjcpnklaaGreatDoor
