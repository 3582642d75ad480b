import Derived.Test.YtlpmelldldjioaaGreatDoorQ54
import Derived.Test.YtlpmelldldjioaaGreatDoorQ22
namespace Go.Proofs.YtlpmelldldjioaaGreatDoor
section
open Go.RowKit
theorem nm_q {g s h t : Int} : ∀ o ∈ [(pPlus, g, s), (pStar, h, t)], o.1.length ≤ 1000000 := fun o ho => by
 rcases List.mem_cons.1 ho with rfl | ho
 ·show pPlus.length ≤ 1000000
  decide
 ·rw [List.mem_singleton.1 ho]
  show pStar.length ≤ 1000000
  decide
theorem nm_q' {g s h t : Int} : ∀ o ∈ [(pStar, h, t), (pPlus, g, s)], o.1.length ≤ 1000000 := fun o ho => nm_q o (by simp only [List.mem_cons, List.not_mem_nil, or_false] at ho ⊢; exact ho.symm)
theorem is_plus : ((mk pPlus).toList == [95, 43, 95]) = true := by decide +kernel
theorem is_star : ((mk pStar).toList == [95, 43, 95]) = false := by decide +kernel
theorem rt_op : RT 51 3 := ⟨⟨_, Tryz.underlying51, rfl⟩, by kernel_rfl⟩
theorem op3_one (s : Nm) (g a : Int) : (#[Value.string (mk s), .int .i64 g, .int .i64 a] : Array Value).all (·.oneCell') = true := by kernel_rfl
theorem store_patn {ops : Array Oper} {rest : List Oper} {o : Oper} {A : Act} {w : World} {Q : Exit → Act → World → Prop} (hgd : o.guard = none) (x y : Operand) (ho : o.op = .store 9 x y)
  (b : Nat) (hx : A.eval x = .pointer (some ⟨b, 0, none⟩)) (p' : Nm) (hy : A.eval y = .string (mk p')) (p : Nm) (g s : Int) (h : D3 w b (p, g, s))
  (k : ∀ w', D3 w' b (p', g, s) → Only b w w' → wpList Tryz.prog ops Q rest (A.put o.dst undef) w') : wpList Tryz.prog ops Q (o :: rest) A w :=
 wpList_store_cell hgd 9 51 x y ho b 0 [.string (mk p), .int .i64 g, .int .i64 s] (.string (mk p')) hx hy str_one rfl h (by simp) rfl fun w' h' ho' => k w' h' ho'
theorem run_lQ (w : World) : (Instr.buildSlice 62 9 #[(0, .int .u8 112), (1, .int .u8 32), (2, .int .u8 43), (3, .int .u8 32), (4, .int .u8 113), (5, .int .u8 32), (6, .int .u8 42), (7, .int .u8 32), (8, .int .u8 114)]).run Tryz.prog w = .ok (.slice (some ⟨w.heap.size, 0, none⟩) 9 9) (w.alloc (.cells #[.int .u8 112, .int .u8 32, .int .u8 43, .int .u8 32, .int .u8 113, .int .u8 32, .int .u8 42, .int .u8 32, .int .u8 114] 5)) := by kernel_rfl
theorem step_lQ {ops : Array Oper} {o : Oper} {A : Act} {w : World} {K : Act → World → Prop} {Q : Exit → Act → World → Prop} {E : Prop} (hgd : o.guard = none) (ho : o.op = .buildSlice 62 9 #[(0, .const (.int .u8 112)), (1, .const (.int .u8 32)), (2, .const (.int .u8 43)), (3, .const (.int .u8 32)), (4, .const (.int .u8 113)), (5, .const (.int .u8 32)), (6, .const (.int .u8 42)), (7, .const (.int .u8 32)), (8, .const (.int .u8 114))])
  (k : ∀ w' X, X = w.heap.size → w' = w.alloc (.cells #[.int .u8 112, .int .u8 32, .int .u8 43, .int .u8 32, .int .u8 113, .int .u8 32, .int .u8 42, .int .u8 32, .int .u8 114] 5) → K (A.put o.dst (.slice (some ⟨X, 0, none⟩) 9 9)) w') : if Region.wanted o (yielded ops A.tmps) = true then o.wp Tryz.prog A w K Q else E := by
 rw [if_pos (show Region.wanted o (yielded ops A.tmps) = true by simp [Region.wanted, hgd])]
 have h := k _ w.heap.size rfl rfl
 have hr := run_lQ w
 unfold Oper.wp execOp
 simp only [ho, List.map_toArray, List.map_cons, List.map_nil, Act.eval, hr, Sem.run_bind, Result.andThen_ok, Sem.run_pure]
 exact h
theorem step_clQ {ops : Array Oper} {o : Oper} {A : Act} {w w0 : World} {X : Nat} {K : Act → World → Prop} {Q : Exit → Act → World → Prop} {E : Prop} (hX : X = w0.heap.size) (hw : w = w0.alloc (.cells #[.int .u8 112, .int .u8 32, .int .u8 43, .int .u8 32, .int .u8 113, .int .u8 32, .int .u8 42, .int .u8 32, .int .u8 114] 5)) (hgd : o.guard = none) (x : Operand) (ho : o.op = .convert 62 62 x) (hx : A.eval x = .slice (some ⟨X, 0, none⟩) 9 9)
  (k : ∀ w', Bs w' (some ⟨X, 0, none⟩) 9 9 lQ → Below w0.heap.size w0 w' → K (A.put o.dst (.slice (some ⟨X, 0, none⟩) 9 9)) w') : if Region.wanted o (yielded ops A.tmps) = true then o.wp Tryz.prog A w K Q else E := by
 rw [if_pos (show Region.wanted o (yielded ops A.tmps) = true by simp [Region.wanted, hgd])]
 subst hX
 subst hw
 have h := k _ (Bs.lit (l := lQ) (cs := #[.int .u8 112, .int .u8 32, .int .u8 43, .int .u8 32, .int .u8 113, .int .u8 32, .int .u8 42, .int .u8 32, .int .u8 114]) (mk := (9, 10)) w0 5 rfl (by decide) (g := w0.heap.size) (n := 9) rfl rfl (by decide)) (below_alloc w0 _)
 have hr := Joins.run_convert_bytes_const_at (P := Tryz.prog) w0 62 5 #[.int .u8 112, .int .u8 32, .int .u8 43, .int .u8 32, .int .u8 113, .int .u8 32, .int .u8 42, .int .u8 32, .int .u8 114] 9 9 w0.heap.size rfl Tryz.underlying62 Tryz.underlying5
 unfold Oper.wp execOp
 simp only [ho, hx, hr, Sem.run_bind, Result.andThen_ok, Sem.run_pure]
 exact h
set_option maxRecDepth 100000 in
set_option maxHeartbeats 32000000 in
theorem deriveFit_any (p1 : Nm) (g1 a1 : Int) (p2 : Nm) (g2 a2 : Int) (w : World) (ht : Tab w) (hp1 : p1.length ≤ 140737488355328) (hp2 : p2.length ≤ 140737488355328) :
  Calls Tryz.prog 10 #[.agg #[.string (mk p1), .int .i64 g1, .int .i64 a1], .agg #[.string (mk p2), .int .i64 g2, .int .i64 a2]] w fun e w' => e = .returned (.bool true) ∧ Below w.heap.size w w' := by
 obtain ⟨q1, Gi, Si, g', s', hGi, hSi, hg9, hs3, hF1⟩ := fit_nat p1 g1 a1 hp1
 obtain ⟨q2, Hi, Ti, h', t', hHi, hTi, hh9, ht3, hF2⟩ := fit_nat p2 g2 a2 hp2
 have HF1 := hid hF1
 have HF2 := hid hF2
 have HGi := hid hGi
 have HSi := hid hSi
 have HHi := hid hHi
 have HTi := hid hTi
 have HWT : Hid (wthL [(pPlus, Gi, Si), (pStar, Hi, Ti)] = [(pStar, Hi, Ti), (pPlus, Gi, Si)]) := hid (by rw [hGi, hSi, hHi, hTi]; exact of_decide_eq_true (wth_q g' hg9 h' hh9 s' hs3 t' ht3))
 have HFC : Hid (∀ n T, CntP [(pStar, Hi, Ti), (pPlus, Gi, Si)] zS (toks lQ) n T → (rQ (g' + 1) (h' + 1) s' t' = true → n = 1 ∧ T.length = 5 ∧ (nA T 0).n = pPlus) ∧ (lfQ (g' + 1) (h' + 1) s' t' = true → n = 1 ∧ T.length = 5 ∧ (nA T 0).n = pStar) ∧ (rQ (g' + 1) (h' + 1) s' t' = false → lfQ (g' + 1) (h' + 1) s' t' = false → n = 0)) := hid fun n T hc => fit_cnt hg9 hh9 hs3 ht3 (by rw [hGi, hSi, hHi, hTi] at hc; exact hc)
 have HS3 := hid hs3
 have HT3 := hid ht3
 have HT := hid ht
 obtain ⟨B, hB⟩ : ∃ B, B = w.heap.size := ⟨_, rfl⟩
 obtain ⟨w1, hw1⟩ : ∃ w1, w1 = w.alloc (.cells #[.string (mk p1), .int .i64 g1, .int .i64 a1] 51) := ⟨_, rfl⟩
 obtain ⟨w2, hw2⟩ : ∃ w2, w2 = w1.alloc (.cells #[.string (mk p2), .int .i64 g2, .int .i64 a2] 51) := ⟨_, rfl⟩
 have s1 : w1.heap.size = B + 1 := by rw [hw1, hB]; simp
 have HX2 : Hid (D3 w2 B (p1, g1, a1)) := hid (by rw [hw2, hw1, hB]; exact (D3.new w (p1, g1, a1)).alloc _)
 have HY2 : Hid (D3 w2 (B + 1) (p2, g2, a2)) := hid (by rw [hw2, ← s1]; exact D3.new w1 (p2, g2, a2))
 have HB2 : Hid (Below w.heap.size w w2) := hid (by rw [hw2, hw1]; exact (below_alloc w _).alloc (by simp) _)
 have HBB := hid hB
 obtain ⟨C, hC⟩ : ∃ q, q = B + 1 := ⟨_, rfl⟩
 rw [← hC] at HY2
 clear ht hp1 hp2 hF1 hF2 hGi hSi hHi hTi hs3 ht3 hg9 hh9
 go_enter Tryz.func10, Tryz.ntmps10
 go_upto_region 1 with fail
 rw [← hw1, ← hw2, ← hB, ← hC]
 clear hw1 hw2 hB s1 hC
 go_wp2_with fail
 refine (dshown_any w2 (HT.out.keep HB2.out)).mono ?_
 rintro e w3 ⟨rfl, hb3⟩
 have HB3 : Hid (Below w.heap.size w w3) := hid (HB2.out.trans (hb3.mono HB2.out.size))
 have HX3 := hid (HX2.out.below hb3)
 have HY3 := hid (HY2.out.below hb3)
 clear hb3 HX2 HY2 HB2
 go_wp2_with (refine load_bk rt_op rfl (.tmp 2) rfl B rfl _ rfl HX3.out ?_)
 refine (HF1.out w3).mono ?_
 rintro e w4 ⟨rfl, hb4⟩
 have HB4 : Hid (Below w.heap.size w w4) := hid (HB3.out.trans (hb4.mono HB3.out.size))
 have HY4 := hid (HY3.out.below hb4)
 obtain ⟨X, hX⟩ : ∃ q, q = w4.heap.size := ⟨_, rfl⟩
 have HXX := hid hX
 have HXW : Hid (w.heap.size ≤ X) := hid (by rw [hX]; exact HB4.out.size)
 have hz : D3 (w4.alloc (.cells #[.string ⟨#[]⟩, .int .i64 0, .int .i64 0] 51)) X ([], 0, 0) := by rw [hX]; exact D3.new w4 ([], 0, 0)
 have HZ := hid hz
 clear hb4 hX hz HX3 HY3 HB3
 go_wp2_with (first
  | (refine store_bk rt_op rfl (.tmp 6) (.tmp 16) rfl X (by rw [HXX.out]; rfl) #[.string (mk q1), .int .i64 Gi, .int .i64 Si] rfl rfl (op3_one q1 Gi Si) _ rfl HZ.out ?_; rw [← HXX.out]; intro w5 h5 ho5; have HX5 : Hid (D3 w5 X (q1, Gi, Si)) := hid h5; have HB45 : Hid (Below w4.heap.size w4 w5) := hid ((below_alloc w4 _).trans (ho5.below (by rw [HXX.out]; exact Nat.le_refl _))); have HY5 := hid (HY4.out.below HB45.out); clear h5 ho5)
  | (refine load_bk rt_op rfl (.tmp 3) rfl C rfl _ rfl HY5.out ?_))
 have HB5 : Hid (Below w.heap.size w w5) := hid (HB4.out.trans (HB45.out.mono HB4.out.size))
 refine (HF2.out w5).mono ?_
 rintro e w6 ⟨rfl, hb6⟩
 have HB6 : Hid (Below w.heap.size w w6) := hid (HB5.out.trans (hb6.mono HB5.out.size))
 have HX6 := hid (HX5.out.below hb6)
 obtain ⟨Y, hY⟩ : ∃ q, q = w6.heap.size := ⟨_, rfl⟩
 have HYY := hid hY
 have hz : D3 (w6.alloc (.cells #[.string ⟨#[]⟩, .int .i64 0, .int .i64 0] 51)) Y ([], 0, 0) := by rw [hY]; exact D3.new w6 ([], 0, 0)
 have HZ2 := hid hz
 have HXY : Hid (X < Y) := hid (by rw [hY]; exact (Array.getElem?_eq_some_iff.1 HX6.out).1)
 clear hb6 hY hz HX5 HY5 HB5 HB4 HB45 HY4 HXX HZ
 go_wp2_with (first
  | (refine store_bk rt_op rfl (.tmp 7) (.tmp 18) rfl Y (by rw [HYY.out]; rfl) #[.string (mk q2), .int .i64 Hi, .int .i64 Ti] rfl rfl (op3_one q2 Hi Ti) _ rfl HZ2.out ?_; rw [← HYY.out]; intro w7 h7 ho7; have HY7 : Hid (D3 w7 Y (q2, Hi, Ti)) := hid h7; have HB67 : Hid (Below w6.heap.size w6 w7) := hid ((below_alloc w6 _).trans (ho7.below (by rw [HYY.out]; exact Nat.le_refl _))); have HX7 := hid (HX6.out.below HB67.out); clear h7 ho7)
  | (refine store_patn rfl (.tmp 19) (.const (.string { data := #[95, 43, 95] })) rfl X rfl pPlus rfl q1 Gi Si HX7.out ?_; intro w8 h8 ho8; have HX8 := hid h8; have HY8 : Hid (D3 w8 Y (q2, Hi, Ti)) := hid (Bk.only HY7.out ho8 (by have := HXY.out; omega)); have HB8 : Hid (Below w.heap.size w w8) := hid ((HB6.out.trans (HB67.out.mono HB6.out.size)).trans (ho8.below HXW.out)); clear h8 ho8)
  | (refine store_patn rfl (.tmp 20) (.const (.string { data := #[95, 42, 95] })) rfl Y rfl pStar rfl q2 Hi Ti HY8.out ?_; intro w9 h9 ho9; have HY9 := hid h9; have HX9 : Hid (D3 w9 X (pPlus, Gi, Si)) := hid (Bk.only HX8.out ho9 (by have := HXY.out; omega)); have HB9 : Hid (Below w.heap.size w w9) := hid (HB8.out.trans (ho9.below (by have := HXY.out; have := HXW.out; omega))); clear h9 ho9)
  | (refine load_bk rt_op rfl (.tmp 6) rfl X rfl _ rfl HX9.out ?_)
  | (refine load_bk rt_op rfl (.tmp 7) rfl Y rfl _ rfl HY9.out ?_))
 obtain ⟨wA, hwA⟩ : ∃ q, q = w9.alloc (.cells #[.string (mk pPlus), .int .i64 Gi, .int .i64 Si, .string (mk pStar), .int .i64 Hi, .int .i64 Ti] 51) := ⟨_, rfl⟩
 have HOP : Hid (OpS wA (some ⟨w9.heap.size, 0, none⟩) 2 2 [(pPlus, Gi, Si), (pStar, Hi, Ti)]) := hid (by rw [hwA]; exact ops_lits w9 [(pPlus, Gi, Si), (pStar, Hi, Ti)] rfl (show 2 ≤ 10 by decide) rfl rfl)
 have HBA : Hid (Below w9.heap.size w9 wA) := hid (by rw [hwA]; exact below_alloc w9 _)
 obtain ⟨g, hg⟩ : ∃ g, g = w9.heap.size := ⟨_, rfl⟩
 rw [← hwA, ← hg]
 rw [← hg] at HOP
 clear hwA hg
 refine (dwith_any _ 2 2 [(pPlus, Gi, Si), (pStar, Hi, Ti)] wA (HT.out.keep (HB9.out.trans (HBA.out.mono HB9.out.size))) HOP.out (by decide) nm_q).mono ?_
 rw [HWT.out]
 obtain ⟨L, hL⟩ : ∃ L : List OP, L = [(pStar, Hi, Ti), (pPlus, Gi, Si)] := ⟨_, rfl⟩
 have HSR : Hid (Srt L) := hid (by rw [hL]; unfold Srt; rw [List.pairwise_cons]; exact ⟨fun x hx => by rw [List.mem_singleton.1 hx]; show pStar < pPlus; decide, by simp⟩)
 have HNM : Hid (∀ o ∈ L, o.1.length ≤ 1000000) := hid (by rw [hL]; exact nm_q')
 rw [← hL] at HFC ⊢
 have HLN : Hid (L.length = 2) := hid (by rw [hL]; rfl)
 clear hL
 rintro e wB ⟨ea, em, ec, rfl, ho, hb⟩
 have HBB2 : Hid (Below w9.heap.size w9 wB) := hid (HBA.out.trans (hb.mono HBA.out.size))
 obtain rfl : em = 2 := (OpS.len ho).symm.trans HLN.out
 have HOB := hid ho
 obtain ⟨E, hE⟩ : ∃ q, q = wB.heap.size := ⟨_, rfl⟩
 have HEE := hid hE
 have hnew : EB (wB.alloc (.cells #[.slice none 0 0, .int .i64 0, .int .i64 0, .int .i64 0, .int .i64 0, .int .i64 0, .int .i64 0, .int .i64 0, .int .i64 0, .int .i64 0, .int .i64 0] 26)) E none 0 0 z0 := by rw [HEE.out]; exact EB.new wB none 0 0 z0
 have HNEW := hid hnew
 clear ho hb hE hnew HBA HOP
 go_upto_region 7 with (refine store_env rfl (.tmp 8) (.tmp 24) rfl E (by rw [HEE.out]; rfl) ea 2 ec zS rfl rfl none 0 0 z0 z0_len HNEW.out ?_; rw [← HEE.out]; intro wC h3 ho3; have H3 := hid h3; have HB3 : Hid (Below wB.heap.size wB wC) := hid ((below_alloc wB _).trans (ho3.below (by rw [HEE.out]; exact Nat.le_refl _))); clear h3 ho3)
 have HB9C : Hid (Below w9.heap.size w9 wC) := hid (HBB2.out.trans (HB3.out.mono HBB2.out.size))
 have HWC : Hid (Below w.heap.size w wC) := hid (HB9.out.trans (HB9C.out.mono HB9.out.size))
 have HOC : Hid (OpS wC ea 2 ec L) := hid (HOB.out.below HB3.out)
 have HXC := hid (HX9.out.below HB9C.out)
 have HYC := hid (HY9.out.below HB9C.out)
 clear HNEW HEE HOB HB3 HBB2 HB9C HX9 HY9 HB9 HX8 HY8 HB8 HX7 HY7 HB67 HB6 HX6 HYY HZ2 HF1 HF2 HWT
 refine wp_region_noPanic ?_
 refine wp_region_held_drew (S := fun w' => EB w' E ea 2 ec zS) (by kernel_rfl) (H3.out.below (Below.refl _ _).drew) (fun hHeld => ?_)
 refine hTk 0 (v := .agg (ev ea 2 ec zS)) rfl (by kernel_rfl) (fun _ _ _ h => h) (by rfl) (fun w0 h0 => ex_load rt_env (.tmp 8) E rfl (ev ea 2 ec zS) (ev_size rfl) h0) (by assumption) ?_
 try simp only [Act.put, aS, aZ, aC]
 refine wpAnyH_ready (rs := [1]) (by kernel_rfl) (by simp) ?_
 refine hDo rfl (fun K hK => ?_) ?_
 ·refine step_lQ rfl rfl ?_
  intro u1 X1 hX1 hu1
  have HU1 := hid hu1
  have HX1 := hid hX1
  have HV1 : Hid (Below wC.heap.size wC u1) := hid (by rw [hu1]; exact ((Below.refl _ _).drew).alloc (Nat.le_refl _) _)
  clear hu1 hX1
  refine hK.out _ _ (H3.out.below HV1.out) (fun hHeld => ?_)
  clear hK K
  try simp only [Act.put, aS, aZ, aC]
  refine wpAnyH_ready (rs := [2]) (by kernel_rfl) (by simp) ?_
  refine hDo rfl (fun K hK => ?_) ?_
  ·refine step_clQ HX1.out HU1.out rfl (.tmp 27) rfl rfl ?_
   intro u2 hs2 hv2
   have HS2 := hid hs2
   have HV2 : Hid (Below wC.heap.size wC u2) := hid ((Below.refl _ _).drew.trans (hv2.mono (Nat.le_refl _)))
   clear hs2 hv2 HU1 HX1 HV1
   refine hK.out _ _ (H3.out.below HV2.out) (fun hHeld => ?_)
   clear hK K
   try simp only [Act.put, aS, aZ, aC]
   refine wpAnyH_ready (rs := [3]) (by kernel_rfl) (by simp) ?_
   refine hDo rfl (fun K hK => ?_) ?_
   ·go_simp
    (go_at_call 35; (with_reducible refine (all_any _ 9 9 lQ _ HS2.out (HT.out.keep (HWC.out.trans (HV2.out.mono HWC.out.size))) (by decide)).mono ?_); rw [toks_q]; rintro e u3 ⟨la3, rfl, hrow3, hb3⟩)
    have HV3 : Hid (Below wC.heap.size wC u3) := hid (HV2.out.trans (hb3.mono HV2.out.size))
    have HTS3 : Hid (Ts u3 la3 5 5 (toks lQ)) := hid hrow3.ts
    clear hrow3 hb3 HV2 HS2
    refine hK.out _ _ (H3.out.below HV3.out) (fun hHeld => ?_)
    clear hK K
    try simp only [Act.put, aS, aZ, aC]
    refine wpAnyH_ready (rs := [4]) (by kernel_rfl) (by simp) ?_
    refine hDo rfl (fun K hK => ?_) ?_
    ·go_simp
     (go_at_call 26; (with_reducible refine (count_any ea 2 ec L zS la3 5 5 (toks lQ) _ (HT.out.keep (HWC.out.trans (HV3.out.mono HWC.out.size))) (HOC.out.below HV3.out) HTS3.out rfl zS_i64d HSR.out (by decide) HNM.out (by decide)).mono ?_); rintro e u4 ⟨m, T, na, nc, rfl, hn, hc, hb4⟩)
     have HCN := hid (HFC.out _ _ hc)
     have HN4 := hid hn
     have HV4 : Hid (Below wC.heap.size wC u4) := hid (HV3.out.trans (hb4.mono HV3.out.size))
     clear hn hc hb4 HV3 HTS3
     refine hK.out _ _ (H3.out.below HV4.out) (fun hHeld => ?_)
     clear hK K
     try simp only [Act.put, aS, aZ, aC]
     refine hTk 5 (v := ?_) rfl (by kernel_rfl) (fun _ _ _ h => h) (by rfl) ?_ (by assumption) ?_
     rotate_left; · intro w' hSw; (try dsimp only at hSw); go_simp; try with_reducible rfl
     try simp only [Act.put, aS, aZ, aC]
     refine hTk 6 (v := ?_) rfl (by kernel_rfl) (fun _ _ _ h => h) (by rfl) ?_ (by assumption) ?_
     rotate_left; · intro w' hSw; (try dsimp only at hSw); go_simp; try with_reducible rfl
     try simp only [Act.put, aS, aZ, aC]
     refine hTk 7 (v := ?_) rfl (by kernel_rfl) (fun _ _ _ h => h) (by rfl) ?_ (by assumption) ?_
     rotate_left; · intro w' hSw; (try dsimp only at hSw); go_simp; try with_reducible rfl
     try simp only [Act.put, aS, aZ, aC]
     refine hTk 8 (v := ?_) rfl (by kernel_rfl) (fun _ _ _ h => h) (by rfl) ?_ (by assumption) ?_
     rotate_left; · intro w' hSw; (try dsimp only at hSw); go_simp; try with_reducible rfl
     try simp only [Act.put, aS, aZ, aC]
     refine hTk 9 (v := ?_) rfl (by kernel_rfl) (fun _ _ _ h => h) (by rfl) ?_ (by assumption) ?_
     rotate_left; · intro w' hSw; (try dsimp only at hSw); go_simp; try with_reducible rfl
     try simp only [Act.put, aS, aZ, aC]
     refine wpAnyH_done (by kernel_rfl) ?_ _
     refine NoPanic.normal ?_
     have HWE : Hid (Below w.heap.size w u4) := hid (HWC.out.trans (HV4.out.mono HWC.out.size))
     obtain ⟨x0, x1, x2⟩ := (HXC.out.below HV4.out).cells
     obtain ⟨y0, y1, y2⟩ := (HYC.out.below HV4.out).cells
     dsimp only at x0 x1 x2 y0 y1 y2
     clear HV4 HWC HXC HYC HOC HFC HSR HNM H3 HT
     have hs3 := HS3.out
     have ht3 := HT3.out
     by_cases hRT : rQ (g' + 1) (h' + 1) s' t' = true
     ·obtain ⟨rfl, hl, hn0⟩ := HCN.out.1 hRT
      rw [hl]
      have HN5 : Hid (NdS u4 na 5 nc T) := hid (by rw [← hl]; exact HN4.out)
      obtain ⟨nb, no, rfl, _, hcc⟩ := HN5.out.at_ (show 0 < 5 by decide)
      clear hcc
      obtain ⟨c0, c1, c2, c3, c4⟩ := NdS.at5 HN5.out (show 0 < 5 by decide)
      rw [Nat.zero_mul, Nat.add_zero] at c1
      have hsp := is_plus
      have hss := is_star
      clear c0 c2 c3 c4
      rw [hn0] at c1
      unfold rQ at hRT
      simp only [Bool.or_eq_true, Bool.and_eq_true, decide_eq_true_eq, beq_iff_eq] at hRT
      rcases hRT with ⟨k1, k2, k3⟩ | ⟨k1, k2, k3⟩
      ·have h1 : Gi ≤ 5 := by have := HGi.out; omega
       have h2 : Hi ≤ 5 := by have := HHi.out; omega
       have h3 : Hi < Gi := by have := HHi.out; have := HGi.out; omega
       have h4 : ¬ Gi < Hi := by omega
       have h5 : (Gi == Hi) = false := by simp; omega
       go_wp2
       go_ret
       exact ⟨rfl, HWE.out⟩
      ·have h6 : Si = 2 := by have := HSi.out; omega
       have h7 : Ti = 2 := by have := HTi.out; omega
       have h8 : Gi = Hi := by have := HHi.out; have := HGi.out; omega
       subst h6 h7 h8
       have h3 : ¬ Gi < Gi := by omega
       by_cases h1 : Gi ≤ 5
       ·go_wp2
        go_ret
        exact ⟨rfl, HWE.out⟩
       ·go_wp2
        go_ret
        exact ⟨rfl, HWE.out⟩
     ·by_cases hLT : lfQ (g' + 1) (h' + 1) s' t' = true
      ·obtain ⟨rfl, hl, hn0⟩ := HCN.out.2.1 hLT
       rw [hl]
       have HN5 : Hid (NdS u4 na 5 nc T) := hid (by rw [← hl]; exact HN4.out)
       obtain ⟨nb, no, rfl, _, hcc⟩ := HN5.out.at_ (show 0 < 5 by decide)
       clear hcc
       obtain ⟨c0, c1, c2, c3, c4⟩ := NdS.at5 HN5.out (show 0 < 5 by decide)
       rw [Nat.zero_mul, Nat.add_zero] at c1
       have hsp := is_plus
       have hss := is_star
       clear c0 c2 c3 c4
       rw [hn0] at c1
       unfold lfQ at hLT
       simp only [Bool.or_eq_true, Bool.and_eq_true, decide_eq_true_eq, beq_iff_eq] at hLT
       rcases hLT with ⟨k1, k2, k3⟩ | ⟨k1, k2, k3⟩
       ·have h1 : Gi ≤ 5 := by have := HGi.out; omega
        have h2 : Hi ≤ 5 := by have := HHi.out; omega
        have h3 : ¬ Hi < Gi := by have := HHi.out; have := HGi.out; omega
        have h4 : Gi < Hi := by have := HHi.out; have := HGi.out; omega
        have h5 : (Gi == Hi) = false := by simp; omega
        go_wp2
        go_ret
        exact ⟨rfl, HWE.out⟩
       ·have h6 : Si = 1 := by have := HSi.out; omega
        have h7 : Ti = 1 := by have := HTi.out; omega
        have h8 : Gi = Hi := by have := HHi.out; have := HGi.out; omega
        subst h6 h7 h8
        have h3 : ¬ Gi < Gi := by omega
        by_cases h1 : Gi ≤ 5
        ·go_wp2
         go_ret
         exact ⟨rfl, HWE.out⟩
        ·go_wp2
         go_ret
         exact ⟨rfl, HWE.out⟩
      ·obtain rfl := HCN.out.2.2 (by simpa using hRT) (by simpa using hLT)
       unfold rQ at hRT
       unfold lfQ at hLT
       simp only [Bool.or_eq_true, Bool.and_eq_true, decide_eq_true_eq, beq_iff_eq] at hRT hLT
       by_cases h5 : Gi = Hi
       ·have k5 : g' + 1 = h' + 1 := by have := HHi.out; have := HGi.out; omega
        subst h5
        have h3 : ¬ Gi < Gi := by omega
        have k6 : (Si = 0 ∨ Si = 1 ∨ Si = 2) ∧ (Ti = 0 ∨ Ti = 1 ∨ Ti = 2) := by have := HSi.out; have := HTi.out; omega
        obtain ⟨rfl | rfl | rfl, rfl | rfl | rfl⟩ := k6
        ·by_cases h1 : Gi ≤ 5
         ·go_wp2
          go_ret
          exact ⟨rfl, HWE.out⟩
         ·go_wp2
          go_ret
          exact ⟨rfl, HWE.out⟩
        ·by_cases h1 : Gi ≤ 5
         ·go_wp2
          go_ret
          exact ⟨rfl, HWE.out⟩
         ·go_wp2
          go_ret
          exact ⟨rfl, HWE.out⟩
        ·by_cases h1 : Gi ≤ 5
         ·go_wp2
          go_ret
          exact ⟨rfl, HWE.out⟩
         ·go_wp2
          go_ret
          exact ⟨rfl, HWE.out⟩
        ·by_cases h1 : Gi ≤ 5
         ·go_wp2
          go_ret
          exact ⟨rfl, HWE.out⟩
         ·go_wp2
          go_ret
          exact ⟨rfl, HWE.out⟩
        ·exact absurd trivial (by have := HSi.out; have := HTi.out; omega)
        ·by_cases h1 : Gi ≤ 5
         ·go_wp2
          go_ret
          exact ⟨rfl, HWE.out⟩
         ·go_wp2
          go_ret
          exact ⟨rfl, HWE.out⟩
        ·by_cases h1 : Gi ≤ 5
         ·go_wp2
          go_ret
          exact ⟨rfl, HWE.out⟩
         ·go_wp2
          go_ret
          exact ⟨rfl, HWE.out⟩
        ·by_cases h1 : Gi ≤ 5
         ·go_wp2
          go_ret
          exact ⟨rfl, HWE.out⟩
         ·go_wp2
          go_ret
          exact ⟨rfl, HWE.out⟩
        ·exact absurd trivial (by have := HSi.out; have := HTi.out; omega)
       ·have h5' : (Gi == Hi) = false := by simpa using h5
        by_cases h1 : Gi ≤ 5
        ·have h2 : ¬ Hi ≤ 5 := by have := HHi.out; have := HGi.out; omega
         go_wp2
         go_ret
         exact ⟨rfl, HWE.out⟩
        ·go_wp2
         go_ret
         exact ⟨rfl, HWE.out⟩
    ·exact AllReadyH.nil
   ·exact AllReadyH.nil
  ·exact AllReadyH.nil
 ·exact AllReadyH.nil
end
end Go.Proofs.YtlpmelldldjioaaGreatDoor
