/- TreeLast (laid by genX.py over XXu.start.txt). -/
import Derived.Test.YtkaeanaeklilfaaGreatDoorXm
import Derived.Test.YtkaeanaeklilfaaGreatDoorXw
import Derived.Test.YtkaeanaeklilfaaGreatDoorYd
import Derived.Test.YtkaeanaeklilfaaGreatDoorYs
namespace Go.Proofs.YtkaeanaeklilfaaGreatDoor
open Go.RowKit

theorem build_erw {ops : Array Oper} {rest : List Oper} {o : Oper} {A : Act} {w : World} {Q : Exit → Act → World → Prop} (hw : Region.wanted o (yielded ops A.tmps) = true) (y : Operand) (ho : o.op = .build 26 #[(1, y)])
    (z : List Int) (hz : z.length = 10) (hy : A.eval y = .agg (rv z))
    (k : wpList Tryz.prog ops Q rest (A.put o.dst (.agg (ev none 0 0 z))) w) : wpList Tryz.prog ops Q (o :: rest) A w :=
  wpList_step fun K hK => by
    rw [if_pos hw]
    have hb := built_rows hz w
    unfold Oper.wp execOp
    simp only [ho, List.map_toArray, List.map_cons, List.map_nil, hy, hb, Sem.run_bind, Result.andThen_ok, Sem.run_pure]
    exact hK _ _ k
theorem ts_upto {w : World} {g off n c h : Nat} {tok : List TK} (hv : Ts w (some ⟨g, off, none⟩) n c tok) (hh : h ≤ n) : Ts w (some ⟨g, off, none⟩) h c (tok.take h) := by
  have h1 := hv.hl
  have h2 := hv.lc
  refine ⟨by rw [List.length_take]; omega, by omega, hv.cm, fun h0 => ?_⟩
  obtain ⟨b, o, ha, hb, hc⟩ := hv.at_ (by omega)
  simp only [Option.some.injEq, Addr.mk.injEq, and_true] at ha
  obtain ⟨rfl, rfl⟩ := ha
  refine ⟨g, off, rfl, hb, fun j hj i hi => ?_⟩
  rw [hc j (by omega) i hi]
  congr 2
  unfold tat
  rw [List.getD_eq_getElem?_getD, List.getD_eq_getElem?_getD, List.getElem?_take, if_pos hj]
theorem right_pos {L : List OP} {z : List Int} {tok : List TK} {t : List ND} (h : rightB L z tok t = true) : 0 < t.length ∧ 0 < tok.length := by
  cases t with
  | nil => cases h
  | cons x t =>
    have h1 := rightB_iff.1 h
    have h2 := h1.2.2 0 (by simp)
    rw [List.drop_zero] at h2
    have h3 := span_of h2
    exact ⟨by simp, by omega⟩

set_option maxRecDepth 100000 in
set_option maxHeartbeats 16000000 in
theorem treeLast_any (ca : Option Addr) (cl cc : Nat) (C : List CH) (la : Option Addr) (ln lc : Nat) (l : List TK) (a : Option Addr) (n c : Nat) (T : List ND) (w : World) (ht : Tab w) (hC : ChS w ca cl cc C) (hok : ∀ x ∈ C, okC x) (hl : Ts w la ln lc l) (h : NdS w a n c T) :
    Calls Tryz.prog 7 #[.slice ca cl cc, .slice la ln lc, .slice a n c] w fun e w' => e = .returned (.bool true) ∧ Below w.heap.size w w' := by
  have HT := Lib.hid ht
  have H := Lib.hid h
  have HL := Lib.hid hl
  have HC := Lib.hid hC
  obtain ⟨L, Z, _, hE, hmk⟩ := make_lit ca cl cc C hok
  have HE := Lib.hid hE
  have HMK := Lib.hid hmk
  clear ht h hl hC hok hE hmk
  go_enter Tryz.func7, Tryz.ntmps7
  go_wp2_with fail
  refine (shown_any w HT.out).mono ?_
  rintro e w1 ⟨rfl, hb1⟩
  have HB1 := Lib.hid hb1
  clear hb1
  go_wp2_with fail
  refine (HMK.out w1 (HC.out.below HB1.out)).mono ?_
  rintro e w2 ⟨ea, en, ec, rfl, ho2, hb2⟩
  have HO2 : Hid (OpS w2 ea en ec L) := Lib.hid ho2.vs
  have HB2 : Hid (Below w.heap.size w w2) := Lib.hid (HB1.out.trans (hb2.mono HB1.out.size))
  obtain ⟨E, hEE⟩ : ∃ q, q = w2.heap.size := ⟨_, rfl⟩
  have HEE := Lib.hid hEE
  clear ho2 hb2 hEE HB1 HMK HC
  have hnew : EB (w2.alloc (.cells #[.slice none 0 0, .int .i64 0, .int .i64 0, .int .i64 0, .int .i64 0, .int .i64 0, .int .i64 0, .int .i64 0, .int .i64 0, .int .i64 0, .int .i64 0] 26)) E none 0 0 z0 := by rw [HEE.out]; exact EB.new w2 none 0 0 z0
  have HNEW := Lib.hid hnew
  clear hnew
  go_wp2_with (refine store_env rfl (.tmp 8) (.tmp 15) rfl E (by rw [HEE.out]; rfl) ea en ec Z rfl HE.out.2.2.2.1 none 0 0 z0 z0_len HNEW.out ?_; rw [← HEE.out]; intro w3 h3 ho3; have H3 := Lib.hid h3; have HB3 : Hid (Below w2.heap.size w2 w3) := Lib.hid ((below_alloc w2 _).trans (ho3.below (by rw [HEE.out]; exact Nat.le_refl _))); clear h3 ho3)
  have HW3 : Hid (Below w.heap.size w w3) := Lib.hid (HB2.out.trans (HB3.out.mono HB2.out.size))
  have HO3 : Hid (OpS w3 ea en ec L) := Lib.hid (HO2.out.below HB3.out)
  have HLN : Hid (en ≤ 1000000 ∧ ∀ o ∈ L, o.1.length ≤ 1000000) := Lib.hid ⟨by have := HE.out.2.2.1; have := OpS.len HO3.out; omega, fun o ho => by have := (HE.out.2.1 o ho).2; omega⟩
  clear HNEW HEE HO2 HB2 HB3
  refine (short_any la ln lc l w3 (HL.out.below HW3.out)).mono ?_
  rintro e w4 ⟨sa, sc, rfl, ho4, hb4⟩
  obtain ⟨tk, htk⟩ : ∃ q, q = shortT l := ⟨_, rfl⟩
  rw [← htk] at ho4 ⊢
  have hsl20 : tk.length ≤ 20 := by rw [htk]; exact shortT_len l
  obtain ⟨sl, hsl⟩ : ∃ q, q = tk.length := ⟨_, rfl⟩
  have HSL := Lib.hid hsl
  have HS4 : Hid (Ts w4 sa sl sc tk) := Lib.hid (by rw [hsl]; exact ho4.ts)
  have HB4 : Hid (Below w3.heap.size w3 w4) := Lib.hid hb4
  rw [← hsl] at hsl20 ⊢
  clear htk hsl ho4 hb4
  go_wp2_with fail
  refine (few_any a n c T w4 (H.out.below (HW3.out.trans (HB4.out.mono HW3.out.size)))).mono ?_
  rintro e w5 ⟨fa, fc, rfl, ho5, hb5⟩
  obtain ⟨N, hN⟩ : ∃ N, N = fewT T := ⟨_, rfl⟩
  rw [← hN] at ho5 ⊢
  have hm20 : N.length ≤ 20 := by rw [hN]; exact fewT_len T
  have HNM : Hid (∀ x ∈ N, x.n.length ≤ 1000000) := Lib.hid (by rw [hN]; exact fewT_nm)
  obtain ⟨m, hm⟩ : ∃ m, m = N.length := ⟨_, rfl⟩
  have HM := Lib.hid hm
  have H5 : Hid (NdS w5 fa m fc N) := Lib.hid (by rw [hm]; exact ho5.vs)
  rw [← hm] at hm20 ⊢
  have HS5 : Hid (Ts w5 sa sl sc tk) := Lib.hid (HS4.out.below hb5)
  have HB5 : Hid (Below w3.heap.size w3 w5) := Lib.hid (HB4.out.trans (hb5.mono HB4.out.size))
  have HE5 := Lib.hid (H3.out.below HB5.out)
  have HW5 : Hid (Below w.heap.size w w5) := Lib.hid (HW3.out.trans (HB5.out.mono HW3.out.size))
  have HO5 : Hid (OpS w5 ea en ec L) := Lib.hid (HO3.out.below HB5.out)
  -- what Right answers from here on
  have KR : Hid (∀ (ta : Option Addr) (tn tc : Nat) (t' : List TK) (na : Option Addr) (nn nc : Nat) (T' : List ND) (w' : World), Below w5.heap.size w5 w' → Ts w' ta tn tc t' → NdS w' na nn nc T' → tn ≤ 30 → nn ≤ 30 → (∀ x ∈ T', x.n.length ≤ 1000000) →
      Calls Tryz.prog 11 #[.agg (ev ea en ec Z), .slice ta tn tc, .slice na nn nc] w' fun e w'' => e = .returned (.bool (rightB L Z t' T')) ∧ Below w'.heap.size w' w'') := Lib.hid fun ta tn tc t' na nn nc T' w' hb h1 h2 h3 h4 h5 =>
    tright_any ea en ec L Z ta tn tc t' na nn nc T' w' (HT.out.keep (HW5.out.trans (hb.mono HW5.out.size))) (HO5.out.below hb) HE.out.2.2.2.1 HE.out.2.2.2.2 h1 h2 HLN.out.1 HLN.out.2 (by omega) (by omega) h5
  clear hN hm ho5 hb5 HS4 H3 HB4 HW3 HO3 HB5
  go_wp2_with (refine load_env rfl (.tmp 8) rfl E rfl ea en ec Z HE.out.2.2.2.1 HE5.out ?_)
  refine (KR.out sa sl sc tk fa m fc N w5 (Below.refl _ _) HS5.out H5.out (by omega) (by omega) HNM.out).mono ?_
  rintro e w6 ⟨rfl, hb6⟩
  obtain ⟨d, hd⟩ : ∃ d, d = rightB L Z tk N := ⟨_, rfl⟩
  have HD := Lib.hid hd
  rw [← hd]
  have HB6 := Lib.hid hb6
  have HE6 := Lib.hid (HE5.out.below hb6)
  clear hd hb6
  cases d with
  | false =>
    go_wp2_with (refine load_env rfl (.tmp 8) rfl E rfl ea en ec Z HE.out.2.2.2.1 HE6.out ?_)
    refine (KR.out sa sl sc tk none 0 0 [] w6 HB6.out (HS5.out.below HB6.out) (Vs.nil _ _ _ _ (Nat.zero_le _)) (by omega) (by omega) (fun x h => by cases h)).mono ?_
    rw [right_nil]
    rintro e w7 ⟨rfl, hb7⟩
    have HW7 : Hid (Below w.heap.size w w7) := Lib.hid (HW5.out.trans ((HB6.out.trans (hb7.mono HB6.out.size)).mono HW5.out.size))
    clear hb7
    go_wp2
    go_ret
    exact ⟨rfl, HW7.out⟩
  | true =>
    have hpos := right_pos HD.out.symm
    rw [← HM.out, ← HSL.out] at hpos
    obtain ⟨hm0, hs0⟩ := hpos
    have hsc : ((sl : Int) == 0) = false := by simp; omega
    obtain ⟨sb, so, rfl, _, hc⟩ := HS5.out.at_ hs0
    clear hc
    obtain ⟨fb, fo, rfl, _, hc⟩ := H5.out.at_ hm0
    clear hc
    go_wp2_with (first
      | (at_builtin; refine wpList_appT rfl (.tmp 37) (.tmp 38) rfl w6.heap.size _ _ _ [] rfl (OwnT.emptyAt (heap_alloc_new w6 _) (Nat.le_refl _)) _ _ _ tk rfl ((HS5.out.below HB6.out).alloc _) (by omega) (by simp) ?_; intro a7 c7 w7 ho7 hg7 hb7; rw [Nat.zero_add, List.nil_append] at ho7; try rw [Nat.zero_add]; have HO7 := Lib.hid ho7; have HB7 : Hid (Below w6.heap.size w6 w7) := Lib.hid ((below_alloc w6 _).trans hb7); clear ho7 hg7 hb7)
      | (at_builtin; refine wpList_appT rfl (.tmp 39) (.tmp 41) rfl w6.heap.size _ _ _ tk rfl (HO7.out.alloc _) _ _ _ [⟨4, 0, 0, mk [55], 0⟩] rfl (Ts.one w7 47 ⟨4, 0, 0, mk [55], 0⟩ rfl rfl) (by omega) (by have := HB7.out.size; simp; omega) ?_; intro a8 c8 w8 ho8 hg8 hb8; have HO8 := Lib.hid ho8; have HB8 : Hid (Below w6.heap.size w6 w8) := Lib.hid ((HB7.out.alloc HB7.out.size _).trans hb8); clear ho8 hg8 hb8)
      | (at_builtin; refine wpList_appv rfl (.tmp 43) (.tmp 44) 28 rfl 43 w8.heap.size 5 48 _ Tryz.underlying28 nd_info rfl (by omega) _ _ _ [] rfl (OwnV.emptyAt (heap_alloc_new w8 _) (Nat.le_refl _)) _ _ _ (cN N) rfl ((H5.out.below (HB6.out.trans (HB8.out.mono HB6.out.size))).below (below_alloc w8 _)) (cN_one _) (by unfold maxLen; omega) (by omega) (by simp) ?_; intro a9 c9 w9 ho9 hg9 hb9 _; rw [Nat.zero_add, List.nil_append] at ho9; try rw [Nat.zero_add]; have HO9 := Lib.hid ho9; have HB9 : Hid (Below w8.heap.size w8 w9) := Lib.hid ((below_alloc w8 _).trans hb9); clear ho9 hg9 hb9)
      | (at_builtin; refine wpList_appv rfl (.tmp 45) (.tmp 47) 28 rfl 43 w8.heap.size 5 48 _ Tryz.underlying28 nd_info rfl (by omega) _ _ _ (cN N) rfl (HO9.out.alloc _) _ _ _ (cN [⟨1, [55], 0, 1, 0⟩]) rfl (Vs.lit (k := 5) (xs := cN [⟨1, [55], 0, 1, 0⟩]) _ _ rfl rfl rfl) (cN_one _) (by unfold maxLen; omega) (by omega) (by have := HB9.out.size; simp; omega) ?_; intro a10 c10 w10 ho10 hg10 hb10 _; have HO10 := Lib.hid ho10; have HB10 : Hid (Below w8.heap.size w8 w10) := Lib.hid ((HB9.out.alloc HB9.out.size _).trans hb10); clear ho10 hg10 hb10))
    obtain ⟨s1, hs1⟩ : ∃ s1, s1 = sl - 1 := ⟨_, rfl⟩
    obtain ⟨m1, hm1⟩ : ∃ m1, m1 = m - 1 := ⟨_, rfl⟩
    have hsI : (sl : Int) - 1 = (s1 : Int) := by omega
    have hmI : (m : Int) - 1 = (m1 : Int) := by omega
    have HS1 : Hid (s1 < sl ∧ m1 < m) := Lib.hid ⟨by omega, by omega⟩
    have hsl1 : ∀ w : World, (Instr.slice 27 (.slice (some ⟨sb, so, none⟩) sl sc) none (some (.int .i64 (s1 : Int))) none).run Tryz.prog w = .ok (.slice (some ⟨sb, so, none⟩) s1 sc) w := fun w =>
      run_h tok_elem Tryz.underlying27 tok_info (by have := HS5.out.lc; omega) w
    have hsl2 : ∀ w : World, (Instr.slice 28 (.slice (some ⟨fb, fo, none⟩) m fc) none (some (.int .i64 (m1 : Int))) none).run Tryz.prog w = .ok (.slice (some ⟨fb, fo, none⟩) m1 fc) w := fun w =>
      run_h nodes_elem Tryz.underlying28 nd_info (by have := H5.out.lc; omega) w
    have HB0 : Hid (Below w5.heap.size w5 w10) := Lib.hid (HB6.out.trans ((HB8.out.trans (HB10.out.mono HB8.out.size)).mono HB6.out.size))
    have HB8' : Hid (Below w8.heap.size w8 w10) := HB10
    have hx7 : ∀ x ∈ N ++ [⟨1, [55], 0, 1, 0⟩], x.n.length ≤ 1000000 := fun x hx => by
      rcases List.mem_append.1 hx with h | h
      · exact HNM.out x h
      · rw [List.mem_singleton.1 h]; exact (by decide)
    have HX7 := Lib.hid hx7
    have K1 : Hid (∀ w', Below w10.heap.size w10 w' → Calls Tryz.prog 11 #[.agg (ev ea en ec Z), .slice a8 (sl + 1) c8, .slice (some ⟨fb, fo, none⟩) m fc] w' fun e w'' => e = .returned (.bool false) ∧ Below w'.heap.size w' w'') := Lib.hid fun w' hb => by
      have h0 := right_toks (tok' := tk ++ [⟨4, 0, 0, mk [55], 0⟩]) HD.out.symm (by rw [List.length_append, List.length_singleton]; omega) L Z
      rw [← h0]
      have hb5 := HB0.out.trans (hb.mono HB0.out.size)
      exact KR.out _ _ _ _ _ _ _ _ w' hb5 (HO8.out.ts.below (HB8'.out.trans (hb.mono HB8'.out.size))) (H5.out.below hb5) (by omega) (by omega) HNM.out
    have K2 : Hid (∀ w', Below w10.heap.size w10 w' → Calls Tryz.prog 11 #[.agg (ev ea en ec Z), .slice (some ⟨sb, so, none⟩) s1 sc, .slice (some ⟨fb, fo, none⟩) m fc] w' fun e w'' => e = .returned (.bool false) ∧ Below w'.heap.size w' w'') := Lib.hid fun w' hb => by
      have h0 := right_toks (tok' := tk.take s1) HD.out.symm (by rw [List.length_take, ← HSL.out]; have := HS1.out; omega) L Z
      rw [← h0]
      have hb5 := HB0.out.trans (hb.mono HB0.out.size)
      exact KR.out _ _ _ _ _ _ _ _ w' hb5 (ts_upto (HS5.out.below hb5) (by have := HS1.out; omega)) (H5.out.below hb5) (by have := HS1.out; omega) (by omega) HNM.out
    have K3 : Hid (∀ w', Below w10.heap.size w10 w' → Calls Tryz.prog 11 #[.agg (ev ea en ec Z), .slice (some ⟨sb, so, none⟩) sl sc, .slice a10 (m + 1) c10] w' fun e w'' => e = .returned (.bool false) ∧ Below w'.heap.size w' w'') := Lib.hid fun w' hb => by
      have h0 := right_extra (y := [⟨1, [55], 0, 1, 0⟩]) HD.out.symm (by simp) L Z tk
      rw [← h0]
      have hb5 := HB0.out.trans (hb.mono HB0.out.size)
      have h2 : NdS w10 a10 (m + 1) c10 (N ++ [⟨1, [55], 0, 1, 0⟩]) := by
        have := HO10.out.vs
        rw [← cN_app] at this
        exact this
      exact KR.out _ _ _ _ _ _ _ _ w' hb5 (HS5.out.below hb5) (h2.below hb) (by omega) (by omega) HX7.out
    have K4 : Hid (∀ w', Below w10.heap.size w10 w' → Calls Tryz.prog 11 #[.agg (ev ea en ec Z), .slice (some ⟨sb, so, none⟩) sl sc, .slice (some ⟨fb, fo, none⟩) m1 fc] w' fun e w'' => e = .returned (.bool false) ∧ Below w'.heap.size w' w'') := Lib.hid fun w' hb => by
      have h0 := right_less (m := m1) HD.out.symm (by rw [← HM.out]; exact HS1.out.2) L Z tk
      rw [← h0]
      have hb5 := HB0.out.trans (hb.mono HB0.out.size)
      have h2 : NdS w' (some ⟨fb, fo, none⟩) m1 fc (N.take m1) := by
        have := Vs.upto (H5.out.below hb5) (h := m1) (by have := HS1.out; omega)
        rw [cN_take] at this
        exact this
      exact KR.out _ _ _ _ _ _ _ _ w' hb5 (HS5.out.below hb5) h2 (by omega) (by have := HS1.out; omega) (fun x hx => HNM.out x (List.mem_of_mem_take hx))
    have HK9 : Hid (∀ w', Below w10.heap.size w10 w' → EB w' E ea en ec Z) := Lib.hid fun w' hb => (HE5.out.below (HB0.out.trans (hb.mono HB0.out.size)))
    have hs1c : (s1 : Int) ≤ (sc : Int) := by have := HS5.out.lc; have := HS1.out; omega
    have hm1c : (m1 : Int) ≤ (fc : Int) := by have := H5.out.lc; have := HS1.out; omega
    have hs1w : IntKind.i64.wrap (s1 : Int) = (s1 : Int) := IntWalk.i64_in _ (by omega)
    have hm1w : IntKind.i64.wrap (m1 : Int) = (m1 : Int) := IntWalk.i64_in _ (by omega)
    have hs1n : (0 : Int) ≤ (s1 : Int) := Int.natCast_nonneg _
    have hm1n : (0 : Int) ≤ (m1 : Int) := Int.natCast_nonneg _
    clear hs1 hm1 hx7 hsc
    refine wp_region_noPanic ?_
    refine wp_region_held_drew (S := fun w' => EB w' E ea en ec Z) (by kernel_rfl) (HK9.out _ (Below.refl _ _).drew) (fun hHeld => ?_)
    refine take_env (i := 0) (oi := { dst := some 49, op := Op.load 26 (Operand.tmp 8), type := 26, pos := "more.go:40", after := #[], guard := none }) (Operand.tmp 8) rfl (by kernel_rfl) (by kernel_rfl) (by kernel_rfl) ea en ec (Z) (fun _ _ _ h => h) (by rfl) rfl (E) rfl (HE.out.2.2.2.1) (fun w h => h) (by assumption) ?_
    try simp only [Act.put, aS, aZ, aC]
    refine hTk 1 (v := ?_) rfl (by kernel_rfl) (fun _ _ _ h => h) (by rfl) ?_ (by assumption) ?_
    rotate_left; · intro w' hSw; (try dsimp only at hSw); go_simp; try with_reducible rfl
    try simp only [Act.put, aS, aZ, aC]
    refine hTk 2 (v := ?_) rfl (by kernel_rfl) (fun _ _ _ h => h) (by rfl) ?_ (by assumption) ?_
    rotate_left; · intro w' hSw; (try dsimp only at hSw); go_simp; try with_reducible rfl
    try simp only [Act.put, aS, aZ, aC]
    refine wpAnyH_ready (rs := [3]) (by kernel_rfl) (by simp) ?_
    refine AllReadyH.cons (o := { dst := some 52, op := Op.call { callee := Callee.value (Operand.func 11), args := #[Operand.tmp 49, Operand.tmp 50, Operand.tmp 51], argTypes := #[26, 27, 28] }, type := 4, pos := "more.go:40", after := #[{ on := 0, ground := Ground.data }, { on := 1, ground := Ground.data }, { on := 2, ground := Ground.data }], guard := none }) rfl (fun K hK => ?_) ?_
    · go_simp
      (go_at_call 11; (with_reducible refine (K1.out _ (Below.refl w10.heap.size w10).drew).mono ?_); rintro e wa ⟨rfl, hbwa⟩)
      have Hwa : Hid (Below w10.heap.size w10 wa) := Lib.hid (((Below.refl w10.heap.size w10).drew).trans (hbwa.mono ((Below.refl w10.heap.size w10).drew).size))
      clear hbwa
      refine hK.out _ _ (HK9.out _ Hwa.out) (fun hHeld => ?_)
      clear hK K
      try simp only [Act.put, aS, aZ, aC]
      refine hTk 4 (v := ?_) rfl (by kernel_rfl) (fun _ _ _ h => h) (by rfl) ?_ (by assumption) ?_
      rotate_left; · intro w' hSw; (try dsimp only at hSw); go_simp; try with_reducible rfl
      try simp only [Act.put, aS, aZ, aC]
      refine take_env (i := 5) (oi := { dst := some 54, op := Op.load 26 (Operand.tmp 8), type := 26, pos := "more.go:40", after := #[{ on := 4, ground := Ground.guard }], guard := some (4, false) }) (Operand.tmp 8) rfl (by kernel_rfl) (by kernel_rfl) (by kernel_rfl) ea en ec (Z) (fun _ _ _ h => h) (by rfl) rfl (E) rfl (HE.out.2.2.2.1) (fun w h => h) (by assumption) ?_
      try simp only [Act.put, aS, aZ, aC]
      refine hTk 6 (v := ?_) rfl (by kernel_rfl) (fun _ _ _ h => h) (by rfl) ?_ (by assumption) ?_
      rotate_left; · intro w' hSw; (try dsimp only at hSw); go_simp; try with_reducible rfl
      try simp only [Act.put, aS, aZ, aC]
      refine hTk 7 (v := ?_) rfl (by kernel_rfl) (fun _ _ _ h => h) (by rfl) ?_ (by assumption) ?_
      rotate_left; · intro w' hSw; (try dsimp only at hSw); go_simp; try with_reducible rfl
      try simp only [Act.put, aS, aZ, aC]
      refine hTk 8 (v := ?_) rfl (by kernel_rfl) (fun _ _ _ h => h) (by rfl) ?_ (by assumption) ?_
      rotate_left; · intro w' hSw; (try dsimp only at hSw); go_simp; try with_reducible rfl
      try simp only [Act.put, aS, aZ, aC]
      refine hTk 9 (v := ?_) rfl (by kernel_rfl) (fun _ _ _ h => h) (by rfl) ?_ (by assumption) ?_
      rotate_left; · intro w' hSw; (try dsimp only at hSw); go_simp; try with_reducible rfl
      try simp only [Act.put, aS, aZ, aC]
      refine hTk 10 (v := ?_) rfl (by kernel_rfl) (fun _ _ _ h => h) (by rfl) ?_ (by assumption) ?_
      rotate_left; · intro w' hSw; (try dsimp only at hSw); go_simp; try with_reducible rfl
      try simp only [Act.put, aS, aZ, aC]
      refine hTk 11 (v := ?_) rfl (by kernel_rfl) (fun _ _ _ h => h) (by rfl) ?_ (by assumption) ?_
      rotate_left; · intro w' hSw; (try dsimp only at hSw); go_simp; try with_reducible rfl
      try simp only [Act.put, aS, aZ, aC]
      refine wpAnyH_ready (rs := [12]) (by kernel_rfl) (by simp) ?_
      refine AllReadyH.cons (o := { dst := some 61, op := Op.call { callee := Callee.value (Operand.func 11), args := #[Operand.tmp 54, Operand.tmp 59, Operand.tmp 60], argTypes := #[26, 27, 28] }, type := 4, pos := "more.go:40", after := #[{ on := 5, ground := Ground.data }, { on := 10, ground := Ground.data }, { on := 11, ground := Ground.data }, { on := 4, ground := Ground.chain }, { on := 4, ground := Ground.guard }], guard := some (4, false) }) rfl (fun K hK => ?_) ?_
      · go_simp
        (go_at_call 11; (with_reducible refine (K2.out _ Hwa.out).mono ?_); rintro e wb ⟨rfl, hbwb⟩)
        have Hwb : Hid (Below w10.heap.size w10 wb) := Lib.hid ((Hwa.out).trans (hbwb.mono (Hwa.out).size))
        clear hbwb
        refine hK.out _ _ (HK9.out _ Hwb.out) (fun hHeld => ?_)
        clear hK K
        try simp only [Act.put, aS, aZ, aC]
        refine hTk 13 (v := ?_) rfl (by kernel_rfl) (fun _ _ _ h => h) (by rfl) ?_ (by assumption) ?_
        rotate_left; · intro w' hSw; (try dsimp only at hSw); go_simp; try with_reducible rfl
        try simp only [Act.put, aS, aZ, aC]
        refine hTk 14 (v := ?_) rfl (by kernel_rfl) (fun _ _ _ h => h) (by rfl) ?_ (by assumption) ?_
        rotate_left; · intro w' hSw; (try dsimp only at hSw); go_simp; try with_reducible rfl
        try simp only [Act.put, aS, aZ, aC]
        refine take_env (i := 15) (oi := { dst := some 64, op := Op.load 26 (Operand.tmp 8), type := 26, pos := "more.go:40", after := #[{ on := 14, ground := Ground.guard }], guard := some (14, false) }) (Operand.tmp 8) rfl (by kernel_rfl) (by kernel_rfl) (by kernel_rfl) ea en ec (Z) (fun _ _ _ h => h) (by rfl) rfl (E) rfl (HE.out.2.2.2.1) (fun w h => h) (by assumption) ?_
        try simp only [Act.put, aS, aZ, aC]
        refine hTk 16 (v := ?_) rfl (by kernel_rfl) (fun _ _ _ h => h) (by rfl) ?_ (by assumption) ?_
        rotate_left; · intro w' hSw; (try dsimp only at hSw); go_simp; try with_reducible rfl
        try simp only [Act.put, aS, aZ, aC]
        refine hTk 17 (v := ?_) rfl (by kernel_rfl) (fun _ _ _ h => h) (by rfl) ?_ (by assumption) ?_
        rotate_left; · intro w' hSw; (try dsimp only at hSw); go_simp; try with_reducible rfl
        try simp only [Act.put, aS, aZ, aC]
        refine wpAnyH_ready (rs := [18]) (by kernel_rfl) (by simp) ?_
        refine AllReadyH.cons (o := { dst := some 67, op := Op.call { callee := Callee.value (Operand.func 11), args := #[Operand.tmp 64, Operand.tmp 65, Operand.tmp 66], argTypes := #[26, 27, 28] }, type := 4, pos := "more.go:40", after := #[{ on := 15, ground := Ground.data }, { on := 16, ground := Ground.data }, { on := 17, ground := Ground.data }, { on := 14, ground := Ground.chain }, { on := 14, ground := Ground.guard }], guard := some (14, false) }) rfl (fun K hK => ?_) ?_
        · go_simp
          (go_at_call 11; (with_reducible refine (K3.out _ Hwb.out).mono ?_); rintro e wc ⟨rfl, hbwc⟩)
          have Hwc : Hid (Below w10.heap.size w10 wc) := Lib.hid ((Hwb.out).trans (hbwc.mono (Hwb.out).size))
          clear hbwc
          refine hK.out _ _ (HK9.out _ Hwc.out) (fun hHeld => ?_)
          clear hK K
          try simp only [Act.put, aS, aZ, aC]
          refine hTk 19 (v := ?_) rfl (by kernel_rfl) (fun _ _ _ h => h) (by rfl) ?_ (by assumption) ?_
          rotate_left; · intro w' hSw; (try dsimp only at hSw); go_simp; try with_reducible rfl
          try simp only [Act.put, aS, aZ, aC]
          refine hTk 20 (v := ?_) rfl (by kernel_rfl) (fun _ _ _ h => h) (by rfl) ?_ (by assumption) ?_
          rotate_left; · intro w' hSw; (try dsimp only at hSw); go_simp; try with_reducible rfl
          try simp only [Act.put, aS, aZ, aC]
          refine take_env (i := 21) (oi := { dst := some 70, op := Op.load 26 (Operand.tmp 8), type := 26, pos := "more.go:40", after := #[{ on := 20, ground := Ground.guard }], guard := some (20, false) }) (Operand.tmp 8) rfl (by kernel_rfl) (by kernel_rfl) (by kernel_rfl) ea en ec (Z) (fun _ _ _ h => h) (by rfl) rfl (E) rfl (HE.out.2.2.2.1) (fun w h => h) (by assumption) ?_
          try simp only [Act.put, aS, aZ, aC]
          refine hTk 22 (v := ?_) rfl (by kernel_rfl) (fun _ _ _ h => h) (by rfl) ?_ (by assumption) ?_
          rotate_left; · intro w' hSw; (try dsimp only at hSw); go_simp; try with_reducible rfl
          try simp only [Act.put, aS, aZ, aC]
          refine hTk 23 (v := ?_) rfl (by kernel_rfl) (fun _ _ _ h => h) (by rfl) ?_ (by assumption) ?_
          rotate_left; · intro w' hSw; (try dsimp only at hSw); go_simp; try with_reducible rfl
          try simp only [Act.put, aS, aZ, aC]
          refine hTk 24 (v := ?_) rfl (by kernel_rfl) (fun _ _ _ h => h) (by rfl) ?_ (by assumption) ?_
          rotate_left; · intro w' hSw; (try dsimp only at hSw); go_simp; try with_reducible rfl
          try simp only [Act.put, aS, aZ, aC]
          refine hTk 25 (v := ?_) rfl (by kernel_rfl) (fun _ _ _ h => h) (by rfl) ?_ (by assumption) ?_
          rotate_left; · intro w' hSw; (try dsimp only at hSw); go_simp; try with_reducible rfl
          try simp only [Act.put, aS, aZ, aC]
          refine hTk 26 (v := ?_) rfl (by kernel_rfl) (fun _ _ _ h => h) (by rfl) ?_ (by assumption) ?_
          rotate_left; · intro w' hSw; (try dsimp only at hSw); go_simp; try with_reducible rfl
          try simp only [Act.put, aS, aZ, aC]
          refine hTk 27 (v := ?_) rfl (by kernel_rfl) (fun _ _ _ h => h) (by rfl) ?_ (by assumption) ?_
          rotate_left; · intro w' hSw; (try dsimp only at hSw); go_simp; try with_reducible rfl
          try simp only [Act.put, aS, aZ, aC]
          refine wpAnyH_ready (rs := [28]) (by kernel_rfl) (by simp) ?_
          refine AllReadyH.cons (o := { dst := some 77, op := Op.call { callee := Callee.value (Operand.func 11), args := #[Operand.tmp 70, Operand.tmp 71, Operand.tmp 76], argTypes := #[26, 27, 28] }, type := 4, pos := "more.go:40", after := #[{ on := 21, ground := Ground.data }, { on := 22, ground := Ground.data }, { on := 27, ground := Ground.data }, { on := 20, ground := Ground.chain }, { on := 20, ground := Ground.guard }], guard := some (20, false) }) rfl (fun K hK => ?_) ?_
          · go_simp
            (go_at_call 11; (with_reducible refine (K4.out _ Hwc.out).mono ?_); rintro e wd ⟨rfl, hbwd⟩)
            have Hwd : Hid (Below w10.heap.size w10 wd) := Lib.hid ((Hwc.out).trans (hbwd.mono (Hwc.out).size))
            clear hbwd
            refine hK.out _ _ (HK9.out _ Hwd.out) (fun hHeld => ?_)
            clear hK K
            try simp only [Act.put, aS, aZ, aC]
            refine hTk 29 (v := ?_) rfl (by kernel_rfl) (fun _ _ _ h => h) (by rfl) ?_ (by assumption) ?_
            rotate_left; · intro w' hSw; (try dsimp only at hSw); go_simp; try with_reducible rfl
            try simp only [Act.put, aS, aZ, aC]
            refine wpAnyH_done (by kernel_rfl) ?_ _
            refine NoPanic.normal ?_
            have HWD : Hid (Below w5.heap.size w5 wd) := Lib.hid (HB0.out.trans (Hwd.out.mono HB0.out.size))
            have HED := Lib.hid (HE5.out.below HWD.out)
            have HND : Hid (NdS wd (some ⟨fb, fo, none⟩) m fc N) := Lib.hid (H5.out.below HWD.out)
            have HZW : Hid (Below w.heap.size w wd) := Lib.hid (HW5.out.trans (HWD.out.mono HW5.out.size))
            obtain ⟨c0, _, _, _, _⟩ := NdS.at5 HND.out hm0
            rw [Nat.zero_mul, Nat.add_zero] at c0
            obtain ⟨xk, hxk⟩ : ∃ q, q = (nA N 0).k := ⟨_, rfl⟩
            have HXK := Lib.hid hxk
            rw [← hxk] at c0
            clear hxk hsl1 hsl2
            cases h3 : (xk == 3) with
            | false =>
              have h3' : (xk != 3) = true := by simp only [bne, h3, Bool.not_false]
              go_wp2
              go_ret
              exact ⟨rfl, HZW.out⟩
            | true =>
              have h3' : (xk != 3) = false := by simp only [bne, h3, Bool.not_true]
              have HR0 : Hid (rightB [] Z tk N = false) := Lib.hid (by
                have hd := nA_drop (L := N) (k := 0) (by rw [← HM.out]; exact hm0)
                rw [List.drop_zero] at hd
                rw [hd]
                exact right_noop (by rw [← HXK.out]; exact eq_of_beq h3) Z tk)
              go_wp2_with (first
                | (refine load_er rfl (.tmp 87) rfl E rfl ea en ec Z HE.out.2.2.2.1 HED.out ?_)
                | (refine build_erw rfl (.tmp 88) rfl Z HE.out.2.2.2.1 rfl ?_))
              refine (tright_any none 0 0 [] Z (some ⟨sb, so, none⟩) sl sc tk (some ⟨fb, fo, none⟩) m fc N wd (HT.out.keep HZW.out) (Vs.nil _ _ _ _ (Nat.zero_le _)) HE.out.2.2.2.1 HE.out.2.2.2.2 (HS5.out.below HWD.out) HND.out (by decide) (fun o h => by cases h) (by omega) (by omega) HNM.out).mono ?_
              rw [HR0.out]
              rintro e we ⟨rfl, hbe⟩
              have HBE : Hid (Below w.heap.size w we) := Lib.hid (HZW.out.trans (hbe.mono HZW.out.size))
              clear hbe
              go_wp2
              go_ret
              exact ⟨rfl, HBE.out⟩
          · exact AllReadyH.nil
        · exact AllReadyH.nil
      · exact AllReadyH.nil
    · exact AllReadyH.nil

end Go.Proofs.YtkaeanaeklilfaaGreatDoor
