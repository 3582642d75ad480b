import Derived.Test.YtanhpgmiadgmjaaGreatDoorR49
import Derived.Test.YtanhpgmiadgmjaaGreatDoorR50
import Derived.Test.YtanhpgmiadgmjaaGreatDoorR51
namespace Go.Proofs.YtanhpgmiadgmjaaGreatDoor
section
open Go.RowKit
def isO (x : TK) : Bool := x.k == 6 && txN x == [40]
def isC (x : TK) : Bool := x.k == 6 && txN x == [41]
theorem clB_nil (x : TK) : clB [] x = isC x := by
 unfold clB isC
 rw [List.any_nil, Bool.and_false, Bool.or_false]
theorem opB_nil (x : TK) : opB [] x = isO x := by
 unfold opB isO
 rw [List.any_nil, Bool.and_false, Bool.or_false]
theorem isO_not {x : TK} (h : isO x = true) : isC x = false := by
 unfold isO at h
 unfold isC
 simp only [Bool.and_eq_true, beq_iff_eq] at h
 rw [h.2]
 simp
def dR (tok : List TK) (k : Nat) (d : Int) (r : Bool) : Prop :=
 (-(k : Int) ≤ d ∧ d ≤ (k : Int)) ∧ (if r then ∃ n : Nat, d = (n : Int) ∧ bal [] (tok.take k) 0 = some n else bal [] (tok.take k) 0 = none)
theorem dR_zero (tok : List TK) : dR tok 0 0 true := ⟨by omega, 0, rfl, by rw [List.take_zero]; rfl⟩
theorem bal_one (x : TK) (n : Nat) : bal [] [x] n = if isC x then (match n with | 0 => none | n + 1 => some (n + b2n (isO x))) else some (n + b2n (isO x)) := by
 unfold bal
 rw [clB_nil, opB_nil]
 split
 ·cases n <;> rfl
 ·rfl
theorem dR_step {tok : List TK} {k : Nat} {d : Int} {r : Bool} (h : dR tok k d r) (hk : k < tok.length) {d' : Int} (hd : d' = d + (if isO (tat tok k) then 1 else 0) - (if isC (tat tok k) then 1 else 0)) : dR tok (k + 1) d' (r && decide (0 ≤ d')) := by
 obtain ⟨h1, h2⟩ := h
 refine ⟨by rw [hd]; split <;> split <;> omega, ?_⟩
 have e : bal [] (tok.take (k + 1)) 0 = (bal [] (tok.take k) 0).bind fun m => bal [] [tat tok k] m := by
  rw [tat_take hk, bal_app]
 rw [e]
 cases r with
 | false =>
  rw [if_neg (by simp)] at h2
  rw [if_neg (by simp), h2]
  rfl
 | true =>
  rw [if_pos rfl] at h2
  obtain ⟨n, rfl, hb⟩ := h2
  rw [hb, Bool.true_and, Option.bind_some, bal_one]
  cases hO : isO (tat tok k) with
  | true =>
   rw [hO, isO_not hO] at hd
   simp only [Bool.false_eq_true, if_true, if_false] at hd
   have h0 : 0 ≤ d' := by omega
   rw [decide_eq_true h0, if_pos rfl, isO_not hO, if_neg (by simp)]
   exact ⟨n + 1, by omega, rfl⟩
  | false =>
   rw [hO] at hd
   cases hC : isC (tat tok k) with
   | false =>
    rw [hC] at hd
    simp only [Bool.false_eq_true, if_false] at hd
    have h0 : 0 ≤ d' := by omega
    rw [decide_eq_true h0, if_pos rfl, if_neg (by simp)]
    exact ⟨n, by omega, rfl⟩
   | true =>
    rw [hC] at hd
    simp only [Bool.false_eq_true, if_true, if_false] at hd
    rw [if_pos rfl]
    cases n with
    | zero =>
     rw [decide_eq_false (by omega), if_neg (by simp)]
    | succ n =>
     rw [decide_eq_true (by omega), if_pos rfl]
     exact ⟨n, by omega, rfl⟩
theorem dR_end {tok : List TK} {d : Int} {r : Bool} (h : dR tok tok.length d r) : bal [] tok 0 = some 0 ↔ r = true ∧ d = 0 := by
 obtain ⟨_, h2⟩ := h
 rw [List.take_length] at h2
 cases r with
 | false =>
  rw [if_neg (by simp)] at h2
  rw [h2]
  simp
 | true =>
  rw [if_pos rfl] at h2
  obtain ⟨n, rfl, hb⟩ := h2
  rw [hb]
  simp
theorem cnt_size {L : List OP} {z : List Int} {tok : List TK} {n : Nat} {t : List ND} (h : CntP L z tok n t) : t.length ≤ tok.length := by
 cases h with
 | none h => exact Nat.zero_le _
 | one h _ => have := dv_size h; omega
 | two _ _ _ => exact Nat.zero_le _
theorem bare_brk (a b : Int) (t : List ND) : bareL (⟨2, [], a, b, 1⟩ :: t.map (ND.sh (-1))) = bareL t := by
 rw [← bare_sh (-1) t]
 unfold bareL
 rw [List.filter_cons_of_neg (by simp)]
end
section
open Go.RowKit
theorem step_oneT {ops : Array Oper} {o : Oper} {A : Act} {w : World} {K : Act → World → Prop} {Q : Exit → Act → World → Prop} {E : Prop} (hgd : o.guard = none) (x : Operand) (ho : o.op = .buildSlice 23 1 #[(0, x)]) (k f t : Int) (s : Nm) (e : Int) (hx : A.eval x = .agg #[.int .i64 k, .int .i64 f, .int .i64 t, .string (mk s), .int .i64 e])
  (kk : ∀ w' g, g = w.heap.size → T5 w' g k f t s e → Below w.heap.size w w' → K (A.put o.dst (.slice (some ⟨g, 0, none⟩) 1 1)) w') : if Region.wanted o (yielded ops A.tmps) = true then o.wp Tryz.prog A w K Q else E := by
 rw [if_pos (show Region.wanted o (yielded ops A.tmps) = true by simp [Region.wanted, hgd])]
 have h := kk _ w.heap.size rfl (T5.new w k f t s e) (below_alloc w _)
 have hr : (Instr.buildSlice 23 1 #[(0, .agg #[.int .i64 k, .int .i64 f, .int .i64 t, .string (mk s), .int .i64 e])]).run Tryz.prog w = .ok (.slice (some ⟨w.heap.size, 0, none⟩) 1 1) (w.alloc (.cells #[.int .i64 k, .int .i64 f, .int .i64 t, .string (mk s), .int .i64 e] 41)) := by kernel_rfl
 unfold Oper.wp execOp
 simp only [ho, List.map_toArray, List.map_cons, List.map_nil, hx, hr, Sem.run_bind, Result.andThen_ok, Sem.run_pure]
 exact h
theorem T5.own {base g : Nat} {w : World} {k f t : Int} {s : Nm} {e : Int} (h : T5 w g k f t s e) (hb : base ≤ g) : OwnT base 41 w (some ⟨g, 0, none⟩) 1 1 [⟨k, f, t, mk s, e⟩] :=
 ⟨by rw [rowT_len]; rfl, .inr ⟨g, 1, _, rfl, hb, h, Nat.le_refl _, by unfold maxLen; omega, rfl, rfl⟩⟩
theorem step_appT {ops : Array Oper} {w : World} {o : Oper} {a : Act} {K : Act → World → Prop} {Q : Exit → Act → World → Prop} {E : Prop} (hgd : o.guard = none) (s x : Operand)
  (ho : o.op = .call { callee := .builtin .append, args := #[s, x], argTypes := #[23, 23] })
  (base : Nat) (sa : Option Addr) (n c : Nat) (L : List TK) (hs : a.eval s = .slice sa n c) (hown : OwnT base 41 w sa n c L)
  (xa : Option Addr) (m d : Nat) (M : List TK) (hx : a.eval x = .slice xa m d) (hb : Ts w xa m d M)
  (hbig : n + m ≤ 1000000000000) (hbase : base ≤ w.heap.size)
  (h : ∀ a' c' w', OwnT base 41 w' a' (n + m) c' (L ++ M) → w.grownBy w' (Value.ownBlock (.slice sa n c)) → Below base w w' → K (a.put o.dst (.slice a' (n + m) c')) w') : if Region.wanted o (yielded ops a.tmps) = true then o.wp Tryz.prog a w K Q else E := by
 rw [if_pos (show Region.wanted o (yielded ops a.tmps) = true by simp [Region.wanted, hgd])]
 exact wp_appT s x ho base sa n c L hs hown xa m d M hx hb hbig hbase h
theorem T5.grown {w w' : World} {b g : Nat} {n c : Nat} {k f t : Int} {s : Nm} {e : Int} (h : T5 w b k f t s e) (hg : w.grownBy w' (Value.ownBlock (.slice (some ⟨g, 0, none⟩) n c))) (hne : b ≠ g) : T5 w' b k f t s e :=
 (hg.block b (Array.getElem?_eq_some_iff.1 h).1 (fun e => by simp only [Value.ownBlock, Option.some.injEq] at e; omega)).trans h
theorem is_40 : ((mk [40]).toList == [40]) = true := by rw [mk_toList]; rfl
theorem is_41 : ((mk [41]).toList == [41]) = true := by rw [mk_toList]; rfl
theorem no_40 : ((mk [41]).toList == [40]) = false := by rw [mk_toList]; rfl
theorem no_41 : ((mk [40]).toList == [41]) = false := by rw [mk_toList]; rfl
def tkO : TK := ⟨6, 0, 0, mk [40], 0⟩
def tkC : TK := ⟨6, 0, 0, mk [41], 0⟩
set_option maxRecDepth 100000 in
set_option maxHeartbeats 32000000 in
theorem deriveBrackets_any (ca : Option Addr) (cl cc : Nat) (C : List CH) (la : Option Addr) (ln lc : Nat) (l : List TK) (w : World) (ht : Tab w) (hC : ChS w ca cl cc C) (hok : ∀ x ∈ C, okC x) (hl : Ts w la ln lc l) :
  Calls Tryz.prog 4 #[.slice ca cl cc, .slice la ln lc] w fun e w' => e = .returned (.bool true) ∧ Below w.heap.size w w' := by
 have HT := hid ht
 have HL := hid hl
 have HC := hid hC
 obtain ⟨L, Z, hRO, hE, hmk⟩ := make_lit ca cl cc C hok
 have HE := hid hE
 have HSR : Hid (Srt L) := hid hE.1
 have HZL : Hid (Z.length = 10) := hid hE.2.2.2.1
 have HZR : Hid (∀ i, i < 10 → I64 (bt Z i)) := hid hE.2.2.2.2
 have HRO := hid hRO
 have HMK := hid hmk
 obtain ⟨tok, htok⟩ : ∃ q, q = shortU l := ⟨_, rfl⟩
 have HTL : Hid (tok.length ≤ 16) := hid (by rw [htok]; exact shortU_len l)
 have HTK := hid htok
 clear ht hl hC hok hE hmk hRO htok
 go_enter Tryz.func4, Tryz.ntmps4
 go_wp2_with fail
 refine (dshown_any w HT.out).mono ?_
 rintro e w1 ⟨rfl, hb1⟩
 have HB1 := hid hb1
 clear hb1
 go_wp2_with fail
 refine (HMK.out w1 (HC.out.below HB1.out)).mono ?_
 rintro e w2 ⟨ea, en, ec, rfl, ho2, hb2⟩
 have HO2 : Hid (OpS w2 ea en ec L) := hid ho2.vs
 have HB2 : Hid (Below w.heap.size w w2) := hid (HB1.out.trans (hb2.mono HB1.out.size))
 obtain ⟨E, hE⟩ : ∃ q, q = w2.heap.size := ⟨_, rfl⟩
 have HEE := hid hE
 have hnew : EB (w2.alloc (.cells #[.slice none 0 0, .int .i64 0, .int .i64 0, .int .i64 0, .int .i64 0, .int .i64 0, .int .i64 0, .int .i64 0, .int .i64 0, .int .i64 0, .int .i64 0] 30)) E none 0 0 z0 := by rw [HEE.out]; exact EB.new w2 none 0 0 z0
 have HNEW := hid hnew
 clear ho2 hb2 hE hnew HB1
 go_wp2_with (refine store_env rfl (.tmp 6) (.tmp 21) rfl E (by rw [HEE.out]; rfl) ea en ec Z rfl HE.out.2.2.2.1 none 0 0 z0 z0_len HNEW.out ?_; rw [← HEE.out]; intro w3 h3 ho3; have H3 := hid h3; have HB3 : Hid (Below w2.heap.size w2 w3) := hid ((below_alloc w2 _).trans (ho3.below (by rw [HEE.out]; exact Nat.le_refl _))); clear h3 ho3)
 have HB3W : Hid (Below w.heap.size w w3) := hid (HB2.out.trans (HB3.out.mono HB2.out.size))
 have HO3 : Hid (OpS w3 ea en ec L) := hid (HO2.out.below HB3.out)
 have HL3 : Hid (Ts w3 la ln lc l) := hid (HL.out.below HB3W.out)
 have HEN : Hid (en ≤ 16) := hid (by rw [← OpS.len HO3.out]; exact HE.out.2.2.1)
 have HNM : Hid (∀ o ∈ L, o.1.length ≤ 1000000) := hid fun o ho => by have := (HE.out.2.1 o ho).2; omega
 clear HNEW HEE HB2 HO2 HB3
 refine (dfew_any la ln lc l w3 HL3.out).mono ?_
 rw [← HTK.out]
 rintro e w4 ⟨fa, fc, rfl, hf, hb4⟩
 have HF4 := hid hf.ts
 have HB4 : Hid (Below w3.heap.size w3 w4) := hid hb4
 have HE4 := hid (H3.out.below hb4)
 obtain ⟨G, hG⟩ : ∃ q, q = w4.heap.size := ⟨_, rfl⟩
 have HG := hid hG
 have hz : T5 (w4.alloc (.cells #[.int .i64 0, .int .i64 0, .int .i64 0, .string ⟨#[]⟩, .int .i64 0] 41)) G 0 0 0 [] 0 := by rw [HG.out]; exact T5.zero w4
 have HZ := hid hz
 clear hf hb4 hG hz
 go_upto_region 5 with (refine store_t5w rfl (.tmp 8) (.tmp 24) rfl G (by rw [HG.out]; rfl) 6 0 0 [40] 0 rfl 0 0 0 [] 0 HZ.out ?_; rw [← HG.out]; intro w5 h5 ho5; have HO5 : Hid (T5 w5 G 6 0 0 [40] 0) := hid h5; have HB45 : Hid (Below w4.heap.size w4 w5) := hid ((below_alloc w4 _).trans (ho5.below (by rw [HG.out]; exact Nat.le_refl _))); clear h5 ho5)
 obtain ⟨F, hF⟩ : ∃ q, q = w5.heap.size := ⟨_, rfl⟩
 have HFF := hid hF
 have hz : T5 (w5.alloc (.cells #[.int .i64 0, .int .i64 0, .int .i64 0, .string ⟨#[]⟩, .int .i64 0] 41)) F 0 0 0 [] 0 := by rw [HFF.out]; exact T5.zero w5
 have HZ2 := hid hz
 clear hF hz HZ HG
 go_upto_region 6 with (refine store_t5w rfl (.tmp 9) (.tmp 25) rfl F (by rw [HFF.out]; rfl) 6 0 0 [41] 0 rfl 0 0 0 [] 0 HZ2.out ?_; rw [← HFF.out]; intro w6 h6 ho6; have HC6 : Hid (T5 w6 F 6 0 0 [41] 0) := hid h6; have HB56 : Hid (Below w5.heap.size w5 w6) := hid ((below_alloc w5 _).trans (ho6.below (by rw [HFF.out]; exact Nat.le_refl _))); clear h6 ho6)
 have HB6 : Hid (Below w3.heap.size w3 w6) := hid (HB4.out.trans ((HB45.out.trans (HB56.out.mono HB45.out.size)).mono HB4.out.size))
 have HO6 := hid (HO5.out.below HB56.out)
 have HF6 : Hid (Ts w6 fa tok.length fc tok) := hid (HF4.out.below (HB45.out.trans (HB56.out.mono HB45.out.size)))
 have HE6 := hid (H3.out.below HB6.out)
 clear HZ2 HFF HB45 HB56 HB4 HF4 HE4 HO5
 go_wp2_with (refine load_env rfl (.tmp 6) rfl E rfl ea en ec Z HZL.out HE6.out ?_)
 refine (count_any ea en ec L Z fa tok.length fc tok w6 (HT.out.keep (HB3W.out.trans (HB6.out.mono HB3W.out.size))) (HO3.out.below HB6.out) HF6.out HZL.out HZR.out HSR.out (by have := HEN.out; omega) HNM.out (by have := HTL.out; omega)).mono ?_
 rintro e w7 ⟨n1, T1, na, nc, rfl, hn, hc, hb7⟩
 have HN7 := hid hn
 have HC1 := hid hc
 have HB7 : Hid (Below w3.heap.size w3 w7) := hid (HB6.out.trans (hb7.mono HB6.out.size))
 have HF7 : Hid (Ts w7 fa tok.length fc tok) := hid (HF6.out.below hb7)
 have HO7 := hid (HO6.out.below hb7)
 have HC7 := hid (HC6.out.below hb7)
 have HE7 := hid (H3.out.below HB7.out)
 have HOL7 : Hid (OpS w7 ea en ec L) := hid (HO3.out.below HB7.out)
 clear hn hc hb7 HF6 HO6 HC6 HE6 HB6
 go_upto_region 7 with fail
 have HBW7 : Hid (Below w.heap.size w w7) := hid (HB3W.out.trans (HB7.out.mono HB3W.out.size))
 have HKS : Hid (∀ u, Below w7.heap.size w7 u → EB u E ea en ec Z ∧ T5 u G 6 0 0 [40] 0 ∧ T5 u F 6 0 0 [41] 0) := hid fun u hu => ⟨HE7.out.below hu, HO7.out.below hu, HC7.out.below hu⟩
 go_cut [12, 13] (fun u v wx => ∃ (m : Nat) (T : List ND) (a : Option Addr) (c : Nat), u = .int .i64 ((m : Nat) : Int) ∧ v = .slice a T.length c ∧ Hid (NdS wx a T.length c T) ∧ Hid (CntP L Z ([tkO] ++ tok ++ [tkC]) m T) ∧ Hid (Below w7.heap.size w7 wx))
 case first =>
  refine wp_region_noPanic ?_
  refine wp_region_held_drew (S := fun u => EB u E ea en ec Z ∧ T5 u G 6 0 0 [40] 0 ∧ T5 u F 6 0 0 [41] 0) (by kernel_rfl) (HKS.out _ (Below.refl _ _).drew) (fun hHeld => ?_)
  refine zT 0 (v := .agg (ev ea en ec Z)) rfl (fun w0 h0 => ex_load rt_env (.tmp 6) E rfl (ev ea en ec Z) (ev_size HZL.out) h0.1) ?_
  try simp only [Act.put, aS, aZ, aC]
  refine zT 1 (v := .agg #[.int .i64 6, .int .i64 0, .int .i64 0, .string (mk [40]), .int .i64 0]) rfl (fun w0 h0 => ex_load rt_token (.tmp 8) G rfl #[.int .i64 6, .int .i64 0, .int .i64 0, .string (mk [40]), .int .i64 0] rfl h0.2.1) ?_
  try simp only [Act.put, aS, aZ, aC]
  refine zG 3 rfl ?_
  try simp only [Act.put, aS, aZ, aC]
  refine zT 5 (v := .agg #[.int .i64 6, .int .i64 0, .int .i64 0, .string (mk [41]), .int .i64 0]) rfl (fun w0 h0 => ex_load rt_token (.tmp 9) F rfl #[.int .i64 6, .int .i64 0, .int .i64 0, .string (mk [41]), .int .i64 0] rfl h0.2.2) ?_
  try simp only [Act.put, aS, aZ, aC]
  refine zR [2, 6] ?_
  refine hDo rfl (fun K hK => ?_) ?_
  ·refine step_oneT rfl (.tmp 34) rfl 6 0 0 [40] 0 rfl ?_
   intro v1 g1 hg1 ht1 hb1
   have HX1 : Hid (Below w7.heap.size w7 v1) := hid ((Below.refl w7.heap.size w7).drew.trans (hb1.mono (Below.refl w7.heap.size w7).drew.size))
   have HT1 := hid ht1
   have HG1 : Hid (w7.heap.size ≤ g1) := hid (by rw [hg1]; exact (Below.refl w7.heap.size w7).drew.size)
   clear hg1 ht1 hb1
   refine hK.out _ _ (HKS.out _ HX1.out) (fun hHeld => ?_)
   clear hK K
   try simp only [Act.put, aS, aZ, aC]
   refine zR [4, 6] ?_
   refine hDo rfl (fun K hK => ?_) ?_
   ·refine step_appT rfl (.tmp 35) (.tmp 36) rfl w7.heap.size (some ⟨g1, 0, none⟩) 1 1 [tkO] rfl (HT1.out.own HG1.out) fa tok.length fc tok rfl (HF7.out.below HX1.out) (by have := HTL.out; omega) HX1.out.size ?_
    intro a2 c2 v2 ho2 hg2 hb2
    have HX2 : Hid (Below w7.heap.size w7 v2) := hid (HX1.out.trans hb2)
    have HR2 := hid ho2
    clear ho2 hg2 hb2
    refine hK.out _ _ (HKS.out _ HX2.out) (fun hHeld => ?_)
    clear hK K
    try simp only [Act.put, aS, aZ, aC]
    refine zR [6] ?_
    refine hDo rfl (fun K hK => ?_) ?_
    ·refine step_oneT rfl (.tmp 38) rfl 6 0 0 [41] 0 rfl ?_
     intro v3 g3 hg3 ht3 hb3
     have HX3 : Hid (Below w7.heap.size w7 v3) := hid (HX2.out.trans (hb3.mono HX2.out.size))
     have HT3 := hid ht3
     have HG3 : Hid (w7.heap.size ≤ g3) := hid (by rw [hg3]; exact HX2.out.size)
     have HR3 := hid (HR2.out.keep hb3 (Nat.le_refl _))
     clear hg3 ht3 hb3
     refine hK.out _ _ (HKS.out _ HX3.out) (fun hHeld => ?_)
     clear hK K
     try simp only [Act.put, aS, aZ, aC]
     refine zR [7] ?_
     refine hDo rfl (fun K hK => ?_) ?_
     ·refine step_appT rfl (.tmp 37) (.tmp 39) rfl w7.heap.size a2 (1 + tok.length) c2 ([tkO] ++ tok) rfl HR3.out (some ⟨g3, 0, none⟩) 1 1 [tkC] rfl (HT3.out.own HG3.out).ts (by have := HTL.out; omega) HX3.out.size ?_
      intro a4 c4 v4 ho4 hg4 hb4
      have HX4 : Hid (Below w7.heap.size w7 v4) := hid (HX3.out.trans hb4)
      have HR4 := hid ho4.ts
      clear ho4 hg4 hb4
      refine hK.out _ _ (HKS.out _ HX4.out) (fun hHeld => ?_)
      clear hK K
      try simp only [Act.put, aS, aZ, aC]
      refine zR [8] ?_
      refine hDo rfl (fun K hK => ?_) ?_
      ·go_simp
       (go_at_call 23; (with_reducible refine (count_any ea en ec L Z a4 (1 + tok.length + 1) c4 ([tkO] ++ tok ++ [tkC]) _ (HT.out.keep (HBW7.out.trans (HX4.out.mono HBW7.out.size))) (HOL7.out.below HX4.out) HR4.out HZL.out HZR.out HSR.out (by have := HEN.out; omega) HNM.out (by have := HTL.out; omega)).mono ?_); rintro e v5 ⟨m5, T5, na5, nc5, rfl, hn5, hc5, hb5⟩)
       have HX5 : Hid (Below w7.heap.size w7 v5) := hid (HX4.out.trans (hb5.mono HX4.out.size))
       have HN5 := hid hn5
       have HC5 := hid hc5
       clear hn5 hc5 hb5
       refine hK.out _ _ (HKS.out _ HX5.out) (fun hHeld => ?_)
       clear hK K
       try simp only [Act.put, aS, aZ, aC]
       refine zG 9 rfl ?_
       try simp only [Act.put, aS, aZ, aC]
       refine zG 10 rfl ?_
       try simp only [Act.put, aS, aZ, aC]
       refine zG 11 rfl ?_
       try simp only [Act.put, aS, aZ, aC]
       refine zG 12 rfl ?_
       try simp only [Act.put, aS, aZ, aC]
       refine zG 13 rfl ?_
       try simp only [Act.put, aS, aZ, aC]
       refine wpAnyH_done (by kernel_rfl) ?_ _
       refine NoPanic.normal ?_
       go_wp2
       go_meet
       exact ⟨m5, T5, na5, nc5, rfl, rfl, HN5, HC5, HX5⟩
      exact AllReadyH.nil
     exact AllReadyH.nil
    exact AllReadyH.nil
   refine hDo rfl (fun K hK => ?_) ?_
   ·refine step_oneT rfl (.tmp 38) rfl 6 0 0 [41] 0 rfl ?_
    intro v6 g6 hg6 ht6 hb6
    have HX6 : Hid (Below w7.heap.size w7 v6) := hid (HX1.out.trans (hb6.mono HX1.out.size))
    have HT6 := hid ht6
    have HG6 : Hid (w7.heap.size ≤ g6) := hid (by rw [hg6]; exact HX1.out.size)
    have HL6 : Hid (g1 < g6) := hid (by rw [hg6]; exact (Array.getElem?_eq_some_iff.1 HT1.out).1)
    have HO6 := hid (HT1.out.below hb6)
    clear hg6 ht6 hb6
    refine hK.out _ _ (HKS.out _ HX6.out) (fun hHeld => ?_)
    clear hK K
    try simp only [Act.put, aS, aZ, aC]
    refine zR [4] ?_
    refine hDo rfl (fun K hK => ?_) ?_
    ·refine step_appT rfl (.tmp 35) (.tmp 36) rfl w7.heap.size (some ⟨g1, 0, none⟩) 1 1 [tkO] rfl (HO6.out.own HG1.out) fa tok.length fc tok rfl (HF7.out.below HX6.out) (by have := HTL.out; omega) HX6.out.size ?_
     intro a7 c7 v7 ho7 hg7 hb7
     have HX7 : Hid (Below w7.heap.size w7 v7) := hid (HX6.out.trans hb7)
     have HR7 := hid ho7
     have HO7 := hid (HT6.out.grown hg7 (by have := HL6.out; omega))
     clear ho7 hg7 hb7
     refine hK.out _ _ (HKS.out _ HX7.out) (fun hHeld => ?_)
     clear hK K
     try simp only [Act.put, aS, aZ, aC]
     refine zR [7] ?_
     refine hDo rfl (fun K hK => ?_) ?_
     ·refine step_appT rfl (.tmp 37) (.tmp 39) rfl w7.heap.size a7 (1 + tok.length) c7 ([tkO] ++ tok) rfl HR7.out (some ⟨g6, 0, none⟩) 1 1 [tkC] rfl (HO7.out.own HG6.out).ts (by have := HTL.out; omega) HX7.out.size ?_
      intro a8 c8 v8 ho8 hg8 hb8
      have HX8 : Hid (Below w7.heap.size w7 v8) := hid (HX7.out.trans hb8)
      have HR8 := hid ho8.ts
      clear ho8 hg8 hb8
      refine hK.out _ _ (HKS.out _ HX8.out) (fun hHeld => ?_)
      clear hK K
      try simp only [Act.put, aS, aZ, aC]
      refine zR [8] ?_
      refine hDo rfl (fun K hK => ?_) ?_
      ·go_simp
       (go_at_call 23; (with_reducible refine (count_any ea en ec L Z a8 (1 + tok.length + 1) c8 ([tkO] ++ tok ++ [tkC]) _ (HT.out.keep (HBW7.out.trans (HX8.out.mono HBW7.out.size))) (HOL7.out.below HX8.out) HR8.out HZL.out HZR.out HSR.out (by have := HEN.out; omega) HNM.out (by have := HTL.out; omega)).mono ?_); rintro e v9 ⟨m9, T9, na9, nc9, rfl, hn9, hc9, hb9⟩)
       have HX9 : Hid (Below w7.heap.size w7 v9) := hid (HX8.out.trans (hb9.mono HX8.out.size))
       have HN9 := hid hn9
       have HC9 := hid hc9
       clear hn9 hc9 hb9
       refine hK.out _ _ (HKS.out _ HX9.out) (fun hHeld => ?_)
       clear hK K
       try simp only [Act.put, aS, aZ, aC]
       refine zG 9 rfl ?_
       try simp only [Act.put, aS, aZ, aC]
       refine zG 10 rfl ?_
       try simp only [Act.put, aS, aZ, aC]
       refine zG 11 rfl ?_
       try simp only [Act.put, aS, aZ, aC]
       refine zG 12 rfl ?_
       try simp only [Act.put, aS, aZ, aC]
       refine zG 13 rfl ?_
       try simp only [Act.put, aS, aZ, aC]
       refine wpAnyH_done (by kernel_rfl) ?_ _
       refine NoPanic.normal ?_
       go_wp2
       go_meet
       exact ⟨m9, T9, na9, nc9, rfl, rfl, HN9, HC9, HX9⟩
      exact AllReadyH.nil
     exact AllReadyH.nil
    exact AllReadyH.nil
   exact AllReadyH.nil
  refine hDo rfl (fun K hK => ?_) ?_
  ·refine step_oneT rfl (.tmp 38) rfl 6 0 0 [41] 0 rfl ?_
   intro v10 g10 hg10 ht10 hb10
   have HX10 : Hid (Below w7.heap.size w7 v10) := hid ((Below.refl w7.heap.size w7).drew.trans (hb10.mono (Below.refl w7.heap.size w7).drew.size))
   have HT10 := hid ht10
   have HG10 : Hid (w7.heap.size ≤ g10) := hid (by rw [hg10]; exact (Below.refl w7.heap.size w7).drew.size)
   clear hg10 ht10 hb10
   refine hK.out _ _ (HKS.out _ HX10.out) (fun hHeld => ?_)
   clear hK K
   try simp only [Act.put, aS, aZ, aC]
   refine zR [2] ?_
   refine hDo rfl (fun K hK => ?_) ?_
   ·refine step_oneT rfl (.tmp 34) rfl 6 0 0 [40] 0 rfl ?_
    intro v11 g11 hg11 ht11 hb11
    have HX11 : Hid (Below w7.heap.size w7 v11) := hid (HX10.out.trans (hb11.mono HX10.out.size))
    have HT11 := hid ht11
    have HG11 : Hid (w7.heap.size ≤ g11) := hid (by rw [hg11]; exact HX10.out.size)
    have HL11 : Hid (g10 < g11) := hid (by rw [hg11]; exact (Array.getElem?_eq_some_iff.1 HT10.out).1)
    have HO11 := hid (HT10.out.below hb11)
    clear hg11 ht11 hb11
    refine hK.out _ _ (HKS.out _ HX11.out) (fun hHeld => ?_)
    clear hK K
    try simp only [Act.put, aS, aZ, aC]
    refine zR [4] ?_
    refine hDo rfl (fun K hK => ?_) ?_
    ·refine step_appT rfl (.tmp 35) (.tmp 36) rfl w7.heap.size (some ⟨g11, 0, none⟩) 1 1 [tkO] rfl (HT11.out.own HG11.out) fa tok.length fc tok rfl (HF7.out.below HX11.out) (by have := HTL.out; omega) HX11.out.size ?_
     intro a12 c12 v12 ho12 hg12 hb12
     have HX12 : Hid (Below w7.heap.size w7 v12) := hid (HX11.out.trans hb12)
     have HR12 := hid ho12
     have HO12 := hid (HO11.out.grown hg12 (by have := HL11.out; omega))
     clear ho12 hg12 hb12
     refine hK.out _ _ (HKS.out _ HX12.out) (fun hHeld => ?_)
     clear hK K
     try simp only [Act.put, aS, aZ, aC]
     refine zR [7] ?_
     refine hDo rfl (fun K hK => ?_) ?_
     ·refine step_appT rfl (.tmp 37) (.tmp 39) rfl w7.heap.size a12 (1 + tok.length) c12 ([tkO] ++ tok) rfl HR12.out (some ⟨g10, 0, none⟩) 1 1 [tkC] rfl (HO12.out.own HG10.out).ts (by have := HTL.out; omega) HX12.out.size ?_
      intro a13 c13 v13 ho13 hg13 hb13
      have HX13 : Hid (Below w7.heap.size w7 v13) := hid (HX12.out.trans hb13)
      have HR13 := hid ho13.ts
      clear ho13 hg13 hb13
      refine hK.out _ _ (HKS.out _ HX13.out) (fun hHeld => ?_)
      clear hK K
      try simp only [Act.put, aS, aZ, aC]
      refine zR [8] ?_
      refine hDo rfl (fun K hK => ?_) ?_
      ·go_simp
       (go_at_call 23; (with_reducible refine (count_any ea en ec L Z a13 (1 + tok.length + 1) c13 ([tkO] ++ tok ++ [tkC]) _ (HT.out.keep (HBW7.out.trans (HX13.out.mono HBW7.out.size))) (HOL7.out.below HX13.out) HR13.out HZL.out HZR.out HSR.out (by have := HEN.out; omega) HNM.out (by have := HTL.out; omega)).mono ?_); rintro e v14 ⟨m14, T14, na14, nc14, rfl, hn14, hc14, hb14⟩)
       have HX14 : Hid (Below w7.heap.size w7 v14) := hid (HX13.out.trans (hb14.mono HX13.out.size))
       have HN14 := hid hn14
       have HC14 := hid hc14
       clear hn14 hc14 hb14
       refine hK.out _ _ (HKS.out _ HX14.out) (fun hHeld => ?_)
       clear hK K
       try simp only [Act.put, aS, aZ, aC]
       refine zG 9 rfl ?_
       try simp only [Act.put, aS, aZ, aC]
       refine zG 10 rfl ?_
       try simp only [Act.put, aS, aZ, aC]
       refine zG 11 rfl ?_
       try simp only [Act.put, aS, aZ, aC]
       refine zG 12 rfl ?_
       try simp only [Act.put, aS, aZ, aC]
       refine zG 13 rfl ?_
       try simp only [Act.put, aS, aZ, aC]
       refine wpAnyH_done (by kernel_rfl) ?_ _
       refine NoPanic.normal ?_
       go_wp2
       go_meet
       exact ⟨m14, T14, na14, nc14, rfl, rfl, HN14, HC14, HX14⟩
      exact AllReadyH.nil
     exact AllReadyH.nil
    exact AllReadyH.nil
   exact AllReadyH.nil
  exact AllReadyH.nil
 case rest =>
 obtain ⟨m2, T2, na2, nc2, rfl, rfl, HN2, HC2, HB8⟩ := hcut
 obtain ⟨w8, hw8⟩ : ∃ q, q = wc := ⟨_, rfl⟩
 rw [← hw8] at HN2 HB8 ⊢
 clear hw8
 have HE8 := hid (HE7.out.below HB8.out)
 have HO8 := hid (HO7.out.below HB8.out)
 have HW8 : Hid (Below w.heap.size w w8) := hid (HBW7.out.trans (HB8.out.mono HBW7.out.size))
 have HOL8 : Hid (OpS w8 ea en ec L) := hid (HOL7.out.below HB8.out)
 have HN18 : Hid (NdS w8 na T1.length nc T1) := hid (HN7.out.below HB8.out)
 have HF8 : Hid (Ts w8 fa tok.length fc tok) := hid (HF7.out.below HB8.out)
 clear HE7 HO7 HC7 HOL7 HN7 HF7 HKS
 go_wp2_with (first
  | (refine load_env rfl (.tmp 6) rfl E rfl ea en ec Z HZL.out HE8.out ?_)
  | (refine load_t5 rfl (.tmp 8) rfl G rfl 6 0 0 [40] 0 HO8.out ?_))
 refine (count_any ea en ec L Z _ 1 1 [tkO] _ (HT.out.keep (HW8.out.alloc HW8.out.size _)) (HOL8.out.below (below_alloc w8 _)) (Ts.one w8 41 tkO rfl rfl) HZL.out HZR.out HSR.out (by have := HEN.out; omega) HNM.out (by decide)).mono ?_
 rintro e w9 ⟨m3, T3, na3, nc3, rfl, _, hc3, hb9⟩
 obtain ⟨rfl, -⟩ := cntP_fun hc3 (cnt_odd (L := L) (z := Z) (tok := [tkO]) (by rw [bal_one]; decide))
 have HB9 : Hid (Below w8.heap.size w8 w9) := hid ((below_alloc w8 _).trans (hb9.mono (below_alloc w8 _).size))
 have HW9 : Hid (Below w.heap.size w w9) := hid (HW8.out.trans (HB9.out.mono HW8.out.size))
 have HF9 : Hid (Ts w9 fa tok.length fc tok) := hid (HF8.out.below HB9.out)
 have HN19 : Hid (NdS w9 na T1.length nc T1) := hid (HN18.out.below HB9.out)
 have HN29 : Hid (NdS w9 na2 T2.length nc2 T2) := hid (HN2.out.below HB9.out)
 clear hc3 hb9 HE8 HO8 HOL8 HN18 HF8 HN2 HB9 HW8
 obtain ⟨tl, htl⟩ : ∃ q, q = tok.length := ⟨_, rfl⟩
 have HTE := hid htl
 rw [← htl] at HF9 ⊢
 have htl16 : tl ≤ 16 := by rw [htl]; exact HTL.out
 clear htl
 go_wp2
 go_loopw [16, 17, 18] (fun d r i wr => ∃ (k : Nat) (dd : Int) (b : Bool), d = .int .i64 dd ∧ r = .bool b ∧ i = .int .i64 (k : Int) ∧ k ≤ tl ∧ wr = w9 ∧ Hid (dR tok k dd b)) (fun _ _ v _ => tl - (intOf v).toNat)
 case atStart => exact ⟨0, 0, true, rfl, rfl, rfl, Nat.zero_le _, rfl, hid (dR_zero tok)⟩
 case round =>
  obtain ⟨k, dd, b, rfl, rfl, rfl, hk, rfl, HD⟩ := hrel
  have hk0 : (0 : Int) ≤ (k : Int) := Int.natCast_nonneg _
  by_cases hkn : k < tl
  ·have hkI : (k : Int) < (tl : Int) := by omega
   obtain ⟨b0, off, rfl, c0, c1, c2, c3, c4⟩ := tok_at HF9.out hkn
   have hdr := HD.out.1
   have hd1 : -16 ≤ dd := by omega
   have hd2 : dd ≤ 16 := by omega
   have KEY : Hid (∀ d' : Int, d' = dd + (if isO (tat tok k) then 1 else 0) - (if isC (tat tok k) then 1 else 0) → dR tok (k + 1) d' (b && decide (0 ≤ d'))) := hid fun d' hd => dR_step HD.out (by rw [← HTE.out]; exact hkn) hd
   have HI : Hid (isO (tat tok k) = ((tat tok k).k == 6 && txN (tat tok k) == [40]) ∧ isC (tat tok k) = ((tat tok k).k == 6 && txN (tat tok k) == [41])) := hid ⟨rfl, rfl⟩
   obtain ⟨io, hio⟩ : ∃ q, q = isO (tat tok k) := ⟨_, rfl⟩
   obtain ⟨ic, hic⟩ : ∃ q, q = isC (tat tok k) := ⟨_, rfl⟩
   rw [← hio, ← hic] at KEY HI
   obtain ⟨xk, hxk⟩ : ∃ q, q = (tat tok k).k := ⟨_, rfl⟩
   obtain ⟨xn, hxn⟩ : ∃ q, q = txN (tat tok k) := ⟨_, rfl⟩
   rw [← hxk, ← hxn] at HI
   rw [← hxk] at c0
   rw [← hxn] at c3
   clear hio hic hxk hxn c1 c2 c4 hdr
   have is40 := is_40
   have is41 := is_41
   have no40 := no_40
   have no41 := no_41
   have hq : (xk = 6 ∧ xn = [40]) ∨ (xk = 6 ∧ xn = [41]) ∨ (xk = 6 ∧ (xn == [40]) = false ∧ (xn == [41]) = false) ∨ (xk == 6) = false := by
    cases h1 : xk == 6 with
    | false => exact .inr (.inr (.inr rfl))
    | true =>
     cases h2 : xn == [40] with
     | true => exact .inl ⟨eq_of_beq h1, eq_of_beq h2⟩
     | false =>
      cases h3 : xn == [41] with
      | true => exact .inr (.inl ⟨eq_of_beq h1, eq_of_beq h3⟩)
      | false => exact .inr (.inr (.inl ⟨eq_of_beq h1, rfl, rfl⟩))
   rcases hq with ⟨rfl, rfl⟩ | ⟨rfl, rfl⟩ | ⟨rfl, h40, h41⟩ | h6
   ·obtain rfl : io = true := HI.out.1
    obtain rfl : ic = false := HI.out.2
    have KE := hid (KEY.out (dd + 1) (by simp))
    clear KEY HI
    by_cases h0 : 0 ≤ dd + 1
    ·rw [decide_eq_true h0, Bool.and_true] at KE
     cases b <;> (go_wp2; go_roundw; (case rel => exact ⟨k + 1, dd + 1, _, by go_num, rfl, by go_num, by omega, trivial, KE⟩); (case measure => simp [intOf]; omega))
    ·rw [decide_eq_false h0, Bool.and_false] at KE
     cases b <;> (go_wp2; go_roundw; (case rel => exact ⟨k + 1, dd + 1, _, by go_num, rfl, by go_num, by omega, trivial, KE⟩); (case measure => simp [intOf]; omega))
   ·obtain rfl : io = false := HI.out.1
    obtain rfl : ic = true := HI.out.2
    have KE := hid (KEY.out (dd - 1) (by simp))
    clear KEY HI
    by_cases h0 : 1 ≤ dd
    ·rw [decide_eq_true (show 0 ≤ dd - 1 by omega), Bool.and_true] at KE
     cases b <;> (go_wp2; go_roundw; (case rel => exact ⟨k + 1, dd - 1, _, by go_num, rfl, by go_num, by omega, trivial, KE⟩); (case measure => simp [intOf]; omega))
    ·rw [decide_eq_false (show ¬ 0 ≤ dd - 1 by omega), Bool.and_false] at KE
     cases b <;> (go_wp2; go_roundw; (case rel => exact ⟨k + 1, dd - 1, _, by go_num, rfl, by go_num, by omega, trivial, KE⟩); (case measure => simp [intOf]; omega))
   ·obtain rfl : io = false := by rw [HI.out.1, h40]; rfl
    obtain rfl : ic = false := by rw [HI.out.2, h41]; rfl
    have KE := hid (KEY.out dd (by simp))
    have g40 : ((mk xn).toList == [40]) = false := by rw [mk_toList]; exact h40
    have g41 : ((mk xn).toList == [41]) = false := by rw [mk_toList]; exact h41
    clear KEY HI h40 h41
    by_cases h0 : 0 ≤ dd
    ·rw [decide_eq_true h0, Bool.and_true] at KE
     cases b <;> (go_wp2; go_roundw; (case rel => exact ⟨k + 1, dd, _, rfl, rfl, by go_num, by omega, trivial, KE⟩); (case measure => simp [intOf]; omega))
    ·rw [decide_eq_false h0, Bool.and_false] at KE
     cases b <;> (go_wp2; go_roundw; (case rel => exact ⟨k + 1, dd, _, rfl, rfl, by go_num, by omega, trivial, KE⟩); (case measure => simp [intOf]; omega))
   ·obtain rfl : io = false := by rw [HI.out.1, h6]; rfl
    obtain rfl : ic = false := by rw [HI.out.2, h6]; rfl
    have KE := hid (KEY.out dd (by simp))
    clear KEY HI
    by_cases h0 : 0 ≤ dd
    ·rw [decide_eq_true h0, Bool.and_true] at KE
     cases b <;> (go_wp2; go_roundw; (case rel => exact ⟨k + 1, dd, _, rfl, rfl, by go_num, by omega, trivial, KE⟩); (case measure => simp [intOf]; omega))
    ·rw [decide_eq_false h0, Bool.and_false] at KE
     cases b <;> (go_wp2; go_roundw; (case rel => exact ⟨k + 1, dd, _, rfl, rfl, by go_num, by omega, trivial, KE⟩); (case measure => simp [intOf]; omega))
  ·obtain rfl : k = tl := by omega
   have HBE : Hid (bal [] tok 0 = some 0 ↔ b = true ∧ dd = 0) := hid (dR_end (by have := HD.out; rw [HTE.out] at this; exact this))
   clear HD
   by_cases hbal : bal [] tok 0 = some 0
   ·obtain ⟨rfl, rfl⟩ := HBE.out.1 hbal
    have HQ := hid (cntP_fun HC2.out (cnt_brk (o := tkO) (s := tkC) ⟨rfl, rfl⟩ ⟨rfl, rfl⟩ hbal HC1.out))
    have HS1 : Hid (T1.length ≤ 16) := hid (Nat.le_trans (cnt_size HC1.out) HTL.out)
    clear hbal HBE
    obtain ⟨rfl, hT2⟩ := HQ.out
    by_cases hn : m2 = 1
    ·rw [if_pos hn] at hT2
     subst hn
     have hl2 : T2.length = T1.length + 1 := by rw [hT2]; simp
     have hk2 : (nA T2 0).k = 2 := by rw [hT2]; rfl
     have HBR : Hid (bareL T2 = bareL T1) := hid (by rw [hT2]; exact bare_brk _ _ _)
     have HN3 : Hid (NdS wr na2 (T1.length + 1) nc2 T2) := hid (by rw [← hl2]; exact HN29.out)
     rw [hl2]
     clear hT2 HQ HC2 HC1 hl2
     obtain ⟨nb, no, rfl, _, hcc⟩ := HN3.out.at_ (Nat.succ_pos _)
     clear hcc
     obtain ⟨c0, _, _, _, _⟩ := NdS.at5 HN3.out (Nat.succ_pos _)
     rw [Nat.zero_mul, Nat.add_zero, hk2] at c0
     obtain ⟨l1, hl1⟩ : ∃ q, q = T1.length := ⟨_, rfl⟩
     have HL1 := hid hl1
     rw [← hl1] at HN19 HN3 HS1 ⊢
     have h16 := HS1.out
     clear hl1 hk2
     go_wp2_with fail
     refine (tbare_any na l1 nc T1 wr HN19.out (by omega)).mono ?_
     rintro e wx ⟨ba, bc, rfl, ho1, hb1⟩
     have HP1 := hid ho1.vs
     have HX1 := hid hb1
     have HN4 : Hid (NdS wx (some ⟨nb, no, none⟩) (l1 + 1) nc2 T2) := hid (HN3.out.below hb1)
     clear ho1 hb1 c0
     go_wp2_with fail
     refine (tbare_any _ (l1 + 1) nc2 T2 wx HN4.out (by omega)).mono ?_
     rw [HBR.out]
     rintro e wy ⟨ba2, bc2, rfl, ho2, hb2⟩
     have HP2 : Hid (NdS wy ba2 (bareL T1).length bc2 (bareL T1)) := hid ho2.vs
     have HP3 : Hid (NdS wy ba (bareL T1).length bc (bareL T1)) := hid (HP1.out.below hb2)
     have HX2 : Hid (Below wr.heap.size wr wy) := hid (HX1.out.trans (hb2.mono HX1.out.size))
     clear ho2 hb2
     go_wp2_with fail
     refine (nsame_any ba (bareL T1).length bc (bareL T1) ba2 bc2 wy HP3.out HP2.out).mono ?_
     rintro e wz ⟨rfl, hb3⟩
     have HX3 : Hid (Below w.heap.size w wz) := hid (HW9.out.trans ((HX2.out.trans (hb3.mono HX2.out.size)).mono HW9.out.size))
     clear hb3
     go_wp2
     go_ret
     exact ⟨rfl, HX3.out⟩
    ·rw [if_neg hn] at hT2
     subst hT2
     have hmI : ((m2 : Int) == 1) = false := by simpa using fun h => hn (by omega)
     have hmI2 : ((m2 : Int) != 1) = true := by simpa using fun h => hn (by omega)
     clear hn
     go_wp2
     go_ret
     exact ⟨rfl, HW9.out⟩
   ·obtain ⟨rfl, -⟩ := cntP_fun HC1.out (cnt_odd hbal)
    have hno : ¬ (b = true ∧ dd = 0) := fun h => hbal (HBE.out.2 h)
    clear hbal HBE
    cases b with
    | false =>
     go_wp2
     go_ret
     exact ⟨rfl, HW9.out⟩
    | true =>
     have hdd : (dd != 0) = true := by simpa using fun h => hno ⟨rfl, h⟩
     clear hno
     go_wp2
     go_ret
     exact ⟨rfl, HW9.out⟩
end
end Go.Proofs.YtanhpgmiadgmjaaGreatDoor
