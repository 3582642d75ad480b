import Derived.Test.YtanhpgmiadgmjaaGreatDoorT37
import Derived.Test.YtanhpgmiadgmjaaGreatDoorT38
import Derived.Test.YtanhpgmiadgmjaaGreatDoorT39
namespace Go.Proofs.YtanhpgmiadgmjaaGreatDoor
open Go.RowKit
theorem splice_set {α : Type} (L : List α) (p : Nat) (v : α) (h : p < L.length) : splice L p [v] = L.set p v := by
 unfold splice
 rw [List.set_eq_take_append_cons_drop, if_pos h]
 rfl
theorem own_put {base g off n c : Nat} {w : World} {xs : List Value} (h : OwnV base 37 5 w (some ⟨g, off, none⟩) n c xs) {p : Nat} (hp : p < n * 5) :
  off = 0 ∧ base ≤ g ∧ ∃ cur : List Value, w.heap[g]? = some (.cells cur.toArray 37 (0, 0)) ∧ p + 1 ≤ cur.length ∧ ∀ (v : Value) (w' : World), w'.heap[g]? = some (.cells (splice cur p [v]).toArray 37 (0, 0)) → OwnV base 37 5 w' (some ⟨g, off, none⟩) n c (xs.set p v) := by
 have hb := h.bounds
 obtain ⟨g', cur, ha, hbg, hlt, hg, hcs, ht⟩ := h.form (by simp)
 simp only [Option.some.injEq, Addr.mk.injEq, and_true] at ha
 obtain ⟨rfl, rfl⟩ := ha
 have hcl : cur.toList.length = c * 5 := by rw [Array.length_toList]; exact hcs
 have hpl : p < cur.toList.length := by have := hb.2.1; omega
 refine ⟨rfl, hbg, cur.toList, by rw [Array.toArray_toList]; exact hg, hpl, fun v w' hw' => ⟨by rw [List.length_set]; exact hb.1, Or.inr ⟨g, c, (splice cur.toList p [v]).toArray, rfl, hbg, hw', hb.2.1, hb.2.2, ?_, ?_⟩⟩⟩
 ·rw [List.size_toArray, length_splice _ _ _ (by rw [List.length_singleton]; exact hpl)]; exact hcl
 ·show (splice cur.toList p [v]).take (n * 5) = _
  rw [splice_set _ _ _ hpl, List.take_set, ht]
theorem step_store_own {ops : Array Oper} {o : Oper} {A : Act} {w : World} {K : Act → World → Prop} {Q : Exit → Act → World → Prop} {E : Prop} (hgd : o.guard = none) (x y : Operand) (ho : o.op = .store 3 x y)
  (base g off n c : Nat) (xs : List Value) (h : OwnV base 37 5 w (some ⟨g, off, none⟩) n c xs) (p : Nat) (hp : p < n * 5) (v : Int) (hx : A.eval x = .pointer (some ⟨g, off + p, none⟩)) (hy : A.eval y = .int .i64 v)
  (kk : ∀ w', OwnV base 37 5 w' (some ⟨g, off, none⟩) n c (xs.set p (.int .i64 v)) → Only g w w' → base ≤ g → K (A.put o.dst undef) w') : if Region.wanted o (yielded ops A.tmps) = true then o.wp Tryz.prog A w K Q else E := by
 obtain ⟨hoff, hbg, cur, hg, hfit, hput⟩ := own_put h hp
 rw [if_pos (show Region.wanted o (yielded ops A.tmps) = true by simp [Region.wanted, hgd])]
 have hx' : A.eval x = .pointer (some ⟨g, p, none⟩) := by rw [hx, hoff, Nat.zero_add]
 unfold Oper.wp execOp
 simp only [ho, hx', hy, Instr.storeAt, Instr.sureAddr, Sem.run_bind, Sem.run_pure, Result.andThen_ok, run_storeCell_at (P := Tryz.prog) w 3 37 g p cur (.int .i64 v) nint_size1 rfl hg hfit rfl]
 exact kk _ (hput _ _ (setRow_heap w g _ _ _ _ hg)) (Only.ofRow w g _) hbg
def half (d : Int) (S : List ND) (k : Nat) : List ND := (S.take k).map (ND.sh d) ++ S.drop k
theorem half_zero (d : Int) (S : List ND) : half d S 0 = S := by simp [half]
theorem half_all {d : Int} {S : List ND} {k : Nat} (h : S.length ≤ k) : half d S k = S.map (ND.sh d) := by
 unfold half
 rw [List.take_of_length_le h, List.drop_eq_nil_of_le h, List.append_nil]
theorem half_left {d : Int} {S : List ND} {k : Nat} (h : k < S.length) : ((S.take k).map (ND.sh d)).length = k := by rw [List.length_map, List.length_take]; omega
theorem half_at {d : Int} {S : List ND} {k : Nat} (h : k < S.length) : nA (half d S k) k = nA S k := by
 have h1 := nA_right (A := (S.take k).map (ND.sh d)) (B := S.drop k) (j := 0)
 rw [half_left h, Nat.add_zero] at h1
 unfold half
 rw [h1, nA_drop h]
 rfl
theorem half_step {d : Int} {S : List ND} {k : Nat} (h : k < S.length) : ((cN (half d S k)).set (k * 5 + 2) (.int .i64 ((nA S k).f - d))).set (k * 5 + 3) (.int .i64 ((nA S k).t - d)) = cN (half d S (k + 1)) := by
 have hA := half_left (d := d) h
 have e1 : half d S k = (S.take k).map (ND.sh d) ++ (nA S k :: S.drop (k + 1)) := by unfold half; rw [nA_drop h]
 have e2 : half d S (k + 1) = (S.take k).map (ND.sh d) ++ (ND.sh d (nA S k) :: S.drop (k + 1)) := by unfold half; rw [nA_take h, List.map_append, List.append_assoc]; rfl
 rw [e1, e2, cN_app, cN_app, List.set_append_right _ _ (by rw [cN_len, hA]; omega), List.set_append_right _ _ (by rw [cN_len, hA]; omega), cN_len, hA, show k * 5 + 2 - k * 5 = 2 by omega, show k * 5 + 3 - k * 5 = 3 by omega, cN_cons, cN_cons]
 rfl
theorem own_f {base g off n c : Nat} {w : World} {d : Int} {S : List ND} {k : Nat} (h : OwnN base w (some ⟨g, off, none⟩) n c (half d S k)) (hk : k < n) (hS : S.length = n) : w.cell? ⟨g, off + k * 5 + 2, none⟩ = some (.int .i64 (nA S k).f) := by
 have := (NdS.at5 h.vs hk).2.2.1
 rw [half_at (by omega)] at this
 exact this
theorem own_t {base g off n c : Nat} {w : World} {d : Int} {S : List ND} {k : Nat} {v : Value} (h : OwnV base 37 5 w (some ⟨g, off, none⟩) n c ((cN (half d S k)).set (k * 5 + 2) v)) (hk : k < n) (hS : S.length = n) : w.cell? ⟨g, off + k * 5 + 3, none⟩ = some (.int .i64 (nA S k).t) := by
 have hl : (half d S k).length = n := by unfold half; rw [List.length_append, List.length_map, List.length_take, List.length_drop]; omega
 have h1 := (cN_at (half d S k) k (by omega)).2.2.2.1
 rw [← nA_eq (by omega), half_at (by omega)] at h1
 rw [Nat.add_assoc off (k * 5) 3]
 exact (Vs.cells h.vs (show 0 < n by omega) (show k * 5 + 3 < n * 5 by omega)).trans ((List.getElem?_set_ne (by omega)).trans h1)
theorem nd_slice {w : World} {g off n c l h : Nat} {L : List ND} (hv : NdS w (some ⟨g, off, none⟩) n c L) (hl : l < h) (hh : h ≤ n) : ∃ o', (∀ w : World, (Instr.slice 24 (.slice (some ⟨g, off, none⟩) n c) (some (.int .i64 (l : Int))) (some (.int .i64 (h : Int))) none).run Tryz.prog w = .ok (.slice (some ⟨g, o', none⟩) (h - l) (c - l)) w) ∧ NdS w (some ⟨g, o', none⟩) (h - l) (c - l) ((L.take h).drop l) := by
 have hlc := hv.lc
 refine ⟨off + l * 5, fun w => ?_, ?_⟩
 ·have := run_lh nodes_elem Tryz.underlying24 nd_info (g := g) (off := off) (n := n) (c := c) (l := l) (h := h) (by omega) (by omega) w
  rw [if_neg (by omega)] at this
  exact this
 ·have := Vs.sub hv (show l ≤ h by omega) hh
  rw [if_neg (by omega), cN_take, cN_drop] at this
  exact this
theorem right_spans {L : List OP} {z : List Int} {tok : List TK} {N : List ND} (h : rightB L z tok N = true) : ∀ y ∈ N, 0 ≤ y.f ∧ y.f < y.t ∧ y.t ≤ tok.length := fun y hy => by
 obtain ⟨i, hi, e⟩ := List.mem_iff_getElem.1 hy
 obtain ⟨_, _, _, _, h1, h2, h3, _⟩ := right_sub h (i := i) (x := y) (by rw [List.getElem?_eq_getElem hi, e])
 exact ⟨h1, h2, h3⟩
theorem subs_of {L : List OP} {z : List Int} {tok : List TK} {N : List ND} {i : Nat} (h : rightB L z tok N = true) (hi : i < N.length) :
  ∃ q f t : Nat, endV N i = ((i + q : Nat) : Int) ∧ 0 < q ∧ i + q ≤ N.length ∧ (nA N i).f = (f : Int) ∧ (nA N i).t = (t : Int) ∧ f < t ∧ t ≤ tok.length ∧ rightB L z ((tok.take t).drop f) (((N.take (i + q)).drop i).map (ND.sh (f : Int))) = true := by
 obtain ⟨q, h1, h2, h3, h4, h5, h6, h7⟩ := right_sub h (i := i) (x := nA N i) (by rw [List.getElem?_eq_getElem hi, nA_eq hi])
 obtain ⟨f, hf⟩ : ∃ f : Nat, (nA N i).f = f := ⟨(nA N i).f.toNat, by omega⟩
 obtain ⟨t, ht⟩ : ∃ t : Nat, (nA N i).t = t := ⟨(nA N i).t.toNat, by omega⟩
 rw [hf, ht] at h5
 rw [ht] at h6
 rw [hf, ht, Int.toNat_natCast, show ((t : Int) - f).toNat = t - f by omega] at h7
 refine ⟨q, f, t, ?_, h2, h3, hf, ht, by omega, by omega, ?_⟩
 ·rw [end_nat, h1]
  simp only []
  omega
 ·rw [List.drop_take, List.drop_take, show i + q - i = q by omega]
  exact h7
set_option maxRecDepth 100000 in
set_option maxHeartbeats 16000000 in
theorem treeSubs_any (ca : Option Addr) (cl cc : Nat) (C : List CH) (la : Option Addr) (ln lc : Nat) (l : List TK) (a : Option Addr) (n c : Nat) (T : List ND) (w : World) (ht : Tab w) (hC : ChS w ca cl cc C) (hok : ∀ x ∈ C, okC x) (hl : Ts w la ln lc l) (h : NdS w a n c T) :
  Calls Tryz.prog 3 #[.slice ca cl cc, .slice la ln lc, .slice a n c] w fun e w' => e = .returned (.bool true) ∧ Below w.heap.size w w' := by
 have HT := hid ht
 have H := hid h
 have HL := hid hl
 have HC := hid hC
 obtain ⟨L, Z, _, hE, hmk⟩ := make_lit ca cl cc C hok
 have HE := hid hE
 have HMK := hid hmk
 clear ht h hl hC hok hE hmk
 go_enter Tryz.func3, Tryz.ntmps3
 go_wp2_with fail
 refine (shown_any w HT.out).mono ?_
 rintro e w1 ⟨rfl, hb1⟩
 have HB1 := hid hb1
 clear hb1
 go_wp2_with fail
 refine (HMK.out w1 (HC.out.below HB1.out)).mono ?_
 rintro e w2 ⟨ea, en, ec, rfl, ho2, hb2⟩
 have HO2 : Hid (OpS w2 ea en ec L) := hid ho2.vs
 have HB2 : Hid (Below w.heap.size w w2) := hid (HB1.out.trans (hb2.mono HB1.out.size))
 obtain ⟨E, hEE⟩ : ∃ q, q = w2.heap.size := ⟨_, rfl⟩
 have HEE := hid hEE
 clear ho2 hb2 hEE HB1 HMK HC
 have hnew : EB (w2.alloc (.cells #[.slice none 0 0, .int .i64 0, .int .i64 0, .int .i64 0, .int .i64 0, .int .i64 0, .int .i64 0, .int .i64 0, .int .i64 0, .int .i64 0, .int .i64 0] 30)) E none 0 0 z0 := by rw [HEE.out]; exact EB.new w2 none 0 0 z0
 have HNEW := hid hnew
 clear hnew
 go_wp2_with (refine store_env rfl (.tmp 8) (.tmp 17) rfl E (by rw [HEE.out]; rfl) ea en ec Z rfl HE.out.2.2.2.1 none 0 0 z0 z0_len HNEW.out ?_; rw [← HEE.out]; intro w3 h3 ho3; have H3 := hid h3; have HB3 : Hid (Below w2.heap.size w2 w3) := hid ((below_alloc w2 _).trans (ho3.below (by rw [HEE.out]; exact Nat.le_refl _))); clear h3 ho3)
 have HW3 : Hid (Below w.heap.size w w3) := hid (HB2.out.trans (HB3.out.mono HB2.out.size))
 have HO3 : Hid (OpS w3 ea en ec L) := hid (HO2.out.below HB3.out)
 have HLN : Hid (en ≤ 1000000 ∧ ∀ o ∈ L, o.1.length ≤ 1000000) := hid ⟨by have := HE.out.2.2.1; have := OpS.len HO3.out; omega, fun o ho => by have := (HE.out.2.1 o ho).2; omega⟩
 clear HNEW HEE HO2 HB2 HB3
 refine (few_any a n c T w3 (H.out.below HW3.out)).mono ?_
 rintro e w4 ⟨fa, fc, rfl, ho4, hb4⟩
 obtain ⟨N, hN⟩ : ∃ N, N = fewT T := ⟨_, rfl⟩
 rw [← hN] at ho4 ⊢
 have hm20 : N.length ≤ 20 := by rw [hN]; exact fewT_len T
 have HNM : Hid (∀ x ∈ N, x.n.length ≤ 1000000) := hid (by rw [hN]; exact fewT_nm)
 obtain ⟨m, hm⟩ : ∃ m, m = N.length := ⟨_, rfl⟩
 have HM := hid hm
 have H4 : Hid (NdS w4 fa m fc N) := hid (by rw [hm]; exact ho4.vs)
 rw [← hm] at hm20 ⊢
 have HB4 : Hid (Below w3.heap.size w3 w4) := hid hb4
 clear hN hm ho4 hb4
 go_wp2_with fail
 refine (short_any la ln lc l w4 (HL.out.below (HW3.out.trans (HB4.out.mono HW3.out.size)))).mono ?_
 rintro e w5 ⟨sa, sc, rfl, ho5, hb5⟩
 obtain ⟨tk, htk⟩ : ∃ q, q = shortT l := ⟨_, rfl⟩
 rw [← htk] at ho5 ⊢
 have hsl20 : tk.length ≤ 20 := by rw [htk]; exact shortT_len l
 obtain ⟨sl, hsl⟩ : ∃ q, q = tk.length := ⟨_, rfl⟩
 have HSL := hid hsl
 have HS5 : Hid (Ts w5 sa sl sc tk) := hid (by rw [hsl]; exact ho5.ts)
 rw [← hsl] at hsl20 ⊢
 have H5 : Hid (NdS w5 fa m fc N) := hid (H4.out.below hb5)
 have HB5 : Hid (Below w3.heap.size w3 w5) := hid (HB4.out.trans (hb5.mono HB4.out.size))
 have HE5 := hid (H3.out.below HB5.out)
 have HW5 : Hid (Below w.heap.size w w5) := hid (HW3.out.trans (HB5.out.mono HW3.out.size))
 have HO5 : Hid (OpS w5 ea en ec L) := hid (HO3.out.below HB5.out)
 have KR : Hid (∀ (ta : Option Addr) (tn tc : Nat) (t' : List TK) (na : Option Addr) (nn nc : Nat) (T' : List ND) (w' : World), Below w5.heap.size w5 w' → Ts w' ta tn tc t' → NdS w' na nn nc T' → tn ≤ 30 → nn ≤ 30 → (∀ x ∈ T', x.n.length ≤ 1000000) →
   Calls Tryz.prog 19 #[.agg (ev ea en ec Z), .slice ta tn tc, .slice na nn nc] w' fun e w'' => e = .returned (.bool (rightB L Z t' T')) ∧ Below w'.heap.size w' w'') := hid fun ta tn tc t' na nn nc T' w' hb h1 h2 h3 h4 h5 =>
  tright_any ea en ec L Z ta tn tc t' na nn nc T' w' (HT.out.keep (HW5.out.trans (hb.mono HW5.out.size))) (HO5.out.below hb) HE.out.2.2.2.1 HE.out.2.2.2.2 h1 h2 HLN.out.1 HLN.out.2 (by omega) (by omega) h5
 clear htk hsl ho5 hb5 H4 H3 HB4 HW3 HO3 HB5
 go_wp2_with (refine load_env rfl (.tmp 8) rfl E rfl ea en ec Z HE.out.2.2.2.1 HE5.out ?_)
 refine (KR.out sa sl sc tk fa m fc N w5 (Below.refl _ _) HS5.out H5.out (by omega) (by omega) HNM.out).mono ?_
 rintro e w6 ⟨rfl, hb6⟩
 obtain ⟨d, hd⟩ : ∃ d, d = rightB L Z tk N := ⟨_, rfl⟩
 have HD := hid hd
 rw [← hd]
 have HB6 := hid hb6
 have HW6 : Hid (Below w.heap.size w w6) := hid (HW5.out.trans (hb6.mono HW5.out.size))
 have HE6 := hid (HE5.out.below hb6)
 have HS6 : Hid (Ts w6 sa sl sc tk) := hid (HS5.out.below hb6)
 have H6 : Hid (NdS w6 fa m fc N) := hid (H5.out.below hb6)
 clear hd hb6
 cases d with
 | false =>
  go_wp2
  go_ret
  exact ⟨rfl, HW6.out⟩
 | true =>
  go_wp2
  go_loopw [11] (fun u wr => ∃ i : Nat, u = .int .i64 (i : Int) ∧ i ≤ m ∧ Hid (Below w6.heap.size w6 wr)) (fun u _ => m - (intOf u).toNat)
  case atStart => exact ⟨0, rfl, by omega, hid (Below.refl _ _)⟩
  case round =>
   obtain ⟨i, rfl, hi, HB⟩ := hrel
   have hi0 : (0 : Int) ≤ (i : Int) := Int.natCast_nonneg _
   by_cases hlt : i < m
   ·have hltI : (i : Int) < (m : Int) := by omega
    obtain ⟨q, f, t, hev, hq0, hqm, hxf, hxt, hft, htl, hrt⟩ := subs_of HD.out.symm (i := i) (by rw [← HM.out]; exact hlt)
    rw [← HM.out] at hqm
    rw [← HSL.out] at htl
    obtain ⟨ed, hed⟩ : ∃ ed, ed = i + q := ⟨_, rfl⟩
    rw [← hed] at hev hqm hrt
    obtain ⟨b, o, rfl, _, hc⟩ := H6.out.at_ (by omega)
    clear hc
    obtain ⟨sb, so, rfl, _, hc⟩ := HS6.out.at_ (by omega)
    clear hc
    obtain ⟨S, hS⟩ : ∃ S, S = (N.take ed).drop i := ⟨_, rfl⟩
    rw [← hS] at hrt
    have HSL9 : Hid (S.length = q) := hid (by rw [hS, List.length_drop, List.length_take, ← HM.out]; omega)
    have HSM : Hid (∀ y ∈ S, y ∈ N) := hid fun y hy => by rw [hS] at hy; exact List.mem_of_mem_take (List.mem_of_mem_drop hy)
    have HRT : Hid (rightB L Z ((tk.take t).drop f) (S.map (ND.sh (f : Int))) = true) := hid hrt
    have KN : Hid (∀ w', Below w6.heap.size w6 w' → w'.cell? ⟨b, o + i * 5 + 2, none⟩ = some (.int .i64 (f : Int))) := hid fun w' hb => by
     have := (NdS.at5 (H6.out.below hb) hlt).2.2.1
     rw [hxf] at this
     exact this
    have KM : Hid (∀ w', Below w6.heap.size w6 w' → EB w' E ea en ec Z ∧ w'.cell? ⟨b, o + i * 5 + 2, none⟩ = some (.int .i64 (f : Int)) ∧ w'.cell? ⟨b, o + i * 5 + 3, none⟩ = some (.int .i64 (t : Int))) := hid fun w' hb => by
     have := (NdS.at5 (H6.out.below hb) hlt).2.2.2.1
     rw [hxt] at this
     exact ⟨HE6.out.below hb, KN.out w' hb, this⟩
    have KE : Hid (Calls Tryz.prog 20 #[.slice (some ⟨b, o, none⟩) m fc, .int .i64 (i : Int)] wr fun e w' => e = .returned (.int .i64 (ed : Int)) ∧ wr = w') := hid (by
     rw [← hev]
     exact tend_any _ m fc N i wr (H6.out.below HB.out) (by omega) (by omega))
    have HSD : Hid (NdS w6 (some ⟨b, o, none⟩) m fc N ∧ S = (N.take ed).drop i) := hid ⟨H6.out, hS⟩
    have hed1 : i < ed := by omega
    have hq20 : q ≤ 20 := by omega
    have HED : Hid (ed = i + q) := hid hed
    clear hev hxf hxt hrt hS hed
    go_wp2_with fail
    refine KE.out.mono ?_
    rintro e w7 ⟨rfl, rfl⟩
    clear KE
    have hedI : (i : Int) < (ed : Int) := by omega
    have hedm : (ed : Int) ≤ (m : Int) := by omega
    have hf0 : (0 : Int) ≤ (f : Int) := Int.natCast_nonneg _
    have hftI : (f : Int) < (t : Int) := by omega
    have htlI : (t : Int) ≤ (sl : Int) := by omega
    have x2 := (KM.out _ HB.out).2.1
    have x3 := (KM.out _ HB.out).2.2
    go_wp2_with fail
    go_quiet (fail)
    clear x2 x3
    have HBD : Hid (∀ q, Below w6.heap.size w6 (wr.drewN q)) := hid fun q => below_drewN HB.out q
    obtain ⟨o', hsl, hns⟩ := nd_slice HSD.out.1 hed1 (show ed ≤ m by omega)
    rw [← HSD.out.2] at hns
    obtain ⟨fcq, hfcq⟩ : ∃ x, x = fc - i := ⟨_, rfl⟩
    rw [show ed - i = q by have := HED.out; omega, ← hfcq] at hsl hns
    have HNS : Hid (∀ w', Below w6.heap.size w6 w' → NdS w' (some ⟨b, o', none⟩) q fcq S) := hid fun w' hb => hns.below hb
    clear hns hfcq
    go_wp2_with (at_builtin; refine wpList_appv rfl (.tmp 77) (.tmp 81) 24 rfl 37 w6.heap.size 5 48 _ Tryz.underlying24 nd_info rfl (by omega) _ _ _ [] rfl (OwnV.emptyAt (heap_alloc_new _ _) HB.out.size) _ _ _ (cN S) rfl (HNS.out _ ((HBD.out _).alloc (HBD.out _).size _)) (cN_one _) (by unfold maxLen; omega) (by omega) (by have := HB.out.size; simp; omega) ?_; intro a9 sc9 w9 ho9 hg9 hb9 _; rw [Nat.zero_add, List.nil_append] at ho9; try rw [Nat.zero_add]; have HO9 := hid ho9; have HB9 : Hid (Below w6.heap.size w6 w9) := hid (((HBD.out _).alloc (HBD.out _).size _).trans hb9); clear ho9 hg9 hb9)
    clear hsl HNS
    obtain ⟨g, off, rfl, _, hc⟩ := HO9.out.vs.at_ (show 0 < q by omega)
    clear hc
    have hsc9 : q ≤ sc9 := HO9.out.bounds.2.1
    go_loopw [14] (fun v ws => ∃ k : Nat, v = .int .i64 (k : Int) ∧ k ≤ q ∧ Hid (OwnN w6.heap.size ws (some ⟨g, off, none⟩) q sc9 (half (f : Int) S k)) ∧ Hid (Below w6.heap.size w6 ws)) (fun v _ => q - (intOf v).toNat)
    case atStart => exact ⟨0, rfl, by omega, hid (by rw [half_zero]; exact HO9.out), HB9⟩
    case round =>
     rename World => ws
     obtain ⟨k, rfl, hk, HO, HBS⟩ := hrel
     have hk0 : (0 : Int) ≤ (k : Int) := Int.natCast_nonneg _
     have HOD := hid (HO.out.drew)
     by_cases hkq : k < q
     ·have hkI : (k : Int) < (q : Int) := by omega
      have x2 := own_f HOD.out hkq HSL9.out
      obtain ⟨y, hy⟩ : ∃ y, y = nA S k := ⟨_, rfl⟩
      rw [← hy] at x2
      have HY := hid hy
      have hyb : 0 ≤ y.f ∧ y.f ≤ 20 ∧ 0 ≤ y.t ∧ y.t ≤ 20 := by
       have h1 := right_spans HD.out.symm y (HSM.out y (by rw [hy]; exact nA_mem (by rw [HSL9.out]; exact hkq)))
       rw [← HSL.out] at h1
       omega
      have hw1 : IntKind.i64.wrap (y.f - (f : Int)) = y.f - (f : Int) := IntWalk.i64_in _ (by omega)
      have hw2 : IntKind.i64.wrap (y.t - (f : Int)) = y.t - (f : Int) := IntWalk.i64_in _ (by omega)
      clear hy
      go_wp2_with fail
      refine wp_region_noPanic ?_
      refine wp_region_held_drew (S := fun w' => w'.cell? ⟨b, o + i * 5 + 2, none⟩ = some (.int .i64 (f : Int))) (by kernel_rfl) (KN.out _ HBS.out.drew) (fun hHeld => ?_)
      refine zG 0 rfl ?_
      try simp only [Act.put, aS, aZ, aC]
      refine zG 1 rfl ?_
      try simp only [Act.put, aS, aZ, aC]
      refine zG 2 rfl ?_
      try simp only [Act.put, aS, aZ, aC]
      refine zG 3 rfl ?_
      try simp only [Act.put, aS, aZ, aC]
      refine zG 4 rfl ?_
      try simp only [Act.put, aS, aZ, aC]
      refine zG 5 rfl ?_
      try simp only [Act.put, aS, aZ, aC]
      refine zG 7 rfl ?_
      try simp only [Act.put, aS, aZ, aC]
      refine zG 8 rfl ?_
      try simp only [Act.put, aS, aZ, aC]
      refine zG 9 rfl ?_
      try simp only [Act.put, aS, aZ, aC]
      refine zG 10 rfl ?_
      try simp only [Act.put, aS, aZ, aC]
      refine zG 11 rfl ?_
      try simp only [Act.put, aS, aZ, aC]
      refine zR [6] ?_
      refine hDo rfl (fun K hK => ?_) ?_
      ·go_simp
       refine hK.out _ _ (KN.out _ HBS.out.drew) (fun hHeld => ?_)
       clear hK K
       try simp only [Act.put, aS, aZ, aC]
       refine zG 12 rfl ?_
       try simp only [Act.put, aS, aZ, aC]
       refine zG 13 rfl ?_
       try simp only [Act.put, aS, aZ, aC]
       refine zG 14 rfl ?_
       try simp only [Act.put, aS, aZ, aC]
       refine zR [15] ?_
       refine hDo rfl (fun K hK => ?_) ?_
       ·refine step_store_own rfl (.tmp 103) (.tmp 101) rfl w6.heap.size g off q sc9 _ HOD.out (k * 5 + 2) (by omega) ((y.f : Int) - f) rfl rfl ?_
        intro wa hoa hqa hga
        have HOA := hid hoa
        have HBA : Hid (Below w6.heap.size w6 wa) := hid ((HBS.out.drew).trans (hqa.below hga))
        clear hoa hqa hga
        refine hK.out _ _ (KN.out _ HBA.out) (fun hHeld => ?_)
        clear hK K
        try simp only [Act.put]
        refine wpAnyH_done (by kernel_rfl) ?_ _
        refine NoPanic.normal ?_
        clear x2
        have x3 := own_t HOA.out hkq HSL9.out
        rw [← HY.out] at x3
        have x3' : wa.drew.cell? ⟨g, off + k * 5 + 3, none⟩ = some (.int .i64 y.t) := x3
        have HOE := hid (HOA.out.drew)
        clear x3
        go_wp2_with fail
        refine wp_region_noPanic ?_
        refine wp_region_held_drew (S := fun w' => w'.cell? ⟨b, o + i * 5 + 2, none⟩ = some (.int .i64 (f : Int))) (by kernel_rfl) (KN.out _ HBA.out.drew) (fun hHeld => ?_)
        refine zG 0 rfl ?_
        try simp only [Act.put, aS, aZ, aC]
        refine zG 1 rfl ?_
        try simp only [Act.put, aS, aZ, aC]
        refine zG 2 rfl ?_
        try simp only [Act.put, aS, aZ, aC]
        refine zG 3 rfl ?_
        try simp only [Act.put, aS, aZ, aC]
        refine zG 4 rfl ?_
        try simp only [Act.put, aS, aZ, aC]
        refine zG 5 rfl ?_
        try simp only [Act.put, aS, aZ, aC]
        refine zG 7 rfl ?_
        try simp only [Act.put, aS, aZ, aC]
        refine zG 8 rfl ?_
        try simp only [Act.put, aS, aZ, aC]
        refine zG 9 rfl ?_
        try simp only [Act.put, aS, aZ, aC]
        refine zG 10 rfl ?_
        try simp only [Act.put, aS, aZ, aC]
        refine zG 11 rfl ?_
        try simp only [Act.put, aS, aZ, aC]
        refine zR [6] ?_
        refine hDo rfl (fun K hK => ?_) ?_
        ·go_simp
         refine hK.out _ _ (KN.out _ HBA.out.drew) (fun hHeld => ?_)
         clear hK K
         try simp only [Act.put, aS, aZ, aC]
         refine zG 12 rfl ?_
         try simp only [Act.put, aS, aZ, aC]
         refine zG 13 rfl ?_
         try simp only [Act.put, aS, aZ, aC]
         refine zG 14 rfl ?_
         try simp only [Act.put, aS, aZ, aC]
         refine zR [15] ?_
         refine hDo rfl (fun K hK => ?_) ?_
         ·refine step_store_own rfl (.tmp 118) (.tmp 116) rfl w6.heap.size g off q sc9 _ HOE.out (k * 5 + 3) (by omega) ((y.t : Int) - f) rfl rfl ?_
          intro wc hoc hqc hgc
          have HOC := hid hoc
          have HBC : Hid (Below w6.heap.size w6 wc) := hid ((HBA.out.drew).trans (hqc.below hgc))
          clear hoc hqc hgc
          refine hK.out _ _ (KN.out _ HBC.out) (fun hHeld => ?_)
          clear hK K
          try simp only [Act.put]
          refine wpAnyH_done (by kernel_rfl) ?_ _
          refine NoPanic.normal ?_
          go_wp2
          go_roundw
          case rel => exact ⟨k + 1, by go_num, by omega, hid (by have h1 := HOC.out; rw [HY.out, half_step (by rw [HSL9.out]; exact hkq)] at h1; exact h1), HBC⟩
          case measure => simp [intOf]; omega
         ·exact AllReadyH.nil
        ·exact AllReadyH.nil
       ·exact AllReadyH.nil
      ·exact AllReadyH.nil
     ·obtain rfl : k = q := by omega
      have hHA : half (f : Int) S k = S.map (ND.sh (f : Int)) := half_all (by rw [HSL9.out]; exact Nat.le_refl _)
      rw [hHA] at HOD
      clear hHA HO
      have htc : (t : Int) ≤ (sc : Int) := by have := HS6.out.lc; omega
      have hfw : IntKind.i64.wrap (f : Int) = (f : Int) := IntWalk.i64_in _ (by omega)
      have htw : IntKind.i64.wrap (t : Int) = (t : Int) := IntWalk.i64_in _ (by omega)
      obtain ⟨so', hsl, _⟩ := ts_sub HS6.out hft htl
      have KQ : Hid (∀ w', Below w6.heap.size w6 w' → OwnN w6.heap.size w' (some ⟨g, off, none⟩) k sc9 (S.map (ND.sh (f : Int))) → Calls Tryz.prog 19 #[.agg (ev ea en ec Z), .slice (some ⟨sb, so', none⟩) (t - f) (sc - f), .slice (some ⟨g, off, none⟩) k sc9] w' fun e w'' => e = .returned (.bool true) ∧ Below w'.heap.size w' w'') := hid fun w' hb ho => by
       rw [← HRT.out]
       have hb5 := HB6.out.trans (hb.mono HB6.out.size)
       obtain ⟨so2, hs2, ht2⟩ := ts_sub (HS6.out.below hb) hft htl
       have he : (some ⟨sb, so2, none⟩ : Option Addr) = some ⟨sb, so', none⟩ := by
        have h1 := hsl w'
        rw [hs2 w'] at h1
        simp only [Result.ok.injEq, Value.slice.injEq, and_true] at h1
        exact h1
       rw [he] at ht2
       refine KR.out _ _ _ _ _ _ _ _ w' hb5 ht2 ho.vs (by omega) (by omega) (fun x hx => ?_)
       obtain ⟨y, hy, rfl⟩ := List.mem_map.1 hx
       exact HNM.out y (HSM.out y hy)
      go_wp2_with fail
      refine wp_region_noPanic ?_
      refine wp_region_held_drew (S := fun w' => EB w' E ea en ec Z ∧ w'.cell? ⟨b, o + i * 5 + 2, none⟩ = some (.int .i64 (f : Int)) ∧ w'.cell? ⟨b, o + i * 5 + 3, none⟩ = some (.int .i64 (t : Int))) (by kernel_rfl) (KM.out _ HBS.out.drew) (fun hHeld => ?_)
      refine take_env (i := 0) (oi := { dst := some 119, op := Op.load 30 (Operand.tmp 8), type := 30, pos := "law.go:106", after := #[], guard := none }) (Operand.tmp 8) rfl (by kernel_rfl) (by kernel_rfl) (by kernel_rfl) ea en ec (Z) (fun _ _ _ h => h) (by rfl) rfl (E) rfl (HE.out.2.2.2.1) (fun w h => h.1) (by assumption) ?_
      try simp only [Act.put, aS, aZ, aC]
      refine zG 1 rfl ?_
      try simp only [Act.put, aS, aZ, aC]
      refine zG 2 rfl ?_
      try simp only [Act.put, aS, aZ, aC]
      refine zG 3 rfl ?_
      try simp only [Act.put, aS, aZ, aC]
      refine zG 4 rfl ?_
      try simp only [Act.put, aS, aZ, aC]
      refine zG 5 rfl ?_
      try simp only [Act.put, aS, aZ, aC]
      refine zG 6 rfl ?_
      try simp only [Act.put, aS, aZ, aC]
      refine zG 7 rfl ?_
      try simp only [Act.put, aS, aZ, aC]
      refine zG 8 rfl ?_
      try simp only [Act.put, aS, aZ, aC]
      refine zG 9 rfl ?_
      try simp only [Act.put, aS, aZ, aC]
      refine zG 10 rfl ?_
      try simp only [Act.put, aS, aZ, aC]
      refine zG 11 rfl ?_
      try simp only [Act.put, aS, aZ, aC]
      refine zG 12 rfl ?_
      try simp only [Act.put, aS, aZ, aC]
      refine zG 13 rfl ?_
      try simp only [Act.put, aS, aZ, aC]
      refine zR [14] ?_
      refine hDo rfl (fun K hK => ?_) ?_
      ·go_simp
       (go_at_call 19; (with_reducible refine (KQ.out _ HBS.out.drew HOD.out).mono ?_); rintro e wd ⟨rfl, hbwd⟩)
       have HBD : Hid (Below w6.heap.size w6 wd) := hid ((HBS.out.drew).trans (hbwd.mono (HBS.out.drew).size))
       clear hbwd
       refine hK.out _ _ (KM.out _ HBD.out) (fun hHeld => ?_)
       clear hK K
       try simp only [Act.put, aS, aZ, aC]
       refine zG 15 rfl ?_
       try simp only [Act.put, aS, aZ, aC]
       refine wpAnyH_done (by kernel_rfl) ?_ _
       refine NoPanic.normal ?_
       go_wp2
       go_roundw
       case rel => exact ⟨i + 1, by go_num, by omega, HBD⟩
       case measure => simp [intOf]; omega
      ·exact AllReadyH.nil
   ·have HWR : Hid (Below w.heap.size w wr) := hid (HW6.out.trans (HB.out.mono HW6.out.size))
    go_wp2
    go_ret
    exact ⟨rfl, HWR.out⟩
end Go.Proofs.YtanhpgmiadgmjaaGreatDoor
