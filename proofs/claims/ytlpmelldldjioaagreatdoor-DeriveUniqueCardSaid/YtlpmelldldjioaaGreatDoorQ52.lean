import Derived.Test.YtlpmelldldjioaaGreatDoorQ49
import Derived.Test.YtlpmelldldjioaaGreatDoorQ51
namespace Go.Proofs.YtlpmelldldjioaaGreatDoor
open Go.RowKit
theorem cnt_few {L : List OP} {z : List Int} {tok : List TK} (hU : uniqB L = true) (hz : RowsOk z) {n : Nat} {t : List ND} (h : CntP L z tok n t) : n < 2 := by
 cases h with
 | none h => omega
 | one h _ => omega
 | two hne hu hv => exact absurd (right_unique hU hz (right_dv.2 hu) (right_dv.2 hv)) hne
set_option maxRecDepth 100000 in
set_option maxHeartbeats 32000000 in
theorem deriveUnique_any (ca : Option Addr) (cl cc : Nat) (C : List CH) (la : Option Addr) (ln lc : Nat) (l : List TK) (w : World) (ht : Tab w) (hC : ChS w ca cl cc C) (hok : ∀ x ∈ C, okC x) (hl : Ts w la ln lc l) :
  Calls Tryz.prog 7 #[.slice ca cl cc, .slice la ln lc] w fun e w' => e = .returned (.bool true) ∧ Below w.heap.size w w' := by
 have HT := hid ht
 have HL := hid hl
 have HC := hid hC
 obtain ⟨L, Z, hRO, hE, hmk⟩ := make_lit ca cl cc C hok
 have HE := hid hE
 have HSR : Hid (Srt L) := hid hE.1
 have HZL : Hid (Z.length = 10) := hid hE.2.2.2.1
 have HZR : Hid (∀ i, i < 10 → I64 (bt Z i)) := hid hE.2.2.2.2
 have HRO := hid hRO
 have HMK := hid hmk
 obtain ⟨tok, htok⟩ : ∃ q, q = shortU l := ⟨_, rfl⟩
 have HTL : Hid (tok.length ≤ 16) := hid (by rw [htok]; exact shortU_len l)
 have HTK := hid htok
 clear ht hl hC hok hE hmk hRO htok
 go_enter Tryz.func7, Tryz.ntmps7
 go_wp2_with fail
 refine (dshown_any w HT.out).mono ?_
 rintro e w1 ⟨rfl, hb1⟩
 have HB1 := hid hb1
 clear hb1
 go_wp2_with fail
 refine (HMK.out w1 (HC.out.below HB1.out)).mono ?_
 rintro e w2 ⟨ea, en, ec, rfl, ho2, hb2⟩
 have HO2 : Hid (OpS w2 ea en ec L) := hid ho2.vs
 have HB2 : Hid (Below w.heap.size w w2) := hid (HB1.out.trans (hb2.mono HB1.out.size))
 obtain ⟨E, hE⟩ : ∃ q, q = w2.heap.size := ⟨_, rfl⟩
 have HEE := hid hE
 have hnew : EB (w2.alloc (.cells #[.slice none 0 0, .int .i64 0, .int .i64 0, .int .i64 0, .int .i64 0, .int .i64 0, .int .i64 0, .int .i64 0, .int .i64 0, .int .i64 0, .int .i64 0] 26)) E none 0 0 z0 := by rw [HEE.out]; exact EB.new w2 none 0 0 z0
 have HNEW := hid hnew
 clear ho2 hb2 hE hnew HB1
 go_upto_region 3 with (refine store_env rfl (.tmp 6) (.tmp 11) rfl E (by rw [HEE.out]; rfl) ea en ec Z rfl HE.out.2.2.2.1 none 0 0 z0 z0_len HNEW.out ?_; rw [← HEE.out]; intro w3 h3 ho3; have H3 := hid h3; have HB3 : Hid (Below w2.heap.size w2 w3) := hid ((below_alloc w2 _).trans (ho3.below (by rw [HEE.out]; exact Nat.le_refl _))); clear h3 ho3)
 have HB3W : Hid (Below w.heap.size w w3) := hid (HB2.out.trans (HB3.out.mono HB2.out.size))
 have HO3 : Hid (OpS w3 ea en ec L) := hid (HO2.out.below HB3.out)
 have HL3 : Hid (Ts w3 la ln lc l) := hid (HL.out.below HB3W.out)
 have HEN : Hid (en ≤ 16) := hid (by rw [← OpS.len HO3.out]; exact HE.out.2.2.1)
 have HNM : Hid (∀ o ∈ L, o.1.length ≤ 1000000) := hid fun o ho => by have := (HE.out.2.1 o ho).2; omega
 clear HNEW HEE HB2 HO2 HB3
 refine wp_region_noPanic ?_
 refine wp_region_held_drew (S := fun w' => EB w' E ea en ec Z) (by kernel_rfl) (H3.out.below (Below.refl _ _).drew) (fun hHeld => ?_)
 refine take_env (i := 0) (oi := { dst := some 13, op := Op.load 26 (Operand.tmp 6), type := 26, pos := "law.go:86", after := #[], guard := none }) (Operand.tmp 6) rfl (by kernel_rfl) (by kernel_rfl) (by kernel_rfl) ea en ec (Z) (fun _ _ _ h => h) (by rfl) rfl (E) rfl (HZL.out) (fun w h => h) (by assumption) ?_
 try simp only [Act.put, aS, aZ, aC]
 refine hTk 1 (v := ?_) rfl (by kernel_rfl) (fun _ _ _ h => h) (by rfl) ?_ (by assumption) ?_
 rotate_left; · intro w' hSw; (try dsimp only at hSw); go_simp; try with_reducible rfl
 try simp only [Act.put, aS, aZ, aC]
 refine wpAnyH_ready (rs := [2]) (by kernel_rfl) (by simp) ?_
 refine hDo rfl (fun K hK => ?_) ?_
 ·go_simp
  (go_at_call 27; (with_reducible refine (dfew_any la ln lc l _ (HL3.out.below (Below.refl w3.heap.size w3).drew)).mono ?_); rw [← HTK.out]; rintro e u1 ⟨fa, fc, rfl, hf, hb⟩)
  have HV1 : Hid (Below w3.heap.size w3 u1) := hid ((Below.refl w3.heap.size w3).drew.trans (hb.mono (Nat.le_refl _)))
  have HF := hid hf.ts
  clear hf hb
  refine hK.out _ _ (H3.out.below HV1.out) (fun hHeld => ?_)
  clear hK K
  try simp only [Act.put, aS, aZ, aC]
  refine wpAnyH_ready (rs := [3]) (by kernel_rfl) (by simp) ?_
  refine hDo rfl (fun K hK => ?_) ?_
  ·go_simp
   (go_at_call 26; (with_reducible refine (count_any ea en ec L Z fa tok.length fc tok _ (HT.out.keep (HB3W.out.trans (HV1.out.mono HB3W.out.size))) (HO3.out.below HV1.out) HF.out HZL.out HZR.out HSR.out (by have := HEN.out; omega) HNM.out (by have := HTL.out; omega)).mono ?_); rintro e u2 ⟨m, t, na, nc, rfl, _, hc, hb⟩)
   have HV2 : Hid (Below w3.heap.size w3 u2) := hid (HV1.out.trans (hb.mono HV1.out.size))
   have HCN := hid hc
   clear hc hb HV1 HF
   refine hK.out _ _ (H3.out.below HV2.out) (fun hHeld => ?_)
   clear hK K
   try simp only [Act.put, aS, aZ, aC]
   refine hTk 4 (v := ?_) rfl (by kernel_rfl) (fun _ _ _ h => h) (by rfl) ?_ (by assumption) ?_
   rotate_left; · intro w' hSw; (try dsimp only at hSw); go_simp; try with_reducible rfl
   try simp only [Act.put, aS, aZ, aC]
   refine hTk 5 (v := ?_) rfl (by kernel_rfl) (fun _ _ _ h => h) (by rfl) ?_ (by assumption) ?_
   rotate_left; · intro w' hSw; (try dsimp only at hSw); go_simp; try with_reducible rfl
   try simp only [Act.put, aS, aZ, aC]
   refine hTk 6 (v := ?_) rfl (by kernel_rfl) (fun _ _ _ h => h) (by rfl) ?_ (by assumption) ?_
   rotate_left; · intro w' hSw; (try dsimp only at hSw); go_simp; try with_reducible rfl
   try simp only [Act.put, aS, aZ, aC]
   refine hTk 7 (v := ?_) rfl (by kernel_rfl) (fun _ _ _ h => h) (by rfl) ?_ (by assumption) ?_
   rotate_left; · intro w' hSw; (try dsimp only at hSw); go_simp; try with_reducible rfl
   try simp only [Act.put, aS, aZ, aC]
   refine hTk 8 (v := ?_) rfl (by kernel_rfl) (fun _ _ _ h => h) (by rfl) ?_ (by assumption) ?_
   rotate_left; · intro w' hSw; (try dsimp only at hSw); go_simp; try with_reducible rfl
   try simp only [Act.put, aS, aZ, aC]
   refine wpAnyH_done (by kernel_rfl) ?_ _
   refine NoPanic.normal ?_
   have HW2 : Hid (Below w.heap.size w u2) := hid (HB3W.out.trans (HV2.out.mono HB3W.out.size))
   have HU2 := hid (H3.out.below HV2.out)
   have HOU : Hid (OpS u2 ea en ec L) := hid (HO3.out.below HV2.out)
   have hm0 : (0 : Int) ≤ (m : Int) := Int.natCast_nonneg _
   by_cases hm : m < 2
   ·have hm2 : (m : Int) < 2 := by omega
    go_wp2
    go_ret
    exact ⟨rfl, HW2.out⟩
   ·have hm2 : ¬ (m : Int) < 2 := by omega
    have HUN : Hid (uniqB L = false) := hid (by
     cases h : uniqB L with
     | false => rfl
     | true => exact absurd (cnt_few h HRO.out HCN.out) hm)
    go_wp2_with (refine load_env rfl (.tmp 6) rfl E rfl ea en ec Z HZL.out HU2.out ?_)
    refine (uniq_any ea en ec L Z u2 (HT.out.keep HW2.out) HOU.out (by have := HEN.out; omega) HNM.out).mono ?_
    rw [HUN.out]
    rintro e u3 ⟨rfl, hb3⟩
    have HB4 := hid hb3
    clear hb3
    go_wp2
    go_ret
    exact ⟨rfl, HW2.out.trans (HB4.out.mono HW2.out.size)⟩
  ·exact AllReadyH.nil
 ·exact AllReadyH.nil
end Go.Proofs.YtlpmelldldjioaaGreatDoor
