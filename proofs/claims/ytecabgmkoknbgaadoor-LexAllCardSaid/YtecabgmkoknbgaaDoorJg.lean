/- The document's Join. -/
import Derived.Test.YtecabgmkoknbgaaDoorJe
import Derived.Test.YtecabgmkoknbgaaDoorJf
import Derived.Test.YtecabgmkoknbgaaDoorJb
import Derived.Test.YtecabgmkoknbgaaDoorQs
namespace Go.Proofs.YtecabgmkoknbgaaDoor
open Go.RowKit

set_option maxRecDepth 100000 in
set_option maxHeartbeats 4000000 in
theorem rjoin_any (a : Option Addr) (len cap : Nat) (L : List TK) (w : World) (h : Ts w a len cap L) (hsz : wsz L ≤ 400000) :
    Calls Tryd.prog 12 #[.slice a len cap] w fun e w' => ∃ a' c', e = .returned (.tuple #[.slice a' (jnT L).length c', .int .i64 (jnE L)]) ∧ Bs w' a' (jnT L).length c' (jnT L) ∧ Below w.heap.size w w' := by
  have hcm := h.cm
  have hlc := h.lc
  unfold maxLen at hcm
  have H := Lib.hid h
  have HL := Lib.hid h.hl
  have hlen := Nat.le_trans (wsz_len L) hsz
  rw [HL.out] at hlen
  have HSZ := Lib.hid hsz
  clear h hsz
  go_enter Tryd.func12, Tryd.ntmps12
  go_wp2
  go_loopw [4, 5] (fun v i wr => ∃ a1 c1, ∃ k n : Nat, v = .slice a1 n c1 ∧ i = .int .i64 k ∧ k ≤ len ∧ n ≤ 400000 ∧ Hid (OwnB w.heap.size 5 wr a1 n c1 (jb (L.take k))) ∧ Hid (jp (L.take k) = true) ∧ Hid (n ≤ wsz (L.take k)) ∧ Hid (Below w.heap.size w wr)) (fun _ i _ => len - (intOf i).toNat)
  case atStart => exact ⟨_, _, 0, 0, rfl, rfl, by omega, by omega, Lib.hid (OwnB.made (Nat.le_refl _)), Lib.hid rfl, Lib.hid (Nat.zero_le _), Lib.hid ((Below.refl _ _).alloc (Nat.le_refl _) _)⟩
  case round =>
    obtain ⟨a1, c1, k, n, rfl, rfl, hk, hn, HO, HP, HN, HB⟩ := hrel
    have hlc1 := HO.out.bs.lc
    have hcm1 := HO.out.bs.cm
    unfold maxLen at hcm1
    by_cases hlt : k < len
    · have hb := H.out.below HB.out
      have hbw : ∃ b off, a = some ⟨b, off, none⟩ ∧ b < w.heap.size := let ⟨b, off, h1, h2, _⟩ := H.out.at_ (by omega); ⟨b, off, h1, h2⟩
      obtain ⟨b, off, rfl, hbw⟩ := hbw
      have hbs : b < wr.heap.size := Nat.lt_of_lt_of_le hbw HB.out.size
      have HBW := Lib.hid hbw
      clear hbw
      obtain ⟨d0, d1, d2, d3, d4⟩ := hb.at5 hlt
      have hkL : k < L.length := by rw [HL.out]; exact hlt
      have hS := jb_snoc hkL
      have hPA := jp_at hkL
      have hW := wsz_snoc hkL
      have hW2 := wsz_take L (k + 1)
      obtain ⟨T, hT⟩ : ∃ T, T = tat L k := ⟨_, rfl⟩
      rw [← hT] at d0 d1 d2 d3 d4 hS hPA hW
      obtain ⟨K, F, T', S, E⟩ := T
      simp only at d0 d1 d2 d3 d4 hS hPA hW
      have HS := Lib.hid hS
      have HPA := Lib.hid hPA
      have HW := Lib.hid (And.intro hW hW2)
      clear hT hS hPA hW hW2 hkL
      have hts : (sb S).length ≤ 400000 := by have := HW.out.1; have := HW.out.2; have := HSZ.out; omega
      obtain ⟨g1, C1, W1, kc1, hB1, hb1⟩ := conv_str wr S (sb S) (bstr_sb S).symm (sb_rng S) (by omega)
      have HW1 : Hid (Below w.heap.size w W1) := Lib.hid (HB.out.trans (hb1.mono HB.out.size))
      have HO1 := Lib.hid (HO.out.keep hb1 (Nat.le_refl _))
      have e0 : W1.cell? ⟨b, off + k * 5, none⟩ = some (.int .i64 K) := (hb1.cell hbs).trans d0
      have e3 : W1.cell? ⟨b, off + k * 5 + 3, none⟩ = some (.string S) := (hb1.cell hbs).trans d3
      have hbs1 : b < W1.heap.size := Nat.lt_of_lt_of_le hbs hb1.size
      obtain ⟨m, hm⟩ : ∃ m, m = (sb S).length := ⟨_, rfl⟩
      rw [← hm] at kc1 hB1 hts
      have HM := Lib.hid hm
      have HX := Lib.hid hB1
      have hmle := wrT_len K (sb S)
      have hbig : n + (wrT K (sb S)).length + 1 ≤ 400000 := by have := HW.out.1; have := HW.out.2; have := HSZ.out; have := HN.out; omega
      have HBIG := Lib.hid hbig
      clear hb hm hB1 hb1 hmle hbig d1 d2 d4
      by_cases h5 : K = 5
      · subst h5
        go_wp2_with fail
        refine (rqput_any _ _ _ (sb S) _ HX.out hts).mono ?_
        rintro e w2 ⟨a2, c2, rfl, ho2, hb2⟩
        have HX2 := Lib.hid ho2.bs
        have HB2 : Hid (Below w.heap.size w w2) := Lib.hid (HW1.out.trans (hb2.mono HW1.out.size))
        have HO2 := Lib.hid (HO1.out.keep hb2 (Nat.le_refl _))
        have e0 : w2.cell? ⟨b, off + k * 5, none⟩ = some (.int .i64 5) := (hb2.cell hbs1).trans e0
        have hwt : wrT 5 (sb S) = ptT (sb S) := rfl
        have hwe : wrE 5 (sb S) = ptE (sb S) := rfl
        rw [hwt] at HS HBIG
        rw [hwe] at HPA
        obtain ⟨P, hP⟩ : ∃ P, P = ptT (sb S) := ⟨_, rfl⟩
        rw [← hP] at HS HBIG HX2 ⊢
        obtain ⟨p, hp⟩ : ∃ p, p = P.length := ⟨_, rfl⟩
        rw [← hp] at HX2 HBIG ⊢
        have hbig := HBIG.out
        clear ho2 hb2 hwt hwe hP hp hts
        by_cases hE : ptE (sb S) = 0
        · rw [hE]
          have HP1 : Hid (jp (L.take (k + 1)) = true) := Lib.hid (by rw [HPA.out, HP.out, hE]; rfl)
          clear hE
          go_wp2_with (at_builtin; refine Hid.out ?_)
          refine Lib.hid ?_
          refine wpList_app rfl (.tmp 36) (.tmp 37) 22 rfl 5 w.heap.size Tryd.underlying22 info5 _ _ _ _ rfl HO2.out _ _ _ P rfl HX2.out (by omega) HB2.out.size ?_
          intro a3 c3 w3 ho3 hb3
          have HO3 := Lib.hid ho3
          have HB3 : Hid (Below w.heap.size w w3) := Lib.hid (HB2.out.trans hb3)
          have f0 : w3.cell? ⟨b, off + k * 5, none⟩ = some (.int .i64 5) := by
            by_cases hbw : b < w.heap.size
            · exact (hb3.cell hbw).trans e0
            · exact absurd HBW.out hbw
          clear ho3 hb3
          go_wp2_with (at_builtin; refine Hid.out ?_)
          refine Lib.hid ?_
          refine wpList_app rfl (.tmp 48) (.tmp 49) 22 rfl 5 w.heap.size Tryd.underlying22 info5 _ _ _ _ rfl (HO3.out.alloc _) _ _ _ [32] rfl (Bs.lit _ 5 (by simp) (by simp) rfl rfl (by decide)) (by omega) (by have := HB3.out.size; simp; omega) ?_
          intro a4 c4 w4 ho4 hb4
          have HO4 : Hid (OwnB w.heap.size 5 w4 a4 (n + p + 1) c4 (jb (L.take (k + 1)))) := Lib.hid (by rw [HS.out]; exact ho4)
          have HB4 : Hid (Below w.heap.size w w4) := Lib.hid ((HB3.out.alloc HB3.out.size _).trans hb4)
          have HN4 : Hid (n + p + 1 ≤ wsz (L.take (k + 1))) := Lib.hid (by have := jb_len (L.take (k + 1)); rw [HO4.out.bs.hl] at this; exact this)
          clear ho4 hb4 f0
          go_wp2
          go_roundw
          case rel => exact ⟨_, _, k + 1, n + p + 1, rfl, by go_num, by omega, hbig, HO4, HP1, HN4, HB4⟩
          case measure => simp [intOf]; omega
        · have hEb : (ptE (sb S) != 0) = true := by simpa using hE
          have HJ : Hid (jOk L = false) := Lib.hid (by
            unfold jOk
            rw [jp_take (k := k + 1) (by rw [HPA.out, HP.out, decide_eq_false hE]; rfl), Bool.false_and])
          clear hE
          go_wp2
          go_ret2
          exact ⟨none, 0, by unfold jnT jnE; rw [HJ.out]; rfl, by unfold jnT; rw [HJ.out]; exact Bs.nil _ _ _ (by decide), HB2.out⟩
      · have h5b : (K == 5) = false := by simpa using h5
        have hwt : wrT K (sb S) = sb S := by unfold wrT; rw [if_neg h5]
        have hwe : wrE K (sb S) = 0 := by unfold wrE; rw [if_neg h5]
        rw [hwt] at HS HBIG
        rw [hwe] at HPA
        have HP1 : Hid (jp (L.take (k + 1)) = true) := Lib.hid (by rw [HPA.out, HP.out]; rfl)
        rw [← HM.out] at HBIG
        have hbig := HBIG.out
        clear hwt hwe hts h5
        by_cases h7 : K = 7
        · subst h7
          go_wp2_with (at_builtin; refine Hid.out ?_)
          refine Lib.hid ?_
          refine wpList_app rfl (.tmp 36) (.tmp 37) 22 rfl 5 w.heap.size Tryd.underlying22 info5 _ _ _ _ rfl HO1.out _ _ _ (sb S) rfl HX.out (by omega) HW1.out.size ?_
          intro a3 c3 w3 ho3 hb3
          have HO3 := Lib.hid ho3
          have HB3 : Hid (Below w.heap.size w w3) := Lib.hid (HW1.out.trans hb3)
          have f0 : w3.cell? ⟨b, off + k * 5, none⟩ = some (.int .i64 7) := by
            by_cases hbw : b < w.heap.size
            · exact (hb3.cell hbw).trans e0
            · exact absurd HBW.out hbw
          clear ho3 hb3
          go_wp2_with (at_builtin; refine Hid.out ?_)
          refine Lib.hid ?_
          refine wpList_app rfl (.tmp 45) (.tmp 46) 22 rfl 5 w.heap.size Tryd.underlying22 info5 _ _ _ _ rfl (HO3.out.alloc _) _ _ _ [10] rfl (Bs.lit _ 5 (by simp) (by simp) rfl rfl (by decide)) (by omega) (by have := HB3.out.size; simp; omega) ?_
          intro a4 c4 w4 ho4 hb4
          have HO4 : Hid (OwnB w.heap.size 5 w4 a4 (n + m + 1) c4 (jb (L.take (k + 1)))) := Lib.hid (by rw [HS.out]; exact ho4)
          have HB4 : Hid (Below w.heap.size w w4) := Lib.hid ((HB3.out.alloc HB3.out.size _).trans hb4)
          have HN4 : Hid (n + m + 1 ≤ wsz (L.take (k + 1))) := Lib.hid (by have := jb_len (L.take (k + 1)); rw [HO4.out.bs.hl] at this; exact this)
          clear ho4 hb4 f0
          go_wp2
          go_roundw
          case rel => exact ⟨_, _, k + 1, n + m + 1, rfl, by go_num, by omega, hbig, HO4, HP1, HN4, HB4⟩
          case measure => simp [intOf]; omega
        · have h7b : (K == 7) = false := by simpa using h7
          have hsp : sepT K = 32 := by unfold sepT; rw [if_neg h7]
          rw [hsp] at HS
          clear h7 hsp
          go_wp2_with (at_builtin; refine Hid.out ?_)
          refine Lib.hid ?_
          refine wpList_app rfl (.tmp 36) (.tmp 37) 22 rfl 5 w.heap.size Tryd.underlying22 info5 _ _ _ _ rfl HO1.out _ _ _ (sb S) rfl HX.out (by omega) HW1.out.size ?_
          intro a3 c3 w3 ho3 hb3
          have HO3 := Lib.hid ho3
          have HB3 : Hid (Below w.heap.size w w3) := Lib.hid (HW1.out.trans hb3)
          have f0 : w3.cell? ⟨b, off + k * 5, none⟩ = some (.int .i64 K) := by
            by_cases hbw : b < w.heap.size
            · exact (hb3.cell hbw).trans e0
            · exact absurd HBW.out hbw
          clear ho3 hb3
          go_wp2_with (at_builtin; refine Hid.out ?_)
          refine Lib.hid ?_
          refine wpList_app rfl (.tmp 48) (.tmp 49) 22 rfl 5 w.heap.size Tryd.underlying22 info5 _ _ _ _ rfl (HO3.out.alloc _) _ _ _ [32] rfl (Bs.lit _ 5 (by simp) (by simp) rfl rfl (by decide)) (by omega) (by have := HB3.out.size; simp; omega) ?_
          intro a4 c4 w4 ho4 hb4
          have HO4 : Hid (OwnB w.heap.size 5 w4 a4 (n + m + 1) c4 (jb (L.take (k + 1)))) := Lib.hid (by rw [HS.out]; exact ho4)
          have HB4 : Hid (Below w.heap.size w w4) := Lib.hid ((HB3.out.alloc HB3.out.size _).trans hb4)
          have HN4 : Hid (n + m + 1 ≤ wsz (L.take (k + 1))) := Lib.hid (by have := jb_len (L.take (k + 1)); rw [HO4.out.bs.hl] at this; exact this)
          clear ho4 hb4 f0
          go_wp2
          go_roundw
          case rel => exact ⟨_, _, k + 1, n + m + 1, rfl, by go_num, by omega, hbig, HO4, HP1, HN4, HB4⟩
          case measure => simp [intOf]; omega
    · have hkl : k = len := by omega
      have HTK : Hid (L.take k = L) := Lib.hid (List.take_of_length_le (by rw [HL.out]; omega))
      rw [HTK.out] at HO HP
      have HJ : Hid (jOk L = alike (toks (jb L)) L) := Lib.hid (by unfold jOk; rw [HP.out, Bool.true_and])
      have HJL : Hid ((jb L).length = n) := Lib.hid HO.out.bs.hl
      go_wp2_with fail
      refine (rall_any _ _ _ (jb L) _ HO.out.bs (by omega)).mono ?_
      rintro e w1 ⟨a2, c2, rfl, hr1, hb1⟩
      have HR := Lib.hid hr1
      have HO1 := Lib.hid (HO.out.keep hb1 (Nat.le_refl _))
      have HB1 : Hid (Below w.heap.size w w1) := Lib.hid (HB.out.trans (hb1.mono HB.out.size))
      clear hr1 hb1
      obtain ⟨m, hm⟩ : ∃ m, m = (toks (jb L)).length := ⟨_, rfl⟩
      rw [← hm] at HR ⊢
      clear hm
      go_wp2_with fail
      refine (alike_any _ _ _ (toks (jb L)) _ _ _ L _ HR.out (H.out.below HB1.out)).mono ?_
      rintro e w2 ⟨rfl, hb2⟩
      have HO2 := Lib.hid (HO1.out.keep hb2 (Nat.le_refl _))
      have HB2 : Hid (Below w.heap.size w w2) := Lib.hid (HB1.out.trans (hb2.mono HB1.out.size))
      clear hb2
      cases hq : alike (toks (jb L)) L with
      | false =>
        have HF : Hid (jOk L = false) := Lib.hid (HJ.out.trans hq)
        clear hq
        go_wp2
        go_ret2
        exact ⟨none, 0, by unfold jnT jnE; rw [HF.out]; rfl, by unfold jnT; rw [HF.out]; exact Bs.nil _ _ _ (by decide), HB2.out⟩
      | true =>
        have HF : Hid (jOk L = true) := Lib.hid (HJ.out.trans hq)
        clear hq
        go_wp2
        go_ret2
        exact ⟨a1, c1, by unfold jnT jnE; rw [HF.out, if_pos rfl, if_pos rfl, HJL.out]; rfl, by unfold jnT; rw [HF.out, if_pos rfl, HJL.out]; exact HO2.out.bs, HB2.out⟩

end Go.Proofs.YtecabgmkoknbgaaDoor
