/- TreeBares. -/
import Derived.Test.YtkaeanaeklilfaaGreatDoorXm
import Derived.Test.YtkaeanaeklilfaaGreatDoorYd
import Derived.Test.YtkaeanaeklilfaaGreatDoorYs
namespace Go.Proofs.YtkaeanaeklilfaaGreatDoor
open Go.RowKit

theorem bare_at {N : List ND} {i : Nat} (hi : i < N.length) (hk : (nA N i).k ≠ 2) : (bareL (N.take i)).length < (bareL N).length ∧ nA (bareL N) (bareL (N.take i)).length = ⟨(nA N i).k, (nA N i).n, 0, 0, (nA N i).c⟩ := by
  have h1 : bareL N = bareL (N.take i) ++ (bareN (nA N i) :: bareL (N.drop (i + 1))) := by
    conv => lhs; rw [← List.take_append_drop i N, nA_drop hi]
    unfold bareL
    rw [List.filter_append, List.map_append, List.filter_cons_of_pos (by simpa using hk), List.map_cons]
  rw [h1]
  refine ⟨by rw [List.length_append, List.length_cons]; omega, ?_⟩
  exact (nA_right (A := bareL (N.take i)) (B := bareN (nA N i) :: bareL (N.drop (i + 1))) (j := 0)).trans rfl
theorem bare_skip {N : List ND} {i : Nat} (hi : i < N.length) (hk : (nA N i).k = 2) : (bareL (N.take (i + 1))).length = (bareL (N.take i)).length := by
  rw [bare_take hi, bare_no hk]
  show (bareL (N.take i) ++ []).length = _
  rw [List.append_nil]
theorem bare_step {N : List ND} {i : Nat} (hi : i < N.length) (hk : (nA N i).k ≠ 2) : (bareL (N.take (i + 1))).length = (bareL (N.take i)).length + 1 := by
  rw [bare_take hi, bare_yes hk, List.length_append]
  rfl

set_option maxRecDepth 100000 in
set_option maxHeartbeats 16000000 in
theorem treeBares_any (ca : Option Addr) (cl cc : Nat) (C : List CH) (la : Option Addr) (ln lc : Nat) (l : List TK) (a : Option Addr) (n c : Nat) (T : List ND) (w : World) (ht : Tab w) (hC : ChS w ca cl cc C) (hok : ∀ x ∈ C, okC x) (hl : Ts w la ln lc l) (h : NdS w a n c T) :
    Calls Tryz.prog 6 #[.slice ca cl cc, .slice la ln lc, .slice a n c] w fun e w' => e = .returned (.bool true) ∧ Below w.heap.size w w' := by
  have HT := Lib.hid ht
  have H := Lib.hid h
  have HL := Lib.hid hl
  have HC := Lib.hid hC
  obtain ⟨L, Z, _, hE, hmk⟩ := make_lit ca cl cc C hok
  have HE := Lib.hid hE
  have HMK := Lib.hid hmk
  clear ht h hl hC hok hE hmk
  go_enter Tryz.func6, Tryz.ntmps6
  go_wp2_with fail
  refine (shown_any w HT.out).mono ?_
  rintro e w1 ⟨rfl, hb1⟩
  have HB1 := Lib.hid hb1
  have H1 := Lib.hid (H.out.below hb1)
  clear hb1
  go_wp2_with fail
  refine (few_any a n c T w1 H1.out).mono ?_
  rintro e w2 ⟨fa, fc, rfl, ho2, hb2⟩
  obtain ⟨N, hN⟩ : ∃ N, N = fewT T := ⟨_, rfl⟩
  rw [← hN] at ho2 ⊢
  have hm20 : N.length ≤ 20 := by rw [hN]; exact fewT_len T
  have HNM : Hid (∀ x ∈ N, x.n.length ≤ 1000000) := Lib.hid (by rw [hN]; exact fewT_nm)
  have H2 : Hid (NdS w2 fa N.length fc N) := Lib.hid ho2.vs
  obtain ⟨m, hm⟩ : ∃ m, m = N.length := ⟨_, rfl⟩
  have HM := Lib.hid hm
  rw [← hm] at hm20 H2 ⊢
  have HB2 : Hid (Below w.heap.size w w2) := Lib.hid (HB1.out.trans (hb2.mono HB1.out.size))
  clear ho2 hb2 hN H1 HB1 hm
  go_wp2_with fail
  refine (tbare_any fa m fc N w2 H2.out (by omega)).mono ?_
  rintro e w3 ⟨ba, bc, rfl, ho3, hb3⟩
  obtain ⟨bl, hbl⟩ : ∃ q, q = (bareL N).length := ⟨_, rfl⟩
  have HBL := Lib.hid hbl
  have hbl20 : bl ≤ 20 := by have := bare_len N; have := HM.out; omega
  have H3 : Hid (NdS w3 ba bl bc (bareL N)) := Lib.hid (by rw [hbl]; exact ho3.vs)
  have HB3 : Hid (Below w2.heap.size w2 w3) := Lib.hid hb3
  rw [← hbl]
  clear ho3 hb3 hbl
  go_wp2
  go_loopw [10, 11] (fun u v wr => ∃ i nx : Nat, u = .int .i64 (nx : Int) ∧ v = .int .i64 (i : Int) ∧ i ≤ m ∧ nx ≤ i ∧ Hid (nx = (bareL (N.take i)).length) ∧ Hid (Below w3.heap.size w3 wr)) (fun _ v _ => m - (intOf v).toNat)
  case atStart => exact ⟨0, 0, rfl, rfl, by omega, by omega, Lib.hid rfl, Lib.hid (Below.refl _ _)⟩
  case round =>
    obtain ⟨i, nx, rfl, rfl, hi, hnx, HX, HB⟩ := hrel
    have hi0 : (0 : Int) ≤ (i : Int) := Int.natCast_nonneg _
    have hn0 : (0 : Int) ≤ (nx : Int) := Int.natCast_nonneg _
    by_cases hlt : i < m
    · have hltI : (i : Int) < (m : Int) := by omega
      have hs := H2.out.below (HB3.out.trans (HB.out.mono HB3.out.size))
      obtain ⟨b, o, rfl, _, hc⟩ := hs.at_ (by omega)
      clear hc
      obtain ⟨c0, c1, c2, c3, c4⟩ := NdS.at5 hs hlt
      have hiN : i < N.length := by rw [← HM.out]; exact hlt
      obtain ⟨x, hx⟩ : ∃ x, x = nA N i := ⟨_, rfl⟩
      have HQ := Lib.hid hx
      rw [← hx] at c0 c1 c2 c3 c4
      clear hs
      obtain ⟨xk, xn, xf, xt, xc⟩ := x
      dsimp only at c0 c1 c2 c3 c4
      by_cases h2 : xk = 2
      · have HS := Lib.hid (bare_skip (N := N) (i := i) hiN (by rw [← hx]; exact h2))
        subst h2
        clear hx hiN c1 c2 c3 c4
        go_wp2
        go_roundw
        case rel => exact ⟨i + 1, nx, rfl, by go_num, by omega, by omega, Lib.hid (by rw [HS.out]; exact HX.out), HB⟩
        case measure => simp [intOf]; omega
      · have hba := bare_at (N := N) (i := i) hiN (by rw [← hx]; exact h2)
        have HS := Lib.hid (bare_step (N := N) (i := i) hiN (by rw [← hx]; exact h2))
        rw [← hx, ← HX.out, ← HBL.out] at hba
        dsimp only at hba
        obtain ⟨hnb, hnv⟩ := hba
        have hs3 := H3.out.below HB.out
        obtain ⟨b', o2, rfl, _, hc⟩ := hs3.at_ (by omega)
        clear hc
        obtain ⟨d0, d1, d2, d3, d4⟩ := NdS.at5 hs3 hnb
        rw [hnv] at d0 d1 d2 d3 d4
        dsimp only at d0 d1 d2 d3 d4
        have hnbI : (nx : Int) < (bl : Int) := by omega
        have h2' : (xk == 2) = false := by simp [h2]
        clear hx hiN hs3 hnv
        go_wp2_with fail
        go_quiet (fail)
        go_wp2
        go_roundw
        case rel => exact ⟨i + 1, nx + 1, by go_num, by go_num, by omega, by omega, Lib.hid (by rw [HS.out, ← HX.out]), Lib.hid (below_drewN HB.out _)⟩
        case measure => simp [intOf]; omega
    · have hnl : nx = bl := by rw [HX.out, HBL.out, List.take_of_length_le (by rw [← HM.out]; omega)]
      subst hnl
      obtain rfl : i = m := by omega
      have HBW : Hid (Below w2.heap.size w2 wr) := Lib.hid (HB3.out.trans (HB.out.mono HB3.out.size))
      have HW0 : Hid (Below w.heap.size w wr) := Lib.hid (HB2.out.trans (HBW.out.mono HB2.out.size))
      go_wp2_with fail
      refine (HMK.out wr (HC.out.below HW0.out)).mono ?_
      rintro e w4 ⟨ea, en, ec, rfl, ho4, hb4⟩
      have HO4 : Hid (OpS w4 ea en ec L) := Lib.hid ho4.vs
      have HW4 : Hid (Below w.heap.size w w4) := Lib.hid (HW0.out.trans (hb4.mono HW0.out.size))
      have HB4 : Hid (Below wr.heap.size wr w4) := Lib.hid hb4
      clear ho4 hb4
      go_wp2_with fail
      refine (short_any la ln lc l w4 (HL.out.below HW4.out)).mono ?_
      rintro e w5 ⟨sa, sc, rfl, ho5, hb5⟩
      have HSL : Hid ((shortT l).length ≤ 20) := Lib.hid (shortT_len l)
      have HO5 : Hid (Ts w5 sa (shortT l).length sc (shortT l)) := Lib.hid ho5.ts
      have HW5 : Hid (Below w.heap.size w w5) := Lib.hid (HW4.out.trans (hb5.mono HW4.out.size))
      have HO45 : Hid (OpS w5 ea en ec L) := Lib.hid (HO4.out.below hb5)
      have HB5 : Hid (Below wr.heap.size wr w5) := Lib.hid (HB4.out.trans (hb5.mono HB4.out.size))
      clear ho5 hb5
      have HLN : Hid (en ≤ 1000000 ∧ ∀ o ∈ L, o.1.length ≤ 1000000) := Lib.hid ⟨by have := HE.out.2.2.1; have := OpS.len HO45.out; omega, fun o ho => by have := (HE.out.2.1 o ho).2; omega⟩
      go_wp2_with fail
      refine (tright_any ea en ec L Z sa _ sc (shortT l) fa i fc N w5 (HT.out.keep HW5.out) HO45.out HE.out.2.2.2.1 HE.out.2.2.2.2 HO5.out (H2.out.below (HBW.out.trans (HB5.out.mono HBW.out.size))) HLN.out.1 HLN.out.2 (by have := HSL.out; omega) (by omega) HNM.out).mono ?_
      rintro e w6 ⟨rfl, hb6⟩
      obtain ⟨d, hd⟩ : ∃ d, d = rightB L Z (shortT l) N := ⟨_, rfl⟩
      have HD := Lib.hid hd
      rw [← hd]
      have HB6 : Hid (Below wr.heap.size wr w6) := Lib.hid (HB5.out.trans (hb6.mono HB5.out.size))
      have HW6 : Hid (Below w.heap.size w w6) := Lib.hid (HW5.out.trans (hb6.mono HW5.out.size))
      have H36 : Hid (NdS w6 ba nx bc (bareL N)) := Lib.hid (H3.out.below (HB.out.trans (HB6.out.mono HB.out.size)))
      clear hd hb6
      cases d with
      | false =>
        go_wp2_with fail
        refine (tbare_any ba nx bc (bareL N) w6 H36.out (by omega)).mono ?_
        rw [bare_bare]
        rintro e w8 ⟨ba2, bc2, rfl, ho8, hb8⟩
        rw [← HBL.out] at ho8 ⊢
        have HO8 : Hid (NdS w8 ba2 nx bc2 (bareL N)) := Lib.hid ho8.vs
        have H38 : Hid (NdS w8 ba nx bc (bareL N)) := Lib.hid (H36.out.below hb8)
        have HW8 : Hid (Below w.heap.size w w8) := Lib.hid (HW6.out.trans (hb8.mono HW6.out.size))
        clear ho8 hb8
        go_wp2_with fail
        refine (nsame_any ba2 nx bc2 (bareL N) ba bc w8 HO8.out H38.out).mono ?_
        rintro e w9 ⟨rfl, hb9⟩
        have HW9 : Hid (Below w.heap.size w w9) := Lib.hid (HW8.out.trans (hb9.mono HW8.out.size))
        clear hb9
        go_wp2
        go_ret
        exact ⟨rfl, HW9.out⟩
      | true =>
        have HEN : Hid (endV (bareL N) 0 = (nx : Int)) := Lib.hid (by rw [end_iff.2 (right_bare HD.out.symm), HBL.out])
        go_wp2_with fail
        refine (tend_any ba nx bc (bareL N) 0 w6 H36.out (by omega) (by decide)).mono ?_
        rw [HEN.out]
        rintro e w7 ⟨rfl, rfl⟩
        go_wp2_with fail
        refine (tbare_any ba nx bc (bareL N) w6 H36.out (by omega)).mono ?_
        rw [bare_bare]
        rintro e w8 ⟨ba2, bc2, rfl, ho8, hb8⟩
        rw [← HBL.out] at ho8 ⊢
        have HO8 : Hid (NdS w8 ba2 nx bc2 (bareL N)) := Lib.hid ho8.vs
        have H38 : Hid (NdS w8 ba nx bc (bareL N)) := Lib.hid (H36.out.below hb8)
        have HW8 : Hid (Below w.heap.size w w8) := Lib.hid (HW6.out.trans (hb8.mono HW6.out.size))
        clear ho8 hb8
        go_wp2_with fail
        refine (nsame_any ba2 nx bc2 (bareL N) ba bc w8 HO8.out H38.out).mono ?_
        rintro e w9 ⟨rfl, hb9⟩
        have HW9 : Hid (Below w.heap.size w w9) := Lib.hid (HW8.out.trans (hb9.mono HW8.out.size))
        clear hb9
        go_wp2
        go_ret
        exact ⟨rfl, HW9.out⟩

end Go.Proofs.YtkaeanaeklilfaaGreatDoor
