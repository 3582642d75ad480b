/- The law SplitJoins. -/
import Derived.Test.YtimhcghjlknibaaDoorGl
import Derived.Test.YtimhcghjlknibaaDoorJx
import Derived.Deep.RegionHeld3
import Derived.Deep.QuietTactic
import Derived.BigQuiet
namespace Go.Proofs.YtimhcghjlknibaaDoor
open Go.RowKit

theorem bytes_to {a : Option Addr} {n c h : Nat} (hh : h ≤ c) (w : World) : (Instr.slice 22 (.slice a n c) none (some (.int .i64 h)) none).run Tryd.prog w = .ok (.slice a h c) w := by
  obtain ⟨i, hi, hz, hs, hby⟩ := info_parts info5
  have he : Tryd.prog.elem 22 = 5 := by kernel_rfl
  have := run_slice_h (P := Tryd.prog) w 22 a n c (by rw [he]; exact Tryd.underlying22) .i64 h (by omega) (by omega)
  rw [this, he, Int.toNat_natCast]
  cases a with
  | none => simp [sizeOf, typeInfo, hi, hs, Result.andThen, sliced]
  | some x =>
    obtain ⟨b, off, spot⟩ := x
    simp [sizeOf, typeInfo, hi, hs, Result.andThen, sliced, Addr.add]
theorem toks_mem {l : List Int} (hr : ∀ x ∈ l, 0 ≤ x ∧ x ≤ 255) {τ : TK} (h : τ ∈ toks l) : ∃ f q : Nat, τ.f = (f : Int) ∧ τ.t = (q : Int) ∧ f ≤ l.length ∧ q ≤ l.length := by
  obtain ⟨j, hj, rfl⟩ := List.getElem_of_mem h
  have := toks_at hr hj
  unfold tat at this
  rwa [show (toks l).getD j _ = (toks l)[j] by simp [List.getD, hj]] at this
theorem in_pcs {T L8 : List TK} {k m : Nat} (h : (pcs T)[k]? = some L8) (hm : m < L8.length) : tat L8 m ∈ T := by
  rw [← pcs_flat T]
  exact List.mem_flatten.2 ⟨L8, List.mem_of_getElem? h, tat_mem hm⟩

theorem kept6 {w w' : World} {b b' o o' : Nat} {u1 u2 u3 u4 u5 u6 : Value} (h : Below w.heap.size w w') (hb : b < w.heap.size) (hb' : b' < w.heap.size)
    (hs : w.cell? ⟨b, o, none⟩ = some u1 ∧ w.cell? ⟨b, o + 2, none⟩ = some u2 ∧ w.cell? ⟨b, o + 3, none⟩ = some u3 ∧ w.cell? ⟨b', o', none⟩ = some u4 ∧ w.cell? ⟨b', o' + 2, none⟩ = some u5 ∧ w.cell? ⟨b', o' + 3, none⟩ = some u6) :
    w'.cell? ⟨b, o, none⟩ = some u1 ∧ w'.cell? ⟨b, o + 2, none⟩ = some u2 ∧ w'.cell? ⟨b, o + 3, none⟩ = some u3 ∧ w'.cell? ⟨b', o', none⟩ = some u4 ∧ w'.cell? ⟨b', o' + 2, none⟩ = some u5 ∧ w'.cell? ⟨b', o' + 3, none⟩ = some u6 :=
  ⟨(h.cell hb).trans hs.1, (h.cell hb).trans hs.2.1, (h.cell hb).trans hs.2.2.1, (h.cell hb').trans hs.2.2.2.1, (h.cell hb').trans hs.2.2.2.2.1, (h.cell hb').trans hs.2.2.2.2.2⟩

set_option maxRecDepth 100000 in
set_option maxHeartbeats 40000000 in
theorem splitJoins_any (a : Option Addr) (len cap : Nat) (l : List Int) (a' : Option Addr) (len' cap' : Nat) (l' : List Int) (w : World) (h : Bs w a len cap l) (h' : Bs w a' len' cap' l') (ht : Tab w) :
    Calls Tryd.prog 7 #[.slice a len cap, .slice a' len' cap'] w fun e w' => e = .returned (.bool true) ∧ Below w.heap.size w w' := by
  obtain ⟨M, hM⟩ : ∃ M, M = min len 200 := ⟨_, rfl⟩
  obtain ⟨F, hF⟩ : ∃ F, F = l.take 200 := ⟨_, rfl⟩
  have hf := bs_few h 200
  rw [← hM, ← hF] at hf
  obtain ⟨M', hM'⟩ : ∃ M', M' = min len' 200 := ⟨_, rfl⟩
  obtain ⟨F', hF'⟩ : ∃ F', F' = l'.take 200 := ⟨_, rfl⟩
  have hf' := bs_few h' 200
  rw [← hM', ← hF'] at hf'
  have HF := Lib.hid hf
  have HF2 := Lib.hid hf'
  have HM := Lib.hid hM
  have HM2 := Lib.hid hM'
  have hM200 : M ≤ 200 := by omega
  have hM200' : M' ≤ 200 := by omega
  have hlc := h.lc
  have hlc' := h'.lc
  have hMc : M ≤ cap := by omega
  have HT := Lib.hid ht
  obtain ⟨T, hT⟩ : ∃ T, T = toks F := ⟨_, rfl⟩
  have HTT := Lib.hid hT
  obtain ⟨TY, hTY⟩ : ∃ TY, TY = toks F' := ⟨_, rfl⟩
  have HTY := Lib.hid hTY
  have HR := Lib.hid hf.rng
  have HR2 := Lib.hid hf'.rng
  have HFL := Lib.hid hf.hl
  have HFL2 := Lib.hid hf'.hl
  clear h h' ht hM hF hf hT hM' hF' hf' hTY
  go_enter Tryd.func7, Tryd.ntmps7
  go_wp2_with fail
  refine (shown_any _ HT.out).mono ?_
  rintro e w1 ⟨rfl, hb1⟩
  have HW1 := Lib.hid hb1
  clear hb1
  go_wp2_with fail
  refine (few_any _ _ _ _ _ HM.out hlc).mono ?_
  rintro e w' ⟨rfl, rfl⟩
  go_wp2_with fail
  refine (pieces_any _ _ _ F _ (HF.out.below HW1.out) (HT.out.keep HW1.out) (by omega)).mono ?_
  rintro e w2 ⟨a7, n7, c7, V, rfl, hp2, hm2, hb2⟩
  have HW2 : Hid (Below w.heap.size w w2) := Lib.hid (HW1.out.trans (hb2.mono HW1.out.size))
  have HP := Lib.hid hp2
  have HVK : Hid (V.map PV.k = pk 0 (pcs T)) := Lib.hid (by rw [HTT.out]; exact hm2)
  have HVl := Lib.hid hp2.hl
  have hlc7 := hp2.row.lc
  have hcm7 := hp2.row.cm
  unfold maxLen at hcm7
  clear hp2 hm2 hb2
  go_wp2
  go_loopw [8, 9] (fun u v wr => ∃ e k : Nat, u = .int .i64 e ∧ v = .int .i64 k ∧ k ≤ n7 ∧ e ≤ M ∧ Hid (e = 0 ∨ ∃ τ ∈ T, τ.k = 7 ∧ τ.t = e) ∧ Hid (Below w2.heap.size w2 wr)) (fun _ v _ => n7 - (intOf v).toNat)
  case atStart => exact ⟨0, 0, rfl, rfl, by omega, by omega, Lib.hid (Or.inl rfl), Lib.hid (Below.refl _ _)⟩
  case round =>
    obtain ⟨e, k, rfl, rfl, hk, he, HE, HB⟩ := hrel
    rename World => wa
    by_cases hlt : k < n7
    · obtain ⟨L8, hg8, hcl, hpk, _⟩ := piece_at HVK.out HVl.out hlt
      have hpr := HP.out.below HB.out
      obtain ⟨b4, o4, rfl, hbl⟩ := hpr.form (by omega)
      obtain ⟨_, d1, _, d3⟩ := hpr.at4 hlt
      have hok := hpr.ok _ (pat_mem (V := V) (j := k) (by rw [HVl.out]; exact hlt))
      obtain ⟨X, hX⟩ : ∃ X, X = pat V k := ⟨_, rfl⟩
      rw [← hX] at d1 d3 hok hpk
      obtain ⟨F1, U1, I1, ⟨a8, n8, c8, L8'⟩⟩ := X
      unfold PV.k pkOf at hpk
      simp only [PK.mk.injEq] at hpk
      obtain ⟨rfl, rfl, rfl, rfl⟩ := hpk
      unfold SV.ok at hok
      simp only at d1 d3 hok
      have hl8 := hok.hl
      have hpos := hcl.pos
      obtain ⟨m, rfl⟩ : ∃ m, n8 = m + 1 := ⟨n8 - 1, by omega⟩
      obtain ⟨g8, o8, rfl, _, _⟩ := hok.at_ (by omega)
      obtain ⟨q0, _, _, _, _⟩ := hok.at5 (k := m) (by omega)
      have hlm : L8'.length - 1 = m := by omega
      rw [hlm] at d1
      have hin := in_pcs hg8 (m := m) (by omega)
      obtain ⟨fq, q, hfq, hq, _, hqM⟩ := toks_mem HR.out (by rw [← HTT.out]; exact hin)
      rw [HFL.out] at hqM
      rw [hq] at d1
      obtain ⟨K1, hK1⟩ : ∃ K1, K1 = (tat L8' m).k := ⟨_, rfl⟩
      rw [← hK1] at q0
      have HE7 : Hid (K1 = 7 → q = 0 ∨ ∃ τ ∈ T, τ.k = 7 ∧ τ.t = q) := Lib.hid fun h7 => Or.inr ⟨_, hin, by rw [← hK1]; exact h7, hq⟩
      have hlc8 := hok.lc
      have hcm8 := hok.cm
      unfold maxLen at hcm8
      have hz : decide ((0 : Int) < (m : Int) + 1) = true := decide_eq_true (by omega)
      have hw1 : IntKind.i64.wrap (m : Int) = (m : Int) := IntWalk.i64_in _ (by omega)
      have hw2 : (0 : Int) ≤ (m : Int) := Int.natCast_nonneg _
      have hw3 : (m : Int) < (m : Int) + 1 := by omega
      have hw4 : (0 : Int) ≤ (k : Int) := Int.natCast_nonneg _
      have hw5 : (k : Int) < (n7 : Int) := by omega
      clear hpr hX hok hcl hl8 hpos hlm hg8 hbl hin hfq hq hK1
      cases h7 : K1 == 7 with
      | true =>
        have HE8 := Lib.hid (HE7.out (by simpa using h7))
        go_wp2
        go_quiet (fail)
        go_wp2
        go_roundw
        case rel => exact ⟨q, k + 1, rfl, by go_num, by omega, hqM, HE8, Lib.hid (below_drewN HB.out _)⟩
        case measure => simp [intOf]; omega
      | false =>
        go_wp2
        go_quiet (fail)
        go_wp2
        go_roundw
        case rel => exact ⟨e, k + 1, rfl, by go_num, by omega, he, HE, Lib.hid (below_drewN HB.out _)⟩
        case measure => simp [intOf]; omega
    · obtain ⟨Mt, hC⟩ : ∃ Mt, Cutp F e Mt := by
        rcases HE.out with rfl | ⟨τ, h1, h2, h3⟩
        · exact ⟨[], cut_zero F⟩
        · exact cut_at HR.out (by rw [← HTT.out]; exact h1) h2 h3
      have HC := Lib.hid hC
      have HWa : Hid (Below w.heap.size w wa) := Lib.hid (HW2.out.trans (HB.out.mono HW2.out.size))
      have hd0 : decide ((e : Int) < 0) = false := by simp
      have hd1 : decide ((M : Int) < (e : Int)) = false := by simp; omega
      have hto : ∀ w, (Instr.slice 22 (.slice a M cap) none (some (.int .i64 e)) none).run Tryd.prog w = .ok (.slice a e cap) w := fun w => bytes_to (by omega) w
      have HFe : Hid (Bs w a e cap (F.take e)) := Lib.hid (HF.out.take he (by omega) HF.out.cm)
      clear hC
      go_wp2_with (at_builtin; refine Hid.out ?_)
      refine Lib.hid ?_
      refine wpList_app rfl (.tmp 68) (.tmp 71) 22 rfl 5 wa.heap.size Tryd.underlying22 info5 _ _ _ [] rfl (OwnB.made (Nat.le_refl _)) _ _ _ (F.take e) rfl ((HFe.out.below HWa.out).below ((Below.refl _ _).alloc (Nat.le_refl _) _)) (by omega) (by simp) ?_
      intro a3 c3 w3 ho3 hb3
      rw [Nat.zero_add] at ho3 ⊢
      rw [List.nil_append] at ho3
      have HO3 := Lib.hid ho3
      have HB3 : Hid (Below wa.heap.size wa w3) := Lib.hid (((Below.refl _ _).alloc (Nat.le_refl _) _).trans hb3)
      clear ho3 hb3
      go_wp2_with (at_builtin; refine Hid.out ?_)
      refine Lib.hid ?_
      refine wpList_app rfl (.tmp 72) (.tmp 73) 22 rfl 5 wa.heap.size Tryd.underlying22 info5 _ _ _ _ rfl (HO3.out.alloc _) _ _ _ [10] rfl (Bs.lit _ 5 (by simp) (by simp) rfl rfl (by decide)) (by omega) (by have := HB3.out.size; simp; omega) ?_
      intro a4 c4 w4 ho4 hb4
      obtain ⟨D, hD⟩ : ∃ D, D = e + 1 := ⟨_, rfl⟩
      obtain ⟨G, hG⟩ : ∃ G, G = F.take e ++ [10] := ⟨_, rfl⟩
      rw [← hD, ← hG] at ho4
      rw [← hD]
      have HDe := Lib.hid hD
      have HGe := Lib.hid hG
      have hD201 : D ≤ 201 := by omega
      have HO4 := Lib.hid ho4
      have HW4 : Hid (Below w.heap.size w w4) := Lib.hid (HWa.out.trans ((HB3.out.alloc HB3.out.size _ |>.trans hb4).mono HWa.out.size))
      clear ho4 hb4 hD hG
      go_wp2_with fail
      refine (pieces_any _ _ _ G _ HO4.out.bs (HT.out.keep HW4.out) (by omega)).mono ?_
      rintro e5 w5 ⟨ap, np, cp, Vp, rfl, hp5, hm5, hb5⟩
      have HTG : Hid (toks G = Mt) := Lib.hid (by
        have h0 : toks [] = [] := by unfold toks; rw [show lx [] 0 = [] from lx_last (l := [])]; rfl
        rw [HGe.out, HC.out.eq [] (by simp), h0, List.map_nil, List.append_nil])
      have HPK : Hid (Vp.map PV.k = pk 0 (pcs Mt)) := Lib.hid (by rw [← HTG.out]; exact hm5)
      have HW5 : Hid (Below w.heap.size w w5) := Lib.hid (HW4.out.trans (hb5.mono HW4.out.size))
      have HO5 := Lib.hid (HO4.out.keep hb5 (Nat.le_refl _))
      have HP5 := Lib.hid hp5
      clear hp5 hm5 hb5
      go_wp2_with fail
      refine (few_any _ _ _ _ _ HM2.out hlc').mono ?_
      rintro e' w' ⟨rfl, rfl⟩
      go_wp2_with fail
      refine (pieces_any _ _ _ F' _ (HF2.out.below HW5.out) (HT.out.keep HW5.out) (by omega)).mono ?_
      rintro e6 w6 ⟨aq, nq, cq, Vq, rfl, hp6, hm6, hb6⟩
      have HQK : Hid (Vq.map PV.k = pk 0 (pcs TY)) := Lib.hid (by rw [HTY.out]; exact hm6)
      have HW6 : Hid (Below w.heap.size w w6) := Lib.hid (HW5.out.trans (hb6.mono HW5.out.size))
      have HO6 := Lib.hid (HO5.out.keep hb6 (Nat.le_refl _))
      have HP6 := Lib.hid (HP5.out.below hb6)
      have HQ6 := Lib.hid hp6
      clear hp6 hm6 hb6
      go_wp2_with (at_builtin; refine Hid.out ?_)
      refine Lib.hid ?_
      refine wpList_app rfl (.tmp 80) (.tmp 81) 22 rfl 5 w6.heap.size Tryd.underlying22 info5 _ _ _ [] rfl (OwnB.made (Nat.le_refl _)) _ _ _ G rfl (HO6.out.bs.below ((Below.refl _ _).alloc (Nat.le_refl _) _)) (by omega) (by simp) ?_
      intro a7' c7' w7 ho7 hb7
      rw [Nat.zero_add] at ho7 ⊢
      rw [List.nil_append] at ho7
      have HO7 := Lib.hid ho7
      have HB7 : Hid (Below w6.heap.size w6 w7) := Lib.hid (((Below.refl _ _).alloc (Nat.le_refl _) _).trans hb7)
      have HW7 : Hid (Below w.heap.size w w7) := Lib.hid (HW6.out.trans (HB7.out.mono HW6.out.size))
      clear ho7 hb7
      go_wp2_with fail
      refine (few_any _ _ _ _ _ HM2.out hlc').mono ?_
      rintro e' w' ⟨rfl, rfl⟩
      go_wp2_with (at_builtin; refine Hid.out ?_)
      refine Lib.hid ?_
      refine wpList_app rfl (.tmp 82) (.tmp 84) 22 rfl 5 w6.heap.size Tryd.underlying22 info5 _ _ _ _ rfl HO7.out _ _ _ F' rfl (HF2.out.below HW7.out) (by omega) HB7.out.size ?_
      intro a8 c8 w8 ho8 hb8
      have HO8 := Lib.hid ho8
      have HB8 : Hid (Below w6.heap.size w6 w8) := Lib.hid (HB7.out.trans hb8)
      have HW8 : Hid (Below w.heap.size w w8) := Lib.hid (HW6.out.trans (HB8.out.mono HW6.out.size))
      clear ho8 hb8
      go_wp2_with fail
      refine (pieces_any _ _ _ (G ++ F') _ HO8.out.bs (HT.out.keep HW8.out) (by omega)).mono ?_
      rintro e9 w9 ⟨ar, nr, cr, Vr, rfl, hp9, hm9, hb9⟩
      have HTR : Hid (toks (G ++ F') = Mt ++ TY.map (shTK D)) := Lib.hid (by
        rw [HGe.out, List.append_assoc, HTY.out, HDe.out]; exact HC.out.eq F' HR2.out)
      have HRK : Hid (Vr.map PV.k = pk 0 (pcs (Mt ++ TY.map (shTK D)))) := Lib.hid (by rw [← HTR.out]; exact hm9)
      have HW9 : Hid (Below w.heap.size w w9) := Lib.hid (HW8.out.trans (hb9.mono HW8.out.size))
      have HP9 := Lib.hid ((HP6.out.below HB8.out).below hb9)
      have HQ9 := Lib.hid ((HQ6.out.below HB8.out).below hb9)
      have HR9 := Lib.hid hp9
      have HJ := Lib.hid (join_len HPK.out HQK.out HRK.out HC.out.last)
      have HPl := Lib.hid HP9.out.hl
      have HQl := Lib.hid HQ9.out.hl
      have HRl := Lib.hid HR9.out.hl
      have hnr : (np : Int) + (nq : Int) = (nr : Int) := by have := HJ.out.1; rw [HPl.out, HQl.out, HRl.out] at this; omega
      have HNR := Lib.hid hnr
      have hMt : Mt.length ≤ 201 := by
        have h1 := toks_length HO4.out.bs.rng
        rw [HTG.out, HO4.out.bs.hl] at h1
        omega
      have hnp : np ≤ 201 := by
        have h1 := pcs_len Mt
        have h2 := congrArg List.length HPK.out
        rw [List.length_map, pk_len, HPl.out] at h2
        omega
      have hnq : nq ≤ 200 := by
        have h1 := pcs_len TY
        have h2 := congrArg List.length HQK.out
        rw [List.length_map, pk_len, HQl.out] at h2
        have h3 := toks_length HR2.out
        rw [← HTY.out, HFL2.out] at h3
        omega
      have hlcp := HP9.out.row.lc
      have hcmp := HP9.out.row.cm
      have hlcq := HQ9.out.row.lc
      have hcmq := HQ9.out.row.cm
      have hlcr := HR9.out.row.lc
      have hcmr := HR9.out.row.cm
      unfold maxLen at hcmp hcmq hcmr
      clear hp9 hm9 hb9 hto hd0 hd1
      go_wp2
      go_loopw [14, 15] (fun u v wr => ∃ s k : Nat, u = .int .i64 s ∧ v = .int .i64 k ∧ k ≤ np ∧ s ≤ 201 ∧ Hid (s = ((pcs Mt).take k).flatten.length) ∧ Hid (Below w9.heap.size w9 wr)) (fun _ v _ => np - (intOf v).toNat)
      case atStart => exact ⟨0, 0, rfl, rfl, by omega, by omega, Lib.hid (by simp), Lib.hid (Below.refl _ _)⟩
      case round =>
        obtain ⟨s, k', rfl, rfl, hk', hs, HS, HB2⟩ := hrel
        rename World => wb
        by_cases hlt2 : k' < np
        · obtain ⟨L8, hg8, hcl, hpk, _⟩ := piece_at HPK.out HPl.out hlt2
          have hpr := HP9.out.below HB2.out
          obtain ⟨b4, o4, rfl, _⟩ := hpr.form (by omega)
          obtain ⟨_, _, _, d3⟩ := hpr.at4 hlt2
          have hok := hpr.ok _ (pat_mem (V := Vp) (j := k') (by rw [HPl.out]; exact hlt2))
          obtain ⟨X, hX⟩ : ∃ X, X = pat Vp k' := ⟨_, rfl⟩
          rw [← hX] at d3 hok hpk
          obtain ⟨F1, U1, I1, ⟨a9, n9, c9, L8'⟩⟩ := X
          unfold PV.k pkOf at hpk
          simp only [PK.mk.injEq] at hpk
          obtain ⟨_, _, _, rfl⟩ := hpk
          unfold SV.ok at hok
          simp only at d3 hok
          have hl8 := hok.hl
          have hnx : ((pcs Mt).take (k' + 1)).flatten = ((pcs Mt).take k').flatten ++ L8' := by rw [List.take_add_one, hg8]; simp
          have hsum : ((pcs Mt).take (k' + 1)).flatten.length ≤ Mt.length := by
            have h1 := congrArg List.length (pcs_flat Mt)
            have h2 : ((pcs Mt).take (k' + 1)).flatten.length + ((pcs Mt).drop (k' + 1)).flatten.length = (pcs Mt).flatten.length := by
              rw [← List.length_append, ← List.flatten_append, List.take_append_drop]
            omega
          have hs2 : s + n9 ≤ 201 := by rw [hnx, List.length_append, ← HS.out, hl8] at hsum; omega
          have HS2 : Hid (s + n9 = ((pcs Mt).take (k' + 1)).flatten.length) := Lib.hid (by rw [hnx, List.length_append, ← HS.out, hl8])
          have hlc9 := hok.lc
          have hcm9 := hok.cm
          unfold maxLen at hcm9
          clear hpr hX hok hcl hl8 hg8 hnx hsum
          go_wp2
          go_roundw
          case rel => exact ⟨s + n9, k' + 1, by go_num, by go_num, by omega, hs2, HS2, HB2⟩
          case measure => simp [intOf]; omega
        · have HSM : Hid (s = Mt.length) := Lib.hid (by
            have h1 := congrArg List.length HPK.out
            rw [List.length_map, pk_len, HPl.out] at h1
            rw [HS.out, List.take_of_length_le (by omega), pcs_flat])
          go_wp2
          go_loopw [16] (fun v wr => ∃ i : Nat, v = .int .i64 i ∧ i ≤ np ∧ Hid (Below w9.heap.size w9 wr)) (fun v _ => np - (intOf v).toNat)
          case atStart => exact ⟨0, rfl, by omega, HB2⟩
          case round =>
            obtain ⟨i, rfl, hi, HB3⟩ := hrel
            rename World => wc
            by_cases hip : i < np
            · have hkk := HJ.out.2.1 i (by rw [HPl.out]; exact hip)
              have hpr := HP9.out.below HB3.out
              have hrr := HR9.out.below HB3.out
              obtain ⟨b, off, rfl, hbl⟩ := hpr.form (by omega)
              obtain ⟨b', off', rfl, hbl'⟩ := hrr.form (by omega)
              obtain ⟨c0, c1, c2, c3⟩ := hpr.at4 hip
              obtain ⟨d0, d1, d2, d3⟩ := hrr.at4 (k := i) (by omega)
              have hp := hpr.ok _ (pat_mem (V := Vp) (j := i) (by rw [HPl.out]; exact hip))
              have hp' := hrr.ok _ (pat_mem (V := Vr) (j := i) (by rw [HRl.out]; omega))
              obtain ⟨X, hX⟩ : ∃ X, X = pat Vp i := ⟨_, rfl⟩
              obtain ⟨Y, hY⟩ : ∃ Y, Y = pat Vr i := ⟨_, rfl⟩
              rw [← hX] at c0 c1 c2 c3 hp hkk
              rw [← hY] at d0 d1 d2 d3 hp' hkk
              obtain ⟨F1, U1, I1, ⟨xa, xn, xc, xL⟩⟩ := X
              obtain ⟨F2, U2, I2, ⟨ya, yn, yc, yL⟩⟩ := Y
              unfold PV.k at hkk
              simp only [PK.mk.injEq] at hkk
              obtain ⟨rfl, rfl, rfl, rfl⟩ := hkk
              unfold SV.ok at hp hp'
              simp only at c0 c1 c2 c3 d0 d1 d2 d3 hp hp'
              obtain rfl : yn = xn := by rw [← hp.hl, ← hp'.hl]
              have HPx := Lib.hid hp
              have HPy := Lib.hid hp'
              have HBL := Lib.hid (And.intro hbl hbl')
              have HCC := Lib.hid (And.intro c0 (And.intro c2 (And.intro c3 (And.intro d0 (And.intro d2 d3)))))
              have hi0 : (0 : Int) ≤ (i : Int) := Int.natCast_nonneg _
              have hi1 : (i : Int) < (np : Int) := by omega
              have hi2 : (i : Int) < (nr : Int) := by omega
              clear hpr hrr hX hY hp hp' hbl hbl' c0 c1 c2 c3 d0 d1 d2 d3
              go_wp2
              have hS := HCC.out
              go_region_held3 (fun w' => w'.cell? ⟨b, off + i * 4, none⟩ = some (.int .i64 F2) ∧ w'.cell? ⟨b, off + i * 4 + 2, none⟩ = some (.int .i64 I2) ∧ w'.cell? ⟨b, off + i * 4 + 3, none⟩ = some (.slice xa yn xc) ∧ w'.cell? ⟨b', off' + i * 4, none⟩ = some (.int .i64 F2) ∧ w'.cell? ⟨b', off' + i * 4 + 2, none⟩ = some (.int .i64 I2) ∧ w'.cell? ⟨b', off' + i * 4 + 3, none⟩ = some (.slice ya yn yc))
                (first
                  | go_keep
                  | exact HCC1.out)
                (first
                  | (go_at_call 18; (with_reducible refine (same_any xa yn xc yL ya yc _ (HPx.out.below ?_) (HPy.out.below ?_)).mono ?_); (exact (Below.refl _ _).drew); (exact (Below.refl _ _).drew); (rintro e w10 ⟨rfl, hb10⟩); (have HB10 : Hid (Below wc.heap.size wc w10) := Lib.hid ((Below.refl _ _).drew.trans hb10)); (have HCC1 := Lib.hid (kept6 HB10.out HBL.out.1 HBL.out.2 HCC.out)); clear hb10))
              all_goals
                go_wp2
                go_roundw
                case rel => exact ⟨i + 1, by go_num, by omega, Lib.hid (HB3.out.trans (HB10.out.mono HB3.out.size))⟩
                case measure => simp [intOf]; omega
            · go_wp2
              go_loopw [17] (fun v wr => ∃ i : Nat, v = .int .i64 i ∧ i ≤ nq ∧ Hid (Below w9.heap.size w9 wr)) (fun v _ => nq - (intOf v).toNat)
              case atStart => exact ⟨0, rfl, by omega, HB3⟩
              case round =>
                obtain ⟨j, rfl, hj, HB4⟩ := hrel
                rename World => wd
                by_cases hjq : j < nq
                · have hrk := HJ.out.2.2 j (by rw [HQl.out]; exact hjq)
                  rw [HPl.out, ← HSM.out] at hrk
                  obtain ⟨L8, hg8, hcl, hpk, _⟩ := piece_at HQK.out HQl.out hjq
                  obtain ⟨x, hx⟩ : ∃ x : Nat, (np : Int) + (j : Int) = (x : Int) := ⟨np + j, by omega⟩
                  have hxe : np + j = x := by omega
                  have hxr : x < nr := by omega
                  rw [hxe] at hrk
                  have hqr := HQ9.out.below HB4.out
                  have hrr := HR9.out.below HB4.out
                  obtain ⟨b, off, rfl, hbl⟩ := hqr.form (by omega)
                  obtain ⟨b', off', rfl, hbl'⟩ := hrr.form (by omega)
                  obtain ⟨c0, c1, c2, c3⟩ := hqr.at4 hjq
                  obtain ⟨d0, d1, d2, d3⟩ := hrr.at4 hxr
                  have hp := hqr.ok _ (pat_mem (V := Vq) (j := j) (by rw [HQl.out]; exact hjq))
                  have hp' := hrr.ok _ (pat_mem (V := Vr) (j := x) (by rw [HRl.out]; exact hxr))
                  obtain ⟨X, hX⟩ : ∃ X, X = pat Vq j := ⟨_, rfl⟩
                  obtain ⟨Y, hY⟩ : ∃ Y, Y = pat Vr x := ⟨_, rfl⟩
                  rw [← hX] at c0 c1 c2 c3 hp hrk hpk
                  rw [← hY] at d0 d1 d2 d3 hp' hrk
                  obtain ⟨F1, U1, I1, ⟨xa, xn, xc, xL⟩⟩ := X
                  obtain ⟨F2, U2, I2, ⟨ya, yn, yc, yL⟩⟩ := Y
                  unfold PV.k at hrk
                  unfold PV.k pkOf at hpk
                  simp only [PK.mk.injEq] at hrk hpk
                  obtain ⟨rfl, rfl, rfl, rfl⟩ := hrk
                  obtain ⟨rfl, rfl, rfl, rfl⟩ := hpk
                  unfold SV.ok at hp hp'
                  simp only at c0 c1 c2 c3 d0 d1 d2 d3 hp hp'
                  have hpos := hcl.pos
                  obtain ⟨f1, _, hf1, _, hf1M, _⟩ := toks_mem HR2.out (by rw [← HTY.out]; exact in_pcs hg8 (m := 0) hpos)
                  obtain ⟨_, u1, _, hu1, _, hu1M⟩ := toks_mem HR2.out (by rw [← HTY.out]; exact in_pcs hg8 (m := xL.length - 1) (by omega))
                  rw [HFL2.out] at hf1M hu1M
                  obtain ⟨q1, hq1⟩ : ∃ q1, q1 = ((pcs TY).take j).flatten.length := ⟨_, rfl⟩
                  have hq1M : q1 ≤ 200 := by
                    have h1 := congrArg List.length (pcs_flat TY)
                    have h2 : ((pcs TY).take j).flatten.length + ((pcs TY).drop j).flatten.length = (pcs TY).flatten.length := by
                      rw [← List.length_append, ← List.flatten_append, List.take_append_drop]
                    have h3 := toks_length HR2.out
                    rw [← HTY.out, HFL2.out] at h3
                    omega
                  rw [hf1] at c0 d0
                  rw [hu1] at c1 d1
                  rw [← hq1] at c2 d2
                  obtain ⟨sF, hsF⟩ : ∃ sF : Nat, (f1 : Int) + (D : Int) = (sF : Int) := ⟨f1 + D, by omega⟩
                  obtain ⟨sU, hsU⟩ : ∃ sU : Nat, (u1 : Int) + (D : Int) = (sU : Int) := ⟨u1 + D, by omega⟩
                  obtain ⟨sI, hsI⟩ : ∃ sI : Nat, (q1 : Int) + (s : Int) = (sI : Int) := ⟨q1 + s, by omega⟩
                  rw [hsF] at d0
                  rw [hsU] at d1
                  rw [hsI] at d2
                  have hwF : IntKind.i64.wrap ((f1 : Int) + (D : Int)) = (sF : Int) := by rw [IntWalk.i64_in _ (by omega)]; exact hsF
                  have hwU : IntKind.i64.wrap ((u1 : Int) + (D : Int)) = (sU : Int) := by rw [IntWalk.i64_in _ (by omega)]; exact hsU
                  have hwI : IntKind.i64.wrap ((q1 : Int) + (s : Int)) = (sI : Int) := by rw [IntWalk.i64_in _ (by omega)]; exact hsI
                  have HPx := Lib.hid hp
                  have HPy := Lib.hid hp'
                  have hxx : (0 : Int) ≤ (x : Int) := Int.natCast_nonneg _
                  have hxy : (x : Int) < (nr : Int) := by omega
                  have hj0 : (0 : Int) ≤ (j : Int) := Int.natCast_nonneg _
                  have hj1 : (j : Int) < (nq : Int) := by omega
                  have hwx : IntKind.i64.wrap ((np : Int) + (j : Int)) = (x : Int) := by rw [IntWalk.i64_in _ (by omega)]; exact hx
                  have HBL := Lib.hid (And.intro hbl hbl')
                  have HQC := Lib.hid (And.intro c0 (And.intro c1 (And.intro c2 c3)))
                  clear hxe hqr hrr hX hY hp hp' hbl hbl' hcl hg8 hpos hf1 hu1 hq1 hsF hsU hsI
                  have k0 : (wd.alloc (.cells #[.int .i64 sF, .int .i64 sU, .int .i64 sI, .slice ya yn yc] 25)).cell? ⟨b, off + j * 4, none⟩ = some (.int .i64 f1) := (((Below.refl _ _).alloc (Nat.le_refl _) _).cell HBL.out.1).trans HQC.out.1
                  have k1 : (wd.alloc (.cells #[.int .i64 sF, .int .i64 sU, .int .i64 sI, .slice ya yn yc] 25)).cell? ⟨b, off + j * 4 + 1, none⟩ = some (.int .i64 u1) := (((Below.refl _ _).alloc (Nat.le_refl _) _).cell HBL.out.1).trans HQC.out.2.1
                  have k2 : (wd.alloc (.cells #[.int .i64 sF, .int .i64 sU, .int .i64 sI, .slice ya yn yc] 25)).cell? ⟨b, off + j * 4 + 2, none⟩ = some (.int .i64 q1) := (((Below.refl _ _).alloc (Nat.le_refl _) _).cell HBL.out.1).trans HQC.out.2.2.1
                  have k3 : (wd.alloc (.cells #[.int .i64 sF, .int .i64 sU, .int .i64 sI, .slice ya yn yc] 25)).cell? ⟨b, off + j * 4 + 3, none⟩ = some (.slice xa xn xc) := (((Below.refl _ _).alloc (Nat.le_refl _) _).cell HBL.out.1).trans HQC.out.2.2.2
                  cases hbd : badT (xL.map (shTK D)) with
                  | false =>
                    have KA : Hid (∀ n, Calls Tryd.prog 21 #[.slice ya yn yc, .slice xa xn xc] ((wd.alloc (.cells #[.int .i64 sF, .int .i64 sU, .int .i64 sI, .slice ya yn yc] 25)).drewN n) fun e w' => e = .returned (.bool true) ∧ ∃ m, w' = ((wd.alloc (.cells #[.int .i64 sF, .int .i64 sU, .int .i64 sI, .slice ya yn yc] 25)).drewN n).drewN m) := Lib.hid fun n =>
                      (alikeQ_any ya yn yc (xL.map (shTK D)) xa xn xc xL _ (HPy.out.below (below_drewN ((Below.refl _ _).alloc (Nat.le_refl _) _) _)) (HPx.out.below (below_drewN ((Below.refl _ _).alloc (Nat.le_refl _) _) _))).mono fun e w' hh => ⟨by rw [hh.1, alike_bad, hbd]; rfl, hh.2⟩
                    clear hbd
                    go_wp2
                    go_quiet (first | (go_at_call 21; exact Calls.quiet_of (KA.out _)))
                    go_wp2
                    go_roundw
                    case rel => exact ⟨j + 1, by go_num, by omega, Lib.hid (HB4.out.trans ((below_drewN ((Below.refl _ _).alloc (Nat.le_refl _) _) _).mono HB4.out.size))⟩
                    case measure => simp [intOf]; omega
                  | true =>
                    have KA : Hid (∀ n, Calls Tryd.prog 21 #[.slice ya yn yc, .slice xa xn xc] ((wd.alloc (.cells #[.int .i64 sF, .int .i64 sU, .int .i64 sI, .slice ya yn yc] 25)).drewN n) fun e w' => e = .returned (.bool false) ∧ ∃ m, w' = ((wd.alloc (.cells #[.int .i64 sF, .int .i64 sU, .int .i64 sI, .slice ya yn yc] 25)).drewN n).drewN m) := Lib.hid fun n =>
                      (alikeQ_any ya yn yc (xL.map (shTK D)) xa xn xc xL _ (HPy.out.below (below_drewN ((Below.refl _ _).alloc (Nat.le_refl _) _) _)) (HPx.out.below (below_drewN ((Below.refl _ _).alloc (Nat.le_refl _) _) _))).mono fun e w' hh => ⟨by rw [hh.1, alike_bad, hbd]; rfl, hh.2⟩
                    have KB : Hid (∀ n, Calls Tryd.prog 22 #[.slice ya yn yc] ((wd.alloc (.cells #[.int .i64 sF, .int .i64 sU, .int .i64 sI, .slice ya yn yc] 25)).drewN n) fun e w' => e = .returned (.bool true) ∧ w' = (wd.alloc (.cells #[.int .i64 sF, .int .i64 sU, .int .i64 sI, .slice ya yn yc] 25)).drewN n) := Lib.hid fun n =>
                      (tbad_any ya yn yc (xL.map (shTK D)) _ (HPy.out.below (below_drewN ((Below.refl _ _).alloc (Nat.le_refl _) _) _))).mono fun e w' hh => ⟨by rw [hh.1, hbd], hh.2.symm⟩
                    clear hbd
                    go_wp2
                    go_quiet (first | (go_at_call 21; exact Calls.quiet_of (KA.out _)) | (go_at_call 22; exact Calls.quiet_of_same (KB.out _)))
                    go_wp2
                    go_roundw
                    case rel => exact ⟨j + 1, by go_num, by omega, Lib.hid (HB4.out.trans ((below_drewN ((Below.refl _ _).alloc (Nat.le_refl _) _) _).mono HB4.out.size))⟩
                    case measure => simp [intOf]; omega
                · have HBf : Hid (Below w.heap.size w wd) := Lib.hid (HW9.out.trans (HB4.out.mono HW9.out.size))
                  go_wp2
                  go_ret
                  exact ⟨rfl, HBf.out⟩

end Go.Proofs.YtimhcghjlknibaaDoor
