/- The law SplitWhole. -/
import Derived.Test.YtimhcghjlknibaaDoorGr
import Derived.Test.YtimhcghjlknibaaDoorMB
import Derived.Test.YtimhcghjlknibaaDoorGq
namespace Go.Proofs.YtimhcghjlknibaaDoor
open Go.RowKit

theorem pk_at : ∀ (P : List (List TK)) (i k : Nat), (pk i P)[k]? = (P[k]?).map (pkOf (i + (P.take k).flatten.length))
  | [], i, k => by simp [pk]
  | p :: P, i, 0 => by simp [pk]
  | p :: P, i, k + 1 => by
    rw [pk, List.getElem?_cons_succ, pk_at P (i + p.length) k, List.getElem?_cons_succ, List.take_succ_cons, List.flatten_cons, List.length_append, Nat.add_assoc]
theorem bs_few {w : World} {a : Option Addr} {len cap : Nat} {l : List Int} (h : Bs w a len cap l) (n : Nat) : Bs w a (min len n) cap (l.take n) := by
  by_cases h0 : n ≤ len
  · rw [Nat.min_eq_right h0]
    exact h.take h0 (Nat.le_trans h0 h.lc) h.cm
  · rw [Nat.min_eq_left (by omega), List.take_of_length_le (by rw [h.hl]; omega)]
    exact h

/-- A piece of the clauses of T, as its value tells it. -/
theorem piece_at {V : List PV} {T : List TK} {n k : Nat} (hm : V.map PV.k = pk 0 (pcs T)) (hl : V.length = n) (hk : k < n) :
    ∃ L8, (pcs T)[k]? = some L8 ∧ Cl L8 ∧ (pat V k).k = pkOf ((pcs T).take k).flatten.length L8 ∧ (k + 1 < n → (tat L8 (L8.length - 1)).k = 7) := by
  have h1 := congrArg (fun x => x[k]?) hm
  simp only [List.getElem?_map] at h1
  have hpl : (pcs T).length = n := by
    have := congrArg List.length hm
    rw [List.length_map, pk_len] at this
    omega
  rw [List.getElem?_eq_getElem (by omega), pk_at, List.getElem?_eq_getElem (show k < (pcs T).length by omega), Nat.zero_add] at h1
  simp only [Option.map_some, Option.some.injEq] at h1
  refine ⟨(pcs T)[k]'(by omega), List.getElem?_eq_getElem (by omega), pcs_cl T _ (List.getElem_mem _), ?_, fun hk1 => ?_⟩
  · rw [← h1]
    unfold pat
    rw [show V.getD k _ = V[k]'(by omega) by simp [List.getD, show k < V.length by omega]]
  · have := pcs_ends T k (by omega)
    rw [show (pcs T).getD k [] = (pcs T)[k]'(by omega) by simp [List.getD, show k < (pcs T).length by omega]] at this
    exact this

set_option maxRecDepth 100000 in
set_option maxHeartbeats 8000000 in
theorem splitWhole_any (a : Option Addr) (len cap : Nat) (l : List Int) (w : World) (h : Bs w a len cap l) (ht : Tab w) :
    Calls Tryd.prog 4 #[.slice a len cap] w fun e w' => e = .returned (.bool true) ∧ Below w.heap.size w w' := by
  obtain ⟨M, hM⟩ : ∃ M, M = min len 200 := ⟨_, rfl⟩
  obtain ⟨F, hF⟩ : ∃ F, F = l.take 200 := ⟨_, rfl⟩
  have hf := bs_few h 200
  rw [← hM, ← hF] at hf
  have HF := Lib.hid hf
  have HM := Lib.hid hM
  have hM200 : M ≤ 200 := by omega
  have hlc := h.lc
  have HT := Lib.hid ht
  obtain ⟨T, hT⟩ : ∃ T, T = toks F := ⟨_, rfl⟩
  have HTT := Lib.hid hT
  have hTl : T.length ≤ 200 := by have := toks_length hf.rng; rw [hf.hl] at this; rw [hT]; omega
  obtain ⟨N, hN⟩ : ∃ N, N = T.length := ⟨_, rfl⟩
  have HN := Lib.hid hN
  rw [← hN] at hTl
  have HFl : Hid (∀ k, ((pcs T).take k).flatten.length ≤ N) := Lib.hid fun k => by
    have h1 := congrArg List.length (pcs_flat T)
    have h2 : ((pcs T).take k).flatten.length + ((pcs T).drop k).flatten.length = (pcs T).flatten.length := by
      rw [← List.length_append, ← List.flatten_append, List.take_append_drop]
    omega
  clear h ht hM hF hf hT hN
  go_enter Tryd.func4, Tryd.ntmps4
  go_wp2_with fail
  refine (shown_any _ HT.out).mono ?_
  rintro e w1 ⟨rfl, hb1⟩
  have HW1 := Lib.hid hb1
  clear hb1
  go_wp2_with fail
  refine (few_any _ _ _ _ _ HM.out hlc).mono ?_
  rintro e w' ⟨rfl, rfl⟩
  go_wp2_with fail
  refine (pieces_any _ _ _ F _ (HF.out.below HW1.out) (HT.out.keep HW1.out) (by omega)).mono ?_
  rintro e w2 ⟨a4, n4, c4, V, rfl, hp2, hm2, hb2⟩
  have HW2 : Hid (Below w.heap.size w w2) := Lib.hid (HW1.out.trans (hb2.mono HW1.out.size))
  have HP := Lib.hid hp2
  have HVK : Hid (V.map PV.k = pk 0 (pcs T)) := Lib.hid (by rw [HTT.out]; exact hm2)
  have HVl := Lib.hid hp2.hl
  have HPl : Hid ((pcs T).length = n4) := Lib.hid (by have := congrArg List.length HVK.out; rw [List.length_map, pk_len] at this; rw [← this, HVl.out])
  have hlc4 := hp2.row.lc
  have hcm4 := hp2.row.cm
  unfold maxLen at hcm4
  clear hp2 hm2 hb2
  go_wp2
  go_loopw [5, 6] (fun v x wr => ∃ a5, ∃ c5 d k : Nat, v = .slice a5 d c5 ∧ x = .int .i64 k ∧ k ≤ n4 ∧ d ≤ N ∧ Hid (d = ((pcs T).take k).flatten.length) ∧ Hid (OwnT w2.heap.size 38 wr a5 d c5 ((pcs T).take k).flatten) ∧ Hid (Below w2.heap.size w2 wr)) (fun _ x _ => n4 - (intOf x).toNat)
  case atStart => exact ⟨_, _, 0, 0, rfl, rfl, by omega, by omega, Lib.hid (by simp), Lib.hid (by rw [List.take_zero]; exact OwnT.emptyAt (heap_alloc_new w2 _) (Nat.le_refl _)), Lib.hid ((Below.refl _ _).alloc (Nat.le_refl _) _)⟩
  case round =>
    obtain ⟨a5, c5, d, k, rfl, rfl, hk, hd, HD, HO, HB⟩ := hrel
    rename World => wa
    by_cases hlt : k < n4
    · obtain ⟨L8, hg8, hcl, hpk, hend⟩ := piece_at HVK.out HVl.out hlt
      have hpr := HP.out.below HB.out
      obtain ⟨b4, o4, rfl, hbl⟩ := hpr.form (by omega)
      obtain ⟨d0, d1, d2, d3⟩ := hpr.at4 hlt
      have hok := hpr.ok _ (pat_mem (V := V) (j := k) (by rw [HVl.out]; exact hlt))
      obtain ⟨X, hX⟩ : ∃ X, X = pat V k := ⟨_, rfl⟩
      rw [← hX] at d0 d1 d2 d3 hok hpk
      obtain ⟨F', U', I', ⟨a8, n8, c8, L8'⟩⟩ := X
      unfold PV.k pkOf at hpk
      simp only [PK.mk.injEq] at hpk
      obtain ⟨rfl, rfl, rfl, rfl⟩ := hpk
      unfold SV.ok at hok
      simp only at d0 d1 d2 d3 hok
      have hl8 := hok.hl
      have hpos := hcl.pos
      obtain ⟨m, rfl⟩ : ∃ m, n8 = m + 1 := ⟨n8 - 1, by omega⟩
      obtain ⟨g8, o8, rfl, _, _⟩ := hok.at_ (by omega)
      obtain ⟨_, p1, _, _, _⟩ := hok.at5 (k := 0) (by omega)
      obtain ⟨q0, _, q2, _, _⟩ := hok.at5 (k := m) (by omega)
      simp only [Nat.zero_mul, Nat.add_zero] at p1
      have hlm : L8'.length - 1 = m := by omega
      rw [hlm] at d1 hend
      obtain ⟨F1, hF1⟩ : ∃ F1, F1 = (tat L8' 0).f := ⟨_, rfl⟩
      obtain ⟨U1, hU1⟩ : ∃ U1, U1 = (tat L8' m).t := ⟨_, rfl⟩
      obtain ⟨K1, hK1⟩ : ∃ K1, K1 = (tat L8' m).k := ⟨_, rfl⟩
      rw [← hF1] at d0 p1
      rw [← hU1] at d1 q2
      rw [← hK1] at q0 hend
      rw [← HD.out] at d2
      have hlc8 := hok.lc
      have hcm8 := hok.cm
      unfold maxLen at hcm8
      have hnx : ((pcs T).take (k + 1)).flatten = ((pcs T).take k).flatten ++ L8' := by rw [List.take_add_one, hg8]; simp
      have hsum := HFl.out (k + 1)
      rw [hnx, List.length_append, ← HD.out, hl8] at hsum
      have HNX := Lib.hid hnx
      have HOK : Hid (Ts wa (some ⟨g8, o8, none⟩) (m + 1) c8 L8') := Lib.hid hok
      have HCL := Lib.hid hcl
      have HL8 := Lib.hid hl8
      have hz : ((m : Int) + 1 == 0) = false := by simp; omega
      have hw1 : IntKind.i64.wrap (m : Int) = (m : Int) := IntWalk.i64_in _ (by omega)
      have hw2 : (0 : Int) ≤ (m : Int) := Int.natCast_nonneg _
      have hw3 : (m : Int) < (m : Int) + 1 := by omega
      have hw4 : (0 : Int) ≤ (k : Int) := Int.natCast_nonneg _
      have hw5 : (k : Int) < (n4 : Int) := by omega
      have hw6 : IntKind.i64.wrap ((n4 : Int) - 1) = (n4 : Int) - 1 := IntWalk.i64_in _ (by omega)
      have hw7 : (0 : Int) < (m : Int) + 1 := by omega
      clear hpr hX hok hcl hl8 hpos hlm hF1 hU1 hg8 hbl hnx
      by_cases hlast : k + 1 < n4
      · have hK7 := hend hlast
        rw [hK7] at q0
        have hd1 : decide ((k : Int) < (n4 : Int) - 1) = true := by simp; omega
        clear hK7 hK1 hend
        go_wp2
        go_quiet (fail)
        go_wp2
        go_loopw [8] (fun v wr => ∃ j : Nat, v = .int .i64 j ∧ j ≤ m ∧ Hid (Below wa.heap.size wa wr)) (fun v _ => m - (intOf v).toNat)
        case atStart => exact ⟨0, rfl, by omega, Lib.hid (below_drewN (Below.refl _ _) _)⟩
        case round =>
          obtain ⟨j, rfl, hj, HBj⟩ := hrel
          rename World => wb
          by_cases hjm : j < m
          · have hok := HOK.out.below HBj.out
            obtain ⟨r0, _, _, _, _⟩ := hok.at5 (k := j) (by omega)
            obtain ⟨K2, hK2⟩ : ∃ K2, K2 = (tat L8' j).k := ⟨_, rfl⟩
            rw [← hK2] at r0
            have hne : (K2 == 7) = false := by
              have := HCL.out.mid j (by rw [HL8.out]; omega)
              rw [← hK2] at this
              simpa using this
            clear hok hK2
            go_wp2
            go_roundw
            case rel => exact ⟨j + 1, by go_num, by omega, HBj⟩
            case measure => simp [intOf]; omega
          · have hjm' : j = m := by omega
            have HBb : Hid (Below w2.heap.size w2 wb) := Lib.hid (HB.out.trans (HBj.out.mono HB.out.size))
            go_wp2_with (at_builtin; refine Hid.out ?_)
            refine Lib.hid ?_
            refine wpList_appT rfl (.tmp 95) (.tmp 96) rfl w2.heap.size _ _ _ ((pcs T).take k).flatten rfl (HO.out.keep HBj.out (Nat.le_refl _)) _ _ _ L8' rfl (HOK.out.below HBj.out) (by omega) HBb.out.size ?_
            intro a9 c9 w9 ho9 hg9 hb9
            have HO9 : Hid (OwnT w2.heap.size 38 w9 a9 (d + (m + 1)) c9 ((pcs T).take (k + 1)).flatten) := Lib.hid (by rw [HNX.out]; exact ho9)
            have HB9 : Hid (Below w2.heap.size w2 w9) := Lib.hid (HBb.out.trans hb9)
            have HD9 : Hid (d + (m + 1) = ((pcs T).take (k + 1)).flatten.length) := Lib.hid (by rw [HNX.out, List.length_append, ← HD.out, HL8.out])
            clear ho9 hg9 hb9
            go_wp2
            go_roundw
            case rel => exact ⟨_, _, d + (m + 1), k + 1, rfl, by go_num, by omega, hsum, HD9, HO9, HB9⟩
            case measure => simp [intOf]; omega
      · have hd1 : decide ((k : Int) < (n4 : Int) - 1) = false := by simp; omega
        clear hK1 hend
        go_wp2
        go_quiet (fail)
        go_wp2
        go_loopw [8] (fun v wr => ∃ j : Nat, v = .int .i64 j ∧ j ≤ m ∧ Hid (Below wa.heap.size wa wr)) (fun v _ => m - (intOf v).toNat)
        case atStart => exact ⟨0, rfl, by omega, Lib.hid (below_drewN (Below.refl _ _) _)⟩
        case round =>
          obtain ⟨j, rfl, hj, HBj⟩ := hrel
          rename World => wb
          by_cases hjm : j < m
          · have hok := HOK.out.below HBj.out
            obtain ⟨r0, _, _, _, _⟩ := hok.at5 (k := j) (by omega)
            obtain ⟨K2, hK2⟩ : ∃ K2, K2 = (tat L8' j).k := ⟨_, rfl⟩
            rw [← hK2] at r0
            have hne : (K2 == 7) = false := by
              have := HCL.out.mid j (by rw [HL8.out]; omega)
              rw [← hK2] at this
              simpa using this
            clear hok hK2
            go_wp2
            go_roundw
            case rel => exact ⟨j + 1, by go_num, by omega, HBj⟩
            case measure => simp [intOf]; omega
          · have hjm' : j = m := by omega
            have HBb : Hid (Below w2.heap.size w2 wb) := Lib.hid (HB.out.trans (HBj.out.mono HB.out.size))
            go_wp2_with (at_builtin; refine Hid.out ?_)
            refine Lib.hid ?_
            refine wpList_appT rfl (.tmp 95) (.tmp 96) rfl w2.heap.size _ _ _ ((pcs T).take k).flatten rfl (HO.out.keep HBj.out (Nat.le_refl _)) _ _ _ L8' rfl (HOK.out.below HBj.out) (by omega) HBb.out.size ?_
            intro a9 c9 w9 ho9 hg9 hb9
            have HO9 : Hid (OwnT w2.heap.size 38 w9 a9 (d + (m + 1)) c9 ((pcs T).take (k + 1)).flatten) := Lib.hid (by rw [HNX.out]; exact ho9)
            have HB9 : Hid (Below w2.heap.size w2 w9) := Lib.hid (HBb.out.trans hb9)
            have HD9 : Hid (d + (m + 1) = ((pcs T).take (k + 1)).flatten.length) := Lib.hid (by rw [HNX.out, List.length_append, ← HD.out, HL8.out])
            clear ho9 hg9 hb9
            go_wp2
            go_roundw
            case rel => exact ⟨_, _, d + (m + 1), k + 1, rfl, by go_num, by omega, hsum, HD9, HO9, HB9⟩
            case measure => simp [intOf]; omega
    · have hkl : k = n4 := by omega
      have hfl : ((pcs T).take k).flatten = T := by rw [List.take_of_length_le (by rw [HPl.out]; omega), pcs_flat]
      rw [hfl] at HO HD
      have HTS := Lib.hid HO.out.ts
      have hdN : d = N := by rw [HD.out, HN.out]
      subst hdN
      have HBb : Hid (Below w.heap.size w wa) := Lib.hid (HW2.out.trans (HB.out.mono HW2.out.size))
      clear hfl
      go_wp2_with fail
      refine (few_any _ _ _ _ _ HM.out hlc).mono ?_
      rintro e w' ⟨rfl, rfl⟩
      go_wp2_with fail
      refine (all_any _ _ _ F _ (HF.out.below HBb.out) (HT.out.keep HBb.out) (by omega)).mono ?_
      rw [← HTT.out, ← HN.out]
      rintro e w5 ⟨a6, rfl, hr5, hb5⟩
      have HR5 := Lib.hid hr5.ts
      have HTS5 := Lib.hid (HTS.out.below hb5)
      have HB5 : Hid (Below w.heap.size w w5) := Lib.hid (HBb.out.trans (hb5.mono HBb.out.size))
      clear hr5 hb5
      go_wp2_with fail
      refine (same_any _ _ _ T _ _ _ HTS5.out HR5.out).mono ?_
      rintro e w6 ⟨rfl, hb6⟩
      have HB6 : Hid (Below w.heap.size w w6) := Lib.hid (HB5.out.trans (hb6.mono HB5.out.size))
      clear hb6
      go_wp2
      go_ret
      exact ⟨rfl, HB6.out⟩

end Go.Proofs.YtimhcghjlknibaaDoor
