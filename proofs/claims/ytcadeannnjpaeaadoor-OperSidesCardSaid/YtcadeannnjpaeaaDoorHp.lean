/- Contract of the document's part of layer 11. -/
import Derived.Test.YtcadeannnjpaeaaDoorHt
import Derived.Test.YtcadeannnjpaeaaDoorHe
namespace Go.Proofs.YtcadeannnjpaeaaDoor
open Go.RowKit

theorem no_snoc {p : Nm} {k : Nat} (h : k < p.length) (h0 : (95 : UInt8) ∉ p.take k) (h1 : (ub p k == 95) = false) : (95 : UInt8) ∉ p.take (k + 1) := by
  rw [List.take_add_one]
  intro hm
  rcases List.mem_append.1 hm with hm | hm
  · exact h0 hm
  · have : p[k]? = some p[k] := List.getElem?_eq_getElem h
    rw [this] at hm
    simp only [Option.toList_some, List.mem_singleton] at hm
    have hu : ub p k = 95 := by unfold ub; rw [show p.getD k 0 = p[k] by simp [List.getD, h], ← hm]; rfl
    rw [hu] at h1
    exact absurd h1 (by decide)
theorem is_mark {p : Nm} {k : Nat} (h : k < p.length) (h1 : (ub p k == 95) = true) : p.contains 95 = true := by
  have hu := eq_of_beq h1
  unfold ub at hu
  rw [show p.getD k 0 = p[k] by simp [List.getD, h]] at hu
  have : p[k] = 95 := by
    apply UInt8.toNat_inj.1
    have : ((95 : UInt8).toNat : Int) = 95 := rfl
    omega
  rw [List.contains_iff_mem, ← this]
  exact List.getElem_mem h
theorem kd_yes {k : Int} (h : (k == 1) = true ∨ (k == 2) = true ∨ (k == 6) = true) : kdB k = true := by
  unfold kdB; rcases h with h | h | h <;> rw [h] <;> simp
theorem kd_no {k : Int} (h1 : (k == 1) = false) (h2 : (k == 2) = false) (h6 : (k == 6) = false) : kdB k = false := by
  unfold kdB; rw [h1, h2, h6]; rfl
theorem bar_yes {p : Nm} (h : (p == [40]) = true ∨ (p == [41]) = true ∨ (p == [44]) = true ∨ (p == [46]) = true ∨ (p == [58, 45]) = true) : bar p = true := by
  unfold bar; rcases h with h | h | h | h | h <;> rw [h] <;> simp

set_option maxRecDepth 100000 in
set_option maxHeartbeats 8000000 in
theorem rpart_any (p : Nm) (w : World) (hsz : p.length ≤ 100000) :
    Calls Tryd.prog 30 #[.string (mk p)] w fun e w' => e = .returned (.bool (!p.contains 95 && stB p)) ∧ Below w.heap.size w w' := by
  have hms := mk_size p
  obtain ⟨m, hm⟩ : ∃ m, m = p.length := ⟨_, rfl⟩
  rw [← hm] at hms
  have HM := Lib.hid hm
  have hm1 : m ≤ 100000 := by omega
  clear hm hsz
  go_enter Tryd.func30, Tryd.ntmps30
  go_wp2
  go_loopw [2, 3] (fun v2 v wr => ∃ k : Nat, v = .int .i64 k ∧ k ≤ m ∧ Hid ((95 : UInt8) ∉ p.take k) ∧ w = wr) (fun _ v _ => m - (intOf v).toNat)
  case atStart => exact ⟨0, rfl, by omega, Lib.hid (by simp), rfl⟩
  case round =>
    obtain ⟨k, rfl, hk, HK, rfl⟩ := hrel
    have hk0 : (0 : Int) ≤ (k : Int) := Int.natCast_nonneg _
    by_cases hlt : k < m
    · have hk1 : (k : Int) < (m : Int) := by omega
      have hix := run_ix w p k (by have := HM.out; omega)
      obtain ⟨u, hu⟩ : ∃ u, u = ub p k := ⟨_, rfl⟩
      rw [← hu] at hix
      have HU := Lib.hid hu
      clear hu
      cases hc : u == 95 with
      | true =>
        have HF : Hid (p.contains 95 = true) := Lib.hid (is_mark (k := k) (by have := HM.out; omega) (by rw [← HU.out]; exact hc))
        go_wp2
        go_ret
        exact ⟨by rw [HF.out]; rfl, Below.refl _ _⟩
      | false =>
        have HK1 : Hid ((95 : UInt8) ∉ p.take (k + 1)) := Lib.hid (no_snoc (by have := HM.out; omega) HK.out (by rw [← HU.out]; exact hc))
        go_wp2
        go_roundw
        case rel => exact ⟨k + 1, by go_num, by omega, HK1, trivial⟩
        case measure => simp [intOf]; omega
    · have HC : Hid ((!p.contains 95 && stB p) = stB p) := Lib.hid (by
        have h1 := HK.out
        rw [List.take_of_length_le (by have := HM.out; omega)] at h1
        rw [show p.contains 95 = false by simpa using h1]
        rfl)
      clear HK
      obtain ⟨l, hl⟩ : ∃ l, l = sb (mk p) := ⟨_, rfl⟩
      have hll : l.length = m := by rw [hl, HM.out, sb, mk_toList, List.length_map]
      have hrl : ∀ x ∈ l, 0 ≤ x ∧ x ≤ 255 := by rw [hl]; exact sb_rng _
      obtain ⟨g, C, W1, hrun, hbs, hbel⟩ := conv_str w (mk p) l (by rw [hl, bstr_sb]) hrl (by omega)
      rw [hll] at hrun hbs
      have HBS := Lib.hid hbs
      have HW1 := Lib.hid hbel
      have HL0 : Hid (l = nb p) := Lib.hid (by rw [hl, sb, mk_toList]; rfl)
      clear hbs hbel hl hll hrl
      go_wp2_with fail
      refine (rall_any _ m C l _ HBS.out (by omega)).mono ?_
      rintro e w2 ⟨a', c', rfl, hts, hb2⟩
      have HW2 : Hid (Below w.heap.size w w2) := Lib.hid (HW1.out.trans (hb2.mono HW1.out.size))
      obtain ⟨L, hL⟩ : ∃ L, L = toks l := ⟨_, rfl⟩
      rw [← hL] at hts ⊢
      have HL : Hid (L = toks (nb p)) := Lib.hid (by rw [hL, HL0.out])
      have hlc := hts.lc
      clear hrun hb2 hL
      by_cases h0 : L.length = 1
      · obtain ⟨t, rfl⟩ : ∃ t, L = [t] := by
          match L, h0 with
          | [t], _ => exact ⟨t, rfl⟩
        have HE : Hid (oneB p = (t.s.toList == p && kdB t.k)) := Lib.hid (oneB_is HL.out.symm)
        obtain ⟨d, o, rfl, _, hx⟩ := hts.at_ (by simp)
        clear hx
        obtain ⟨c0, c1, c2, c3, c4⟩ := hts.at5 (k := 0) (by simp)
        simp only [tat, List.getD_cons_zero, Nat.zero_mul, Nat.add_zero] at c0 c1 c2 c3 c4
        obtain ⟨k', f, u, s, e⟩ := t
        simp only at c0 c1 c2 c3 c4 HE
        clear hts h0
        have hmp := mk_toList p
        cases hq : s.toList == p with
        | true =>
          have hqn : (s.toList != (mk p).toList) = false := by rw [hmp]; simpa using hq
          have HE1 : Hid (oneB p = kdB k') := Lib.hid (by rw [HE.out, hq, Bool.true_and])
          cases hk1 : k' == 1 with
          | true =>
            have HKD : Hid (kdB k' = true) := Lib.hid (kd_yes (.inl hk1))
            cases hc40 : p == [40] with
            | true =>
              have hn40 : ((mk p).toList != [40]) = false := by rw [hmp]; simpa using hc40
              have HF : Hid (stB p = false) := Lib.hid (stB_bar (bar_yes (.inl hc40)))
              go_wp2
              go_ret
              exact ⟨by rw [HC.out, HF.out]; rfl, HW2.out⟩
            | false =>
            have hn40 : ((mk p).toList != [40]) = true := by rw [hmp]; simpa using hc40
            cases hc41 : p == [41] with
            | true =>
              have hn41 : ((mk p).toList != [41]) = false := by rw [hmp]; simpa using hc41
              have HF : Hid (stB p = false) := Lib.hid (stB_bar (bar_yes (.inr (.inl hc41))))
              go_wp2
              go_ret
              exact ⟨by rw [HC.out, HF.out]; rfl, HW2.out⟩
            | false =>
            have hn41 : ((mk p).toList != [41]) = true := by rw [hmp]; simpa using hc41
            cases hc44 : p == [44] with
            | true =>
              have hn44 : ((mk p).toList != [44]) = false := by rw [hmp]; simpa using hc44
              have HF : Hid (stB p = false) := Lib.hid (stB_bar (bar_yes (.inr (.inr (.inl hc44)))))
              go_wp2
              go_ret
              exact ⟨by rw [HC.out, HF.out]; rfl, HW2.out⟩
            | false =>
            have hn44 : ((mk p).toList != [44]) = true := by rw [hmp]; simpa using hc44
            cases hc46 : p == [46] with
            | true =>
              have hn46 : ((mk p).toList != [46]) = false := by rw [hmp]; simpa using hc46
              have HF : Hid (stB p = false) := Lib.hid (stB_bar (bar_yes (.inr (.inr (.inr (.inl hc46))))))
              go_wp2
              go_ret
              exact ⟨by rw [HC.out, HF.out]; rfl, HW2.out⟩
            | false =>
            have hn46 : ((mk p).toList != [46]) = true := by rw [hmp]; simpa using hc46
            cases hc58 : p == [58, 45] with
            | true =>
              have hn58 : ((mk p).toList != [58, 45]) = false := by rw [hmp]; simpa using hc58
              have HF : Hid (stB p = false) := Lib.hid (stB_bar (bar_yes (.inr (.inr (.inr (.inr (hc58)))))))
              go_wp2
              go_ret
              exact ⟨by rw [HC.out, HF.out]; rfl, HW2.out⟩
            | false =>
            have hn58 : ((mk p).toList != [58, 45]) = true := by rw [hmp]; simpa using hc58
            have HF : Hid (stB p = true) := Lib.hid (by rw [stB_no (bar_no hc40 hc41 hc44 hc46 hc58), HE1.out]; exact HKD.out)
            go_wp2
            go_ret
            exact ⟨by rw [HC.out, HF.out]; rfl, HW2.out⟩
          | false =>
          cases hk2 : k' == 2 with
          | true =>
            have HKD : Hid (kdB k' = true) := Lib.hid (kd_yes (.inr (.inl hk2)))
            cases hc40 : p == [40] with
            | true =>
              have hn40 : ((mk p).toList != [40]) = false := by rw [hmp]; simpa using hc40
              have HF : Hid (stB p = false) := Lib.hid (stB_bar (bar_yes (.inl hc40)))
              go_wp2
              go_ret
              exact ⟨by rw [HC.out, HF.out]; rfl, HW2.out⟩
            | false =>
            have hn40 : ((mk p).toList != [40]) = true := by rw [hmp]; simpa using hc40
            cases hc41 : p == [41] with
            | true =>
              have hn41 : ((mk p).toList != [41]) = false := by rw [hmp]; simpa using hc41
              have HF : Hid (stB p = false) := Lib.hid (stB_bar (bar_yes (.inr (.inl hc41))))
              go_wp2
              go_ret
              exact ⟨by rw [HC.out, HF.out]; rfl, HW2.out⟩
            | false =>
            have hn41 : ((mk p).toList != [41]) = true := by rw [hmp]; simpa using hc41
            cases hc44 : p == [44] with
            | true =>
              have hn44 : ((mk p).toList != [44]) = false := by rw [hmp]; simpa using hc44
              have HF : Hid (stB p = false) := Lib.hid (stB_bar (bar_yes (.inr (.inr (.inl hc44)))))
              go_wp2
              go_ret
              exact ⟨by rw [HC.out, HF.out]; rfl, HW2.out⟩
            | false =>
            have hn44 : ((mk p).toList != [44]) = true := by rw [hmp]; simpa using hc44
            cases hc46 : p == [46] with
            | true =>
              have hn46 : ((mk p).toList != [46]) = false := by rw [hmp]; simpa using hc46
              have HF : Hid (stB p = false) := Lib.hid (stB_bar (bar_yes (.inr (.inr (.inr (.inl hc46))))))
              go_wp2
              go_ret
              exact ⟨by rw [HC.out, HF.out]; rfl, HW2.out⟩
            | false =>
            have hn46 : ((mk p).toList != [46]) = true := by rw [hmp]; simpa using hc46
            cases hc58 : p == [58, 45] with
            | true =>
              have hn58 : ((mk p).toList != [58, 45]) = false := by rw [hmp]; simpa using hc58
              have HF : Hid (stB p = false) := Lib.hid (stB_bar (bar_yes (.inr (.inr (.inr (.inr (hc58)))))))
              go_wp2
              go_ret
              exact ⟨by rw [HC.out, HF.out]; rfl, HW2.out⟩
            | false =>
            have hn58 : ((mk p).toList != [58, 45]) = true := by rw [hmp]; simpa using hc58
            have HF : Hid (stB p = true) := Lib.hid (by rw [stB_no (bar_no hc40 hc41 hc44 hc46 hc58), HE1.out]; exact HKD.out)
            go_wp2
            go_ret
            exact ⟨by rw [HC.out, HF.out]; rfl, HW2.out⟩
          | false =>
          cases hk6 : k' == 6 with
          | true =>
            have HKD : Hid (kdB k' = true) := Lib.hid (kd_yes (.inr (.inr hk6)))
            cases hc40 : p == [40] with
            | true =>
              have hn40 : ((mk p).toList != [40]) = false := by rw [hmp]; simpa using hc40
              have HF : Hid (stB p = false) := Lib.hid (stB_bar (bar_yes (.inl hc40)))
              go_wp2
              go_ret
              exact ⟨by rw [HC.out, HF.out]; rfl, HW2.out⟩
            | false =>
            have hn40 : ((mk p).toList != [40]) = true := by rw [hmp]; simpa using hc40
            cases hc41 : p == [41] with
            | true =>
              have hn41 : ((mk p).toList != [41]) = false := by rw [hmp]; simpa using hc41
              have HF : Hid (stB p = false) := Lib.hid (stB_bar (bar_yes (.inr (.inl hc41))))
              go_wp2
              go_ret
              exact ⟨by rw [HC.out, HF.out]; rfl, HW2.out⟩
            | false =>
            have hn41 : ((mk p).toList != [41]) = true := by rw [hmp]; simpa using hc41
            cases hc44 : p == [44] with
            | true =>
              have hn44 : ((mk p).toList != [44]) = false := by rw [hmp]; simpa using hc44
              have HF : Hid (stB p = false) := Lib.hid (stB_bar (bar_yes (.inr (.inr (.inl hc44)))))
              go_wp2
              go_ret
              exact ⟨by rw [HC.out, HF.out]; rfl, HW2.out⟩
            | false =>
            have hn44 : ((mk p).toList != [44]) = true := by rw [hmp]; simpa using hc44
            cases hc46 : p == [46] with
            | true =>
              have hn46 : ((mk p).toList != [46]) = false := by rw [hmp]; simpa using hc46
              have HF : Hid (stB p = false) := Lib.hid (stB_bar (bar_yes (.inr (.inr (.inr (.inl hc46))))))
              go_wp2
              go_ret
              exact ⟨by rw [HC.out, HF.out]; rfl, HW2.out⟩
            | false =>
            have hn46 : ((mk p).toList != [46]) = true := by rw [hmp]; simpa using hc46
            cases hc58 : p == [58, 45] with
            | true =>
              have hn58 : ((mk p).toList != [58, 45]) = false := by rw [hmp]; simpa using hc58
              have HF : Hid (stB p = false) := Lib.hid (stB_bar (bar_yes (.inr (.inr (.inr (.inr (hc58)))))))
              go_wp2
              go_ret
              exact ⟨by rw [HC.out, HF.out]; rfl, HW2.out⟩
            | false =>
            have hn58 : ((mk p).toList != [58, 45]) = true := by rw [hmp]; simpa using hc58
            have HF : Hid (stB p = true) := Lib.hid (by rw [stB_no (bar_no hc40 hc41 hc44 hc46 hc58), HE1.out]; exact HKD.out)
            go_wp2
            go_ret
            exact ⟨by rw [HC.out, HF.out]; rfl, HW2.out⟩
          | false =>
            have HF : Hid (stB p = false) := Lib.hid (by unfold stB; rw [HE1.out, kd_no hk1 hk2 hk6, Bool.and_false])
            go_wp2
            go_ret
            exact ⟨by rw [HC.out, HF.out]; rfl, HW2.out⟩
        | false =>
          have hqn : (s.toList != (mk p).toList) = true := by rw [hmp]; simpa using hq
          have HF : Hid (stB p = false) := Lib.hid (by unfold stB; rw [HE.out, hq, Bool.false_and, Bool.and_false])
          go_wp2
          go_ret
          exact ⟨by rw [HC.out, HF.out]; rfl, HW2.out⟩
      · have HF : Hid (stB p = false) := Lib.hid (by unfold stB; rw [oneB_many (by rw [← HL.out]; exact h0), Bool.and_false])
        have h0' : ((L.length : Int) != 1) = true := by simp; omega
        go_wp2
        go_ret
        exact ⟨by rw [HC.out, HF.out]; rfl, HW2.out⟩

end Go.Proofs.YtcadeannnjpaeaaDoor
