/- env.parts, env.row, env.New; slices.Index and slices.Contains at rows of texts. -/
import Derived.Test.YtjkjbgekpkhpfaaGreatDoorAv
import Derived.Test.YtjkjbgekpkhpfaaGreatDoorMI
namespace Go.Proofs.YtjkjbgekpkhpfaaGreatDoor
open Go.RowKit

/-- The parts of a pattern. -/
def prt (p : Nm) : List Nm := (ofR p).1.P
theorem prt_some {p : Nm} {s : SH} (h : ofS p = some s) : prt p = s.P := by unfold prt; rw [ofR_some h]
theorem prt_none {p : Nm} (h : ofS p = none) : prt p = [] := by unfold prt; rw [ofR_none h]
theorem prt_len (p : Nm) : (prt p).length ≤ 4 := by
  cases h : ofS p with
  | none => rw [prt_none h]; exact Nat.zero_le _
  | some s =>
    rw [prt_some h]
    unfold ofS at h
    split at h
    · rename_i h2
      obtain rfl := Option.some.inj h
      apply Decidable.byContradiction
      intro h3
      have := shM_big (s := rd p) (by omega)
      rw [this] at h2
      exact absurd h2.2 (by decide)
    · cases h

set_option maxRecDepth 20000 in
set_option maxHeartbeats 4000000 in
theorem parts_any (p : Nm) (g a : Int) (w : World) (ht : Tab w) (hsz : p.length ≤ 1000000) :
    Calls Tryz.prog 36 #[.agg #[.string (mk p), .int .i64 g, .int .i64 a]] w fun e w' => ∃ a n c, e = .returned (.slice a n c) ∧ Ss w' a n c (prt p) ∧ Below w.heap.size w w' := by
  obtain ⟨B, hB⟩ : ∃ B, B = w.heap.size := ⟨_, rfl⟩
  obtain ⟨w1, hw1⟩ : ∃ w1, w1 = w.alloc (.cells #[.string (mk p), .int .i64 g, .int .i64 a] 28) := ⟨_, rfl⟩
  have HX1 : Hid (w1.heap[B]? = some (.cells #[.string (mk p), .int .i64 g, .int .i64 a] 28 (0, 0))) := Lib.hid (by rw [hw1, hB]; exact heap_alloc_new w _)
  have HB1 : Hid (Below w.heap.size w w1) := Lib.hid (by rw [hw1]; exact (Below.refl _ _).alloc (Nat.le_refl _) _)
  have HT1 : Hid (Tab w1) := Lib.hid (ht.keep HB1.out)
  have HOF : Hid (∀ w, Tab w → Calls Tryz.prog 47 #[.string (mk p)] w fun e w' => ∃ a n c, e = .returned (shV a n c (ofR p)) ∧ Ss w' a n c (prt p) ∧ Below w.heap.size w w') := Lib.hid fun w h => sof_any p w h hsz
  clear ht
  obtain ⟨⟨x0, x1, x2⟩, _⟩ := three HX1.out
  obtain ⟨s, l, r, k, hR⟩ : ∃ P l r k, ofR p = (⟨P, l, r⟩, k) := ⟨_, _, _, _, rfl⟩
  have HP : Hid (prt p = s) := Lib.hid (by unfold prt; rw [hR])
  have HK : Hid (k ≠ 0 → s = []) := Lib.hid (fun h => by
    unfold ofR at hR
    cases hO : ofS p with
    | none => rw [hO] at hR; simp only [Prod.mk.injEq, SH.mk.injEq] at hR; exact hR.1.1.symm
    | some x => rw [hO] at hR; simp only [Prod.mk.injEq] at hR; exact absurd hR.2.symm h)
  rw [hR] at HOF
  simp only [shV] at HOF
  clear hR
  go_enter Tryz.func36, Tryz.ntmps36
  go_wp2_with fail
  rw [← hw1, ← hB]
  clear hw1 hB
  refine (HOF.out w1 HT1.out).mono ?_
  rintro e w2 ⟨sa, sn, sc, rfl, hs, hb2⟩
  have HS := Lib.hid (hs.below ((Below.refl _ w2).alloc (Nat.le_refl _) (.cells #[.slice sa sn sc, .bool l, .bool r] 72)))
  have HB2 : Hid (Below w.heap.size w (w2.alloc (.cells #[.slice sa sn sc, .bool l, .bool r] 72))) := Lib.hid ((HB1.out.trans (hb2.mono HB1.out.size)).alloc (by have := HB1.out.size; have := hb2.size; omega) _)
  obtain ⟨⟨z0, z1, z2⟩, _⟩ := three (heap_alloc_new w2 (.cells #[.slice sa sn sc, .bool l, .bool r] 72))
  clear hs hb2 x0 x1 x2
  by_cases hk : k = 0
  · subst hk
    go_wp2
    go_ret
    exact ⟨_, _, _, rfl, HS.out, HB2.out⟩
  · have HN := Lib.hid (HK.out hk)
    go_wp2
    go_ret
    exact ⟨_, _, _, rfl, by rw [HP.out, HN.out]; exact Vs.nil _ _ _ _ (Nat.zero_le _), HB2.out⟩

set_option maxRecDepth 20000 in
theorem index_strs (a : Option Addr) (n c : Nat) (P : List Nm) (x : Nm) (w : World) (h : Ss w a n c P) (hsz : n ≤ 1000000) :
    Calls Tryz.prog 55 #[.slice a n c, .string (mk x)] w fun e w' => ∃ v : Int, e = .returned (.int .i64 v) ∧ (0 ≤ v ↔ x ∈ P) ∧ w = w' := by
  have HL := Lib.hid (Ss.len h)
  have H := Lib.hid h
  have hlc := h.lc
  have hcm := h.cm
  unfold maxLen at hcm
  have hx := mk_toList x
  clear h
  go_enter Tryz.func55, Tryz.ntmps55
  go_wp2
  go_loopw [8] (fun v wr => ∃ k : Nat, v = .int .i64 k ∧ k ≤ n ∧ Hid (∀ j, j < k → pt P j ≠ x) ∧ wr = w) (fun v _ => n - (intOf v).toNat)
  case atStart => exact ⟨0, rfl, by omega, Lib.hid fun j hj => by omega, rfl⟩
  case round =>
    obtain ⟨k, rfl, hk, HN, rfl⟩ := hrel
    by_cases hlt : k < n
    · obtain ⟨b, o, rfl, _, hc⟩ := H.out.at_ (by omega)
      clear hc
      have c0 := Ss.str H.out hlt
      have hp := mk_toList (pt P k)
      obtain ⟨q, hq⟩ : ∃ q, q = pt P k := ⟨_, rfl⟩
      rw [← hq] at c0 hp
      have HQ := Lib.hid hq
      clear hq
      cases he : (x == q) with
      | true =>
        have HE := Lib.hid he
        go_wp2
        go_ret
        exact ⟨_, rfl, ⟨fun _ => by rw [eq_of_beq HE.out, HQ.out]; exact pt_mem (by rw [HL.out]; exact hlt), fun _ => by omega⟩, rfl⟩
      | false =>
        have HN1 : Hid (∀ j, j < k + 1 → pt P j ≠ x) := Lib.hid fun j hj => by
          by_cases hjk : j = k
          · subst hjk; rw [← HQ.out]; exact (beq_eq_false_iff_ne.1 he).symm
          · exact HN.out j (by omega)
        go_wp2
        go_roundw
        case rel => exact ⟨k + 1, by go_num, by omega, HN1, trivial⟩
        case measure => simp [intOf]; omega
    · go_wp2
      go_ret
      refine ⟨_, rfl, ⟨fun h => absurd h (by decide), fun hm => ?_⟩, rfl⟩
      obtain ⟨j, hj, e⟩ := List.mem_iff_getElem.1 hm
      refine absurd ?_ (HN.out j (by rw [HL.out] at hj; omega))
      unfold pt; rw [← e]; simp [List.getD, hj]

set_option maxRecDepth 20000 in
theorem contains_strs (a : Option Addr) (n c : Nat) (P : List Nm) (x : Nm) (w : World) (h : Ss w a n c P) (hsz : n ≤ 1000000) :
    Calls Tryz.prog 35 #[.slice a n c, .string (mk x)] w fun e w' => e = .returned (.bool (P.contains x)) ∧ w = w' := by
  have H := Lib.hid h
  clear h
  go_enter Tryz.func35, Tryz.ntmps35
  go_wp2_with fail
  refine (index_strs a n c P x w H.out hsz).mono ?_
  rintro e w1 ⟨v, rfl, hv, rfl⟩
  have HV : Hid (decide (0 ≤ v) = P.contains x) := Lib.hid (by rw [Bool.eq_iff_iff, decide_eq_true_eq, hv]; simp)
  clear hv
  go_wp2
  go_ret
  exact ⟨by rw [← HV.out]; rfl, rfl⟩

/-- The row of a group; 0: there is no such row. -/
def rowV (z : List Int) (g : Int) : Int := if 0 ≤ g ∧ g < 10 then bt z g.toNat else 0

set_option maxRecDepth 20000 in
theorem row_any (z : List Int) (hz : z.length = 10) (g : Int) (w : World) :
    Calls Tryz.prog 37 #[.agg (rv z), .int .i64 g] w fun e w' => e = .returned (.int .i64 (rowV z g)) ∧ w' = w.alloc (.cells (rv z) 24) := by
  by_cases h0 : g < 0
  · have HE : Hid (rowV z g = 0) := Lib.hid (if_neg (by omega))
    go_enter Tryz.func37, Tryz.ntmps37
    go_wp2
    go_ret
    exact ⟨by rw [HE.out]; rfl, rfl⟩
  by_cases h1 : 10 ≤ g
  · have HE : Hid (rowV z g = 0) := Lib.hid (if_neg (by omega))
    go_enter Tryz.func37, Tryz.ntmps37
    go_wp2
    go_ret
    exact ⟨by rw [HE.out]; rfl, rfl⟩
  · obtain ⟨k, rfl⟩ : ∃ k : Nat, g = (k : Int) := ⟨g.toNat, by omega⟩
    have HE : Hid (rowV z (k : Int) = bt z k) := Lib.hid (if_pos ⟨by omega, by omega⟩)
    have hk : k < 10 := by omega
    have hc := (RB.new w z).cell hz hk
    go_enter Tryz.func37, Tryz.ntmps37
    go_wp2
    go_ret
    exact ⟨by rw [HE.out]; rfl, rfl⟩

set_option maxRecDepth 20000 in
theorem new_any (w : World) : Calls Tryz.prog 20 #[] w fun e w' => e = .returned (.agg (ev none 0 0 zS)) ∧ Below w.heap.size w w' := by
  obtain ⟨w0, hw0⟩ : ∃ w0, w0 = w.alloc (.cells #[.slice none 0 0, .int .i64 0, .int .i64 0, .int .i64 0, .int .i64 0, .int .i64 0, .int .i64 0, .int .i64 0, .int .i64 0, .int .i64 0, .int .i64 0] 26) := ⟨_, rfl⟩
  obtain ⟨B, hB⟩ : ∃ B, B = w.heap.size := ⟨_, rfl⟩
  have HE0 : Hid (EB w0 B none 0 0 z0) := Lib.hid (by rw [hw0, hB, ← ev_zero]; exact EB.new w none 0 0 z0)
  have HB0 : Hid (Below B w w0) := Lib.hid (by rw [hw0, hB]; exact (Below.refl _ _).alloc (Nat.le_refl _) _)
  have HS : Hid (B < w0.heap.size) := Lib.hid HE0.out.lt
  have HBB := Lib.hid hB
  have hbu : ∀ w, (Instr.build 26 #[(1, .agg (rv zS))]).run Tryz.prog w = .ok (.agg (ev none 0 0 zS)) w := fun w => built_rows rfl w
  go_enter Tryz.func20, Tryz.ntmps20
  go_wp2_with fail
  rw [← hw0, ← hB]
  clear hw0 hB
  refine (start_any w0).mono ?_
  rintro e w1 ⟨rfl, hb1⟩
  have HE1 := Lib.hid (HE0.out.below hb1)
  have HB1 := Lib.hid (HB0.out.trans (hb1.mono (Nat.le_of_lt HS.out)))
  clear hb1
  go_wp2_with (refine store_env rfl (.tmp 0) (.tmp 2) rfl B rfl none 0 0 zS rfl rfl none 0 0 z0 z0_len HE1.out ?_; intro w2 he2 ho2; have HE2 := Lib.hid he2; have HO2 := Lib.hid ho2; clear he2 ho2)
  exact bodyPost_ret (ret_env rfl _ _ B none 0 0 zS rfl rfl HE2.out) rfl ⟨rfl, by rw [← HBB.out]; exact HB1.out.trans (HO2.out.below (Nat.le_refl _))⟩

end Go.Proofs.YtjkjbgekpkhpfaaGreatDoor
