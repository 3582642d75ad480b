/- env.Same; mathematics of EnvLast. -/
import Derived.Test.YtjkjbgekpkhpfaaGreatDoorAt
import Derived.Test.YtjkjbgekpkhpfaaGreatDoorBd
import Derived.Test.YtjkjbgekpkhpfaaGreatDoorAe
namespace Go.Proofs.YtjkjbgekpkhpfaaGreatDoor
open Go.RowKit

set_option maxRecDepth 20000 in
set_option maxHeartbeats 16000000 in
theorem same_any (a a' : Option Addr) (n n' c c' : Nat) (L L' : List OP) (z z' : List Int) (x : Nm) (w : World) (ht : Tab w) (h : OpS w a n c L) (h' : OpS w a' n' c' L') (hz : z.length = 10) (hz' : z'.length = 10) (hn : n ≤ 1000000) (hn' : n' ≤ 1000000) (hp : ∀ o ∈ L, o.1.length ≤ 1000000) (hp' : ∀ o ∈ L', o.1.length ≤ 1000000) :
    Calls Tryz.prog 17 #[.agg (ev a n c z), .agg (ev a' n' c' z'), .string (mk x)] w fun e w' => e = .returned (.bool (decide (entL L z x = entL L' z' x))) ∧ Below w.heap.size w w' := by
  obtain ⟨B, hB⟩ : ∃ B, B = w.heap.size := ⟨_, rfl⟩
  obtain ⟨w1, hw1⟩ : ∃ w1, w1 = w.alloc (.cells (ev a n c z) 26) := ⟨_, rfl⟩
  obtain ⟨w2, hw2⟩ : ∃ w2, w2 = w1.alloc (.cells (ev a' n' c' z') 26) := ⟨_, rfl⟩
  have s1 : w1.heap.size = B + 1 := by rw [hw1, hB]; simp
  have HE1 : Hid (EB w2 B a n c z) := Lib.hid (by rw [hw2, hw1, hB]; exact (EB.new w a n c z).alloc _)
  have HE2 : Hid (EB w2 (B + 1) a' n' c' z') := Lib.hid (by rw [hw2, ← s1]; exact EB.new w1 a' n' c' z')
  have HB2 : Hid (Below B w w2) := Lib.hid (by rw [hw2, hw1, hB]; exact (below_alloc w _).alloc (by simp) _)
  have HT2 : Hid (Tab w2) := Lib.hid (ht.keep (hB ▸ HB2.out))
  have H := Lib.hid (h.below (hB ▸ HB2.out))
  have H' := Lib.hid (h'.below (hB ▸ HB2.out))
  have HLE : Hid ((entL L z x).length ≤ 1000000 ∧ (entL L' z' x).length ≤ 1000000) := Lib.hid ⟨Nat.le_trans (entL_len ..) (by rw [OpS.len h]; exact hn), Nat.le_trans (entL_len ..) (by rw [OpS.len h']; exact hn')⟩
  have KE : Hid (∀ w', Below w2.heap.size w2 w' → Calls Tryz.prog 16 #[.agg (ev a n c z), .string (mk x)] w' fun e w'' => ∃ a1 c1, e = .returned (.slice a1 (entL L z x).length c1) ∧ Ens w'' a1 (entL L z x).length c1 (entL L z x) ∧ Below w'.heap.size w' w'') := Lib.hid fun w' hb => entry_any a n c L z x w' (HT2.out.keep hb) (H.out.below hb) hz hn hp
  have KF : Hid (∀ w', Below w2.heap.size w2 w' → Calls Tryz.prog 16 #[.agg (ev a' n' c' z'), .string (mk x)] w' fun e w'' => ∃ a1 c1, e = .returned (.slice a1 (entL L' z' x).length c1) ∧ Ens w'' a1 (entL L' z' x).length c1 (entL L' z' x) ∧ Below w'.heap.size w' w'') := Lib.hid fun w' hb => entry_any a' n' c' L' z' x w' (HT2.out.keep hb) (H'.out.below hb) hz' hn' hp'
  obtain ⟨E1, hE1⟩ : ∃ E, E = entL L z x := ⟨_, rfl⟩
  obtain ⟨E2, hE2⟩ : ∃ E, E = entL L' z' x := ⟨_, rfl⟩
  rw [← hE1] at KE HLE ⊢
  rw [← hE2] at KF HLE ⊢
  obtain ⟨y0, y1, y2, y3, y4, y5, y6, y7, y8, y9, rfl⟩ := ten hz
  obtain ⟨x0, x1, x2, x3, x4, x5, x6, x7, x8, x9, rfl⟩ := ten hz'
  have HBB := Lib.hid hB
  have HS2 : Hid (B ≤ w2.heap.size) := Lib.hid (Nat.le_of_lt HE1.out.lt)
  clear ht h h' hz hz' s1 hE1 hE2 hp hp' H H'
  go_enter Tryz.func17, Tryz.ntmps17
  go_wp2_with fail
  rw [← hw1, ← hw2, ← hB]
  clear hw1 hw2 hB
  have KS : Hid (∀ w', Below w2.heap.size w2 w' → w'.cell? ⟨B, 0, none⟩ = some (.slice a n c) ∧ w'.cell? ⟨B, 1, none⟩ = some (.int .i64 y0) ∧ w'.cell? ⟨B, 2, none⟩ = some (.int .i64 y1) ∧ w'.cell? ⟨B, 3, none⟩ = some (.int .i64 y2) ∧ w'.cell? ⟨B, 4, none⟩ = some (.int .i64 y3) ∧ w'.cell? ⟨B, 5, none⟩ = some (.int .i64 y4) ∧ w'.cell? ⟨B, 6, none⟩ = some (.int .i64 y5) ∧ w'.cell? ⟨B, 7, none⟩ = some (.int .i64 y6) ∧ w'.cell? ⟨B, 8, none⟩ = some (.int .i64 y7) ∧ w'.cell? ⟨B, 9, none⟩ = some (.int .i64 y8) ∧ w'.cell? ⟨B, 10, none⟩ = some (.int .i64 y9) ∧ w'.cell? ⟨B + 1, 0, none⟩ = some (.slice a' n' c') ∧ w'.cell? ⟨B + 1, 1, none⟩ = some (.int .i64 x0) ∧ w'.cell? ⟨B + 1, 2, none⟩ = some (.int .i64 x1) ∧ w'.cell? ⟨B + 1, 3, none⟩ = some (.int .i64 x2) ∧ w'.cell? ⟨B + 1, 4, none⟩ = some (.int .i64 x3) ∧ w'.cell? ⟨B + 1, 5, none⟩ = some (.int .i64 x4) ∧ w'.cell? ⟨B + 1, 6, none⟩ = some (.int .i64 x5) ∧ w'.cell? ⟨B + 1, 7, none⟩ = some (.int .i64 x6) ∧ w'.cell? ⟨B + 1, 8, none⟩ = some (.int .i64 x7) ∧ w'.cell? ⟨B + 1, 9, none⟩ = some (.int .i64 x8) ∧ w'.cell? ⟨B + 1, 10, none⟩ = some (.int .i64 x9)) := Lib.hid fun w' hb => by
    obtain ⟨g0, g1, g2, g3, g4, g5, g6, g7, g8, g9, g10⟩ := env_cells (HE1.out.below hb)
    obtain ⟨k0, k1, k2, k3, k4, k5, k6, k7, k8, k9, k10⟩ := env_cells (HE2.out.below hb)
    exact ⟨g0, g1, g2, g3, g4, g5, g6, g7, g8, g9, g10, k0, k1, k2, k3, k4, k5, k6, k7, k8, k9, k10⟩
  go_region_held3 (fun w' => w'.cell? ⟨B, 0, none⟩ = some (.slice a n c) ∧ w'.cell? ⟨B, 1, none⟩ = some (.int .i64 y0) ∧ w'.cell? ⟨B, 2, none⟩ = some (.int .i64 y1) ∧ w'.cell? ⟨B, 3, none⟩ = some (.int .i64 y2) ∧ w'.cell? ⟨B, 4, none⟩ = some (.int .i64 y3) ∧ w'.cell? ⟨B, 5, none⟩ = some (.int .i64 y4) ∧ w'.cell? ⟨B, 6, none⟩ = some (.int .i64 y5) ∧ w'.cell? ⟨B, 7, none⟩ = some (.int .i64 y6) ∧ w'.cell? ⟨B, 8, none⟩ = some (.int .i64 y7) ∧ w'.cell? ⟨B, 9, none⟩ = some (.int .i64 y8) ∧ w'.cell? ⟨B, 10, none⟩ = some (.int .i64 y9) ∧ w'.cell? ⟨B + 1, 0, none⟩ = some (.slice a' n' c') ∧ w'.cell? ⟨B + 1, 1, none⟩ = some (.int .i64 x0) ∧ w'.cell? ⟨B + 1, 2, none⟩ = some (.int .i64 x1) ∧ w'.cell? ⟨B + 1, 3, none⟩ = some (.int .i64 x2) ∧ w'.cell? ⟨B + 1, 4, none⟩ = some (.int .i64 x3) ∧ w'.cell? ⟨B + 1, 5, none⟩ = some (.int .i64 x4) ∧ w'.cell? ⟨B + 1, 6, none⟩ = some (.int .i64 x5) ∧ w'.cell? ⟨B + 1, 7, none⟩ = some (.int .i64 x6) ∧ w'.cell? ⟨B + 1, 8, none⟩ = some (.int .i64 x7) ∧ w'.cell? ⟨B + 1, 9, none⟩ = some (.int .i64 x8) ∧ w'.cell? ⟨B + 1, 10, none⟩ = some (.int .i64 x9))
    (first
      | exact KS.out _ HW5.out
      | exact KS.out _ HW4.out
      | exact KS.out _ HW3.out
      | exact KS.out _ (Below.refl _ _).drew)
    (first
      | (go_at_call 38; (refine (equal_ens _ _ _ _ _ _ E1 E2 _ HN3.out HN4.out HLE.out.1 HLE.out.2).mono ?_); rintro e w5 ⟨rfl, hb5⟩; have HW5 : Hid (Below w2.heap.size w2 w5) := Lib.hid (HW4.out.trans (hb5.mono HW4.out.size)); clear hb5)
      | (go_at_call 16; (refine (KF.out _ HW3.out).mono ?_); rintro e w4 ⟨b4, c4, rfl, he4, hb4⟩; have HN4 := Lib.hid he4; have HN3 := Lib.hid (HM3.out.below hb4); have HW4 : Hid (Below w2.heap.size w2 w4) := Lib.hid (HW3.out.trans (hb4.mono HW3.out.size)); clear he4 hb4)
      | (go_at_call 16; (refine (KE.out _ (Below.refl _ _).drew).mono ?_); rintro e w3 ⟨b3, c3, rfl, he3, hb3⟩; have HM3 := Lib.hid he3; have HW3 : Hid (Below w2.heap.size w2 w3) := Lib.hid ((Below.refl _ _).drew.trans hb3); clear he3 hb3))
  all_goals
    go_wp2
    go_ret
    exact ⟨rfl, by rw [← HBB.out]; exact HB2.out.trans (HW5.out.mono HS2.out)⟩

/-! ### Mathematics of EnvLast -/

/-- Of what was added there is one. -/
theorem count_one {o : OP} : ∀ {L : List OP}, Srt L → ((addL L o).filter fun x => decide (x = o)).length = 1 := by
  intro L h
  have hs := addL_srt (o := o) h
  have hm : o ∈ addL L o := (addL_mem h o).2 (.inl rfl)
  generalize addL L o = M at hs hm
  induction M with
  | nil => cases hm
  | cons x M ih =>
    have hs' := List.pairwise_cons.1 hs
    by_cases hx : x = o
    · subst hx
      rw [List.filter_cons, if_pos (by simp), List.length_cons]
      have : M.filter (fun y => decide (y = x)) = [] := List.filter_eq_nil_iff.2 fun y hy e => by
        have e' : y = x := of_decide_eq_true e
        subst e'
        exact slt_irr _ (hs'.1 y hy)
      rw [this]; rfl
    · rw [List.filter_cons, if_neg (by simpa using hx)]
      exact ih hs'.2 ((List.mem_cons.1 hm).resolve_left fun e => hx e.symm)
theorem count_snoc {M : List OP} {k : Nat} (h : k < M.length) (o : OP) : ((M.take (k + 1)).filter fun x => decide (x = o)).length = ((M.take k).filter fun x => decide (x = o)).length + if decide (opA M k = o) = true then 1 else 0 := by
  rw [opA_take h, List.filter_append, List.length_append]
  congr 1
  split <;> simp_all
theorem any_op {M : List OP} {k : Nat} (h : k < M.length) (o : OP) : ((M.take (k + 1)).any fun x => decide (x = o)) = (((M.take k).any fun x => decide (x = o)) || decide (opA M k = o)) := by rw [opA_take h, List.any_append]; simp
theorem any_pt {P : List Nm} {k : Nat} (h : k < P.length) (x : Nm) : ((P.take (k + 1)).any fun y => y == x) = (((P.take k).any fun y => y == x) || pt P k == x) := by rw [pt_snoc h, List.any_append]; simp
/-- What was there stays: of that pattern, or in what is left. -/
theorem last_there {L : List OP} (h : Srt L) {o x : OP} (hx : x ∈ L) (hne : x.1 ≠ o.1) : ((drpL (addL L o) o.1).any fun y => decide (y = x)) = true := by
  obtain ⟨i, hi⟩ := drp_add h o
  exact List.any_eq_true.2 ⟨x, (drpL_mem (addL_srt h) hi x).2 ⟨(addL_mem h x).2 (.inr ⟨hx, hne⟩), hne⟩, by simp⟩
theorem last_gone {L : List OP} (h : Srt L) (o : OP) : drpE (drpL (addL L o) o.1) o.1 = 2 ∧ drpE (addL L o) o.1 = 0 ∧ (drpL (addL L o) o.1).length + 1 = (addL L o).length := by
  obtain ⟨i, hi⟩ := drp_add h o
  refine ⟨?_, ?_, drpL_len hi⟩
  · have : drpI (drpL (addL L o) o.1) o.1 = none := drpI_none.2 fun x hx => ((drpL_mem (addL_srt h) hi x).1 hx).2
    unfold drpE; rw [this]
  · unfold drpE; rw [hi]
theorem last_same {L : List OP} (h : Srt L) (z : List Int) {o : OP} {x : Nm} (hx : (prt o.1).contains x = false) : entL L z x = entL (addL L o) z x ∧ entL L z x = entL (drpL (addL L o) o.1) z x := by
  obtain ⟨i, hi⟩ := drp_add h o
  have hf : ∀ y : OP, y.1 = o.1 → hasP x y = false := fun y e => by unfold hasP; rw [e]; exact hx
  have h1 := add_filter (hasP x) L o (hf o rfl) fun y _ e => hf y e
  have h2 := drp_filter_f (hasP x) hi fun y _ e => hf y e
  unfold entL
  exact ⟨by rw [h1], by rw [h2, h1]⟩
theorem last_some {L : List OP} (h : Srt L) (z : List Int) {o : OP} {x : Nm} (hx : (prt o.1).contains x = true) : 0 < (entL (addL L o) z x).length := by
  unfold entL
  rw [List.length_map]
  exact List.length_pos_of_mem (List.mem_filter.2 ⟨(addL_mem h o).2 (.inl rfl), hx⟩)

end Go.Proofs.YtjkjbgekpkhpfaaGreatDoor
