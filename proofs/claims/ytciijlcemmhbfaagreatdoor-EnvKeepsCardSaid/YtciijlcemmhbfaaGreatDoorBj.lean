/- shape.Of, oper.May, env.Add at any text that there is room for. -/
import Derived.Test.YtciijlcemmhbfaaGreatDoorAa
namespace Go.Proofs.YtciijlcemmhbfaaGreatDoor
open Go.RowKit

set_option maxRecDepth 100000 in
set_option maxHeartbeats 4000000 in
theorem sof_long (p : Nm) (w : World) (hb : 40 < p.length) (hsz : p.length ≤ 140737488355328) :
    Calls Tryz.prog 26 #[.string (mk p)] w fun e w' => e = .returned (shV none 0 0 (⟨[], false, false⟩, 23)) ∧ Below w.heap.size w w' := by
  have hms := mk_size p
  obtain ⟨m, hm⟩ : ∃ m, m = p.length := ⟨_, rfl⟩
  rw [← hm] at hms hb hsz
  have HB2 : Hid (Below w.heap.size w (w.alloc (.cells #[.slice none 0 0, .bool false, .bool false] 53))) := Lib.hid ((Below.refl _ _).alloc (Nat.le_refl _) _)
  have HZ : Hid ((w.alloc (.cells #[.slice none 0 0, .bool false, .bool false] 53)).heap[w.heap.size]? = some (.cells #[.slice none 0 0, .bool false, .bool false] 53 (0, 0))) := Lib.hid (heap_alloc_new w _)
  clear hm
  go_enter Tryz.func26, Tryz.ntmps26
  go_wp2
  exact bodyPost_ret (results_pair rfl _ _ w.heap.size 53 #[.slice none 0 0, .bool false, .bool false] (0, 0) _ rfl HZ.out Tryz.underlying53 rfl shape_info) rfl ⟨rfl, HB2.out⟩

set_option maxRecDepth 20000 in
set_option maxHeartbeats 4000000 in
theorem omay_long (p : Nm) (g a : Int) (w : World) (hb : 40 < p.length) (hsz : p.length ≤ 140737488355328) :
    Calls Tryz.prog 25 #[.agg #[.string (mk p), .int .i64 g, .int .i64 a]] w fun e w' => e = .returned (.int .i64 23) ∧ Below w.heap.size w w' := by
  obtain ⟨B, hB⟩ : ∃ B, B = w.heap.size := ⟨_, rfl⟩
  obtain ⟨w1, hw1⟩ : ∃ w1, w1 = w.alloc (.cells #[.string (mk p), .int .i64 g, .int .i64 a] 28) := ⟨_, rfl⟩
  have HX1 : Hid (w1.heap[B]? = some (.cells #[.string (mk p), .int .i64 g, .int .i64 a] 28 (0, 0))) := Lib.hid (by rw [hw1, hB]; exact heap_alloc_new w _)
  have HB1 : Hid (Below w.heap.size w w1) := Lib.hid (by rw [hw1]; exact (Below.refl _ _).alloc (Nat.le_refl _) _)
  obtain ⟨⟨x0, x1, x2⟩, _⟩ := three HX1.out
  have HOF := Lib.hid (sof_long p w1 hb hsz)
  simp only [shV] at HOF
  clear hb hsz
  go_enter Tryz.func25, Tryz.ntmps25
  go_wp2_with fail
  rw [← hw1, ← hB]
  clear hw1 hB
  refine HOF.out.mono ?_
  rintro e w2 ⟨rfl, hb2⟩
  have HB2 : Hid (Below w.heap.size w (w2.alloc (.cells #[.slice none 0 0, .bool false, .bool false] 53))) := Lib.hid ((HB1.out.trans (hb2.mono HB1.out.size)).alloc (by have := HB1.out.size; have := hb2.size; omega) _)
  clear hb2
  go_wp2
  go_ret
  exact ⟨rfl, HB2.out⟩

set_option maxRecDepth 20000 in
set_option maxHeartbeats 4000000 in
theorem add_long (a : Option Addr) (n c : Nat) (L : List OP) (z : List Int) (o : OP) (w : World) (hp : 40 < o.1.length) (hsz : o.1.length ≤ 140737488355328) :
    Calls Tryz.prog 9 #[.agg (ev a n c z), .agg #[.string (mk o.1), .int .i64 o.2.1, .int .i64 o.2.2]] w fun e w' => ∃ a' n' c', e = .returned (.tuple #[.agg (ev a' n' c' (addZ L z o)), .int .i64 (addE L o)]) ∧ OwnO w.heap.size w' a' n' c' (addR L o) ∧ Below w.heap.size w w' := by
  obtain ⟨B, hB⟩ : ∃ B, B = w.heap.size := ⟨_, rfl⟩
  obtain ⟨w1, hw1⟩ : ∃ w1, w1 = w.alloc (.cells (ev a n c z) 26) := ⟨_, rfl⟩
  have HM : Hid (mayV o.1 o.2.1 o.2.2 = 23) := Lib.hid (mayV_none (ofS_big hp) _ _)
  obtain ⟨p, g, s⟩ := o
  dsimp only at hp hsz HM ⊢
  obtain ⟨w2, hw2⟩ : ∃ w2, w2 = w1.alloc (.cells #[.string (mk p), .int .i64 g, .int .i64 s] 28) := ⟨_, rfl⟩
  obtain ⟨w3, hw3⟩ : ∃ w3, w3 = w2.alloc (.cells #[.slice none 0 0, .int .i64 0, .int .i64 0, .int .i64 0, .int .i64 0, .int .i64 0, .int .i64 0, .int .i64 0, .int .i64 0, .int .i64 0, .int .i64 0] 26) := ⟨_, rfl⟩
  have s1 : w1.heap.size = B + 1 := by rw [hw1, hB]; simp
  have s2 : w2.heap.size = B + 1 + 1 := by rw [hw2]; simp [s1]
  have HD3 : Hid (D3 w3 (B + 1) (p, g, s)) := Lib.hid (by rw [hw3, ← s1, hw2]; exact (D3.new w1 (p, g, s)).below (below_alloc _ _))
  have HR3 : Hid (EB w3 (B + 1 + 1) none 0 0 z0) := Lib.hid (by rw [hw3, ← s2, ← ev_zero]; exact EB.new w2 none 0 0 z0)
  have HB3 : Hid (Below B w w3) := Lib.hid (by rw [hw3, hw2, hw1, hB]; exact (((Below.refl _ _).alloc (Nat.le_refl _) _).alloc (by simp) _).alloc (by simp; omega) _)
  have HS3 : Hid (w3.heap.size = B + 1 + 1 + 1) := Lib.hid (by rw [hw3]; simp [s2])
  have HBB := Lib.hid hB
  have HP := Lib.hid (And.intro hp hsz)
  obtain ⟨d0, d1, d2⟩ := HD3.out.cells
  dsimp only at d0 d1 d2
  clear s1 s2 hp hsz
  go_enter Tryz.func9, Tryz.ntmps9
  go_wp2_with fail
  rw [← hw1, ← hw2, ← hw3, ← hB]
  clear hw1 hw2 hw3 hB
  refine (omay_long p g s w3 HP.out.1 HP.out.2).mono ?_
  rintro e w4 ⟨rfl, hb4⟩
  have HR4 := Lib.hid (HR3.out.below hb4)
  have HB4 : Hid (Below B w w4) := Lib.hid (HB3.out.trans (hb4.mono (by have := HS3.out; omega)))
  clear hb4 d0 d1 d2
  have hbu : ∀ w, (Instr.build 26 #[]).run Tryz.prog w = .ok (.agg (ev none 0 0 z0)) w := fun w => built_none w
  have HBAD : Hid (addE L (p, g, s) = 23 ∧ addE L (p, g, s) ≠ 0) := Lib.hid (by
    have h := addE_bad (L := L) (o := (p, g, s)) (by show mayV p g s ≠ 0; rw [HM.out]; decide)
    exact ⟨h.1.trans HM.out, h.2⟩)
  go_wp2_with (refine store_env rfl (.tmp 4) (.tmp 13) rfl (B + 1 + 1) rfl none 0 0 z0 rfl rfl none 0 0 z0 z0_len HR4.out ?_; intro w5 he5 ho5; have HE5 := Lib.hid he5; have HO5 := Lib.hid ho5; clear he5 ho5)
  refine bodyPost_ret (ret_envp rfl _ _ (B + 1 + 1) none 0 0 z0 z0_len rfl HE5.out) rfl ⟨none, 0, 0, ?_, ?_, ?_⟩
  · unfold addZ; rw [if_neg HBAD.out.2, HBAD.out.1]; rfl
  · unfold addR; rw [if_neg HBAD.out.2]; exact OwnV.none0
  · rw [← HBB.out]; exact HB4.out.trans (HO5.out.below (by omega))

theorem add_all (a : Option Addr) (n c : Nat) (L : List OP) (z : List Int) (o : OP) (w : World) (ht : Tab w) (h : OpS w a n c L) (hz : z.length = 10) (hn : n ≤ 1000000) (hp : o.1.length ≤ 140737488355328) :
    Calls Tryz.prog 9 #[.agg (ev a n c z), .agg #[.string (mk o.1), .int .i64 o.2.1, .int .i64 o.2.2]] w fun e w' => ∃ a' n' c', e = .returned (.tuple #[.agg (ev a' n' c' (addZ L z o)), .int .i64 (addE L o)]) ∧ OwnO w.heap.size w' a' n' c' (addR L o) ∧ Below w.heap.size w w' := by
  by_cases h1 : o.1.length ≤ 1000000
  · exact add_any a n c L z o w ht h hz hn h1
  · exact add_long a n c L z o w (by omega) hp

end Go.Proofs.YtciijlcemmhbfaaGreatDoor
