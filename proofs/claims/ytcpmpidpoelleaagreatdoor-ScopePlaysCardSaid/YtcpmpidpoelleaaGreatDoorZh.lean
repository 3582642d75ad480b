/- scope.declare, scope.Step, scope.Start (laid by genZh.py). -/
import Derived.Test.YtcpmpidpoelleaaGreatDoorZg
import Derived.Test.YtcpmpidpoelleaaGreatDoorMT
import Derived.Test.YtcpmpidpoelleaaGreatDoorMK
namespace Go.Proofs.YtcpmpidpoelleaaGreatDoor
open Go.RowKit

/-- What a directive that is not of a block answers of an env: its number, its operators, its rows. -/
def dclV (L : List OP) (z : List Int) (d : DV) : Int × List OP × List Int :=
  if d.1 = 1 then (addE L d.2.1, addR L d.2.1, addZ L z d.2.1) else if d.1 = 2 then (drpE L d.2.1.1, drpL L d.2.1.1, drpZ L z d.2.1.1)
  else if d.1 = 3 then (eE z d.2.2.1 d.2.2.2, (if eE z d.2.2.1 d.2.2.2 = 0 then L else []), eV z d.2.2.1 d.2.2.2) else (20, [], z0)
theorem dcl_stp {s : SC} {d : DV} (h4 : d.1 ≠ 4) (h5 : d.1 ≠ 5) : stpE s d = (dclV s.e.1 s.e.2 d).1 ∧ (stpE s d = 0 → stpV s d = ⟨(dclV s.e.1 s.e.2 d).2, s.st⟩) ∧ (stpE s d ≠ 0 → stpV s d = sc0) := by
  have e1 : stpE s d = (dclV s.e.1 s.e.2 d).1 := by
    unfold stpE dclV
    by_cases h1 : d.1 = 1
    · rw [if_pos h1, if_pos h1]
    · rw [if_neg h1, if_neg h1]
      by_cases h2 : d.1 = 2
      · rw [if_pos h2, if_pos h2]
      · rw [if_neg h2, if_neg h2]
        by_cases h3 : d.1 = 3
        · rw [if_pos h3, if_pos h3]
        · rw [if_neg h3, if_neg h3, if_neg h4, if_neg h5]
  refine ⟨e1, fun h0 => ?_, fun h0 => by unfold stpV; rw [if_neg h0]⟩
  unfold stpV stpG
  rw [if_pos h0]
  rw [e1] at h0
  unfold dclV at h0 ⊢
  by_cases h1 : d.1 = 1
  · rw [if_pos h1] at h0 ⊢
    rw [if_pos h1]
    dsimp only at h0 ⊢
    unfold addR addZ
    rw [if_pos h0, if_pos h0]
  · rw [if_neg h1] at h0 ⊢
    rw [if_neg h1]
    by_cases h2 : d.1 = 2
    · rw [if_pos h2] at h0 ⊢
      rw [if_pos h2]
      dsimp only at h0 ⊢
      unfold drpZ
      rw [if_pos h0]
    · rw [if_neg h2] at h0 ⊢
      rw [if_neg h2]
      by_cases h3 : d.1 = 3
      · rw [if_pos h3] at h0 ⊢
        rw [if_pos h3]
        dsimp only at h0 ⊢
        rw [if_pos h0]
      · rw [if_neg h3] at h0
        cases h0
theorem dclV_len {L : List OP} {z : List Int} (hz : z.length = 10) (d : DV) : (dclV L z d).2.2.length = 10 := by
  unfold dclV
  split
  · show (addZ L z d.2.1).length = 10
    unfold addZ; split
    · exact hz
    · rfl
  · split
    · show (drpZ L z d.2.1.1).length = 10
      unfold drpZ; split
      · exact hz
      · rfl
    · split
      · exact eV_len ..
      · rfl
def dA (d : DV) : Array Value := #[.int .i64 d.1, .string (mk d.2.1.1), .int .i64 d.2.1.2.1, .int .i64 d.2.1.2.2, .int .i64 d.2.2.1, .int .i64 d.2.2.2]
/-- The block b holds this directive. -/
def DB6 (w : World) (b : Nat) (d : DV) : Prop := w.heap[b]? = some (.cells (dA d) 37 (0, 0))
theorem DB6.lt {w : World} {b : Nat} {d : DV} (h : DB6 w b d) : b < w.heap.size := (Array.getElem?_eq_some_iff.1 h).1
theorem DB6.below {w w' : World} {b : Nat} {d : DV} (h : DB6 w b d) (hb : Below w.heap.size w w') : DB6 w' b d := (hb.block b h.lt).trans h
theorem DB6.only {w w' : World} {b g : Nat} {d : DV} (h : DB6 w b d) (ho : Only g w w') (hne : b ≠ g) : DB6 w' b d := (ho.block b hne).trans h
theorem DB6.new (w : World) (d : DV) : DB6 (w.alloc (.cells (dA d) 37)) w.heap.size d := heap_alloc_new w _
theorem DB6.alloc {w : World} {b : Nat} {d : DV} (h : DB6 w b d) (o : Obj) : DB6 (w.alloc o) b d := h.below (below_alloc w o)
theorem DB6.at {w : World} {b : Nat} {d : DV} (h : DB6 w b d) : w.cell? ⟨b, 0, none⟩ = some (.int .i64 d.1) ∧ w.cell? ⟨b, 1, none⟩ = some (.string (mk d.2.1.1)) ∧ w.cell? ⟨b, 2, none⟩ = some (.int .i64 d.2.1.2.1) ∧ w.cell? ⟨b, 3, none⟩ = some (.int .i64 d.2.1.2.2) ∧ w.cell? ⟨b, 4, none⟩ = some (.int .i64 d.2.2.1) ∧ w.cell? ⟨b, 5, none⟩ = some (.int .i64 d.2.2.2) :=
  ⟨(cell_of_row w b 0 _ _ _ h).trans rfl, (cell_of_row w b 1 _ _ _ h).trans rfl, (cell_of_row w b 2 _ _ _ h).trans rfl, (cell_of_row w b 3 _ _ _ h).trans rfl, (cell_of_row w b 4 _ _ _ h).trans rfl, (cell_of_row w b 5 _ _ _ h).trans rfl⟩

set_option maxRecDepth 20000 in
set_option maxHeartbeats 8000000 in
theorem declare_any (a : Option Addr) (n c : Nat) (L : List OP) (z : List Int) (d : DV) (w : World) (ht : Tab w) (h : OpS w a n c L) (hz : z.length = 10) (hr : ∀ i, i < 10 → I64 (bt z i)) (hn : n ≤ 1000000) (hp : d.2.1.1.length ≤ 140737488355328) :
    Calls Tryz.prog 19 #[.agg (ev a n c z), .agg (dA d)] w fun e w' => ∃ a' n' c', e = .returned (.tuple #[.agg (ev a' n' c' (dclV L z d).2.2), .int .i64 (dclV L z d).1]) ∧ OwnO w.heap.size w' a' n' c' (dclV L z d).2.1 ∧ Below w.heap.size w w' := by
  obtain ⟨B, hB⟩ : ∃ B, B = w.heap.size := ⟨_, rfl⟩
  obtain ⟨w1, hw1⟩ : ∃ w1, w1 = w.alloc (.cells (ev a n c z) 28) := ⟨_, rfl⟩
  obtain ⟨w2, hw2⟩ : ∃ w2, w2 = w1.alloc (.cells (dA d) 37) := ⟨_, rfl⟩
  obtain ⟨w3, hw3⟩ : ∃ w3, w3 = w2.alloc (.cells #[.slice none 0 0, .int .i64 0, .int .i64 0, .int .i64 0, .int .i64 0, .int .i64 0, .int .i64 0, .int .i64 0, .int .i64 0, .int .i64 0, .int .i64 0] 28) := ⟨_, rfl⟩
  have s1 : w1.heap.size = B + 1 := by rw [hw1, hB]; simp
  have s2 : w2.heap.size = B + 1 + 1 := by rw [hw2]; simp [s1]
  have HE3 : Hid (EB w3 B a n c z) := Lib.hid (by rw [hw3, hw2, hw1, hB]; exact ((EB.new w a n c z).alloc _).alloc _)
  have HD3 : Hid (DB6 w3 (B + 1) d) := Lib.hid (by rw [hw3, hw2, ← s1]; exact (DB6.new w1 d).alloc _)
  have HR3 : Hid (EB w3 (B + 1 + 1) none 0 0 z0) := Lib.hid (by rw [hw3, ← s2, ← ev_zero]; exact EB.new w2 none 0 0 z0)
  have HB3 : Hid (Below B w w3) := Lib.hid (by rw [hw3, hw2, hw1, hB]; exact (((Below.refl _ _).alloc (Nat.le_refl _) _).alloc (by simp) _).alloc (by simp; omega) _)
  have HS3 : Hid (B + 1 + 1 < w3.heap.size) := Lib.hid HR3.out.lt
  have H3 : Hid (OpS w3 a n c L) := Lib.hid (h.below (hB ▸ HB3.out))
  have HT3 : Hid (Tab w3) := Lib.hid (ht.keep (hB ▸ HB3.out))
  have HZ := Lib.hid hz
  have HRG := Lib.hid hr
  have HP := Lib.hid hp
  have HBB := Lib.hid hB
  have HN := Lib.hid hn
  have HZV := Lib.hid (dclV_len (L := L) hz d)
  obtain ⟨V, hV⟩ : ∃ V, V = (dclV L z d).1 := ⟨_, rfl⟩
  obtain ⟨R, hR⟩ : ∃ R, R = (dclV L z d).2.1 := ⟨_, rfl⟩
  obtain ⟨Z, hZ⟩ : ∃ Z, Z = (dclV L z d).2.2 := ⟨_, rfl⟩
  rw [← hV, ← hR, ← hZ]
  rw [← hZ] at HZV
  have KA : Hid ((d.1 = 1 → ∀ w', Tab w' → OpS w' a n c L → Calls Tryz.prog 28 #[.agg (ev a n c z), .agg #[.string (mk d.2.1.1), .int .i64 d.2.1.2.1, .int .i64 d.2.1.2.2]] w' fun e w'' => ∃ a' n' c', e = .returned (.tuple #[.agg (ev a' n' c' Z), .int .i64 V]) ∧ OwnO w'.heap.size w'' a' n' c' R ∧ Below w'.heap.size w' w'')
      ∧ (d.1 = 2 → ∀ w', OpS w' a n c L → Calls Tryz.prog 29 #[.agg (ev a n c z), .string (mk d.2.1.1)] w' fun e w'' => ∃ a' n' c', e = .returned (.tuple #[.agg (ev a' n' c' Z), .int .i64 V]) ∧ OwnO w'.heap.size w'' a' n' c' R ∧ Below w'.heap.size w' w'')
      ∧ (d.1 = 3 → ∀ w', OpS w' a n c L → Calls Tryz.prog 30 #[.agg (ev a n c z), .int .i64 d.2.2.1, .int .i64 d.2.2.2] w' fun e w'' => ∃ a' n' c', e = .returned (.tuple #[.agg (ev a' n' c' Z), .int .i64 V]) ∧ OwnO w'.heap.size w'' a' n' c' R ∧ Below w'.heap.size w' w'')) := Lib.hid (by
    rw [hV, hR, hZ]
    unfold dclV
    refine ⟨fun h1 w' ht hs => ?_, fun h2 w' hs => ?_, fun h3 w' hs => ?_⟩
    · rw [if_pos h1]; exact add_all a n c L z d.2.1 w' ht hs hz hn hp
    · rw [if_neg (by omega), if_pos h2]; exact drop_any a n c L z d.2.1.1 w' hs hz hn
    · rw [if_neg (by omega), if_neg (by omega), if_pos h3]; exact envEdge_any a n c L z d.2.2.1 d.2.2.2 w' hs hz hr hn)
  have HNO : Hid (d.1 ≠ 1 → d.1 ≠ 2 → d.1 ≠ 3 → V = 20 ∧ R = [] ∧ Z = z0) := Lib.hid (fun h1 h2 h3 => by rw [hV, hR, hZ]; unfold dclV; rw [if_neg h1, if_neg h2, if_neg h3]; exact ⟨rfl, rfl, rfl⟩)
  clear hV hR hZ
  obtain ⟨k, ⟨p, g, s⟩, u, v⟩ := d
  dsimp only at KA HNO HP
  have x0 := HD3.out.at.1
  dsimp only at x0
  rw [hw3, hw2, hw1, hB] at x0
  clear h ht hz hr hp hn s1 s2
  unfold dA at *
  dsimp only at *
  by_cases h1 : k = 1
  · subst h1
    go_enter Tryz.func19, Tryz.ntmps19
    go_wp2_with (rw [← hw1, ← hw2, ← hw3, ← hB]; clear hw1 hw2 hw3 hB x0; obtain ⟨y0, y1, y2, y3, y4, y5⟩ := HD3.out.at; refine load_env rfl (.tmp 2) rfl B rfl a n c z HZ.out HE3.out ?_)
    refine (KA.out.1 (by first | rfl | trivial) w3 HT3.out H3.out).mono ?_
    rintro e w4 ⟨a4, n4, c4, rfl, ho4, hb4⟩
    have HO4 := Lib.hid ho4
    have HB4 : Hid (Below w3.heap.size w3 w4) := Lib.hid hb4
    have HR4 := Lib.hid (HR3.out.below hb4)
    clear ho4 hb4 y0 y1 y2 y3 y4 y5
    go_wp2_with (refine store_env rfl (.tmp 4) (.tmp 14) rfl (B + 1 + 1) rfl a4 n4 c4 Z rfl HZV.out none 0 0 z0 z0_len HR4.out ?_; intro w5 he5 hq5; have HE5 := Lib.hid he5; have HQ5 := Lib.hid hq5; clear he5 hq5)
    refine bodyPost_ret (ret_envp rfl _ _ (B + 1 + 1) a4 n4 c4 Z HZV.out rfl HE5.out) rfl ⟨_, _, _, rfl, ?_, ?_⟩
    · exact (ownO_env HO4.out HR4.out HQ5.out).weak (by have := HBB.out; have := HS3.out; omega)
    · rw [← HBB.out]; exact (HB3.out.trans (HB4.out.mono (by have := HS3.out; omega))).trans (HQ5.out.below (by omega))
  · by_cases h2 : k = 2
    · subst h2
      go_enter Tryz.func19, Tryz.ntmps19
      go_wp2_with (rw [← hw1, ← hw2, ← hw3, ← hB]; clear hw1 hw2 hw3 hB x0; obtain ⟨y0, y1, y2, y3, y4, y5⟩ := HD3.out.at; refine load_env rfl (.tmp 2) rfl B rfl a n c z HZ.out HE3.out ?_)
      refine (KA.out.2.1 (by first | rfl | trivial) w3 H3.out).mono ?_
      rintro e w4 ⟨a4, n4, c4, rfl, ho4, hb4⟩
      have HO4 := Lib.hid ho4
      have HB4 : Hid (Below w3.heap.size w3 w4) := Lib.hid hb4
      have HR4 := Lib.hid (HR3.out.below hb4)
      clear ho4 hb4 y0 y1 y2 y3 y4 y5
      go_wp2_with (refine store_env rfl (.tmp 4) (.tmp 23) rfl (B + 1 + 1) rfl a4 n4 c4 Z rfl HZV.out none 0 0 z0 z0_len HR4.out ?_; intro w5 he5 hq5; have HE5 := Lib.hid he5; have HQ5 := Lib.hid hq5; clear he5 hq5)
      refine bodyPost_ret (ret_envp rfl _ _ (B + 1 + 1) a4 n4 c4 Z HZV.out rfl HE5.out) rfl ⟨_, _, _, rfl, ?_, ?_⟩
      · exact (ownO_env HO4.out HR4.out HQ5.out).weak (by have := HBB.out; have := HS3.out; omega)
      · rw [← HBB.out]; exact (HB3.out.trans (HB4.out.mono (by have := HS3.out; omega))).trans (HQ5.out.below (by omega))
    · by_cases h3 : k = 3
      · subst h3
        go_enter Tryz.func19, Tryz.ntmps19
        go_wp2_with (rw [← hw1, ← hw2, ← hw3, ← hB]; clear hw1 hw2 hw3 hB x0; obtain ⟨y0, y1, y2, y3, y4, y5⟩ := HD3.out.at; refine load_env rfl (.tmp 2) rfl B rfl a n c z HZ.out HE3.out ?_)
        refine (KA.out.2.2 (by first | rfl | trivial) w3 H3.out).mono ?_
        rintro e w4 ⟨a4, n4, c4, rfl, ho4, hb4⟩
        have HO4 := Lib.hid ho4
        have HB4 : Hid (Below w3.heap.size w3 w4) := Lib.hid hb4
        have HR4 := Lib.hid (HR3.out.below hb4)
        clear ho4 hb4 y0 y1 y2 y3 y4 y5
        go_wp2_with (refine store_env rfl (.tmp 4) (.tmp 33) rfl (B + 1 + 1) rfl a4 n4 c4 Z rfl HZV.out none 0 0 z0 z0_len HR4.out ?_; intro w5 he5 hq5; have HE5 := Lib.hid he5; have HQ5 := Lib.hid hq5; clear he5 hq5)
        refine bodyPost_ret (ret_envp rfl _ _ (B + 1 + 1) a4 n4 c4 Z HZV.out rfl HE5.out) rfl ⟨_, _, _, rfl, ?_, ?_⟩
        · exact (ownO_env HO4.out HR4.out HQ5.out).weak (by have := HBB.out; have := HS3.out; omega)
        · rw [← HBB.out]; exact (HB3.out.trans (HB4.out.mono (by have := HS3.out; omega))).trans (HQ5.out.below (by omega))
      · obtain ⟨e1, e2, e3⟩ := HNO.out h1 h2 h3
        rw [e1, e2, e3]
        have hbu : ∀ w, (Instr.build 28 #[]).run Tryz.prog w = .ok (.agg (ev none 0 0 z0)) w := fun w => built_none w
        clear e1 e2 e3
        go_enter Tryz.func19, Tryz.ntmps19
        go_wp2_with (rw [← hw1, ← hw2, ← hw3, ← hB]; clear hw1 hw2 hw3 hB x0; refine store_env rfl (.tmp 4) (.tmp 35) rfl (B + 1 + 1) rfl none 0 0 z0 rfl rfl none 0 0 z0 z0_len HR3.out ?_; intro w5 he5 hq5; have HE5 := Lib.hid he5; have HQ5 := Lib.hid hq5; clear he5 hq5)
        refine bodyPost_ret (ret_envp rfl _ _ (B + 1 + 1) none 0 0 z0 z0_len rfl HE5.out) rfl ⟨_, _, _, rfl, OwnV.none0, ?_⟩
        rw [← HBB.out]; exact HB3.out.trans (HQ5.out.below (by omega))

set_option maxRecDepth 20000 in
set_option maxHeartbeats 8000000 in
theorem sstep_any (x : XV) (d : DV) (w : World) (ht : Tab w) (h : x.ok w) (hk : okS x.k) (hp : d.2.1.1.length ≤ 140737488355328) :
    Calls Tryz.prog 9 #[.agg (sv x), .agg (dA d)] w fun e w' => ∃ y : XV, e = .returned (.tuple #[.agg (sv y), .int .i64 (stpE x.k d)]) ∧ y.own w' ∧ y.k = stpV x.k d ∧ Below w.heap.size w w' := by
  obtain ⟨B, hB⟩ : ∃ B, B = w.heap.size := ⟨_, rfl⟩
  obtain ⟨w1, hw1⟩ : ∃ w1, w1 = w.alloc (.cells (sv x) 31) := ⟨_, rfl⟩
  obtain ⟨w2, hw2⟩ : ∃ w2, w2 = w1.alloc (.cells (dA d) 37) := ⟨_, rfl⟩
  obtain ⟨w3, hw3⟩ : ∃ w3, w3 = w2.alloc (.cells #[.slice none 0 0, .int .i64 0, .int .i64 0, .int .i64 0, .int .i64 0, .int .i64 0, .int .i64 0, .int .i64 0, .int .i64 0, .int .i64 0, .int .i64 0, .slice none 0 0] 31) := ⟨_, rfl⟩
  have s1 : w1.heap.size = B + 1 := by rw [hw1, hB]; simp
  have s2 : w2.heap.size = B + 1 + 1 := by rw [hw2]; simp [s1]
  have HE3 : Hid (SB w3 B x) := Lib.hid (by rw [hw3, hw2, hw1, hB]; exact ((SB.new w x).alloc _).alloc _)
  have HD3 : Hid (DB6 w3 (B + 1) d) := Lib.hid (by rw [hw3, hw2, ← s1]; exact (DB6.new w1 d).alloc _)
  have HR3 : Hid (SB w3 (B + 1 + 1) x0) := Lib.hid (by rw [hw3, ← s2, ← sv_zero]; exact SB.new w2 x0)
  have HB3 : Hid (Below B w w3) := Lib.hid (by rw [hw3, hw2, hw1, hB]; exact (((Below.refl _ _).alloc (Nat.le_refl _) _).alloc (by simp) _).alloc (by simp; omega) _)
  have HS3 : Hid (B + 1 + 1 < w3.heap.size) := Lib.hid HR3.out.lt
  have HX3 : Hid (x.ok w3) := Lib.hid (XV.below h (hB ▸ HB3.out))
  have HT3 : Hid (Tab w3) := Lib.hid (ht.keep (hB ▸ HB3.out))
  have HSM := Lib.hid (XV.small h hk)
  have HZ : Hid (x.e.z.length = 10) := Lib.hid HSM.out.2.2.2.2
  have HOK := Lib.hid hk
  have HP := Lib.hid hp
  have HBB := Lib.hid hB
  have HDD : Hid (∀ d' : DV, d' = d → DB6 w3 (B + 1) d') := Lib.hid fun d' e => by rw [e]; exact HD3.out
  have y0 := HD3.out.at.1
  rw [hw3, hw2, hw1, hB] at y0
  clear h ht hk hp s1 s2
  by_cases h4 : d.1 = 4
  · rw [h4] at y0
    have hd4 := Lib.hid h4
    clear h4
    go_enter Tryz.func9, Tryz.ntmps9
    go_wp2_with (rw [← hw1, ← hw2, ← hw3, ← hB]; clear hw1 hw2 hw3 hB y0; refine load_scope rfl (.tmp 2) rfl B rfl x HZ.out HE3.out ?_)
    refine (begin_any x d w3 HX3.out HOK.out hd4.out).mono ?_
    rintro e w4 ⟨y, rfl, ho4, hk4, hb4⟩
    have HO4 := Lib.hid ho4
    have HK4 := Lib.hid hk4
    have HB4 : Hid (Below w3.heap.size w3 w4) := Lib.hid hb4
    have HR4 := Lib.hid (HR3.out.below hb4)
    clear ho4 hb4 hk4
    go_wp2_with (refine store_scope rfl (.tmp 4) (.tmp 14) rfl (B + 1 + 1) rfl y rfl HO4.out.z x0 rfl HR4.out ?_; intro w5 he5 hq5; have HE5 := Lib.hid he5; have HQ5 := Lib.hid hq5; clear he5 hq5)
    refine bodyPost_ret (ret_scopep rfl _ _ (B + 1 + 1) y HO4.out.z rfl HE5.out) rfl ⟨y, rfl, HO4.out.kp (Kp.scope HR4.out HQ5.out), HK4.out, ?_⟩
    rw [← HBB.out]; exact (HB3.out.trans (HB4.out.mono (by have := HS3.out; omega))).trans (HQ5.out.below (by omega))
  · by_cases h5 : d.1 = 5
    · rw [h5] at y0
      have hd5 := Lib.hid h5
      clear h5 h4
      go_enter Tryz.func9, Tryz.ntmps9
      go_wp2_with (rw [← hw1, ← hw2, ← hw3, ← hB]; clear hw1 hw2 hw3 hB y0; refine load_scope rfl (.tmp 2) rfl B rfl x HZ.out HE3.out ?_)
      refine (end_any x d w3 HX3.out HOK.out hd5.out).mono ?_
      rintro e w4 ⟨y, rfl, ho4, hk4, hb4⟩
      have HO4 := Lib.hid ho4
      have HK4 := Lib.hid hk4
      have HB4 : Hid (Below w3.heap.size w3 w4) := Lib.hid hb4
      have HR4 := Lib.hid (HR3.out.below hb4)
      clear ho4 hb4 hk4
      go_wp2_with (refine store_scope rfl (.tmp 4) (.tmp 20) rfl (B + 1 + 1) rfl y rfl HO4.out.z x0 rfl HR4.out ?_; intro w5 he5 hq5; have HE5 := Lib.hid he5; have HQ5 := Lib.hid hq5; clear he5 hq5)
      refine bodyPost_ret (ret_scopep rfl _ _ (B + 1 + 1) y HO4.out.z rfl HE5.out) rfl ⟨y, rfl, HO4.out.kp (Kp.scope HR4.out HQ5.out), HK4.out, ?_⟩
      rw [← HBB.out]; exact (HB3.out.trans (HB4.out.mono (by have := HS3.out; omega))).trans (HQ5.out.below (by omega))
    · obtain ⟨q1, q2, q3⟩ := dcl_stp (s := x.k) (d := d) h4 h5
      have HQV := Lib.hid q2
      have HQN := Lib.hid q3
      have HQ1 := Lib.hid q1
      clear q1 q2 q3
      have HDE : Hid (∀ w', OpS w' x.e.a x.e.n x.e.c x.e.L → Tab w' → Calls Tryz.prog 19 #[.agg (ev x.e.a x.e.n x.e.c x.e.z), .agg (dA d)] w' fun e w'' => ∃ a' n' c', e = .returned (.tuple #[.agg (ev a' n' c' (dclV x.e.L x.e.z d).2.2), .int .i64 (stpE x.k d)]) ∧ OwnO w'.heap.size w'' a' n' c' (dclV x.e.L x.e.z d).2.1 ∧ Below w'.heap.size w' w'') := Lib.hid fun w' hs ht => by
        rw [HQ1.out]
        exact declare_any x.e.a x.e.n x.e.c x.e.L x.e.z d w' ht hs HZ.out HOK.out.1.2.2.2 (by have := HSM.out.1; omega) HP.out
      have HZV : Hid ((dclV x.e.L x.e.z d).2.2.length = 10) := Lib.hid (dclV_len HZ.out d)
      obtain ⟨V, hV⟩ : ∃ V, V = stpE x.k d := ⟨_, rfl⟩
      rw [← hV] at HDE HQV HQN ⊢
      clear hV HQ1
      obtain ⟨Z, hZ⟩ : ∃ Z, Z = (dclV x.e.L x.e.z d).2.2 := ⟨_, rfl⟩
      obtain ⟨R, hR⟩ : ∃ R, R = (dclV x.e.L x.e.z d).2.1 := ⟨_, rfl⟩
      have HQE : Hid ((dclV x.k.e.1 x.k.e.2 d).2 = (R, Z)) := Lib.hid (by rw [hR, hZ]; rfl)
      rw [HQE.out] at HQV
      rw [← hZ] at HZV
      rw [← hR, ← hZ] at HDE
      clear hZ hR HQE
      obtain ⟨k, ⟨p, g, s⟩, u, v⟩ := d
      dsimp only at h4 h5 y0
      unfold dA at hw2 HDE ⊢
      dsimp only at hw2 HDE ⊢
      go_enter Tryz.func9, Tryz.ntmps9
      go_wp2_with (rw [← hw1, ← hw2, ← hw3, ← hB]; clear hw1 hw2 hw3 hB y0; obtain ⟨t0, t1, t2, t3, t4, t5⟩ := HD3.out.at; refine load_senv rfl (.tmp 23) rfl B rfl x HZ.out HE3.out ?_)
      refine (HDE.out w3 HX3.out.1.1 HT3.out).mono ?_
      rintro e w4 ⟨a4, n4, c4, rfl, ho4, hb4⟩
      have HO4 := Lib.hid ho4
      have HB4 : Hid (Below w3.heap.size w3 w4) := Lib.hid hb4
      have HR4 := Lib.hid (HR3.out.below hb4)
      have HE4 := Lib.hid (HE3.out.below hb4)
      clear ho4 hb4 t0 t1 t2 t3 t4 t5
      have hnew : EB (w4.alloc (.cells #[.slice none 0 0, .int .i64 0, .int .i64 0, .int .i64 0, .int .i64 0, .int .i64 0, .int .i64 0, .int .i64 0, .int .i64 0, .int .i64 0, .int .i64 0] 28)) w4.heap.size none 0 0 z0 := EB.new w4 none 0 0 z0
      obtain ⟨E, hE⟩ : ∃ E, E = w4.heap.size := ⟨_, rfl⟩
      have HEG : Hid (B + 1 + 1 < E) := Lib.hid (by rw [hE]; exact HR4.out.lt)
      by_cases hv : V = 0
      · subst hv
        go_wp2_with (refine store_env rfl (.tmp 6) (.tmp 27) rfl _ rfl a4 n4 c4 Z rfl HZV.out none 0 0 z0 z0_len hnew ?_; rw [← hE]; intro w5 he5 hq5; have HE5 := Lib.hid he5; have HB5 : Hid (Below w4.heap.size w4 w5) := Lib.hid ((below_alloc w4 _).trans (hq5.below (by rw [hE]; exact Nat.le_refl _))); have HO5 : Hid (OwnO 0 w5 a4 n4 c4 R) := Lib.hid ((HO4.out.weak (Nat.zero_le _)).keep HB5.out (Nat.le_refl _)); clear he5 hq5 hE hnew)
        have HS5 := Lib.hid (HE4.out.below HB5.out)
        have HR5 := Lib.hid (HR4.out.below HB5.out)
        have HX5 : Hid (Sk w5 x.a x.n x.c x.V) := Lib.hid (HX3.out.2.below (HB4.out.trans (HB5.out.mono HB4.out.size)))
        have HKS : Hid (∀ w', Below w5.heap.size w5 w' → (fun w' => EB w' E a4 n4 c4 Z ∧ w'.cell? ⟨B, 11, none⟩ = some (.slice x.a x.n x.c)) w') := Lib.hid fun w' hb => ⟨HE5.out.below hb, (HS5.out.below hb).c11 HZ.out⟩
        have HKO : Hid (∀ u v, (fun w' => EB w' E a4 n4 c4 Z ∧ w'.cell? ⟨B, 11, none⟩ = some (.slice x.a x.n x.c)) u → Only (B + 1 + 1) u v → (fun w' => EB w' E a4 n4 c4 Z ∧ w'.cell? ⟨B, 11, none⟩ = some (.slice x.a x.n x.c)) v) := Lib.hid fun u v h ho => ⟨h.1.only ho (by have := HEG.out; omega), (Only.cell ho (p := ⟨B, 11, none⟩) (show B ≠ B + 1 + 1 by omega)).trans h.2⟩
        refine wp_region_noPanic ?_
        refine wp_region_held_drew (S := fun w' => EB w' E a4 n4 c4 Z ∧ w'.cell? ⟨B, 11, none⟩ = some (.slice x.a x.n x.c)) (by kernel_rfl) (HKS.out _ (Below.refl _ _).drew) (fun hHeld => ?_)
        refine take_env (i := 0) (oi := { dst := some 33, op := Op.load 28 (Operand.tmp 6), type := 28, pos := "scope.go:26", after := #[], guard := none }) (Operand.tmp 6) rfl (by kernel_rfl) (by kernel_rfl) (by kernel_rfl) a4 n4 c4 (Z) (fun _ _ _ h => h) (by rfl) rfl (E) rfl (HZV.out) (fun w h => h.1) (by assumption) ?_
        try simp only [Act.put, List.setIfInBounds_toArray, List.set_cons_zero, List.set_cons_succ]
        refine wpAnyH_take (i := 1) (oi := { dst := some 34, op := Op.fieldAddr 31 (Operand.tmp 2) 1, type := 0, pos := "scope.go:26", after := #[], guard := none }) (v := ?_) rfl (by kernel_rfl) (by kernel_rfl) (by kernel_rfl) (fun _ _ _ h => h) (Or.inl ⟨by rfl, ?_⟩) (by assumption) ?_
        rotate_left
        · intro w' hSw
          try dsimp only at hSw
          go_simp
          try with_reducible rfl
        try simp only [Act.put, List.setIfInBounds_toArray, List.set_cons_zero, List.set_cons_succ]
        refine wpAnyH_take (i := 2) (oi := { dst := some 35, op := Op.load 29 (Operand.tmp 34), type := 29, pos := "scope.go:26", after := #[{ on := 1, ground := Ground.data }], guard := none }) (v := ?_) rfl (by kernel_rfl) (by kernel_rfl) (by kernel_rfl) (fun _ _ _ h => h) (Or.inl ⟨by rfl, ?_⟩) (by assumption) ?_
        rotate_left
        · intro w' hSw
          try dsimp only at hSw
          go_simp
          try with_reducible rfl
        try simp only [Act.put, List.setIfInBounds_toArray, List.set_cons_zero, List.set_cons_succ]
        refine wpAnyH_ready (rs := [3]) (by kernel_rfl) (by simp) ?_
        refine AllReadyH.cons (o := { dst := some 36, op := Op.call { callee := Callee.value (Operand.func 20), args := #[Operand.tmp 35], argTypes := #[29] }, type := 29, pos := "scope.go:26", after := #[{ on := 2, ground := Ground.data }], guard := none }) rfl (fun K hK => ?_) ?_
        · go_simp
          (go_at_call 20; (refine (owned_any x.a x.n x.c x.V _ (HX5.out.below (Below.refl _ _).drew) (by have := HSM.out.2.1; omega) (fun y hy => by have := HSM.out.2.2.1 y hy; omega)).mono ?_); rintro e w7 ⟨a7, c7, V7, rfl, ho7, hs7, hk7, hb7⟩)
          have HB7 : Hid (Below w5.heap.size w5 w7) := Lib.hid ((Below.refl _ _).drew.trans hb7)
          have HR7 : Hid (OwnV 0 28 11 w7 a7 x.n c7 (rowA V7)) := Lib.hid (ho7.weak (Nat.zero_le _))
          have HS7 := Lib.hid hs7
          have HK7 := Lib.hid hk7
          clear ho7 hs7 hk7 hb7
          refine hK.out _ _ (HKS.out _ HB7.out) (fun hHeld => ?_)
          clear hK K
          try simp only [Act.put, List.setIfInBounds_toArray, List.set_cons_zero, List.set_cons_succ]
          refine wpAnyH_take (i := 4) (oi := { dst := some 37, op := Op.build 31 #[(0, Operand.tmp 33), (1, Operand.tmp 36)], type := 31, pos := "scope.go:26", after := #[{ on := 0, ground := Ground.data }, { on := 3, ground := Ground.data }], guard := none }) (v := .agg (sv (⟨⟨a4, n4, c4, R, Z⟩, a7, x.n, c7, V7⟩ : XV))) rfl (by kernel_rfl) (by kernel_rfl) (by kernel_rfl) (fun _ _ _ h => h) (Or.inl ⟨by rfl, fun w0 _ => run_build_scope (.tmp 33) (.tmp 36) rfl (⟨⟨a4, n4, c4, R, Z⟩, a7, x.n, c7, V7⟩ : XV) HZV.out rfl rfl w0⟩) (by assumption) ?_
          try simp only [Act.put, List.setIfInBounds_toArray, List.set_cons_zero, List.set_cons_succ]
          refine wpAnyH_ready (rs := [5]) (by kernel_rfl) (by simp) ?_
          refine AllReadyH.cons (o := { dst := none, op := Op.store 31 (Operand.tmp 4) (Operand.tmp 37), type := 0, pos := "scope.go:26", after := #[{ on := 4, ground := Ground.data }, { on := 3, ground := Ground.chain }, { on := 0, ground := Ground.phase }, { on := 1, ground := Ground.phase }, { on := 2, ground := Ground.phase }, { on := 3, ground := Ground.phase }, { on := 4, ground := Ground.phase }], guard := none }) rfl (fun K hK => ?_) ?_
          · refine step_store_scope rfl (.tmp 4) (.tmp 37) rfl (B + 1 + 1) rfl (⟨⟨a4, n4, c4, R, Z⟩, a7, x.n, c7, V7⟩ : XV) rfl HZV.out x0 rfl (HR5.out.below HB7.out) ?_
            intro w8 he8 ho8
            have HE8 := Lib.hid he8
            have HO8 := Lib.hid ho8
            clear he8 ho8
            refine hK.out _ _ (HKO.out _ _ (HKS.out _ HB7.out) HO8.out) (fun hHeld => ?_)
            clear hK K
            try simp only [Act.put]
            refine wpAnyH_take (i := 6) (oi := { dst := some 5, op := Op.assign (Operand.const (Value.int IntKind.i64 0)), type := 39, pos := "scope.go:26", after := #[{ on := 5, ground := Ground.chain }, { on := 0, ground := Ground.phase }, { on := 1, ground := Ground.phase }, { on := 2, ground := Ground.phase }, { on := 3, ground := Ground.phase }, { on := 4, ground := Ground.phase }, { on := 5, ground := Ground.phase }], guard := none }) (v := ?_) rfl (by kernel_rfl) (by kernel_rfl) (by kernel_rfl) (fun _ _ _ h => h) (Or.inl ⟨by rfl, ?_⟩) (by assumption) ?_
            rotate_left
            · intro w' hSw
              try dsimp only at hSw
              go_simp
              try with_reducible rfl
            try simp only [Act.put, List.setIfInBounds_toArray, List.set_cons_zero, List.set_cons_succ]
            refine wpAnyH_done (by kernel_rfl) ?_ _
            refine NoPanic.normal ?_
            go_wp2
            refine bodyPost_ret (ret_scopep rfl _ _ (B + 1 + 1) (⟨⟨a4, n4, c4, R, Z⟩, a7, x.n, c7, V7⟩ : XV) HZV.out rfl HE8.out) rfl ⟨_, rfl, ?_, ?_, ?_⟩
            · exact XV.own.kp (w := w7) ⟨⟨HO5.out.keep HB7.out (Nat.le_refl _), HZV.out⟩, HR7.out, HS7.out⟩ (Kp.scope (HR5.out.below HB7.out) HO8.out)
            · show SC.mk (R, Z) (V7.map AV.k) = _
              rw [HK7.out, HQV.out (by first | rfl | trivial)]
              rfl
            · rw [← HBB.out]; exact (HB3.out.trans (((HB4.out.trans (HB5.out.mono HB4.out.size)).trans (HB7.out.mono (Nat.le_trans HB4.out.size HB5.out.size))).mono (by have := HS3.out; omega))).trans (HO8.out.below (by omega))
          · exact AllReadyH.nil
        · exact AllReadyH.nil

      · go_wp2_with (first
          | (refine store_scope rfl (.tmp 4) (.tmp 31) rfl (B + 1 + 1) rfl x0 rfl rfl x0 rfl HR5.out ?_; intro w6 he6 hq6; have HE6 := Lib.hid he6; have HQ6 := Lib.hid hq6; clear he6 hq6)
          | (refine build_scope0 rfl rfl ?_)
          | (refine store_env rfl (.tmp 6) (.tmp 27) rfl _ rfl a4 n4 c4 Z rfl HZV.out none 0 0 z0 z0_len hnew ?_; rw [← hE]; intro w5 he5 hq5; have HB5 : Hid (Below w4.heap.size w4 w5) := Lib.hid ((below_alloc w4 _).trans (hq5.below (by rw [hE]; exact Nat.le_refl _))); have HR5 := Lib.hid (HR4.out.below HB5.out); clear he5 hq5 hE hnew))
        refine bodyPost_ret (ret_scopep rfl _ _ (B + 1 + 1) x0 rfl rfl HE6.out) rfl ⟨x0, rfl, x0_own _, ?_, ?_⟩
        · rw [HQN.out hv]; rfl
        · rw [← HBB.out]; exact (HB3.out.trans ((HB4.out.trans (HB5.out.mono HB4.out.size)).mono (by have := HS3.out; omega))).trans (HQ6.out.below (by omega))

set_option maxRecDepth 20000 in
theorem sstart_any (w : World) : Calls Tryz.prog 6 #[] w fun e w' => e = .returned (.agg (sv ⟨⟨none, 0, 0, [], zS⟩, none, 0, 0, []⟩)) ∧ Below w.heap.size w w' := by
  obtain ⟨B, hB⟩ : ∃ B, B = w.heap.size := ⟨_, rfl⟩
  obtain ⟨w1, hw1⟩ : ∃ w1, w1 = w.alloc (.cells #[.slice none 0 0, .int .i64 0, .int .i64 0, .int .i64 0, .int .i64 0, .int .i64 0, .int .i64 0, .int .i64 0, .int .i64 0, .int .i64 0, .int .i64 0, .slice none 0 0] 31) := ⟨_, rfl⟩
  have HR1 : Hid (SB w1 B x0) := Lib.hid (by rw [hw1, hB, ← sv_zero]; exact SB.new w x0)
  have HB1 : Hid (Below B w w1) := Lib.hid (by rw [hw1, hB]; exact below_alloc w _)
  have HBB := Lib.hid hB
  go_enter Tryz.func6, Tryz.ntmps6
  go_wp2_with fail
  rw [← hw1, ← hB]
  clear hw1 hB
  refine (new_any w1).mono ?_
  rintro e w2 ⟨rfl, hb2⟩
  have HR2 := Lib.hid (HR1.out.below hb2)
  have HB2 : Hid (Below B w w2) := Lib.hid (HB1.out.trans (hb2.mono (Nat.le_of_lt HR1.out.lt)))
  clear hb2
  go_wp2_with (first
    | (refine store_scope rfl (.tmp 0) (.tmp 2) rfl B rfl ⟨⟨none, 0, 0, [], zS⟩, none, 0, 0, []⟩ rfl rfl x0 rfl HR2.out ?_; intro w3 he3 hq3; have HE3 := Lib.hid he3; have HQ3 := Lib.hid hq3; clear he3 hq3)
    | (refine build_scope1 rfl (.tmp 1) rfl ⟨none, 0, 0, [], zS⟩ rfl rfl ?_))
  exact bodyPost_ret (ret_scope rfl _ _ B ⟨⟨none, 0, 0, [], zS⟩, none, 0, 0, []⟩ rfl rfl HE3.out) rfl ⟨rfl, by rw [← HBB.out]; exact HB2.out.trans (HQ3.out.below (Nat.le_refl _))⟩

end Go.Proofs.YtcpmpidpoelleaaGreatDoor
