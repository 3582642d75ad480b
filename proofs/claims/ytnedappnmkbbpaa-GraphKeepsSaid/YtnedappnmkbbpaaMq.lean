/- The walk of the laws' own leads. -/
import Derived.Test.YtnedappnmkbbpaaMn
import Derived.Test.YtnedappnmkbbpaaMp
namespace Go.Proofs.Ytnedappnmkbbpaa
open Go.RowKit

def sl (s : List Bool) : List Value := s.map Value.bool
abbrev sv (s : List Bool) : Array Value := (sl s).toArray
/-- The block g holds which groups are seen. -/
def SB (w : World) (g : Nat) (s : List Bool) : Prop := w.heap[g]? = some (.cells (sv s) 43 (0, 0))
theorem sv_at {s : List Bool} (hs : s.length = 10) {j : Nat} (hj : j < 10) : (sv s)[j]? = some (.bool (sb s j)) := by
  simp [sv, sl, sb, List.getD, show j < s.length by omega]
theorem sv_set (s : List Bool) (j : Nat) (x : Bool) : (sv s).setIfInBounds j (.bool x) = sv (s.set j x) := by simp [sv, sl, List.map_set]
theorem SB.cell {w : World} {g : Nat} {s : List Bool} (h : SB w g s) (hs : s.length = 10) {j : Nat} (hj : j < 10) : w.cell? ⟨g, j, none⟩ = some (.bool (sb s j)) := (cell_of_row w g j _ _ _ h).trans (sv_at hs hj)
theorem SB.frozen {w : World} {g : Nat} {s : List Bool} (h : SB w g s) (j : Nat) : w.frozen? ⟨g, j, none⟩ = false := frozen_of_row w g j _ _ h
theorem SB.set {w : World} {g : Nat} {s : List Bool} (h : SB w g s) (j : Nat) (x : Bool) : SB (w.setCell ⟨g, j, none⟩ (.bool x)) g (s.set j x) := by
  have := heap_setCell_same w g j _ _ (.bool x) h
  rw [sv_set] at this; exact this
theorem SB.drew {w : World} {g : Nat} {s : List Bool} (h : SB w g s) : SB w.drew g s := h
theorem info_seen : (Try.prog.info? 43).map (·.size) = some 10 := by kernel_rfl
theorem sv_f0 : (sv f0).all (·.oneCell') = true := by
  rw [Array.all_eq_true_iff_forall_mem]
  intro v hv
  simp only [sv, sl, List.mem_toArray, List.mem_map] at hv
  obtain ⟨x, _, rfl⟩ := hv
  rfl
theorem store_seen {ops : Array Oper} {rest : List Oper} {o : Oper} {a : Act} {w : World} {Q : Exit → Act → World → Prop} (hgd : o.guard = none) (x y : Operand) (ho : o.op = .store 43 x y)
    (g : Nat) (hx : a.eval x = .pointer (some ⟨g, 0, none⟩)) (hy : a.eval y = .agg (sv f0)) (h : SB w g f0)
    (k : ∀ w', SB w' g f0 → Only g w w' → wpList Try.prog ops Q rest (a.put o.dst undef) w') : wpList Try.prog ops Q (o :: rest) a w :=
  wpList_store_row hgd 43 x y ho g _ hx hy _ _ h info_seen rfl sv_f0 (k _ (setRow_heap w g _ _ _ _ h) (Only.ofRow w g _))

theorem edge_cells {w : World} {a : Option Addr} {n c : Nat} {E : List (Nat × Nat)} (h : Vs 2 w a n c (eC E)) (hE : E.length = n) {i : Nat} (hi : i < n) :
    ∃ b off p q, a = some ⟨b, off, none⟩ ∧ E[i]? = some (p, q) ∧ w.cell? ⟨b, off + i * 2, none⟩ = some (.int .i64 (p : Nat)) ∧ w.cell? ⟨b, off + i * 2 + 1, none⟩ = some (.int .i64 (q : Nat)) := by
  obtain ⟨b, off, rfl, _, hc⟩ := h.at_ (by omega)
  have he := eC_at E i (by omega)
  refine ⟨b, off, E[i].1, E[i].2, rfl, by rw [List.getElem?_eq_getElem (by omega)], ?_, ?_⟩
  · rw [hc (i * 2) (by omega)]; exact he.1
  · rw [show off + i * 2 + 1 = off + (i * 2 + 1) by omega, hc (i * 2 + 1) (by omega)]; exact he.2

set_option maxRecDepth 20000 in
set_option maxHeartbeats 8000000 in
theorem leads_any (z : List Int) (E : List (Nat × Nat)) (H : Inv z E) (a : Option Addr) (n c : Nat) (g h : Nat) (w : World) (hv : Vs 2 w a n c (eC E)) (hE : E.length = n) (hn : n ≤ 40) (hg : g ≤ 9) (hh : h ≤ 9) :
    Calls Try.prog 16 #[.slice a n c, .int .i64 g, .int .i64 h] w fun e w' => e = .returned (.bool (T z g h)) ∧ Below w.heap.size w w' := by
  have HV : Hid (∀ w', Below w.heap.size w w' → Vs 2 w' a n c (eC E)) := Lib.hid fun w' hb => hv.below hb
  have hlc := hv.lc
  have hcm := hv.cm
  unfold maxLen at hcm
  have HI := Lib.hid H
  have HE := Lib.hid hE
  obtain ⟨w0, hw0⟩ : ∃ w0, w.alloc (.cells #[.bool false, .bool false, .bool false, .bool false, .bool false, .bool false, .bool false, .bool false, .bool false, .bool false] 43) = w0 := ⟨_, rfl⟩
  have HB0 : Hid (Below w.heap.size w w0) := Lib.hid (by rw [← hw0]; exact (Below.refl _ _).alloc (Nat.le_refl _) _)
  obtain ⟨G, hG⟩ : ∃ G, w.heap.size = G := ⟨_, rfl⟩
  have HS0 : Hid (SB w0 G f0) := Lib.hid (by rw [← hw0, ← hG]; exact heap_alloc_new w _)
  rw [hG] at HB0 HV ⊢
  clear hv H hE
  have dg : decide ((g : Int) < 10) = true := by simp; omega
  have dh : decide ((h : Int) < 10) = true := by simp; omega
  go_enter Try.func16, Try.ntmps16
  go_wp2_with (refine store_seen rfl (.tmp 7) (.tmp 12) rfl G rfl rfl HS0.out ?_; intro w1 hs1 ho1; have HS1 := Lib.hid hs1; have HB1 := Lib.hid (HB0.out.trans (ho1.below (Nat.le_refl _))); have hcg := hs1.cell rfl (show g < 10 by omega); have hfg := hs1.frozen g; clear hs1 ho1)
  have HR2 := Lib.hid (rnd_start E (show g < 10 by omega))
  have HS2 := Lib.hid (SB.set HS1.out g true)
  have HB2 := Lib.hid (HB1.out.setCell (p := ⟨G, g, none⟩) (Nat.le_refl _) (.bool true))
  clear hcg hfg
  go_loopw [8, 9, 10, 11] (fun v _ _ _ wr => ∃ (k : Nat) (s : List Bool), v = .int .i64 k ∧ k ≤ 10 ∧ Hid (Rnd E g k s) ∧ Hid (SB wr G s) ∧ Hid (Below G w wr)) (fun v _ _ _ _ => 10 - (intOf v).toNat)
  case atStart => exact ⟨0, _, rfl, by omega, HR2, HS2, HB2⟩
  case round =>
    obtain ⟨k, s0, rfl, hk, HR, HS, HB⟩ := hrel
    rename World => wa
    by_cases hk10 : k < 10
    · have hdk : decide ((k : Int) < 10) = true := by simp; omega
      go_wp2
      go_loopw [9, 10] (fun v _ wr => ∃ (x : Nat) (s : List Bool), v = .int .i64 x ∧ 1 ≤ x ∧ x ≤ 10 ∧ Hid (Mid E g s0 s (DX x)) ∧ Hid (SB wr G s) ∧ Hid (Below G w wr)) (fun v _ _ => 10 - (intOf v).toNat)
      case atStart => exact ⟨1, s0, rfl, by omega, by omega, Lib.hid (Mid.start HR.out.snd dx_start), HS, HB⟩
      case round =>
        obtain ⟨x, s, rfl, hx1, hx, HM, HS, HB⟩ := hrel
        rename World => wb
        by_cases hx10 : x < 10
        · have hdx : decide ((x : Int) < 10) = true := by simp; omega
          go_wp2
          go_loopw [10] (fun v wr => ∃ (y : Nat) (s : List Bool), v = .int .i64 y ∧ 1 ≤ y ∧ y ≤ 10 ∧ Hid (Mid E g s0 s (DY x y)) ∧ Hid (SB wr G s) ∧ Hid (Below G w wr)) (fun v _ => 10 - (intOf v).toNat)
          case atStart => exact ⟨1, s, rfl, by omega, by omega, Lib.hid (HM.out.imp fun _ _ => dy_start), HS, HB⟩
          case round =>
            clear HM HS HB s
            obtain ⟨y, s, rfl, hy1, hy, HM, HS, HB⟩ := hrel
            rename World => wc
            by_cases hyx : y < x
            · by_cases hx5 : x ≤ 5
              · have HN := Lib.hid ((HM.out.step (a := x) (b := y) (.inl ⟨hy1, hyx, hx5⟩) (by omega)).imp (D' := DY x (y + 1)) fun _ _ => dy_next)
                have hcy := HS.out.cell HM.out.snd.len (show y < 10 by omega)
                have hcx := HS.out.cell HM.out.snd.len (show x < 10 by omega)
                have hfy := HS.out.frozen y
                have dy : decide ((y : Int) < 10) = true := by simp; omega
                cases hsy : sb s y with
                | true =>
                  rw [hsy] at hcy HN
                  have HS3 := Lib.hid (HS.out.set y true)
                  have HB3 := Lib.hid (HB.out.setCell (p := ⟨G, y, none⟩) (Nat.le_refl _) (.bool true))
                  clear hsy hcx
                  go_wp2
                  go_roundw
                  case rel => exact ⟨y + 1, s.set y true, by go_num, by omega, by omega, HN, HS3, HB3⟩
                  case measure => simp [intOf]; omega
                | false =>
                  rw [hsy] at hcy HN
                  obtain ⟨t, ht⟩ : ∃ t, sb s x = t := ⟨_, rfl⟩
                  rw [ht] at hcx HN
                  have HS3 := Lib.hid (HS.out.set y t)
                  have HB3 := Lib.hid (HB.out.setCell (p := ⟨G, y, none⟩) (Nat.le_refl _) (.bool t))
                  clear hsy ht
                  go_wp2
                  go_roundw
                  case rel => exact ⟨y + 1, s.set y t, by go_num, by omega, by omega, HN, HS3, HB3⟩
                  case measure => simp [intOf]; omega
              · have HN := Lib.hid (HM.out.imp (D' := DX (x + 1)) fun _ _ => dy_end (by omega))
                have q1 : decide ((x : Int) ≤ 5) = false := by simp; omega
                go_wp2
                go_roundw
                case rel => exact ⟨x + 1, s, by go_num, by omega, by omega, HN, HS, HB⟩
                case measure => simp [intOf]; omega
            · have HN := Lib.hid (HM.out.imp (D' := DX (x + 1)) fun _ _ => dy_end (by omega))
              have q1 : decide ((y : Int) < x) = false := by simp; omega
              go_wp2
              go_roundw
              case rel => exact ⟨x + 1, s, by go_num, by omega, by omega, HN, HS, HB⟩
              case measure => simp [intOf]; omega
        · have q1 : decide ((x : Int) < 10) = false := by simp; omega
          have HN := Lib.hid (HM.out.imp (D' := DI E 0) fun _ _ hd => by rw [show x = 10 by omega]; exact di_start hd)
          go_wp2
          go_loopw [11] (fun v wr => ∃ (i : Nat) (s : List Bool), v = .int .i64 i ∧ i ≤ n ∧ Hid (Mid E g s0 s (DI E i)) ∧ Hid (SB wr G s) ∧ Hid (Below G w wr)) (fun v _ => 40 - (intOf v).toNat)
          case atStart => exact ⟨0, s, rfl, by omega, HN, HS, HB⟩
          case round =>
            clear HM HS HB HN s
            obtain ⟨i, s, rfl, hi, HM, HS, HB⟩ := hrel
            rename World => wc
            by_cases hin : i < n
            · obtain ⟨b, off, p, q, rfl, hpq, cp, cq⟩ := edge_cells (HV.out wc HB.out) HE.out hin
              have hpg := HI.out.edg (p, q) (List.mem_of_getElem? hpq)
              obtain ⟨p1, p2, q1, q2⟩ := hpg
              simp only at p1 p2 q1 q2
              have HN := Lib.hid ((HM.out.step (a := p) (b := q) (.inr (List.mem_of_getElem? hpq)) (by omega)).imp (D' := DI E (i + 1)) fun a b hd => by
                have hl : i < E.length := by rw [HE.out]; exact hin
                have := di_next hl hd
                rw [List.getElem?_eq_getElem hl] at hpq
                rw [Option.some.inj hpq] at this
                exact this)
              have hcq := HS.out.cell HM.out.snd.len (show q < 10 by omega)
              have hcp := HS.out.cell HM.out.snd.len (show p < 10 by omega)
              have hfq := HS.out.frozen q
              have dq : decide ((q : Int) < 10) = true := by simp; omega
              have dp : decide ((p : Int) < 10) = true := by simp; omega
              clear hpq
              cases hsq : sb s q with
              | true =>
                rw [hsq] at hcq HN
                have HS3 := Lib.hid (SB.set (SB.drew HS.out) q true)
                have HB3 := Lib.hid (HB.out.drew.setCell (p := ⟨G, q, none⟩) (Nat.le_refl _) (.bool true))
                clear hsq hcp
                go_wp2_with fail
                go_region
                go_wp2
                go_roundw
                case rel => exact ⟨i + 1, s.set q true, by go_num, by omega, HN, HS3, HB3⟩
                case measure => simp [intOf]; omega
              | false =>
                rw [hsq] at hcq HN
                obtain ⟨t, ht⟩ : ∃ t, sb s p = t := ⟨_, rfl⟩
                rw [ht] at hcp HN
                have HS3 := Lib.hid (SB.set (SB.drew HS.out) q t)
                have HB3 := Lib.hid (HB.out.drew.setCell (p := ⟨G, q, none⟩) (Nat.le_refl _) (.bool t))
                clear hsq ht
                go_wp2_with fail
                go_region
                go_wp2
                go_roundw
                case rel => exact ⟨i + 1, s.set q t, by go_num, by omega, HN, HS3, HB3⟩
                case measure => simp [intOf]; omega
            · have q1 : decide ((i : Int) < n) = false := by simp; omega
              have HN := Lib.hid (HR.out.next (HM.out.imp fun a b hd => by rw [show i = E.length by rw [HE.out]; omega]; exact di_end hd))
              go_wp2
              go_roundw
              case rel => exact ⟨k + 1, s, by go_num, by omega, HN, HS, HB⟩
              case measure => simp [intOf]; omega
    · have q1 : decide ((k : Int) < 10) = false := by simp; omega
      have hch := HS.out.cell HR.out.snd.len (show h < 10 by omega)
      have HT := Lib.hid (leads_T (h := h) HI.out (show g < 10 by omega) (by have := HR.out; rw [show k = 10 by omega] at this; exact this))
      by_cases hgh : g = h
      · have q2 : ((g : Int) != h) = false := by simp; omega
        have HF : Hid (T z g h = false) := Lib.hid (by rw [← HT.out, decide_eq_true hgh]; rfl)
        clear hgh
        go_wp2
        go_ret
        exact ⟨by rw [HF.out]; rfl, HB.out⟩
      · have q2 : ((g : Int) != h) = true := by simp; omega
        have HF : Hid (sb s0 h = T z g h) := Lib.hid (by rw [← HT.out, decide_eq_false hgh]; rfl)
        clear hgh
        go_wp2
        go_ret
        exact ⟨by rw [← HF.out]; rfl, HB.out⟩

end Go.Proofs.Ytnedappnmkbbpaa
