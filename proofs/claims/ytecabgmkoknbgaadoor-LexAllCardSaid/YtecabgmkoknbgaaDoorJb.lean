/- The document's All. -/
import Derived.Test.YtecabgmkoknbgaaDoorJa
import Derived.Test.YtecabgmkoknbgaaDoorTg
namespace Go.Proofs.YtecabgmkoknbgaaDoor
open Go.RowKit

set_option maxRecDepth 20000 in
set_option maxHeartbeats 1000000 in
theorem rall_any (a : Option Addr) (len cap : Nat) (l : List Int) (w : World) (h : Bs w a len cap l) (hsz : len ≤ 1000000) :
    Calls Tryd.prog 16 #[.slice a len cap] w fun e w' => ∃ a' c', e = .returned (.slice a' (toks l).length c') ∧ Ts w' a' (toks l).length c' (toks l) ∧ Below w.heap.size w w' := by
  have H := Lib.hid h
  have HR := Lib.hid h.rng
  have HL := Lib.hid h.hl
  clear h
  go_enter Tryd.func16, Tryd.ntmps16
  go_wp2
  go_loopw [3, 4] (fun v i wr => ∃ a1 c1, ∃ k n : Nat, v = .slice a1 n c1 ∧ i = .int .i64 k ∧ k ≤ len ∧ n ≤ k ∧ (∃ D, Hid (OwnT w.heap.size 34 wr a1 n c1 D) ∧ Hid (D ++ (lx l k).map tkOf = toks l)) ∧ Hid (Below w.heap.size w wr)) (fun _ i _ => len - (intOf i).toNat)
  case atStart => exact ⟨_, _, 0, 0, rfl, rfl, by omega, by omega, ⟨[], Lib.hid (OwnT.emptyAt (heap_alloc_new w _) (Nat.le_refl _)), Lib.hid rfl⟩, Lib.hid ((Below.refl _ _).alloc (Nat.le_refl _) _)⟩
  case round =>
    obtain ⟨a1, c1, k, n, rfl, rfl, hk, hn, ⟨D, HO, HD⟩, HB⟩ := hrel
    have hlc := HO.out.row.lc
    have hcm := HO.out.row.cm
    unfold maxLen at hcm
    go_wp2_with fail
    refine (rnext_any _ _ _ l k _ (H.out.below HB.out) hsz hk).mono ?_
    cases hx : nx l k with
    | none =>
      rw [nxV_none]
      rintro e w1 ⟨rfl, hb1⟩
      have HO1 := Lib.hid (HO.out.keep hb1 (Nat.le_refl _))
      have HB1 : Hid (Below w.heap.size w w1) := Lib.hid (HB.out.trans (hb1.mono HB.out.size))
      have HD1 : Hid (D = toks l) := Lib.hid (by rw [← HD.out, lx_none hx, List.map_nil, List.append_nil])
      clear hb1 hx
      go_wp2
      go_ret
      have hl := HO1.out.row.hl
      rw [HD1.out] at hl
      have hr := HO1.out.ts
      rw [HD1.out] at hr
      exact ⟨a1, c1, ret_slice2 hl.symm rfl, by rw [hl]; exact hr.below ((Below.refl _ _).alloc (Nat.le_refl _) _), HB1.out.alloc HB1.out.size _⟩
    | some ft =>
      obtain ⟨f, t⟩ := ft
      obtain ⟨g1, g2, g3⟩ := nx_lim (by rw [HL.out]; exact hk) HR.out hx
      rw [HL.out] at g3
      rw [nxV_some]
      rintro e w1 ⟨rfl, hb1⟩
      have HO1 := Lib.hid (HO.out.keep hb1 (Nat.le_refl _))
      have HB1 : Hid (Below w.heap.size w w1) := Lib.hid (HB.out.trans (hb1.mono HB.out.size))
      have HX := Lib.hid hx
      clear hb1 hx
      go_wp2_with (at_builtin; refine Hid.out ?_)
      refine Lib.hid ?_
      refine wpList_appT rfl (.tmp 17) (.tmp 19) rfl w.heap.size _ _ _ D rfl ((HO1.out.alloc _).alloc _) _ _ _ [tkOf (f, t)] rfl (Ts.one _ _ (tkOf (f, t)) (by simp [cellsT, tkOf]) (by simp)) (by omega) (by have := HB1.out.size; simp; omega) ?_
      intro a2 c2 w2 ho2 hg2 hb2
      have HO2 := Lib.hid ho2
      have HB2 : Hid (Below w.heap.size w w2) := Lib.hid ((((HB1.out.alloc HB1.out.size _).alloc (Nat.le_trans HB1.out.size (by simp)) _)).trans hb2)
      have q2 := (cell_grown HO1.out (Nat.le_refl _) (by simp; omega) hg2 2 rfl).trans (((tv_new w1 _ 34).keep ((Below.refl _ _).alloc (Nat.le_refl _) _)).c 2)
      simp only [List.getElem?_toArray, List.getElem?_cons_zero, List.getElem?_cons_succ] at q2
      have hlt : w1.heap.size < w2.heap.size := Nat.lt_of_lt_of_le (by simp; omega) hg2.size
      clear ho2 hg2 hb2
      go_wp2
      go_roundw
      case rel => exact ⟨_, _, f + t.n, n + 1, rfl, rfl, g3, by omega, ⟨_, HO2, Lib.hid (by rw [← HD.out, lx_some (by rw [HL.out]; exact hk) HR.out HX.out, List.map_cons, List.append_assoc]; rfl)⟩, HB2⟩
      case measure => simp [intOf]; omega

end Go.Proofs.YtecabgmkoknbgaaDoor
