/- Contract of package lex's All; its own alone, of both types. -/
import Derived.Test.YtecabgmkoknbgaaDoorJr
namespace Go.Proofs.YtecabgmkoknbgaaDoor
open Go.RowKit

theorem ret_slice2 {a : Option Addr} {n n' c c' : Nat} (h1 : n = n') (h2 : c = c') : Ending.returned (.slice a n c) = .returned (.slice a n' c') := by rw [h1, h2]

theorem aloneT_any (a : Option Addr) (len cap : Nat) (w : World) (hl : len ≤ cap) :
    Calls Tryd.prog 25 #[.slice a len cap] w fun e w' => e = .returned (.slice a len len) ∧ w = w' := by
  go_enter Tryd.func25, Tryd.ntmps25
  go_wp2
  go_ret
  exact ⟨rfl, rfl⟩

theorem aloneB_any (a : Option Addr) (len cap : Nat) (w : World) (hl : len ≤ cap) :
    Calls Tryd.prog 22 #[.slice a len cap] w fun e w' => e = .returned (.slice a len len) ∧ w = w' := by
  go_enter Tryd.func22, Tryd.ntmps22
  go_wp2
  go_ret
  exact ⟨rfl, rfl⟩

/-- A token's block is left alone by an append. -/
theorem cell_grown {w w' : World} {g g0 : Nat} {sa : Option Addr} {n c base : Nat} {L : List TK} {e : TypeId} (hr : OwnT base e w sa n c L) (hg : w.heap.size ≤ g) {w1 : World} (h1 : g < w1.heap.size)
    (h : w1.grownBy w' (Value.ownBlock (.slice sa n c))) (i : Nat) (hg0 : g0 = g) : w'.cell? ⟨g0, i, none⟩ = w1.cell? ⟨g, i, none⟩ := by
  subst hg0
  refine World.cell?_of_block (h.block g0 h1 ?_)
  intro hh
  have := World.ownsRow.lt hr g0 hh.symm
  omega

set_option maxRecDepth 20000 in
set_option maxHeartbeats 1000000 in
theorem all_any (a : Option Addr) (len cap : Nat) (l : List Int) (w : World) (h : Bs w a len cap l) (ht : Tab w) (hsz : len ≤ 1000000) :
    Calls Tryd.prog 14 #[.slice a len cap] w fun e w' => ∃ a', e = .returned (.slice a' (toks l).length (toks l).length) ∧ RowT w.heap.size 34 w' a' (toks l).length (toks l).length (toks l) ∧ Below w.heap.size w w' := by
  have H := Lib.hid h
  have HT := Lib.hid ht
  have HR := Lib.hid h.rng
  have HL := Lib.hid h.hl
  clear h ht
  go_enter Tryd.func14, Tryd.ntmps14
  go_wp2
  go_loopw [3, 4] (fun v i wr => ∃ a1 c1, ∃ k n : Nat, v = .slice a1 n c1 ∧ i = .int .i64 k ∧ k ≤ len ∧ n ≤ k ∧ (∃ D, Hid (OwnT w.heap.size 34 wr a1 n c1 D) ∧ Hid (D ++ (lx l k).map tkOf = toks l)) ∧ Hid (Below w.heap.size w wr)) (fun _ i _ => len - (intOf i).toNat)
  case atStart => exact ⟨_, _, 0, 0, rfl, rfl, by omega, by omega, ⟨[], Lib.hid OwnT.none0, Lib.hid rfl⟩, Lib.hid (Below.refl _ _)⟩
  case round =>
    obtain ⟨a1, c1, k, n, rfl, rfl, hk, hn, ⟨D, HO, HD⟩, HB⟩ := hrel
    have hlc := HO.out.row.lc
    have hcm := HO.out.row.cm
    unfold maxLen at hcm
    go_wp2_with fail
    refine (next_any _ _ _ l k _ (H.out.below HB.out) (HT.out.keep HB.out) hsz hk).mono ?_
    cases hx : nx l k with
    | none =>
      rw [nxV_none]
      rintro e w1 ⟨rfl, hb1⟩
      have HO1 := Lib.hid (HO.out.keep hb1 (Nat.le_refl _))
      have HB1 : Hid (Below w.heap.size w w1) := Lib.hid (HB.out.trans (hb1.mono HB.out.size))
      have HD1 : Hid (D = toks l) := Lib.hid (by rw [← HD.out, lx_none hx, List.map_nil, List.append_nil])
      clear hb1 hx
      go_wp2_with fail
      refine (aloneT_any a1 n c1 _ hlc).mono ?_
      rintro e w' ⟨rfl, rfl⟩
      go_wp2
      go_ret
      have hl := HO1.out.row.hl
      rw [HD1.out] at hl
      have hr := HO1.out.row.cut
      rw [HD1.out] at hr
      exact ⟨a1, ret_slice2 hl.symm hl.symm, by rw [hl]; exact hr.keep ((Below.refl _ _).alloc (Nat.le_refl _) _) (Nat.le_refl _), HB1.out.alloc HB1.out.size _⟩
    | some ft =>
      obtain ⟨f, t⟩ := ft
      obtain ⟨g1, g2, g3⟩ := nx_lim (by rw [HL.out]; exact hk) HR.out hx
      rw [HL.out] at g3
      rw [nxV_some]
      rintro e w1 ⟨rfl, hb1⟩
      have HO1 := Lib.hid (HO.out.keep hb1 (Nat.le_refl _))
      have HB1 : Hid (Below w.heap.size w w1) := Lib.hid (HB.out.trans (hb1.mono HB.out.size))
      have HX := Lib.hid hx
      clear hb1 hx
      go_wp2_with (at_builtin; refine Hid.out ?_)
      refine Lib.hid ?_
      refine wpList_appT rfl (.tmp 17) (.tmp 19) rfl w.heap.size _ _ _ D rfl ((HO1.out.alloc _).alloc _) _ _ _ [tkOf (f, t)] rfl (Ts.one _ _ (tkOf (f, t)) (by simp [cellsT, tkOf]) (by simp)) (by omega) (by have := HB1.out.size; simp; omega) ?_
      intro a2 c2 w2 ho2 hg2 hb2
      have HO2 := Lib.hid ho2
      have HB2 : Hid (Below w.heap.size w w2) := Lib.hid ((((HB1.out.alloc HB1.out.size _).alloc (Nat.le_trans HB1.out.size (by simp)) _)).trans hb2)
      have q2 := (cell_grown HO1.out (Nat.le_refl _) (by simp; omega) hg2 2 rfl).trans (((tv_new w1 _ 34).keep ((Below.refl _ _).alloc (Nat.le_refl _) _)).c 2)
      simp only [List.getElem?_toArray, List.getElem?_cons_zero, List.getElem?_cons_succ] at q2
      have hlt : w1.heap.size < w2.heap.size := Nat.lt_of_lt_of_le (by simp; omega) hg2.size
      clear ho2 hg2 hb2
      go_wp2
      go_roundw
      case rel => exact ⟨_, _, f + t.n, n + 1, rfl, rfl, g3, by omega, ⟨_, HO2, Lib.hid (by rw [← HD.out, lx_some (by rw [HL.out]; exact hk) HR.out HX.out, List.map_cons, List.append_assoc]; rfl)⟩, HB2⟩
      case measure => simp [intOf]; omega

end Go.Proofs.YtecabgmkoknbgaaDoor
