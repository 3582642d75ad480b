/- Texts laid one behind the other. -/
import Derived.Test.YtimhcghjlknibaaDoorMA
import Derived.Test.YtimhcghjlknibaaDoorM8
import Derived.Deep.QuietTactic
import Derived.BigQuiet

/- Contract of package lex's All; its own alone, of tokens. -/
namespace Go.Proofs.YtimhcghjlknibaaDoor
open Go.RowKit

theorem ret_slice2 {a : Option Addr} {n n' c c' : Nat} (h1 : n = n') (h2 : c = c') : Ending.returned (.slice a n c) = .returned (.slice a n' c') := by rw [h1, h2]

set_option maxRecDepth 20000 in
theorem aloneT_any (a : Option Addr) (len cap : Nat) (w : World) (hl : len ≤ cap) :
    Calls Tryd.prog 31 #[.slice a len cap] w fun e w' => e = .returned (.slice a len len) ∧ w = w' := by
  go_enter Tryd.func31, Tryd.ntmps31
  go_wp2
  go_ret
  exact ⟨rfl, rfl⟩

/-- A token's block is left alone by an append. -/
theorem cell_grown {w w' : World} {g g0 : Nat} {sa : Option Addr} {n c base : Nat} {L : List TK} {e : TypeId} (hr : OwnT base e w sa n c L) (hg : w.heap.size ≤ g) {w1 : World} (h1 : g < w1.heap.size)
    (h : w1.grownBy w' (Value.ownBlock (.slice sa n c))) (i : Nat) (hg0 : g0 = g) : w'.cell? ⟨g0, i, none⟩ = w1.cell? ⟨g, i, none⟩ := by
  subst hg0
  refine World.cell?_of_block (h.block g0 h1 ?_)
  intro hh
  have := World.ownsRow.lt hr g0 hh.symm
  omega

set_option maxRecDepth 20000 in
set_option maxHeartbeats 1000000 in
theorem all_any (a : Option Addr) (len cap : Nat) (l : List Int) (w : World) (h : Bs w a len cap l) (ht : Tab w) (hsz : len ≤ 1000000) :
    Calls Tryd.prog 19 #[.slice a len cap] w fun e w' => ∃ a', e = .returned (.slice a' (toks l).length (toks l).length) ∧ RowT w.heap.size 38 w' a' (toks l).length (toks l).length (toks l) ∧ Below w.heap.size w w' := by
  have H := Lib.hid h
  have HT := Lib.hid ht
  have HR := Lib.hid h.rng
  have HL := Lib.hid h.hl
  clear h ht
  go_enter Tryd.func19, Tryd.ntmps19
  go_wp2
  go_loopw [3, 4] (fun v i wr => ∃ a1 c1, ∃ k n : Nat, v = .slice a1 n c1 ∧ i = .int .i64 k ∧ k ≤ len ∧ n ≤ k ∧ (∃ D, Hid (OwnT w.heap.size 38 wr a1 n c1 D) ∧ Hid (D ++ (lx l k).map tkOf = toks l)) ∧ Hid (Below w.heap.size w wr)) (fun _ i _ => len - (intOf i).toNat)
  case atStart => exact ⟨_, _, 0, 0, rfl, rfl, by omega, by omega, ⟨[], Lib.hid OwnT.none0, Lib.hid rfl⟩, Lib.hid (Below.refl _ _)⟩
  case round =>
    obtain ⟨a1, c1, k, n, rfl, rfl, hk, hn, ⟨D, HO, HD⟩, HB⟩ := hrel
    have hlc := HO.out.row.lc
    have hcm := HO.out.row.cm
    unfold maxLen at hcm
    go_wp2_with fail
    refine (next_any _ _ _ l k _ (H.out.below HB.out) (HT.out.keep HB.out) hsz hk).mono ?_
    cases hx : nx l k with
    | none =>
      rw [nxV_none]
      rintro e w1 ⟨rfl, hb1⟩
      have HO1 := Lib.hid (HO.out.keep hb1 (Nat.le_refl _))
      have HB1 : Hid (Below w.heap.size w w1) := Lib.hid (HB.out.trans (hb1.mono HB.out.size))
      have HD1 : Hid (D = toks l) := Lib.hid (by rw [← HD.out, lx_none hx, List.map_nil, List.append_nil])
      clear hb1 hx
      go_wp2_with fail
      refine (aloneT_any a1 n c1 _ hlc).mono ?_
      rintro e w' ⟨rfl, rfl⟩
      go_wp2
      go_ret
      have hl := HO1.out.row.hl
      rw [HD1.out] at hl
      have hr := HO1.out.row.cut
      rw [HD1.out] at hr
      exact ⟨a1, ret_slice2 hl.symm hl.symm, by rw [hl]; exact hr.keep ((Below.refl _ _).alloc (Nat.le_refl _) _) (Nat.le_refl _), HB1.out.alloc HB1.out.size _⟩
    | some ft =>
      obtain ⟨f, t⟩ := ft
      obtain ⟨g1, g2, g3⟩ := nx_lim (by rw [HL.out]; exact hk) HR.out hx
      rw [HL.out] at g3
      rw [nxV_some]
      rintro e w1 ⟨rfl, hb1⟩
      have HO1 := Lib.hid (HO.out.keep hb1 (Nat.le_refl _))
      have HB1 : Hid (Below w.heap.size w w1) := Lib.hid (HB.out.trans (hb1.mono HB.out.size))
      have HX := Lib.hid hx
      clear hb1 hx
      go_wp2_with (at_builtin; refine Hid.out ?_)
      refine Lib.hid ?_
      refine wpList_appT rfl (.tmp 17) (.tmp 19) rfl w.heap.size _ _ _ D rfl ((HO1.out.alloc _).alloc _) _ _ _ [tkOf (f, t)] rfl (Ts.one _ _ (tkOf (f, t)) (by simp [cellsT, tkOf]) (by simp)) (by omega) (by have := HB1.out.size; simp; omega) ?_
      intro a2 c2 w2 ho2 hg2 hb2
      have HO2 := Lib.hid ho2
      have HB2 : Hid (Below w.heap.size w w2) := Lib.hid ((((HB1.out.alloc HB1.out.size _).alloc (Nat.le_trans HB1.out.size (by simp)) _)).trans hb2)
      have q2 := (cell_grown HO1.out (Nat.le_refl _) (by simp; omega) hg2 2 rfl).trans (((tv_new w1 _ 38).keep ((Below.refl _ _).alloc (Nat.le_refl _) _)).c 2)
      simp only [List.getElem?_toArray, List.getElem?_cons_zero, List.getElem?_cons_succ] at q2
      have hlt : w1.heap.size < w2.heap.size := Nat.lt_of_lt_of_le (by simp; omega) hg2.size
      clear ho2 hg2 hb2
      go_wp2
      go_roundw
      case rel => exact ⟨_, _, f + t.n, n + 1, rfl, rfl, g3, by omega, ⟨_, HO2, Lib.hid (by rw [← HD.out, lx_some (by rw [HL.out]; exact hk) HR.out HX.out, List.map_cons, List.append_assoc]; rfl)⟩, HB2⟩
      case measure => simp [intOf]; omega

end Go.Proofs.YtimhcghjlknibaaDoor

/- The document's All. -/
namespace Go.Proofs.YtimhcghjlknibaaDoor
open Go.RowKit

set_option maxRecDepth 20000 in
set_option maxHeartbeats 1000000 in
theorem rall_own (a : Option Addr) (len cap : Nat) (l : List Int) (w : World) (h : Bs w a len cap l) (hsz : len ≤ 1000000) :
    Calls Tryd.prog 28 #[.slice a len cap] w fun e w' => ∃ a' c', e = .returned (.slice a' (toks l).length c') ∧ RowT w.heap.size 38 w' a' (toks l).length c' (toks l) ∧ Below w.heap.size w w' := by
  have H := Lib.hid h
  have HR := Lib.hid h.rng
  have HL := Lib.hid h.hl
  clear h
  go_enter Tryd.func28, Tryd.ntmps28
  go_wp2
  go_loopw [3, 4] (fun v i wr => ∃ a1 c1, ∃ k n : Nat, v = .slice a1 n c1 ∧ i = .int .i64 k ∧ k ≤ len ∧ n ≤ k ∧ (∃ D, Hid (OwnT w.heap.size 38 wr a1 n c1 D) ∧ Hid (D ++ (lx l k).map tkOf = toks l)) ∧ Hid (Below w.heap.size w wr)) (fun _ i _ => len - (intOf i).toNat)
  case atStart => exact ⟨_, _, 0, 0, rfl, rfl, by omega, by omega, ⟨[], Lib.hid (OwnT.emptyAt (heap_alloc_new w _) (Nat.le_refl _)), Lib.hid rfl⟩, Lib.hid ((Below.refl _ _).alloc (Nat.le_refl _) _)⟩
  case round =>
    obtain ⟨a1, c1, k, n, rfl, rfl, hk, hn, ⟨D, HO, HD⟩, HB⟩ := hrel
    have hlc := HO.out.row.lc
    have hcm := HO.out.row.cm
    unfold maxLen at hcm
    go_wp2_with fail
    refine (rnext_any _ _ _ l k _ (H.out.below HB.out) hsz hk).mono ?_
    cases hx : nx l k with
    | none =>
      rw [nxV_none]
      rintro e w1 ⟨rfl, hb1⟩
      have HO1 := Lib.hid (HO.out.keep hb1 (Nat.le_refl _))
      have HB1 : Hid (Below w.heap.size w w1) := Lib.hid (HB.out.trans (hb1.mono HB.out.size))
      have HD1 : Hid (D = toks l) := Lib.hid (by rw [← HD.out, lx_none hx, List.map_nil, List.append_nil])
      clear hb1 hx
      go_wp2
      go_ret
      have hl := HO1.out.row.hl
      rw [HD1.out] at hl
      have hr := HO1.out.row
      rw [HD1.out] at hr
      exact ⟨a1, c1, ret_slice2 hl.symm rfl, by rw [hl]; exact hr.keep ((Below.refl _ _).alloc (Nat.le_refl _) _) (Nat.le_refl _), HB1.out.alloc HB1.out.size _⟩
    | some ft =>
      obtain ⟨f, t⟩ := ft
      obtain ⟨g1, g2, g3⟩ := nx_lim (by rw [HL.out]; exact hk) HR.out hx
      rw [HL.out] at g3
      rw [nxV_some]
      rintro e w1 ⟨rfl, hb1⟩
      have HO1 := Lib.hid (HO.out.keep hb1 (Nat.le_refl _))
      have HB1 : Hid (Below w.heap.size w w1) := Lib.hid (HB.out.trans (hb1.mono HB.out.size))
      have HX := Lib.hid hx
      clear hb1 hx
      go_wp2_with (at_builtin; refine Hid.out ?_)
      refine Lib.hid ?_
      refine wpList_appT rfl (.tmp 17) (.tmp 19) rfl w.heap.size _ _ _ D rfl ((HO1.out.alloc _).alloc _) _ _ _ [tkOf (f, t)] rfl (Ts.one _ _ (tkOf (f, t)) (by simp [cellsT, tkOf]) (by simp)) (by omega) (by have := HB1.out.size; simp; omega) ?_
      intro a2 c2 w2 ho2 hg2 hb2
      have HO2 := Lib.hid ho2
      have HB2 : Hid (Below w.heap.size w w2) := Lib.hid ((((HB1.out.alloc HB1.out.size _).alloc (Nat.le_trans HB1.out.size (by simp)) _)).trans hb2)
      have q2 := (cell_grown HO1.out (Nat.le_refl _) (by simp; omega) hg2 2 rfl).trans (((tv_new w1 _ 38).keep ((Below.refl _ _).alloc (Nat.le_refl _) _)).c 2)
      simp only [List.getElem?_toArray, List.getElem?_cons_zero, List.getElem?_cons_succ] at q2
      have hlt : w1.heap.size < w2.heap.size := Nat.lt_of_lt_of_le (by simp; omega) hg2.size
      clear ho2 hg2 hb2
      go_wp2
      go_roundw
      case rel => exact ⟨_, _, f + t.n, n + 1, rfl, rfl, g3, by omega, ⟨_, HO2, Lib.hid (by rw [← HD.out, lx_some (by rw [HL.out]; exact hk) HR.out HX.out, List.map_cons, List.append_assoc]; rfl)⟩, HB2⟩
      case measure => simp [intOf]; omega

theorem rall_any (a : Option Addr) (len cap : Nat) (l : List Int) (w : World) (h : Bs w a len cap l) (hsz : len ≤ 1000000) :
    Calls Tryd.prog 28 #[.slice a len cap] w fun e w' => ∃ a' c', e = .returned (.slice a' (toks l).length c') ∧ Ts w' a' (toks l).length c' (toks l) ∧ Below w.heap.size w w' :=
  (rall_own a len cap l w h hsz).mono fun _ _ ⟨a', c', h1, h2, h3⟩ => ⟨a', c', h1, h2.ts, h3⟩

end Go.Proofs.YtimhcghjlknibaaDoor

/- The document's Same. -/
namespace Go.Proofs.YtimhcghjlknibaaDoor
open Go.RowKit

set_option maxRecDepth 20000 in
/-- Of a row and one like it. -/
theorem same_any (a : Option Addr) (len cap : Nat) (L : List TK) (a' : Option Addr) (cap' : Nat) (w : World) (h : Ts w a len cap L) (h' : Ts w a' len cap' L) :
    Calls Tryd.prog 18 #[.slice a len cap, .slice a' len cap'] w fun e w' => e = .returned (.bool true) ∧ Below w.heap.size w w' := by
  have hcm := h.cm
  have hlc := h.lc
  unfold maxLen at hcm
  have H := Lib.hid h
  have H' := Lib.hid h'
  clear h h'
  go_enter Tryd.func18, Tryd.ntmps18
  go_wp2
  go_loopw [5] (fun i wr => ∃ k : Nat, i = .int .i64 k ∧ k ≤ len ∧ Hid (Below w.heap.size w wr)) (fun i _ => len - (intOf i).toNat)
  case atStart => exact ⟨0, rfl, by omega, Lib.hid (Below.refl _ _)⟩
  case round =>
    obtain ⟨k, rfl, hk, HB⟩ := hrel
    by_cases hlt : k < len
    · have hb := H.out.below HB.out
      have hb' := H'.out.below HB.out
      obtain ⟨b, off, rfl, _, _⟩ := hb.at_ (by omega)
      obtain ⟨b', off', rfl, _, _⟩ := hb'.at_ (by omega)
      obtain ⟨c0, c1, c2, c3, c4⟩ := hb.at5 hlt
      obtain ⟨d0, d1, d2, d3, d4⟩ := hb'.at5 hlt
      obtain ⟨T, hT⟩ : ∃ T, T = tat L k := ⟨_, rfl⟩
      rw [← hT] at c0 c1 c2 c3 c4 d0 d1 d2 d3 d4
      clear hb hb' hT
      obtain ⟨K, F, T', S, E⟩ := T
      simp only at c0 c1 c2 c3 c4 d0 d1 d2 d3 d4
      have e1 := eq_tok K F T' E K F T' E S S
      simp only [beq_self_eq_true, Bool.and_self] at e1
      go_wp2_with fail
      go_quiet (fail)
      go_wp2
      go_roundw
      case rel => exact ⟨k + 1, by go_num, by omega, Lib.hid (below_drewN HB.out _)⟩
      case measure => simp [intOf]; omega
    · have hkl : k = len := by omega
      go_wp2
      go_ret
      exact ⟨rfl, HB.out⟩

end Go.Proofs.YtimhcghjlknibaaDoor

/- Stores into a row of tokens; tokens moved. No walk here. -/
namespace Go.Proofs.YtimhcghjlknibaaDoor
open Go.RowKit

theorem rowT_set : ∀ (L : List TK) (j i : Nat) (t' : TK) (v : Value), i < 5 → j < L.length → cellsT t' = (cellsT (tat L j)).set i v → rowT (L.set j t') = (rowT L).set (j * 5 + i) v
  | [], j, i, t', v, _, h, _ => by simp at h
  | t :: L, 0, i, t', v, hi, _, hc => by
    rw [List.set_cons_zero, rowT, rowT, Nat.zero_mul, Nat.zero_add, hc, List.set_append_left _ _ (by simpa [cellsT] using hi)]; rfl
  | t :: L, j + 1, i, t', v, hi, h, hc => by
    rw [List.set_cons_succ, rowT, rowT, rowT_set L j i t' v hi (by simpa using h) hc, List.set_append_right _ _ (by simp [cellsT]; omega),
      show (j + 1) * 5 + i - (cellsT t).length = j * 5 + i by simp [cellsT]; omega]

theorem RowT.form {base : Nat} {e : TypeId} {w : World} {a : Option Addr} {len cap : Nat} {L : List TK} (h : RowT base e w a len cap L) (h0 : 0 < len) : ∃ g, a = some ⟨g, 0, none⟩ ∧ base ≤ g ∧ g < w.heap.size := by
  obtain ⟨g, cur, ha, hb, hg, _⟩ := h.own h0
  exact ⟨g, ha, hb, (Array.getElem?_eq_some_iff.1 hg).1⟩

theorem RowT.frozen {base : Nat} {e : TypeId} {w : World} {g len cap : Nat} {L : List TK} (h : RowT base e w (some ⟨g, 0, none⟩) len cap L) (h0 : 0 < len) (j : Nat) : w.frozen? ⟨g, j, none⟩ = false := by
  obtain ⟨g', cur, ha, hb, hg, _⟩ := h.own h0
  simp only [Option.some.injEq, Addr.mk.injEq, and_true] at ha
  subst ha
  exact frozen_of_row w g j cur e hg

theorem RowT.set {base : Nat} {e : TypeId} {w : World} {g len cap : Nat} {L : List TK} (h : RowT base e w (some ⟨g, 0, none⟩) len cap L) (j i : Nat) (hj : j < len) (hi : i < 5) (t' : TK) (v : Value) (hc : cellsT t' = (cellsT (tat L j)).set i v) :
    RowT base e (w.setCell ⟨g, j * 5 + i, none⟩ v) (some ⟨g, 0, none⟩) len cap (L.set j t') := by
  refine ⟨by rw [List.length_set]; exact h.hl, h.lc, h.cm, fun h0 => ?_⟩
  obtain ⟨g', cur, ha, hb, hg, ht⟩ := h.own h0
  simp only [Option.some.injEq, Addr.mk.injEq, and_true] at ha
  subst ha
  refine ⟨g, cur.setIfInBounds (j * 5 + i) v, rfl, hb, heap_setCell_same w g _ cur e v hg, ?_⟩
  rw [Array.toList_setIfInBounds, List.take_set, ht, rowT_set L j i t' v hi (by rw [h.hl]; exact hj) hc]

theorem RowT.at5 {base : Nat} {e : TypeId} {w : World} {g len cap : Nat} {L : List TK} (h : RowT base e w (some ⟨g, 0, none⟩) len cap L) {k : Nat} (hk : k < len) :
    w.cell? ⟨g, k * 5, none⟩ = some (.int .i64 (tat L k).k) ∧ w.cell? ⟨g, k * 5 + 1, none⟩ = some (.int .i64 (tat L k).f) ∧ w.cell? ⟨g, k * 5 + 2, none⟩ = some (.int .i64 (tat L k).t) ∧
    w.cell? ⟨g, k * 5 + 3, none⟩ = some (.string (tat L k).s) ∧ w.cell? ⟨g, k * 5 + 4, none⟩ = some (.int .i64 (tat L k).e) := by
  have := h.ts.at5 hk
  rw [Nat.zero_add] at this
  exact this

theorem RowT.setOther {base : Nat} {e : TypeId} {w : World} {a : Option Addr} {len cap : Nat} {L : List TK} (h : RowT base e w a len cap L) {g : Nat} (hg : g < base) (i : Nat) (v : Value) :
    RowT base e (w.setCell ⟨g, i, none⟩ v) a len cap L :=
  ⟨h.hl, h.lc, h.cm, fun h0 => by
    obtain ⟨g', cur, ha, hb, hg', ht⟩ := h.own h0
    exact ⟨g', cur, ha, hb, (heap_setCell_other w ⟨g, i, none⟩ g' v (show g' ≠ g by omega)).trans hg', ht⟩⟩
theorem tat_set {L : List TK} {j : Nat} (h : j < L.length) (t : TK) : tat (L.set j t) j = t := by
  unfold tat; simp [List.getD, h]
/-- The two places of a token, written one behind the other. -/
theorem RowT.set2 {base : Nat} {e : TypeId} {w : World} {g len cap : Nat} {L : List TK} (h : RowT base e w (some ⟨g, 0, none⟩) len cap L) (j : Nat) (hj : j < len) (f p : Int) :
    RowT base e ((w.setCell ⟨g, j * 5 + 1, none⟩ (.int .i64 f)).setCell ⟨g, j * 5 + 2, none⟩ (.int .i64 p)) (some ⟨g, 0, none⟩) len cap (L.set j ⟨(tat L j).k, f, p, (tat L j).s, (tat L j).e⟩) := by
  have hl := h.hl
  have h1 := h.set j 1 hj (by decide) ⟨(tat L j).k, f, (tat L j).t, (tat L j).s, (tat L j).e⟩ (.int .i64 f) rfl
  have h2 := h1.set j 2 hj (by decide) ⟨(tat L j).k, f, p, (tat L j).s, (tat L j).e⟩ (.int .i64 p) (by rw [tat_set (by omega)]; rfl)
  rwa [List.set_set] at h2

/-- A token, so many places further. -/
def shTK (d : Int) (t : TK) : TK := ⟨t.k, t.f + d, t.t + d, t.s, t.e⟩

theorem tkOf_shf (n : Nat) (p : Nat × TR) : tkOf (shf n p) = shTK n (tkOf p) := by
  unfold tkOf shf shTK
  simp only [TK.mk.injEq, true_and, and_true]
  exact ⟨by omega, by omega⟩
theorem map_shf (n : Nat) (L : List (Nat × TR)) : (L.map (shf n)).map tkOf = (L.map tkOf).map (shTK n) := by
  rw [List.map_map, List.map_map]
  exact List.map_congr_left fun p _ => tkOf_shf n p

/-- The first i of A, and the others of B. -/
def mixT (A B : List TK) (i : Nat) : List TK := A.take i ++ B.drop i
theorem mixT_zero (A B : List TK) : mixT A B 0 = B := by simp [mixT]
theorem mixT_all {A B : List TK} {i : Nat} (h : A.length = i) (hb : B.length = i) : mixT A B i = A := by
  unfold mixT
  rw [List.take_of_length_le (by omega), List.drop_eq_nil_iff.2 (by omega), List.append_nil]
theorem mixT_at {A B : List TK} {i : Nat} (h : i < B.length) (hab : A.length = B.length) : tat (mixT A B i) i = tat B i := by
  unfold mixT tat
  rw [List.getD_eq_getElem?_getD, List.getD_eq_getElem?_getD, List.getElem?_append_right (by rw [List.length_take]; omega), List.length_take, List.getElem?_drop]
  congr 2; omega
theorem mixT_step {A B : List TK} {i : Nat} (h : i < B.length) (hab : A.length = B.length) : (mixT A B i).set i (tat A i) = mixT A B (i + 1) := by
  unfold mixT
  rw [List.set_append_right _ _ (by rw [List.length_take]; omega), List.length_take, show i - min i A.length = 0 by omega, tat_drop h, List.set_cons_zero,
    tat_take (L := A) (by omega), List.append_assoc]
  rfl

theorem tat_map {L : List TK} {f : TK → TK} {j : Nat} (h : j < L.length) : tat (L.map f) j = f (tat L j) := by
  unfold tat; simp [List.getD, h]

/-- Where a token stands, as a plain number. -/
theorem toks_at {l : List Int} (hr : ∀ x ∈ l, 0 ≤ x ∧ x ≤ 255) {j : Nat} (h : j < (toks l).length) : ∃ f q : Nat, (tat (toks l) j).f = (f : Int) ∧ (tat (toks l) j).t = (q : Int) ∧ f ≤ l.length ∧ q ≤ l.length := by
  obtain ⟨p, hp, he⟩ := List.mem_map.1 (show tat (toks l) j ∈ (lx l 0).map tkOf from tat_mem h)
  have := ((lx_all hr 0 (Nat.zero_le _)).1 p hp).lim
  exact ⟨p.1, p.1 + p.2.n, by rw [← he]; rfl, by rw [← he]; rfl, by omega, by omega⟩

/-- Layout ahead matters to nothing but the places. -/
theorem lx_lead (X Y : List Int) (hr : ∀ x ∈ X ++ Y, 0 ≤ x ∧ x ≤ 255) (hl : ∀ x ∈ X, cls x = 1) : ∀ k, k ≤ X.length → lx (X ++ Y) k = (lx Y 0).map (shf X.length) := by
  refine by_end fun k hk ih => ?_
  by_cases h : k = X.length
  · subst h
    have := lx_app X Y hr 0 (Nat.zero_le _)
    rwa [Nat.add_zero] at this
  · rw [lx_same (j := k + 1) (by rw [List.length_append]; omega) (by rw [List.length_append]; omega) hr (nx_lay (by rw [List.length_append]; omega) (by
      rw [bt_append_left _ _ _ (by omega)]
      exact hl _ (bt_mem (by omega))))]
    exact ih (k + 1) (by omega) (by omega)
theorem toks_blank (k : Nat) {Y : List Int} (hy : ∀ x ∈ Y, 0 ≤ x ∧ x ≤ 255) : toks (List.replicate k 32 ++ Y) = (toks Y).map (shTK k) := by
  have hX : ∀ x ∈ List.replicate k (32 : Int), 0 ≤ x ∧ x ≤ 255 := fun x hx => by rw [List.eq_of_mem_replicate hx]; decide
  have := lx_lead (List.replicate k 32) Y (rng_app hX hy) (fun x hx => by rw [List.eq_of_mem_replicate hx]; decide) 0 (Nat.zero_le _)
  rw [List.length_replicate] at this
  unfold toks
  rw [this, map_shf]
theorem toks_blanks (k : Nat) : toks (List.replicate k 32) = [] := by
  have := toks_blank k (Y := []) (by simp)
  rwa [List.append_nil] at this
/-- What stands behind a blank is lexed for itself. -/
theorem toks_parts (u Y : List Int) (hu : ∀ c ∈ u, (0 ≤ c ∧ c ≤ 255) ∧ c ≠ 39 ∧ c ≠ 37 ∧ c ≠ 47) (hy : ∀ x ∈ Y, 0 ≤ x ∧ x ≤ 255) :
    toks (u ++ [32] ++ Y) = toks (u ++ [32]) ++ (toks Y).map (shTK ((u ++ [32]).length : Nat)) := by
  unfold toks
  rw [lx_parts u Y hu hy 0 (Nat.zero_le _), List.map_append, map_shf]

end Go.Proofs.YtimhcghjlknibaaDoor

/- The document's Alike. -/
namespace Go.Proofs.YtimhcghjlknibaaDoor
open Go.RowKit

set_option maxRecDepth 20000 in
set_option maxHeartbeats 2000000 in
theorem alike_any (a : Option Addr) (len cap : Nat) (A : List TK) (a' : Option Addr) (len' cap' : Nat) (L : List TK) (w : World) (h : Ts w a len cap A) (h' : Ts w a' len' cap' L) :
    Calls Tryd.prog 21 #[.slice a len cap, .slice a' len' cap'] w fun e w' => e = .returned (.bool (alike A L)) ∧ Below w.heap.size w w' := by
  have hcm := h.cm
  have hlc := h.lc
  have hcm' := h'.cm
  have hlc' := h'.lc
  unfold maxLen at hcm hcm'
  have H := Lib.hid h
  have H' := Lib.hid h'
  have HA := Lib.hid h.hl
  have HL := Lib.hid h'.hl
  clear h h'
  by_cases hne : len = len'
  · subst hne
    go_enter Tryd.func21, Tryd.ntmps21
    go_wp2
    go_loopw [5] (fun i wr => ∃ k : Nat, i = .int .i64 k ∧ k ≤ len ∧ Hid (alike (A.drop k) (L.drop k) = alike A L) ∧ Hid (Below w.heap.size w wr)) (fun i _ => len - (intOf i).toNat)
    case atStart => exact ⟨0, rfl, by omega, Lib.hid rfl, Lib.hid (Below.refl _ _)⟩
    case round =>
      obtain ⟨k, rfl, hk, HM, HB⟩ := hrel
      by_cases hlt : k < len
      · have hb := H.out.below HB.out
        have hb' := H'.out.below HB.out
        obtain ⟨b, off, rfl, _, _⟩ := hb.at_ (by omega)
        obtain ⟨b', off', rfl, _, _⟩ := hb'.at_ (by omega)
        obtain ⟨c0, c1, c2, c3, c4⟩ := hb.at5 hlt
        obtain ⟨d0, d1, d2, d3, d4⟩ := hb'.at5 hlt
        have HS := Lib.hid (alike_at (A := A) (B := L) (k := k) (by rw [HA.out]; exact hlt) (by rw [HL.out]; exact hlt))
        obtain ⟨T, hT⟩ : ∃ T, T = tat A k := ⟨_, rfl⟩
        obtain ⟨U, hU⟩ : ∃ U, U = tat L k := ⟨_, rfl⟩
        rw [← hT] at c0 c1 c2 c3 c4
        rw [← hU] at d0 d1 d2 d3 d4
        have HS' : Hid (alike A L = (sameT T U && alike (A.drop (k + 1)) (L.drop (k + 1)))) := Lib.hid (by rw [hT, hU, ← HS.out, HM.out])
        clear hb hb' hT hU
        obtain ⟨K, F, T', S, E⟩ := T
        obtain ⟨K', F', T'', S', E'⟩ := U
        simp only at c0 c1 c2 c3 c4 d0 d1 d2 d3 d4
        have hno : sameT ⟨K, F, T', S, E⟩ ⟨K', F', T'', S', E'⟩ = false → Hid (alike A L = false) := fun hq => Lib.hid (by rw [HS'.out, hq, Bool.false_and])
        unfold sameT at hno
        simp only at hno
        cases h1 : K != K' with
        | true =>
          have HF := hno (by rw [show (K == K') = false by simpa using h1, Bool.false_and])
          clear hno
          go_wp2_with fail
          go_quiet (fail)
          go_wp2
          go_ret
          exact ⟨by rw [HF.out]; rfl, below_drewN HB.out _⟩
        | false =>
          have k1 : K = K' := by simpa using h1
          cases h2 : S.toList == S'.toList with
          | false =>
            have HF := hno (by rw [h2, Bool.false_and, Bool.and_false])
            clear hno k1
            go_wp2_with fail
            go_quiet (fail)
            go_wp2
            go_ret
            exact ⟨by rw [HF.out]; rfl, below_drewN HB.out _⟩
          | true =>
            cases h3 : K == 8 with
            | true =>
              have HF := hno (by rw [show (K != 8) = false by simpa using h3, Bool.and_false, Bool.and_false])
              clear hno k1
              go_wp2_with fail
              go_quiet (fail)
              go_wp2
              go_ret
              exact ⟨by rw [HF.out]; rfl, below_drewN HB.out _⟩
            | false =>
              have HF : Hid (alike (A.drop (k + 1)) (L.drop (k + 1)) = alike A L) := Lib.hid (by
                rw [HS'.out]; unfold sameT; simp only
                rw [show (K != 8) = true by simpa using h3, show (K == K') = true by simpa using h1, h2]; rfl)
              clear hno k1
              go_wp2_with fail
              go_quiet (fail)
              go_wp2
              go_roundw
              case rel => exact ⟨k + 1, by go_num, by omega, HF, Lib.hid (below_drewN HB.out _)⟩
              case measure => simp [intOf]; omega
      · have hkl : k = len := by omega
        have HF : Hid (alike A L = true) := Lib.hid (by
          rw [← HM.out, List.drop_eq_nil_iff.2 (by rw [HA.out]; omega), List.drop_eq_nil_iff.2 (by rw [HL.out]; omega)]; rfl)
        go_wp2
        go_ret
        exact ⟨by rw [HF.out]; rfl, HB.out⟩
  · have HF : Hid (alike A L = false) := Lib.hid (alike_len A L (by rw [HA.out, HL.out]; exact hne))
    go_enter Tryd.func21, Tryd.ntmps21
    go_wp2
    go_ret
    exact ⟨by rw [HF.out]; rfl, Below.refl _ _⟩

end Go.Proofs.YtimhcghjlknibaaDoor
