/- Stores into a row of tokens; tokens moved. No walk here. -/
import Derived.Test.YtecabgmkoknbgaaDoorJr
namespace Go.Proofs.YtecabgmkoknbgaaDoor
open Go.RowKit

theorem rowT_set : ∀ (L : List TK) (j i : Nat) (t' : TK) (v : Value), i < 5 → j < L.length → cellsT t' = (cellsT (tat L j)).set i v → rowT (L.set j t') = (rowT L).set (j * 5 + i) v
  | [], j, i, t', v, _, h, _ => by simp at h
  | t :: L, 0, i, t', v, hi, _, hc => by
    rw [List.set_cons_zero, rowT, rowT, Nat.zero_mul, Nat.zero_add, hc, List.set_append_left _ _ (by simpa [cellsT] using hi)]; rfl
  | t :: L, j + 1, i, t', v, hi, h, hc => by
    rw [List.set_cons_succ, rowT, rowT, rowT_set L j i t' v hi (by simpa using h) hc, List.set_append_right _ _ (by simp [cellsT]; omega),
      show (j + 1) * 5 + i - (cellsT t).length = j * 5 + i by simp [cellsT]; omega]

theorem RowT.form {base : Nat} {e : TypeId} {w : World} {a : Option Addr} {len cap : Nat} {L : List TK} (h : RowT base e w a len cap L) (h0 : 0 < len) : ∃ g, a = some ⟨g, 0, none⟩ ∧ base ≤ g ∧ g < w.heap.size := by
  obtain ⟨g, cur, ha, hb, hg, _⟩ := h.own h0
  exact ⟨g, ha, hb, (Array.getElem?_eq_some_iff.1 hg).1⟩

theorem RowT.frozen {base : Nat} {e : TypeId} {w : World} {g len cap : Nat} {L : List TK} (h : RowT base e w (some ⟨g, 0, none⟩) len cap L) (h0 : 0 < len) (j : Nat) : w.frozen? ⟨g, j, none⟩ = false := by
  obtain ⟨g', cur, ha, hb, hg, _⟩ := h.own h0
  simp only [Option.some.injEq, Addr.mk.injEq, and_true] at ha
  subst ha
  exact frozen_of_row w g j cur e hg

theorem RowT.set {base : Nat} {e : TypeId} {w : World} {g len cap : Nat} {L : List TK} (h : RowT base e w (some ⟨g, 0, none⟩) len cap L) (j i : Nat) (hj : j < len) (hi : i < 5) (t' : TK) (v : Value) (hc : cellsT t' = (cellsT (tat L j)).set i v) :
    RowT base e (w.setCell ⟨g, j * 5 + i, none⟩ v) (some ⟨g, 0, none⟩) len cap (L.set j t') := by
  refine ⟨by rw [List.length_set]; exact h.hl, h.lc, h.cm, fun h0 => ?_⟩
  obtain ⟨g', cur, ha, hb, hg, ht⟩ := h.own h0
  simp only [Option.some.injEq, Addr.mk.injEq, and_true] at ha
  subst ha
  refine ⟨g, cur.setIfInBounds (j * 5 + i) v, rfl, hb, heap_setCell_same w g _ cur e v hg, ?_⟩
  rw [Array.toList_setIfInBounds, List.take_set, ht, rowT_set L j i t' v hi (by rw [h.hl]; exact hj) hc]

theorem RowT.at5 {base : Nat} {e : TypeId} {w : World} {g len cap : Nat} {L : List TK} (h : RowT base e w (some ⟨g, 0, none⟩) len cap L) {k : Nat} (hk : k < len) :
    w.cell? ⟨g, k * 5, none⟩ = some (.int .i64 (tat L k).k) ∧ w.cell? ⟨g, k * 5 + 1, none⟩ = some (.int .i64 (tat L k).f) ∧ w.cell? ⟨g, k * 5 + 2, none⟩ = some (.int .i64 (tat L k).t) ∧
    w.cell? ⟨g, k * 5 + 3, none⟩ = some (.string (tat L k).s) ∧ w.cell? ⟨g, k * 5 + 4, none⟩ = some (.int .i64 (tat L k).e) := by
  have := h.ts.at5 hk
  rw [Nat.zero_add] at this
  exact this

theorem RowT.setOther {base : Nat} {e : TypeId} {w : World} {a : Option Addr} {len cap : Nat} {L : List TK} (h : RowT base e w a len cap L) {g : Nat} (hg : g < base) (i : Nat) (v : Value) :
    RowT base e (w.setCell ⟨g, i, none⟩ v) a len cap L :=
  ⟨h.hl, h.lc, h.cm, fun h0 => by
    obtain ⟨g', cur, ha, hb, hg', ht⟩ := h.own h0
    exact ⟨g', cur, ha, hb, (heap_setCell_other w ⟨g, i, none⟩ g' v (show g' ≠ g by omega)).trans hg', ht⟩⟩
theorem tat_set {L : List TK} {j : Nat} (h : j < L.length) (t : TK) : tat (L.set j t) j = t := by
  unfold tat; simp [List.getD, h]
/-- The two places of a token, written one behind the other. -/
theorem RowT.set2 {base : Nat} {e : TypeId} {w : World} {g len cap : Nat} {L : List TK} (h : RowT base e w (some ⟨g, 0, none⟩) len cap L) (j : Nat) (hj : j < len) (f p : Int) :
    RowT base e ((w.setCell ⟨g, j * 5 + 1, none⟩ (.int .i64 f)).setCell ⟨g, j * 5 + 2, none⟩ (.int .i64 p)) (some ⟨g, 0, none⟩) len cap (L.set j ⟨(tat L j).k, f, p, (tat L j).s, (tat L j).e⟩) := by
  have hl := h.hl
  have h1 := h.set j 1 hj (by decide) ⟨(tat L j).k, f, (tat L j).t, (tat L j).s, (tat L j).e⟩ (.int .i64 f) rfl
  have h2 := h1.set j 2 hj (by decide) ⟨(tat L j).k, f, p, (tat L j).s, (tat L j).e⟩ (.int .i64 p) (by rw [tat_set (by omega)]; rfl)
  rwa [List.set_set] at h2

/-- A token, so many places further. -/
def shTK (d : Int) (t : TK) : TK := ⟨t.k, t.f + d, t.t + d, t.s, t.e⟩

theorem tkOf_shf (n : Nat) (p : Nat × TR) : tkOf (shf n p) = shTK n (tkOf p) := by
  unfold tkOf shf shTK
  simp only [TK.mk.injEq, true_and, and_true]
  exact ⟨by omega, by omega⟩
theorem map_shf (n : Nat) (L : List (Nat × TR)) : (L.map (shf n)).map tkOf = (L.map tkOf).map (shTK n) := by
  rw [List.map_map, List.map_map]
  exact List.map_congr_left fun p _ => tkOf_shf n p

/-- The first i of A, and the others of B. -/
def mixT (A B : List TK) (i : Nat) : List TK := A.take i ++ B.drop i
theorem mixT_zero (A B : List TK) : mixT A B 0 = B := by simp [mixT]
theorem mixT_all {A B : List TK} {i : Nat} (h : A.length = i) (hb : B.length = i) : mixT A B i = A := by
  unfold mixT
  rw [List.take_of_length_le (by omega), List.drop_eq_nil_iff.2 (by omega), List.append_nil]
theorem mixT_at {A B : List TK} {i : Nat} (h : i < B.length) (hab : A.length = B.length) : tat (mixT A B i) i = tat B i := by
  unfold mixT tat
  rw [List.getD_eq_getElem?_getD, List.getD_eq_getElem?_getD, List.getElem?_append_right (by rw [List.length_take]; omega), List.length_take, List.getElem?_drop]
  congr 2; omega
theorem mixT_step {A B : List TK} {i : Nat} (h : i < B.length) (hab : A.length = B.length) : (mixT A B i).set i (tat A i) = mixT A B (i + 1) := by
  unfold mixT
  rw [List.set_append_right _ _ (by rw [List.length_take]; omega), List.length_take, show i - min i A.length = 0 by omega, tat_drop h, List.set_cons_zero,
    tat_take (L := A) (by omega), List.append_assoc]
  rfl

theorem tat_map {L : List TK} {f : TK → TK} {j : Nat} (h : j < L.length) : tat (L.map f) j = f (tat L j) := by
  unfold tat; simp [List.getD, h]

/-- Where a token stands, as a plain number. -/
theorem toks_at {l : List Int} (hr : ∀ x ∈ l, 0 ≤ x ∧ x ≤ 255) {j : Nat} (h : j < (toks l).length) : ∃ f q : Nat, (tat (toks l) j).f = (f : Int) ∧ (tat (toks l) j).t = (q : Int) ∧ f ≤ l.length ∧ q ≤ l.length := by
  obtain ⟨p, hp, he⟩ := List.mem_map.1 (show tat (toks l) j ∈ (lx l 0).map tkOf from tat_mem h)
  have := ((lx_all hr 0 (Nat.zero_le _)).1 p hp).lim
  exact ⟨p.1, p.1 + p.2.n, by rw [← he]; rfl, by rw [← he]; rfl, by omega, by omega⟩

/-- Layout ahead matters to nothing but the places. -/
theorem lx_lead (X Y : List Int) (hr : ∀ x ∈ X ++ Y, 0 ≤ x ∧ x ≤ 255) (hl : ∀ x ∈ X, cls x = 1) : ∀ k, k ≤ X.length → lx (X ++ Y) k = (lx Y 0).map (shf X.length) := by
  refine by_end fun k hk ih => ?_
  by_cases h : k = X.length
  · subst h
    have := lx_app X Y hr 0 (Nat.zero_le _)
    rwa [Nat.add_zero] at this
  · rw [lx_same (j := k + 1) (by rw [List.length_append]; omega) (by rw [List.length_append]; omega) hr (nx_lay (by rw [List.length_append]; omega) (by
      rw [bt_append_left _ _ _ (by omega)]
      exact hl _ (bt_mem (by omega))))]
    exact ih (k + 1) (by omega) (by omega)
theorem toks_blank (k : Nat) {Y : List Int} (hy : ∀ x ∈ Y, 0 ≤ x ∧ x ≤ 255) : toks (List.replicate k 32 ++ Y) = (toks Y).map (shTK k) := by
  have hX : ∀ x ∈ List.replicate k (32 : Int), 0 ≤ x ∧ x ≤ 255 := fun x hx => by rw [List.eq_of_mem_replicate hx]; decide
  have := lx_lead (List.replicate k 32) Y (rng_app hX hy) (fun x hx => by rw [List.eq_of_mem_replicate hx]; decide) 0 (Nat.zero_le _)
  rw [List.length_replicate] at this
  unfold toks
  rw [this, map_shf]
theorem toks_blanks (k : Nat) : toks (List.replicate k 32) = [] := by
  have := toks_blank k (Y := []) (by simp)
  rwa [List.append_nil] at this
/-- What stands behind a blank is lexed for itself. -/
theorem toks_parts (u Y : List Int) (hu : ∀ c ∈ u, (0 ≤ c ∧ c ≤ 255) ∧ c ≠ 39 ∧ c ≠ 37 ∧ c ≠ 47) (hy : ∀ x ∈ Y, 0 ≤ x ∧ x ≤ 255) :
    toks (u ++ [32] ++ Y) = toks (u ++ [32]) ++ (toks Y).map (shTK ((u ++ [32]).length : Nat)) := by
  unfold toks
  rw [lx_parts u Y hu hy 0 (Nat.zero_le _), List.map_append, map_shf]

end Go.Proofs.YtecabgmkoknbgaaDoor
