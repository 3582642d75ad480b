/- QuoteFirst's walk. -/
import Derived.Test.YtfbhokigeneinaaDoorQw
import Derived.Test.YtfbhokigeneinaaDoorQz
import Derived.Test.YtfbhokigeneinaaDoorBs
import Derived.Deep.RegionHeld3
import Derived.IntWalk
namespace Go.Proofs.YtfbhokigeneinaaDoor
open Go.RowKit

def oddL (k : Nat) : List Int := if k = 0 then [92, 116] else if k = 1 then [10] else if k = 2 then [1] else if k = 3 then [127] else [255]
def oddS (k : Nat) : ByteArray := if k = 0 then ⟨#[92, 116]⟩ else if k = 1 then ⟨#[10]⟩ else if k = 2 then ⟨#[1]⟩ else if k = 3 then ⟨#[127]⟩ else ⟨#[255]⟩
def wantE (k : Nat) : Int := if k = 0 then 13 else if k = 1 then 12 else if k = 2 then 11 else if k = 3 then 11 else 10

theorem qs_odd (k : Nat) (R : List Int) : qs (oddL k ++ R) = ⟨wantE k, 0, []⟩ := by
  unfold oddL wantE
  by_cases h0 : k = 0
  · rw [if_pos h0, if_pos h0]
    exact qs_err (qE_noesc rfl (by show ¬ ((116 : Int) = 110 ∨ (116 : Int) = 92 ∨ (116 : Int) = 39); decide)) (by decide) (by decide)
  · rw [if_neg h0, if_neg h0]
    by_cases h1 : k = 1
    · rw [if_pos h1, if_pos h1]; exact qs_err (qE_line rfl) (by decide) (by decide)
    · rw [if_neg h1, if_neg h1]
      by_cases h2 : k = 2
      · rw [if_pos h2, if_pos h2]; exact qs_err (qE_byte (by simp) (by show (1 : Int) ≠ 10; decide) (Or.inl (by show (1 : Int) < 32; decide))) (by decide) (by decide)
      · rw [if_neg h2, if_neg h2]
        by_cases h3 : k = 3
        · rw [if_pos h3, if_pos h3]; exact qs_err (qE_byte (by simp) (by show (127 : Int) ≠ 10; decide) (Or.inr rfl)) (by decide) (by decide)
        · rw [if_neg h3, if_neg h3]
          exact qs_err (qE_bad (by show (32 : Int) ≤ 255; decide) (by show (255 : Int) ≠ 39; decide) (by show (255 : Int) ≠ 92; decide) (by show (255 : Int) ≠ 127; decide) (okSeq_no (Or.inl rfl))) (by decide) (by decide)

theorem wantE_ne (k : Nat) : wantE k ≠ 0 := by
  unfold wantE; (repeat' split) <;> decide

theorem tk_odd {t : List Int} (h : okT t) (k : Nat) (R : List Int) : tk (39 :: (escL t ++ (oddL k ++ R))) = ⟨wantE k, 1 + (escL t).length, []⟩ := by
  rw [tk_pre _ t h.1 h.2, qs_odd]
  exact QR.ext' rfl (by show 1 + ((escL t).length + 0) = 1 + (escL t).length; omega) (by show (if wantE k = 0 then _ else _) = _; rw [if_neg (wantE_ne k)])

theorem odd_str (k : Nat) : Lib.strCells (oddS k) = (oddL k).map (Value.int .u8) := by
  unfold oddS oddL; (repeat' split) <;> rfl
theorem odd_rng (k : Nat) : ∀ x ∈ oddL k, 0 ≤ x ∧ x ≤ 255 := by
  unfold oddL; (repeat' split) <;> decide
theorem odd_len (k : Nat) : (oddL k).length ≤ 2 := by
  unfold oddL; (repeat' split) <;> decide

theorem two_cells (W : World) (cs ds : Array Value) (t u : TypeId) (X Y k : Nat) (hX : X = W.heap.size) (hY : Y = W.heap.size + 1) (v v' : Value) (h1 : cs[k]? = some v) (h2 : ds[k]? = some v') :
    ((W.alloc (.cells cs t)).alloc (.cells ds u)).cell? ⟨X, k, none⟩ = some v ∧ ((W.alloc (.cells cs t)).alloc (.cells ds u)).cell? ⟨Y, k, none⟩ = some v' ∧ Below W.heap.size W ((W.alloc (.cells cs t)).alloc (.cells ds u)) ∧ ((W.alloc (.cells cs t)).alloc (.cells ds u)).heap.size = W.heap.size + 2 := by
  subst hX; subst hY
  refine ⟨?_, ?_, ((Below.refl _ _).alloc (Nat.le_refl _) _).alloc (by simp) _, by simp⟩
  · rw [((Below.refl (W.heap.size + 1) _).alloc (by simp) _).cell (by simp), cell_of_row (W.alloc _) W.heap.size k _ _ _ (heap_alloc_new W _)]
    exact h1
  · rw [cell_of_row (World.alloc _ _) (W.heap.size + 1) k _ _ _ (by have := heap_alloc_new (W.alloc (.cells cs t)) (.cells ds u); simpa using this)]
    exact h2

def oddA : Array Value := #[Value.string { data := #[92, 116] }, Value.string { data := #[10] }, Value.string { data := #[1] }, Value.string { data := #[127] }, Value.string { data := #[255] }]
def wantA : Array Value := #[Value.int IntKind.i64 13, Value.int IntKind.i64 12, Value.int IntKind.i64 11, Value.int IntKind.i64 11, Value.int IntKind.i64 10]
theorem oddA_at (k : Nat) (hk : k < 5) : oddA[k]? = some (.string (oddS k)) := by
  obtain rfl | rfl | rfl | rfl | rfl : k = 0 ∨ k = 1 ∨ k = 2 ∨ k = 3 ∨ k = 4 := by omega
  all_goals rfl
theorem wantA_at (k : Nat) (hk : k < 5) : wantA[k]? = some (.int .i64 (wantE k)) := by
  obtain rfl | rfl | rfl | rfl | rfl : k = 0 ∨ k = 1 ∨ k = 2 ∨ k = 3 ∨ k = 4 := by omega
  all_goals rfl

theorem first_eq (t : List Int) (m : Nat) (x R : List Int) (hm : (escL t).length + 1 = m) : (putL t).take m ++ x ++ R = 39 :: (escL t ++ (x ++ R)) := by
  rw [show m = 1 + (escL t).length by omega, take_put t _ (Nat.le_refl _), List.take_length]
  simp

set_option maxRecDepth 100000 in
set_option maxHeartbeats 4000000 in
theorem quoteFirst_any (a : Option Addr) (len cap : Nat) (l : List Int) (d : Int) (a' : Option Addr) (len' cap' : Nat) (l' : List Int) (w : World) (h : Bs w a len cap l) (h' : Bs w a' len' cap' l') (ht : Tab w) (k : Nat) (hd : d % 5 = k) (hk : k < 5) (hd0 : 0 ≤ d) (hd1 : d ≤ 255) :
    Calls Tryd.prog 7 #[.slice a len cap, .int .u8 d, .slice a' len' cap'] w fun e w' => e = .returned (.bool true) ∧ Below w.heap.size w w' := by
  obtain ⟨M, hM⟩ : ∃ M, min len 100 = M := ⟨_, rfl⟩
  obtain ⟨F, hF⟩ : ∃ F, l.take 100 = F := ⟨_, rfl⟩
  have hM100 : M ≤ 100 := by omega
  have HT := Lib.hid ht
  have H := Lib.hid h
  have H' := Lib.hid h'
  have HF : Hid (Bs w a M cap F) := Lib.hid (by rw [← hM, ← hF]; exact few_bs h)
  have HM := Lib.hid hM
  have HLF := Lib.hid HF.out.hl
  clear ht h hM hF h'
  go_enter Tryd.func7, Tryd.ntmps7
  go_wp2_with fail
  refine (shown_any _ HT.out).mono ?_
  rintro e w1 ⟨rfl, hb1⟩
  have HW1 := Lib.hid hb1
  have HF1 := Lib.hid (HF.out.below hb1)
  clear hb1
  go_wp2_with fail
  refine (few_any _ _ _ _ _ (H.out.below HW1.out)).mono ?_
  rintro e w' ⟨rfl, rfl⟩
  rw [HM.out]
  go_wp2_with fail
  refine (qput_any _ _ _ _ _ HF1.out (HT.out.keep HW1.out) (by omega)).mono ?_
  rintro e w2 ⟨a2, c2, rfl, ho2, hb2⟩
  have HW2 : Hid (Below w.heap.size w w2) := Lib.hid (HW1.out.trans (hb2.mono HW1.out.size))
  by_cases hok : okT F
  · have HTP := Lib.hid (ptOk_yes hok)
    rw [HTP.out.1] at ho2
    rw [HTP.out.1, HTP.out.2]
    have HTK := Lib.hid (tk_odd hok k)
    obtain ⟨E, hE⟩ : ∃ E, (putL F).length = E + 1 := ⟨(escL F).length + 1, putL_len F⟩
    have hE2 : (escL F).length + 1 = E ∧ E ≤ 2 * M + 1 := by have h1 := escL_len F; have h2 := putL_len F; have := HLF.out; omega
    have hE0 : 1 ≤ E := by omega
    have hE1 : E ≤ 1000 := by omega
    have HEE := Lib.hid hE2.1
    rw [hE] at ho2 ⊢
    obtain ⟨g, rfl, hg, hg'⟩ := ho2.form (fun h => by subst h; rcases ho2.1.2 with ⟨_, h0⟩ | ⟨g, cp, cur, hv, _⟩; omega; simp at hv)
    have HP := Lib.hid ho2.bs
    have hcap := ho2.bs.lc
    have hcm := ho2.bs.cm
    unfold maxLen at hcm
    clear hE ho2 hb2 hok hE2
    go_wp2_with fail
    obtain ⟨hX, hY, hB4, hS4⟩ := two_cells w2 oddA wantA 35 36 (w2.heap.size) (w2.heap.size + 1) k (by simp) (by simp) _ _ (oddA_at k hk) (wantA_at k hk)
    unfold oddA wantA at hX hY hB4 hS4
    generalize (w2.alloc (Obj.cells #[Value.string { data := #[92, 116] }, Value.string { data := #[10] }, Value.string { data := #[1] }, Value.string { data := #[127] }, Value.string { data := #[255] }] 35)).alloc (Obj.cells #[Value.int IntKind.i64 13, Value.int IntKind.i64 12, Value.int IntKind.i64 11, Value.int IntKind.i64 11, Value.int IntKind.i64 10] 36) = w3 at *
    rw [hd]
    have hX3 : w2.heap.size < w3.heap.size := by rw [hS4]; simp
    have hY3 : w2.heap.size + 1 < w3.heap.size := by rw [hS4]; simp
    have HX := Lib.hid hX
    have HY := Lib.hid hY
    have HB3 := Lib.hid hB4
    have HW3 : Hid (Below w.heap.size w w3) := Lib.hid (HW2.out.trans (hB4.mono HW2.out.size))
    have HP3 := Lib.hid (HP.out.below hB4)
    have HPT : Hid (Bs w3 _ E c2 ((putL F).take E)) := Lib.hid (HP3.out.take (k := E) (c' := c2) (by omega) (by omega) HP3.out.cm)
    have H'3 := Lib.hid (H'.out.below HW3.out)
    have HF3 := Lib.hid (few_bs H'3.out)
    have hF3 : min len' 100 ≤ 100 := Nat.min_le_right _ _
    have hOL := odd_len k
    have hk0 : (0 : Int) ≤ (k : Int) := Int.natCast_nonneg _
    have hk5 : (k : Int) < 5 := by omega
    clear hX hY hB4 hS4 hd
    have hX : w3.cell? ⟨w2.heap.size, k, none⟩ = some (.string (oddS k)) := HX.out
    have hw1 : IntKind.i64.wrap ((E : Int) + 1 - 1) = (E : Int) := by rw [IntWalk.i64_in _ (by omega)]; omega
    have hw2 : IntKind.i64.wrap (E : Int) = (E : Int) := IntWalk.i64_in _ (by omega)
    have hw3 : (0 : Int) ≤ (E : Int) := Int.natCast_nonneg _
    have hw4 : (E : Int) ≤ (c2 : Int) := by omega
    go_region_held3 (fun w' => w'.cell? ⟨w2.heap.size, k, none⟩ = some (.string (oddS k)))
      (first
        | exact (HB7.out.cell hX3).trans HX.out
        | exact (HB6.out.cell hX3).trans HX.out
        | exact (HB5.out.cell hX3).trans HX.out
        | go_keep)
      (first
        | (refine step_appx rfl (.tmp 35) (.tmp 40) 22 rfl 5 w3.heap.size Tryd.underlying22 info5 _ _ _ [] rfl (OwnB.emptyAt (heapAt1 _ _) (by simp)) (by simp) _ _ _ ((putL F).take E) rfl (HPT.out.below ((Below.refl _ _).alloc (Nat.le_refl _) _).drew) (by omega) (by simp) ?_; intro g5 c5 w5 ho5 hg5 hb5; rw [Nat.zero_add] at ho5 ⊢; rw [List.nil_append] at ho5; have HO5 := Lib.hid ho5; have HB5 : Hid (Below w3.heap.size w3 w5) := Lib.hid (((Below.refl _ _).alloc (Nat.le_refl _) _).drew.trans hb5); clear ho5 hg5 hb5)
        | (refine step_app_str rfl (.tmp 41) (.tmp 44) 22 9 rfl 5 w3.heap.size Tryd.underlying22 Tryd.underlying9 info5 _ _ _ _ rfl HO5.out (by simp) _ (oddL k) rfl (odd_str k) (odd_rng k) (by omega) HB5.out.size ?_; intro g6 c6 w6 ho6 hg6 hb6; have HO6 := Lib.hid ho6; have HB6 : Hid (Below w3.heap.size w3 w6) := Lib.hid (HB5.out.trans hb6); clear ho6 hg6 hb6)
        | (go_at_call 10; refine (few_any _ _ _ _ _ (H'3.out.below HB6.out)).mono ?_; rintro e w' ⟨rfl, rfl⟩)
        | (refine step_appx rfl (.tmp 45) (.tmp 47) 22 rfl 5 w3.heap.size Tryd.underlying22 info5 _ _ _ _ rfl HO6.out (by simp) _ _ _ _ rfl (HF3.out.below HB6.out) (by omega) HB6.out.size ?_; intro g7 c7 w7 ho7 hg7 hb7; have HO7 := Lib.hid ho7; have HB7 : Hid (Below w3.heap.size w3 w7) := Lib.hid (HB6.out.trans hb7); clear ho7 hg7 hb7))
    have HTE : Hid (∀ R, tk (39 :: (escL F ++ (oddL k ++ R))) = ⟨wantE k, E, []⟩) := Lib.hid (fun R => by rw [HTK.out R, show 1 + (escL F).length = E from by have := HEE.out; omega])
    clear hX
    go_wp2_with fail
    refine (qtake_any _ _ _ _ _ HO7.out.bs ((HT.out.keep HW3.out).keep HB7.out) (by omega)).mono ?_
    rintro e w8 ⟨a8, c8, rfl, _, hb8⟩
    have HB8 : Hid (Below w3.heap.size w3 w8) := Lib.hid (HB7.out.trans (hb8.mono HB7.out.size))
    have HW8 : Hid (Below w.heap.size w w8) := Lib.hid (HW3.out.trans (HB8.out.mono HW3.out.size))
    have hY8 : w8.cell? ⟨w2.heap.size + 1, k, none⟩ = some (.int .i64 (wantE k)) := (HB8.out.cell hY3).trans HY.out
    rw [first_eq F _ _ _ HEE.out, HTE.out]
    clear hb8
    go_wp2
    go_ret
    exact ⟨ret_bool (by simp; try omega), HW8.out⟩
  · have HTP := Lib.hid (ptOk_no hok)
    rw [HTP.out.1, HTP.out.2]
    have HTK := Lib.hid (tk_odd okT_nil k)
    have HEE : Hid ((escL []).length + 1 = 1) := Lib.hid rfl
    have kc := Joins.run_convert_bytes_const_at (P := Tryd.prog) w2 22 5 #[.int .u8 39, .int .u8 39] 2 2 w2.heap.size rfl Tryd.underlying22 Tryd.underlying5
    have HP : Hid (Bs (w2.alloc (.cells #[.int .u8 39, .int .u8 39] 5 (2, 3))) (some ⟨w2.heap.size, 0, none⟩) 2 2 (putL [])) := Lib.hid (Bs.lit w2 5 (l := putL []) (by rfl) (by decide) rfl rfl (by decide))
    have HB2 : Hid (Below w.heap.size w (w2.alloc (.cells #[.int .u8 39, .int .u8 39] 5 (2, 3)))) := Lib.hid (HW2.out.alloc HW2.out.size _)
    clear hok ho2 hb2
    go_wp2_with fail
    clear kc
    obtain ⟨hX, hY, hB4, hS4⟩ := two_cells (w2.alloc (Obj.cells #[Value.int IntKind.u8 39, Value.int IntKind.u8 39] 5 (2, 3))) oddA wantA 35 36 (w2.heap.size + 1) (w2.heap.size + 1 + 1) k (by simp) (by simp) _ _ (oddA_at k hk) (wantA_at k hk)
    unfold oddA wantA at hX hY hB4 hS4
    generalize ((w2.alloc (Obj.cells #[Value.int IntKind.u8 39, Value.int IntKind.u8 39] 5 (2, 3))).alloc (Obj.cells #[Value.string { data := #[92, 116] }, Value.string { data := #[10] }, Value.string { data := #[1] }, Value.string { data := #[127] }, Value.string { data := #[255] }] 35)).alloc (Obj.cells #[Value.int IntKind.i64 13, Value.int IntKind.i64 12, Value.int IntKind.i64 11, Value.int IntKind.i64 11, Value.int IntKind.i64 10] 36) = w3 at *
    rw [hd]
    have hX3 : w2.heap.size + 1 < w3.heap.size := by rw [hS4]; simp
    have hY3 : w2.heap.size + 1 + 1 < w3.heap.size := by rw [hS4]; simp
    have HX := Lib.hid hX
    have HY := Lib.hid hY
    have HB3 := Lib.hid hB4
    have HW3 : Hid (Below w.heap.size w w3) := Lib.hid (HB2.out.trans (hB4.mono HB2.out.size))
    have HP3 := Lib.hid (HP.out.below hB4)
    have HPT : Hid (Bs w3 _ 1 2 ((putL []).take 1)) := Lib.hid (HP3.out.take (k := 1) (c' := 2) (by omega) (by omega) HP3.out.cm)
    have H'3 := Lib.hid (H'.out.below HW3.out)
    have HF3 := Lib.hid (few_bs H'3.out)
    have hF3 : min len' 100 ≤ 100 := Nat.min_le_right _ _
    have hOL := odd_len k
    have hk0 : (0 : Int) ≤ (k : Int) := Int.natCast_nonneg _
    have hk5 : (k : Int) < 5 := by omega
    clear hX hY hB4 hS4 hd
    have hX : w3.cell? ⟨w2.heap.size + 1, k, none⟩ = some (.string (oddS k)) := HX.out
    have hw1 : IntKind.i64.wrap 1 = 1 := IntWalk.i64_in _ (by omega)
    go_region_held3 (fun w' => w'.cell? ⟨w2.heap.size + 1, k, none⟩ = some (.string (oddS k)))
      (first
        | exact (HB7.out.cell hX3).trans HX.out
        | exact (HB6.out.cell hX3).trans HX.out
        | exact (HB5.out.cell hX3).trans HX.out
        | go_keep)
      (first
        | (refine step_appx rfl (.tmp 35) (.tmp 40) 22 rfl 5 w3.heap.size Tryd.underlying22 info5 _ _ _ [] rfl (OwnB.emptyAt (heapAt1 _ _) (by simp)) (by simp) _ _ _ ((putL []).take 1) rfl (HPT.out.below ((Below.refl _ _).alloc (Nat.le_refl _) _).drew) (by omega) (by simp) ?_; intro g5 c5 w5 ho5 hg5 hb5; rw [Nat.zero_add] at ho5 ⊢; rw [List.nil_append] at ho5; have HO5 := Lib.hid ho5; have HB5 : Hid (Below w3.heap.size w3 w5) := Lib.hid (((Below.refl _ _).alloc (Nat.le_refl _) _).drew.trans hb5); clear ho5 hg5 hb5)
        | (refine step_app_str rfl (.tmp 41) (.tmp 44) 22 9 rfl 5 w3.heap.size Tryd.underlying22 Tryd.underlying9 info5 _ _ _ _ rfl HO5.out (by simp) _ (oddL k) rfl (odd_str k) (odd_rng k) (by omega) HB5.out.size ?_; intro g6 c6 w6 ho6 hg6 hb6; have HO6 := Lib.hid ho6; have HB6 : Hid (Below w3.heap.size w3 w6) := Lib.hid (HB5.out.trans hb6); clear ho6 hg6 hb6)
        | (go_at_call 10; refine (few_any _ _ _ _ _ (H'3.out.below HB6.out)).mono ?_; rintro e w' ⟨rfl, rfl⟩)
        | (refine step_appx rfl (.tmp 45) (.tmp 47) 22 rfl 5 w3.heap.size Tryd.underlying22 info5 _ _ _ _ rfl HO6.out (by simp) _ _ _ _ rfl (HF3.out.below HB6.out) (by omega) HB6.out.size ?_; intro g7 c7 w7 ho7 hg7 hb7; have HO7 := Lib.hid ho7; have HB7 : Hid (Below w3.heap.size w3 w7) := Lib.hid (HB6.out.trans hb7); clear ho7 hg7 hb7))
    have HTE : Hid (∀ R, tk (39 :: (escL [] ++ (oddL k ++ R))) = ⟨wantE k, 1, []⟩) := Lib.hid (fun R => by rw [HTK.out R]; rfl)
    clear hX
    go_wp2_with fail
    refine (qtake_any _ _ _ _ _ HO7.out.bs ((HT.out.keep HW3.out).keep HB7.out) (by omega)).mono ?_
    rintro e w8 ⟨a8, c8, rfl, _, hb8⟩
    have HB8 : Hid (Below w3.heap.size w3 w8) := Lib.hid (HB7.out.trans (hb8.mono HB7.out.size))
    have HW8 : Hid (Below w.heap.size w w8) := Lib.hid (HW3.out.trans (HB8.out.mono HW3.out.size))
    have hY8 : w8.cell? ⟨w2.heap.size + 1 + 1, k, none⟩ = some (.int .i64 (wantE k)) := (HB8.out.cell hY3).trans HY.out
    rw [first_eq [] _ _ _ HEE.out, HTE.out]
    clear hb8
    go_wp2
    go_ret
    exact ⟨ret_bool (by simp; try omega), HW8.out⟩

end Go.Proofs.YtfbhokigeneinaaDoor
