/- LayoutLines' walk. -/
import Derived.Test.YtcblggfohjkmhaaDoorLe
namespace Go.Proofs.YtcblggfohjkmhaaDoor
open Go.RowKit

def blk4 : List Int := [32, 9, 13, 10]
def blanksL (n : Nat) : List Int := (List.range n).map fun i => bt blk4 (i % 4)
def noNl (l : List Int) : List Int := l.filter fun x => x != 10

theorem blanksL_succ (n : Nat) : blanksL (n + 1) = blanksL n ++ [bt blk4 (n % 4)] := by simp [blanksL, List.range_succ]
theorem blanksL_length (n : Nat) : (blanksL n).length = n := by simp [blanksL]
theorem blk4_cls : ∀ i, i < 4 → cls (bt blk4 i) = 1 ∧ 0 ≤ bt blk4 i ∧ bt blk4 i ≤ 255 := by decide +kernel
theorem blanksL_cls (n : Nat) : ∀ x ∈ blanksL n, cls x = 1 := by
  intro x hx
  obtain ⟨i, _, rfl⟩ := List.mem_map.1 hx
  exact (blk4_cls _ (Nat.mod_lt _ (by decide))).1
theorem cls_10 : cls 10 = 1 := by decide +kernel

theorem sk_blanks : ∀ (b X : List Int), (∀ x ∈ b, cls x = 1) → sk (b ++ X) = addN b.length (sk X)
  | [], X, _ => by simp [addN_zero]
  | c :: b, X, h => by
    rw [List.cons_append, sk_unfold _ (by simp), if_pos (by simpa [bt, List.getD] using h c (by simp)), List.drop_one, List.tail_cons, sk_blanks b X (fun x hx => h x (by simp [hx])), addN_add, List.length_cons, Nat.add_comm]

theorem noNl_free (l : List Int) : ∀ x ∈ noNl l, x ≠ 10 := by
  intro x hx
  have := (List.mem_filter.1 hx).2
  simpa using this

theorem lineL_end : ∀ t : List Int, (∀ x ∈ t, x ≠ 10) → lineL t = t.length
  | [], _ => rfl
  | c :: t, h => by rw [lineL, if_neg (h c (by simp)), lineL_end t (fun x hx => h x (by simp [hx])), List.length_cons, Nat.add_comm]
theorem lineL_nl : ∀ (t X : List Int), (∀ x ∈ t, x ≠ 10) → lineL (t ++ 10 :: X) = t.length
  | [], X, _ => rfl
  | c :: t, X, h => by rw [List.cons_append, lineL, if_neg (h c (by simp)), lineL_nl t X (fun x hx => h x (by simp [hx])), List.length_cons, Nat.add_comm]

theorem free_cons {t : List Int} (h : ∀ x ∈ t, x ≠ 10) : ∀ x ∈ (37 :: t), x ≠ 10 := by
  intro x hx
  rcases List.mem_cons.1 hx with rfl | h1
  · decide
  · exact h x h1

theorem sk_lineEnd (t : List Int) (h : ∀ x ∈ t, x ≠ 10) : sk (37 :: t) = (1 + t.length, 0) := by
  rw [sk_unfold _ (by simp), if_neg (by simpa [bt, List.getD] using cls_37), if_pos (by simp [bt, List.getD]), lineL_end _ (free_cons h), List.drop_length, sk_nil]
  simp [addN]; omega
theorem sk_lineNl (t X : List Int) (h : ∀ x ∈ t, x ≠ 10) : sk (37 :: (t ++ 10 :: X)) = addN (1 + t.length + 1) (sk X) := by
  have e : (37 :: (t ++ 10 :: X) : List Int) = (37 :: t) ++ 10 :: X := rfl
  have hb : bt ((37 :: t) ++ 10 :: X) 0 = 37 := by simp [bt, List.getD]
  rw [e, sk_unfold _ (by simp), if_neg (by rw [hb]; exact cls_37), if_pos hb, lineL_nl _ _ (free_cons h), List.drop_left, show (10 :: X : List Int) = [10] ++ X from rfl, sk_blanks [10] X (by intro x hx; simp at hx; subst hx; exact cls_10), addN_add]
  simp; congr 1; omega

/-- The bytes ahead, the percent sign, and what of a text stands in its line. -/
def lineOf (n : Nat) (F : List Int) : List Int := blanksL n ++ [37] ++ noNl F

theorem lineOf_length (n : Nat) (F : List Int) : (lineOf n F).length = n + 1 + (noNl F).length := by simp [lineOf, blanksL_length]; omega
theorem sk_one (n : Nat) (F : List Int) : sk (lineOf n F) = ((lineOf n F).length, 0) := by
  rw [lineOf_length, lineOf, List.append_assoc, sk_blanks _ _ (blanksL_cls n), show ([37] ++ noNl F : List Int) = 37 :: noNl F from rfl, sk_lineEnd _ (noNl_free F), blanksL_length]
  simp [addN]; omega
theorem sk_two (n : Nat) (F B : List Int) : sk (lineOf n F ++ [10] ++ B) = addN ((lineOf n F).length + 1) (sk B) := by
  rw [lineOf_length, lineOf, List.append_assoc, List.append_assoc, List.append_assoc, sk_blanks _ _ (blanksL_cls n),
    show ([37] ++ (noNl F ++ ([10] ++ B)) : List Int) = 37 :: (noNl F ++ 10 :: B) from rfl, sk_lineNl _ _ (noNl_free F), blanksL_length, addN_add]
  congr 1; omega

theorem noNl_skip {F : List Int} {i : Nat} (hi : i < F.length) (h : bt F i = 10) : noNl (F.take (i + 1)) = noNl (F.take i) := by
  have : F[i] = 10 := by simpa [bt, List.getD, hi] using h
  rw [List.take_add_one, List.getElem?_eq_getElem hi, noNl, List.filter_append, noNl]
  simp [this]
theorem noNl_take {F : List Int} {i : Nat} (hi : i < F.length) (h : bt F i ≠ 10) : noNl (F.take (i + 1)) = noNl (F.take i) ++ [bt F i] := by
  have e : F[i] = bt F i := by simp [bt, List.getD, hi]
  rw [List.take_add_one, List.getElem?_eq_getElem hi, noNl, List.filter_append, noNl]
  simp [e, h]

/-- The elements' type of a row of the call's own, at its block. -/
theorem OwnB.typed {base : Nat} {e : TypeId} {w : World} {g len cap : Nat} {l : List Int} (h : OwnB base e w (some ⟨g, 0, none⟩) len cap l) : ∃ cs mk, w.heap[g]? = some (.cells cs e mk) := by
  rcases h.1.2 with ⟨hv, _⟩ | ⟨g', cp, cur, hv, hb, hg, _⟩
  · simp only [Value.slice.injEq] at hv; exact absurd hv.1 (by simp)
  · simp only [Value.slice.injEq, Option.some.injEq, Addr.mk.injEq, true_and] at hv
    obtain ⟨⟨rfl, _⟩, _⟩ := hv
    exact ⟨_, _, hg⟩

theorem heapAt5 (w : World) (o o' : Obj) : ((w.alloc o).alloc o').heap[w.heap.size + 1]? = some o' := by
  have h := heap_alloc_new (w.alloc o) o'
  rw [show (w.alloc o).heap.size = w.heap.size + 1 from by simp] at h
  exact h

set_option maxRecDepth 100000 in
set_option maxHeartbeats 2000000 in
theorem layoutLines_any (a : Option Addr) (len cap : Nat) (l : List Int) (a' : Option Addr) (len' cap' : Nat) (l' : List Int) (d : Int) (w : World) (hd0 : 0 ≤ d) (hd1 : d ≤ 255) (h : Bs w a len cap l) (h' : Bs w a' len' cap' l') (ht : Tab w) :
    Calls Tryd.prog 6 #[.slice a len cap, .slice a' len' cap', .int .u8 d] w fun e w' => e = .returned (.bool true) ∧ Below w.heap.size w w' := by
  obtain ⟨K, hK⟩ : ∃ K : Nat, (K : Int) = d % 16 := ⟨(d % 16).toNat, by omega⟩
  have hK15 : K ≤ 15 := by omega
  have HK := Lib.hid hK
  have HF := Lib.hid (few_bs h)
  have HG := Lib.hid (few_bs h')
  have H := Lib.hid h
  have H' := Lib.hid h'
  have HT := Lib.hid ht
  obtain ⟨M, hM⟩ : ∃ M, min len 150 = M := ⟨_, rfl⟩
  have HM := Lib.hid hM
  have hM150 : M ≤ 150 := by omega
  have hMl : M ≤ len := by omega
  rw [hM] at HF
  obtain ⟨F, hF⟩ : ∃ F, l.take 150 = F := ⟨_, rfl⟩
  rw [hF] at HF
  have HFe := Lib.hid hF
  obtain ⟨N, hN⟩ : ∃ N, min len' 150 = N := ⟨_, rfl⟩
  have HN := Lib.hid hN
  have hN150 : N ≤ 150 := by omega
  rw [hN] at HG
  obtain ⟨G, hG⟩ : ∃ G, l'.take 150 = G := ⟨_, rfl⟩
  rw [hG] at HG
  have hmcm := h.cm
  have hmlc := h.lc
  unfold maxLen at hmcm
  clear h ht hM hF h' hN hG
  go_enter Tryd.func6, Tryd.ntmps6
  go_wp2_with fail
  refine (shown_any _ HT.out).mono ?_
  rintro e w1 ⟨rfl, hb1⟩
  have HW1 := Lib.hid hb1
  clear hb1
  go_wp2
  go_loopw [8, 10] (fun v n wr => ∃ g c1, ∃ i m : Nat, v = .slice (some ⟨g, 0, none⟩) m c1 ∧ n = .int .i64 i ∧ i ≤ K ∧ m ≤ i ∧ i ≤ m ∧ Hid (OwnB w1.heap.size 5 wr (some ⟨g, 0, none⟩) m c1 (blanksL i)) ∧ Hid (Below w1.heap.size w1 wr) ∧ Hid (wr.heap[w1.heap.size + 1]? = some (.cells #[.int .u8 32, .int .u8 9, .int .u8 13, .int .u8 10] 30 (0, 0)))) (fun _ n _ => 16 - (intOf n).toNat)
  case atStart => exact ⟨_, _, 0, 0, rfl, rfl, by omega, by omega, by omega, Lib.hid ((OwnB.made (Nat.le_refl _)).alloc _), Lib.hid (((Below.refl _ _).alloc (Nat.le_refl _) _).alloc (by simp) _), Lib.hid (heapAt5 w1 _ _)⟩
  case round =>
    obtain ⟨g1, c1, i, m, rfl, rfl, hi, hm1, hm2, HO, HB, HX⟩ := hrel
    rename World => wa
    by_cases hlt : i < K
    · obtain ⟨r, hr⟩ : ∃ r : Nat, r = i % 4 := ⟨_, rfl⟩
      have hr4 : r < 4 := by omega
      have hri : (i : Int) % 4 = r := by omega
      have hcx : wa.cell? ⟨w1.heap.size + 1, r, none⟩ = some (.int .u8 (bt blk4 r)) := by
        rw [cell_of_row wa (w1.heap.size + 1) r _ _ _ HX.out]
        obtain rfl | rfl | rfl | rfl : r = 0 ∨ r = 1 ∨ r = 2 ∨ r = 3 := by omega
        all_goals rfl
      go_wp2
      rw [hri]
      have hd4 : decide ((r : Int) < 4) = true := by simp; omega
      have HR := Lib.hid hr
      clear hr hri
      go_wp2_with (at_builtin; refine Hid.out ?_)
      refine Lib.hid ?_
      have hne : ¬ g1 = w1.heap.size + 1 := by
        intro he
        obtain ⟨cs, mk, ht⟩ := HO.out.typed
        rw [he, HX.out] at ht
        injection ht with ht; injection ht with _ ht _; exact absurd ht (by decide)
      have hXl : w1.heap.size + 1 < wa.heap.size := (Array.getElem?_eq_some_iff.1 HX.out).1
      refine wpList_appx rfl (.tmp 28) (.tmp 33) 22 rfl 5 w1.heap.size Tryd.underlying22 info5 _ _ _ _ rfl (HO.out.alloc _) (by simp) _ _ _ [bt blk4 r] rfl (Bs.lit _ 5 (by simp) (by intro x hx; simp at hx; subst hx; exact (blk4_cls r hr4).2) rfl rfl (by decide)) (by omega) (by have := HB.out.size; simp; omega) ?_
      intro g2 c2 w2 ho2 hg2 hb2
      have HX2 : Hid (w2.heap[w1.heap.size + 1]? = some (.cells #[.int .u8 32, .int .u8 9, .int .u8 13, .int .u8 10] 30 (0, 0))) := Lib.hid (by
        rw [hg2.block (w1.heap.size + 1) (by simp; omega) (by intro hh; exact hne (Option.some.inj hh).symm), Below.heap_alloc _ _ _ hXl]; exact HX.out)
      rw [HR.out, ← blanksL_succ] at ho2
      have HO2 := Lib.hid ho2
      have HB2 := Lib.hid ((HB.out.alloc HB.out.size _).trans hb2)
      clear ho2 hb2 hg2 hne
      go_wp2
      go_roundw
      case rel => exact ⟨_, _, i + 1, m + 1, rfl, by go_num, by omega, by omega, by omega, HO2, HB2, HX2⟩
      case measure => simp [intOf]; omega
    · have HO' : Hid (OwnB w1.heap.size 5 wa (some ⟨g1, 0, none⟩) m c1 (blanksL K)) := Lib.hid (by have := HO.out; rwa [show i = K by omega] at this)
      clear HO HX
      go_wp2_with (at_builtin; refine Hid.out ?_)
      refine Lib.hid ?_
      refine wpList_appx rfl (.tmp 35) (.tmp 36) 22 rfl 5 w1.heap.size Tryd.underlying22 info5 _ _ _ _ rfl (HO'.out.alloc _) (by simp) _ _ _ [37] rfl (Bs.lit _ 5 (by simp) (by simp) rfl rfl (by decide)) (by omega) (by have := HB.out.size; simp; omega) ?_
      intro g2 c2 w2 ho2 hg2 hb2
      have HO2 := Lib.hid ho2
      have HB2 := Lib.hid ((HB.out.alloc HB.out.size _).trans hb2)
      clear ho2 hb2 hg2 HO' HB
      go_wp2
      go_loopw [8, 11] (fun v n wr => ∃ g c1, ∃ i m : Nat, v = .slice (some ⟨g, 0, none⟩) m c1 ∧ n = .int .i64 i ∧ i ≤ M ∧ m ≤ 16 + i ∧ Hid (OwnB w1.heap.size 5 wr (some ⟨g, 0, none⟩) m c1 (blanksL K ++ [37] ++ noNl (F.take i))) ∧ Hid (Below w1.heap.size w1 wr)) (fun _ n _ => 160 - (intOf n).toNat)
      case atStart => exact ⟨_, _, 0, m + 1, rfl, rfl, by omega, by omega, Lib.hid (by rw [List.take_zero, show noNl [] = [] from rfl, List.append_nil]; exact HO2.out), HB2⟩
      case round =>
        obtain ⟨g3, c3, i, m, rfl, rfl, hi, hm, HO, HB⟩ := hrel
        clear HO2 HB2
        rename World => wb
        have HWb : Hid (Below w.heap.size w wb) := Lib.hid (HW1.out.trans (HB.out.mono HW1.out.size))
        by_cases hlt : i < M
        · have hbs := H.out.below HWb.out
          obtain ⟨b, off, rfl, _, hcc⟩ := hbs.at_ (by omega)
          have hck := hcc i (by omega)
          have hil : i < len := by omega
          have hr01 := bt_rng hbs.rng i
          have hr0 := hr01.1
          have hr1 := hr01.2
          have HE : Hid (bt F i = bt l i) := Lib.hid (by rw [← HFe.out, bt_take _ _ _ (by omega)])
          have HFl := Lib.hid HF.out.hl
          clear hbs hcc hr01
          go_wp2_with fail
          refine (few_any _ _ _ _ _ (H.out.below HWb.out)).mono ?_
          rintro e w' ⟨rfl, rfl⟩
          rw [HM.out]
          by_cases h10 : bt l i = 10
          · have e10 : (bt l i != 10) = false := by simpa using h10
            have HN1 : Hid (noNl (F.take (i + 1)) = noNl (F.take i)) := Lib.hid (noNl_skip (by rw [HFl.out]; exact hlt) (by rw [HE.out]; exact h10))
            clear h10
            go_wp2
            go_roundw
            case rel => exact ⟨_, _, i + 1, m, rfl, by go_num, by omega, by omega, Lib.hid (by rw [HN1.out]; exact HO.out), HB⟩
            case measure => simp [intOf]; omega
          · have e10 : (bt l i != 10) = true := by simpa using h10
            have HN1 : Hid (noNl (F.take (i + 1)) = noNl (F.take i) ++ [bt l i]) := Lib.hid (by rw [← HE.out]; exact noNl_take (by rw [HFl.out]; exact hlt) (by rw [HE.out]; exact h10))
            clear h10
            go_wp2_with (at_builtin; refine Hid.out ?_)
            refine Lib.hid ?_
            refine wpList_appx rfl (.tmp 50) (.tmp 55) 22 rfl 5 w1.heap.size Tryd.underlying22 info5 _ _ _ _ rfl (HO.out.alloc _) (by simp) _ _ _ [bt l i] rfl (Bs.lit _ 5 (by simp) (by intro x hx; simp at hx; omega) rfl rfl (by decide)) (by omega) (by have := HB.out.size; simp; omega) ?_
            intro g4 c4 w4 ho4 hg4 hb4
            rw [List.append_assoc, ← HN1.out] at ho4
            have HO4 := Lib.hid ho4
            have HB4 := Lib.hid ((HB.out.alloc HB.out.size _).trans hb4)
            clear ho4 hb4 hg4
            go_wp2
            go_roundw
            case rel => exact ⟨_, _, i + 1, m + 1, rfl, by go_num, by omega, by omega, HO4, HB4⟩
            case measure => simp [intOf]; omega
        · have HO' : Hid (OwnB w1.heap.size 5 wb (some ⟨g3, 0, none⟩) m c3 (lineOf K F)) := Lib.hid (by have := HO.out; rwa [show F.take i = F from List.take_of_length_le (by rw [HF.out.hl]; omega)] at this)
          have hml : (lineOf K F).length = m := HO'.out.bs.hl
          have HS1 : Hid (sk (lineOf K F) = (m, 0)) := Lib.hid (by rw [sk_one, hml])
          have HS2 : Hid (sk (lineOf K F ++ [10] ++ G) = (m + 1 + (sk G).1, (sk G).2)) := Lib.hid (by rw [sk_two, hml]; rfl)
          obtain ⟨L, hL⟩ : ∃ L, L = lineOf K F := ⟨_, rfl⟩
          rw [← hL] at HO' HS1 HS2
          clear HO hml hL
          go_wp2_with fail
          refine (few_any _ _ _ _ _ (H.out.below HWb.out)).mono ?_
          rintro e w' ⟨rfl, rfl⟩
          rw [HM.out]
          go_wp2_with fail
          refine (lskip_any _ _ _ _ _ HO'.out.bs (HT.out.keep HWb.out) (by omega)).mono ?_
          rintro e w5 ⟨rfl, hb5⟩
          have HW5 : Hid (Below w.heap.size w w5) := Lib.hid (HWb.out.trans (hb5.mono HWb.out.size))
          have HL5 := Lib.hid (HO'.out.bs.below hb5)
          clear hb5 HO'
          rw [HS1.out]
          go_wp2_with (at_builtin; refine Hid.out ?_)
          refine Lib.hid ?_
          refine wpList_appx rfl (.tmp 63) (.tmp 64) 22 rfl 5 w5.heap.size Tryd.underlying22 info5 _ _ _ [] rfl (OwnB.made (Nat.le_refl _)) (by simp) _ _ _ L rfl (HL5.out.alloc _) (by omega) (by simp) ?_
          intro g6 c6 w6 ho6 hg6 hb6
          simp only [Nat.zero_add, List.nil_append] at ho6 ⊢
          have HO6 := Lib.hid ho6
          have HB6 : Hid (Below w5.heap.size w5 w6) := Lib.hid (((Below.refl _ _).alloc (Nat.le_refl _) _).trans hb6)
          clear ho6 hb6 hg6
          go_wp2_with (at_builtin; refine Hid.out ?_)
          refine Lib.hid ?_
          refine wpList_appx rfl (.tmp 65) (.tmp 66) 22 rfl 5 w5.heap.size Tryd.underlying22 info5 _ _ _ _ rfl (HO6.out.alloc _) (by simp) _ _ _ [10] rfl (Bs.lit _ 5 (by simp) (by simp) rfl rfl (by decide)) (by omega) (by have := HB6.out.size; simp; omega) ?_
          intro g7 c7 w7 ho7 hg7 hb7
          have HO7 := Lib.hid ho7
          have HB7 : Hid (Below w5.heap.size w5 w7) := Lib.hid ((HB6.out.alloc HB6.out.size _).trans hb7)
          have HW7 : Hid (Below w.heap.size w w7) := Lib.hid (HW5.out.trans (HB7.out.mono HW5.out.size))
          clear ho7 hb7 hg7 HO6
          go_wp2_with fail
          refine (few_any _ _ _ _ _ (H'.out.below HW7.out)).mono ?_
          rintro e w' ⟨rfl, rfl⟩
          rw [HN.out]
          go_wp2_with (at_builtin; refine Hid.out ?_)
          refine Lib.hid ?_
          refine wpList_appx rfl (.tmp 67) (.tmp 69) 22 rfl 5 w5.heap.size Tryd.underlying22 info5 _ _ _ _ rfl HO7.out (by simp) _ _ _ G rfl (HG.out.below HW7.out) (by omega) HB7.out.size ?_
          intro g8 c8 w8 ho8 hg8 hb8
          have HO8 := Lib.hid ho8
          have HW8 : Hid (Below w.heap.size w w8) := Lib.hid (HW5.out.trans ((HB7.out.trans hb8).mono HW5.out.size))
          clear ho8 hb8 hg8 HO7 HB6 HB7
          go_wp2_with fail
          refine (lskip_any _ _ _ _ _ HO8.out.bs (HT.out.keep HW8.out) (by omega)).mono ?_
          rintro e w9 ⟨rfl, hb9⟩
          have HW9 : Hid (Below w.heap.size w w9) := Lib.hid (HW8.out.trans (hb9.mono HW8.out.size))
          clear hb9 HO8
          rw [HS2.out]
          go_wp2_with fail
          refine (few_any _ _ _ _ _ (H'.out.below HW9.out)).mono ?_
          rintro e w' ⟨rfl, rfl⟩
          rw [HN.out]
          go_wp2_with fail
          refine (lskip_any _ _ _ _ _ (HG.out.below HW9.out) (HT.out.keep HW9.out) (by omega)).mono ?_
          rintro e w10 ⟨rfl, hb10⟩
          have HW10 : Hid (Below w.heap.size w w10) := Lib.hid (HW9.out.trans (hb10.mono HW9.out.size))
          clear hb10
          have hq := (sk_ends G).1
          rw [HG.out.hl] at hq
          generalize sk G = q at *
          obtain ⟨q1, q2⟩ := q
          go_wp2
          go_ret
          exact ⟨rfl, HW10.out⟩

end Go.Proofs.YtcblggfohjkmhaaDoor
