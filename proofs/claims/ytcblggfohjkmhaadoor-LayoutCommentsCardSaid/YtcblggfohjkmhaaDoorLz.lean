/- LayoutComments' walk. -/
import Derived.Test.YtcblggfohjkmhaaDoorLe
namespace Go.Proofs.YtcblggfohjkmhaaDoor
open Go.RowKit

def rep : Nat → List Int → List Int
  | 0, _ => []
  | k + 1, x => x ++ rep k x

theorem rep_end : ∀ (k : Nat) (x : List Int), rep k x ++ x = rep (k + 1) x
  | 0, x => by simp [rep]
  | k + 1, x => by rw [rep, List.append_assoc, rep_end k x]; rfl
theorem rep_length : ∀ (k : Nat) (x : List Int), (rep k x).length = k * x.length
  | 0, x => by simp [rep]
  | k + 1, x => by rw [rep, List.length_append, rep_length k x, Nat.succ_mul, Nat.add_comm]

theorem cm_char {c : Int} {r : List Int} {d : Int} (h1 : c ≠ 47) (h2 : c ≠ 42) : cm (c :: r) d = (cm r d).map (· + 1) := by
  have hp : ∀ x y, c ≠ x → pre2 x y (c :: r) = false := by
    intro x y hx
    cases hq : pre2 x y (c :: r) with
    | false => rfl
    | true =>
      have := (pre2_iff.1 hq).2.1
      exact absurd (by simpa [bt, List.getD] using this) hx
  rw [cm_else (by simp) (hp _ _ h1) (hp _ _ h2)]; rfl

theorem cm_opens {c : Int} (h1 : c ≠ 47) (h2 : c ≠ 42) : ∀ (j : Nat) (X : List Int) (d : Int), cm (rep j [47, 42, c] ++ X) d = (cm X (d + j)).map (· + 3 * j)
  | 0, X, d => by simp [rep]
  | j + 1, X, d => by
    rw [rep, List.append_assoc, show ([47, 42, c] ++ (rep j [47, 42, c] ++ X) : List Int) = 47 :: 42 :: c :: (rep j [47, 42, c] ++ X) from rfl, cm, if_pos ⟨rfl, rfl⟩, cm_char h1 h2, cm_opens h1 h2 j X, Option.map_map, Option.map_map,
      show d + ((j + 1 : Nat) : Int) = d + 1 + j by omega]
    congr 1

theorem cm_closes {c : Int} (h1 : c ≠ 47) (h2 : c ≠ 42) : ∀ (j : Nat) (X : List Int), cm (rep (j + 1) [c, 42, 47] ++ X) ((j + 1 : Nat) : Int) = some (3 * (j + 1))
  | 0, X => by
    rw [rep, show ([c, 42, 47] ++ rep 0 [c, 42, 47] ++ X : List Int) = c :: 42 :: 47 :: X from rfl, cm_char h1 h2, cm, if_neg (by decide), if_pos ⟨rfl, rfl⟩, if_pos (by omega)]; rfl
  | j + 1, X => by
    rw [rep, List.append_assoc, show ([c, 42, 47] ++ (rep (j + 1) [c, 42, 47] ++ X) : List Int) = c :: 42 :: 47 :: (rep (j + 1) [c, 42, 47] ++ X) from rfl, cm_char h1 h2, cm, if_neg (by decide), if_pos ⟨rfl, rfl⟩, if_neg (by omega),
      show ((j + 1 + 1 : Nat) : Int) - 1 = ((j + 1 : Nat) : Int) by omega, cm_closes h1 h2 j X]
    simp; omega

theorem cm_cut {c : Int} (h1 : c ≠ 47) (h2 : c ≠ 42) : ∀ (j : Nat) (d : Int), (j : Int) < d → cm (rep j [c, 42, 47]) d = none
  | 0, d, _ => rfl
  | j + 1, d, hd => by
    rw [rep, show ([c, 42, 47] ++ rep j [c, 42, 47] : List Int) = c :: 42 :: 47 :: rep j [c, 42, 47] from rfl, cm_char h1 h2, cm, if_neg (by decide), if_pos ⟨rfl, rfl⟩, if_neg (by omega), cm_cut h1 h2 j (d - 1) (by omega)]; rfl

theorem rep_head {k : Nat} {c : Int} {X : List Int} : bt (rep (k + 1) [47, 42, c] ++ X) 0 = 47 ∧ pre2 47 42 (rep (k + 1) [47, 42, c] ++ X) = true := by
  rw [rep, List.append_assoc]
  exact ⟨rfl, by rw [show ([47, 42, c] ++ (rep k [47, 42, c] ++ X) : List Int) = 47 :: 42 :: c :: (rep k [47, 42, c] ++ X) from rfl, pre2_cons]; rfl⟩

theorem sk_whole {c : Int} (h1 : c ≠ 47) (h2 : c ≠ 42) (k : Nat) (B : List Int) : sk (rep (k + 1) [47, 42, c] ++ rep (k + 1) [c, 42, 47] ++ B) = addN (6 * (k + 1)) (sk B) := by
  rw [List.append_assoc]
  obtain ⟨e1, e2⟩ := rep_head (k := k) (c := c) (X := rep (k + 1) [c, 42, 47] ++ B)
  rw [sk_unfold _ (by have := (pre2_iff.1 e2).1; omega), if_neg (by rw [e1]; exact cls_47), if_neg (by rw [e1]; decide), if_pos e2, cm_opens h1 h2, show (0 : Int) + ((k + 1 : Nat) : Int) = ((k + 1 : Nat) : Int) by omega, cm_closes h1 h2]
  show addN (3 * (k + 1) + 3 * (k + 1)) _ = _
  rw [show 3 * (k + 1) + 3 * (k + 1) = 6 * (k + 1) by omega]
  congr 2
  rw [← List.append_assoc]
  exact List.drop_left' (by rw [List.length_append, rep_length, rep_length]; simp; omega)

theorem sk_cut {c : Int} (h1 : c ≠ 47) (h2 : c ≠ 42) (k : Nat) : sk ((rep (k + 1) [47, 42, c] ++ rep (k + 1) [c, 42, 47]).take (6 * (k + 1) - 3)) = (0, 14) := by
  have ht : (rep (k + 1) [47, 42, c] ++ rep (k + 1) [c, 42, 47]).take (6 * (k + 1) - 3) = rep (k + 1) [47, 42, c] ++ rep k [c, 42, 47] := by
    rw [← rep_end k [c, 42, 47], ← List.append_assoc]
    exact List.take_left' (by rw [List.length_append, rep_length, rep_length]; simp; omega)
  rw [ht]
  obtain ⟨e1, e2⟩ := rep_head (k := k) (c := c) (X := rep k [c, 42, 47])
  rw [sk_unfold _ (by have := (pre2_iff.1 e2).1; omega), if_neg (by rw [e1]; exact cls_47), if_neg (by rw [e1]; decide), if_pos e2, cm_opens h1 h2, cm_cut h1 h2 k _ (by omega)]
  rfl

set_option maxRecDepth 100000 in
set_option maxHeartbeats 2000000 in
theorem layoutComments_c (d c : Int) (a : Option Addr) (len cap : Nat) (l : List Int) (w : World) (hd0 : 0 ≤ d) (hd1 : d ≤ 255) (hc0 : 0 ≤ c) (hc1 : c ≤ 255) (e1 : (c == 47) = false) (e2 : (c == 42) = false) (h : Bs w a len cap l) (ht : Tab w) :
    Calls Tryd.prog 5 #[.int .u8 d, .int .u8 c, .slice a len cap] w fun e w' => e = .returned (.bool true) ∧ Below w.heap.size w w' := by
  obtain ⟨K, hK⟩ : ∃ K : Nat, (K : Int) = d % 16 := ⟨(d % 16).toNat, by omega⟩
  have hK15 : K ≤ 15 := by omega
  have HK := Lib.hid hK
  have n1 : c ≠ 47 := by simpa using e1
  have n2 : c ≠ 42 := by simpa using e2
  have HN1 := Lib.hid n1
  have HN2 := Lib.hid n2
  clear n1 n2
  have HF := Lib.hid (few_bs h)
  have H := Lib.hid h
  have HT := Lib.hid ht
  obtain ⟨M, hM⟩ : ∃ M, min len 150 = M := ⟨_, rfl⟩
  have HM := Lib.hid hM
  have hM150 : M ≤ 150 := by omega
  rw [hM] at HF
  obtain ⟨F, hF⟩ : ∃ F, l.take 150 = F := ⟨_, rfl⟩
  rw [hF] at HF
  have hmcm := HF.out.cm
  have hmlc := HF.out.lc
  unfold maxLen at hmcm
  clear h ht hM hF
  go_enter Tryd.func5, Tryd.ntmps5
  go_wp2_with fail
  refine (shown_any _ HT.out).mono ?_
  rintro e w1 ⟨rfl, hb1⟩
  have HW1 := Lib.hid hb1
  clear hb1
  go_wp2
  rw [← HK.out]
  clear hK
  go_loopw [9, 10] (fun v n wr => ∃ a1 c1, ∃ i m : Nat, v = .slice a1 m c1 ∧ n = .int .i64 i ∧ i ≤ K + 1 ∧ m ≤ 3 * i ∧ 3 * i ≤ m ∧ Hid (OwnB w1.heap.size 5 wr a1 m c1 (rep i [47, 42, c])) ∧ Hid (Below w1.heap.size w1 wr)) (fun _ n _ => 17 - (intOf n).toNat)
  case atStart => exact ⟨_, _, 0, 0, rfl, rfl, by omega, by omega, by omega, Lib.hid (OwnB.made (Nat.le_refl _)), Lib.hid ((Below.refl _ _).alloc (Nat.le_refl _) _)⟩
  case round =>
    obtain ⟨a1, c1, i, m, rfl, rfl, hi, hm1, hm2, HO, HB⟩ := hrel
    rename World => wa
    by_cases hlt : i < K + 1
    · go_wp2_with (at_builtin; refine Hid.out ?_)
      refine Lib.hid ?_
      refine wpList_app rfl (.tmp 35) (.tmp 37) 22 rfl 5 w1.heap.size Tryd.underlying22 info5 _ _ _ _ rfl (HO.out.alloc _) _ _ _ [47, 42, c] rfl (Bs.lit _ 5 (by simp) (by intro x hx; simp at hx; omega) rfl rfl (by decide)) (by omega) (by have := HB.out.size; simp; omega) ?_
      intro a2 c2 w2 ho2 hb2
      rw [rep_end] at ho2
      have HO2 := Lib.hid ho2
      have HB2 := Lib.hid ((HB.out.alloc HB.out.size _).trans hb2)
      clear ho2 hb2
      go_wp2
      go_roundw
      case rel => exact ⟨_, _, i + 1, m + 3, rfl, by go_num, by omega, by omega, by omega, HO2, HB2⟩
      case measure => simp [intOf]; omega
    · have HG : Hid (OwnB w1.heap.size 5 wa a1 m c1 (rep (K + 1) [47, 42, c])) := Lib.hid (by have := HO.out; rwa [show i = K + 1 by omega] at this)
      clear HO
      go_wp2
      go_loopw [9, 11] (fun v n wr => ∃ a1 c1, ∃ j m : Nat, v = .slice a1 m c1 ∧ n = .int .i64 j ∧ j ≤ K + 1 ∧ m ≤ 3 * (K + 1) + 3 * j ∧ 3 * (K + 1) + 3 * j ≤ m ∧ Hid (OwnB w1.heap.size 5 wr a1 m c1 (rep (K + 1) [47, 42, c] ++ rep j [c, 42, 47])) ∧ Hid (Below w1.heap.size w1 wr)) (fun _ n _ => 17 - (intOf n).toNat)
      case atStart => exact ⟨_, _, 0, m, rfl, rfl, by omega, by omega, by omega, Lib.hid (by have := HG.out; rwa [show rep 0 [c, 42, 47] = [] from rfl, List.append_nil]), HB⟩
      case round =>
        obtain ⟨a2, c2, j, n, rfl, rfl, hj, hn1, hn2, HO, HB2⟩ := hrel
        clear HG HB
        rename World => wb
        by_cases hjt : j < K + 1
        · go_wp2_with (at_builtin; refine Hid.out ?_)
          refine Lib.hid ?_
          refine wpList_app rfl (.tmp 44) (.tmp 46) 22 rfl 5 w1.heap.size Tryd.underlying22 info5 _ _ _ _ rfl (HO.out.alloc _) _ _ _ [c, 42, 47] rfl (Bs.lit _ 5 (by simp) (by intro x hx; simp at hx; omega) rfl rfl (by decide)) (by omega) (by have := HB2.out.size; simp; omega) ?_
          intro a3 c3 w3 ho3 hb3
          rw [List.append_assoc, rep_end] at ho3
          have HO3 := Lib.hid ho3
          have HB3 := Lib.hid ((HB2.out.alloc HB2.out.size _).trans hb3)
          clear ho3 hb3
          go_wp2
          go_roundw
          case rel => exact ⟨_, _, j + 1, n + 3, rfl, by go_num, by omega, by omega, by omega, HO3, HB3⟩
          case measure => simp [intOf]; omega
        · have hn6 : n = 6 * (K + 1) := by omega
          have HS1 : Hid (sk ((rep (K + 1) [47, 42, c] ++ rep (K + 1) [c, 42, 47]) ++ F) = (n + (sk F).1, (sk F).2)) := Lib.hid (by rw [sk_whole HN1.out HN2.out, hn6]; rfl)
          have HS2 : Hid (sk ((rep (K + 1) [47, 42, c] ++ rep (K + 1) [c, 42, 47]).take (n - 3)) = (0, 14)) := Lib.hid (by rw [hn6]; exact sk_cut HN1.out HN2.out K)
          have HG : Hid (OwnB w1.heap.size 5 wb a2 n c2 (rep (K + 1) [47, 42, c] ++ rep (K + 1) [c, 42, 47])) := Lib.hid (by have := HO.out; rwa [show j = K + 1 by omega] at this)
          have hn3 : 3 ≤ n := by omega
          have hn96 : n ≤ 96 := by omega
          obtain ⟨L, hL⟩ : ∃ L, L = rep (K + 1) [47, 42, c] ++ rep (K + 1) [c, 42, 47] := ⟨_, rfl⟩
          rw [← hL] at HS1 HS2 HG
          clear HO hL hn6
          go_wp2_with (at_builtin; refine Hid.out ?_)
          refine Lib.hid ?_
          refine wpList_appx rfl (.tmp 49) (.tmp 50) 22 rfl 5 wb.heap.size Tryd.underlying22 info5 _ _ _ [] rfl (OwnB.made (Nat.le_refl _)) (by simp) _ _ _ L rfl (HG.out.bs.alloc _) (by omega) (by simp) ?_
          intro g3 c3 w3 ho3 hg3 hb3
          simp only [Nat.zero_add, List.nil_append] at ho3 ⊢
          have HO3 := Lib.hid ho3
          have HB3 : Hid (Below wb.heap.size wb w3) := Lib.hid (((Below.refl _ _).alloc (Nat.le_refl _) _).trans hb3)
          have HWb : Hid (Below w.heap.size w wb) := Lib.hid (HW1.out.trans (HB2.out.mono HW1.out.size))
          have HW3 : Hid (Below w.heap.size w w3) := Lib.hid (HWb.out.trans (HB3.out.mono HWb.out.size))
          have HL3 := Lib.hid (HG.out.bs.below HB3.out)
          clear ho3 hb3 hg3
          go_wp2_with fail
          refine (few_any _ _ _ _ _ (H.out.below HW3.out)).mono ?_
          rintro e w' ⟨rfl, rfl⟩
          rw [HM.out]
          go_wp2_with (at_builtin; refine Hid.out ?_)
          refine Lib.hid ?_
          refine wpList_appx rfl (.tmp 51) (.tmp 53) 22 rfl 5 wb.heap.size Tryd.underlying22 info5 _ _ _ _ rfl HO3.out (by simp) _ _ _ F rfl (HF.out.below HW3.out) (by omega) HB3.out.size ?_
          intro g4 c4 w4 ho4 hg4 hb4
          have HO4 := Lib.hid ho4
          have HB4 : Hid (Below wb.heap.size wb w4) := Lib.hid (HB3.out.trans hb4)
          have HW4 : Hid (Below w.heap.size w w4) := Lib.hid (HWb.out.trans (HB4.out.mono HWb.out.size))
          clear ho4 hb4 hg4 HL3
          go_wp2_with fail
          refine (lskip_any _ _ _ _ _ HO4.out.bs (HT.out.keep HW4.out) (by omega)).mono ?_
          rintro e w5 ⟨rfl, hb5⟩
          have HW5 : Hid (Below w.heap.size w w5) := Lib.hid (HW4.out.trans (hb5.mono HW4.out.size))
          have HL5 := Lib.hid ((HG.out.bs.below HB4.out).below hb5)
          clear hb5 HO3 HO4
          rw [HS1.out]
          go_wp2_with fail
          refine (few_any _ _ _ _ _ (H.out.below HW5.out)).mono ?_
          rintro e w' ⟨rfl, rfl⟩
          rw [HM.out]
          go_wp2_with fail
          refine (lskip_any _ _ _ _ _ (HF.out.below HW5.out) (HT.out.keep HW5.out) (by omega)).mono ?_
          rintro e w6 ⟨rfl, hb6⟩
          have HW6 : Hid (Below w.heap.size w w6) := Lib.hid (HW5.out.trans (hb6.mono HW5.out.size))
          have hl6 := HL5.out.below hb6
          have HL6 := Lib.hid (hl6.take (k := n - 3) (c' := c2) (by omega) (by have := hl6.lc; omega) hl6.cm)
          have hc2 := hl6.lc
          have hc2m := hl6.cm
          unfold maxLen at hc2m
          clear hb6 hl6
          go_wp2_with fail
          refine (lskip_any _ _ _ _ _ HL6.out (HT.out.keep HW6.out) (by omega)).mono ?_
          rintro e w7 ⟨rfl, hb7⟩
          have HW7 : Hid (Below w.heap.size w w7) := Lib.hid (HW6.out.trans (hb7.mono HW6.out.size))
          clear hb7
          rw [HS2.out]
          have hq := (sk_ends F).1
          rw [HF.out.hl] at hq
          generalize sk F = q at *
          obtain ⟨q1, q2⟩ := q
          go_wp2
          go_ret
          exact ⟨rfl, HW7.out⟩

set_option maxRecDepth 100000 in
set_option maxHeartbeats 2000000 in
theorem layoutComments_s (d c : Int) (a : Option Addr) (len cap : Nat) (l : List Int) (w : World) (hd0 : 0 ≤ d) (hd1 : d ≤ 255) (hc0 : 0 ≤ c) (hc1 : c ≤ 255) (e1 : (c == 47) = true) (h : Bs w a len cap l) (ht : Tab w) :
    Calls Tryd.prog 5 #[.int .u8 d, .int .u8 c, .slice a len cap] w fun e w' => e = .returned (.bool true) ∧ Below w.heap.size w w' := by
  obtain ⟨K, hK⟩ : ∃ K : Nat, (K : Int) = d % 16 := ⟨(d % 16).toNat, by omega⟩
  have hK15 : K ≤ 15 := by omega
  have HK := Lib.hid hK
  have HF := Lib.hid (few_bs h)
  have H := Lib.hid h
  have HT := Lib.hid ht
  obtain ⟨M, hM⟩ : ∃ M, min len 150 = M := ⟨_, rfl⟩
  have HM := Lib.hid hM
  have hM150 : M ≤ 150 := by omega
  rw [hM] at HF
  obtain ⟨F, hF⟩ : ∃ F, l.take 150 = F := ⟨_, rfl⟩
  rw [hF] at HF
  have hmcm := HF.out.cm
  have hmlc := HF.out.lc
  unfold maxLen at hmcm
  clear h ht hM hF
  go_enter Tryd.func5, Tryd.ntmps5
  go_wp2_with fail
  refine (shown_any _ HT.out).mono ?_
  rintro e w1 ⟨rfl, hb1⟩
  have HW1 := Lib.hid hb1
  clear hb1
  go_wp2
  rw [← HK.out]
  clear hK
  go_loopw [9, 10] (fun v n wr => ∃ a1 c1, ∃ i m : Nat, v = .slice a1 m c1 ∧ n = .int .i64 i ∧ i ≤ K + 1 ∧ m ≤ 3 * i ∧ 3 * i ≤ m ∧ Hid (OwnB w1.heap.size 5 wr a1 m c1 (rep i [47, 42, 120])) ∧ Hid (Below w1.heap.size w1 wr)) (fun _ n _ => 17 - (intOf n).toNat)
  case atStart => exact ⟨_, _, 0, 0, rfl, rfl, by omega, by omega, by omega, Lib.hid (OwnB.made (Nat.le_refl _)), Lib.hid ((Below.refl _ _).alloc (Nat.le_refl _) _)⟩
  case round =>
    obtain ⟨a1, c1, i, m, rfl, rfl, hi, hm1, hm2, HO, HB⟩ := hrel
    rename World => wa
    by_cases hlt : i < K + 1
    · go_wp2_with (at_builtin; refine Hid.out ?_)
      refine Lib.hid ?_
      refine wpList_app rfl (.tmp 35) (.tmp 37) 22 rfl 5 w1.heap.size Tryd.underlying22 info5 _ _ _ _ rfl (HO.out.alloc _) _ _ _ [47, 42, 120] rfl (Bs.lit _ 5 (by simp) (by intro x hx; simp at hx; omega) rfl rfl (by decide)) (by omega) (by have := HB.out.size; simp; omega) ?_
      intro a2 c2 w2 ho2 hb2
      rw [rep_end] at ho2
      have HO2 := Lib.hid ho2
      have HB2 := Lib.hid ((HB.out.alloc HB.out.size _).trans hb2)
      clear ho2 hb2
      go_wp2
      go_roundw
      case rel => exact ⟨_, _, i + 1, m + 3, rfl, by go_num, by omega, by omega, by omega, HO2, HB2⟩
      case measure => simp [intOf]; omega
    · have HG : Hid (OwnB w1.heap.size 5 wa a1 m c1 (rep (K + 1) [47, 42, 120])) := Lib.hid (by have := HO.out; rwa [show i = K + 1 by omega] at this)
      clear HO
      go_wp2
      go_loopw [9, 11] (fun v n wr => ∃ a1 c1, ∃ j m : Nat, v = .slice a1 m c1 ∧ n = .int .i64 j ∧ j ≤ K + 1 ∧ m ≤ 3 * (K + 1) + 3 * j ∧ 3 * (K + 1) + 3 * j ≤ m ∧ Hid (OwnB w1.heap.size 5 wr a1 m c1 (rep (K + 1) [47, 42, 120] ++ rep j [120, 42, 47])) ∧ Hid (Below w1.heap.size w1 wr)) (fun _ n _ => 17 - (intOf n).toNat)
      case atStart => exact ⟨_, _, 0, m, rfl, rfl, by omega, by omega, by omega, Lib.hid (by have := HG.out; rwa [show rep 0 [120, 42, 47] = [] from rfl, List.append_nil]), HB⟩
      case round =>
        obtain ⟨a2, c2, j, n, rfl, rfl, hj, hn1, hn2, HO, HB2⟩ := hrel
        clear HG HB
        rename World => wb
        by_cases hjt : j < K + 1
        · go_wp2_with (at_builtin; refine Hid.out ?_)
          refine Lib.hid ?_
          refine wpList_app rfl (.tmp 44) (.tmp 46) 22 rfl 5 w1.heap.size Tryd.underlying22 info5 _ _ _ _ rfl (HO.out.alloc _) _ _ _ [120, 42, 47] rfl (Bs.lit _ 5 (by simp) (by intro x hx; simp at hx; omega) rfl rfl (by decide)) (by omega) (by have := HB2.out.size; simp; omega) ?_
          intro a3 c3 w3 ho3 hb3
          rw [List.append_assoc, rep_end] at ho3
          have HO3 := Lib.hid ho3
          have HB3 := Lib.hid ((HB2.out.alloc HB2.out.size _).trans hb3)
          clear ho3 hb3
          go_wp2
          go_roundw
          case rel => exact ⟨_, _, j + 1, n + 3, rfl, by go_num, by omega, by omega, by omega, HO3, HB3⟩
          case measure => simp [intOf]; omega
        · have hn6 : n = 6 * (K + 1) := by omega
          have HS1 : Hid (sk ((rep (K + 1) [47, 42, 120] ++ rep (K + 1) [120, 42, 47]) ++ F) = (n + (sk F).1, (sk F).2)) := Lib.hid (by rw [sk_whole (by decide) (by decide), hn6]; rfl)
          have HS2 : Hid (sk ((rep (K + 1) [47, 42, 120] ++ rep (K + 1) [120, 42, 47]).take (n - 3)) = (0, 14)) := Lib.hid (by rw [hn6]; exact sk_cut (by decide) (by decide) K)
          have HG : Hid (OwnB w1.heap.size 5 wb a2 n c2 (rep (K + 1) [47, 42, 120] ++ rep (K + 1) [120, 42, 47])) := Lib.hid (by have := HO.out; rwa [show j = K + 1 by omega] at this)
          have hn3 : 3 ≤ n := by omega
          have hn96 : n ≤ 96 := by omega
          obtain ⟨L, hL⟩ : ∃ L, L = rep (K + 1) [47, 42, 120] ++ rep (K + 1) [120, 42, 47] := ⟨_, rfl⟩
          rw [← hL] at HS1 HS2 HG
          clear HO hL hn6
          go_wp2_with (at_builtin; refine Hid.out ?_)
          refine Lib.hid ?_
          refine wpList_appx rfl (.tmp 49) (.tmp 50) 22 rfl 5 wb.heap.size Tryd.underlying22 info5 _ _ _ [] rfl (OwnB.made (Nat.le_refl _)) (by simp) _ _ _ L rfl (HG.out.bs.alloc _) (by omega) (by simp) ?_
          intro g3 c3 w3 ho3 hg3 hb3
          simp only [Nat.zero_add, List.nil_append] at ho3 ⊢
          have HO3 := Lib.hid ho3
          have HB3 : Hid (Below wb.heap.size wb w3) := Lib.hid (((Below.refl _ _).alloc (Nat.le_refl _) _).trans hb3)
          have HWb : Hid (Below w.heap.size w wb) := Lib.hid (HW1.out.trans (HB2.out.mono HW1.out.size))
          have HW3 : Hid (Below w.heap.size w w3) := Lib.hid (HWb.out.trans (HB3.out.mono HWb.out.size))
          have HL3 := Lib.hid (HG.out.bs.below HB3.out)
          clear ho3 hb3 hg3
          go_wp2_with fail
          refine (few_any _ _ _ _ _ (H.out.below HW3.out)).mono ?_
          rintro e w' ⟨rfl, rfl⟩
          rw [HM.out]
          go_wp2_with (at_builtin; refine Hid.out ?_)
          refine Lib.hid ?_
          refine wpList_appx rfl (.tmp 51) (.tmp 53) 22 rfl 5 wb.heap.size Tryd.underlying22 info5 _ _ _ _ rfl HO3.out (by simp) _ _ _ F rfl (HF.out.below HW3.out) (by omega) HB3.out.size ?_
          intro g4 c4 w4 ho4 hg4 hb4
          have HO4 := Lib.hid ho4
          have HB4 : Hid (Below wb.heap.size wb w4) := Lib.hid (HB3.out.trans hb4)
          have HW4 : Hid (Below w.heap.size w w4) := Lib.hid (HWb.out.trans (HB4.out.mono HWb.out.size))
          clear ho4 hb4 hg4 HL3
          go_wp2_with fail
          refine (lskip_any _ _ _ _ _ HO4.out.bs (HT.out.keep HW4.out) (by omega)).mono ?_
          rintro e w5 ⟨rfl, hb5⟩
          have HW5 : Hid (Below w.heap.size w w5) := Lib.hid (HW4.out.trans (hb5.mono HW4.out.size))
          have HL5 := Lib.hid ((HG.out.bs.below HB4.out).below hb5)
          clear hb5 HO3 HO4
          rw [HS1.out]
          go_wp2_with fail
          refine (few_any _ _ _ _ _ (H.out.below HW5.out)).mono ?_
          rintro e w' ⟨rfl, rfl⟩
          rw [HM.out]
          go_wp2_with fail
          refine (lskip_any _ _ _ _ _ (HF.out.below HW5.out) (HT.out.keep HW5.out) (by omega)).mono ?_
          rintro e w6 ⟨rfl, hb6⟩
          have HW6 : Hid (Below w.heap.size w w6) := Lib.hid (HW5.out.trans (hb6.mono HW5.out.size))
          have hl6 := HL5.out.below hb6
          have HL6 := Lib.hid (hl6.take (k := n - 3) (c' := c2) (by omega) (by have := hl6.lc; omega) hl6.cm)
          have hc2 := hl6.lc
          have hc2m := hl6.cm
          unfold maxLen at hc2m
          clear hb6 hl6
          go_wp2_with fail
          refine (lskip_any _ _ _ _ _ HL6.out (HT.out.keep HW6.out) (by omega)).mono ?_
          rintro e w7 ⟨rfl, hb7⟩
          have HW7 : Hid (Below w.heap.size w w7) := Lib.hid (HW6.out.trans (hb7.mono HW6.out.size))
          clear hb7
          rw [HS2.out]
          have hq := (sk_ends F).1
          rw [HF.out.hl] at hq
          generalize sk F = q at *
          obtain ⟨q1, q2⟩ := q
          go_wp2
          go_ret
          exact ⟨rfl, HW7.out⟩

set_option maxRecDepth 100000 in
set_option maxHeartbeats 2000000 in
theorem layoutComments_t (d c : Int) (a : Option Addr) (len cap : Nat) (l : List Int) (w : World) (hd0 : 0 ≤ d) (hd1 : d ≤ 255) (hc0 : 0 ≤ c) (hc1 : c ≤ 255) (e1 : (c == 47) = false) (e2 : (c == 42) = true) (h : Bs w a len cap l) (ht : Tab w) :
    Calls Tryd.prog 5 #[.int .u8 d, .int .u8 c, .slice a len cap] w fun e w' => e = .returned (.bool true) ∧ Below w.heap.size w w' := by
  obtain ⟨K, hK⟩ : ∃ K : Nat, (K : Int) = d % 16 := ⟨(d % 16).toNat, by omega⟩
  have hK15 : K ≤ 15 := by omega
  have HK := Lib.hid hK
  have HF := Lib.hid (few_bs h)
  have H := Lib.hid h
  have HT := Lib.hid ht
  obtain ⟨M, hM⟩ : ∃ M, min len 150 = M := ⟨_, rfl⟩
  have HM := Lib.hid hM
  have hM150 : M ≤ 150 := by omega
  rw [hM] at HF
  obtain ⟨F, hF⟩ : ∃ F, l.take 150 = F := ⟨_, rfl⟩
  rw [hF] at HF
  have hmcm := HF.out.cm
  have hmlc := HF.out.lc
  unfold maxLen at hmcm
  clear h ht hM hF
  go_enter Tryd.func5, Tryd.ntmps5
  go_wp2_with fail
  refine (shown_any _ HT.out).mono ?_
  rintro e w1 ⟨rfl, hb1⟩
  have HW1 := Lib.hid hb1
  clear hb1
  go_wp2
  rw [← HK.out]
  clear hK
  go_loopw [9, 10] (fun v n wr => ∃ a1 c1, ∃ i m : Nat, v = .slice a1 m c1 ∧ n = .int .i64 i ∧ i ≤ K + 1 ∧ m ≤ 3 * i ∧ 3 * i ≤ m ∧ Hid (OwnB w1.heap.size 5 wr a1 m c1 (rep i [47, 42, 120])) ∧ Hid (Below w1.heap.size w1 wr)) (fun _ n _ => 17 - (intOf n).toNat)
  case atStart => exact ⟨_, _, 0, 0, rfl, rfl, by omega, by omega, by omega, Lib.hid (OwnB.made (Nat.le_refl _)), Lib.hid ((Below.refl _ _).alloc (Nat.le_refl _) _)⟩
  case round =>
    obtain ⟨a1, c1, i, m, rfl, rfl, hi, hm1, hm2, HO, HB⟩ := hrel
    rename World => wa
    by_cases hlt : i < K + 1
    · go_wp2_with (at_builtin; refine Hid.out ?_)
      refine Lib.hid ?_
      refine wpList_app rfl (.tmp 35) (.tmp 37) 22 rfl 5 w1.heap.size Tryd.underlying22 info5 _ _ _ _ rfl (HO.out.alloc _) _ _ _ [47, 42, 120] rfl (Bs.lit _ 5 (by simp) (by intro x hx; simp at hx; omega) rfl rfl (by decide)) (by omega) (by have := HB.out.size; simp; omega) ?_
      intro a2 c2 w2 ho2 hb2
      rw [rep_end] at ho2
      have HO2 := Lib.hid ho2
      have HB2 := Lib.hid ((HB.out.alloc HB.out.size _).trans hb2)
      clear ho2 hb2
      go_wp2
      go_roundw
      case rel => exact ⟨_, _, i + 1, m + 3, rfl, by go_num, by omega, by omega, by omega, HO2, HB2⟩
      case measure => simp [intOf]; omega
    · have HG : Hid (OwnB w1.heap.size 5 wa a1 m c1 (rep (K + 1) [47, 42, 120])) := Lib.hid (by have := HO.out; rwa [show i = K + 1 by omega] at this)
      clear HO
      go_wp2
      go_loopw [9, 11] (fun v n wr => ∃ a1 c1, ∃ j m : Nat, v = .slice a1 m c1 ∧ n = .int .i64 j ∧ j ≤ K + 1 ∧ m ≤ 3 * (K + 1) + 3 * j ∧ 3 * (K + 1) + 3 * j ≤ m ∧ Hid (OwnB w1.heap.size 5 wr a1 m c1 (rep (K + 1) [47, 42, 120] ++ rep j [120, 42, 47])) ∧ Hid (Below w1.heap.size w1 wr)) (fun _ n _ => 17 - (intOf n).toNat)
      case atStart => exact ⟨_, _, 0, m, rfl, rfl, by omega, by omega, by omega, Lib.hid (by have := HG.out; rwa [show rep 0 [120, 42, 47] = [] from rfl, List.append_nil]), HB⟩
      case round =>
        obtain ⟨a2, c2, j, n, rfl, rfl, hj, hn1, hn2, HO, HB2⟩ := hrel
        clear HG HB
        rename World => wb
        by_cases hjt : j < K + 1
        · go_wp2_with (at_builtin; refine Hid.out ?_)
          refine Lib.hid ?_
          refine wpList_app rfl (.tmp 44) (.tmp 46) 22 rfl 5 w1.heap.size Tryd.underlying22 info5 _ _ _ _ rfl (HO.out.alloc _) _ _ _ [120, 42, 47] rfl (Bs.lit _ 5 (by simp) (by intro x hx; simp at hx; omega) rfl rfl (by decide)) (by omega) (by have := HB2.out.size; simp; omega) ?_
          intro a3 c3 w3 ho3 hb3
          rw [List.append_assoc, rep_end] at ho3
          have HO3 := Lib.hid ho3
          have HB3 := Lib.hid ((HB2.out.alloc HB2.out.size _).trans hb3)
          clear ho3 hb3
          go_wp2
          go_roundw
          case rel => exact ⟨_, _, j + 1, n + 3, rfl, by go_num, by omega, by omega, by omega, HO3, HB3⟩
          case measure => simp [intOf]; omega
        · have hn6 : n = 6 * (K + 1) := by omega
          have HS1 : Hid (sk ((rep (K + 1) [47, 42, 120] ++ rep (K + 1) [120, 42, 47]) ++ F) = (n + (sk F).1, (sk F).2)) := Lib.hid (by rw [sk_whole (by decide) (by decide), hn6]; rfl)
          have HS2 : Hid (sk ((rep (K + 1) [47, 42, 120] ++ rep (K + 1) [120, 42, 47]).take (n - 3)) = (0, 14)) := Lib.hid (by rw [hn6]; exact sk_cut (by decide) (by decide) K)
          have HG : Hid (OwnB w1.heap.size 5 wb a2 n c2 (rep (K + 1) [47, 42, 120] ++ rep (K + 1) [120, 42, 47])) := Lib.hid (by have := HO.out; rwa [show j = K + 1 by omega] at this)
          have hn3 : 3 ≤ n := by omega
          have hn96 : n ≤ 96 := by omega
          obtain ⟨L, hL⟩ : ∃ L, L = rep (K + 1) [47, 42, 120] ++ rep (K + 1) [120, 42, 47] := ⟨_, rfl⟩
          rw [← hL] at HS1 HS2 HG
          clear HO hL hn6
          go_wp2_with (at_builtin; refine Hid.out ?_)
          refine Lib.hid ?_
          refine wpList_appx rfl (.tmp 49) (.tmp 50) 22 rfl 5 wb.heap.size Tryd.underlying22 info5 _ _ _ [] rfl (OwnB.made (Nat.le_refl _)) (by simp) _ _ _ L rfl (HG.out.bs.alloc _) (by omega) (by simp) ?_
          intro g3 c3 w3 ho3 hg3 hb3
          simp only [Nat.zero_add, List.nil_append] at ho3 ⊢
          have HO3 := Lib.hid ho3
          have HB3 : Hid (Below wb.heap.size wb w3) := Lib.hid (((Below.refl _ _).alloc (Nat.le_refl _) _).trans hb3)
          have HWb : Hid (Below w.heap.size w wb) := Lib.hid (HW1.out.trans (HB2.out.mono HW1.out.size))
          have HW3 : Hid (Below w.heap.size w w3) := Lib.hid (HWb.out.trans (HB3.out.mono HWb.out.size))
          have HL3 := Lib.hid (HG.out.bs.below HB3.out)
          clear ho3 hb3 hg3
          go_wp2_with fail
          refine (few_any _ _ _ _ _ (H.out.below HW3.out)).mono ?_
          rintro e w' ⟨rfl, rfl⟩
          rw [HM.out]
          go_wp2_with (at_builtin; refine Hid.out ?_)
          refine Lib.hid ?_
          refine wpList_appx rfl (.tmp 51) (.tmp 53) 22 rfl 5 wb.heap.size Tryd.underlying22 info5 _ _ _ _ rfl HO3.out (by simp) _ _ _ F rfl (HF.out.below HW3.out) (by omega) HB3.out.size ?_
          intro g4 c4 w4 ho4 hg4 hb4
          have HO4 := Lib.hid ho4
          have HB4 : Hid (Below wb.heap.size wb w4) := Lib.hid (HB3.out.trans hb4)
          have HW4 : Hid (Below w.heap.size w w4) := Lib.hid (HWb.out.trans (HB4.out.mono HWb.out.size))
          clear ho4 hb4 hg4 HL3
          go_wp2_with fail
          refine (lskip_any _ _ _ _ _ HO4.out.bs (HT.out.keep HW4.out) (by omega)).mono ?_
          rintro e w5 ⟨rfl, hb5⟩
          have HW5 : Hid (Below w.heap.size w w5) := Lib.hid (HW4.out.trans (hb5.mono HW4.out.size))
          have HL5 := Lib.hid ((HG.out.bs.below HB4.out).below hb5)
          clear hb5 HO3 HO4
          rw [HS1.out]
          go_wp2_with fail
          refine (few_any _ _ _ _ _ (H.out.below HW5.out)).mono ?_
          rintro e w' ⟨rfl, rfl⟩
          rw [HM.out]
          go_wp2_with fail
          refine (lskip_any _ _ _ _ _ (HF.out.below HW5.out) (HT.out.keep HW5.out) (by omega)).mono ?_
          rintro e w6 ⟨rfl, hb6⟩
          have HW6 : Hid (Below w.heap.size w w6) := Lib.hid (HW5.out.trans (hb6.mono HW5.out.size))
          have hl6 := HL5.out.below hb6
          have HL6 := Lib.hid (hl6.take (k := n - 3) (c' := c2) (by omega) (by have := hl6.lc; omega) hl6.cm)
          have hc2 := hl6.lc
          have hc2m := hl6.cm
          unfold maxLen at hc2m
          clear hb6 hl6
          go_wp2_with fail
          refine (lskip_any _ _ _ _ _ HL6.out (HT.out.keep HW6.out) (by omega)).mono ?_
          rintro e w7 ⟨rfl, hb7⟩
          have HW7 : Hid (Below w.heap.size w w7) := Lib.hid (HW6.out.trans (hb7.mono HW6.out.size))
          clear hb7
          rw [HS2.out]
          have hq := (sk_ends F).1
          rw [HF.out.hl] at hq
          generalize sk F = q at *
          obtain ⟨q1, q2⟩ := q
          go_wp2
          go_ret
          exact ⟨rfl, HW7.out⟩

theorem layoutComments_any (d c : Int) (a : Option Addr) (len cap : Nat) (l : List Int) (w : World) (hd0 : 0 ≤ d) (hd1 : d ≤ 255) (hc0 : 0 ≤ c) (hc1 : c ≤ 255) (h : Bs w a len cap l) (ht : Tab w) :
    Calls Tryd.prog 5 #[.int .u8 d, .int .u8 c, .slice a len cap] w fun e w' => e = .returned (.bool true) ∧ Below w.heap.size w w' := by
  cases e1 : c == 47 with
  | true => exact layoutComments_s d c a len cap l w hd0 hd1 hc0 hc1 e1 h ht
  | false =>
    cases e2 : c == 42 with
    | true => exact layoutComments_t d c a len cap l w hd0 hd1 hc0 hc1 e1 e2 h ht
    | false => exact layoutComments_c d c a len cap l w hd0 hd1 hc0 hc1 e1 e2 h ht

end Go.Proofs.YtcblggfohjkmhaaDoor
