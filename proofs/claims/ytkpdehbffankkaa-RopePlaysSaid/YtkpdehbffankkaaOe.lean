/- The document's New, Replace, Slice, At of layer 8. -/
import Derived.Test.YtkpdehbffankkaaNt
import Derived.Test.YtkpdehbffankkaaNu
import Derived.Deep.RegionHeld3
namespace Go.Proofs.Ytkpdehbffankkaa
open Go.RowKit

theorem rnew_any (a : Option Addr) (n cap : Nat) (l : List Int) (w : World) (h : Bs w a n cap l) (hn : n ≤ 2048) :
    Calls Try.prog 12 #[.slice a n cap] w fun e w' => ∃ g c, e = .returned (.tuple #[.slice (some ⟨g, 0, none⟩) n c, .int .i64 0]) ∧ OwnB w.heap.size 5 w' (some ⟨g, 0, none⟩) n c l ∧ Below w.heap.size w w' := by
  have hd : decide ((n : Int) > 2048) = false := by simp; omega
  have HO : Hid (OwnB w.heap.size 5 (w.alloc (.cells #[] 5)) (some ⟨w.heap.size, 0, none⟩) 0 0 []) := Lib.hid (OwnB.made (Nat.le_refl _))
  have HB2 := Lib.hid (h.alloc (.cells #[] 5))
  have HW : Hid (Below w.heap.size w (w.alloc (.cells #[] 5))) := Lib.hid ((Below.refl _ _).alloc (Nat.le_refl _) _)
  clear h
  go_enter Try.func12, Try.ntmps12
  go_wp2_with (at_builtin; refine wpList_appx rfl (.tmp 7) (.tmp 8) 22 rfl 5 w.heap.size Try.underlying22 info5 _ _ _ _ rfl HO.out (by simp) _ _ _ _ rfl HB2.out (by omega) HW.out.size ?_; intro g c w1 h1 _ h3; have H1 := Lib.hid h1; have H3 := Lib.hid (HW.out.trans h3); clear h1 h3; rw [Nat.zero_add] at H1 ⊢)
  exact bodyPost_ret (v := .tuple #[.slice (some ⟨g, 0, none⟩) n c, .int .i64 0]) (by simp [results, Try.results12, go_sem]) rfl ⟨g, c, rfl, H1.out, H3.out⟩

theorem rslice_bad (a : Option Addr) (n cap : Nat) (f k : Int) (w : World) (_ : n ≤ 4000000) (hi : f < 0 ∨ k < f ∨ (n : Int) < k) :
    Calls Try.prog 17 #[.slice a n cap, .int .i64 f, .int .i64 k] w fun r w' => r = .returned (.tuple #[.slice none 0 0, .int .i64 3]) ∧ w = w' := by
  by_cases h0 : f < 0
  · have hd0 : decide (f < 0) = true := by simpa using h0
    clear hi
    go_enter Try.func17, Try.ntmps17
    go_wp2
    exact bodyPost_ret (v := .tuple #[.slice none 0 0, .int .i64 3]) (by simp [results, Try.results17, go_sem]) rfl ⟨rfl, rfl⟩
  · have hd0 : decide (f < 0) = false := by simpa using h0
    by_cases h1 : k < f
    · have hd1 : decide (k < f) = true := by simpa using h1
      clear hi
      go_enter Try.func17, Try.ntmps17
      go_wp2
      exact bodyPost_ret (v := .tuple #[.slice none 0 0, .int .i64 3]) (by simp [results, Try.results17, go_sem]) rfl ⟨rfl, rfl⟩
    · have hd1 : decide (k < f) = false := by simpa using h1
      have hd2 : decide (k > (n : Int)) = true := by simp; omega
      clear hi
      go_enter Try.func17, Try.ntmps17
      go_wp2
      exact bodyPost_ret (v := .tuple #[.slice none 0 0, .int .i64 3]) (by simp [results, Try.results17, go_sem]) rfl ⟨rfl, rfl⟩

/-- b[k:h], whatever slice. -/
theorem slice_midg {a : Option Addr} {n c k h : Nat} (hk : k ≤ h) (hh : h ≤ n) (hc : n ≤ c) (_ : c ≤ maxLen) : ∃ a' c', (∀ w, (Instr.slice 22 (.slice a n c) (some (.int .i64 k)) (some (.int .i64 h)) none).run Try.prog w = .ok (.slice a' (h - k) c') w) ∧
    ∀ w l, Bs w a n c l → Bs w a' (h - k) c' (sub l k h) := by
  obtain ⟨i, hi, hz, hs, hby⟩ := info_parts info5
  have he : Try.prog.elem 22 = 5 := by kernel_rfl
  have hr : ∀ w, (Instr.slice 22 (.slice a n c) (some (.int .i64 k)) (some (.int .i64 h)) none).run Try.prog w = .ok (sliced a k h c 1) w := fun w => by
    have := run_slice_lh (P := Try.prog) w 22 a n c (by rw [he]; exact Try.underlying22) .i64 .i64 k h (by omega) (by omega) (by omega)
    rw [this, he, Int.toNat_natCast, Int.toNat_natCast]
    simp [sizeOf, typeInfo, hi, hs, Result.andThen]
  refine ⟨_, c - k, fun w => hr w, fun w l hb => ?_⟩
  by_cases h0 : h = k
  · subst h0
    rw [Nat.sub_self, sub_none (Nat.le_refl _)]
    exact Bs.nil _ _ _ (by omega)
  · obtain ⟨b, off, rfl, _, _⟩ := hb.at_ (by omega)
    rw [if_neg (by omega)]
    have := (hb.take hh (by omega) hb.cm).drop hk
    simpa [addr_add, sub] using this

set_option maxRecDepth 20000 in
theorem rslice_any (a : Option Addr) (n cap : Nat) (l : List Int) (f k : Nat) (w : World) (h : Bs w a n cap l) (hn : n ≤ 4000000) (hfk : f ≤ k) (hk : k ≤ n) :
    Calls Try.prog 17 #[.slice a n cap, .int .i64 f, .int .i64 k] w fun r w' => ∃ g c, r = .returned (.tuple #[.slice (some ⟨g, 0, none⟩) (k - f) c, .int .i64 0]) ∧ OwnB w.heap.size 5 w' (some ⟨g, 0, none⟩) (k - f) c (sub l f k) ∧ Below w.heap.size w w' := by
  have hd0 : decide ((f : Int) < 0) = false := by simp
  have hd1 : decide ((k : Int) < (f : Int)) = false := by simp; omega
  have hd2 : decide ((k : Int) > (n : Int)) = false := by simp; omega
  obtain ⟨a', c', hsl, hsb⟩ := slice_midg (a := a) hfk hk h.lc h.cm
  have HO : Hid (OwnB w.heap.size 5 (w.alloc (.cells #[] 5)) (some ⟨w.heap.size, 0, none⟩) 0 0 []) := Lib.hid (OwnB.made (Nat.le_refl _))
  have HB2 := Lib.hid ((hsb w l h).alloc (.cells #[] 5))
  have HW : Hid (Below w.heap.size w (w.alloc (.cells #[] 5))) := Lib.hid ((Below.refl _ _).alloc (Nat.le_refl _) _)
  obtain ⟨q, hq⟩ : ∃ q, k - f = q := ⟨_, rfl⟩
  rw [hq] at hsl HB2 ⊢
  have hq2 : q ≤ 4000000 := by omega
  clear h hsb hq
  go_enter Try.func17, Try.ntmps17
  go_wp2_with (at_builtin; refine wpList_appx rfl (.tmp 21) (.tmp 25) 22 rfl 5 w.heap.size Try.underlying22 info5 _ _ _ _ rfl HO.out (by simp) _ _ _ _ rfl HB2.out (by omega) HW.out.size ?_; intro g c w1 h1 _ h3; have H1 := Lib.hid h1; have H3 := Lib.hid (HW.out.trans h3); clear h1 h3; rw [Nat.zero_add] at H1 ⊢)
  exact bodyPost_ret (v := .tuple #[.slice (some ⟨g, 0, none⟩) q c, .int .i64 0]) (by simp [results, Try.results17, go_sem]) rfl ⟨g, c, rfl, H1.out, H3.out⟩

theorem rat_bad (a : Option Addr) (n cap : Nat) (i : Int) (w : World) (_ : n ≤ 4000000) (hi : i < 0 ∨ (n : Int) ≤ i) :
    Calls Try.prog 19 #[.slice a n cap, .int .i64 i] w fun r w' => r = .returned (.tuple #[.int .u8 0, .bool false]) ∧ w = w' := by
  by_cases h0 : i < 0
  · have hd0 : decide (i < 0) = true := by simpa using h0
    go_enter Try.func19, Try.ntmps19
    go_wp2
    exact bodyPost_ret (v := .tuple #[.int .u8 0, .bool false]) (by simp [results, Try.results19, go_sem]) rfl ⟨rfl, rfl⟩
  · have hd0 : decide (i < 0) = false := by simpa using h0
    have hd1 : decide (i ≥ (n : Int)) = true := by simp; omega
    go_enter Try.func19, Try.ntmps19
    go_wp2
    exact bodyPost_ret (v := .tuple #[.int .u8 0, .bool false]) (by simp [results, Try.results19, go_sem]) rfl ⟨rfl, rfl⟩

theorem rat_any (a : Option Addr) (n cap : Nat) (l : List Int) (i : Nat) (w : World) (h : Bs w a n cap l) (hn : n ≤ 4000000) (hi : i < n) :
    Calls Try.prog 19 #[.slice a n cap, .int .i64 i] w fun r w' => r = .returned (.tuple #[.int .u8 (bt l i), .bool true]) ∧ w = w' := by
  have hd0 : decide ((i : Int) < 0) = false := by simp
  have hd1 : decide ((i : Int) ≥ (n : Int)) = false := by simp; omega
  obtain ⟨b, off, rfl, _, hc⟩ := h.at_ (by omega)
  have hci := hc i hi
  clear h hc
  go_enter Try.func19, Try.ntmps19
  go_wp2
  exact bodyPost_ret (v := .tuple #[.int .u8 (bt l i), .bool true]) (by simp [results, Try.results19, go_sem]) rfl ⟨rfl, rfl⟩

theorem rrep_range (k d : Int) (a : Option Addr) (N c : Nat) (a' : Option Addr) (n c' : Nat) (w : World) (hN : N ≤ 4000000) (hi : k < 0 ∨ d < 0 ∨ (N : Int) < k ∨ (N : Int) - k < d) :
    Calls Try.prog 14 #[.slice a N c, .int .i64 k, .int .i64 d, .slice a' n c'] w fun r w' => r = .returned (.tuple #[.slice none 0 0, .int .i64 3]) ∧ w = w' := by
  by_cases h0 : k < 0
  · have hd0 : decide (k < 0) = true := by simpa using h0
    clear hi
    go_enter Try.func14, Try.ntmps14
    go_wp2
    exact bodyPost_ret (v := .tuple #[.slice none 0 0, .int .i64 3]) (by simp [results, Try.results14, go_sem]) rfl ⟨rfl, rfl⟩
  have hd0 : decide (k < 0) = false := by simpa using h0
  by_cases h1 : d < 0
  · have hd1 : decide (d < 0) = true := by simpa using h1
    clear hi
    go_enter Try.func14, Try.ntmps14
    go_wp2
    exact bodyPost_ret (v := .tuple #[.slice none 0 0, .int .i64 3]) (by simp [results, Try.results14, go_sem]) rfl ⟨rfl, rfl⟩
  have hd1 : decide (d < 0) = false := by simpa using h1
  by_cases h2 : (N : Int) < k
  · have hd2 : decide (k > (N : Int)) = true := by simpa using h2
    clear hi
    go_enter Try.func14, Try.ntmps14
    go_wp2
    exact bodyPost_ret (v := .tuple #[.slice none 0 0, .int .i64 3]) (by simp [results, Try.results14, go_sem]) rfl ⟨rfl, rfl⟩
  have hd2 : decide (k > (N : Int)) = false := by simp; omega
  have w1 : IntKind.i64.wrap ((N : Int) - k) = (N : Int) - k := by rw [IntKind.wrap_i64]; omega
  have hd3 : decide (d > (N : Int) - k) = true := by simp; omega
  clear hi
  go_enter Try.func14, Try.ntmps14
  go_wp2
  exact bodyPost_ret (v := .tuple #[.slice none 0 0, .int .i64 3]) (by simp [results, Try.results14, go_sem]) rfl ⟨rfl, rfl⟩

theorem rrep_big (k d : Nat) (a : Option Addr) (N c : Nat) (a' : Option Addr) (n c' : Nat) (w : World) (hN : N ≤ 4000000) (hkd : k + d ≤ N) (hn : n ≤ 4000000) (hbig : 2048 < N - d + n) :
    Calls Try.prog 14 #[.slice a N c, .int .i64 k, .int .i64 d, .slice a' n c'] w fun r w' => r = .returned (.tuple #[.slice none 0 0, .int .i64 4]) ∧ w = w' := by
  have hd0 : decide ((k : Int) < 0) = false := by simp
  have hd1 : decide ((d : Int) < 0) = false := by simp
  have hd2 : decide ((k : Int) > (N : Int)) = false := by simp; omega
  have w1 : IntKind.i64.wrap ((N : Int) - (k : Int)) = (N : Int) - (k : Int) := by rw [IntKind.wrap_i64]; omega
  have hd3 : decide ((d : Int) > (N : Int) - (k : Int)) = false := by simp; omega
  have w2 : IntKind.i64.wrap ((N : Int) - (d : Int)) = (N : Int) - (d : Int) := by rw [IntKind.wrap_i64]; omega
  have w3 : IntKind.i64.wrap ((N : Int) - (d : Int) + (n : Int)) = (N : Int) - (d : Int) + (n : Int) := by rw [IntKind.wrap_i64]; omega
  have hd4 : decide ((N : Int) - (d : Int) + (n : Int) > 2048) = true := by simp; omega
  have hkN : k ≤ N := by omega
  clear hbig
  go_enter Try.func14, Try.ntmps14
  go_wp2
  exact bodyPost_ret (v := .tuple #[.slice none 0 0, .int .i64 4]) (by simp [results, Try.results14, go_sem]) rfl ⟨rfl, rfl⟩

/-- b[:k], whatever room there is. -/
theorem slice_to {g off n c k : Nat} (hk : k ≤ n) (hc : n ≤ c) : ∀ w, (Instr.slice 22 (.slice (some ⟨g, off, none⟩) n c) none (some (.int .i64 k)) none).run Try.prog w = .ok (.slice (some ⟨g, off, none⟩) k c) w := by
  obtain ⟨i, hi, hz, hs, hby⟩ := info_parts info5
  have he : Try.prog.elem 22 = 5 := by kernel_rfl
  intro w
  have := run_slice_h (P := Try.prog) w 22 (some ⟨g, off, none⟩) n c (by rw [he]; exact Try.underlying22) .i64 k (by omega) (by omega)
  rw [this, he, Int.toNat_natCast]
  simp [sizeOf, typeInfo, hi, hs, Result.andThen, sliced, addr_add]

set_option maxRecDepth 40000 in
set_option maxHeartbeats 2000000 in
theorem rrep_any (k d : Nat) (gy : Nat) (N c : Nat) (L : List Int) (a' : Option Addr) (n c' : Nat) (C : List Int) (w : World) (hy : Bs w (some ⟨gy, 0, none⟩) N c L) (hb : Bs w a' n c' C) (hN : N ≤ 2048) (hkd : k + d ≤ N) (hbig : N - d + n ≤ 2048) :
    Calls Try.prog 14 #[.slice (some ⟨gy, 0, none⟩) N c, .int .i64 k, .int .i64 d, .slice a' n c'] w fun r w' => ∃ g c2 M, M = k + n + (N - (k + d)) ∧ r = .returned (.tuple #[.slice (some ⟨g, 0, none⟩) M c2, .int .i64 0]) ∧ OwnB w.heap.size 5 w' (some ⟨g, 0, none⟩) M c2 (L.take k ++ C ++ L.drop (k + d)) ∧ Below w.heap.size w w' := by
  have hlc := hy.lc
  have hcm := hy.cm
  have hcm' := hy.cm
  unfold maxLen at hcm'
  have hd0 : decide ((k : Int) < 0) = false := by simp
  have hd1 : decide ((d : Int) < 0) = false := by simp
  have hd2 : decide ((k : Int) > (N : Int)) = false := by simp; omega
  have w1 : IntKind.i64.wrap ((N : Int) - (k : Int)) = (N : Int) - (k : Int) := by rw [IntKind.wrap_i64]; omega
  have hd3 : decide ((d : Int) > (N : Int) - (k : Int)) = false := by simp; omega
  have w2 : IntKind.i64.wrap ((N : Int) - (d : Int)) = (N : Int) - (d : Int) := by rw [IntKind.wrap_i64]; omega
  have w3 : IntKind.i64.wrap ((N : Int) - (d : Int) + (n : Int)) = (N : Int) - (d : Int) + (n : Int) := by rw [IntKind.wrap_i64]; omega
  have hd4 : decide ((N : Int) - (d : Int) + (n : Int) > 2048) = false := by simp; omega
  obtain ⟨q, hq⟩ : ∃ q, k + d = q := ⟨_, rfl⟩
  have w4 : IntKind.i64.wrap ((k : Int) + (d : Int)) = (q : Int) := by rw [IntKind.wrap_i64]; omega
  have hkN : k ≤ N := by omega
  have hqN : q ≤ N := by omega
  have hnb : n ≤ 2048 + d := by omega
  have ks1 := slice_to (g := gy) (off := 0) hkN hlc
  obtain ⟨ad, cd, ks2, hsb⟩ := slice_from (g := gy) (off := 0) hqN hlc hcm
  obtain ⟨r2, hr2⟩ : ∃ r, N - q = r := ⟨_, rfl⟩
  have hr3 : r2 ≤ 2048 := by omega
  rw [hq, hr2]
  rw [hr2] at ks2 hsb
  have HY1 := Lib.hid (hy.take hkN (by omega) hcm)
  have HY2 := Lib.hid (hsb w L hy)
  have HC := Lib.hid hb
  have HBG := Lib.hid hbig
  have hdb : d ≤ 2048 := by omega
  clear hq hr2 hsb hy hb hcm hbig
  go_enter Try.func14, Try.ntmps14
  go_wp2
  go_region_held3 (fun _ => True) (trivial) (first
    | (refine step_appx rfl (.tmp 38) (.tmp 41) 22 rfl 5 w.heap.size Try.underlying22 info5 _ _ _ [] rfl (OwnB.emptyAt (heapAt1 _ _) (by simp)) (by simp) _ _ _ (L.take k) rfl (HY1.out.below ((Below.refl _ _).alloc (Nat.le_refl _) _).drew) (by omega) (by simp) ?_; intro g1 cc1 v1 ho1 hg1 hb1; rw [Nat.zero_add] at ho1 ⊢; rw [List.nil_append] at ho1; have HO1 := Lib.hid ho1; have HB1 : Hid (Below w.heap.size w v1) := Lib.hid (((Below.refl _ _).alloc (Nat.le_refl _) _).drew.trans hb1); clear ho1 hg1 hb1)
    | (refine step_appx rfl (.tmp 42) (.tmp 43) 22 rfl 5 w.heap.size Try.underlying22 info5 _ _ _ _ rfl HO1.out (by simp) _ _ _ _ rfl (HC.out.below HB1.out) (by omega) HB1.out.size ?_; intro g2 cc2 v2 ho2 hg2 hb2; have HO2 := Lib.hid ho2; have HB2 : Hid (Below w.heap.size w v2) := Lib.hid (HB1.out.trans hb2); clear ho2 hg2 hb2)
    | (refine step_appx rfl (.tmp 44) (.tmp 49) 22 rfl 5 w.heap.size Try.underlying22 info5 _ _ _ _ rfl HO2.out (by simp) _ _ _ _ rfl (HY2.out.below HB2.out) (by omega) HB2.out.size ?_; intro g3 cc3 v3 ho3 hg3 hb3; have HO3 := Lib.hid ho3; have HB3 : Hid (Below w.heap.size w v3) := Lib.hid (HB2.out.trans hb3); clear ho3 hg3 hb3))
  go_wp2
  exact bodyPost_ret (v := .tuple #[.slice (some ⟨g3, 0, none⟩) (k + n + r2) cc3, .int .i64 0]) (by simp [results, Try.results14, go_sem]) rfl ⟨g3, cc3, _, rfl, rfl, HO3.out, HB3.out⟩

end Go.Proofs.Ytkpdehbffankkaa
