/- Contract of package lines: Offset. -/
import Derived.Test.YtoapfchdmfmdeaaIc
namespace Go.Proofs.Ytoapfchdmfmdeaa
open Go.RowKit

/-- bytes.Cut at a newline, either way: how long the first part is. -/
theorem cut_row (a : Option Addr) (len cap : Nat) (l : List Int) (n : Nat) (sa : Option Addr) (sc : Nat) (w : World) (h : Bs w a len cap l) (hs : Bs w sa 1 sc [10]) (hn : lineL l = n) :
    Calls Try.prog 17 #[.slice a len cap, .slice sa 1 sc] w fun e w' => (∃ a1 c1 a2 n2 c2 q, e = .returned (.tuple #[.slice a1 n c1, .slice a2 n2 c2, .bool q])) ∧ Below w.heap.size w w' := by
  by_cases hlt : n < len
  · obtain ⟨b, off, rfl, _, _⟩ := h.at_ (by omega)
    refine (cut_hit _ _ _ _ _ n _ _ _ h hs hn hlt).mono ?_
    rintro e w' ⟨⟨a', c', rfl, _⟩, hb⟩
    exact ⟨⟨_, _, _, _, _, _, rfl⟩, hb⟩
  · have hle := lineL_le l
    rw [h.hl] at hle
    have hnl : n = len := by omega
    subst hnl
    refine (cut_miss _ _ _ _ _ _ _ h hs (by omega)).mono ?_
    rintro e w' ⟨rfl, rfl⟩
    exact ⟨⟨_, _, _, _, _, _, rfl⟩, Below.refl _ _⟩

theorem off_bad (a : Option Addr) (len cap : Nat) (l : List Int) (x y : Int) (w : World) (h : Bs w a len cap l) (hk : inB len [x, y] = false) :
    Calls Try.prog 11 #[.slice a len cap, .int .i64 x, .int .i64 y] w fun e w' => e = .returned (.tuple #[.int .i64 (offV l x y), .int .i64 (offE l x y)]) ∧ Below w.heap.size w w' := by
  have hm := h.lt
  have hO := offV_none (l := l) (x := x) (y := y) (fun k hk2 h1 h2 => by
    have := ln_le l k
    have := cl_le l k
    have := h.hl
    simp [inB] at hk
    omega)
  rw [hO.1, hO.2]
  have HW := Lib.hid (within_any w.heap.size 2 2 len [x, y] (w.alloc (.cells #[.int .i64 x, .int .i64 y] 3)) rfl (by decide) (by
    intro j hj
    rw [cell_of_row _ w.heap.size j _ 3 (0, 0) (heap_alloc_new w _)]
    match j, hj with
    | 0, _ => rfl
    | 1, _ => rfl))
  rw [hk] at HW
  unfold maxLen at hm
  have HB := Lib.hid ((Below.refl w.heap.size w).alloc (Nat.le_refl _) (.cells #[.int .i64 x, .int .i64 y] 3))
  clear h hk hO
  go_enter Try.func11, Try.ntmps11
  go_wp2_with (first | (go_at_call 15; refine HW.out.mono ?_; rintro e w' ⟨rfl, rfl⟩))
  exact bodyPost_ret (v := .tuple #[.int .i64 0, .int .i64 3]) (by simp [results, Try.results11, go_sem]) rfl ⟨rfl, HB.out⟩

theorem off_good (a : Option Addr) (len cap : Nat) (l : List Int) (X Y : Nat) (w : World) (h : Bs w a len cap l) (hx : X ≤ len) (hy : Y ≤ len) (hm : len ≤ 1000000) :
    Calls Try.prog 11 #[.slice a len cap, .int .i64 X, .int .i64 Y] w fun e w' => e = .returned (.tuple #[.int .i64 (offV l X Y), .int .i64 (offE l X Y)]) ∧ Below w.heap.size w w' := by
  have HW := Lib.hid (within_any w.heap.size 2 2 len [(X : Int), (Y : Int)] (w.alloc (.cells #[.int .i64 X, .int .i64 Y] 3)) rfl (by decide) (by
    intro j hj
    rw [cell_of_row _ w.heap.size j _ 3 (0, 0) (heap_alloc_new w _)]
    match j, hj with
    | 0, _ => rfl
    | 1, _ => rfl))
  rw [show inB len [(X : Int), (Y : Int)] = true from by simp [inB]; omega] at HW
  have hHL := h.hl
  have HL := Lib.hid hHL
  have hb1 := (Below.refl w.heap.size w).alloc (Nat.le_refl _) (.cells #[.int .i64 X, .int .i64 Y] 3)
  have HB1 := Lib.hid hb1
  have H := Lib.hid (h.below hb1)
  clear h hb1 hHL
  obtain ⟨V, hV⟩ : ∃ V, V = offV l X Y := ⟨_, rfl⟩
  obtain ⟨E, hE⟩ : ∃ E, E = offE l X Y := ⟨_, rfl⟩
  have HV := Lib.hid hV
  have HE := Lib.hid hE
  rw [← hV, ← hE]
  clear hV hE
  go_enter Try.func11, Try.ntmps11
  go_wp2_with (first | (go_at_call 15; refine HW.out.mono ?_; rintro e w' ⟨rfl, rfl⟩))
  go_loopw [8, 24] (fun s i wr => ∃ (j o r : Nat) (a' : Option Addr) (c' : Nat), s = .slice a' r c' ∧ i = .int .i64 j ∧ j ≤ X ∧ r ≤ len ∧ Hid (o + r = len) ∧ Hid (ln l o = j ∧ cl l o = 0) ∧ Hid (Bs wr a' r c' (l.drop o)) ∧ Hid (Below w.heap.size w wr)) (fun _ i _ => X - (intOf i).toNat)
  case atStart => exact ⟨0, 0, len, a, cap, rfl, rfl, by omega, by omega, Lib.hid (by omega), Lib.hid ⟨rfl, rfl⟩, H, HB1⟩
  case round =>
    obtain ⟨j, o, r, a', c', rfl, rfl, hj, hr, HO, HN, HS, HB⟩ := hrel
    have kc := sep_run wr rfl
    have HSS := Lib.hid (sep_bs wr rfl)
    have HS2 := Lib.hid (HS.out.alloc (.cells #[.int .u8 10] 5 (1, 2)))
    have HB2 := Lib.hid (HB.out.alloc HB.out.size (.cells #[.int .u8 10] 5 (1, 2)))
    have HRL := Lib.hid HS.out.hl
    have HLE := Lib.hid (lineL_le (l.drop o))
    by_cases hlt : j < X
    · by_cases hf : lineL (l.drop o) < r
      · obtain ⟨n, hn⟩ : ∃ n, lineL (l.drop o) = n := ⟨_, rfl⟩
        obtain ⟨b, off, rfl, _, _⟩ := HS2.out.at_ (by omega)
        have HX := Lib.hid (ln_next (l := l) (o := o) (by rw [HRL.out]; exact hf))
        rw [hn] at HX hf
        have HC := Lib.hid (cut_hit _ _ _ _ _ n _ _ _ HS2.out HSS.out hn hf)
        have hnr : n + 1 ≤ r := hf
        obtain ⟨q, hq⟩ : ∃ q, r - (n + 1) = q := ⟨_, rfl⟩
        rw [hq] at HC
        have HQ : Hid (o + n + 1 + q = len) := Lib.hid (by have := HO.out; omega)
        have hqr : q ≤ len := by omega
        clear hn hq hf hnr
        go_wp2_with (first | (go_at_call 17; refine HC.out.mono ?_; rintro e w2 ⟨⟨a2, c2, rfl, hs2⟩, hb2⟩; have HS3 := Lib.hid hs2; have HB3 := Lib.hid (HB2.out.trans (hb2.mono HB2.out.size)); clear hs2 hb2))
        go_roundw
        case rel => exact ⟨j + 1, o + n + 1, q, a2, c2, rfl, by go_num, by omega, hqr, HQ, Lib.hid ⟨by rw [HX.out.1, HN.out.1], HX.out.2⟩, Lib.hid (by have := HS3.out; rw [List.drop_drop] at this; exact this), HB3⟩
        case measure => simp [intOf]; omega
      · have hO := offV_none (l := l) (x := X) (y := Y) (fun k hk h1 h2 => by
          have h3 := HN.out.1
          have h4 := HO.out
          have h5 := HLE.out
          have h6 := HRL.out
          rw [HL.out] at hk
          rcases Nat.le_total k o with hko | hko
          · obtain ⟨d, rfl⟩ := Nat.exists_eq_add_of_le hko
            have := ln_mono l k d
            omega
          · obtain ⟨d, rfl⟩ := Nat.exists_eq_add_of_le hko
            have := (ln_line l o d (by omega)).1
            omega)
        have hVV := HV.out.trans hO.1
        have hEE := HE.out.trans hO.2
        subst hVV hEE
        have HC := Lib.hid (cut_miss _ _ _ _ _ _ _ HS2.out HSS.out hf)
        clear hf hO
        go_wp2_with (first | (go_at_call 17; refine HC.out.mono ?_; rintro e w2 ⟨rfl, rfl⟩))
        exact bodyPost_ret (v := .tuple #[.int .i64 0, .int .i64 3]) (by simp [results, Try.results11, go_sem]) rfl ⟨rfl, HB2.out⟩
    · obtain ⟨n, hn⟩ : ∃ n, lineL (l.drop o) = n := ⟨_, rfl⟩
      have hjx : j = X := by omega
      have HJX := Lib.hid hjx
      have HC := Lib.hid (cut_row _ _ _ _ n _ _ _ HS2.out HSS.out hn)
      have HNN := Lib.hid hn
      have hnr : n ≤ r := by have := HLE.out; have := HRL.out; omega
      clear hn hjx
      by_cases hyn : (n : Int) < Y
      · have hO := offV_none (l := l) (x := X) (y := Y) (fun k hk h1 h2 => by
          have h3 := HN.out.1
          have h7 := HN.out.2
          have h4 := HO.out
          have h5 := HNN.out
          have h6 := HRL.out
          have h8 := HJX.out
          rw [HL.out] at hk
          rcases Nat.le_total k o with hko | hko
          · obtain ⟨d, rfl⟩ := Nat.exists_eq_add_of_le hko
            have := cl_on l k d (by omega)
            omega
          · obtain ⟨d, rfl⟩ := Nat.exists_eq_add_of_le hko
            by_cases hd : d ≤ n
            · have := (ln_line l o d (by omega)).2
              omega
            · have h9 := (ln_next (l := l) (o := o) (by omega)).1
              rw [h5] at h9
              obtain ⟨g, rfl⟩ := Nat.exists_eq_add_of_le (show n + 1 ≤ d by omega)
              have := ln_mono l (o + n + 1) g
              rw [show o + n + 1 + g = o + (n + 1 + g) by omega] at this
              omega)
        have hVV := HV.out.trans hO.1
        have hEE := HE.out.trans hO.2
        subst hVV hEE
        clear hO
        go_wp2_with (first | (go_at_call 17; refine HC.out.mono ?_; rintro e w2 ⟨⟨a1, c1, a2, n2, c2, q, rfl⟩, hb2⟩; have HB3 := Lib.hid (HB2.out.trans (hb2.mono HB2.out.size)); clear hb2))
        exact bodyPost_ret (v := .tuple #[.int .i64 0, .int .i64 3]) (by simp [results, Try.results11, go_sem]) rfl ⟨rfl, HB3.out⟩
      · have hO := offV_some (l := l) (x := X) (y := Y) (k := o + Y) (by have := HO.out; rw [HL.out]; omega)
          (by rw [(ln_line l o Y (by have := HNN.out; omega)).1, HN.out.1, HJX.out])
          (by rw [(ln_line l o Y (by have := HNN.out; omega)).2, HN.out.2]; omega)
        have hVV := HV.out.trans hO.1
        have hEE := HE.out.trans hO.2
        have b1 : IntKind.i64.wrap ((len : Int) - r) = (len : Int) - r := by rw [IntKind.wrap_i64]; omega
        have b2 : IntKind.i64.wrap ((len : Int) - r + Y) = (len : Int) - r + Y := by rw [IntKind.wrap_i64]; omega
        have hV2 : V = (len : Int) - r + Y := by have := HO.out; omega
        subst hV2 hEE
        clear hO hVV
        go_wp2_with (first | (go_at_call 17; refine HC.out.mono ?_; rintro e w2 ⟨⟨a1, c1, a2, n2, c2, q, rfl⟩, hb2⟩; have HB3 := Lib.hid (HB2.out.trans (hb2.mono HB2.out.size)); clear hb2))
        exact bodyPost_ret (v := .tuple #[.int .i64 ((len : Int) - r + Y), .int .i64 0]) (by simp [results, Try.results11, go_sem]) rfl ⟨rfl, HB3.out⟩

theorem off_any (a : Option Addr) (len cap : Nat) (l : List Int) (x y : Int) (w : World) (h : Bs w a len cap l) (hm : len ≤ 1000000) :
    Calls Try.prog 11 #[.slice a len cap, .int .i64 x, .int .i64 y] w fun e w' => e = .returned (.tuple #[.int .i64 (offV l x y), .int .i64 (offE l x y)]) ∧ Below w.heap.size w w' := by
  cases hk : inB len [x, y] with
  | false => exact off_bad a len cap l x y w h hk
  | true =>
    simp [inB] at hk
    obtain ⟨X, rfl⟩ := Int.eq_ofNat_of_zero_le hk.1.1
    obtain ⟨Y, rfl⟩ := Int.eq_ofNat_of_zero_le hk.2.1
    exact off_good a len cap l X Y w h (by omega) (by omega) hm

end Go.Proofs.Ytoapfchdmfmdeaa
