/- Contracts: the document's Count, Place, Offset; the laws' own few and shown. -/
import Derived.Test.YtoapfchdmfmdeaaId
namespace Go.Proofs.Ytoapfchdmfmdeaa
open Go.RowKit

theorem rcnt_any (a : Option Addr) (len cap : Nat) (l : List Int) (w : World) (h : Bs w a len cap l) (hm : len ≤ 1000000) :
    Calls Try.prog 14 #[.slice a len cap] w fun e w' => e = .returned (.int .i64 ((ln l len : Int) + 1)) ∧ w = w' := by
  have H := Lib.hid h
  clear h
  go_enter Try.func14, Try.ntmps14
  go_wp2
  go_loop [3, 4] (fun n i => ∃ k q : Nat, i = .int .i64 k ∧ n = .int .i64 ((q : Int) + 1) ∧ k ≤ len ∧ q ≤ k ∧ Hid (ln l k = q)) (fun _ i => len - (intOf i).toNat)
  case atStart => exact ⟨0, 0, rfl, rfl, by omega, by omega, Lib.hid rfl⟩
  case round =>
    obtain ⟨k, q, rfl, rfl, hk, hq, HM⟩ := hrel
    have HS := Lib.hid (ln_succ l k)
    by_cases hlt : k < len
    · have hr := bt_rng H.out.rng k
      have h0 := hr.1
      have h1 := hr.2
      obtain ⟨b, off, rfl, _, hc⟩ := H.out.at_ (by omega)
      have hck := hc k hlt
      have b1 : IntKind.i64.wrap ((q : Int) + 1 + 1) = (q : Int) + 1 + 1 := by rw [IntKind.wrap_i64]; omega
      clear hc hr
      by_cases h10 : bt l k = 10
      · have HN : Hid (ln l (k + 1) = q + 1) := Lib.hid (by rw [HS.out, if_pos h10, HM.out])
        have hb : (bt l k == 10) = true := by rw [h10]; rfl
        clear h10
        go_wp2
        go_round
        case rel => exact ⟨k + 1, q + 1, by go_num, by go_num, by omega, by omega, HN⟩
        case measure => simp [intOf]; omega
      · have HN : Hid (ln l (k + 1) = q) := Lib.hid (by rw [HS.out, if_neg h10, HM.out])
        have hb : (bt l k == 10) = false := by simpa using h10
        clear h10
        go_wp2
        go_round
        case rel => exact ⟨k + 1, q, by go_num, rfl, by omega, by omega, HN⟩
        case measure => simp [intOf]; omega
    · have hkl : k = len := by omega
      have HN : Hid (ln l len = q) := Lib.hid (by rw [← hkl]; exact HM.out)
      clear hkl
      go_wp2
      go_ret
      exact ⟨by rw [HN.out]; rfl, rfl⟩

theorem rplace_any (a : Option Addr) (len cap : Nat) (l : List Int) (K : Nat) (w : World) (h : Bs w a len cap l) (hK : K ≤ len) (hm : len ≤ 1000000) :
    Calls Try.prog 10 #[.slice a len cap, .int .i64 K] w fun e w' => e = .returned (.tuple #[.int .i64 (ln l K), .int .i64 (cl l K), .int .i64 0]) ∧ w = w' := by
  have H := Lib.hid h
  clear h
  go_enter Try.func10, Try.ntmps10
  go_wp2
  go_loop [7, 8, 9] (fun n c i => ∃ k p q : Nat, i = .int .i64 k ∧ n = .int .i64 p ∧ c = .int .i64 q ∧ k ≤ K ∧ p ≤ k ∧ q ≤ k ∧ Hid (ln l k = p ∧ cl l k = q)) (fun _ _ i => K - (intOf i).toNat)
  case atStart => exact ⟨0, 0, 0, rfl, rfl, rfl, by omega, by omega, by omega, Lib.hid ⟨rfl, rfl⟩⟩
  case round =>
    obtain ⟨k, p, q, rfl, rfl, rfl, hk, hp, hq, HM⟩ := hrel
    have HS := Lib.hid (ln_succ l k)
    have HT := Lib.hid (cl_succ l k)
    by_cases hlt : k < K
    · have hr := bt_rng H.out.rng k
      have h0 := hr.1
      have h1 := hr.2
      obtain ⟨b, off, rfl, _, hc⟩ := H.out.at_ (by omega)
      have hck := hc k (by omega)
      clear hc hr
      by_cases h10 : bt l k = 10
      · have HN : Hid (ln l (k + 1) = p + 1 ∧ cl l (k + 1) = 0) := Lib.hid (by rw [HS.out, HT.out, if_pos h10, if_pos h10, HM.out.1]; exact ⟨rfl, rfl⟩)
        have hb : (bt l k == 10) = true := by rw [h10]; rfl
        clear h10
        go_wp2
        go_round
        case rel => exact ⟨k + 1, p + 1, 0, by go_num, by go_num, rfl, by omega, by omega, by omega, HN⟩
        case measure => simp [intOf]; omega
      · have HN : Hid (ln l (k + 1) = p ∧ cl l (k + 1) = q + 1) := Lib.hid (by rw [HS.out, HT.out, if_neg h10, if_neg h10, HM.out.1, HM.out.2]; exact ⟨rfl, rfl⟩)
        have hb : (bt l k == 10) = false := by simpa using h10
        clear h10
        go_wp2
        go_round
        case rel => exact ⟨k + 1, p, q + 1, by go_num, rfl, by go_num, by omega, by omega, by omega, HN⟩
        case measure => simp [intOf]; omega
    · have hkl : k = K := by omega
      have HN : Hid (ln l K = p ∧ cl l K = q) := Lib.hid (by rw [← hkl]; exact HM.out)
      clear hkl
      go_wp2
      exact bodyPost_ret (v := .tuple #[.int .i64 p, .int .i64 q, .int .i64 0]) (by simp [results, Try.results10, go_sem]) rfl ⟨by rw [HN.out.1, HN.out.2], rfl⟩

theorem rplace_bad (a : Option Addr) (len cap : Nat) (k : Int) (w : World) (hk : k < 0 ∨ (len : Int) < k) :
    Calls Try.prog 10 #[.slice a len cap, .int .i64 k] w fun e w' => e = .returned (.tuple #[.int .i64 0, .int .i64 0, .int .i64 3]) ∧ w = w' := by
  by_cases h0 : k < 0
  · clear hk
    go_enter Try.func10, Try.ntmps10
    go_wp2
    exact bodyPost_ret (v := .tuple #[.int .i64 0, .int .i64 0, .int .i64 3]) (by simp [results, Try.results10, go_sem]) rfl ⟨rfl, rfl⟩
  · have h1 : (len : Int) < k := by omega
    clear hk
    go_enter Try.func10, Try.ntmps10
    go_wp2
    exact bodyPost_ret (v := .tuple #[.int .i64 0, .int .i64 0, .int .i64 3]) (by simp [results, Try.results10, go_sem]) rfl ⟨rfl, rfl⟩

theorem roff_any (a : Option Addr) (len cap : Nat) (l : List Int) (x y : Int) (w : World) (h : Bs w a len cap l) (hm : len ≤ 1000000) :
    Calls Try.prog 12 #[.slice a len cap, .int .i64 x, .int .i64 y] w fun e w' => e = .returned (.tuple #[.int .i64 (offV l x y), .int .i64 (offE l x y)]) ∧ w = w' := by
  have H := Lib.hid h
  obtain ⟨V, hV⟩ : ∃ V, V = offV l x y := ⟨_, rfl⟩
  obtain ⟨E, hE⟩ : ∃ E, E = offE l x y := ⟨_, rfl⟩
  have HV := Lib.hid hV
  have HE := Lib.hid hE
  rw [← hV, ← hE]
  clear h hV hE
  go_enter Try.func12, Try.ntmps12
  go_wp2
  go_loop [8] (fun i => ∃ k : Nat, i = .int .i64 k ∧ k ≤ len + 1 ∧ Hid (∀ j, j < k → (ln l j : Int) = x → (cl l j : Int) = y → False)) (fun i => len + 1 - (intOf i).toNat)
  case atStart => exact ⟨0, rfl, by omega, Lib.hid (fun j hj => by omega)⟩
  case round =>
    obtain ⟨k, rfl, hk, HM⟩ := hrel
    by_cases hlt : k ≤ len
    · have HP := Lib.hid (rplace_any _ _ _ _ k _ H.out hlt hm)
      have hp := ln_le l k
      have hq := cl_le l k
      have HSO := Lib.hid (offV_some (l := l) (x := x) (y := y) (k := k) (by rw [H.out.hl]; exact hlt))
      have HSN : Hid (¬ ((ln l k : Int) = x ∧ (cl l k : Int) = y) → ∀ j, j < k + 1 → (ln l j : Int) = x → (cl l j : Int) = y → False) := Lib.hid (fun hn j hj h1 h2 => by
        rcases Nat.lt_succ_iff_lt_or_eq.1 hj with h3 | rfl
        · exact HM.out j h3 h1 h2
        · exact hn ⟨h1, h2⟩)
      obtain ⟨p, hpp⟩ : ∃ p, ln l k = p := ⟨_, rfl⟩
      obtain ⟨q, hqq⟩ : ∃ q, cl l k = q := ⟨_, rfl⟩
      rw [hpp] at HP HSO HSN hp
      rw [hqq] at HP HSO HSN hq
      clear hpp hqq
      by_cases h1 : (p : Int) = x
      · have hb1 : ((p : Int) == x) = true := by simpa using h1
        by_cases h2 : (q : Int) = y
        · have hb2 : ((q : Int) == y) = true := by simpa using h2
          have hVV := HV.out.trans (HSO.out h1 h2).1
          have hEE := HE.out.trans (HSO.out h1 h2).2
          subst hVV hEE
          clear h1 h2
          go_wp2_with (first | (go_at_call 10; refine HP.out.mono ?_; rintro e w' ⟨rfl, rfl⟩))
          exact bodyPost_ret (v := .tuple #[.int .i64 k, .int .i64 0]) (by simp [results, Try.results12, go_sem]) rfl ⟨rfl, rfl⟩
        · have hb2 : ((q : Int) == y) = false := by simpa using h2
          have HM2 := Lib.hid (HSN.out (fun hh => h2 hh.2))
          clear h1 h2
          go_wp2_with (first | (go_at_call 10; refine HP.out.mono ?_; rintro e w' ⟨rfl, rfl⟩))
          go_round
          case rel => exact ⟨k + 1, by go_num, by omega, HM2⟩
          case measure => simp [intOf]; omega
      · have hb1 : ((p : Int) == x) = false := by simpa using h1
        have HM2 := Lib.hid (HSN.out (fun hh => h1 hh.1))
        clear h1
        go_wp2_with (first | (go_at_call 10; refine HP.out.mono ?_; rintro e w' ⟨rfl, rfl⟩))
        go_round
        case rel => exact ⟨k + 1, by go_num, by omega, HM2⟩
        case measure => simp [intOf]; omega
    · have hO := offV_none (l := l) (x := x) (y := y) (fun j hj => HM.out j (by rw [H.out.hl] at hj; omega))
      have hVV := HV.out.trans hO.1
      have hEE := HE.out.trans hO.2
      subst hVV hEE
      clear hO
      go_wp2
      exact bodyPost_ret (v := .tuple #[.int .i64 0, .int .i64 3]) (by simp [results, Try.results12, go_sem]) rfl ⟨rfl, rfl⟩

theorem few_any (a : Option Addr) (len cap m : Nat) (w : World) (hm : m = min len 120) (hlc : len ≤ cap) :
    Calls Try.prog 8 #[.slice a len cap] w fun e w' => e = .returned (.slice a m cap) ∧ w = w' := by
  rcases Nat.le_total len 120 with h | h
  · obtain rfl : m = len := by omega
    clear hm
    go_enter Try.func8, Try.ntmps8
    go_wp2 <;> (go_ret; exact ⟨ret_slice (by omega) rfl, rfl⟩)
  · obtain rfl : m = 120 := by omega
    clear hm
    go_enter Try.func8, Try.ntmps8
    go_wp2 <;> (go_ret; exact ⟨ret_slice (by omega) rfl, rfl⟩)

set_option maxRecDepth 20000 in
theorem shown_any (w : World) : Calls Try.prog 7 #[] w fun e w' => e = .returned (.bool true) ∧ Below w.heap.size w w' := by
  have kc := Joins.run_convert_bytes_const_at (P := Try.prog) w 22 5 #[.int .u8 97, .int .u8 98, .int .u8 10, .int .u8 99] 4 4 w.heap.size rfl Try.underlying22 Try.underlying5
  have HB1 : Hid (Bs (w.alloc (.cells #[.int .u8 97, .int .u8 98, .int .u8 10, .int .u8 99] 5 (4, 5))) (some ⟨w.heap.size, 0, none⟩) 4 4 [97, 98, 10, 99]) := Lib.hid (Bs.lit w 5 (by simp) (by simp) rfl rfl (by decide))
  have HB0 : Hid (Below w.heap.size w (w.alloc (.cells #[.int .u8 97, .int .u8 98, .int .u8 10, .int .u8 99] 5 (4, 5)))) := Lib.hid ((Below.refl _ _).alloc (Nat.le_refl _) _)
  go_enter Try.func7, Try.ntmps7
  go_wp2_with fail
  refine (place_any _ _ _ _ 3 _ HB1.out (by decide) (by decide)).mono ?_
  rintro e w1 ⟨rfl, h1⟩
  rw [show ln [97, 98, 10, 99] 3 = 1 from rfl, show cl [97, 98, 10, 99] 3 = 0 from rfl]
  have HW1 := Lib.hid h1
  have HB2 := Lib.hid (HB1.out.below h1)
  clear kc h1
  go_wp2_with fail
  refine (place_any _ _ _ _ 2 _ HB2.out (by decide) (by decide)).mono ?_
  rintro e w2 ⟨rfl, h1⟩
  rw [show ln [97, 98, 10, 99] 2 = 0 from rfl, show cl [97, 98, 10, 99] 2 = 2 from rfl]
  have HW2 := Lib.hid (HW1.out.trans (h1.mono HW1.out.size))
  have HB3 := Lib.hid (HB2.out.below h1)
  clear h1
  go_wp2_with fail
  refine (off_any _ _ _ _ 1 1 _ HB3.out (by decide)).mono ?_
  rintro e w3 ⟨rfl, h1⟩
  rw [show offV [97, 98, 10, 99] 1 1 = 4 from by decide +kernel, show offE [97, 98, 10, 99] 1 1 = 0 from by decide +kernel]
  have HW3 := Lib.hid (HW2.out.trans (h1.mono HW2.out.size))
  have HB4 := Lib.hid (HB3.out.below h1)
  clear h1
  go_wp2_with fail
  refine (cnt_any _ _ _ _ _ HB4.out (by decide)).mono ?_
  rintro e w4 ⟨rfl, h1⟩
  rw [show ln [97, 98, 10, 99] 4 = 1 from rfl]
  have HW4 := Lib.hid (HB0.out.trans ((HW3.out.trans (h1.mono HW3.out.size)).mono HB0.out.size))
  clear h1
  go_wp2
  go_ret
  exact ⟨rfl, HW4.out⟩

end Go.Proofs.Ytoapfchdmfmdeaa
