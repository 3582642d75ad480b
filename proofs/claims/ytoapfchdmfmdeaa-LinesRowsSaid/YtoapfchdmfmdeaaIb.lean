/- Contracts of the library at a newline: LastIndexByte, LastIndex, Cut. -/
import Derived.Test.YtoapfchdmfmdeaaIa
import Derived.Test.YtoapfchdmfmdeaaBz
import Derived.Deep.QuietTactic
import Derived.BigQuiet
namespace Go.Proofs.Ytoapfchdmfmdeaa
open Go.RowKit

theorem lbyte_any (a : Option Addr) (len cap : Nat) (l : List Int) (w : World) (h : Bs w a len cap l) :
    Calls Try.prog 19 #[.slice a len cap, .int .u8 10] w fun e w' => e = .returned (.int .i64 ((len : Int) - cl l len - 1)) ∧ w = w' := by
  have hm := h.lt
  unfold maxLen at hm
  have H := Lib.hid h
  have hcl := cl_le l len
  obtain ⟨s, hs⟩ : ∃ s, len - cl l len = s := ⟨_, rfl⟩
  have HS : Hid ((len : Int) - cl l len - 1 = (s : Int) - 1) := Lib.hid (by omega)
  have HT := Lib.hid hs
  clear h hs hcl
  have hw0 : IntKind.i64.wrap ((len : Int) - 1) = (len : Int) - 1 := by rw [IntKind.wrap_i64]; omega
  rw [HS.out]
  go_enter Try.func19, Try.ntmps19
  go_wp2
  go_loop [5] (fun i => ∃ k : Nat, i = .int .i64 ((k : Int) - 1) ∧ k ≤ len ∧ Hid (k - cl l k = s)) (fun i => (intOf i + 1).toNat)
  case atStart => exact ⟨len, rfl, by omega, HT⟩
  case round =>
    obtain ⟨k, rfl, hk, HM⟩ := hrel
    cases k with
    | zero =>
      have h0 : s = 0 := by rw [← HM.out, Nat.zero_sub]
      subst h0
      go_wp2
      go_ret
      exact ⟨ret_int (by omega), rfl⟩
    | succ k =>
      rw [show (((k + 1 : Nat) : Int) - 1) = (k : Int) by omega] at *
      have HC := Lib.hid (cl_succ l k)
      have HL := Lib.hid (cl_le l k)
      have hr := bt_rng H.out.rng k
      have hrl := hr.1
      have hrh := hr.2
      obtain ⟨b, off, rfl, _, hc⟩ := H.out.at_ (by omega)
      have hck := hc k hk
      have hw1 : IntKind.i64.wrap ((k : Int) - 1) = (k : Int) - 1 := by rw [IntKind.wrap_i64]; omega
      clear hc hr
      by_cases h10 : bt l k = 10
      · have hs : s = k + 1 := by rw [← HM.out, HC.out, if_pos h10]; rfl
        subst hs
        have hb : (bt l k == 10) = true := by rw [h10]; rfl
        clear h10
        go_wp2
        go_ret
        exact ⟨ret_int (by omega), rfl⟩
      · have hb : (bt l k == 10) = false := by simpa using h10
        have HM2 : Hid (k - cl l k = s) := Lib.hid (by have := HM.out; rw [HC.out, if_neg h10] at this; have := HL.out; omega)
        clear h10
        go_wp2
        go_round
        case rel => exact ⟨k, by go_num, by omega, HM2⟩
        case measure => simp [intOf]

theorem blast_any (a : Option Addr) (len cap : Nat) (l : List Int) (sa : Option Addr) (sc : Nat) (w : World) (h : Bs w a len cap l) (hs : Bs w sa 1 sc [10]) :
    Calls Try.prog 16 #[.slice a len cap, .slice sa 1 sc] w fun e w' => e = .returned (.int .i64 ((len : Int) - cl l len - 1)) ∧ w = w' := by
  obtain ⟨b, off, rfl, _, hc⟩ := hs.at_ (by omega)
  have h0 := hc 0 (by omega)
  rw [show bt [10] 0 = 10 from rfl, Nat.add_zero] at h0
  have HI := Lib.hid (lbyte_any _ _ _ _ _ h)
  obtain ⟨v, hv⟩ : ∃ v, v = (len : Int) - cl l len - 1 := ⟨_, rfl⟩
  rw [← hv] at HI ⊢
  clear h hs hc hv
  go_enter Try.func16, Try.ntmps16
  go_wp2_with (first | (go_at_call 19; refine HI.out.mono ?_; rintro e w' ⟨rfl, rfl⟩))
  go_ret
  exact ⟨rfl, rfl⟩

theorem belowN {B : Nat} {a w : World} (h : Below B a w) (n : Nat) : Below B a (w.drewN n) := h.trans ⟨rfl, rfl, rfl, Nat.le_refl _, fun _ _ => rfl⟩

/-- bytes.Cut at a newline: there is one. -/
theorem cut_hit (b off len cap : Nat) (l : List Int) (n : Nat) (sa : Option Addr) (sc : Nat) (w : World) (h : Bs w (some ⟨b, off, none⟩) len cap l) (hs : Bs w sa 1 sc [10]) (hn : lineL l = n) (hlt : n < len) :
    Calls Try.prog 17 #[.slice (some ⟨b, off, none⟩) len cap, .slice sa 1 sc] w fun e w' => (∃ a' c', e = .returned (.tuple #[.slice (some ⟨b, off, none⟩) n cap, .slice a' (len - (n + 1)) c', .bool true]) ∧ Bs w' a' (len - (n + 1)) c' (l.drop (n + 1))) ∧ Below w.heap.size w w' := by
  have HI := Lib.hid (bidx_any _ _ _ _ _ _ _ h hs)
  rw [show idxV l = n from by rw [idxV, h.hl, hn, if_pos hlt]] at HI
  have hlc := h.lc
  have hcm := h.cm
  unfold maxLen at hcm
  obtain ⟨a', c', hsl, hsb⟩ := slice_from (g := b) (off := off) (show n + 1 ≤ len by omega) hlc h.cm
  have HB := Lib.hid (hsb w l h)
  rw [Int.natCast_add, show ((1 : Nat) : Int) = 1 from rfl] at hsl
  obtain ⟨q, hq⟩ : ∃ q, len - (n + 1) = q := ⟨_, rfl⟩
  rw [hq] at hsl HB
  rw [hq]
  have hw1 : IntKind.i64.wrap ((n : Int) + 1) = (n : Int) + 1 := by rw [IntKind.wrap_i64]; omega
  clear h hs hn hsb hq
  go_enter Try.func17, Try.ntmps17
  go_wp2_with (first | (go_at_call 22; refine HI.out.mono ?_; rintro e w' ⟨rfl, rfl⟩))
  go_quiet (fail)
  go_wp2
  exact bodyPost_ret (v := .tuple #[.slice (some ⟨b, off, none⟩) n cap, .slice a' q c', .bool true]) (by simp [results, Try.results17, go_sem]) rfl ⟨⟨_, _, rfl, HB.out.below (belowN (Below.refl w.heap.size w) _)⟩, belowN (Below.refl _ _) _⟩

/-- .. there is none. -/
theorem cut_miss (a : Option Addr) (len cap : Nat) (l : List Int) (sa : Option Addr) (sc : Nat) (w : World) (h : Bs w a len cap l) (hs : Bs w sa 1 sc [10]) (hn : ¬ lineL l < len) :
    Calls Try.prog 17 #[.slice a len cap, .slice sa 1 sc] w fun e w' => e = .returned (.tuple #[.slice a len cap, .slice none 0 0, .bool false]) ∧ w = w' := by
  have HI := Lib.hid (bidx_any _ _ _ _ _ _ _ h hs)
  rw [show idxV l = -1 from by rw [idxV, h.hl, if_neg hn]] at HI
  clear h hs hn
  go_enter Try.func17, Try.ntmps17
  go_wp2_with (first | (go_at_call 22; refine HI.out.mono ?_; rintro e w' ⟨rfl, rfl⟩))
  exact bodyPost_ret (v := .tuple #[.slice a len cap, .slice none 0 0, .bool false]) (by simp [results, Try.results17, go_sem]) rfl ⟨rfl, rfl⟩

end Go.Proofs.Ytoapfchdmfmdeaa
