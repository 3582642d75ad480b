/- Layer 8's statements' own few, whole, shown. -/
import Derived.Test.YtkpdehbffankkaaNq
import Derived.Lib.SmallJoins
namespace Go.Proofs.Ytkpdehbffankkaa
open Go.RowKit

set_option maxRecDepth 20000 in
theorem few_any (a : Option Addr) (len cap : Nat) (l : List Int) (w : World) (h : Bs w a len cap l) :
    Calls Try.prog 11 #[.slice a len cap] w fun e w' => ∃ g c m, m = min len 300 ∧ e = .returned (.slice (some ⟨g, 0, none⟩) m c) ∧ OwnB w.heap.size 5 w' (some ⟨g, 0, none⟩) m c (l.take 300) ∧ Below w.heap.size w w' := by
  have hcm := h.cm
  have hlc := h.lc
  unfold maxLen at hcm
  obtain ⟨m, hm⟩ : ∃ m, m = min len 300 := ⟨_, rfl⟩
  have hmi : min (len : Int) 300 = (m : Int) := by omega
  have hB : Bs w a m cap (l.take m) := h.take (by omega) (by omega) h.cm
  rw [show l.take m = l.take 300 from by rw [hm, ← h.hl, Nat.min_comm, ← List.take_take, List.take_length]] at hB
  have HB := Lib.hid hB
  have hmc : m ≤ cap := by omega
  have hm3 : m ≤ 300 := by omega
  have HM := Lib.hid hm
  clear h hB hm
  have HO : Hid (OwnB w.heap.size 5 (w.alloc (.cells #[] 5)) (some ⟨w.heap.size, 0, none⟩) 0 0 []) := Lib.hid (OwnB.made (Nat.le_refl _))
  have HB2 := Lib.hid (HB.out.alloc (.cells #[] 5))
  have HW : Hid (Below w.heap.size w (w.alloc (.cells #[] 5))) := Lib.hid ((Below.refl _ _).alloc (Nat.le_refl _) _)
  go_enter Try.func11, Try.ntmps11
  go_wp2_with (at_builtin; refine wpList_appx rfl (.tmp 3) (.tmp 8) 22 rfl 5 w.heap.size Try.underlying22 info5 _ _ _ _ rfl HO.out (by simp) _ _ _ _ rfl HB2.out (by omega) HW.out.size ?_; intro g c w1 h1 _ h3; have H1 := Lib.hid h1; have H3 := Lib.hid (HW.out.trans h3); clear h1 h3; rw [Nat.zero_add] at H1 ⊢)
  go_ret
  exact ⟨g, c, m, HM.out, rfl, H1.out, H3.out⟩

theorem u16_nat {c : Int} (h : (Lit.int .u16 c).wf = true) : ∃ x : Nat, c = x ∧ x ≤ 65535 := by
  have h1 : IntKind.u16.min = 0 := rfl
  have h2 : IntKind.u16.max = 65535 := rfl
  simp only [Lit.wf, Bool.and_eq_true, decide_eq_true_eq] at h
  obtain ⟨x, rfl⟩ := Int.eq_ofNat_of_zero_le (show 0 ≤ c by omega)
  exact ⟨x, rfl, by omega⟩

variable {w : World} {b : Nat} {t : PT} {e : Nat} {sv : Value} {dn dp : Int}

theorem sub_all {l : List Int} {n : Nat} (h : l.length = n) : sub l 0 n = l := by
  unfold sub; rw [List.drop_zero, ← h, List.take_length]

theorem whole_any (h : RP w b t e sv dn dp) :
    Calls Try.prog 15 #[.pointer (some ⟨b, 0, none⟩)] w fun r w' => r = .returned (.string (bstr t.l)) ∧ Below w.heap.size w w' := by
  have KL := Lib.hid (len_any h)
  have hS := slice_any 0 t.l.length h (Nat.zero_le _) (Nat.le_refl _)
  rw [sub_all rfl, Nat.sub_zero] at hS
  rw [nat0] at hS
  have HS := Lib.hid hS
  clear h hS
  obtain ⟨N, hN⟩ : ∃ N, t.l.length = N := ⟨_, rfl⟩
  rw [hN] at KL HS
  clear hN
  go_enter Try.func15, Try.ntmps15
  go_wp2_with (first | (go_at_call 20; refine KL.out.mono ?_; rintro r w' ⟨rfl, rfl⟩))
  refine HS.out.mono ?_
  rintro r w1 ⟨a, c, rfl, h1, h2⟩
  have k1 := h1.bs.str (P := Try.prog) 22 9 5 Try.underlying22 Try.underlying5 Try.underlying9
  have H2 := Lib.hid h2
  clear h1 h2
  go_wp2
  go_ret
  exact ⟨rfl, H2.out⟩

set_option maxRecDepth 20000 in
set_option maxHeartbeats 1000000 in
theorem shown_any (w : World) : Calls Try.prog 9 #[] w fun e w' => e = .returned (.bool true) ∧ Below w.heap.size w w' := by
  have kc := Joins.run_convert_bytes_const_at (P := Try.prog) w 22 5 #[.int .u8 97, .int .u8 98, .int .u8 99, .int .u8 100] 4 4 w.heap.size rfl Try.underlying22 Try.underlying5
  have HB1 : Hid (Bs (w.alloc (.cells #[.int .u8 97, .int .u8 98, .int .u8 99, .int .u8 100] 5 (4, 5))) (some ⟨w.heap.size, 0, none⟩) 4 4 [97, 98, 99, 100]) := Lib.hid (Bs.lit w 5 (by simp) (by simp) rfl rfl (by decide))
  have HB0 : Hid (Below w.heap.size w (w.alloc (.cells #[.int .u8 97, .int .u8 98, .int .u8 99, .int .u8 100] 5 (4, 5)))) := Lib.hid ((Below.refl _ _).alloc (Nat.le_refl _) _)
  go_enter Try.func9, Try.ntmps9
  go_wp2_with fail
  refine (new_any _ _ _ _ _ HB1.out (by decide)).mono ?_
  rintro e w1 ⟨g, t, rfl, h1, h2, h3, h4⟩
  have HW1 := Lib.hid (HB0.out.trans (h4.mono HB0.out.size))
  have HR1 := Lib.hid h1
  have HL1 := Lib.hid h2
  clear kc HB1 HB0 h1 h2 h3 h4
  have kc := Joins.run_convert_bytes_const_at (P := Try.prog) w1 22 5 #[.int .u8 120, .int .u8 121, .int .u8 122] 3 3 w1.heap.size rfl Try.underlying22 Try.underlying5
  have HB1 : Hid (Bs (w1.alloc (.cells #[.int .u8 120, .int .u8 121, .int .u8 122] 5 (3, 4))) (some ⟨w1.heap.size, 0, none⟩) 3 3 [120, 121, 122]) := Lib.hid (Bs.lit w1 5 (by simp) (by simp) rfl rfl (by decide))
  have HB0 : Hid (Below w1.heap.size w1 (w1.alloc (.cells #[.int .u8 120, .int .u8 121, .int .u8 122] 5 (3, 4)))) := Lib.hid ((Below.refl _ _).alloc (Nat.le_refl _) _)
  go_wp2_with fail
  refine (rep_any 1 2 _ _ _ _ (HR1.out.below HB0.out) HB1.out (by rw [HL1.out]; decide) (by rw [HL1.out]; decide)).mono ?_
  rintro e w2 ⟨g2, t2, e2, rfl, h1, h2, h3, h4⟩
  have h24 : Below w1.heap.size w1 w2 := HB0.out.trans (h4.mono HB0.out.size)
  have HW2 := Lib.hid (HW1.out.trans (h24.mono HW1.out.size))
  have HR2 := Lib.hid h1
  have HL2 : Hid (t2.l = [97, 120, 121, 122, 100]) := Lib.hid (by rw [h2, HL1.out]; rfl)
  have HR1 := Lib.hid (HR1.out.below h24)
  clear kc HB1 HB0 h1 h2 h3 h4 h24
  go_wp2_with fail
  refine (slice_any 0 5 HR2.out (by decide) (by rw [HL2.out]; decide)).mono ?_
  rintro e w3 ⟨a, c, rfl, h1, h2⟩
  rw [HL2.out] at h1
  have k1 := h1.bs.str (P := Try.prog) 22 9 5 Try.underlying22 Try.underlying5 Try.underlying9
  rw [show bstr (sub [97, 120, 121, 122, 100] 0 5) = ⟨#[97, 120, 121, 122, 100]⟩ from rfl] at k1
  have HW3 := Lib.hid (HW2.out.trans (h2.mono HW2.out.size))
  have k2 := len_any (HR1.out.below h2)
  have k3 := len_any (HR2.out.below h2)
  rw [HL1.out] at k2
  rw [HL2.out] at k3
  have K2 := Lib.hid k2
  have K3 := Lib.hid k3
  clear h1 h2 k2 k3
  go_wp2_with (first | (go_at_call 20; (with_reducible refine K2.out.mono ?_); rintro r w' ⟨rfl, rfl⟩) | (go_at_call 20; (with_reducible refine K3.out.mono ?_); rintro r w' ⟨rfl, rfl⟩))
  go_ret
  exact ⟨rfl, HW3.out⟩

end Go.Proofs.Ytkpdehbffankkaa
