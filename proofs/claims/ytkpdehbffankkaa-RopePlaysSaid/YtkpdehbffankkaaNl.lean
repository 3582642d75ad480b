/- Contracts of package rope's New and Slice. -/
import Derived.Test.YtkpdehbffankkaaNd
import Derived.Test.YtkpdehbffankkaaNg
import Derived.Test.YtkpdehbffankkaaNk
namespace Go.Proofs.Ytkpdehbffankkaa
open Go.RowKit

theorem v_ptr : ∀ (t : PT), ∃ p, t.v = .pointer p
  | .nil => ⟨_, rfl⟩
  | .leaf _ _ => ⟨_, rfl⟩
  | .node _ _ _ => ⟨_, rfl⟩

theorem new_big (a : Option Addr) (n cap : Nat) (w : World) (hn : 2048 < n) (hn2 : n ≤ 9223372036854775807) :
    Calls Try.prog 10 #[.slice a n cap] w fun e w' => e = .returned (.tuple #[.pointer none, .int .i64 4]) ∧ w = w' := by
  have hd : decide ((n : Int) > 2048) = true := by simp; omega
  go_enter Try.func10, Try.ntmps10
  go_wp2
  exact bodyPost_ret (v := .tuple #[.pointer none, .int .i64 4]) (by simp [results, Try.results10, go_sem]) rfl ⟨rfl, rfl⟩

theorem new_any (a : Option Addr) (n cap : Nat) (l : List Int) (w : World) (h : Bs w a n cap l) (hn : n ≤ 2048) :
    Calls Try.prog 10 #[.slice a n cap] w fun e w' => ∃ g t, e = .returned (.tuple #[.pointer (some ⟨g, 0, none⟩), .int .i64 0]) ∧ RP w' g t 0 (.pointer none) 0 0 ∧ t.l = l ∧ w.heap.size ≤ g ∧ Below w.heap.size w w' := by
  have hd : decide ((n : Int) > 2048) = false := by simp; omega
  have HB := Lib.hid (build_any 5 a n cap l w h (by omega) (by omega))
  have HL := Lib.hid h.hl
  clear h
  go_enter Try.func10, Try.ntmps10
  go_wp2_with (first | (go_at_call 22; refine HB.out.mono ?_; rintro e w1 ⟨z, rfl, h1, h2, h3, h4⟩; obtain ⟨p, hp⟩ := v_ptr z; have HPP := Lib.hid hp; rw [hp]; clear hp))
  have hb2 : Below w1.heap.size w1 (w1.alloc (.cells (ropeC z 0 (.pointer none) 0 0) 73)) := (Below.refl _ _).alloc (Nat.le_refl _) _
  rw [show ropeC z 0 (.pointer none) 0 0 = #[.pointer p, .int .i64 0, .pointer none, .int .u32 0, .int .i32 0, .int .u32 0, .int .i64 0] from by unfold ropeC; rw [HPP.out]; rfl] at hb2
  refine bodyPost_ret (v := .tuple #[.pointer (some ⟨w1.heap.size, 0, none⟩), .int .i64 0]) (by simp [results, Try.results10, go_sem]) rfl ⟨w1.heap.size, z, rfl, ⟨by unfold ropeC; rw [HPP.out]; exact heapAt4 w1 _, PT.ok.below hb2 z h1, Nat.zero_le _, h3, ?_, .inl rfl, .inl rfl⟩, h2, h4.size, h4.trans (hb2.mono h4.size)⟩
  rw [h2, HL.out]; exact hn

variable {w : World} {b : Nat} {t : PT} {e : Nat} {sv : Value} {dn dp : Int}

/-- Such a slice there is not. -/
theorem slice_bad (f k : Int) (h : RP w b t e sv dn dp) (hi : f < 0 ∨ k < f ∨ (t.l.length : Int) < k) :
    Calls Try.prog 16 #[.pointer (some ⟨b, 0, none⟩), .int .i64 f, .int .i64 k] w fun r w' => r = .returned (.tuple #[.slice none 0 0, .int .i64 3]) ∧ w = w' := by
  have KL := Lib.hid (len_any h)
  obtain ⟨N, hN⟩ : ∃ N, t.l.length = N := ⟨_, rfl⟩
  rw [hN] at KL hi
  clear h hN
  by_cases h0 : f < 0
  · have hd0 : decide (f < 0) = true := by simpa using h0
    clear hi
    go_enter Try.func16, Try.ntmps16
    go_wp2
    exact bodyPost_ret (v := .tuple #[.slice none 0 0, .int .i64 3]) (by simp [results, Try.results16, go_sem]) rfl ⟨rfl, rfl⟩
  · have hd0 : decide (f < 0) = false := by simpa using h0
    by_cases h1 : k < f
    · have hd1 : decide (k < f) = true := by simpa using h1
      clear hi
      go_enter Try.func16, Try.ntmps16
      go_wp2
      exact bodyPost_ret (v := .tuple #[.slice none 0 0, .int .i64 3]) (by simp [results, Try.results16, go_sem]) rfl ⟨rfl, rfl⟩
    · have hd1 : decide (k < f) = false := by simpa using h1
      have hd2 : decide (k > (N : Int)) = true := by simp; omega
      clear hi
      go_enter Try.func16, Try.ntmps16
      go_wp2_with (first | (go_at_call 20; refine KL.out.mono ?_; rintro r w' ⟨rfl, rfl⟩))
      exact bodyPost_ret (v := .tuple #[.slice none 0 0, .int .i64 3]) (by simp [results, Try.results16, go_sem]) rfl ⟨rfl, rfl⟩

theorem make_cap (q : Nat) (hq : q ≤ 4000000) : (∀ w, (Instr.makeSlice 22 (.int .i64 0) (.int .i64 q)).run Try.prog w = .ok (.slice (some ⟨w.heap.size, 0, none⟩) 0 q) (w.alloc (.cells (madeCells (Value.int .u8 0).cells (q * 1)) 5))) ∧ (madeCells (Value.int .u8 0).cells (q * 1)).size = q * 1 := by
  obtain ⟨i, hi, hz, hs, hby⟩ := info_parts info5
  refine ⟨fun w => ?_, size_madeCells _ _⟩
  have := run_make (P := Try.prog) w 22 5 i (.int .u8 0) Try.underlying22 hi hz .i64 .i64 0 q (Int.le_refl _) (by omega) (by rw [hby]; omega) (by omega)
  rw [hs] at this
  exact this

set_option maxRecDepth 20000 in
theorem slice_any (f k : Nat) (h : RP w b t e sv dn dp) (hfk : f ≤ k) (hk : k ≤ t.l.length) :
    Calls Try.prog 16 #[.pointer (some ⟨b, 0, none⟩), .int .i64 f, .int .i64 k] w fun r w' => ∃ a c, r = .returned (.tuple #[.slice a (k - f) c, .int .i64 0]) ∧ OwnB w.heap.size 5 w' a (k - f) c (sub t.l f k) ∧ Below w.heap.size w w' := by
  have hlen := h.len
  have KL := Lib.hid (len_any h)
  have c0 := h.c0
  have HR := Lib.hid h
  have HK := Lib.hid hk
  obtain ⟨N, hN⟩ : ∃ N, t.l.length = N := ⟨_, rfl⟩
  rw [hN] at KL hk hlen
  have hd0 : decide ((f : Int) < 0) = false := by simp
  have hd1 : decide ((k : Int) < (f : Int)) = false := by simp; omega
  have hd2 : decide ((k : Int) > (N : Int)) = false := by simp; omega
  have k1 : IntKind.i64.wrap ((k : Int) - (f : Int)) = ((k - f : Nat) : Int) := by rw [IntKind.wrap_i64]; omega
  have hb0 := h.lt
  obtain ⟨q, hq⟩ : ∃ q, k - f = q := ⟨_, rfl⟩
  rw [hq] at k1 ⊢
  have hq2 : q ≤ 2048 := by omega
  have HN := Lib.hid hN
  obtain ⟨kmk, hms⟩ := make_cap q (by omega)
  obtain ⟨M, hM⟩ : ∃ M, madeCells (Value.int .u8 0).cells (q * 1) = M := ⟨_, rfl⟩
  rw [hM] at kmk hms
  have HO : Hid (OwnB w.heap.size 5 (w.drew.alloc (.cells M 5)) (some ⟨w.heap.size, 0, none⟩) 0 q []) := Lib.hid ⟨World.ownsRow_made w.drew M q (Nat.le_refl _) (by unfold maxLen; omega) hms, by simp⟩
  have HB : Hid (Below w.heap.size w (w.drew.alloc (.cells M 5))) := Lib.hid ((Below.refl _ _).drew.alloc (Nat.le_refl _) _)
  have HA := Lib.hid (add_any t f k (some ⟨w.heap.size, 0, none⟩) 0 q [] w.heap.size (w.drew.alloc (.cells M 5)) (PT.ok.below HB.out t HR.out.okt) hfk HK.out (by rw [HN.out]; omega) HB.out.size HO.out)
  clear h hN hM hms
  go_enter Try.func16, Try.ntmps16
  go_wp2_with (first | (go_at_call 20; refine KL.out.mono ?_; rintro r w' ⟨rfl, rfl⟩))
  go_region_held3 (fun w' => w'.cell? ⟨b, 0, none⟩ = some t.v) (first | go_keep | exact (HB.out.cell hb0).trans c0 | exact ((HB.out.trans h2).cell hb0).trans c0) (first | (go_at_call 24; refine HA.out.mono ?_; rintro r w1 ⟨a, c, rfl, h1, h2, _⟩))
  rw [hq, Nat.zero_add, List.nil_append] at h1
  have H1 := Lib.hid h1
  have H2 := Lib.hid (HB.out.trans h2)
  clear h1 h2
  go_wp2
  exact bodyPost_ret (v := .tuple #[.slice a q c, .int .i64 0]) (by simp [results, Try.results16, go_sem]) rfl ⟨a, c, rfl, H1.out, H2.out⟩

end Go.Proofs.Ytkpdehbffankkaa
