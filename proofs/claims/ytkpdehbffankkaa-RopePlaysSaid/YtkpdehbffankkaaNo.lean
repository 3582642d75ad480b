/- Contract of package rope's Replace. -/
import Derived.Test.YtkpdehbffankkaaNl
import Derived.Test.YtkpdehbffankkaaNc
import Derived.Laws.IdiomStrings
namespace Go.Proofs.Ytkpdehbffankkaa
open Go.RowKit

/-- []byte(s). -/
theorem conv_str (w : World) (l : List Int) (hr : ∀ x ∈ l, 0 ≤ x ∧ x ≤ 255) (hl : l.length ≤ 1000000) :
    ∃ g C W', (convert 9 22 (.string (bstr l))).run Try.prog w = .ok (.slice (some ⟨g, 0, none⟩) l.length C) W' ∧ Bs W' (some ⟨g, 0, none⟩) l.length C l ∧ Below w.heap.size w W' := by
  have h := run_bytes_of_string (P := Try.prog) w 9 22 5 (bstr l) Try.underlying9 Try.underlying22 Try.underlying5
  have hz : (bstr l).size = l.length := PT.bstr_size l
  have hc1 := grownCap_ge w (bstr l).size 0 5
  have hc2 := grownCap_le_maxLen w (bstr l).size 0 5 (by unfold maxLen; omega)
  rw [hz] at hc1 hc2 h
  refine ⟨_, _, _, h, ⟨rfl, hc1, hc2, hr, fun h0 => ⟨_, 0, rfl, by simp, fun j hj => ?_⟩⟩, ((Below.refl _ _).drew).alloc (Nat.le_refl _) _⟩
  have hn := cell_of_row (w.drew.alloc (.cells (bytesRow (bstr l) (grownCap w l.length 0 5)) 5 ((bytesRow (bstr l) (grownCap w l.length 0 5)).size, (bytesRow (bstr l) (grownCap w l.length 0 5)).size + 1))) w.heap.size (0 + j) _ 5 _ (heap_alloc_new w.drew _)
  rw [hn]
  rw [bytesRow_at (bstr l) _ (0 + j) (show 0 + j < (bstr l).size from by omega)]
  simp only [Nat.zero_add, bstr, List.getElem_toArray, List.getElem_map]
  rw [u8_back (hr _ (List.getElem_mem hj))]
  simp [bt, List.getD, hj]

theorem concat3 (g : Nat) (a0 a1 a2 : Option Addr) (n0 n1 n2 c0 c1 c2 : Nat) (l0 l1 l2 : List Int) (w : World) (h0 : w.cell? ⟨g, 0, none⟩ = some (.slice a0 n0 c0)) (h1 : w.cell? ⟨g, 1, none⟩ = some (.slice a1 n1 c1)) (h2 : w.cell? ⟨g, 2, none⟩ = some (.slice a2 n2 c2))
    (b0 : Bs w a0 n0 c0 l0) (b1 : Bs w a1 n1 c1 l1) (b2 : Bs w a2 n2 c2 l2) (hsz : n0 + n1 + n2 ≤ 20000000) :
    Calls Try.prog 23 #[.slice (some ⟨g, 0, none⟩) 3 3] w fun e w' => ∃ a c, e = .returned (.slice a (n0 + n1 + n2) c) ∧ OwnB w.heap.size 5 w' a (n0 + n1 + n2) c (l0 ++ l1 ++ l2) ∧ Below w.heap.size w w' := by
  have := concat_any g 3 (fun i => if i = 0 then a0 else if i = 1 then a1 else a2) (fun i => if i = 0 then n0 else if i = 1 then n1 else n2) (fun i => if i = 0 then c0 else if i = 1 then c1 else c2) (fun i => if i = 0 then l0 else if i = 1 then l1 else l2) w (by omega)
    (fun i hi => by
      obtain rfl | rfl | rfl : i = 0 ∨ i = 1 ∨ i = 2 := by omega
      · exact h0
      · exact h1
      · exact h2) (World.block_lt_of_cell? w _ h0)
    (fun i hi => by
      obtain rfl | rfl | rfl : i = 0 ∨ i = 1 ∨ i = 2 := by omega
      · exact b0
      · exact b1
      · exact b2) (by simp [sumN]; omega)
  simpa [sumN, catL] using this

variable {w : World} {b : Nat} {t : PT} {e : Nat} {sv : Value} {dn dp : Int}

/-- Such an edit there is not. -/
theorem rep_range (k d : Int) (a : Option Addr) (n c : Nat) (h : RP w b t e sv dn dp) (hi : k < 0 ∨ d < 0 ∨ (t.l.length : Int) < k ∨ (t.l.length : Int) - k < d) :
    Calls Try.prog 13 #[.pointer (some ⟨b, 0, none⟩), .int .i64 k, .int .i64 d, .slice a n c] w fun r w' => r = .returned (.tuple #[.pointer none, .int .i64 3]) ∧ w = w' := by
  have KL := Lib.hid (len_any h)
  have hlen := h.len
  obtain ⟨N, hN⟩ : ∃ N, t.l.length = N := ⟨_, rfl⟩
  rw [hN] at KL hi hlen
  clear h hN
  by_cases h0 : k < 0
  · have hd0 : decide (k < 0) = true := by simpa using h0
    clear hi
    go_enter Try.func13, Try.ntmps13
    go_wp2
    exact bodyPost_ret (v := .tuple #[.pointer none, .int .i64 3]) (by simp [results, Try.results13, go_sem]) rfl ⟨rfl, rfl⟩
  have hd0 : decide (k < 0) = false := by simpa using h0
  by_cases h1 : d < 0
  · have hd1 : decide (d < 0) = true := by simpa using h1
    clear hi
    go_enter Try.func13, Try.ntmps13
    go_wp2
    exact bodyPost_ret (v := .tuple #[.pointer none, .int .i64 3]) (by simp [results, Try.results13, go_sem]) rfl ⟨rfl, rfl⟩
  have hd1 : decide (d < 0) = false := by simpa using h1
  by_cases h2 : (N : Int) < k
  · have hd2 : decide (k > (N : Int)) = true := by simpa using h2
    clear hi
    go_enter Try.func13, Try.ntmps13
    go_wp2_with (first | (go_at_call 20; refine KL.out.mono ?_; rintro r w' ⟨rfl, rfl⟩))
    exact bodyPost_ret (v := .tuple #[.pointer none, .int .i64 3]) (by simp [results, Try.results13, go_sem]) rfl ⟨rfl, rfl⟩
  have hd2 : decide (k > (N : Int)) = false := by simp; omega
  have w1 : IntKind.i64.wrap ((N : Int) - k) = (N : Int) - k := by rw [IntKind.wrap_i64]; omega
  have hd3 : decide (d > (N : Int) - k) = true := by simp; omega
  clear hi
  go_enter Try.func13, Try.ntmps13
  go_wp2_with (first | (go_at_call 20; refine KL.out.mono ?_; rintro r w' ⟨rfl, rfl⟩))
  exact bodyPost_ret (v := .tuple #[.pointer none, .int .i64 3]) (by simp [results, Try.results13, go_sem]) rfl ⟨rfl, rfl⟩

/-- There would be too many bytes. -/
theorem rep_big (k d : Nat) (a : Option Addr) (n c : Nat) (h : RP w b t e sv dn dp) (hkd : k + d ≤ t.l.length) (hn : n ≤ 4000000) (hbig : 2048 < t.l.length - d + n) :
    Calls Try.prog 13 #[.pointer (some ⟨b, 0, none⟩), .int .i64 k, .int .i64 d, .slice a n c] w fun r w' => r = .returned (.tuple #[.pointer none, .int .i64 4]) ∧ w = w' := by
  have KL := Lib.hid (len_any h)
  have hlen := h.len
  obtain ⟨N, hN⟩ : ∃ N, t.l.length = N := ⟨_, rfl⟩
  rw [hN] at KL hkd hbig hlen
  clear h hN
  have hd0 : decide ((k : Int) < 0) = false := by simp
  have hd1 : decide ((d : Int) < 0) = false := by simp
  have hd2 : decide ((k : Int) > (N : Int)) = false := by simp; omega
  have w1 : IntKind.i64.wrap ((N : Int) - (k : Int)) = (N : Int) - (k : Int) := by rw [IntKind.wrap_i64]; omega
  have hd3 : decide ((d : Int) > (N : Int) - (k : Int)) = false := by simp; omega
  have w2 : IntKind.i64.wrap ((N : Int) - (d : Int)) = (N : Int) - (d : Int) := by rw [IntKind.wrap_i64]; omega
  have w3 : IntKind.i64.wrap ((N : Int) - (d : Int) + (n : Int)) = (N : Int) - (d : Int) + (n : Int) := by rw [IntKind.wrap_i64]; omega
  have hd4 : decide ((N : Int) - (d : Int) + (n : Int) > 2048) = true := by simp; omega
  go_enter Try.func13, Try.ntmps13
  go_wp2_with (first | (go_at_call 20; refine KL.out.mono ?_; rintro r w' ⟨rfl, rfl⟩))
  exact bodyPost_ret (v := .tuple #[.pointer none, .int .i64 4]) (by simp [results, Try.results13, go_sem]) rfl ⟨rfl, rfl⟩

end Go.Proofs.Ytkpdehbffankkaa
