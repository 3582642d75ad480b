/- Contracts of package rope's ahead and behind. -/
import Derived.Test.YtkpdehbffankkaaNa
namespace Go.Proofs.Ytkpdehbffankkaa
open Go.RowKit

theorem bstr_nil : bstr [] = ⟨#[]⟩ := rfl

/-- Some of a string's bytes. -/
theorem bstr_sub (l : List Int) (i j : Nat) : (bstr l).extract i j = bstr ((l.take j).drop i) := by
  apply ByteArray.ext
  rw [ByteArray.data_extract]
  simp only [bstr]
  apply Array.ext'
  simp [List.extract_eq_take_drop, List.map_drop, List.map_take, List.drop_take]

theorem run_to (w : World) (l : List Int) (k : Nat) (hk : k ≤ l.length) :
    (Instr.slice 9 (.string (bstr l)) none (some (.int .i64 k)) none).run Try.prog w = .ok (.string (bstr (l.take k))) w := by
  have := run_slice_string_h w 9 (bstr l) Try.underlying9 .i64 k (by omega) (by rw [PT.bstr_size]; omega)
  rw [this, Int.toNat_natCast, bstr_sub, List.drop_zero]

theorem run_from (w : World) (l : List Int) (k : Nat) (hk : k ≤ l.length) :
    (Instr.slice 9 (.string (bstr l)) (some (.int .i64 k)) none none).run Try.prog w = .ok (.string (bstr (l.drop k))) w := by
  have := run_slice_string_l w 9 (bstr l) Try.underlying9 .i64 k (by omega) (by rw [PT.bstr_size]; omega)
  rw [this, Int.toNat_natCast, bstr_sub, PT.bstr_size, List.take_length]

set_option maxRecDepth 20000 in
theorem ahead_any : ∀ (t : PT) (k : Nat) (w : World), t.ok w → k ≤ t.l.length → t.l.length ≤ 4000000 →
    Calls Try.prog 25 #[t.v, .int .i64 k] w fun e w' => ∃ (z : PT) (s : List Int), e = .returned (.tuple #[z.v, .string (bstr s)]) ∧ z.ok w' ∧ z.l ++ s = t.l.take k ∧ z.d ≤ t.d ∧ Below w.heap.size w w' := by
  intro t
  induction t with
  | nil =>
    intro k w h hk _
    rw [show PT.nil.v = .pointer none from rfl]
    have hk0 : k = 0 := by simpa [PT.l] using hk
    subst hk0
    go_enter Try.func25, Try.ntmps25
    go_wp2
    exact bodyPost_ret (v := .tuple #[.pointer none, .string ⟨#[]⟩]) (by simp [results, Try.results25, go_sem]) rfl ⟨.nil, [], rfl, trivial, by simp [PT.l], Nat.le_refl _, Below.refl _ _⟩
  | leaf b l =>
    intro k w h hk hl
    obtain ⟨c0, c1, _, _⟩ := PT.leaf_cells h
    rw [show (PT.leaf b l).v = .pointer (some ⟨b, 0, none⟩) from rfl]
    have hk' : k ≤ l.length := hk
    have hl' : l.length ≤ 4000000 := hl
    have ks : ∀ w, (Instr.slice 9 (.string (bstr l)) none (some (.int .i64 k)) none).run Try.prog w = .ok (.string (bstr (l.take k))) w := fun w => run_to w l k hk'
    clear h hk hl
    go_enter Try.func25, Try.ntmps25
    go_wp2
    go_quiet (fail)
    go_wp2
    exact bodyPost_ret (v := .tuple #[.pointer none, .string (bstr (l.take k))]) (by simp [results, Try.results25, go_sem]) rfl ⟨.nil, l.take k, rfl, trivial, by simp [PT.l], Nat.le_refl _, below_drewN (Below.refl _ _) _⟩
  | node b x y ihx ihy =>
    intro k w h hk hl
    obtain ⟨c0, c1, c2, _⟩ := PT.node_cells h
    obtain ⟨bx, hbx, cx⟩ := v_addr h.2.2.1 h.2.1
    have hlk : x.l.length + y.l.length ≤ 4000000 := by rw [← List.length_append]; exact hl
    have hkk : k ≤ x.l.length + y.l.length := by rw [← List.length_append]; exact hk
    have HX := Lib.hid h.2.2.1
    have HY := Lib.hid h.2.2.2
    rw [show (PT.node b x y).v = .pointer (some ⟨b, 0, none⟩) from rfl]
    have ihx' := ihx k w h.2.2.1
    rw [hbx] at c1 ihx'
    clear h hk hl
    obtain ⟨p, hp⟩ : ∃ p, x.l.length = p := ⟨_, rfl⟩
    obtain ⟨q, hq⟩ : ∃ q, y.l.length = q := ⟨_, rfl⟩
    rw [hp] at cx ihx'
    rw [hp, hq] at hlk hkk
    have HP := Lib.hid hp
    have HQ := Lib.hid hq
    have HBX := Lib.hid hbx
    clear hp hq hbx ihx
    by_cases hlt : k < p
    · have hd : decide ((k : Int) < (p : Int)) = true := by simp; omega
      have IX := Lib.hid (ihx' (by omega) (by omega))
      clear ihx' ihy
      go_enter Try.func25, Try.ntmps25
      go_wp2_with (first | (go_at_call 36; go_in) | (go_at_call 25; refine IX.out.mono ?_; rintro e w1 ⟨z, s, rfl, h1, h2, h3, h4⟩))
      exact bodyPost_ret (v := .tuple #[z.v, .string (bstr s)]) (by simp [results, Try.results25, go_sem]) rfl ⟨z, s, rfl, h1, by rw [h2]; simp only [PT.l]; rw [List.take_append_of_le_length (by rw [HP.out]; omega)], by simp only [PT.d]; omega, h4⟩
    · have hd : decide ((k : Int) < (p : Int)) = false := by simp; omega
      have ks := wrap_nat (k - p) (by omega)
      rw [Int.natCast_sub (by omega)] at ks
      have IY : Hid (∀ w1, Below w.heap.size w w1 → _) := Lib.hid (fun w1 (hb : Below w.heap.size w w1) => ihy (k - p) w1 (PT.ok.below hb y HY.out) (by rw [HQ.out]; omega) (by rw [HQ.out]; omega))
      rw [Int.natCast_sub (by omega)] at IY
      clear ihx' ihy
      have hb1 : b < w.heap.size := World.block_lt_of_cell? w _ c1
      have hb2 : bx < w.heap.size := World.block_lt_of_cell? w _ cx
      go_enter Try.func25, Try.ntmps25
      go_wp2_with (first | (go_at_call 36; go_in))
      go_region_held3 (fun w' => w'.cell? ⟨b, 1, none⟩ = some (.pointer (some ⟨bx, 0, none⟩)) ∧ w'.cell? ⟨b, 2, none⟩ = some y.v ∧ w'.cell? ⟨bx, 3, none⟩ = some (.int .i64 p)) (first | go_keep | exact ⟨(h4.cell hb1).trans c1, (h4.cell hb1).trans c2, (h4.cell hb2).trans cx⟩) (first | (go_at_call 25; refine (IY.out _ (below_drewN (Below.refl _ _) 1)).mono ?_; rintro e w1 ⟨z, s, rfl, h1, h2, h3, h4⟩))
      have hz : z.l.length ≤ q := by
        have := congrArg List.length h2
        rw [List.length_append, List.length_take, HQ.out] at this
        omega
      have HB1 : Hid (Below w.heap.size w w1) := Lib.hid ((below_drewN (Below.refl _ _) 1).trans h4)
      have J := join_any x z w1 (PT.ok.below HB1.out x HX.out) h1 (by rw [HP.out]; omega)
      rw [HBX.out] at J
      have HJ := Lib.hid J
      have H2 := Lib.hid h2
      clear J h2 h4 IY
      go_wp2_with (first | (go_at_call 27; refine HJ.out.mono ?_; rintro e w2 ⟨z', rfl, h5, h6, h7, h8⟩))
      refine bodyPost_ret (v := .tuple #[z'.v, .string (bstr s)]) (by simp [results, Try.results25, go_sem]) rfl ⟨z', s, rfl, h5, ?_, ?_, HB1.out.trans (h8.mono HB1.out.size)⟩
      · rw [h6, List.append_assoc, H2.out]
        simp only [PT.l]
        rw [List.take_append, HP.out, List.take_of_length_le (l := x.l) (by rw [HP.out]; omega)]
      · simp only [PT.d]
        omega

end Go.Proofs.Ytkpdehbffankkaa
