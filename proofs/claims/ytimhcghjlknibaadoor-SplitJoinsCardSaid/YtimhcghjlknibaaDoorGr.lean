/- The laws' own: few, short, name, bad; the document's example. -/
import Derived.Test.YtimhcghjlknibaaDoorMD
import Derived.Test.YtimhcghjlknibaaDoorME
import Derived.Deep.QuietTactic
import Derived.BigQuiet
namespace Go.Proofs.YtimhcghjlknibaaDoor
open Go.RowKit

theorem few_any (a : Option Addr) (len cap m : Nat) (w : World) (hm : m = min len 200) (hlc : len ≤ cap) :
    Calls Tryd.prog 14 #[.slice a len cap] w fun e w' => e = .returned (.slice a m cap) ∧ w = w' := by
  rcases Nat.le_total len 200 with h | h
  · obtain rfl : m = len := by omega
    clear hm
    go_enter Tryd.func14, Tryd.ntmps14
    go_wp2 <;> (go_ret; exact ⟨ret_slice (by omega) rfl, rfl⟩)
  · obtain rfl : m = 200 := by omega
    clear hm
    go_enter Tryd.func14, Tryd.ntmps14
    go_wp2 <;> (go_ret; exact ⟨ret_slice (by omega) rfl, rfl⟩)

theorem info_piece : (Tryd.prog.info? 25).map (·.size) = some 4 := by kernel_rfl

set_option maxRecDepth 20000 in
theorem short_any (f t i : Int) (a : Option Addr) (len cap m : Nat) (w : World) (hm : m = min len 40) (hlc : len ≤ cap) :
    Calls Tryd.prog 10 #[.agg #[.int .i64 f, .int .i64 t, .int .i64 i, .slice a len cap]] w fun r w' => r = .returned (.agg #[.int .i64 f, .int .i64 t, .int .i64 i, .slice a m cap]) ∧ Below w.heap.size w w' := by
  have fin : ∀ cs : Array Value, cs = #[.int .i64 f, .int .i64 t, .int .i64 i, .slice a m cap] → ((w.alloc (.cells #[.int .i64 f, .int .i64 t, .int .i64 i, .slice a m cap] 25)).alloc (.cells cs 25)).heap[w.heap.size + 1]? = some (.cells #[.int .i64 f, .int .i64 t, .int .i64 i, .slice a m cap] 25 (0, 0)) := fun cs hc => by
    subst hc
    have := heap_alloc_new (w.alloc (.cells #[.int .i64 f, .int .i64 t, .int .i64 i, .slice a m cap] 25)) (.cells #[.int .i64 f, .int .i64 t, .int .i64 i, .slice a m cap] 25)
    rw [show (w.alloc (.cells #[.int .i64 f, .int .i64 t, .int .i64 i, .slice a m cap] 25)).heap.size = w.heap.size + 1 from by simp] at this
    exact this
  rcases Nat.le_total len 40 with h | h
  · obtain rfl : m = len := by omega
    clear hm
    go_enter Tryd.func10, Tryd.ntmps10
    go_wp2
    rw [show (min (m : Int) 40).toNat = m by omega]
    refine bodyPost_ret (results_cell_row rfl _ _ (w.heap.size + 1) 25 #[.int .i64 f, .int .i64 t, .int .i64 i, .slice a m cap] (0, 0) _ rfl (fin _ rfl) Tryd.underlying25 rfl info_piece) rfl ⟨by simp, ((Below.refl _ _).alloc (Nat.le_refl _) _).alloc (by simp) _⟩
  · obtain rfl : m = 40 := by omega
    clear hm
    go_enter Tryd.func10, Tryd.ntmps10
    go_wp2
    rw [show (min (len : Int) 40).toNat = 40 by omega]
    refine bodyPost_ret (results_cell_row rfl _ _ (w.heap.size + 1) 25 #[.int .i64 f, .int .i64 t, .int .i64 i, .slice a 40 cap] (0, 0) _ rfl (fin _ rfl) Tryd.underlying25 rfl info_piece) rfl ⟨by simp, ((Below.refl _ _).alloc (Nat.le_refl _) _).alloc (by simp) _⟩

set_option maxRecDepth 20000 in
theorem name2_any (t : TK) (w : World) :
    Calls Tryd.prog 20 #[.agg #[.int .i64 t.k, .int .i64 t.f, .int .i64 t.t, .string t.s, .int .i64 t.e]] w fun e w' => e = .returned (.bool (isN t)) ∧ Below w.heap.size w w' := by
  obtain ⟨k, f, t, s, e⟩ := t
  unfold isN
  simp only
  have HW : Hid (Below w.heap.size w (w.alloc (.cells #[.int .i64 k, .int .i64 f, .int .i64 t, .string s, .int .i64 e] 38))) := Lib.hid ((Below.refl _ _).alloc (Nat.le_refl _) _)
  cases h1 : k == 1 with
  | true =>
    go_enter Tryd.func20, Tryd.ntmps20
    go_wp2
    go_ret
    exact ⟨rfl, HW.out⟩
  | false =>
    cases h2 : k == 2 with
    | true =>
      go_enter Tryd.func20, Tryd.ntmps20
      go_wp2
      go_ret
      exact ⟨rfl, HW.out⟩
    | false =>
      cases h3 : k == 6 with
      | true =>
        go_enter Tryd.func20, Tryd.ntmps20
        go_wp2
        go_ret
        exact ⟨rfl, HW.out⟩
      | false =>
        go_enter Tryd.func20, Tryd.ntmps20
        go_wp2
        go_ret
        exact ⟨rfl, HW.out⟩

def badT (L : List TK) : Bool := L.any fun t => t.k == 8

set_option maxRecDepth 20000 in
theorem tbad_any (a : Option Addr) (len cap : Nat) (L : List TK) (w : World) (h : Ts w a len cap L) :
    Calls Tryd.prog 22 #[.slice a len cap] w fun e w' => e = .returned (.bool (badT L)) ∧ w = w' := by
  have hcm := h.cm
  have hlc := h.lc
  unfold maxLen at hcm
  have H := Lib.hid h
  have HL := Lib.hid h.hl
  clear h
  go_enter Tryd.func22, Tryd.ntmps22
  go_wp2
  go_loopw [3] (fun i wr => ∃ k : Nat, i = .int .i64 k ∧ k ≤ len ∧ Hid (badT (L.drop k) = badT L) ∧ w = wr) (fun i _ => len - (intOf i).toNat)
  case atStart => exact ⟨0, rfl, by omega, Lib.hid rfl, rfl⟩
  case round =>
    obtain ⟨k, rfl, hk, HM, rfl⟩ := hrel
    by_cases hlt : k < len
    · have hb := H.out
      obtain ⟨b, off, rfl, _, _⟩ := hb.at_ (by omega)
      obtain ⟨c0, c1, c2, c3, c4⟩ := hb.at5 hlt
      have HS : Hid (badT L = ((tat L k).k == 8 || badT (L.drop (k + 1)))) := Lib.hid (by rw [← HM.out, tat_drop (by rw [HL.out]; exact hlt)]; rfl)
      obtain ⟨K, hK⟩ : ∃ K, K = (tat L k).k := ⟨_, rfl⟩
      rw [← hK] at c0 HS
      clear hb hK c1 c2 c3 c4
      cases hq : K == 8 with
      | true =>
        have HF : Hid (badT L = true) := Lib.hid (by rw [HS.out, hq]; rfl)
        go_wp2
        go_ret
        exact ⟨by rw [HF.out]; rfl, by first | rfl | trivial⟩
      | false =>
        have HF : Hid (badT (L.drop (k + 1)) = badT L) := Lib.hid (by rw [HS.out, hq]; rfl)
        go_wp2
        go_roundw
        case rel => exact ⟨k + 1, by go_num, by omega, HF, by first | rfl | trivial⟩
        case measure => simp [intOf]; omega
    · have hkl : k = len := by omega
      have HF : Hid (badT L = false) := Lib.hid (by rw [← HM.out, List.drop_eq_nil_iff.2 (by rw [HL.out]; omega)]; rfl)
      go_wp2
      go_ret
      exact ⟨by rw [HF.out]; rfl, by first | rfl | trivial⟩

def ex10 : List Int := [97, 46, 32, 40, 98]
theorem lx_ex10 : lx ex10 0 = [(0, ⟨1, 1, [97], 0⟩), (1, ⟨7, 1, [46], 0⟩), (3, ⟨6, 1, [40], 0⟩), (4, ⟨1, 1, [98], 0⟩)] := by decide +kernel
theorem toks_ex10 : toks ex10 = [⟨1, 0, 1, bstr [97], 0⟩, ⟨7, 1, 2, bstr [46], 0⟩, ⟨6, 3, 4, bstr [40], 0⟩, ⟨1, 4, 5, bstr [98], 0⟩] := by
  unfold toks; rw [lx_ex10]; rfl
theorem pieces_ex10 : pieces ex10 = [⟨0, 2, 0, [⟨1, 0, 1, bstr [97], 0⟩, ⟨7, 1, 2, bstr [46], 0⟩]⟩, ⟨3, 5, 2, [⟨6, 3, 4, bstr [40], 0⟩, ⟨1, 4, 5, bstr [98], 0⟩]⟩] := by
  unfold pieces; rw [toks_ex10]; rfl

theorem two_pieces {V : List PV} (h : V.map PV.k = pieces ex10) : ∃ s u : SV, V = [⟨0, 2, 0, s⟩, ⟨3, 5, 2, u⟩] ∧ s.L = [⟨1, 0, 1, bstr [97], 0⟩, ⟨7, 1, 2, bstr [46], 0⟩] ∧ u.L = [⟨6, 3, 4, bstr [40], 0⟩, ⟨1, 4, 5, bstr [98], 0⟩] := by
  rw [pieces_ex10] at h
  have hl : V.length = 2 := by have := congrArg List.length h; simpa using this
  obtain ⟨⟨f, t, i, s⟩, V1, rfl⟩ := List.exists_cons_of_length_pos (l := V) (by omega)
  obtain ⟨⟨f', t', i', u⟩, V2, rfl⟩ := List.exists_cons_of_length_pos (l := V1) (by simp only [List.length_cons] at hl; omega)
  obtain rfl : V2 = [] := List.eq_nil_of_length_eq_zero (by simp only [List.length_cons] at hl; omega)
  simp only [List.map_cons, List.map_nil, PV.k, List.cons.injEq, PK.mk.injEq, and_true] at h
  obtain ⟨⟨rfl, rfl, rfl, h1⟩, rfl, rfl, rfl, h2⟩ := h
  exact ⟨s, u, rfl, h1, h2⟩
theorem nst_ex : nst 0 0 [⟨6, 3, 4, bstr [40], 0⟩, ⟨1, 4, 5, bstr [98], 0⟩] = 1 := by decide +kernel
theorem nmR_ex : (nmR (nms [⟨1, 0, 1, bstr [97], 0⟩, ⟨7, 1, 2, bstr [46], 0⟩])).length = 1 := by
  have h : nms [⟨1, 0, 1, bstr [97], 0⟩, ⟨7, 1, 2, bstr [46], 0⟩] = [[97]] := by decide +kernel
  rw [h, ← insA_nmR]
  rfl

set_option maxRecDepth 100000 in
set_option maxHeartbeats 4000000 in
theorem shown_any (w : World) (ht : Tab w) :
    Calls Tryd.prog 8 #[] w fun e w' => e = .returned (.bool true) ∧ Below w.heap.size w w' := by
  have kc := Joins.run_convert_bytes_const_at (P := Tryd.prog) w 22 5 #[.int .u8 97, .int .u8 46, .int .u8 32, .int .u8 40, .int .u8 98] 5 5 w.heap.size rfl Tryd.underlying22 Tryd.underlying5
  have hb0 : Below w.heap.size w (w.alloc (.cells #[.int .u8 97, .int .u8 46, .int .u8 32, .int .u8 40, .int .u8 98] 5 (5, 6))) := (Below.refl _ _).alloc (Nat.le_refl _) _
  have HL1 : Hid (Bs (w.alloc (.cells #[.int .u8 97, .int .u8 46, .int .u8 32, .int .u8 40, .int .u8 98] 5 (5, 6))) (some ⟨w.heap.size, 0, none⟩) 5 5 ex10) := Lib.hid (Bs.lit w 5 (by simp [ex10]) (by simp [ex10]) rfl rfl (by decide))
  have HT := Lib.hid ht
  have HB0 := Lib.hid hb0
  clear ht hb0
  go_enter Tryd.func8, Tryd.ntmps8
  go_wp2_with fail
  refine (pieces_any _ _ _ ex10 _ HL1.out (HT.out.keep HB0.out) (by decide)).mono ?_
  rintro e w1 ⟨a1, n1, c1, V, rfl, hp1, hm1, hb1⟩
  obtain ⟨⟨sa, sn, sc, sL⟩, ⟨ua, un, uc, uL⟩, rfl, hs, hu⟩ := two_pieces hm1
  simp only at hs hu
  have hn : n1 = 2 := hp1.hl.symm
  subst hn
  obtain ⟨b, o, rfl, hbl⟩ := hp1.form (by decide)
  obtain ⟨d0, d1, d2, d3⟩ := hp1.at4 (k := 0) (by decide)
  obtain ⟨e0, e1, e2, e3⟩ := hp1.at4 (k := 1) (by decide)
  simp only [Nat.zero_mul, Nat.one_mul, Nat.add_zero, pat, List.getD_cons_zero, List.getD_cons_succ] at d0 d1 d2 d3 e0 e1 e2 e3
  have hlc := hp1.row.lc
  have HS : Hid (Ts w1 sa sn sc sL) := Lib.hid (hp1.ok ⟨0, 2, 0, ⟨sa, sn, sc, sL⟩⟩ (by simp))
  have HU : Hid (Ts w1 ua un uc uL) := Lib.hid (hp1.ok ⟨3, 5, 2, ⟨ua, un, uc, uL⟩⟩ (by simp))
  have HSU := Lib.hid (And.intro hs hu)
  have HW1 : Hid (Below w.heap.size w w1) := Lib.hid (HB0.out.trans (hb1.mono HB0.out.size))
  have HD := Lib.hid (And.intro hbl (And.intro d0 (And.intro d1 (And.intro d2 d3))))
  have hsn : sn ≤ 1000000 := by rw [← HS.out.hl, hs]; decide
  have hun : un ≤ 1000000 := by rw [← HU.out.hl, hu]; decide
  clear hp1 hm1 hb1 hs hu kc
  go_wp2_with fail
  refine (nest_any 3 5 2 ua un uc uL _ HU.out hun).mono ?_
  rw [HSU.out.2, nst_ex]
  rintro e w2 ⟨rfl, hb2⟩
  have d0 := (hb2.cell HD.out.1).trans HD.out.2.1
  have d1 := (hb2.cell HD.out.1).trans HD.out.2.2.1
  have d2 := (hb2.cell HD.out.1).trans HD.out.2.2.2.1
  have d3 := (hb2.cell HD.out.1).trans HD.out.2.2.2.2
  have HS2 := Lib.hid (HS.out.below hb2)
  have HW2 : Hid (Below w.heap.size w w2) := Lib.hid (HW1.out.trans (hb2.mono HW1.out.size))
  clear hb2 e0 e1 e2 e3
  go_wp2_with fail
  refine (names_any 0 2 0 sa sn sc sL _ HS2.out hsn).mono ?_
  rw [HSU.out.1, nmR_ex]
  rintro e w3 ⟨a3, c3, rfl, _, hb3⟩
  have HW3 : Hid (Below w.heap.size w w3) := Lib.hid (HW2.out.trans (hb3.mono HW2.out.size))
  clear hb3
  go_wp2
  go_ret
  exact ⟨rfl, HW3.out⟩

end Go.Proofs.YtimhcghjlknibaaDoor
