/- TokenAlone's walk. -/
import Derived.Test.YtglgdpcfjbahdaaDoorTu
import Derived.Deep.QuietTactic
import Derived.BigQuiet
namespace Go.Proofs.YtglgdpcfjbahdaaDoor
open Go.RowKit

theorem sg_idx (r : Nat) (hr : r < 15) (w : World) : (Instr.index 9 (.string { data := #[43, 45, 42, 92, 94, 60, 62, 61, 126, 63, 64, 35, 38, 36, 33] }) (.int .i64 (r : Int))).run Tryd.prog w = .ok (.int .u8 (sgn r)) w := by
  rw [run_index_string w 9 _ _ _ Tryd.underlying9, dif_pos ⟨by omega, by show (r : Int) < 15; omega⟩]
  have : ∀ k : Nat, (h : k < 15) → ((({ data := #[43, 45, 42, 92, 94, 60, 62, 61, 126, 63, 64, 35, 38, 36, 33] } : ByteArray)[k]'h).toNat : Int) = sgn k := by decide +kernel
  simp only [Int.toNat_natCast]
  rw [this r hr]
theorem so_idx (r : Nat) (hr : r < 9) (w : World) : (Instr.index 9 (.string { data := #[40, 41, 44, 124, 59, 91, 93, 123, 125] }) (.int .i64 (r : Int))).run Tryd.prog w = .ok (.int .u8 (slo r)) w := by
  rw [run_index_string w 9 _ _ _ Tryd.underlying9, dif_pos ⟨by omega, by show (r : Int) < 9; omega⟩]
  have : ∀ k : Nat, (h : k < 9) → ((({ data := #[40, 41, 44, 124, 59, 91, 93, 123, 125] } : ByteArray)[k]'h).toNat : Int) = slo k := by decide +kernel
  simp only [Int.toNat_natCast]
  rw [this r hr]
theorem sg_enc (r : Nat) (hr : r < 15) (w : World) : (convert 5 9 (.int .u8 (sgn r))).run Tryd.prog w = .ok (.string (bstr [sgn r])) w := by
  rw [run_convert_int_string w 5 9 _ _ (by rw [Tryd.underlying5]; rfl) Tryd.underlying9]
  have : ∀ k : Nat, k < 15 → (Utf8.encode (sgn k)).data = (bstr [sgn k]).data := by decide +kernel
  rw [ByteArray.ext (this r hr)]
theorem so_enc (r : Nat) (hr : r < 9) (w : World) : (convert 5 9 (.int .u8 (slo r))).run Tryd.prog w = .ok (.string (bstr [slo r])) w := by
  rw [run_convert_int_string w 5 9 _ _ (by rw [Tryd.underlying5]; rfl) Tryd.underlying9]
  have : ∀ k : Nat, k < 9 → (Utf8.encode (slo k)).data = (bstr [slo k]).data := by decide +kernel
  rw [ByteArray.ext (this r hr)]

/-- What is asked of the string so far. -/
def soFar (q k : Nat) (s : List Int) : Prop := allB q s ∧ s.length = (if q = 4 then min k 1 else k)

theorem soFar_add {q k : Nat} {s : List Int} {x : Int} (hq : q ≠ 4) (h : soFar q k s) (hx : 0 ≤ x ∧ x ≤ 255) (ho : okB q x = true) : soFar q (k + 1) (s ++ [x]) := by
  refine ⟨fun y hy => ?_, ?_⟩
  · rcases List.mem_append.1 hy with hy | hy
    · exact h.1 y hy
    · rw [List.mem_singleton.1 hy]; exact ⟨hx, ho⟩
  · have := h.2
    rw [if_neg hq] at this
    rw [if_neg hq, List.length_append, this]; rfl

set_option maxRecDepth 100000 in
set_option maxHeartbeats 2000000 in
theorem alone0 (a : Option Addr) (len cap : Nat) (l : List Int) (c : Int) (w : World) (h : Bs w a len cap l) (ht : Tab w) (h0 : 0 ≤ c) (h1 : c ≤ 255) (hq5 : c % 5 = 0) :
    Calls Tryd.prog 7 #[.int .u8 c, .slice a len cap] w fun e w' => e = .returned (.bool true) ∧ Below w.heap.size w w' := by
  have HT := Lib.hid ht
  have H := Lib.hid h
  have hlc := h.lc
  have hcm := h.cm
  unfold maxLen at hcm
  clear h ht
  go_enter Tryd.func7, Tryd.ntmps7
  go_wp2_with fail
  refine (shown_any _ HT.out).mono ?_
  rintro e w1 ⟨rfl, hb1⟩
  have HW1 := Lib.hid hb1
  clear hb1
  go_wp2
  try rw [hq5]
  clear hq5
  go_loopw [10, 11] (fun s i wr => ∃ (k : Nat) (sl : List Int), i = .int .i64 k ∧ s = .string (bstr sl) ∧ k ≤ 9 ∧ k ≤ len + 1 ∧ Hid (soFar 0 k sl) ∧ Hid (Below (w1.heap.size + 1) (w1.alloc (.cells #[.int .i64 1, .int .i64 3, .int .i64 4, .int .i64 2, .int .i64 6] 36)) wr)) (fun _ i _ => 10 - (intOf i).toNat)
  case atStart => exact ⟨0, [], rfl, rfl, by omega, by omega, Lib.hid ⟨(by intro x hx; cases hx), by simp⟩, Lib.hid (Below.refl _ _)⟩
  case round =>
    obtain ⟨k, sl, rfl, rfl, hk9, hkl, HS, HB⟩ := hrel
    rename World => wr
    have HBW : Hid (Below w.heap.size w wr) := Lib.hid ((HW1.out.alloc HW1.out.size _).trans (HB.out.mono (by have := HW1.out.size; omega)))
    have hsl : sl.length ≤ 9 := by have := HS.out.2; split at this <;> omega
    by_cases hgo : k ≤ len ∧ k < 9
    · obtain ⟨hg1, hg2⟩ := hgo
      by_cases hin : k < len
      · have hb := H.out.below HBW.out
        have r0 := (bt_rng hb.rng k).1
        have r1 := (bt_rng hb.rng k).2
        obtain ⟨b, off, rfl, _, hcc⟩ := hb.at_ (by omega)
        have hck := hcc k hin
        clear hb hcc
        obtain ⟨X, hX⟩ : ∃ X : Int, X = 97 + bt l k % 26 := ⟨_, rfl⟩
        have hX0 : 0 ≤ X ∧ X ≤ 255 := by omega
        have hXo : okB 0 X = true := by unfold okB; simp only [Nat.reduceEqDiff, if_true, if_false, decide_eq_true_eq]; omega
        have HN := Lib.hid (soFar_add (by decide) HS.out hX0 hXo)
        rw [hX] at hX0 HN
        have hlit : Bs (wr.alloc (.cells #[.int .u8 (97 + bt l k % 26)] 5)) (some ⟨wr.heap.size, 0, none⟩) 1 1 [97 + bt l k % 26] := Bs.lit wr 5 (by simp) (fun x hx => by rw [List.mem_singleton.1 hx]; exact hX0) rfl rfl (Nat.le_of_ble_eq_true rfl)
        have kc := hlit.str (P := Tryd.prog) 22 9 5 Tryd.underlying22 Tryd.underlying5 Tryd.underlying9
        have hcat := bstr_append sl [97 + bt l k % 26]
        have hz1 : (bstr sl).size ≤ 9 := by rw [bstr_size]; omega
        have hz2 : (bstr [97 + bt l k % 26]).size = 1 := by rw [bstr_size]; rfl
        clear hX hX0 hXo hlit
        go_wp2
        skip
        go_roundw
        case rel => exact ⟨k + 1, (sl ++ [97 + bt l k % 26]), by go_num, rfl, by omega, by omega, HN, Lib.hid (HB.out.alloc (by have := HB.out.size; simpa using this) _)⟩
        case measure => simp [intOf]; omega
      · have hke : k = len := by omega
        have HN := Lib.hid (soFar_add (x := 104) (by decide) HS.out (by decide) (by decide))
        have hlit : Bs (wr.alloc (.cells #[.int .u8 104] 5)) (some ⟨wr.heap.size, 0, none⟩) 1 1 [104] := Bs.lit wr 5 (by simp) (by simp) rfl rfl (by decide)
        have kc := hlit.str (P := Tryd.prog) 22 9 5 Tryd.underlying22 Tryd.underlying5 Tryd.underlying9
        have hcat := bstr_append sl [104]
        have hz1 : (bstr sl).size ≤ 9 := by rw [bstr_size]; omega
        have hz2 : (bstr [104]).size = 1 := by rw [bstr_size]; rfl
        clear hlit
        go_wp2
        skip
        go_roundw
        case rel => exact ⟨k + 1, (sl ++ [104]), by go_num, rfl, by omega, by omega, HN, Lib.hid (HB.out.alloc (by have := HB.out.size; simpa using this) _)⟩
        case measure => simp [intOf]; omega
    · by_cases hkl2 : k ≤ len
      · have hk99 : 9 ≤ k := by omega
        clear hgo
        have hk1 : 1 ≤ k := by omega
        obtain ⟨hAB, hLn⟩ := HS.out
        obtain ⟨n, hn⟩ : ∃ n, n = sl.length := ⟨_, rfl⟩
        have hn0 : 0 < sl.length := by rw [hLn]; split <;> omega
        have hn4 : 0 = 4 → sl.length = 1 := fun hh => by rw [hLn, if_pos hh]; omega
        have HN1 : nx (32 :: (sl ++ [32])) 0 = some (1, ⟨1, sl.length, sl, 0⟩) := nx_blank 0 (by decide) sl hAB hn0 hsl hn4
        have HN2 : nx sl 0 = some (0, ⟨1, sl.length, sl, 0⟩) := nx_bare 0 (by decide) sl hAB hn0 hsl hn4
        rw [← hn] at HN1 HN2
        have hnl : n ≤ 9 := by omega
        have hn1 : 0 < n := by omega
        have hrng : ∀ x ∈ sl, 0 ≤ x ∧ x ≤ 255 := fun x hx => (hAB x hx).1
        have hsz : (bstr sl).size = n := by rw [bstr_size, hn]
        obtain ⟨g1, C1, W1, kc1, hB1, hb1⟩ := conv_str wr (({ data := #[32] } : ByteArray) ++ bstr sl ++ { data := #[32] }) (32 :: (sl ++ [32])) (bstr_blank sl) (by
          intro x hx
          simp only [List.mem_cons, List.mem_append, List.not_mem_nil, or_false] at hx
          rcases hx with rfl | hx | rfl
          · omega
          · exact hrng x hx
          · omega) (by simp; omega)
        have HBS1 := Lib.hid hB1
        have HBW1 : Hid (Below w.heap.size w W1) := Lib.hid (HBW.out.trans (hb1.mono HBW.out.size))
        have HKK1 : Hid (TV w1.heap.size #[.int .i64 1, .int .i64 3, .int .i64 4, .int .i64 2, .int .i64 6] W1) := Lib.hid (((tv_new w1 _ 36).keepB (by omega) HB.out).keep hb1)
        have HL1 : Hid ((32 :: (sl ++ [32])).length = n + 2) := Lib.hid (by simp; omega)
        have HRNG := Lib.hid hrng
        have HNL := Lib.hid hn
        rw [HL1.out] at kc1
        have HBS1 : Hid (Bs W1 (some ⟨g1, 0, none⟩) (n + 2) C1 (32 :: (sl ++ [32]))) := Lib.hid (by have := HBS1.out; rwa [HL1.out] at this)
        clear hAB hLn hn0 hn4 hB1 hb1 hrng hn
        have HN1 := Lib.hid HN1
        have HN2 := Lib.hid HN2
        go_wp2_with fail
        refine (next_any _ _ _ (32 :: (sl ++ [32])) 0 _ HBS1.out (HT.out.keep HBW1.out) (by omega) (Nat.zero_le _)).mono ?_
        rw [HN1.out, nxV_some]
        rintro e w2 ⟨rfl, hb2⟩
        have HW2 : Hid (Below w.heap.size w w2) := Lib.hid (HBW1.out.trans (hb2.mono HBW1.out.size))
        have HKK2 := Lib.hid (HKK1.out.keep hb2)
        clear hb2 kc1
        obtain ⟨g2, C2, W2, kc2, hB2, hb2⟩ := conv_str (w2.alloc (.cells #[.int .i64 1, .int .i64 1, .int .i64 (1 + (n : Int)), .string (bstr sl), .int .i64 0] 27)) (bstr sl) sl rfl HRNG.out (by rw [← HNL.out]; omega)
        have HBS2 : Hid (Bs W2 (some ⟨g2, 0, none⟩) n C2 sl) := Lib.hid (by have := hB2; rwa [← HNL.out] at this)
        rw [← HNL.out] at kc2
        have HBW2 : Hid (Below w.heap.size w W2) := Lib.hid (HW2.out.trans ((past_alloc hb2).mono HW2.out.size))
        have HKK3 := Lib.hid (HKK2.out.keep (past_alloc hb2))
        have HT1 : Hid (TV w2.heap.size #[.int .i64 1, .int .i64 1, .int .i64 (1 + (n : Int)), .string (bstr sl), .int .i64 0] W2) := Lib.hid ((tv_new w2 _ 27).keep hb2)
        clear hB2 hb2
        go_wp2_with fail
        refine (next_any _ _ _ sl 0 _ HBS2.out (HT.out.keep HBW2.out) (by omega) (Nat.zero_le _)).mono ?_
        rw [HN2.out, nxV_some]
        rintro e w3 ⟨rfl, hb3⟩
        have HW3 : Hid (Below w.heap.size w w3) := Lib.hid (HBW2.out.trans (hb3.mono HBW2.out.size))
        have HK4 := Lib.hid (HKK3.out.keep hb3)
        have HT3 := Lib.hid (HT1.out.keep hb3)
        clear hb3 kc2
        have HK5 := Lib.hid (HK4.out.keep ((Below.refl _ w3).alloc (Nat.le_refl _) (.cells #[.int .i64 1, .int .i64 0, .int .i64 (n : Int), .string (bstr sl), .int .i64 0] 27)))
        have HT5 := Lib.hid (HT3.out.keep ((Below.refl _ w3).alloc (Nat.le_refl _) (.cells #[.int .i64 1, .int .i64 0, .int .i64 (n : Int), .string (bstr sl), .int .i64 0] 27)))
        have qa0 := HT3.out.c 0
        have qa1 := HT3.out.c 1
        have qa2 := HT3.out.c 2
        have qa3 := HT3.out.c 3
        have qa4 := HT3.out.c 4
        have qk := HK4.out.c 0
        have la := HT3.out.lt
        have lk := HK4.out.lt
        have ra0 := HT5.out.c 0
        have ra1 := HT5.out.c 1
        have ra2 := HT5.out.c 2
        have ra3 := HT5.out.c 3
        have ra4 := HT5.out.c 4
        have rk := HK5.out.c 0
        simp only [List.getElem?_toArray, List.getElem?_cons_zero, List.getElem?_cons_succ] at qa0 qa1 qa2 qa3 qa4 qk ra0 ra1 ra2 ra3 ra4 rk
        have e1 := eq_tok 1 1 (1 + (n : Int)) 0 1 1 (1 + (n : Int)) 0 (bstr sl) (bstr sl)
        simp only [beq_self_eq_true, Bool.and_self] at e1
        have hwr : IntKind.i64.wrap (1 + (n : Int)) = 1 + (n : Int) := IntWalk.i64_in _ (by omega)
        go_wp2_with fail
        go_quiet (fail)
        go_wp2
        go_ret
        exact ⟨rfl, below_drewN (HW3.out.alloc HW3.out.size _) _⟩
      · clear hgo
        have hk1 : 1 ≤ k := by omega
        obtain ⟨hAB, hLn⟩ := HS.out
        obtain ⟨n, hn⟩ : ∃ n, n = sl.length := ⟨_, rfl⟩
        have hn0 : 0 < sl.length := by rw [hLn]; split <;> omega
        have hn4 : 0 = 4 → sl.length = 1 := fun hh => by rw [hLn, if_pos hh]; omega
        have HN1 : nx (32 :: (sl ++ [32])) 0 = some (1, ⟨1, sl.length, sl, 0⟩) := nx_blank 0 (by decide) sl hAB hn0 hsl hn4
        have HN2 : nx sl 0 = some (0, ⟨1, sl.length, sl, 0⟩) := nx_bare 0 (by decide) sl hAB hn0 hsl hn4
        rw [← hn] at HN1 HN2
        have hnl : n ≤ 9 := by omega
        have hn1 : 0 < n := by omega
        have hrng : ∀ x ∈ sl, 0 ≤ x ∧ x ≤ 255 := fun x hx => (hAB x hx).1
        have hsz : (bstr sl).size = n := by rw [bstr_size, hn]
        obtain ⟨g1, C1, W1, kc1, hB1, hb1⟩ := conv_str wr (({ data := #[32] } : ByteArray) ++ bstr sl ++ { data := #[32] }) (32 :: (sl ++ [32])) (bstr_blank sl) (by
          intro x hx
          simp only [List.mem_cons, List.mem_append, List.not_mem_nil, or_false] at hx
          rcases hx with rfl | hx | rfl
          · omega
          · exact hrng x hx
          · omega) (by simp; omega)
        have HBS1 := Lib.hid hB1
        have HBW1 : Hid (Below w.heap.size w W1) := Lib.hid (HBW.out.trans (hb1.mono HBW.out.size))
        have HKK1 : Hid (TV w1.heap.size #[.int .i64 1, .int .i64 3, .int .i64 4, .int .i64 2, .int .i64 6] W1) := Lib.hid (((tv_new w1 _ 36).keepB (by omega) HB.out).keep hb1)
        have HL1 : Hid ((32 :: (sl ++ [32])).length = n + 2) := Lib.hid (by simp; omega)
        have HRNG := Lib.hid hrng
        have HNL := Lib.hid hn
        rw [HL1.out] at kc1
        have HBS1 : Hid (Bs W1 (some ⟨g1, 0, none⟩) (n + 2) C1 (32 :: (sl ++ [32]))) := Lib.hid (by have := HBS1.out; rwa [HL1.out] at this)
        clear hAB hLn hn0 hn4 hB1 hb1 hrng hn
        have HN1 := Lib.hid HN1
        have HN2 := Lib.hid HN2
        go_wp2_with fail
        refine (next_any _ _ _ (32 :: (sl ++ [32])) 0 _ HBS1.out (HT.out.keep HBW1.out) (by omega) (Nat.zero_le _)).mono ?_
        rw [HN1.out, nxV_some]
        rintro e w2 ⟨rfl, hb2⟩
        have HW2 : Hid (Below w.heap.size w w2) := Lib.hid (HBW1.out.trans (hb2.mono HBW1.out.size))
        have HKK2 := Lib.hid (HKK1.out.keep hb2)
        clear hb2 kc1
        obtain ⟨g2, C2, W2, kc2, hB2, hb2⟩ := conv_str (w2.alloc (.cells #[.int .i64 1, .int .i64 1, .int .i64 (1 + (n : Int)), .string (bstr sl), .int .i64 0] 27)) (bstr sl) sl rfl HRNG.out (by rw [← HNL.out]; omega)
        have HBS2 : Hid (Bs W2 (some ⟨g2, 0, none⟩) n C2 sl) := Lib.hid (by have := hB2; rwa [← HNL.out] at this)
        rw [← HNL.out] at kc2
        have HBW2 : Hid (Below w.heap.size w W2) := Lib.hid (HW2.out.trans ((past_alloc hb2).mono HW2.out.size))
        have HKK3 := Lib.hid (HKK2.out.keep (past_alloc hb2))
        have HT1 : Hid (TV w2.heap.size #[.int .i64 1, .int .i64 1, .int .i64 (1 + (n : Int)), .string (bstr sl), .int .i64 0] W2) := Lib.hid ((tv_new w2 _ 27).keep hb2)
        clear hB2 hb2
        go_wp2_with fail
        refine (next_any _ _ _ sl 0 _ HBS2.out (HT.out.keep HBW2.out) (by omega) (Nat.zero_le _)).mono ?_
        rw [HN2.out, nxV_some]
        rintro e w3 ⟨rfl, hb3⟩
        have HW3 : Hid (Below w.heap.size w w3) := Lib.hid (HBW2.out.trans (hb3.mono HBW2.out.size))
        have HK4 := Lib.hid (HKK3.out.keep hb3)
        have HT3 := Lib.hid (HT1.out.keep hb3)
        clear hb3 kc2
        have HK5 := Lib.hid (HK4.out.keep ((Below.refl _ w3).alloc (Nat.le_refl _) (.cells #[.int .i64 1, .int .i64 0, .int .i64 (n : Int), .string (bstr sl), .int .i64 0] 27)))
        have HT5 := Lib.hid (HT3.out.keep ((Below.refl _ w3).alloc (Nat.le_refl _) (.cells #[.int .i64 1, .int .i64 0, .int .i64 (n : Int), .string (bstr sl), .int .i64 0] 27)))
        have qa0 := HT3.out.c 0
        have qa1 := HT3.out.c 1
        have qa2 := HT3.out.c 2
        have qa3 := HT3.out.c 3
        have qa4 := HT3.out.c 4
        have qk := HK4.out.c 0
        have la := HT3.out.lt
        have lk := HK4.out.lt
        have ra0 := HT5.out.c 0
        have ra1 := HT5.out.c 1
        have ra2 := HT5.out.c 2
        have ra3 := HT5.out.c 3
        have ra4 := HT5.out.c 4
        have rk := HK5.out.c 0
        simp only [List.getElem?_toArray, List.getElem?_cons_zero, List.getElem?_cons_succ] at qa0 qa1 qa2 qa3 qa4 qk ra0 ra1 ra2 ra3 ra4 rk
        have e1 := eq_tok 1 1 (1 + (n : Int)) 0 1 1 (1 + (n : Int)) 0 (bstr sl) (bstr sl)
        simp only [beq_self_eq_true, Bool.and_self] at e1
        have hwr : IntKind.i64.wrap (1 + (n : Int)) = 1 + (n : Int) := IntWalk.i64_in _ (by omega)
        go_wp2_with fail
        go_quiet (fail)
        go_wp2
        go_ret
        exact ⟨rfl, below_drewN (HW3.out.alloc HW3.out.size _) _⟩


set_option maxRecDepth 100000 in
set_option maxHeartbeats 2000000 in
theorem alone1 (a : Option Addr) (len cap : Nat) (l : List Int) (c : Int) (w : World) (h : Bs w a len cap l) (ht : Tab w) (h0 : 0 ≤ c) (h1 : c ≤ 255) (hq5 : c % 5 = 1) :
    Calls Tryd.prog 7 #[.int .u8 c, .slice a len cap] w fun e w' => e = .returned (.bool true) ∧ Below w.heap.size w w' := by
  have HT := Lib.hid ht
  have H := Lib.hid h
  have hlc := h.lc
  have hcm := h.cm
  unfold maxLen at hcm
  clear h ht
  go_enter Tryd.func7, Tryd.ntmps7
  go_wp2_with fail
  refine (shown_any _ HT.out).mono ?_
  rintro e w1 ⟨rfl, hb1⟩
  have HW1 := Lib.hid hb1
  clear hb1
  go_wp2
  try rw [hq5]
  clear hq5
  go_loopw [10, 11] (fun s i wr => ∃ (k : Nat) (sl : List Int), i = .int .i64 k ∧ s = .string (bstr sl) ∧ k ≤ 9 ∧ k ≤ len + 1 ∧ Hid (soFar 1 k sl) ∧ Hid (Below (w1.heap.size + 1) (w1.alloc (.cells #[.int .i64 1, .int .i64 3, .int .i64 4, .int .i64 2, .int .i64 6] 36)) wr)) (fun _ i _ => 10 - (intOf i).toNat)
  case atStart => exact ⟨0, [], rfl, rfl, by omega, by omega, Lib.hid ⟨(by intro x hx; cases hx), by simp⟩, Lib.hid (Below.refl _ _)⟩
  case round =>
    obtain ⟨k, sl, rfl, rfl, hk9, hkl, HS, HB⟩ := hrel
    rename World => wr
    have HBW : Hid (Below w.heap.size w wr) := Lib.hid ((HW1.out.alloc HW1.out.size _).trans (HB.out.mono (by have := HW1.out.size; omega)))
    have hsl : sl.length ≤ 9 := by have := HS.out.2; split at this <;> omega
    by_cases hgo : k ≤ len ∧ k < 9
    · obtain ⟨hg1, hg2⟩ := hgo
      by_cases hin : k < len
      · have hb := H.out.below HBW.out
        have r0 := (bt_rng hb.rng k).1
        have r1 := (bt_rng hb.rng k).2
        obtain ⟨b, off, rfl, _, hcc⟩ := hb.at_ (by omega)
        have hck := hcc k hin
        clear hb hcc
        obtain ⟨X, hX⟩ : ∃ X : Int, X = 65 + bt l k % 26 := ⟨_, rfl⟩
        have hX0 : 0 ≤ X ∧ X ≤ 255 := by omega
        have hXo : okB 1 X = true := by unfold okB; simp only [Nat.reduceEqDiff, if_true, if_false, decide_eq_true_eq]; omega
        have HN := Lib.hid (soFar_add (by decide) HS.out hX0 hXo)
        rw [hX] at hX0 HN
        have hlit : Bs (wr.alloc (.cells #[.int .u8 (65 + bt l k % 26)] 5)) (some ⟨wr.heap.size, 0, none⟩) 1 1 [65 + bt l k % 26] := Bs.lit wr 5 (by simp) (fun x hx => by rw [List.mem_singleton.1 hx]; exact hX0) rfl rfl (Nat.le_of_ble_eq_true rfl)
        have kc := hlit.str (P := Tryd.prog) 22 9 5 Tryd.underlying22 Tryd.underlying5 Tryd.underlying9
        have hcat := bstr_append sl [65 + bt l k % 26]
        have hz1 : (bstr sl).size ≤ 9 := by rw [bstr_size]; omega
        have hz2 : (bstr [65 + bt l k % 26]).size = 1 := by rw [bstr_size]; rfl
        clear hX hX0 hXo hlit
        go_wp2
        skip
        go_roundw
        case rel => exact ⟨k + 1, (sl ++ [65 + bt l k % 26]), by go_num, rfl, by omega, by omega, HN, Lib.hid (HB.out.alloc (by have := HB.out.size; simpa using this) _)⟩
        case measure => simp [intOf]; omega
      · have hke : k = len := by omega
        have HN := Lib.hid (soFar_add (x := 72) (by decide) HS.out (by decide) (by decide))
        have hlit : Bs (wr.alloc (.cells #[.int .u8 72] 5)) (some ⟨wr.heap.size, 0, none⟩) 1 1 [72] := Bs.lit wr 5 (by simp) (by simp) rfl rfl (by decide)
        have kc := hlit.str (P := Tryd.prog) 22 9 5 Tryd.underlying22 Tryd.underlying5 Tryd.underlying9
        have hcat := bstr_append sl [72]
        have hz1 : (bstr sl).size ≤ 9 := by rw [bstr_size]; omega
        have hz2 : (bstr [72]).size = 1 := by rw [bstr_size]; rfl
        clear hlit
        go_wp2
        skip
        go_roundw
        case rel => exact ⟨k + 1, (sl ++ [72]), by go_num, rfl, by omega, by omega, HN, Lib.hid (HB.out.alloc (by have := HB.out.size; simpa using this) _)⟩
        case measure => simp [intOf]; omega
    · by_cases hkl2 : k ≤ len
      · have hk99 : 9 ≤ k := by omega
        clear hgo
        have hk1 : 1 ≤ k := by omega
        obtain ⟨hAB, hLn⟩ := HS.out
        obtain ⟨n, hn⟩ : ∃ n, n = sl.length := ⟨_, rfl⟩
        have hn0 : 0 < sl.length := by rw [hLn]; split <;> omega
        have hn4 : 1 = 4 → sl.length = 1 := fun hh => by rw [hLn, if_pos hh]; omega
        have HN1 : nx (32 :: (sl ++ [32])) 0 = some (1, ⟨3, sl.length, sl, 0⟩) := nx_blank 1 (by decide) sl hAB hn0 hsl hn4
        have HN2 : nx sl 0 = some (0, ⟨3, sl.length, sl, 0⟩) := nx_bare 1 (by decide) sl hAB hn0 hsl hn4
        rw [← hn] at HN1 HN2
        have hnl : n ≤ 9 := by omega
        have hn1 : 0 < n := by omega
        have hrng : ∀ x ∈ sl, 0 ≤ x ∧ x ≤ 255 := fun x hx => (hAB x hx).1
        have hsz : (bstr sl).size = n := by rw [bstr_size, hn]
        obtain ⟨g1, C1, W1, kc1, hB1, hb1⟩ := conv_str wr (({ data := #[32] } : ByteArray) ++ bstr sl ++ { data := #[32] }) (32 :: (sl ++ [32])) (bstr_blank sl) (by
          intro x hx
          simp only [List.mem_cons, List.mem_append, List.not_mem_nil, or_false] at hx
          rcases hx with rfl | hx | rfl
          · omega
          · exact hrng x hx
          · omega) (by simp; omega)
        have HBS1 := Lib.hid hB1
        have HBW1 : Hid (Below w.heap.size w W1) := Lib.hid (HBW.out.trans (hb1.mono HBW.out.size))
        have HKK1 : Hid (TV w1.heap.size #[.int .i64 1, .int .i64 3, .int .i64 4, .int .i64 2, .int .i64 6] W1) := Lib.hid (((tv_new w1 _ 36).keepB (by omega) HB.out).keep hb1)
        have HL1 : Hid ((32 :: (sl ++ [32])).length = n + 2) := Lib.hid (by simp; omega)
        have HRNG := Lib.hid hrng
        have HNL := Lib.hid hn
        rw [HL1.out] at kc1
        have HBS1 : Hid (Bs W1 (some ⟨g1, 0, none⟩) (n + 2) C1 (32 :: (sl ++ [32]))) := Lib.hid (by have := HBS1.out; rwa [HL1.out] at this)
        clear hAB hLn hn0 hn4 hB1 hb1 hrng hn
        have HN1 := Lib.hid HN1
        have HN2 := Lib.hid HN2
        go_wp2_with fail
        refine (next_any _ _ _ (32 :: (sl ++ [32])) 0 _ HBS1.out (HT.out.keep HBW1.out) (by omega) (Nat.zero_le _)).mono ?_
        rw [HN1.out, nxV_some]
        rintro e w2 ⟨rfl, hb2⟩
        have HW2 : Hid (Below w.heap.size w w2) := Lib.hid (HBW1.out.trans (hb2.mono HBW1.out.size))
        have HKK2 := Lib.hid (HKK1.out.keep hb2)
        clear hb2 kc1
        obtain ⟨g2, C2, W2, kc2, hB2, hb2⟩ := conv_str (w2.alloc (.cells #[.int .i64 3, .int .i64 1, .int .i64 (1 + (n : Int)), .string (bstr sl), .int .i64 0] 27)) (bstr sl) sl rfl HRNG.out (by rw [← HNL.out]; omega)
        have HBS2 : Hid (Bs W2 (some ⟨g2, 0, none⟩) n C2 sl) := Lib.hid (by have := hB2; rwa [← HNL.out] at this)
        rw [← HNL.out] at kc2
        have HBW2 : Hid (Below w.heap.size w W2) := Lib.hid (HW2.out.trans ((past_alloc hb2).mono HW2.out.size))
        have HKK3 := Lib.hid (HKK2.out.keep (past_alloc hb2))
        have HT1 : Hid (TV w2.heap.size #[.int .i64 3, .int .i64 1, .int .i64 (1 + (n : Int)), .string (bstr sl), .int .i64 0] W2) := Lib.hid ((tv_new w2 _ 27).keep hb2)
        clear hB2 hb2
        go_wp2_with fail
        refine (next_any _ _ _ sl 0 _ HBS2.out (HT.out.keep HBW2.out) (by omega) (Nat.zero_le _)).mono ?_
        rw [HN2.out, nxV_some]
        rintro e w3 ⟨rfl, hb3⟩
        have HW3 : Hid (Below w.heap.size w w3) := Lib.hid (HBW2.out.trans (hb3.mono HBW2.out.size))
        have HK4 := Lib.hid (HKK3.out.keep hb3)
        have HT3 := Lib.hid (HT1.out.keep hb3)
        clear hb3 kc2
        have HK5 := Lib.hid (HK4.out.keep ((Below.refl _ w3).alloc (Nat.le_refl _) (.cells #[.int .i64 3, .int .i64 0, .int .i64 (n : Int), .string (bstr sl), .int .i64 0] 27)))
        have HT5 := Lib.hid (HT3.out.keep ((Below.refl _ w3).alloc (Nat.le_refl _) (.cells #[.int .i64 3, .int .i64 0, .int .i64 (n : Int), .string (bstr sl), .int .i64 0] 27)))
        have qa0 := HT3.out.c 0
        have qa1 := HT3.out.c 1
        have qa2 := HT3.out.c 2
        have qa3 := HT3.out.c 3
        have qa4 := HT3.out.c 4
        have qk := HK4.out.c 1
        have la := HT3.out.lt
        have lk := HK4.out.lt
        have ra0 := HT5.out.c 0
        have ra1 := HT5.out.c 1
        have ra2 := HT5.out.c 2
        have ra3 := HT5.out.c 3
        have ra4 := HT5.out.c 4
        have rk := HK5.out.c 1
        simp only [List.getElem?_toArray, List.getElem?_cons_zero, List.getElem?_cons_succ] at qa0 qa1 qa2 qa3 qa4 qk ra0 ra1 ra2 ra3 ra4 rk
        have e1 := eq_tok 3 1 (1 + (n : Int)) 0 3 1 (1 + (n : Int)) 0 (bstr sl) (bstr sl)
        simp only [beq_self_eq_true, Bool.and_self] at e1
        have hwr : IntKind.i64.wrap (1 + (n : Int)) = 1 + (n : Int) := IntWalk.i64_in _ (by omega)
        go_wp2_with fail
        go_quiet (fail)
        go_wp2
        go_ret
        exact ⟨rfl, below_drewN (HW3.out.alloc HW3.out.size _) _⟩
      · clear hgo
        have hk1 : 1 ≤ k := by omega
        obtain ⟨hAB, hLn⟩ := HS.out
        obtain ⟨n, hn⟩ : ∃ n, n = sl.length := ⟨_, rfl⟩
        have hn0 : 0 < sl.length := by rw [hLn]; split <;> omega
        have hn4 : 1 = 4 → sl.length = 1 := fun hh => by rw [hLn, if_pos hh]; omega
        have HN1 : nx (32 :: (sl ++ [32])) 0 = some (1, ⟨3, sl.length, sl, 0⟩) := nx_blank 1 (by decide) sl hAB hn0 hsl hn4
        have HN2 : nx sl 0 = some (0, ⟨3, sl.length, sl, 0⟩) := nx_bare 1 (by decide) sl hAB hn0 hsl hn4
        rw [← hn] at HN1 HN2
        have hnl : n ≤ 9 := by omega
        have hn1 : 0 < n := by omega
        have hrng : ∀ x ∈ sl, 0 ≤ x ∧ x ≤ 255 := fun x hx => (hAB x hx).1
        have hsz : (bstr sl).size = n := by rw [bstr_size, hn]
        obtain ⟨g1, C1, W1, kc1, hB1, hb1⟩ := conv_str wr (({ data := #[32] } : ByteArray) ++ bstr sl ++ { data := #[32] }) (32 :: (sl ++ [32])) (bstr_blank sl) (by
          intro x hx
          simp only [List.mem_cons, List.mem_append, List.not_mem_nil, or_false] at hx
          rcases hx with rfl | hx | rfl
          · omega
          · exact hrng x hx
          · omega) (by simp; omega)
        have HBS1 := Lib.hid hB1
        have HBW1 : Hid (Below w.heap.size w W1) := Lib.hid (HBW.out.trans (hb1.mono HBW.out.size))
        have HKK1 : Hid (TV w1.heap.size #[.int .i64 1, .int .i64 3, .int .i64 4, .int .i64 2, .int .i64 6] W1) := Lib.hid (((tv_new w1 _ 36).keepB (by omega) HB.out).keep hb1)
        have HL1 : Hid ((32 :: (sl ++ [32])).length = n + 2) := Lib.hid (by simp; omega)
        have HRNG := Lib.hid hrng
        have HNL := Lib.hid hn
        rw [HL1.out] at kc1
        have HBS1 : Hid (Bs W1 (some ⟨g1, 0, none⟩) (n + 2) C1 (32 :: (sl ++ [32]))) := Lib.hid (by have := HBS1.out; rwa [HL1.out] at this)
        clear hAB hLn hn0 hn4 hB1 hb1 hrng hn
        have HN1 := Lib.hid HN1
        have HN2 := Lib.hid HN2
        go_wp2_with fail
        refine (next_any _ _ _ (32 :: (sl ++ [32])) 0 _ HBS1.out (HT.out.keep HBW1.out) (by omega) (Nat.zero_le _)).mono ?_
        rw [HN1.out, nxV_some]
        rintro e w2 ⟨rfl, hb2⟩
        have HW2 : Hid (Below w.heap.size w w2) := Lib.hid (HBW1.out.trans (hb2.mono HBW1.out.size))
        have HKK2 := Lib.hid (HKK1.out.keep hb2)
        clear hb2 kc1
        obtain ⟨g2, C2, W2, kc2, hB2, hb2⟩ := conv_str (w2.alloc (.cells #[.int .i64 3, .int .i64 1, .int .i64 (1 + (n : Int)), .string (bstr sl), .int .i64 0] 27)) (bstr sl) sl rfl HRNG.out (by rw [← HNL.out]; omega)
        have HBS2 : Hid (Bs W2 (some ⟨g2, 0, none⟩) n C2 sl) := Lib.hid (by have := hB2; rwa [← HNL.out] at this)
        rw [← HNL.out] at kc2
        have HBW2 : Hid (Below w.heap.size w W2) := Lib.hid (HW2.out.trans ((past_alloc hb2).mono HW2.out.size))
        have HKK3 := Lib.hid (HKK2.out.keep (past_alloc hb2))
        have HT1 : Hid (TV w2.heap.size #[.int .i64 3, .int .i64 1, .int .i64 (1 + (n : Int)), .string (bstr sl), .int .i64 0] W2) := Lib.hid ((tv_new w2 _ 27).keep hb2)
        clear hB2 hb2
        go_wp2_with fail
        refine (next_any _ _ _ sl 0 _ HBS2.out (HT.out.keep HBW2.out) (by omega) (Nat.zero_le _)).mono ?_
        rw [HN2.out, nxV_some]
        rintro e w3 ⟨rfl, hb3⟩
        have HW3 : Hid (Below w.heap.size w w3) := Lib.hid (HBW2.out.trans (hb3.mono HBW2.out.size))
        have HK4 := Lib.hid (HKK3.out.keep hb3)
        have HT3 := Lib.hid (HT1.out.keep hb3)
        clear hb3 kc2
        have HK5 := Lib.hid (HK4.out.keep ((Below.refl _ w3).alloc (Nat.le_refl _) (.cells #[.int .i64 3, .int .i64 0, .int .i64 (n : Int), .string (bstr sl), .int .i64 0] 27)))
        have HT5 := Lib.hid (HT3.out.keep ((Below.refl _ w3).alloc (Nat.le_refl _) (.cells #[.int .i64 3, .int .i64 0, .int .i64 (n : Int), .string (bstr sl), .int .i64 0] 27)))
        have qa0 := HT3.out.c 0
        have qa1 := HT3.out.c 1
        have qa2 := HT3.out.c 2
        have qa3 := HT3.out.c 3
        have qa4 := HT3.out.c 4
        have qk := HK4.out.c 1
        have la := HT3.out.lt
        have lk := HK4.out.lt
        have ra0 := HT5.out.c 0
        have ra1 := HT5.out.c 1
        have ra2 := HT5.out.c 2
        have ra3 := HT5.out.c 3
        have ra4 := HT5.out.c 4
        have rk := HK5.out.c 1
        simp only [List.getElem?_toArray, List.getElem?_cons_zero, List.getElem?_cons_succ] at qa0 qa1 qa2 qa3 qa4 qk ra0 ra1 ra2 ra3 ra4 rk
        have e1 := eq_tok 3 1 (1 + (n : Int)) 0 3 1 (1 + (n : Int)) 0 (bstr sl) (bstr sl)
        simp only [beq_self_eq_true, Bool.and_self] at e1
        have hwr : IntKind.i64.wrap (1 + (n : Int)) = 1 + (n : Int) := IntWalk.i64_in _ (by omega)
        go_wp2_with fail
        go_quiet (fail)
        go_wp2
        go_ret
        exact ⟨rfl, below_drewN (HW3.out.alloc HW3.out.size _) _⟩


set_option maxRecDepth 100000 in
set_option maxHeartbeats 2000000 in
theorem alone2 (a : Option Addr) (len cap : Nat) (l : List Int) (c : Int) (w : World) (h : Bs w a len cap l) (ht : Tab w) (h0 : 0 ≤ c) (h1 : c ≤ 255) (hq5 : c % 5 = 2) :
    Calls Tryd.prog 7 #[.int .u8 c, .slice a len cap] w fun e w' => e = .returned (.bool true) ∧ Below w.heap.size w w' := by
  have HT := Lib.hid ht
  have H := Lib.hid h
  have hlc := h.lc
  have hcm := h.cm
  unfold maxLen at hcm
  clear h ht
  go_enter Tryd.func7, Tryd.ntmps7
  go_wp2_with fail
  refine (shown_any _ HT.out).mono ?_
  rintro e w1 ⟨rfl, hb1⟩
  have HW1 := Lib.hid hb1
  clear hb1
  go_wp2
  try rw [hq5]
  clear hq5
  go_loopw [10, 11] (fun s i wr => ∃ (k : Nat) (sl : List Int), i = .int .i64 k ∧ s = .string (bstr sl) ∧ k ≤ 9 ∧ k ≤ len + 1 ∧ Hid (soFar 2 k sl) ∧ Hid (Below (w1.heap.size + 1) (w1.alloc (.cells #[.int .i64 1, .int .i64 3, .int .i64 4, .int .i64 2, .int .i64 6] 36)) wr)) (fun _ i _ => 10 - (intOf i).toNat)
  case atStart => exact ⟨0, [], rfl, rfl, by omega, by omega, Lib.hid ⟨(by intro x hx; cases hx), by simp⟩, Lib.hid (Below.refl _ _)⟩
  case round =>
    obtain ⟨k, sl, rfl, rfl, hk9, hkl, HS, HB⟩ := hrel
    rename World => wr
    have HBW : Hid (Below w.heap.size w wr) := Lib.hid ((HW1.out.alloc HW1.out.size _).trans (HB.out.mono (by have := HW1.out.size; omega)))
    have hsl : sl.length ≤ 9 := by have := HS.out.2; split at this <;> omega
    by_cases hgo : k ≤ len ∧ k < 9
    · obtain ⟨hg1, hg2⟩ := hgo
      by_cases hin : k < len
      · have hb := H.out.below HBW.out
        have r0 := (bt_rng hb.rng k).1
        have r1 := (bt_rng hb.rng k).2
        obtain ⟨b, off, rfl, _, hcc⟩ := hb.at_ (by omega)
        have hck := hcc k hin
        clear hb hcc
        obtain ⟨X, hX⟩ : ∃ X : Int, X = 48 + bt l k % 10 := ⟨_, rfl⟩
        have hX0 : 0 ≤ X ∧ X ≤ 255 := by omega
        have hXo : okB 2 X = true := by unfold okB; simp only [Nat.reduceEqDiff, if_true, if_false, decide_eq_true_eq]; omega
        have HN := Lib.hid (soFar_add (by decide) HS.out hX0 hXo)
        rw [hX] at hX0 HN
        have hlit : Bs (wr.alloc (.cells #[.int .u8 (48 + bt l k % 10)] 5)) (some ⟨wr.heap.size, 0, none⟩) 1 1 [48 + bt l k % 10] := Bs.lit wr 5 (by simp) (fun x hx => by rw [List.mem_singleton.1 hx]; exact hX0) rfl rfl (Nat.le_of_ble_eq_true rfl)
        have kc := hlit.str (P := Tryd.prog) 22 9 5 Tryd.underlying22 Tryd.underlying5 Tryd.underlying9
        have hcat := bstr_append sl [48 + bt l k % 10]
        have hz1 : (bstr sl).size ≤ 9 := by rw [bstr_size]; omega
        have hz2 : (bstr [48 + bt l k % 10]).size = 1 := by rw [bstr_size]; rfl
        clear hX hX0 hXo hlit
        go_wp2
        skip
        go_roundw
        case rel => exact ⟨k + 1, (sl ++ [48 + bt l k % 10]), by go_num, rfl, by omega, by omega, HN, Lib.hid (HB.out.alloc (by have := HB.out.size; simpa using this) _)⟩
        case measure => simp [intOf]; omega
      · have hke : k = len := by omega
        have HN := Lib.hid (soFar_add (x := 55) (by decide) HS.out (by decide) (by decide))
        have hlit : Bs (wr.alloc (.cells #[.int .u8 55] 5)) (some ⟨wr.heap.size, 0, none⟩) 1 1 [55] := Bs.lit wr 5 (by simp) (by simp) rfl rfl (by decide)
        have kc := hlit.str (P := Tryd.prog) 22 9 5 Tryd.underlying22 Tryd.underlying5 Tryd.underlying9
        have hcat := bstr_append sl [55]
        have hz1 : (bstr sl).size ≤ 9 := by rw [bstr_size]; omega
        have hz2 : (bstr [55]).size = 1 := by rw [bstr_size]; rfl
        clear hlit
        go_wp2
        skip
        go_roundw
        case rel => exact ⟨k + 1, (sl ++ [55]), by go_num, rfl, by omega, by omega, HN, Lib.hid (HB.out.alloc (by have := HB.out.size; simpa using this) _)⟩
        case measure => simp [intOf]; omega
    · by_cases hkl2 : k ≤ len
      · have hk99 : 9 ≤ k := by omega
        clear hgo
        have hk1 : 1 ≤ k := by omega
        obtain ⟨hAB, hLn⟩ := HS.out
        obtain ⟨n, hn⟩ : ∃ n, n = sl.length := ⟨_, rfl⟩
        have hn0 : 0 < sl.length := by rw [hLn]; split <;> omega
        have hn4 : 2 = 4 → sl.length = 1 := fun hh => by rw [hLn, if_pos hh]; omega
        have HN1 : nx (32 :: (sl ++ [32])) 0 = some (1, ⟨4, sl.length, sl, 0⟩) := nx_blank 2 (by decide) sl hAB hn0 hsl hn4
        have HN2 : nx sl 0 = some (0, ⟨4, sl.length, sl, 0⟩) := nx_bare 2 (by decide) sl hAB hn0 hsl hn4
        rw [← hn] at HN1 HN2
        have hnl : n ≤ 9 := by omega
        have hn1 : 0 < n := by omega
        have hrng : ∀ x ∈ sl, 0 ≤ x ∧ x ≤ 255 := fun x hx => (hAB x hx).1
        have hsz : (bstr sl).size = n := by rw [bstr_size, hn]
        obtain ⟨g1, C1, W1, kc1, hB1, hb1⟩ := conv_str wr (({ data := #[32] } : ByteArray) ++ bstr sl ++ { data := #[32] }) (32 :: (sl ++ [32])) (bstr_blank sl) (by
          intro x hx
          simp only [List.mem_cons, List.mem_append, List.not_mem_nil, or_false] at hx
          rcases hx with rfl | hx | rfl
          · omega
          · exact hrng x hx
          · omega) (by simp; omega)
        have HBS1 := Lib.hid hB1
        have HBW1 : Hid (Below w.heap.size w W1) := Lib.hid (HBW.out.trans (hb1.mono HBW.out.size))
        have HKK1 : Hid (TV w1.heap.size #[.int .i64 1, .int .i64 3, .int .i64 4, .int .i64 2, .int .i64 6] W1) := Lib.hid (((tv_new w1 _ 36).keepB (by omega) HB.out).keep hb1)
        have HL1 : Hid ((32 :: (sl ++ [32])).length = n + 2) := Lib.hid (by simp; omega)
        have HRNG := Lib.hid hrng
        have HNL := Lib.hid hn
        rw [HL1.out] at kc1
        have HBS1 : Hid (Bs W1 (some ⟨g1, 0, none⟩) (n + 2) C1 (32 :: (sl ++ [32]))) := Lib.hid (by have := HBS1.out; rwa [HL1.out] at this)
        clear hAB hLn hn0 hn4 hB1 hb1 hrng hn
        have HN1 := Lib.hid HN1
        have HN2 := Lib.hid HN2
        go_wp2_with fail
        refine (next_any _ _ _ (32 :: (sl ++ [32])) 0 _ HBS1.out (HT.out.keep HBW1.out) (by omega) (Nat.zero_le _)).mono ?_
        rw [HN1.out, nxV_some]
        rintro e w2 ⟨rfl, hb2⟩
        have HW2 : Hid (Below w.heap.size w w2) := Lib.hid (HBW1.out.trans (hb2.mono HBW1.out.size))
        have HKK2 := Lib.hid (HKK1.out.keep hb2)
        clear hb2 kc1
        obtain ⟨g2, C2, W2, kc2, hB2, hb2⟩ := conv_str (w2.alloc (.cells #[.int .i64 4, .int .i64 1, .int .i64 (1 + (n : Int)), .string (bstr sl), .int .i64 0] 27)) (bstr sl) sl rfl HRNG.out (by rw [← HNL.out]; omega)
        have HBS2 : Hid (Bs W2 (some ⟨g2, 0, none⟩) n C2 sl) := Lib.hid (by have := hB2; rwa [← HNL.out] at this)
        rw [← HNL.out] at kc2
        have HBW2 : Hid (Below w.heap.size w W2) := Lib.hid (HW2.out.trans ((past_alloc hb2).mono HW2.out.size))
        have HKK3 := Lib.hid (HKK2.out.keep (past_alloc hb2))
        have HT1 : Hid (TV w2.heap.size #[.int .i64 4, .int .i64 1, .int .i64 (1 + (n : Int)), .string (bstr sl), .int .i64 0] W2) := Lib.hid ((tv_new w2 _ 27).keep hb2)
        clear hB2 hb2
        go_wp2_with fail
        refine (next_any _ _ _ sl 0 _ HBS2.out (HT.out.keep HBW2.out) (by omega) (Nat.zero_le _)).mono ?_
        rw [HN2.out, nxV_some]
        rintro e w3 ⟨rfl, hb3⟩
        have HW3 : Hid (Below w.heap.size w w3) := Lib.hid (HBW2.out.trans (hb3.mono HBW2.out.size))
        have HK4 := Lib.hid (HKK3.out.keep hb3)
        have HT3 := Lib.hid (HT1.out.keep hb3)
        clear hb3 kc2
        have HK5 := Lib.hid (HK4.out.keep ((Below.refl _ w3).alloc (Nat.le_refl _) (.cells #[.int .i64 4, .int .i64 0, .int .i64 (n : Int), .string (bstr sl), .int .i64 0] 27)))
        have HT5 := Lib.hid (HT3.out.keep ((Below.refl _ w3).alloc (Nat.le_refl _) (.cells #[.int .i64 4, .int .i64 0, .int .i64 (n : Int), .string (bstr sl), .int .i64 0] 27)))
        have qa0 := HT3.out.c 0
        have qa1 := HT3.out.c 1
        have qa2 := HT3.out.c 2
        have qa3 := HT3.out.c 3
        have qa4 := HT3.out.c 4
        have qk := HK4.out.c 2
        have la := HT3.out.lt
        have lk := HK4.out.lt
        have ra0 := HT5.out.c 0
        have ra1 := HT5.out.c 1
        have ra2 := HT5.out.c 2
        have ra3 := HT5.out.c 3
        have ra4 := HT5.out.c 4
        have rk := HK5.out.c 2
        simp only [List.getElem?_toArray, List.getElem?_cons_zero, List.getElem?_cons_succ] at qa0 qa1 qa2 qa3 qa4 qk ra0 ra1 ra2 ra3 ra4 rk
        have e1 := eq_tok 4 1 (1 + (n : Int)) 0 4 1 (1 + (n : Int)) 0 (bstr sl) (bstr sl)
        simp only [beq_self_eq_true, Bool.and_self] at e1
        have hwr : IntKind.i64.wrap (1 + (n : Int)) = 1 + (n : Int) := IntWalk.i64_in _ (by omega)
        go_wp2_with fail
        go_quiet (fail)
        go_wp2
        go_ret
        exact ⟨rfl, below_drewN (HW3.out.alloc HW3.out.size _) _⟩
      · clear hgo
        have hk1 : 1 ≤ k := by omega
        obtain ⟨hAB, hLn⟩ := HS.out
        obtain ⟨n, hn⟩ : ∃ n, n = sl.length := ⟨_, rfl⟩
        have hn0 : 0 < sl.length := by rw [hLn]; split <;> omega
        have hn4 : 2 = 4 → sl.length = 1 := fun hh => by rw [hLn, if_pos hh]; omega
        have HN1 : nx (32 :: (sl ++ [32])) 0 = some (1, ⟨4, sl.length, sl, 0⟩) := nx_blank 2 (by decide) sl hAB hn0 hsl hn4
        have HN2 : nx sl 0 = some (0, ⟨4, sl.length, sl, 0⟩) := nx_bare 2 (by decide) sl hAB hn0 hsl hn4
        rw [← hn] at HN1 HN2
        have hnl : n ≤ 9 := by omega
        have hn1 : 0 < n := by omega
        have hrng : ∀ x ∈ sl, 0 ≤ x ∧ x ≤ 255 := fun x hx => (hAB x hx).1
        have hsz : (bstr sl).size = n := by rw [bstr_size, hn]
        obtain ⟨g1, C1, W1, kc1, hB1, hb1⟩ := conv_str wr (({ data := #[32] } : ByteArray) ++ bstr sl ++ { data := #[32] }) (32 :: (sl ++ [32])) (bstr_blank sl) (by
          intro x hx
          simp only [List.mem_cons, List.mem_append, List.not_mem_nil, or_false] at hx
          rcases hx with rfl | hx | rfl
          · omega
          · exact hrng x hx
          · omega) (by simp; omega)
        have HBS1 := Lib.hid hB1
        have HBW1 : Hid (Below w.heap.size w W1) := Lib.hid (HBW.out.trans (hb1.mono HBW.out.size))
        have HKK1 : Hid (TV w1.heap.size #[.int .i64 1, .int .i64 3, .int .i64 4, .int .i64 2, .int .i64 6] W1) := Lib.hid (((tv_new w1 _ 36).keepB (by omega) HB.out).keep hb1)
        have HL1 : Hid ((32 :: (sl ++ [32])).length = n + 2) := Lib.hid (by simp; omega)
        have HRNG := Lib.hid hrng
        have HNL := Lib.hid hn
        rw [HL1.out] at kc1
        have HBS1 : Hid (Bs W1 (some ⟨g1, 0, none⟩) (n + 2) C1 (32 :: (sl ++ [32]))) := Lib.hid (by have := HBS1.out; rwa [HL1.out] at this)
        clear hAB hLn hn0 hn4 hB1 hb1 hrng hn
        have HN1 := Lib.hid HN1
        have HN2 := Lib.hid HN2
        go_wp2_with fail
        refine (next_any _ _ _ (32 :: (sl ++ [32])) 0 _ HBS1.out (HT.out.keep HBW1.out) (by omega) (Nat.zero_le _)).mono ?_
        rw [HN1.out, nxV_some]
        rintro e w2 ⟨rfl, hb2⟩
        have HW2 : Hid (Below w.heap.size w w2) := Lib.hid (HBW1.out.trans (hb2.mono HBW1.out.size))
        have HKK2 := Lib.hid (HKK1.out.keep hb2)
        clear hb2 kc1
        obtain ⟨g2, C2, W2, kc2, hB2, hb2⟩ := conv_str (w2.alloc (.cells #[.int .i64 4, .int .i64 1, .int .i64 (1 + (n : Int)), .string (bstr sl), .int .i64 0] 27)) (bstr sl) sl rfl HRNG.out (by rw [← HNL.out]; omega)
        have HBS2 : Hid (Bs W2 (some ⟨g2, 0, none⟩) n C2 sl) := Lib.hid (by have := hB2; rwa [← HNL.out] at this)
        rw [← HNL.out] at kc2
        have HBW2 : Hid (Below w.heap.size w W2) := Lib.hid (HW2.out.trans ((past_alloc hb2).mono HW2.out.size))
        have HKK3 := Lib.hid (HKK2.out.keep (past_alloc hb2))
        have HT1 : Hid (TV w2.heap.size #[.int .i64 4, .int .i64 1, .int .i64 (1 + (n : Int)), .string (bstr sl), .int .i64 0] W2) := Lib.hid ((tv_new w2 _ 27).keep hb2)
        clear hB2 hb2
        go_wp2_with fail
        refine (next_any _ _ _ sl 0 _ HBS2.out (HT.out.keep HBW2.out) (by omega) (Nat.zero_le _)).mono ?_
        rw [HN2.out, nxV_some]
        rintro e w3 ⟨rfl, hb3⟩
        have HW3 : Hid (Below w.heap.size w w3) := Lib.hid (HBW2.out.trans (hb3.mono HBW2.out.size))
        have HK4 := Lib.hid (HKK3.out.keep hb3)
        have HT3 := Lib.hid (HT1.out.keep hb3)
        clear hb3 kc2
        have HK5 := Lib.hid (HK4.out.keep ((Below.refl _ w3).alloc (Nat.le_refl _) (.cells #[.int .i64 4, .int .i64 0, .int .i64 (n : Int), .string (bstr sl), .int .i64 0] 27)))
        have HT5 := Lib.hid (HT3.out.keep ((Below.refl _ w3).alloc (Nat.le_refl _) (.cells #[.int .i64 4, .int .i64 0, .int .i64 (n : Int), .string (bstr sl), .int .i64 0] 27)))
        have qa0 := HT3.out.c 0
        have qa1 := HT3.out.c 1
        have qa2 := HT3.out.c 2
        have qa3 := HT3.out.c 3
        have qa4 := HT3.out.c 4
        have qk := HK4.out.c 2
        have la := HT3.out.lt
        have lk := HK4.out.lt
        have ra0 := HT5.out.c 0
        have ra1 := HT5.out.c 1
        have ra2 := HT5.out.c 2
        have ra3 := HT5.out.c 3
        have ra4 := HT5.out.c 4
        have rk := HK5.out.c 2
        simp only [List.getElem?_toArray, List.getElem?_cons_zero, List.getElem?_cons_succ] at qa0 qa1 qa2 qa3 qa4 qk ra0 ra1 ra2 ra3 ra4 rk
        have e1 := eq_tok 4 1 (1 + (n : Int)) 0 4 1 (1 + (n : Int)) 0 (bstr sl) (bstr sl)
        simp only [beq_self_eq_true, Bool.and_self] at e1
        have hwr : IntKind.i64.wrap (1 + (n : Int)) = 1 + (n : Int) := IntWalk.i64_in _ (by omega)
        go_wp2_with fail
        go_quiet (fail)
        go_wp2
        go_ret
        exact ⟨rfl, below_drewN (HW3.out.alloc HW3.out.size _) _⟩


set_option maxRecDepth 100000 in
set_option maxHeartbeats 2000000 in
theorem alone3 (a : Option Addr) (len cap : Nat) (l : List Int) (c : Int) (w : World) (h : Bs w a len cap l) (ht : Tab w) (h0 : 0 ≤ c) (h1 : c ≤ 255) (hq5 : c % 5 = 3) :
    Calls Tryd.prog 7 #[.int .u8 c, .slice a len cap] w fun e w' => e = .returned (.bool true) ∧ Below w.heap.size w w' := by
  have HT := Lib.hid ht
  have H := Lib.hid h
  have hlc := h.lc
  have hcm := h.cm
  unfold maxLen at hcm
  clear h ht
  go_enter Tryd.func7, Tryd.ntmps7
  go_wp2_with fail
  refine (shown_any _ HT.out).mono ?_
  rintro e w1 ⟨rfl, hb1⟩
  have HW1 := Lib.hid hb1
  clear hb1
  go_wp2
  try rw [hq5]
  clear hq5
  go_loopw [10, 11] (fun s i wr => ∃ (k : Nat) (sl : List Int), i = .int .i64 k ∧ s = .string (bstr sl) ∧ k ≤ 9 ∧ k ≤ len + 1 ∧ Hid (soFar 3 k sl) ∧ Hid (Below (w1.heap.size + 1) (w1.alloc (.cells #[.int .i64 1, .int .i64 3, .int .i64 4, .int .i64 2, .int .i64 6] 36)) wr)) (fun _ i _ => 10 - (intOf i).toNat)
  case atStart => exact ⟨0, [], rfl, rfl, by omega, by omega, Lib.hid ⟨(by intro x hx; cases hx), by simp⟩, Lib.hid (Below.refl _ _)⟩
  case round =>
    obtain ⟨k, sl, rfl, rfl, hk9, hkl, HS, HB⟩ := hrel
    rename World => wr
    have HBW : Hid (Below w.heap.size w wr) := Lib.hid ((HW1.out.alloc HW1.out.size _).trans (HB.out.mono (by have := HW1.out.size; omega)))
    have hsl : sl.length ≤ 9 := by have := HS.out.2; split at this <;> omega
    by_cases hgo : k ≤ len ∧ k < 9
    · obtain ⟨hg1, hg2⟩ := hgo
      by_cases hin : k < len
      · have hb := H.out.below HBW.out
        have r0 := (bt_rng hb.rng k).1
        have r1 := (bt_rng hb.rng k).2
        obtain ⟨b, off, rfl, _, hcc⟩ := hb.at_ (by omega)
        have hck := hcc k hin
        clear hb hcc
        obtain ⟨CN, hCN⟩ := Int.eq_ofNat_of_zero_le r0
        rw [hCN] at hck r1
        clear hCN r0
        obtain ⟨r, hr⟩ : ∃ r : Nat, r = CN % 15 := ⟨_, rfl⟩
        have hrl : r < 15 := by omega
        have hri : (CN : Int) % 15 = (r : Int) := by rw [hr]; omega
        have hix2 := fun w => sg_idx r hrl w
        have hen := fun w => sg_enc r hrl w
        have hok := sgn_ok r hrl
        obtain ⟨x, hx⟩ : ∃ x, x = sgn r := ⟨_, rfl⟩
        simp only [← hx] at hix2 hen hok
        have HN := Lib.hid (soFar_add (by decide) HS.out hok.2 hok.1)
        have hcat := bstr_append sl [x]
        have hz1 : (bstr sl).size ≤ 9 := by rw [bstr_size]; omega
        have hz2 : (bstr [x]).size = 1 := by rw [bstr_size]; rfl
        clear hr hrl hok hx
        go_wp2
        skip
        go_roundw
        case rel => exact ⟨k + 1, (sl ++ [x]), by go_num, rfl, by omega, by omega, HN, Lib.hid (HB.out)⟩
        case measure => simp [intOf]; omega
      · have hke : k = len := by omega
        have HN := Lib.hid (soFar_add (x := 61) (by decide) HS.out (by decide) (by decide +kernel))
        have hix : ∀ w, (Instr.index 9 (.string { data := #[43, 45, 42, 92, 94, 60, 62, 61, 126, 63, 64, 35, 38, 36, 33] }) (.int .i64 7)).run Tryd.prog w = .ok (.int .u8 61) w := fun w => sg_idx 7 (by decide) w
        have hen : ∀ w, (convert 5 9 (.int .u8 61)).run Tryd.prog w = .ok (.string (bstr [61])) w := fun w => sg_enc 7 (by decide) w
        have hcat := bstr_append sl [61]
        have hz1 : (bstr sl).size ≤ 9 := by rw [bstr_size]; omega
        have hz2 : (bstr [61]).size = 1 := by rw [bstr_size]; rfl
        go_wp2
        skip
        go_roundw
        case rel => exact ⟨k + 1, (sl ++ [61]), by go_num, rfl, by omega, by omega, HN, Lib.hid (HB.out)⟩
        case measure => simp [intOf]; omega
    · by_cases hkl2 : k ≤ len
      · have hk99 : 9 ≤ k := by omega
        clear hgo
        have hk1 : 1 ≤ k := by omega
        obtain ⟨hAB, hLn⟩ := HS.out
        obtain ⟨n, hn⟩ : ∃ n, n = sl.length := ⟨_, rfl⟩
        have hn0 : 0 < sl.length := by rw [hLn]; split <;> omega
        have hn4 : 3 = 4 → sl.length = 1 := fun hh => by rw [hLn, if_pos hh]; omega
        have HN1 : nx (32 :: (sl ++ [32])) 0 = some (1, ⟨2, sl.length, sl, 0⟩) := nx_blank 3 (by decide) sl hAB hn0 hsl hn4
        have HN2 : nx sl 0 = some (0, ⟨2, sl.length, sl, 0⟩) := nx_bare 3 (by decide) sl hAB hn0 hsl hn4
        rw [← hn] at HN1 HN2
        have hnl : n ≤ 9 := by omega
        have hn1 : 0 < n := by omega
        have hrng : ∀ x ∈ sl, 0 ≤ x ∧ x ≤ 255 := fun x hx => (hAB x hx).1
        have hsz : (bstr sl).size = n := by rw [bstr_size, hn]
        obtain ⟨g1, C1, W1, kc1, hB1, hb1⟩ := conv_str wr (({ data := #[32] } : ByteArray) ++ bstr sl ++ { data := #[32] }) (32 :: (sl ++ [32])) (bstr_blank sl) (by
          intro x hx
          simp only [List.mem_cons, List.mem_append, List.not_mem_nil, or_false] at hx
          rcases hx with rfl | hx | rfl
          · omega
          · exact hrng x hx
          · omega) (by simp; omega)
        have HBS1 := Lib.hid hB1
        have HBW1 : Hid (Below w.heap.size w W1) := Lib.hid (HBW.out.trans (hb1.mono HBW.out.size))
        have HKK1 : Hid (TV w1.heap.size #[.int .i64 1, .int .i64 3, .int .i64 4, .int .i64 2, .int .i64 6] W1) := Lib.hid (((tv_new w1 _ 36).keepB (by omega) HB.out).keep hb1)
        have HL1 : Hid ((32 :: (sl ++ [32])).length = n + 2) := Lib.hid (by simp; omega)
        have HRNG := Lib.hid hrng
        have HNL := Lib.hid hn
        rw [HL1.out] at kc1
        have HBS1 : Hid (Bs W1 (some ⟨g1, 0, none⟩) (n + 2) C1 (32 :: (sl ++ [32]))) := Lib.hid (by have := HBS1.out; rwa [HL1.out] at this)
        clear hAB hLn hn0 hn4 hB1 hb1 hrng hn
        have HN1 := Lib.hid HN1
        have HN2 := Lib.hid HN2
        go_wp2_with fail
        refine (next_any _ _ _ (32 :: (sl ++ [32])) 0 _ HBS1.out (HT.out.keep HBW1.out) (by omega) (Nat.zero_le _)).mono ?_
        rw [HN1.out, nxV_some]
        rintro e w2 ⟨rfl, hb2⟩
        have HW2 : Hid (Below w.heap.size w w2) := Lib.hid (HBW1.out.trans (hb2.mono HBW1.out.size))
        have HKK2 := Lib.hid (HKK1.out.keep hb2)
        clear hb2 kc1
        obtain ⟨g2, C2, W2, kc2, hB2, hb2⟩ := conv_str (w2.alloc (.cells #[.int .i64 2, .int .i64 1, .int .i64 (1 + (n : Int)), .string (bstr sl), .int .i64 0] 27)) (bstr sl) sl rfl HRNG.out (by rw [← HNL.out]; omega)
        have HBS2 : Hid (Bs W2 (some ⟨g2, 0, none⟩) n C2 sl) := Lib.hid (by have := hB2; rwa [← HNL.out] at this)
        rw [← HNL.out] at kc2
        have HBW2 : Hid (Below w.heap.size w W2) := Lib.hid (HW2.out.trans ((past_alloc hb2).mono HW2.out.size))
        have HKK3 := Lib.hid (HKK2.out.keep (past_alloc hb2))
        have HT1 : Hid (TV w2.heap.size #[.int .i64 2, .int .i64 1, .int .i64 (1 + (n : Int)), .string (bstr sl), .int .i64 0] W2) := Lib.hid ((tv_new w2 _ 27).keep hb2)
        clear hB2 hb2
        go_wp2_with fail
        refine (next_any _ _ _ sl 0 _ HBS2.out (HT.out.keep HBW2.out) (by omega) (Nat.zero_le _)).mono ?_
        rw [HN2.out, nxV_some]
        rintro e w3 ⟨rfl, hb3⟩
        have HW3 : Hid (Below w.heap.size w w3) := Lib.hid (HBW2.out.trans (hb3.mono HBW2.out.size))
        have HK4 := Lib.hid (HKK3.out.keep hb3)
        have HT3 := Lib.hid (HT1.out.keep hb3)
        clear hb3 kc2
        have HK5 := Lib.hid (HK4.out.keep ((Below.refl _ w3).alloc (Nat.le_refl _) (.cells #[.int .i64 2, .int .i64 0, .int .i64 (n : Int), .string (bstr sl), .int .i64 0] 27)))
        have HT5 := Lib.hid (HT3.out.keep ((Below.refl _ w3).alloc (Nat.le_refl _) (.cells #[.int .i64 2, .int .i64 0, .int .i64 (n : Int), .string (bstr sl), .int .i64 0] 27)))
        have qa0 := HT3.out.c 0
        have qa1 := HT3.out.c 1
        have qa2 := HT3.out.c 2
        have qa3 := HT3.out.c 3
        have qa4 := HT3.out.c 4
        have qk := HK4.out.c 3
        have la := HT3.out.lt
        have lk := HK4.out.lt
        have ra0 := HT5.out.c 0
        have ra1 := HT5.out.c 1
        have ra2 := HT5.out.c 2
        have ra3 := HT5.out.c 3
        have ra4 := HT5.out.c 4
        have rk := HK5.out.c 3
        simp only [List.getElem?_toArray, List.getElem?_cons_zero, List.getElem?_cons_succ] at qa0 qa1 qa2 qa3 qa4 qk ra0 ra1 ra2 ra3 ra4 rk
        have e1 := eq_tok 2 1 (1 + (n : Int)) 0 2 1 (1 + (n : Int)) 0 (bstr sl) (bstr sl)
        simp only [beq_self_eq_true, Bool.and_self] at e1
        have hwr : IntKind.i64.wrap (1 + (n : Int)) = 1 + (n : Int) := IntWalk.i64_in _ (by omega)
        go_wp2_with fail
        go_quiet (fail)
        go_wp2
        go_ret
        exact ⟨rfl, below_drewN (HW3.out.alloc HW3.out.size _) _⟩
      · clear hgo
        have hk1 : 1 ≤ k := by omega
        obtain ⟨hAB, hLn⟩ := HS.out
        obtain ⟨n, hn⟩ : ∃ n, n = sl.length := ⟨_, rfl⟩
        have hn0 : 0 < sl.length := by rw [hLn]; split <;> omega
        have hn4 : 3 = 4 → sl.length = 1 := fun hh => by rw [hLn, if_pos hh]; omega
        have HN1 : nx (32 :: (sl ++ [32])) 0 = some (1, ⟨2, sl.length, sl, 0⟩) := nx_blank 3 (by decide) sl hAB hn0 hsl hn4
        have HN2 : nx sl 0 = some (0, ⟨2, sl.length, sl, 0⟩) := nx_bare 3 (by decide) sl hAB hn0 hsl hn4
        rw [← hn] at HN1 HN2
        have hnl : n ≤ 9 := by omega
        have hn1 : 0 < n := by omega
        have hrng : ∀ x ∈ sl, 0 ≤ x ∧ x ≤ 255 := fun x hx => (hAB x hx).1
        have hsz : (bstr sl).size = n := by rw [bstr_size, hn]
        obtain ⟨g1, C1, W1, kc1, hB1, hb1⟩ := conv_str wr (({ data := #[32] } : ByteArray) ++ bstr sl ++ { data := #[32] }) (32 :: (sl ++ [32])) (bstr_blank sl) (by
          intro x hx
          simp only [List.mem_cons, List.mem_append, List.not_mem_nil, or_false] at hx
          rcases hx with rfl | hx | rfl
          · omega
          · exact hrng x hx
          · omega) (by simp; omega)
        have HBS1 := Lib.hid hB1
        have HBW1 : Hid (Below w.heap.size w W1) := Lib.hid (HBW.out.trans (hb1.mono HBW.out.size))
        have HKK1 : Hid (TV w1.heap.size #[.int .i64 1, .int .i64 3, .int .i64 4, .int .i64 2, .int .i64 6] W1) := Lib.hid (((tv_new w1 _ 36).keepB (by omega) HB.out).keep hb1)
        have HL1 : Hid ((32 :: (sl ++ [32])).length = n + 2) := Lib.hid (by simp; omega)
        have HRNG := Lib.hid hrng
        have HNL := Lib.hid hn
        rw [HL1.out] at kc1
        have HBS1 : Hid (Bs W1 (some ⟨g1, 0, none⟩) (n + 2) C1 (32 :: (sl ++ [32]))) := Lib.hid (by have := HBS1.out; rwa [HL1.out] at this)
        clear hAB hLn hn0 hn4 hB1 hb1 hrng hn
        have HN1 := Lib.hid HN1
        have HN2 := Lib.hid HN2
        go_wp2_with fail
        refine (next_any _ _ _ (32 :: (sl ++ [32])) 0 _ HBS1.out (HT.out.keep HBW1.out) (by omega) (Nat.zero_le _)).mono ?_
        rw [HN1.out, nxV_some]
        rintro e w2 ⟨rfl, hb2⟩
        have HW2 : Hid (Below w.heap.size w w2) := Lib.hid (HBW1.out.trans (hb2.mono HBW1.out.size))
        have HKK2 := Lib.hid (HKK1.out.keep hb2)
        clear hb2 kc1
        obtain ⟨g2, C2, W2, kc2, hB2, hb2⟩ := conv_str (w2.alloc (.cells #[.int .i64 2, .int .i64 1, .int .i64 (1 + (n : Int)), .string (bstr sl), .int .i64 0] 27)) (bstr sl) sl rfl HRNG.out (by rw [← HNL.out]; omega)
        have HBS2 : Hid (Bs W2 (some ⟨g2, 0, none⟩) n C2 sl) := Lib.hid (by have := hB2; rwa [← HNL.out] at this)
        rw [← HNL.out] at kc2
        have HBW2 : Hid (Below w.heap.size w W2) := Lib.hid (HW2.out.trans ((past_alloc hb2).mono HW2.out.size))
        have HKK3 := Lib.hid (HKK2.out.keep (past_alloc hb2))
        have HT1 : Hid (TV w2.heap.size #[.int .i64 2, .int .i64 1, .int .i64 (1 + (n : Int)), .string (bstr sl), .int .i64 0] W2) := Lib.hid ((tv_new w2 _ 27).keep hb2)
        clear hB2 hb2
        go_wp2_with fail
        refine (next_any _ _ _ sl 0 _ HBS2.out (HT.out.keep HBW2.out) (by omega) (Nat.zero_le _)).mono ?_
        rw [HN2.out, nxV_some]
        rintro e w3 ⟨rfl, hb3⟩
        have HW3 : Hid (Below w.heap.size w w3) := Lib.hid (HBW2.out.trans (hb3.mono HBW2.out.size))
        have HK4 := Lib.hid (HKK3.out.keep hb3)
        have HT3 := Lib.hid (HT1.out.keep hb3)
        clear hb3 kc2
        have HK5 := Lib.hid (HK4.out.keep ((Below.refl _ w3).alloc (Nat.le_refl _) (.cells #[.int .i64 2, .int .i64 0, .int .i64 (n : Int), .string (bstr sl), .int .i64 0] 27)))
        have HT5 := Lib.hid (HT3.out.keep ((Below.refl _ w3).alloc (Nat.le_refl _) (.cells #[.int .i64 2, .int .i64 0, .int .i64 (n : Int), .string (bstr sl), .int .i64 0] 27)))
        have qa0 := HT3.out.c 0
        have qa1 := HT3.out.c 1
        have qa2 := HT3.out.c 2
        have qa3 := HT3.out.c 3
        have qa4 := HT3.out.c 4
        have qk := HK4.out.c 3
        have la := HT3.out.lt
        have lk := HK4.out.lt
        have ra0 := HT5.out.c 0
        have ra1 := HT5.out.c 1
        have ra2 := HT5.out.c 2
        have ra3 := HT5.out.c 3
        have ra4 := HT5.out.c 4
        have rk := HK5.out.c 3
        simp only [List.getElem?_toArray, List.getElem?_cons_zero, List.getElem?_cons_succ] at qa0 qa1 qa2 qa3 qa4 qk ra0 ra1 ra2 ra3 ra4 rk
        have e1 := eq_tok 2 1 (1 + (n : Int)) 0 2 1 (1 + (n : Int)) 0 (bstr sl) (bstr sl)
        simp only [beq_self_eq_true, Bool.and_self] at e1
        have hwr : IntKind.i64.wrap (1 + (n : Int)) = 1 + (n : Int) := IntWalk.i64_in _ (by omega)
        go_wp2_with fail
        go_quiet (fail)
        go_wp2
        go_ret
        exact ⟨rfl, below_drewN (HW3.out.alloc HW3.out.size _) _⟩


set_option maxRecDepth 100000 in
set_option maxHeartbeats 2000000 in
theorem alone4 (a : Option Addr) (len cap : Nat) (l : List Int) (c : Int) (w : World) (h : Bs w a len cap l) (ht : Tab w) (h0 : 0 ≤ c) (h1 : c ≤ 255) (hq5 : c % 5 = 4) :
    Calls Tryd.prog 7 #[.int .u8 c, .slice a len cap] w fun e w' => e = .returned (.bool true) ∧ Below w.heap.size w w' := by
  have HT := Lib.hid ht
  have H := Lib.hid h
  have hlc := h.lc
  have hcm := h.cm
  unfold maxLen at hcm
  clear h ht
  go_enter Tryd.func7, Tryd.ntmps7
  go_wp2_with fail
  refine (shown_any _ HT.out).mono ?_
  rintro e w1 ⟨rfl, hb1⟩
  have HW1 := Lib.hid hb1
  clear hb1
  go_wp2
  try rw [hq5]
  clear hq5
  go_loopw [10, 11] (fun s i wr => ∃ (k : Nat) (sl : List Int), i = .int .i64 k ∧ s = .string (bstr sl) ∧ k ≤ 9 ∧ k ≤ len + 1 ∧ Hid (soFar 4 k sl) ∧ Hid (Below (w1.heap.size + 1) (w1.alloc (.cells #[.int .i64 1, .int .i64 3, .int .i64 4, .int .i64 2, .int .i64 6] 36)) wr)) (fun _ i _ => 10 - (intOf i).toNat)
  case atStart => exact ⟨0, [], rfl, rfl, by omega, by omega, Lib.hid ⟨(by intro x hx; cases hx), by simp⟩, Lib.hid (Below.refl _ _)⟩
  case round =>
    obtain ⟨k, sl, rfl, rfl, hk9, hkl, HS, HB⟩ := hrel
    rename World => wr
    have HBW : Hid (Below w.heap.size w wr) := Lib.hid ((HW1.out.alloc HW1.out.size _).trans (HB.out.mono (by have := HW1.out.size; omega)))
    have hsl : sl.length ≤ 9 := by have := HS.out.2; split at this <;> omega
    by_cases hgo : k ≤ len ∧ k < 9
    · obtain ⟨hg1, hg2⟩ := hgo
      by_cases hin : k < len
      · have hb := H.out.below HBW.out
        have r0 := (bt_rng hb.rng k).1
        have r1 := (bt_rng hb.rng k).2
        obtain ⟨b, off, rfl, _, hcc⟩ := hb.at_ (by omega)
        have hck := hcc k hin
        clear hb hcc
        obtain ⟨CN, hCN⟩ := Int.eq_ofNat_of_zero_le r0
        rw [hCN] at hck r1
        clear hCN r0
        obtain ⟨r, hr⟩ : ∃ r : Nat, r = CN % 9 := ⟨_, rfl⟩
        have hrl : r < 9 := by omega
        have hri : (CN : Int) % 9 = (r : Int) := by rw [hr]; omega
        have hix2 := fun w => so_idx r hrl w
        have hen := fun w => so_enc r hrl w
        have hok := slo_ok r hrl
        obtain ⟨x, hx⟩ : ∃ x, x = slo r := ⟨_, rfl⟩
        simp only [← hx] at hix2 hen hok
        have HN : Hid (soFar 4 (k + 1) [x]) := Lib.hid ⟨fun y hy => by rw [List.mem_singleton.1 hy]; exact ⟨hok.2, hok.1⟩, by rw [if_pos rfl]; simp⟩
        clear hr hrl hok hx
        go_wp2
        skip
        go_roundw
        case rel => exact ⟨k + 1, [x], by go_num, rfl, by omega, by omega, HN, Lib.hid (HB.out)⟩
        case measure => simp [intOf]; omega
      · have hke : k = len := by omega
        have HN : Hid (soFar 4 (k + 1) [123]) := Lib.hid ⟨fun y hy => by rw [List.mem_singleton.1 hy]; decide +kernel, by rw [if_pos rfl]; simp⟩
        have hix : ∀ w, (Instr.index 9 (.string { data := #[40, 41, 44, 124, 59, 91, 93, 123, 125] }) (.int .i64 7)).run Tryd.prog w = .ok (.int .u8 123) w := fun w => so_idx 7 (by decide) w
        have hen : ∀ w, (convert 5 9 (.int .u8 123)).run Tryd.prog w = .ok (.string (bstr [123])) w := fun w => so_enc 7 (by decide) w
        go_wp2
        skip
        go_roundw
        case rel => exact ⟨k + 1, [123], by go_num, rfl, by omega, by omega, HN, Lib.hid (HB.out)⟩
        case measure => simp [intOf]; omega
    · by_cases hkl2 : k ≤ len
      · have hk99 : 9 ≤ k := by omega
        clear hgo
        have hk1 : 1 ≤ k := by omega
        obtain ⟨hAB, hLn⟩ := HS.out
        obtain ⟨n, hn⟩ : ∃ n, n = sl.length := ⟨_, rfl⟩
        have hn0 : 0 < sl.length := by rw [hLn]; split <;> omega
        have hn4 : 4 = 4 → sl.length = 1 := fun hh => by rw [hLn, if_pos hh]; omega
        have HN1 : nx (32 :: (sl ++ [32])) 0 = some (1, ⟨6, sl.length, sl, 0⟩) := nx_blank 4 (by decide) sl hAB hn0 hsl hn4
        have HN2 : nx sl 0 = some (0, ⟨6, sl.length, sl, 0⟩) := nx_bare 4 (by decide) sl hAB hn0 hsl hn4
        rw [← hn] at HN1 HN2
        have hnl : n ≤ 9 := by omega
        have hn1 : 0 < n := by omega
        have hrng : ∀ x ∈ sl, 0 ≤ x ∧ x ≤ 255 := fun x hx => (hAB x hx).1
        have hsz : (bstr sl).size = n := by rw [bstr_size, hn]
        obtain ⟨g1, C1, W1, kc1, hB1, hb1⟩ := conv_str wr (({ data := #[32] } : ByteArray) ++ bstr sl ++ { data := #[32] }) (32 :: (sl ++ [32])) (bstr_blank sl) (by
          intro x hx
          simp only [List.mem_cons, List.mem_append, List.not_mem_nil, or_false] at hx
          rcases hx with rfl | hx | rfl
          · omega
          · exact hrng x hx
          · omega) (by simp; omega)
        have HBS1 := Lib.hid hB1
        have HBW1 : Hid (Below w.heap.size w W1) := Lib.hid (HBW.out.trans (hb1.mono HBW.out.size))
        have HKK1 : Hid (TV w1.heap.size #[.int .i64 1, .int .i64 3, .int .i64 4, .int .i64 2, .int .i64 6] W1) := Lib.hid (((tv_new w1 _ 36).keepB (by omega) HB.out).keep hb1)
        have HL1 : Hid ((32 :: (sl ++ [32])).length = n + 2) := Lib.hid (by simp; omega)
        have HRNG := Lib.hid hrng
        have HNL := Lib.hid hn
        rw [HL1.out] at kc1
        have HBS1 : Hid (Bs W1 (some ⟨g1, 0, none⟩) (n + 2) C1 (32 :: (sl ++ [32]))) := Lib.hid (by have := HBS1.out; rwa [HL1.out] at this)
        clear hAB hLn hn0 hn4 hB1 hb1 hrng hn
        have HN1 := Lib.hid HN1
        have HN2 := Lib.hid HN2
        go_wp2_with fail
        refine (next_any _ _ _ (32 :: (sl ++ [32])) 0 _ HBS1.out (HT.out.keep HBW1.out) (by omega) (Nat.zero_le _)).mono ?_
        rw [HN1.out, nxV_some]
        rintro e w2 ⟨rfl, hb2⟩
        have HW2 : Hid (Below w.heap.size w w2) := Lib.hid (HBW1.out.trans (hb2.mono HBW1.out.size))
        have HKK2 := Lib.hid (HKK1.out.keep hb2)
        clear hb2 kc1
        obtain ⟨g2, C2, W2, kc2, hB2, hb2⟩ := conv_str (w2.alloc (.cells #[.int .i64 6, .int .i64 1, .int .i64 (1 + (n : Int)), .string (bstr sl), .int .i64 0] 27)) (bstr sl) sl rfl HRNG.out (by rw [← HNL.out]; omega)
        have HBS2 : Hid (Bs W2 (some ⟨g2, 0, none⟩) n C2 sl) := Lib.hid (by have := hB2; rwa [← HNL.out] at this)
        rw [← HNL.out] at kc2
        have HBW2 : Hid (Below w.heap.size w W2) := Lib.hid (HW2.out.trans ((past_alloc hb2).mono HW2.out.size))
        have HKK3 := Lib.hid (HKK2.out.keep (past_alloc hb2))
        have HT1 : Hid (TV w2.heap.size #[.int .i64 6, .int .i64 1, .int .i64 (1 + (n : Int)), .string (bstr sl), .int .i64 0] W2) := Lib.hid ((tv_new w2 _ 27).keep hb2)
        clear hB2 hb2
        go_wp2_with fail
        refine (next_any _ _ _ sl 0 _ HBS2.out (HT.out.keep HBW2.out) (by omega) (Nat.zero_le _)).mono ?_
        rw [HN2.out, nxV_some]
        rintro e w3 ⟨rfl, hb3⟩
        have HW3 : Hid (Below w.heap.size w w3) := Lib.hid (HBW2.out.trans (hb3.mono HBW2.out.size))
        have HK4 := Lib.hid (HKK3.out.keep hb3)
        have HT3 := Lib.hid (HT1.out.keep hb3)
        clear hb3 kc2
        have HK5 := Lib.hid (HK4.out.keep ((Below.refl _ w3).alloc (Nat.le_refl _) (.cells #[.int .i64 6, .int .i64 0, .int .i64 (n : Int), .string (bstr sl), .int .i64 0] 27)))
        have HT5 := Lib.hid (HT3.out.keep ((Below.refl _ w3).alloc (Nat.le_refl _) (.cells #[.int .i64 6, .int .i64 0, .int .i64 (n : Int), .string (bstr sl), .int .i64 0] 27)))
        have qa0 := HT3.out.c 0
        have qa1 := HT3.out.c 1
        have qa2 := HT3.out.c 2
        have qa3 := HT3.out.c 3
        have qa4 := HT3.out.c 4
        have qk := HK4.out.c 4
        have la := HT3.out.lt
        have lk := HK4.out.lt
        have ra0 := HT5.out.c 0
        have ra1 := HT5.out.c 1
        have ra2 := HT5.out.c 2
        have ra3 := HT5.out.c 3
        have ra4 := HT5.out.c 4
        have rk := HK5.out.c 4
        simp only [List.getElem?_toArray, List.getElem?_cons_zero, List.getElem?_cons_succ] at qa0 qa1 qa2 qa3 qa4 qk ra0 ra1 ra2 ra3 ra4 rk
        have e1 := eq_tok 6 1 (1 + (n : Int)) 0 6 1 (1 + (n : Int)) 0 (bstr sl) (bstr sl)
        simp only [beq_self_eq_true, Bool.and_self] at e1
        have hwr : IntKind.i64.wrap (1 + (n : Int)) = 1 + (n : Int) := IntWalk.i64_in _ (by omega)
        go_wp2_with fail
        go_quiet (fail)
        go_wp2
        go_ret
        exact ⟨rfl, below_drewN (HW3.out.alloc HW3.out.size _) _⟩
      · clear hgo
        have hk1 : 1 ≤ k := by omega
        obtain ⟨hAB, hLn⟩ := HS.out
        obtain ⟨n, hn⟩ : ∃ n, n = sl.length := ⟨_, rfl⟩
        have hn0 : 0 < sl.length := by rw [hLn]; split <;> omega
        have hn4 : 4 = 4 → sl.length = 1 := fun hh => by rw [hLn, if_pos hh]; omega
        have HN1 : nx (32 :: (sl ++ [32])) 0 = some (1, ⟨6, sl.length, sl, 0⟩) := nx_blank 4 (by decide) sl hAB hn0 hsl hn4
        have HN2 : nx sl 0 = some (0, ⟨6, sl.length, sl, 0⟩) := nx_bare 4 (by decide) sl hAB hn0 hsl hn4
        rw [← hn] at HN1 HN2
        have hnl : n ≤ 9 := by omega
        have hn1 : 0 < n := by omega
        have hrng : ∀ x ∈ sl, 0 ≤ x ∧ x ≤ 255 := fun x hx => (hAB x hx).1
        have hsz : (bstr sl).size = n := by rw [bstr_size, hn]
        obtain ⟨g1, C1, W1, kc1, hB1, hb1⟩ := conv_str wr (({ data := #[32] } : ByteArray) ++ bstr sl ++ { data := #[32] }) (32 :: (sl ++ [32])) (bstr_blank sl) (by
          intro x hx
          simp only [List.mem_cons, List.mem_append, List.not_mem_nil, or_false] at hx
          rcases hx with rfl | hx | rfl
          · omega
          · exact hrng x hx
          · omega) (by simp; omega)
        have HBS1 := Lib.hid hB1
        have HBW1 : Hid (Below w.heap.size w W1) := Lib.hid (HBW.out.trans (hb1.mono HBW.out.size))
        have HKK1 : Hid (TV w1.heap.size #[.int .i64 1, .int .i64 3, .int .i64 4, .int .i64 2, .int .i64 6] W1) := Lib.hid (((tv_new w1 _ 36).keepB (by omega) HB.out).keep hb1)
        have HL1 : Hid ((32 :: (sl ++ [32])).length = n + 2) := Lib.hid (by simp; omega)
        have HRNG := Lib.hid hrng
        have HNL := Lib.hid hn
        rw [HL1.out] at kc1
        have HBS1 : Hid (Bs W1 (some ⟨g1, 0, none⟩) (n + 2) C1 (32 :: (sl ++ [32]))) := Lib.hid (by have := HBS1.out; rwa [HL1.out] at this)
        clear hAB hLn hn0 hn4 hB1 hb1 hrng hn
        have HN1 := Lib.hid HN1
        have HN2 := Lib.hid HN2
        go_wp2_with fail
        refine (next_any _ _ _ (32 :: (sl ++ [32])) 0 _ HBS1.out (HT.out.keep HBW1.out) (by omega) (Nat.zero_le _)).mono ?_
        rw [HN1.out, nxV_some]
        rintro e w2 ⟨rfl, hb2⟩
        have HW2 : Hid (Below w.heap.size w w2) := Lib.hid (HBW1.out.trans (hb2.mono HBW1.out.size))
        have HKK2 := Lib.hid (HKK1.out.keep hb2)
        clear hb2 kc1
        obtain ⟨g2, C2, W2, kc2, hB2, hb2⟩ := conv_str (w2.alloc (.cells #[.int .i64 6, .int .i64 1, .int .i64 (1 + (n : Int)), .string (bstr sl), .int .i64 0] 27)) (bstr sl) sl rfl HRNG.out (by rw [← HNL.out]; omega)
        have HBS2 : Hid (Bs W2 (some ⟨g2, 0, none⟩) n C2 sl) := Lib.hid (by have := hB2; rwa [← HNL.out] at this)
        rw [← HNL.out] at kc2
        have HBW2 : Hid (Below w.heap.size w W2) := Lib.hid (HW2.out.trans ((past_alloc hb2).mono HW2.out.size))
        have HKK3 := Lib.hid (HKK2.out.keep (past_alloc hb2))
        have HT1 : Hid (TV w2.heap.size #[.int .i64 6, .int .i64 1, .int .i64 (1 + (n : Int)), .string (bstr sl), .int .i64 0] W2) := Lib.hid ((tv_new w2 _ 27).keep hb2)
        clear hB2 hb2
        go_wp2_with fail
        refine (next_any _ _ _ sl 0 _ HBS2.out (HT.out.keep HBW2.out) (by omega) (Nat.zero_le _)).mono ?_
        rw [HN2.out, nxV_some]
        rintro e w3 ⟨rfl, hb3⟩
        have HW3 : Hid (Below w.heap.size w w3) := Lib.hid (HBW2.out.trans (hb3.mono HBW2.out.size))
        have HK4 := Lib.hid (HKK3.out.keep hb3)
        have HT3 := Lib.hid (HT1.out.keep hb3)
        clear hb3 kc2
        have HK5 := Lib.hid (HK4.out.keep ((Below.refl _ w3).alloc (Nat.le_refl _) (.cells #[.int .i64 6, .int .i64 0, .int .i64 (n : Int), .string (bstr sl), .int .i64 0] 27)))
        have HT5 := Lib.hid (HT3.out.keep ((Below.refl _ w3).alloc (Nat.le_refl _) (.cells #[.int .i64 6, .int .i64 0, .int .i64 (n : Int), .string (bstr sl), .int .i64 0] 27)))
        have qa0 := HT3.out.c 0
        have qa1 := HT3.out.c 1
        have qa2 := HT3.out.c 2
        have qa3 := HT3.out.c 3
        have qa4 := HT3.out.c 4
        have qk := HK4.out.c 4
        have la := HT3.out.lt
        have lk := HK4.out.lt
        have ra0 := HT5.out.c 0
        have ra1 := HT5.out.c 1
        have ra2 := HT5.out.c 2
        have ra3 := HT5.out.c 3
        have ra4 := HT5.out.c 4
        have rk := HK5.out.c 4
        simp only [List.getElem?_toArray, List.getElem?_cons_zero, List.getElem?_cons_succ] at qa0 qa1 qa2 qa3 qa4 qk ra0 ra1 ra2 ra3 ra4 rk
        have e1 := eq_tok 6 1 (1 + (n : Int)) 0 6 1 (1 + (n : Int)) 0 (bstr sl) (bstr sl)
        simp only [beq_self_eq_true, Bool.and_self] at e1
        have hwr : IntKind.i64.wrap (1 + (n : Int)) = 1 + (n : Int) := IntWalk.i64_in _ (by omega)
        go_wp2_with fail
        go_quiet (fail)
        go_wp2
        go_ret
        exact ⟨rfl, below_drewN (HW3.out.alloc HW3.out.size _) _⟩


theorem tokenAlone_any (a : Option Addr) (len cap : Nat) (l : List Int) (c : Int) (w : World) (h : Bs w a len cap l) (ht : Tab w) (h0 : 0 ≤ c) (h1 : c ≤ 255) :
    Calls Tryd.prog 7 #[.int .u8 c, .slice a len cap] w fun e w' => e = .returned (.bool true) ∧ Below w.heap.size w w' := by
  obtain hq | hq | hq | hq | hq : c % 5 = 0 ∨ c % 5 = 1 ∨ c % 5 = 2 ∨ c % 5 = 3 ∨ c % 5 = 4 := by omega
  · exact alone0 a len cap l c w h ht h0 h1 hq
  · exact alone1 a len cap l c w h ht h0 h1 hq
  · exact alone2 a len cap l c w h ht h0 h1 hq
  · exact alone3 a len cap l c w h ht h0 h1 hq
  · exact alone4 a len cap l c w h ht h0 h1 hq

end Go.Proofs.YtglgdpcfjbahdaaDoor
