/- UtfPlain: bytes below 128 are sequences, each for itself; with one from 80 to BF put ahead of any one of them they are none. -/
import Derived.Test.YtbcphmjlifmeiaaUq
namespace Go.Proofs.Ytbcphmjlifmeiaa
open Go.RowKit

set_option maxHeartbeats 1000000 in
theorem plain_any (c at' : Int) (a : Option Addr) (len cap : Nat) (l0 : List Int) (w : World) (hc0 : 0 ≤ c) (hc1 : c ≤ 255) (ha0 : 0 ≤ at') (ha1 : at' ≤ 255) (h0 : Bs w a len cap l0) :
    Calls Try.prog 7 #[.slice a len cap, .int .u8 c, .int .u8 at'] w fun e w' => e = .returned (.bool true) ∧ Below w.heap.size w w' := by
  have H0 := Lib.hid h0
  clear h0
  go_enter Try.func7, Try.ntmps7
  go_wp2_with fail
  refine (shown_any _).mono ?_
  rintro e w1 ⟨rfl, hb1⟩
  have HB1 := Lib.hid hb1
  have H := Lib.hid (few_bs (H0.out.below HB1.out))
  clear hb1
  have hn2 : min len 200 ≤ 200 := Nat.min_le_right _ _
  go_wp2_with fail
  refine (few_any _ _ _ l0 _ ((H0.out.below HB1.out).alloc _)).mono ?_
  rintro e w' ⟨rfl, rfl⟩
  clear H0
  generalize l0.take 200 = l at *
  generalize min len 200 = n at *
  go_wp2_with (first
      | (at_builtin; refine wpList_appx rfl (.tmp 13) (.tmp 15) 22 rfl 5 w.heap.size Try.underlying22 info5 _ _ _ [] rfl (OwnB.made HB1.out.size) (by simp) _ _ _ l rfl (H.out.alloc _) (by omega) (by have := HB1.out.size; simp; omega) ?_; intro g1 c1 w2 ho1 hg1 hb1; simp only [Nat.zero_add, List.nil_append] at ho1; have HO1 := Lib.hid ho1; have HB2 := Lib.hid ((HB1.out.alloc HB1.out.size _).trans hb1); clear ho1 hb1 hg1))
  go_loopw [9] (fun i wr => ∃ k : Nat, ∃ l' : List Int, k ≤ n ∧ i = .int .i64 k ∧ Hid (OwnB w.heap.size 5 wr (some ⟨g1, 0, none⟩) n c1 l') ∧ Hid (Below w.heap.size w wr) ∧ Hid (∀ j, j < k → bt l' j ≤ 127)) (fun i _ => n - (intOf i).toNat)
  case atStart => exact ⟨0, l, by omega, rfl, HO1, HB2, Lib.hid (fun j hj => by omega)⟩
  case round =>
    obtain ⟨k, l', hk, rfl, HO, HB, HL⟩ := hrel
    clear HO1 HB2 HB1 H
    by_cases hlt : k < n
    · have hbs := HO.out.bs
      have hrng := bt_rng hbs.rng k
      obtain ⟨g, hg, hbg, _⟩ := HO.out.form (by simp)
      obtain rfl : g1 = g := by simpa using hg
      have hck : wr.cell? ⟨g1, k, none⟩ = some (.int .u8 (bt l' k)) := by
        obtain ⟨b, off, hab, _, hc⟩ := hbs.at_ (by omega)
        simp only [Option.some.injEq, Addr.mk.injEq] at hab
        obtain ⟨rfl, rfl, _⟩ := hab
        simpa using hc k hlt
      have hfz : wr.frozen? ⟨g1, k, none⟩ = false := HO.out.frozen k
      have HX := Lib.hid (and127 _ hrng.1 hrng.2)
      have HLL := Lib.hid hbs.hl
      clear hbs hg hrng
      go_wp2
      go_roundw
      case rel => exact ⟨k + 1, l'.set k (bits .and .u8 (bt l' k) 127), by omega, by go_num, Lib.hid (HO.out.set k _ ⟨HX.out.1, by have := HX.out.2; omega⟩), Lib.hid (HB.out.setCell hbg _), Lib.hid (fun j hj => by
        rw [bt_set _ _ _ _ (by rw [HLL.out]; omega)]
        split
        · exact HX.out.2
        · exact HL.out j (by omega))⟩
      case measure => simp [intOf]; omega
    · have hkn : k = n := by omega
      subst hkn
      have HLL := Lib.hid HO.out.bs.hl
      have HP : Hid (∀ x ∈ l', x ≤ 127) := Lib.hid (fun x hx => by
        obtain ⟨j, hj, rfl⟩ := List.getElem_of_mem hx
        have := HL.out j (by rw [← HLL.out]; exact hj)
        simpa [bt, List.getD, hj] using this)
      obtain ⟨kk, hkk, hkl⟩ : ∃ kk : Nat, at' % ((k : Int) + 1) = kk ∧ kk ≤ k := ⟨(at' % ((k : Int) + 1)).toNat, by
        have := Int.emod_nonneg at' (show ((k : Int) + 1) ≠ 0 by omega); omega, by
        have := Int.emod_lt_of_pos at' (show 0 < ((k : Int) + 1) by omega); omega⟩
      clear HL hlt
      have HBS := Lib.hid HO.out.bs
      obtain ⟨y, hy, hyr⟩ : ∃ y : Int, IntKind.u8.wrap (128 + bits .and .u8 c 63) = y ∧ 128 ≤ y ∧ y ≤ 191 :=
        ⟨128 + c % 64, by rw [u8_and63 c hc0 (by omega)]; exact IntWalk.u8_in _ (by omega), by omega, by omega⟩
      have HY := Lib.hid hyr
      have hkc : kk ≤ c1 := by have := HBS.out.lc; omega
      have HOV := Lib.hid (odd_valid l' kk y HP.out hyr (by rw [HLL.out]; exact hkl))
      have HPV := Lib.hid (plain_valid l' HP.out)
      have HT := Lib.hid (HBS.out.take (k := kk) (c' := c1) hkl hkc HBS.out.cm)
      clear hyr
      by_cases hck : c1 = kk
      · obtain rfl : kk = k := by have := HBS.out.lc; omega
        have hck2 := hck.symm
        clear hck
        subst hck2
        have HD : Hid (Bs wr (some ⟨g1, 0, none⟩) 0 0 (l'.drop kk)) := Lib.hid (HBS.out.none_left _ _ (Nat.zero_le _))
        go_wp2
        rw [hkk]
        clear hkk
        go_region_law (first
          | (refine step_appx rfl (.tmp 37) (.tmp 40) 22 rfl 5 wr.heap.size Try.underlying22 info5 _ _ _ [] rfl (OwnB.emptyAt (by first | exact heapAt1 _ _ | exact heapAt2 _ _ _ | exact heapAt3 _ _ _) (by omega)) (by simp) _ _ _ (l'.take kk) rfl (HT.out.below (by first | exact ((Below.refl _ _).alloc (Nat.le_refl _) _).drew | exact (((Below.refl _ _).alloc (Nat.le_refl _) _).alloc (by simp) _).drew)) (by omega) (by simp; try omega) ?_; intro g2 c2 w2 ho2 hg2 hb2; simp only [Nat.zero_add, List.nil_append] at ho2; have HO2 := Lib.hid ho2; have HB2 : Hid (Below wr.heap.size wr w2) := Lib.hid (Below.trans (by first | exact ((Below.refl _ _).alloc (Nat.le_refl _) _).drew | exact (((Below.refl _ _).alloc (Nat.le_refl _) _).alloc (by simp) _).drew) hb2); have hs2 : wr.heap.size ≤ w2.heap.size := HB2.out.size; have HG2 := Lib.hid hg2; clear ho2 hg2 hb2)
          | (refine step_appx rfl (.tmp 41) (.tmp 45) 22 rfl 5 wr.heap.size Try.underlying22 info5 _ _ _ (l'.take kk) rfl (by first | exact HO2.out | exact HO2.out.alloc _) (by simp) _ _ _ [y] rfl (by first | exact Bs.oneAt (heapAt4 _ _) ⟨by have := HY.out; omega, by have := HY.out; omega⟩ | exact Bs.grown (Bs.oneAt (by first | exact heapAt1 _ _ | exact heapAt2 _ _ _ | exact heapAt3 _ _ _) ⟨by have := HY.out; omega, by have := HY.out; omega⟩) HG2.out (by simp [Value.ownBlock])) (by omega) (by first | exact hs2 | (simp; omega)) ?_; intro g3 c3 w3 ho3 hg3 hb3; have HO3 := Lib.hid ho3; have HB3 : Hid (Below wr.heap.size wr w3) := Lib.hid (HB2.out.trans (Below.trans (by first | exact Below.refl _ _ | exact (Below.refl _ _).alloc hs2 _) hb3)); have hs3 : wr.heap.size ≤ w3.heap.size := HB3.out.size; clear ho3 hg3 hb3)
          | (refine step_appx rfl (.tmp 46) (.tmp 49) 22 rfl 5 wr.heap.size Try.underlying22 info5 _ _ _ (l'.take kk ++ [y]) rfl HO3.out (by simp) _ _ _ (l'.drop kk) rfl (HD.out.below HB3.out) (by omega) hs3 ?_; intro g4 c4 w4 ho4 hg4 hb4; have HO4 := Lib.hid ho4; have HB4 : Hid (Below wr.heap.size wr w4) := Lib.hid (HB3.out.trans hb4); clear ho4 hg4 hb4))
        all_goals
          go_wp2_with (first
            | (go_at_call 12; with_reducible refine (valid_any _ _ _ l' _ (HBS.out.below HB4.out)).mono ?_; rintro e w' ⟨rfl, rfl⟩; rw [HPV.out.1])
            | (go_at_call 14; with_reducible refine (count_any _ _ _ l' _ (HBS.out.below HB4.out)).mono ?_; rintro e w' ⟨rfl, rfl⟩; rw [HPV.out.2, HLL.out])
            | (go_at_call 12; with_reducible refine (valid_any _ _ _ (l'.take kk ++ [y] ++ l'.drop kk) _ HO4.out.bs).mono ?_; rintro e w' ⟨rfl, rfl⟩; rw [HOV.out.1])
            | (go_at_call 14; with_reducible refine (count_any _ _ _ (l'.take kk ++ [y] ++ l'.drop kk) _ HO4.out.bs).mono ?_; rintro e w' ⟨rfl, rfl⟩; rw [HOV.out.2, HLL.out]))
          go_ret
          exact ⟨rfl, HB.out.trans (HB4.out.mono HB.out.size)⟩
      · have HD : Hid (Bs wr (some ⟨g1, kk, none⟩) (k - kk) (c1 - kk) (l'.drop kk)) := Lib.hid (by simpa using HBS.out.drop (k := kk) hkl)
        go_wp2
        rw [hkk]
        clear hkk
        go_region_law (first
          | (refine step_appx rfl (.tmp 37) (.tmp 40) 22 rfl 5 wr.heap.size Try.underlying22 info5 _ _ _ [] rfl (OwnB.emptyAt (by first | exact heapAt1 _ _ | exact heapAt2 _ _ _ | exact heapAt3 _ _ _) (by omega)) (by simp) _ _ _ (l'.take kk) rfl (HT.out.below (by first | exact ((Below.refl _ _).alloc (Nat.le_refl _) _).drew | exact (((Below.refl _ _).alloc (Nat.le_refl _) _).alloc (by simp) _).drew)) (by omega) (by simp; try omega) ?_; intro g2 c2 w2 ho2 hg2 hb2; simp only [Nat.zero_add, List.nil_append] at ho2; have HO2 := Lib.hid ho2; have HB2 : Hid (Below wr.heap.size wr w2) := Lib.hid (Below.trans (by first | exact ((Below.refl _ _).alloc (Nat.le_refl _) _).drew | exact (((Below.refl _ _).alloc (Nat.le_refl _) _).alloc (by simp) _).drew) hb2); have hs2 : wr.heap.size ≤ w2.heap.size := HB2.out.size; have HG2 := Lib.hid hg2; clear ho2 hg2 hb2)
          | (refine step_appx rfl (.tmp 41) (.tmp 45) 22 rfl 5 wr.heap.size Try.underlying22 info5 _ _ _ (l'.take kk) rfl (by first | exact HO2.out | exact HO2.out.alloc _) (by simp) _ _ _ [y] rfl (by first | exact Bs.oneAt (heapAt4 _ _) ⟨by have := HY.out; omega, by have := HY.out; omega⟩ | exact Bs.grown (Bs.oneAt (by first | exact heapAt1 _ _ | exact heapAt2 _ _ _ | exact heapAt3 _ _ _) ⟨by have := HY.out; omega, by have := HY.out; omega⟩) HG2.out (by simp [Value.ownBlock])) (by omega) (by first | exact hs2 | (simp; omega)) ?_; intro g3 c3 w3 ho3 hg3 hb3; have HO3 := Lib.hid ho3; have HB3 : Hid (Below wr.heap.size wr w3) := Lib.hid (HB2.out.trans (Below.trans (by first | exact Below.refl _ _ | exact (Below.refl _ _).alloc hs2 _) hb3)); have hs3 : wr.heap.size ≤ w3.heap.size := HB3.out.size; clear ho3 hg3 hb3)
          | (refine step_appx rfl (.tmp 46) (.tmp 49) 22 rfl 5 wr.heap.size Try.underlying22 info5 _ _ _ (l'.take kk ++ [y]) rfl HO3.out (by simp) _ _ _ (l'.drop kk) rfl (HD.out.below HB3.out) (by omega) hs3 ?_; intro g4 c4 w4 ho4 hg4 hb4; have HO4 := Lib.hid ho4; have HB4 : Hid (Below wr.heap.size wr w4) := Lib.hid (HB3.out.trans hb4); clear ho4 hg4 hb4))
        all_goals
          go_wp2_with (first
            | (go_at_call 12; with_reducible refine (valid_any _ _ _ l' _ (HBS.out.below HB4.out)).mono ?_; rintro e w' ⟨rfl, rfl⟩; rw [HPV.out.1])
            | (go_at_call 14; with_reducible refine (count_any _ _ _ l' _ (HBS.out.below HB4.out)).mono ?_; rintro e w' ⟨rfl, rfl⟩; rw [HPV.out.2, HLL.out])
            | (go_at_call 12; with_reducible refine (valid_any _ _ _ (l'.take kk ++ [y] ++ l'.drop kk) _ HO4.out.bs).mono ?_; rintro e w' ⟨rfl, rfl⟩; rw [HOV.out.1])
            | (go_at_call 14; with_reducible refine (count_any _ _ _ (l'.take kk ++ [y] ++ l'.drop kk) _ HO4.out.bs).mono ?_; rintro e w' ⟨rfl, rfl⟩; rw [HOV.out.2, HLL.out]))
          go_ret
          exact ⟨rfl, HB.out.trans (HB4.out.mono HB.out.size)⟩

end Go.Proofs.Ytbcphmjlifmeiaa
