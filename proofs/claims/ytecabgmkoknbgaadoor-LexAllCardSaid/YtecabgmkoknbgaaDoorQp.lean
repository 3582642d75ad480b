/- Contract of package quote's Put. -/
import Derived.Test.YtecabgmkoknbgaaDoorQb
namespace Go.Proofs.YtecabgmkoknbgaaDoor
open Go.RowKit

def ptOk (l : List Int) : Bool := decide ((tk (putL l)).e = 0)
def ptT (l : List Int) : List Int := if ptOk l then putL l else []
def ptE (l : List Int) : Int := if ptOk l then 0 else 1

theorem take_snocP (l : List Int) (k : Nat) (h : k < l.length) : l.take (k + 1) = l.take k ++ [bt l k] := by
  rw [List.take_succ_eq_append_getElem h, show bt l k = l[k] from by simp [bt, List.getD, h]]
theorem escL_snoc (l : List Int) (k : Nat) (h : k < l.length) : escL (l.take (k + 1)) = escL (l.take k) ++ esc (bt l k) := by
  rw [take_snocP l k h, escL_append, escL_cons, escL_nil, List.append_nil]

set_option maxRecDepth 20000 in
set_option maxHeartbeats 2000000 in
theorem qput_any (a : Option Addr) (len cap : Nat) (l : List Int) (w : World) (h : Bs w a len cap l) (ht : Tab w) (hsz : len ≤ 400000) :
    Calls Tryd.prog 27 #[.slice a len cap] w fun e w' => ∃ a' c', e = .returned (.tuple #[.slice a' (ptT l).length c', .int .i64 (ptE l)]) ∧ OwnB w.heap.size 5 w' a' (ptT l).length c' (ptT l) ∧ Below w.heap.size w w' := by
  have hlc := h.lc
  have hcm := h.cm
  unfold maxLen at hcm
  have H := Lib.hid h
  have HT := Lib.hid ht
  have HR := Lib.hid h.rng
  have HL := Lib.hid h.hl
  clear h ht
  have HO0 : Hid (OwnB w.heap.size 5 (w.alloc (.cells #[.int .u8 39] 5)) (some ⟨w.heap.size, 0, none⟩) 1 1 (39 :: escL (l.take 0))) := Lib.hid (OwnB.lit w 5 _ (Nat.le_refl _) rfl (by simp [escL_nil]) rfl rfl (by decide))
  have HB0 : Hid (Below w.heap.size w (w.alloc (.cells #[.int .u8 39] 5))) := Lib.hid ((Below.refl _ _).alloc (Nat.le_refl _) _)
  go_enter Tryd.func27, Tryd.ntmps27
  go_wp2
  go_loopw [4, 13] (fun v i wr => ∃ a1 c1, ∃ n k : Nat, v = .slice a1 n c1 ∧ i = .int .i64 k ∧ k ≤ len ∧ n ≤ 1 + 2 * k ∧ Hid (OwnB w.heap.size 5 wr a1 n c1 (39 :: escL (l.take k))) ∧ Hid (Below w.heap.size w wr)) (fun _ i _ => len - (intOf i).toNat)
  case atStart => exact ⟨some ⟨w.heap.size, 0, none⟩, 1, 1, 0, rfl, rfl, by omega, by omega, HO0, HB0⟩
  case round =>
    obtain ⟨a1, c1, n, k, rfl, rfl, hk, hn, HO, HB⟩ := hrel
    clear HB0 HO0
    rename World => wa
    by_cases hlt : k < len
    · have hwa := H.out.below HB.out
      obtain ⟨b, off, rfl, _, hc⟩ := hwa.at_ (by omega)
      have hcs := hc k hlt
      have HS := Lib.hid (escL_snoc l k (by rw [HL.out]; exact hlt))
      have hrng := bt_rng HR.out k
      have hr0 := hrng.1
      have hr1 := hrng.2
      clear hwa hrng hc
      by_cases h1 : bt l k = 39
      · have HE : Hid (esc (bt l k) = [bt l k, bt l k]) := Lib.hid (by unfold esc; rw [if_pos (Or.inl h1)])
        have e1 : (bt l k == 39) = true := by simpa using h1
        clear h1
        go_wp2_with (at_builtin; refine Hid.out ?_)
        refine Lib.hid ?_
        refine wpList_app rfl (.tmp 25) (.tmp 28) 22 rfl 5 w.heap.size Tryd.underlying22 info5 _ _ _ _ rfl (HO.out.alloc _) _ _ _ [bt l k, bt l k] rfl (Bs.lit _ 5 (by simp) (by simp; omega) rfl rfl (by decide)) (by omega) (by have := HB.out.size; simp; omega) ?_
        intro a2 c2 w4 ho4 hb4
        have HO4 : Hid (OwnB w.heap.size 5 w4 a2 (n + 2) c2 (39 :: escL (l.take (k + 1)))) := Lib.hid (by rw [HS.out, HE.out]; exact ho4)
        have HB4 := Lib.hid ((HB.out.alloc HB.out.size _).trans hb4)
        clear ho4 hb4
        go_wp2
        go_roundw
        case rel => exact ⟨_, _, n + 2, k + 1, rfl, by go_num, by omega, by omega, HO4, HB4⟩
        case measure => simp [intOf]; omega
      · have e1 : (bt l k == 39) = false := by simpa using h1
        by_cases h2 : bt l k = 92
        · have HE : Hid (esc (bt l k) = [bt l k, bt l k]) := Lib.hid (by unfold esc; rw [if_pos (Or.inr h2)])
          have e2 : (bt l k == 92) = true := by simpa using h2
          clear h1 h2
          go_wp2_with (at_builtin; refine Hid.out ?_)
          refine Lib.hid ?_
          refine wpList_app rfl (.tmp 25) (.tmp 28) 22 rfl 5 w.heap.size Tryd.underlying22 info5 _ _ _ _ rfl (HO.out.alloc _) _ _ _ [bt l k, bt l k] rfl (Bs.lit _ 5 (by simp) (by simp; omega) rfl rfl (by decide)) (by omega) (by have := HB.out.size; simp; omega) ?_
          intro a2 c2 w4 ho4 hb4
          have HO4 : Hid (OwnB w.heap.size 5 w4 a2 (n + 2) c2 (39 :: escL (l.take (k + 1)))) := Lib.hid (by rw [HS.out, HE.out]; exact ho4)
          have HB4 := Lib.hid ((HB.out.alloc HB.out.size _).trans hb4)
          clear ho4 hb4
          go_wp2
          go_roundw
          case rel => exact ⟨_, _, n + 2, k + 1, rfl, by go_num, by omega, by omega, HO4, HB4⟩
          case measure => simp [intOf]; omega
        · have e2 : (bt l k == 92) = false := by simpa using h2
          by_cases h3 : bt l k = 10
          · have HE : Hid (esc (bt l k) = [92, 110]) := Lib.hid (by unfold esc; rw [if_neg (by omega), if_pos h3])
            have e3 : (bt l k == 10) = true := by simpa using h3
            clear h1 h2 h3
            go_wp2_with (at_builtin; refine Hid.out ?_)
            refine Lib.hid ?_
            refine wpList_app rfl (.tmp 32) (.tmp 33) 22 rfl 5 w.heap.size Tryd.underlying22 info5 _ _ _ _ rfl (HO.out.alloc _) _ _ _ [92, 110] rfl (Bs.lit _ 5 (by simp) (by simp) rfl rfl (by decide)) (by omega) (by have := HB.out.size; simp; omega) ?_
            intro a2 c2 w4 ho4 hb4
            have HO4 : Hid (OwnB w.heap.size 5 w4 a2 (n + 2) c2 (39 :: escL (l.take (k + 1)))) := Lib.hid (by rw [HS.out, HE.out]; exact ho4)
            have HB4 := Lib.hid ((HB.out.alloc HB.out.size _).trans hb4)
            clear ho4 hb4
            go_wp2
            go_roundw
            case rel => exact ⟨_, _, n + 2, k + 1, rfl, by go_num, by omega, by omega, HO4, HB4⟩
            case measure => simp [intOf]; omega
          · have e3 : (bt l k == 10) = false := by simpa using h3
            have HE : Hid (esc (bt l k) = [bt l k]) := Lib.hid (by unfold esc; rw [if_neg (by omega), if_neg h3])
            clear h1 h2 h3
            go_wp2_with (at_builtin; refine Hid.out ?_)
            refine Lib.hid ?_
            refine wpList_app rfl (.tmp 18) (.tmp 20) 22 rfl 5 w.heap.size Tryd.underlying22 info5 _ _ _ _ rfl (HO.out.alloc _) _ _ _ [bt l k] rfl (Bs.lit _ 5 (by simp) (by simp; omega) rfl rfl (by decide)) (by omega) (by have := HB.out.size; simp; omega) ?_
            intro a2 c2 w4 ho4 hb4
            have HO4 : Hid (OwnB w.heap.size 5 w4 a2 (n + 1) c2 (39 :: escL (l.take (k + 1)))) := Lib.hid (by rw [HS.out, HE.out]; exact ho4)
            have HB4 := Lib.hid ((HB.out.alloc HB.out.size _).trans hb4)
            clear ho4 hb4
            go_wp2
            go_roundw
            case rel => exact ⟨_, _, n + 1, k + 1, rfl, by go_num, by omega, by omega, HO4, HB4⟩
            case measure => simp [intOf]; omega
    · have hkl : k = len := by omega
      have HF : Hid (l.take k = l) := Lib.hid (by rw [List.take_of_length_le (by rw [HL.out]; omega)])
      rw [HF.out] at HO
      have HLE : Hid ((putL l).length = n + 1) := Lib.hid (by have := HO.out.bs.hl; unfold putL; simp at this ⊢; omega)
      clear hlt
      go_wp2_with (at_builtin; refine Hid.out ?_)
      refine Lib.hid ?_
      refine wpList_app rfl (.tmp 36) (.tmp 37) 22 rfl 5 w.heap.size Tryd.underlying22 info5 _ _ _ (39 :: escL l) rfl (HO.out.alloc _) _ _ _ [39] rfl (Bs.lit _ 5 (by simp) (by simp) rfl rfl (by decide)) (by omega) (by have := HB.out.size; simp; omega) ?_
      intro a2 c2 w4 ho4 hb4
      have HO4 : Hid (OwnB w.heap.size 5 w4 a2 (n + 1) c2 (putL l)) := Lib.hid ho4
      have HB4 := Lib.hid ((HB.out.alloc HB.out.size _).trans hb4)
      clear ho4 hb4
      go_wp2_with fail
      refine (qtake_any _ _ _ _ _ HO4.out.bs (HT.out.keep HB4.out) (by omega)).mono ?_
      rintro e w5 ⟨a3, c3, rfl, _, hb5⟩
      have HO5 := Lib.hid (HO4.out.keep hb5 (Nat.le_refl _))
      have HB5 : Hid (Below w.heap.size w w5) := Lib.hid (HB4.out.trans (hb5.mono HB4.out.size))
      clear hb5
      by_cases hok : (tk (putL l)).e = 0
      · have HV : Hid (ptT l = putL l ∧ ptE l = 0) := Lib.hid (by unfold ptT ptE ptOk; rw [hok]; exact ⟨rfl, rfl⟩)
        go_wp2
        go_ret2
        exact ⟨a2, c2, by rw [HV.out.1, HV.out.2, HLE.out]; rfl, by rw [HV.out.1, HLE.out]; exact HO5.out, HB5.out⟩
      · have HV : Hid (ptT l = [] ∧ ptE l = 1) := Lib.hid (by unfold ptT ptE ptOk; simp [hok])
        have heq : ((tk (putL l)).e == 0) = false := by simpa using hok
        clear hok
        go_wp2
        go_ret2
        exact ⟨none, 0, by rw [HV.out.1, HV.out.2]; rfl, by rw [HV.out.1]; exact OwnB.none0, HB5.out⟩

end Go.Proofs.YtecabgmkoknbgaaDoor
