/- QuotePlain's walk. -/
import Derived.Test.YtfbhokigeneinaaDoorQw
import Derived.Test.YtfbhokigeneinaaDoorQn
namespace Go.Proofs.YtfbhokigeneinaaDoor
open Go.RowKit

def plain (l : List Int) : Prop := ∀ x ∈ l, 42 ≤ x ∧ x ≤ 91
def special (l : List Int) : Prop := ∀ x ∈ l, x = 39 ∨ x = 92 ∨ x = 10

theorem plain_esc : ∀ {l : List Int}, plain l → escL l = l
  | [], _ => rfl
  | c :: r, h => by
    have := h c (by simp)
    rw [escL_cons, esc_else (by omega) (by omega) (by omega), plain_esc (l := r) fun x hx => h x (by simp [hx])]; rfl
theorem special_esc : ∀ {l : List Int}, special l → (escL l).length = 2 * l.length
  | [], _ => rfl
  | c :: r, h => by
    have hr := special_esc (l := r) fun x hx => h x (by simp [hx])
    rw [escL_cons, List.length_append, hr, List.length_cons]
    rcases h c (by simp) with rfl | rfl | rfl
    · show 2 + _ = _; omega
    · show 2 + _ = _; omega
    · show 2 + _ = _; omega
theorem plain_ok {l z : List Int} (h : plain l) (hz : special z) : okT (l ++ z) := by
  refine ⟨valid_ascii fun x hx => ?_, fun x hx => ?_⟩
  · rcases List.mem_append.1 hx with hx | hx
    · have := h x hx; omega
    · rcases hz x hx with rfl | rfl | rfl <;> omega
  · unfold good
    rcases List.mem_append.1 hx with hx | hx
    · have := h x hx; omega
    · rcases hz x hx with rfl | rfl | rfl <;> omega

def nAt (n0 n1 n2 : Int) (i : Nat) : Int := if i = 0 then n0 else if i = 1 then n1 else n2
def spAt (i : Nat) : Int := if i = 0 then 39 else if i = 1 then 92 else 10

theorem bstr_size (l : List Int) : (bstr l).size = l.length := by simp [bstr, ByteArray.size]
theorem bstr_cat (l : List Int) : bstr (39 :: (l ++ [39])) = ({ data := #[39] } : ByteArray) ++ bstr l ++ { data := #[39] } := by
  apply ByteArray.ext
  simp [bstr]

theorem spAt_special (j : Nat) : spAt j = 39 ∨ spAt j = 92 ∨ spAt j = 10 := by
  unfold spAt; (repeat' split) <;> omega
theorem spAt_rng (j : Nat) : 0 ≤ spAt j ∧ spAt j ≤ 255 := by
  rcases spAt_special j with h | h | h <;> omega

set_option maxRecDepth 100000 in
set_option maxHeartbeats 4000000 in
theorem quotePlain_any (a : Option Addr) (len cap : Nat) (l : List Int) (n0 n1 n2 : Int) (w : World) (h : Bs w a len cap l) (ht : Tab w) (h0 : 0 ≤ n0 ∧ n0 ≤ 255) (h1 : 0 ≤ n1 ∧ n1 ≤ 255) (h2 : 0 ≤ n2 ∧ n2 ≤ 255) :
    Calls Tryd.prog 6 #[.slice a len cap, .agg #[.int .u8 n0, .int .u8 n1, .int .u8 n2]] w fun e w' => e = .returned (.bool true) ∧ Below w.heap.size w w' := by
  obtain ⟨M, hM⟩ : ∃ M, min len 100 = M := ⟨_, rfl⟩
  obtain ⟨F, hF⟩ : ∃ F, l.take 100 = F := ⟨_, rfl⟩
  have hM100 : M ≤ 100 := by omega
  have HT := Lib.hid ht
  have H := Lib.hid h
  have HF : Hid (Bs w a M cap F) := Lib.hid (by rw [← hM, ← hF]; exact few_bs h)
  have HM := Lib.hid hM
  have HN : Hid (∀ i, 0 ≤ nAt n0 n1 n2 i ∧ nAt n0 n1 n2 i ≤ 255) := Lib.hid (fun i => by unfold nAt; (repeat' split) <;> assumption)
  have HBX : Hid (Below w.heap.size w (w.alloc (.cells #[.int .u8 n0, .int .u8 n1, .int .u8 n2] 33))) := Lib.hid ((Below.refl _ _).alloc (Nat.le_refl _) _)
  have HX : Hid (∀ i, i < 3 → (w.alloc (.cells #[.int .u8 n0, .int .u8 n1, .int .u8 n2] 33)).cell? ⟨w.heap.size, i, none⟩ = some (.int .u8 (nAt n0 n1 n2 i))) := Lib.hid (fun i hi => by
    rw [cell_of_row (w.alloc _) w.heap.size i _ _ _ (heap_alloc_new w _)]
    obtain rfl | rfl | rfl : i = 0 ∨ i = 1 ∨ i = 2 := by omega
    all_goals rfl)
  have HS1 : Hid ((w.alloc (.cells #[.int .u8 n0, .int .u8 n1, .int .u8 n2] 33)).heap.size = w.heap.size + 1) := Lib.hid (by simp)
  clear ht h hM hF h0 h1 h2
  go_enter Tryd.func6, Tryd.ntmps6
  go_wp2_with fail
  refine (shown_any _ (HT.out.keep HBX.out)).mono ?_
  rintro e w1 ⟨rfl, hb1⟩
  have HW1 : Hid (Below w.heap.size w w1) := Lib.hid (HBX.out.trans (hb1.mono HBX.out.size))
  have hX1 : w.heap.size < w1.heap.size := by have := hb1.size; rw [HS1.out] at this; omega
  have HX1 : Hid (∀ i, i < 3 → w1.cell? ⟨w.heap.size, i, none⟩ = some (.int .u8 (nAt n0 n1 n2 i))) := Lib.hid (fun i hi => by rw [hb1.cell (by rw [HS1.out]; simp)]; exact HX.out i hi)
  clear hb1 HX HS1 HBX
  go_wp2_with fail
  refine (few_any _ _ _ _ _ ((H.out.below HW1.out).alloc _)).mono ?_
  rintro e w' ⟨rfl, rfl⟩
  rw [HM.out]
  go_wp2_with (at_builtin; refine Hid.out ?_)
  refine Lib.hid ?_
  refine wpList_appx rfl (.tmp 21) (.tmp 23) 22 rfl 5 w1.heap.size Tryd.underlying22 info5 _ _ _ [] rfl (OwnB.made (Nat.le_refl _)) (by simp) _ _ _ F rfl ((HF.out.below HW1.out).alloc _) (by omega) (by simp) ?_
  intro g1 c1 w2 ho2 hg2 hb2
  simp only [Nat.zero_add, List.nil_append] at ho2 ⊢
  have HO2 := Lib.hid ho2
  have HB2 : Hid (Below w1.heap.size w1 w2) := Lib.hid (((Below.refl _ _).alloc (Nat.le_refl _) _).trans hb2)
  clear ho2 hb2 hg2
  go_wp2
  go_loopw [7] (fun i wr => ∃ k : Nat, ∃ l' : List Int, k ≤ M ∧ i = .int .i64 k ∧ Hid (OwnB w1.heap.size 5 wr (some ⟨g1, 0, none⟩) M c1 l') ∧ Hid (Below w1.heap.size w1 wr) ∧ Hid (∀ j, j < k → 42 ≤ bt l' j ∧ bt l' j ≤ 91)) (fun i _ => M - (intOf i).toNat)
  case atStart => exact ⟨0, F, by omega, rfl, HO2, HB2, Lib.hid (fun j hj => by omega)⟩
  case round =>
    obtain ⟨k, l', hk, rfl, HO, HB, HL⟩ := hrel
    clear HO2 HB2
    rename World => wa
    by_cases hlt : k < M
    · have hbs := HO.out.bs
      have hrng := bt_rng hbs.rng k
      have hr0 := hrng.1
      have hr1 := hrng.2
      obtain ⟨g, hg, hbg, _⟩ := HO.out.form (by simp)
      obtain rfl : g1 = g := by simpa using hg
      have hck := HO.out.cell k hlt
      have hfz : wa.frozen? ⟨g1, k, none⟩ = false := HO.out.frozen k
      have HLL := Lib.hid hbs.hl
      clear hbs hg hrng
      go_wp2
      go_roundw
      case rel => exact ⟨k + 1, l'.set k (42 + bt l' k % 50), by omega, by go_num, Lib.hid (HO.out.set k _ (by omega)), Lib.hid (HB.out.setCell hbg _), Lib.hid (fun j hj => by
        rw [bt_set _ _ _ _ (by rw [HLL.out]; omega)]
        split
        · omega
        · exact HL.out j (by omega))⟩
      case measure => simp [intOf]; omega
    · have HLL := Lib.hid HO.out.bs.hl
      have HPL : Hid (plain l') := Lib.hid (fun x hx => by
        obtain ⟨j, hj, rfl⟩ := mem_bt hx
        have := HLL.out
        exact HL.out j (by omega))
      clear HL
      have HWa : Hid (Below w.heap.size w wa) := Lib.hid (HW1.out.trans (HB.out.mono HW1.out.size))
      have HBS := Lib.hid HO.out.bs
      have HOK : Hid (okT l') := Lib.hid (by have := plain_ok (z := []) HPL.out (by intro x hx; simp at hx); rwa [List.append_nil] at this)
      have HTP := Lib.hid (ptOk_yes HOK.out)
      have HPE : Hid (putL l' = 39 :: (l' ++ [39])) := Lib.hid (by unfold putL; rw [plain_esc HPL.out])
      have HPN : Hid ((putL l').length = M + 2) := Lib.hid (by rw [HPE.out]; simp [HLL.out])
      go_wp2_with fail
      refine (qput_any _ _ _ _ _ HBS.out (HT.out.keep HWa.out) (by omega)).mono ?_
      rintro e w3 ⟨a3, c3, rfl, ho3, hb3⟩
      rw [HTP.out.1, HPN.out] at ho3
      rw [HTP.out.1, HTP.out.2, HPN.out]
      have HP3 := Lib.hid ho3.bs
      have HW3 : Hid (Below w.heap.size w w3) := Lib.hid (HWa.out.trans (hb3.mono HWa.out.size))
      have HL3 := Lib.hid (HBS.out.below hb3)
      have hX3 : w.heap.size < w3.heap.size := by have := hb3.size; have := HB.out.size; omega
      have HX3 : Hid (∀ i, i < 3 → w3.cell? ⟨w.heap.size, i, none⟩ = some (.int .u8 (nAt n0 n1 n2 i))) := Lib.hid (fun i hi => by
        rw [hb3.cell (by have := HB.out.size; show w.heap.size < wa.heap.size; omega), HB.out.cell hX1]; exact HX1.out i hi)
      clear hb3 ho3 HTP
      -- the special ones
      have HB4 : Hid (Below w3.heap.size w3 (w3.alloc (.cells #[.int .u8 39, .int .u8 92, .int .u8 10] 33))) := Lib.hid ((Below.refl _ _).alloc (Nat.le_refl _) _)
      have HS4 : Hid (∀ i, i < 3 → (w3.alloc (.cells #[.int .u8 39, .int .u8 92, .int .u8 10] 33)).cell? ⟨w3.heap.size, i, none⟩ = some (.int .u8 (spAt i))) := Lib.hid (fun i hi => by
        rw [cell_of_row (w3.alloc _) w3.heap.size i _ _ _ (heap_alloc_new w3 _)]
        obtain rfl | rfl | rfl : i = 0 ∨ i = 1 ∨ i = 2 := by omega
        all_goals rfl)
      have HZ4 : Hid ((w3.alloc (.cells #[.int .u8 39, .int .u8 92, .int .u8 10] 33)).heap.size = w3.heap.size + 1) := Lib.hid (by simp)
      go_wp2_with (at_builtin; refine Hid.out ?_)
      refine Lib.hid ?_
      have hS4 : w3.heap.size < (w3.alloc (.cells #[.int .u8 39, .int .u8 92, .int .u8 10] 33)).heap.size := by rw [HZ4.out]; omega
      have HX4 : Hid (∀ i, i < 3 → (w3.alloc (.cells #[.int .u8 39, .int .u8 92, .int .u8 10] 33)).cell? ⟨w.heap.size, i, none⟩ = some (.int .u8 (nAt n0 n1 n2 i))) := Lib.hid (fun i hi => by rw [HB4.out.cell hX3]; exact HX3.out i hi)
      have hX4 : w.heap.size < (w3.alloc (.cells #[.int .u8 39, .int .u8 92, .int .u8 10] 33)).heap.size := by rw [HZ4.out]; omega
      have HL4 := Lib.hid (HL3.out.below HB4.out)
      have HP4 := Lib.hid (HP3.out.below HB4.out)
      have HW4 : Hid (Below w.heap.size w (w3.alloc (.cells #[.int .u8 39, .int .u8 92, .int .u8 10] 33))) := Lib.hid (HW3.out.trans (HB4.out.mono (by omega)))
      refine wpList_app rfl (.tmp 46) (.tmp 47) 22 rfl 5 (w3.alloc (.cells #[.int .u8 39, .int .u8 92, .int .u8 10] 33)).heap.size Tryd.underlying22 info5 _ _ _ [] rfl (by have := OwnB.made (e := 5) (w := w3.alloc (.cells #[.int .u8 39, .int .u8 92, .int .u8 10] 33)) (Nat.le_refl _); rw [HZ4.out] at this ⊢; exact this) _ _ _ l' rfl (HL4.out.alloc _) (by omega) (by simp) ?_
      intro a5 c5 w5 ho5 hb5
      simp only [Nat.zero_add, List.nil_append] at ho5 ⊢
      have HO5 := Lib.hid ho5
      have HB5 : Hid (Below (w3.alloc (.cells #[.int .u8 39, .int .u8 92, .int .u8 10] 33)).heap.size (w3.alloc (.cells #[.int .u8 39, .int .u8 92, .int .u8 10] 33)) w5) := Lib.hid (((Below.refl _ _).alloc (Nat.le_refl _) _).trans hb5)
      clear ho5 hb5 HB4 HZ4 HX3 HL3 HP3
      generalize (w3.alloc (.cells #[.int .u8 39, .int .u8 92, .int .u8 10] 33)) = w4 at *
      generalize hSS : w3.heap.size = S at *
      generalize hXX : w.heap.size = X at *
      clear HB HBS HO HLL hlt
      go_wp2
      go_loopw [10, 12, 13] (fun m v i wr => ∃ a1 c1, ∃ z j : Nat, ∃ Z : List Int, m = .int .i64 z ∧ v = .slice a1 (M + z) c1 ∧ i = .int .i64 j ∧ j ≤ 3 ∧ z ≤ 15 * j ∧ Hid (OwnB w4.heap.size 5 wr a1 (M + z) c1 (l' ++ Z)) ∧ Hid (Below w4.heap.size w4 wr) ∧ Hid (special Z ∧ Z.length = z)) (fun _ _ i _ => 3 - (intOf i).toNat)
      case atStart => exact ⟨a5, c5, 0, 0, [], rfl, rfl, rfl, by omega, by omega, Lib.hid (by have := HO5.out; rwa [List.append_nil]), HB5, Lib.hid ⟨by intro x hx; simp at hx, rfl⟩⟩
      case round =>
        obtain ⟨a6, c6, z, j, Z, rfl, rfl, rfl, hj, hz, HO, HB, HZ⟩ := hrel
        clear HO5 HB5
        rename World => wb
        by_cases hlt : j < 3
        · obtain ⟨N, hN⟩ : ∃ N : Nat, nAt n0 n1 n2 j % 16 = N := ⟨(nAt n0 n1 n2 j % 16).toNat, by have := HN.out j; omega⟩
          have hN16 : N ≤ 15 := by omega
          have HXj := Lib.hid (HX4.out j hlt)
          have HSj := Lib.hid (HS4.out j hlt)
          have hnr := HN.out j
          have hn0 := hnr.1
          have hn1 := hnr.2
          clear hnr
          generalize nAt n0 n1 n2 j = nj at *
          have hdj : decide ((j : Int) < 3) = true := by simp; omega
          go_wp2
          go_loopw [10, 12, 14] (fun m v i wr => ∃ a1 c1, ∃ z' q : Nat, ∃ Z' : List Int, m = .int .i64 z' ∧ v = .slice a1 (M + z') c1 ∧ i = .int .i64 q ∧ q ≤ N ∧ z' ≤ 15 * j + q ∧ Hid (OwnB w4.heap.size 5 wr a1 (M + z') c1 (l' ++ Z')) ∧ Hid (Below w4.heap.size w4 wr) ∧ Hid (special Z' ∧ Z'.length = z')) (fun _ _ i _ => N - (intOf i).toNat)
          case atStart => exact ⟨a6, c6, z, 0, Z, rfl, rfl, rfl, by omega, by omega, HO, HB, HZ⟩
          case round =>
            obtain ⟨a7, c7, z', q, Z', rfl, rfl, rfl, hq, hz', HO', HB', HZ'⟩ := hrel
            clear HO HB HZ
            rename World => wc
            have hcX : wc.cell? ⟨X, j, none⟩ = some (.int .u8 nj) := (HB'.out.cell hX4).trans HXj.out
            have hcS : wc.cell? ⟨S, j, none⟩ = some (.int .u8 (spAt j)) := (HB'.out.cell hS4).trans HSj.out
            by_cases hqN : q < N
            · have hsp := spAt_rng j
              have HSP := Lib.hid (spAt_special j)
              go_wp2_with (at_builtin; refine Hid.out ?_)
              refine Lib.hid ?_
              refine wpList_app rfl (.tmp 62) (.tmp 66) 22 rfl 5 w4.heap.size Tryd.underlying22 info5 _ _ _ _ rfl (HO'.out.alloc _) _ _ _ [spAt j] rfl (Bs.lit _ 5 (by simp) (by simpa using hsp) rfl rfl (by decide)) (by omega) (by have := HB'.out.size; simp; omega) ?_
              intro a8 c8 wd ho8 hb8
              have HO8 : Hid (OwnB w4.heap.size 5 wd a8 (M + (z' + 1)) c8 (l' ++ (Z' ++ [spAt j]))) := Lib.hid (by rw [← List.append_assoc, ← Nat.add_assoc]; exact ho8)
              have HB8 := Lib.hid ((HB'.out.alloc HB'.out.size _).trans hb8)
              have HZ8 : Hid (special (Z' ++ [spAt j]) ∧ (Z' ++ [spAt j]).length = z' + 1) := Lib.hid ⟨fun x hx => by
                rcases List.mem_append.1 hx with hx | hx
                · exact HZ'.out.1 x hx
                · rw [List.mem_singleton.1 hx]; exact HSP.out, by rw [List.length_append, HZ'.out.2]; rfl⟩
              clear ho8 hb8 hsp
              go_wp2
              go_roundw
              case rel => exact ⟨a8, c8, z' + 1, q + 1, _, by go_num, by rw [Nat.add_assoc], by go_num, by omega, by omega, HO8, HB8, HZ8⟩
              case measure => simp [intOf]; omega
            · go_wp2
              go_roundw
              case rel => exact ⟨a7, c7, z', j + 1, Z', rfl, rfl, by go_num, by omega, by omega, HO', HB', HZ'⟩
              case measure => simp [intOf]; omega
        · have HLZ := Lib.hid HO.out.bs.hl
          have HOK2 : Hid (okT (l' ++ Z)) := Lib.hid (plain_ok HPL.out HZ.out.1)
          have HTP := Lib.hid (ptOk_yes HOK2.out)
          have HE2 : Hid ((putL (l' ++ Z)).length = M + 2 * z + 2) := Lib.hid (by
            rw [putL_len, escL_append, List.length_append, plain_esc HPL.out, special_esc HZ.out.1, HZ.out.2]
            have h1 := HLZ.out
            rw [List.length_append, HZ.out.2] at h1
            omega)
          have HTK2 := Lib.hid (tk_put HOK2.out [] (by decide))
          have HW6 : Hid (Below X w wb) := Lib.hid (HW4.out.trans (HB.out.mono (Nat.le_of_lt hX4)))
          have HL6 := Lib.hid (HL4.out.below HB.out)
          have HP6 := Lib.hid (HP4.out.below HB.out)
          have HA6 := Lib.hid HO.out.bs
          have HTb : Hid (Tab wb) := Lib.hid (HT.out.keep (by rw [hXX]; exact HW6.out))
          go_wp2_with fail
          refine (qput_any _ _ _ _ _ HA6.out HTb.out (by omega)).mono ?_
          rintro e w7 ⟨a7, c7, rfl, ho7, hb7⟩
          rw [HTP.out.1, HE2.out] at ho7
          rw [HTP.out.1, HTP.out.2, HE2.out]
          have HQ7 := Lib.hid ho7.bs
          have HW7 : Hid (Below X w w7) := Lib.hid (HW6.out.trans (hb7.mono (by have := HB.out.size; omega)))
          have HT7 := Lib.hid (HTb.out.keep hb7)
          have HL7 := Lib.hid (HL6.out.below hb7)
          have HP7 := Lib.hid (HP6.out.below hb7)
          have HA7 := Lib.hid (HA6.out.below hb7)
          have hs7 : X ≤ w7.heap.size := by have := HB.out.size; have := hb7.size; omega
          clear ho7 hb7 HTP HTb
          go_wp2_with fail
          refine (qtake_any _ _ _ _ _ HQ7.out HT7.out (by omega)).mono ?_
          rintro e w8 ⟨a8, c8, rfl, ho8, hb8⟩
          have HT8 : Hid ((tk (putL (l' ++ Z))).t = l' ++ Z ∧ (tk (putL (l' ++ Z))).t.length = M + z ∧ (tk (putL (l' ++ Z))).n = M + 2 * z + 2 ∧ (tk (putL (l' ++ Z))).e = 0) := Lib.hid (by
            have h1 := HTK2.out
            rw [List.append_nil, ← putL_len, HE2.out] at h1
            rw [h1]; exact ⟨rfl, HLZ.out, rfl, rfl⟩)
          rw [HT8.out.2.1, HT8.out.1] at ho8
          rw [HT8.out.2.1, HT8.out.2.2.1, HT8.out.2.2.2]
          have HW8 : Hid (Below X w w8) := Lib.hid (HW7.out.trans (hb8.mono hs7))
          have k1 := (HP7.out.below hb8).str (P := Tryd.prog) 22 9 5 Tryd.underlying22 Tryd.underlying5 Tryd.underlying9
          have k2 := (HL7.out.below hb8).str (P := Tryd.prog) 22 9 5 Tryd.underlying22 Tryd.underlying5 Tryd.underlying9
          have k3 := ho8.bs.str (P := Tryd.prog) 22 9 5 Tryd.underlying22 Tryd.underlying5 Tryd.underlying9
          have k4 := (HA7.out.below hb8).str (P := Tryd.prog) 22 9 5 Tryd.underlying22 Tryd.underlying5 Tryd.underlying9
          rw [HPE.out] at k1
          have HWf : Hid (Below w.heap.size w w8) := Lib.hid (by rw [hXX]; exact HW8.out)
          clear hb8 ho8 hSS hXX
          have hbz : (bstr l').size ≤ 100 := by rw [bstr_size]; have h1 := HLZ.out; rw [List.length_append, HZ.out.2] at h1; omega
          have hbc : (bstr (39 :: (l' ++ [39]))).toList = (({ data := #[39] } : ByteArray) ++ bstr l' ++ { data := #[39] }).toList := by rw [bstr_cat]
          go_wp2
          go_ret
          exact ⟨ret_bool (by simp; try omega), HWf.out⟩

end Go.Proofs.YtfbhokigeneinaaDoor
