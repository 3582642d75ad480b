/- DigitsBack's walk. -/
import Derived.Test.YtmklkpckheafiaaDoorWa
import Derived.Test.YtmklkpckheafiaaDoorWc
import Derived.Test.YtmklkpckheafiaaDoorBy
namespace Go.Proofs.YtmklkpckheafiaaDoor
open Go.RowKit

theorem digL_first : ∀ X : Nat, 1 ≤ X → bt (digL X) 0 ≠ 48 := by
  intro X
  induction X using Nat.strongRecOn with
  | ind X ih =>
    intro h
    by_cases h1 : X < 10
    · rw [digL_small h1]; show (48 + (X : Int)) ≠ 48; omega
    · rw [digL_big h1, bt_append_left _ _ _ (digL_pos _)]
      exact ih (X / 10) (by omega) (by omega)

/-- The bytes while the noughts are written. -/
def backL (X m k : Nat) : List Int := List.replicate k 48 ++ List.replicate (m - k) 0 ++ digL X

theorem repl_shift (k : Nat) (x : Int) (l : List Int) : List.replicate k x ++ x :: l = x :: (List.replicate k x ++ l) := by
  induction k with
  | zero => rfl
  | succ k ih => rw [List.replicate_succ, List.cons_append, ih]; rfl

theorem backL_set (X m k : Nat) (h : k < m) : (backL X m k).set k 48 = backL X m (k + 1) := by
  unfold backL
  obtain ⟨r, hr⟩ : ∃ r, m - k = r + 1 := ⟨m - k - 1, by omega⟩
  rw [hr, show m - (k + 1) = r by omega, List.append_assoc, List.set_append_right _ _ (by simp)]
  simp [List.replicate_succ]
  exact repl_shift k 48 _

theorem numL_noughts (m : Nat) (l : List Int) : numL (List.replicate m 48 ++ l) = numL l := by
  induction m with
  | zero => rfl
  | succ m ih =>
    rw [List.replicate_succ]
    exact ih

theorem digs_noughts (m X : Nat) : digs (List.replicate m 48 ++ digL X) := fun x hx => by
  rcases List.mem_append.1 hx with h | h
  · rw [List.eq_of_mem_replicate h]; omega
  · exact digL_digs X x h

theorem runL_stop : ∀ (l : List Int) (B : Int), digs l → cls B ≠ 4 → runL 4 (l ++ [B]) = l.length
  | [], B, _, h => by simp [runL, h]
  | c :: r, B, hl, h => by
    have hc := hl c (by simp)
    have h4 : cls c = 4 := (dig_cls (by omega) (by omega)).2 hc
    have := runL_stop r B (fun x hx => hl x (by simp [hx])) h
    simp [runL, h4, this]; omega

theorem back_val (X m : Nat) (B : Int) (h : X ≤ 2147483647) (hB : 0 ≤ B ∧ B ≤ 255 ∧ ¬ (48 ≤ B ∧ B ≤ 57)) :
    dkV (List.replicate m 48 ++ digL X ++ [B]) = .tuple #[.int .i64 X, .int .i64 ((m : Int) + (digL X).length), .int .i64 0] := by
  have hr : runL 4 (List.replicate m 48 ++ digL X ++ [B]) = m + (digL X).length := by
    rw [runL_stop _ _ (digs_noughts m X) (fun h => hB.2.2 ((dig_cls hB.1 hB.2.1).1 h))]; simp
  have ht : (List.replicate m 48 ++ digL X ++ [B]).take (m + (digL X).length) = List.replicate m 48 ++ digL X := by
    rw [List.take_append_of_le_length (by simp)]
    exact List.take_of_length_le (by simp)
  have hn : numL (List.replicate m 48 ++ digL X) = X := by rw [numL_noughts, numL_digL]
  have hbig : dkBig (List.replicate m 48 ++ digL X ++ [B]) = false := by unfold dkBig; rw [hr, ht, hn]; simp; omega
  have hp := digL_pos X
  refine dkV_of ?_ (k := m + (digL X).length) hr ?_
  · unfold dkN; rw [hbig, hr, ht, hn]; rfl
  · unfold dkE; rw [hbig, hr, if_neg (by omega)]; rfl

set_option maxHeartbeats 1000000 in
theorem digitsBack_any (n : Int) (m0 : Int) (B : Int) (w : World) (ht : Tab w) (hp : Pow w) (X m : Nat) (hX : bits .and .i64 n 2147483647 = X) (hX' : X ≤ 2147483647) (hm : m0 % 16 = m) (hm' : m < 16)
    (n0 : 0 ≤ n) (n1 : n ≤ 4294967295) (m0' : 0 ≤ m0) (m1 : m0 ≤ 255) (B0 : 0 ≤ B) (B1 : B ≤ 255) :
    Calls Tryd.prog 4 #[.int .u32 n, .int .u8 m0, .int .u8 B] w fun e w' => e = .returned (.bool true) ∧ Below w.heap.size w w' := by
  have HT := Lib.hid ht
  have HP := Lib.hid hp
  clear ht hp
  have l1 := digL_le X hX'
  have l2 := digL_pos X
  by_cases hb : 48 ≤ B ∧ B ≤ 57
  · obtain ⟨hb1, hb2⟩ := hb
    have HVV := Lib.hid (back_val X m 120 hX' (by omega))
    go_enter Tryd.func4, Tryd.ntmps4
    go_wp2_with fail
    refine (shown_any _ HT.out).mono ?_
    rintro e w1 ⟨rfl, hb1⟩
    have HW1 := Lib.hid hb1
    clear hb1
    go_wp2_with fail
    refine (put_any X _ hX' (HP.out.keep HW1.out)).mono ?_
    rintro e w3 ⟨a1, c1, rfl, ho1, hb3⟩
    obtain ⟨g1, rfl, hg1, hg1'⟩ := ho1.form (fun h => by subst h; rcases ho1.1.2 with ⟨_, h0⟩ | ⟨g, cp, cur, hv, _⟩; omega; simp at hv)
    have HO1 := Lib.hid ho1
    have HW3 : Hid (Below w.heap.size w w3) := Lib.hid (HW1.out.trans (hb3.mono HW1.out.size))
    clear ho1 hb3 HW1
    have hmk := run_make_row' (P := Tryd.prog) 22 5 (.int .u8 0) 1 Tryd.underlying22 info5 rfl .i64 .i64 m (by omega) (by omega)
    go_wp2_with (at_builtin; refine Hid.out ?_)
    refine Lib.hid ?_
    refine wpList_appx rfl (.tmp 34) (.tmp 35) 22 rfl 5 w3.heap.size Tryd.underlying22 info5 _ _ _ (List.replicate m 0) rfl (OwnB.zeros _ _ _ (Nat.le_refl _) (by omega)) (by simp) _ _ _ (digL X) rfl (HO1.out.bs.alloc _) (by omega) (by simp) ?_
    intro g2 c2 w4 ho4 hg4 hb4
    have HO4 := Lib.hid ho4
    have HB4 := Lib.hid (((Below.refl w3.heap.size w3).alloc (Nat.le_refl _) _).trans hb4)
    clear ho4 hb4 hg4 hmk
    go_wp2
    go_loopw [12] (fun i wr => ∃ k : Nat, k ≤ m ∧ i = .int .i64 k ∧ Hid (OwnB w3.heap.size 5 wr (some ⟨g2, 0, none⟩) (m + (digL X).length) c2 (backL X m k)) ∧ Hid (Below w3.heap.size w3 wr)) (fun i _ => m - (intOf i).toNat)
    case atStart => exact ⟨0, by omega, rfl, Lib.hid (by have := HO4.out; unfold backL; simpa using this), HB4⟩
    case round =>
      obtain ⟨k, hk, rfl, HO, HB⟩ := hrel
      clear HO4 HB4
      by_cases hlt : k < m
      · obtain ⟨g, hg, hbg, _⟩ := HO.out.form (by simp)
        obtain rfl : g2 = g := by simpa using hg
        have hck := HO.out.cell k (by omega)
        have hfz : wr.frozen? ⟨g2, k, none⟩ = false := HO.out.frozen k
        have HS := Lib.hid (backL_set X m k hlt)
        clear hg
        go_wp2
        go_roundw
        case rel => exact ⟨k + 1, by omega, by go_num, Lib.hid (by rw [← HS.out]; exact HO.out.set k _ (by omega)), Lib.hid (HB.out.setCell hbg _)⟩
        case measure => simp [intOf]; omega
      · have hkm : k = m := by omega
        subst hkm
        have HL : Hid (backL X k k = List.replicate k 48 ++ digL X) := Lib.hid (by unfold backL; simp)
        go_wp2_with (at_builtin; refine Hid.out ?_)
        refine Lib.hid ?_
        refine wpList_appx rfl (.tmp 48) (.tmp 50) 22 rfl 5 w3.heap.size Tryd.underlying22 info5 _ _ _ (backL X k k) rfl (HO.out.alloc _) (by simp) _ _ _ [120] rfl (Bs.lit _ 5 (by simp) (by simp; try omega) rfl rfl (by simp [maxLen])) (by omega) (by have := HB.out.size; simp; omega) ?_
        intro g3 c3 w5 ho5 hg5 hb5
        rw [HL.out] at ho5
        have HO5 := Lib.hid ho5
        have HB5 := Lib.hid ((HB.out.alloc HB.out.size _).trans hb5)
        clear ho5 hb5 hg5
        go_wp2_with fail
        refine (dtake_any _ _ _ _ _ HO5.out.bs ((HT.out.keep HW3.out).keep HB5.out)).mono ?_
        rintro e w6 ⟨rfl, hb6⟩
        rw [HVV.out]
        have HB6 : Hid (Below w3.heap.size w3 w6) := Lib.hid (HB5.out.trans (hb6.mono HB5.out.size))
        have HE : Hid (Below w.heap.size w w6) := Lib.hid (HW3.out.trans (HB6.out.mono HW3.out.size))
        have hck1 : w6.cell? ⟨g1, 0, none⟩ = some (.int .u8 (bt (digL X) 0)) := by rw [HB6.out.cell hg1']; exact HO1.out.cell 0 (digL_pos X)
        clear hb6 HB5 HB6 HO5
        by_cases h1 : (digL X).length = 1
        · go_wp2
          go_ret
          exact ⟨rfl, HE.out⟩
        · have hf := digL_first X (by apply Decidable.byContradiction; intro hx; exact h1 (by rw [digL_small (by omega)]; rfl))
          go_wp2
          go_ret
          exact ⟨ret_bool (by simp [hf]), HE.out⟩
  · have hbb : B < 48 ∨ 57 < B := by omega
    have HBB := Lib.hid hbb
    clear hb
    rcases HBB.out with hb1 | hb1
    all_goals
      clear hbb
      have HVV := Lib.hid (back_val X m B hX' (by omega))
      go_enter Tryd.func4, Tryd.ntmps4
      go_wp2_with fail
      refine (shown_any _ HT.out).mono ?_
      rintro e w1 ⟨rfl, hb1⟩
      have HW1 := Lib.hid hb1
      clear hb1
      go_wp2_with fail
      refine (put_any X _ hX' (HP.out.keep HW1.out)).mono ?_
      rintro e w3 ⟨a1, c1, rfl, ho1, hb3⟩
      obtain ⟨g1, rfl, hg1, hg1'⟩ := ho1.form (fun h => by subst h; rcases ho1.1.2 with ⟨_, h0⟩ | ⟨g, cp, cur, hv, _⟩; omega; simp at hv)
      have HO1 := Lib.hid ho1
      have HW3 : Hid (Below w.heap.size w w3) := Lib.hid (HW1.out.trans (hb3.mono HW1.out.size))
      clear ho1 hb3 HW1
      have hmk := run_make_row' (P := Tryd.prog) 22 5 (.int .u8 0) 1 Tryd.underlying22 info5 rfl .i64 .i64 m (by omega) (by omega)
      go_wp2_with (at_builtin; refine Hid.out ?_)
      refine Lib.hid ?_
      refine wpList_appx rfl (.tmp 34) (.tmp 35) 22 rfl 5 w3.heap.size Tryd.underlying22 info5 _ _ _ (List.replicate m 0) rfl (OwnB.zeros _ _ _ (Nat.le_refl _) (by omega)) (by simp) _ _ _ (digL X) rfl (HO1.out.bs.alloc _) (by omega) (by simp) ?_
      intro g2 c2 w4 ho4 hg4 hb4
      have HO4 := Lib.hid ho4
      have HB4 := Lib.hid (((Below.refl w3.heap.size w3).alloc (Nat.le_refl _) _).trans hb4)
      clear ho4 hb4 hg4 hmk
      go_wp2
      go_loopw [12] (fun i wr => ∃ k : Nat, k ≤ m ∧ i = .int .i64 k ∧ Hid (OwnB w3.heap.size 5 wr (some ⟨g2, 0, none⟩) (m + (digL X).length) c2 (backL X m k)) ∧ Hid (Below w3.heap.size w3 wr)) (fun i _ => m - (intOf i).toNat)
      case atStart => exact ⟨0, by omega, rfl, Lib.hid (by have := HO4.out; unfold backL; simpa using this), HB4⟩
      case round =>
        obtain ⟨k, hk, rfl, HO, HB⟩ := hrel
        clear HO4 HB4
        by_cases hlt : k < m
        · obtain ⟨g, hg, hbg, _⟩ := HO.out.form (by simp)
          obtain rfl : g2 = g := by simpa using hg
          have hck := HO.out.cell k (by omega)
          have hfz : wr.frozen? ⟨g2, k, none⟩ = false := HO.out.frozen k
          have HS := Lib.hid (backL_set X m k hlt)
          clear hg
          go_wp2
          go_roundw
          case rel => exact ⟨k + 1, by omega, by go_num, Lib.hid (by rw [← HS.out]; exact HO.out.set k _ (by omega)), Lib.hid (HB.out.setCell hbg _)⟩
          case measure => simp [intOf]; omega
        · have hkm : k = m := by omega
          subst hkm
          have HL : Hid (backL X k k = List.replicate k 48 ++ digL X) := Lib.hid (by unfold backL; simp)
          go_wp2_with (at_builtin; refine Hid.out ?_)
          refine Lib.hid ?_
          refine wpList_appx rfl (.tmp 48) (.tmp 50) 22 rfl 5 w3.heap.size Tryd.underlying22 info5 _ _ _ (backL X k k) rfl (HO.out.alloc _) (by simp) _ _ _ [B] rfl (Bs.lit _ 5 (by simp) (by simp; try omega) rfl rfl (by simp [maxLen])) (by omega) (by have := HB.out.size; simp; omega) ?_
          intro g3 c3 w5 ho5 hg5 hb5
          rw [HL.out] at ho5
          have HO5 := Lib.hid ho5
          have HB5 := Lib.hid ((HB.out.alloc HB.out.size _).trans hb5)
          clear ho5 hb5 hg5
          go_wp2_with fail
          refine (dtake_any _ _ _ _ _ HO5.out.bs ((HT.out.keep HW3.out).keep HB5.out)).mono ?_
          rintro e w6 ⟨rfl, hb6⟩
          rw [HVV.out]
          have HB6 : Hid (Below w3.heap.size w3 w6) := Lib.hid (HB5.out.trans (hb6.mono HB5.out.size))
          have HE : Hid (Below w.heap.size w w6) := Lib.hid (HW3.out.trans (HB6.out.mono HW3.out.size))
          have hck1 : w6.cell? ⟨g1, 0, none⟩ = some (.int .u8 (bt (digL X) 0)) := by rw [HB6.out.cell hg1']; exact HO1.out.cell 0 (digL_pos X)
          clear hb6 HB5 HB6 HO5
          by_cases h1 : (digL X).length = 1
          · go_wp2
            go_ret
            exact ⟨rfl, HE.out⟩
          · have hf := digL_first X (by apply Decidable.byContradiction; intro hx; exact h1 (by rw [digL_small (by omega)]; rfl))
            go_wp2
            go_ret
            exact ⟨ret_bool (by simp [hf]), HE.out⟩

end Go.Proofs.YtmklkpckheafiaaDoor
