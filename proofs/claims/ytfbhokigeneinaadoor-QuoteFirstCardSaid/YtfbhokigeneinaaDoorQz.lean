/- QuoteCuts' walk. -/
import Derived.Test.YtfbhokigeneinaaDoorQw
import Derived.Test.YtfbhokigeneinaaDoorQn
namespace Go.Proofs.YtfbhokigeneinaaDoor
open Go.RowKit

theorem take_put (t : List Int) (m : Nat) (hm : m ≤ (escL t).length) : (putL t).take (1 + m) = 39 :: (escL t).take m := by
  unfold putL
  rw [Nat.add_comm, List.take_succ_cons, List.take_append_of_le_length hm]

theorem bt_put (t : List Int) (m : Nat) (h : 1 ≤ m) (hm : m ≤ (escL t).length) : bt (putL t) m = bt (escL t) (m - 1) := by
  obtain ⟨k, rfl⟩ : ∃ k, m = k + 1 := ⟨m - 1, by omega⟩
  unfold putL
  rw [bt_consS, Nat.add_sub_cancel]
  unfold bt
  rw [List.getD_eq_getElem?_getD, List.getElem?_append_left (by omega), ← List.getD_eq_getElem?_getD]

theorem cut_all (t : List Int) (h : okT t) (m : Nat) (hm : m ≤ (escL t).length) :
    ((tk ((putL t).take (1 + m))).e = 0 ∧ (tk ((putL t).take (1 + m))).n = 1 + m ∧ (tk ((putL t).take (1 + m))).t.length + 2 ≤ 1 + m ∧ bt (putL t) m = 39) ∨
    ((tk ((putL t).take (1 + m))).e = 12 ∧ (tk ((putL t).take (1 + m))).n = 1 + m ∧ (tk ((putL t).take (1 + m))).t.length = 0) ∨
    ((tk ((putL t).take (1 + m))).e = 13 ∧ (tk ((putL t).take (1 + m))).n = m ∧ 1 ≤ m ∧ bt (putL t) m = 92 ∧ (tk ((putL t).take (1 + m))).t.length = 0) ∨
    ((tk ((putL t).take (1 + m))).e = 10 ∧ 1 ≤ (tk ((putL t).take (1 + m))).n ∧ (tk ((putL t).take (1 + m))).n ≤ m ∧ 128 ≤ bt (putL t) m ∧ (tk ((putL t).take (1 + m))).t.length = 0) := by
  have hc := qs_cut t h m hm
  rw [take_put t m hm]
  unfold tk
  rw [if_pos (bt_cons0 _ _), show (39 :: (escL t).take m).drop 1 = (escL t).take m from rfl]
  show ((qs ((escL t).take m)).e = 0 ∧ 1 + (qs ((escL t).take m)).n = 1 + m ∧ (if (qs ((escL t).take m)).e = 0 then (qs ((escL t).take m)).t else []).length + 2 ≤ 1 + m ∧ bt (putL t) m = 39) ∨
    ((qs ((escL t).take m)).e = 12 ∧ 1 + (qs ((escL t).take m)).n = 1 + m ∧ (if (qs ((escL t).take m)).e = 0 then (qs ((escL t).take m)).t else []).length = 0) ∨
    ((qs ((escL t).take m)).e = 13 ∧ 1 + (qs ((escL t).take m)).n = m ∧ 1 ≤ m ∧ bt (putL t) m = 92 ∧ (if (qs ((escL t).take m)).e = 0 then (qs ((escL t).take m)).t else []).length = 0) ∨
    ((qs ((escL t).take m)).e = 10 ∧ 1 ≤ 1 + (qs ((escL t).take m)).n ∧ 1 + (qs ((escL t).take m)).n ≤ m ∧ 128 ≤ bt (putL t) m ∧ (if (qs ((escL t).take m)).e = 0 then (qs ((escL t).take m)).t else []).length = 0)
  rcases hc with ⟨h1, h2, h3, h4, h5⟩ | ⟨h1, h2⟩ | ⟨h1, h2, h3⟩ | ⟨h1, h2, h3⟩
  · exact Or.inl ⟨h1, by omega, by rw [if_pos h1]; omega, by rw [bt_put t m h3 hm]; exact h4⟩
  · exact Or.inr (Or.inl ⟨h1, by omega, by rw [if_neg (by omega)]; rfl⟩)
  · exact Or.inr (Or.inr (Or.inl ⟨h1, by omega, by omega, by rw [bt_put t m (by omega) hm]; exact h3, by rw [if_neg (by omega)]; rfl⟩))
  · exact Or.inr (Or.inr (Or.inr ⟨h1, by omega, by omega, by rw [bt_put t m (by omega) hm]; exact h3, by rw [if_neg (by omega)]; rfl⟩))

set_option maxRecDepth 100000 in
set_option maxHeartbeats 2000000 in
theorem quoteCuts_any (a : Option Addr) (len cap : Nat) (l : List Int) (d : Int) (w : World) (h : Bs w a len cap l) (ht : Tab w) (hd0 : 0 ≤ d) (hd1 : d ≤ 255) :
    Calls Tryd.prog 5 #[.slice a len cap, .int .u8 d] w fun e w' => e = .returned (.bool true) ∧ Below w.heap.size w w' := by
  obtain ⟨M, hM⟩ : ∃ M, min len 100 = M := ⟨_, rfl⟩
  obtain ⟨F, hF⟩ : ∃ F, l.take 100 = F := ⟨_, rfl⟩
  have hM100 : M ≤ 100 := by omega
  have HT := Lib.hid ht
  have H := Lib.hid h
  have HF : Hid (Bs w a M cap F) := Lib.hid (by rw [← hM, ← hF]; exact few_bs h)
  have HM := Lib.hid hM
  have HLF := Lib.hid HF.out.hl
  clear ht h hM hF
  go_enter Tryd.func5, Tryd.ntmps5
  go_wp2_with fail
  refine (shown_any _ HT.out).mono ?_
  rintro e w1 ⟨rfl, hb1⟩
  have HW1 := Lib.hid hb1
  have HF1 := Lib.hid (HF.out.below hb1)
  clear hb1
  go_wp2_with fail
  refine (few_any _ _ _ _ _ (H.out.below HW1.out)).mono ?_
  rintro e w' ⟨rfl, rfl⟩
  rw [HM.out]
  go_wp2_with fail
  refine (qput_any _ _ _ _ _ HF1.out (HT.out.keep HW1.out) (by omega)).mono ?_
  rintro e w2 ⟨a2, c2, rfl, ho2, hb2⟩
  have HW2 : Hid (Below w.heap.size w w2) := Lib.hid (HW1.out.trans (hb2.mono HW1.out.size))
  by_cases hok : okT F
  · have HTP := Lib.hid (ptOk_yes hok)
    rw [HTP.out.1] at ho2
    rw [HTP.out.1, HTP.out.2]
    obtain ⟨E, hE⟩ : ∃ E, (putL F).length = E := ⟨_, rfl⟩
    have hE2 : (escL F).length + 2 = E ∧ E ≤ 2 * M + 2 := by have h1 := escL_len F; have h2 := putL_len F; have := HLF.out; omega
    obtain ⟨m, hm⟩ : ∃ m : Nat, d % ((E : Int) - 1) = m := ⟨(d % ((E : Int) - 1)).toNat, by have := Int.emod_nonneg d (b := (E : Int) - 1) (by omega); omega⟩
    have hmE : m + 2 ≤ E := by have := Int.emod_lt_of_pos d (b := (E : Int) - 1) (by omega); omega
    have HC := Lib.hid (cut_all F hok m (by omega))
    rw [hE] at ho2 ⊢
    obtain ⟨g, rfl, hg, hg'⟩ := ho2.form (fun h => by subst h; rcases ho2.1.2 with ⟨_, h0⟩ | ⟨g, cp, cur, hv, _⟩; omega; simp at hv)
    have HP := Lib.hid ho2
    have hcap := ho2.bs.lc
    have hcm := ho2.bs.cm
    unfold maxLen at hcm
    have HPK := Lib.hid (ho2.bs.take (k := 1 + m) (c' := c2) (by omega) (by omega) ho2.bs.cm)
    have hE0 : 2 ≤ E := by omega
    have hE1 : E ≤ 1000 := by omega
    clear hE ho2 hb2 hok hE2
    go_wp2_with fail
    refine (qtake_any _ _ _ _ _ HPK.out (HT.out.keep HW2.out) (by omega)).mono ?_
    rintro e w3 ⟨a3, c3, rfl, _, hb3⟩
    have HW3 : Hid (Below w.heap.size w w3) := Lib.hid (HW2.out.trans (hb3.mono HW2.out.size))
    have hck : w3.cell? ⟨g, m, none⟩ = some (.int .u8 (bt (putL F) m)) := by rw [hb3.cell hg']; exact HP.out.cell m (by omega)
    clear hb3
    generalize tk ((putL F).take (1 + m)) = q at *
    obtain ⟨qe, qn, qt⟩ := q
    rcases HC.out with ⟨h1, h2, h3, h4⟩ | ⟨h1, h2, h3⟩ | ⟨h1, h2, h3, h4, h5⟩ | ⟨h1, h2, h3, h4, h5⟩
    · dsimp only at h1 h2 h3 ⊢
      clear HC
      subst h1
      subst h2
      go_wp2
      go_ret
      exact ⟨ret_bool (by simp <;> omega), HW3.out⟩
    · dsimp only at h1 h2 h3 ⊢
      clear HC
      subst h1
      have e1 : 1 ≤ qn := by omega
      have e2 : qn ≤ 1 + m := by omega
      have e3 : ((qn : Int) == 1 + (m : Int)) = true := by simp; omega
      clear h2
      go_wp2
      go_ret
      exact ⟨ret_bool (by simp <;> omega), HW3.out⟩
    · dsimp only at h1 h2 h3 h5 ⊢
      clear HC
      subst h1
      have e1 : 1 ≤ qn := by omega
      have e2 : qn ≤ 1 + m := by omega
      have e3 : ((qn : Int) == 1 + (m : Int)) = false := by simp; omega
      have e4 : ((qn : Int) == (m : Int)) = true := by simp; omega
      have e5 : ((qn : Int) == 1 + (m : Int) - 1) = true := by simp; omega
      clear h2
      go_wp2
      go_ret
      exact ⟨ret_bool (by simp <;> omega), HW3.out⟩
    · dsimp only at h1 h2 h3 h5 ⊢
      clear HC
      subst h1
      go_wp2
      go_ret
      exact ⟨ret_bool (by simp <;> omega), HW3.out⟩
  · have HTP := Lib.hid (ptOk_no hok)
    rw [HTP.out.1, HTP.out.2]
    clear hok ho2 hb2
    go_wp2
    go_ret
    exact ⟨rfl, HW2.out⟩

end Go.Proofs.YtfbhokigeneinaaDoor
