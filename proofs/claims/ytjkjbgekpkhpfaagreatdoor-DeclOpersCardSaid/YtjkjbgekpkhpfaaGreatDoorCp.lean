/- The texts of DeclOpers, token by token. No walk here. -/
import Derived.Test.YtjkjbgekpkhpfaaGreatDoorCj
import Derived.Test.YtjkjbgekpkhpfaaGreatDoorFh
import Derived.Test.YtjkjbgekpkhpfaaGreatDoorMN
namespace Go.Proofs.YtjkjbgekpkhpfaaGreatDoor
open Go.RowKit

/-- The three words. -/
def wdN (k : Nat) : Nm := if k = 0 then [110, 111, 110] else if k = 1 then [108, 101, 102, 116] else [114, 105, 103, 104, 116]
theorem wd_low (k : Nat) : lowN (wdN k) := by
  unfold wdN
  split
  · exact low_non
  · split
    · exact low_left
    · exact low_right
theorem wd_one (k : Nat) : wdN k = [108, 101, 102, 116] ∨ wdN k = [114, 105, 103, 104, 116] ∨ wdN k = [110, 111, 110] := by
  unfold wdN
  split
  · exact .inr (.inr rfl)
  · split
    · exact .inl rfl
    · exact .inr (.inl rfl)
theorem wd_frm {k : Nat} (hk : k ≤ 2) (p : Nm) : frmV (wdN k) p = (p, (k : Int), 0) := by
  obtain rfl | rfl | rfl : k = 0 ∨ k = 1 ∨ k = 2 := by omega
  · rfl
  · rfl
  · rfl
theorem wd_len (k : Nat) : (wdN k).length ≤ 5 := by
  unfold wdN
  split
  · decide
  · split <;> decide
theorem wd_cell {w : World} {b : Nat} {t : TypeId} (h : w.heap[b]? = some (.cells #[.string { data := #[110, 111, 110] }, .string { data := #[108, 101, 102, 116] }, .string { data := #[114, 105, 103, 104, 116] }] t (0, 0))) {k : Nat} (hk : k ≤ 2) : w.cell? ⟨b, k, none⟩ = some (.string (mk (wdN k))) := by
  rw [cell_of_row w b k _ _ _ h]
  obtain rfl | rfl | rfl : k = 0 ∨ k = 1 ∨ k = 2 := by omega
  all_goals rfl

/-- `:-op(0,W,Q) .` -/
def tDr (w : Nm) (t : List Int) : List Int := 58 :: 45 :: 111 :: (112 :: 40 :: (digL 0 ++ 44 :: (nb w ++ 44 :: (putL t ++ [41, 32, 46]))))
theorem rg3 : Rg [41, 32, 46] := by decide
theorem kl_cl3 : kl [41, 32, 46] = [(6, [41]), (7, [46])] := by
  rw [kl_solo (by decide) (by decide) rg3, kl_lay (by decide) (by decide) (by decide), kl_end, s41]
theorem kl_dr {w : Nm} (hw : lowN w) {t : List Int} (ht : okT t) (hr : Rg t) : kl (tDr w t) = kOp 0 w (bstr t).toList ∧ Rg (tDr w t) := by
  have r5 := rga (putL_rng ht hr) rg3
  have r4 : Rg (44 :: (putL t ++ [41, 32, 46])) := rgc (by decide) r5
  have r3 := rga (nb_rng' w) r4
  have r2 : Rg (44 :: (nb w ++ 44 :: (putL t ++ [41, 32, 46]))) := rgc (by decide) r3
  have r1 : Rg (40 :: (digL 0 ++ 44 :: (nb w ++ 44 :: (putL t ++ [41, 32, 46])))) := rgc (by decide) (rga (digL_rng 0) r2)
  have r0 : Rg (111 :: (112 :: 40 :: (digL 0 ++ 44 :: (nb w ++ 44 :: (putL t ++ [41, 32, 46]))))) := rgc (by decide) (rgc (by decide) r1)
  refine ⟨?_, rgc (by decide) (rgc (by decide) r0)⟩
  unfold tDr
  rw [kl_mark (by decide) r0]
  have hw2 := kl_word low_op (d := 40) (r := digL 0 ++ 44 :: (nb w ++ 44 :: (putL t ++ [41, 32, 46]))) (by decide) (by decide) r1
  rw [show (111 :: (112 :: 40 :: (digL 0 ++ 44 :: (nb w ++ 44 :: (putL t ++ [41, 32, 46])))) : List Int) = nb [111, 112] ++ 40 :: (digL 0 ++ 44 :: (nb w ++ 44 :: (putL t ++ [41, 32, 46]))) from rfl, hw2, kl_solo (by decide) (by decide) r1, kl_num 0 (by decide) (by decide) r2, kl_solo (by decide) (by decide) r2, kl_word hw (by decide) (by decide) r4, kl_solo (by decide) (by decide) r4, kl_quo ht hr (by decide) rg3, kl_cl3, s40, s44]
  rfl

/-- The patterns that the law draws. -/
theorem pat_plain : ∀ k, k < 16 → ((nb (pat k)).all fun c => decide (32 ≤ c ∧ c ≤ 126)) = true ∧ (putL (nb (pat k))).length ≤ 30 := by decide +kernel

/-! ### As the law puts them together -/

theorem mk_bstrC (N : Nm) : mk N = bstr (nb N) := toList_inj (by rw [mk_toList, bstr_nb])
theorem cop (n : Nat) (w : Nm) (t : List Int) : ({ data := #[58, 45, 32, 111, 112, 40] } : ByteArray) ++ bstr (digL n) ++ { data := #[44, 32] } ++ mk w ++ { data := #[44, 32] } ++ bstr (putL t) ++ { data := #[41, 46] } = bstr (tOp n w t) := by
  rw [show ({ data := #[58, 45, 32, 111, 112, 40] } : ByteArray) = bstr [58, 45, 32, 111, 112, 40] from rfl, show ({ data := #[44, 32] } : ByteArray) = bstr [44, 32] from rfl, show ({ data := #[41, 46] } : ByteArray) = bstr [41, 46] from rfl, mk_bstrC,
    bstr_append, bstr_append, bstr_append, bstr_append, bstr_append, bstr_append]
  congr 1
  unfold tOp
  simp [nb]
theorem cdr (w : Nm) (t : List Int) : ({ data := #[58, 45, 111, 112, 40, 48, 44] } : ByteArray) ++ mk w ++ { data := #[44] } ++ bstr (putL t) ++ { data := #[41, 32, 46] } = bstr (tDr w t) := by
  rw [show ({ data := #[58, 45, 111, 112, 40, 48, 44] } : ByteArray) = bstr [58, 45, 111, 112, 40, 48, 44] from rfl, show ({ data := #[44] } : ByteArray) = bstr [44] from rfl, show ({ data := #[41, 32, 46] } : ByteArray) = bstr [41, 32, 46] from rfl, mk_bstrC,
    bstr_append, bstr_append, bstr_append, bstr_append]
  congr 1
  unfold tDr
  rw [digL_small (by decide)]
  simp
/-- What both say. -/
theorem say_op {n k : Nat} {p : Nm} (hn : n ≤ 9) (h1 : 1 ≤ n) (hk : k ≤ 2) (hp : ((nb p).all fun c => decide (32 ≤ c ∧ c ≤ 126)) = true) (hm : mayV p n k = 0) : decV (kl (tOp n (wdN k) (nb p))) = (⟨1, p, n, k, 0, 0⟩, 0) ∧ Rg (tOp n (wdN k) (nb p)) ∧ decV (kl (tDr (wdN k) (nb p))) = (⟨2, p, 0, 0, 0, 0⟩, 0) ∧ Rg (tDr (wdN k) (nb p)) := by
  obtain ⟨ho, hr⟩ := okT_plain hp
  have hs : (ofS p).isSome = true := by
    cases h : ofS p with
    | some _ => rfl
    | none => rw [mayV_none h] at hm; cases hm
  have hd := kl_dr (wd_low k) ho hr
  rw [kl_op n (by omega) (wd_low k) ho hr, hd.1, bstr_nb]
  exact ⟨dec_add (by omega) (by omega) (wd_frm hk p) hm, tOp_rng n ho hr, dec_drop hs (wd_one k), hd.2⟩

end Go.Proofs.YtjkjbgekpkhpfaaGreatDoor
