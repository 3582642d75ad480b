/- Contract of package class's Run. -/
import Derived.Test.YtecabgmkoknbgaaDoorKb
import Derived.Test.YtecabgmkoknbgaaDoorRt
namespace Go.Proofs.YtecabgmkoknbgaaDoor
open Go.RowKit

def runL (n : Int) : List Int → Nat
  | [] => 0
  | c :: r => if cls c = n then 1 + runL n r else 0

theorem runL_le (n : Int) : ∀ l : List Int, runL n l ≤ l.length
  | [] => Nat.le_refl _
  | c :: r => by have := runL_le n r; simp only [runL, List.length_cons]; split <;> omega

theorem runL_drop (n : Int) (l : List Int) (k : Nat) (h : k < l.length) : runL n (l.drop k) = if cls (bt l k) = n then 1 + runL n (l.drop (k + 1)) else 0 := by
  rw [List.drop_eq_getElem_cons h, runL, show bt l k = l[k] from by simp [bt, List.getD, h]]

theorem run_any (a : Option Addr) (len cap : Nat) (l : List Int) (n : Int) (w : World) (h : Bs w a len cap l) (ht : Tab w) :
    Calls Tryd.prog 38 #[.slice a len cap, .int .i64 n] w fun e w' => e = .returned (.int .i64 (runL n l)) ∧ Below w.heap.size w w' := by
  have hm := h.lt
  unfold maxLen at hm
  have H := Lib.hid h
  have HT := Lib.hid ht
  clear h ht
  go_enter Tryd.func38, Tryd.ntmps38
  go_wp2
  go_loopw [9] (fun i wr => ∃ k : Nat, i = .int .i64 k ∧ k ≤ len ∧ Hid (k + runL n (l.drop k) = runL n l) ∧ Hid (Below w.heap.size w wr)) (fun i _ => len - (intOf i).toNat)
  case atStart => exact ⟨0, rfl, by omega, Lib.hid (by simp), Lib.hid (Below.refl _ _)⟩
  case round =>
    obtain ⟨k, rfl, hk, HM, HB⟩ := hrel
    by_cases hlt : k < len
    · have hb := H.out.below HB.out
      have hll := hb.hl
      have HS := Lib.hid (runL_drop n l k (by omega))
      have h0 := (bt_rng hb.rng k).1
      have h1 := (bt_rng hb.rng k).2
      obtain ⟨b, off, rfl, _, hc⟩ := hb.at_ (by omega)
      have hck := hc k hlt
      have HTT := Lib.hid (HT.out.keep HB.out)
      clear hb hll hc
      go_wp2_with (first | (go_at_call 42; refine (of_any _ _ HTT.out h0 h1).mono ?_; rintro e w' ⟨rfl, hb2⟩; have HB2 := Lib.hid hb2; clear hb2))
      · rename_i hq
        have HF : Hid (runL n l = k) := Lib.hid (by rw [← HM.out, HS.out, if_neg (by simpa using hq)]; rfl)
        go_ret
        exact ⟨by rw [HF.out]; rfl, HB.out.trans (HB2.out.mono HB.out.size)⟩
      · rename_i hq
        go_roundw
        case rel => exact ⟨k + 1, by go_num, by omega, Lib.hid (by rw [← HM.out, HS.out, if_pos (by simpa using hq)]; omega), Lib.hid (HB.out.trans (HB2.out.mono HB.out.size))⟩
        case measure => simp [intOf]; omega
    · have HF : Hid (runL n l = len) := Lib.hid (by rw [← HM.out, List.drop_eq_nil_iff.2 (by have := H.out.hl; omega)]; simp [runL]; omega)
      go_wp2
      go_ret
      exact ⟨by rw [HF.out]; rfl, HB.out⟩

end Go.Proofs.YtecabgmkoknbgaaDoor
