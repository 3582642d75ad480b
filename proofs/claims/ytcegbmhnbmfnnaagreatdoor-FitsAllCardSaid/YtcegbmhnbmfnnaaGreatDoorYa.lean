/- Contracts of fits.Fits and what it calls. -/
import Derived.Test.YtcegbmhnbmfnnaaGreatDoorMU
import Derived.Test.YtcegbmhnbmfnnaaGreatDoorMK
import Derived.Test.YtcegbmhnbmfnnaaGreatDoorMR
import Derived.Deep.RegionHeld3
namespace Go.Proofs.YtcegbmhnbmfnnaaGreatDoor
open Go.RowKit

theorem ops_two (w : World) (o k : OP) {g : Nat} (hg : g = w.heap.size) : OpS (w.alloc (.cells #[.string (mk o.1), .int .i64 o.2.1, .int .i64 o.2.2, .string (mk k.1), .int .i64 k.2.1, .int .i64 k.2.2] 28)) (some ⟨g, 0, none⟩) 2 2 [o, k] := by
  subst hg
  refine ⟨rfl, Nat.le_refl _, by decide, fun _ => ⟨w.heap.size, 0, rfl, by simp, fun j hj => ?_⟩⟩
  rw [cell_of_row _ w.heap.size (0 + j) _ _ _ (heap_alloc_new w _), Nat.zero_add, List.getElem?_toArray]
  rfl

theorem holed_any (a : Option Addr) (n c : Nat) (l r right : Bool) (w : World) :
    Calls Tryz.prog 18 #[.agg #[.slice a n c, .bool l, .bool r], .bool right] w fun e w' => e = .returned (.bool (if right then r else l)) ∧ Below w.heap.size w w' := by
  obtain ⟨⟨x0, x1, x2⟩, _⟩ := three (heap_alloc_new w (.cells #[.slice a n c, .bool l, .bool r] 49))
  cases right
  all_goals
    go_enter Tryz.func18, Tryz.ntmps18
    go_wp2
    go_ret
    exact ⟨rfl, below_alloc w _⟩

theorem side_any (right : Bool) (w : World) :
    Calls Tryz.prog 20 #[.bool right] w fun e w' => e = .returned (.int .i64 (sideV right)) ∧ w = w' := by
  cases right
  all_goals
    go_enter Tryz.func20, Tryz.ntmps20
    go_wp2
    go_ret
    exact ⟨rfl, rfl⟩

/-- Whether all of these lean so. -/
def leanB (s : Int) (L : List OP) : Bool := L.all fun o => o.2.2 == s
theorem leanB_drop {s : Int} {L : List OP} {k : Nat} (h : k < L.length) : leanB s (L.drop k) = ((opA L k).2.2 == s && leanB s (L.drop (k + 1))) := by rw [opA_drop h]; rfl

set_option maxRecDepth 20000 in
theorem lean_any (s : Int) (a : Option Addr) (n c : Nat) (L : List OP) (w : World) (h : OpS w a n c L) (hn : n ≤ 1000) :
    Calls Tryz.prog 19 #[.int .i64 s, .slice a n c] w fun e w' => e = .returned (.bool (leanB s L)) ∧ Below w.heap.size w w' := by
  have hlc := h.lc
  have H := Lib.hid h
  have HL := Lib.hid (OpS.len h)
  clear h
  go_enter Tryz.func19, Tryz.ntmps19
  go_wp2
  go_loopw [9] (fun v wr => ∃ k : Nat, v = .int .i64 k ∧ k ≤ n ∧ Hid (leanB s (L.drop k) = leanB s L) ∧ Hid (Below w.heap.size w wr)) (fun v _ => n - (intOf v).toNat)
  case atStart => exact ⟨0, rfl, by omega, Lib.hid (by rw [List.drop_zero]), Lib.hid (Below.refl _ _)⟩
  case round =>
    obtain ⟨k, rfl, hk, HM, HB⟩ := hrel
    by_cases hlt : k < n
    · have hs := H.out.below HB.out
      obtain ⟨b, off, rfl, _, hc⟩ := hs.at_ (by omega)
      clear hc
      obtain ⟨c0, c1, c2⟩ := OpS.at3 hs hlt
      have HD := Lib.hid (leanB_drop (s := s) (L := L) (k := k) (by rw [HL.out]; exact hlt))
      obtain ⟨o, ho⟩ : ∃ o, o = opA L k := ⟨_, rfl⟩
      rw [← ho] at c0 c1 c2 HD
      clear hs ho
      obtain ⟨p, g, t⟩ := o
      dsimp only at c0 c1 c2 HD
      obtain ⟨⟨d0, d1, d2⟩, _⟩ := three (heap_alloc_new wr (.cells #[.string (mk p), .int .i64 g, .int .i64 t] 28))
      have HB1 : Hid (Below w.heap.size w (wr.alloc (.cells #[.string (mk p), .int .i64 g, .int .i64 t] 28))) := Lib.hid (HB.out.alloc HB.out.size _)
      cases he : (t == s) with
      | true =>
        have he' : (t != s) = false := by rw [bne, he]; rfl
        have HN : Hid (leanB s (L.drop (k + 1)) = leanB s L) := Lib.hid (by rw [← HM.out, HD.out, he, Bool.true_and])
        clear he
        go_wp2
        go_roundw
        case rel => exact ⟨k + 1, by go_num, by omega, HN, HB1⟩
        case measure => simp [intOf]; omega
      | false =>
        have he' : (t != s) = true := by rw [bne, he]; rfl
        have HN : Hid (leanB s L = false) := Lib.hid (by rw [← HM.out, HD.out, he, Bool.false_and])
        clear he
        go_wp2
        go_ret
        exact ⟨by rw [HN.out]; rfl, HB1.out⟩
    · have HN : Hid (leanB s L = true) := Lib.hid (by rw [← HM.out, List.drop_eq_nil_iff.2 (by rw [HL.out]; omega)]; rfl)
      go_wp2
      go_ret
      exact ⟨by rw [HN.out]; rfl, HB.out⟩

end Go.Proofs.YtcegbmhnbmfnnaaGreatDoor
