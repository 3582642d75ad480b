/- Contract: layer 3's document's own Put. -/
import Derived.Test.YtmklkpckheafiaaDoorPm
import Derived.Test.YtmklkpckheafiaaDoorBy
namespace Go.Proofs.YtmklkpckheafiaaDoor
open Go.RowKit

/-- The digits ahead of the last one. -/
def digH (n : Nat) : List Int := if n < 10 then [] else digL (n / 10)
theorem digL_split (n : Nat) : digL n = digH n ++ [48 + ((n % 10 : Nat) : Int)] := by
  unfold digH
  by_cases h : n < 10
  · rw [if_pos h, digL_small h, Nat.mod_eq_of_lt h]; rfl
  · rw [if_neg h, digL_big h]

theorem digH_step {n : Nat} (h : ¬ n < 10) : digH n = digH (n / 10) ++ [48 + ((n / 10 % 10 : Nat) : Int)] := by
  conv => lhs; unfold digH
  rw [if_neg h, digL_split]

def RPutPost (n : Nat) (w : World) (e : Ending) (w' : World) : Prop :=
  ∃ a c, e = .returned (.tuple #[.slice a (digL n).length c, .int .i64 0]) ∧ OwnB w.heap.size 5 w' a (digL n).length c (digL n) ∧ Below w.heap.size w w'

set_option maxHeartbeats 400000 in
theorem rput_any (n : Nat) (w : World) (h : n ≤ 2147483647) :
    Calls Tryd.prog 12 #[.int .i64 n] w (RPutPost n w) := by
  have hlen := digL_le n h
  go_enter Tryd.func12, Tryd.ntmps12
  go_wp2
  go_loopw [0, 4] (fun m s wr => ∃ (k : Nat) (a : Option Addr) (c : Nat) (L : List Int), m = .int .i64 k ∧ k ≤ 2147483647 ∧ s = .slice a L.length c ∧ L.length ≤ 10 ∧ Hid (digL n = digH k ++ L) ∧ Hid (OwnB w.heap.size 5 wr a L.length c L) ∧ Hid (Below w.heap.size w wr)) (fun m _ _ => (intOf m).toNat)
  case atStart =>
    exact ⟨n, _, _, [48 + ((n % 10 : Nat) : Int)], rfl, h, rfl, by simp, Lib.hid (digL_split n), Lib.hid (OwnB.lit w 5 _ (Nat.le_refl _) (by simp) (by simp; omega) rfl rfl (by simp [maxLen])), Lib.hid ((Below.refl _ _).alloc (Nat.le_refl _) _)⟩
  case round =>
    obtain ⟨k, a, c, L, rfl, hk, rfl, hL, HD, HO, HB⟩ := hrel
    rename World => wa
    by_cases hlt : k < 10
    · have hL' : Hid (L = digL n) := Lib.hid (by rw [HD.out]; unfold digH; rw [if_pos hlt]; rfl)
      go_wp2
      have hL := hL'.out
      subst hL
      exact bodyPost_ret (v := .tuple #[.slice a (digL n).length c, .int .i64 0]) (by simp [results, Tryd.results12, go_sem]) rfl ⟨a, c, rfl, HO.out, HB.out⟩
    · have hD2 : Hid (digL n = digH (k / 10) ++ ([48 + ((k / 10 % 10 : Nat) : Int)] ++ L)) := Lib.hid (by rw [HD.out, digH_step hlt, List.append_assoc])
      have hL2 : L.length ≤ 9 := by have h1 := hD2.out; have := congrArg List.length h1; simp at this; omega
      go_wp2_with (first | (at_builtin; refine wpList_app rfl (.tmp 24) (.tmp 25) 22 rfl 5 w.heap.size Tryd.underlying22 info5 _ _ _ [48 + ((k / 10 % 10 : Nat) : Int)] rfl (OwnB.lit _ 5 _ HB.out.size (by simp) (by simp; omega) rfl rfl (by decide)) _ _ _ L rfl (HO.out.bs.alloc _) (by omega) (by have := HB.out.size; simp; omega) ?_; intro a2 c2 w2 ho2 hb2; have HO2 := Lib.hid ho2; have HB2 := Lib.hid ((HB.out.alloc HB.out.size _).trans hb2); clear ho2 hb2))
      go_roundw
      case rel =>
        have e1 : 1 + L.length = ([48 + ((k / 10 % 10 : Nat) : Int)] ++ L).length := by simp; omega
        exact ⟨k / 10, a2, c2, _, by go_num, by omega, congrArg (fun z => Value.slice a2 z c2) e1, by omega, hD2, Lib.hid (by rw [← e1]; exact HO2.out), HB2⟩
      case measure => simp [intOf]; omega

end Go.Proofs.YtmklkpckheafiaaDoor
