/- Contracts: the document's own comment and Skip. -/
import Derived.Test.YtecabgmkoknbgaaDoorLa
import Derived.Test.YtecabgmkoknbgaaDoorM3
namespace Go.Proofs.YtecabgmkoknbgaaDoor
open Go.RowKit

def cmV : Option Nat → Int
  | none => -1
  | some n => n

theorem pair47_any (a : Option Addr) (len cap : Nat) (l : List Int) (k : Nat) (w : World) (h : Bs w a len cap l) (hk : k ≤ len) (hsz : len ≤ 1000000) :
    Calls Tryd.prog 44 #[.slice a len cap, .int .i64 k, .string { data := #[47, 42] }] w fun e w' => e = .returned (.bool (pre2 47 42 (l.drop k))) ∧ w = w' := pair_any a len cap l k 47 42 w h hk hsz
theorem pair42_any (a : Option Addr) (len cap : Nat) (l : List Int) (k : Nat) (w : World) (h : Bs w a len cap l) (hk : k ≤ len) (hsz : len ≤ 1000000) :
    Calls Tryd.prog 44 #[.slice a len cap, .int .i64 k, .string { data := #[42, 47] }] w fun e w' => e = .returned (.bool (pre2 42 47 (l.drop k))) ∧ w = w' := pair_any a len cap l k 42 47 w h hk hsz

set_option maxHeartbeats 2000000 in
theorem rcomment_any (a : Option Addr) (len cap : Nat) (l : List Int) (k0 : Nat) (w : World) (h : Bs w a len cap l) (hk0 : k0 ≤ len) (hsz : len ≤ 1000000) :
    Calls Tryd.prog 45 #[.slice a len cap, .int .i64 k0] w fun e w' => e = .returned (.int .i64 (cmV (cmAt l k0 0))) ∧ w = w' := by
  have hl := h.hl
  have H := Lib.hid h
  clear h
  go_enter Tryd.func45, Tryd.ntmps45
  go_wp2
  go_loop [1, 5] (fun i d => ∃ k : Nat, ∃ z : Int, i = .int .i64 k ∧ d = .int .i64 z ∧ k0 ≤ k ∧ k ≤ len ∧ -(k : Int) ≤ z ∧ z ≤ k ∧ Hid (cmAt l k z = cmAt l k0 0)) (fun i _ => len - (intOf i).toNat)
  case atStart => exact ⟨k0, 0, rfl, rfl, by omega, by omega, by omega, by omega, Lib.hid rfl⟩
  case round =>
    obtain ⟨k, z, rfl, rfl, hk1, hk, hz1, hz2, HM⟩ := hrel
    by_cases hlt : k < len
    · by_cases p1 : pre2 47 42 (l.drop k) = true
      · have HP := Lib.hid p1
        have hk2 := (pre2_head p1).1
        have HN : Hid (cmAt l (k + 2) (z + 1) = cmAt l k0 0) := Lib.hid (by rw [← cmAt_open p1]; exact HM.out)
        clear p1
        go_wp2_with (first | (go_at_call 44; refine (pair47_any _ _ _ l k _ H.out hk hsz).mono ?_; rintro e w' ⟨rfl, rfl⟩; rw [HP.out]))
        go_round
        case rel => exact ⟨k + 2, z + 1, by go_num, by go_num, by omega, by omega, by omega, by omega, HN⟩
        case measure => simp [intOf]; omega
      · have hp1 : pre2 47 42 (l.drop k) = false := by simpa using p1
        have HP := Lib.hid hp1
        by_cases p2 : pre2 42 47 (l.drop k) = true
        · have HP2 := Lib.hid p2
          have hk2 := (pre2_head p2).1
          by_cases hz : z = 1
          · subst hz
            have HN : Hid (cmV (cmAt l k0 0) = k + 2) := Lib.hid (by rw [← HM.out, cmAt_last p2]; simp [cmV])
            clear p1 hp1 p2
            go_wp2_with (first | (go_at_call 44; with_reducible first | (refine (pair47_any _ _ _ l k _ H.out hk hsz).mono ?_; rintro e w' ⟨rfl, rfl⟩; rw [HP.out]) | (refine (pair42_any _ _ _ l k _ H.out hk hsz).mono ?_; rintro e w' ⟨rfl, rfl⟩; rw [HP2.out])))
            go_ret
            exact ⟨by rw [HN.out]; rfl, rfl⟩
          · have HN : Hid (cmAt l (k + 2) (z - 1) = cmAt l k0 0) := Lib.hid (by rw [← cmAt_close p2 hz]; exact HM.out)
            have hz' : ¬ z - 1 = 0 := by omega
            clear p1 hp1 p2
            go_wp2_with (first | (go_at_call 44; with_reducible first | (refine (pair47_any _ _ _ l k _ H.out hk hsz).mono ?_; rintro e w' ⟨rfl, rfl⟩; rw [HP.out]) | (refine (pair42_any _ _ _ l k _ H.out hk hsz).mono ?_; rintro e w' ⟨rfl, rfl⟩; rw [HP2.out])))
            go_round
            case rel => exact ⟨k + 2, z - 1, by go_num, by go_num, by omega, by omega, by omega, by omega, HN⟩
            case measure => simp [intOf]; omega
        · have hp2 : pre2 42 47 (l.drop k) = false := by simpa using p2
          have HP2 := Lib.hid hp2
          have HN : Hid (cmAt l (k + 1) z = cmAt l k0 0) := Lib.hid (by rw [← cmAt_else (by omega) hp1 hp2]; exact HM.out)
          clear p1 hp1 p2 hp2
          go_wp2_with (first | (go_at_call 44; with_reducible first | (refine (pair47_any _ _ _ l k _ H.out hk hsz).mono ?_; rintro e w' ⟨rfl, rfl⟩; rw [HP.out]) | (refine (pair42_any _ _ _ l k _ H.out hk hsz).mono ?_; rintro e w' ⟨rfl, rfl⟩; rw [HP2.out])))
          go_round
          case rel => exact ⟨k + 1, z, by go_num, rfl, by omega, by omega, by omega, by omega, HN⟩
          case measure => simp [intOf]; omega
    · have HN : Hid (cmV (cmAt l k0 0) = -1) := Lib.hid (by rw [← HM.out, cmAt_end (by omega)]; rfl)
      go_wp2
      go_ret
      exact ⟨by rw [HN.out]; rfl, rfl⟩

end Go.Proofs.YtecabgmkoknbgaaDoor
