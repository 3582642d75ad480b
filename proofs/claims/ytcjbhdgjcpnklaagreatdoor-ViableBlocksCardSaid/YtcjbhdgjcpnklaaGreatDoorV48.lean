import Derived.Test.YtcjbhdgjcpnklaaGreatDoorV45
namespace Go.Proofs.YtcjbhdgjcpnklaaGreatDoor
open Go.RowKit
def lW1 : List Int := [105, 102, 32, 97, 32, 116, 104, 101, 110, 32, 98, 32, 101, 108, 115, 101, 32, 99]
def lW2 : List Int := [105, 102, 32, 116, 104, 101, 110, 32, 101, 108, 115, 101, 32, 120, 32, 41]
theorem tokW1 : (toks lW1).length = 6 := by decide +kernel
theorem tokW2 : (toks lW2).length = 5 := by decide +kernel
theorem addW1 : addR [] oE = [oE] ∧ addZ [] zS oE = zS ∧ addE [] oE = 0 := by decide +kernel
theorem zM6 : Srt [oE] := by unfold Srt; simp
theorem zQW : ∀ o ∈ [oE], ∃ s, ofS o.1 = some s := by
 have h : ∀ o ∈ [oE], (ofS o.1).isSome = true := by decide +kernel
 exact fun o ho => Option.isSome_iff_exists.1 (h o ho)
theorem zQX : ∀ o ∈ [oE], o.1.length ≤ 1000000 := by decide +kernel
theorem lonW1 : LonP [oE] zS (toks lW1) 6 := zEZ zBm zM6 (by decide +kernel)
theorem lonW1k {k : Nat} (hk : k ≤ 6) : LonP [oE] zS ((toks lW1).take k) k := by
 have h := zC3 (i := k) (by rw [tokW1]; exact hk) lonW1
 rw [Nat.min_eq_left hk] at h
 exact h
def goesW (k m : Nat) : Bool := ((k == 1 || k % 2 == 0) && (m == 0 || m == 3)) || (k == 3 && m == 1) || (k == 5 && m == 2)
def oddW (j m : Nat) : List TK := (toks lW1).take j ++ [tat (toks lW2) m]
theorem lonW2 : ∀ j, j < 6 → ∀ m, m < 5 → lonG [oE] zS (oddW j m) (if goesW (j + 1) m = true then j + 1 else j) = true := by decide +kernel
theorem lonW {j m : Nat} (hj : j < 6) (hm : m < 5) : LonP [oE] zS (oddW j m) (if goesW (j + 1) m = true then j + 1 else j) := zEZ zBm zM6 (lonW2 j hj m hm)
end Go.Proofs.YtcjbhdgjcpnklaaGreatDoor
