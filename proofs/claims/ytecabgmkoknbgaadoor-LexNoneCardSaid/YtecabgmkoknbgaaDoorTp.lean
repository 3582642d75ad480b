/- What stands ahead only moves the token. No walk here. -/
import Derived.Test.YtecabgmkoknbgaaDoorTi
namespace Go.Proofs.YtecabgmkoknbgaaDoor
open Go.RowKit

/-- What stands ahead only moves the token. -/
theorem nx_app (X Y : List Int) : nx (X ++ Y) X.length = (nx Y 0).map fun p => (X.length + p.1, p.2) := by
  have hd : (X ++ Y).drop X.length = Y := by simp
  obtain ⟨n, z, hs, hn, hz⟩ := sk_ways Y 0 (Nat.zero_le _)
  have hs0 := hs
  rw [List.drop_zero] at hs
  rw [Nat.zero_add] at hn hz
  have hs' : sk ((X ++ Y).drop X.length) = (n, z) := by rw [hd]; exact hs
  have hd2 : (X ++ Y).drop (X.length + n) = Y.drop (0 + n) := by rw [Nat.zero_add, ← List.drop_drop, hd]
  by_cases h0 : z = 0
  · subst h0
    by_cases he : n = Y.length
    · rw [nx_none hs' (by rw [List.length_append, he]), nx_none hs0 (by rw [Nat.zero_add, he])]; rfl
    · rw [nx_some hs' (by rw [List.length_append]; omega), nx_some hs0 (by rw [Nat.zero_add]; exact he), hd2]
      simp
  · rw [nx_err hs' h0, nx_err hs0 h0, List.length_append]
    simp
    omega

end Go.Proofs.YtecabgmkoknbgaaDoor
