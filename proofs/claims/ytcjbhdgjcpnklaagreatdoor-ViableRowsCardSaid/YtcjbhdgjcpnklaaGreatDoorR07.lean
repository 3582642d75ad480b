import Derived.Test.YtcjbhdgjcpnklaaGreatDoorV22
import Derived.Test.YtcjbhdgjcpnklaaGreatDoorV09
import Derived.Test.YtcjbhdgjcpnklaaGreatDoorR04
namespace Go.Proofs.YtcjbhdgjcpnklaaGreatDoor
open Go.RowKit
def ndC (x : ND) : List Value := [.int .i64 x.k, .string (mk x.n), .int .i64 x.f, .int .i64 x.t, .int .i64 x.c]
def cN (L : List ND) : List Value := L.flatMap ndC
theorem zKx (x : ND) (L : List ND) : cN (x :: L) = .int .i64 x.k :: .string (mk x.n) :: .int .i64 x.f :: .int .i64 x.t :: .int .i64 x.c :: cN L := rfl
theorem zNp : ∀ L : List ND, (cN L).length = L.length * 5
 | [] => rfl
 | x :: L => by rw [zKx]; simp only [List.length_cons]; rw [zNp L]; omega
theorem zPu : ∀ (L : List ND) (k : Nat) (h : k < L.length), (cN L)[k * 5]? = some (.int .i64 L[k].k) ∧ (cN L)[k * 5 + 1]? = some (.string (mk L[k].n)) ∧ (cN L)[k * 5 + 2]? = some (.int .i64 L[k].f) ∧ (cN L)[k * 5 + 3]? = some (.int .i64 L[k].t) ∧ (cN L)[k * 5 + 4]? = some (.int .i64 L[k].c)
 | x :: L, 0, h => ⟨rfl, rfl, rfl, rfl, rfl⟩
 | x :: L, k + 1, h => by
  have ih := zPu L k (by simpa using h)
  rw [show (k + 1) * 5 = k * 5 + 1 + 1 + 1 + 1 + 1 by omega, zKx]
  simpa using ih
def nA (L : List ND) (k : Nat) : ND := L.getD k ⟨0, [], 0, 0, 0⟩
theorem zQO {L : List ND} {k : Nat} (h : k < L.length) : nA L k = L[k] := by simp [nA, List.getD, h]
abbrev NdS (w : World) (a : Option Addr) (n c : Nat) (L : List ND) : Prop := Vs 5 w a n c (cN L)
theorem NdS.len {w : World} {a : Option Addr} {n c : Nat} {L : List ND} (h : NdS w a n c L) : L.length = n := by
 have := Vs.hl h; rw [zNp] at this; omega
theorem NdS.at5 {w : World} {b o n c : Nat} {L : List ND} (h : NdS w (some ⟨b, o, none⟩) n c L) {k : Nat} (hk : k < n) :
  w.cell? ⟨b, o + k * 5, none⟩ = some (.int .i64 (nA L k).k) ∧ w.cell? ⟨b, o + k * 5 + 1, none⟩ = some (.string (mk (nA L k).n)) ∧ w.cell? ⟨b, o + k * 5 + 2, none⟩ = some (.int .i64 (nA L k).f) ∧ w.cell? ⟨b, o + k * 5 + 3, none⟩ = some (.int .i64 (nA L k).t) ∧ w.cell? ⟨b, o + k * 5 + 4, none⟩ = some (.int .i64 (nA L k).c) := by
 have hl := NdS.len h
 have h3 := zPu L k (by omega)
 rw [zQO (by omega)]
 rw [Nat.add_assoc o (k * 5) 1, Nat.add_assoc o (k * 5) 2, Nat.add_assoc o (k * 5) 3, Nat.add_assoc o (k * 5) 4]
 exact ⟨(Vs.cells h (by omega) (by omega)).trans h3.1, (Vs.cells h (by omega) (by omega)).trans h3.2.1, (Vs.cells h (by omega) (by omega)).trans h3.2.2.1, (Vs.cells h (by omega) (by omega)).trans h3.2.2.2.1, (Vs.cells h (by omega) (by omega)).trans h3.2.2.2.2⟩
end Go.Proofs.YtcjbhdgjcpnklaaGreatDoor
