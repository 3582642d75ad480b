import Derived.Test.YtanhpgmiadgmjaaGreatDoorT09
import Derived.Test.YtanhpgmiadgmjaaGreatDoorT22
import Derived.Test.YtanhpgmiadgmjaaGreatDoorT26
namespace Go.Proofs.YtanhpgmiadgmjaaGreatDoor
open Go.RowKit
def ndC (x : ND) : List Value := [.int .i64 x.k, .string (mk x.n), .int .i64 x.f, .int .i64 x.t, .int .i64 x.c]
def cN (L : List ND) : List Value := L.flatMap ndC
theorem cN_nil : cN [] = [] := rfl
theorem cN_cons (x : ND) (L : List ND) : cN (x :: L) = .int .i64 x.k :: .string (mk x.n) :: .int .i64 x.f :: .int .i64 x.t :: .int .i64 x.c :: cN L := rfl
theorem cN_app (A B : List ND) : cN (A ++ B) = cN A ++ cN B := by simp [cN]
theorem cN_len : ∀ L : List ND, (cN L).length = L.length * 5
 | [] => rfl
 | x :: L => by rw [cN_cons]; simp only [List.length_cons]; rw [cN_len L]; omega
theorem cN_one : ∀ L : List ND, ∀ u ∈ cN L, u.oneCell' = true
 | [], u, h => by cases h
 | x :: L, u, h => by
  rw [cN_cons] at h
  simp only [List.mem_cons] at h
  rcases h with rfl | rfl | rfl | rfl | rfl | h
  ·rfl
  ·rfl
  ·rfl
  ·rfl
  ·rfl
  ·exact cN_one L u h
theorem cN_take : ∀ (L : List ND) (k : Nat), (cN L).take (k * 5) = cN (L.take k)
 | [], k => by simp [cN_nil]
 | x :: L, 0 => by simp [cN_nil]
 | x :: L, k + 1 => by
  rw [show (k + 1) * 5 = k * 5 + 1 + 1 + 1 + 1 + 1 by omega, cN_cons, List.take_succ_cons, List.take_succ_cons, List.take_succ_cons, List.take_succ_cons, List.take_succ_cons, cN_take L k, List.take_succ_cons, cN_cons]
theorem cN_drop : ∀ (L : List ND) (k : Nat), (cN L).drop (k * 5) = cN (L.drop k)
 | [], k => by simp [cN_nil]
 | x :: L, 0 => by simp
 | x :: L, k + 1 => by
  rw [show (k + 1) * 5 = k * 5 + 1 + 1 + 1 + 1 + 1 by omega, cN_cons, List.drop_succ_cons, List.drop_succ_cons, List.drop_succ_cons, List.drop_succ_cons, List.drop_succ_cons, cN_drop L k, List.drop_succ_cons]
theorem cN_at : ∀ (L : List ND) (k : Nat) (h : k < L.length), (cN L)[k * 5]? = some (.int .i64 L[k].k) ∧ (cN L)[k * 5 + 1]? = some (.string (mk L[k].n)) ∧ (cN L)[k * 5 + 2]? = some (.int .i64 L[k].f) ∧ (cN L)[k * 5 + 3]? = some (.int .i64 L[k].t) ∧ (cN L)[k * 5 + 4]? = some (.int .i64 L[k].c)
 | x :: L, 0, h => ⟨rfl, rfl, rfl, rfl, rfl⟩
 | x :: L, k + 1, h => by
  have ih := cN_at L k (by simpa using h)
  rw [show (k + 1) * 5 = k * 5 + 1 + 1 + 1 + 1 + 1 by omega, cN_cons]
  simpa using ih
def nA (L : List ND) (k : Nat) : ND := L.getD k ⟨0, [], 0, 0, 0⟩
theorem nA_eq {L : List ND} {k : Nat} (h : k < L.length) : nA L k = L[k] := by simp [nA, List.getD, h]
theorem nA_mem {L : List ND} {k : Nat} (h : k < L.length) : nA L k ∈ L := by rw [nA_eq h]; exact List.getElem_mem h
theorem nA_take {L : List ND} {k : Nat} (h : k < L.length) : L.take (k + 1) = L.take k ++ [nA L k] := by rw [List.take_add_one, nA_eq h]; simp [h]
theorem nA_drop {L : List ND} {k : Nat} (h : k < L.length) : L.drop k = nA L k :: L.drop (k + 1) := by rw [nA_eq h, List.drop_eq_getElem_cons h]
theorem nA_right {A B : List ND} {j : Nat} : nA (A ++ B) (A.length + j) = nA B j := by
 unfold nA
 rw [List.getD_eq_getElem?_getD, List.getD_eq_getElem?_getD, List.getElem?_append_right (Nat.le_add_right ..), Nat.add_sub_cancel_left]
abbrev NdS (w : World) (a : Option Addr) (n c : Nat) (L : List ND) : Prop := Vs 5 w a n c (cN L)
theorem NdS.len {w : World} {a : Option Addr} {n c : Nat} {L : List ND} (h : NdS w a n c L) : L.length = n := by
 have := Vs.hl h; rw [cN_len] at this; omega
theorem NdS.at5 {w : World} {b o n c : Nat} {L : List ND} (h : NdS w (some ⟨b, o, none⟩) n c L) {k : Nat} (hk : k < n) :
  w.cell? ⟨b, o + k * 5, none⟩ = some (.int .i64 (nA L k).k) ∧ w.cell? ⟨b, o + k * 5 + 1, none⟩ = some (.string (mk (nA L k).n)) ∧ w.cell? ⟨b, o + k * 5 + 2, none⟩ = some (.int .i64 (nA L k).f) ∧ w.cell? ⟨b, o + k * 5 + 3, none⟩ = some (.int .i64 (nA L k).t) ∧ w.cell? ⟨b, o + k * 5 + 4, none⟩ = some (.int .i64 (nA L k).c) := by
 have hl := NdS.len h
 have h3 := cN_at L k (by omega)
 rw [nA_eq (by omega)]
 rw [Nat.add_assoc o (k * 5) 1, Nat.add_assoc o (k * 5) 2, Nat.add_assoc o (k * 5) 3, Nat.add_assoc o (k * 5) 4]
 exact ⟨(Vs.cells h (by omega) (by omega)).trans h3.1, (Vs.cells h (by omega) (by omega)).trans h3.2.1, (Vs.cells h (by omega) (by omega)).trans h3.2.2.1, (Vs.cells h (by omega) (by omega)).trans h3.2.2.2.1, (Vs.cells h (by omega) (by omega)).trans h3.2.2.2.2⟩
abbrev OwnN (base : Nat) (w : World) (a : Option Addr) (n c : Nat) (L : List ND) : Prop := OwnV base 37 5 w a n c (cN L)
theorem nd_info : (Tryz.prog.info? 37).map (fun i => (i.zero, i.size, i.bytes)) = some (some (.agg #[.int .i64 0, .string ByteArray.empty, .int .i64 0, .int .i64 0, .int .i64 0]), 5, 48) := by kernel_rfl
def roots : List ND → List ND
 | [] => []
 | x :: l => x :: (roots l).drop x.c.toNat
theorem roots_len : ∀ (l : List ND), (roots l).length ≤ l.length
 | [] => Nat.le_refl _
 | x :: l => by
  rw [roots, List.length_cons, List.length_drop, List.length_cons]
  have := roots_len l
  omega
theorem roots_kid : ∀ (l : List ND) (m n : Nat), skp l m = some n → (roots l).take m = kidN m l ∧ m ≤ (roots l).length ∧ (roots l).drop m = roots (l.drop n)
 | l, 0, n, h => by rw [skp_zero] at h; cases h; exact ⟨rfl, Nat.zero_le _, rfl⟩
 | [], m + 1, n, h => by cases h
 | x :: l, m + 1, n, h => by
  have h0 := h
  rw [skp_cons] at h0
  obtain ⟨n', h', rfl⟩ := Option.map_eq_some_iff.1 h0
  clear h0
  obtain ⟨n1, n2, h1, h2, hn⟩ := skp_one h
  have h1' := h1
  rw [show 1 = 0 + 1 from rfl, skp_cons, Nat.add_zero] at h1'
  obtain ⟨p, hp, rfl⟩ := Option.map_eq_some_iff.1 h1'
  obtain ⟨a1, a2, a3⟩ := roots_kid l _ _ hp
  rw [List.drop_succ_cons] at h2
  have hd : (l.drop p).length < (x :: l).length := by rw [List.length_drop, List.length_cons]; omega
  obtain ⟨b1, b2, b3⟩ := roots_kid (l.drop p) m n2 h2
  rw [kid_succ h1, roots, List.drop_succ_cons, a3, List.take_succ_cons, b1, List.length_cons, List.drop_succ_cons, b3, List.drop_drop, List.drop_succ_cons]
  refine ⟨rfl, by omega, ?_⟩
  congr 1; congr 1; omega
termination_by l => l.length
end Go.Proofs.YtanhpgmiadgmjaaGreatDoor
