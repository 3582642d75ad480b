/- The plain mathematics of layer 1: lists of bytes as numbers, which of them begin with a sequence, and how many there are. No program here. -/
import Derived.WalkKit
namespace Go.Proofs.Ytnedappnmkbbpaa

/-- Byte number j; 0 behind the end. -/
def bt (l : List Int) (j : Nat) : Int := l.getD j 0

def lenOf (c : Int) : Nat := if c ≤ 127 then 1 else if c < 194 then 0 else if c ≤ 223 then 2 else if c ≤ 239 then 3 else if c ≤ 244 then 4 else 0
def loOf (c : Int) : Int := if c = 224 then 160 else if c = 240 then 144 else 128
def hiOf (c : Int) : Int := if c = 237 then 159 else if c = 244 then 143 else 191
def lowAt (c : Int) (j : Nat) : Int := if j = 0 then loOf c else 128
def highAt (c : Int) (j : Nat) : Int := if j = 0 then hiOf c else 191

/-- The first j bytes behind the first one may stand there. -/
def goodTo (l : List Int) (k : Nat) : Prop := ∀ j, j < k → lowAt (bt l 0) j ≤ bt l (j + 1) ∧ bt l (j + 1) ≤ highAt (bt l 0) j

instance (l : List Int) (k : Nat) : Decidable (goodTo l k) := by unfold goodTo; infer_instance

def okSeq (l : List Int) : Bool := decide (l ≠ [] ∧ 0 < lenOf (bt l 0) ∧ lenOf (bt l 0) ≤ l.length ∧ goodTo l (lenOf (bt l 0) - 1))

def takeN (l : List Int) : Nat := if l = [] then 0 else if okSeq l then lenOf (bt l 0) else 1

theorem lenOf_le (c : Int) : lenOf c ≤ 4 := by unfold lenOf; (repeat' split) <;> omega

theorem okSeq_iff (l : List Int) : okSeq l = true ↔ (l ≠ [] ∧ 0 < lenOf (bt l 0) ∧ lenOf (bt l 0) ≤ l.length ∧ goodTo l (lenOf (bt l 0) - 1)) := by unfold okSeq; simp

theorem okSeq_pos {l : List Int} (h : okSeq l = true) : 0 < lenOf (bt l 0) ∧ lenOf (bt l 0) ≤ l.length := ⟨((okSeq_iff l).1 h).2.1, ((okSeq_iff l).1 h).2.2.1⟩

theorem takeN_nil : takeN [] = 0 := rfl
theorem takeN_pos {l : List Int} (h : l ≠ []) : 0 < takeN l := by
  unfold takeN; rw [if_neg h]; split
  · exact (okSeq_pos (by assumption)).1
  · omega
theorem takeN_le (l : List Int) : takeN l ≤ l.length := by
  unfold takeN; split
  · omega
  · split
    · exact (okSeq_pos (by assumption)).2
    · cases l with
      | nil => contradiction
      | cons => simp
theorem takeN_le4 (l : List Int) : takeN l ≤ 4 := by
  unfold takeN; split
  · omega
  · split
    · exact lenOf_le _
    · omega

/-- All of it is sequences. -/
def valid (l : List Int) : Bool := if _h : l = [] then true else okSeq l && valid (l.drop (takeN l))
termination_by l.length
decreasing_by have := takeN_pos _h; have := takeN_le l; simp; omega

def count (l : List Int) : Nat := if h : l = [] then 0 else 1 + count (l.drop (takeN l))
termination_by l.length
decreasing_by have := takeN_pos h; have := takeN_le l; simp; omega

theorem valid_nil : valid [] = true := by rw [valid]; simp
theorem valid_step {l : List Int} (h : l ≠ []) : valid l = (okSeq l && valid (l.drop (takeN l))) := by rw [valid]; simp [h]
theorem count_nil : count [] = 0 := by rw [count]; simp
theorem count_step {l : List Int} (h : l ≠ []) : count l = 1 + count (l.drop (takeN l)) := by rw [count]; simp [h]

theorem count_le (l : List Int) : count l ≤ l.length := by
  induction hn : l.length using Nat.strongRecOn generalizing l with
  | _ n ih =>
    by_cases h : l = []
    · subst h; rw [count_nil]; omega
    · rw [count_step h]
      have h1 := takeN_pos h
      have h2 := takeN_le l
      have := ih (l.drop (takeN l)).length (by simp; omega) _ rfl
      simp at this; omega

end Go.Proofs.Ytnedappnmkbbpaa
