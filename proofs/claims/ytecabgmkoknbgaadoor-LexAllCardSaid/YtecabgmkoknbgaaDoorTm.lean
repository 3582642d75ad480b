/- The plain mathematics of layer 6: names, tokens, the first token behind a place. No walk here. -/
import Derived.Test.YtecabgmkoknbgaaDoorM2
import Derived.Test.YtecabgmkoknbgaaDoorDm
import Derived.Test.YtecabgmkoknbgaaDoorQm
import Derived.Test.YtecabgmkoknbgaaDoorLm
namespace Go.Proofs.YtecabgmkoknbgaaDoor
open Go.RowKit

/-- What l begins with goes on a name. -/
def nmB (l : List Int) : Bool := okSeq l && (decide (1 < takeN l) || nameB (bt l 0))
def nmF : Nat → List Int → Nat
  | 0, _ => 0
  | f + 1, l => if nmB l then takeN l + nmF f (l.drop (takeN l)) else 0
/-- How many bytes of a name l begins with. -/
def nmL (l : List Int) : Nat := nmF l.length l

theorem okSeq_nil : okSeq [] = false := by decide
theorem nmB_nil : nmB [] = false := by decide
theorem nmB_ok {l : List Int} (h : nmB l = true) : okSeq l = true ∧ l ≠ [] := by
  unfold nmB at h
  have h1 : okSeq l = true := by
    cases ho : okSeq l <;> simp_all
  exact ⟨h1, ((okSeq_iff l).1 h1).1⟩

theorem nmF_same : ∀ (f g : Nat) (l : List Int), l.length ≤ f → l.length ≤ g → nmF f l = nmF g l
  | 0, 0, _, _, _ => rfl
  | 0, g + 1, l, h, _ => by
    have : l = [] := List.eq_nil_of_length_eq_zero (by omega)
    subst this; simp [nmF, nmB_nil]
  | f + 1, 0, l, _, h => by
    have : l = [] := List.eq_nil_of_length_eq_zero (by omega)
    subst this; simp [nmF, nmB_nil]
  | f + 1, g + 1, l, h, h' => by
    rw [nmF, nmF]
    split
    · rename_i hb
      have h1 := takeN_pos (nmB_ok hb).2
      rw [nmF_same f g (l.drop (takeN l)) (by simp; omega) (by simp; omega)]
    · rfl

theorem nmL_step (l : List Int) : nmL l = if nmB l then takeN l + nmL (l.drop (takeN l)) else 0 := by
  by_cases h0 : l = []
  · subst h0; simp [nmL, nmF, nmB_nil]
  · have hp := List.length_pos_iff.2 h0
    have h1 := takeN_pos h0
    unfold nmL
    obtain ⟨f, hf⟩ : ∃ f, l.length = f + 1 := ⟨l.length - 1, by omega⟩
    rw [hf, nmF, nmF_same f (l.drop (takeN l)).length _ (by simp; omega) (by simp)]

theorem nmF_le : ∀ (f : Nat) (l : List Int), nmF f l ≤ l.length
  | 0, _ => Nat.zero_le _
  | f + 1, l => by
    rw [nmF]; split
    · have h1 := takeN_le l
      have h2 := nmF_le f (l.drop (takeN l))
      simp at h2; omega
    · omega
theorem nmL_le (l : List Int) : nmL l ≤ l.length := nmF_le _ _

theorem nmL_no {l : List Int} (h : nmB l = false) : nmL l = 0 := by rw [nmL_step, h]; rfl
theorem nmL_yes {l : List Int} (h : nmB l = true) : nmL l = takeN l + nmL (l.drop (takeN l)) := by rw [nmL_step, h]; rfl
theorem nmL_pos {l : List Int} (h : nmB l = true) : 0 < nmL l := by have := takeN_pos (nmB_ok h).2; rw [nmL_yes h]; omega

theorem low_cls : ∀ n : Nat, n < 256 → (cls n ≠ 9 → n < 128) ∧ (cls n = 9 → 128 ≤ n) ∧ (0 ≤ cls n ∧ cls n ≤ 9) ∧ (nameB n = true ↔ (cls n = 2 ∨ cls n = 3 ∨ cls n = 4)) := by decide +kernel
theorem cls_rng {c : Int} (h0 : 0 ≤ c) (h1 : c ≤ 255) : 0 ≤ cls c ∧ cls c ≤ 9 := by
  have := (low_cls c.toNat (by omega)).2.2.1; rwa [Int.toNat_of_nonneg h0] at this
theorem cls_low {c : Int} (h0 : 0 ≤ c) (h1 : c ≤ 255) (h : cls c ≠ 9) : c < 128 := by
  have := (low_cls c.toNat (by omega)).1; rw [Int.toNat_of_nonneg h0] at this; have := this h; omega
theorem cls_high {c : Int} (h0 : 0 ≤ c) (h1 : c ≤ 255) (h : cls c = 9) : 128 ≤ c := by
  have := (low_cls c.toNat (by omega)).2.1; rw [Int.toNat_of_nonneg h0] at this; have := this h; omega
theorem nameB_iff {c : Int} : nameB c = true ↔ (cls c = 2 ∨ cls c = 3 ∨ cls c = 4) := by unfold nameB; simp
theorem nameB_of {c : Int} (h : cls c = 2 ∨ cls c = 3 ∨ cls c = 4) : nameB c = true := nameB_iff.2 h

/-- A name's byte is a sequence of one. -/
theorem nmB_name {l : List Int} (h0 : l ≠ []) (hr : ∀ x ∈ l, 0 ≤ x ∧ x ≤ 255) (h : nameB (bt l 0) = true) : nmB l = true ∧ takeN l = 1 := by
  have hb := bt_rng hr 0
  have hc := nameB_iff.1 h
  have hl : bt l 0 < 128 := cls_low hb.1 hb.2 (by omega)
  have := okSeq_low h0 (by omega)
  exact ⟨by unfold nmB; rw [this.1, h]; simp, this.2⟩
theorem nmB_long {l : List Int} (h1 : okSeq l = true) (h2 : takeN l ≠ 1) : nmB l = true := by
  have := takeN_pos ((okSeq_iff l).1 h1).1
  unfold nmB; rw [h1, decide_eq_true (by omega : 1 < takeN l)]; rfl
theorem nmB_bad {l : List Int} (h : okSeq l = false) : nmB l = false := by unfold nmB; rw [h]; rfl
theorem nmB_one {l : List Int} (h2 : takeN l = 1) (h : nameB (bt l 0) = false) : nmB l = false := by unfold nmB; rw [h2, h]; simp

/-- A token: its kind, how many bytes, what it says, why it is bad. -/
structure TR where
  k : Int
  n : Nat
  t : List Int
  e : Int
  deriving DecidableEq

def endT (l : List Int) : Bool := decide (runL 5 l = 1) && (decide (bt l 0 = 46) && (decide (l.length = 1) || (decide (cls (bt l 1) = 1) || decide (cls (bt l 1) = 8))))
def nameT (k : Int) (l : List Int) : TR := ⟨k, nmL l, l.take (nmL l), 0⟩
def highT (l : List Int) : TR := if nmL l = 0 then ⟨8, 1, [], 10⟩ else nameT 1 l
def symT (l : List Int) : TR := ⟨if endT l then 7 else 2, runL 5 l, l.take (runL 5 l), 0⟩
def numT (l : List Int) : TR := if dkE l = 0 then ⟨4, dkK l, l.take (dkK l), 0⟩ else ⟨8, dkK l, [], dkE l⟩
def quoT (l : List Int) : TR := if (tk l).e = 0 then ⟨5, (tk l).n, (tk l).t, 0⟩ else ⟨8, (tk l).n, [], (tk l).e⟩
/-- The token that l begins with. -/
def firstT (l : List Int) : TR :=
  if cls (bt l 0) = 2 then nameT 1 l else if cls (bt l 0) = 3 then nameT 3 l else if cls (bt l 0) = 9 then highT l else if cls (bt l 0) = 5 then symT l
  else if cls (bt l 0) = 4 then numT l else if cls (bt l 0) = 7 then quoT l else if cls (bt l 0) = 6 then ⟨6, 1, l.take 1, 0⟩ else ⟨8, 1, [], 11⟩

theorem firstT2 {l : List Int} (h : cls (bt l 0) = 2) : firstT l = nameT 1 l := by unfold firstT; rw [if_pos h]
theorem firstT3 {l : List Int} (h : cls (bt l 0) = 3) : firstT l = nameT 3 l := by unfold firstT; rw [if_neg (by omega), if_pos h]
theorem firstT9 {l : List Int} (h : cls (bt l 0) = 9) : firstT l = highT l := by unfold firstT; rw [if_neg (by omega), if_neg (by omega), if_pos h]
theorem firstT5 {l : List Int} (h : cls (bt l 0) = 5) : firstT l = symT l := by unfold firstT; rw [if_neg (by omega), if_neg (by omega), if_neg (by omega), if_pos h]
theorem firstT4 {l : List Int} (h : cls (bt l 0) = 4) : firstT l = numT l := by unfold firstT; rw [if_neg (by omega), if_neg (by omega), if_neg (by omega), if_neg (by omega), if_pos h]
theorem firstT7 {l : List Int} (h : cls (bt l 0) = 7) : firstT l = quoT l := by unfold firstT; rw [if_neg (by omega), if_neg (by omega), if_neg (by omega), if_neg (by omega), if_neg (by omega), if_pos h]
theorem firstT6 {l : List Int} (h : cls (bt l 0) = 6) : firstT l = ⟨6, 1, l.take 1, 0⟩ := by unfold firstT; rw [if_neg (by omega), if_neg (by omega), if_neg (by omega), if_neg (by omega), if_neg (by omega), if_neg (by omega), if_pos h]
theorem firstT0 {l : List Int} (h : cls (bt l 0) = 0 ∨ cls (bt l 0) = 1 ∨ cls (bt l 0) = 8) : firstT l = ⟨8, 1, [], 11⟩ := by unfold firstT; rw [if_neg (by omega), if_neg (by omega), if_neg (by omega), if_neg (by omega), if_neg (by omega), if_neg (by omega), if_neg (by omega)]

/-- The first token behind k: where it begins, and what it is; nothing, if there is none. -/
def nx (l : List Int) (k : Nat) : Option (Nat × TR) :=
  if (sk (l.drop k)).2 ≠ 0 then some (k + (sk (l.drop k)).1, ⟨8, l.length - (k + (sk (l.drop k)).1), [], (sk (l.drop k)).2⟩)
  else if k + (sk (l.drop k)).1 = l.length then none
  else some (k + (sk (l.drop k)).1, firstT (l.drop (k + (sk (l.drop k)).1)))

end Go.Proofs.YtecabgmkoknbgaaDoor
