/- Texts laid one behind the other. -/
import Derived.Test.YtjkjbgekpkhpfaaDoorM4
import Derived.Lib.ItoaNum
import Derived.Lib.ItoaMem
import Derived.Shelf.Strconv.AppendIntPublic10
import Derived.Test.YtjkjbgekpkhpfaaDoorSh
import Derived.Test.YtjkjbgekpkhpfaaDoorM1
import Derived.Lib.Hide
import Derived.Below
import Derived.Stop.LaidErr

/- The plain mathematics of layer 3: a number's digits. No walk here. -/
namespace Go.Proofs.YtjkjbgekpkhpfaaDoor
open Go.RowKit

/-- A number's digits, as bytes. -/
def digL (n : Nat) : List Int := (Lib.decDigits n).map fun b => (b.toNat : Int)

theorem digL_small {n : Nat} (h : n < 10) : digL n = [48 + (n : Int)] := by
  unfold digL
  rw [Lib.decDigits_one h]
  simp only [List.map_cons, List.map_nil, UInt8.toNat_ofNat']
  congr 1
  omega

theorem digL_big {n : Nat} (h : ¬ n < 10) : digL n = digL (n / 10) ++ [48 + ((n % 10 : Nat) : Int)] := by
  unfold digL
  rw [Lib.decDigits, dif_neg h]
  simp only [List.map_append, List.map_cons, List.map_nil, UInt8.toNat_ofNat']
  congr 2
  omega

theorem digL_cells (n : Nat) : (digL n).map (Value.int .u8) = Lib.byteCells (Lib.decDigits n) := by
  unfold digL Lib.byteCells; rw [List.map_map]; rfl

theorem digL_digs : ∀ n : Nat, digs (digL n) := by
  intro n
  induction n using Nat.strongRecOn with
  | ind n ih =>
    intro x hx
    by_cases h : n < 10
    · rw [digL_small h] at hx; simp at hx; omega
    · rw [digL_big h] at hx
      simp only [List.mem_append, List.mem_singleton] at hx
      rcases hx with hx | hx
      · exact ih (n / 10) (by omega) x hx
      · omega

theorem digL_rng (n : Nat) : ∀ x ∈ digL n, 0 ≤ x ∧ x ≤ 255 := fun x hx => by have := digL_digs n x hx; omega

theorem digL_len (n : Nat) : (digL n).length = (Lib.decDigits n).length := by unfold digL; simp

theorem digL_pos (n : Nat) : 0 < (digL n).length := by
  by_cases h : n < 10
  · rw [digL_small h]; simp
  · rw [digL_big h]; simp

theorem digL_le (n : Nat) (h : n ≤ 2147483647) : (digL n).length ≤ 10 := by
  suffices ∀ k n : Nat, n < 10 ^ (k + 1) → (digL n).length ≤ k + 1 from this 9 n (by omega)
  intro k
  induction k with
  | zero => intro n hn; rw [digL_small (by omega)]; simp
  | succ k ih =>
    intro n hn
    by_cases h : n < 10
    · rw [digL_small h]; simp
    · rw [digL_big h]
      have := ih (n / 10) (by rw [Nat.div_lt_iff_lt_mul (by omega)]; rw [Nat.pow_succ] at hn; exact hn)
      simp; omega

theorem numL_digL : ∀ n : Nat, numL (digL n) = n := by
  intro n
  induction n using Nat.strongRecOn with
  | ind n ih =>
    by_cases h : n < 10
    · rw [digL_small h]; show 0 * 10 + (48 + (n : Int) - 48) = n; omega
    · rw [digL_big h, numL_snoc, ih (n / 10) (by omega)]; omega

end Go.Proofs.YtjkjbgekpkhpfaaDoor

/- Contract of package digits' Put. -/
namespace Go.Proofs.YtjkjbgekpkhpfaaDoor
open Go.RowKit

/-- The library's table of powers is in its place. -/
def Pow (w : World) : Prop := Lib.TabIs Tryd.prog w "internal/strconv.uint64pow10" .u64 Lib.pow10Tab

theorem Pow.keep {w w' : World} (h : Pow w) (hb : Below w.heap.size w w') : Pow w' := Lib.tabBelow_of_tabIs h w' hb

theorem powCells : cellsFor Tryd.prog 3 106 (Rows.laid_internal_strconv_uint64pow10 (H := Unit)) = some (Lib.pow10Tab.map fun z => Value.int .u64 z) := by kernel_rfl
theorem powNum : Tryd.prog.globalNamed "internal/strconv.uint64pow10" = some 2 := by kernel_rfl
theorem powTyp : (Tryd.prog.globals[2]?).map (·.type) = some 106 := by kernel_rfl

theorem pow_of_laid {W : World} {rest : List (String × DataW Unit)} (h : laidMet Tryd.prog (("internal/strconv.uint64pow10", Rows.laid_internal_strconv_uint64pow10) :: rest) W) : Pow W :=
  laid_cells powNum powTyp powCells h

/-- digits.Put's answer at a number that it takes. -/
def PutPost (n : Nat) (w : World) (e : Ending) (w' : World) : Prop :=
  ∃ a c, e = .returned (.tuple #[.slice a (digL n).length c, .int .i64 0]) ∧ OwnB w.heap.size 5 w' a (digL n).length c (digL n) ∧ Below w.heap.size w w'

set_option maxHeartbeats 400000 in
theorem put_any (n : Nat) (w : World) (h : n ≤ 2147483647) (hp : Pow w) :
    Calls Tryd.prog 6 #[.int .i64 n] w (PutPost n w) := by
  have hT := Lib.tabBelow_of_tabIs hp
  have hlen := digL_le n h
  have HT := Lib.hid hT
  clear hT hp
  go_enter Tryd.func6, Tryd.ntmps6
  go_wp2_with (go_at_call 11; refine (Tryd.strconv_AppendInt_10 w.heap.size 0 n (by omega) (by omega) (.slice none 0 0) [] w (World.ownsRow_nil _ _ _ _) (Nat.le_refl _) (by omega) HT.out).mono ?_; rintro e w1 ⟨v1, rfl, hown1, hnx1, -⟩; refine Hid.out ?_)
  refine Lib.hid ?_
  have e0 : Lib.itoa (n : Int) = Lib.decDigits n := Lib.itoa_nonneg n
  rw [Nat.zero_add, List.nil_append, e0, ← digL_cells, ← digL_len] at hown1
  have hO : ∃ a c, v1 = .slice a (digL n).length c ∧ OwnB w.heap.size 5 w1 a (digL n).length c (digL n) := by
    rcases hown1.2 with ⟨hv, h0⟩ | ⟨g, cp, cur, hv, r⟩
    · have := digL_pos n; omega
    · subst hv; exact ⟨_, _, rfl, hown1, digL_rng n⟩
  obtain ⟨a, c, rfl, hO⟩ := hO
  have HO := Lib.hid hO
  have HB := Lib.hid hnx1
  clear hown1 e0 hO hnx1
  go_wp2
  exact bodyPost_ret (v := .tuple #[.slice a (digL n).length c, .int .i64 0]) (by simp [results, Tryd.results6, go_sem]) rfl ⟨a, c, rfl, HO.out, HB.out⟩

theorem put_bad (n : Int) (w : World) (h : n < 0 ∨ 2147483647 < n) :
    Calls Tryd.prog 6 #[.int .i64 n] w fun e w' => e = .returned (.tuple #[.slice none 0 0, .int .i64 1]) ∧ w = w' := by
  rcases h with h | h
  · go_enter Tryd.func6, Tryd.ntmps6
    go_wp2
    exact bodyPost_ret (v := .tuple #[.slice none 0 0, .int .i64 1]) (by simp [results, Tryd.results6, go_sem]) rfl ⟨rfl, rfl⟩
  · have h' : ¬ n < 0 := by omega
    go_enter Tryd.func6, Tryd.ntmps6
    go_wp2
    exact bodyPost_ret (v := .tuple #[.slice none 0 0, .int .i64 1]) (by simp [results, Tryd.results6, go_sem]) rfl ⟨rfl, rfl⟩

end Go.Proofs.YtjkjbgekpkhpfaaDoor
