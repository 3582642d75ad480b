/- Contract of package digits' Put. -/
import Derived.Test.YtmklkpckheafiaaDoorPm
import Derived.Test.YtmklkpckheafiaaDoorSh
import Derived.Test.YtmklkpckheafiaaDoorUb
import Derived.Lib.Hide
import Derived.Below
import Derived.Stop.LaidErr
namespace Go.Proofs.YtmklkpckheafiaaDoor
open Go.RowKit

/-- The library's table of powers is in its place. -/
def Pow (w : World) : Prop := Lib.TabIs Tryd.prog w "internal/strconv.uint64pow10" .u64 Lib.pow10Tab

theorem Pow.keep {w w' : World} (h : Pow w) (hb : Below w.heap.size w w') : Pow w' := Lib.tabBelow_of_tabIs h w' hb

theorem powCells : cellsFor Tryd.prog 3 53 (Rows.laid_internal_strconv_uint64pow10 (H := Unit)) = some (Lib.pow10Tab.map fun z => Value.int .u64 z) := by kernel_rfl
theorem powNum : Tryd.prog.globalNamed "internal/strconv.uint64pow10" = some 1 := by kernel_rfl
theorem powTyp : (Tryd.prog.globals[1]?).map (·.type) = some 53 := by kernel_rfl

theorem pow_of_laid {W : World} {rest : List (String × DataW Unit)} (h : laidMet Tryd.prog (("internal/strconv.uint64pow10", Rows.laid_internal_strconv_uint64pow10) :: rest) W) : Pow W :=
  laid_cells powNum powTyp powCells h

/-- digits.Put's answer at a number that it takes. -/
def PutPost (n : Nat) (w : World) (e : Ending) (w' : World) : Prop :=
  ∃ a c, e = .returned (.tuple #[.slice a (digL n).length c, .int .i64 0]) ∧ OwnB w.heap.size 5 w' a (digL n).length c (digL n) ∧ Below w.heap.size w w'

set_option maxHeartbeats 400000 in
theorem put_any (n : Nat) (w : World) (h : n ≤ 2147483647) (hp : Pow w) :
    Calls Tryd.prog 11 #[.int .i64 n] w (PutPost n w) := by
  have hT := Lib.tabBelow_of_tabIs hp
  have hlen := digL_le n h
  have HT := Lib.hid hT
  clear hT hp
  go_enter Tryd.func11, Tryd.ntmps11
  go_wp2_with (go_at_call 15; refine (Tryd.strconv_AppendInt_10 w.heap.size 0 n (by omega) (by omega) (.slice none 0 0) [] w (World.ownsRow_nil _ _ _ _) (Nat.le_refl _) (by omega) HT.out).mono ?_; rintro e w1 ⟨v1, rfl, hown1, hnx1, -⟩; refine Hid.out ?_)
  refine Lib.hid ?_
  have e0 : Lib.itoa (n : Int) = Lib.decDigits n := Lib.itoa_nonneg n
  rw [Nat.zero_add, List.nil_append, e0, ← digL_cells, ← digL_len] at hown1
  have hO : ∃ a c, v1 = .slice a (digL n).length c ∧ OwnB w.heap.size 5 w1 a (digL n).length c (digL n) := by
    rcases hown1.2 with ⟨hv, h0⟩ | ⟨g, cp, cur, hv, r⟩
    · have := digL_pos n; omega
    · subst hv; exact ⟨_, _, rfl, hown1, digL_rng n⟩
  obtain ⟨a, c, rfl, hO⟩ := hO
  have HO := Lib.hid hO
  have HB := Lib.hid hnx1
  clear hown1 e0 hO hnx1
  go_wp2
  exact bodyPost_ret (v := .tuple #[.slice a (digL n).length c, .int .i64 0]) (by simp [results, Tryd.results11, go_sem]) rfl ⟨a, c, rfl, HO.out, HB.out⟩

theorem put_bad (n : Int) (w : World) (h : n < 0 ∨ 2147483647 < n) :
    Calls Tryd.prog 11 #[.int .i64 n] w fun e w' => e = .returned (.tuple #[.slice none 0 0, .int .i64 1]) ∧ w = w' := by
  rcases h with h | h
  · go_enter Tryd.func11, Tryd.ntmps11
    go_wp2
    exact bodyPost_ret (v := .tuple #[.slice none 0 0, .int .i64 1]) (by simp [results, Tryd.results11, go_sem]) rfl ⟨rfl, rfl⟩
  · have h' : ¬ n < 0 := by omega
    go_enter Tryd.func11, Tryd.ntmps11
    go_wp2
    exact bodyPost_ret (v := .tuple #[.slice none 0 0, .int .i64 1]) (by simp [results, Tryd.results11, go_sem]) rfl ⟨rfl, rfl⟩

end Go.Proofs.YtmklkpckheafiaaDoor
