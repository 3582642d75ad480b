/- Contract of package class's has: whether a text has a byte. -/
import Derived.Test.YtecabgmkoknbgaaDoorRows
import Derived.Test.YtecabgmkoknbgaaDoorUb
import Derived.Test.YtecabgmkoknbgaaDoorVx
import Derived.Lib.Hide
import Derived.Laws.RangeString
import Derived.Laws.RangeAny
import Derived.BigQuiet
import Derived.Deep.QuietTactic
namespace Go.Proofs.YtecabgmkoknbgaaDoor
open Go.RowKit

/-- Whether one of the bytes from a place on is c. -/
def memFrom (s : ByteArray) (c : Int) (k : Nat) : Bool := (s.data.toList.drop k).any fun b => (b.toNat : Int) == c

theorem memFrom_end {s : ByteArray} {c : Int} {k : Nat} (h : ¬ k < s.size) : memFrom s c k = false := by
  unfold memFrom
  rw [List.drop_eq_nil_iff.2 (by rw [Array.length_toList]; exact Nat.le_of_not_lt h)]
  rfl

theorem memFrom_step {s : ByteArray} {c : Int} {k : Nat} (h : k < s.size) : memFrom s c k = (((s[k].toNat : Int) == c) || memFrom s c (k + 1)) := by
  unfold memFrom
  rw [List.drop_eq_getElem_cons (by rw [Array.length_toList]; exact h)]
  rfl

set_option maxHeartbeats 400000 in
theorem has_any (s : ByteArray) (c : Int) (w : World) (ha : ∀ k (h : k < s.size), (s[k]'h).toNat < 128) (h0 : 0 ≤ c) (h1 : c ≤ 255) :
    Calls Tryd.prog 62 #[.string s, .int .u8 c] w fun e w' => e = .returned (.bool (memFrom s c 0)) ∧ ∃ pos, w' = w.iter s pos := by
  go_enter Tryd.func62, Tryd.ntmps62
  go_wp2
  go_loopw [] (fun w' => ∃ pos, w' = w.iter s pos ∧ Hid (memFrom s c pos = memFrom s c 0)) (fun w' => s.size - w'.iterPos w.heap.size)
  case atStart => exact ⟨0, rfl, Lib.hid rfl⟩
  case round =>
    obtain ⟨pos, rfl, HM⟩ := hrel
    by_cases hp : pos < s.size
    · have hnx : ∀ ty, (Instr.next (.pointer (some ⟨w.heap.size, 0, none⟩)) true ty).run Tryd.prog (w.iter s pos) = _ := fun ty => run_next_ascii w s pos ty hp (ha pos hp)
      have hst := memFrom_step (c := c) hp
      have HS := Lib.hid hst
      clear hst
      go_wp2
      · rename_i hq
        have HT : Hid (memFrom s c 0 = true) := Lib.hid (by rw [← HM.out, HS.out, hq]; rfl)
        go_ret
        exact ⟨by rw [HT.out]; rfl, _, rfl⟩
      · rename_i hq
        go_roundw
        case rel => exact ⟨pos + 1, rfl, Lib.hid (by rw [← HM.out, HS.out, hq]; rfl)⟩
        case measure => simp; omega
    · have hnx : ∀ ty, (Instr.next (.pointer (some ⟨w.heap.size, 0, none⟩)) true ty).run Tryd.prog (w.iter s pos) = _ := fun ty => run_next_end w s pos ty hp
      have HT : Hid (memFrom s c 0 = false) := Lib.hid (by rw [← HM.out]; exact memFrom_end hp)
      go_wp2
      go_ret
      exact ⟨by rw [HT.out]; rfl, _, rfl⟩

end Go.Proofs.YtecabgmkoknbgaaDoor
