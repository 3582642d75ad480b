/- The law's own numbered and shown. -/
import Derived.Test.YtciijlcemmhbfaaDoorAf
import Derived.Test.YtciijlcemmhbfaaDoorAs
import Derived.Laws.ResultCell
namespace Go.Proofs.YtciijlcemmhbfaaDoor
open Go.RowKit

theorem bstr_one (u : Nat) : bstr [97 + (u : Int)] = mk [UInt8.ofNat (97 + u)] := by
  unfold bstr
  rw [List.map_singleton, show (97 + (u : Int)).toNat = 97 + u from by omega]
  rfl

set_option maxRecDepth 20000 in
theorem numbered_any (i : Nat) (hi : i < 26) (g : Int) (w : World) :
    Calls Tryd.prog 10 #[.int .i64 i, .int .i64 g] w fun e w' => e = .returned (.agg #[.string (mk (nP i)), .int .i64 g, .int .i64 0]) ∧ Below w.heap.size w w' := by
  obtain ⟨B, hB⟩ : ∃ B, B = w.heap.size := ⟨_, rfl⟩
  obtain ⟨w1, hw1⟩ : ∃ w1, w1 = w.alloc (.cells #[.string ⟨#[]⟩, .int .i64 0, .int .i64 0] 25) := ⟨_, rfl⟩
  have h1 : w1.heap[B]? = some (.cells #[.string ⟨#[]⟩, .int .i64 0, .int .i64 0] 25 (0, 0)) := by rw [hw1, hB]; exact heap_alloc_new w _
  have s1 : w1.heap.size = B + 1 := by rw [hw1, hB]; simp
  have hmod : Int.tmod (i : Int) 26 = (i : Int) := by rw [Int.tmod_eq_emod_of_nonneg (by omega)]; omega
  have hconv := (Bs.lit w1 5 (mk := (0, 0)) (n := 1) (g := w1.heap.size) (l := [97 + (i : Int)]) (cs := #[.int .u8 (97 + (i : Int))]) rfl (fun z hz => by rw [List.mem_singleton.1 hz]; omega) rfl rfl (show 1 ≤ maxLen by decide)).str (P := Tryd.prog) 40 9 5 Tryd.underlying40 Tryd.underlying5 Tryd.underlying9
  rw [bstr_one, s1, hw1, hB] at hconv
  have HNP : Hid (nP i = [120, UInt8.ofNat (97 + i), 95]) := Lib.hid rfl
  obtain ⟨c8, hc8⟩ : ∃ c, c = UInt8.ofNat (97 + i) := ⟨_, rfl⟩
  rw [← hc8] at hconv HNP
  clear hc8
  have hm1 : (mk [c8]).size = 1 := mk_size [c8]
  have hm2 : (mk [120, c8]).size = 2 := mk_size [120, c8]
  have ha1 : ({ data := #[120] } : ByteArray) ++ mk [c8] = mk [120, c8] := by rw [show ({ data := #[120] } : ByteArray) = mk [120] from rfl, mk_app]; rfl
  have ha2 : mk [120, c8] ++ ({ data := #[95] } : ByteArray) = mk [120, c8, 95] := by rw [show ({ data := #[95] } : ByteArray) = mk [95] from rfl, mk_app]; rfl
  have h2 : (w1.alloc (.cells #[.int .u8 (97 + (i : Int))] 5)).heap[B]? = some (.cells #[.string ⟨#[]⟩, .int .i64 0, .int .i64 0] 25 (0, 0)) := (Below.heap_alloc w1 _ B (by omega)).trans h1
  obtain ⟨w2, hw2⟩ : ∃ w2, w2 = w1.alloc (.cells #[.int .u8 (97 + (i : Int))] 5) := ⟨_, rfl⟩
  rw [← hw2] at h2
  rw [hw1] at hw2
  obtain ⟨⟨x0, x1, x2⟩, f0, f1, f2⟩ := three h2
  rw [hw2, hB] at x0 x1 x2 f0 f1 f2
  have hbo : ∀ w, (Instr.build 25 #[(0, .string (mk [120, c8, 95])), (1, .int .i64 g)]).run Tryd.prog w = .ok (.agg #[.string (mk [120, c8, 95]), .int .i64 g, .int .i64 0]) w := fun w => by kernel_rfl
  clear h1 s1 h2 hw1
  go_enter Tryd.func10, Tryd.ntmps10
  go_wp2
  exact bodyPost_ret (results_cell_row rfl _ _ w.heap.size 25 #[.string (mk [120, c8, 95]), .int .i64 g, .int .i64 0] (0, 0) _ rfl ((Below.heap_alloc _ _ _ (by simp)).trans (heap_alloc_new w _)) Tryd.underlying25 rfl (by kernel_rfl)) rfl ⟨by rw [HNP.out], (below_alloc w _).alloc (by simp) _⟩

end Go.Proofs.YtciijlcemmhbfaaDoor
