/- Texts laid one behind the other. -/
import Derived.Test.YtkaeanaeklilfaaGreatDoorM7
import Derived.Laws.StructEq
import Derived.Lib.SmallJoins

/- Tokens compared; a token in a block. -/
namespace Go.Proofs.YtkaeanaeklilfaaGreatDoor
open Go.RowKit

/-- Block g holds these cells. -/
structure TV (g : Nat) (cs : Array Value) (w : World) : Prop where
  lt : g < w.heap.size
  c : ∀ i, w.cell? ⟨g, i, none⟩ = cs[i]?
  z : ∀ i, w.frozen? ⟨g, i, none⟩ = false

theorem tv_new (w : World) (cs : Array Value) (e : TypeId) : TV w.heap.size cs (w.alloc (.cells cs e)) := ⟨by simp, fun i => cell_of_row _ _ _ _ _ _ (heap_alloc_new w _), fun i => frozen_of_row _ _ _ _ _ (heap_alloc_new w _)⟩
theorem TV.keep {g : Nat} {cs : Array Value} {w w' : World} (h : TV g cs w) (hb : Below w.heap.size w w') : TV g cs w' :=
  ⟨Nat.lt_of_lt_of_le h.lt hb.size, fun i => (hb.cell (p := ⟨g, i, none⟩) h.lt).trans (h.c i), fun i => (hb.frozen (p := ⟨g, i, none⟩) h.lt).trans (h.z i)⟩
end Go.Proofs.YtkaeanaeklilfaaGreatDoor

/- Next at any place, with its answer's parts by name. -/
namespace Go.Proofs.YtkaeanaeklilfaaGreatDoor
open Go.RowKit

def xk : Option (Nat × TR) → Int | none => 0 | some (_, t) => t.k
def xf : Option (Nat × TR) → Nat | none => 0 | some (f, _) => f
def xt : Option (Nat × TR) → Nat | none => 0 | some (f, t) => f + t.n
def xs : Option (Nat × TR) → List Int | none => [] | some (_, t) => t.t
theorem nxV_none : nxV none = .tuple #[.agg #[.int .i64 0, .int .i64 0, .int .i64 0, .string ⟨#[]⟩, .int .i64 0], .bool false] := rfl
theorem nxV_some (f : Nat) (t : TR) : nxV (some (f, t)) = .tuple #[.agg #[.int .i64 t.k, .int .i64 f, .int .i64 (f + t.n : Nat), .string (bstr t.t), .int .i64 t.e], .bool true] := rfl

/-- A token that there is: where it begins, and what it is like. -/
theorem nx_good {l : List Int} {k f : Nat} {t : TR} (hk : k ≤ l.length) (hr : ∀ x ∈ l, 0 ≤ x ∧ x ≤ 255) (h : nx l k = some (f, t)) :
    f = k + (sk (l.drop k)).1 ∧ f < l.length ∧ TG (l.drop f) t := by
  obtain ⟨n, z, hs, hn, hz⟩ := sk_ways l k hk
  by_cases h0 : z = 0
  · subst h0
    by_cases he : k + n = l.length
    · rw [nx_none hs he] at h; cases h
    · rw [nx_some hs he] at h
      simp only [Option.some.injEq, Prod.mk.injEq] at h
      obtain ⟨rfl, rfl⟩ := h
      exact ⟨by rw [hs], by omega, firstT_good (by rw [List.length_drop]; omega) fun x hx => hr x (List.drop_subset _ _ hx)⟩
  · have h1 := hz h0
    rw [nx_err hs h0] at h
    simp only [Option.some.injEq, Prod.mk.injEq] at h
    obtain ⟨rfl, rfl⟩ := h
    refine ⟨by rw [hs], h1.1, ⟨by show 1 ≤ l.length - (k + n); omega, by show l.length - (k + n) ≤ _; rw [List.length_drop]; omega, by simp, by simp, ?_, fun _ => rfl, fun hh => absurd rfl hh⟩⟩
    simpa using h0

end Go.Proofs.YtkaeanaeklilfaaGreatDoor

/- How far the first token goes: what stands at its beginning, and behind it. No walk here. -/
namespace Go.Proofs.YtkaeanaeklilfaaGreatDoor
open Go.RowKit

end Go.Proofs.YtkaeanaeklilfaaGreatDoor

/- What stands ahead only moves the token. No walk here. -/
namespace Go.Proofs.YtkaeanaeklilfaaGreatDoor
open Go.RowKit

end Go.Proofs.YtkaeanaeklilfaaGreatDoor

/- Names, digits, runs of symbols and brackets alone: each is one token. And a string turned to bytes. No walk here. -/
namespace Go.Proofs.YtkaeanaeklilfaaGreatDoor
open Go.RowKit

theorem bstr_size (l : List Int) : (bstr l).size = l.length := by simp [bstr, ByteArray.size]
/-- []byte(s). -/
theorem conv_str (w : World) (s : ByteArray) (l : List Int) (hs : s = bstr l) (hr : ∀ x ∈ l, 0 ≤ x ∧ x ≤ 255) (hl : l.length ≤ 1000000) :
    ∃ g C W', (convert 9 54 (.string s)).run Tryz.prog w = .ok (.slice (some ⟨g, 0, none⟩) l.length C) W' ∧ Bs W' (some ⟨g, 0, none⟩) l.length C l ∧ Below w.heap.size w W' := by
  have h := run_bytes_of_string (P := Tryz.prog) w 9 54 5 s Tryz.underlying9 Tryz.underlying54 Tryz.underlying5
  have hz : s.size = l.length := by rw [hs, bstr_size]
  have hc1 := grownCap_ge w s.size 0 5
  have hc2 := grownCap_le_maxLen w s.size 0 5 (by unfold maxLen; omega)
  rw [hz] at hc1 hc2 h
  refine ⟨_, _, _, h, ⟨rfl, hc1, hc2, hr, fun h0 => ⟨_, 0, rfl, by simp, fun j hj => ?_⟩⟩, ((Below.refl _ _).drew).alloc (Nat.le_refl _) _⟩
  have hn := cell_of_row (w.drew.alloc (.cells (bytesRow s (grownCap w l.length 0 5)) 5 ((bytesRow s (grownCap w l.length 0 5)).size, (bytesRow s (grownCap w l.length 0 5)).size + 1))) w.heap.size (0 + j) _ 5 _ (heap_alloc_new w.drew _)
  rw [hn]
  rw [bytesRow_at s _ (0 + j) (show 0 + j < s.size from by omega)]
  subst hs
  simp only [Nat.zero_add, bstr, List.getElem_toArray, List.getElem_map]
  rw [u8_back (hr _ (List.getElem_mem hj))]
  simp [bt, List.getD, hj]

end Go.Proofs.YtkaeanaeklilfaaGreatDoor
