/- A scope's variable made in a region that draws; a scope's block where a row grows. No walk here. -/
import Derived.Test.YtcpmpidpoelleaaGreatDoorZd
namespace Go.Proofs.YtcpmpidpoelleaaGreatDoor
open Go.RowKit

/-- A scope's variable made in a region that draws. -/
theorem step_newS {ops : Array Oper} {o : Oper} {A : Act} {w : World} {K : Act → World → Prop} {Q : Exit → Act → World → Prop} {E : Prop} (hgd : o.guard = none) (ho : o.op = .alloc 31)
    (k : ∀ w' X, X = w.heap.size → SB w' X x0 → Below w.heap.size w w' → K (A.put o.dst (.pointer (some ⟨X, 0, none⟩))) w') : if Region.wanted o (yielded ops A.tmps) = true then o.wp Tryz.prog A w K Q else E := by
  rw [if_pos (show Region.wanted o (yielded ops A.tmps) = true by simp [Region.wanted, hgd])]
  have h := k (w.alloc (.cells (sv x0) 31)) w.heap.size rfl (SB.new w x0) (below_alloc w _)
  have hr : (Instr.alloc 31 true (.tuple #[])).run Tryz.prog w = .ok (.pointer (some ⟨w.heap.size, 0, none⟩)) (w.alloc (.cells (sv x0) 31)) := by kernel_rfl
  unfold Oper.wp execOp
  simp only [ho, hr, Sem.run_bind, Result.andThen_ok, Sem.run_pure]
  exact h
/-- A scope's block stands where a row of another type grows. -/
theorem SB.grown {base : Nat} {e : TypeId} {k b : Nat} {w w' : World} {x : XV} {a : Option Addr} {n c : Nat} {ys : List Value} (h : SB w b x) (hr : OwnV base e k w a n c ys) (ht : e ≠ 31) (hg : w.grownBy w' (Value.ownBlock (.slice a n c))) : SB w' b x := by
  refine (hg.block b h.lt ?_).trans h
  intro hbb
  rcases hr.2 with ⟨hv', _⟩ | ⟨q', cp', cur', hv', _, hq', r'⟩
  · simp only [Value.slice.injEq] at hv'
    obtain ⟨rfl, _⟩ := hv'
    simp [Value.ownBlock] at hbb
  · simp only [Value.slice.injEq, true_and] at hv'
    obtain ⟨rfl, _⟩ := hv'
    simp [Value.ownBlock] at hbb
    subst hbb
    unfold SB at h
    rw [hq'] at h
    simp only [Option.some.injEq, Obj.cells.injEq] at h
    exact ht h.2.1

end Go.Proofs.YtcpmpidpoelleaaGreatDoor
