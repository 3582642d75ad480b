/- A step of a region that draws its order, said short. -/
import Derived.OrdersHeld
namespace Go.Proofs.YtkaeanaeklilfaaGreatDoor

section
variable {P : Program} {ops : Array Oper} {Q : Exit → Act → World → Prop} {md : Region.Mode} {S : World → Prop} {d : Option Tmp} {op : Op} {ty : TypeId} {ps : String} {af : Array Edge} {g : Option (Tmp × Bool)} {v : Value} {fuel : Nat} {listed : Array Bool} {a : Act} {w : World}
/-- Operation i is taken first: the text of it is read off the region. -/
theorem hTk (i : Nat) (hi : ops[i]? = some (Oper.mk d op ty ps af g)) (h3 : (Region.noSelect ops && (Region.free md ops listed i && (Region.ready md ops listed).contains i)) = true)
    (hQ : ∀ c a w, Q (.panic c) (a.put d v) w → Q (.panic c) a w) (hw : Region.wanted (Oper.mk d op ty ps af g) (yielded ops a.tmps) = true) (hy : ∀ w, S w → (execOp a.eval (Oper.mk d op ty ps af g)).run P w = .ok (.value v) w) (hS : S w)
    (h : wpAnyH P md ops Q S fuel (listed.setIfInBounds i true) (a.put d v) w) : wpAnyH P md ops Q S (fuel + 1) listed a w := by
  simp only [Bool.and_eq_true] at h3
  exact wpAnyH_take hi h3.1 h3.2.1 h3.2.2 hQ (Or.inl ⟨hw, hy⟩) hS h
/-- The same where its guard leaves it out. -/
theorem hTn (i : Nat) (hi : ops[i]? = some (Oper.mk d op ty ps af g)) (h3 : (Region.noSelect ops && (Region.free md ops listed i && (Region.ready md ops listed).contains i)) = true)
    (hQ : ∀ c a w, Q (.panic c) (a.put d undef) w → Q (.panic c) a w) (hw : Region.wanted (Oper.mk d op ty ps af g) (yielded ops a.tmps) = false) (hS : S w)
    (h : wpAnyH P md ops Q S fuel (listed.setIfInBounds i true) (a.put d undef) w) : wpAnyH P md ops Q S (fuel + 1) listed a w := by
  simp only [Bool.and_eq_true] at h3
  exact wpAnyH_take hi h3.1 h3.2.1 h3.2.2 hQ (Or.inr ⟨hw, rfl⟩) hS h
end

end Go.Proofs.YtkaeanaeklilfaaGreatDoor
