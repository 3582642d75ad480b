/- An argument that is a slice of operators. No walk here. -/
import Derived.Test.YtjkjbgekpkhpfaaGreatDoorAv
import Derived.Test.YtjkjbgekpkhpfaaGreatDoorMF
import Derived.Deep.Slices
namespace Go.Proofs.YtjkjbgekpkhpfaaGreatDoor
open Go.RowKit Go.ChangeShapes Go.WideShapes Go.ChangeAt

/-- The operator that came in. -/
def OA.op (e : OA) : OP := (e.s.data.toList, e.g, e.a)
theorem mk_data (s : ByteArray) : mk s.data.toList = s := by unfold mk; rw [Array.toArray_toList]
theorem weights_all {H : Type} {P : Program} {e : TypeId} {n : Nat} : ∀ {l : List (DataW H)} {d : DataW H}, d ∈ l → n ∈ d.weights P e → n ∈ DataW.weightsAll P e l
  | x :: l, d, h, hn => by
    unfold DataW.weightsAll
    rw [List.mem_append]
    rcases List.mem_cons.1 h with rfl | h
    · exact .inl hn
    · exact .inr (weights_all h hn)
theorem oa_weight {H : Type} (e : OA) : e.s.data.toList.length ∈ (e.d : DataW H).weights Tryz.prog 28 := by
  simp [OA.d, DataW.weights, DataW.weightsEach, Tryz.underlying28]

section
variable {H : Type} {enc : TypeId × Value → H} {w : World} {base : Nat} {held : Bool}

theorem open_opers {a : Option Addr} {len cap : Nat} {d : DataW H} {ps : List MemPlace} (h : DataW.Trod enc Tryz.prog w base (fun _ => true) held 22 (.slice a len cap) d ps) :
    ∃ L : List OP, OpS w a len cap L ∧ ((∀ n ∈ d.weights Tryz.prog 22, n ≤ reachBytes) → ∀ o ∈ L, o.1.length ≤ reachBytes) := by
  obtain ⟨fuel, hf⟩ := h
  rcases Go.Deep.open_slice Tryz.underlying22 hf with ⟨hcs, _⟩ | ⟨x, l, c, m, n, D, Pl, hcs, hb, hl, hm, hmm, hd, hx⟩
  · simp [Value.cells] at hcs
    obtain ⟨rfl, rfl, rfl⟩ := hcs
    exact ⟨[], Vs.nil 3 w none 0 (Nat.zero_le _), fun _ o ho => by cases ho⟩
  · simp [Value.cells] at hcs
    obtain ⟨rfl, rfl, rfl⟩ := hcs
    rw [if_pos rfl] at hmm
    subst hmm
    have key : ∀ i, i < len → ∃ e : OA, (∀ j, j < 3 → w.cell? (x.add (i * 3 + j)) = (opC e.op)[j]?) ∧ D i = e.d := by
      intro i hi
      obtain ⟨cs', h1, h2⟩ := hx i (by omega)
      rw [cellsOper] at h1
      obtain ⟨e, rfl, he⟩ := oper_cells h2
      obtain ⟨_, _, h3⟩ := World.cells?_some h1
      refine ⟨e, fun j hj => ?_, he⟩
      rw [← Go.Deep.add_add, h3 j hj]
      unfold opC OA.op
      rw [mk_data]
    have : Inhabited OA := ⟨⟨ByteArray.empty, 0, 0⟩⟩
    obtain ⟨F, hF⟩ := Go.Deep.choose_lt key
    have hlen : ((List.range len).map fun i => (F i).op).length = len := by simp
    refine ⟨(List.range len).map fun i => (F i).op, ⟨by rw [cO_len, hlen], hl, hm, fun h0 => ?_⟩, fun hw o ho => ?_⟩
    · obtain ⟨b, off, spot⟩ := x
      have h1 := (hF 0 h0).1 0 (by decide)
      have hspot : spot = none := by simpa [Addr.add] using World.cell?_spot h1
      subst hspot
      refine ⟨b, off, rfl, ?_, fun j hj => ?_⟩
      · have := World.block_lt_of_cell? w _ h1
        simpa [Addr.add] using this
      · obtain ⟨i, r, hr, rfl⟩ : ∃ i r, r < 3 ∧ j = i * 3 + r := ⟨j / 3, j % 3, by omega, by omega⟩
        have hi : i < len := by omega
        have h2 := (hF i hi).1 r hr
        have h3 := cO_at ((List.range len).map fun i => (F i).op) i (by omega)
        simp only [List.getElem_map, List.getElem_range] at h3
        rw [addr_add] at h2
        rw [h2]
        obtain rfl | rfl | rfl : r = 0 ∨ r = 1 ∨ r = 2 := by omega
        · exact h3.1.symm
        · exact h3.2.1.symm
        · exact h3.2.2.symm
    · obtain ⟨i, hi, rfl⟩ := List.mem_map.1 ho
      have hil := List.mem_range.1 hi
      refine hw _ ?_
      obtain rfl := (Prod.mk.inj hd).1
      unfold DataW.weights
      rw [Tryz.underlying22]
      refine List.mem_cons_of_mem _ (List.mem_append.2 (.inl (weights_all (List.mem_map.2 ⟨i, hi, rfl⟩) ?_)))
      rw [(hF i hil).2]
      exact oa_weight (F i)

theorem weight_of {ts : List TypeId} {ds : List (DataW H)} (h : (DataW.weightsEach Tryz.prog ts ds).all (· ≤ reachBytes) = true) {j : Nat} {t : TypeId} {d : DataW H} (ht : ts[j]? = some t) (hd : ds[j]? = some d) : ∀ n ∈ d.weights Tryz.prog t, n ≤ reachBytes := fun n hn =>
  of_decide_eq_true (List.all_eq_true.1 h _ (DataW.weights_mem_each ht hd n hn))

end
end Go.Proofs.YtjkjbgekpkhpfaaGreatDoor
