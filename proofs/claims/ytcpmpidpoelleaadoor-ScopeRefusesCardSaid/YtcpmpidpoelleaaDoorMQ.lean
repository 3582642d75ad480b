/- Texts laid one behind the other. -/
import Derived.Test.YtcpmpidpoelleaaDoorMF
import Derived.Laws.ResultCell
import Derived.Laws.Rows
import Derived.Test.YtcpmpidpoelleaaDoorMK
import Derived.Deep.Slices
import Derived.Test.YtcpmpidpoelleaaDoorML

/- Contract of the document's Fit: an operator that may be. -/
namespace Go.Proofs.YtcpmpidpoelleaaDoor
open Go.RowKit

theorem tmod_rng (g : Int) (k : Int) (hk : 0 < k) : -k < Int.tmod g k ∧ Int.tmod g k < k := by
  have h1 := Int.tmod_lt_of_pos g hk
  have h2 := Int.lt_tmod_of_pos g hk
  exact ⟨h2, h1⟩

/-- The sum of the first bytes. -/
def sumU (p : Nm) : Nat → Nat
  | 0 => 0
  | k + 1 => sumU p k + (p.getD k 0).toNat
theorem sumU_le (p : Nm) : ∀ k, sumU p k ≤ 255 * k
  | 0 => by simp [sumU]
  | k + 1 => by have := sumU_le p k; have := (p.getD k 0).toNat_lt; show sumU p k + (p.getD k 0).toNat ≤ _; omega
/-- What Fit makes of a pattern, a group, an associativity: an operator that may be. -/
def fitQ (p : Nm) : Nat := sumU p p.length % 16
def fitG (g : Int) : Int := 1 + Int.tmod (Int.tmod g 9 + 9) 9
def fitA (p : Nm) (g a : Int) : Int := if mayV (pat (fitQ p)) (fitG g) (Int.tmod (Int.tmod a 3 + 3) 3) = 0 then Int.tmod (Int.tmod a 3 + 3) 3 else 0
theorem fitQ_lt (p : Nm) : fitQ p < 16 := Nat.mod_lt _ (by decide)
theorem fitG_rng (g : Int) : 1 ≤ fitG g ∧ fitG g ≤ 9 := by
  have := tmod_rng g 9 (by decide)
  unfold fitG
  rw [Int.tmod_eq_emod_of_nonneg (a := Int.tmod g 9 + 9) (by omega)]
  omega
theorem fitA_rng (p : Nm) (g a : Int) : 0 ≤ fitA p g a ∧ fitA p g a ≤ 2 := by
  have := tmod_rng a 3 (by decide)
  unfold fitA
  rw [Int.tmod_eq_emod_of_nonneg (a := Int.tmod a 3 + 3) (by omega)]
  split <;> omega
theorem fit_may (p : Nm) (g a : Int) : mayV (pat (fitQ p)) (fitG g) (fitA p g a) = 0 := by
  unfold fitA
  split
  · assumption
  · obtain ⟨s, hs⟩ := pat_is (fitQ_lt p)
    rw [mayV_some hs (fitG_rng g), sdB_zero]
    rfl

theorem oper_info : (Tryd.prog.info? 33).map (·.size) = some 3 := by kernel_rfl

end Go.Proofs.YtcpmpidpoelleaaDoor

/- An argument that is a slice of operators. No walk here. -/
namespace Go.Proofs.YtcpmpidpoelleaaDoor
open Go.RowKit Go.ChangeShapes Go.WideShapes Go.ChangeAt

/-- The operator that came in. -/
def OA.op (e : OA) : OP := (e.s.data.toList, e.g, e.a)
theorem mk_data (s : ByteArray) : mk s.data.toList = s := by unfold mk; rw [Array.toArray_toList]
theorem weights_all {H : Type} {P : Program} {e : TypeId} {n : Nat} : ∀ {l : List (DataW H)} {d : DataW H}, d ∈ l → n ∈ d.weights P e → n ∈ DataW.weightsAll P e l
  | x :: l, d, h, hn => by
    unfold DataW.weightsAll
    rw [List.mem_append]
    rcases List.mem_cons.1 h with rfl | h
    · exact .inl hn
    · exact .inr (weights_all h hn)
theorem oa_weight {H : Type} (e : OA) : e.s.data.toList.length ∈ (e.d : DataW H).weights Tryd.prog 33 := by
  simp [OA.d, DataW.weights, DataW.weightsEach, Tryd.underlying33]

section
variable {H : Type} {enc : TypeId × Value → H} {w : World} {base : Nat} {held : Bool}

theorem open_opers {a : Option Addr} {len cap : Nat} {d : DataW H} {ps : List MemPlace} (h : DataW.Trod enc Tryd.prog w base (fun _ => true) held 23 (.slice a len cap) d ps) :
    ∃ L : List OP, OpS w a len cap L ∧ ((∀ n ∈ d.weights Tryd.prog 23, n ≤ reachBytes) → ∀ o ∈ L, o.1.length ≤ reachBytes) := by
  obtain ⟨fuel, hf⟩ := h
  rcases Go.Deep.open_slice Tryd.underlying23 hf with ⟨hcs, _⟩ | ⟨x, l, c, m, n, D, Pl, hcs, hb, hl, hm, hmm, hd, hx⟩
  · simp [Value.cells] at hcs
    obtain ⟨rfl, rfl, rfl⟩ := hcs
    exact ⟨[], Vs.nil 3 w none 0 (Nat.zero_le _), fun _ o ho => by cases ho⟩
  · simp [Value.cells] at hcs
    obtain ⟨rfl, rfl, rfl⟩ := hcs
    rw [if_pos rfl] at hmm
    subst hmm
    have key : ∀ i, i < len → ∃ e : OA, (∀ j, j < 3 → w.cell? (x.add (i * 3 + j)) = (opC e.op)[j]?) ∧ D i = e.d := by
      intro i hi
      obtain ⟨cs', h1, h2⟩ := hx i (by omega)
      rw [cellsOper] at h1
      obtain ⟨e, rfl, he⟩ := oper_cells h2
      obtain ⟨_, _, h3⟩ := World.cells?_some h1
      refine ⟨e, fun j hj => ?_, he⟩
      rw [← Go.Deep.add_add, h3 j hj]
      unfold opC OA.op
      rw [mk_data]
    have : Inhabited OA := ⟨⟨ByteArray.empty, 0, 0⟩⟩
    obtain ⟨F, hF⟩ := Go.Deep.choose_lt key
    have hlen : ((List.range len).map fun i => (F i).op).length = len := by simp
    refine ⟨(List.range len).map fun i => (F i).op, ⟨by rw [cO_len, hlen], hl, hm, fun h0 => ?_⟩, fun hw o ho => ?_⟩
    · obtain ⟨b, off, spot⟩ := x
      have h1 := (hF 0 h0).1 0 (by decide)
      have hspot : spot = none := by simpa [Addr.add] using World.cell?_spot h1
      subst hspot
      refine ⟨b, off, rfl, ?_, fun j hj => ?_⟩
      · have := World.block_lt_of_cell? w _ h1
        simpa [Addr.add] using this
      · obtain ⟨i, r, hr, rfl⟩ : ∃ i r, r < 3 ∧ j = i * 3 + r := ⟨j / 3, j % 3, by omega, by omega⟩
        have hi : i < len := by omega
        have h2 := (hF i hi).1 r hr
        have h3 := cO_at ((List.range len).map fun i => (F i).op) i (by omega)
        simp only [List.getElem_map, List.getElem_range] at h3
        rw [addr_add] at h2
        rw [h2]
        obtain rfl | rfl | rfl : r = 0 ∨ r = 1 ∨ r = 2 := by omega
        · exact h3.1.symm
        · exact h3.2.1.symm
        · exact h3.2.2.symm
    · obtain ⟨i, hi, rfl⟩ := List.mem_map.1 ho
      have hil := List.mem_range.1 hi
      refine hw _ ?_
      obtain rfl := (Prod.mk.inj hd).1
      unfold DataW.weights
      rw [Tryd.underlying23]
      refine List.mem_cons_of_mem _ (List.mem_append.2 (.inl (weights_all (List.mem_map.2 ⟨i, hi, rfl⟩) ?_)))
      rw [(hF i hil).2]
      exact oa_weight (F i)

theorem weight_of {ts : List TypeId} {ds : List (DataW H)} (h : (DataW.weightsEach Tryd.prog ts ds).all (· ≤ reachBytes) = true) {j : Nat} {t : TypeId} {d : DataW H} (ht : ts[j]? = some t) (hd : ds[j]? = some d) : ∀ n ∈ d.weights Tryd.prog t, n ≤ reachBytes := fun n hn =>
  of_decide_eq_true (List.all_eq_true.1 h _ (DataW.weights_mem_each ht hd n hn))

end
end Go.Proofs.YtcpmpidpoelleaaDoor

/- Mathematics of EnvOrders. -/
namespace Go.Proofs.YtcpmpidpoelleaaDoor

def fitO (o : OP) : OP := (pat (fitQ o.1), fitG o.2.1, fitA o.1 o.2.1 o.2.2)
/-- Operators that may be, of unlike patterns. -/
def goodL (A : List OP) : Prop := (A.map (·.1)).Nodup ∧ ∀ o ∈ A, mayV o.1 o.2.1 o.2.2 = 0 ∧ o.1.length ≤ 20
theorem fitO_good (o : OP) : mayV (fitO o).1 (fitO o).2.1 (fitO o).2.2 = 0 ∧ (fitO o).1.length ≤ 20 := ⟨fit_may o.1 o.2.1 o.2.2, pat_len _ (fitQ_lt o.1)⟩
theorem good_nil : goodL [] := ⟨List.nodup_nil, fun o h => by cases h⟩
theorem good_snoc {A : List OP} {o : OP} (h : goodL A) (ho : mayV o.1 o.2.1 o.2.2 = 0 ∧ o.1.length ≤ 20) (hn : (A.any fun x => x.1 == o.1) = false) : goodL (A ++ [o]) := by
  refine ⟨?_, fun x hx => ?_⟩
  · rw [List.map_append, List.nodup_append]
    refine ⟨h.1, List.nodup_cons.2 ⟨by simp, List.nodup_nil⟩, fun u hu v hv e => ?_⟩
    obtain ⟨x, hx, rfl⟩ := List.mem_map.1 hu
    have h1 : v = o.1 := by simpa using hv
    have := List.any_eq_false.1 hn x hx
    exact this (by rw [e, h1]; simp)
  · rcases List.mem_append.1 hx with hx | hx
    · exact h.2 x hx
    · rw [List.mem_singleton.1 hx]; exact ho
theorem any_snoc {A : List OP} {k : Nat} (h : k < A.length) (p : Nm) : ((A.take (k + 1)).any fun x => x.1 == p) = (((A.take k).any fun x => x.1 == p) || (opA A k).1 == p) := by rw [opA_take h, List.any_append]; simp

/-- One more of them is added. -/
theorem adds_new {S : List OP} {o : OP} (h : goodL (S ++ [o])) (hl : S.length < 16) : addE (addsL S) o = 0 ∧ addL (addsL S) o = addsL (S ++ [o]) ∧ (addsL S).length = S.length := by
  obtain ⟨hn, hg⟩ := h
  rw [List.map_append, List.nodup_append] at hn
  have a := adds_ok S [] srt_nil hn.1 (by simp)
  have hlen : (addsL S).length = S.length := by have := a.2.2; simpa [addsL] using this
  have hh : hitL (addsL S) o.1 = false := by
    cases hh : hitL (addsL S) o.1 with
    | false => rfl
    | true =>
      obtain ⟨x, hx, e⟩ := (hitL_iff a.1).1 hh
      rcases (a.2.1 x).1 hx with hx | hx
      · cases hx
      · exact absurd e (hn.2.2 _ (List.mem_map.2 ⟨x, hx, rfl⟩) _ (by simp))
  exact ⟨addE_room (hg o (by simp)).1 hh (by omega), (addsL_snoc S o).symm, hlen⟩
theorem good_take {A : List OP} (h : goodL A) (k : Nat) : goodL (A.take k) := by
  refine ⟨?_, fun o ho => h.2 o (List.mem_of_mem_take ho)⟩
  rw [List.map_take]
  exact h.1.sublist (List.take_sublist _ _)

/-- From another place on, round. -/
def rotL (A : List OP) (s : Nat) : List OP := A.drop (s % A.length) ++ A.take (s % A.length)
theorem rotL_len (A : List OP) (s : Nat) : (rotL A s).length = A.length := by
  unfold rotL
  rw [List.length_append, List.length_drop, List.length_take]
  cases A with
  | nil => simp
  | cons x A => have := Nat.mod_lt s (show 0 < (x :: A).length by simp); omega
theorem rotL_perm (A : List OP) (s : Nat) : (rotL A s).Perm A := by
  unfold rotL
  have := (List.perm_append_comm (l₁ := A.drop (s % A.length)) (l₂ := A.take (s % A.length)))
  rwa [List.take_append_drop] at this
theorem rotL_good {A : List OP} (h : goodL A) (s : Nat) : goodL (rotL A s) :=
  ⟨((rotL_perm A s).map _).nodup_iff.2 h.1, fun o ho => h.2 o ((rotL_perm A s).mem_iff.1 ho)⟩
theorem rotL_at {A : List OP} {i s : Nat} (h : i < A.length) : opA (rotL A s) i = opA A ((i + s) % A.length) := by
  have ht := Nat.mod_lt s (show 0 < A.length by omega)
  have hm : (i + s) % A.length = if i + s % A.length < A.length then i + s % A.length else i + s % A.length - A.length := by
    rw [Nat.add_mod, Nat.mod_eq_of_lt h]
    split
    · rename_i h1; exact Nat.mod_eq_of_lt h1
    · rename_i h1
      rw [Nat.mod_eq_sub_mod (by omega), Nat.mod_eq_of_lt (by omega)]
  rw [hm]
  unfold opA rotL
  rw [List.getD_eq_getElem?_getD, List.getD_eq_getElem?_getD]
  congr 1
  rw [List.getElem?_append, List.length_drop]
  split
  · rename_i h1
    rw [if_pos (by omega), List.getElem?_drop, Nat.add_comm]
  · rename_i h1
    rw [if_neg (by omega), List.getElem?_take, if_pos (by omega)]
    congr 1
    omega
theorem rotL_adds {A : List OP} (h : goodL A) (s : Nat) : addsL A = addsL (rotL A s) := adds_perm h.1 (rotL_good h s).1 fun _ => (rotL_perm A s).mem_iff.symm

end Go.Proofs.YtcpmpidpoelleaaDoor
