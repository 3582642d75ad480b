/- Texts laid one behind the other. -/
import Derived.Test.YtcpmpidpoelleaaDoorMD
import Derived.Test.YtcpmpidpoelleaaDoorMC
import Derived.Test.YtcpmpidpoelleaaDoorMR
import Derived.Test.YtcpmpidpoelleaaDoorMB
import Derived.StillTailTactics

/- Contract of the document's part of layer 11. -/
namespace Go.Proofs.YtcpmpidpoelleaaDoor
open Go.RowKit

theorem no_snoc {p : Nm} {k : Nat} (h : k < p.length) (h0 : (95 : UInt8) ∉ p.take k) (h1 : (ub p k == 95) = false) : (95 : UInt8) ∉ p.take (k + 1) := by
  rw [List.take_add_one]
  intro hm
  rcases List.mem_append.1 hm with hm | hm
  · exact h0 hm
  · have : p[k]? = some p[k] := List.getElem?_eq_getElem h
    rw [this] at hm
    simp only [Option.toList_some, List.mem_singleton] at hm
    have hu : ub p k = 95 := by unfold ub; rw [show p.getD k 0 = p[k] by simp [List.getD, h], ← hm]; rfl
    rw [hu] at h1
    exact absurd h1 (by decide)
theorem is_mark {p : Nm} {k : Nat} (h : k < p.length) (h1 : (ub p k == 95) = true) : p.contains 95 = true := by
  have hu := eq_of_beq h1
  unfold ub at hu
  rw [show p.getD k 0 = p[k] by simp [List.getD, h]] at hu
  have : p[k] = 95 := by
    apply UInt8.toNat_inj.1
    have : ((95 : UInt8).toNat : Int) = 95 := rfl
    omega
  rw [List.contains_iff_mem, ← this]
  exact List.getElem_mem h
theorem kd_yes {k : Int} (h : (k == 1) = true ∨ (k == 2) = true ∨ (k == 6) = true) : kdB k = true := by
  unfold kdB; rcases h with h | h | h <;> rw [h] <;> simp
theorem kd_no {k : Int} (h1 : (k == 1) = false) (h2 : (k == 2) = false) (h6 : (k == 6) = false) : kdB k = false := by
  unfold kdB; rw [h1, h2, h6]; rfl
theorem bar_yes {p : Nm} (h : (p == [40]) = true ∨ (p == [41]) = true ∨ (p == [44]) = true ∨ (p == [46]) = true ∨ (p == [58, 45]) = true) : bar p = true := by
  unfold bar; rcases h with h | h | h | h | h <;> rw [h] <;> simp

end Go.Proofs.YtcpmpidpoelleaaDoor

/- Contract of the document's May of layer 11. -/
namespace Go.Proofs.YtcpmpidpoelleaaDoor
open Go.RowKit

def dB (p : Nm) : Bool := !p.contains 95 && stB p
theorem shD_none {P : List Nm} {l r : Bool} (h : P.length < 1 ∨ 4 < P.length) : shD ⟨P, l, r⟩ = false := by
  unfold shD
  rw [show decide (1 ≤ (⟨P, l, r⟩ : SH).P.length ∧ (⟨P, l, r⟩ : SH).P.length ≤ 4) = false by simp; omega]; rfl
theorem shD_lone {P : List Nm} (h : P.length = 1) : shD ⟨P, false, false⟩ = false := by
  unfold shD hlB; simp [h]
theorem shD_is {P : List Nm} {l r : Bool} (h1 : 1 ≤ P.length) (h4 : P.length ≤ 4) (hh : P.length ≠ 1 ∨ l = true ∨ r = true) : shD ⟨P, l, r⟩ = (decide ((stx ⟨P, l, r⟩).length ≤ 40) && P.all dB) := by
  unfold shD hlB
  rw [show decide (1 ≤ (⟨P, l, r⟩ : SH).P.length ∧ (⟨P, l, r⟩ : SH).P.length ≤ 4) = true by simp; omega]
  have : (((⟨P, l, r⟩ : SH).P.length != 1) || ((⟨P, l, r⟩ : SH).l || (⟨P, l, r⟩ : SH).r)) = true := by
    rcases hh with h | rfl | rfl
    · simp [h]
    · simp
    · simp
  rw [this, Bool.true_and, Bool.true_and]
  rfl
theorem dB_step {P : List Nm} {k : Nat} (h : k < P.length) : (P.drop k).all dB = (dB (pt P k) && (P.drop (k + 1)).all dB) := by
  rw [List.drop_eq_getElem_cons h, List.all_cons]
  unfold pt
  simp [List.getD, h]

end Go.Proofs.YtcpmpidpoelleaaDoor

/- Contract of the document's Of of layer 11. -/
namespace Go.Proofs.YtcpmpidpoelleaaDoor
open Go.RowKit

theorem cuts_step {p : Nm} {k : Nat} (h : k < p.length) : cuts (p.take (k + 1)) = cutF (cuts (p.take k)) (p.getD k 0) := by
  unfold cuts
  rw [List.take_add_one, List.foldl_append]
  simp [List.getD, h]
theorem cutF_ne (K : List Nm) (c : UInt8) : cutF K c ≠ [] := by unfold cutF; split <;> simp
theorem cuts_ne (l : Nm) : cuts l ≠ [] := by
  have : ∀ (l : Nm) (K : List Nm), K ≠ [] → l.foldl cutF K ≠ [] := by
    intro l
    induction l with
    | nil => intro K h; exact h
    | cons c l ih => intro K _; exact ih _ (cutF_ne K c)
  exact this l _ (by simp)
theorem cutF_size {K : List Nm} {c : UInt8} {M : Nat} (hK : ∀ x ∈ K, x.length ≤ M) : ∀ x ∈ cutF K c, x.length ≤ M + 1 := by
  unfold cutF
  split
  · intro x hx
    rcases List.mem_append.1 hx with hx | hx
    · have := hK x hx; omega
    · rw [List.mem_singleton.1 hx]; simp
  · intro x hx
    rcases List.mem_append.1 hx with hx | hx
    · have := hK x (List.dropLast_subset _ hx); omega
    · rw [List.mem_singleton.1 hx, List.length_append]
      by_cases h : K = []
      · subst h; simp
      · obtain ⟨Q, q, rfl⟩ := snoc h
        have := hK q (by simp)
        simpa using this
theorem cuts_size (p : Nm) : ∀ k, k ≤ p.length → (∀ x ∈ cuts (p.take k), x.length ≤ k) ∧ (cuts (p.take k)).length ≤ k + 1
  | 0, _ => by simp [cuts]
  | k + 1, h => by
    obtain ⟨h1, h2⟩ := cuts_size p k (by omega)
    rw [cuts_step (by omega)]
    refine ⟨cutF_size h1, ?_⟩
    unfold cutF
    split
    · simp; omega
    · have := cuts_ne (p.take k)
      simp only [List.length_append, List.length_dropLast, List.length_singleton]
      omega
theorem ub_of (p : Nm) (k : Nat) : (ub p k == 95) = (p.getD k 0 == 95) := by
  unfold ub
  rw [Bool.eq_iff_iff, beq_iff_eq, beq_iff_eq, ← UInt8.toNat_inj]
  have : (95 : UInt8).toNat = 95 := rfl
  omega
theorem cut_at (K : List Nm) (x : Nm) (c : UInt8) (h : (c == 95) = false) : cutF (K ++ [x]) c = (K ++ [x]).set K.length (x ++ [c]) := by
  rw [cutF_c (by simpa using h)]
  simp
theorem jnP_le {M : Nat} : ∀ P : List Nm, (∀ p ∈ P, p.length ≤ M) → (jnP P).length ≤ P.length * (M + 1)
  | [], _ => by simp [jnP]
  | [p], h => by have := h p (by simp); simp [jnP]; omega
  | p :: q :: P, h => by
    have h1 := h p (by simp)
    have h2 := jnP_le (q :: P) fun x hx => h x (List.mem_cons_of_mem _ hx)
    rw [jnP_cons p (P := q :: P) (by simp), List.length_append, List.length_cons, List.length_cons, Nat.add_mul]
    omega
theorem c1_sub (K : List Nm) : ∀ x ∈ c1 K, x ∈ K := by
  unfold c1; split
  · exact fun x hx => List.mem_of_mem_tail hx
  · exact fun x hx => hx
theorem c1_len (K : List Nm) : (c1 K).length ≤ K.length := by
  unfold c1; split
  · rw [List.length_tail]; omega
  · exact Nat.le_refl _
theorem dD_size {p : Nm} (h : p.length ≤ 200) : (stx (dD (cuts p))).length ≤ 100000 := by
  obtain ⟨h1, h2⟩ := cuts_size p p.length (Nat.le_refl _)
  rw [List.take_length] at h1 h2
  have h3 : ∀ x ∈ (dD (cuts p)).P, x.length ≤ 200 := by
    intro x hx
    have : x ∈ c1 (cuts p) := by
      unfold dD at hx
      simp only at hx
      split at hx
      · exact List.dropLast_subset _ hx
      · exact hx
    have := h1 x (c1_sub _ x this)
    omega
  have h4 : (dD (cuts p)).P.length ≤ 201 := by
    have := c1_len (cuts p)
    unfold dD
    simp only
    split
    · rw [List.length_dropLast]; omega
    · omega
  have h5 := jnP_le _ h3
  have h6 : (dD (cuts p)).P.length * (200 + 1) ≤ 201 * 201 := Nat.mul_le_mul_right _ h4
  have h7 := hol_len (dD (cuts p)).l
  have h8 := hol_len (dD (cuts p)).r
  unfold stx
  rw [List.length_append, List.length_append]
  omega

/-- What was read of a block that was not written. -/
theorem ss_apart {w w1 w2 : World} {g o n c q R : Nat} {P : List Nm} (h : Ss w (some ⟨g, o, none⟩) n c P) (hb : Below q w w1) (hg : w1.grownBy w2 (some R)) (hR : R < g) (hq : w.heap.size ≤ q) : Ss w2 (some ⟨g, o, none⟩) n c P :=
  ⟨h.hl, h.lc, h.cm, fun h0 => by
    obtain ⟨b, o', ha, hlt, hc⟩ := h.at_ h0
    simp only [Option.some.injEq, Addr.mk.injEq] at ha
    obtain ⟨rfl, rfl, _⟩ := ha
    have h1 := hb.size
    refine ⟨g, o, rfl, by have := hg.size; omega, fun j hj => ?_⟩
    rw [World.cell?_of_block (hg.block g (by omega) (by simp; omega)), hb.cell (by show g < q; omega)]
    exact hc j hj⟩

end Go.Proofs.YtcpmpidpoelleaaDoor
