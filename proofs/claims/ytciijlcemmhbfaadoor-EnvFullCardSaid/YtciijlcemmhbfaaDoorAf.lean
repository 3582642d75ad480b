/- Mathematics of EnvFull: the numbered operators. -/
import Derived.Test.YtciijlcemmhbfaaDoorAa
namespace Go.Proofs.YtciijlcemmhbfaaDoor

def nM (i : Nat) : Nm := [120, UInt8.ofNat (97 + i)]
def nP (i : Nat) : Nm := [120, UInt8.ofNat (97 + i), 95]
def nO (i : Nat) (g : Int) : OP := (nP i, g, 0)
def fullL (m : Nat) : List OP := (List.range m).map fun i => nO i 1
theorem fullL_len (m : Nat) : (fullL m).length = m := by simp [fullL]
theorem nP_of {i : Nat} (h : i < 26) : ofS (nP i) = some ⟨[nM i], false, true⟩ := by
  have hb : (97 + i) % 256 = 97 + i := Nat.mod_eq_of_lt (by omega)
  have := ofS_low (p := nM i) ⟨by simp [nM], fun c hc => by
    rcases List.mem_cons.1 hc with rfl | hc
    · decide
    · rw [List.mem_singleton.1 hc, UInt8.toNat_ofNat', hb]; omega⟩ (by simp [nM]) (l := false) (r := true) (.inr rfl)
  exact this
theorem nO_may {i : Nat} (h : i < 26) {g : Int} (hg : 1 ≤ g ∧ g ≤ 9) : mayV (nP i) g 0 = 0 := by rw [mayV_some (nP_of h) hg, sdB_zero]; rfl
theorem nO_prt {i : Nat} (h : i < 26) : prt (nP i) = [nM i] := prt_some (nP_of h)
theorem nO_new : ∀ i, i < 27 → hitL (fullL (min i 16)) (nP i) = false := by decide +kernel
theorem nO_add : ∀ i, i < 16 → addL (fullL i) (nO i 1) = fullL (i + 1) := by decide +kernel
theorem nO_hit : ∀ m, m < 17 → ∀ k, k < m → hitL (fullL m) (nP k) = true := by decide +kernel
theorem nO_two : ∀ m, m < 17 → ∀ k, k < m → ((addL (fullL m) (nO k 2)).filter fun o => o.1 == nP k) = [nO k 2] := by decide +kernel
theorem nO_all : ∀ m, m < 17 → ∀ k, k < m → ((addL (fullL m) (nO k 2)).all fun o => (List.range 16).any fun i => o.1 == nP i) = true := by decide +kernel
theorem nP_inj : ∀ i, i < 26 → ∀ k, k < 26 → nP i = nP k → i = k := by decide +kernel
theorem nO_has {i k : Nat} (hi : i < 26) (hk : k < 26) (g : Int) : hasP (nM k) (nO i g) = (nP i == nP k) := by
  have e : (nP i == nP k) = (nM i == nM k) := by
    rw [Bool.eq_iff_iff, beq_iff_eq, beq_iff_eq]
    exact ⟨fun h => by rw [nP_inj i hi k hk h], fun h => by simp only [nM, List.cons.injEq, and_true, true_and] at h; simp [nP, h]⟩
  unfold hasP
  rw [show (nO i g).1 = nP i from rfl, nO_prt hi, e, Bool.eq_iff_iff, List.contains_iff_mem, List.mem_singleton, beq_iff_eq]
  exact eq_comm
theorem nO_entry {m k : Nat} (hm : m < 17) (hk : k < m) (z : List Int) : entL (addL (fullL m) (nO k 2)) z (nM k) = [(nO k 2, rowV z 2)] := by
  unfold entL
  have e : (addL (fullL m) (nO k 2)).filter (hasP (nM k)) = (addL (fullL m) (nO k 2)).filter fun o => o.1 == nP k := by
    refine List.filter_congr fun o ho => ?_
    obtain ⟨i, hi, hio⟩ := List.any_eq_true.1 (List.all_eq_true.1 (nO_all m hm k hk) o ho)
    have hi' : i < 16 := by simpa using hi
    have : hasP (nM k) o = hasP (nM k) (nO i o.2.1) := by unfold hasP; rw [eq_of_beq hio]; rfl
    rw [this, nO_has (by omega) (by omega), eq_of_beq hio]
  rw [e, nO_two m hm k hk]
  rfl
/-- One more, if there is room. -/
theorem nO_step {i : Nat} (h : i < 26) : addE (fullL (min i 16)) (nO i 1) = if i < 16 then 0 else 5 := by
  have hm : mayV (nO i 1).1 (nO i 1).2.1 (nO i 1).2.2 = 0 := nO_may h (g := 1) ⟨by decide, by decide⟩
  by_cases h16 : i < 16
  · rw [if_pos h16]; exact addE_room hm (nO_new i (by omega)) (by rw [fullL_len]; omega)
  · rw [if_neg h16]; exact addE_full hm (nO_new i (by omega)) (by rw [fullL_len]; omega)
theorem nO_next {i : Nat} (h : i < 16) : addR (fullL i) (nO i 1) = fullL (i + 1) := by
  have := nO_step (i := i) (by omega)
  rw [if_pos h, show min i 16 = i by omega] at this
  unfold addR; rw [if_pos this]; exact nO_add i h

end Go.Proofs.YtciijlcemmhbfaaDoor
