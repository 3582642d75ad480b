/- The plain mathematics of SplitJoins: clauses behind clauses that end. No walk here. -/
import Derived.Test.YtimhcghjlknibaaDoorGj
import Derived.Test.YtimhcghjlknibaaDoorGw
namespace Go.Proofs.YtimhcghjlknibaaDoor
open Go.RowKit

/-- Where a text may be cut: nowhere, or behind an end; what stands behind is for itself. -/
structure Cutp (F : List Int) (e : Nat) (Mt : List TK) : Prop where
  le : e ≤ F.length
  last : Mt = [] ∨ (tat Mt (Mt.length - 1)).k = 7
  eq : ∀ Y, (∀ x ∈ Y, 0 ≤ x ∧ x ≤ 255) → toks (F.take e ++ 10 :: Y) = Mt ++ (toks Y).map (shTK (e + 1 : Nat))

theorem shTK_add (a b : Nat) (L : List TK) : (L.map (shTK b)).map (shTK a) = L.map (shTK (a + b : Nat)) := by
  rw [List.map_map]
  apply List.map_congr_left
  intro t _
  simp only [Function.comp, shTK, TK.mk.injEq, true_and, and_true]
  omega
theorem toks_line {Y : List Int} (hy : ∀ x ∈ Y, 0 ≤ x ∧ x ≤ 255) : lx (10 :: Y) 0 = (lx Y 0).map (shf 1) := by
  have h := lx_lead [10] Y (rng_app (X := [10]) (by simp) hy) (by intro x hx; rw [List.mem_singleton.1 hx]; decide) 0 (by simp)
  exact h
theorem cut_zero (F : List Int) : Cutp F 0 [] :=
  ⟨Nat.zero_le _, Or.inl rfl, fun Y hy => by
    unfold toks
    rw [List.take_zero, List.nil_append, List.nil_append, toks_line hy, map_shf]⟩
theorem cut_at {F : List Int} (hr : ∀ x ∈ F, 0 ≤ x ∧ x ≤ 255) {τ : TK} (hτ : τ ∈ toks F) (h7 : τ.k = 7) {e : Nat} (he : τ.t = e) : ∃ Mt, Cutp F e Mt := by
  unfold toks at hτ
  obtain ⟨⟨f, t⟩, hp, rfl⟩ := List.mem_map.1 hτ
  obtain ⟨A, B, hAB⟩ := List.append_of_mem hp
  have h0 := lx_cut hr (f := f) (t := t) h7 [] (by simp) B A 0 (Nat.zero_le _) hAB
  obtain rfl : e = f + 1 := by
    have h1 : ((f + t.n : Nat) : Int) = e := he
    have := h0.1
    omega
  refine ⟨A.map tkOf ++ [tkOf (f, t)], h0.2.1, Or.inr ?_, fun Y hy => ?_⟩
  · have : (A.map tkOf ++ [tkOf (f, t)]).length - 1 = (A.map tkOf).length := by simp
    rw [this]
    unfold tat
    simp
    exact h7
  · have h := (lx_cut hr (f := f) (t := t) h7 Y hy B A 0 (Nat.zero_le _) hAB).2.2
    unfold toks
    rw [h, toks_line hy, List.map_append, List.map_cons, map_shf, map_shf, shTK_add, List.append_assoc]
    rfl

theorem hdN_app : ∀ {A : List TK} (B : List TK), (∃ j, j < A.length ∧ (tat A j).k = 7) → hdN (A ++ B) = hdN A
  | [], B, h => by obtain ⟨j, hj, _⟩ := h; simp at hj
  | t :: A, B, h => by
    rw [List.cons_append, hdN, hdN]
    by_cases h7 : t.k = 7
    · rw [if_pos h7, if_pos h7]
    · rw [if_neg h7, if_neg h7, hdN_app B]
      obtain ⟨j, hj, hk⟩ := h
      cases j with
      | zero => exact absurd hk h7
      | succ j => exact ⟨j, by simpa using hj, by rwa [tat_succ] at hk⟩
theorem pcs_app (B : List TK) : ∀ A : List TK, (A = [] ∨ (tat A (A.length - 1)).k = 7) → pcs (A ++ B) = pcs A ++ pcs B := by
  refine by_pcs (fun _ => by rw [pcs_nil, List.nil_append, List.nil_append]) fun A h ih hl => ?_
  have h7 : (tat A (A.length - 1)).k = 7 := by
    rcases hl with rfl | hl
    · simp at h
    · exact hl
  have hd := hdN_app (A := A) B ⟨A.length - 1, by omega, h7⟩
  have h1 := hdN_pos h
  have h2 := hdN_le A
  rw [pcs_cons (L := A ++ B) (by rw [List.length_append]; omega), pcs_cons h, hd, List.take_append_of_le_length h2, List.drop_append_of_le_length h2, ih ?_]
  · rfl
  · by_cases hz : A.length = hdN A
    · left; rw [← hz, List.drop_length]
    · right
      rw [tat_drop', List.length_drop, show hdN A + (A.length - hdN A - 1) = A.length - 1 by omega]
      exact h7
theorem hdN_map {g : TK → TK} (hg : ∀ t, (g t).k = t.k) : ∀ L : List TK, hdN (L.map g) = hdN L
  | [] => rfl
  | t :: L => by rw [List.map_cons, hdN, hdN, hg, hdN_map hg L]
theorem pcs_map {g : TK → TK} (hg : ∀ t, (g t).k = t.k) : ∀ L : List TK, pcs (L.map g) = (pcs L).map (List.map g) := by
  refine by_pcs rfl fun L h ih => ?_
  rw [pcs_cons (L := L.map g) (by rw [List.length_map]; exact h), pcs_cons h, hdN_map hg, List.map_cons, ← List.map_take, ← List.map_drop, ih]

theorem alike_bad (d : Int) : ∀ L : List TK, alike (L.map (shTK d)) L = !(badT (L.map (shTK d)))
  | [] => rfl
  | t :: L => by
    rw [List.map_cons, alike, alike_bad d L]
    unfold badT
    rw [List.any_cons]
    cases h : (shTK d t).k == 8 with
    | true => simp [shTK] at h ⊢; simp [h]
    | false => simp [shTK] at h ⊢; simp [h]

/-- What the third row of pieces says: the first row's, then the second row's, moved. -/
theorem join_len {Vp Vq Vr : List PV} {Mt TY : List TK} {d : Int} (hp : Vp.map PV.k = pk 0 (pcs Mt)) (hq : Vq.map PV.k = pk 0 (pcs TY)) (hr : Vr.map PV.k = pk 0 (pcs (Mt ++ TY.map (shTK d))))
    (hl : Mt = [] ∨ (tat Mt (Mt.length - 1)).k = 7) : Vr.length = Vp.length + Vq.length ∧ (∀ i, i < Vp.length → (pat Vr i).k = (pat Vp i).k) ∧
    ∀ i, i < Vq.length → (pat Vr (Vp.length + i)).k = ⟨(pat Vq i).f + d, (pat Vq i).t + d, (pat Vq i).i + Mt.length, (pat Vq i).s.L.map (shTK d)⟩ := by
  rw [pcs_app _ _ hl, pcs_map (g := shTK d) (fun _ => rfl), pk_app, pcs_flat, Nat.zero_add] at hr
  have lp : (pcs Mt).length = Vp.length := by have := congrArg List.length hp; rw [List.length_map, pk_len] at this; exact this.symm
  have lq : (pcs TY).length = Vq.length := by have := congrArg List.length hq; rw [List.length_map, pk_len] at this; exact this.symm
  have lr : Vr.length = Vp.length + Vq.length := by have := congrArg List.length hr; rw [List.length_map, List.length_append, pk_len, pk_len, List.length_map] at this; omega
  have kat : ∀ (V : List PV) (j : Nat), j < V.length → (V.map PV.k)[j]? = some (pat V j).k := fun V j hj => by
    rw [List.getElem?_map, List.getElem?_eq_getElem hj]
    unfold pat
    rw [show V.getD j _ = V[j] by simp [List.getD, hj]]; rfl
  refine ⟨lr, fun i hi => ?_, fun i hi => ?_⟩
  · have h1 := kat Vr i (by omega)
    rw [hr, List.getElem?_append_left (by rw [pk_len]; omega), ← hp, kat Vp i hi] at h1
    exact (Option.some.inj h1).symm
  · have h1 := kat Vr (Vp.length + i) (by omega)
    rw [hr, List.getElem?_append_right (by rw [pk_len]; omega), pk_len, lp, Nat.add_sub_cancel_left, pk_at, List.getElem?_map, List.getElem?_eq_getElem (by omega)] at h1
    have h2 := kat Vq i hi
    rw [hq, pk_at, List.getElem?_eq_getElem (by omega)] at h2
    simp only [Option.map_some, Option.some.injEq] at h1 h2
    have hcl := pcs_cl TY _ (List.getElem_mem (l := pcs TY) (n := i) (by omega))
    obtain ⟨P8, hP8⟩ : ∃ P8, P8 = (pcs TY)[i]'(by omega) := ⟨_, rfl⟩
    rw [← hP8] at h1 h2 hcl
    have e1 : ((((pcs TY).map (List.map (shTK d))).take i).flatten).length = (((pcs TY).take i).flatten).length := by
      rw [← List.map_take, ← List.map_flatten, List.length_map]
    rw [e1] at h1
    rw [← h1]
    unfold PV.k pkOf at h2
    simp only [PK.mk.injEq, Nat.zero_add] at h2
    obtain ⟨g1, g2, g3, g4⟩ := h2
    unfold pkOf
    have hpos := hcl.pos
    rw [← g1, ← g2, ← g3, ← g4, tat_map hpos, List.length_map, tat_map (by omega)]
    simp only [PK.mk.injEq, shTK, true_and, and_true]
    omega

end Go.Proofs.YtimhcghjlknibaaDoor
