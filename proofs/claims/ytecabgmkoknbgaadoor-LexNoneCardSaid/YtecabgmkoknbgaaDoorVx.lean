/- From a listed package-level variable of plain data (numbers, bools, texts, arrays and structs of such) to its cells: a reading of a plain type tells the cells. No program here. -/
import Derived.LaidLaws
import Derived.ChangeArms
import Derived.Lib.LaidTab
namespace Go.Proofs.YtecabgmkoknbgaaDoor
open Go

/-- The cells of several parts, one behind the other: each at its place. -/
def cellsKids (P : Program) {H : Type} (f : TypeId → DataW H → Option (List Value)) (total : Nat) : Nat → List (Nat × TypeId) → List (DataW H) → Option (List Value)
  | off, [], [] => if off = total then some [] else none
  | off, (o, t) :: ks, d :: ds => if o = off then (f t d).bind fun v => (cellsKids P f total (off + P.cellsOf t) ks ds).map fun r => v ++ r else none
  | _, _, _ => none

/-- The cells that a plain datum has at a type. -/
def cellsFor (P : Program) {H : Type} : Nat → TypeId → DataW H → Option (List Value)
  | 0, _, _ => none
  | n + 1, t, d =>
    match P.underlying t, d with
    | some .bool, .lit (.bool b) => some [.bool b]
    | some (.int _), .lit (.int k z) => some [.int k z]
    | some .string, .lit (.string l) => some [.string ⟨l.toArray⟩]
    | some (.array m e), .agg ds => cellsKids P (cellsFor P n) (P.cellsOf t) 0 ((List.range m).map fun i => (i * P.cellsOf e, e)) ds
    | some (.struct fs), .agg ds => cellsKids P (cellsFor P n) (P.cellsOf t) 0 (fs.toList.map fun f => (f.offset, f.type)) ds
    | _, _ => none

theorem cellsKids_sound {P : Program} {H : Type} {f : TypeId → DataW H → Option (List Value)} {g : TypeId → List Value → Option (DataW H × List MemPlace)} {cs : List Value}
    (hf : ∀ t d vs c p, f t d = some vs → g t c = some (d, p) → c = vs) :
    ∀ (ks : List (Nat × TypeId)) (off : Nat) (xs : List (DataW H × List MemPlace)) (vs : List Value),
      (ks.mapM fun k => g k.2 ((cs.drop k.1).take (P.cellsOf k.2))) = some xs → cellsKids P f cs.length off ks (xs.map (·.1)) = some vs → cs.drop off = vs
  | [], off, xs, vs, h, hc => by
    simp at h
    subst h
    simp only [List.map_nil, cellsKids] at hc
    split at hc
    · rename_i ho
      simp only [Option.some.injEq] at hc
      subst hc
      exact List.drop_eq_nil_iff.2 (by omega)
    · cases hc
  | (o, t) :: ks, off, xs, vs, h, hc => by
    simp only [List.mapM_cons, Option.bind_eq_bind, Option.bind_eq_some_iff, Option.pure_def, Option.some.injEq] at h
    obtain ⟨y, hy, r, hr, rfl⟩ := h
    simp only [List.map_cons, cellsKids] at hc
    split at hc
    · rename_i ho
      subst ho
      simp only [Option.bind_eq_some_iff, Option.map_eq_some_iff] at hc
      obtain ⟨v, hv, r', hr', rfl⟩ := hc
      have h1 := hf t y.1 v _ y.2 hv hy
      have h2 := cellsKids_sound hf ks (o + P.cellsOf t) r r' hr hr'
      rw [← h1, ← h2, ← List.drop_drop, List.take_append_drop]
    · cases hc

theorem cellsFor_sound {H : Type} {enc : TypeId × Value → H} {P : Program} {w : World} {base : Nat} {sp : Nat → Bool} {held : Bool} :
    ∀ (n fuel : Nat) (t : TypeId) (d : DataW H) (vs cs : List Value) (p : List MemPlace), cellsFor P n t d = some vs → DataW.trod enc P w base sp held fuel t cs = some (d, p) → cs = vs
  | 0, _, _, _, _, _, _, h, _ => by cases h
  | n + 1, 0, _, _, _, _, _, _, h => by simp [DataW.trod] at h
  | n + 1, fuel + 1, t, d, vs, cs, p, h, hd => by
    have ih := fun t d vs c p => cellsFor_sound (P := P) (enc := enc) (w := w) (base := base) (sp := sp) (held := held) n fuel t d vs c p
    unfold cellsFor at h
    unfold DataW.trod at hd
    cases hu : P.underlying t with
    | none => simp [hu] at h
    | some u =>
      rw [hu] at h hd
      split at h
      case h_1 h1 =>
        cases h1
        simp only [Option.some.injEq] at h
        subst h
        split at hd <;> simp_all
      case h_2 h1 =>
        cases h1
        simp only [Option.some.injEq] at h
        subst h
        split at hd <;> simp_all
      case h_3 h1 =>
        cases h1
        simp only [Option.some.injEq] at h
        subst h
        split at hd <;> simp_all
        obtain ⟨_, e, _⟩ := hd
        subst e
        rfl
      case h_4 h1 =>
        cases h1
        simp only at hd
        split at hd
        · rename_i hl
          obtain ⟨xs, hm, hx⟩ := Option.map_eq_some_iff.1 hd
          simp only [Prod.mk.injEq, DataW.agg.injEq] at hx
          obtain ⟨rfl, _⟩ := hx
          rw [← hl] at h
          have := cellsKids_sound (P := P) ih _ 0 xs vs (by rw [List.mapM_map]; exact hm) h
          simpa using this
        · cases hd
      case h_5 h1 =>
        cases h1
        simp only at hd
        split at hd
        · rename_i hl
          obtain ⟨xs, hm, hx⟩ := Option.map_eq_some_iff.1 hd
          simp only [Prod.mk.injEq, DataW.agg.injEq] at hx
          obtain ⟨rfl, _⟩ := hx
          rw [← hl] at h
          have := cellsKids_sound (P := P) ih _ 0 xs vs (by rw [List.mapM_map]; exact hm) h
          simpa using this
        · cases hd
      case h_6 => cases h

/-- The variable that stands first on the list holds just these cells. -/
theorem laid_cells {P : Program} {W : World} {name : String} {d : DataW Unit} {rest : List (String × DataW Unit)} {g : Nat} {t : TypeId} {n : Nat} {vs : List Value}
    (hg : P.globalNamed name = some g) (hty : (P.globals[g]?).map (·.type) = some t) (hc : cellsFor P n t d = some vs)
    (h : laidMet P ((name, d) :: rest) W) : W.var? P name = some vs.toArray := by
  obtain ⟨ps, ⟨g', t', cs, fuel, p, q, hg', ht', hvar, hd, _, _⟩, _⟩ := h
  obtain rfl := Option.some.inj (hg.symm.trans hg')
  obtain rfl := Option.some.inj (hty.symm.trans ht')
  rw [hvar, ← cellsFor_sound n fuel _ _ _ _ _ hc hd]

end Go.Proofs.YtecabgmkoknbgaaDoor
