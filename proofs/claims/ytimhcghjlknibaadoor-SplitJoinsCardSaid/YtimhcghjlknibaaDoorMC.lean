/- Texts laid one behind the other. -/
import Derived.Test.YtimhcghjlknibaaDoorMA

/- The plain mathematics of layer 10: tokens in clauses, and how deep brackets go. No walk here. -/
namespace Go.Proofs.YtimhcghjlknibaaDoor
open Go.RowKit

/-- How many tokens the first clause has. -/
def hdN : List TK → Nat
  | [] => 0
  | t :: L => if t.k = 7 then 1 else 1 + hdN L

theorem tat_zero (t : TK) (L : List TK) : tat (t :: L) 0 = t := rfl
theorem tat_succ (t : TK) (L : List TK) (j : Nat) : tat (t :: L) (j + 1) = tat L j := by unfold tat; simp [List.getD]
theorem tat_drop' (L : List TK) (k j : Nat) : tat (L.drop k) j = tat L (k + j) := by unfold tat; simp [List.getD]
theorem tat_takeL {L : List TK} {k j : Nat} (h : j < k) : tat (L.take k) j = tat L j := by unfold tat; simp [List.getD, h]

theorem hdN_le : ∀ L : List TK, hdN L ≤ L.length
  | [] => Nat.le_refl _
  | t :: L => by have := hdN_le L; simp only [hdN, List.length_cons]; split <;> omega
theorem hdN_pos : ∀ {L : List TK}, 0 < L.length → 1 ≤ hdN L
  | t :: L, _ => by simp only [hdN]; split <;> omega
theorem hdN_at : ∀ {L : List TK} {k : Nat}, k < L.length → (tat L k).k = 7 → (∀ j, j < k → (tat L j).k ≠ 7) → hdN L = k + 1
  | t :: L, 0, _, h, _ => by rw [tat_zero] at h; rw [hdN, if_pos h]
  | t :: L, k + 1, hk, h, hn => by
    have h0 := hn 0 (by omega)
    rw [tat_zero] at h0
    rw [tat_succ] at h
    rw [hdN, if_neg h0, hdN_at (L := L) (k := k) (by simpa using hk) h fun j hj => by have := hn (j + 1) (by omega); rwa [tat_succ] at this]
    omega
theorem hdN_none : ∀ {L : List TK}, (∀ j, j < L.length → (tat L j).k ≠ 7) → hdN L = L.length
  | [], _ => rfl
  | t :: L, hn => by
    have h0 := hn 0 (by simp)
    rw [tat_zero] at h0
    rw [hdN, if_neg h0, hdN_none (L := L) fun j hj => by have := hn (j + 1) (by simpa using hj); rwa [tat_succ] at this]
    simp; omega
theorem hdN_mid : ∀ {L : List TK} {j : Nat}, j + 1 < hdN L → (tat L j).k ≠ 7
  | [], j, h => by simp [hdN] at h
  | t :: L, 0, h => by
    rw [tat_zero]
    intro h7
    rw [hdN, if_pos h7] at h
    omega
  | t :: L, j + 1, h => by
    rw [tat_succ]
    rw [hdN] at h
    split at h
    · omega
    · exact hdN_mid (by omega)
theorem hdN_end : ∀ {L : List TK}, 0 < L.length → (tat L (hdN L - 1)).k = 7 ∨ hdN L = L.length
  | t :: L, _ => by
    rw [hdN]
    split
    · rename_i h; exact Or.inl h
    · by_cases h0 : 0 < L.length
      · have hp := hdN_pos h0
        rcases hdN_end h0 with h | h
        · left
          rw [show 1 + hdN L - 1 = hdN L - 1 + 1 by omega, tat_succ]; exact h
        · right; rw [h]; simp; omega
      · have : L = [] := List.eq_nil_of_length_eq_zero (by omega)
        subst this
        right; rfl

def pcF : Nat → List TK → List (List TK)
  | 0, _ => []
  | f + 1, L => if L.length = 0 then [] else L.take (hdN L) :: pcF f (L.drop (hdN L))
/-- The tokens, clause by clause. -/
def pcs (L : List TK) : List (List TK) := pcF L.length L

theorem pcF_same : ∀ (f g : Nat) (L : List TK), L.length ≤ f → L.length ≤ g → pcF f L = pcF g L
  | 0, 0, _, _, _ => rfl
  | 0, g + 1, L, h, _ => by rw [pcF, pcF, if_pos (by omega)]
  | f + 1, 0, L, _, h => by rw [pcF, pcF, if_pos (by omega)]
  | f + 1, g + 1, L, hf, hg => by
    rw [pcF, pcF]
    by_cases h0 : L.length = 0
    · rw [if_pos h0, if_pos h0]
    · have := hdN_pos (L := L) (by omega)
      rw [if_neg h0, if_neg h0, pcF_same f g _ (by rw [List.length_drop]; omega) (by rw [List.length_drop]; omega)]
theorem pcs_nil : pcs [] = [] := rfl
theorem pcs_cons {L : List TK} (h : 0 < L.length) : pcs L = L.take (hdN L) :: pcs (L.drop (hdN L)) := by
  have := hdN_pos h
  unfold pcs
  conv => lhs; rw [show L.length = (L.length - 1) + 1 by omega, pcF, if_neg (by omega)]
  rw [pcF_same (L.length - 1) (L.drop (hdN L)).length _ (by rw [List.length_drop]; omega) (Nat.le_refl _)]

/-- By the clauses, from the first on. -/
theorem by_pcs {P : List TK → Prop} (h0 : P []) (h : ∀ L : List TK, 0 < L.length → P (L.drop (hdN L)) → P L) : ∀ L, P L := by
  have : ∀ (f : Nat) (L : List TK), L.length ≤ f → P L := by
    intro f
    induction f with
    | zero => intro L hl; rw [List.eq_nil_of_length_eq_zero (l := L) (by omega)]; exact h0
    | succ f ih =>
      intro L hl
      by_cases hn : 0 < L.length
      · exact h L hn (ih _ (by have := hdN_pos hn; rw [List.length_drop]; omega))
      · rw [List.eq_nil_of_length_eq_zero (l := L) (by omega)]; exact h0
  exact fun L => this _ L (Nat.le_refl _)

theorem pcs_flat (L : List TK) : (pcs L).flatten = L := by
  revert L
  refine by_pcs rfl fun L h ih => ?_
  rw [pcs_cons h, List.flatten_cons, ih, List.take_append_drop]
theorem pcs_len (L : List TK) : (pcs L).length ≤ L.length := by
  revert L
  refine by_pcs (Nat.le_refl _) fun L h ih => ?_
  have := hdN_pos h
  rw [pcs_cons h, List.length_cons]
  rw [List.length_drop] at ih
  omega
/-- What a clause is: not empty, with no end ahead of its last token. -/
structure Cl (p : List TK) : Prop where
  pos : 0 < p.length
  mid : ∀ j, j + 1 < p.length → (tat p j).k ≠ 7
theorem pcs_cl (L : List TK) : ∀ p ∈ pcs L, Cl p := by
  revert L
  refine by_pcs (by simp [pcs_nil]) fun L h ih => ?_
  have h1 := hdN_pos h
  have h2 := hdN_le L
  rw [pcs_cons h]
  intro p hp
  rcases List.mem_cons.1 hp with rfl | hp
  · refine ⟨by rw [List.length_take]; omega, fun j hj => ?_⟩
    rw [List.length_take] at hj
    rw [tat_takeL (by omega)]
    exact hdN_mid (by omega)
  · exact ih p hp
/-- Each but the last clause ends with an end. -/
theorem pcs_ends (L : List TK) : ∀ i, i + 1 < (pcs L).length → (tat ((pcs L).getD i []) (((pcs L).getD i []).length - 1)).k = 7 := by
  revert L
  refine by_pcs (by simp [pcs_nil]) fun L h ih => ?_
  have h1 := hdN_pos h
  have h2 := hdN_le L
  rw [pcs_cons h]
  intro i hi
  rw [List.length_cons] at hi
  cases i with
  | zero =>
    show (tat (L.take (hdN L)) ((L.take (hdN L)).length - 1)).k = 7
    rw [List.length_take, Nat.min_eq_left h2, tat_takeL (by omega)]
    rcases hdN_end h with h3 | h3
    · exact h3
    · rw [h3, List.drop_length, pcs_nil] at hi
      simp at hi
  | succ i =>
    have := ih i (by omega)
    rw [List.getD_cons_succ]
    exact this

/-- A clause as it is told: from, to, how many tokens stand ahead, its tokens. -/
structure PK where
  f : Int
  t : Int
  i : Int
  L : List TK
def pkOf (i : Nat) (p : List TK) : PK := ⟨(tat p 0).f, (tat p (p.length - 1)).t, i, p⟩
def pk : Nat → List (List TK) → List PK
  | _, [] => []
  | i, p :: P => pkOf i p :: pk (i + p.length) P
/-- The clauses of any bytes. -/
def pieces (l : List Int) : List PK := pk 0 (pcs (toks l))

theorem pk_len : ∀ (P : List (List TK)) (i : Nat), (pk i P).length = P.length
  | [], _ => rfl
  | p :: P, i => by rw [pk, List.length_cons, pk_len P, List.length_cons]
theorem pk_app : ∀ (A B : List (List TK)) (i : Nat), pk i (A ++ B) = pk i A ++ pk (i + A.flatten.length) B
  | [], B, i => by simp [pk]
  | a :: A, B, i => by
    rw [List.cons_append, pk, pk, pk_app A B, List.cons_append, List.flatten_cons, List.length_append, Nat.add_assoc]
theorem pk_snoc (A : List (List TK)) (p : List TK) (i : Nat) : pk i (A ++ [p]) = pk i A ++ [pkOf (i + A.flatten.length) p] := by
  rw [pk_app]; rfl

/-! ### How deep brackets go -/

def isO (t : TK) : Bool := t.k == 6 && t.s.toList == [40]
def isC (t : TK) : Bool := t.k == 6 && t.s.toList == [41]
theorem isO_C {t : TK} (h : isO t = true) : isC t = false := by
  unfold isO at h; unfold isC
  simp only [Bool.and_eq_true, beq_iff_eq] at h
  rw [h.2]; simp
def nst : Nat → Nat → List TK → Nat
  | _, m, [] => m
  | o, m, t :: L => if isO t then nst (o + 1) (max m (o + 1)) L else if isC t && decide (0 < o) then nst (o - 1) m L else nst o m L

theorem nst_open {t : TK} {L : List TK} {o m : Nat} (h : isO t = true) : nst o m (t :: L) = nst (o + 1) (max m (o + 1)) L := by rw [nst, if_pos h]
theorem nst_shut {t : TK} {L : List TK} {o m : Nat} (h : isC t = true) (h0 : 0 < o) : nst o m (t :: L) = nst (o - 1) m L := by
  have hO : isO t = false := by
    cases hh : isO t with
    | false => rfl
    | true => rw [isO_C hh] at h; cases h
  rw [nst, if_neg (by rw [hO]; decide), if_pos (by rw [h, decide_eq_true h0]; rfl)]
theorem nst_else {t : TK} {L : List TK} {o m : Nat} (h : isO t = false) (h1 : (isC t && decide (0 < o)) = false) : nst o m (t :: L) = nst o m L := by
  rw [nst, if_neg (by rw [h]; decide), if_neg (by rw [h1]; decide)]

theorem nst_opens {t : TK} (h : isO t = true) (R : List TK) : ∀ (k o m : Nat), o ≤ m → nst o m (List.replicate k t ++ R) = nst (o + k) (max m (o + k)) R
  | 0, o, m, hm => by rw [List.replicate_zero, List.nil_append, Nat.add_zero, Nat.max_eq_left hm]
  | k + 1, o, m, hm => by
    rw [List.replicate_succ, List.cons_append, nst_open h, nst_opens h R k (o + 1) _ (by omega)]
    congr 1
    · omega
    · omega
theorem nst_shuts {t : TK} (h : isC t = true) (R : List TK) : ∀ (k o m : Nat), nst o m (List.replicate k t ++ R) = nst (o - k) m R
  | 0, o, m => by rw [List.replicate_zero, List.nil_append, Nat.sub_zero]
  | k + 1, o, m => by
    rw [List.replicate_succ, List.cons_append]
    by_cases h0 : 0 < o
    · rw [nst_shut h h0, nst_shuts h R k]
      congr 1
      omega
    · have hO : isO t = false := by
        cases hh : isO t with
        | false => rfl
        | true => rw [isO_C hh] at h; cases h
      rw [nst_else hO (by rw [decide_eq_false h0, Bool.and_false]), nst_shuts h R k]
      congr 1
      omega
theorem nst_le : ∀ (L : List TK) (o m : Nat), o ≤ m → nst o m L ≤ m + L.length
  | [], o, m, _ => by simp [nst]
  | t :: L, o, m, h => by
    rw [nst, List.length_cons]
    split
    · have := nst_le L (o + 1) (max m (o + 1)) (by omega); omega
    · split
      · have := nst_le L (o - 1) m (by omega); omega
      · have := nst_le L o m h; omega

end Go.Proofs.YtimhcghjlknibaaDoor

/- Rows of any one-cell values, k cells an element: what a slice reads as, a row of the call's own, append. -/
namespace Go.Proofs.YtimhcghjlknibaaDoor
open Go.RowKit

/-- The slice value (a, len, cap) reads, in the world w, as the cells xs, k an element. -/
structure Vs (k : Nat) (w : World) (a : Option Addr) (len cap : Nat) (xs : List Value) : Prop where
  hl : xs.length = len * k
  lc : len ≤ cap
  cm : cap ≤ maxLen
  at_ : 0 < len → ∃ b off, a = some ⟨b, off, none⟩ ∧ b < w.heap.size ∧ ∀ j, j < len * k → w.cell? ⟨b, off + j, none⟩ = xs[j]?

theorem Vs.keep {k : Nat} {w w' : World} {a : Option Addr} {len cap : Nat} {xs : List Value} (h : Vs k w a len cap xs) (hs : w.heap.size ≤ w'.heap.size)
    (hk : ∀ x, x.block < w.heap.size → w'.cell? x = w.cell? x) : Vs k w' a len cap xs :=
  ⟨h.hl, h.lc, h.cm, fun h0 => by
    obtain ⟨b, off, ha, hb, hc⟩ := h.at_ h0
    exact ⟨b, off, ha, by omega, fun j hj => (hk _ hb).trans (hc j hj)⟩⟩
theorem Vs.below {k : Nat} {w w' : World} {a : Option Addr} {len cap : Nat} {xs : List Value} (h : Vs k w a len cap xs) (hb : Below w.heap.size w w') : Vs k w' a len cap xs :=
  h.keep hb.size fun _ hx => hb.cell hx
theorem Vs.nil (k : Nat) (w : World) (a : Option Addr) (cap : Nat) (h : cap ≤ maxLen) : Vs k w a 0 cap [] := ⟨by simp, Nat.zero_le _, h, fun h => by omega⟩
theorem Vs.cells {k : Nat} {w : World} {b off len cap : Nat} {xs : List Value} (h : Vs k w (some ⟨b, off, none⟩) len cap xs) (h0 : 0 < len) {j : Nat} (hj : j < len * k) : w.cell? ⟨b, off + j, none⟩ = xs[j]? := by
  obtain ⟨b', off', ha, _, hc⟩ := h.at_ h0
  simp only [Option.some.injEq, Addr.mk.injEq] at ha
  obtain ⟨rfl, rfl, _⟩ := ha
  exact hc j hj

/-- A row that the call itself has made, from block 'base' on. -/
def OwnV (base : Nat) (e : TypeId) (k : Nat) (w : World) (a : Option Addr) (len cap : Nat) (xs : List Value) : Prop := w.ownsRow base e k (.slice a len cap) len xs

theorem OwnV.bounds {base : Nat} {e : TypeId} {k : Nat} {w : World} {a : Option Addr} {len cap : Nat} {xs : List Value} (h : OwnV base e k w a len cap xs) : xs.length = len * k ∧ len ≤ cap ∧ cap ≤ maxLen := by
  obtain ⟨hl, h1⟩ := h
  rcases h1 with ⟨hv, hn⟩ | ⟨g, cp, cur, hv, hb, hg, hnc, hcm, hcs, htake⟩
  · simp only [Value.slice.injEq] at hv
    obtain ⟨rfl, rfl, rfl⟩ := hv
    exact ⟨hl, Nat.le_refl _, Nat.zero_le _⟩
  · simp only [Value.slice.injEq, true_and] at hv
    obtain ⟨rfl, rfl⟩ := hv
    exact ⟨hl, hnc, hcm⟩
theorem OwnV.form {base : Nat} {e : TypeId} {k : Nat} {w : World} {a : Option Addr} {len cap : Nat} {xs : List Value} (h : OwnV base e k w a len cap xs) (ha : a ≠ none) :
    ∃ g cur, a = some ⟨g, 0, none⟩ ∧ base ≤ g ∧ g < w.heap.size ∧ w.heap[g]? = some (.cells cur e (0, 0)) ∧ cur.size = cap * k ∧ cur.toList.take (len * k) = xs := by
  rcases h.2 with ⟨hv, hn⟩ | ⟨g, cp, cur, hv, hb, hg, hnc, hcm, hcs, htake⟩
  · simp only [Value.slice.injEq] at hv
    exact absurd hv.1 ha
  · simp only [Value.slice.injEq, true_and] at hv
    obtain ⟨rfl, rfl⟩ := hv
    exact ⟨g, cur, rfl, hb, (Array.getElem?_eq_some_iff.1 hg).1, hg, hcs, htake⟩
theorem OwnV.some {base : Nat} {e : TypeId} {k : Nat} {w : World} {a : Option Addr} {len cap : Nat} {xs : List Value} (h : OwnV base e k w a len cap xs) (h0 : 0 < len) : a ≠ none := by
  rcases h.2 with ⟨hv, hn⟩ | ⟨g, cp, cur, hv, _⟩
  · omega
  · simp only [Value.slice.injEq, true_and] at hv
    rw [hv.1]; simp
theorem OwnV.vs {base : Nat} {e : TypeId} {k : Nat} {w : World} {a : Option Addr} {len cap : Nat} {xs : List Value} (h : OwnV base e k w a len cap xs) : Vs k w a len cap xs :=
  ⟨h.bounds.1, h.bounds.2.1, h.bounds.2.2, fun h0 => by
    obtain ⟨g, cur, ha, _, hlt, hg, _, ht⟩ := h.form (h.some h0)
    refine ⟨g, 0, ha, hlt, fun j hj => ?_⟩
    rw [cell_of_row w g (0 + j) cur e (0, 0) hg, Nat.zero_add, ← ht, List.getElem?_take, if_pos hj]
    simp⟩
theorem OwnV.none0 {base : Nat} {e : TypeId} {k : Nat} {w : World} : OwnV base e k w none 0 0 [] := ⟨by simp, .inl ⟨rfl, rfl⟩⟩
theorem OwnV.keep {base B : Nat} {e : TypeId} {k : Nat} {w w' : World} {a : Option Addr} {len cap : Nat} {xs : List Value} (h : OwnV base e k w a len cap xs) (hb : Below B w w') (hB : w.heap.size ≤ B) : OwnV base e k w' a len cap xs :=
  World.ownsRow.kept h (row := none) ⟨hb.os, hb.tape, hb.output, hb.size, fun j hj _ => hb.block j (by omega)⟩ (by cases hv : (Value.slice a len cap).ownBlock <;> simp)
theorem OwnV.alloc {base : Nat} {e : TypeId} {k : Nat} {w : World} {a : Option Addr} {len cap : Nat} {xs : List Value} (h : OwnV base e k w a len cap xs) (o : Obj) : OwnV base e k (w.alloc o) a len cap xs := World.ownsRow.alloc h o
/-- Another row of the call's own grew: not this one. -/
theorem OwnV.other {base : Nat} {e : TypeId} {k : Nat} {w w' : World} {a : Option Addr} {len cap : Nat} {xs : List Value} {row : Option Nat} (h : OwnV base e k w a len cap xs) (hg : w.grownBy w' row) (hne : (Value.slice a len cap).ownBlock = none ∨ (Value.slice a len cap).ownBlock ≠ row) : OwnV base e k w' a len cap xs :=
  World.ownsRow.kept h hg hne
/-- An empty row that a literal has laid, by its block. -/
theorem OwnV.emptyAt {base X k : Nat} {e : TypeId} {w : World} (h : w.heap[X]? = .some (.cells #[] e (0, 0))) (hb : base ≤ X) : OwnV base e k w (.some ⟨X, 0, none⟩) 0 0 [] :=
  ⟨by simp, .inr ⟨X, 0, #[], rfl, hb, h, Nat.le_refl _, Nat.zero_le _, by simp, by simp⟩⟩
/-- A row cut off behind its first m elements. -/
theorem OwnV.cut {base : Nat} {e : TypeId} {k : Nat} {w : World} {g len cap m : Nat} {xs : List Value} (h : OwnV base e k w (.some ⟨g, 0, none⟩) len cap xs) (hm : m ≤ len) : OwnV base e k w (.some ⟨g, 0, none⟩) m cap (xs.take (m * k)) := by
  have hb := h.bounds
  obtain ⟨g', cur, ha, hbg, _, hg, hcs, ht⟩ := h.form (by simp)
  simp only [Option.some.injEq, Addr.mk.injEq, and_true] at ha
  subst ha
  have hmk : m * k ≤ len * k := Nat.mul_le_mul_right _ hm
  refine ⟨by rw [List.length_take, hb.1]; omega, .inr ⟨g, cap, cur, rfl, hbg, hg, by omega, hb.2.2, hcs, ?_⟩⟩
  rw [← ht, List.take_take, Nat.min_eq_left hmk]
/-- One element that a literal has laid. -/
theorem Vs.lit {k : Nat} (w : World) (e : TypeId) {mk : Nat × Nat} {xs : List Value} {cs : Array Value} (hc : cs = xs.toArray) (hk : xs.length = k) {g : Nat} (hg : g = w.heap.size) : Vs k (w.alloc (.cells cs e mk)) (some ⟨g, 0, none⟩) 1 1 xs := by
  subst hc; subst hg
  refine ⟨by rw [hk, Nat.one_mul], Nat.le_refl _, by decide, fun _ => ⟨w.heap.size, 0, rfl, by simp, fun j hj => ?_⟩⟩
  rw [cell_of_row (w.alloc (.cells xs.toArray e mk)) w.heap.size (0 + j) _ e mk (heap_alloc_new w _)]
  simp

theorem Vs.drew {k : Nat} {w : World} {a : Option Addr} {len cap : Nat} {xs : List Value} (h : Vs k w a len cap xs) : Vs k w.drew a len cap xs := h.below (Below.refl _ _).drew
theorem OwnV.drew {base : Nat} {e : TypeId} {k : Nat} {w : World} {a : Option Addr} {len cap : Nat} {xs : List Value} (h : OwnV base e k w a len cap xs) : OwnV base e k w.drew a len cap xs := h.keep (Below.refl _ _).drew (Nat.le_refl _)

theorem Vs.news {k : Nat} {w : World} {a : Option Addr} {len cap : Nat} {xs : List Value} (h : Vs k w a len cap xs) : ∀ b off, a = some ⟨b, off, none⟩ → 0 < len → ∀ j u, xs[j]? = some u → w.cell? ((⟨b, off, none⟩ : Addr).add j) = some u := by
  intro b off ha h0 j u hj
  subst ha
  have := (List.getElem?_eq_some_iff.1 hj).1
  rw [addr_add, h.cells h0 (by rw [← h.hl]; exact this), hj]

/-- 'append(s, x...)', s a row of the call's own, x whatever slice of the type. -/
theorem wp_appv {P : Program} {w : World} {o : Oper} {a : Act} {K : Act → World → Prop} {Q : Exit → Act → World → Prop} (s x : Operand) (t : TypeId)
    (ho : o.op = .call { callee := .builtin .append, args := #[s, x], argTypes := #[t, t] })
    (e base k by_ : Nat) (z : Value) (ht : P.underlying t = some (.slice e)) (hinf : (P.info? e).map (fun i => (i.zero, i.size, i.bytes)) = some (some z, k, by_)) (hzk : z.cells.size = k) (hk : 0 < k)
    (sa : Option Addr) (n c : Nat) (xs : List Value) (hs : a.eval s = .slice sa n c) (hown : OwnV base e k w sa n c xs)
    (xa : Option Addr) (m d : Nat) (ys : List Value) (hx : a.eval x = .slice xa m d) (hb : Vs k w xa m d ys) (h1 : ∀ u ∈ ys, u.oneCell' = true)
    (hbig : n + m ≤ maxLen) (hbytes : (n + m) * by_ ≤ 140737488355328) (hbase : base ≤ w.heap.size)
    (h : ∀ a' c' w', OwnV base e k w' a' (n + m) c' (xs ++ ys) → w.grownBy w' (Value.ownBlock (.slice sa n c)) → Below base w w' → (sa ≠ none → a' ≠ none) → K (a.put o.dst (.slice a' (n + m) c')) w') : o.wp P a w K Q := by
  obtain ⟨i, hi, hz, hsz, hby⟩ := info_parts hinf
  have fin : ∀ v' w', w'.ownsRow base e k v' (n + m) (xs ++ ys) → w.grownBy w' (Value.ownBlock (.slice sa n c)) → (v' = .slice none 0 0 → sa = none) → K (a.put o.dst v') w' := by
    intro v' w' ho' hg hnn
    have hbe : Below base w w' := (Below.refl base w).grown hg hbase fun k hk => (World.ownsRow.lt hown k hk).1
    rcases ho'.2 with ⟨rfl, hn0⟩ | ⟨g, cp, cur, rfl, r⟩
    · have hh := h none 0 w' (by rw [hn0]; rw [hn0] at ho'; exact ho') hg hbe (fun hsa => absurd (hnn rfl) hsa)
      rw [hn0] at hh; exact hh
    · exact h _ _ w' ho' hg hbe (by simp)
  by_cases h0 : 0 < m
  · obtain ⟨b, off, rfl, _, _⟩ := hb.at_ h0
    exact wp_append_own w s x t ho base e i _ k by_ ht hi hz hsz hby hzk hk _ _ _ hs hown ⟨b, off, none⟩ m d ys hx hb.hl
      (hb.news b off rfl h0) h1 hbig hbytes hbase (fun v' w' h1 h2 h3 => fin v' w' h1 h2 fun hv => by have := (h3.1 hv).1; simp only [Value.slice.injEq] at this; exact this.1)
  · have hm0 : m = 0 := by omega
    subst hm0
    have hk0 : ys = [] := List.eq_nil_of_length_eq_zero (by rw [hb.hl, Nat.zero_mul])
    subst hk0
    cases xa with
    | some ad => exact wp_append_own w s x t ho base e i _ k by_ ht hi hz hsz hby hzk hk _ _ _ hs hown ad 0 d [] hx (by simp) (by simp) (by simp) hbig hbytes hbase (fun v' w' h1 h2 h3 => fin v' w' (by simpa using h1) h2 fun hv => by have := (h3.1 hv).1; simp only [Value.slice.injEq] at this; exact this.1)
    | none =>
      have hr : (Builtin.append_ #[t, t] o.type #[.slice sa n c, .slice none 0 d]).run P w = .ok (.slice sa n c) w := by
        rcases hown.2 with ⟨hv, hn⟩ | ⟨g, cp, cur, hv, _, _, hnc, _⟩
        · simp only [Value.slice.injEq] at hv
          obtain ⟨rfl, rfl, rfl⟩ := hv
          simp [Builtin.append_, run_underlying ht, sizeOf, typeInfo, hi, Builtin.lenOf, Builtin.firstCells]
        · simp only [Value.slice.injEq, true_and] at hv
          obtain ⟨rfl, rfl⟩ := hv
          simp [Builtin.append_, run_underlying ht, sizeOf, typeInfo, hi, Builtin.lenOf, Builtin.firstCells, hnc, storeCells]
      unfold Oper.wp execOp
      simp only [ho, resolve, invoke, builtin, Sem.run_bind, Sem.run_pure, Result.andThen_ok, List.map_toArray, List.map_cons, List.map_nil, hs, hx, hr]
      exact fin _ w (by rw [List.append_nil]; exact hown) ⟨rfl, rfl, rfl, Nat.le_refl _, fun _ _ _ => rfl⟩ (by simp only [Value.slice.injEq]; exact fun hv => hv.1)

theorem wpList_appv {P : Program} {ops : Array Oper} {rest : List Oper} {w : World} {o : Oper} {a : Act} {Q : Exit → Act → World → Prop} (hw : Region.wanted o (yielded ops a.tmps) = true) (s x : Operand) (t : TypeId)
    (ho : o.op = .call { callee := .builtin .append, args := #[s, x], argTypes := #[t, t] })
    (e base k by_ : Nat) (z : Value) (ht : P.underlying t = some (.slice e)) (hinf : (P.info? e).map (fun i => (i.zero, i.size, i.bytes)) = some (some z, k, by_)) (hzk : z.cells.size = k) (hk : 0 < k)
    (sa : Option Addr) (n c : Nat) (xs : List Value) (hs : a.eval s = .slice sa n c) (hown : OwnV base e k w sa n c xs)
    (xa : Option Addr) (m d : Nat) (ys : List Value) (hx : a.eval x = .slice xa m d) (hb : Vs k w xa m d ys) (h1 : ∀ u ∈ ys, u.oneCell' = true)
    (hbig : n + m ≤ maxLen) (hbytes : (n + m) * by_ ≤ 140737488355328) (hbase : base ≤ w.heap.size)
    (h : ∀ a' c' w', OwnV base e k w' a' (n + m) c' (xs ++ ys) → w.grownBy w' (Value.ownBlock (.slice sa n c)) → Below base w w' → (sa ≠ none → a' ≠ none) → wpList P ops Q rest (a.put o.dst (.slice a' (n + m) c')) w') : wpList P ops Q (o :: rest) a w :=
  wpList_step fun K hK => by
    rw [if_pos hw]
    exact wp_appv s x t ho e base k by_ z ht hinf hzk hk sa n c xs hs hown xa m d ys hx hb h1 hbig hbytes hbase fun a' c' w' h1 h2 h3 h4 => hK _ _ (h a' c' w' h1 h2 h3 h4)

/-- The same at a step of a region that draws its order. -/
theorem step_appv {P : Program} {w : World} {ops : Array Oper} {o : Oper} {a : Act} {K : Act → World → Prop} {Q : Exit → Act → World → Prop} {E : Prop} (hgd : o.guard = none) (s x : Operand) (t : TypeId)
    (ho : o.op = .call { callee := .builtin .append, args := #[s, x], argTypes := #[t, t] })
    (e base k by_ : Nat) (z : Value) (ht : P.underlying t = some (.slice e)) (hinf : (P.info? e).map (fun i => (i.zero, i.size, i.bytes)) = some (some z, k, by_)) (hzk : z.cells.size = k) (hk : 0 < k)
    (sa : Option Addr) (n c : Nat) (xs : List Value) (hs : a.eval s = .slice sa n c) (hown : OwnV base e k w sa n c xs)
    (xa : Option Addr) (m d : Nat) (ys : List Value) (hx : a.eval x = .slice xa m d) (hb : Vs k w xa m d ys) (h1 : ∀ u ∈ ys, u.oneCell' = true)
    (hbig : n + m ≤ maxLen) (hbytes : (n + m) * by_ ≤ 140737488355328) (hbase : base ≤ w.heap.size)
    (h : ∀ a' c' w', OwnV base e k w' a' (n + m) c' (xs ++ ys) → w.grownBy w' (Value.ownBlock (.slice sa n c)) → Below base w w' → (sa ≠ none → a' ≠ none) → K (a.put o.dst (.slice a' (n + m) c')) w') :
    if Region.wanted o (yielded ops a.tmps) = true then o.wp P a w K Q else E := by
  rw [if_pos (show Region.wanted o (yielded ops a.tmps) = true by simp [Region.wanted, hgd])]
  exact wp_appv s x t ho e base k by_ z ht hinf hzk hk sa n c xs hs hown xa m d ys hx hb h1 hbig hbytes hbase h

/-! ### Rows of tokens as rows of cells -/

theorem Ts.vs {w : World} {a : Option Addr} {len cap : Nat} {L : List TK} (h : Ts w a len cap L) : Vs 5 w a len cap (rowT L) :=
  ⟨by rw [rowT_len, h.hl], h.lc, h.cm, fun h0 => by
    obtain ⟨b, off, rfl, hb, _⟩ := h.at_ h0
    refine ⟨b, off, rfl, hb, fun j hj => ?_⟩
    have hjr : j < (rowT L).length := by rw [rowT_len, h.hl]; exact hj
    have := h.news b off rfl h0 j _ (List.getElem?_eq_getElem hjr)
    rw [addr_add] at this
    rw [this, List.getElem?_eq_getElem hjr]⟩

end Go.Proofs.YtimhcghjlknibaaDoor

/- x[l:], x[:h], x[l:h] of rows of cells, whatever room there is; rows of tokens. -/
namespace Go.Proofs.YtimhcghjlknibaaDoor
open Go.RowKit

section
variable {P : Program} {t e : TypeId} {z : Value} {s by_ : Nat} (he : P.elem t = e) (hu : P.underlying t = some (.slice e)) (hinf : (P.info? e).map (fun i => (i.zero, i.size, i.bytes)) = some (some z, s, by_))
include he hu hinf

theorem run_lh {g off n c l h : Nat} (hl : l ≤ h) (hh : h ≤ c) (w : World) : (Instr.slice t (.slice (some ⟨g, off, none⟩) n c) (some (.int .i64 l)) (some (.int .i64 h)) none).run P w = .ok (.slice (some ⟨g, if c = l then off else off + l * s, none⟩) (h - l) (c - l)) w := by
  obtain ⟨i, hi, hz, hs, hby⟩ := info_parts hinf
  have := run_slice_lh (P := P) w t (some ⟨g, off, none⟩) n c (by rw [he]; exact hu) .i64 .i64 l h (by omega) (by omega) (by omega)
  rw [this, he, Int.toNat_natCast, Int.toNat_natCast]
  by_cases h0 : c = l
  · simp [sizeOf, typeInfo, hi, hs, Result.andThen, sliced, h0]
  · simp [sizeOf, typeInfo, hi, hs, Result.andThen, sliced, h0, addr_add]
theorem run_l {g off n c l : Nat} (hl : l ≤ n) (w : World) : (Instr.slice t (.slice (some ⟨g, off, none⟩) n c) (some (.int .i64 l)) none none).run P w = .ok (.slice (some ⟨g, if c = l then off else off + l * s, none⟩) (n - l) (c - l)) w := by
  obtain ⟨i, hi, hz, hs, hby⟩ := info_parts hinf
  have := run_slice_l (P := P) w t (some ⟨g, off, none⟩) n c (by rw [he]; exact hu) .i64 l (by omega) (by omega)
  rw [this, he, Int.toNat_natCast]
  by_cases h0 : c = l
  · simp [sizeOf, typeInfo, hi, hs, Result.andThen, sliced, h0]
  · simp [sizeOf, typeInfo, hi, hs, Result.andThen, sliced, h0, addr_add]
theorem run_h {g off n c h : Nat} (hh : h ≤ c) (w : World) : (Instr.slice t (.slice (some ⟨g, off, none⟩) n c) none (some (.int .i64 h)) none).run P w = .ok (.slice (some ⟨g, off, none⟩) h c) w := by
  obtain ⟨i, hi, hz, hs, hby⟩ := info_parts hinf
  have := run_slice_h (P := P) w t (some ⟨g, off, none⟩) n c (by rw [he]; exact hu) .i64 h (by omega) (by omega)
  rw [this, he, Int.toNat_natCast]
  by_cases h0 : c = 0
  · simp [sizeOf, typeInfo, hi, hs, Result.andThen, sliced, h0]
  · simp [sizeOf, typeInfo, hi, hs, Result.andThen, sliced, addr_add]
end

theorem Vs.sub {k : Nat} {w : World} {g off n c l h : Nat} {xs : List Value} (hv : Vs k w (some ⟨g, off, none⟩) n c xs) (hl : l ≤ h) (hh : h ≤ n) : Vs k w (some ⟨g, if c = l then off else off + l * k, none⟩) (h - l) (c - l) ((xs.take (h * k)).drop (l * k)) := by
  have h1 := hv.hl
  have h2 := hv.lc
  have h3 := hv.cm
  have hmk : h * k ≤ n * k := Nat.mul_le_mul_right _ hh
  have hlk : l * k ≤ h * k := Nat.mul_le_mul_right _ hl
  refine ⟨by rw [List.length_drop, List.length_take, h1, Nat.min_eq_left hmk, Nat.sub_mul], by omega, by omega, fun h0 => ?_⟩
  obtain ⟨b, o, ha, hb, hc⟩ := hv.at_ (by omega)
  simp only [Option.some.injEq, Addr.mk.injEq] at ha
  obtain ⟨rfl, rfl, _⟩ := ha
  rw [if_neg (by omega)]
  refine ⟨g, off + l * k, rfl, hb, fun j hj => ?_⟩
  rw [Nat.sub_mul] at hj
  rw [List.getElem?_drop, List.getElem?_take, if_pos (by omega), ← hc (l * k + j) (by omega), Nat.add_assoc]
theorem Vs.from {k : Nat} {w : World} {g off n c l : Nat} {xs : List Value} (hv : Vs k w (some ⟨g, off, none⟩) n c xs) (hl : l ≤ n) : Vs k w (some ⟨g, if c = l then off else off + l * k, none⟩) (n - l) (c - l) (xs.drop (l * k)) := by
  have := hv.sub hl (Nat.le_refl n)
  rwa [List.take_of_length_le (by rw [hv.hl]; exact Nat.le_refl _)] at this

theorem Ts.sub {w : World} {g off n c l h : Nat} {L : List TK} (hv : Ts w (some ⟨g, off, none⟩) n c L) (hl : l ≤ h) (hh : h ≤ n) : Ts w (some ⟨g, if c = l then off else off + l * 5, none⟩) (h - l) (c - l) ((L.take h).drop l) := by
  have h1 := hv.hl
  have h2 := hv.lc
  have h3 := hv.cm
  refine ⟨by rw [List.length_drop, List.length_take, h1, Nat.min_eq_left hh], by omega, by omega, fun h0 => ?_⟩
  obtain ⟨b, o, ha, hb, hc⟩ := hv.at_ (by omega)
  simp only [Option.some.injEq, Addr.mk.injEq] at ha
  obtain ⟨rfl, rfl, _⟩ := ha
  rw [if_neg (by omega)]
  refine ⟨g, off + l * 5, rfl, hb, fun j hj i hi => ?_⟩
  have e : tat ((L.take h).drop l) j = tat L (l + j) := by
    unfold tat; simp [List.getD, show l + j < h by omega]
  rw [e, ← hc (l + j) (by omega) i hi, show off + l * 5 + (j * 5 + i) = off + ((l + j) * 5 + i) by omega]
theorem Ts.to {w : World} {g off n c h : Nat} {L : List TK} (hv : Ts w (some ⟨g, off, none⟩) n c L) (hh : h ≤ n) : Ts w (some ⟨g, off, none⟩) h c (L.take h) := by
  have := hv.sub (l := 0) (h := h) (Nat.zero_le _) hh
  by_cases h0 : c = 0
  · rw [if_pos h0, Nat.sub_zero, Nat.sub_zero, List.drop_zero] at this; exact this
  · rw [if_neg h0, Nat.sub_zero, Nat.sub_zero, List.drop_zero, Nat.zero_mul, Nat.add_zero] at this; exact this
theorem Ts.from {w : World} {g off n c l : Nat} {L : List TK} (hv : Ts w (some ⟨g, off, none⟩) n c L) (hl : l ≤ n) : Ts w (some ⟨g, if c = l then off else off + l * 5, none⟩) (n - l) (c - l) (L.drop l) := by
  have := hv.sub hl (Nat.le_refl n)
  rwa [List.take_of_length_le (by rw [hv.hl]; exact Nat.le_refl _)] at this

theorem ts_few {w : World} {a : Option Addr} {len cap : Nat} {L : List TK} (h : Ts w a len cap L) (n : Nat) : Ts w a (min len n) cap (L.take n) := by
  have h1 := h.hl
  have h2 := h.lc
  by_cases h0 : 0 < len
  · obtain ⟨b, off, rfl, _, _⟩ := h.at_ h0
    by_cases hn : n ≤ len
    · rw [Nat.min_eq_right hn]; exact h.to hn
    · rw [Nat.min_eq_left (by omega), List.take_of_length_le (by omega)]; exact h
  · have hz : len = 0 := by omega
    subst hz
    have : L = [] := List.eq_nil_of_length_eq_zero h1
    subst this
    rw [Nat.zero_min, List.take_nil]; exact h

theorem elem_toks : Tryd.prog.elem 23 = 38 := by kernel_rfl
theorem elem_strs : Tryd.prog.elem 27 = 9 := by kernel_rfl
theorem str_info : (Tryd.prog.info? 9).map (fun i => (i.zero, i.size, i.bytes)) = some (some (.string { data := #[] }), 1, 16) := by kernel_rfl
theorem toks_info : (Tryd.prog.info? 23).map (fun i => (i.zero, i.size, i.bytes)) = some (some (.slice none 0 0), 1, 24) := by kernel_rfl
theorem piece_info : (Tryd.prog.info? 25).map (fun i => (i.zero, i.size, i.bytes)) = some (some (.agg #[.int .i64 0, .int .i64 0, .int .i64 0, .slice none 0 0]), 4, 48) := by kernel_rfl

/-- A slice of tokens, as a value, and what it reads as. -/
structure SV where
  a : Option Addr
  n : Nat
  c : Nat
  L : List TK
def SV.v (s : SV) : Value := .slice s.a s.n s.c
def SV.ok (w : World) (s : SV) : Prop := Ts w s.a s.n s.c s.L
/-- A piece, as a value, and what it reads as. -/
structure PV where
  f : Int
  t : Int
  i : Int
  s : SV
def cellsP (p : PV) : List Value := [.int .i64 p.f, .int .i64 p.t, .int .i64 p.i, .slice p.s.a p.s.n p.s.c]
def rowP : List PV → List Value
  | [] => []
  | p :: V => cellsP p ++ rowP V
def PV.k (p : PV) : PK := ⟨p.f, p.t, p.i, p.s.L⟩
def pat (V : List PV) (j : Nat) : PV := V.getD j ⟨0, 0, 0, none, 0, 0, []⟩
def sat (V : List SV) (j : Nat) : SV := V.getD j ⟨none, 0, 0, []⟩

theorem rowP_len : ∀ V : List PV, (rowP V).length = V.length * 4
  | [] => rfl
  | p :: V => by rw [rowP, List.length_append, rowP_len V, List.length_cons]; simp [cellsP]; omega
theorem rowP_append : ∀ A B : List PV, rowP (A ++ B) = rowP A ++ rowP B
  | [], B => rfl
  | a :: A, B => by rw [List.cons_append, rowP, rowP, rowP_append A B, List.append_assoc]
theorem rowP_at : ∀ (V : List PV) (j i : Nat), i < 4 → j < V.length → (rowP V)[j * 4 + i]? = (cellsP (pat V j))[i]?
  | [], j, i, _, h => by simp at h
  | p :: V, 0, i, hi, _ => by
    rw [rowP, Nat.zero_mul, Nat.zero_add, List.getElem?_append_left (by simpa [cellsP] using hi)]; rfl
  | p :: V, j + 1, i, hi, h => by
    rw [rowP, List.getElem?_append_right (by simp [cellsP]; omega), show (j + 1) * 4 + i - (cellsP p).length = j * 4 + i by simp [cellsP]; omega,
      rowP_at V j i hi (by simpa using h)]
    rfl
theorem rowP_one (V : List PV) : ∀ u ∈ rowP V, u.oneCell' = true := by
  induction V with
  | nil => simp [rowP]
  | cons t V ih =>
    intro u hu
    rw [rowP] at hu
    rcases List.mem_append.1 hu with hu | hu
    · simp only [cellsP, List.mem_cons, List.not_mem_nil, or_false] at hu
      rcases hu with rfl | rfl | rfl | rfl <;> rfl
    · exact ih u hu
theorem rowS_one (V : List SV) : ∀ u ∈ V.map SV.v, u.oneCell' = true := by
  intro u hu
  obtain ⟨s, _, rfl⟩ := List.mem_map.1 hu
  rfl

/-- The slice value (a, len, cap) reads, in the world w, as these pieces. -/
structure Ps (w : World) (a : Option Addr) (len cap : Nat) (V : List PV) : Prop where
  row : Vs 4 w a len cap (rowP V)
  ok : ∀ p ∈ V, p.s.ok w
theorem Ps.hl {w : World} {a : Option Addr} {len cap : Nat} {V : List PV} (h : Ps w a len cap V) : V.length = len := by
  have := h.row.hl
  rw [rowP_len] at this
  omega
theorem Ps.below {w w' : World} {a : Option Addr} {len cap : Nat} {V : List PV} (h : Ps w a len cap V) (hb : Below w.heap.size w w') : Ps w' a len cap V :=
  ⟨h.row.below hb, fun p hp => Ts.below (h.ok p hp) hb⟩
theorem pat_mem {V : List PV} {j : Nat} (h : j < V.length) : pat V j ∈ V := by
  unfold pat; rw [show V.getD j _ = V[j] by simp [List.getD, h]]; exact List.getElem_mem h
theorem sat_mem {V : List SV} {j : Nat} (h : j < V.length) : sat V j ∈ V := by
  unfold sat; rw [show V.getD j _ = V[j] by simp [List.getD, h]]; exact List.getElem_mem h
/-- The four cells of the piece at k, as a walk spells them. -/
theorem Ps.at4 {w : World} {b off len cap : Nat} {V : List PV} (h : Ps w (some ⟨b, off, none⟩) len cap V) {k : Nat} (hk : k < len) :
    w.cell? ⟨b, off + k * 4, none⟩ = some (.int .i64 (pat V k).f) ∧ w.cell? ⟨b, off + k * 4 + 1, none⟩ = some (.int .i64 (pat V k).t) ∧ w.cell? ⟨b, off + k * 4 + 2, none⟩ = some (.int .i64 (pat V k).i) ∧
    w.cell? ⟨b, off + k * 4 + 3, none⟩ = some (.slice (pat V k).s.a (pat V k).s.n (pat V k).s.c) := by
  have hl := h.hl
  have key : ∀ i, i < 4 → w.cell? ⟨b, off + (k * 4 + i), none⟩ = (cellsP (pat V k))[i]? := fun i hi => by
    rw [h.row.cells (by omega) (by omega), rowP_at V k i hi (by omega)]
  exact ⟨key 0 (by omega), key 1 (by omega), key 2 (by omega), key 3 (by omega)⟩
theorem Ps.form {w : World} {a : Option Addr} {len cap : Nat} {V : List PV} (h : Ps w a len cap V) (h0 : 0 < len) : ∃ b off, a = some ⟨b, off, none⟩ ∧ b < w.heap.size := by
  obtain ⟨b, off, ha, hb, _⟩ := h.row.at_ h0
  exact ⟨b, off, ha, hb⟩

end Go.Proofs.YtimhcghjlknibaaDoor
