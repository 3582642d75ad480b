/- Texts laid one behind the other. -/
import Derived.Test.YtjkjbgekpkhpfaaGreatDoorMA
import Derived.Test.YtjkjbgekpkhpfaaGreatDoorMB
import Derived.Deep.RegionHeld3

/- The plain mathematics of layer 10: tokens in clauses, and how deep brackets go. No walk here. -/
namespace Go.Proofs.YtjkjbgekpkhpfaaGreatDoor
open Go.RowKit

/-- How many tokens the first clause has. -/
def hdN : List TK → Nat
  | [] => 0
  | t :: L => if t.k = 7 then 1 else 1 + hdN L

theorem tat_zero (t : TK) (L : List TK) : tat (t :: L) 0 = t := rfl
theorem tat_succ (t : TK) (L : List TK) (j : Nat) : tat (t :: L) (j + 1) = tat L j := by unfold tat; simp [List.getD]
theorem tat_drop' (L : List TK) (k j : Nat) : tat (L.drop k) j = tat L (k + j) := by unfold tat; simp [List.getD]
theorem tat_takeL {L : List TK} {k j : Nat} (h : j < k) : tat (L.take k) j = tat L j := by unfold tat; simp [List.getD, h]

theorem hdN_le : ∀ L : List TK, hdN L ≤ L.length
  | [] => Nat.le_refl _
  | t :: L => by have := hdN_le L; simp only [hdN, List.length_cons]; split <;> omega
theorem hdN_pos : ∀ {L : List TK}, 0 < L.length → 1 ≤ hdN L
  | t :: L, _ => by simp only [hdN]; split <;> omega
theorem hdN_at : ∀ {L : List TK} {k : Nat}, k < L.length → (tat L k).k = 7 → (∀ j, j < k → (tat L j).k ≠ 7) → hdN L = k + 1
  | t :: L, 0, _, h, _ => by rw [tat_zero] at h; rw [hdN, if_pos h]
  | t :: L, k + 1, hk, h, hn => by
    have h0 := hn 0 (by omega)
    rw [tat_zero] at h0
    rw [tat_succ] at h
    rw [hdN, if_neg h0, hdN_at (L := L) (k := k) (by simpa using hk) h fun j hj => by have := hn (j + 1) (by omega); rwa [tat_succ] at this]
    omega
theorem hdN_none : ∀ {L : List TK}, (∀ j, j < L.length → (tat L j).k ≠ 7) → hdN L = L.length
  | [], _ => rfl
  | t :: L, hn => by
    have h0 := hn 0 (by simp)
    rw [tat_zero] at h0
    rw [hdN, if_neg h0, hdN_none (L := L) fun j hj => by have := hn (j + 1) (by simpa using hj); rwa [tat_succ] at this]
    simp; omega
theorem hdN_mid : ∀ {L : List TK} {j : Nat}, j + 1 < hdN L → (tat L j).k ≠ 7
  | [], j, h => by simp [hdN] at h
  | t :: L, 0, h => by
    rw [tat_zero]
    intro h7
    rw [hdN, if_pos h7] at h
    omega
  | t :: L, j + 1, h => by
    rw [tat_succ]
    rw [hdN] at h
    split at h
    · omega
    · exact hdN_mid (by omega)
theorem hdN_end : ∀ {L : List TK}, 0 < L.length → (tat L (hdN L - 1)).k = 7 ∨ hdN L = L.length
  | t :: L, _ => by
    rw [hdN]
    split
    · rename_i h; exact Or.inl h
    · by_cases h0 : 0 < L.length
      · have hp := hdN_pos h0
        rcases hdN_end h0 with h | h
        · left
          rw [show 1 + hdN L - 1 = hdN L - 1 + 1 by omega, tat_succ]; exact h
        · right; rw [h]; simp; omega
      · have : L = [] := List.eq_nil_of_length_eq_zero (by omega)
        subst this
        right; rfl

def pcF : Nat → List TK → List (List TK)
  | 0, _ => []
  | f + 1, L => if L.length = 0 then [] else L.take (hdN L) :: pcF f (L.drop (hdN L))
/-- The tokens, clause by clause. -/
def pcs (L : List TK) : List (List TK) := pcF L.length L

theorem pcF_same : ∀ (f g : Nat) (L : List TK), L.length ≤ f → L.length ≤ g → pcF f L = pcF g L
  | 0, 0, _, _, _ => rfl
  | 0, g + 1, L, h, _ => by rw [pcF, pcF, if_pos (by omega)]
  | f + 1, 0, L, _, h => by rw [pcF, pcF, if_pos (by omega)]
  | f + 1, g + 1, L, hf, hg => by
    rw [pcF, pcF]
    by_cases h0 : L.length = 0
    · rw [if_pos h0, if_pos h0]
    · have := hdN_pos (L := L) (by omega)
      rw [if_neg h0, if_neg h0, pcF_same f g _ (by rw [List.length_drop]; omega) (by rw [List.length_drop]; omega)]
theorem pcs_nil : pcs [] = [] := rfl
theorem pcs_cons {L : List TK} (h : 0 < L.length) : pcs L = L.take (hdN L) :: pcs (L.drop (hdN L)) := by
  have := hdN_pos h
  unfold pcs
  conv => lhs; rw [show L.length = (L.length - 1) + 1 by omega, pcF, if_neg (by omega)]
  rw [pcF_same (L.length - 1) (L.drop (hdN L)).length _ (by rw [List.length_drop]; omega) (Nat.le_refl _)]

/-- By the clauses, from the first on. -/
theorem by_pcs {P : List TK → Prop} (h0 : P []) (h : ∀ L : List TK, 0 < L.length → P (L.drop (hdN L)) → P L) : ∀ L, P L := by
  have : ∀ (f : Nat) (L : List TK), L.length ≤ f → P L := by
    intro f
    induction f with
    | zero => intro L hl; rw [List.eq_nil_of_length_eq_zero (l := L) (by omega)]; exact h0
    | succ f ih =>
      intro L hl
      by_cases hn : 0 < L.length
      · exact h L hn (ih _ (by have := hdN_pos hn; rw [List.length_drop]; omega))
      · rw [List.eq_nil_of_length_eq_zero (l := L) (by omega)]; exact h0
  exact fun L => this _ L (Nat.le_refl _)

theorem pcs_flat (L : List TK) : (pcs L).flatten = L := by
  revert L
  refine by_pcs rfl fun L h ih => ?_
  rw [pcs_cons h, List.flatten_cons, ih, List.take_append_drop]
theorem pcs_len (L : List TK) : (pcs L).length ≤ L.length := by
  revert L
  refine by_pcs (Nat.le_refl _) fun L h ih => ?_
  have := hdN_pos h
  rw [pcs_cons h, List.length_cons]
  rw [List.length_drop] at ih
  omega
/-- What a clause is: not empty, with no end ahead of its last token. -/
structure Cl (p : List TK) : Prop where
  pos : 0 < p.length
  mid : ∀ j, j + 1 < p.length → (tat p j).k ≠ 7
theorem pcs_cl (L : List TK) : ∀ p ∈ pcs L, Cl p := by
  revert L
  refine by_pcs (by simp [pcs_nil]) fun L h ih => ?_
  have h1 := hdN_pos h
  have h2 := hdN_le L
  rw [pcs_cons h]
  intro p hp
  rcases List.mem_cons.1 hp with rfl | hp
  · refine ⟨by rw [List.length_take]; omega, fun j hj => ?_⟩
    rw [List.length_take] at hj
    rw [tat_takeL (by omega)]
    exact hdN_mid (by omega)
  · exact ih p hp
/-- Each but the last clause ends with an end. -/
theorem pcs_ends (L : List TK) : ∀ i, i + 1 < (pcs L).length → (tat ((pcs L).getD i []) (((pcs L).getD i []).length - 1)).k = 7 := by
  revert L
  refine by_pcs (by simp [pcs_nil]) fun L h ih => ?_
  have h1 := hdN_pos h
  have h2 := hdN_le L
  rw [pcs_cons h]
  intro i hi
  rw [List.length_cons] at hi
  cases i with
  | zero =>
    show (tat (L.take (hdN L)) ((L.take (hdN L)).length - 1)).k = 7
    rw [List.length_take, Nat.min_eq_left h2, tat_takeL (by omega)]
    rcases hdN_end h with h3 | h3
    · exact h3
    · rw [h3, List.drop_length, pcs_nil] at hi
      simp at hi
  | succ i =>
    have := ih i (by omega)
    rw [List.getD_cons_succ]
    exact this

/-- A clause as it is told: from, to, how many tokens stand ahead, its tokens. -/
structure PK where
  f : Int
  t : Int
  i : Int
  L : List TK
def pkOf (i : Nat) (p : List TK) : PK := ⟨(tat p 0).f, (tat p (p.length - 1)).t, i, p⟩
def pk : Nat → List (List TK) → List PK
  | _, [] => []
  | i, p :: P => pkOf i p :: pk (i + p.length) P
/-- The clauses of any bytes. -/
def pieces (l : List Int) : List PK := pk 0 (pcs (toks l))

theorem pk_len : ∀ (P : List (List TK)) (i : Nat), (pk i P).length = P.length
  | [], _ => rfl
  | p :: P, i => by rw [pk, List.length_cons, pk_len P, List.length_cons]
theorem pk_app : ∀ (A B : List (List TK)) (i : Nat), pk i (A ++ B) = pk i A ++ pk (i + A.flatten.length) B
  | [], B, i => by simp [pk]
  | a :: A, B, i => by
    rw [List.cons_append, pk, pk, pk_app A B, List.cons_append, List.flatten_cons, List.length_append, Nat.add_assoc]
theorem pk_snoc (A : List (List TK)) (p : List TK) (i : Nat) : pk i (A ++ [p]) = pk i A ++ [pkOf (i + A.flatten.length) p] := by
  rw [pk_app]; rfl

/-! ### How deep brackets go -/

def isO (t : TK) : Bool := t.k == 6 && t.s.toList == [40]
def isC (t : TK) : Bool := t.k == 6 && t.s.toList == [41]
theorem isO_C {t : TK} (h : isO t = true) : isC t = false := by
  unfold isO at h; unfold isC
  simp only [Bool.and_eq_true, beq_iff_eq] at h
  rw [h.2]; simp
def nst : Nat → Nat → List TK → Nat
  | _, m, [] => m
  | o, m, t :: L => if isO t then nst (o + 1) (max m (o + 1)) L else if isC t && decide (0 < o) then nst (o - 1) m L else nst o m L

theorem nst_open {t : TK} {L : List TK} {o m : Nat} (h : isO t = true) : nst o m (t :: L) = nst (o + 1) (max m (o + 1)) L := by rw [nst, if_pos h]
theorem nst_shut {t : TK} {L : List TK} {o m : Nat} (h : isC t = true) (h0 : 0 < o) : nst o m (t :: L) = nst (o - 1) m L := by
  have hO : isO t = false := by
    cases hh : isO t with
    | false => rfl
    | true => rw [isO_C hh] at h; cases h
  rw [nst, if_neg (by rw [hO]; decide), if_pos (by rw [h, decide_eq_true h0]; rfl)]
theorem nst_else {t : TK} {L : List TK} {o m : Nat} (h : isO t = false) (h1 : (isC t && decide (0 < o)) = false) : nst o m (t :: L) = nst o m L := by
  rw [nst, if_neg (by rw [h]; decide), if_neg (by rw [h1]; decide)]

theorem nst_opens {t : TK} (h : isO t = true) (R : List TK) : ∀ (k o m : Nat), o ≤ m → nst o m (List.replicate k t ++ R) = nst (o + k) (max m (o + k)) R
  | 0, o, m, hm => by rw [List.replicate_zero, List.nil_append, Nat.add_zero, Nat.max_eq_left hm]
  | k + 1, o, m, hm => by
    rw [List.replicate_succ, List.cons_append, nst_open h, nst_opens h R k (o + 1) _ (by omega)]
    congr 1
    · omega
    · omega
theorem nst_shuts {t : TK} (h : isC t = true) (R : List TK) : ∀ (k o m : Nat), nst o m (List.replicate k t ++ R) = nst (o - k) m R
  | 0, o, m => by rw [List.replicate_zero, List.nil_append, Nat.sub_zero]
  | k + 1, o, m => by
    rw [List.replicate_succ, List.cons_append]
    by_cases h0 : 0 < o
    · rw [nst_shut h h0, nst_shuts h R k]
      congr 1
      omega
    · have hO : isO t = false := by
        cases hh : isO t with
        | false => rfl
        | true => rw [isO_C hh] at h; cases h
      rw [nst_else hO (by rw [decide_eq_false h0, Bool.and_false]), nst_shuts h R k]
      congr 1
      omega
theorem nst_le : ∀ (L : List TK) (o m : Nat), o ≤ m → nst o m L ≤ m + L.length
  | [], o, m, _ => by simp [nst]
  | t :: L, o, m, h => by
    rw [nst, List.length_cons]
    split
    · have := nst_le L (o + 1) (max m (o + 1)) (by omega); omega
    · split
      · have := nst_le L (o - 1) m (by omega); omega
      · have := nst_le L o m h; omega

end Go.Proofs.YtjkjbgekpkhpfaaGreatDoor

/- x[l:], x[:h], x[l:h] of rows of cells, whatever room there is; rows of tokens. -/
namespace Go.Proofs.YtjkjbgekpkhpfaaGreatDoor
open Go.RowKit

theorem Ts.sub {w : World} {g off n c l h : Nat} {L : List TK} (hv : Ts w (some ⟨g, off, none⟩) n c L) (hl : l ≤ h) (hh : h ≤ n) : Ts w (some ⟨g, if c = l then off else off + l * 5, none⟩) (h - l) (c - l) ((L.take h).drop l) := by
  have h1 := hv.hl
  have h2 := hv.lc
  have h3 := hv.cm
  refine ⟨by rw [List.length_drop, List.length_take, h1, Nat.min_eq_left hh], by omega, by omega, fun h0 => ?_⟩
  obtain ⟨b, o, ha, hb, hc⟩ := hv.at_ (by omega)
  simp only [Option.some.injEq, Addr.mk.injEq] at ha
  obtain ⟨rfl, rfl, _⟩ := ha
  rw [if_neg (by omega)]
  refine ⟨g, off + l * 5, rfl, hb, fun j hj i hi => ?_⟩
  have e : tat ((L.take h).drop l) j = tat L (l + j) := by
    unfold tat; simp [List.getD, show l + j < h by omega]
  rw [e, ← hc (l + j) (by omega) i hi, show off + l * 5 + (j * 5 + i) = off + ((l + j) * 5 + i) by omega]
theorem Ts.to {w : World} {g off n c h : Nat} {L : List TK} (hv : Ts w (some ⟨g, off, none⟩) n c L) (hh : h ≤ n) : Ts w (some ⟨g, off, none⟩) h c (L.take h) := by
  have := hv.sub (l := 0) (h := h) (Nat.zero_le _) hh
  by_cases h0 : c = 0
  · rw [if_pos h0, Nat.sub_zero, Nat.sub_zero, List.drop_zero] at this; exact this
  · rw [if_neg h0, Nat.sub_zero, Nat.sub_zero, List.drop_zero, Nat.zero_mul, Nat.add_zero] at this; exact this
theorem Ts.from {w : World} {g off n c l : Nat} {L : List TK} (hv : Ts w (some ⟨g, off, none⟩) n c L) (hl : l ≤ n) : Ts w (some ⟨g, if c = l then off else off + l * 5, none⟩) (n - l) (c - l) (L.drop l) := by
  have := hv.sub hl (Nat.le_refl n)
  rwa [List.take_of_length_le (by rw [hv.hl]; exact Nat.le_refl _)] at this

theorem ts_few {w : World} {a : Option Addr} {len cap : Nat} {L : List TK} (h : Ts w a len cap L) (n : Nat) : Ts w a (min len n) cap (L.take n) := by
  have h1 := h.hl
  have h2 := h.lc
  by_cases h0 : 0 < len
  · obtain ⟨b, off, rfl, _, _⟩ := h.at_ h0
    by_cases hn : n ≤ len
    · rw [Nat.min_eq_right hn]; exact h.to hn
    · rw [Nat.min_eq_left (by omega), List.take_of_length_le (by omega)]; exact h
  · have hz : len = 0 := by omega
    subst hz
    have : L = [] := List.eq_nil_of_length_eq_zero h1
    subst this
    rw [Nat.zero_min, List.take_nil]; exact h

theorem elem_toks : Tryz.prog.elem 77 = 96 := by kernel_rfl
theorem toks_info : (Tryz.prog.info? 77).map (fun i => (i.zero, i.size, i.bytes)) = some (some (.slice none 0 0), 1, 24) := by kernel_rfl
theorem piece_info : (Tryz.prog.info? 80).map (fun i => (i.zero, i.size, i.bytes)) = some (some (.agg #[.int .i64 0, .int .i64 0, .int .i64 0, .slice none 0 0]), 4, 48) := by kernel_rfl

/-- A slice of tokens, as a value, and what it reads as. -/
structure SV where
  a : Option Addr
  n : Nat
  c : Nat
  L : List TK
def SV.v (s : SV) : Value := .slice s.a s.n s.c
def SV.ok (w : World) (s : SV) : Prop := Ts w s.a s.n s.c s.L
/-- A piece, as a value, and what it reads as. -/
structure PV where
  f : Int
  t : Int
  i : Int
  s : SV
def cellsP (p : PV) : List Value := [.int .i64 p.f, .int .i64 p.t, .int .i64 p.i, .slice p.s.a p.s.n p.s.c]
def rowP : List PV → List Value
  | [] => []
  | p :: V => cellsP p ++ rowP V
def PV.k (p : PV) : PK := ⟨p.f, p.t, p.i, p.s.L⟩
def pvat (V : List PV) (j : Nat) : PV := V.getD j ⟨0, 0, 0, none, 0, 0, []⟩
def sat (V : List SV) (j : Nat) : SV := V.getD j ⟨none, 0, 0, []⟩

theorem rowP_len : ∀ V : List PV, (rowP V).length = V.length * 4
  | [] => rfl
  | p :: V => by rw [rowP, List.length_append, rowP_len V, List.length_cons]; simp [cellsP]; omega
theorem rowP_append : ∀ A B : List PV, rowP (A ++ B) = rowP A ++ rowP B
  | [], B => rfl
  | a :: A, B => by rw [List.cons_append, rowP, rowP, rowP_append A B, List.append_assoc]
theorem rowP_at : ∀ (V : List PV) (j i : Nat), i < 4 → j < V.length → (rowP V)[j * 4 + i]? = (cellsP (pvat V j))[i]?
  | [], j, i, _, h => by simp at h
  | p :: V, 0, i, hi, _ => by
    rw [rowP, Nat.zero_mul, Nat.zero_add, List.getElem?_append_left (by simpa [cellsP] using hi)]; rfl
  | p :: V, j + 1, i, hi, h => by
    rw [rowP, List.getElem?_append_right (by simp [cellsP]; omega), show (j + 1) * 4 + i - (cellsP p).length = j * 4 + i by simp [cellsP]; omega,
      rowP_at V j i hi (by simpa using h)]
    rfl
theorem rowP_one (V : List PV) : ∀ u ∈ rowP V, u.oneCell' = true := by
  induction V with
  | nil => simp [rowP]
  | cons t V ih =>
    intro u hu
    rw [rowP] at hu
    rcases List.mem_append.1 hu with hu | hu
    · simp only [cellsP, List.mem_cons, List.not_mem_nil, or_false] at hu
      rcases hu with rfl | rfl | rfl | rfl <;> rfl
    · exact ih u hu
theorem rowS_one (V : List SV) : ∀ u ∈ V.map SV.v, u.oneCell' = true := by
  intro u hu
  obtain ⟨s, _, rfl⟩ := List.mem_map.1 hu
  rfl

/-- The slice value (a, len, cap) reads, in the world w, as these pieces. -/
structure Ps (w : World) (a : Option Addr) (len cap : Nat) (V : List PV) : Prop where
  row : Vs 4 w a len cap (rowP V)
  ok : ∀ p ∈ V, p.s.ok w
theorem Ps.hl {w : World} {a : Option Addr} {len cap : Nat} {V : List PV} (h : Ps w a len cap V) : V.length = len := by
  have := h.row.hl
  rw [rowP_len] at this
  omega
theorem Ps.below {w w' : World} {a : Option Addr} {len cap : Nat} {V : List PV} (h : Ps w a len cap V) (hb : Below w.heap.size w w') : Ps w' a len cap V :=
  ⟨h.row.below hb, fun p hp => Ts.below (h.ok p hp) hb⟩
theorem pat_mem {V : List PV} {j : Nat} (h : j < V.length) : pvat V j ∈ V := by
  unfold pvat; rw [show V.getD j _ = V[j] by simp [List.getD, h]]; exact List.getElem_mem h
theorem sat_mem {V : List SV} {j : Nat} (h : j < V.length) : sat V j ∈ V := by
  unfold sat; rw [show V.getD j _ = V[j] by simp [List.getD, h]]; exact List.getElem_mem h
/-- The four cells of the piece at k, as a walk spells them. -/
theorem Ps.at4 {w : World} {b off len cap : Nat} {V : List PV} (h : Ps w (some ⟨b, off, none⟩) len cap V) {k : Nat} (hk : k < len) :
    w.cell? ⟨b, off + k * 4, none⟩ = some (.int .i64 (pvat V k).f) ∧ w.cell? ⟨b, off + k * 4 + 1, none⟩ = some (.int .i64 (pvat V k).t) ∧ w.cell? ⟨b, off + k * 4 + 2, none⟩ = some (.int .i64 (pvat V k).i) ∧
    w.cell? ⟨b, off + k * 4 + 3, none⟩ = some (.slice (pvat V k).s.a (pvat V k).s.n (pvat V k).s.c) := by
  have hl := h.hl
  have key : ∀ i, i < 4 → w.cell? ⟨b, off + (k * 4 + i), none⟩ = (cellsP (pvat V k))[i]? := fun i hi => by
    rw [h.row.cells (by omega) (by omega), rowP_at V k i hi (by omega)]
  exact ⟨key 0 (by omega), key 1 (by omega), key 2 (by omega), key 3 (by omega)⟩
theorem Ps.form {w : World} {a : Option Addr} {len cap : Nat} {V : List PV} (h : Ps w a len cap V) (h0 : 0 < len) : ∃ b off, a = some ⟨b, off, none⟩ ∧ b < w.heap.size := by
  obtain ⟨b, off, ha, hb, _⟩ := h.row.at_ h0
  exact ⟨b, off, ha, hb⟩

end Go.Proofs.YtjkjbgekpkhpfaaGreatDoor

/- Contracts of package split's smallest functions; slices.IndexFunc, slices.Clone at tokens; cut. -/
namespace Go.Proofs.YtjkjbgekpkhpfaaGreatDoor
open Go.RowKit

def isN (t : TK) : Bool := t.k == 1 || (t.k == 2 || t.k == 6)

def aggT (t : TK) : Value := .agg #[.int .i64 t.k, .int .i64 t.f, .int .i64 t.t, .string t.s, .int .i64 t.e]

set_option maxRecDepth 20000 in
theorem ends1_any (t : TK) (w : World) :
    Calls Tryz.prog 102 #[.agg #[.int .i64 t.k, .int .i64 t.f, .int .i64 t.t, .string t.s, .int .i64 t.e]] w fun e w' => e = .returned (.bool (t.k == 7)) ∧ Below w.heap.size w w' := by
  obtain ⟨k, f, t, s, e⟩ := t
  simp only
  have HW : Hid (Below w.heap.size w (w.alloc (.cells #[.int .i64 k, .int .i64 f, .int .i64 t, .string s, .int .i64 e] 96))) := Lib.hid ((Below.refl _ _).alloc (Nat.le_refl _) _)
  go_enter Tryz.func102, Tryz.ntmps102
  go_wp2
  go_ret
  exact ⟨rfl, HW.out⟩

set_option maxRecDepth 20000 in
set_option maxHeartbeats 1000000 in
theorem tindex_any (a : Option Addr) (len cap : Nat) (L : List TK) (w : World) (h : Ts w a len cap L) :
    Calls Tryz.prog 122 #[.slice a len cap, .func (.func 102) #[] #[]] w fun e w' => (e = .returned (.int .i64 (-1)) ∧ hdN L = len ∨ ∃ k : Nat, e = .returned (.int .i64 k) ∧ k < len ∧ hdN L = k + 1) ∧ Below w.heap.size w w' := by
  have hcm := h.cm
  have hlc := h.lc
  unfold maxLen at hcm
  have H := Lib.hid h
  have HL := Lib.hid h.hl
  clear h
  go_enter Tryz.func122, Tryz.ntmps122
  go_wp2
  go_loopw [8] (fun i wr => ∃ k : Nat, i = .int .i64 k ∧ k ≤ len ∧ Hid (∀ j, j < k → (tat L j).k ≠ 7) ∧ Hid (Below w.heap.size w wr)) (fun i _ => len - (intOf i).toNat)
  case atStart => exact ⟨0, rfl, by omega, Lib.hid (fun j hj => by omega), Lib.hid (Below.refl _ _)⟩
  case round =>
    obtain ⟨k, rfl, hk, HM, HB⟩ := hrel
    by_cases hlt : k < len
    · have hb := H.out.below HB.out
      obtain ⟨b, off, rfl, _, _⟩ := hb.at_ (by omega)
      obtain ⟨c0, c1, c2, c3, c4⟩ := hb.at5 hlt
      obtain ⟨T, hT⟩ : ∃ T, T = tat L k := ⟨_, rfl⟩
      rw [← hT] at c0 c1 c2 c3 c4
      have HTU := Lib.hid hT
      clear hb hT
      go_wp2_with fail
      refine (ends1_any T _).mono ?_
      rintro e w1 ⟨rfl, hb1⟩
      have HW1 : Hid (Below w.heap.size w w1) := Lib.hid (HB.out.trans (hb1.mono HB.out.size))
      clear hb1
      cases hq : T.k == 7 with
      | true =>
        have HF : Hid (hdN L = k + 1) := Lib.hid (hdN_at (by rw [HL.out]; exact hlt) (by rw [← HTU.out]; simpa using hq) HM.out)
        clear hq
        go_wp2
        go_ret
        exact ⟨Or.inr ⟨k, rfl, hlt, HF.out⟩, HW1.out⟩
      | false =>
        have HF : Hid (∀ j, j < k + 1 → (tat L j).k ≠ 7) := Lib.hid (fun j hj => by
          by_cases hjk : j < k
          · exact HM.out j hjk
          · have : j = k := by omega
            subst this
            rw [← HTU.out]
            simpa using hq)
        clear hq
        go_wp2
        go_roundw
        case rel => exact ⟨k + 1, by go_num, by omega, HF, HW1⟩
        case measure => simp [intOf]; omega
    · have hkl : k = len := by omega
      have HF : Hid (hdN L = len) := Lib.hid (by rw [hdN_none (by rw [HL.out, ← hkl]; exact HM.out), HL.out])
      go_wp2
      go_ret
      exact ⟨Or.inl ⟨rfl, HF.out⟩, HB.out⟩

set_option maxRecDepth 20000 in
set_option maxHeartbeats 1000000 in
theorem tclone_any (b off len cap : Nat) (L : List TK) (w : World) (h : Ts w (some ⟨b, off, none⟩) len cap L) (hsz : len ≤ 1000000) :
    Calls Tryz.prog 123 #[.slice (some ⟨b, off, none⟩) len cap] w fun e w' => ∃ a' c', e = .returned (.slice a' len c') ∧ RowT w.heap.size 96 w' a' len c' L ∧ Below w.heap.size w w' := by
  have hcm := h.cm
  have hlc := h.lc
  unfold maxLen at hcm
  have H := Lib.hid h
  have hnn : (binOp .eql 77 (.slice (some ⟨b, off, none⟩) len cap) (.slice none 0 0)).run Tryz.prog w = .ok (.bool false) w := by
    unfold binOp
    simp [run_equal_slice_nil w 77 96 (some ⟨b, off, none⟩) len cap Tryz.underlying77]
  clear h
  go_enter Tryz.func123, Tryz.ntmps123
  go_wp2_with (at_builtin; refine Hid.out ?_)
  refine Lib.hid ?_
  refine wpList_appT rfl (.tmp 5) (.tmp 6) rfl w.heap.size _ _ _ [] rfl (OwnT.emptyAt (heap_alloc_new w _) (Nat.le_refl _)) _ _ _ L rfl (H.out.alloc _) (by omega) (by simp) ?_
  intro a2 c2 w2 ho2 hg2 hb2
  rw [Nat.zero_add] at ho2 ⊢
  have HO2 := Lib.hid ho2
  have HB2 : Hid (Below w.heap.size w w2) := Lib.hid (((Below.refl _ _).alloc (Nat.le_refl _) _).trans hb2)
  clear ho2 hg2 hb2
  go_wp2
  go_ret
  exact ⟨_, _, rfl, HO2.out.row, HB2.out⟩

end Go.Proofs.YtjkjbgekpkhpfaaGreatDoor

/- Contract of package split's cut. -/
namespace Go.Proofs.YtjkjbgekpkhpfaaGreatDoor
open Go.RowKit

def slen : Value → Nat
  | .slice _ n _ => n
  | _ => 0

theorem RowT.mono {base base' : Nat} {e : TypeId} {w : World} {a : Option Addr} {len cap : Nat} {L : List TK} (h : RowT base e w a len cap L) (hb : base' ≤ base) : RowT base' e w a len cap L :=
  ⟨h.hl, h.lc, h.cm, fun h0 => by
    obtain ⟨g, cur, ha, hg0, hg, ht⟩ := h.own h0
    exact ⟨g, cur, ha, Nat.le_trans hb hg0, hg, ht⟩⟩
/-- A row of another type grew. -/
theorem RowT.past {base base' k : Nat} {e e' : TypeId} {w w' : World} {a a5 : Option Addr} {len cap n5 c5 : Nat} {L : List TK} {xs : List Value} (h : RowT base e w a len cap L) (ho : OwnV base' e' k w a5 n5 c5 xs) (he : e ≠ e')
    (hg : w.grownBy w' (Value.ownBlock (.slice a5 n5 c5))) : RowT base e w' a len cap L :=
  ⟨h.hl, h.lc, h.cm, fun h0 => by
    obtain ⟨g, cur, ha, hg0, hgg, ht⟩ := h.own h0
    refine ⟨g, cur, ha, hg0, ?_, ht⟩
    rw [hg.block g (Array.getElem?_eq_some_iff.1 hgg).1 ?_]
    · exact hgg
    · intro hh
      cases a5 with
      | none => simp [Value.ownBlock] at hh
      | some a5 =>
        obtain ⟨g', cur', ha', _, _, hgg', _, _⟩ := ho.form (by simp)
        simp only [Option.some.injEq] at ha'
        subst ha'
        simp only [Value.ownBlock, Option.some.injEq] at hh
        subst hh
        rw [hgg] at hgg'
        simp only [Option.some.injEq, Obj.cells.injEq] at hgg'
        exact he hgg'.2.1⟩
/-- A slice of tokens that lies in a row of the call's own. -/
def SV.own (base : Nat) (w : World) (s : SV) : Prop := RowT base 96 w s.a s.n s.c s.L

set_option maxRecDepth 100000 in
set_option maxHeartbeats 4000000 in
theorem tcut_any (a : Option Addr) (len cap : Nat) (L : List TK) (w : World) (h : Ts w a len cap L) (hsz : len ≤ 1000000) :
    Calls Tryz.prog 101 #[.slice a len cap, .func (.func 102) #[] #[]] w fun e w' => ∃ a', ∃ n' c' : Nat, ∃ V : List SV, e = .returned (.slice a' n' c') ∧ Vs 1 w' a' n' c' (V.map SV.v) ∧ V.map SV.L = pcs L ∧ (∀ s ∈ V, s.own w.heap.size w') ∧ n' ≤ len ∧ Below w.heap.size w w' := by
  have H := Lib.hid h
  clear h
  go_enter Tryz.func101, Tryz.ntmps101
  go_wp2
  go_loopw [0, 5] (fun x v wr => ∃ a0, ∃ n0 c0 : Nat, ∃ a5, ∃ n5 c5 : Nat, x = .slice a0 n0 c0 ∧ v = .slice a5 n5 c5 ∧ n0 + n5 ≤ len ∧ (∃ R, ∃ D : List SV, Hid (Ts w a0 n0 c0 R) ∧ Hid (OwnV w.heap.size 77 1 wr a5 n5 c5 (D.map SV.v)) ∧ Hid (∀ s ∈ D, s.own w.heap.size wr) ∧ Hid (D.map SV.L ++ pcs R = pcs L)) ∧ Hid (Below w.heap.size w wr)) (fun x _ _ => slen x)
  case atStart => exact ⟨_, _, _, _, _, _, rfl, rfl, by omega, ⟨L, [], H, Lib.hid OwnV.none0, Lib.hid (by simp), Lib.hid rfl⟩, Lib.hid (Below.refl _ _)⟩
  case round =>
    obtain ⟨a0, n0, c0, a5, n5, c5, rfl, rfl, hn, ⟨R, D, HR, HO, HD, HE⟩, HB⟩ := hrel
    have hlc := HR.out.lc
    have hcm := HR.out.cm
    unfold maxLen at hcm
    have HL := Lib.hid HR.out.hl
    by_cases h0 : 0 < n0
    · obtain ⟨b, off, rfl, hbl, _⟩ := HR.out.at_ h0
      have HP := Lib.hid (pcs_cons (L := R) (by rw [HL.out]; exact h0))
      have h1 := hdN_pos (L := R) (by rw [HL.out]; exact h0)
      have h2 := hdN_le R
      rw [HL.out] at h2
      go_wp2_with fail
      refine (tindex_any _ _ _ R _ (HR.out.below HB.out)).mono ?_
      rintro e w1 ⟨hres, hb1⟩
      have HO1 := Lib.hid (HO.out.keep hb1 (Nat.le_refl _))
      have HD1 : Hid (∀ s ∈ D, s.own w.heap.size w1) := Lib.hid fun s hs => RowT.keep (HD.out s hs) hb1 (Nat.le_refl _)
      have HB1 : Hid (Below w.heap.size w w1) := Lib.hid (HB.out.trans (hb1.mono HB.out.size))
      clear hb1
      rcases hres with ⟨rfl, hN⟩ | ⟨k, rfl, hkl, hN⟩
      · have HN := Lib.hid hN
        rw [hN] at h1 h2
        clear hN
        have hto : ∀ w, (Instr.slice 77 (.slice (some ⟨b, off, none⟩) n0 c0) none (some (.int .i64 n0)) none).run Tryz.prog w = .ok (.slice (some ⟨b, off, none⟩) (n0) c0) w := fun w => run_h (n := n0) (h := n0) elem_toks Tryz.underlying77 tok_info (by omega) w
        have hfrom : ∀ w, (Instr.slice 77 (.slice (some ⟨b, off, none⟩) n0 c0) (some (.int .i64 n0)) none none).run Tryz.prog w = .ok (.slice (some ⟨b, if c0 = n0 then off else off + (n0) * 5, none⟩) (n0 - (n0)) (c0 - (n0))) w := fun w => run_l (n := n0) (l := n0) elem_toks Tryz.underlying77 tok_info (by omega) w
        have hf := HR.out.from (l := n0) (by omega)
        obtain ⟨o2, ho2⟩ : ∃ o2, o2 = if c0 = n0 then off else off + (n0) * 5 := ⟨_, rfl⟩
        obtain ⟨n2, hn2⟩ : ∃ n2, n2 = n0 - (n0) := ⟨_, rfl⟩
        obtain ⟨c2', hc2⟩ : ∃ c2, c2 = c0 - (n0) := ⟨_, rfl⟩
        rw [← ho2, ← hn2, ← hc2] at hfrom hf
        have HF := Lib.hid hf
        have g1 : n2 + (n5 + 1) ≤ len := by omega
        have g2 : n2 < n0 := by omega
        clear ho2 hf hn2 hc2
        go_wp2_with fail
        refine (tclone_any b off (n0) c0 (R.take (n0)) _ ((HR.out.to (by omega)).below HB1.out) (by omega)).mono ?_
        rintro e w2 ⟨a2, c2, rfl, ht2, hb2⟩
        have HT2 : Hid (RowT w.heap.size 96 w2 a2 (n0) c2 (R.take (n0))) := Lib.hid (ht2.mono HB1.out.size)
        have HO2 := Lib.hid (HO1.out.keep hb2 (Nat.le_refl _))
        have HD2 : Hid (∀ s ∈ D, s.own w.heap.size w2) := Lib.hid fun s hs => RowT.keep (HD1.out s hs) hb2 (Nat.le_refl _)
        have HB2 : Hid (Below w.heap.size w w2) := Lib.hid (HB1.out.trans (hb2.mono HB1.out.size))
        clear hb2 ht2
        go_wp2_with (at_builtin; refine Hid.out ?_)
        refine Lib.hid ?_
        refine wpList_appv rfl (.tmp 18) (.tmp 23) 153 rfl 77 w.heap.size 1 24 _ Tryz.underlying153 toks_info rfl (by omega) _ _ _ (D.map SV.v) rfl (HO2.out.alloc _) _ _ _ [SV.v ⟨a2, n0, c2, R.take (n0)⟩] rfl (Vs.lit (k := 1) (xs := [SV.v ⟨a2, n0, c2, R.take (n0)⟩]) _ _ rfl rfl rfl) (by simp [SV.v]; rfl) (by unfold maxLen; omega) (by omega) (by have := HB2.out.size; simp; omega) ?_
        intro a3 c3 w3 ho3 hg3 hb3 _
        have HO3 : Hid (OwnV w.heap.size 77 1 w3 a3 (n5 + 1) c3 ((D ++ [(⟨a2, n0, c2, R.take (n0)⟩ : SV)]).map SV.v)) := Lib.hid (by rw [List.map_append]; exact ho3)
        have HD3 : Hid (∀ s ∈ D ++ [(⟨a2, n0, c2, R.take (n0)⟩ : SV)], SV.own w.heap.size w3 s) := Lib.hid fun s hs => by
          have key : ∀ t : SV, t.own w.heap.size w2 → t.own w.heap.size w3 := fun t ht =>
            RowT.past (RowT.keep ht ((Below.refl _ _).alloc (Nat.le_refl _) _) (Nat.le_refl _)) (HO2.out.alloc _) (by decide) hg3
          rcases List.mem_append.1 hs with hs | hs
          · exact key s (HD2.out s hs)
          · rw [List.mem_singleton.1 hs]; exact key _ HT2.out
        have HB3 : Hid (Below w.heap.size w w3) := Lib.hid ((HB2.out.alloc HB2.out.size _).trans hb3)
        have HE3 : Hid ((D ++ [(⟨a2, n0, c2, R.take (n0)⟩ : SV)]).map SV.L ++ pcs (R.drop (n0)) = pcs L) := Lib.hid (by
          rw [← HE.out, HP.out, HN.out, List.map_append, List.append_assoc]; rfl)
        clear ho3 hg3 hb3
        go_wp2
        go_roundw
        case rel => exact ⟨_, _, _, _, _, _, rfl, rfl, g1, ⟨_, _, HF, HO3, HD3, HE3⟩, HB3⟩
        case measure => simp [slen]; omega
      · have HN := Lib.hid hN
        rw [hN] at h1 h2
        clear hN
        have hto : ∀ w, (Instr.slice 77 (.slice (some ⟨b, off, none⟩) n0 c0) none (some (.int .i64 ((k : Int) + 1))) none).run Tryz.prog w = .ok (.slice (some ⟨b, off, none⟩) (k + 1) c0) w := fun w => run_h (n := n0) (h := k + 1) elem_toks Tryz.underlying77 tok_info (by omega) w
        have hfrom : ∀ w, (Instr.slice 77 (.slice (some ⟨b, off, none⟩) n0 c0) (some (.int .i64 ((k : Int) + 1))) none none).run Tryz.prog w = .ok (.slice (some ⟨b, if c0 = k + 1 then off else off + (k + 1) * 5, none⟩) (n0 - (k + 1)) (c0 - (k + 1))) w := fun w => run_l (n := n0) (l := k + 1) elem_toks Tryz.underlying77 tok_info (by omega) w
        have hf := HR.out.from (l := k + 1) (by omega)
        obtain ⟨o2, ho2⟩ : ∃ o2, o2 = if c0 = k + 1 then off else off + (k + 1) * 5 := ⟨_, rfl⟩
        obtain ⟨n2, hn2⟩ : ∃ n2, n2 = n0 - (k + 1) := ⟨_, rfl⟩
        obtain ⟨c2', hc2⟩ : ∃ c2, c2 = c0 - (k + 1) := ⟨_, rfl⟩
        rw [← ho2, ← hn2, ← hc2] at hfrom hf
        have HF := Lib.hid hf
        have g1 : n2 + (n5 + 1) ≤ len := by omega
        have g2 : n2 < n0 := by omega
        clear ho2 hf hn2 hc2
        go_wp2_with fail
        refine (tclone_any b off (k + 1) c0 (R.take (k + 1)) _ ((HR.out.to (by omega)).below HB1.out) (by omega)).mono ?_
        rintro e w2 ⟨a2, c2, rfl, ht2, hb2⟩
        have HT2 : Hid (RowT w.heap.size 96 w2 a2 (k + 1) c2 (R.take (k + 1))) := Lib.hid (ht2.mono HB1.out.size)
        have HO2 := Lib.hid (HO1.out.keep hb2 (Nat.le_refl _))
        have HD2 : Hid (∀ s ∈ D, s.own w.heap.size w2) := Lib.hid fun s hs => RowT.keep (HD1.out s hs) hb2 (Nat.le_refl _)
        have HB2 : Hid (Below w.heap.size w w2) := Lib.hid (HB1.out.trans (hb2.mono HB1.out.size))
        clear hb2 ht2
        go_wp2_with (at_builtin; refine Hid.out ?_)
        refine Lib.hid ?_
        refine wpList_appv rfl (.tmp 18) (.tmp 23) 153 rfl 77 w.heap.size 1 24 _ Tryz.underlying153 toks_info rfl (by omega) _ _ _ (D.map SV.v) rfl (HO2.out.alloc _) _ _ _ [SV.v ⟨a2, k + 1, c2, R.take (k + 1)⟩] rfl (Vs.lit (k := 1) (xs := [SV.v ⟨a2, k + 1, c2, R.take (k + 1)⟩]) _ _ rfl rfl rfl) (by simp [SV.v]; rfl) (by unfold maxLen; omega) (by omega) (by have := HB2.out.size; simp; omega) ?_
        intro a3 c3 w3 ho3 hg3 hb3 _
        have HO3 : Hid (OwnV w.heap.size 77 1 w3 a3 (n5 + 1) c3 ((D ++ [(⟨a2, k + 1, c2, R.take (k + 1)⟩ : SV)]).map SV.v)) := Lib.hid (by rw [List.map_append]; exact ho3)
        have HD3 : Hid (∀ s ∈ D ++ [(⟨a2, k + 1, c2, R.take (k + 1)⟩ : SV)], SV.own w.heap.size w3 s) := Lib.hid fun s hs => by
          have key : ∀ t : SV, t.own w.heap.size w2 → t.own w.heap.size w3 := fun t ht =>
            RowT.past (RowT.keep ht ((Below.refl _ _).alloc (Nat.le_refl _) _) (Nat.le_refl _)) (HO2.out.alloc _) (by decide) hg3
          rcases List.mem_append.1 hs with hs | hs
          · exact key s (HD2.out s hs)
          · rw [List.mem_singleton.1 hs]; exact key _ HT2.out
        have HB3 : Hid (Below w.heap.size w w3) := Lib.hid ((HB2.out.alloc HB2.out.size _).trans hb3)
        have HE3 : Hid ((D ++ [(⟨a2, k + 1, c2, R.take (k + 1)⟩ : SV)]).map SV.L ++ pcs (R.drop (k + 1)) = pcs L) := Lib.hid (by
          rw [← HE.out, HP.out, HN.out, List.map_append, List.append_assoc]; rfl)
        clear ho3 hg3 hb3
        go_wp2
        go_roundw
        case rel => exact ⟨_, _, _, _, _, _, rfl, rfl, g1, ⟨_, _, HF, HO3, HD3, HE3⟩, HB3⟩
        case measure => simp [slen]; omega
    · have hz : n0 = 0 := by omega
      subst hz
      have HE' : Hid (D.map SV.L = pcs L) := Lib.hid (by rw [← HE.out, List.eq_nil_of_length_eq_zero HL.out, pcs_nil, List.append_nil])
      go_wp2
      go_ret
      exact ⟨_, _, _, D, rfl, HO.out.vs, HE'.out, HD.out, by omega, HB.out⟩

end Go.Proofs.YtjkjbgekpkhpfaaGreatDoor

/- Contract of package split's Pieces. -/
namespace Go.Proofs.YtjkjbgekpkhpfaaGreatDoor
open Go.RowKit

theorem take_flat_len {A B : List (List TK)} {k : Nat} {p : List TK} (h : A = B.take k) (hp : B[k]? = some p) : (B.take (k + 1)).flatten.length = A.flatten.length + p.length ∧ pk 0 (B.take (k + 1)) = pk 0 A ++ [pkOf A.flatten.length p] := by
  subst h
  rw [List.take_add_one, hp]
  refine ⟨by simp, ?_⟩
  have := pk_snoc (B.take k) p 0
  rw [Nat.zero_add] at this
  exact this

theorem toks_length {l : List Int} (hr : ∀ x ∈ l, 0 ≤ x ∧ x ≤ 255) : (toks l).length ≤ l.length := (toks_fl hr).2

set_option maxRecDepth 100000 in
set_option maxHeartbeats 4000000 in
theorem pieces_any (a : Option Addr) (len cap : Nat) (l : List Int) (w : World) (h : Bs w a len cap l) (ht : Tab w) (hsz : len ≤ 1000000) :
    Calls Tryz.prog 79 #[.slice a len cap] w fun e w' => ∃ a', ∃ n' c' : Nat, ∃ V : List PV, e = .returned (.slice a' n' c') ∧ Ps w' a' n' c' V ∧ V.map PV.k = pieces l ∧ Below w.heap.size w w' := by
  have H := Lib.hid h
  have HT := Lib.hid ht
  have hTL := toks_length h.rng
  rw [h.hl] at hTL
  obtain ⟨T, hT⟩ : ∃ T, T = toks l := ⟨_, rfl⟩
  rw [← hT] at hTL
  have HTT := Lib.hid hT
  clear h ht hT
  go_enter Tryz.func79, Tryz.ntmps79
  go_wp2_with fail
  refine (all_any _ _ _ l _ H.out HT.out hsz).mono ?_
  rw [← HTT.out]
  rintro e w1 ⟨a1, rfl, hr1, hb1⟩
  have HR1 := Lib.hid hr1
  have HB1 := Lib.hid hb1
  clear hr1 hb1
  go_wp2_with fail
  refine (tcut_any _ _ _ T _ HR1.out.ts (by omega)).mono ?_
  rintro e w2 ⟨a9, n9, c9, V, rfl, hv2, hm2, ho2, hn9, hb2⟩
  have HB2 : Hid (Below w.heap.size w w2) := Lib.hid (HB1.out.trans (hb2.mono HB1.out.size))
  have HV2 := Lib.hid hv2
  have HM2 := Lib.hid hm2
  have HO2 : Hid (∀ s ∈ V, s.own w1.heap.size w2) := Lib.hid ho2
  have hVl : V.length = n9 := by have := hv2.hl; simpa using this
  have hlc9 := hv2.lc
  have hcm9 := hv2.cm
  unfold maxLen at hcm9
  have HVl := Lib.hid hVl
  have HPl : Hid ((pcs T).length = n9) := Lib.hid (by rw [← hm2, List.length_map, hVl])
  have HFl : Hid (∀ k, ((pcs T).take k).flatten.length ≤ T.length) := Lib.hid fun k => by
    have h1 := congrArg List.length (pcs_flat T)
    have h2 : ((pcs T).take k).flatten.length + ((pcs T).drop k).flatten.length = (pcs T).flatten.length := by
      rw [← List.length_append, ← List.flatten_append, List.take_append_drop]
    omega
  clear hv2 hm2 ho2 hb2 hVl
  go_wp2
  go_loopw [3, 4, 11] (fun v f i wr => ∃ a3, ∃ c3 k k4 : Nat, v = .slice a3 k c3 ∧ f = .int .i64 k4 ∧ i = .int .i64 k ∧ k ≤ n9 ∧ k4 ≤ len ∧ Hid (k4 = ((pcs T).take k).flatten.length) ∧ (∃ D : List PV, Hid (OwnV w2.heap.size 80 4 wr a3 k c3 (rowP D)) ∧ Hid (∀ p ∈ D, p.s.ok w2) ∧ Hid (D.map PV.k = pk 0 ((pcs T).take k))) ∧ Hid (Below w2.heap.size w2 wr)) (fun _ _ i _ => n9 - (intOf i).toNat)
  case atStart => exact ⟨_, _, 0, 0, rfl, rfl, rfl, by omega, by omega, Lib.hid (by simp), ⟨[], Lib.hid OwnV.none0, Lib.hid (by simp), Lib.hid (by simp [pk])⟩, Lib.hid (Below.refl _ _)⟩
  case round =>
    obtain ⟨a3, c3, k, k4, rfl, rfl, rfl, hk, hk4, HK, ⟨D, HO, HD, HE⟩, HB⟩ := hrel
    by_cases hlt : k < n9
    · have hsm := sat_mem (V := V) (j := k) (by rw [HVl.out]; exact hlt)
      obtain ⟨s, hs⟩ : ∃ s, s = sat V k := ⟨_, rfl⟩
      rw [← hs] at hsm
      have hso : s.own w1.heap.size w2 := HO2.out s hsm
      have hgs : V[k]? = some s := by
        rw [hs]; unfold sat
        rw [List.getD_eq_getElem?_getD, List.getElem?_eq_getElem (by rw [HVl.out]; exact hlt)]; rfl
      have hps : (pcs T)[k]? = some s.L := by rw [← HM2.out, List.getElem?_map, hgs]; rfl
      have hcl := pcs_cl T s.L (List.mem_of_getElem? hps)
      have hvr := HV2.out.below HB.out
      obtain ⟨b9, o9, rfl, hx1, hx2⟩ := hvr.at_ (by omega)
      clear hx1 hx2
      have hc9 := hvr.cells (by omega) (j := k) (by omega)
      rw [List.getElem?_map, hgs] at hc9
      obtain ⟨a8, n8, c8, L8⟩ := s
      simp only [SV.v, Option.map_some] at hc9
      have hso : RowT w1.heap.size 96 w2 a8 n8 c8 L8 := hso
      simp only at hps hcl
      have hl8 := hso.hl
      have hp8 := hcl.pos
      obtain ⟨m, rfl⟩ : ∃ m, n8 = m + 1 := ⟨n8 - 1, by omega⟩
      obtain ⟨g8, cur8, rfl, hg8, hh8, _⟩ := hso.own (by omega)
      have hh8 : g8 < w2.heap.size := (Array.getElem?_eq_some_iff.1 hh8).1
      have hlc8 := hso.lc
      have hcm8 := hso.cm
      unfold maxLen at hcm8
      obtain ⟨_, c1, _, _, _⟩ := hso.ts.at5 (k := 0) (by omega)
      obtain ⟨_, _, d2, _, _⟩ := hso.ts.at5 (k := m) (by omega)
      simp only [Nat.zero_mul, Nat.zero_add] at c1 d2
      obtain ⟨F, hF⟩ : ∃ F, F = (tat L8 0).f := ⟨_, rfl⟩
      obtain ⟨U, hU⟩ : ∃ U, U = (tat L8 m).t := ⟨_, rfl⟩
      rw [← hF] at c1
      rw [← hU] at d2
      have hfl := take_flat_len (A := (pcs T).take k) rfl hps
      rw [← HK.out] at hfl
      have hkk := HFl.out (k + 1)
      rw [hfl.1, hl8] at hkk
      have HPK : Hid (pkOf k4 L8 = ⟨F, U, k4, L8⟩) := Lib.hid (by unfold pkOf; rw [hF, hU, hl8, Nat.add_sub_cancel])
      have HFL := Lib.hid hfl
      have HL8 := Lib.hid hl8
      have HSO : Hid (Ts w2 (some ⟨g8, 0, none⟩) (m + 1) c8 L8) := Lib.hid hso.ts
      have HC1 := Lib.hid (And.intro c1 d2)
      have HH8 := Lib.hid hh8
      have hw1 : IntKind.i64.wrap (m : Int) = (m : Int) := IntWalk.i64_in _ (by omega)
      have hw2 : (0 : Int) ≤ (m : Int) := Int.natCast_nonneg _
      have hw3 : (m : Int) < (m : Int) + 1 := by omega
      clear hfl hF hU hps hcl hso hs hsm hvr hgs hl8 hp8 hg8 hh8 c1 d2
      go_wp2
      have hS : wr.cell? ⟨g8, 1, none⟩ = some (.int .i64 F) ∧ wr.cell? ⟨g8, m * 5 + 2, none⟩ = some (.int .i64 U) := ⟨(HB.out.cell HH8.out).trans HC1.out.1, (HB.out.cell HH8.out).trans HC1.out.2⟩
      go_region_held3 (fun w' => w'.cell? ⟨g8, 1, none⟩ = some (.int .i64 F) ∧ w'.cell? ⟨g8, m * 5 + 2, none⟩ = some (.int .i64 U))
        (first
          | go_keep
          | exact ⟨(HB4.out.cell HH8.out).trans HC1.out.1, (HB4.out.cell HH8.out).trans HC1.out.2⟩)
        (first
          | (refine step_appv rfl (.tmp 15) (.tmp 30) 122 rfl 80 w2.heap.size 4 48 _ Tryz.underlying122 piece_info rfl (by omega) _ _ _ (rowP D) rfl ((HO.out.alloc _).drew) _ _ _ (rowP [⟨F, U, k4, ⟨some ⟨g8, 0, none⟩, m + 1, c8, L8⟩⟩]) rfl (Vs.lit (k := 4) (xs := rowP [⟨F, U, k4, ⟨some ⟨g8, 0, none⟩, m + 1, c8, L8⟩⟩]) _ _ rfl rfl rfl).drew (rowP_one _) (by unfold maxLen; omega) (by omega) (by have := HB.out.size; simp; omega) ?_; intro a4 c4 w4 ho4 hg4 hb4 _; rw [← rowP_append] at ho4; have HO4 := Lib.hid ho4; have HB4 : Hid (Below w2.heap.size w2 w4) := Lib.hid ((HB.out.alloc HB.out.size _).drew.trans hb4); clear ho4 hg4 hb4))
      clear hS
      have HD4 : Hid (∀ p ∈ D ++ [(⟨F, U, k4, ⟨some ⟨g8, 0, none⟩, m + 1, c8, L8⟩⟩ : PV)], p.s.ok w2) := Lib.hid fun p hp => by
        rcases List.mem_append.1 hp with hp | hp
        · exact HD.out p hp
        · rw [List.mem_singleton.1 hp]; exact HSO.out
      have HE4 : Hid ((D ++ [(⟨F, U, k4, ⟨some ⟨g8, 0, none⟩, m + 1, c8, L8⟩⟩ : PV)]).map PV.k = pk 0 ((pcs T).take (k + 1))) := Lib.hid (by
        rw [HFL.out.2, ← HE.out, HPK.out, List.map_append]; rfl)
      have HK4 : Hid (k4 + (m + 1) = ((pcs T).take (k + 1)).flatten.length) := Lib.hid (by rw [HFL.out.1, HL8.out])
      have hsum : k4 + (m + 1) ≤ len := by omega
      go_wp2
      go_roundw
      case rel => exact ⟨_, _, k + 1, k4 + (m + 1), rfl, by go_num, by go_num, by omega, hsum, HK4, ⟨_, HO4, HD4, HE4⟩, HB4⟩
      case measure => simp [intOf]; omega
    · have hkl : k = n9 := by omega
      have HE' : Hid (D.map PV.k = pieces l) := Lib.hid (by rw [HE.out, List.take_of_length_le (by rw [HPl.out]; omega)]; unfold pieces; rw [← HTT.out])
      go_wp2
      go_ret
      exact ⟨_, _, _, D, rfl, ⟨HO.out.vs, fun p hp => Ts.below (HD.out p hp) HB.out⟩, HE'.out, HB2.out.trans (HB.out.mono HB2.out.size)⟩

end Go.Proofs.YtjkjbgekpkhpfaaGreatDoor
