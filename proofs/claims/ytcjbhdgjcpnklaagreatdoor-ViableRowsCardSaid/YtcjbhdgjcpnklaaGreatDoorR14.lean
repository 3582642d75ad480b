import Derived.Test.YtcjbhdgjcpnklaaGreatDoorR09
import Derived.Test.YtcjbhdgjcpnklaaGreatDoorR13
namespace Go.Proofs.YtcjbhdgjcpnklaaGreatDoor
open Go.RowKit
def OV (L : List OP) : List OP := L.filter fun o => (ofS o.1).isSome
def allV (n : Nat) : List Nat := List.range' 1 (n + 1)
def endsV (z : List Int) (O : List OP) (o : OP) (right : Bool) : List Nat := (allV O.length).filter fun j => j == 1 || fitsB z o (opA O (j - 2)) right
def stepsV (z : List Int) (O : List OP) (o : OP) : List Nm → Bool → List Sd
 | [], _ => []
 | x :: r, first => (if x = [] then .ho (if (first || r.isEmpty) = true then endsV z O o (!first) else allV O.length) else .pt x) :: stepsV z O o r false
def opVv (z : List Int) (O : List OP) (o : OP) : FD := ⟨3, o.1, (holN (itemsO o) : Nat), o, stepsV z O o (itemsO o) true⟩
def brV (n : Nat) : FD := ⟨2, [], 1, ([], 0, 0), [.br [40], .ho (allV n), .br [41]]⟩
def rwV (n : Nat) : FD := ⟨0, [], 0, ([], 0, 0), [.ho (allV n)]⟩
def FVw (z : List Int) (O : List OP) : List FD := rwV O.length :: brV O.length :: O.map (opVv z O)
theorem zCX (z : List Int) (O : List OP) : (FVw z O).length = O.length + 2 := by simp [FVw]
theorem zK8 (z : List Int) (O : List OP) : fA (FVw z O) 0 = rwV O.length := rfl
theorem zGe (z : List Int) (O : List OP) : fA (FVw z O) 1 = brV O.length := rfl
theorem zCw (z : List Int) (O : List OP) {j : Nat} (h : j < O.length) : fA (FVw z O) (j + 2) = opVv z O (opA O j) := by
 rw [zQP (by rw [zCX]; omega), zBh h]
 simp [FVw]
theorem zBV {n j : Nat} : j ∈ allV n ↔ 1 ≤ j ∧ j < n + 2 := by
 unfold allV
 rw [List.mem_range'_1]
 omega
theorem zGf {z : List Int} {O : List OP} {o : OP} {right : Bool} {j : Nat} (h : j ∈ endsV z O o right) : 1 ≤ j ∧ j < O.length + 2 := zBV.1 (List.mem_filter.1 h).1
theorem zDF (z : List Int) (O : List OP) (o : OP) : ∀ (I : List Nm) (first : Bool), (stepsV z O o I first).length = I.length
 | [], _ => rfl
 | x :: r, first => by rw [stepsV, List.length_cons, zDF z O o r false, List.length_cons]
theorem zGg (z : List Int) (O : List OP) (o : OP) : ∀ (I : List Nm) (first : Bool) (K : List Nat), .ho K ∈ stepsV z O o I first → ∀ j ∈ K, 1 ≤ j ∧ j < O.length + 2
 | [], _, K, h => by cases h
 | x :: r, first, K, h => by
  rw [stepsV] at h
  rcases List.mem_cons.1 h with h | h
  ·split at h
   ·cases h
    intro j hj
    split at hj
    ·exact zGf hj
    ·exact zBV.1 hj
   ·cases h
  ·exact zGg z O o r false K h
section
variable {L : List OP} {z : List Int} {tok : List TK}
theorem zIh {o : OP} (h : o ∈ OV L) : o ∈ L ∧ ∃ s, ofS o.1 = some s := by
 refine ⟨(List.mem_filter.1 h).1, ?_⟩
 have h1 := (List.mem_filter.1 h).2
 cases hs : ofS o.1 with
 | none => rw [hs] at h1; cases h1
 | some s => exact ⟨s, rfl⟩
theorem zOz {o : OP} {s : SH} (h : o ∈ L) (hs : ofS o.1 = some s) : o ∈ OV L := List.mem_filter.2 ⟨h, by rw [hs]; rfl⟩
theorem zO0 (hD : Dst L) {o o' : OP} (h : o ∈ OV L) (h' : o' ∈ OV L) (e : o.1 = o'.1) : o = o' := by
 have h1 := zCH hD (zIh h).1
 have h2 := zCH hD (zIh h').1
 rw [e, h2] at h1
 exact (Option.some.inj h1).symm
theorem zGh (hD : Dst L) {o' : OP} (h' : o' ∈ OV L) {K : List Nat} (hK : ∀ j ∈ K, 1 ≤ j ∧ j < (OV L).length + 2) {x : ND} {t : List ND} (hk : x.k = 3) (hn : x.n = o'.1) :
  TopF (FVw z (OV L)) K (x :: t) ↔ ∃ j, j < (OV L).length ∧ opA (OV L) j = o' ∧ j + 2 ∈ K := by
 constructor
 ·rintro ⟨x', r, e, h⟩
  cases e
  rcases h with h | ⟨i, hi, h1, h2⟩
  ·rw [hk] at h; cases h
  ·have hj := hK _ hi
   obtain ⟨j, rfl | rfl⟩ : ∃ j, i = 1 ∨ i = j + 2 := ⟨i - 2, by omega⟩
   ·rw [zGe, hk] at h1
    cases h1
   ·rw [zCw z _ (by omega), hn] at h2
    exact ⟨j, by omega, (zO0 hD h' (zBZ (by omega)) h2).symm, hi⟩
 ·rintro ⟨j, hj, e, hi⟩
  refine ⟨x, t, rfl, .inr ⟨j + 2, hi, ?_, ?_⟩⟩
  ·rw [zCw z _ hj]; exact hk
  ·rw [zCw z _ hj, e]; exact hn
theorem zFp {a b : Nat} {t : List ND} (h : Dv L z tok .tr a b t 1) : TopF (FVw z (OV L)) (allV (OV L).length) t := by
 cases h with
 | leaf => exact ⟨_, _, rfl, .inl rfl⟩
 | paren => exact ⟨_, _, rfl, .inr ⟨1, zBV.2 ⟨Nat.le_refl _, by omega⟩, rfl, rfl⟩⟩
 | @oper _ _ _ o s _ ho hs hab hd =>
  obtain ⟨j, hj, e⟩ := zIY (L := OV L) (zOz (zAq ho).1 hs)
  refine ⟨_, _, rfl, .inr ⟨j + 2, zBV.2 ⟨by omega, by omega⟩, ?_, ?_⟩⟩
  ·rw [zCw z _ hj]; rfl
  ·rw [zCw z _ hj, e]; rfl
theorem zCx (hD : Dst L) {o : OP} {right : Bool} {a b : Nat} {x : ND} {t : List ND} (h : Dv L z tok .tr a b (x :: t) 1) : TopF (FVw z (OV L)) (endsV z (OV L) o right) (x :: t) ↔ mayH L z o x right = true := by
 cases h with
 | leaf => exact ⟨fun _ => by unfold mayH; exact if_neg (fun h => by cases h), fun _ => ⟨_, _, rfl, .inl rfl⟩⟩
 | paren => exact ⟨fun _ => by unfold mayH; exact if_neg (fun h => by cases h), fun _ => ⟨_, _, rfl, .inr ⟨1, List.mem_filter.2 ⟨zBV.2 ⟨Nat.le_refl _, by omega⟩, rfl⟩, rfl, rfl⟩⟩⟩
 | @oper _ _ _ o' s _ ho hs hab hd =>
  have hm : o' ∈ OV L := zOz (zAq ho).1 hs
  rw [zGh hD hm (fun j hj => zGf hj) rfl rfl]
  have he : ∀ c, mayH L z o ⟨3, o'.1, a, b, c⟩ right = fitsB z o o' right := fun c => by
   unfold mayH
   rw [if_pos rfl, ho]
  rw [he]
  constructor
  ·rintro ⟨j, hj, rfl, hi⟩
   have := (List.mem_filter.1 hi).2
   rw [show j + 2 - 2 = j by omega] at this
   simpa using this
  ·intro hf
   obtain ⟨j, hj, e⟩ := zIY hm
   exact ⟨j, hj, e, List.mem_filter.2 ⟨zBV.2 ⟨by omega, by omega⟩, by rw [show j + 2 - 2 = j by omega, e, hf]; simp⟩⟩
theorem zK9 (hD : Dst L) {o : OP} : ∀ (I : List Nm) (first : Bool) (a b n : Nat) (l : List ND), (first = true → 2 ≤ I.length) → Dv L z tok (.it o I first) a b l n → DS L z tok (FVw z (OV L)) (stepsV z (OV L) o I first) a b l ∧ n = holN I
 | [], first, a, b, n, l, _, h => by
  cases h with
  | nil ha => exact ⟨⟨rfl, rfl⟩, rfl⟩
 | x :: r, first, a, b, n, l, hI, h => by
  cases h with
  | part hx ha hp hd =>
   obtain ⟨h1, h2⟩ := zK9 hD r false _ _ _ _ (fun h => by cases h) hd
   rw [stepsV, if_neg hx, zGb hx]
   exact ⟨zCv.2 ⟨by have := zKy _ _ _ _ h1; omega, hp, h1⟩, h2⟩
  | hole hd h1 h2 h3 =>
   obtain ⟨h4, h5⟩ := zK9 hD r false _ _ _ _ (fun h => by cases h) h3
   rw [stepsV, if_pos rfl, zGa]
   refine ⟨zBb.2 ⟨_, _, _, (zCs hd).2.2.1, zKy _ _ _ _ h4, ⟨hd, ?_⟩, h4, rfl⟩, by rw [h5]⟩
   cases first with
   | true => exact (zCx hD hd).2 (h1 rfl)
   | false =>
    cases hr : r with
    | nil => exact (zCx hD hd).2 (h2 hr)
    | cons y r => exact zFp hd
theorem zLA (hD : Dst L) {o : OP} : ∀ (I : List Nm) (first : Bool) (a b : Nat) (l : List ND), (first = true → 2 ≤ I.length) → b ≤ tok.length → DS L z tok (FVw z (OV L)) (stepsV z (OV L) o I first) a b l → Dv L z tok (.it o I first) a b l (holN I)
 | [], first, a, b, l, _, hb, h => by
  obtain ⟨rfl, rfl⟩ := zBH.1 h
  exact .nil hb
 | x :: r, first, a, b, l, hI, hb, h => by
  by_cases hx : x = []
  ·subst hx
   rw [stepsV, if_pos rfl] at h
   obtain ⟨c, t, l', h1, h2, ⟨h3, h4⟩, h5, rfl⟩ := zBb.1 h
   have h6 := zLA hD r false _ _ _ (fun h => by cases h) hb h5
   obtain ⟨y, t', rfl, _⟩ := (zOs h3).2
   rw [zGa]
   refine .hole h3 (fun hf => ?_) (fun hr => ?_) h6
   ·subst hf
    exact (zCx hD h3).1 h4
   ·subst hr
    cases first with
    | true => have := hI rfl; simp at this
    | false => exact (zCx hD h3).1 h4
  ·rw [stepsV, if_neg hx] at h
   obtain ⟨h1, h2, h3⟩ := zCv.1 h
   rw [zGb hx]
   exact .part hx (by omega) h2 (zLA hD r false _ _ _ (fun h => by cases h) hb h3)
end
structure GoodV (L : List OP) (z : List Int) (F : List FD) : Prop where
 kid : ∀ (tok : List TK) (K : List Nat) (a b : Nat) (t : List ND), (∀ i ∈ K, 1 ≤ i ∧ i < F.length) → a < b → b ≤ tok.length → (Dv L z tok .tr a b t 1 ∧ TopF F K t ↔ KD L z tok F K a b t)
 ks : ∀ i, i < F.length → ∀ K, .ho K ∈ (fA F i).S → ∀ j ∈ K, 1 ≤ j ∧ j < F.length
 ne : ∀ i, i < F.length → (fA F i).S ≠ []
 row : ∃ K, (fA F 0).S = [.ho K] ∧ ∀ (tok : List TK) (a b : Nat) (t : List ND), Dv L z tok .tr a b t 1 → TopF F K t
 pos : 0 < F.length
theorem zO1 {L : List OP} {z : List Int} (hD : Dst L) : GoodV L z (FVw z (OV L)) := by
 refine ⟨fun tok K a b t hK hab hb => ⟨?_, ?_⟩, ?_, ?_, ⟨_, rfl, fun tok a b t h => zFp h⟩, by rw [zCX]; omega⟩
 ·rintro ⟨hd, ht⟩
  rw [zCX] at hK
  cases hd with
  | leaf ha hl => exact .inl ⟨rfl, hl, rfl⟩
  | @paren _ b t hb' k1 t1 k2 t2 hd =>
   right
   obtain ⟨x', r, e, h⟩ := ht
   cases e
   have h0 : 1 ∈ K := by
    rcases h with h | ⟨i, hi, h1, _⟩
    ·cases h
    ·have hj := hK _ hi
     obtain ⟨j, rfl | rfl⟩ : ∃ j, i = 1 ∨ i = j + 2 := ⟨i - 2, by omega⟩
     ·exact hi
     ·rw [zCw z _ (by omega)] at h1; cases h1
   refine ⟨1, h0, t, ?_, rfl⟩
   rw [zGe]
   have hlt := (zCs hd).2.2.1
   refine zCV.2 ⟨hab, by simp [Sd.ok, k1, t1], zBb.2 ⟨b, t, [], hlt, by omega, ⟨hd, zFp hd⟩, zCV.2 ⟨by omega, by simp [Sd.ok, k2, t2], zBH.2 ⟨rfl, rfl⟩⟩, by simp⟩⟩
  | @oper _ _ n o s l ho hs hab' hd =>
   right
   have hm : o ∈ OV L := zOz (zAq ho).1 hs
   obtain ⟨j, hj, e, hi⟩ := (zGh hD hm hK rfl rfl).1 ht
   obtain ⟨h1, h2⟩ := zK9 hD _ _ _ _ _ _ (fun _ => (zBl hs).1) hd
   refine ⟨j + 2, hi, l, ?_, ?_⟩
   ·rw [zCw z _ hj, e]
    show DS L z tok _ (stepsV z (OV L) o (itemsO o) true) a b l
    rw [zA8 hs]; exact h1
   ·rw [zCw z _ hj, e]
    unfold ndF opVv
    dsimp only
    rw [zA8 hs, h2]
 ·rintro (⟨rfl, hl, rfl⟩ | ⟨i, hi, l, hds, rfl⟩)
  ·exact ⟨.leaf (by omega) hl, _, _, rfl, .inl rfl⟩
  ·have hlt := hK i hi
   rw [zCX] at hlt
   refine ⟨?_, _, _, rfl, .inr ⟨i, hi, rfl, rfl⟩⟩
   obtain ⟨j, rfl | rfl⟩ : ∃ j, i = 1 ∨ i = j + 2 := ⟨i - 2, by omega⟩
   ·rw [zGe] at hds ⊢
    obtain ⟨_, h1, h2⟩ := zCV.1 hds
    obtain ⟨c, t, l', h3, h4, ⟨h5, _⟩, h6, rfl⟩ := zBb.1 h2
    obtain ⟨h7, h8, h9⟩ := zCV.1 h6
    obtain ⟨rfl, rfl⟩ := zBH.1 h9
    simp only [Sd.ok, Bool.and_eq_true, beq_iff_eq] at h1 h8
    rw [List.append_nil]
    exact .paren (by omega) h1.1 h1.2 h8.1 h8.2 h5
   ·have hj : j < (OV L).length := by omega
    rw [zCw z _ hj] at hds ⊢
    obtain ⟨h1, s, hs⟩ := zIh (zBZ hj)
    have h2 : DS L z tok (FVw z (OV L)) (stepsV z (OV L) (opA (OV L) j) (itemsO (opA (OV L) j)) true) a b l := hds
    rw [zA8 hs] at h2
    have h3 := zLA hD _ _ _ _ _ (fun _ => (zBl hs).1) hb h2
    have h4 := Dv.oper (zCH hD h1) hs hab h3
    unfold ndF opVv
    dsimp only
    rw [zA8 hs]
    exact h4
 ·intro i hi K hK j hj
  rw [zCX] at hi ⊢
  obtain ⟨q, rfl | rfl | rfl⟩ : ∃ q, i = 0 ∨ i = 1 ∨ i = q + 2 := ⟨i - 2, by omega⟩
  ·rw [zK8] at hK
   simp only [rwV, List.mem_cons, Sd.ho.injEq, List.not_mem_nil, or_false] at hK
   subst hK
   exact zBV.1 hj
  ·rw [zGe] at hK
   simp only [brV, List.mem_cons, Sd.ho.injEq, reduceCtorEq, false_or, or_false, List.not_mem_nil] at hK
   subst hK
   exact zBV.1 hj
  ·rw [zCw z _ (by omega)] at hK
   exact zGg _ _ _ _ _ _ hK j hj
 ·intro i hi h0
  rw [zCX] at hi
  obtain ⟨q, rfl | rfl | rfl⟩ : ∃ q, i = 0 ∨ i = 1 ∨ i = q + 2 := ⟨i - 2, by omega⟩
  ·cases h0
  ·cases h0
  ·rw [zCw z _ (by omega)] at h0
   obtain ⟨_, s, hs⟩ := zIh (zBZ (L := OV L) (k := q) (by omega))
   have h1 : (stepsV z (OV L) (opA (OV L) q) (itemsO (opA (OV L) q)) true).length = 0 := by
    have : stepsV z (OV L) (opA (OV L) q) (itemsO (opA (OV L) q)) true = [] := h0
    rw [this]; rfl
   rw [zDF, zA8 hs] at h1
   have := (zBl hs).1
   omega
section
variable {L : List OP} {z : List Int} {F : List FD}
theorem zIi {A : List TK} (y : List TK) : ∀ (S : List Sd) (a b : Nat) (l : List ND), DS L z A F S a b l → b ≤ A.length → DS L z (A ++ y) F S a b l
 | [], _, _, _, h, _ => h
 | .ho K :: r, a, b, l, h, hb => by
  obtain ⟨c, t, l', h1, h2, ⟨h3, h4⟩, h5, e⟩ := zBb.1 h
  exact zBb.2 ⟨c, t, l', h1, h2, ⟨zB7 h3 (by omega) y, h4⟩, zIi y r _ _ _ h5 hb, e⟩
 | .br x :: r, a, b, l, h, hb => by
  obtain ⟨h1, h2, h3⟩ := zCV.1 h
  exact zCV.2 ⟨h1, by rw [zA9 (by omega)]; exact h2, zIi y r _ _ _ h3 hb⟩
 | .pt x :: r, a, b, l, h, hb => by
  obtain ⟨h1, h2, h3⟩ := zCv.1 h
  exact zCv.2 ⟨h1, by rw [zA9 (by omega)]; exact h2, zIi y r _ _ _ h3 hb⟩
theorem zFq {A B : List TK} : ∀ (S : List Sd) (a b : Nat) (l : List ND), DS L z (A ++ B) F S a b l → b ≤ A.length → DS L z A F S a b l
 | [], _, _, _, h, _ => h
 | .ho K :: r, a, b, l, h, hb => by
  obtain ⟨c, t, l', h1, h2, ⟨h3, h4⟩, h5, e⟩ := zBb.1 h
  exact zBb.2 ⟨c, t, l', h1, h2, ⟨zCb h3 (by omega), h4⟩, zFq r _ _ _ h5 hb, e⟩
 | .br x :: r, a, b, l, h, hb => by
  obtain ⟨h1, h2, h3⟩ := zCV.1 h
  exact zCV.2 ⟨h1, by rw [zA9 (by omega)] at h2; exact h2, zFq r _ _ _ h3 hb⟩
 | .pt x :: r, a, b, l, h, hb => by
  obtain ⟨h1, h2, h3⟩ := zCv.1 h
  exact zCv.2 ⟨h1, by rw [zA9 (by omega)] at h2; exact h2, zFq r _ _ _ h3 hb⟩
theorem zLB {A B : List TK} {n : Nat} (e : A.take n = B.take n) (hn : n ≤ A.length) {S : List Sd} {a b : Nat} {l : List ND} (h : DS L z A F S a b l) (hb : b ≤ n) : DS L z B F S a b l := by
 have hl : (A.take n).length = n := by rw [List.length_take]; omega
 rw [← List.take_append_drop n A] at h
 have h1 := zFq _ _ _ _ h (by rw [hl]; exact hb)
 rw [← List.take_append_drop n B, ← e]
 exact zIi _ _ _ _ _ h1 (by rw [hl]; exact hb)
theorem zDG {tok : List TK} : ∀ (S S' : List Sd) (a c b : Nat) (l l' : List ND), DS L z tok F S a c l → DS L z tok F S' c b l' → DS L z tok F (S ++ S') a b (l ++ l')
 | [], S', a, c, b, l, l', h, h' => by
  obtain ⟨rfl, rfl⟩ := zBH.1 h
  exact h'
 | .ho K :: r, S', a, c, b, l, l', h, h' => by
  obtain ⟨d, t, m, h1, h2, h3, h5, rfl⟩ := zBb.1 h
  have h6 := zDG r S' _ _ _ _ _ h5 h'
  exact zBb.2 ⟨d, t, m ++ l', h1, zKy _ _ _ _ h6, h3, h6, by rw [List.append_assoc]⟩
 | .br x :: r, S', a, c, b, l, l', h, h' => by
  obtain ⟨h1, h2, h3⟩ := zCV.1 h
  have h6 := zDG r S' _ _ _ _ _ h3 h'
  exact zCV.2 ⟨by have := zKy _ _ _ _ h6; omega, h2, h6⟩
 | .pt x :: r, S', a, c, b, l, l', h, h' => by
  obtain ⟨h1, h2, h3⟩ := zCv.1 h
  have h6 := zDG r S' _ _ _ _ _ h3 h'
  exact zCv.2 ⟨by have := zKy _ _ _ _ h6; omega, h2, h6⟩
theorem supplyV : ∀ (S : List Sd) (A : List TK), ∃ (ext : List TK) (l : List ND), DS L z (A ++ ext) F S A.length (A.length + ext.length) l
 | [], A => ⟨[], [], zBH.2 ⟨by simp, rfl⟩⟩
 | s :: r, A => by
  have one : ∀ x : TK, (∀ (B : List TK) (l : List ND), DS L z (A ++ x :: B) F r (A.length + 1) (A.length + 1 + B.length) l → ∃ l', DS L z (A ++ x :: B) F (s :: r) A.length (A.length + 1 + B.length) l') → ∃ (ext : List TK) (l : List ND), DS L z (A ++ ext) F (s :: r) A.length (A.length + ext.length) l := fun x hx => by
   obtain ⟨ext, l, h⟩ := supplyV r (A ++ [x])
   have e2 : (A ++ [x]).length = A.length + 1 := by simp
   rw [e2, List.append_assoc] at h
   obtain ⟨l', h'⟩ := hx ext l h
   refine ⟨x :: ext, l', ?_⟩
   rw [List.length_cons, show A.length + (ext.length + 1) = A.length + 1 + ext.length by omega]
   exact h'
  cases s with
  | br x => exact one ⟨6, 0, 0, ⟨x.toArray⟩, 0⟩ fun B l h => ⟨l, zCV.2 ⟨by omega, by rw [zB5]; simp [Sd.ok, txN], h⟩⟩
  | pt x => exact one (tkP x) fun B l h => ⟨l, zCv.2 ⟨by omega, by rw [zB5]; exact zIf x, h⟩⟩
  | ho K => exact one tk7 fun B l h => ⟨_, zBb.2 ⟨A.length + 1, _, l, by omega, by omega, ⟨.leaf (by simp) (by rw [zB5]; rfl), ⟨_, _, rfl, .inl rfl⟩⟩, h, rfl⟩⟩
end
def letsB (L : List OP) (z : List Int) : Sd → TK → Bool
 | .ho _, t => leafB t.k (freeB L z (txN t))
 | s, t => s.ok t
inductive It (L : List OP) (z : List Int) (tok : List TK) (F : List FD) : Nat → Nat → Nat → Nat → Prop
 | start : It L z tok F 0 0 0 0
 | pred {n f s a k : Nat} {K : List Nat} {r : List Sd} : It L z tok F n f s a → (fA F f).S.drop s = .ho K :: r → k ∈ K → It L z tok F n k 0 n
 | scan {n f s a : Nat} {d : Sd} {r : List Sd} : It L z tok F n f s a → n < tok.length → (fA F f).S.drop s = d :: r → letsB L z d (tat tok n) = true → It L z tok F (n + 1) f (s + 1) a
 | comp {n k b f s a : Nat} {K : List Nat} {r : List Sd} : It L z tok F n k (fA F k).S.length b → It L z tok F b f s a → (fA F f).S.drop s = .ho K :: r → k ∈ K → It L z tok F n f (s + 1) a
theorem zAf {α : Type} {S : List α} {s : Nat} {d : α} {r : List α} (h : S.drop s = d :: r) : s < S.length ∧ S.drop (s + 1) = r ∧ S.take (s + 1) = S.take s ++ [d] ∧ d ∈ S := by
 have hlt : s < S.length := by
  by_cases hs : s < S.length
  ·exact hs
  ·rw [List.drop_eq_nil_of_le (by omega)] at h; cases h
 rw [List.drop_eq_getElem_cons hlt] at h
 injection h with h1 h2
 exact ⟨hlt, h2, by rw [← List.take_append_getElem hlt, h1], by rw [← h1]; exact List.getElem_mem hlt⟩
section
variable {L : List OP} {z : List Int} {tok : List TK} {F : List FD}
theorem zLC (_ : GoodV L z F) {d : Sd} {n : Nat} (hn : n < tok.length) (h : letsB L z d (tat tok n) = true) : ∃ l, DS L z tok F [d] n (n + 1) l := by
 cases d with
 | ho K => exact ⟨_, zBb.2 ⟨n + 1, _, [], by omega, Nat.le_refl _, ⟨.leaf hn h, ⟨_, _, rfl, .inl rfl⟩⟩, zBH.2 ⟨rfl, rfl⟩, rfl⟩⟩
 | br x => exact ⟨[], zCV.2 ⟨by omega, h, zBH.2 ⟨rfl, rfl⟩⟩⟩
 | pt x => exact ⟨[], zCv.2 ⟨by omega, h, zBH.2 ⟨rfl, rfl⟩⟩⟩
theorem zAu (G : GoodV L z F) {n f s a : Nat} (h : It L z tok F n f s a) : a ≤ n ∧ n ≤ tok.length ∧ f < F.length ∧ s ≤ (fA F f).S.length ∧ ∃ l, DS L z tok F ((fA F f).S.take s) a n l := by
 induction h with
 | start => exact ⟨Nat.le_refl _, Nat.zero_le _, G.pos, Nat.zero_le _, [], zBH.2 ⟨rfl, rfl⟩⟩
 | @pred n f s a k K r _ hd hk ih => exact ⟨Nat.le_refl _, ih.2.1, (G.ks f ih.2.2.1 K (zAf hd).2.2.2 k hk).2, Nat.zero_le _, [], by rw [List.take_zero]; exact zBH.2 ⟨rfl, rfl⟩⟩
 | @scan n f s a d r _ hn hd hl ih =>
  obtain ⟨h1, _, h2, h3, l, h4⟩ := ih
  obtain ⟨k1, _, k3, _⟩ := zAf hd
  obtain ⟨l', h5⟩ := zLC G hn hl
  exact ⟨by omega, by omega, h2, by omega, l ++ l', by rw [k3]; exact zDG _ _ _ _ _ _ _ h4 h5⟩
 | @comp n k b f s a K r _ _ hd hk ih1 ih2 =>
  obtain ⟨h1, h0, h2, h3, l, h4⟩ := ih1
  obtain ⟨g1, _, g2, g3, m, g4⟩ := ih2
  obtain ⟨k1, _, k3, k4⟩ := zAf hd
  rw [List.take_length] at h4
  have hbn := zIb _ _ _ _ (G.ne k h2) h4
  obtain ⟨j1, j2⟩ := (G.kid tok K b n _ (G.ks f g2 K k4) hbn h0).2 (.inr ⟨k, hk, l, h4, rfl⟩)
  refine ⟨by omega, h0, g2, by omega, m ++ (ndF (fA F k) b n :: l ++ []), ?_⟩
  rw [k3]
  exact zDG _ _ _ _ _ _ _ g4 (zBb.2 ⟨n, _, [], hbn, Nat.le_refl _, ⟨j1, j2⟩, zBH.2 ⟨rfl, rfl⟩, rfl⟩)
theorem zMn (G : GoodV L z F) {n f s a : Nat} (h : It L z tok F n f s a) : ∀ (B : List TK), B.take n = tok.take n → n ≤ B.length → ∀ l, DS L z B F ((fA F f).S.drop s) n B.length l → ∃ (ext : List TK) (t : List ND), Dv L z (B ++ ext) .tr 0 (B.length + ext.length) t 1 := by
 induction h with
 | start =>
  intro B _ _ l hd
  obtain ⟨K, hK, _⟩ := G.row
  rw [hK, List.drop_zero] at hd
  obtain ⟨c, t, l', h1, h2, ⟨h3, _⟩, h4, _⟩ := zBb.1 hd
  obtain ⟨rfl, _⟩ := zBH.1 h4
  exact ⟨[], t, by rw [List.append_nil]; exact h3⟩
 | @pred n f s a k K r hi hd hk ih =>
  intro B hB hn l hl
  obtain ⟨_, _, h2, _, _⟩ := zAu G hi
  obtain ⟨k1, k2, k3, k4⟩ := zAf hd
  have hks := G.ks f h2 K k4
  rw [List.drop_zero] at hl
  have hlt := zIb _ _ _ _ (G.ne k (hks k hk).2) hl
  obtain ⟨j1, j2⟩ := (G.kid B K n B.length _ hks hlt (Nat.le_refl _)).2 (.inr ⟨k, hk, l, hl, rfl⟩)
  obtain ⟨ext, m, hs⟩ := supplyV (L := L) (z := z) (F := F) r B
  have e : (B ++ ext).length = B.length + ext.length := List.length_append ..
  obtain ⟨e2, t, ht⟩ := ih (B ++ ext) (by rw [List.take_append_of_le_length hn, hB]) (by omega) (ndF (fA F k) n B.length :: l ++ m) (by
   rw [hd]
   exact zBb.2 ⟨B.length, _, m, hlt, by omega, ⟨zB7 j1 (Nat.le_refl _) ext, j2⟩, by rw [e]; exact hs, rfl⟩)
  refine ⟨ext ++ e2, t, ?_⟩
  rw [← List.append_assoc, List.length_append, ← Nat.add_assoc, ← e]
  exact ht
 | @scan n f s a d r hi hn hd hl ih =>
  intro B hB hnB l hds
  obtain ⟨k1, k2, k3, k4⟩ := zAf hd
  have ht : tat B n = tat tok n := by
   have h1 : (B.take (n + 1)).getD n ⟨0, 0, 0, .empty, 0⟩ = (tok.take (n + 1)).getD n ⟨0, 0, 0, .empty, 0⟩ := by rw [hB]
   unfold tat
   simp only [List.getD, List.getElem?_take] at h1 ⊢
   rw [if_pos (by omega), if_pos (by omega)] at h1
   rw [List.getElem?_eq_getElem (show n < B.length by omega), List.getElem?_eq_getElem hn] at h1 ⊢
   exact h1
  obtain ⟨l', h5⟩ := zLC (tok := B) G (show n < B.length by omega) (by rw [ht]; exact hl)
  rw [k2] at hds
  refine ih B ?_ (by omega) (l' ++ l) (by rw [hd]; exact zDG [d] r _ _ _ _ _ h5 hds)
  have h1 := congrArg (List.take n) hB
  rwa [List.take_take, List.take_take, Nat.min_eq_left (by omega)] at h1
 | @comp n k b f s a K r hi1 hi2 hd hk ih1 ih2 =>
  intro B hB hnB l hds
  obtain ⟨h1, h0, h2, h3, m, h4⟩ := zAu G hi1
  obtain ⟨g1, _, g2, g3, _, _⟩ := zAu G hi2
  obtain ⟨k1, k2, k3, k4⟩ := zAf hd
  rw [List.take_length] at h4
  have h5 := zLB hB.symm h0 h4 (Nat.le_refl _)
  have hbn := zIb _ _ _ _ (G.ne k h2) h5
  obtain ⟨j1, j2⟩ := (G.kid B K b n _ (G.ks f g2 K k4) hbn hnB).2 (.inr ⟨k, hk, m, h5, rfl⟩)
  rw [k2] at hds
  refine ih2 B ?_ (by omega) _ (by rw [hd]; exact zBb.2 ⟨n, _, l, hbn, hnB, ⟨j1, j2⟩, hds, rfl⟩)
  have h1 := congrArg (List.take b) hB
  rwa [List.take_take, List.take_take, Nat.min_eq_left (by omega)] at h1
theorem zE3 (G : GoodV L z F) : ∀ (N : Nat) (r : List Sd) (n f s a c : Nat) (l : List ND), l.length ≤ N → It L z tok F n f s a → (fA F f).S.drop s = r → DS L z tok F r n c l → c ≤ tok.length → It L z tok F c f (fA F f).S.length a
 | N, [], n, f, s, a, c, l, hN, hi, hr, hd, hc => by
  obtain ⟨_, _, _, h3, _⟩ := zAu G hi
  have h1 := List.drop_eq_nil_iff.1 hr
  obtain ⟨rfl, _⟩ := zBH.1 hd
  rwa [show s = (fA F f).S.length by omega] at hi
 | N, .br x :: r, n, f, s, a, c, l, hN, hi, hr, hd, hc => by
  obtain ⟨h1, h2, h3⟩ := zCV.1 hd
  exact zE3 G N r _ _ _ _ _ _ hN (.scan hi (by omega) hr h2) (zAf hr).2.1 h3 hc
 | N, .pt x :: r, n, f, s, a, c, l, hN, hi, hr, hd, hc => by
  obtain ⟨h1, h2, h3⟩ := zCv.1 hd
  exact zE3 G N r _ _ _ _ _ _ hN (.scan hi (by omega) hr h2) (zAf hr).2.1 h3 hc
 | N, .ho K :: r, n, f, s, a, c, l, hN, hi, hr, hd, hc => by
  obtain ⟨d, t, m, h1, h2, h3, h4, rfl⟩ := zBb.1 hd
  obtain ⟨_, k2, _, k4⟩ := zAf hr
  have hf := (zAu G hi).2.2.1
  have hN' : t.length + m.length ≤ N := by rw [List.length_append] at hN; exact hN
  rcases (G.kid tok K n d t (G.ks f hf K k4) h1 (by omega)).1 h3 with ⟨rfl, hl, _⟩ | ⟨i, hik, lt, h5, rfl⟩
  ·exact zE3 G N r _ _ _ _ _ _ (by omega) (.scan hi (by omega) hr hl) k2 h4 hc
  ·rw [List.length_cons] at hN'
   have hpos : N - 1 < N := by omega
   have h6 := zE3 G (N - 1) (fA F i).S n i 0 n d lt (by omega) (.pred hi hr hik) List.drop_zero h5 (by omega)
   exact zE3 G N r _ _ _ _ _ _ (by omega) (.comp h6 hi hr hik) k2 h4 hc
termination_by N r => (N, r.length)
theorem zCS (G : GoodV L z F) {m : Nat} {B : List TK} (hB : B.take m = tok.take m) (hm : m ≤ tok.length) : ∀ (N : Nat) (r : List Sd) (n f s a e : Nat) (l : List ND), l.length ≤ N → It L z tok F n f s a → (fA F f).S.drop s = r → DS L z B F r n e l → n ≤ m → m ≤ e → e ≤ B.length → ∃ f s a, It L z tok F m f s a
 | N, [], n, f, s, a, e, l, hN, hi, hr, hd, hnm, hme, he => by
  obtain ⟨rfl, _⟩ := zBH.1 hd
  obtain rfl : n = m := by omega
  exact ⟨_, _, _, hi⟩
 | N, d :: r, n, f, s, a, e, l, hN, hi, hr, hd, hnm, hme, he => by
  by_cases hnm' : n = m
  ·subst hnm'
   exact ⟨_, _, _, hi⟩
  have ht : tat B n = tat tok n := by
   have h1 : (B.take m).getD n ⟨0, 0, 0, .empty, 0⟩ = (tok.take m).getD n ⟨0, 0, 0, .empty, 0⟩ := by rw [hB]
   unfold tat
   simp only [List.getD, List.getElem?_take] at h1 ⊢
   rw [if_pos (by omega), if_pos (by omega)] at h1
   rw [List.getElem?_eq_getElem (show n < B.length by omega), List.getElem?_eq_getElem (show n < tok.length by omega)] at h1 ⊢
   exact h1
  obtain ⟨_, k2, _, k4⟩ := zAf hr
  have hf := (zAu G hi).2.2.1
  cases d with
  | br x =>
   obtain ⟨h1, h2, h3⟩ := zCV.1 hd
   rw [ht] at h2
   exact zCS G hB hm N r _ _ _ _ _ _ hN (.scan hi (by omega) hr h2) k2 h3 (by omega) hme he
  | pt x =>
   obtain ⟨h1, h2, h3⟩ := zCv.1 hd
   rw [ht] at h2
   exact zCS G hB hm N r _ _ _ _ _ _ hN (.scan hi (by omega) hr h2) k2 h3 (by omega) hme he
  | ho K =>
   obtain ⟨c, t, l', h1, h2, h3, h4, rfl⟩ := zBb.1 hd
   have hN' : t.length + l'.length ≤ N := by rw [List.length_append] at hN; exact hN
   rcases (G.kid B K n c t (G.ks f hf K k4) h1 (by omega)).1 h3 with ⟨rfl, hl, _⟩ | ⟨i, hik, lt, h5, rfl⟩
   ·rw [ht] at hl
    exact zCS G hB hm N r _ _ _ _ _ _ (by omega) (.scan hi (by omega) hr hl) k2 h4 (by omega) hme he
   ·rw [List.length_cons] at hN'
    have hpos : N - 1 < N := by omega
    by_cases hcm : c ≤ m
    ·have hmB : m ≤ B.length := by omega
     have h6 := zE3 G (N - 1) (fA F i).S n i 0 n c lt (by omega) (.pred hi hr hik) List.drop_zero (zLB hB hmB h5 hcm) (by omega)
     exact zCS G hB hm N r _ _ _ _ _ _ (by omega) (.comp h6 hi hr hik) k2 h4 hcm hme he
    ·exact zCS G hB hm (N - 1) (fA F i).S n i 0 n c lt (by omega) (.pred hi hr hik) List.drop_zero h5 hnm (by omega) (by omega)
termination_by N r => (N, r.length)
theorem zO2 (G : GoodV L z F) {m : Nat} (hm : m ≤ tok.length) : VL L z tok m ↔ ∃ f s a, It L z tok F m f s a := by
 have hlen : (tok.take m).length = m := by rw [List.length_take]; omega
 constructor
 ·rintro ⟨ext, t, h⟩
  obtain ⟨K, hK, hrow⟩ := G.row
  have hl : (tok.take m ++ ext).length = m + ext.length := by rw [List.length_append, hlen]
  refine zCS (B := tok.take m ++ ext) G (by rw [List.take_append_of_le_length (by omega), List.take_take, Nat.min_self]) hm _ [.ho K] 0 0 0 0 (m + ext.length) (t ++ []) (Nat.le_refl _) .start (by rw [hK]; rfl) ?_ (Nat.zero_le _) (by omega) (by omega)
  exact zBb.2 ⟨m + ext.length, t, [], (zCs h).2.2.1, Nat.le_refl _, ⟨h, hrow _ _ _ _ h⟩, zBH.2 ⟨rfl, rfl⟩, rfl⟩
 ·rintro ⟨f, s, a, hi⟩
  obtain ⟨ext, l, hs⟩ := supplyV (L := L) (z := z) (F := F) ((fA F f).S.drop s) (tok.take m)
  rw [hlen] at hs
  have hl : (tok.take m ++ ext).length = m + ext.length := by rw [List.length_append, hlen]
  obtain ⟨e2, t, h⟩ := zMn G hi (tok.take m ++ ext) (by rw [List.take_append_of_le_length (by omega), List.take_take, Nat.min_self]) (by omega) l (by rw [hl]; exact hs)
  refine ⟨ext ++ e2, t, ?_⟩
  rw [← List.append_assoc, List.length_append, ← Nat.add_assoc, ← hl]
  exact h
theorem zNu {at_ : Nat} {I : Nat → Nat → Nat → Prop} (h0 : at_ = 0 → I 0 0 0) (h1 : ∀ n f s a d r, at_ = n + 1 → It L z tok F n f s a → n < tok.length → (fA F f).S.drop s = d :: r → letsB L z d (tat tok n) = true → I f (s + 1) a)
  (h2 : ∀ f s a K r k, I f s a → (fA F f).S.drop s = .ho K :: r → k ∈ K → I k 0 at_) (h3 : ∀ k b f s a K r, I k (fA F k).S.length b → It L z tok F b f s a → (fA F f).S.drop s = .ho K :: r → k ∈ K → I f (s + 1) a) :
  ∀ f s a, It L z tok F at_ f s a → I f s a := by
 intro f s a h
 generalize hn : at_ = n at h
 induction h with
 | start => exact h0 hn
 | pred hi hd hk ih => subst hn; exact h2 _ _ _ _ _ _ (ih rfl) hd hk
 | scan hi hl hd hk _ => exact h1 _ _ _ _ _ _ hn hi hl hd hk
 | comp hi1 hi2 hd hk ih1 _ => subst hn; exact h3 _ _ _ _ _ _ _ (ih1 rfl) hi2 hd hk
theorem zNv (G : GoodV L z F) {n k b : Nat} (h : It L z tok F n k (fA F k).S.length b) : b < n := by
 obtain ⟨_, _, h2, _, l, h4⟩ := zAu G h
 rw [List.take_length] at h4
 exact zIb _ _ _ _ (G.ne k h2) h4
end
end Go.Proofs.YtcjbhdgjcpnklaaGreatDoor
