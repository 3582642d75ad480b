import Derived.Test.YtcjbhdgjcpnklaaGreatDoorR05
namespace Go.Proofs.YtcjbhdgjcpnklaaGreatDoor
section
open Go.RowKit
section
variable {α β K K' : Type} [DecidableEq K] [DecidableEq K']
def cnt (f : α → K) (c : K) (l : List α) : Nat := (l.filter fun x => decide (f x = c)).length
def putc (f : α → K) (l : List α) (x : α) : List α := if 2 ≤ cnt f (f x) l then l else l ++ [x]
def capK (f : α → K) (l : List α) : List α := l.foldl (putc f) []
theorem cnt_app (f : α → K) (c : K) (A B : List α) : cnt f c (A ++ B) = cnt f c A + cnt f c B := by unfold cnt; rw [List.filter_append, List.length_append]
theorem cnt_one (f : α → K) (c : K) (x : α) : cnt f c [x] = if f x = c then 1 else 0 := by
 unfold cnt
 by_cases h : f x = c
 ·rw [List.filter_cons_of_pos (by simpa using h), if_pos h]; rfl
 ·rw [List.filter_cons_of_neg (by simpa using h), if_neg h]; rfl
theorem zIV (f : α → K) (c : K) (x : α) (l : List α) : cnt f c (x :: l) = (if f x = c then 1 else 0) + cnt f c l := by
 rw [show x :: l = [x] ++ l from rfl, cnt_app, cnt_one]
theorem cap_app (f : α → K) (P Q : List α) : capK f (P ++ Q) = Q.foldl (putc f) (capK f P) := by unfold capK; rw [List.foldl_append]
theorem cap_snoc (f : α → K) (P : List α) (x : α) : capK f (P ++ [x]) = putc f (capK f P) x := by rw [cap_app]; rfl
theorem zEL (f : α → K) {P P' : List α} (h : capK f P = capK f P') (Q : List α) : capK f (P ++ Q) = capK f (P' ++ Q) := by rw [cap_app, cap_app, h]
theorem cnt_put (f : α → K) (c : K) (l : List α) (x : α) : cnt f c (putc f l x) = if f x = c then (if 2 ≤ cnt f c l then cnt f c l else cnt f c l + 1) else cnt f c l := by
 unfold putc
 by_cases h : f x = c
 ·rw [if_pos h, h]
  by_cases h2 : 2 ≤ cnt f c l
  ·rw [if_pos h2, if_pos h2]
  ·rw [if_neg h2, if_neg h2, cnt_app, cnt_one, if_pos h]
 ·rw [if_neg h]
  by_cases h2 : 2 ≤ cnt f (f x) l
  ·rw [if_pos h2]
  ·rw [if_neg h2, cnt_app, cnt_one, if_neg h]; rfl
theorem zB4 {P : List α → Prop} (h0 : P []) (h1 : ∀ l x, P l → P (l ++ [x])) : ∀ l, P l := by
 suffices h : ∀ r : List α, P r.reverse from fun l => by have := h l.reverse; rwa [List.reverse_reverse] at this
 intro r
 induction r with
 | nil => exact h0
 | cons x r ih => rw [List.reverse_cons]; exact h1 _ _ ih
theorem zEM (f : α → K) (c : K) : ∀ l : List α, cnt f c (capK f l) = min 2 (cnt f c l) := by
 refine zB4 rfl fun l x ih => ?_
 rw [cap_snoc, cnt_put, ih, cnt_app, cnt_one]
 by_cases h : f x = c
 ·rw [if_pos h, if_pos h]
  split <;> omega
 ·rw [if_neg h, if_neg h]; rfl
theorem zDf (f : α → K) (P : List α) : ∀ Q : List α, (∀ y ∈ Q, 2 ≤ cnt f (f y) P) → capK f (P ++ Q) = capK f P
 | [], _ => by rw [List.append_nil]
 | y :: Q, h => by
  rw [cap_app, List.foldl_cons]
  have h1 : putc f (capK f P) y = capK f P := by
   unfold putc
   rw [if_pos (by rw [zEM]; have := h y (List.mem_cons_self ..); omega)]
  rw [h1, ← cap_app, zDf f P Q fun z hz => h z (List.mem_cons_of_mem _ hz)]
theorem zEN (f : α → K) (P : List α) : ∀ Q : List α, capK f (P ++ capK f Q) = capK f (P ++ Q) := by
 refine zB4 rfl fun Q x ih => ?_
 rw [cap_snoc]
 unfold putc
 by_cases h : 2 ≤ cnt f (f x) (capK f Q)
 ·rw [if_pos h, ih, ← List.append_assoc, zDf f (P ++ Q) [x]]
  intro y hy
  rw [List.mem_singleton.1 hy, cnt_app]
  rw [zEM] at h
  omega
 ·rw [if_neg h, ← List.append_assoc, ← List.append_assoc]
  exact zEL f ih [x]
theorem zOm (f : α → K) : ∀ (l : List α), ∀ x ∈ capK f l, x ∈ l := by
 refine zB4 (fun x h => h) fun l y ih x h => ?_
 rw [cap_snoc] at h
 unfold putc at h
 split at h
 ·exact List.mem_append_left _ (ih x h)
 ·rcases List.mem_append.1 h with h | h
  ·exact List.mem_append_left _ (ih x h)
  ·exact List.mem_append_right _ h
theorem zFh {f : α → K} {c : K} {l : List α} : 0 < cnt f c l ↔ ∃ x ∈ l, f x = c := by
 unfold cnt
 rw [List.length_pos_iff_exists_mem]
 simp [List.mem_filter]
theorem zIW {f : β → K} {f' : α → K'} {g : α → List β} {c : K} {c' : K'} : ∀ l : List α, (∀ x ∈ l, f' x = c' → ∃ w ∈ g x, f w = c) → cnt f' c' l ≤ cnt f c (l.flatMap g)
 | [], _ => Nat.zero_le _
 | x :: l, h => by
  rw [List.flatMap_cons, cnt_app, zIV]
  have ih := zIW l fun y hy => h y (List.mem_cons_of_mem _ hy)
  by_cases hx : f' x = c'
  ·rw [if_pos hx]
   have := zFh.2 (h x (List.mem_cons_self ..) hx)
   omega
  ·rw [if_neg hx]; omega
theorem zMh {f : β → K} {f' : α → K'} {g : α → List β} (sim : ∀ x y, f' x = f' y → ∀ w ∈ g x, ∃ w' ∈ g y, f w' = f w) : ∀ l : List α, capK f (l.flatMap g) = capK f ((capK f' l).flatMap g) := by
 refine zB4 rfl fun l x ih => ?_
 rw [List.flatMap_append, cap_snoc]
 have e1 : [x].flatMap g = g x := by simp
 rw [e1]
 unfold putc
 by_cases h : 2 ≤ cnt f' (f' x) (capK f' l)
 ·rw [if_pos h, ← ih]
  refine zDf f _ _ fun w hw => ?_
  rw [zEM] at h
  have := zIW (f := f) (f' := f') (g := g) (c := f w) (c' := f' x) l fun y _ hy => sim x y hy.symm w hw
  omega
 ·rw [if_neg h, List.flatMap_append, e1]
  exact zEL f ih (g x)
theorem zEO {f : β → K} {g g' : α → List β} : ∀ l : List α, (∀ x ∈ l, capK f (g x) = capK f (g' x)) → capK f (l.flatMap g) = capK f (l.flatMap g') := by
 refine zB4 (fun _ => rfl) fun l x ih h => ?_
 rw [List.flatMap_append, List.flatMap_append]
 have e1 : ∀ g : α → List β, [x].flatMap g = g x := fun g => by simp
 rw [e1, e1, zEL f (ih fun y hy => h y (List.mem_append_left _ hy)), ← zEN f _ (g x), h x (by simp), zEN]
theorem zE1 {f : α → K} (p : α → Bool) (hp : ∀ x y, f x = f y → p x = p y) : ∀ l : List α, capK f (l.filter p) = (capK f l).filter p := by
 refine zB4 rfl fun l x ih => ?_
 rw [List.filter_append, cap_snoc]
 cases hx : p x with
 | false =>
  rw [show [x].filter p = [] by simp [hx], List.append_nil, ih]
  unfold putc
  split
  ·rfl
  ·rw [List.filter_append, show [x].filter p = [] by simp [hx], List.append_nil]
 | true =>
  rw [show [x].filter p = [x] by simp [hx], cap_snoc, ih]
  have hc : cnt f (f x) ((capK f l).filter p) = cnt f (f x) (capK f l) := by
   unfold cnt
   rw [List.filter_filter]
   congr 1
   refine List.filter_congr fun y _ => ?_
   by_cases hy : f y = f x
   ·rw [hp y x hy, hx, Bool.and_true]
   ·simp [hy]
  unfold putc
  rw [hc]
  split
  ·rfl
  ·rw [List.filter_append, show [x].filter p = [x] by simp [hx]]
theorem cap_take {f : α → K} : ∀ (l : List α), (∀ x ∈ l, ∀ y ∈ l, f x = f y) → capK f l = l.take 2
 | [], _ => rfl
 | [x], _ => rfl
 | x :: y :: r, h => by
  have e : x :: y :: r = [x, y] ++ r := rfl
  have hxy : f y = f x := h y (by simp) x (by simp)
  rw [e, zDf f [x, y] r fun w hw => by
   rw [zIV, cnt_one, if_pos (h x (by simp) w (by simp [hw])), if_pos (h y (by simp) w (by simp [hw]))]; omega]
  rw [show [x, y] = [x] ++ [y] from rfl, cap_snoc]
  unfold putc
  rw [if_neg (by show ¬ 2 ≤ cnt f (f y) [x]; rw [cnt_one, if_pos hxy.symm]; omega)]
  rfl
theorem zOn {f : α → K} (l : List α) : min 2 (capK f l).length = min 2 l.length ∧ (l.length ≤ 1 → capK f l = l) := by
 match l with
 | [] => exact ⟨rfl, fun _ => rfl⟩
 | [x] => exact ⟨rfl, fun _ => rfl⟩
 | x :: y :: r =>
  refine ⟨?_, fun h => by simp at h⟩
  have h2 : 2 ≤ (capK f (x :: y :: r)).length := by
   have hsub : ∀ Q P : List α, P.length ≤ (Q.foldl (putc f) P).length := by
    intro Q
    induction Q with
    | nil => exact fun P => Nat.le_refl _
    | cons q Q ih =>
     intro P
     refine Nat.le_trans ?_ (ih (putc f P q))
     unfold putc
     split
     ·exact Nat.le_refl _
     ·simp
   have e : capK f (x :: y :: r) = r.foldl (putc f) (capK f [x, y]) := cap_app f [x, y] r
   have e2 : capK f [x, y] = [x, y] := by
    rw [show [x, y] = [x] ++ [y] from rfl, cap_snoc]
    unfold putc
    rw [if_neg (by
     show ¬ 2 ≤ cnt f (f y) [x]
     rw [cnt_one]; split <;> omega)]
    rfl
   rw [e, e2]
   exact hsub r [x, y]
  simp only [List.length_cons]
  omega
end
end
section
open Go.RowKit
abbrev TT := Int × List ND
abbrev HF := Nat × Nat × List ND
section
variable (L : List OP) (z : List Int) (tok : List TK)
def fitT (o : OP) (i : Int) (left right : Bool) : Bool := decide (i < 0) || ((!left && !right) || fitsB z o (opA L i.toNat) right)
def stepW (T : Nat → Nat → List TT) (o : OP) (to_ : Nat) (x : Nm) (left right : Bool) (h : HF) : List HF :=
 if x ≠ [] then (if decide (h.1 < to_) && partB (tat tok h.1).k (txN (tat tok h.1)) x then [(h.1 + 1, h.2.1, h.2.2)] else [])
 else (List.range' (h.1 + 1) (to_ - h.1)).flatMap fun at_ => ((T h.1 at_).filter fun t => fitT L z o t.1 left right).map fun t => (at_, h.2.1 + 1, h.2.2 ++ t.2)
def runW (cut : List HF → List HF) (T : Nat → Nat → List TT) (o : OP) (to_ : Nat) : List Nm → Bool → List HF → List HF
 | [], _, H => H
 | x :: r, first, H => runW cut T o to_ r false (cut (H.flatMap (stepW L z tok T o to_ x first r.isEmpty)))
def topN (o : OP) (a b : Nat) (h : HF) : List ND := ⟨3, o.1, a, b, h.2.1⟩ :: h.2.2
def opsW (cut : List HF → List HF) (T : Nat → Nat → List TT) (a b k : Nat) : List TT :=
 match ofS (opA L k).1 with
 | none => []
 | some s => ((runW L z tok cut T (opA L k) b (itemsL s) true [(a, 0, [])]).filter fun h => h.1 == b).map fun h => ((k : Int), topN (opA L k) a b h)
def leafW (a b : Nat) : List TT := if decide (b = a + 1) && leafB (tat tok a).k (freeB L z (txN (tat tok a))) then [(-1, [⟨1, txN (tat tok a), a, b, 0⟩])] else []
def brkB (a b : Nat) : Bool := decide (a + 2 < b) && (((tat tok a).k == 6 && txN (tat tok a) == [40]) && ((tat tok (b - 1)).k == 6 && txN (tat tok (b - 1)) == [41]))
def parN (a b : Nat) (t : TT) : TT := (-1, ⟨2, [], a, b, 1⟩ :: t.2)
def parW (c2 : List TT → List TT) (T : Nat → Nat → List TT) (a b : Nat) : List TT := if brkB tok a b then (c2 (T (a + 1) (b - 1))).map (parN a b) else []
def rowW (cut : List HF → List HF) (c2 : List TT → List TT) (T : Nat → Nat → List TT) (a b : Nat) : List TT :=
 leafW L z tok a b ++ (parW tok c2 T a b ++ (List.range L.length).flatMap (opsW L z tok cut T a b))
def tabW (cut : List HF → List HF) (c2 : List TT → List TT) : Nat → Nat → Nat → List TT
 | 0 => fun _ _ => []
 | m + 1 => fun a b => if b - a ≤ m then tabW cut c2 m a b else if b - a = m + 1 ∧ b ≤ tok.length then rowW L z tok cut c2 (tabW cut c2 m) a b else []
def tabF : Nat → Nat → Nat → List TT := tabW L z tok id id
def tabC : Nat → Nat → Nat → List TT := tabW L z tok (capK fun h => h.1) (List.take 2)
end
theorem zIX {α K : Type} [DecidableEq K] (f : α → K) (P : List α) : ∀ Q : List α, (∀ x ∈ P, ∀ y ∈ Q, f x ≠ f y) → capK f (P ++ Q) = capK f P ++ capK f Q := by
 refine zB4 (fun _ => by rw [List.append_nil]; exact (List.append_nil _).symm) fun Q y ih h => ?_
 have ih' := ih fun x hx w hw => h x hx w (List.mem_append_left _ hw)
 rw [← List.append_assoc, cap_snoc, ih', cap_snoc]
 unfold putc
 have h0 : cnt f (f y) (capK f P) = 0 := by
  rw [zEM]
  have : cnt f (f y) P = 0 := by
   rcases Nat.eq_zero_or_pos (cnt f (f y) P) with h0 | h0
   ·exact h0
   ·obtain ⟨x, hx, e⟩ := zFh.1 h0
    exact absurd e (h x hx y (by simp))
  omega
 rw [cnt_app, h0, Nat.zero_add]
 split
 ·rfl
 ·rw [List.append_assoc]
theorem cap_take2 {α K : Type} [DecidableEq K] (f : α → K) (l : List α) : (capK f l).take 2 = l.take 2 := by
 match l with
 | [] => rfl
 | [x] => rfl
 | x :: y :: r =>
  have e2 : capK f [x, y] = [x, y] := (zOn (f := f) [x, y]).2 |> fun _ => by
   rw [show [x, y] = [x] ++ [y] from rfl, cap_snoc]
   unfold putc
   rw [if_neg (by
    show ¬ 2 ≤ cnt f (f y) [x]
    rw [cnt_one]; split <;> omega)]
   rfl
  have hpre : ∀ Q P : List α, ∃ R, Q.foldl (putc f) P = P ++ R := by
   intro Q
   induction Q with
   | nil => exact fun P => ⟨[], (List.append_nil _).symm⟩
   | cons q Q ih =>
    intro P
    obtain ⟨R, hR⟩ := ih (putc f P q)
    rw [List.foldl_cons, hR]
    unfold putc
    split
    ·exact ⟨R, rfl⟩
    ·exact ⟨[q] ++ R, by rw [List.append_assoc]⟩
  have e : capK f (x :: y :: r) = r.foldl (putc f) (capK f [x, y]) := cap_app f [x, y] r
  obtain ⟨R, hR⟩ := hpre r [x, y]
  rw [e, e2, hR]
  rfl
section
variable {L : List OP} {z : List Int} {tok : List TK}
theorem zJG (T : Nat → Nat → List TT) (o : OP) (to_ : Nat) (x : Nm) (left right : Bool) (h h' : HF) (e : h.1 = h'.1) : ∀ w ∈ stepW L z tok T o to_ x left right h, ∃ w' ∈ stepW L z tok T o to_ x left right h', w'.1 = w.1 := by
 intro w hw
 unfold stepW at hw ⊢
 rw [e] at hw
 by_cases hx : x ≠ []
 ·rw [if_pos hx] at hw ⊢
  split at hw
  ·rename_i h2
   rw [if_pos h2]
   rw [List.mem_singleton.1 hw]
   exact ⟨_, List.mem_singleton.2 rfl, rfl⟩
  ·cases hw
 ·rw [if_neg hx] at hw ⊢
  obtain ⟨at_, h1, h2⟩ := List.mem_flatMap.1 hw
  obtain ⟨t, h3, rfl⟩ := List.mem_map.1 h2
  exact ⟨(at_, h'.2.1 + 1, h'.2.2 ++ t.2), List.mem_flatMap.2 ⟨at_, h1, List.mem_map.2 ⟨t, h3, rfl⟩⟩, rfl⟩
theorem zMi {TF TC : Nat → Nat → List TT} (hT : ∀ a b, TC a b = capK (fun t => t.1) (TF a b)) (o : OP) (to_ : Nat) (x : Nm) (left right : Bool) (h : HF) :
  capK (fun h : HF => h.1) (stepW L z tok TF o to_ x left right h) = capK (fun h : HF => h.1) (stepW L z tok TC o to_ x left right h) := by
 unfold stepW
 by_cases hx : x ≠ []
 ·rw [if_pos hx, if_pos hx]
 ·rw [if_neg hx, if_neg hx]
  refine zEO _ fun at_ _ => ?_
  have hall : ∀ l : List TT, capK (fun h : HF => h.1) (l.map fun t => (at_, h.2.1 + 1, h.2.2 ++ t.2)) = (l.take 2).map fun t => (at_, h.2.1 + 1, h.2.2 ++ t.2) := fun l => by
   rw [cap_take, List.map_take]
   intro u hu v hv
   obtain ⟨_, _, rfl⟩ := List.mem_map.1 hu
   obtain ⟨_, _, rfl⟩ := List.mem_map.1 hv
   rfl
  rw [hall, hall, hT, ← zE1 (f := fun t : TT => t.1) (fun t => fitT L z o t.1 left right) (fun u v e => by rw [e]), cap_take2]
theorem zKr {TF TC : Nat → Nat → List TT} (hT : ∀ a b, TC a b = capK (fun t => t.1) (TF a b)) (o : OP) (to_ : Nat) : ∀ (I : List Nm) (first : Bool) (H : List HF), runW L z tok (capK fun h => h.1) TC o to_ I first (capK (fun h => h.1) H) = capK (fun h => h.1) (runW L z tok id TF o to_ I first H)
 | [], first, H => rfl
 | x :: r, first, H => by
  show runW L z tok (capK fun h => h.1) TC o to_ r false (capK (fun h => h.1) ((capK (fun h => h.1) H).flatMap (stepW L z tok TC o to_ x first r.isEmpty))) = capK (fun h => h.1) (runW L z tok id TF o to_ r false (H.flatMap (stepW L z tok TF o to_ x first r.isEmpty)))
  rw [← zKr hT o to_ r false]
  congr 1
  rw [zMh (f' := fun h : HF => h.1) (zJG TF o to_ x first r.isEmpty) H]
  exact (zEO _ fun h _ => zMi hT o to_ x first r.isEmpty h).symm
theorem zOo {TF TC : Nat → Nat → List TT} (hT : ∀ a b, TC a b = capK (fun t => t.1) (TF a b)) (a b k : Nat) : opsW L z tok (capK fun h => h.1) TC a b k = capK (fun t => t.1) (opsW L z tok id TF a b k) := by
 unfold opsW
 cases ofS (opA L k).1 with
 | none => rfl
 | some s =>
  have e := zKr (L := L) (z := z) (tok := tok) hT (opA L k) b (itemsL s) true [(a, 0, [])]
  rw [show capK (fun h : HF => h.1) [(a, 0, [])] = [(a, 0, [])] from rfl] at e
  show ((runW L z tok (capK fun h => h.1) TC (opA L k) b (itemsL s) true [(a, 0, [])]).filter fun h => h.1 == b).map _ = capK _ (((runW L z tok id TF (opA L k) b (itemsL s) true [(a, 0, [])]).filter fun h => h.1 == b).map _)
  rw [e, ← zE1 (f := fun h : HF => h.1) (fun h => h.1 == b) (fun u v e => by rw [e])]
  obtain ⟨R, hR⟩ : ∃ R, R = (runW L z tok id TF (opA L k) b (itemsL s) true [(a, 0, [])]).filter fun h => h.1 == b := ⟨_, rfl⟩
  rw [← hR]
  have hb : ∀ x ∈ R, x.1 = b := fun x hx => by rw [hR] at hx; simpa using (List.mem_filter.1 hx).2
  rw [cap_take R fun x hx y hy => by rw [hb x hx, hb y hy], cap_take, List.map_take]
  intro u hu v hv
  obtain ⟨_, _, rfl⟩ := List.mem_map.1 hu
  obtain ⟨_, _, rfl⟩ := List.mem_map.1 hv
  rfl
theorem zHN (cut : List HF → List HF) (T : Nat → Nat → List TT) (a b k : Nat) : ∀ t ∈ opsW L z tok cut T a b k, t.1 = k := by
 intro t ht
 unfold opsW at ht
 split at ht
 ·cases ht
 ·obtain ⟨_, _, rfl⟩ := List.mem_map.1 ht
  rfl
theorem zOp {TF TC : Nat → Nat → List TT} (hT : ∀ a b, TC a b = capK (fun t => t.1) (TF a b)) (a b : Nat) : rowW L z tok (capK fun h => h.1) (List.take 2) TC a b = capK (fun t => t.1) (rowW L z tok id id TF a b) := by
 unfold rowW
 have hops : ∀ n, (List.range n).flatMap (opsW L z tok (capK fun h => h.1) TC a b) = capK (fun t => t.1) ((List.range n).flatMap (opsW L z tok id TF a b)) := by
  intro n
  induction n with
  | zero => rfl
  | succ n ih =>
   have e1 : ∀ g : Nat → List TT, (List.range (n + 1)).flatMap g = (List.range n).flatMap g ++ g n := fun g => by rw [List.range_succ, List.flatMap_append]; simp
   rw [e1, e1, ih, zOo hT, zIX]
   intro x hx y hy
   obtain ⟨k, hk, hx⟩ := List.mem_flatMap.1 hx
   have h1 := zHN _ _ a b k x hx
   have h2 := zHN _ _ a b n y hy
   have h3 := List.mem_range.1 hk
   show x.1 ≠ y.1
   rw [h1, h2]
   omega
 rw [hops, ← List.append_assoc, ← List.append_assoc, zIX]
 ·congr 1
  have hm : ∀ x ∈ leafW L z tok a b ++ parW tok id TF a b, x.1 = -1 := by
   intro x hx
   rcases List.mem_append.1 hx with hx | hx
   ·unfold leafW at hx
    split at hx
    ·rw [List.mem_singleton.1 hx]
    ·cases hx
   ·unfold parW at hx
    split at hx
    ·obtain ⟨_, _, rfl⟩ := List.mem_map.1 hx
     rfl
    ·cases hx
  rw [cap_take _ fun x hx y hy => by rw [hm x hx, hm y hy]]
  by_cases hb : brkB tok a b = true
  ·have hl : leafW L z tok a b = [] := by
    unfold leafW
    rw [if_neg]
    intro h
    rw [Bool.and_eq_true, decide_eq_true_eq] at h
    unfold brkB at hb
    rw [Bool.and_eq_true, decide_eq_true_eq] at hb
    omega
   rw [hl, List.nil_append, List.nil_append]
   unfold parW
   rw [if_pos hb, if_pos hb, hT, cap_take2, ← List.map_take]
   rfl
  ·unfold parW
   rw [if_neg hb, if_neg hb, List.append_nil]
   unfold leafW
   split <;> rfl
 ·intro x hx y hy
  obtain ⟨k, _, hy⟩ := List.mem_flatMap.1 hy
  have h2 := zHN _ _ a b k y hy
  have h1 : x.1 = -1 := by
   rcases List.mem_append.1 hx with hx | hx
   ·unfold leafW at hx
    split at hx
    ·rw [List.mem_singleton.1 hx]
    ·cases hx
   ·unfold parW at hx
    split at hx
    ·obtain ⟨_, _, rfl⟩ := List.mem_map.1 hx
     rfl
    ·cases hx
  show x.1 ≠ y.1
  rw [h1, h2]
  omega
theorem zKs : ∀ m a b, tabC L z tok m a b = capK (fun t => t.1) (tabF L z tok m a b)
 | 0, a, b => rfl
 | m + 1, a, b => by
  have ih := zKs m
  show (if b - a ≤ m then tabC L z tok m a b else if b - a = m + 1 ∧ b ≤ tok.length then rowW L z tok (capK fun h => h.1) (List.take 2) (tabC L z tok m) a b else []) = capK (fun t => t.1) (if b - a ≤ m then tabF L z tok m a b else if b - a = m + 1 ∧ b ≤ tok.length then rowW L z tok id id (tabF L z tok m) a b else [])
  split
  ·exact ih a b
  ·split
   ·exact zOp ih a b
   ·rfl
end
end
section
open Go.RowKit
section
variable {L : List OP} {z : List Int} {tok : List TK}
def Dst (L : List OP) : Prop := ∀ k, k < L.length → findO L (opA L k).1 = some (opA L k)
theorem zEP (h : Srt L) : Dst L := by
 intro k hk
 have hne : ∀ o ∈ L, ∀ o' ∈ L, o.1 = o'.1 → o = o' := by
  clear hk k
  induction L with
  | nil => intro o ho; cases ho
  | cons u L ih =>
   have h1 := List.pairwise_cons.1 h
   have ih' := ih h1.2
   have irr : ∀ x : List UInt8, ¬ x < x := fun x hx => List.lt_irrefl x hx
   intro o ho o' ho' e
   rcases List.mem_cons.1 ho with rfl | ho1
   ·rcases List.mem_cons.1 ho' with rfl | ho2
    ·rfl
    ·have := h1.1 o' ho2
     rw [e] at this
     exact absurd this (irr _)
   ·rcases List.mem_cons.1 ho' with rfl | ho2
    ·have := h1.1 o ho1
     rw [e] at this
     exact absurd this (irr _)
    ·exact ih' o ho1 o' ho2 e
 cases hf : findO L (opA L k).1 with
 | none =>
  have := List.find?_eq_none.1 hf (opA L k) (zBZ hk)
  simp at this
 | some o =>
  have h2 := zAq hf
  rw [hne o h2.1 _ (zBZ hk) h2.2]
def topOk (L : List OP) (i : Int) (t : List ND) : Prop := ∃ x r, t = x :: r ∧ ((i = -1 ∧ x.k ≠ 3) ∨ ∃ k : Nat, k < L.length ∧ i = k ∧ x.k = 3 ∧ x.n = (opA L k).1)
theorem zIY {o : OP} (h : o ∈ L) : ∃ k, k < L.length ∧ opA L k = o := by
 obtain ⟨k, hk, e⟩ := List.mem_iff_getElem.1 h
 exact ⟨k, hk, by rw [zBh hk]; exact e⟩
theorem zE2 {a b : Nat} {t : List ND} (h : Dv L z tok .tr a b t 1) : ∃ i, topOk L i t := by
 cases h with
 | leaf => exact ⟨-1, _, _, rfl, .inl ⟨rfl, by show (1 : Int) ≠ 3; decide⟩⟩
 | paren => exact ⟨-1, _, _, rfl, .inl ⟨rfl, by show (2 : Int) ≠ 3; decide⟩⟩
 | @oper _ _ n o s l ho hs hab hd =>
  obtain ⟨k, hk, e⟩ := zIY (zAq ho).1
  exact ⟨k, _, _, rfl, .inr ⟨k, hk, rfl, rfl, by rw [e]⟩⟩
theorem zIZ (hD : Dst L) {o : OP} {i : Int} {x : ND} {r : List ND} {left right : Bool} (h : topOk L i (x :: r)) (hlr : left = true → right = true → False) :
  fitT L z o i left right = true ↔ (left = true → mayH L z o x false = true) ∧ (right = true → mayH L z o x true = true) := by
 obtain ⟨x', r', e, h⟩ := h
 cases e
 rcases h with ⟨rfl, h2⟩ | ⟨k, h1, rfl, h3, h4⟩
 ·have hm : ∀ rt, mayH L z o x rt = true := fun rt => by unfold mayH; rw [if_neg h2]
  unfold fitT
  exact ⟨fun _ => ⟨fun _ => hm _, fun _ => hm _⟩, fun _ => rfl⟩
 ·have hm : ∀ rt, mayH L z o x rt = fitsB z o (opA L k) rt := fun rt => by unfold mayH; rw [if_pos h3, h4, hD k h1]
  unfold fitT
  rw [hm, hm, show decide ((k : Int) < 0) = false by simp, Bool.false_or, Int.toNat_natCast]
  cases left <;> cases right
  ·simp
  ·simp
  ·simp
  ·exact (hlr rfl rfl).elim
theorem zNn {o : OP} {g : Gl} {a b n : Nat} {l : List ND} (h : Dv L z tok g a b l n) : ∀ I first, g = .it o I first → hasp I = true → a < b := by
 induction h with
 | leaf => intro I first e; cases e
 | paren => intro I first e; cases e
 | oper => intro I first e; cases e
 | nil => intro I first e hp; cases e; cases hp
 | @part o x r first a b n l hx ha hp hd ih =>
  intro I first e _
  have := zGZ hd
  omega
 | @hole o r first a c b n x t l hd1 _ _ hd2 _ ih2 =>
  intro I first e hp
  cases e
  rw [zEK] at hp
  have h1 := zB3 hd1
  have := ih2 r false rfl hp
  omega
def TOk (L : List OP) (z : List Int) (tok : List TK) (m : Nat) (T : Nat → Nat → List TT) : Prop := ∀ a b i t, (i, t) ∈ T a b ↔ b - a ≤ m ∧ Dv L z tok .tr a b t 1 ∧ topOk L i t
theorem zHO (hD : Dst L) {m : Nat} {T : Nat → Nat → List TT} (HT : TOk L z tok m T) {o : OP} {to_ a0 : Nat} (hto : to_ ≤ tok.length) (hm : to_ - a0 = m + 1) :
  ∀ (I : List Nm) (first : Bool) (H : List HF), (first = true → 2 ≤ I.length) → (∀ h ∈ H, a0 ≤ h.1 ∧ h.1 ≤ to_ ∧ (hasp I = true ∨ a0 < h.1)) → ∀ c n' l', (c, n', l') ∈ runW L z tok id T o to_ I first H ↔ ∃ h ∈ H, ∃ n l, Dv L z tok (.it o I first) h.1 c l n ∧ c ≤ to_ ∧ n' = h.2.1 + n ∧ l' = h.2.2 ++ l
 | [], first, H, hI, hH, c, n', l' => by
  constructor
  ·intro h
   have h' : (c, n', l') ∈ H := h
   have := hH _ h'
   dsimp only at this
   exact ⟨_, h', 0, [], .nil (by omega), by omega, rfl, (List.append_nil _).symm⟩
  ·rintro ⟨h, hh, n, l, hd, hc, rfl, rfl⟩
   cases hd
   rw [List.append_nil]
   exact hh
 | x :: r, first, H, hI, hH, c, n', l' => by
  show (c, n', l') ∈ runW L z tok id T o to_ r false (H.flatMap (stepW L z tok T o to_ x first r.isEmpty)) ↔ _
  by_cases hx : x ≠ []
  ·have hst : ∀ h : HF, stepW L z tok T o to_ x first r.isEmpty h = if decide (h.1 < to_) && partB (tat tok h.1).k (txN (tat tok h.1)) x then [(h.1 + 1, h.2.1, h.2.2)] else [] := fun h => by unfold stepW; rw [if_pos hx]
   have hH' : ∀ h' ∈ H.flatMap (stepW L z tok T o to_ x first r.isEmpty), ∃ h ∈ H, h.1 < to_ ∧ partB (tat tok h.1).k (txN (tat tok h.1)) x = true ∧ h' = (h.1 + 1, h.2.1, h.2.2) := by
    intro h' hh'
    obtain ⟨h, h1, h2⟩ := List.mem_flatMap.1 hh'
    rw [hst] at h2
    split at h2
    ·rename_i hc
     rw [Bool.and_eq_true, decide_eq_true_eq] at hc
     exact ⟨h, h1, hc.1, hc.2, List.mem_singleton.1 h2⟩
    ·cases h2
   rw [zHO hD HT hto hm r false _ (fun h => by cases h) (fun h' hh' => by
    obtain ⟨h, h1, h2, _, rfl⟩ := hH' h' hh'
    have := hH h h1
    exact ⟨by dsimp only; omega, by dsimp only; omega, .inr (by dsimp only; omega)⟩) c n' l']
   constructor
   ·rintro ⟨h', hh', n, l, hd, hc, e1, e2⟩
    obtain ⟨h, h1, h2, h3, rfl⟩ := hH' h' hh'
    exact ⟨h, h1, n, l, .part hx (by omega) h3 hd, hc, e1, e2⟩
   ·rintro ⟨h, hh, n, l, hd, hc, e1, e2⟩
    cases hd with
    | hole => exact absurd rfl hx
    | part _ ha hp hd =>
     have := zGZ hd
     refine ⟨(h.1 + 1, h.2.1, h.2.2), List.mem_flatMap.2 ⟨h, hh, ?_⟩, n, l, hd, hc, e1, e2⟩
     rw [hst, if_pos (by rw [Bool.and_eq_true, decide_eq_true_eq]; exact ⟨by omega, hp⟩)]
     exact List.mem_singleton.2 rfl
  ·obtain rfl : x = [] := Classical.not_not.1 hx
   have hlr : first = true → r.isEmpty = true → False := fun h1 h2 => by
    have := hI h1
    rw [List.isEmpty_iff] at h2
    subst h2
    simp at this
   have hH' : ∀ h', h' ∈ H.flatMap (stepW L z tok T o to_ [] first r.isEmpty) ↔ ∃ h ∈ H, ∃ at_ i t, h.1 < at_ ∧ at_ ≤ to_ ∧ (i, t) ∈ T h.1 at_ ∧ fitT L z o i first r.isEmpty = true ∧ h' = (at_, h.2.1 + 1, h.2.2 ++ t) := by
    intro h'
    constructor
    ·intro hh'
     obtain ⟨h, h1, h2⟩ := List.mem_flatMap.1 hh'
     unfold stepW at h2
     rw [if_neg (by simp)] at h2
     obtain ⟨at_, h3, h4⟩ := List.mem_flatMap.1 h2
     obtain ⟨t, h5, rfl⟩ := List.mem_map.1 h4
     have h6 := List.mem_filter.1 h5
     have h7 := List.mem_range'_1.1 h3
     exact ⟨h, h1, at_, t.1, t.2, by omega, by omega, h6.1, h6.2, rfl⟩
    ·rintro ⟨h, h1, at_, i, t, h2, h3, h4, h5, rfl⟩
     refine List.mem_flatMap.2 ⟨h, h1, ?_⟩
     unfold stepW
     rw [if_neg (by simp)]
     exact List.mem_flatMap.2 ⟨at_, List.mem_range'_1.2 (by omega), List.mem_map.2 ⟨(i, t), List.mem_filter.2 ⟨h4, h5⟩, rfl⟩⟩
   rw [zHO hD HT hto hm r false _ (fun h => by cases h) (fun h' hh' => by
    obtain ⟨h, h1, at_, i, t, h2, h3, _, _, rfl⟩ := (hH' h').1 hh'
    have := hH h h1
    exact ⟨by dsimp only; omega, h3, .inr (by dsimp only; omega)⟩) c n' l']
   constructor
   ·rintro ⟨h', hh', n, l, hd, hc, e1, e2⟩
    obtain ⟨h, h1, at_, i, t, h2, h3, h4, h5, rfl⟩ := (hH' h').1 hh'
    obtain ⟨k1, k2, k3⟩ := (HT _ _ _ _).1 h4
    obtain ⟨u, t', rfl, k4⟩ := k3
    have hf := (zIZ hD (z := z) (o := o) ⟨u, t', rfl, k4⟩ hlr).1 h5
    refine ⟨h, h1, n + 1, u :: t' ++ l, .hole k2 hf.1 (fun e => hf.2 (by rw [e]; rfl)) hd, hc, ?_, ?_⟩
    ·rw [e1]; show h.2.1 + 1 + n = _; omega
    ·rw [e2, List.append_assoc]
   ·rintro ⟨h, hh, n, l, hd, hc, e1, e2⟩
    cases hd with
    | part h => exact absurd rfl h
    | @hole _ _ _ _ c' _ n2 u t l2 hd1 hm1 hm2 hd2 =>
     obtain ⟨i, ht⟩ := zE2 hd1
     have g1 := zB3 hd1
     have g2 := zGZ hd2
     have g3 := hH h hh
     have hlen : c' - h.1 ≤ m := by
      rcases g3.2.2 with hp | hp
      ·rw [zEK] at hp
       have := zNn hd2 r false rfl hp
       omega
      ·omega
     refine ⟨(c', h.2.1 + 1, h.2.2 ++ u :: t), (hH' _).2 ⟨h, hh, c', i, u :: t, g1.1, by omega, (HT _ _ _ _).2 ⟨hlen, hd1, ht⟩, (zIZ hD ht hlr).2 ⟨hm1, fun e => hm2 (List.isEmpty_iff.1 e)⟩, rfl⟩, n2, l2, hd2, hc, ?_, ?_⟩
     ·rw [e1]; show h.2.1 + (n2 + 1) = h.2.1 + 1 + n2; omega
     ·rw [e2]; show h.2.2 ++ (u :: t ++ l2) = h.2.2 ++ (u :: t) ++ l2; rw [List.append_assoc]
theorem zBl {p : Nm} {s : SH} (h : ofS p = some s) : 2 ≤ (itemsL s).length ∧ hasp (itemsL s) = true := by
 obtain ⟨_, _, hm, _, _⟩ := zCh h
 have hok := zAc h
 have hl : hlB s = true := by
  unfold shM at hm
  simp only [Bool.and_eq_true] at hm
  exact hm.2.1
 constructor
 ·cases hP : s.P with
  | nil => exact absurd hP hok.1
  | cons q P =>
   rw [zB2 hP]
   unfold hlB at hl
   rw [hP] at hl
   cases P with
   | cons q' P' => cases s.l <;> simp [sepN]
   | nil =>
    cases h1 : s.l <;> cases h2 : s.r <;> simp [sepN, h1, h2] at hl ⊢
 ·unfold hasp
  rw [zCu h]
  cases hP : s.P with
  | nil => exact absurd hP hok.1
  | cons q P => rfl
theorem zKt (hD : Dst L) {m : Nat} {T : Nat → Nat → List TT} (HT : TOk L z tok m T) {a b k : Nat} (hb : b ≤ tok.length) (hm : b - a = m + 1) (i : Int) (t : List ND) :
  (i, t) ∈ opsW L z tok id T a b k ↔ i = k ∧ ∃ s n l, ofS (opA L k).1 = some s ∧ Dv L z tok (.it (opA L k) (itemsL s) true) a b l n ∧ t = ⟨3, (opA L k).1, a, b, n⟩ :: l := by
 unfold opsW
 cases hs : ofS (opA L k).1 with
 | none =>
  constructor
  ·intro h; cases h
  ·rintro ⟨_, s, n, l, h, _⟩; cases h
 | some s =>
  have hrun := zHO (z := z) hD HT (o := opA L k) (to_ := b) (a0 := a) hb hm (itemsL s) true [(a, 0, [])] (fun _ => (zBl hs).1) (fun h hh => by rw [List.mem_singleton.1 hh]; exact ⟨Nat.le_refl _, by dsimp only; omega, .inl (zBl hs).2⟩)
  constructor
  ·intro h
   obtain ⟨⟨c, n', l'⟩, h1, h2⟩ := List.mem_map.1 h
   obtain ⟨h3, h4⟩ := List.mem_filter.1 h1
   obtain rfl : c = b := by simpa using h4
   obtain ⟨h0, hh, n, l, hd, _, e1, e2⟩ := (hrun _ _ _).1 h3
   rw [List.mem_singleton.1 hh] at hd e1 e2
   cases h2
   refine ⟨rfl, s, n, l, rfl, hd, ?_⟩
   unfold topN
   rw [e1, e2]
   show (⟨3, (opA L k).1, a, c, ((0 + n : Nat) : Int)⟩ :: ([] ++ l) : List ND) = _
   rw [Nat.zero_add, List.nil_append]
  ·rintro ⟨rfl, s', n, l, h, hd, rfl⟩
   cases h
   refine List.mem_map.2 ⟨(b, n, l), List.mem_filter.2 ⟨(hrun _ _ _).2 ⟨_, List.mem_singleton.2 rfl, n, l, hd, Nat.le_refl _, (Nat.zero_add _).symm, rfl⟩, by simp⟩, rfl⟩
theorem zOq (hD : Dst L) {m : Nat} {T : Nat → Nat → List TT} (HT : TOk L z tok m T) {a b : Nat} (hb : b ≤ tok.length) (hm : b - a = m + 1) (i : Int) (t : List ND) :
  (i, t) ∈ rowW L z tok id id T a b ↔ Dv L z tok .tr a b t 1 ∧ topOk L i t := by
 unfold rowW
 rw [List.mem_append, List.mem_append]
 constructor
 ·rintro (h | h | h)
  ·unfold leafW at h
   split at h
   ·rename_i hc
    rw [Bool.and_eq_true, decide_eq_true_eq] at hc
    cases List.mem_singleton.1 h
    obtain ⟨rfl, h2⟩ := hc
    exact ⟨.leaf (by omega) h2, _, _, rfl, .inl ⟨rfl, by show (1 : Int) ≠ 3; decide⟩⟩
   ·cases h
  ·unfold parW at h
   split at h
   ·rename_i hc
    unfold brkB at hc
    simp only [Bool.and_eq_true, decide_eq_true_eq, beq_iff_eq] at hc
    obtain ⟨⟨i', t'⟩, h1, h2⟩ := List.mem_map.1 h
    cases h2
    obtain ⟨_, hd, _⟩ := (HT _ _ _ _).1 h1
    obtain ⟨b', rfl⟩ : ∃ b', b = b' + 1 := ⟨b - 1, by omega⟩
    rw [Nat.add_sub_cancel] at hc hd
    exact ⟨.paren (by omega) hc.2.1.1 hc.2.1.2 hc.2.2.1 hc.2.2.2 hd, _, _, rfl, .inl ⟨rfl, by show (2 : Int) ≠ 3; decide⟩⟩
   ·cases h
  ·obtain ⟨k, hk, h⟩ := List.mem_flatMap.1 h
   have hkl := List.mem_range.1 hk
   obtain ⟨rfl, s, n, l, hs, hd, rfl⟩ := (zKt hD HT hb hm i t).1 h
   exact ⟨.oper (hD k hkl) hs (by omega) hd, _, _, rfl, .inr ⟨k, hkl, rfl, rfl, rfl⟩⟩
 ·rintro ⟨hd, x, r, rfl, ht⟩
  generalize hg : x :: r = t at hd
  cases hd with
  | leaf ha hl =>
   cases hg
   left
   unfold leafW
   rw [if_pos (by rw [Bool.and_eq_true, decide_eq_true_eq]; exact ⟨rfl, hl⟩)]
   rcases ht with ⟨rfl, _⟩ | ⟨k, _, _, h3, _⟩
   ·exact List.mem_singleton.2 rfl
   ·cases h3
  | @paren _ b' t' hbl k1 t1 k2 t2 hd =>
   cases hg
   right; left
   have hab := zB3 hd
   obtain ⟨i', ht'⟩ := zE2 hd
   unfold parW
   rw [if_pos (by
    unfold brkB
    simp only [Bool.and_eq_true, decide_eq_true_eq, beq_iff_eq, Nat.add_sub_cancel]
    exact ⟨by omega, ⟨k1, t1⟩, k2, t2⟩)]
   refine List.mem_map.2 ⟨(i', r), (HT _ _ _ _).2 ⟨by omega, by rw [Nat.add_sub_cancel]; exact hd, ht'⟩, ?_⟩
   rcases ht with ⟨rfl, _⟩ | ⟨k, _, _, h3, _⟩
   ·rfl
   ·cases h3
  | @oper _ _ n o s l ho hs hab hd =>
   cases hg
   right; right
   rcases ht with ⟨_, h2⟩ | ⟨k, hk, rfl, _, hn⟩
   ·exact absurd rfl h2
   ·have e : o = opA L k := by
     have h1 := hD k hk
     rw [show (opA L k).1 = o.1 from hn.symm, ho] at h1
     exact Option.some.inj h1
    subst e
    exact List.mem_flatMap.2 ⟨k, List.mem_range.2 hk, (zKt hD HT hb hm _ _).2 ⟨rfl, s, n, _, hs, hd, rfl⟩⟩
theorem zKu (hD : Dst L) : ∀ m, TOk L z tok m (tabF L z tok m)
 | 0, a, b, i, t => by
  constructor
  ·intro h; cases h
  ·rintro ⟨h1, h2, _⟩
   have := zB3 h2
   omega
 | m + 1, a, b, i, t => by
  have ih := zKu hD m
  show (i, t) ∈ (if b - a ≤ m then tabF L z tok m a b else if b - a = m + 1 ∧ b ≤ tok.length then rowW L z tok id id (tabF L z tok m) a b else []) ↔ _
  split
  ·rename_i h
   rw [ih a b i t]
   exact ⟨fun ⟨_, h2⟩ => ⟨by omega, h2⟩, fun ⟨_, h2⟩ => ⟨h, h2⟩⟩
  ·split
   ·rename_i h h2
    rw [zOq hD ih h2.2 h2.1]
    exact ⟨fun h3 => ⟨by omega, h3⟩, fun h3 => h3.2⟩
   ·rename_i h h2
    constructor
    ·intro h3; cases h3
    ·rintro ⟨h3, h4, _⟩
     have := zB3 h4
     exact absurd ⟨by omega, this.2⟩ h2
end
end
section
open Go.RowKit
section
variable {L : List OP} {z : List Int} {tok : List TK}
end
end
section
open Go.RowKit
section
variable {L L' : List OP} {z z' : List Int} {tok : List TK}
def SameN (L : List OP) (z : List Int) (L' : List OP) (z' : List Int) (tok : List TK) : Prop := ∀ a, a < tok.length → isP (tat tok a) = true → entL L z (txN (tat tok a)) = entL L' z' (txN (tat tok a))
theorem SameN.symm (h : SameN L z L' z' tok) : SameN L' z' L z tok := fun a ha hp => (h a ha hp).symm
theorem zCH (hD : Dst L) {o : OP} (h : o ∈ L) : findO L o.1 = some o := by
 obtain ⟨k, hk, e⟩ := zIY h
 have := hD k hk
 rwa [e] at this
end
end
end Go.Proofs.YtcjbhdgjcpnklaaGreatDoor
