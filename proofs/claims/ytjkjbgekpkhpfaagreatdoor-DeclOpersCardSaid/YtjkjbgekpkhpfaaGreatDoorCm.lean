/- Mathematics of directives: tokens one by one, and which rows they are. No walk here. -/
import Derived.Test.YtjkjbgekpkhpfaaGreatDoorMA
import Derived.Test.YtjkjbgekpkhpfaaGreatDoorM5
import Derived.Test.YtjkjbgekpkhpfaaGreatDoorMF
import Derived.Test.YtjkjbgekpkhpfaaGreatDoorMN
import Derived.Test.YtjkjbgekpkhpfaaGreatDoorMK
namespace Go.Proofs.YtjkjbgekpkhpfaaGreatDoor
open Go.RowKit

/-! ### Tokens one by one -/

/-- The kinds and texts of what bytes are lexed to. -/
def kl (l : List Int) : List (Int × Nm) := (lx l 0).map ktP
theorem kl_toks (l : List Int) : (toks l).map kt = kl l := kt_toks l
theorem kl_nil : kl [] = [] := rfl
theorem kl_lay {d : Int} (hc : cls d = 1) (h0 : 0 ≤ d ∧ d ≤ 255) {r : List Int} (hr : ∀ x ∈ r, 0 ≤ x ∧ x ≤ 255) : kl (d :: r) = kl r := lx_lay h0 hc hr
theorem bstr_nb (p : Nm) : (bstr (nb p)).toList = p := by
  rw [bstr_toList]
  unfold nb
  rw [List.map_map]
  conv => rhs; rw [← List.map_id p]
  exact List.map_congr_left fun c _ => by simp
theorem nb_rng' (p : Nm) : ∀ x ∈ nb p, 0 ≤ x ∧ x ≤ 255 := fun x hx => by
  obtain ⟨c, _, rfl⟩ := List.mem_map.1 hx
  have := c.toNat_lt
  omega
theorem kl_tok {l : List Int} {t : TR} (hr : ∀ x ∈ l, 0 ≤ x ∧ x ≤ 255) (h0 : l ≠ []) (h1 : cls (bt l 0) ≠ 1) (h2 : bt l 0 ≠ 37) (h3 : bt l 0 ≠ 47) (ht : firstT l = t) (hn : t.n ≤ l.length) :
    kl l = (t.k, (bstr t.t).toList) :: kl (l.drop t.n) := by
  have hl : 0 < l.length := List.length_pos_iff.2 h0
  have hx : nx l 0 = some (0, firstT l) := nx_here hl h1 h2 (by
    unfold pre2
    rw [List.drop_zero, show (bt l 0 == 47) = false from beq_eq_false_iff_ne.2 h3]
    simp)
  rw [ht] at hx
  have ha := lx_app (l.take t.n) (l.drop t.n) (by rw [List.take_append_drop]; exact hr) 0 (Nat.zero_le _)
  rw [List.take_append_drop, List.length_take, Nat.min_eq_left hn] at ha
  unfold kl
  rw [lx_some (Nat.zero_le _) hr hx, List.map_cons, Nat.zero_add, show lx l t.n = _ from ha, ktP_shf]
  rfl
theorem nmB_off {d : Int} (h0 : 0 ≤ d ∧ d ≤ 127) (hn : nameB d = false) (r : List Int) : nmB (d :: r) = false := by
  have h := okSeq_low (l := d :: r) (by simp) (by rw [bt_cons0]; omega)
  refine nmB_one h.2 ?_
  rw [bt_cons0]; exact hn
/-- A name of small letters, whatever stands behind it that belongs to no name. -/
theorem kl_word {p : Nm} (h : lowN p) {d : Int} {r : List Int} (h0 : 0 ≤ d ∧ d ≤ 127) (hn : nameB d = false) (hr : ∀ x ∈ d :: r, 0 ≤ x ∧ x ≤ 255) : kl (nb p ++ d :: r) = (1, p) :: kl (d :: r) := by
  have hp := low_nb h
  have hnm := nmL_cut (d :: r) (nmB_off h0 hn r) (nb p)
  rw [nmL_low _ hp, List.take_length] at hnm
  have hne : nb p ≠ [] := fun e => h.1 (List.map_eq_nil_iff.1 e)
  obtain ⟨c, s, hc⟩ : ∃ c s, nb p = c :: s := by
    cases hh : nb p with
    | nil => exact absurd hh hne
    | cons c s => exact ⟨c, s, rfl⟩
  have h2 : cls (bt (nb p ++ d :: r) 0) = 2 := by rw [hc]; exact (hc ▸ hp : LowL (c :: s)).head
  have hcr : 97 ≤ bt (nb p ++ d :: r) 0 ∧ bt (nb p ++ d :: r) 0 ≤ 122 := by rw [hc]; exact hp c (by rw [hc]; exact List.mem_cons_self ..)
  have := kl_tok (l := nb p ++ d :: r) (t := ⟨1, (nb p).length, nb p, 0⟩) (rng_app (nb_rng' p) hr) (by rw [hc]; simp) (by omega) (by omega) (by omega) (by
    rw [firstT2 h2]
    unfold nameT
    rw [hnm, List.take_left]) (by simp)
  rw [this, List.drop_left, bstr_nb]
/-- Digits. -/
theorem runL_digs {D : List Int} (hd : digs D) {d : Int} {r : List Int} (hn : cls d ≠ 4) : runL 4 (D ++ d :: r) = D.length := by
  refine runL_all 4 _ _ (fun x hx => ?_) (by rw [runL, if_neg hn])
  have := hd x hx
  exact (dig_cls (by omega) (by omega)).2 this
theorem kl_num (n : Nat) (h : n ≤ 2147483647) {d : Int} {r : List Int} (hn : cls d ≠ 4) (hr : ∀ x ∈ d :: r, 0 ≤ x ∧ x ≤ 255) : kl (digL n ++ d :: r) = (4, (bstr (digL n)).toList) :: kl (d :: r) := by
  have hd := digL_digs n
  have hrun := runL_digs hd (r := r) hn
  have hpos := digL_pos n
  obtain ⟨c, s, hc⟩ : ∃ c s, digL n = c :: s := by
    cases hh : digL n with
    | nil => rw [hh] at hpos; simp at hpos
    | cons c s => exact ⟨c, s, rfl⟩
  have hcr := hd c (by rw [hc]; exact List.mem_cons_self ..)
  have h4 : cls c = 4 := (dig_cls (by omega) (by omega)).2 hcr
  have hb : bt (digL n ++ d :: r) 0 = c := by rw [hc]; rfl
  have := kl_tok (l := digL n ++ d :: r) (t := ⟨4, (digL n).length, digL n, 0⟩) (rng_app (digL_rng n) hr) (by rw [hc]; simp) (by rw [hb]; omega) (by rw [hb]; omega) (by rw [hb]; omega) (by
    rw [firstT4 (by rw [hb]; exact h4)]
    have hk : dkK (digL n ++ d :: r) = (digL n).length := hrun
    have he : dkE (digL n ++ d :: r) = 0 := by
      unfold dkE dkBig
      rw [hrun, List.take_left, numL_digL, if_neg (by omega), if_neg (by rw [decide_eq_true_eq]; omega)]
    unfold numT
    rw [if_pos he, hk, List.take_left]) (by simp)
  rw [this, List.drop_left]
/-- What a number's text says. -/
theorem dk_digL (n : Nat) (h : n ≤ 2147483647) : dkN (digL n) = n := by
  have hrun : runL 4 (digL n) = (digL n).length := by
    have := runL_all 4 (digL n) [] (fun x hx => (dig_cls (by have := digL_digs n x hx; omega) (by have := digL_digs n x hx; omega)).2 (digL_digs n x hx)) rfl
    rwa [List.append_nil] at this
  unfold dkN dkBig
  rw [hrun, List.take_length, numL_digL, if_neg (by rw [decide_eq_true_eq]; omega)]
/-- Brackets and the like. -/
theorem kl_solo {c : Int} {r : List Int} (hc : cls c = 6) (h0 : c ≠ 37 ∧ c ≠ 47) (hr : ∀ x ∈ c :: r, 0 ≤ x ∧ x ≤ 255) : kl (c :: r) = (6, (bstr [c]).toList) :: kl r := by
  have := kl_tok (l := c :: r) (t := ⟨6, 1, [c], 0⟩) hr (by simp) (by rw [bt_cons0]; omega) (by rw [bt_cons0]; exact h0.1) (by rw [bt_cons0]; exact h0.2) (by rw [firstT6 (by rw [bt_cons0]; exact hc)]; rfl) (by simp)
  rw [this]; rfl
/-- What a directive begins with. -/
theorem kl_mark {d : Int} {r : List Int} (hn : cls d ≠ 5) (hr : ∀ x ∈ d :: r, 0 ≤ x ∧ x ≤ 255) : kl (58 :: 45 :: d :: r) = (2, [58, 45]) :: kl (d :: r) := by
  have hrun : runL 5 (58 :: 45 :: d :: r) = 2 := by
    rw [runL, if_pos (by decide), runL, if_pos (by decide), runL, if_neg hn]
  have := kl_tok (l := 58 :: 45 :: d :: r) (t := ⟨2, 2, [58, 45], 0⟩) (rng_app (X := [58, 45]) (by decide) hr) (by simp) (by rw [bt_cons0]; decide) (by rw [bt_cons0]; decide) (by rw [bt_cons0]; decide) (by
    rw [firstT5 (by rw [bt_cons0]; decide)]
    have he : endT (58 :: 45 :: d :: r) = false := by unfold endT; rw [hrun]; rfl
    unfold symT
    rw [he, hrun]; rfl) (by simp)
  rw [this, bstr_toList]; rfl
/-- One symbol that is no dot. -/
theorem kl_sym {c d : Int} {r : List Int} (hc : cls c = 5) (h0 : c ≠ 37 ∧ c ≠ 47 ∧ c ≠ 46) (hn : cls d ≠ 5) (hr : ∀ x ∈ c :: d :: r, 0 ≤ x ∧ x ≤ 255) : kl (c :: d :: r) = (2, (bstr [c]).toList) :: kl (d :: r) := by
  have hrun : runL 5 (c :: d :: r) = 1 := by rw [runL, if_pos hc, runL, if_neg hn]
  have := kl_tok (l := c :: d :: r) (t := ⟨2, 1, [c], 0⟩) hr (by simp) (by rw [bt_cons0]; omega) (by rw [bt_cons0]; exact h0.1) (by rw [bt_cons0]; exact h0.2.1) (by
    rw [firstT5 (by rw [bt_cons0]; exact hc)]
    have he : endT (c :: d :: r) = false := by
      unfold endT
      rw [hrun, bt_cons0, decide_eq_false h0.2.2]; rfl
    unfold symT
    rw [he, hrun]; rfl) (by simp)
  rw [this]; rfl
/-- A text between quotes. -/
theorem kl_quo {t r : List Int} (h : okT t) (ht : ∀ x ∈ t, 0 ≤ x ∧ x ≤ 255) (hb : bt r 0 ≠ 39) (hr : ∀ x ∈ r, 0 ≤ x ∧ x ≤ 255) : kl (putL t ++ r) = (5, (bstr t).toList) :: kl r := by
  have hk := tk_put h r hb
  have hpl : (putL t).length = (escL t).length + 2 := by unfold putL; simp
  have hpr : ∀ x ∈ putL t, 0 ≤ x ∧ x ≤ 255 := by
    have := wrT_rng 5 ht
    unfold wrT at this
    rwa [if_pos rfl, (ptOk_yes h).1] at this
  have hb0 : bt (putL t ++ r) 0 = 39 := rfl
  have := kl_tok (l := putL t ++ r) (t := ⟨5, (putL t).length, t, 0⟩) (rng_app hpr hr) (by unfold putL; simp) (by rw [hb0]; decide) (by rw [hb0]; decide) (by rw [hb0]; decide) (by
    rw [firstT7 (by rw [hb0]; decide)]
    unfold quoT
    rw [hk, hpl, if_pos rfl]) (by simp)
  rw [this, List.drop_left]
theorem kl_end : kl [46] = [(7, [46])] := by
  have := kl_tok (l := [46]) (t := ⟨7, 1, [46], 0⟩) (by decide) (by simp) (by decide) (by decide) (by decide) (by decide) (by simp)
  rw [this, bstr_toList]; rfl

/-! ### Rows -/

/-- Whether a token may stand where a row has one: a kind, or a letter's kinds. -/
def coverB (s : Nm) (k : Int) : Bool := if s = [78] then k == 4 else if s = [81] then (k == 2 || k == 5) || k == 1 else if s = [65] then k == 1 else false
def fitB (x y : Int × Nm) : Bool := if y.1 = 3 then coverB y.2 x.1 else if y.1 = 7 then x.1 == 7 else x.1 == y.1 && x.2 == y.2
def rowB : List (Int × Nm) → List (Int × Nm) → Bool
  | [], [] => true
  | x :: L, y :: R => fitB x y && rowB L R
  | _, _ => false
theorem rowB_len : ∀ {L R : List (Int × Nm)}, rowB L R = true → L.length = R.length
  | [], [], _ => rfl
  | x :: L, y :: R, h => by
    unfold rowB at h
    rw [Bool.and_eq_true] at h
    rw [List.length_cons, List.length_cons, rowB_len h.2]
  | [], _ :: _, h => by cases h
  | _ :: _, [], h => by cases h

def opR : List (Int × Nm) := [(2, [58, 45]), (1, [111, 112]), (6, [40]), (3, [78]), (6, [44]), (3, [65]), (6, [44]), (3, [81]), (6, [41]), (7, [46])]
def edR : List (Int × Nm) := [(2, [58, 45]), (1, [101, 100, 103, 101]), (6, [40]), (3, [78]), (6, [44]), (3, [78]), (6, [41]), (7, [46])]
def bgR : List (Int × Nm) := [(2, [58, 45]), (1, [98, 101, 103, 105, 110]), (7, [46])]
def enR : List (Int × Nm) := [(2, [58, 45]), (1, [101, 110, 100]), (7, [46])]

/-- A directive as a value. -/
structure DC where
  k : Int
  p : Nm
  g : Int
  a : Int
  G : Int
  H : Int
def DC.v (d : DC) : Value := .agg #[.int .i64 d.k, .string (Go.Proofs.YtjkjbgekpkhpfaaGreatDoor.mk d.p), .int .i64 d.g, .int .i64 d.a, .int .i64 d.G, .int .i64 d.H]
def d0 : DC := ⟨0, [], 0, 0, 0, 0⟩
/-- What a word and a text make: a pattern, which way it leans, an error. -/
def frmV (a q : Nm) : Nm × Int × Int := if a = [108, 101, 102, 116] then (q, 1, 0) else if a = [114, 105, 103, 104, 116] then (q, 2, 0) else if a = [110, 111, 110] then (q, 0, 0) else simV a q
def oprV (n : Int) (a q : Nm) : DC × Int :=
  if (frmV a q).2.2 ≠ 0 then (d0, (frmV a q).2.2)
  else if n = 0 then (if (ofS (frmV a q).1).isSome then (⟨2, (frmV a q).1, 0, 0, 0, 0⟩, 0) else (d0, 23))
  else if mayV (frmV a q).1 n (frmV a q).2.1 ≠ 0 then (d0, mayV (frmV a q).1 n (frmV a q).2.1) else (⟨1, (frmV a q).1, n, (frmV a q).2.1, 0, 0⟩, 0)
def valV (s : Nm) : Int := dkN (nb s)
def txK (L : List (Int × Nm)) (k : Nat) : Nm := (L.getD k (0, [])).2
/-- What a clause says. -/
def decV (L : List (Int × Nm)) : DC × Int :=
  if rowB L opR then oprV (valV (txK L 3)) (txK L 5) (txK L 7)
  else if rowB L edR then (⟨3, [], 0, 0, valV (txK L 3), valV (txK L 5)⟩, 0)
  else if rowB L bgR then (⟨4, [], 0, 0, 0, 0⟩, 0)
  else if rowB L enR then (⟨5, [], 0, 0, 0, 0⟩, 0)
  else (d0, 20)
/-- The tokens for which a row's letters stand. -/
def fnd : List TK → List (Int × Nm) → List TK
  | t :: L, y :: R => if y.1 = 3 then t :: fnd L R else fnd L R
  | _, _ => []

/-! ### A row, token by token -/

def kat (L : List (Int × Nm)) (k : Nat) : Int × Nm := L.getD k (0, [])
theorem kat_kt {L : List TK} {k : Nat} (h : k < L.length) : kat (L.map kt) k = kt (tat L k) := by
  unfold kat tat
  simp [List.getD, h]
theorem rowB_no : ∀ {L R : List (Int × Nm)} {k : Nat}, k < L.length → fitB (kat L k) (kat R k) = false → rowB L R = false
  | x :: L, [], k, _, _ => by unfold rowB; rfl
  | x :: L, y :: R, 0, _, h => by
    have h' : fitB x y = false := h
    unfold rowB; rw [h']; rfl
  | x :: L, y :: R, k + 1, hk, h => by
    unfold rowB
    rw [rowB_no (L := L) (R := R) (k := k) (by simpa using hk) (by simpa [kat] using h), Bool.and_false]
theorem rowB_yes : ∀ {L R : List (Int × Nm)}, L.length = R.length → (∀ k, k < L.length → fitB (kat L k) (kat R k) = true) → rowB L R = true
  | [], [], _, _ => rfl
  | x :: L, [], h, _ => by simp at h
  | [], y :: R, h, _ => by simp at h
  | x :: L, y :: R, h, hk => by
    have h0 : fitB x y = true := hk 0 (by simp)
    unfold rowB
    rw [h0, rowB_yes (by simpa using h) fun k hk' => by simpa [kat] using hk (k + 1) (by simpa using hk'), Bool.true_and]
theorem fnd_nil (R : List (Int × Nm)) : fnd [] R = [] := by cases R <;> rfl
theorem fnd_snoc : ∀ {L : List TK} {R : List (Int × Nm)} {k : Nat}, k < L.length → k < R.length → fnd (L.take (k + 1)) R = fnd (L.take k) R ++ (if (kat R k).1 = 3 then [tat L k] else [])
  | t :: L, y :: R, 0, _, _ => by
    show fnd [t] (y :: R) = fnd [] (y :: R) ++ _
    unfold fnd
    rw [fnd_nil]
    rfl
  | t :: L, y :: R, k + 1, h1, h2 => by
    have ih := fnd_snoc (L := L) (R := R) (k := k) (by simpa using h1) (by simpa using h2)
    have e1 : kat (y :: R) (k + 1) = kat R k := by simp [kat, List.getD]
    have e2 : tat (t :: L) (k + 1) = tat L k := tat_succ t L k
    rw [e1, e2]
    show fnd (t :: L.take (k + 1)) (y :: R) = fnd (t :: L.take k) (y :: R) ++ _
    unfold fnd
    rw [ih]
    split <;> simp
theorem fnd_len : ∀ (L : List TK) (R : List (Int × Nm)), (fnd L R).length ≤ L.length
  | [], R => by rw [fnd_nil]; exact Nat.le_refl _
  | t :: L, [] => by simp [fnd]
  | t :: L, y :: R => by
    have := fnd_len L R
    unfold fnd
    split <;> simp <;> omega

end Go.Proofs.YtjkjbgekpkhpfaaGreatDoor
