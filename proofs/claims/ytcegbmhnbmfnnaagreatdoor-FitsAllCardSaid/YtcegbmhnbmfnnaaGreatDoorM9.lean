/- Texts laid one behind the other. -/
import Derived.Test.YtcegbmhnbmfnnaaGreatDoorM7
import Derived.Laws.StructEq
import Derived.Lib.SmallJoins

/- Tokens compared; a token in a block. -/
namespace Go.Proofs.YtcegbmhnbmfnnaaGreatDoor
open Go.RowKit

theorem eq_tok (k f t e k' f' t' e' : Int) (s s' : ByteArray) (w : World) :
    (Op.equalIn 10000 33 (.agg #[.int .i64 k, .int .i64 f, .int .i64 t, .string s, .int .i64 e]) (.agg #[.int .i64 k', .int .i64 f', .int .i64 t', .string s', .int .i64 e'])).run Tryz.prog w = .ok ((k == k') && ((f == f') && ((t == t') && ((s.toList == s'.toList) && (e == e'))))) w := by
  have hu : Tryz.prog.underlying 33 = some (.struct (Tryz.prog.fieldsOf 33)) := by
    unfold Program.fieldsOf
    rw [Tryz.underlying33]
  rw [run_equalIn_struct w 9999 33 _ _ hu (by kernel_rfl)]
  unfold Program.fieldsOf
  rw [Tryz.underlying33]
  have p0 : ∀ w (a b c d : Value) (q : ByteArray), (part 3 #[a, b, c, .string q, d] 0).run Tryz.prog w = .ok a w := fun _ _ _ _ _ _ => by kernel_rfl
  have p1 : ∀ w (a b c d : Value) (q : ByteArray), (part 3 #[a, b, c, .string q, d] 1).run Tryz.prog w = .ok b w := fun _ _ _ _ _ _ => by kernel_rfl
  have p2 : ∀ w (a b c d : Value) (q : ByteArray), (part 3 #[a, b, c, .string q, d] 2).run Tryz.prog w = .ok c w := fun _ _ _ _ _ _ => by kernel_rfl
  have p3 : ∀ w (a b c d : Value) (q : ByteArray), (part 9 #[a, b, c, .string q, d] 3).run Tryz.prog w = .ok (.string q) w := fun _ _ _ _ _ _ => by kernel_rfl
  have p4 : ∀ w (a b c d : Value) (q : ByteArray), (part 31 #[a, b, c, .string q, d] 4).run Tryz.prog w = .ok d w := fun _ _ _ _ _ _ => by kernel_rfl
  have e1 : ∀ w (a b : Int), (Op.equalIn 9999 3 (.int .i64 a) (.int .i64 b)).run Tryz.prog w = .ok (a == b) w := fun w a b => run_equalIn_int w 9998 _ _ _ a b Tryz.underlying3
  have e2 : ∀ w (a b : Int), (Op.equalIn 9999 31 (.int .i64 a) (.int .i64 b)).run Tryz.prog w = .ok (a == b) w := fun w a b => run_equalIn_int w 9998 _ _ _ a b Tryz.underlying31
  have e3 : ∀ w (a b : ByteArray), (Op.equalIn 9999 9 (.string a) (.string b)).run Tryz.prog w = .ok (a.toList == b.toList) w := fun w a b => run_equalIn_string w 9998 _ a b Tryz.underlying9
  simp only [Op.eqFields, Sem.run_bind, Sem.run_ite, p0, p1, p2, p3, p4, e1, e2, e3, Result.andThen_ok, Sem.run_pure, ne_eq, String.reduceEq, not_false_eq_true, if_true]
  cases k == k' <;> cases f == f' <;> cases t == t' <;> cases (s.toList == s'.toList) <;> cases e == e' <;> rfl

/-- Block g holds these cells. -/
structure TV (g : Nat) (cs : Array Value) (w : World) : Prop where
  lt : g < w.heap.size
  c : ∀ i, w.cell? ⟨g, i, none⟩ = cs[i]?
  z : ∀ i, w.frozen? ⟨g, i, none⟩ = false

theorem tv_new (w : World) (cs : Array Value) (e : TypeId) : TV w.heap.size cs (w.alloc (.cells cs e)) := ⟨by simp, fun i => cell_of_row _ _ _ _ _ _ (heap_alloc_new w _), fun i => frozen_of_row _ _ _ _ _ (heap_alloc_new w _)⟩
theorem TV.keep {g : Nat} {cs : Array Value} {w w' : World} (h : TV g cs w) (hb : Below w.heap.size w w') : TV g cs w' :=
  ⟨Nat.lt_of_lt_of_le h.lt hb.size, fun i => (hb.cell (p := ⟨g, i, none⟩) h.lt).trans (h.c i), fun i => (hb.frozen (p := ⟨g, i, none⟩) h.lt).trans (h.z i)⟩
theorem TV.keepB {g B : Nat} {cs : Array Value} {w w' : World} (h : TV g cs w) (hB : g < B) (hb : Below B w w') : TV g cs w' :=
  ⟨Nat.lt_of_lt_of_le h.lt hb.size, fun i => (hb.cell (p := ⟨g, i, none⟩) hB).trans (h.c i), fun i => (hb.frozen (p := ⟨g, i, none⟩) hB).trans (h.z i)⟩
theorem past_alloc {w w' : World} {o : Obj} (h : Below (w.alloc o).heap.size (w.alloc o) w') : Below w.heap.size w w' := ((Below.refl _ w).alloc (Nat.le_refl _) _).trans (h.mono (by simp))


end Go.Proofs.YtcegbmhnbmfnnaaGreatDoor

/- Next at any place, with its answer's parts by name. -/
namespace Go.Proofs.YtcegbmhnbmfnnaaGreatDoor
open Go.RowKit

def xk : Option (Nat × TR) → Int | none => 0 | some (_, t) => t.k
def xf : Option (Nat × TR) → Nat | none => 0 | some (f, _) => f
def xt : Option (Nat × TR) → Nat | none => 0 | some (f, t) => f + t.n
def xs : Option (Nat × TR) → List Int | none => [] | some (_, t) => t.t
def xe : Option (Nat × TR) → Int | none => 0 | some (_, t) => t.e
theorem nxV_form (x : Option (Nat × TR)) : nxV x = .tuple #[.agg #[.int .i64 (xk x), .int .i64 (xf x), .int .i64 (xt x), .string (bstr (xs x)), .int .i64 (xe x)], .bool x.isSome] := by
  cases x <;> rfl

theorem nxV_none : nxV none = .tuple #[.agg #[.int .i64 0, .int .i64 0, .int .i64 0, .string ⟨#[]⟩, .int .i64 0], .bool false] := rfl
theorem nxV_some (f : Nat) (t : TR) : nxV (some (f, t)) = .tuple #[.agg #[.int .i64 t.k, .int .i64 f, .int .i64 (f + t.n : Nat), .string (bstr t.t), .int .i64 t.e], .bool true] := rfl

theorem next_int (a : Option Addr) (len cap : Nat) (l : List Int) (k : Int) (w : World) (h : Bs w a len cap l) (ht : Tab w) (hsz : len ≤ 1000000) :
    Calls Tryz.prog 65 #[.slice a len cap, .int .i64 k] w fun r w' => r = .returned (nxV (nxI l k)) ∧ Below w.heap.size w w' := by
  unfold nxI
  rw [h.hl]
  by_cases hk : 0 ≤ k ∧ k ≤ (len : Int)
  · rw [if_pos hk]
    obtain ⟨n, rfl⟩ := Int.eq_ofNat_of_zero_le hk.1
    exact next_any a len cap l n w h ht hsz (by omega)
  · rw [if_neg hk]
    exact next_out a len cap k w hsz (by omega)

/-- A token that there is: where it begins, and what it is like. -/
theorem nx_good {l : List Int} {k f : Nat} {t : TR} (hk : k ≤ l.length) (hr : ∀ x ∈ l, 0 ≤ x ∧ x ≤ 255) (h : nx l k = some (f, t)) :
    f = k + (sk (l.drop k)).1 ∧ f < l.length ∧ TG (l.drop f) t := by
  obtain ⟨n, z, hs, hn, hz⟩ := sk_ways l k hk
  by_cases h0 : z = 0
  · subst h0
    by_cases he : k + n = l.length
    · rw [nx_none hs he] at h; cases h
    · rw [nx_some hs he] at h
      simp only [Option.some.injEq, Prod.mk.injEq] at h
      obtain ⟨rfl, rfl⟩ := h
      exact ⟨by rw [hs], by omega, firstT_good (by rw [List.length_drop]; omega) fun x hx => hr x (List.drop_subset _ _ hx)⟩
  · have h1 := hz h0
    rw [nx_err hs h0] at h
    simp only [Option.some.injEq, Prod.mk.injEq] at h
    obtain ⟨rfl, rfl⟩ := h
    refine ⟨by rw [hs], h1.1, ⟨by show 1 ≤ l.length - (k + n); omega, by show l.length - (k + n) ≤ _; rw [List.length_drop]; omega, by simp, by simp, ?_, fun _ => rfl, fun hh => absurd rfl hh⟩⟩
    simpa using h0

/-- Where there is no token all is layout. -/
theorem nx_gone {l : List Int} {k : Nat} (hk : k ≤ l.length) (h : nx l k = none) : sk (l.drop k) = (l.length - k, 0) := by
  obtain ⟨n, z, hs, hn, hz⟩ := sk_ways l k hk
  by_cases h0 : z = 0
  · subst h0
    by_cases he : k + n = l.length
    · rw [hs, ← he, Nat.add_sub_cancel_left]
    · rw [nx_some hs he] at h; cases h
  · rw [nx_err hs h0] at h; cases h

theorem nxI_nat {l : List Int} {k : Nat} (hk : k ≤ l.length) : nxI l (k : Int) = nx l k := by
  unfold nxI
  rw [if_pos (by omega)]
  rfl

theorem and127 (a : Int) : ∃ X : Nat, bits .and .i64 a 127 = X ∧ X ≤ 127 := by
  have h : (BitVec.ofInt 64 a &&& BitVec.ofInt 64 127).toNat ≤ 127 := by
    rw [BitVec.toNat_and]
    exact Nat.and_le_right
  refine ⟨(BitVec.ofInt 64 a &&& BitVec.ofInt 64 127).toNat, ?_, h⟩
  show IntKind.i64.wrap ((BitVec.ofInt 64 a &&& BitVec.ofInt 64 127).toNat : Int) = _
  exact IntWalk.i64_in _ (by omega)

end Go.Proofs.YtcegbmhnbmfnnaaGreatDoor

/- How far the first token goes: what stands at its beginning, and behind it. No walk here. -/
namespace Go.Proofs.YtcegbmhnbmfnnaaGreatDoor
open Go.RowKit

theorem nmL_end (l : List Int) : nmB (l.drop (nmL l)) = false := by
  induction hn : l.length using Nat.strongRecOn generalizing l with
  | _ n ih =>
    cases hb : nmB l with
    | false => rw [nmL_no hb, List.drop_zero]; exact hb
    | true =>
      have h1 := takeN_pos (nmB_ok hb).2
      have h2 : 0 < l.length := List.length_pos_iff.2 (nmB_ok hb).2
      have := ih (l.drop (takeN l)).length (by rw [List.length_drop]; omega) _ rfl
      rw [List.drop_drop] at this
      rw [nmL_yes hb]
      exact this

theorem nmL_stop {l : List Int} (hr : ∀ x ∈ l, 0 ≤ x ∧ x ≤ 255) (h : nmL l < l.length) : nameB (bt l (nmL l)) = false := by
  cases hb : nameB (bt l (nmL l)) with
  | false => rfl
  | true =>
    have h1 := nmB_name (l := l.drop (nmL l)) (fun hn => by have := List.drop_eq_nil_iff.1 hn; omega) (fun x hx => hr x (List.drop_subset _ _ hx)) (by rw [bt_drop, Nat.add_zero]; exact hb)
    rw [nmL_end] at h1
    exact absurd h1.1 (by simp)

theorem runL_stop {n : Int} {l : List Int} (h : runL n l < l.length) : cls (bt l (runL n l)) ≠ n := by
  have h1 := runL_again n l
  have h2 := (runL_zero (n := n) (l := l.drop (runL n l)) (by rw [List.length_drop]; omega)).1 h1
  rwa [bt_drop, Nat.add_zero] at h2

structure TRn (l : List Int) (t : TR) : Prop where
  k1 : t.k = 1 → (cls (bt l 0) = 2 ∨ cls (bt l 0) = 9) ∧ (t.n < l.length → nameB (bt l t.n) = false)
  k3 : t.k = 3 → cls (bt l 0) = 3 ∧ (t.n < l.length → nameB (bt l t.n) = false)
  k4 : t.k = 4 → cls (bt l 0) = 4 ∧ (t.n < l.length → cls (bt l t.n) ≠ 4)
  k2 : t.k = 2 → cls (bt l 0) = 5 ∧ (t.n < l.length → cls (bt l t.n) ≠ 5) ∧ (t.t = [46] → t.n < l.length ∧ cls (bt l t.n) ≠ 1 ∧ cls (bt l t.n) ≠ 8)
  k7 : t.k = 7 → t.t = [46] ∧ (t.n < l.length → cls (bt l t.n) = 1 ∨ cls (bt l t.n) = 8)
  k6 : t.k = 6 → cls (bt l 0) = 6 ∧ t.n = 1
  k5 : t.k = 5 → cls (bt l 0) = 7 ∧ bt l (t.n - 1) = 39 ∧ 2 ≤ t.n

theorem trn_bad {l : List Int} {t : TR} (h : t.k = 8) : TRn l t := by
  constructor <;> intro h' <;> omega

theorem firstT_runs {l : List Int} (h0 : 0 < l.length) (hr : ∀ x ∈ l, 0 ≤ x ∧ x ≤ 255) : TRn l (firstT l) := by
  have hb := bt_rng hr 0
  have hc := cls_rng hb.1 hb.2
  have hne : l ≠ [] := by intro hn; subst hn; simp at h0
  obtain hk | hk | hk | hk | hk | hk | hk | hk : cls (bt l 0) = 2 ∨ cls (bt l 0) = 3 ∨ cls (bt l 0) = 9 ∨ cls (bt l 0) = 5 ∨ cls (bt l 0) = 4 ∨ cls (bt l 0) = 7 ∨ cls (bt l 0) = 6 ∨ (cls (bt l 0) = 0 ∨ cls (bt l 0) = 1 ∨ cls (bt l 0) = 8) := by omega
  · rw [firstT2 hk]
    constructor <;> intro h' <;> simp only [nameT] at h' ⊢
    · exact ⟨Or.inl hk, nmL_stop hr⟩
    all_goals omega
  · rw [firstT3 hk]
    constructor <;> intro h' <;> simp only [nameT] at h' ⊢
    · omega
    · exact ⟨hk, nmL_stop hr⟩
    all_goals omega
  · rw [firstT9 hk]
    unfold highT
    split
    · exact trn_bad rfl
    · constructor <;> intro h' <;> simp only [nameT] at h' ⊢
      · exact ⟨Or.inr hk, nmL_stop hr⟩
      all_goals omega
  · rw [firstT5 hk]
    have hp := runL_pos h0 hk
    have hl := runL_le 5 l
    cases he : endT l with
    | true =>
      constructor <;> intro h' <;> simp only [symT, he, if_true] at h' ⊢
      case k7 =>
        unfold endT at he
        simp only [Bool.and_eq_true, Bool.or_eq_true, decide_eq_true_eq] at he
        refine ⟨(take_dot hp hl).2 ⟨he.1, he.2.1⟩, fun hlt => ?_⟩
        rw [he.1] at hlt ⊢
        omega
      all_goals omega
    | false =>
      constructor <;> intro h' <;> simp only [symT, he, Bool.false_eq_true, if_false] at h' ⊢
      case k2 =>
        refine ⟨hk, runL_stop, fun ht => ?_⟩
        obtain ⟨e1, e2⟩ := (take_dot hp hl).1 ht
        have hE : ¬ (l.length = 1 ∨ cls (bt l 1) = 1 ∨ cls (bt l 1) = 8) := by
          intro hh
          have : endT l = true := by
            unfold endT
            simp only [Bool.and_eq_true, Bool.or_eq_true, decide_eq_true_eq]
            exact ⟨e1, e2, hh⟩
          rw [he] at this; cases this
        rw [e1]
        refine ⟨by omega, fun hh => hE (Or.inr (Or.inl hh)), fun hh => hE (Or.inr (Or.inr hh))⟩
      all_goals omega
  · rw [firstT4 hk]
    unfold numT
    split
    · constructor <;> intro h' <;> simp only at h' ⊢
      case k4 => exact ⟨hk, runL_stop⟩
      all_goals omega
    · exact trn_bad rfl
  · rw [firstT7 hk]
    unfold quoT
    split
    · rename_i he
      constructor <;> intro h' <;> simp only at h' ⊢
      case k5 => have := tk_ok he; exact ⟨hk, this.2, this.1⟩
      all_goals omega
    · exact trn_bad rfl
  · rw [firstT6 hk]
    constructor <;> intro h' <;> simp only at h' ⊢
    case k6 => exact ⟨hk, trivial⟩
    all_goals omega
  · rw [firstT0 hk]
    exact trn_bad rfl

theorem nx_runs {l : List Int} {k f : Nat} {t : TR} (hk : k ≤ l.length) (hr : ∀ x ∈ l, 0 ≤ x ∧ x ≤ 255) (h : nx l k = some (f, t)) : TRn (l.drop f) t := by
  obtain ⟨n, z, hs, hn, hz⟩ := sk_ways l k hk
  by_cases h0 : z = 0
  · subst h0
    by_cases he : k + n = l.length
    · rw [nx_none hs he] at h; cases h
    · rw [nx_some hs he] at h
      simp only [Option.some.injEq, Prod.mk.injEq] at h
      obtain ⟨rfl, rfl⟩ := h
      exact firstT_runs (by rw [List.length_drop]; omega) fun x hx => hr x (List.drop_subset _ _ hx)
  · rw [nx_err hs h0] at h
    simp only [Option.some.injEq, Prod.mk.injEq] at h
    obtain ⟨rfl, rfl⟩ := h
    exact trn_bad rfl

end Go.Proofs.YtcegbmhnbmfnnaaGreatDoor

/- What stands ahead only moves the token. No walk here. -/
namespace Go.Proofs.YtcegbmhnbmfnnaaGreatDoor
open Go.RowKit

/-- What stands ahead only moves the token. -/
theorem nx_app (X Y : List Int) : nx (X ++ Y) X.length = (nx Y 0).map fun p => (X.length + p.1, p.2) := by
  have hd : (X ++ Y).drop X.length = Y := by simp
  obtain ⟨n, z, hs, hn, hz⟩ := sk_ways Y 0 (Nat.zero_le _)
  have hs0 := hs
  rw [List.drop_zero] at hs
  rw [Nat.zero_add] at hn hz
  have hs' : sk ((X ++ Y).drop X.length) = (n, z) := by rw [hd]; exact hs
  have hd2 : (X ++ Y).drop (X.length + n) = Y.drop (0 + n) := by rw [Nat.zero_add, ← List.drop_drop, hd]
  by_cases h0 : z = 0
  · subst h0
    by_cases he : n = Y.length
    · rw [nx_none hs' (by rw [List.length_append, he]), nx_none hs0 (by rw [Nat.zero_add, he])]; rfl
    · rw [nx_some hs' (by rw [List.length_append]; omega), nx_some hs0 (by rw [Nat.zero_add]; exact he), hd2]
      simp
  · rw [nx_err hs' h0, nx_err hs0 h0, List.length_append]
    simp
    omega

end Go.Proofs.YtcegbmhnbmfnnaaGreatDoor

/- Names, digits, runs of symbols and brackets alone: each is one token. And a string turned to bytes. No walk here. -/
namespace Go.Proofs.YtcegbmhnbmfnnaaGreatDoor
open Go.RowKit

def sgn (k : Nat) : Int := ([43, 45, 42, 92, 94, 60, 62, 61, 126, 63, 64, 35, 38, 36, 33] : List Int).getD k 43
def slo (k : Nat) : Int := ([40, 41, 44, 124, 59, 91, 93, 123, 125] : List Int).getD k 40

/-- A byte that one of the five kinds of rows is made of. -/
def okB (q : Nat) (c : Int) : Bool :=
  if q = 0 then decide (97 ≤ c ∧ c ≤ 122) else if q = 1 then decide (65 ≤ c ∧ c ≤ 90) else if q = 2 then decide (48 ≤ c ∧ c ≤ 57)
  else if q = 3 then (cls c == 5 && (c != 46 && (c != 47 && decide (c < 128)))) else (cls c == 6 && decide (c < 128))

theorem okB_any : ∀ n : Nat, n < 256 → ∀ q : Nat, q < 5 → okB q n = true → cls n ≠ 1 ∧ n ≠ 37 ∧ n ≠ 47 := by decide +kernel
theorem okB_0 : ∀ n : Nat, n < 256 → okB 0 n = true → cls n = 2 := by decide +kernel
theorem okB_1 : ∀ n : Nat, n < 256 → okB 1 n = true → cls n = 3 := by decide +kernel
theorem okB_2 : ∀ n : Nat, n < 256 → okB 2 n = true → cls n = 4 := by decide +kernel
theorem okB_3 : ∀ n : Nat, n < 256 → okB 3 n = true → cls n = 5 ∧ n ≠ 46 := by decide +kernel
theorem okB_4 : ∀ n : Nat, n < 256 → okB 4 n = true → cls n = 6 := by decide +kernel
theorem okB_cls {q : Nat} {c : Int} (h0 : 0 ≤ c) (h1 : c ≤ 255) (hq : q < 5) (h : okB q c = true) :
    (cls c ≠ 1 ∧ c ≠ 37 ∧ c ≠ 47 ∧ (q = 0 → cls c = 2) ∧ (q = 1 → cls c = 3) ∧ (q = 2 → cls c = 4) ∧ (q = 3 → cls c = 5 ∧ c ≠ 46) ∧ (q = 4 → cls c = 6)) := by
  obtain ⟨n, rfl⟩ := Int.eq_ofNat_of_zero_le h0
  have a := okB_any n (by omega) q hq h
  refine ⟨a.1, by omega, by omega, ?_, ?_, ?_, ?_, ?_⟩
  · rintro rfl; exact okB_0 n (by omega) h
  · rintro rfl; exact okB_1 n (by omega) h
  · rintro rfl; exact okB_2 n (by omega) h
  · rintro rfl; have := okB_3 n (by omega) h; exact ⟨this.1, by omega⟩
  · rintro rfl; exact okB_4 n (by omega) h

theorem sgn_ok : ∀ k, k < 15 → okB 3 (sgn k) = true ∧ 0 ≤ sgn k ∧ sgn k ≤ 255 := by decide +kernel
theorem slo_ok : ∀ k, k < 9 → okB 4 (slo k) = true ∧ 0 ≤ slo k ∧ slo k ≤ 255 := by decide +kernel

def allB (q : Nat) (s : List Int) : Prop := ∀ x ∈ s, (0 ≤ x ∧ x ≤ 255) ∧ okB q x = true

theorem runL_all (n : Int) : ∀ (s t : List Int), (∀ x ∈ s, cls x = n) → runL n t = 0 → runL n (s ++ t) = s.length
  | [], t, _, h => h
  | c :: r, t, h, ht => by
    rw [List.cons_append, runL, if_pos (h c (by simp)), runL_all n r t (fun x hx => h x (by simp [hx])) ht, List.length_cons]; omega

theorem nmL_all : ∀ (s t : List Int), (∀ x ∈ s, (0 ≤ x ∧ x ≤ 255) ∧ nameB x = true) → (∀ x ∈ t, 0 ≤ x ∧ x ≤ 255) → nmB t = false → nmL (s ++ t) = s.length
  | [], t, _, _, h => nmL_no h
  | c :: r, t, h, hr, ht => by
    have h1 := nmB_name (l := c :: (r ++ t)) (by simp) (by
      intro x hx
      simp only [List.mem_cons, List.mem_append] at hx
      rcases hx with rfl | hx | hx
      · exact (h x (by simp)).1
      · exact (h x (by simp [hx])).1
      · exact hr x hx) (h c (by simp)).2
    rw [List.cons_append, nmL_yes h1.1, h1.2, List.drop_succ_cons, List.drop_zero, nmL_all r t (fun x hx => h x (by simp [hx])) hr ht, List.length_cons]
    omega

theorem numL_lt : ∀ (s : List Int) (a : Int), 0 ≤ a → digs s → s.foldl (fun n c => n * 10 + (c - 48)) a < (a + 1) * 10 ^ s.length
  | [], a, _, _ => by simp; omega
  | c :: r, a, ha, h => by
    have hc := h c (by simp)
    have := numL_lt r (a * 10 + (c - 48)) (by omega) (fun x hx => h x (by simp [hx]))
    rw [List.foldl_cons, List.length_cons, Int.pow_succ]
    refine Int.lt_of_lt_of_le this ?_
    rw [show (a + 1) * (10 ^ r.length * 10) = ((a + 1) * 10) * 10 ^ r.length from by rw [Int.mul_comm (10 ^ r.length) 10, Int.mul_assoc]]
    refine Int.mul_le_mul_of_nonneg_right (by omega) (by exact_mod_cast Nat.zero_le _)

theorem pow_le9 (n : Nat) (h : n ≤ 9) : (10 : Int) ^ n ≤ 1000000000 := by
  obtain rfl | rfl | rfl | rfl | rfl | rfl | rfl | rfl | rfl | rfl : n = 0 ∨ n = 1 ∨ n = 2 ∨ n = 3 ∨ n = 4 ∨ n = 5 ∨ n = 6 ∨ n = 7 ∨ n = 8 ∨ n = 9 := by omega
  all_goals decide

def kdOf (q : Nat) : Int := ([1, 3, 4, 2, 6] : List Int).getD q 0

/-- What a row of one kind begins with. -/
theorem firstT_alone (q : Nat) (hq : q < 5) (s t : List Int) (h : allB q s) (h0 : 0 < s.length) (h9 : s.length ≤ 9) (h4 : q = 4 → s.length = 1) (ht : t = [] ∨ t = [32]) :
    firstT (s ++ t) = ⟨kdOf q, s.length, s, 0⟩ := by
  cases s with
  | nil => simp at h0
  | cons c r =>
    have hc := h c (by simp)
    have hcl := okB_cls hc.1.1 hc.1.2 hq hc.2
    have hb : bt (c :: r ++ t) 0 = c := rfl
    have htr : ∀ x ∈ t, 0 ≤ x ∧ x ≤ 255 := by rcases ht with rfl | rfl <;> simp
    have htn : nmB t = false := by rcases ht with rfl | rfl <;> decide
    have htake : (c :: r ++ t).take (c :: r).length = c :: r := List.take_left
    have hrun : ∀ n, n ≠ 1 → (∀ x ∈ c :: r, cls x = n) → runL n (c :: r ++ t) = (c :: r).length := fun n hn hx => runL_all n _ _ hx (by
      rcases ht with rfl | rfl
      · rfl
      · have : cls 32 = 1 := by decide
        simp only [runL, this]
        rw [if_neg (fun hh => hn hh.symm)])
    obtain rfl | rfl | rfl | rfl | rfl : q = 0 ∨ q = 1 ∨ q = 2 ∨ q = 3 ∨ q = 4 := by omega
    · have hn := nmL_all (c :: r) t (fun x hx => ⟨(h x hx).1, nameB_of (Or.inl ((okB_cls (h x hx).1.1 (h x hx).1.2 hq (h x hx).2).2.2.2.1 rfl))⟩) htr htn
      rw [firstT2 (by rw [hb]; exact hcl.2.2.2.1 rfl), nameT, hn, htake]; rfl
    · have hn := nmL_all (c :: r) t (fun x hx => ⟨(h x hx).1, nameB_of (Or.inr (Or.inl ((okB_cls (h x hx).1.1 (h x hx).1.2 hq (h x hx).2).2.2.2.2.1 rfl)))⟩) htr htn
      rw [firstT3 (by rw [hb]; exact hcl.2.2.2.2.1 rfl), nameT, hn, htake]; rfl
    · have hn := hrun 4 (by decide) (fun x hx => (okB_cls (h x hx).1.1 (h x hx).1.2 hq (h x hx).2).2.2.2.2.2.1 rfl)
      have hd : digs (c :: r) := fun x hx => (dig_cls (h x hx).1.1 (h x hx).1.2).1 ((okB_cls (h x hx).1.1 (h x hx).1.2 hq (h x hx).2).2.2.2.2.2.1 rfl)
      have hlt := numL_lt (c :: r) 0 (Int.le_refl _) hd
      have hp := pow_le9 _ h9
      have hbig : dkBig (c :: r ++ t) = false := by
        unfold dkBig
        rw [hn, htake]
        have : numL (c :: r) < (0 + 1) * 10 ^ (c :: r).length := hlt
        exact decide_eq_false (by omega)
      rw [firstT4 (by rw [hb]; exact hcl.2.2.2.2.2.1 rfl), numT, dkE, hn, hbig, dkK, hn, htake]
      simp [kdOf]
    · have hn := hrun 5 (by decide) (fun x hx => ((okB_cls (h x hx).1.1 (h x hx).1.2 hq (h x hx).2).2.2.2.2.2.2.1 rfl).1)
      have he : endT (c :: r ++ t) = false := endT_no (fun hx => (hcl.2.2.2.2.2.2.1 rfl).2 hx.2)
      rw [firstT5 (by rw [hb]; exact (hcl.2.2.2.2.2.2.1 rfl).1), symT, he, hn, htake]; rfl
    · have hr : r = [] := by
        have := h4 rfl
        rw [List.length_cons] at this
        exact List.eq_nil_of_length_eq_zero (by omega)
      subst hr
      rw [firstT6 (by rw [hb]; exact hcl.2.2.2.2.2.2.2 rfl)]
      rfl

theorem sk_alone (q : Nat) (hq : q < 5) (s t : List Int) (h : allB q s) (h0 : 0 < s.length) : sk (s ++ t) = (0, 0) := by
  cases s with
  | nil => simp at h0
  | cons c r =>
    have hc := h c (by simp)
    have hcl := okB_cls hc.1.1 hc.1.2 hq hc.2
    have := skAt_else (l := c :: r ++ t) (k := 0) (by simp) (by exact hcl.1) (by exact hcl.2.1) (by
      rw [List.drop_zero]
      cases hp : pre2 47 42 (c :: r ++ t) with
      | false => rfl
      | true =>
        have h3 := (pre2_iff.1 hp).2.1
        exact absurd h3 hcl.2.2.1)
    rwa [skAt_zero] at this

theorem nx_bare (q : Nat) (hq : q < 5) (s : List Int) (h : allB q s) (h0 : 0 < s.length) (h9 : s.length ≤ 9) (h4 : q = 4 → s.length = 1) : nx s 0 = some (0, ⟨kdOf q, s.length, s, 0⟩) := by
  have h1 := sk_alone q hq s [] h h0
  have h2 := firstT_alone q hq s [] h h0 h9 h4 (Or.inl rfl)
  rw [List.append_nil] at h1 h2
  rw [nx_some (n := 0) (by rw [List.drop_zero]; exact h1) (by omega)]
  simp only [Nat.add_zero, List.drop_zero]
  rw [h2]

theorem nx_blank (q : Nat) (hq : q < 5) (s : List Int) (h : allB q s) (h0 : 0 < s.length) (h9 : s.length ≤ 9) (h4 : q = 4 → s.length = 1) : nx (32 :: (s ++ [32])) 0 = some (1, ⟨kdOf q, s.length, s, 0⟩) := by
  have h1 := sk_alone q hq s [32] h h0
  have h2 := firstT_alone q hq s [32] h h0 h9 h4 (Or.inr rfl)
  have hs : sk ((32 :: (s ++ [32])).drop 0) = (1, 0) := by
    have := skAt_one (l := 32 :: (s ++ [32])) (k := 0) (by simp) (by show cls 32 = 1; decide)
    rw [skAt_zero] at this
    rw [List.drop_zero, this, skAt, List.drop_succ_cons, List.drop_zero, h1]; rfl
  rw [nx_some hs (by simp)]
  simp only [Nat.zero_add, List.drop_succ_cons, List.drop_zero]
  rw [h2]

theorem bstr_size (l : List Int) : (bstr l).size = l.length := by simp [bstr, ByteArray.size]
theorem bstr_append (l k : List Int) : bstr l ++ bstr k = bstr (l ++ k) := by
  apply ByteArray.ext
  simp [bstr]
theorem bstr_blank (l : List Int) : ({ data := #[32] } : ByteArray) ++ bstr l ++ { data := #[32] } = bstr (32 :: (l ++ [32])) := by
  apply ByteArray.ext
  simp [bstr]

/-- []byte(s). -/
theorem conv_str (w : World) (s : ByteArray) (l : List Int) (hs : s = bstr l) (hr : ∀ x ∈ l, 0 ≤ x ∧ x ≤ 255) (hl : l.length ≤ 1000000) :
    ∃ g C W', (convert 9 94 (.string s)).run Tryz.prog w = .ok (.slice (some ⟨g, 0, none⟩) l.length C) W' ∧ Bs W' (some ⟨g, 0, none⟩) l.length C l ∧ Below w.heap.size w W' := by
  have h := run_bytes_of_string (P := Tryz.prog) w 9 94 5 s Tryz.underlying9 Tryz.underlying94 Tryz.underlying5
  have hz : s.size = l.length := by rw [hs, bstr_size]
  have hc1 := grownCap_ge w s.size 0 5
  have hc2 := grownCap_le_maxLen w s.size 0 5 (by unfold maxLen; omega)
  rw [hz] at hc1 hc2 h
  refine ⟨_, _, _, h, ⟨rfl, hc1, hc2, hr, fun h0 => ⟨_, 0, rfl, by simp, fun j hj => ?_⟩⟩, ((Below.refl _ _).drew).alloc (Nat.le_refl _) _⟩
  have hn := cell_of_row (w.drew.alloc (.cells (bytesRow s (grownCap w l.length 0 5)) 5 ((bytesRow s (grownCap w l.length 0 5)).size, (bytesRow s (grownCap w l.length 0 5)).size + 1))) w.heap.size (0 + j) _ 5 _ (heap_alloc_new w.drew _)
  rw [hn]
  rw [bytesRow_at s _ (0 + j) (show 0 + j < s.size from by omega)]
  subst hs
  simp only [Nat.zero_add, bstr, List.getElem_toArray, List.getElem_map]
  rw [u8_back (hr _ (List.getElem_mem hj))]
  simp [bt, List.getD, hj]

end Go.Proofs.YtcegbmhnbmfnnaaGreatDoor
