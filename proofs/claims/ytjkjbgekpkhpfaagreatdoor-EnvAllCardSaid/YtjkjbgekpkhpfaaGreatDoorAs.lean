/- Operators and entries compared. -/
import Derived.Test.YtjkjbgekpkhpfaaGreatDoorAe
import Derived.Laws.StructEq
namespace Go.Proofs.YtjkjbgekpkhpfaaGreatDoor
open Go.RowKit

theorem eq_oper (n : Nat) (s s' : ByteArray) (g g' a a' : Int) (w : World) :
    (Op.equalIn (n + 2) 28 (.agg #[.string s, .int .i64 g, .int .i64 a]) (.agg #[.string s', .int .i64 g', .int .i64 a'])).run Tryz.prog w = .ok ((s.toList == s'.toList) && ((g == g') && (a == a'))) w := by
  have hu : Tryz.prog.underlying 28 = some (.struct (Tryz.prog.fieldsOf 28)) := by
    unfold Program.fieldsOf
    rw [Tryz.underlying28]
  rw [run_equalIn_struct w (n + 1) 28 _ _ hu (by kernel_rfl)]
  unfold Program.fieldsOf
  rw [Tryz.underlying28]
  have p0 : ∀ w (b c : Value) (q : ByteArray), (part 9 #[.string q, b, c] 0).run Tryz.prog w = .ok (.string q) w := fun _ _ _ _ => by kernel_rfl
  have p1 : ∀ w (b c : Value) (q : ByteArray), (part 3 #[.string q, b, c] 1).run Tryz.prog w = .ok b w := fun _ _ _ _ => by kernel_rfl
  have p2 : ∀ w (b c : Value) (q : ByteArray), (part 3 #[.string q, b, c] 2).run Tryz.prog w = .ok c w := fun _ _ _ _ => by kernel_rfl
  have e1 : ∀ w (a b : Int), (Op.equalIn (n + 1) 3 (.int .i64 a) (.int .i64 b)).run Tryz.prog w = .ok (a == b) w := fun w a b => run_equalIn_int w n _ _ _ a b Tryz.underlying3
  have e3 : ∀ w (a b : ByteArray), (Op.equalIn (n + 1) 9 (.string a) (.string b)).run Tryz.prog w = .ok (a.toList == b.toList) w := fun w a b => run_equalIn_string w n _ a b Tryz.underlying9
  simp only [Op.eqFields, Sem.run_bind, Sem.run_ite, p0, p1, p2, e1, e3, Result.andThen_ok, Sem.run_pure, ne_eq, String.reduceEq, not_false_eq_true, if_true]
  cases (s.toList == s'.toList) <;> cases g == g' <;> cases a == a' <;> rfl
/-- Two operators compared. -/
theorem eq_op (n : Nat) (o o' : OP) (w : World) :
    (Op.equalIn (n + 2) 28 (.agg #[.string (mk o.1), .int .i64 o.2.1, .int .i64 o.2.2]) (.agg #[.string (mk o'.1), .int .i64 o'.2.1, .int .i64 o'.2.2])).run Tryz.prog w = .ok (decide (o = o')) w := by
  rw [eq_oper, mk_toList, mk_toList]
  congr 1
  obtain ⟨p, g, a⟩ := o
  obtain ⟨p', g', a'⟩ := o'
  rw [Bool.eq_iff_iff, decide_eq_true_eq]
  simp [Prod.ext_iff]
theorem eq_en (x y : EN) (w : World) :
    (Op.equalIn 10000 58 (.agg #[.string (mk x.1.1), .int .i64 x.1.2.1, .int .i64 x.1.2.2, .int .i64 x.2]) (.agg #[.string (mk y.1.1), .int .i64 y.1.2.1, .int .i64 y.1.2.2, .int .i64 y.2])).run Tryz.prog w = .ok (decide (x = y)) w := by
  have hu : Tryz.prog.underlying 58 = some (.struct (Tryz.prog.fieldsOf 58)) := by
    unfold Program.fieldsOf
    rw [Tryz.underlying58]
  rw [run_equalIn_struct w 9999 58 _ _ hu (by kernel_rfl)]
  unfold Program.fieldsOf
  rw [Tryz.underlying58]
  have p0 : ∀ w (b c d : Value) (q : ByteArray), (part 28 #[.string q, b, c, d] 0).run Tryz.prog w = .ok (.agg #[.string q, b, c]) w := fun _ _ _ _ _ => by kernel_rfl
  have p1 : ∀ w (b c : Value) (d : Int) (q : ByteArray), (part 3 #[.string q, b, c, .int .i64 d] 3).run Tryz.prog w = .ok (.int .i64 d) w := fun _ _ _ _ _ => by kernel_rfl
  have e1 : ∀ w (a b : Int), (Op.equalIn 9999 3 (.int .i64 a) (.int .i64 b)).run Tryz.prog w = .ok (a == b) w := fun w a b => run_equalIn_int w 9998 _ _ _ a b Tryz.underlying3
  have e0 := fun w => eq_op 9997 x.1 y.1 w
  simp only [Op.eqFields, Sem.run_bind, Sem.run_ite, p0, p1, e0, e1, Result.andThen_ok, Sem.run_pure, ne_eq, String.reduceEq, not_false_eq_true, if_true]
  obtain ⟨o, r⟩ := x
  obtain ⟨o', r'⟩ := y
  dsimp only
  by_cases h1 : o = o'
  · subst h1
    by_cases h2 : r = r'
    · subst h2; simp
    · have h3 : ¬ ((o, r) = (o, r')) := fun e => h2 (by simpa using e)
      simp [h2]
  · simp [h1]

theorem en_ext {A B : List EN} {n : Nat} (hA : A.length = n) (hB : B.length = n) (h : ∀ j, j < n → enA A j = enA B j) : A = B := by
  apply List.ext_getElem (by omega)
  intro j h1 h2
  rw [← enA_eq h1, ← enA_eq h2]
  exact h j (by omega)

end Go.Proofs.YtjkjbgekpkhpfaaGreatDoor
