/- Texts laid one behind the other. -/
import Derived.Test.YtcpmpidpoelleaaDoorMK
import Derived.Laws.StructEq
import Derived.Test.YtcpmpidpoelleaaDoorMG
import Derived.DeepKeys
import Derived.Deep.DeepCutAuto

/- Operators and entries compared. -/
namespace Go.Proofs.YtcpmpidpoelleaaDoor
open Go.RowKit

theorem eq_oper (n : Nat) (s s' : ByteArray) (g g' a a' : Int) (w : World) :
    (Op.equalIn (n + 2) 33 (.agg #[.string s, .int .i64 g, .int .i64 a]) (.agg #[.string s', .int .i64 g', .int .i64 a'])).run Tryd.prog w = .ok ((s.toList == s'.toList) && ((g == g') && (a == a'))) w := by
  have hu : Tryd.prog.underlying 33 = some (.struct (Tryd.prog.fieldsOf 33)) := by
    unfold Program.fieldsOf
    rw [Tryd.underlying33]
  rw [run_equalIn_struct w (n + 1) 33 _ _ hu (by kernel_rfl)]
  unfold Program.fieldsOf
  rw [Tryd.underlying33]
  have p0 : ∀ w (b c : Value) (q : ByteArray), (part 9 #[.string q, b, c] 0).run Tryd.prog w = .ok (.string q) w := fun _ _ _ _ => by kernel_rfl
  have p1 : ∀ w (b c : Value) (q : ByteArray), (part 3 #[.string q, b, c] 1).run Tryd.prog w = .ok b w := fun _ _ _ _ => by kernel_rfl
  have p2 : ∀ w (b c : Value) (q : ByteArray), (part 3 #[.string q, b, c] 2).run Tryd.prog w = .ok c w := fun _ _ _ _ => by kernel_rfl
  have e1 : ∀ w (a b : Int), (Op.equalIn (n + 1) 3 (.int .i64 a) (.int .i64 b)).run Tryd.prog w = .ok (a == b) w := fun w a b => run_equalIn_int w n _ _ _ a b Tryd.underlying3
  have e3 : ∀ w (a b : ByteArray), (Op.equalIn (n + 1) 9 (.string a) (.string b)).run Tryd.prog w = .ok (a.toList == b.toList) w := fun w a b => run_equalIn_string w n _ a b Tryd.underlying9
  simp only [Op.eqFields, Sem.run_bind, Sem.run_ite, p0, p1, p2, e1, e3, Result.andThen_ok, Sem.run_pure, ne_eq, String.reduceEq, not_false_eq_true, if_true]
  cases (s.toList == s'.toList) <;> cases g == g' <;> cases a == a' <;> rfl
/-- Two operators compared. -/
theorem eq_op (n : Nat) (o o' : OP) (w : World) :
    (Op.equalIn (n + 2) 33 (.agg #[.string (mk o.1), .int .i64 o.2.1, .int .i64 o.2.2]) (.agg #[.string (mk o'.1), .int .i64 o'.2.1, .int .i64 o'.2.2])).run Tryd.prog w = .ok (decide (o = o')) w := by
  rw [eq_oper, mk_toList, mk_toList]
  congr 1
  obtain ⟨p, g, a⟩ := o
  obtain ⟨p', g', a'⟩ := o'
  rw [Bool.eq_iff_iff, decide_eq_true_eq]
  simp [Prod.ext_iff]
theorem en_ext {A B : List EN} {n : Nat} (hA : A.length = n) (hB : B.length = n) (h : ∀ j, j < n → enA A j = enA B j) : A = B := by
  apply List.ext_getElem (by omega)
  intro j h1 h2
  rw [← enA_eq h1, ← enA_eq h2]
  exact h j (by omega)

end Go.Proofs.YtcpmpidpoelleaaDoor

/- Two rows compared (as in XMb, for a seat without graph.within). -/
namespace Go.Proofs.YtcpmpidpoelleaaDoor
open Go.RowKit

theorem eq_items' (z z' : List Int) (hz : z.length = 10) (hz' : z'.length = 10) (w : World) : ∀ is : List Nat, (∀ i ∈ is, i < 10) →
    (Op.eqItems 9999 3 1 (rv z) (rv z') is).run Tryd.prog w = .ok (is.all fun i => bt z i == bt z' i) w
  | [], _ => by simp [Op.eqItems]
  | i :: is, h => by
    have hi : i < 10 := h i (by simp)
    have p1 : (part 3 (rv z) (i * 1)).run Tryd.prog w = .ok (.int .i64 (bt z i)) w := run_part_plain w (by kernel_rfl) (by rw [Nat.mul_one]; exact rv_at hz hi)
    have p2 : (part 3 (rv z') (i * 1)).run Tryd.prog w = .ok (.int .i64 (bt z' i)) w := run_part_plain w (by kernel_rfl) (by rw [Nat.mul_one]; exact rv_at hz' hi)
    have p3 : (Op.equalIn 9999 3 (.int .i64 (bt z i)) (.int .i64 (bt z' i))).run Tryd.prog w = .ok (bt z i == bt z' i) w := run_equalIn_int w 9998 _ _ _ _ _ Tryd.underlying3
    have ih := eq_items' z z' hz hz' w is (fun j hj => h j (by simp [hj]))
    simp only [Op.eqItems, Sem.run_bind, p1, p2, p3, Result.andThen_ok, List.all_cons]
    cases (bt z i == bt z' i)
    · simp
    · simpa using ih

set_option maxRecDepth 20000 in
/-- Two rows compared. -/
theorem eq_rows' (z z' : List Int) (hz : z.length = 10) (hz' : z'.length = 10) (w : World) : (Op.equalIn 10000 25 (.agg (rv z)) (.agg (rv z'))).run Tryd.prog w = .ok (decide (z = z')) w := by
  obtain ⟨i, hi⟩ : ∃ i, Tryd.prog.info? 3 = some i := Option.isSome_iff_exists.1 (by kernel_rfl)
  rw [show (10000 : Nat) = 9999 + 1 from rfl, run_equalIn_array w 9999 _ _ Tryd.underlying25 hi, show Tryd.prog.cellsOf 3 = 1 by kernel_rfl, eq_items' z z' hz hz' w _ (by simp)]
  congr 1
  rw [Bool.eq_iff_iff, List.all_eq_true, decide_eq_true_eq]
  refine ⟨fun h => bt_ext hz hz' fun i hi => by simpa using h i (by simpa using hi), fun h i _ => by rw [h]; simp⟩

end Go.Proofs.YtcpmpidpoelleaaDoor

/- The document's Equal. -/
namespace Go.Proofs.YtcpmpidpoelleaaDoor
open Go.RowKit

theorem op_ext {A B : List OP} {n : Nat} (hA : A.length = n) (hB : B.length = n) (h : ∀ j, j < n → opA A j = opA B j) : A = B := by
  apply List.ext_getElem (by omega)
  intro j h1 h2
  rw [← opA_eq h1, ← opA_eq h2]
  exact h j (by omega)

end Go.Proofs.YtcpmpidpoelleaaDoor
