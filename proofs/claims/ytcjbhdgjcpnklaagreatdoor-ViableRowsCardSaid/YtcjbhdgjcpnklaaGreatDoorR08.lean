import Derived.Test.YtcjbhdgjcpnklaaGreatDoorV10
import Derived.Test.YtcjbhdgjcpnklaaGreatDoorV18
import Derived.Test.YtcjbhdgjcpnklaaGreatDoorR03
import Derived.Test.YtcjbhdgjcpnklaaGreatDoorR07
namespace Go.Proofs.YtcjbhdgjcpnklaaGreatDoor
section
open Go.RowKit
variable {L : List OP} {z : List Int} {tok : List TK}
def holN (I : List Nm) : Nat := (I.filter fun x => x == []).length
theorem zGa (I : List Nm) : holN ([] :: I) = holN I + 1 := by simp [holN]
theorem zGb {x : Nm} (h : x ≠ []) (I : List Nm) : holN (x :: I) = holN I := by simp [holN, h]
def alB (tok : List TK) (to_ : Int) : List Nm → Int → List ND → Bool
 | [], a, K => K.isEmpty && a == to_
 | x :: r, a, K =>
  if x ≠ [] then decide (a < to_) && (partB (tkn tok a).k (txN (tkn tok a)) x && alB tok to_ r (a + 1) K)
  else match K with
   | [] => false
   | c :: K' => c.f == a && alB tok to_ r c.t K'
def goodN (tok : List TK) (c : ND) : Prop := 0 ≤ c.f ∧ c.f < c.t ∧ c.t ≤ tok.length
end
section
open Go.RowKit
def ndA (x : ND) : Array Value := #[.int .i64 x.k, .string (mk x.n), .int .i64 x.f, .int .i64 x.t, .int .i64 x.c]
def N5 (w : World) (b : Nat) (x : ND) : Prop := w.heap[b]? = some (.cells (ndA x) 85 (0, 0))
theorem N5.cells {w : World} {b : Nat} {x : ND} (h : N5 w b x) : w.cell? ⟨b, 0, none⟩ = some (.int .i64 x.k) ∧ w.cell? ⟨b, 1, none⟩ = some (.string (mk x.n)) ∧ w.cell? ⟨b, 2, none⟩ = some (.int .i64 x.f) ∧ w.cell? ⟨b, 3, none⟩ = some (.int .i64 x.t) ∧ w.cell? ⟨b, 4, none⟩ = some (.int .i64 x.c) :=
 ⟨cell_of_row w b 0 _ _ _ h, cell_of_row w b 1 _ _ _ h, cell_of_row w b 2 _ _ _ h, cell_of_row w b 3 _ _ _ h, cell_of_row w b 4 _ _ _ h⟩
theorem N5.lt {w : World} {b : Nat} {x : ND} (h : N5 w b x) : b < w.heap.size := (Array.getElem?_eq_some_iff.1 h).1
theorem N5.new (w : World) (x : ND) : N5 (w.alloc (.cells (ndA x) 85)) w.heap.size x := heap_alloc_new w _
theorem N5.keep {w w' : World} {b B : Nat} {x : ND} (h : N5 w b x) (hb : Below B w w') (hB : b < B) : N5 w' b x := (hb.block b hB).trans h
theorem N5.below {w w' : World} {b : Nat} {x : ND} (h : N5 w b x) (hb : Below w.heap.size w w') : N5 w' b x := h.keep hb h.lt
theorem N5.alloc {w : World} {b : Nat} {x : ND} (h : N5 w b x) (o : Obj) : N5 (w.alloc o) b x := h.below (zAA w o)
theorem N5.only {w w' : World} {b g : Nat} {x : ND} (h : N5 w b x) (ho : Only g w w') (hne : b ≠ g) : N5 w' b x := (ho.block b hne).trans h
theorem zNq (y : TK) : mk (txN y) = y.s := by unfold txN mk; simp
end
section
open Go.RowKit
structure But (m X Y : Nat) (w w' : World) : Prop where
 b : Below m w w'
 s : ∀ g, g < w.heap.size → g ≠ X → g ≠ Y → w'.heap[g]? = w.heap[g]?
theorem But.refl (m X Y : Nat) (w : World) : But m X Y w w := ⟨Below.refl _ _, fun _ _ _ _ => rfl⟩
theorem But.size {m X Y : Nat} {w w' : World} (h : But m X Y w w') : w.heap.size ≤ w'.heap.size := h.b.size
theorem But.trans {m X Y : Nat} {a b c : World} (h : But m X Y a b) (k : But m X Y b c) : But m X Y a c :=
 ⟨h.b.trans k.b, fun g hg h1 h2 => (k.s g (Nat.lt_of_lt_of_le hg h.size) h1 h2).trans (h.s g hg h1 h2)⟩
theorem But.of {m X Y : Nat} {w w' : World} (h : Below w.heap.size w w') (hm : m ≤ w.heap.size) : But m X Y w w' := ⟨h.mono hm, fun g hg _ _ => h.block g hg⟩
theorem But.row {m X Y g : Nat} {w w' : World} (h : But m X Y w w') (h1 : g ≠ X) (h2 : g ≠ Y) {o : Obj} (hg : w.heap[g]? = some o) : w'.heap[g]? = some o :=
 (h.s g (Array.getElem?_eq_some_iff.1 hg).1 h1 h2).trans hg
end
section
open Go.RowKit
def C1 (w : World) (b : Nat) (t : TypeId) (v : Value) : Prop := w.heap[b]? = some (.cells #[v] t (0, 0))
theorem C1.cell {w : World} {b : Nat} {t : TypeId} {v : Value} (h : C1 w b t v) : w.cell? ⟨b, 0, none⟩ = some v := cell_of_row w b 0 _ _ _ h
theorem C1.frozen {w : World} {b : Nat} {t : TypeId} {v : Value} (h : C1 w b t v) : w.frozen? ⟨b, 0, none⟩ = false := frozen_of_row w b 0 _ _ h
theorem C1.lt {w : World} {b : Nat} {t : TypeId} {v : Value} (h : C1 w b t v) : b < w.heap.size := (Array.getElem?_eq_some_iff.1 h).1
theorem C1.new (w : World) (t : TypeId) (v : Value) : C1 (w.alloc (.cells #[v] t)) w.heap.size t v := heap_alloc_new w _
theorem C1.set {w : World} {b : Nat} {t : TypeId} {v : Value} (h : C1 w b t v) (v' : Value) : C1 (w.setCell ⟨b, 0, none⟩ v') b t v' := by
 unfold C1 at h ⊢
 rw [zCD _ h]; simp
theorem C1.keep {w w' : World} {b B : Nat} {t : TypeId} {v : Value} (h : C1 w b t v) (hb : Below B w w') (hB : b < B) : C1 w' b t v := (hb.block b hB).trans h
theorem C1.below {w w' : World} {b : Nat} {t : TypeId} {v : Value} (h : C1 w b t v) (hb : Below w.heap.size w w') : C1 w' b t v := h.keep hb h.lt
theorem C1.alloc {w : World} {b : Nat} {t : TypeId} {v : Value} (h : C1 w b t v) (o : Obj) : C1 (w.alloc o) b t v := h.below (zAA w o)
theorem C1.only {w w' : World} {b g : Nat} {t : TypeId} {v : Value} (h : C1 w b t v) (ho : Only g w w') (hne : b ≠ g) : C1 w' b t v := (ho.block b hne).trans h
theorem zMj {ops : Array Oper} {rest : List Oper} {o : Oper} {A : Act} {w : World} {Q : Exit → Act → World → Prop} (hgd : o.guard = none) (ty : TypeId) (x y : Operand) (ho : o.op = .store ty x y)
  (b : Nat) (hx : A.eval x = .pointer (some ⟨b, 0, none⟩)) (v : Value) (hy : A.eval y = v) (hi : (Tryz.prog.info? ty).map (·.size) = some 1) (hc : v.cells = #[v]) (h1 : v.oneCell' = true) (t : TypeId) (u : Value) (h : C1 w b t u)
  (k : ∀ w', C1 w' b t v → Only b w w' → wpList Tryz.prog ops Q rest (A.put o.dst undef) w') : wpList Tryz.prog ops Q (o :: rest) A w :=
 zAm hgd ty t x y ho b 0 [u] v hx hy hi hc h (by simp) h1 fun w' h' ho' => k w' h' ho'
theorem zIa {w : World} {a : Option Addr} {n c : Nat} {tok : List TK} (h : Ts w a n c tok) {k : Nat} (hk : k < n) : ∃ b o, a = some ⟨b, o, none⟩ ∧ w.cell? ⟨b, o + k * 5, none⟩ = some (.int .i64 (tat tok k).k) ∧ w.cell? ⟨b, o + k * 5 + 1, none⟩ = some (.int .i64 (tat tok k).f) ∧ w.cell? ⟨b, o + k * 5 + 2, none⟩ = some (.int .i64 (tat tok k).t) ∧ w.cell? ⟨b, o + k * 5 + 3, none⟩ = some (.string (mk (txN (tat tok k)))) ∧ w.cell? ⟨b, o + k * 5 + 4, none⟩ = some (.int .i64 (tat tok k).e) := by
 obtain ⟨b, o, rfl, _, _⟩ := h.at_ (by omega)
 obtain ⟨c0, c1, c2, c3, c4⟩ := h.at5 hk
 exact ⟨b, o, rfl, c0, c1, c2, by rw [zNq]; exact c3, c4⟩
end
end Go.Proofs.YtcjbhdgjcpnklaaGreatDoor
