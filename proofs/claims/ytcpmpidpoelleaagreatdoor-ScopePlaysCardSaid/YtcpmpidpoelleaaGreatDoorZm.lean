/- Rows of scopes of the call's own; what ScopePlays keeps; directives read, cut. No walk here. -/
import Derived.Test.YtcpmpidpoelleaaGreatDoorZl
namespace Go.Proofs.YtcpmpidpoelleaaGreatDoor
open Go.RowKit

/-! ### Rows of scopes of the call's own -/

/-- A row of one scope, in a plain region. -/
theorem wpList_oneS {ops : Array Oper} {rest : List Oper} {o : Oper} {A : Act} {w : World} {Q : Exit → Act → World → Prop} (hgd : o.guard = none) (p : Operand) (ho : o.op = .buildSlice 33 1 #[(0, p)]) (x : XV) (hz : x.e.z.length = 10) (hx : A.eval p = .agg (sv x))
    (k : ∀ w' g, g = w.heap.size → OwnV w.heap.size 31 12 w' (some ⟨g, 0, none⟩) 1 1 (rowX [x]) → Below w.heap.size w w' → w'.heap.size = w.heap.size + 1 → wpList Tryz.prog ops Q rest (A.put o.dst (.slice (some ⟨g, 0, none⟩) 1 1)) w') : wpList Tryz.prog ops Q (o :: rest) A w :=
  wpList_plain hgd fun K hK => by
    have hr : (Instr.buildSlice 33 1 #[(0, .agg (sv x))]).run Tryz.prog w = .ok (.slice (some ⟨w.heap.size, 0, none⟩) 1 1) (w.alloc (.cells (sv x) 31)) := by
      obtain ⟨⟨a, n, c, L, z⟩, b, m, d, V⟩ := x
      obtain ⟨z0, z1, z2, z3, z4, z5, z6, z7, z8, z9, rfl⟩ := ten hz
      kernel_rfl
    have hrow : rowX [x] = x.cs := by simp [rowX]
    unfold Oper.wp execOp
    simp only [ho, List.map_toArray, List.map_cons, List.map_nil, hx, hr, Sem.run_bind, Result.andThen_ok, Sem.run_pure]
    refine hK _ _ (k _ w.heap.size rfl ⟨by rw [hrow, XV.len hz], .inr ⟨w.heap.size, 1, sv x, rfl, Nat.le_refl _, heap_alloc_new w _, Nat.le_refl _, by decide, by rw [sv_size hz], ?_⟩⟩ (below_alloc w _) (by simp))
    show (x.cs.toArray).toList.take (1 * 12) = rowX [x]
    rw [hrow]
    exact List.take_of_length_le (by simp [XV.len hz])
/-- append onto a row of the call's own, and where the row then is. -/
theorem wpList_appvw {P : Program} {ops : Array Oper} {rest : List Oper} {w : World} {o : Oper} {a : Act} {Q : Exit → Act → World → Prop} (hw : Region.wanted o (yielded ops a.tmps) = true) (s x : Operand) (t : TypeId)
    (ho : o.op = .call { callee := .builtin .append, args := #[s, x], argTypes := #[t, t] })
    (e base k by_ : Nat) (z : Value) (ht : P.underlying t = some (.slice e)) (hinf : (P.info? e).map (fun i => (i.zero, i.size, i.bytes)) = some (some z, k, by_)) (hzk : z.cells.size = k) (hk : 0 < k)
    (g n c : Nat) (xs : List Value) (hs : a.eval s = .slice (some ⟨g, 0, none⟩) n c) (hown : OwnV base e k w (some ⟨g, 0, none⟩) n c xs)
    (b off m d : Nat) (ys : List Value) (hx : a.eval x = .slice (some ⟨b, off, none⟩) m d) (hb : Vs k w (some ⟨b, off, none⟩) m d ys) (hm : 0 < m) (h1 : ∀ u ∈ ys, u.oneCell' = true)
    (hbig : n + m ≤ maxLen) (hbytes : (n + m) * by_ ≤ 140737488355328) (hbase : base ≤ w.heap.size)
    (h : ∀ g' c' w', OwnV base e k w' (some ⟨g', 0, none⟩) (n + m) c' (xs ++ ys) → w.grownBy w' (some g) → Below base w w' → (g' = g ∨ g' = w.heap.size) → wpList P ops Q rest (a.put o.dst (.slice (some ⟨g', 0, none⟩) (n + m) c')) w') : wpList P ops Q (o :: rest) a w :=
  wpList_step fun K hK => by
    rw [if_pos hw]
    obtain ⟨i, hi, hz, hsz, hby⟩ := info_parts hinf
    have hnews := hb.news b off rfl hm
    obtain ⟨v', w', hr, h2, h3, h4⟩ := run_append_own (P := P) w base t o.type e i z k by_ ht hi hz hsz hby hzk hk (.slice (some ⟨g, 0, none⟩) n c) n xs hown ⟨b, off, none⟩ m d ys hb.hl hnews h1 hbig hbytes hbase
    have hbe : Below base w w' := (Below.refl base w).grown h3 hbase fun k hk => (World.ownsRow.lt hown k hk).1
    have hwh : (∃ n' c', v' = .slice (some ⟨g, 0, none⟩) n' c') ∨ ∃ n' c', v' = .slice (some ⟨w.heap.size, 0, none⟩) n' c' := by
      rcases hown.2 with ⟨hv, _⟩ | ⟨g', cap, cur, hv, hbg, hg, hnc, hcm, hcs, htake⟩
      · simp at hv
      · simp only [Value.slice.injEq, Option.some.injEq, Addr.mk.injEq, true_and, and_true] at hv
        obtain ⟨rfl, rfl⟩ := hv
        have hl' : ys.length = m * i.size := by rw [hsz]; exact hb.hl
        by_cases hroom : n + m ≤ c
        · have hfit : n * i.size + ys.length ≤ cur.size := by rw [hl', hsz, hcs, ← Nat.add_mul]; exact Nat.mul_le_mul_right _ hroom
          have := run_append_room (P := P) w t o.type e i ht hi g n c cur hg ⟨b, off, none⟩ m d ys hl' hnews h1 hroom hfit
          rw [hr] at this
          cases this
          exact .inl ⟨_, _, rfl⟩
        · have holds : ∀ j u, xs[j]? = some u → w.cell? ((⟨g, 0, none⟩ : Addr).add j) = some u := World.ownsRow.cells hown (g := g) rfl
          have := run_append_grow (P := P) w t o.type e i z ht hi hz ⟨g, 0, none⟩ n c xs (by rw [hsz]; exact hown.1) holds ⟨b, off, none⟩ m d ys hl' hnews (by omega) (by unfold maxLen at hbig; omega) (growslice_fits (by omega) (by rw [hby]; exact hbytes))
          rw [hr] at this
          cases this
          exact .inr ⟨_, _, rfl⟩
    unfold Oper.wp execOp
    simp only [ho, resolve, invoke, builtin, Sem.run_bind, Sem.run_pure, Result.andThen_ok, List.map_toArray, List.map_cons, List.map_nil, hs, hx, hr]
    rcases h2.2 with ⟨rfl, hn0⟩ | ⟨g', cp, cur, rfl, r⟩
    · rcases hwh with ⟨_, _, hh⟩ | ⟨_, _, hh⟩ <;> simp at hh
    · refine hK _ _ (h g' cp w' h2 h3 hbe ?_)
      rcases hwh with ⟨_, _, hh⟩ | ⟨_, _, hh⟩
      · simp only [Value.slice.injEq, Option.some.injEq, Addr.mk.injEq, and_true] at hh
        exact .inl hh.1
      · simp only [Value.slice.injEq, Option.some.injEq, Addr.mk.injEq, and_true] at hh
        exact .inr hh.1
theorem rowX_one1 (x : XV) : ∀ u ∈ rowX [x], u.oneCell' = true := rowX_one [x]
/-- What the law keeps: two scopes in their variables, two rows of all that were. -/
structure PInv (F : Nat) (w : World) (S Y gA nA cA gB nB cB : Nat) (x y : XV) (X Z : List XV) : Prop where
  sx : SB w S x
  sy : SB w Y y
  ox : x.own w
  oy : y.own w
  ra : OwnV F 31 12 w (some ⟨gA, 0, none⟩) nA cA (rowX X)
  rb : OwnV F 31 12 w (some ⟨gB, 0, none⟩) nB cB (rowX Z)
  ne : gA ≠ gB
  hA : ∀ q ∈ X, q.own w
  hB : ∀ q ∈ Z, q.own w
section
variable {F S Y gA nA cA gB nB cB : Nat} {w w' : World} {x y : XV} {X Z : List XV}
theorem PInv.below (h : PInv F w S Y gA nA cA gB nB cB x y X Z) (hb : Below w.heap.size w w') : PInv F w' S Y gA nA cA gB nB cB x y X Z :=
  ⟨h.sx.below hb, h.sy.below hb, h.ox.below hb, h.oy.below hb, h.ra.keep hb (Nat.le_refl _), h.rb.keep hb (Nat.le_refl _), h.ne, fun q hq => (h.hA q hq).below hb, fun q hq => (h.hB q hq).below hb⟩
theorem ownV_onlyb {base B : Nat} {e : TypeId} {k n c : Nat} {a : Option Addr} {xs : List Value} (h : OwnV base e k w a n c xs) (ho : Only B w w') (hB : B < base) : OwnV base e k w' a n c xs := by
  refine ⟨h.1, h.2.imp id ?_⟩
  rintro ⟨g, cp, cur, hv, hg, hb, r⟩
  exact ⟨g, cp, cur, hv, hg, (ho.block g (by omega)).trans hb, r⟩
/-- Both variables are written. -/
theorem PInv.two {w1 w2 : World} {a b : XV} (h : PInv F w S Y gA nA cA gB nB cB x y X Z) (q1 : Only S w w1) (hS : SB w1 S a) (q2 : Only Y w1 w2) (hY : SB w2 Y b) (ha : a.own w) (hb : b.own w) (hF : S < F ∧ Y < F ∧ S ≠ Y) : PInv F w2 S Y gA nA cA gB nB cB a b X Z := by
  have k : Kp w w2 := (Kp.scope h.sx q1).trans (Kp.scope (h.sy.only q1 (Ne.symm hF.2.2)) q2)
  exact ⟨hS.only q2 hF.2.2, hY, ha.kp k, hb.kp k, ownV_onlyb (ownV_onlyb h.ra q1 hF.1) q2 hF.2.1, ownV_onlyb (ownV_onlyb h.rb q1 hF.1) q2 hF.2.1, h.ne, fun q hq => (h.hA q hq).kp k, fun q hq => (h.hB q hq).kp k⟩
theorem own_blockF {base : Nat} {e : TypeId} {k n c g : Nat} {xs : List Value} (h : OwnV base e k w (some ⟨g, 0, none⟩) n c xs) : base ≤ g ∧ g < w.heap.size := by
  obtain ⟨g', cur, hg, h1, h2, _⟩ := h.form (by simp)
  simp only [Option.some.injEq, Addr.mk.injEq, and_true] at hg
  omega
/-- One scope more stands in the first row. -/
theorem PInv.appA {g' c' : Nat} (h : PInv F w S Y gA nA cA gB nB cB x y X Z) (hr : OwnV F 31 12 w' (some ⟨g', 0, none⟩) (nA + 1) c' (rowX X ++ rowX [x])) (hg : w.grownBy w' (some gA)) (hw : g' = gA ∨ g' = w.heap.size) (hF : S < F ∧ Y < F) : PInv F w' S Y g' (nA + 1) c' gB nB cB x y (X ++ [x]) Z := by
  have k : Kp w w' := Kp.grown h.ra ⟨by decide, by decide⟩ hg
  have b1 := own_blockF h.ra
  have b2 := own_blockF h.rb
  refine ⟨h.sx.gb hg (by omega), h.sy.gb hg (by omega), h.ox.kp k, h.oy.kp k, by rw [rowX_app]; exact hr, h.rb.other hg (.inr ?_), ?_, fun q hq => ?_, fun q hq => (h.hB q hq).kp k⟩
  · simp only [Value.ownBlock, ne_eq, Option.some.injEq]; exact fun e => h.ne e.symm
  · rcases hw with rfl | rfl
    · exact h.ne
    · omega
  · rcases List.mem_append.1 hq with hq | hq
    · exact (h.hA q hq).kp k
    · rw [List.mem_singleton.1 hq]; exact h.ox.kp k
/-- And in the second. -/
theorem PInv.appB {g' c' : Nat} (h : PInv F w S Y gA nA cA gB nB cB x y X Z) (hr : OwnV F 31 12 w' (some ⟨g', 0, none⟩) (nB + 1) c' (rowX Z ++ rowX [y])) (hg : w.grownBy w' (some gB)) (hw : g' = gB ∨ g' = w.heap.size) (hF : S < F ∧ Y < F) : PInv F w' S Y gA nA cA g' (nB + 1) c' x y X (Z ++ [y]) := by
  have k : Kp w w' := Kp.grown h.rb ⟨by decide, by decide⟩ hg
  have b1 := own_blockF h.ra
  have b2 := own_blockF h.rb
  refine ⟨h.sx.gb hg (by omega), h.sy.gb hg (by omega), h.ox.kp k, h.oy.kp k, h.ra.other hg (.inr ?_), by rw [rowX_app]; exact hr, ?_, fun q hq => (h.hA q hq).kp k, fun q hq => ?_⟩
  · simp only [Value.ownBlock, ne_eq, Option.some.injEq]; exact fun e => h.ne e
  · rcases hw with rfl | rfl
    · exact h.ne
    · omega
  · rcases List.mem_append.1 hq with hq | hq
    · exact (h.hB q hq).kp k
    · rw [List.mem_singleton.1 hq]; exact h.oy.kp k
theorem PInv.lens (h : PInv F w S Y gA nA cA gB nB cB x y X Z) : X.length = nA ∧ Z.length = nB := by
  have h1 := h.ra.bounds.1
  have h2 := h.rb.bounds.1
  rw [rowX_len X fun q hq => (h.hA q hq).z] at h1
  rw [rowX_len Z fun q hq => (h.hB q hq).z] at h2
  omega
end
/-- The states say the same. -/
def Alike (x y : XV) (X Z : List XV) : Prop := x.k = y.k ∧ okS x.k ∧ X.map XV.k = Z.map XV.k ∧ ∀ q ∈ X, okS q.k
theorem Alike.app {x y : XV} {X Z : List XV} (h : Alike x y X Z) {a b : XV} (hk : a.k = b.k) (ho : okS a.k) : Alike a b (X ++ [a]) (Z ++ [b]) :=
  ⟨hk, ho, by rw [List.map_append, List.map_append, h.2.2.1, List.map_cons, List.map_cons, hk, List.map_nil], fun q hq => by
    rcases List.mem_append.1 hq with hq | hq
    · exact h.2.2.2 q hq
    · rw [List.mem_singleton.1 hq]; exact ho⟩
theorem cut60s (p : Nm) : ∃ v : Nat, v ≤ p.length ∧ v ≤ 60 ∧ min (p.length : Int) 60 = (v : Int) ∧ ∀ w : World, (Instr.slice 9 (.string (mk p)) none (some (.int .i64 v)) none).run Tryz.prog w = .ok (.string (mk (p.take v))) w := by
  refine ⟨min p.length 60, by omega, by omega, by omega, fun w => run_hi w p _ (by omega)⟩
theorem store_dp {ops : Array Oper} {rest : List Oper} {o : Oper} {A : Act} {w : World} {Q : Exit → Act → World → Prop} (hgd : o.guard = none) (p q : Operand) (ho : o.op = .store 9 p q) (b : Nat) (hx : A.eval p = .pointer (some ⟨b, 1, none⟩)) (v : Nm) (hy : A.eval q = .string (mk v)) (d : DV) (h : DB6 w b d)
    (k : ∀ w', DB6 w' b (d.1, (v, d.2.1.2), d.2.2) → Only b w w' → wpList Tryz.prog ops Q rest (A.put o.dst undef) w') : wpList Tryz.prog ops Q (o :: rest) A w :=
  wpList_store_cell hgd 9 37 p q ho b 1 (dvC d) (.string (mk v)) hx hy (by kernel_rfl) rfl h (by simp [dvC]) rfl fun w' h' ho' => k w' h' ho'
/-- A directive read wherever its six cells lie. -/
theorem decl_range6 {w : World} {D off : Nat} {d : DV} (h : ∀ j, j < 6 → w.cell? ⟨D, off + j, none⟩ = (dvC d)[j]?) : w.rangeAt D off (dvC d) := fun j v hv => by
  have hj : j < 6 := (List.getElem?_eq_some_iff.1 hv).1
  rw [h j hj]; exact hv
theorem load_declat {ops : Array Oper} {rest : List Oper} {o : Oper} {A : Act} {w : World} {Q : Exit → Act → World → Prop} (hw : Region.wanted o (yielded ops A.tmps) = true) (p : Operand) (ho : o.op = .load 37 p)
    (b off : Nat) (hx : A.eval p = .pointer (some ⟨b, off, none⟩)) (d : DV) (h : ∀ j, j < 6 → w.cell? ⟨b, off + j, none⟩ = (dvC d)[j]?)
    (k : wpList Tryz.prog ops Q rest (A.put o.dst (.agg (dA d))) w) : wpList Tryz.prog ops Q (o :: rest) A w :=
  wpList_step fun K hK => by
    rw [if_pos hw]
    exact wp_load_mid 37 p ho b off hx (dvC d) _ (decl_range6 h) Tryz.underlying37 rfl decl_info6 (hK _ _ k)
theorem DvS.cells6 {w : World} {b o n c : Nat} {D : List DV} (h : DvS w (some ⟨b, o, none⟩) n c D) {k : Nat} (hk : k < n) : ∀ j, j < 6 → w.cell? ⟨b, o + k * 6 + j, none⟩ = (dvC (dvA D k))[j]? := fun j hj => by
  have hl := DvS.len h
  rw [Nat.add_assoc, Vs.cells h (by omega) (by omega), cD_at D k (by omega) j hj, dvA_eq (by omega)]

end Go.Proofs.YtcpmpidpoelleaaGreatDoor
