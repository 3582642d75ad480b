/- Contracts of tree.holes, and of the two functions that tree.operates hands on. -/
import Derived.Test.YtkaeanaeklilfaaGreatDoorXd
import Derived.Test.YtkaeanaeklilfaaGreatDoorXf
import Derived.Test.YtkaeanaeklilfaaGreatDoorNA
namespace Go.Proofs.YtkaeanaeklilfaaGreatDoor
open Go.RowKit

/-- The block b holds one cell. -/
def C1 (w : World) (b : Nat) (t : TypeId) (v : Value) : Prop := w.heap[b]? = some (.cells #[v] t (0, 0))
theorem C1.cell {w : World} {b : Nat} {t : TypeId} {v : Value} (h : C1 w b t v) : w.cell? ⟨b, 0, none⟩ = some v := cell_of_row w b 0 _ _ _ h
theorem C1.frozen {w : World} {b : Nat} {t : TypeId} {v : Value} (h : C1 w b t v) : w.frozen? ⟨b, 0, none⟩ = false := frozen_of_row w b 0 _ _ h
theorem C1.lt {w : World} {b : Nat} {t : TypeId} {v : Value} (h : C1 w b t v) : b < w.heap.size := (Array.getElem?_eq_some_iff.1 h).1
theorem C1.new (w : World) (t : TypeId) (v : Value) : C1 (w.alloc (.cells #[v] t)) w.heap.size t v := heap_alloc_new w _
theorem C1.set {w : World} {b : Nat} {t : TypeId} {v : Value} (h : C1 w b t v) (v' : Value) : C1 (w.setCell ⟨b, 0, none⟩ v') b t v' := by
  unfold C1 at h ⊢
  rw [blk_set _ h]; simp
theorem C1.keep {w w' : World} {b B : Nat} {t : TypeId} {v : Value} (h : C1 w b t v) (hb : Below B w w') (hB : b < B) : C1 w' b t v := (hb.block b hB).trans h
theorem C1.below {w w' : World} {b : Nat} {t : TypeId} {v : Value} (h : C1 w b t v) (hb : Below w.heap.size w w') : C1 w' b t v := h.keep hb h.lt
theorem C1.alloc {w : World} {b : Nat} {t : TypeId} {v : Value} (h : C1 w b t v) (o : Obj) : C1 (w.alloc o) b t v := h.below (below_alloc w o)
theorem C1.only {w w' : World} {b g : Nat} {t : TypeId} {v : Value} (h : C1 w b t v) (ho : Only g w w') (hne : b ≠ g) : C1 w' b t v := (ho.block b hne).trans h
theorem C1.but {w w' : World} {b m X Y : Nat} {t : TypeId} {v : Value} (h : C1 w b t v) (ho : But m X Y w w') (h1 : b ≠ X) (h2 : b ≠ Y) : C1 w' b t v := ho.row h1 h2 h
theorem N5.but {w w' : World} {b m X Y : Nat} {x : ND} (h : N5 w b x) (ho : But m X Y w w') (h1 : b ≠ X) (h2 : b ≠ Y) : N5 w' b x := ho.row h1 h2 h
theorem nint1 : (Tryz.prog.info? 3).map (·.size) = some 1 := by kernel_rfl
theorem store_c1 {ops : Array Oper} {rest : List Oper} {o : Oper} {A : Act} {w : World} {Q : Exit → Act → World → Prop} (hgd : o.guard = none) (ty : TypeId) (x y : Operand) (ho : o.op = .store ty x y)
    (b : Nat) (hx : A.eval x = .pointer (some ⟨b, 0, none⟩)) (v : Value) (hy : A.eval y = v) (hi : (Tryz.prog.info? ty).map (·.size) = some 1) (hc : v.cells = #[v]) (h1 : v.oneCell' = true) (t : TypeId) (u : Value) (h : C1 w b t u)
    (k : ∀ w', C1 w' b t v → Only b w w' → wpList Tryz.prog ops Q rest (A.put o.dst undef) w') : wpList Tryz.prog ops Q (o :: rest) A w :=
  wpList_store_cell hgd ty t x y ho b 0 [u] v hx hy hi hc h (by simp) h1 fun w' h' ho' => k w' h' ho'

/-! ### holes -/

theorem holN_le (p : Nm) (I : List Nm) : holN (p :: I) ≤ holN I + 1 := by
  by_cases hp : p = []
  · subst hp; rw [holN_hole]; exact Nat.le_refl _
  · rw [holN_part hp]; omega
theorem holN_alI : ∀ (P : List Nm) (l r : Bool), holN (alI l P r) ≤ 2 * P.length + 1
  | [], l, r => by cases r <;> simp [alI, holN]
  | p :: P, l, r => by
    have ih := holN_alI P true r
    have h1 := holN_le p (alI true P r)
    rw [List.length_cons]
    cases l with
    | true =>
      show holN ([] :: p :: alI true P r) ≤ _
      rw [holN_hole]; omega
    | false =>
      show holN (p :: alI true P r) ≤ _
      omega

set_option maxRecDepth 20000 in
theorem holes1_any (x : Nm) (w : World) : Calls Tryz.prog 89 #[.string (mk x)] w fun e w' => e = .returned (.bool true) ∧ w = w' := by
  go_enter Tryz.func89, Tryz.ntmps89
  go_wp2
  go_ret
  exact ⟨rfl, rfl⟩

set_option maxRecDepth 20000 in
theorem holes2_any (X : Nat) (k : Nat) (w : World) (h : C1 w X 3 (.int .i64 (k : Int))) (hk : k ≤ 100000000) : Calls Tryz.prog 90 #[.pointer (some ⟨X, 0, none⟩)] w fun e w' => e = .returned (.bool true) ∧ C1 w' X 3 (.int .i64 ((k + 1 : Nat) : Int)) ∧ Only X w w' := by
  have x0 := h.cell
  have H := Lib.hid h
  clear h
  go_enter Tryz.func90, Tryz.ntmps90
  go_wp2_with (refine store_c1 rfl 3 (.tmp 0) (.tmp 3) rfl X rfl _ rfl nint1 rfl rfl 3 _ H.out ?_; intro w2 h2 ho2; have H2 := Lib.hid h2; have HO2 := Lib.hid ho2; clear h2 ho2 x0)
  go_ret
  exact ⟨rfl, by rw [show ((k + 1 : Nat) : Int) = (k : Int) + 1 by omega]; exact H2.out, HO2.out⟩

set_option maxRecDepth 20000 in
set_option maxHeartbeats 4000000 in
theorem holes_any (a : Option Addr) (n c : Nat) (P : List Nm) (l r : Bool) (w : World) (h : Ss w a n c P) (hp : ∀ p ∈ P, p ≠ []) (hn : n ≤ 1000000) :
    Calls Tryz.prog 61 #[.agg #[.slice a n c, .bool l, .bool r]] w fun e w' => e = .returned (.int .i64 (holN (alI l P r) : Nat)) ∧ Below w.heap.size w w' := by
  obtain ⟨B, hB⟩ : ∃ B, B = w.heap.size := ⟨_, rfl⟩
  obtain ⟨w1, hw1⟩ : ∃ w1, w1 = w.alloc (.cells #[.slice a n c, .bool l, .bool r] 77) := ⟨_, rfl⟩
  have s1 : w1.heap.size = B + 1 := by rw [hw1, hB]; simp
  have HB1 : Hid (Below B w w1) := Lib.hid (by rw [hw1, hB]; exact below_alloc w _)
  have HS1 : Hid (w1.heap[B]? = some (.cells #[.slice a n c, .bool l, .bool r] 77 (0, 0))) := Lib.hid (by rw [hw1, hB]; exact heap_alloc_new w _)
  obtain ⟨X, hX⟩ : ∃ X, X = w1.heap.size := ⟨_, rfl⟩
  have HX : Hid (B = w.heap.size ∧ X = B + 1) := Lib.hid ⟨hB, by omega⟩
  obtain ⟨N, hN⟩ : ∃ N, N = holN (alI l P r) := ⟨_, rfl⟩
  have HL : Hid (P.length = n) := Lib.hid (Ss.len h)
  have HNN : Hid (N ≤ 2000001 ∧ N = holN (alI l P r)) := Lib.hid ⟨by have := holN_alI P l r; have := HL.out; omega, hN⟩
  have H := Lib.hid h
  have HP := Lib.hid hp
  have KA : Hid (∀ w3 : World, Below w.heap.size w w3 → X < w3.heap.size → C1 w3 X 3 (.int .i64 ((0 : Nat) : Int)) → Calls Tryz.prog 66 #[.agg #[.slice a n c, .bool l, .bool r], .func (.func 89) #[] #[], .func (.func 90) #[] #[.pointer (some ⟨X, 0, none⟩)]] w3 fun e w' => ∃ b, e = .returned (.bool b) ∧ C1 w' X 3 (.int .i64 (N : Int)) ∧ Below B w3 w') := Lib.hid fun w3 hb hx hc => by
    have hBx := HX.out
    refine (alongN_any X B X X (fun I w1 => ∃ k : Nat, C1 w1 X 3 (.int .i64 (k : Int)) ∧ k + holN I = N ∧ B ≤ w1.heap.size) (fun _ => False) ?_ ?_ a n c P l r w3 ?_ HP.out hn (by have := hb.size; omega) hx hx ?_).mono ?_
    · rintro x r w1 hx ⟨k, h1, h2, h3⟩
      refine (holes1_any x w1).mono ?_
      rintro e w' ⟨rfl, rfl⟩
      exact ⟨true, rfl, fun _ => ⟨k, h1, by rw [← h2, holN_part hx], h3⟩, (fun h => by cases h), But.refl _ _ _ _⟩
    · rintro r w1 ⟨k, h1, h2, h3⟩
      rw [holN_hole] at h2
      refine (holes2_any X k w1 h1 (by have := HNN.out.1; omega)).mono ?_
      rintro e w' ⟨rfl, h4, h5⟩
      exact ⟨true, rfl, fun _ => ⟨k + 1, h4, by omega, by rw [h5.size]; exact h3⟩, (fun h => by cases h), But.onlyX h5 (by omega)⟩
    · intro w' hbut
      exact H.out.below (hb.trans (hbut.b.mono (by omega)))
    · intro w' hb'
      exact ⟨0, hc.below hb', by rw [Nat.zero_add, HNN.out.2], by have := hb.size; have := hb'.size; omega⟩
    · rintro e w' ⟨b, rfl, h1, h2, h3⟩
      cases b with
      | false => exact (h2 rfl).elim
      | true =>
        obtain ⟨k, h4, h5, _⟩ := h1 rfl
        have h5 : k = N := h5
        subst h5
        exact ⟨true, rfl, h4, h3.b⟩
  obtain ⟨⟨y0, y1, y2⟩, _⟩ := three HS1.out
  rw [← hN]
  have HXX := Lib.hid hX
  clear h hp hN hX
  go_enter Tryz.func61, Tryz.ntmps61
  go_upto_region 1 with fail
  rw [← hw1, ← hB]
  clear hw1 hB s1
  have hnx : C1 (w1.alloc (.cells #[.int .i64 0] 3)) X 3 (.int .i64 0) := by rw [HXX.out]; exact C1.new w1 _ _
  have HNX := Lib.hid hnx
  clear hnx y0 y1 y2
  go_wp2_with (refine store_c1 rfl 3 (.tmp 3) (.const (.int .i64 0)) rfl X (by rw [HXX.out]; rfl) (.int .i64 0) rfl nint1 rfl rfl 3 (.int .i64 0) HNX.out ?_; rw [← HXX.out]; intro w2 h2 ho2; have H2 := Lib.hid h2; have HB2 : Hid (Below w1.heap.size w1 w2) := Lib.hid ((below_alloc w1 _).trans (ho2.below (by rw [HXX.out]; exact Nat.le_refl _))); obtain ⟨⟨y0, y1, y2⟩, _⟩ := three (cells3 HS1.out HB2.out); clear h2 ho2)
  have HBW : Hid (Below B w w2) := Lib.hid (HB1.out.trans (HB2.out.mono (by have := HX.out; have := HB1.out.size; omega)))
  refine (KA.out w2 (by rw [← HX.out.1]; exact HBW.out) H2.out.lt H2.out).mono ?_
  rintro e w3 ⟨b, rfl, h3, hb3⟩
  have x3 := h3.cell
  have HB3 : Hid (Below B w w3) := Lib.hid (HBW.out.trans hb3)
  clear h3 hb3 y0 y1 y2
  go_wp2
  go_ret
  exact ⟨rfl, by rw [← HX.out.1]; exact HB3.out⟩

/-! ### The two functions that operates hands on -/

theorem tok_at {w : World} {a : Option Addr} {n c : Nat} {tok : List TK} (h : Ts w a n c tok) {k : Nat} (hk : k < n) : ∃ b o, a = some ⟨b, o, none⟩ ∧ w.cell? ⟨b, o + k * 5, none⟩ = some (.int .i64 (tat tok k).k) ∧ w.cell? ⟨b, o + k * 5 + 1, none⟩ = some (.int .i64 (tat tok k).f) ∧ w.cell? ⟨b, o + k * 5 + 2, none⟩ = some (.int .i64 (tat tok k).t) ∧ w.cell? ⟨b, o + k * 5 + 3, none⟩ = some (.string (mk (txN (tat tok k)))) ∧ w.cell? ⟨b, o + k * 5 + 4, none⟩ = some (.int .i64 (tat tok k).e) := by
  obtain ⟨b, o, rfl, _, _⟩ := h.at_ (by omega)
  obtain ⟨c0, c1, c2, c3, c4⟩ := h.at5 hk
  exact ⟨b, o, rfl, c0, c1, c2, by rw [txN_mk]; exact c3, c4⟩

set_option maxRecDepth 20000 in
set_option maxHeartbeats 4000000 in
theorem opart_any (p : Nm) (ba bn bl bk m : Nat) (at_ : Nat) (x : ND) (la : Option Addr) (ln lc : Nat) (tok : List TK) (w : World) (hA : C1 w ba 3 (.int .i64 (at_ : Int))) (hN : N5 w bn x) (hL : C1 w bl 27 (.slice la ln lc)) (hT : Ts w la ln lc tok)
    (hln : ln ≤ 1000000) (hat : at_ ≤ 1000000) (hxt : x.t ≤ ln) (hm : m ≤ ba) (h1 : bn ≠ ba) (h2 : bl ≠ ba) :
    Calls Tryz.prog 63 #[.string (mk p), .pointer (some ⟨ba, 0, none⟩), .pointer (some ⟨bn, 0, none⟩), .pointer (some ⟨bl, 0, none⟩)] w fun e w' =>
      e = .returned (.bool (decide ((at_ : Int) < x.t) && partB (tkn tok at_).k (txN (tkn tok at_)) p)) ∧ C1 w' ba 3 (.int .i64 ((at_ + 1 : Nat) : Int)) ∧ But m ba bk w w' := by
  have x0 := hA.cell
  have HA := Lib.hid hA
  have HN := Lib.hid hN
  have HL := Lib.hid hL
  have HT := Lib.hid hT
  have HD := Lib.hid (And.intro h1 (And.intro h2 hm))
  obtain ⟨xt, hxt'⟩ : ∃ t, t = x.t := ⟨_, rfl⟩
  have HXT := Lib.hid hxt'
  rw [← hxt'] at hxt ⊢
  have hTs : ∀ w', Only ba w w' → at_ < ln → Ts w' la ln lc tok := fun w' ho hl => by
    obtain ⟨b, o, rfl, hb, hc⟩ := HT.out.at_ (by omega)
    have hne : b ≠ ba := by
      intro e
      subst e
      have := hc 0 (by omega) 3 (by omega)
      rw [show o + (0 * 5 + 3) = o + 3 by omega] at this
      unfold C1 at hA
      rw [cell_of_row w b (o + 3) _ _ _ hA] at this
      simp [cellsT] at this
    exact ⟨HT.out.hl, HT.out.lc, HT.out.cm, fun _ => ⟨b, o, rfl, by rw [ho.size]; exact hb, fun j hj i hi => by
      rw [← hc j hj i hi]
      unfold World.cell?
      rw [show (w'.heap[b]? = w.heap[b]?) from ho.block b hne]⟩⟩
  have HTS := Lib.hid hTs
  obtain ⟨tk, htk⟩ : ∃ y, y = tkn tok at_ := ⟨_, rfl⟩
  have htk' : tat tok at_ = tk := by rw [htk]; unfold tkn; rw [Int.toNat_natCast]
  have HTK := Lib.hid htk'
  rw [← htk]
  clear hA hN hL hT h1 h2 hm hxt' hTs htk htk'
  have hat0 : (0 : Int) ≤ (at_ : Int) := Int.natCast_nonneg _
  have hcast : ((at_ + 1 : Nat) : Int) = (at_ : Int) + 1 := by omega
  rw [hcast]
  clear hcast
  by_cases hlt : (at_ : Int) < xt
  · have hln' : at_ < ln := by omega
    obtain ⟨b, o, rfl, hcs⟩ : ∃ b o, la = some ⟨b, o, none⟩ ∧ ∀ w', Only ba w w' → w'.cell? ⟨b, o + at_ * 5, none⟩ = some (.int .i64 tk.k) ∧ w'.cell? ⟨b, o + at_ * 5 + 1, none⟩ = some (.int .i64 tk.f) ∧ w'.cell? ⟨b, o + at_ * 5 + 2, none⟩ = some (.int .i64 tk.t) ∧ w'.cell? ⟨b, o + at_ * 5 + 3, none⟩ = some (.string (mk (txN tk))) ∧ w'.cell? ⟨b, o + at_ * 5 + 4, none⟩ = some (.int .i64 tk.e) := by
      obtain ⟨b, o, e, _, _⟩ := HT.out.at_ (by omega)
      refine ⟨b, o, e, fun w' ho => ?_⟩
      obtain ⟨b', o', e', h⟩ := tok_at (HTS.out w' ho hln') hln'
      rw [e] at e'
      simp only [Option.some.injEq, Addr.mk.injEq, and_true] at e'
      obtain ⟨rfl, rfl⟩ := e'
      rw [HTK.out] at h
      exact h
    have HV : Hid (partB tk.k (txN tk) p = (decide ((at_ : Int) < xt) && partB tk.k (txN tk) p)) := Lib.hid (by rw [decide_eq_true hlt, Bool.true_and])
    rw [← HV.out]
    obtain ⟨V, hV⟩ : ∃ V, V = partB tk.k (txN tk) p := ⟨_, rfl⟩
    obtain ⟨tx, htx⟩ : ∃ y, y = txN tk := ⟨_, rfl⟩
    have KP : Hid (∀ w' : World, Calls Tryz.prog 64 #[.agg #[.int .i64 tk.k, .int .i64 tk.f, .int .i64 tk.t, .string (mk tx), .int .i64 tk.e], .string (mk p)] w' fun e w'' => e = .returned (.bool V) ∧ Below w'.heap.size w' w'') := Lib.hid fun w' => by rw [hV, htx]; exact fpart_any tk.k tk.f tk.t (txN tk) tk.e p w'
    rw [← hV]
    rw [← htx] at hcs
    have HCS := Lib.hid hcs
    clear hV hcs HV htx
    go_enter Tryz.func63, Tryz.ntmps63
    go_wp2_with (refine store_c1 rfl 3 (.tmp 1) (.tmp 7) rfl ba rfl (.int .i64 ((at_ : Int) + 1)) rfl nint1 rfl rfl 3 _ HA.out ?_; intro w2 h2 ho2; have H2 := Lib.hid h2; have HO2 := Lib.hid ho2; have e0 := h2.cell; have e1 := (HN.out.only ho2 HD.out.1).cells.2.2.2.1; rw [← HXT.out] at e1; have e2 := (HL.out.only ho2 HD.out.2.1).cell; obtain ⟨d0, d1, d2, d3, d4⟩ := HCS.out w2 ho2; clear h2 ho2 x0)
    refine (KP.out w2).mono ?_
    rintro e w3 ⟨rfl, hb3⟩
    have HB3 := Lib.hid hb3
    clear hb3 e0 e1 e2 d0 d1 d2 d3 d4
    cases V with
    | true =>
      go_wp2
      go_ret
      exact ⟨rfl, H2.out.below HB3.out, (But.onlyX HO2.out HD.out.2.2).trans (But.of HB3.out (by have := H2.out.lt; have := HD.out.2.2; omega))⟩
    | false =>
      go_wp2
      go_ret
      exact ⟨rfl, H2.out.below HB3.out, (But.onlyX HO2.out HD.out.2.2).trans (But.of HB3.out (by have := H2.out.lt; have := HD.out.2.2; omega))⟩
  · go_enter Tryz.func63, Tryz.ntmps63
    have HV : Hid ((decide ((at_ : Int) < xt) && partB tk.k (txN tk) p) = false) := Lib.hid (by rw [decide_eq_false hlt, Bool.false_and])
    go_wp2_with (refine store_c1 rfl 3 (.tmp 1) (.tmp 7) rfl ba rfl (.int .i64 ((at_ : Int) + 1)) rfl nint1 rfl rfl 3 _ HA.out ?_; intro w2 h2 ho2; have H2 := Lib.hid h2; have HO2 := Lib.hid ho2; have e0 := h2.cell; have e1 := (HN.out.only ho2 HD.out.1).cells.2.2.2.1; rw [← HXT.out] at e1; clear h2 ho2 x0)
    go_ret
    exact ⟨ret_bool (by rw [HV.out]), H2.out, But.onlyX HO2.out HD.out.2.2⟩

theorem vs_but {k : Nat} {w w' : World} {a : Option Addr} {n c m X Y : Nat} {xs : List Value} {t t' : TypeId} {u u' : Value} (hk : 2 ≤ k) (h : Vs k w a n c xs) (hX : C1 w X t u) (hY : C1 w Y t' u') (hb : But m X Y w w') : Vs k w' a n c xs :=
  ⟨h.hl, h.lc, h.cm, fun h0 => by
    obtain ⟨b, o, ha, hlt, hc⟩ := h.at_ h0
    have hm : 1 * k ≤ n * k := Nat.mul_le_mul_right k h0
    have hne : ∀ (Z : Nat) (s : TypeId) (v : Value), C1 w Z s v → b ≠ Z := by
      intro Z s v hZ e
      subst e
      have h1 := hc 1 (by omega)
      rw [cell_of_row w b (o + 1) _ _ _ hZ, List.getElem?_eq_getElem (by rw [h.hl]; omega)] at h1
      rw [Array.getElem?_eq_none (by simp)] at h1
      cases h1
    refine ⟨b, o, ha, Nat.lt_of_lt_of_le hlt hb.size, fun j hj => ?_⟩
    rw [← hc j hj]
    unfold World.cell?
    rw [hb.s b hlt (hne X t u hX) (hne Y t' u' hY)]⟩
theorem Only.cellOf {g b j : Nat} {w w' : World} (h : Only g w w') (hne : b ≠ g) : w'.cell? ⟨b, j, none⟩ = w.cell? ⟨b, j, none⟩ := by
  unfold World.cell?
  rw [show (w'.heap[b]? = w.heap[b]?) from h.block b hne]
theorem nodes_elem : Tryz.prog.elem 28 = 43 := by kernel_rfl
theorem five {w : World} {q : Nat} {x y z u v : Value} {e : TypeId} (h : w.heap[q]? = some (.cells #[x, y, z, u, v] e (0, 0))) :
    (w.cell? ⟨q, 0, none⟩ = some x ∧ w.cell? ⟨q, 1, none⟩ = some y ∧ w.cell? ⟨q, 2, none⟩ = some z ∧ w.cell? ⟨q, 3, none⟩ = some u ∧ w.cell? ⟨q, 4, none⟩ = some v) ∧ w.frozen? ⟨q, 0, none⟩ = false ∧ w.frozen? ⟨q, 1, none⟩ = false ∧ w.frozen? ⟨q, 2, none⟩ = false ∧ w.frozen? ⟨q, 3, none⟩ = false ∧ w.frozen? ⟨q, 4, none⟩ = false :=
  ⟨⟨cell_of_row w q 0 _ _ _ h, cell_of_row w q 1 _ _ _ h, cell_of_row w q 2 _ _ _ h, cell_of_row w q 3 _ _ _ h, cell_of_row w q 4 _ _ _ h⟩, frozen_of_row w q 0 _ _ h, frozen_of_row w q 1 _ _ h, frozen_of_row w q 2 _ _ h, frozen_of_row w q 3 _ _ h, frozen_of_row w q 4 _ _ h⟩
theorem run_from1 {g o n c : Nat} : ∃ o', (∀ w : World, (Instr.slice 28 (.slice (some ⟨g, o, none⟩) (n + 1) c) (some (.int .i64 1)) none none).run Tryz.prog w = .ok (.slice (some ⟨g, o', none⟩) n (c - 1)) w) ∧ (∀ (w : World) (T : List ND), NdS w (some ⟨g, o, none⟩) (n + 1) c T → NdS w (some ⟨g, o', none⟩) n (c - 1) (T.drop 1)) := by
  refine ⟨if c = 1 then o else o + 1 * 5, fun w => ?_, fun w T h => ?_⟩
  · have := run_l nodes_elem Tryz.underlying28 nd_info (g := g) (off := o) (n := n + 1) (c := c) (l := 1) (by omega) w
    rw [Nat.add_sub_cancel] at this
    exact this
  · have := Vs.from h (l := 1) (by omega)
    rw [Nat.add_sub_cancel, cN_drop] at this
    exact this

set_option maxRecDepth 20000 in
set_option maxHeartbeats 8000000 in
theorem ohole_any (ba bk m : Nat) (at_ : Int) (ka : Option Addr) (n kc : Nat) (x : ND) (K : List ND) (w : World) (hA : C1 w ba 3 (.int .i64 at_)) (hK : C1 w bk 28 (.slice ka (n + 1) kc)) (hS : NdS w ka (n + 1) kc (x :: K)) (h1 : ba ≠ bk) (hm : m ≤ ba) (hm' : m ≤ bk) (hmw : m ≤ w.heap.size) :
    Calls Tryz.prog 65 #[.pointer (some ⟨bk, 0, none⟩), .pointer (some ⟨ba, 0, none⟩)] w fun e w' => e = .returned (.bool (x.f == at_)) ∧ C1 w' ba 3 (.int .i64 x.t) ∧ (∃ ka' kc', C1 w' bk 28 (.slice ka' n kc') ∧ NdS w' ka' n kc' K) ∧ But m ba bk w w' := by
  have HS0 := Lib.hid hS
  obtain ⟨b, o, rfl, _, hc⟩ := hS.at_ (by omega)
  clear hc
  obtain ⟨o', hsl, hsl'⟩ := run_from1 (g := b) (o := o) (n := n) (c := kc)
  have HSL := Lib.hid hsl'
  obtain ⟨c0, c1, c2, c3, c4⟩ := NdS.at5 hS (show 0 < n + 1 by omega)
  rw [show nA (x :: K) 0 = x from rfl, Nat.zero_mul, Nat.add_zero] at c0 c1 c2 c3 c4
  obtain ⟨xk, xn, xf, xt, xc⟩ := x
  dsimp only at c0 c1 c2 c3 c4 ⊢
  obtain ⟨wz, hwz⟩ : ∃ wz, wz = w.alloc (.cells #[.int .i64 0, .string ⟨#[]⟩, .int .i64 0, .int .i64 0, .int .i64 0] 43) := ⟨_, rfl⟩
  have hbz : Below w.heap.size w wz := by rw [hwz]; exact below_alloc w _
  have a0 := hA.cell
  have k0 := hK.cell
  have az := (hA.below hbz).cell
  have kz := (hK.below hbz).cell
  obtain ⟨d0, d1, d2, d3, d4⟩ := NdS.at5 (hS.below hbz) (show 0 < n + 1 by omega)
  rw [show nA (⟨xk, xn, xf, xt, xc⟩ :: K) 0 = ⟨xk, xn, xf, xt, xc⟩ from rfl, Nat.zero_mul, Nat.add_zero] at d0 d1 d2 d3 d4
  dsimp only at d0 d1 d2 d3 d4
  obtain ⟨⟨n0, n1, n2, n3, n4⟩, f0, f1, f2, f3, f4⟩ := five (heap_alloc_new w (.cells #[.int .i64 0, .string ⟨#[]⟩, .int .i64 0, .int .i64 0, .int .i64 0] 43))
  rw [hwz] at az kz d0 d1 d2 d3 d4
  obtain ⟨wx, hwx⟩ : ∃ wx, wx = w.alloc (.cells #[.int .i64 xk, .string (mk xn), .int .i64 xf, .int .i64 xt, .int .i64 xc] 43) := ⟨_, rfl⟩
  have hbx : Below w.heap.size w wx := by rw [hwx]; exact below_alloc w _
  have ax := (hA.below hbx).cell
  have HA := Lib.hid (hA.below hbx)
  have HK := Lib.hid (hK.below hbx)
  have HSX := Lib.hid (hS.below hbx)
  have HBX := Lib.hid hbx
  have HB0 := Lib.hid (And.intro hA.lt hK.lt)
  obtain ⟨G, hG⟩ : ∃ G, G = w.heap.size := ⟨_, rfl⟩
  have HNX : Hid (N5 wx G ⟨xk, xn, xf, xt, xc⟩) := Lib.hid (by rw [hwx, hG]; exact N5.new w ⟨xk, xn, xf, xt, xc⟩)
  have HWX := Lib.hid (And.intro hwx hG)
  rw [hwx] at ax
  clear hA hK hS hbz hwz hsl' hbx hwx hG
  have HH := Lib.hid (And.intro h1 (And.intro hm (And.intro hm' hmw)))
  clear h1 hm hm' hmw
  go_enter Tryz.func65, Tryz.ntmps65
  go_upto_region 1 with fail
  go_region
  rw [← HWX.out.1, ← HWX.out.2]
  clear a0 k0 az kz c0 c1 c2 c3 c4 d0 d1 d2 d3 d4 n0 n1 n2 n3 n4 f0 f1 f2 f3 f4 ax
  have k0 := HK.out.cell
  have kf := HK.out.frozen
  have a0 := HA.out.cell
  have af := HA.out.frozen
  have x3 := HNX.out.cells.2.2.2.1
  have x2 := HNX.out.cells.2.2.1
  dsimp only at x2 x3
  have hne := HH.out.1
  have hne' : bk ≠ ba := fun e => hne e.symm
  have sA : ∀ v, (wx.setCell ⟨bk, 0, none⟩ v).cell? ⟨ba, 0, none⟩ = some (.int .i64 at_) := fun v => ((Only.ofCell wx bk 0 v).cellOf hne).trans a0
  have fA : ∀ v, (wx.setCell ⟨bk, 0, none⟩ v).frozen? ⟨ba, 0, none⟩ = false := fun v => (World.frozen?_setCell ..).trans af
  have sK : ∀ v, (wx.setCell ⟨ba, 0, none⟩ v).cell? ⟨bk, 0, none⟩ = some (.slice (some ⟨b, o, none⟩) (n + 1) kc) := fun v => ((Only.ofCell wx ba 0 v).cellOf hne').trans k0
  have fK : ∀ v, (wx.setCell ⟨ba, 0, none⟩ v).frozen? ⟨bk, 0, none⟩ = false := fun v => (World.frozen?_setCell ..).trans kf
  go_upto_region 1 with fail
  go_region
  obtain ⟨wy, hwy⟩ : ∃ wy, wy = wx.setCell ⟨bk, 0, none⟩ (.slice (some ⟨b, o', none⟩) n (kc - 1)) := ⟨_, rfl⟩
  obtain ⟨w9, hw9⟩ : ∃ w9, w9 = (wy.setCell ⟨ba, 0, none⟩ (.int .i64 xt)).drew.drew := ⟨_, rfl⟩
  have hoy : Only bk wx wy := by rw [hwy]; exact Only.ofCell _ _ _ _
  have hky : C1 wy bk 28 (.slice (some ⟨b, o', none⟩) n (kc - 1)) := by rw [hwy]; exact HK.out.set _
  have hay : C1 wy ba 3 (.int .i64 at_) := HA.out.only hoy hne
  have ho9 : Only ba wy w9 := by
    have h0 := Only.ofCell wy ba 0 (.int .i64 xt)
    rw [hw9]; exact ⟨h0.os, h0.tape, h0.output, h0.size, h0.block⟩
  have hk9 : C1 w9 bk 28 (.slice (some ⟨b, o', none⟩) n (kc - 1)) := hky.only ho9 hne'
  have ha9 : C1 w9 ba 3 (.int .i64 xt) := by rw [hw9]; exact hay.set _
  have hGG : G ≠ bk ∧ G ≠ ba := by
    have := HWX.out.2
    have h3 := HB0.out
    omega
  have hx9 := (((HNX.out.only hoy hGG.1).only ho9 hGG.2).cells).2.2.1
  dsimp only at hx9
  have HB9 : Hid (But m ba bk w w9) := Lib.hid ((But.of HBX.out HH.out.2.2.2).trans ((But.onlyY hoy HH.out.2.2.1).trans (But.onlyX ho9 HH.out.2.1)))
  have HXY : Hid (But m ba bk wx w9) := Lib.hid ((But.onlyY hoy HH.out.2.2.1).trans (But.onlyX ho9 HH.out.2.1))
  have HK9 := Lib.hid hk9
  have HA9 := Lib.hid ha9
  rw [← hwy, ← hw9]
  clear hwy hw9 hoy hky hay ho9 hk9 ha9 hGG k0 kf a0 af x2 x3 hne hne' sA fA sK fK
  go_wp2
  go_ret
  exact ⟨rfl, HA9.out, ⟨_, _, HK9.out, HSL.out _ _ (vs_but (by omega) HSX.out HA.out HK.out HXY.out)⟩, HB9.out⟩

end Go.Proofs.YtkaeanaeklilfaaGreatDoor
