import Derived.Test.YtcjbhdgjcpnklaaGreatDoorN03
namespace Go.Proofs.YtcjbhdgjcpnklaaGreatDoor
section
open Go.RowKit
section
variable {L : List OP} {z : List Int} {tok tok' : List TK}
end
end
section
open Go.RowKit
section
variable {L : List OP} {z : List Int} {tok : List TK}
theorem zS0 {o : OP} {x : Nm} (hs : ofS o.1 = some ⟨[x], true, true⟩) {a b n : Nat} {l : List ND} (h : Dv L z tok (.it o (itemsL ⟨[x], true, true⟩) true) a b l n) :
  ∃ f u t v t', Dv L z tok .tr a f (u :: t) 1 ∧ mayH L z o u false = true ∧ partB (tat tok f).k (txN (tat tok f)) x = true ∧ Dv L z tok .tr (f + 1) b (v :: t') 1 ∧ mayH L z o v true = true ∧ f < tok.length := by
 have hx := ((zAc hs).2 x (by simp)).1
 have e : itemsL ⟨[x], true, true⟩ = [[], x, []] := rfl
 rw [e] at h
 cases h with
 | part h => exact absurd rfl h
 | @hole _ _ _ _ f _ n u t l h1 m1 _ h2 =>
  cases h2 with
  | hole => exact absurd rfl hx
  | part _ hf hp h3 =>
   cases h3 with
   | part h => exact absurd rfl h
   | @hole _ _ _ _ c _ n v t' l h4 _ m2 h5 =>
    cases h5
    exact ⟨f, u, t, v, t', h1, m1 rfl, hp, h4, m2 rfl, hf⟩
theorem zS1 (hz : RowsOk z) {o : OP} {s : SH} (hs : ofS o.1 = some s) (hh : s.l = true ∨ s.r = true) (right : Bool) : fitsB z o o right = (endB s right && o.2.2 == sideV right) := by
 rw [zEz hs hs]
 have h1 : tgt z o.2.1 o.2.1 = false := by
  rw [Bool.eq_false_iff]; exact fun h => zRs hz h
 have h2 : (!s.l && !s.r) = false := by rcases hh with h | h <;> rw [h] <;> simp
 rw [h1, h2, beq_self_eq_true, Bool.and_self]; rfl
theorem zS2 (o : OP) : findO [o] o.1 = some o := by unfold findO; simp
theorem zRY {o : OP} (hno : ∀ a, a < tok.length → (tat tok a).k = 6 → txN (tat tok a) ≠ [40]) {a b : Nat} {x : ND} {t : List ND} (h : Dv [o] z tok .tr a b (x :: t) 1) (hb : a + 1 < b) : x.k = 3 ∧ x.n = o.1 ∧ ∃ s l n, ofS o.1 = some s ∧ Dv [o] z tok (.it o (itemsL s) true) a b l n := by
 cases h with
 | leaf => omega
 | @paren _ b t hbl k1 t1 k2 t2 hd =>
  have := zB3 hd
  exact absurd t1 (hno a (by omega) k1)
 | @oper _ _ n o' s l ho hs hab hd =>
  have h1 := List.mem_singleton.1 (zAq ho).1
  subst h1
  exact ⟨rfl, rfl, s, _, n, hs, hd⟩
theorem zTy {o : OP} (hz : RowsOk z) (hs : ofS o.1 = some ⟨[[43]], true, true⟩) (ha : o.2.2 ≠ 1 ∧ o.2.2 ≠ 2) (hno : ∀ a, a < tok.length → (tat tok a).k = 6 → txN (tat tok a) ≠ [40]) (hl : 4 ≤ tok.length) (u : List ND) : ¬ Dv [o] z tok .tr 0 tok.length u 1 := by
 intro h
 obtain ⟨x, t, rfl, _⟩ := (zCs h).2.1
 obtain ⟨_, _, s, l, n, hs', hd⟩ := zRY hno h (by omega)
 rw [hs] at hs'; cases hs'
 obtain ⟨f, u, t1, v, t2, d1, m1, _, d2, m2, _⟩ := zS0 hs hd
 have g1 := zB3 d1
 have g2 := zB3 d2
 have no : ∀ rt, fitsB z o o rt = false := fun rt => by
  rw [zS1 hz hs (.inl rfl)]
  cases rt
  ·show (true && (o.2.2 == 1)) = false
   rw [Bool.true_and]; simpa using ha.1
  ·show (true && (o.2.2 == 2)) = false
   rw [Bool.true_and]; simpa using ha.2
 have key : ∀ {a b : Nat} {x : ND} {t : List ND} {rt : Bool}, Dv [o] z tok .tr a b (x :: t) 1 → a + 1 < b → mayH [o] z o x rt = true → False := fun hd hb hm => by
  obtain ⟨h1, h2, _⟩ := zRY hno hd hb
  have := zMg h1 (by rw [h2]; exact zS2 o) hm
  rw [no] at this; cases this
 by_cases hf : 1 < f
 ·exact key d1 (by omega) m1
 ·exact key d2 (by omega) m2
end
end
end Go.Proofs.YtcjbhdgjcpnklaaGreatDoor
