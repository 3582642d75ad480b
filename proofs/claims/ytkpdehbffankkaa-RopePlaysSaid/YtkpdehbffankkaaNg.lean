/- A rope in memory; what is kept of it; Len; a spot: has, find. -/
import Derived.Test.YtkpdehbffankkaaNe
namespace Go.Proofs.Ytkpdehbffankkaa
open Go.RowKit

def ropeC (t : PT) (e : Nat) (sv : Value) (dn dp : Int) : Array Value := #[t.v, .int .i64 e, sv, .int .u32 dn, .int .i32 0, .int .u32 0, .int .i64 dp]

/-- A spot: nil, or some of the bytes. -/
def Spot (w : World) (L : List Int) (sv : Value) : Prop :=
  sv = .pointer none ∨ ∃ g f m, sv = .pointer (some ⟨g, 0, none⟩) ∧ f + m ≤ L.length ∧ w.heap[g]? = some (.cells #[.int .i64 (f : Nat), .string (bstr (sub L f (f + m)))] 83 (0, 0))

/-- A rope of the parts t stands in block b. -/
structure RP (w : World) (b : Nat) (t : PT) (e : Nat) (sv : Value) (dn dp : Int) : Prop where
  blk : w.heap[b]? = some (.cells (ropeC t e sv dn dp) 73 (0, 0))
  okt : t.ok w
  e9 : e ≤ 9
  dle : t.d ≤ 6 + 2 * e
  len : t.l.length ≤ 2048
  spot : Spot w t.l sv
  done : dn = 0 ∨ (dn = 1 ∧ dp = t.d)

theorem Spot.kt {w w' : World} {L : List Int} {sv : Value} (hk : PT.Kt w w') (h : Spot w L sv) : Spot w' L sv := by
  rcases h with h | ⟨g, f, m, h1, h2, h3⟩
  · exact .inl h
  · exact .inr ⟨g, f, m, h1, h2, hk g _ _ _ h3 (.inr rfl)⟩

variable {w w' : World} {b : Nat} {t : PT} {e : Nat} {sv : Value} {dn dp : Int}

theorem RP.kt (h : RP w b t e sv dn dp) (hk : PT.Kt w w') (hb : w'.heap[b]? = w.heap[b]?) : RP w' b t e sv dn dp :=
  ⟨hb.trans h.blk, h.okt.kt hk, h.e9, h.dle, h.len, h.spot.kt hk, h.done⟩

theorem RP.lt (h : RP w b t e sv dn dp) : b < w.heap.size := (Array.getElem?_eq_some_iff.1 h.blk).1

theorem RP.below (h : RP w b t e sv dn dp) (hb : Below w.heap.size w w') : RP w' b t e sv dn dp := h.kt (PT.Kt.below hb) (hb.block b h.lt)

/-- A rope's own block may be written: no part and no spot is. -/
theorem RP.ktg (h : RP w b t e sv dn dp) (hg : w.grownBy w' (some b)) : PT.Kt w w' := by
  intro k c x m h1 h2
  refine (hg.block k (Array.getElem?_eq_some_iff.1 h1).1 ?_).trans h1
  intro hk
  simp only [Option.some.injEq] at hk
  subst hk
  have := h1.symm.trans h.blk
  simp only [Option.some.injEq, Obj.cells.injEq] at this
  rcases h2 with h2 | h2 <;> (rw [h2] at this; exact absurd this.2.1 (by decide))

theorem RP.c0 (h : RP w b t e sv dn dp) : w.cell? ⟨b, 0, none⟩ = some t.v := by simp [World.cell?, h.blk, ropeC]
theorem RP.c1 (h : RP w b t e sv dn dp) : w.cell? ⟨b, 1, none⟩ = some (.int .i64 e) := by simp [World.cell?, h.blk, ropeC]
theorem RP.c2 (h : RP w b t e sv dn dp) : w.cell? ⟨b, 2, none⟩ = some sv := by simp [World.cell?, h.blk, ropeC]
theorem RP.c3 (h : RP w b t e sv dn dp) : w.cell? ⟨b, 3, none⟩ = some (.int .u32 dn) := by simp [World.cell?, h.blk, ropeC]
theorem RP.c4 (h : RP w b t e sv dn dp) : w.cell? ⟨b, 4, none⟩ = some (.int .i32 0) := by simp [World.cell?, h.blk, ropeC]
theorem RP.c6 (h : RP w b t e sv dn dp) : w.cell? ⟨b, 6, none⟩ = some (.int .i64 dp) := by simp [World.cell?, h.blk, ropeC]
theorem RP.fz (h : RP w b t e sv dn dp) (j : Nat) : w.frozen? ⟨b, j, none⟩ = false := by simp [World.frozen?, h.blk]

theorem len_any (h : RP w b t e sv dn dp) : Calls Try.prog 20 #[.pointer (some ⟨b, 0, none⟩)] w fun r w' => r = .returned (.int .i64 t.l.length) ∧ w = w' := by
  have c0 := h.c0
  by_cases ht : t.v = .pointer none
  · obtain rfl := PT.v_nil t h.okt ht
    rw [ht] at c0
    clear h
    go_enter Try.func20, Try.ntmps20
    go_wp2
    go_ret
    exact ⟨rfl, rfl⟩
  · obtain ⟨x, hx, c3⟩ := v_addr h.okt ht
    rw [hx] at c0
    clear h
    go_enter Try.func20, Try.ntmps20
    go_wp2
    go_ret
    exact ⟨rfl, rfl⟩

theorem neq_nil (w : World) : (binOp .neq 55 (.pointer none) (.pointer none)).run Try.prog w = .ok (.bool false) w := by
  have h : ∀ d : Nat, (Op.equalIn (d + 1) 55 (.pointer none) (.pointer none)).run Try.prog w = .ok true w := fun d => by
    simp [Op.equalIn, run_underlying (P := Try.prog) Try.underlying55, samePointer]
  simp only [binOp]
  simp [Op.equal, Op.maxDepth, h 9999]

theorem neq_some (w : World) (a : Addr) : (binOp .neq 55 (.pointer (some a)) (.pointer none)).run Try.prog w = .ok (.bool true) w := by
  have h : ∀ d : Nat, (Op.equalIn (d + 1) 55 (.pointer (some a)) (.pointer none)).run Try.prog w = .ok false w := fun d => by
    simp [Op.equalIn, run_underlying (P := Try.prog) Try.underlying55, samePointer]
  simp only [binOp]
  simp [Op.equal, Op.maxDepth, h 9999]

theorem has_nil (i : Nat) (w : World) : Calls Try.prog 29 #[.pointer none, .int .i64 i] w fun r w' => r = .returned (.bool false) ∧ Below w.heap.size w w' ∧ w'.heap = w.heap := by
  have kn := neq_nil
  go_enter Try.func29, Try.ntmps29
  go_wp2
  go_quiet (fail)
  go_wp2
  go_ret
  exact ⟨rfl, below_drewN (Below.refl _ _) _, rfl⟩

theorem has_some (i g f : Nat) (S : List Int) (w : World) (hi : i ≤ 4000000) (hf : f ≤ 4000000) (h0 : w.cell? ⟨g, 0, none⟩ = some (.int .i64 f)) (h1 : w.cell? ⟨g, 1, none⟩ = some (.string (bstr S))) :
    Calls Try.prog 29 #[.pointer (some ⟨g, 0, none⟩), .int .i64 i] w fun r w' => r = .returned (.bool (decide (f ≤ i) && decide (i - f < S.length))) ∧ Below w.heap.size w w' ∧ w'.heap = w.heap := by
  have kn := neq_some
  have hs := PT.bstr_size S
  have k1 : IntKind.i64.wrap ((i : Int) - (f : Int)) = (i : Int) - (f : Int) := by rw [IntKind.wrap_i64]; omega
  obtain ⟨m, hm⟩ : ∃ m, S.length = m := ⟨_, rfl⟩
  rw [hm] at hs ⊢
  clear hm
  by_cases hfi : f ≤ i
  · have hd0 : decide (f ≤ i) = true := by simpa using hfi
    by_cases hlt : i - f < m
    · have hd : decide ((i : Int) - (f : Int) < (m : Int)) = true := by simp; omega
      go_enter Try.func29, Try.ntmps29
      go_wp2
      go_quiet (fail)
      go_wp2
      go_ret
      exact ⟨ret_bool (by simp [hfi, hlt]), below_drewN (Below.refl _ _) _, rfl⟩
    · have hd : decide ((i : Int) - (f : Int) < (m : Int)) = false := by simp; omega
      go_enter Try.func29, Try.ntmps29
      go_wp2
      go_quiet (fail)
      go_wp2
      go_ret
      exact ⟨ret_bool (by simp [hfi, hlt]), below_drewN (Below.refl _ _) _, rfl⟩
  · have hd0 : decide (f ≤ i) = false := by simpa using hfi
    go_enter Try.func29, Try.ntmps29
    go_wp2
    go_quiet (fail)
    go_wp2
    go_ret
    exact ⟨ret_bool (by simp [hfi]), below_drewN (Below.refl _ _) _, rfl⟩

end Go.Proofs.Ytkpdehbffankkaa
