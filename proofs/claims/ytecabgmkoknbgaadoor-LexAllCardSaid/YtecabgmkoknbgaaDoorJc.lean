/- Contracts of package lex's smallest functions: written, behind, same. -/
import Derived.Test.YtecabgmkoknbgaaDoorJa
import Derived.Test.YtecabgmkoknbgaaDoorQp
namespace Go.Proofs.YtecabgmkoknbgaaDoor
open Go.RowKit

theorem behind_any (t : TK) (w : World) :
    Calls Tryd.prog 19 #[.agg #[.int .i64 t.k, .int .i64 t.f, .int .i64 t.t, .string t.s, .int .i64 t.e]] w fun e w' => e = .returned (.int .u8 (sepT t.k)) ∧ Below w.heap.size w w' := by
  obtain ⟨k, f, t, s, e⟩ := t
  simp only
  have HW : Hid (Below w.heap.size w (w.alloc (.cells #[.int .i64 k, .int .i64 f, .int .i64 t, .string s, .int .i64 e] 34))) := Lib.hid ((Below.refl _ _).alloc (Nat.le_refl _) _)
  by_cases h : k = 7
  · subst h
    go_enter Tryd.func19, Tryd.ntmps19
    go_wp2
    go_ret
    exact ⟨rfl, HW.out⟩
  · have hb : (k == 7) = false := by simpa using h
    have hs : sepT k = 32 := by unfold sepT; rw [if_neg h]
    rw [hs]
    clear h hs
    go_enter Tryd.func19, Tryd.ntmps19
    go_wp2
    go_ret
    exact ⟨rfl, HW.out⟩

theorem written_any (t : TK) (w : World) (ht : Tab w) (hs : (sb t.s).length ≤ 400000) :
    Calls Tryd.prog 18 #[.agg #[.int .i64 t.k, .int .i64 t.f, .int .i64 t.t, .string t.s, .int .i64 t.e]] w fun e w' => ∃ a c, e = .returned (.tuple #[.slice a (wrT t.k (sb t.s)).length c, .int .i64 (wrE t.k (sb t.s))]) ∧ Bs w' a (wrT t.k (sb t.s)).length c (wrT t.k (sb t.s)) ∧ Below w.heap.size w w' := by
  obtain ⟨k, f, t, s, e⟩ := t
  simp only at hs ⊢
  have HW : Hid (Below w.heap.size w (w.alloc (.cells #[.int .i64 k, .int .i64 f, .int .i64 t, .string s, .int .i64 e] 34))) := Lib.hid ((Below.refl _ _).alloc (Nat.le_refl _) _)
  have HT := Lib.hid ht
  clear ht
  obtain ⟨g1, C1, W1, kc1, hB1, hb1⟩ := conv_str (w.alloc (.cells #[.int .i64 k, .int .i64 f, .int .i64 t, .string s, .int .i64 e] 34)) s (sb s) (bstr_sb s).symm (sb_rng s) (by omega)
  have HB1 := Lib.hid hB1
  have HW1 : Hid (Below w.heap.size w W1) := Lib.hid (HW.out.trans (hb1.mono HW.out.size))
  clear hB1 hb1
  obtain ⟨m, hm⟩ : ∃ m, m = (sb s).length := ⟨_, rfl⟩
  have HM := Lib.hid hm
  rw [← hm] at kc1 hs
  have HB1' := HB1.out
  rw [← hm] at HB1'
  have HB := Lib.hid HB1'
  clear hm HB1' HB1
  by_cases h : k = 5
  · subst h
    go_enter Tryd.func18, Tryd.ntmps18
    go_wp2_with fail
    refine (qput_any _ _ _ (sb s) _ HB.out (HT.out.keep HW1.out) hs).mono ?_
    rintro e2 w2 ⟨a2, c2, rfl, ho2, hb2⟩
    have HO2 := Lib.hid ho2.bs
    have HW2 : Hid (Below w.heap.size w w2) := Lib.hid (HW1.out.trans (hb2.mono HW1.out.size))
    clear ho2 hb2
    go_wp2
    go_ret2
    exact ⟨a2, c2, rfl, HO2.out, HW2.out⟩
  · have hb : (k == 5) = false := by simpa using h
    have hw : wrT k (sb s) = sb s := by unfold wrT; rw [if_neg h]
    have he : wrE k (sb s) = 0 := by unfold wrE; rw [if_neg h]
    rw [hw, he]
    clear h hw he
    go_enter Tryd.func18, Tryd.ntmps18
    go_wp2
    go_ret2
    exact ⟨_, C1, by rw [HM.out]; rfl, by rw [← HM.out]; exact HB.out, HW1.out⟩

/-- Of the same kind, which is not bad, and the same text. -/
def sameT (t u : TK) : Bool := t.k == u.k && (t.s.toList == u.s.toList && t.k != 8)

theorem same1_any (t u : TK) (w : World) :
    Calls Tryd.prog 21 #[.agg #[.int .i64 t.k, .int .i64 t.f, .int .i64 t.t, .string t.s, .int .i64 t.e], .agg #[.int .i64 u.k, .int .i64 u.f, .int .i64 u.t, .string u.s, .int .i64 u.e]] w fun e w' => e = .returned (.bool (sameT t u)) ∧ Below w.heap.size w w' := by
  obtain ⟨k, f, t, s, e⟩ := t
  obtain ⟨k', f', t', s', e'⟩ := u
  unfold sameT
  simp only
  have HW : Hid (Below w.heap.size w ((w.alloc (.cells #[.int .i64 k, .int .i64 f, .int .i64 t, .string s, .int .i64 e] 34)).alloc (.cells #[.int .i64 k', .int .i64 f', .int .i64 t', .string s', .int .i64 e'] 34))) := Lib.hid (((Below.refl _ _).alloc (Nat.le_refl _) _).alloc (by simp) _)
  cases h1 : k == k' with
  | false =>
    go_enter Tryd.func21, Tryd.ntmps21
    go_wp2
    go_ret
    exact ⟨rfl, HW.out⟩
  | true =>
    cases h2 : s.toList == s'.toList with
    | false =>
      go_enter Tryd.func21, Tryd.ntmps21
      go_wp2
      go_ret
      exact ⟨rfl, HW.out⟩
    | true =>
      cases h3 : k != 8 with
      | false =>
        go_enter Tryd.func21, Tryd.ntmps21
        go_wp2
        go_ret
        exact ⟨rfl, HW.out⟩
      | true =>
        go_enter Tryd.func21, Tryd.ntmps21
        go_wp2
        go_ret
        exact ⟨rfl, HW.out⟩

end Go.Proofs.YtecabgmkoknbgaaDoor
