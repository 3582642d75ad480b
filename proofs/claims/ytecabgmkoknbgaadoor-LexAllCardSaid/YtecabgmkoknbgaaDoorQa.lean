/- Contracts of package quote's own: quoted, escaped. -/
import Derived.Test.YtecabgmkoknbgaaDoorQm
import Derived.Test.YtecabgmkoknbgaaDoorM2
import Derived.Test.YtecabgmkoknbgaaDoorM1
import Derived.Lib.Hide
namespace Go.Proofs.YtecabgmkoknbgaaDoor
open Go.RowKit

theorem cls_quote {c : Int} (h0 : 0 ≤ c) (h1 : c ≤ 255) : cls c = 7 ↔ c = 39 := by
  obtain ⟨n, rfl⟩ := Int.eq_ofNat_of_zero_le h0
  have := (by decide +kernel : ∀ n : Nat, n < 256 → (cls (n : Int) = 7 ↔ (n : Int) = 39)) n (by omega)
  exact this

set_option maxHeartbeats 400000 in
theorem quoted_any (a : Option Addr) (len cap : Nat) (l : List Int) (w : World) (h : Bs w a len cap l) (ht : Tab w) :
    Calls Tryd.prog 50 #[.slice a len cap] w fun e w' => e = .returned (.bool (decide (bt l 0 = 39))) ∧ Below w.heap.size w w' := by
  have hm := h.lt
  unfold maxLen at hm
  by_cases h0 : len = 0
  · subst h0
    have hl : l = [] := List.eq_nil_of_length_eq_zero h.hl
    subst hl
    clear h ht
    go_enter Tryd.func50, Tryd.ntmps50
    go_wp2
    go_ret
    exact ⟨rfl, Below.refl _ _⟩
  · obtain ⟨b, off, rfl, hbl, hc⟩ := h.at_ (by omega)
    have hpos : 0 < len := by omega
    have hc0 : w.cell? ⟨b, off, none⟩ = some (.int .u8 (bt l 0)) := hc 0 (by omega)
    have hr := bt_rng h.rng 0
    have hq := cls_quote hr.1 hr.2
    have HQ : Hid ((cls (bt l 0) == 7) = decide (bt l 0 = 39)) := Lib.hid (by
      by_cases h39 : bt l 0 = 39
      · rw [hq.2 h39, h39]; rfl
      · have : cls (bt l 0) ≠ 7 := fun hh => h39 (hq.1 hh)
        simp [this, h39])
    have HR := Lib.hid hr
    have HT := Lib.hid ht
    clear h hc hq hr ht h0
    go_enter Tryd.func50, Tryd.ntmps50
    go_wp2_with (first | (go_at_call 42; refine (of_any _ _ HT.out HR.out.1 HR.out.2).mono ?_; rintro e w' ⟨rfl, hb⟩; have HB := Lib.hid hb; clear hb))
    go_ret
    exact ⟨by rw [← HQ.out]; rfl, HB.out⟩

/-- What escaped tells of the bytes behind a backslash. -/
def escV (l : List Int) : Value := if bt l 0 = 110 then .tuple #[.int .u8 10, .bool true] else if bt l 0 = 92 ∨ bt l 0 = 39 then .tuple #[.int .u8 (bt l 0), .bool true] else .tuple #[.int .u8 0, .bool false]

set_option maxHeartbeats 400000 in
theorem escaped_any (a : Option Addr) (len cap : Nat) (l : List Int) (w : World) (h : Bs w a len cap l) :
    Calls Tryd.prog 51 #[.slice a len cap] w fun e w' => e = .returned (escV l) ∧ w = w' := by
  have hm := h.lt
  unfold maxLen at hm
  by_cases h0 : len = 0
  · subst h0
    have hl : l = [] := List.eq_nil_of_length_eq_zero h.hl
    subst hl
    clear h
    go_enter Tryd.func51, Tryd.ntmps51
    go_wp2
    go_ret2
    exact ⟨rfl, rfl⟩
  · obtain ⟨b, off, rfl, hbl, hc⟩ := h.at_ (by omega)
    have hpos : 0 < len := by omega
    have hz : ((len : Int) == 0) = false := by simp; omega
    have hc0 : w.cell? ⟨b, off, none⟩ = some (.int .u8 (bt l 0)) := hc 0 (by omega)
    clear h hc h0
    by_cases h1 : bt l 0 = 110
    · have HV : Hid (escV l = .tuple #[.int .u8 10, .bool true]) := Lib.hid (by unfold escV; rw [if_pos h1])
      go_enter Tryd.func51, Tryd.ntmps51
      go_wp2
      go_ret2
      exact ⟨by rw [HV.out]; rfl, rfl⟩
    · have e1 : (bt l 0 == 110) = false := by simpa using h1
      by_cases h2 : bt l 0 = 92
      · have HV : Hid (escV l = .tuple #[.int .u8 (bt l 0), .bool true]) := Lib.hid (by unfold escV; rw [if_neg h1, if_pos (Or.inl h2)])
        have e2 : (bt l 0 == 92) = true := by simpa using h2
        clear h1 h2
        go_enter Tryd.func51, Tryd.ntmps51
        go_wp2
        go_ret2
        exact ⟨by rw [HV.out]; rfl, rfl⟩
      · have e2 : (bt l 0 == 92) = false := by simpa using h2
        by_cases h3 : bt l 0 = 39
        · have HV : Hid (escV l = .tuple #[.int .u8 (bt l 0), .bool true]) := Lib.hid (by unfold escV; rw [if_neg h1, if_pos (Or.inr h3)])
          have e3 : (bt l 0 == 39) = true := by simpa using h3
          clear h1 h2 h3
          go_enter Tryd.func51, Tryd.ntmps51
          go_wp2
          go_ret2
          exact ⟨by rw [HV.out]; rfl, rfl⟩
        · have HV : Hid (escV l = .tuple #[.int .u8 0, .bool false]) := Lib.hid (by unfold escV; rw [if_neg h1, if_neg (by omega)])
          have e3 : (bt l 0 == 39) = false := by simpa using h3
          clear h1 h2 h3
          go_enter Tryd.func51, Tryd.ntmps51
          go_wp2
          go_ret2
          exact ⟨by rw [HV.out]; rfl, rfl⟩

end Go.Proofs.YtecabgmkoknbgaaDoor
