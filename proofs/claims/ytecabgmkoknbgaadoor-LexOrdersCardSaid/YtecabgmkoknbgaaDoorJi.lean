/- LexOrders' walk. -/
import Derived.Test.YtecabgmkoknbgaaDoorJh
import Derived.Deep.QuietTactic
import Derived.BigQuiet
namespace Go.Proofs.YtecabgmkoknbgaaDoor
open Go.RowKit

/-- The next one of the tokens. -/
theorem lx_next {l : List Int} {k p : Nat} (hr : ∀ x ∈ l, 0 ≤ x ∧ x ≤ 255) (hp : p ≤ l.length) (h : (lx l p).map tkOf = (toks l).drop k) (hk : k < (toks l).length) :
    ∃ f q : Nat, (tat (toks l) k).f = (f : Int) ∧ (tat (toks l) k).t = (q : Int) ∧ p ≤ f ∧ f < q ∧ q ≤ l.length ∧ (lx l q).map tkOf = (toks l).drop (k + 1) := by
  rw [tat_drop hk] at h
  cases hn : nx l p with
  | none => rw [lx_none hn] at h; simp at h
  | some x =>
    obtain ⟨f, t⟩ := x
    obtain ⟨h1, h2, h3⟩ := nx_lim hp hr hn
    rw [lx_some hp hr hn, List.map_cons, List.cons.injEq] at h
    exact ⟨f, f + t.n, by rw [← h.1]; rfl, by rw [← h.1]; rfl, h1, by omega, h3, h.2⟩

set_option maxRecDepth 100000 in
set_option maxHeartbeats 2000000 in
theorem lexOrders_any (a : Option Addr) (len cap : Nat) (l : List Int) (w : World) (h : Bs w a len cap l) (ht : Tab w) :
    Calls Tryd.prog 4 #[.slice a len cap] w fun e w' => e = .returned (.bool true) ∧ Below w.heap.size w w' := by
  have hb := few_bs h
  have H := Lib.hid h
  have HT := Lib.hid ht
  obtain ⟨L, hL⟩ : ∃ L, L = l.take 200 := ⟨_, rfl⟩
  obtain ⟨m, hm⟩ : ∃ m, m = min len 200 := ⟨_, rfl⟩
  rw [← hL, ← hm] at hb
  have hm1 : m ≤ 200 := by omega
  have HM := Lib.hid hm
  have HLL := Lib.hid hb.hl
  have HB := Lib.hid hb
  have HR := Lib.hid hb.rng
  clear h ht hL hm hb
  go_enter Tryd.func4, Tryd.ntmps4
  go_wp2_with fail
  refine (shown_any _ HT.out).mono ?_
  rintro e w1 ⟨rfl, hb1⟩
  have HW1 := Lib.hid hb1
  clear hb1
  go_wp2_with fail
  refine (few_any _ _ _ _ _ (H.out.below HW1.out)).mono ?_
  rintro e w' ⟨rfl, rfl⟩
  rw [← HM.out]
  go_wp2_with fail
  refine (all_any _ _ _ L _ (HB.out.below HW1.out) (HT.out.keep HW1.out) (by omega)).mono ?_
  rintro e w2 ⟨a2, rfl, hr2, hb2⟩
  have HW2 : Hid (Below w.heap.size w w2) := Lib.hid (HW1.out.trans (hb2.mono HW1.out.size))
  obtain ⟨T, hT⟩ : ∃ T, T = toks L := ⟨_, rfl⟩
  rw [← hT] at hr2 ⊢
  obtain ⟨n, hn⟩ : ∃ n, n = T.length := ⟨_, rfl⟩
  rw [← hn] at hr2 ⊢
  have HR2 := Lib.hid hr2.ts
  have HTN := Lib.hid (And.intro hT hn)
  have hnm : n ≤ 200 := by have := (toks_fl HR.out).2; rw [← hT, ← hn, HLL.out] at this; omega
  clear hr2 hb2 hT hn
  go_wp2
  go_loopw [5, 7] (fun v i wr => ∃ k p : Nat, v = .int .i64 p ∧ i = .int .i64 k ∧ k ≤ n ∧ p ≤ m ∧ Hid ((lx L p).map tkOf = T.drop k) ∧ Hid (Below w2.heap.size w2 wr)) (fun _ i _ => n - (intOf i).toNat)
  case atStart => exact ⟨0, 0, rfl, rfl, by omega, by omega, Lib.hid (by rw [HTN.out.1]; rfl), Lib.hid (Below.refl _ _)⟩
  case round =>
    obtain ⟨k, p, rfl, rfl, hk, hp, HP, HB3⟩ := hrel
    by_cases hlt : k < n
    · have hb := HR2.out.below HB3.out
      obtain ⟨b, off, rfl, _, _⟩ := hb.at_ (by omega)
      obtain ⟨d0, d1, d2, d3, d4⟩ := hb.at5 hlt
      have hx := HP.out
      rw [HTN.out.1] at hx
      obtain ⟨f, q, x1, x2, x3, x4, x5, x6⟩ := lx_next HR.out (by rw [HLL.out]; exact hp) hx (by rw [← HTN.out.1, ← HTN.out.2]; exact hlt)
      rw [← HTN.out.1] at x1 x2 x6
      rw [HLL.out] at x5
      rw [x1] at d1
      rw [x2] at d2
      have HX := Lib.hid x6
      have hA : decide ((f : Int) < (p : Int)) = false := decide_eq_false (by omega)
      have hB : decide ((q : Int) ≤ (f : Int)) = false := decide_eq_false (by omega)
      have hC : decide ((m : Int) < (q : Int)) = false := decide_eq_false (by omega)
      clear hb hx x1 x2 x6 d0 d3 d4
      go_wp2_with fail
      go_quiet (fail)
      go_wp2
      go_roundw
      case rel => exact ⟨k + 1, q, rfl, by go_num, by omega, x5, HX, Lib.hid (below_drewN HB3.out _)⟩
      case measure => simp [intOf]; omega
    · have hkl : k = n := by omega
      go_wp2
      go_ret
      exact ⟨rfl, HW2.out.trans (HB3.out.mono HW2.out.size)⟩

end Go.Proofs.YtecabgmkoknbgaaDoor
