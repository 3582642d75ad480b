import Derived.Test.YtcjbhdgjcpnklaaGreatDoorV18
import Derived.Laws.StructEq
import Derived.Test.YtcjbhdgjcpnklaaGreatDoorV21
import Derived.Test.YtcjbhdgjcpnklaaGreatDoorN01
namespace Go.Proofs.YtcjbhdgjcpnklaaGreatDoor
section
open Go.RowKit
theorem zPL (n : Nat) (s s' : ByteArray) (g g' a a' : Int) (w : World) :
  (Op.equalIn (n + 2) 38 (.agg #[.string s, .int .i64 g, .int .i64 a]) (.agg #[.string s', .int .i64 g', .int .i64 a'])).run Tryz.prog w = .ok ((s.toList == s'.toList) && ((g == g') && (a == a'))) w := by
 have hu : Tryz.prog.underlying 38 = some (.struct (Tryz.prog.fieldsOf 38)) := by
  unfold Program.fieldsOf
  rw [Tryz.underlying38]
 rw [run_equalIn_struct w (n + 1) 38 _ _ hu (by kernel_rfl)]
 unfold Program.fieldsOf
 rw [Tryz.underlying38]
 have p0 : ∀ w (b c : Value) (q : ByteArray), (part 9 #[.string q, b, c] 0).run Tryz.prog w = .ok (.string q) w := fun _ _ _ _ => by kernel_rfl
 have p1 : ∀ w (b c : Value) (q : ByteArray), (part 3 #[.string q, b, c] 1).run Tryz.prog w = .ok b w := fun _ _ _ _ => by kernel_rfl
 have p2 : ∀ w (b c : Value) (q : ByteArray), (part 3 #[.string q, b, c] 2).run Tryz.prog w = .ok c w := fun _ _ _ _ => by kernel_rfl
 have e1 : ∀ w (a b : Int), (Op.equalIn (n + 1) 3 (.int .i64 a) (.int .i64 b)).run Tryz.prog w = .ok (a == b) w := fun w a b => run_equalIn_int w n _ _ _ a b Tryz.underlying3
 have e3 : ∀ w (a b : ByteArray), (Op.equalIn (n + 1) 9 (.string a) (.string b)).run Tryz.prog w = .ok (a.toList == b.toList) w := fun w a b => run_equalIn_string w n _ a b Tryz.underlying9
 simp only [Op.eqFields, Sem.run_bind, Sem.run_ite, p0, p1, p2, e1, e3, Result.andThen_ok, Sem.run_pure, ne_eq, String.reduceEq, not_false_eq_true, if_true]
 cases (s.toList == s'.toList) <;> cases g == g' <;> cases a == a' <;> rfl
theorem zQT (n : Nat) (o o' : OP) (w : World) :
  (Op.equalIn (n + 2) 38 (.agg #[.string (mk o.1), .int .i64 o.2.1, .int .i64 o.2.2]) (.agg #[.string (mk o'.1), .int .i64 o'.2.1, .int .i64 o'.2.2])).run Tryz.prog w = .ok (decide (o = o')) w := by
 rw [zPL, mk_toList, mk_toList]
 congr 1
 obtain ⟨p, g, a⟩ := o
 obtain ⟨p', g', a'⟩ := o'
 rw [Bool.eq_iff_iff, decide_eq_true_eq]
 simp [Prod.ext_iff]
theorem zQU (x y : EN) (w : World) :
  (Op.equalIn 10000 72 (.agg #[.string (mk x.1.1), .int .i64 x.1.2.1, .int .i64 x.1.2.2, .int .i64 x.2]) (.agg #[.string (mk y.1.1), .int .i64 y.1.2.1, .int .i64 y.1.2.2, .int .i64 y.2])).run Tryz.prog w = .ok (decide (x = y)) w := by
 have hu : Tryz.prog.underlying 72 = some (.struct (Tryz.prog.fieldsOf 72)) := by
  unfold Program.fieldsOf
  rw [Tryz.underlying72]
 rw [run_equalIn_struct w 9999 72 _ _ hu (by kernel_rfl)]
 unfold Program.fieldsOf
 rw [Tryz.underlying72]
 have p0 : ∀ w (b c d : Value) (q : ByteArray), (part 38 #[.string q, b, c, d] 0).run Tryz.prog w = .ok (.agg #[.string q, b, c]) w := fun _ _ _ _ _ => by kernel_rfl
 have p1 : ∀ w (b c : Value) (d : Int) (q : ByteArray), (part 3 #[.string q, b, c, .int .i64 d] 3).run Tryz.prog w = .ok (.int .i64 d) w := fun _ _ _ _ _ => by kernel_rfl
 have e1 : ∀ w (a b : Int), (Op.equalIn 9999 3 (.int .i64 a) (.int .i64 b)).run Tryz.prog w = .ok (a == b) w := fun w a b => run_equalIn_int w 9998 _ _ _ a b Tryz.underlying3
 have e0 := fun w => zQT 9997 x.1 y.1 w
 simp only [Op.eqFields, Sem.run_bind, Sem.run_ite, p0, p1, e0, e1, Result.andThen_ok, Sem.run_pure, ne_eq, String.reduceEq, not_false_eq_true, if_true]
 obtain ⟨o, r⟩ := x
 obtain ⟨o', r'⟩ := y
 dsimp only
 by_cases h1 : o = o'
 ·subst h1
  by_cases h2 : r = r'
  ·subst h2; simp
  ·have h3 : ¬ ((o, r) = (o, r')) := fun e => h2 (by simpa using e)
   simp [h2]
 ·simp [h1]
theorem zQA {A B : List EN} {n : Nat} (hA : A.length = n) (hB : B.length = n) (h : ∀ j, j < n → enA A j = enA B j) : A = B := by
 apply List.ext_getElem (by omega)
 intro j h1 h2
 rw [← zKX h1, ← zKX h2]
 exact h j (by omega)
end
section
open Go.RowKit
end
section
open Go.RowKit
set_option maxRecDepth 20000 in
set_option maxHeartbeats 4000000 in
theorem zLm (a a' : Option Addr) (n n' c c' : Nat) (E E' : List EN) (w : World) (h : Ens w a n c E) (h' : Ens w a' n' c' E') (hn : n ≤ 1000000) (hn' : n' ≤ 1000000) :
  Calls Tryz.prog 34 #[.slice a n c, .slice a' n' c'] w fun e w' => e = .returned (.bool (decide (E = E'))) ∧ Below w.heap.size w w' := by
 have HL := hid (Ens.len h)
 have HL' := hid (Ens.len h')
 have H := hid h
 have H' := hid h'
 have hlc := h.lc
 have hcm := h.cm
 have hlc' := h'.lc
 have hcm' := h'.cm
 unfold maxLen at hcm hcm'
 clear h h'
 by_cases hne : n = n'
 ·subst hne
  go_enter Tryz.func34, Tryz.ntmps34
  go_wp2
  go_loopw [13] (fun v wr => ∃ k : Nat, v = .int .i64 k ∧ k ≤ n ∧ Hid (∀ j, j < k → enA E j = enA E' j) ∧ Hid (Below w.heap.size w wr)) (fun v _ => n - (intOf v).toNat)
  case atStart => exact ⟨0, rfl, by omega, hid fun j hj => by omega, hid (Below.refl _ _)⟩
  case round =>
   obtain ⟨k, rfl, hk, HN, HB⟩ := hrel
   by_cases hlt : k < n
   ·have hs := H.out.below HB.out
    have hs' := H'.out.below HB.out
    obtain ⟨b, o, rfl, _, hc⟩ := hs.at_ (by omega)
    clear hc
    obtain ⟨b', o', rfl, _, hc⟩ := hs'.at_ (by omega)
    clear hc
    obtain ⟨c0, c1, c2, c3⟩ := Ens.at4 hs hlt
    obtain ⟨d0, d1, d2, d3⟩ := Ens.at4 hs' hlt
    obtain ⟨x, hx⟩ : ∃ x, x = enA E k := ⟨_, rfl⟩
    obtain ⟨y, hy⟩ : ∃ y, y = enA E' k := ⟨_, rfl⟩
    have HXY := hid (And.intro hx hy)
    rw [← hx] at c0 c1 c2 c3
    rw [← hy] at d0 d1 d2 d3
    clear hs hs' hx hy
    have he := fun w => zQU x y w
    have HBD : Hid (Below w.heap.size w wr.drew) := hid (HB.out.drew)
    cases hd : decide (x = y) with
    | false =>
     rw [hd] at he
     have HNE := hid (of_decide_eq_false hd)
     clear hd
     go_wp2_with fail
     go_region
     go_wp2
     go_ret
     refine ⟨?_, HBD.out⟩
     have : E ≠ E' := fun e => HNE.out (by rw [HXY.out.1, HXY.out.2, e])
     rw [decide_eq_false this]; rfl
    | true =>
     rw [hd] at he
     have HN1 : Hid (∀ j, j < k + 1 → enA E j = enA E' j) := hid fun j hj => by
      by_cases hjk : j = k
      ·subst hjk; rw [← HXY.out.1, ← HXY.out.2]; exact of_decide_eq_true hd
      ·exact HN.out j (by omega)
     clear hd
     go_wp2_with fail
     go_region
     go_wp2
     go_roundw
     case rel => exact ⟨k + 1, by go_num, by omega, HN1, HBD⟩
     case measure => simp [intOf]; omega
   ·go_wp2
    go_ret
    refine ⟨?_, HB.out⟩
    rw [decide_eq_true (zQA HL.out HL'.out fun j hj => HN.out j (by omega))]; rfl
 ·have hne' : ¬ ((n : Int) = (n' : Int)) := by omega
  have hE : E ≠ E' := fun e => hne (by rw [← HL.out, ← HL'.out, e])
  have HE := hid (decide_eq_false hE)
  clear hE hne
  go_enter Tryz.func34, Tryz.ntmps34
  go_wp2
  go_ret
  exact ⟨by rw [HE.out]; rfl, Below.refl _ _⟩
end
section
open Go.RowKit
set_option maxRecDepth 20000 in
set_option maxHeartbeats 16000000 in
theorem zNA (a a' : Option Addr) (n n' c c' : Nat) (L L' : List OP) (z z' : List Int) (x : Nm) (w : World) (ht : Tab w) (h : OpS w a n c L) (h' : OpS w a' n' c' L') (hz : z.length = 10) (hz' : z'.length = 10) (hn : n ≤ 1000000) (hn' : n' ≤ 1000000) (hp : ∀ o ∈ L, o.1.length ≤ 1000000) (hp' : ∀ o ∈ L', o.1.length ≤ 1000000) :
  Calls Tryz.prog 15 #[.agg (ev a n c z), .agg (ev a' n' c' z'), .string (mk x)] w fun e w' => e = .returned (.bool (decide (entL L z x = entL L' z' x))) ∧ Below w.heap.size w w' := by
 obtain ⟨B, hB⟩ : ∃ B, B = w.heap.size := ⟨_, rfl⟩
 obtain ⟨w1, hw1⟩ : ∃ w1, w1 = w.alloc (.cells (ev a n c z) 34) := ⟨_, rfl⟩
 obtain ⟨w2, hw2⟩ : ∃ w2, w2 = w1.alloc (.cells (ev a' n' c' z') 34) := ⟨_, rfl⟩
 have s1 : w1.heap.size = B + 1 := by rw [hw1, hB]; simp
 have HE1 : Hid (EB w2 B a n c z) := hid (by rw [hw2, hw1, hB]; exact (EB.new w a n c z).alloc _)
 have HE2 : Hid (EB w2 (B + 1) a' n' c' z') := hid (by rw [hw2, ← s1]; exact EB.new w1 a' n' c' z')
 have HB2 : Hid (Below B w w2) := hid (by rw [hw2, hw1, hB]; exact (zAA w _).alloc (by simp) _)
 have HT2 : Hid (Tab w2) := hid (ht.keep (hB ▸ HB2.out))
 have H := hid (h.below (hB ▸ HB2.out))
 have H' := hid (h'.below (hB ▸ HB2.out))
 have HLE : Hid ((entL L z x).length ≤ 1000000 ∧ (entL L' z' x).length ≤ 1000000) := hid ⟨Nat.le_trans (zDc ..) (by rw [OpS.len h]; exact hn), Nat.le_trans (zDc ..) (by rw [OpS.len h']; exact hn')⟩
 have KE : Hid (∀ w', Below w2.heap.size w2 w' → Calls Tryz.prog 35 #[.agg (ev a n c z), .string (mk x)] w' fun e w'' => ∃ a1 c1, e = .returned (.slice a1 (entL L z x).length c1) ∧ Ens w'' a1 (entL L z x).length c1 (entL L z x) ∧ Below w'.heap.size w' w'') := hid fun w' hb => zEC a n c L z x w' (HT2.out.keep hb) (H.out.below hb) hz hn hp
 have KF : Hid (∀ w', Below w2.heap.size w2 w' → Calls Tryz.prog 35 #[.agg (ev a' n' c' z'), .string (mk x)] w' fun e w'' => ∃ a1 c1, e = .returned (.slice a1 (entL L' z' x).length c1) ∧ Ens w'' a1 (entL L' z' x).length c1 (entL L' z' x) ∧ Below w'.heap.size w' w'') := hid fun w' hb => zEC a' n' c' L' z' x w' (HT2.out.keep hb) (H'.out.below hb) hz' hn' hp'
 obtain ⟨E1, hE1⟩ : ∃ E, E = entL L z x := ⟨_, rfl⟩
 obtain ⟨E2, hE2⟩ : ∃ E, E = entL L' z' x := ⟨_, rfl⟩
 rw [← hE1] at KE HLE ⊢
 rw [← hE2] at KF HLE ⊢
 obtain ⟨y0, y1, y2, y3, y4, y5, y6, y7, y8, y9, rfl⟩ := ten hz
 obtain ⟨x0, x1, x2, x3, x4, x5, x6, x7, x8, x9, rfl⟩ := ten hz'
 have HBB := hid hB
 have HS2 : Hid (B ≤ w2.heap.size) := hid (Nat.le_of_lt HE1.out.lt)
 clear ht h h' hz hz' s1 hE1 hE2 hp hp' H H'
 go_enter Tryz.func15, Tryz.ntmps15
 go_wp2_with fail
 rw [← hw1, ← hw2, ← hB]
 clear hw1 hw2 hB
 have KS : Hid (∀ w', Below w2.heap.size w2 w' → w'.cell? ⟨B, 0, none⟩ = some (.slice a n c) ∧ w'.cell? ⟨B, 1, none⟩ = some (.int .i64 y0) ∧ w'.cell? ⟨B, 2, none⟩ = some (.int .i64 y1) ∧ w'.cell? ⟨B, 3, none⟩ = some (.int .i64 y2) ∧ w'.cell? ⟨B, 4, none⟩ = some (.int .i64 y3) ∧ w'.cell? ⟨B, 5, none⟩ = some (.int .i64 y4) ∧ w'.cell? ⟨B, 6, none⟩ = some (.int .i64 y5) ∧ w'.cell? ⟨B, 7, none⟩ = some (.int .i64 y6) ∧ w'.cell? ⟨B, 8, none⟩ = some (.int .i64 y7) ∧ w'.cell? ⟨B, 9, none⟩ = some (.int .i64 y8) ∧ w'.cell? ⟨B, 10, none⟩ = some (.int .i64 y9) ∧ w'.cell? ⟨B + 1, 0, none⟩ = some (.slice a' n' c') ∧ w'.cell? ⟨B + 1, 1, none⟩ = some (.int .i64 x0) ∧ w'.cell? ⟨B + 1, 2, none⟩ = some (.int .i64 x1) ∧ w'.cell? ⟨B + 1, 3, none⟩ = some (.int .i64 x2) ∧ w'.cell? ⟨B + 1, 4, none⟩ = some (.int .i64 x3) ∧ w'.cell? ⟨B + 1, 5, none⟩ = some (.int .i64 x4) ∧ w'.cell? ⟨B + 1, 6, none⟩ = some (.int .i64 x5) ∧ w'.cell? ⟨B + 1, 7, none⟩ = some (.int .i64 x6) ∧ w'.cell? ⟨B + 1, 8, none⟩ = some (.int .i64 x7) ∧ w'.cell? ⟨B + 1, 9, none⟩ = some (.int .i64 x8) ∧ w'.cell? ⟨B + 1, 10, none⟩ = some (.int .i64 x9)) := hid fun w' hb => by
  obtain ⟨g0, g1, g2, g3, g4, g5, g6, g7, g8, g9, g10⟩ := zGQ (HE1.out.below hb)
  obtain ⟨k0, k1, k2, k3, k4, k5, k6, k7, k8, k9, k10⟩ := zGQ (HE2.out.below hb)
  exact ⟨g0, g1, g2, g3, g4, g5, g6, g7, g8, g9, g10, k0, k1, k2, k3, k4, k5, k6, k7, k8, k9, k10⟩
 go_region_held3 (fun w' => w'.cell? ⟨B, 0, none⟩ = some (.slice a n c) ∧ w'.cell? ⟨B, 1, none⟩ = some (.int .i64 y0) ∧ w'.cell? ⟨B, 2, none⟩ = some (.int .i64 y1) ∧ w'.cell? ⟨B, 3, none⟩ = some (.int .i64 y2) ∧ w'.cell? ⟨B, 4, none⟩ = some (.int .i64 y3) ∧ w'.cell? ⟨B, 5, none⟩ = some (.int .i64 y4) ∧ w'.cell? ⟨B, 6, none⟩ = some (.int .i64 y5) ∧ w'.cell? ⟨B, 7, none⟩ = some (.int .i64 y6) ∧ w'.cell? ⟨B, 8, none⟩ = some (.int .i64 y7) ∧ w'.cell? ⟨B, 9, none⟩ = some (.int .i64 y8) ∧ w'.cell? ⟨B, 10, none⟩ = some (.int .i64 y9) ∧ w'.cell? ⟨B + 1, 0, none⟩ = some (.slice a' n' c') ∧ w'.cell? ⟨B + 1, 1, none⟩ = some (.int .i64 x0) ∧ w'.cell? ⟨B + 1, 2, none⟩ = some (.int .i64 x1) ∧ w'.cell? ⟨B + 1, 3, none⟩ = some (.int .i64 x2) ∧ w'.cell? ⟨B + 1, 4, none⟩ = some (.int .i64 x3) ∧ w'.cell? ⟨B + 1, 5, none⟩ = some (.int .i64 x4) ∧ w'.cell? ⟨B + 1, 6, none⟩ = some (.int .i64 x5) ∧ w'.cell? ⟨B + 1, 7, none⟩ = some (.int .i64 x6) ∧ w'.cell? ⟨B + 1, 8, none⟩ = some (.int .i64 x7) ∧ w'.cell? ⟨B + 1, 9, none⟩ = some (.int .i64 x8) ∧ w'.cell? ⟨B + 1, 10, none⟩ = some (.int .i64 x9))
  (first
   | exact KS.out _ HW5.out
   | exact KS.out _ HW4.out
   | exact KS.out _ HW3.out
   | exact KS.out _ (Below.refl _ _).drew)
  (first
   | (go_at_call 34; (refine (zLm _ _ _ _ _ _ E1 E2 _ HN3.out HN4.out HLE.out.1 HLE.out.2).mono ?_); rintro e w5 ⟨rfl, hb5⟩; have HW5 : Hid (Below w2.heap.size w2 w5) := hid (HW4.out.trans (hb5.mono HW4.out.size)); clear hb5)
   | (go_at_call 35; (refine (KF.out _ HW3.out).mono ?_); rintro e w4 ⟨b4, c4, rfl, he4, hb4⟩; have HN4 := hid he4; have HN3 := hid (HM3.out.below hb4); have HW4 : Hid (Below w2.heap.size w2 w4) := hid (HW3.out.trans (hb4.mono HW3.out.size)); clear he4 hb4)
   | (go_at_call 35; (refine (KE.out _ (Below.refl _ _).drew).mono ?_); rintro e w3 ⟨b3, c3, rfl, he3, hb3⟩; have HM3 := hid he3; have HW3 : Hid (Below w2.heap.size w2 w3) := hid ((Below.refl _ _).drew.trans hb3); clear he3 hb3))
 all_goals
  go_wp2
  go_ret
  exact ⟨rfl, by rw [← HBB.out]; exact HB2.out.trans (HW5.out.mono HS2.out)⟩
end
end Go.Proofs.YtcjbhdgjcpnklaaGreatDoor
