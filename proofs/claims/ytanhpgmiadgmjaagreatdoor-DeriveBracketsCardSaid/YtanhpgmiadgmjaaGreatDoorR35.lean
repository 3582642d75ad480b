import Derived.Lib.AppendZerosOnto
import Derived.Test.YtanhpgmiadgmjaaGreatDoorR32
namespace Go.Proofs.YtanhpgmiadgmjaaGreatDoor
open Go.RowKit
theorem wpList_app_run {P : Program} {ops : Array Oper} {rest : List Oper} {w w' : World} {o : Oper} {a : Act} {Q : Exit → Act → World → Prop} {r : Value} (hw : Region.wanted o (yielded ops a.tmps) = true) (s x : Operand) (t u : TypeId)
  (ho : o.op = .call { callee := .builtin .append, args := #[s, x], argTypes := #[t, u] }) (hr : (Builtin.append_ #[t, u] o.type #[a.eval s, a.eval x]).run P w = .ok r w')
  (h : wpList P ops Q rest (a.put o.dst r) w') : wpList P ops Q (o :: rest) a w :=
 wpList_step fun K hK => by
  rw [if_pos hw]
  unfold Oper.wp execOp
  simp only [ho, resolve, invoke, builtin, Sem.run_bind, Sem.run_pure, Result.andThen_ok, List.map_toArray, List.map_cons, List.map_nil, hr]
  exact hK _ _ h
def ndZ : Value := .agg #[.int .i64 0, .string ByteArray.empty, .int .i64 0, .int .i64 0, .int .i64 0]
set_option maxRecDepth 20000 in
theorem growN_any (n : Nat) (w : World) (hn : n ≤ 20000000) :
  Calls Tryz.prog 155 #[.slice none 0 0, .int .i64 n] w fun e w' => ∃ a c, e = .returned (.slice a 0 c) ∧ OwnN w.heap.size w' a 0 c [] ∧ Below w.heap.size w w' := by
 by_cases h0 : n = 0
 ·subst h0
  go_enter Tryz.func155, Tryz.ntmps155
  go_wp2
  go_ret
  exact ⟨none, 0, rfl, OwnV.none0, Below.refl _ _⟩
 ·obtain ⟨i, hi, hz, hs, hby⟩ := info_parts nd_info
  have hgc := grownCap_ge w n 0 37
  have hgm := grownCap_le_maxLen w n 0 37 (by unfold maxLen; omega)
  have hnx : Builtin.nextslicecap n 0 = n := by unfold Builtin.nextslicecap; simp; omega
  have kr := Lib.run_append_grow_zeros (P := Tryz.prog) w 24 3 24 37 i ndZ .i64 .i64 Tryz.underlying24 Tryz.underlying3 hi hz none 0 0 [] (by simp [Builtin.firstCells]) n (by omega) (by omega) (by omega) (by omega) (by rw [hby]; omega) (by rw [Nat.zero_add, hnx, hby]; omega)
  obtain ⟨C, hC⟩ : ∃ C, grownCap w (0 + n) 0 37 = C := ⟨_, rfl⟩
  rw [hC] at kr
  rw [Nat.zero_add] at kr hC
  rw [hC] at hgc hgm
  obtain ⟨w1, hw1⟩ : ∃ w1, w.drew.alloc (.cells ([].toArray ++ Builtin.zeroCells ndZ.cells n ++ Builtin.zeroCells ndZ.cells (C - n)) 37) = w1 := ⟨_, rfl⟩
  rw [hw1] at kr
  have HO : Hid (OwnN w.heap.size w1 (some ⟨w.heap.size, 0, none⟩) 0 C []) := hid ⟨by simp [cN_nil], .inr ⟨w.heap.size, C, _, rfl, Nat.le_refl _, by rw [← hw1]; exact heap_alloc_new w.drew _, Nat.zero_le _, hgm, by simp [size_zeroCells, Value.cells, ndZ]; omega, by simp [cN_nil]⟩⟩
  have HB : Hid (Below w.heap.size w w1) := hid (by rw [← hw1]; exact ((Below.refl _ _).drew.alloc (Nat.le_refl _) _))
  have hn1 : ¬ ((n : Int) < 0) := by omega
  have hn2 : (n : Int) > 0 := by omega
  have hCm : C ≤ 9223372036854775807 := by unfold maxLen at hgm; omega
  have hC0 : (0 : Int) ≤ (C : Int) := by omega
  clear hi hz hs hby hgc hnx hC hw1 hgm
  go_enter Tryz.func155, Tryz.ntmps155
  have KR := hid kr
  clear kr
  go_wp2_with (at_builtin; refine wpList_app_run rfl (.tmp 20) (.tmp 21) 24 3 rfl KR.out ?_)
  go_ret
  exact ⟨_, C, rfl, HO.out, HB.out⟩
def sumN (N : Nat → Nat) : Nat → Nat
 | 0 => 0
 | k + 1 => sumN N k + N k
def catN (F : Nat → List ND) : Nat → List ND
 | 0 => []
 | k + 1 => catN F k ++ F k
theorem sumN_le (N : Nat → Nat) {j k : Nat} (h : j ≤ k) : sumN N j ≤ sumN N k := by
 induction k with
 | zero =>
      obtain rfl : j = 0 := by omega
      exact Nat.le_refl _
 | succ k ih =>
  by_cases hj : j = k + 1
  ·subst hj; exact Nat.le_refl _
  ·have := ih (by omega)
   simp only [sumN]
   omega
set_option maxRecDepth 20000 in
theorem concatN_any (g m : Nat) (A : Nat → Option Addr) (N C : Nat → Nat) (F : Nat → List ND) (w : World) (hm : m ≤ 10) (hg : ∀ i, i < m → w.cell? ⟨g, i, none⟩ = some (.slice (A i) (N i) (C i))) (hgl : g < w.heap.size)
  (hb : ∀ i, i < m → NdS w (A i) (N i) (C i) (F i)) (hsz : sumN N m ≤ 20000000) :
  Calls Tryz.prog 118 #[.slice (some ⟨g, 0, none⟩) m m] w fun e w' => ∃ a c, e = .returned (.slice a (sumN N m) c) ∧ OwnN w.heap.size w' a (sumN N m) c (catN F m) ∧ Below w.heap.size w w' := by
 have HG := hid hg
 have HF := hid hb
 have HS := hid hsz
 clear hg hb
 go_enter Tryz.func118, Tryz.ntmps118
 go_wp2
 go_loopw [3, 11] (fun v i wr => ∃ k : Nat, v = .int .i64 (sumN N k : Nat) ∧ i = .int .i64 k ∧ k ≤ m ∧ wr = w) (fun _ i _ => m - (intOf i).toNat)
 case atStart => exact ⟨0, rfl, rfl, by omega, rfl⟩
 case round =>
  obtain ⟨k, rfl, rfl, hk, rfl⟩ := hrel
  by_cases hlt : k < m
  ·have c0 := HG.out k hlt
   have hn := Nat.le_trans (sumN_le N (show k + 1 ≤ m by omega)) HS.out
   have h1 : sumN N (k + 1) = sumN N k + N k := rfl
   obtain ⟨s, hs⟩ : ∃ s, sumN N k = s := ⟨_, rfl⟩
   obtain ⟨x, hx⟩ : ∃ x, N k = x := ⟨_, rfl⟩
   rw [hs, hx] at h1
   rw [hs]
   rw [hx] at c0
   have HE := hid h1
   rw [h1] at hn
   have w1 : IntKind.i64.wrap ((s : Int) + (x : Int)) = (s : Int) + (x : Int) := by rw [IntKind.wrap_i64]; omega
   have hd : ¬ ((s : Int) + (x : Int) < 0) := by omega
   clear h1 hs hx
   go_wp2
   go_roundw
   case rel => exact ⟨k + 1, by rw [HE.out]; go_num, by go_num, by omega, trivial⟩
   case measure => simp [intOf]; omega
  ·obtain rfl : k = m := by omega
   have HT : Hid (sumN N k ≤ 20000000) := HS
   obtain ⟨T, hT⟩ : ∃ T, sumN N k = T := ⟨_, rfl⟩
   rw [hT] at hsz ⊢
   have HTT := hid hT
   clear hT
   go_wp2_with fail
   refine (growN_any T wr hsz).mono ?_
   rintro e w1 ⟨a, c, rfl, ho, hb1⟩
   have HO := hid ho
   have HB1 := hid hb1
   clear ho hb1
   go_wp2
   go_loopw [6, 27] (fun v i w2 => ∃ a2 c2, ∃ j n : Nat, v = .slice a2 n c2 ∧ i = .int .i64 j ∧ j ≤ k ∧ n ≤ 20000000 ∧ Hid (n = sumN N j) ∧ Hid (OwnN wr.heap.size w2 a2 n c2 (catN F j)) ∧ Hid (Below wr.heap.size wr w2)) (fun _ i _ => k - (intOf i).toNat)
   case atStart => exact ⟨a, c, 0, 0, rfl, rfl, by omega, by omega, hid rfl, HO, HB1⟩
   case round =>
    rename World => w2
    obtain ⟨a2, c2, j, n, rfl, rfl, hj, hn, HN2, HO2, HB2⟩ := hrel
    by_cases hlt2 : j < k
    ·have c0 := (HB2.out.cell (p := ⟨g, j, none⟩) hgl).trans (HG.out j hlt2)
     have hle := Nat.le_trans (sumN_le N (show j + 1 ≤ k by omega)) HS.out
     have HBX := hid ((HF.out j hlt2).below HB2.out)
     have HE := hid (show n + N j = sumN N (j + 1) by rw [HN2.out]; rfl)
     obtain ⟨x, hx⟩ : ∃ x, N j = x := ⟨_, rfl⟩
     rw [hx] at c0 HBX HE
     have hle2 : n + x ≤ 20000000 := by rw [HE.out]; exact hle
     clear hx hle
     go_wp2_with (at_builtin; refine wpList_appv rfl (.tmp 31) (.tmp 32) 24 rfl 37 wr.heap.size 5 48 _ Tryz.underlying24 nd_info rfl (by omega) _ _ _ (cN (catN F j)) rfl HO2.out _ _ _ (cN (F j)) rfl HBX.out (cN_one _) (by unfold maxLen; omega) (by omega) HB2.out.size ?_; intro a' c' w3 h1 _ h2 _; have HO3 := hid h1; have HB3 := hid (HB2.out.trans h2); clear h1 h2)
     go_roundw
     case rel => exact ⟨a', c', j + 1, n + x, rfl, by go_num, by omega, by omega, HE, hid (by unfold OwnN; rw [show catN F (j + 1) = catN F j ++ F j from rfl, cN_app]; exact HO3.out), HB3⟩
     case measure => simp [intOf]; omega
    ·obtain rfl : j = k := by omega
     obtain rfl : n = T := by rw [HN2.out, HTT.out]
     go_wp2
     go_ret
     exact ⟨a2, c2, by rw [← HN2.out]; rfl, by rw [← HN2.out]; exact HO2.out, HB2.out⟩
theorem concat2_any (g : Nat) (a : Option Addr) (n c : Nat) (l : List ND) (a' : Option Addr) (n' c' : Nat) (l' : List ND) (w : World) (h0 : w.cell? ⟨g, 0, none⟩ = some (.slice a n c)) (h1 : w.cell? ⟨g, 1, none⟩ = some (.slice a' n' c'))
  (hb : NdS w a n c l) (hb' : NdS w a' n' c' l') (hsz : n + n' ≤ 20000000) :
  Calls Tryz.prog 118 #[.slice (some ⟨g, 0, none⟩) 2 2] w fun e w' => ∃ ra rc, e = .returned (.slice ra (l ++ l').length rc) ∧ NdS w' ra (l ++ l').length rc (l ++ l') ∧ Below w.heap.size w w' := by
 have hl := NdS.len hb
 have hl' := NdS.len hb'
 refine (concatN_any g 2 (fun i => if i = 0 then a else a') (fun i => if i = 0 then n else n') (fun i => if i = 0 then c else c') (fun i => if i = 0 then l else l') w (by omega) (fun i hi => ?_) (World.block_lt_of_cell? w _ h0) (fun i hi => ?_) ?_).mono ?_
 ·match i, hi with
  | 0, _ => exact h0
  | 1, _ => exact h1
 ·match i, hi with
  | 0, _ => exact hb
  | 1, _ => exact hb'
 ·show 0 + n + n' ≤ 20000000
  omega
 ·rintro e w' ⟨ra, rc, rfl, ho, hb⟩
  have e1 : sumN (fun i => if i = 0 then n else n') 2 = (l ++ l').length := by
   show 0 + n + n' = _
   rw [List.length_append, hl, hl']; omega
  rw [e1] at ho ⊢
  exact ⟨ra, rc, rfl, OwnV.vs ho, hb⟩
end Go.Proofs.YtanhpgmiadgmjaaGreatDoor
