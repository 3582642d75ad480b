import Derived.Test.YtcjbhdgjcpnklaaGreatDoorV19
import Derived.Test.YtcjbhdgjcpnklaaGreatDoorV18
import Derived.Test.YtcjbhdgjcpnklaaGreatDoorV12
import Derived.Deep.RegionHeld3
import Derived.Laws.StructEq
import Derived.Test.YtcjbhdgjcpnklaaGreatDoorR02
namespace Go.Proofs.YtcjbhdgjcpnklaaGreatDoor
section
open Go.RowKit
theorem zBE {P : Program} (w : World) (ty t : TypeId) (g o : Nat) (cur : List Value) (v : Value) (hi : (P.info? ty).map (·.size) = some 1) (hc : v.cells = #[v]) (hg : w.heap[g]? = some (.cells cur.toArray t (0, 0)))
  (hfit : o + 1 ≤ cur.length) (h1 : v.oneCell' = true) : (storeVar ty ⟨g, o, none⟩ v).run P w = .ok () (w.setRow g (splice cur o [v]).toArray) := by
 have hst := run_storeCells_at P g o t [v] 0 cur.toArray w hg (by simpa using hfit) (fun u hu => by rw [List.mem_singleton.1 hu]; exact h1)
 cases hq : P.info? ty with
 | none => simp [hq] at hi
 | some i =>
  have hs : i.size = 1 := by simp [hq] at hi; omega
  simp [storeVar, sizeOf, typeInfo, hq, hc, hs, splice] at hst ⊢
  exact hst
theorem zAm {P : Program} {ops : Array Oper} {rest : List Oper} {op : Oper} {a : Act} {w : World} {Q : Exit → Act → World → Prop} (hgd : op.guard = none) (ty t : TypeId) (x y : Operand) (ho : op.op = .store ty x y)
  (g o : Nat) (cur : List Value) (v : Value) (hx : a.eval x = .pointer (some ⟨g, o, none⟩)) (hy : a.eval y = v) (hi : (P.info? ty).map (·.size) = some 1) (hc : v.cells = #[v]) (hg : w.heap[g]? = some (.cells cur.toArray t (0, 0)))
  (hfit : o + 1 ≤ cur.length) (h1 : v.oneCell' = true)
  (h : ∀ w', w'.heap[g]? = some (.cells (splice cur o [v]).toArray t (0, 0)) → Only g w w' → wpList P ops Q rest (a.put op.dst undef) w') : wpList P ops Q (op :: rest) a w :=
 wpList_plain hgd fun K hK => by
  unfold Oper.wp execOp
  simp only [ho, hx, hy, Instr.storeAt, Instr.sureAddr, Sem.run_bind, Sem.run_pure, Result.andThen_ok, zBE w ty t g o cur v hi hc hg hfit h1]
  exact hK _ _ (h _ (setRow_heap w g _ _ t _ hg) (Only.ofRow w g _))
end
section
open Go.RowKit
theorem zKe (w : World) (o k : OP) {g : Nat} (hg : g = w.heap.size) : OpS (w.alloc (.cells #[.string (mk o.1), .int .i64 o.2.1, .int .i64 o.2.2, .string (mk k.1), .int .i64 k.2.1, .int .i64 k.2.2] 38)) (some ⟨g, 0, none⟩) 2 2 [o, k] := by
 subst hg
 refine ⟨rfl, Nat.le_refl _, by decide, fun _ => ⟨w.heap.size, 0, rfl, by simp, fun j hj => ?_⟩⟩
 rw [cell_of_row _ w.heap.size (0 + j) _ _ _ (heap_alloc_new w _), Nat.zero_add, List.getElem?_toArray]
 rfl
theorem zKf (a : Option Addr) (n c : Nat) (l r right : Bool) (w : World) :
  Calls Tryz.prog 118 #[.agg #[.slice a n c, .bool l, .bool r], .bool right] w fun e w' => e = .returned (.bool (if right then r else l)) ∧ Below w.heap.size w w' := by
 obtain ⟨⟨x0, x1, x2⟩, _⟩ := three (heap_alloc_new w (.cells #[.slice a n c, .bool l, .bool r] 157))
 cases right
 all_goals
  go_enter Tryz.func118, Tryz.ntmps118
  go_wp2
  go_ret
  exact ⟨rfl, zAA w _⟩
theorem zMb (right : Bool) (w : World) :
  Calls Tryz.prog 120 #[.bool right] w fun e w' => e = .returned (.int .i64 (sideV right)) ∧ w = w' := by
 cases right
 all_goals
  go_enter Tryz.func120, Tryz.ntmps120
  go_wp2
  go_ret
  exact ⟨rfl, rfl⟩
def leanB (s : Int) (L : List OP) : Bool := L.all fun o => o.2.2 == s
theorem zJD {s : Int} {L : List OP} {k : Nat} (h : k < L.length) : leanB s (L.drop k) = ((opA L k).2.2 == s && leanB s (L.drop (k + 1))) := by rw [zFY h]; rfl
set_option maxRecDepth 20000 in
theorem zMc (s : Int) (a : Option Addr) (n c : Nat) (L : List OP) (w : World) (h : OpS w a n c L) (hn : n ≤ 1000) :
  Calls Tryz.prog 119 #[.int .i64 s, .slice a n c] w fun e w' => e = .returned (.bool (leanB s L)) ∧ Below w.heap.size w w' := by
 have hlc := h.lc
 have H := hid h
 have HL := hid (OpS.len h)
 clear h
 go_enter Tryz.func119, Tryz.ntmps119
 go_wp2
 go_loopw [9] (fun v wr => ∃ k : Nat, v = .int .i64 k ∧ k ≤ n ∧ Hid (leanB s (L.drop k) = leanB s L) ∧ Hid (Below w.heap.size w wr)) (fun v _ => n - (intOf v).toNat)
 case atStart => exact ⟨0, rfl, by omega, hid (by rw [List.drop_zero]), hid (Below.refl _ _)⟩
 case round =>
  obtain ⟨k, rfl, hk, HM, HB⟩ := hrel
  by_cases hlt : k < n
  ·have hs := H.out.below HB.out
   obtain ⟨b, off, rfl, _, hc⟩ := hs.at_ (by omega)
   clear hc
   obtain ⟨c0, c1, c2⟩ := OpS.at3 hs hlt
   have HD := hid (zJD (s := s) (L := L) (k := k) (by rw [HL.out]; exact hlt))
   obtain ⟨o, ho⟩ : ∃ o, o = opA L k := ⟨_, rfl⟩
   rw [← ho] at c0 c1 c2 HD
   clear hs ho
   obtain ⟨p, g, t⟩ := o
   dsimp only at c0 c1 c2 HD
   obtain ⟨⟨d0, d1, d2⟩, _⟩ := three (heap_alloc_new wr (.cells #[.string (mk p), .int .i64 g, .int .i64 t] 38))
   have HB1 : Hid (Below w.heap.size w (wr.alloc (.cells #[.string (mk p), .int .i64 g, .int .i64 t] 38))) := hid (HB.out.alloc HB.out.size _)
   cases he : (t == s) with
   | true =>
    have he' : (t != s) = false := by rw [bne, he]; rfl
    have HN : Hid (leanB s (L.drop (k + 1)) = leanB s L) := hid (by rw [← HM.out, HD.out, he, Bool.true_and])
    clear he
    go_wp2
    go_roundw
    case rel => exact ⟨k + 1, by go_num, by omega, HN, HB1⟩
    case measure => simp [intOf]; omega
   | false =>
    have he' : (t != s) = true := by rw [bne, he]; rfl
    have HN : Hid (leanB s L = false) := hid (by rw [← HM.out, HD.out, he, Bool.false_and])
    clear he
    go_wp2
    go_ret
    exact ⟨by rw [HN.out]; rfl, HB1.out⟩
  ·have HN : Hid (leanB s L = true) := hid (by rw [← HM.out, List.drop_eq_nil_iff.2 (by rw [HL.out]; omega)]; rfl)
   go_wp2
   go_ret
   exact ⟨by rw [HN.out]; rfl, HB.out⟩
end
section
open Go.RowKit
theorem zNk {p : Nm} {P : List Nm} {l r : Bool} {e : Int} (hV : ofR p = (⟨P, l, r⟩, e)) (hp : p.length ≤ 1000000) (w : World) (ht : Tab w) :
  Calls Tryz.prog 85 #[.string (mk p)] w fun e' w' => ∃ a n c, e' = .returned (.tuple #[.agg #[.slice a n c, .bool l, .bool r], .int .i64 e]) ∧ Below w.heap.size w w' := by
 refine (zFP p w ht hp).mono ?_
 rw [hV]
 rintro e' w' ⟨a, n, c, rfl, _, hb⟩
 exact ⟨a, n, c, rfl, hb⟩
theorem D3.alloc {w : World} {D : Nat} {o : OP} (h : D3 w D o) (x : Obj) : D3 (w.alloc x) D o := h.below (zAA w x)
theorem zKg {z : List Int} {p : Nm} {g s : Int} {q : Nm} {h t : Int} {right : Bool} {P Q : List Nm} {l r l' r' : Bool} (ho : ofS p = some ⟨P, l, r⟩) (hk : ofS q = some ⟨Q, l', r'⟩) :
  fitsB z (p, g, s) (q, h, t) right = ((if right then r else l) && ((!l' && !r') || (tgt z g h || (g == h && leanB (sideV right) [(p, g, s), (q, h, t)])))) := by
 rw [zEz ho hk]
 simp only [leanB, List.all_cons, List.all_nil, Bool.and_true]
 rfl
set_option maxRecDepth 100000 in
set_option maxHeartbeats 16000000 in
theorem zMd (z : List Int) (hz : z.length = 10) (hr : ∀ i, i < 10 → I64 (bt z i)) (p : Nm) (g s : Int) (q : Nm) (h t : Int) (right : Bool) (w : World) (ht : Tab w) (hp : p.length ≤ 1000000) (hq : q.length ≤ 1000000) :
  Calls Tryz.prog 75 #[.agg (rv z), .agg #[.string (mk p), .int .i64 g, .int .i64 s], .agg #[.string (mk q), .int .i64 h, .int .i64 t], .bool right] w fun e w' => e = .returned (.bool (fitsB z (p, g, s) (q, h, t) right)) ∧ Below w.heap.size w w' := by
 obtain ⟨B, hB⟩ : ∃ B, B = w.heap.size := ⟨_, rfl⟩
 obtain ⟨wA, hwA⟩ : ∃ wA, wA = w.alloc (.cells (rv z) 32) := ⟨_, rfl⟩
 obtain ⟨wB, hwB⟩ : ∃ wB, wB = wA.alloc (.cells #[.string (mk p), .int .i64 g, .int .i64 s] 38) := ⟨_, rfl⟩
 obtain ⟨wC, hwC⟩ : ∃ wC, wC = wB.alloc (.cells #[.string (mk q), .int .i64 h, .int .i64 t] 38) := ⟨_, rfl⟩
 have sA : wA.heap.size = B + 1 := by rw [hwA, hB]; simp
 have sB : wB.heap.size = B + 1 + 1 := by rw [hwB]; simp [sA]
 have sC : wC.heap.size = B + 1 + 1 + 1 := by rw [hwC]; simp [sB]
 have HRC : Hid (RB wC B z) := hid (by rw [hwC, hwB, hwA, hB]; exact ((RB.new w z).alloc _).alloc _)
 have HOC : Hid (D3 wC (B + 1) (p, g, s)) := hid (by rw [hwC, hwB, ← sA]; exact (D3.new wA (p, g, s)).alloc _)
 have HKC : Hid (D3 wC (B + 1 + 1) (q, h, t)) := hid (by rw [hwC, ← sB]; exact D3.new wB (q, h, t))
 have HBC : Hid (Below B w wC) := hid (by rw [hwC, hwB, hwA, hB]; exact ((zAA w _).alloc (by simp) _).alloc (by simp; omega) _)
 have HTC : Hid (Tab wC) := hid (ht.keep (hB ▸ HBC.out))
 have HSC := hid sC
 have HBB := hid hB
 obtain ⟨T, hT⟩ : ∃ T, T = tgt z g h := ⟨_, rfl⟩
 have KT : Hid (∀ w' : World, Calls Tryz.prog 121 #[.agg (rv z), .int .i64 g, .int .i64 h] w' fun e w'' => e = .returned (.bool T) ∧ Below w'.heap.size w' w'') := hid fun w' => by rw [hT]; exact zHC z hz hr g h w'
 obtain ⟨sv, hsv⟩ : ∃ x, x = sideV right := ⟨_, rfl⟩
 have KS : Hid (∀ w' : World, Calls Tryz.prog 120 #[.bool right] w' fun e w'' => e = .returned (.int .i64 sv) ∧ w' = w'') := hid fun w' => by rw [hsv]; exact zMb right w'
 obtain ⟨b, hb⟩ : ∃ x, x = leanB sv [(p, g, s), (q, h, t)] := ⟨_, rfl⟩
 have KL : Hid (∀ (X : Nat) (w' : World), OpS w' (some ⟨X, 0, none⟩) 2 2 [(p, g, s), (q, h, t)] → Calls Tryz.prog 119 #[.int .i64 sv, .slice (some ⟨X, 0, none⟩) 2 2] w' fun e w'' => e = .returned (.bool b) ∧ Below w'.heap.size w' w'') := hid fun X w' hh => by rw [hb]; exact zMc sv _ 2 2 _ w' hh (by decide)
 have HZ := hid hz
 have x0 := HOC.out.cells.1
 dsimp only at x0
 have HFV0 : Hid (∀ (P Q : List Nm) (l r l' r' : Bool), ofS p = some ⟨P, l, r⟩ → ofS q = some ⟨Q, l', r'⟩ → fitsB z (p, g, s) (q, h, t) right = ((if right then r else l) && ((!l' && !r') || (T || (g == h && b))))) := hid fun P Q l r l' r' h1 h2 => by
  rw [zKg h1 h2, hT, hb, hsv]
 obtain ⟨V, hV⟩ : ∃ V, V = fitsB z (p, g, s) (q, h, t) right := ⟨_, rfl⟩
 rw [← hV] at HFV0 ⊢
 have HV1 : Hid (ofS p = none → V = false) := hid fun h0 => by rw [hV]; exact zGT _ _ h0
 have HV2 : Hid (ofS q = none → V = false) := hid fun h0 => by rw [hV]; exact zGU _ _ h0
 have HP := hid hp
 have HQ := hid hq
 clear ht hz hr hT hsv hb hV hp hq
 obtain ⟨P, l, r, ep, hOp, hp0, hp1⟩ : ∃ P l r ep, ofR p = (⟨P, l, r⟩, ep) ∧ (ep = 0 → ofS p = some ⟨P, l, r⟩) ∧ (ep ≠ 0 → ofS p = none) := by
  cases hO : ofS p with
  | none => exact ⟨_, _, _, _, zAZ hO, (fun h => by cases h), fun _ => rfl⟩
  | some u => exact ⟨u.P, u.l, u.r, 0, zAl hO, fun _ => rfl, fun h => absurd rfl h⟩
 obtain ⟨Q, l', r', eq, hOq, hq0, hq1⟩ : ∃ Q l' r' eq, ofR q = (⟨Q, l', r'⟩, eq) ∧ (eq = 0 → ofS q = some ⟨Q, l', r'⟩) ∧ (eq ≠ 0 → ofS q = none) := by
  cases hO : ofS q with
  | none => exact ⟨_, _, _, _, zAZ hO, (fun h => by cases h), fun _ => rfl⟩
  | some u => exact ⟨u.P, u.l, u.r, 0, zAl hO, fun _ => rfl, fun h => absurd rfl h⟩
 have HOF1 : Hid (∀ w', Tab w' → Calls Tryz.prog 85 #[.string (mk p)] w' fun e' w'' => ∃ a n c, e' = .returned (.tuple #[.agg #[.slice a n c, .bool l, .bool r], .int .i64 ep]) ∧ Below w'.heap.size w' w'') := hid fun w' hh => zNk hOp HP.out w' hh
 have HOF2 : Hid (∀ w', Tab w' → Calls Tryz.prog 85 #[.string (mk q)] w' fun e' w'' => ∃ a n c, e' = .returned (.tuple #[.agg #[.slice a n c, .bool l', .bool r'], .int .i64 eq]) ∧ Below w'.heap.size w' w'') := hid fun w' hh => zNk hOq HQ.out w' hh
 have HFV := hid fun h1 h2 => HFV0.out P Q l r l' r' (hp0 h1) (hq0 h2)
 have HV1' : Hid (ep ≠ 0 → V = false) := hid fun h1 => HV1.out (hp1 h1)
 have HV2' : Hid (eq ≠ 0 → V = false) := hid fun h1 => HV2.out (hq1 h1)
 obtain ⟨Ev, hEv⟩ : ∃ x, x = (if right then r else l) := ⟨_, rfl⟩
 have KH : Hid (∀ a n c w', Calls Tryz.prog 118 #[.agg #[.slice a n c, .bool l, .bool r], .bool right] w' fun e w'' => e = .returned (.bool Ev) ∧ Below w'.heap.size w' w'') := hid fun a n c w' => by rw [hEv]; exact zKf a n c l r right w'
 rw [← hEv] at HFV
 clear hOp hp0 hp1 hOq hq0 hq1 HFV0 HV1 HV2 HP HQ hEv
 go_enter Tryz.func75, Tryz.ntmps75
 go_upto_region 1 with fail
 rw [← hwA, ← hwB, ← hwC]
 try rw [sA]
 try rw [sB]
 try rw [← hB]
 clear hwA hwB hwC sA sB sC hB
 go_wp2_with fail
 refine (HOF1.out wC HTC.out).mono ?_
 rintro e w1 ⟨a1, n1, c1, rfl, hb1⟩
 obtain ⟨q1, hq1⟩ : ∃ q1, q1 = w1.heap.size := ⟨_, rfl⟩
 obtain ⟨w2, hw2⟩ : ∃ w2, w2 = w1.alloc (.cells #[.slice a1 n1 c1, .bool l, .bool r] 157) := ⟨_, rfl⟩
 have hbc2 : Below wC.heap.size wC w2 := by rw [hw2]; exact hb1.alloc hb1.size _
 have HBC2 := hid hbc2
 have HS2 : Hid (w2.heap[q1]? = some (.cells #[.slice a1 n1 c1, .bool l, .bool r] 157 (0, 0))) := hid (by rw [hw2, hq1]; exact heap_alloc_new w1 _)
 have HK2 : Hid (D3 w2 (B + 1 + 1) (q, h, t)) := hid (HKC.out.below hbc2)
 have x1 := HK2.out.cells.1
 dsimp only at x1
 rw [hw2] at x1
 have HW2 := hid (And.intro hq1 hw2)
 clear x0 hb1 hbc2 hq1 hw2
 go_wp2_with fail
 rw [← HW2.out.2, ← HW2.out.1]
 clear x1 HW2
 refine (HOF2.out w2 (HTC.out.keep HBC2.out)).mono ?_
 rintro e w3 ⟨a2, n2, c2, rfl, hb3⟩
 obtain ⟨q2, hq2⟩ : ∃ q2, q2 = w3.heap.size := ⟨_, rfl⟩
 obtain ⟨w4, hw4⟩ : ∃ w4, w4 = w3.alloc (.cells #[.slice a2 n2 c2, .bool l', .bool r'] 157) := ⟨_, rfl⟩
 have hb24 : Below w2.heap.size w2 w4 := by rw [hw4]; exact hb3.alloc hb3.size _
 have HB4 : Hid (Below wC.heap.size wC w4) := hid (HBC2.out.trans (hb24.mono HBC2.out.size))
 have HS4 := hid (cells3 HS2.out hb24)
 have HQ4 : Hid (w4.heap[q2]? = some (.cells #[.slice a2 n2 c2, .bool l', .bool r'] 157 (0, 0))) := hid (by rw [hw4, hq2]; exact heap_alloc_new w3 _)
 have HW4 := hid (And.intro hq2 hw4)
 have HB4' : Hid (Below B w w4) := hid (HBC.out.trans (HB4.out.mono (by have := HSC.out; omega)))
 clear hb3 hb24 hq2 hw4
 obtain ⟨⟨y0, y1, y2⟩, _⟩ := three HS4.out
 rw [HW4.out.2] at y0 y1 y2
 by_cases h1 : ep = 0
 ·subst h1
  by_cases h2 : eq = 0
  ·subst h2
   have HFV1 := hid (HFV.out rfl rfl)
   go_wp2_with fail
   rw [← HW4.out.2, ← HW4.out.1]
   clear y0 y1 y2 HW4
   refine (KH.out a1 n1 c1 w4).mono ?_
   rintro e w5 ⟨rfl, hb5⟩
   have HB5 : Hid (Below wC.heap.size wC w5) := hid (HB4.out.trans (hb5.mono HB4.out.size))
   have HB5' : Hid (Below B w w5) := hid (HBC.out.trans (HB5.out.mono (by have := HSC.out; omega)))
   have HQ5 := hid (cells3 HQ4.out hb5)
   have HR5 : Hid (RB w5 B z) := hid (HRC.out.keep HB5.out (by have := HSC.out; omega))
   have HO5 : Hid (D3 w5 (B + 1) (p, g, s)) := hid (HOC.out.below HB5.out)
   have HK5 : Hid (D3 w5 (B + 1 + 1) (q, h, t)) := hid (HKC.out.below HB5.out)
   clear hb5
   cases Ev with
   | false =>
    go_wp2
    go_ret
    exact ⟨by rw [HFV1.out]; rfl, by rw [← HBB.out]; exact HB5'.out⟩
   | true =>
    obtain ⟨⟨u0, u1, u2⟩, _⟩ := three HQ5.out
    obtain ⟨o0, o1, o2⟩ := HO5.out.cells
    obtain ⟨k0, k1, k2⟩ := HK5.out.cells
    dsimp only at o0 o1 o2 k0 k1 k2
    by_cases hgh : g = h
    ·subst hgh
     have HKS : Hid (∀ w', Below w5.heap.size w5 w' → (w'.cell? ⟨B + 1, 0, none⟩ = some (.string (mk p)) ∧ w'.cell? ⟨B + 1, 1, none⟩ = some (.int .i64 g) ∧ w'.cell? ⟨B + 1, 2, none⟩ = some (.int .i64 s)) ∧ w'.cell? ⟨B + 1 + 1, 0, none⟩ = some (.string (mk q)) ∧ w'.cell? ⟨B + 1 + 1, 1, none⟩ = some (.int .i64 g) ∧ w'.cell? ⟨B + 1 + 1, 2, none⟩ = some (.int .i64 t)) := hid fun w' hh => ⟨(HO5.out.below hh).cells, (HK5.out.below hh).cells⟩
     obtain ⟨rfl, rfl⟩ | ⟨rfl, rfl⟩ | ⟨rfl, rfl, rfl⟩ | ⟨rfl, rfl, rfl⟩ | ⟨rfl, rfl⟩ : (l' = true ∧ b = true) ∨ (l' = true ∧ b = false) ∨ (l' = false ∧ r' = true ∧ b = true) ∨ (l' = false ∧ r' = true ∧ b = false) ∨ (l' = false ∧ r' = false) := by cases l' <;> cases r' <;> cases b <;> simp
     all_goals
      go_wp2_with fail
      go_region_held3 (fun w' => (w'.cell? ⟨B + 1, 0, none⟩ = some (.string (mk p)) ∧ w'.cell? ⟨B + 1, 1, none⟩ = some (.int .i64 g) ∧ w'.cell? ⟨B + 1, 2, none⟩ = some (.int .i64 s)) ∧ w'.cell? ⟨B + 1 + 1, 0, none⟩ = some (.string (mk q)) ∧ w'.cell? ⟨B + 1 + 1, 1, none⟩ = some (.int .i64 g) ∧ w'.cell? ⟨B + 1 + 1, 2, none⟩ = some (.int .i64 t))
       (first
        | exact HKS.out _ HB6.out
        | exact HKS.out _ (zAA w5 _).drew
        | exact HKS.out _ ((Below.refl _ _).drew.alloc (Nat.le_refl _) _)
        | exact HKS.out _ (Below.refl _ _).drew)
       (first
        | (go_at_call 120; (refine (KS.out _).mono ?_); (rintro e w' ⟨rfl, rfl⟩))
        | (go_at_call 119; (with_reducible refine (KL.out _ _ ?_).mono ?_); (first | exact (zKe w5 (p, g, s) (q, g, t) rfl).drew | exact zKe w5.drew (p, g, s) (q, g, t) rfl); (rintro e w6 ⟨rfl, hb6⟩); (have HB6 : Hid (Below w5.heap.size w5 w6) := hid (Below.trans (by first | exact (zAA w5 _).drew | exact (Below.refl _ _).drew.alloc (Nat.le_refl _) _) (hb6.mono (by simp)))); clear hb6))
     all_goals
      obtain ⟨o0, o1, o2⟩ := (HO5.out.below HB6.out).cells
      obtain ⟨k0, k1, k2⟩ := (HK5.out.below HB6.out).cells
      have HR6 := hid (HR5.out.keep HB6.out HR5.out.lt)
      dsimp only at o0 o1 o2 k0 k1 k2
      go_wp2_with (first
       | (refine zAi rfl (.tmp 4) rfl B rfl z HZ.out HR6.out ?_)
       | (go_at_call 121; refine (KT.out _).mono ?_; rintro e w7 ⟨rfl, hb7⟩; have HB6 := hid (HB6.out.trans (hb7.mono HB6.out.size)); clear hb7))
      go_ret
      exact ⟨zAk (by rw [HFV1.out]; simp), by rw [← HBB.out]; exact HB5'.out.trans (HB6.out.mono (by have := HBB.out; have := HB5'.out.size; omega))⟩
    ·have hgb : (g == h) = false := by simpa using hgh
     obtain rfl | ⟨rfl, rfl⟩ | ⟨rfl, rfl⟩ : l' = true ∨ (l' = false ∧ r' = true) ∨ (l' = false ∧ r' = false) := by cases l' <;> cases r' <;> simp
     all_goals
      go_wp2_with fail
      go_region
      go_wp2_with (first
       | (refine zAi rfl (.tmp 4) rfl B rfl z HZ.out HR5.out ?_)
       | (go_at_call 121; refine (KT.out _).mono ?_; rintro e w7 ⟨rfl, hb7⟩; have HB6 := hid ((Below.refl w5.heap.size w5).drew.trans (hb7.mono (by simp))); clear hb7))
      go_ret
      exact ⟨zAk (by rw [HFV1.out]; simp [hgh]), by rw [← HBB.out]; first | exact HB5'.out.drew | exact HB5'.out.trans (HB6.out.mono (by have := HBB.out; have := HB5'.out.size; omega))⟩
  ·have HVE := hid (HV2'.out h2)
   go_wp2
   go_ret
   exact ⟨by rw [HVE.out]; rfl, by rw [← HBB.out, ← HW4.out.2]; exact HB4'.out⟩
 ·have HVE := hid (HV1'.out h1)
  go_wp2
  go_ret
  exact ⟨by rw [HVE.out]; rfl, by rw [← HBB.out, ← HW4.out.2]; exact HB4'.out⟩
end
section
open Go.RowKit
theorem zOh : (Tryz.prog.info? 38).map (·.size) = some 3 := by kernel_rfl
theorem zKh {ops : Array Oper} {rest : List Oper} {o : Oper} {a : Act} {w : World} {Q : Exit → Act → World → Prop} (hw : Region.wanted o (yielded ops a.tmps) = true) (x : Operand) (ho : o.op = .load 38 x)
  (b : Nat) (hx : a.eval x = .pointer (some ⟨b, 0, none⟩)) (p : Nm) (g s : Int) (h : D3 w b (p, g, s))
  (k : wpList Tryz.prog ops Q rest (a.put o.dst (.agg #[.string (mk p), .int .i64 g, .int .i64 s])) w) : wpList Tryz.prog ops Q (o :: rest) a w :=
 wpList_step fun K hK => by
  rw [if_pos hw]
  exact wp_load_row 38 x ho b hx _ _ _ _ h Tryz.underlying38 rfl zOh (hK _ _ k)
theorem zQm {ops : Array Oper} {rest : List Oper} {o : Oper} {a : Act} {w : World} {Q : Exit → Act → World → Prop} (hgd : o.guard = none) (x y : Operand) (ho : o.op = .store 38 x y)
  (b : Nat) (hx : a.eval x = .pointer (some ⟨b, 0, none⟩)) (p : Nm) (g s : Int) (hy : a.eval y = .agg #[.string (mk p), .int .i64 g, .int .i64 s]) (u : OP) (h : D3 w b u)
  (k : ∀ w', D3 w' b (p, g, s) → Only b w w' → wpList Tryz.prog ops Q rest (a.put o.dst undef) w') : wpList Tryz.prog ops Q (o :: rest) a w :=
 wpList_store_row hgd 38 x y ho b _ hx hy _ _ h zOh rfl (by kernel_rfl) (k _ (setRow_heap w b _ _ _ _ h) (Only.ofRow w b _))
theorem D3.only {w w' : World} {D g : Nat} {o : OP} (h : D3 w D o) (ho : Only g w w') (hne : D ≠ g) : D3 w' D o := (ho.block D hne).trans h
end
section
open Go.RowKit
theorem zOi {w : World} {b off n c : Nat} {K : List Int} (h : Vs 1 w (some ⟨b, off, none⟩) n c (K.map (Value.int .i64))) {k : Nat} (hk : k < n) : w.cell? ⟨b, off + k, none⟩ = some (.int .i64 (bt K k)) := by
 have hl := h.hl
 rw [List.length_map] at hl
 rw [h.cells (by omega) (by omega), List.getElem?_map, List.getElem?_eq_getElem (by omega)]
 unfold bt
 simp [List.getD, show k < K.length by omega]
set_option maxRecDepth 20000 in
theorem zJE (a : Option Addr) (n c : Nat) (K : List Int) (x : Int) (w : World) (h : Vs 1 w a n c (K.map (Value.int .i64))) (hsz : n ≤ 1000000) :
  Calls Tryz.prog 152 #[.slice a n c, .int .i64 x] w fun e w' => ∃ v : Int, e = .returned (.int .i64 v) ∧ (0 ≤ v ↔ x ∈ K) ∧ w = w' := by
 have HL : Hid (K.length = n) := hid (by have := h.hl; rw [List.length_map] at this; omega)
 have H := hid h
 have hlc := h.lc
 clear h
 go_enter Tryz.func152, Tryz.ntmps152
 go_wp2
 go_loopw [8] (fun v wr => ∃ k : Nat, v = .int .i64 k ∧ k ≤ n ∧ Hid (∀ j, j < k → bt K j ≠ x) ∧ wr = w) (fun v _ => n - (intOf v).toNat)
 case atStart => exact ⟨0, rfl, by omega, hid fun j hj => by omega, rfl⟩
 case round =>
  obtain ⟨k, rfl, hk, HN, rfl⟩ := hrel
  by_cases hlt : k < n
  ·obtain ⟨b, o, rfl, _, hc⟩ := H.out.at_ (by omega)
   clear hc
   have c0 := zOi H.out hlt
   obtain ⟨q, hq⟩ : ∃ q, q = bt K k := ⟨_, rfl⟩
   rw [← hq] at c0
   have HQ := hid hq
   clear hq
   cases he : (x == q) with
   | true =>
    have HE := hid he
    go_wp2
    go_ret
    exact ⟨_, rfl, ⟨fun _ => by
     have hkl : k < K.length := by rw [HL.out]; exact hlt
     rw [eq_of_beq HE.out, HQ.out]; unfold bt; simp [List.getD, hkl], fun _ => by omega⟩, rfl⟩
   | false =>
    have HN1 : Hid (∀ j, j < k + 1 → bt K j ≠ x) := hid fun j hj => by
     by_cases hjk : j = k
     ·subst hjk; rw [← HQ.out]; exact (beq_eq_false_iff_ne.1 he).symm
     ·exact HN.out j (by omega)
    go_wp2
    go_roundw
    case rel => exact ⟨k + 1, by go_num, by omega, HN1, trivial⟩
    case measure => simp [intOf]; omega
  ·go_wp2
   go_ret
   refine ⟨_, rfl, ⟨fun h => absurd h (by decide), fun hm => ?_⟩, rfl⟩
   obtain ⟨j, hj, e⟩ := List.mem_iff_getElem.1 hm
   refine absurd ?_ (HN.out j (by rw [HL.out] at hj; omega))
   unfold bt; rw [← e]; simp [List.getD, hj]
set_option maxRecDepth 20000 in
theorem zFd (a : Option Addr) (n c : Nat) (K : List Int) (x : Int) (w : World) (h : Vs 1 w a n c (K.map (Value.int .i64))) (hsz : n ≤ 1000000) :
  Calls Tryz.prog 123 #[.slice a n c, .int .i64 x] w fun e w' => e = .returned (.bool (K.contains x)) ∧ w = w' := by
 have H := hid h
 clear h
 go_enter Tryz.func123, Tryz.ntmps123
 go_wp2_with fail
 refine (zJE a n c K x w H.out hsz).mono ?_
 rintro e w1 ⟨v, rfl, hv, rfl⟩
 have HV : Hid (decide (0 ≤ v) = K.contains x) := hid (by rw [Bool.eq_iff_iff, decide_eq_true_eq, hv]; simp)
 clear hv
 go_wp2
 go_ret
 exact ⟨by rw [← HV.out]; rfl, rfl⟩
def T5 (w : World) (b : Nat) (k f t : Int) (x : Nm) (e : Int) : Prop := w.heap[b]? = some (.cells #[.int .i64 k, .int .i64 f, .int .i64 t, .string (mk x), .int .i64 e] 51 (0, 0))
theorem T5.cells {w : World} {b : Nat} {k f t : Int} {x : Nm} {e : Int} (h : T5 w b k f t x e) : w.cell? ⟨b, 0, none⟩ = some (.int .i64 k) ∧ w.cell? ⟨b, 1, none⟩ = some (.int .i64 f) ∧ w.cell? ⟨b, 2, none⟩ = some (.int .i64 t) ∧ w.cell? ⟨b, 3, none⟩ = some (.string (mk x)) ∧ w.cell? ⟨b, 4, none⟩ = some (.int .i64 e) :=
 ⟨cell_of_row w b 0 _ _ _ h, cell_of_row w b 1 _ _ _ h, cell_of_row w b 2 _ _ _ h, cell_of_row w b 3 _ _ _ h, cell_of_row w b 4 _ _ _ h⟩
theorem T5.new (w : World) (k f t : Int) (x : Nm) (e : Int) : T5 (w.alloc (.cells #[.int .i64 k, .int .i64 f, .int .i64 t, .string (mk x), .int .i64 e] 51)) w.heap.size k f t x e := heap_alloc_new w _
theorem T5.below {w w' : World} {b : Nat} {k f t : Int} {x : Nm} {e : Int} (h : T5 w b k f t x e) (hb : Below w.heap.size w w') : T5 w' b k f t x e := (hb.block b (Array.getElem?_eq_some_iff.1 h).1).trans h
theorem T5.alloc {w : World} {b : Nat} {k f t : Int} {x : Nm} {e : Int} (h : T5 w b k f t x e) (o : Obj) : T5 (w.alloc o) b k f t x e := h.below (zAA w o)
theorem zFe (w : World) (K : List Int) {g n : Nat} (hn : K.length = n) (hm : n ≤ 10) (hg : g = w.heap.size) : Vs 1 (w.alloc (.cells (K.map (Value.int .i64)).toArray 3)) (some ⟨g, 0, none⟩) n n (K.map (Value.int .i64)) := by
 subst hg
 refine ⟨by rw [List.length_map]; omega, Nat.le_refl _, by unfold maxLen; omega, fun _ => ⟨w.heap.size, 0, rfl, by simp, fun j hj => ?_⟩⟩
 rw [cell_of_row _ w.heap.size (0 + j) _ _ _ (heap_alloc_new w _), Nat.zero_add, List.getElem?_toArray]
set_option maxRecDepth 20000 in
theorem zEH (k f t : Int) (x : Nm) (e : Int) (a : Option Addr) (n c : Nat) (K : List Int) (w : World) (h : Vs 1 w a n c (K.map (Value.int .i64))) (hsz : n ≤ 1000000) :
  Calls Tryz.prog 81 #[.agg #[.int .i64 k, .int .i64 f, .int .i64 t, .string (mk x), .int .i64 e], .slice a n c] w fun e' w' => e' = .returned (.bool (K.contains k)) ∧ Below w.heap.size w w' := by
 have hb := zAA w (.cells #[.int .i64 k, .int .i64 f, .int .i64 t, .string (mk x), .int .i64 e] 51)
 have HB := hid hb
 have H := hid (h.below hb)
 have c0 := (T5.new w k f t x e).cells.1
 clear h hb
 go_enter Tryz.func81, Tryz.ntmps81
 go_wp2_with fail
 refine (zFd a n c K k _ H.out hsz).mono ?_
 rintro e' w1 ⟨rfl, rfl⟩
 go_wp2
 go_ret
 exact ⟨zAk (by simp), HB.out⟩
theorem zMe (k : Int) : [1, 2, 6].contains k = (k == 1 || (k == 2 || k == 6)) := by simp only [List.contains, List.elem]; cases k == 1 <;> cases k == 2 <;> cases k == 6 <;> rfl
theorem zGX (k : Int) : [1, 2].contains k = (k == 1 || k == 2) := by simp only [List.contains, List.elem]; cases k == 1 <;> cases k == 2 <;> rfl
theorem zKi (k : Int) : [3, 4, 5].contains k = (k == 3 || (k == 4 || k == 5)) := by simp only [List.contains, List.elem]; cases k == 3 <;> cases k == 4 <;> cases k == 5 <;> rfl
set_option maxRecDepth 20000 in
set_option maxHeartbeats 4000000 in
theorem zKj (k f t : Int) (x : Nm) (e : Int) (y : Nm) (w : World) :
  Calls Tryz.prog 112 #[.agg #[.int .i64 k, .int .i64 f, .int .i64 t, .string (mk x), .int .i64 e], .string (mk y)] w fun e' w' => e' = .returned (.bool (partB k x y)) ∧ Below w.heap.size w w' := by
 obtain ⟨B, hB⟩ : ∃ B, B = w.heap.size := ⟨_, rfl⟩
 obtain ⟨w1, hw1⟩ : ∃ w1, w1 = w.alloc (.cells #[.int .i64 k, .int .i64 f, .int .i64 t, .string (mk x), .int .i64 e] 51) := ⟨_, rfl⟩
 have HT1 : Hid (T5 w1 B k f t x e) := hid (by rw [hw1, hB]; exact T5.new w k f t x e)
 have HB1 : Hid (Below w.heap.size w w1) := hid (by rw [hw1]; exact zAA w _)
 obtain ⟨v, hv⟩ : ∃ v, v = [1, 2, 6].contains k := ⟨_, rfl⟩
 have HP : Hid (partB k x y = (v && x == y)) := hid (by rw [hv, zMe]; rfl)
 have KO : Hid (∀ (g : Nat) (w' : World), Vs 1 w' (some ⟨g, 0, none⟩) 3 3 ([1, 2, 6].map (Value.int .i64)) → Calls Tryz.prog 81 #[.agg #[.int .i64 k, .int .i64 f, .int .i64 t, .string (mk x), .int .i64 e], .slice (some ⟨g, 0, none⟩) 3 3] w' fun e' w'' => e' = .returned (.bool v) ∧ Below w'.heap.size w' w'') := hid fun g w' hh => by rw [hv]; exact zEH k f t x e _ 3 3 [1, 2, 6] w' hh (by decide)
 have hx := mk_toList x
 have hy := mk_toList y
 clear hv
 obtain ⟨c0, c1, c2, c3, c4⟩ := HT1.out.cells
 go_enter Tryz.func112, Tryz.ntmps112
 go_upto_region 1 with fail
 rw [← hw1, ← hB]
 clear hw1 hB
 go_wp2_with fail
 refine (KO.out _ _ (zFe w1 [1, 2, 6] rfl (by decide) rfl)).mono ?_
 rintro e' w2 ⟨rfl, hb2⟩
 have HB2 : Hid (Below w1.heap.size w1 w2) := hid ((zAA w1 _).trans (hb2.mono (by simp)))
 have d3 := (HT1.out.below HB2.out).cells.2.2.2.1
 clear hb2 c0 c1 c2 c3 c4
 cases v with
 | false =>
  go_wp2
  go_ret
  exact ⟨by rw [HP.out]; rfl, HB1.out.trans (HB2.out.mono HB1.out.size)⟩
 | true =>
  cases he : (x == y) with
  | true =>
   go_wp2
   go_ret
   exact ⟨zAk (by rw [HP.out]; simp [he]), HB1.out.trans (HB2.out.mono HB1.out.size)⟩
  | false =>
   go_wp2
   go_ret
   exact ⟨zAk (by rw [HP.out]; simp [he]), HB1.out.trans (HB2.out.mono HB1.out.size)⟩
def freeB (L : List OP) (z : List Int) (x : Nm) : Bool := (entL L z x).length == 0
set_option maxRecDepth 100000 in
set_option maxHeartbeats 8000000 in
theorem zKk (a : Option Addr) (n c : Nat) (L : List OP) (z : List Int) (k f t : Int) (x : Nm) (e : Int) (w : World) (ht : Tab w) (h : OpS w a n c L) (hz : z.length = 10) (hn : n ≤ 1000000) (hp : ∀ o ∈ L, o.1.length ≤ 1000000) :
  Calls Tryz.prog 42 #[.agg (ev a n c z), .agg #[.int .i64 k, .int .i64 f, .int .i64 t, .string (mk x), .int .i64 e]] w fun e' w' => e' = .returned (.bool (leafB k (freeB L z x))) ∧ Below w.heap.size w w' := by
 obtain ⟨B, hB⟩ : ∃ B, B = w.heap.size := ⟨_, rfl⟩
 obtain ⟨w0, hw0⟩ : ∃ w0, w0 = w.alloc (.cells (ev a n c z) 34) := ⟨_, rfl⟩
 obtain ⟨w1, hw1⟩ : ∃ w1, w1 = w0.alloc (.cells #[.int .i64 k, .int .i64 f, .int .i64 t, .string (mk x), .int .i64 e] 51) := ⟨_, rfl⟩
 have s0 : w0.heap.size = B + 1 := by rw [hw0, hB]; simp
 have HE1 : Hid (EB w1 B a n c z) := hid (by rw [hw1, hw0, hB]; exact (EB.new w a n c z).alloc _)
 have HT1 : Hid (T5 w1 (B + 1) k f t x e) := hid (by rw [hw1, ← s0]; exact T5.new w0 k f t x e)
 have hb1 : Below w.heap.size w w1 := by rw [hw1, hw0]; exact (zAA w _).alloc (by simp) _
 have HB1 := hid hb1
 obtain ⟨v, hv⟩ : ∃ v, v = [1, 2].contains k := ⟨_, rfl⟩
 obtain ⟨u, hu⟩ : ∃ u, u = [3, 4, 5].contains k := ⟨_, rfl⟩
 obtain ⟨m, hm⟩ : ∃ m, m = (entL L z x).length := ⟨_, rfl⟩
 have HP1 : Hid (v = true → leafB k (freeB L z x) = (m == 0)) := hid fun h0 => by
  rw [h0, zGX] at hv
  unfold leafB
  rw [← hv, Bool.true_and]
  rw [show freeB L z x = (m == 0) by rw [hm]; rfl]
  have hk : k = 1 ∨ k = 2 := by simpa using hv.symm
  rcases hk with rfl | rfl <;> rfl
 have HP2 : Hid (v = false → leafB k (freeB L z x) = u) := hid fun h0 => by
  rw [h0, zGX] at hv
  unfold leafB
  rw [← hv, Bool.false_and, Bool.or_false, hu, zKi]
 have KO : Hid (∀ (g : Nat) (w' : World), Vs 1 w' (some ⟨g, 0, none⟩) 2 2 ([1, 2].map (Value.int .i64)) → Calls Tryz.prog 81 #[.agg #[.int .i64 k, .int .i64 f, .int .i64 t, .string (mk x), .int .i64 e], .slice (some ⟨g, 0, none⟩) 2 2] w' fun e' w'' => e' = .returned (.bool v) ∧ Below w'.heap.size w' w'') := hid fun g w' hh => by rw [hv]; exact zEH k f t x e _ 2 2 [1, 2] w' hh (by decide)
 have KU : Hid (∀ (g : Nat) (w' : World), Vs 1 w' (some ⟨g, 0, none⟩) 3 3 ([3, 4, 5].map (Value.int .i64)) → Calls Tryz.prog 81 #[.agg #[.int .i64 k, .int .i64 f, .int .i64 t, .string (mk x), .int .i64 e], .slice (some ⟨g, 0, none⟩) 3 3] w' fun e' w'' => e' = .returned (.bool u) ∧ Below w'.heap.size w' w'') := hid fun g w' hh => by rw [hu]; exact zEH k f t x e _ 3 3 [3, 4, 5] w' hh (by decide)
 have KE : Hid (∀ w' : World, Below w1.heap.size w1 w' → Calls Tryz.prog 35 #[.agg (ev a n c z), .string (mk x)] w' fun e' w'' => ∃ a' c', e' = .returned (.slice a' m c') ∧ Below w'.heap.size w' w'') := hid fun w' hh => by
  rw [hm]
  refine (zEC a n c L z x w' ((ht.keep hb1).keep hh) ((h.below hb1).below hh) hz hn hp).mono ?_
  rintro e' w'' ⟨a', c', rfl, _, hb⟩
  exact ⟨a', c', rfl, hb⟩
 have HZ := hid hz
 have HM : Hid (m ≤ 4611686018427387904) := hid (by
  rw [hm]
  have h1 : (entL L z x).length ≤ L.length := zDc ..
  have := OpS.len h
  omega)
 clear hv hu hm ht h hz hn hp hb1
 obtain ⟨c0, c1, c2, c3, c4⟩ := HT1.out.cells
 go_enter Tryz.func42, Tryz.ntmps42
 go_upto_region 1 with fail
 rw [← hw0, ← hw1]
 try rw [s0]
 try rw [← hB]
 clear hw0 hw1 s0 hB
 go_wp2_with fail
 refine (KO.out _ _ (zFe w1 [1, 2] rfl (by decide) rfl)).mono ?_
 rintro e' w2 ⟨rfl, hb2⟩
 have HB2 : Hid (Below w1.heap.size w1 w2) := hid ((zAA w1 _).trans (hb2.mono (by simp)))
 clear hb2 c0 c1 c2 c3 c4
 obtain ⟨c0, c1, c2, c3, c4⟩ := (HT1.out.below HB2.out).cells
 cases v with
 | true =>
  have HP := hid (HP1.out rfl)
  have hm0 := HM.out
  go_wp2_with (first
   | (refine zAS rfl (.tmp 2) rfl B rfl a n c z HZ.out (HE1.out.below HB2.out) ?_)
   | (go_at_call 35; refine (KE.out w2 HB2.out).mono ?_; rintro e' w3 ⟨a', c', rfl, hb3⟩; have HB3 := hid (HB2.out.trans (hb3.mono HB2.out.size)); clear hb3))
  go_ret
  exact ⟨zAk (by rw [HP.out, Bool.eq_iff_iff]; simp), HB1.out.trans (HB3.out.mono HB1.out.size)⟩
 | false =>
  have HP := hid (HP2.out rfl)
  go_wp2_with fail
  refine (KU.out _ _ (zFe w2 [3, 4, 5] rfl (by decide) rfl)).mono ?_
  rintro e' w3 ⟨rfl, hb3⟩
  have HB3 : Hid (Below w1.heap.size w1 w3) := hid (HB2.out.trans (((zAA w2 _).trans (hb3.mono (by simp))).mono HB2.out.size))
  clear hb3 c0 c1 c2 c3 c4
  go_wp2
  go_ret
  exact ⟨by rw [HP.out]; rfl, HB1.out.trans (HB3.out.mono HB1.out.size)⟩
end
end Go.Proofs.YtcjbhdgjcpnklaaGreatDoor
