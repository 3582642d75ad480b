import Derived.Deep.RegionHeld3
import Derived.Laws.ResultCell
import Derived.Test.YtcjbhdgjcpnklaaGreatDoorV22
import Derived.Test.YtcjbhdgjcpnklaaGreatDoorV11
namespace Go.Proofs.YtcjbhdgjcpnklaaGreatDoor
section
open Go.RowKit
theorem zNY : ∀ l : Nm, (pr l).1.length ≤ l.length + 1 := by
 refine zJ1 fun l ih => ?_
 rw [zBu]
 rcases zDz l with h | ⟨r, h⟩
 ·rw [h]; simp [cont]
 ·rw [h]
  have hlt := zGE h
  have := ih r hlt
  simp only [cont]
  split
  ·simp
  ·rw [List.length_cons]; omega
theorem zPd (l : Nm) : (rd l).P.length ≤ l.length + 1 := by
 unfold rd
 split
 ·have := zNY l.tail
  rw [List.length_tail] at this
  simp only
  omega
 ·exact zNY l
theorem zOI (p : Nm) : (tl p).length ≤ p.length := by
 have := congrArg List.length (zG4 p)
 rw [List.length_append] at this
 omega
theorem zQL (p : Nm) : (mL p).length ≤ p.length := by
 unfold mL; split
 ·rw [List.length_tail]; omega
 ·exact Nat.le_refl _
theorem zMB (p : Nm) : (rd p).P = hd (mL p) :: (cont (tl (mL p))).1 ∧ (rd p).l = mB p ∧ (rd p).r = (cont (tl (mL p))).2 := by
 unfold rd mL mB
 by_cases h : p.head? = some 95
 ·rw [if_pos h, show (p.head? == some 95) = true by rw [h]; rfl, if_pos rfl, zBu]; exact ⟨rfl, rfl, rfl⟩
 ·rw [if_neg h, show (p.head? == some 95) = false by simpa using h, zBu]; exact ⟨rfl, rfl, rfl⟩
theorem OwnV.apart {base : Nat} {e : TypeId} {k : Nat} {w : World} {a : Option Addr} {len cap : Nat} {xs : List Value} (h : OwnV base e k w a len cap xs) {q : Nat} (hq : q < base) : (Value.slice a len cap).ownBlock ≠ Option.some q := fun he => by
 have := (World.ownsRow.lt h q he).1
 omega
theorem OwnV.base {base base' : Nat} {e : TypeId} {k : Nat} {w : World} {a : Option Addr} {len cap : Nat} {xs : List Value} (h : OwnV base e k w a len cap xs) (hb : base' ≤ base) : OwnV base' e k w a len cap xs := by
 obtain ⟨hl, h1⟩ := h
 rcases h1 with h1 | ⟨g, cp, cur, hv, h2, r⟩
 ·exact ⟨hl, .inl h1⟩
 ·exact ⟨hl, .inr ⟨g, cp, cur, hv, by omega, r⟩⟩
structure RdS (w wr : World) (R g q : Nat) (D : List Nm) (rest : Nm) (l : Bool) (a : Option Addr) (n c : Nat) : Prop where
 r : RS wr g rest
 s : wr.heap[q]? = some (.cells #[.slice a n c, .bool l, .bool false] 157 (0, 0))
 o : OwnV (q + 1) 9 1 wr a n c (D.map enS)
 z : wr.heap[R]? = some (.cells #[.slice none 0 0, .bool false, .bool false] 157 (0, 0))
 b : Below R w wr
 rg : R < g
 gq : g < q
 rw_ : R ≤ w.heap.size
theorem zFM {w wr w' : World} {R g q : Nat} {D : List Nm} {rest rest' : Nm} {l : Bool} {a : Option Addr} {n c : Nat} (h : RdS w wr R g q D rest l a n c) (hr : RS w' g rest') (hg : wr.grownBy w' (some g)) : RdS w w' R g q D rest' l a n c :=
 ⟨hr, zBx hg h.s (by have := h.gq; omega), h.o.other hg (.inr (h.o.apart (by have := h.gq; omega))), zBx hg h.z (by have := h.rg; omega),
  h.b.trans (zBD hg (by have := h.rg; omega) (Nat.le_trans h.rw_ h.b.size)), h.rg, h.gq, h.rw_⟩
theorem zH5 {w wr w' : World} {R g q : Nat} {D : List Nm} {rest x : Nm} {l : Bool} {a a' : Option Addr} {n c c' : Nat} (h : RdS w wr R g q D rest l a n c) (hb : Below (q + 1) wr w') (ho : OwnV (q + 1) 9 1 w' a' (n + 1) c' (D.map enS ++ [.string (mk x)])) :
  RdS w (w'.setCell ⟨q, 0, none⟩ (.slice a' (n + 1) c')) R g q (D ++ [x]) rest l a' (n + 1) c' := by
 have h1 := h.rg
 have h2 := h.gq
 have hs : w'.heap[q]? = some (.cells #[.slice a n c, .bool l, .bool false] 157 (0, 0)) := (hb.block q (by omega)).trans h.s
 refine ⟨?_, ?_, ?_, ?_, ?_, h1, h2, h.rw_⟩
 ·exact zBx (zB6 w' q 0 _) ((hb.block g (by omega)).trans h.r) (by omega)
 ·rw [zCD _ hs]; simp
 ·rw [List.map_append]
  exact ho.other (zB6 w' q 0 _) (.inr (ho.apart (by omega)))
 ·exact zBx (zB6 w' q 0 _) ((hb.block R (by omega)).trans h.z) (by omega)
 ·refine h.b.trans ((hb.mono (by omega)).trans (zBD (zB6 w' q 0 _) (by omega) ?_))
  have := hb.size
  have := h.b.size
  have := h.rw_
  omega
theorem zEt {w wr : World} {R g q : Nat} {D : List Nm} {rest : Nm} {l : Bool} {a : Option Addr} {n c : Nat} (h : RdS w wr R g q D rest l a n c) : wr.cell? ⟨q, 0, none⟩ = some (.slice a n c) ∧ wr.cell? ⟨q, 1, none⟩ = some (.bool l) ∧ wr.cell? ⟨q, 2, none⟩ = some (.bool false) := by
 have := h.s
 refine ⟨?_, ?_, ?_⟩ <;> simp [World.cell?, this]
theorem zG7 {w : World} {q j : Nat} {cs : Array Value} {e : TypeId} (h : w.heap[q]? = some (.cells cs e (0, 0))) : w.frozen? ⟨q, j, none⟩ = false := by simp [World.frozen?, h]
theorem three {w : World} {q : Nat} {x y z : Value} {e : TypeId} (h : w.heap[q]? = some (.cells #[x, y, z] e (0, 0))) :
  (w.cell? ⟨q, 0, none⟩ = some x ∧ w.cell? ⟨q, 1, none⟩ = some y ∧ w.cell? ⟨q, 2, none⟩ = some z) ∧ w.frozen? ⟨q, 0, none⟩ = false ∧ w.frozen? ⟨q, 1, none⟩ = false ∧ w.frozen? ⟨q, 2, none⟩ = false := by
 refine ⟨⟨?_, ?_, ?_⟩, zG7 h, zG7 h, zG7 h⟩ <;> simp [World.cell?, h]
theorem zAO {w : World} {q : Nat} {x y z x' y' z' : Value} {e : TypeId} (h : w.heap[q]? = some (.cells #[x, y, z] e (0, 0))) :
  (((w.setCell ⟨q, 0, none⟩ x').setCell ⟨q, 1, none⟩ y').setCell ⟨q, 2, none⟩ z').heap[q]? = some (.cells #[x', y', z'] e (0, 0)) := by
 rw [zCD _ (zCD _ (zCD _ h))]; simp
theorem zAV (w : World) (q : Nat) (x' y' z' : Value) : w.grownBy (((w.setCell ⟨q, 0, none⟩ x').setCell ⟨q, 1, none⟩ y').setCell ⟨q, 2, none⟩ z') (some q) :=
 zCR (zCR (zB6 _ _ _ _) (zB6 _ _ _ _)) (zB6 _ _ _ _)
theorem zKB {w w' : World} {R q : Nat} {D : List Nm} {a : Option Addr} {n c : Nat} (hz : w'.heap[R]? = some (.cells #[.slice none 0 0, .bool false, .bool false] 157 (0, 0))) (ho : OwnV (q + 1) 9 1 w' a n c (D.map enS)) (hb : Below R w w') (hq : R < q) (l r : Bool) :
  (((w'.setCell ⟨R, 0, none⟩ (.slice a n c)).setCell ⟨R, 1, none⟩ (.bool l)).setCell ⟨R, 2, none⟩ (.bool r)).heap[R]? = some (.cells #[.slice a n c, .bool l, .bool r] 157 (0, 0)) ∧
  OwnV R 9 1 (((w'.setCell ⟨R, 0, none⟩ (.slice a n c)).setCell ⟨R, 1, none⟩ (.bool l)).setCell ⟨R, 2, none⟩ (.bool r)) a n c (D.map enS) ∧
  Below R w (((w'.setCell ⟨R, 0, none⟩ (.slice a n c)).setCell ⟨R, 1, none⟩ (.bool l)).setCell ⟨R, 2, none⟩ (.bool r)) := by
 have h1 := zAV w' R (.slice a n c) (.bool l) (.bool r)
 have hlt : R < w'.heap.size := (Array.getElem?_eq_some_iff.1 hz).1
 exact ⟨zAO hz, (ho.other h1 (.inr (ho.apart (by omega)))).base (by omega), hb.trans (zBD h1 (Nat.le_refl _) (by omega))⟩
def rl (g : Nat) (w : World) : Nat := match w.cell? ⟨g, 0, none⟩ with
 | some (.string s) => s.size
 | _ => 0
theorem zPe {w : World} {g : Nat} {p : Nm} (h : RS w g p) : rl g w = p.length := by unfold rl; rw [h.cell]; exact mk_size p
theorem zAK : (Tryz.prog.info? 157).map (·.size) = some 3 := by kernel_rfl
set_option maxRecDepth 100000 in
set_option maxHeartbeats 4000000 in
theorem zMC (p : Nm) (w : World) (hsz : p.length ≤ 10000) :
  Calls Tryz.prog 131 #[.string (mk p)] w fun e w' => ∃ a n c, e = .returned (.agg #[.slice a n c, .bool (rd p).l, .bool (rd p).r]) ∧ OwnV w.heap.size 9 1 w' a n c ((rd p).P.map enS) ∧ Below w.heap.size w w' := by
 obtain ⟨R, hR⟩ : ∃ R, R = w.heap.size := ⟨_, rfl⟩
 obtain ⟨g, hg⟩ : ∃ g, g = R + 1 := ⟨_, rfl⟩
 obtain ⟨w2, hw2⟩ : ∃ w2, w2 = (w.alloc (.cells #[.slice none 0 0, .bool false, .bool false] 157)).alloc (.cells #[.string (mk p)] 9) := ⟨_, rfl⟩
 have hs2 : w2.heap.size = g + 1 := by rw [hw2, hg, hR]; simp
 have HR2 : Hid (RS w2 g p) := hid (by
  have := heap_alloc_new (w.alloc (.cells #[.slice none 0 0, .bool false, .bool false] 157)) (.cells #[.string (mk p)] 9)
  rw [← hw2, show (w.alloc (.cells #[.slice none 0 0, .bool false, .bool false] 157)).heap.size = g from by simp [hg, hR]] at this
  exact this)
 have HZ2 : Hid (w2.heap[R]? = some (.cells #[.slice none 0 0, .bool false, .bool false] 157 (0, 0))) := hid (by
  rw [hw2, hR, Lib.alloc_old _ _ _ (by simp)]
  exact heap_alloc_new w _)
 have HB2 : Hid (Below R w w2) := hid (by rw [hw2, hR]; exact ((Below.refl _ _).alloc (Nat.le_refl _) _).alloc (by simp) _)
 rw [← hR]
 go_enter Tryz.func131, Tryz.ntmps131
 go_wp2_with fail
 rw [← hw2, ← hR, ← hg]
 refine (zH3 g p w2 HR2.out).mono ?_
 rintro e w3 ⟨rfl, hr3, hg3⟩
 obtain ⟨q, hq⟩ : ∃ q, q = w3.heap.size := ⟨_, rfl⟩
 obtain ⟨w4, hw4⟩ : ∃ w4, w4 = w3.alloc (.cells #[.slice none 0 0, .bool (mB p), .bool false] 157) := ⟨_, rfl⟩
 have H4 : Hid (RdS w w4 R g q [] (mL p) (mB p) none 0 0) := hid (by
  have h3 := hg3.size
  rw [hw4]
  refine ⟨hr3.below ((Below.refl _ _).alloc (Nat.le_refl _) _), by rw [hq]; exact heap_alloc_new w3 _, OwnV.none0, ?_, ?_, by omega, by omega, by omega⟩
  ·rw [Lib.alloc_old _ _ _ (by omega)]
   exact zBx hg3 HZ2.out (by omega)
  ·exact (HB2.out.trans (zBD hg3 (by omega) (by omega))).alloc (by omega) _)
 have hs4 : w4.heap.size = q + 1 := by rw [hw4, hq]; simp
 obtain ⟨x, hx⟩ : ∃ x, x = mL p := ⟨_, rfl⟩
 have hxl : x.length ≤ 10000 := by have := zQL p; rw [← hx] at this; omega
 rw [← hx] at H4
 have HXP := hid hx
 have HP1 : Hid (∀ w', RS w' g x → Calls Tryz.prog 158 #[.pointer (some ⟨g, 0, none⟩)] w' fun e w'' => e = .returned (.string (mk (hd x))) ∧ RS w'' g (tl x) ∧ w'.grownBy w'' (some g)) := hid fun w' h => zH4 g x w' h (by omega)
 go_wp2_with fail
 rw [← hR, ← hg, ← hq, ← hw4]
 clear hr3 hg3 hx hw2 hw4 hq hR hg hs2
 obtain ⟨k0, k1, k2⟩ := zEt H4.out
 go_region_law
  (first
   | (go_simp; go_at_call 158; (refine (HP1.out _ (RS.below H4.out.r (Below.refl _ _).drew)).mono ?_); (rintro e w6 ⟨rfl, hr6, hg6⟩); (have H6 : Hid (RdS w w6 R g q [] (tl x) (mB p) none 0 0) := hid (zFM H4.out hr6 (zCR (zDX (Below.refl _ _).drew) hg6))); (have hs6 : q + 1 ≤ w6.heap.size := by have h1 := hg6.size; have h2 : w4.drew.heap.size = w4.heap.size := rfl; omega); (have k6 := (zEt H6.out).1); (have k6a : ∀ o : Obj, (w6.alloc o).cell? ⟨q, 0, none⟩ = some (.slice none 0 0) := fun o => (((Below.refl _ _).alloc (Nat.le_refl _) o).cell (by show q < w6.heap.size; omega)).trans k6); clear hr6 hg6)
   | (refine zAH rfl (.tmp 14) (.tmp 17) 26 rfl 9 (q + 1) 1 16 _ Tryz.underlying26 zBw rfl (by omega) _ _ _ [] rfl OwnV.none0 _ _ _ [.string (mk (hd x))] rfl (Vs.lit (k := 1) (xs := [.string (mk (hd x))]) _ _ rfl rfl rfl) (by simp; rfl) (by unfold maxLen; omega) (by omega) (by simp; omega) ?_; intro a7 c7 w7 ho7 hg7 hb7 _; have HB7 : Hid (Below (q + 1) w6 w7) := hid (((Below.refl _ _).alloc hs6 _).trans hb7); have HO7 : Hid (OwnV (q + 1) 9 1 w7 a7 (0 + 1) c7 (([] : List Nm).map enS ++ [.string (mk (hd x))])) := hid ho7; have HX7 : Hid (w7.cell? ⟨q, 0, none⟩ = some (.slice none 0 0) ∧ w7.frozen? ⟨q, 0, none⟩ = false) := hid ⟨(HB7.out.cell (by show q < q + 1; omega)).trans (zEt H6.out).1, zG7 ((HB7.out.block q (by omega)).trans H6.out.s)⟩; have hf7 := HX7.out.2; have k7 := HX7.out.1; clear ho7 hg7 hb7))
 all_goals
  have HRF := zMB p
  rw [← HXP.out] at HRF
  have H8 : Hid (RdS w (w7.setCell ⟨q, 0, none⟩ (.slice a7 (0 + 1) c7)) R g q ([] ++ [hd x]) (tl x) (mB p) a7 (0 + 1) c7) := hid (zH5 H6.out HB7.out HO7.out)
  have HT8 : Hid ([hd x] ++ (cont (tl x)).1 = (rd p).P ∧ (cont (tl x)).2 = (rd p).r) := hid ⟨by rw [HRF.1]; rfl, HRF.2.2.symm⟩
  have HL : Hid ((rd p).l = mB p) := hid HRF.2.1
  have HQ : Hid ((rd p).P.length ≤ 10001) := hid (by have := zPd p; omega)
  have htl : (tl x).length ≤ 10000 := by have := zOI x; omega
  have HW8 := hid (zDz x)
  obtain ⟨y, hy⟩ : ∃ y, y = tl x := ⟨_, rfl⟩
  rw [← hy] at H8 HT8 htl HW8
  rw [Nat.zero_add] at H8
  clear H6 HO7 HX7 HB7 HP1 k6 k6a hf7 k7 hs6 hy HRF k0 k1 k2 hxl hs4 H4
  obtain ⟨w8, hw8⟩ : ∃ w8, w8 = w7.setCell ⟨q, 0, none⟩ (.slice a7 1 c7) := ⟨_, rfl⟩
  rw [← hw8] at H8
  rw [← hw8]
  clear hw8
  go_wp2
  go_loopw [] (fun wr => ∃ (D : List Nm) (rest : Nm) (a : Option Addr) (n c : Nat), Hid (RdS w wr R g q D rest (mB p) a n c) ∧ Hid (D ++ (cont rest).1 = (rd p).P ∧ (cont rest).2 = (rd p).r) ∧ Hid (rest = [] ∨ ∃ r, rest = 95 :: r) ∧ rest.length ≤ 10000) (fun wr => rl g wr)
  case atStart => exact ⟨_, _, _, _, _, H8, HT8, HW8, htl⟩
  case round =>
   obtain ⟨D, rest, a, n, c, HS, HT, HY, hrl⟩ := hrel
   have hn : n ≤ 10001 := by
    have h1 := HS.out.o.bounds.1
    have h2 := congrArg List.length HT.out.1
    have h3 := HQ.out
    rw [List.length_map] at h1
    rw [List.length_append] at h2
    omega
   go_wp2_with fail
   refine (zH3 g rest _ HS.out.r).mono ?_
   rintro e w9 ⟨rfl, hr9, hg9⟩
   have H9 : Hid (RdS w w9 R g q D (mL rest) (mB p) a n c) := hid (zFM HS.out hr9 hg9)
   clear hr9 hg9
   obtain ⟨k0, k1, k2⟩ := zEt H9.out
   obtain ⟨⟨z0, z1, z2⟩, f0, f1, f2⟩ := three H9.out.z
   rcases HY.out with hy | ⟨r, hy⟩
   ·subst hy
    have hmb : mB [] = false := rfl
    rw [hmb]
    have hD : D = (rd p).P := by have := HT.out.1; simpa [cont] using this
    have hr : (rd p).r = false := HT.out.2.symm
    have hE := zKB H9.out.z H9.out.o H9.out.b (by have h1 := H9.out.rg; have h2 := H9.out.gq; omega) (mB p) false
    have HEE := hid hE
    have HDD := hid hD
    have HRR := hid hr
    clear hE hD hr
    go_wp2
    refine bodyPost_ret (results_cell_row rfl _ _ R 157 #[.slice a n c, .bool (mB p), .bool false] (0, 0) _ rfl HEE.out.1 Tryz.underlying157 rfl zAK) rfl ⟨a, n, c, by rw [HL.out, HRR.out], by rw [← HDD.out]; exact HEE.out.2.1, HEE.out.2.2⟩
   ·subst hy
    have hmb : mB (95 :: r) = true := rfl
    have hml : mL (95 :: r) = r := rfl
    rw [hmb]
    rw [hml] at H9
    have c9 := H9.out.r.cell
    have hrl' : r.length ≤ 10000 := by simp only [List.length_cons] at hrl; omega
    by_cases hr : r = []
    ·subst hr
     have hcmp : (mk []).toList = [] := mk_toList []
     have hD : D = (rd p).P := by have := HT.out.1; simpa [cont] using this
     have hr : (rd p).r = true := HT.out.2.symm
     have hg8 := zB6 w9 q 2 (.bool true)
     have hRq : R < q := by have h1 := H9.out.rg; have h2 := H9.out.gq; omega
     have hz8 := zBx hg8 H9.out.z (by omega)
     obtain ⟨⟨y0, y1, y2⟩, e0, e1, e2⟩ := three hz8
     have hq8 : (w9.setCell ⟨q, 2, none⟩ (.bool true)).heap[q]? = some (.cells #[.slice a n c, .bool (mB p), .bool true] 157 (0, 0)) := by rw [zCD _ H9.out.s]; simp
     obtain ⟨⟨x0, x1, x2⟩, _⟩ := three hq8
     have fq : w9.frozen? ⟨q, 2, none⟩ = false := zG7 H9.out.s
     have hE := zKB hz8 (H9.out.o.other hg8 (.inr (H9.out.o.apart (by omega)))) (H9.out.b.trans (zBD hg8 (by omega) (Nat.le_trans H9.out.rw_ H9.out.b.size))) hRq (mB p) true
     have HEE := hid hE
     have HDD := hid hD
     have HRR := hid hr
     clear hE hD hr hg8 hz8 hq8
     go_wp2
     refine bodyPost_ret (results_cell_row rfl _ _ R 157 #[.slice a n c, .bool (mB p), .bool true] (0, 0) _ rfl HEE.out.1 Tryz.underlying157 rfl zAK) rfl ⟨a, n, c, by rw [HL.out, HRR.out], by rw [← HDD.out]; exact HEE.out.2.1, HEE.out.2.2⟩
    ·have hcmp : ((mk r).toList == []) = false := by rw [mk_toList]; simpa using hr
     have HC2 : Hid (cont (95 :: r) = (hd r :: (cont (tl r)).1, (cont (tl r)).2)) := hid (by rw [cont, if_neg hr, zBu])
     have HP9 : Hid (∀ w', RS w' g r → Calls Tryz.prog 158 #[.pointer (some ⟨g, 0, none⟩)] w' fun e w'' => e = .returned (.string (mk (hd r))) ∧ RS w'' g (tl r) ∧ w'.grownBy w'' (some g)) := hid fun w' h => zH4 g r w' h (by omega)
     have HS9 : Hid (q + 1 ≤ w9.heap.size) := hid (Array.getElem?_eq_some_iff.1 H9.out.s).1
     go_wp2
     go_region_law
      (first
       | (go_simp; go_at_call 158; (refine (HP9.out _ (RS.below H9.out.r (Below.refl _ _).drew)).mono ?_); (rintro e w10 ⟨rfl, hr10, hg10⟩); (have H10 : Hid (RdS w w10 R g q D (tl r) (mB p) a n c) := hid (zFM H9.out hr10 (zCR (zDX (Below.refl _ _).drew) hg10))); (have hs10 : q + 1 ≤ w10.heap.size := by have h1 := hg10.size; have h2 : w9.drew.heap.size = w9.heap.size := rfl; have h3 := HS9.out; omega); (have k10 := (zEt H10.out).1); (have k10a : ∀ o : Obj, (w10.alloc o).cell? ⟨q, 0, none⟩ = some (.slice a n c) := fun o => (((Below.refl _ _).alloc (Nat.le_refl _) o).cell (by show q < w10.heap.size; omega)).trans k10); clear hr10 hg10)
       | (refine zAH rfl (.tmp 26) (.tmp 29) 26 rfl 9 (q + 1) 1 16 _ Tryz.underlying26 zBw rfl (by omega) _ _ _ (D.map enS) rfl (H10.out.o.alloc _) _ _ _ [.string (mk (hd r))] rfl (Vs.lit (k := 1) (xs := [.string (mk (hd r))]) _ _ rfl rfl rfl) (by simp; rfl) (by unfold maxLen; omega) (by omega) (by simp; omega) ?_; intro a11 c11 w11 ho11 hg11 hb11 _; have HB11 : Hid (Below (q + 1) w10 w11) := hid (((Below.refl _ _).alloc hs10 _).trans hb11); have HO11 := hid ho11; have HX11 : Hid (w11.cell? ⟨q, 0, none⟩ = some (.slice a n c) ∧ w11.frozen? ⟨q, 0, none⟩ = false) := hid ⟨(HB11.out.cell (by show q < q + 1; omega)).trans (zEt H10.out).1, zG7 ((HB11.out.block q (by omega)).trans H10.out.s)⟩; have hf11 := HX11.out.2; have k11 := HX11.out.1; clear ho11 hg11 hb11))
     all_goals
      have H12 := hid (zH5 H10.out HB11.out HO11.out)
      have HT12 : Hid ((D ++ [hd r]) ++ (cont (tl r)).1 = (rd p).P ∧ (cont (tl r)).2 = (rd p).r) := hid (by
       have h1 := HT.out
       rw [HC2.out] at h1
       simpa using h1)
      have HW12 := hid (zDz r)
      have hlt : (tl r).length < (95 :: r).length := by have := zOI r; rw [List.length_cons]; omega
      have hm1 := zPe HS.out.r
      have hm2 := zPe H12.out.r
      have htl12 : (tl r).length ≤ 10000 := by have := zOI r; omega
      clear k10 k10a hf11 k11
      go_roundw
      case rel => exact ⟨_, _, _, _, _, _, _, _, _, _, _, _, ⟨_, _, _, _, _, H12, HT12, HW12, htl12⟩, rfl⟩
      case measure => rw [hm1, hm2]; exact hlt
end
section
open Go.RowKit
theorem zAG {P : Program} {fn : Func} {p u : Tmp} {ty : TypeId} (h : fn.results = #[.cell p ty, .tmp u]) (tmps : Array Value) (w : World) (g : Nat) (t : TypeId) (cs : Array Value) (fr : Nat × Nat) (d : TypeDesc)
  (hp : tmps.getD p undef = .pointer (some ⟨g, 0, none⟩)) (hg : w.heap[g]? = some (.cells cs t fr))
  (hu : P.underlying ty = some d) (hd : (match d with | .struct _ | .array _ _ => true | _ => false) = true) (hi : (P.info? ty).map (·.size) = some cs.size) :
  (results fn tmps).run P w = .ok (.tuple #[.agg cs, tmps.getD u undef]) w := by
 rw [results_cell_tmp h, hp]
 simp [asAddr, Result.andThen, run_loadVar_row w g t ty cs fr d hg hu hd hi]
theorem zFN {s : SH} (h : 4 < s.P.length) : shM s = false := by
 unfold shM; rw [show decide (s.P.length ≤ 4) = false by simp; omega]; rfl
theorem zMD {P : List Nm} (h : P.length = 1) : shM ⟨P, false, false⟩ = false := by
 unfold shM hlB; simp [h]
theorem zFO {P : List Nm} {l r : Bool} (h4 : P.length ≤ 4) (hh : P.length ≠ 1 ∨ l = true ∨ r = true) : shM ⟨P, l, r⟩ = P.all stB := by
 unfold shM hlB
 rw [show decide ((⟨P, l, r⟩ : SH).P.length ≤ 4) = true by simpa using h4]
 rcases hh with h | rfl | rfl
 ·simp [h]
 ·simp
 ·simp
theorem zDY {P : List Nm} {k : Nat} (h : k < P.length) : (P.drop k).all stB = (stB (pt P k) && (P.drop (k + 1)).all stB) := by
 rw [List.drop_eq_getElem_cons h, List.all_cons]
 unfold pt
 simp [List.getD, h]
set_option maxRecDepth 100000 in
set_option maxHeartbeats 4000000 in
theorem zME (a : Option Addr) (n c : Nat) (P : List Nm) (l r : Bool) (w : World) (h : Ss w a n c P) (ht : Tab w) (hsz : ∀ p ∈ P, p.length ≤ 100000) :
  Calls Tryz.prog 132 #[.agg #[.slice a n c, .bool l, .bool r]] w fun e w' => e = .returned (.bool (shM ⟨P, l, r⟩)) ∧ Below w.heap.size w w' := by
 have hcm := h.cm
 have hlc := h.lc
 unfold maxLen at hcm
 have H := hid h
 have HP := hid (Ss.len h)
 have HT := hid ht
 have HZ := hid hsz
 have HB2 : Hid (Below w.heap.size w (w.alloc (.cells #[.slice a n c, .bool l, .bool r] 157))) := hid ((Below.refl _ _).alloc (Nat.le_refl _) _)
 clear h ht hsz
 by_cases h4 : 4 < n
 ·have HE : Hid (shM ⟨P, l, r⟩ = false) := hid (zFN (by rw [HP.out]; exact h4))
  go_enter Tryz.func132, Tryz.ntmps132
  go_wp2
  go_ret
  exact ⟨by rw [HE.out]; rfl, HB2.out⟩
 ·have h4' : ¬ (4 : Int) < (n : Int) := by omega
  cases l with
  | true =>
   cases r with
   | true =>
    have HE : Hid (shM ⟨P, true, true⟩ = P.all stB) := hid (zFO (by rw [HP.out]; omega) (.inr (.inl rfl)))
    go_enter Tryz.func132, Tryz.ntmps132
    go_wp2
    go_loopw [2, 4, 28] (fun v2 v4 v wr => ∃ k : Nat, v = .int .i64 k ∧ k ≤ n ∧ Hid ((P.drop k).all stB = P.all stB) ∧ Hid (Below w.heap.size w wr)) (fun _ _ v _ => n - (intOf v).toNat)
    case atStart => exact ⟨0, rfl, by omega, hid rfl, HB2⟩
    case round =>
     obtain ⟨k, rfl, hk, HA, HB⟩ := hrel
     have hk0 : (0 : Int) ≤ (k : Int) := Int.natCast_nonneg _
     by_cases hlt : k < n
     ·have hk1 : (k : Int) < (n : Int) := by omega
      have hS := H.out.below HB.out
      obtain ⟨d, o, rfl, _, hx⟩ := hS.at_ (by omega)
      clear hx
      have hs := Ss.str hS hlt
      have hst := zDY (P := P) (k := k) (by rw [HP.out]; exact hlt)
      have hpm := zDO (P := P) (k := k) (by rw [HP.out]; exact hlt)
      obtain ⟨p, hp⟩ : ∃ p, p = pt P k := ⟨_, rfl⟩
      rw [← hp] at hs hst hpm
      have hpl := HZ.out p hpm
      have HST : Hid (P.all stB = (stB p && (P.drop (k + 1)).all stB)) := hid (by rw [← hst]; exact HA.out.symm)
      clear hS hp hst hpm
      go_wp2_with fail
      refine (zCQ (mk p) _ (HT.out.keep HB.out) (by rw [mk_size]; exact hpl)).mono ?_
      rw [mk_toList]
      rintro e w4 ⟨rfl, hb4⟩
      have HB4 : Hid (Below w.heap.size w w4) := hid (HB.out.trans (hb4.mono HB.out.size))
      clear hb4 hs
      cases hq : stB p with
      | true =>
       have HA4 : Hid ((P.drop (k + 1)).all stB = P.all stB) := hid (by rw [HST.out, hq, Bool.true_and])
       go_wp2
       go_roundw
       case rel => exact ⟨k + 1, by go_num, by omega, HA4, HB4⟩
       case measure => simp [intOf]; omega
      | false =>
       have HF : Hid (P.all stB = false) := hid (by rw [HST.out, hq, Bool.false_and])
       go_wp2
       go_ret
       exact ⟨by rw [HE.out, HF.out]; rfl, HB4.out⟩
     ·have HF : Hid (P.all stB = true) := hid (by rw [← HA.out, List.drop_of_length_le (by rw [HP.out]; omega)]; rfl)
      go_wp2
      go_ret
      exact ⟨by rw [HE.out, HF.out]; rfl, HB.out⟩
   | false =>
    have HE : Hid (shM ⟨P, true, false⟩ = P.all stB) := hid (zFO (by rw [HP.out]; omega) (.inr (.inl rfl)))
    go_enter Tryz.func132, Tryz.ntmps132
    go_wp2
    go_loopw [2, 4, 28] (fun v2 v4 v wr => ∃ k : Nat, v = .int .i64 k ∧ k ≤ n ∧ Hid ((P.drop k).all stB = P.all stB) ∧ Hid (Below w.heap.size w wr)) (fun _ _ v _ => n - (intOf v).toNat)
    case atStart => exact ⟨0, rfl, by omega, hid rfl, HB2⟩
    case round =>
     obtain ⟨k, rfl, hk, HA, HB⟩ := hrel
     have hk0 : (0 : Int) ≤ (k : Int) := Int.natCast_nonneg _
     by_cases hlt : k < n
     ·have hk1 : (k : Int) < (n : Int) := by omega
      have hS := H.out.below HB.out
      obtain ⟨d, o, rfl, _, hx⟩ := hS.at_ (by omega)
      clear hx
      have hs := Ss.str hS hlt
      have hst := zDY (P := P) (k := k) (by rw [HP.out]; exact hlt)
      have hpm := zDO (P := P) (k := k) (by rw [HP.out]; exact hlt)
      obtain ⟨p, hp⟩ : ∃ p, p = pt P k := ⟨_, rfl⟩
      rw [← hp] at hs hst hpm
      have hpl := HZ.out p hpm
      have HST : Hid (P.all stB = (stB p && (P.drop (k + 1)).all stB)) := hid (by rw [← hst]; exact HA.out.symm)
      clear hS hp hst hpm
      go_wp2_with fail
      refine (zCQ (mk p) _ (HT.out.keep HB.out) (by rw [mk_size]; exact hpl)).mono ?_
      rw [mk_toList]
      rintro e w4 ⟨rfl, hb4⟩
      have HB4 : Hid (Below w.heap.size w w4) := hid (HB.out.trans (hb4.mono HB.out.size))
      clear hb4 hs
      cases hq : stB p with
      | true =>
       have HA4 : Hid ((P.drop (k + 1)).all stB = P.all stB) := hid (by rw [HST.out, hq, Bool.true_and])
       go_wp2
       go_roundw
       case rel => exact ⟨k + 1, by go_num, by omega, HA4, HB4⟩
       case measure => simp [intOf]; omega
      | false =>
       have HF : Hid (P.all stB = false) := hid (by rw [HST.out, hq, Bool.false_and])
       go_wp2
       go_ret
       exact ⟨by rw [HE.out, HF.out]; rfl, HB4.out⟩
     ·have HF : Hid (P.all stB = true) := hid (by rw [← HA.out, List.drop_of_length_le (by rw [HP.out]; omega)]; rfl)
      go_wp2
      go_ret
      exact ⟨by rw [HE.out, HF.out]; rfl, HB.out⟩
  | false =>
   cases r with
   | true =>
    have HE : Hid (shM ⟨P, false, true⟩ = P.all stB) := hid (zFO (by rw [HP.out]; omega) (.inr (.inr rfl)))
    go_enter Tryz.func132, Tryz.ntmps132
    go_wp2
    go_loopw [2, 4, 28] (fun v2 v4 v wr => ∃ k : Nat, v = .int .i64 k ∧ k ≤ n ∧ Hid ((P.drop k).all stB = P.all stB) ∧ Hid (Below w.heap.size w wr)) (fun _ _ v _ => n - (intOf v).toNat)
    case atStart => exact ⟨0, rfl, by omega, hid rfl, HB2⟩
    case round =>
     obtain ⟨k, rfl, hk, HA, HB⟩ := hrel
     have hk0 : (0 : Int) ≤ (k : Int) := Int.natCast_nonneg _
     by_cases hlt : k < n
     ·have hk1 : (k : Int) < (n : Int) := by omega
      have hS := H.out.below HB.out
      obtain ⟨d, o, rfl, _, hx⟩ := hS.at_ (by omega)
      clear hx
      have hs := Ss.str hS hlt
      have hst := zDY (P := P) (k := k) (by rw [HP.out]; exact hlt)
      have hpm := zDO (P := P) (k := k) (by rw [HP.out]; exact hlt)
      obtain ⟨p, hp⟩ : ∃ p, p = pt P k := ⟨_, rfl⟩
      rw [← hp] at hs hst hpm
      have hpl := HZ.out p hpm
      have HST : Hid (P.all stB = (stB p && (P.drop (k + 1)).all stB)) := hid (by rw [← hst]; exact HA.out.symm)
      clear hS hp hst hpm
      go_wp2_with fail
      refine (zCQ (mk p) _ (HT.out.keep HB.out) (by rw [mk_size]; exact hpl)).mono ?_
      rw [mk_toList]
      rintro e w4 ⟨rfl, hb4⟩
      have HB4 : Hid (Below w.heap.size w w4) := hid (HB.out.trans (hb4.mono HB.out.size))
      clear hb4 hs
      cases hq : stB p with
      | true =>
       have HA4 : Hid ((P.drop (k + 1)).all stB = P.all stB) := hid (by rw [HST.out, hq, Bool.true_and])
       go_wp2
       go_roundw
       case rel => exact ⟨k + 1, by go_num, by omega, HA4, HB4⟩
       case measure => simp [intOf]; omega
      | false =>
       have HF : Hid (P.all stB = false) := hid (by rw [HST.out, hq, Bool.false_and])
       go_wp2
       go_ret
       exact ⟨by rw [HE.out, HF.out]; rfl, HB4.out⟩
     ·have HF : Hid (P.all stB = true) := hid (by rw [← HA.out, List.drop_of_length_le (by rw [HP.out]; omega)]; rfl)
      go_wp2
      go_ret
      exact ⟨by rw [HE.out, HF.out]; rfl, HB.out⟩
   | false =>
    by_cases h1 : n = 1
    ·have HE : Hid (shM ⟨P, false, false⟩ = false) := hid (zMD (by rw [HP.out]; exact h1))
     subst h1
     go_enter Tryz.func132, Tryz.ntmps132
     go_wp2
     go_ret
     exact ⟨by rw [HE.out]; rfl, HB2.out⟩
    ·have h1' : ((n : Int) == 1) = false := by simp; omega
     have HE : Hid (shM ⟨P, false, false⟩ = P.all stB) := hid (zFO (by rw [HP.out]; omega) (.inl (by rw [HP.out]; exact h1)))
     go_enter Tryz.func132, Tryz.ntmps132
     go_wp2
     go_loopw [2, 4, 28] (fun v2 v4 v wr => ∃ k : Nat, v = .int .i64 k ∧ k ≤ n ∧ Hid ((P.drop k).all stB = P.all stB) ∧ Hid (Below w.heap.size w wr)) (fun _ _ v _ => n - (intOf v).toNat)
     case atStart => exact ⟨0, rfl, by omega, hid rfl, HB2⟩
     case round =>
      obtain ⟨k, rfl, hk, HA, HB⟩ := hrel
      have hk0 : (0 : Int) ≤ (k : Int) := Int.natCast_nonneg _
      by_cases hlt : k < n
      ·have hk1 : (k : Int) < (n : Int) := by omega
       have hS := H.out.below HB.out
       obtain ⟨d, o, rfl, _, hx⟩ := hS.at_ (by omega)
       clear hx
       have hs := Ss.str hS hlt
       have hst := zDY (P := P) (k := k) (by rw [HP.out]; exact hlt)
       have hpm := zDO (P := P) (k := k) (by rw [HP.out]; exact hlt)
       obtain ⟨p, hp⟩ : ∃ p, p = pt P k := ⟨_, rfl⟩
       rw [← hp] at hs hst hpm
       have hpl := HZ.out p hpm
       have HST : Hid (P.all stB = (stB p && (P.drop (k + 1)).all stB)) := hid (by rw [← hst]; exact HA.out.symm)
       clear hS hp hst hpm
       go_wp2_with fail
       refine (zCQ (mk p) _ (HT.out.keep HB.out) (by rw [mk_size]; exact hpl)).mono ?_
       rw [mk_toList]
       rintro e w4 ⟨rfl, hb4⟩
       have HB4 : Hid (Below w.heap.size w w4) := hid (HB.out.trans (hb4.mono HB.out.size))
       clear hb4 hs
       cases hq : stB p with
       | true =>
        have HA4 : Hid ((P.drop (k + 1)).all stB = P.all stB) := hid (by rw [HST.out, hq, Bool.true_and])
        go_wp2
        go_roundw
        case rel => exact ⟨k + 1, by go_num, by omega, HA4, HB4⟩
        case measure => simp [intOf]; omega
       | false =>
        have HF : Hid (P.all stB = false) := hid (by rw [HST.out, hq, Bool.false_and])
        go_wp2
        go_ret
        exact ⟨by rw [HE.out, HF.out]; rfl, HB4.out⟩
      ·have HF : Hid (P.all stB = true) := hid (by rw [← HA.out, List.drop_of_length_le (by rw [HP.out]; omega)]; rfl)
       go_wp2
       go_ret
       exact ⟨by rw [HE.out, HF.out]; rfl, HB.out⟩
def ofR (p : Nm) : SH × Int := match ofS p with
 | some s => (s, 0)
 | none => (⟨[], false, false⟩, 23)
theorem zAl {p : Nm} {s : SH} (h : ofS p = some s) : ofR p = (s, 0) := by unfold ofR; rw [h]
theorem zAZ {p : Nm} (h : ofS p = none) : ofR p = (⟨[], false, false⟩, 23) := by unfold ofR; rw [h]
theorem zOJ {p : Nm} (h : 40 < p.length) : ofS p = none := by unfold ofS; rw [if_neg (by omega)]
theorem zOK {p : Nm} (h : p.length ≤ 40) (h1 : shM (rd p) = true) : ofS p = some (rd p) := by unfold ofS; rw [if_pos ⟨h, h1⟩]
theorem zMF {p : Nm} (h1 : shM (rd p) = false) : ofS p = none := by unfold ofS; rw [if_neg (by rw [h1]; simp)]
theorem zKC : ∀ (P : List Nm), ∀ p ∈ P, p.length ≤ (jnP P).length
 | [], p, h => by cases h
 | [q], p, h => by rw [List.mem_singleton.1 h]; exact Nat.le_refl _
 | q :: q' :: P, p, h => by
  rw [zBv q (P := q' :: P) (by simp), List.length_append, List.length_cons]
  rcases List.mem_cons.1 h with rfl | h
  ·omega
  ·have := zKC (q' :: P) p h; omega
theorem zKD (s : SH) : ∀ p ∈ s.P, p.length ≤ (stx s).length := fun p hp => by
 have := zKC s.P p hp
 unfold stx
 rw [List.length_append, List.length_append]
 omega
def shV (a : Option Addr) (n c : Nat) (x : SH × Int) : Value := .tuple #[.agg #[.slice a n c, .bool x.1.l, .bool x.1.r], .int .i64 x.2]
set_option maxRecDepth 100000 in
set_option maxHeartbeats 4000000 in
theorem zFP (p : Nm) (w : World) (ht : Tab w) (hsz : p.length ≤ 1000000) :
  Calls Tryz.prog 85 #[.string (mk p)] w fun e w' => ∃ a n c, e = .returned (shV a n c (ofR p)) ∧ Ss w' a n c (ofR p).1.P ∧ Below w.heap.size w w' := by
 have hms := mk_size p
 obtain ⟨m, hm⟩ : ∃ m, m = p.length := ⟨_, rfl⟩
 rw [← hm] at hms
 have HB2 : Hid (Below w.heap.size w (w.alloc (.cells #[.slice none 0 0, .bool false, .bool false] 157))) := hid ((Below.refl _ _).alloc (Nat.le_refl _) _)
 have HT := hid ht
 clear ht
 by_cases hb : 40 < m
 ·have HE : Hid (ofR p = (⟨[], false, false⟩, 23)) := hid (zAZ (zOJ (by omega)))
  have HZ : Hid ((w.alloc (.cells #[.slice none 0 0, .bool false, .bool false] 157)).heap[w.heap.size]? = some (.cells #[.slice none 0 0, .bool false, .bool false] 157 (0, 0))) := hid (heap_alloc_new w _)
  go_enter Tryz.func85, Tryz.ntmps85
  go_wp2
  refine bodyPost_ret (zAG rfl _ _ w.heap.size 157 #[.slice none 0 0, .bool false, .bool false] (0, 0) _ rfl HZ.out Tryz.underlying157 rfl zAK) rfl ⟨none, 0, 0, by rw [HE.out]; rfl, by rw [HE.out]; exact Vs.nil _ _ _ _ (Nat.zero_le _), HB2.out⟩
 ·have hb' : ¬ (40 : Int) < (m : Int) := by omega
  have hp40 : p.length ≤ 40 := by omega
  obtain ⟨R, hR⟩ : ∃ R, R = w.heap.size := ⟨_, rfl⟩
  obtain ⟨w2, hw2⟩ : ∃ w2, w2 = w.alloc (.cells #[.slice none 0 0, .bool false, .bool false] 157) := ⟨_, rfl⟩
  have HZ2 : Hid (w2.heap[R]? = some (.cells #[.slice none 0 0, .bool false, .bool false] 157 (0, 0))) := hid (by rw [hw2, hR]; exact heap_alloc_new w _)
  have hs2 : w2.heap.size = R + 1 := by rw [hw2, hR]; simp
  rw [← hw2, ← hR] at HB2
  rw [← hR]
  clear hm
  go_enter Tryz.func85, Tryz.ntmps85
  go_wp2_with fail
  rw [← hw2, ← hR]
  refine (zMC p w2 (by omega)).mono ?_
  have HQM : Hid (∀ q ∈ (rd p).P, q.length ≤ 100000) := hid fun q hq => by
   have := zKD (rd p) q hq
   rw [zJ2] at this
   omega
  obtain ⟨P, hP⟩ : ∃ P, P = (rd p).P := ⟨_, rfl⟩
  obtain ⟨l, hl⟩ : ∃ l, l = (rd p).l := ⟨_, rfl⟩
  obtain ⟨r, hr⟩ : ∃ r, r = (rd p).r := ⟨_, rfl⟩
  have HRD : Hid (rd p = ⟨P, l, r⟩) := hid (by rw [hP, hl, hr])
  rw [← hP, ← hl, ← hr]
  rw [← hP] at HQM
  rintro e w3 ⟨a, n, c, rfl, hS3, hb3⟩
  have hs3 : R + 1 ≤ w3.heap.size := by have := hb3.size; omega
  obtain ⟨q, hq⟩ : ∃ q, q = w3.heap.size := ⟨_, rfl⟩
  obtain ⟨w4, hw4⟩ : ∃ w4, w4 = w3.alloc (.cells #[.slice a n c, .bool l, .bool r] 157) := ⟨_, rfl⟩
  have hs4 : w4.heap.size = q + 1 := by rw [hw4, hq]; simp
  have HQ4 : Hid (w4.heap[q]? = some (.cells #[.slice a n c, .bool l, .bool r] 157 (0, 0))) := hid (by rw [hw4, hq]; exact heap_alloc_new w3 _)
  have HB34 : Below w3.heap.size w3 w4 := by rw [hw4]; exact (Below.refl _ _).alloc (Nat.le_refl _) _
  have HZ4 : Hid (w4.heap[R]? = some (.cells #[.slice none 0 0, .bool false, .bool false] 157 (0, 0))) := hid ((HB34.block R (by omega)).trans ((hb3.block R (by omega)).trans HZ2.out))
  have HS4 := hid (Vs.below hS3.vs HB34)
  have HO4 : Hid (OwnV (R + 1) 9 1 w4 a n c (P.map enS)) := hid (by rw [hs2] at hS3; exact hS3.keep HB34 (Nat.le_refl _))
  have HB4 : Hid (Below R w w4) := hid (HB2.out.trans ((hb3.mono (by omega)).trans (HB34.mono (by omega))))
  have HT4 : Hid (Tab w4) := hid (HT.out.keep (by rw [← hR]; exact HB4.out))
  obtain ⟨⟨x0, x1, x2⟩, _⟩ := three HQ4.out
  clear hS3 hb3 HB34 hP hl hr hw2 hR
  go_wp2_with fail
  rw [← hq, ← hw4]
  clear hw4
  refine (zME a n c P l r w4 HS4.out HT4.out HQM.out).mono ?_
  rintro e w5 ⟨rfl, hb5⟩
  have HQ5 := hid ((hb5.block q (by omega)).trans HQ4.out)
  have HZ5 := hid ((hb5.block R (by omega)).trans HZ4.out)
  have HO5 := hid (HO4.out.keep hb5 (Nat.le_refl _))
  have HB5 : Hid (Below R w w5) := hid (HB4.out.trans (hb5.mono (by omega)))
  have hs5 : R < w5.heap.size := by have := hb5.size; omega
  obtain ⟨⟨y0, y1, y2⟩, _⟩ := three HQ5.out
  obtain ⟨⟨z0, z1, z2⟩, f0, f1, f2⟩ := three HZ5.out
  clear hb5 x0 x1 x2 hq
  cases hM : shM ⟨P, l, r⟩ with
  | true =>
   have HE : Hid (ofR p = (⟨P, l, r⟩, 0)) := hid (by have := zOK hp40 (by rw [HRD.out]; exact hM); rw [HRD.out] at this; exact zAl this)
   have HF := hid (zAO (x' := .slice a n c) (y' := .bool l) (z' := .bool r) HZ5.out)
   have HG := hid (zAV w5 R (.slice a n c) (.bool l) (.bool r))
   go_wp2
   refine bodyPost_ret (zAG rfl _ _ R 157 #[.slice a n c, .bool l, .bool r] (0, 0) _ rfl HF.out Tryz.underlying157 rfl zAK) rfl ⟨a, n, c, by rw [HE.out]; rfl, ?_, HB5.out.trans (zBD HG.out (Nat.le_refl _) (by omega))⟩
   rw [HE.out]
   exact (HO5.out.other HG.out (.inr (HO5.out.apart (by omega)))).vs
  | false =>
   have HE : Hid (ofR p = (⟨[], false, false⟩, 23)) := hid (zAZ (zMF (by rw [HRD.out]; exact hM)))
   have HF := hid (zAO (x' := .slice none 0 0) (y' := .bool false) (z' := .bool false) HZ5.out)
   have HG := hid (zAV w5 R (.slice none 0 0) (.bool false) (.bool false))
   go_wp2
   refine bodyPost_ret (zAG rfl _ _ R 157 #[.slice none 0 0, .bool false, .bool false] (0, 0) _ rfl HF.out Tryz.underlying157 rfl zAK) rfl ⟨none, 0, 0, by rw [HE.out]; rfl, by rw [HE.out]; exact Vs.nil _ _ _ _ (Nat.zero_le _), HB5.out.trans (zBD HG.out (Nat.le_refl _) (by omega))⟩
end
end Go.Proofs.YtcjbhdgjcpnklaaGreatDoor
