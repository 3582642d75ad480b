import Derived.MapKept
import Derived.Test.YtcjbhdgjcpnklaaGreatDoorV22
import Derived.Test.YtcjbhdgjcpnklaaGreatDoorV17
import Derived.Test.YtcjbhdgjcpnklaaGreatDoorV18
import Derived.Test.YtcjbhdgjcpnklaaGreatDoorV19
namespace Go.Proofs.YtcjbhdgjcpnklaaGreatDoor
section
open Go.RowKit
def kvM (S : List Nm) : List (Value × Value) := S.map fun x => (Value.string (mk x), Value.bool true)
def MS (w : World) (g : Nat) (S : List Nm) : Prop := ∃ es clock, w.heap[g]? = some (.map es clock) ∧ es.toList.map (fun e => (e.key, e.val)) = kvM S
theorem MS.new (w : World) : MS (w.alloc (.map #[] 0)) w.heap.size [] := ⟨#[], 0, heap_alloc_new w _, rfl⟩
theorem MS.lt {w : World} {g : Nat} {S : List Nm} (h : MS w g S) : g < w.heap.size := by obtain ⟨_, _, h, _⟩ := h; exact (Array.getElem?_eq_some_iff.1 h).1
theorem MS.below {w w' : World} {g : Nat} {S : List Nm} (h : MS w g S) (hb : Below w.heap.size w w') : MS w' g S := by
 have hl := h.lt
 obtain ⟨es, cl, h, h2⟩ := h
 exact ⟨es, cl, (hb.block g hl).trans h, h2⟩
theorem Ss.only {w w' : World} {g : Nat} {S P : List Nm} {a : Option Addr} {n c : Nat} (h : Ss w a n c P) (hm : MS w g S) (ho : Only g w w') : Ss w' a n c P :=
 ⟨h.hl, h.lc, h.cm, fun h0 => by
  obtain ⟨b, off, ha, hb, hc⟩ := h.at_ h0
  have hne : b ≠ g := fun e => by
   subst e
   obtain ⟨es, cl, hm, _⟩ := hm
   have h1 := hc 0 (by omega)
   have hl := h.hl
   rw [List.getElem?_eq_getElem (by omega)] at h1
   unfold World.cell? at h1
   dsimp only at h1
   rw [hm] at h1
   cases h1
  exact ⟨b, off, ha, by rw [ho.size]; exact hb, fun j hj => (World.cell?_of_block (ho.block b hne)).trans (hc j hj)⟩⟩
theorem zOc {P : List Nm} {j : Nat} (h : j < P.length) : P.take (j + 1) = P.take j ++ [pt P j] := by rw [List.take_add_one]; unfold pt; simp [List.getD, h]
end
section
open Go.RowKit Go.ChangeMaps
theorem MS.keep {w w' : World} {g B : Nat} {S : List Nm} (h : MS w g S) (hb : Below B w w') (hg : g < B) : MS w' g S := by
 obtain ⟨es, cl, h, h2⟩ := h
 exact ⟨es, cl, (hb.block g hg).trans h, h2⟩
theorem MS.alloc {w : World} {g : Nat} {S : List Nm} (h : MS w g S) (o : Obj) : MS (w.alloc o) g S := h.below (zAA w o)
def drpE (L : List OP) (p : Nm) : Int := match drpI L p with
 | none => 2
 | some _ => 0
def drpZ (L : List OP) (z : List Int) (p : Nm) : List Int := if drpE L p = 0 then z else z0
end
section
open Go.RowKit
theorem zPr {z : List Int} (hr : ∀ i, i < 10 → I64 (bt z i)) (g h : Int) : ∀ i, i < 10 → I64 (bt (eV z g h) i) := by
 intro i hi
 unfold eV
 split
 ·rw [eR, zCk _ _ _ _ hi, if_pos hi]; exact zIB hr _ _ hi
 ·have : ∀ i, i < 10 → I64 (bt z0 i) := by unfold I64; decide +kernel
  exact this i hi
theorem zCG {o : Oper} {A : Act} (x y : Operand) (ho : o.op = .build 34 #[(0, x), (1, y)]) (a : Option Addr) (n c : Nat) (z : List Int) (hz : z.length = 10) (hx : A.eval x = .slice a n c) (hy : A.eval y = .agg (rv z)) (w : World) : (execOp A.eval o).run Tryz.prog w = .ok (.value (.agg (ev a n c z))) w := by
 have hb := zGN a n c hz w
 unfold execOp
 simp only [ho, List.map_toArray, List.map_cons, List.map_nil, hx, hy, hb, Sem.run_bind, Result.andThen_ok, Sem.run_pure]
theorem EB.clash {w : World} {b : Nat} {a : Option Addr} {n c : Nat} {z z' : List Int} (h : EB w b a n c z) (h' : RB w b z') : False := by
 unfold EB at h
 unfold RB at h'
 rw [h] at h'
 simp only [Option.some.injEq, Obj.cells.injEq] at h'
 exact absurd h'.2.1 (by decide)
set_option maxRecDepth 20000 in
set_option maxHeartbeats 8000000 in
theorem zGS (a : Option Addr) (n c : Nat) (L : List OP) (z : List Int) (g h : Int) (w : World) (hs : OpS w a n c L) (hz : z.length = 10) (hn : n ≤ 1000000) :
  Calls Tryz.prog 31 #[.agg (ev a n c z), .int .i64 g, .int .i64 h] w fun e w' => ∃ a' n' c', e = .returned (.tuple #[.agg (ev a' n' c' (eV z g h)), .int .i64 (eE z g h)]) ∧ OwnO w.heap.size w' a' n' c' (if eE z g h = 0 then L else []) ∧ Below w.heap.size w w' := by
 obtain ⟨B, hB⟩ : ∃ B, B = w.heap.size := ⟨_, rfl⟩
 obtain ⟨w1, hw1⟩ : ∃ w1, w1 = w.alloc (.cells (ev a n c z) 34) := ⟨_, rfl⟩
 obtain ⟨w2, hw2⟩ : ∃ w2, w2 = w1.alloc (.cells #[.slice none 0 0, .int .i64 0, .int .i64 0, .int .i64 0, .int .i64 0, .int .i64 0, .int .i64 0, .int .i64 0, .int .i64 0, .int .i64 0, .int .i64 0] 34) := ⟨_, rfl⟩
 have s1 : w1.heap.size = B + 1 := by rw [hw1, hB]; simp
 have HE2 : Hid (EB w2 B a n c z) := hid (by rw [hw2, hw1, hB]; exact (EB.new w a n c z).alloc _)
 have HR2 : Hid (EB w2 (B + 1) none 0 0 z0) := hid (by rw [hw2, ← s1, ← zB1]; exact EB.new w1 none 0 0 z0)
 have HB2 : Hid (Below B w w2) := hid (by rw [hw2, hw1, hB]; exact ((Below.refl _ _).alloc (Nat.le_refl _) _).alloc (by simp) _)
 have HS2 : Hid (B + 1 < w2.heap.size) := hid HR2.out.lt
 have H2 : Hid (OpS w2 a n c L) := hid (hs.below (hB ▸ HB2.out))
 have hlc := hs.lc
 have hcm := hs.cm
 unfold maxLen at hcm
 have HZ := hid hz
 have HBB := hid hB
 have he1 := (EB.new w a n c z).alloc (.cells #[.slice none 0 0, .int .i64 0, .int .i64 0, .int .i64 0, .int .i64 0, .int .i64 0, .int .i64 0, .int .i64 0, .int .i64 0, .int .i64 0, .int .i64 0] 34)
 have KE : Hid (∀ w', Calls Tryz.prog 56 #[.agg (rv z), .int .i64 g, .int .i64 h] w' fun e w'' => e = .returned (.tuple #[.agg (rv (eV z g h)), .int .i64 (eE z g h)]) ∧ Below w'.heap.size w' w'') := hid fun w' => zKQ z hz g h w'
 have HZV := hid (zKO z g h)
 have HV0 : Hid (eE z g h ≠ 0 → eV z g h = z0) := hid fun h0 => by unfold eV; rw [if_neg h0]
 obtain ⟨V, hV⟩ : ∃ V, V = eE z g h := ⟨_, rfl⟩
 obtain ⟨Z, hZ⟩ : ∃ Z, Z = eV z g h := ⟨_, rfl⟩
 rw [← hV, ← hZ] at KE HV0 ⊢
 rw [← hZ] at HZV
 clear hs hz s1 hV hZ
 go_enter Tryz.func31, Tryz.ntmps31
 go_wp2_with (refine zD8 rfl (.tmp 11) rfl _ rfl a n c z HZ.out he1 ?_)
 rw [← hw1, ← hw2, ← hB]
 clear hw1 hw2 hB he1
 refine (KE.out w2).mono ?_
 rintro e w3 ⟨rfl, hb3⟩
 have HE3 := hid (HE2.out.below hb3)
 have HR3 := hid (HR2.out.below hb3)
 have H3 := hid (H2.out.below hb3)
 have HB3 : Hid (Below B w w3) := hid (HB2.out.trans (hb3.mono (by have := HS2.out; omega)))
 have HS3 : Hid (B + 1 < w3.heap.size) := hid HR3.out.lt
 clear hb3
 obtain ⟨R, hR⟩ : ∃ R, R = w3.heap.size := ⟨_, rfl⟩
 have hrn : RB (w3.alloc (.cells #[.int .i64 0, .int .i64 0, .int .i64 0, .int .i64 0, .int .i64 0, .int .i64 0, .int .i64 0, .int .i64 0, .int .i64 0, .int .i64 0] 32)) w3.heap.size z0 := RB.new w3 z0
 by_cases h0 : V = 0
 case neg =>
  have hbu : ∀ w, (Instr.build 34 #[]).run Tryz.prog w = .ok (.agg (ev none 0 0 z0)) w := fun w => zAx w
  have HVZ : Hid (Z = z0) := hid (HV0.out h0)
  go_wp2_with (first
   | (refine zAD rfl (.tmp 6) (.tmp 20) rfl (B + 1) rfl none 0 0 z0 rfl rfl none 0 0 z0 zAF HR4.out ?_; intro w5 he5 ho5; have HE5 := hid he5; have HO5 := hid ho5; clear he5 ho5)
   | (refine zAW rfl (.tmp 8) (.tmp 16) rfl _ rfl Z rfl HZV.out z0 zAF hrn ?_; intro w4 hr4 ho4; rw [← hR] at hr4 ho4; have HO4 := hid ho4; have HR4 : Hid (EB w4 (B + 1) none 0 0 z0) := hid ((HR3.out.alloc _).only ho4 (by have := HS3.out; omega)); clear hr4 ho4))
  refine bodyPost_ret (zAb rfl _ _ (B + 1) none 0 0 z0 zAF rfl HE5.out) rfl ⟨none, 0, 0, by rw [HVZ.out]; rfl, (by first | (rw [if_neg h0]; exact OwnV.none0) | exact OwnV.none0), ?_⟩
  rw [← HBB.out]
  exact ((HB3.out.alloc (by have := HS3.out; omega) _).trans (HO4.out.below (by have := HS3.out; omega))).trans (HO5.out.below (by omega))
 subst h0
 go_wp2_with (refine zAW rfl (.tmp 8) (.tmp 16) rfl _ rfl Z rfl HZV.out z0 zAF hrn ?_; intro w4 hr4 ho4)
 rw [← hR] at hr4 ho4 ⊢
 have HR4 := hid hr4
 have HE4 : Hid (EB w4 B a n c z) := hid ((HE3.out.alloc _).only ho4 (by have := HS3.out; omega))
 have HX4 : Hid (EB w4 (B + 1) none 0 0 z0) := hid ((HR3.out.alloc _).only ho4 (by have := HS3.out; omega))
 have HB4 : Hid (Below B w w4) := hid ((HB3.out.alloc (by have := HS3.out; omega) _).trans (ho4.below (by have := HS3.out; omega)))
 have H4 : Hid (OpS w4 a n c L) := hid (H3.out.below ((zAA w3 _).trans (ho4.below (by rw [hR]; exact Nat.le_refl _))))
 have HS4 : Hid (B + 1 < w4.heap.size) := hid HX4.out.lt
 have HKS : Hid (∀ w', Below w4.heap.size w4 w' → w'.cell? ⟨B, 0, none⟩ = some (.slice a n c) ∧ RB w' R Z) := hid fun w' h => ⟨(HE4.out.below h).c0, HR4.out.keep h HR4.out.lt⟩
 clear hr4 ho4 hR hrn
 refine wp_region_noPanic ?_
 refine wp_region_held_drew (S := fun w' => w'.cell? ⟨B, 0, none⟩ = some (.slice a n c) ∧ RB w' R Z) (by kernel_rfl) (HKS.out _ (Below.refl _ _).drew) (fun hHeld => ?_)
 refine zG 1 rfl ?_
 try simp only [Act.put, aS, aZ, aC]
 refine zG 2 rfl ?_
 try simp only [Act.put, aS, aZ, aC]
 refine zD4 (i := 4) (oi := { dst := some 26, op := Op.load 32 (Operand.tmp 8), type := 32, pos := "ref.go:50", after := #[], guard := none }) (Operand.tmp 8) rfl (by kernel_rfl) (by kernel_rfl) (by kernel_rfl) (Z) (fun _ _ _ h => h) (by rfl) rfl (R) rfl (HZV.out) (fun _ h => h.2) (by assumption) ?_
 try simp only [Act.put, aS, aZ, aC]
 refine zR [0] ?_
 refine hDo rfl (fun K hK => ?_) ?_
 ·go_simp
  refine hK.out _ _ (HKS.out _ (by first | exact (Below.refl _ _).drew.alloc (Nat.le_refl _) _ | exact ((Below.refl _ _).alloc (Nat.le_refl _) _).drew)) (fun hHeld => ?_)
  clear hK K
  try simp only [Act.put, aS, aZ, aC]
  refine zR [3] ?_
  refine hDo rfl (fun K hK => ?_) ?_
  ·refine zAH rfl (.tmp 22) (.tmp 24) 30 rfl 38 w4.heap.size 3 32 _ Tryz.underlying30 zAJ rfl (by omega) _ 0 _ [] rfl (OwnV.emptyAt (by first | exact heap_alloc_new w4 _ | exact heap_alloc_new w4.drew _) (Nat.le_refl _)) _ n _ (cO L) rfl (H4.out.below (by first | exact (Below.refl _ _).drew.alloc (Nat.le_refl _) _ | exact ((Below.refl _ _).alloc (Nat.le_refl _) _).drew)) (zAX L) (by unfold maxLen; omega) (by omega) (by simp) ?_
   intro a5 c5 w5 ho5 hg5 hb5 _
   rw [Nat.zero_add, List.nil_append] at ho5
   rw [Nat.zero_add]
   have hb5x : Below w4.heap.size w4 w5 := Below.trans (by first | exact (Below.refl _ _).drew.alloc (Nat.le_refl _) _ | exact ((Below.refl _ _).alloc (Nat.le_refl _) _).drew) hb5
   have HO5 : Hid (OwnO w4.heap.size w5 a5 n c5 L) := hid ho5
   have HB5 : Hid (Below w4.heap.size w4 w5) := hid hb5x
   have HX5 := hid (HX4.out.below hb5x)
   clear ho5 hg5 hb5 hb5x
   refine hK.out _ _ (HKS.out _ HB5.out) (fun hHeld => ?_)
   clear hK K
   try simp only [Act.put, aS, aZ, aC]
   refine zT 5 (v := .agg (ev a5 n c5 (Z))) rfl (fun w0 _ => zCG (Operand.tmp 25) (Operand.tmp 26) rfl a5 n c5 (Z) (HZV.out) rfl rfl w0) ?_
   try simp only [Act.put, aS, aZ, aC]
   refine zR [6] ?_
   refine hDo rfl (fun K hK => ?_) ?_
   ·refine zAT rfl (.tmp 6) (.tmp 27) rfl (B + 1) rfl a5 n c5 Z rfl HZV.out none 0 0 z0 zAF HX5.out ?_
    intro w6 he6 hq6
    have HE6 := hid he6
    have HQ6 := hid hq6
    clear he6 hq6
    refine hK.out _ _ (⟨(EB.only (HE4.out.below HB5.out) HQ6.out (by omega)).c0, HQ6.out.rows (fun e => HX5.out.clash (e ▸ (HKS.out _ HB5.out).2)) (HKS.out _ HB5.out).2⟩) (fun hHeld => ?_)
    clear hK K
    try simp only [Act.put]
    refine zG 7 rfl ?_
    try simp only [Act.put, aS, aZ, aC]
    refine wpAnyH_done (by kernel_rfl) ?_ _
    refine NoPanic.normal ?_
    go_wp2
    refine bodyPost_ret (zAb rfl _ _ (B + 1) a5 n c5 Z HZV.out rfl HE6.out) rfl ⟨a5, n, c5, rfl, ?_, ?_⟩
    ·try rw [if_pos rfl]
     exact (zAr HO5.out HX5.out HQ6.out).weak (by have := HS4.out; have := HBB.out; omega)
    ·rw [← HBB.out]
     exact (HB4.out.trans (HB5.out.mono (by have := HS4.out; omega))).trans (HQ6.out.below (by omega))
   ·exact AllReadyH.nil
  ·exact AllReadyH.nil
 ·exact AllReadyH.nil
end
end Go.Proofs.YtcjbhdgjcpnklaaGreatDoor
