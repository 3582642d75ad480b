import Derived.Deep.RegionHeld3
import Derived.Test.YtcjbhdgjcpnklaaGreatDoorR16
namespace Go.Proofs.YtcjbhdgjcpnklaaGreatDoor
open Go.RowKit
def addS (I : List IT) (x : IT) : List IT := if x ∈ I then I else I ++ [x]
def addI (I X : List IT) : List IT := X.foldl addS I
theorem zLL {I X : List IT} {k : Nat} (h : k < X.length) : addI I (X.take (k + 1)) = addS (addI I (X.take k)) (xA X k) := by
 unfold addI
 rw [List.take_succ_eq_append_getElem h, List.foldl_append, zJJ h]
 rfl
theorem zMq (I : List IT) (x : IT) : (addS I x).length ≤ I.length + 1 := by
 unfold addS
 split
 ·omega
 ·rw [List.length_append]; exact Nat.le_refl _
theorem zIn (I : List IT) : ∀ X : List IT, (addI I X).length ≤ I.length + X.length
 | [] => Nat.le_refl _
 | x :: X => by
  have h1 := zIn (addS I x) X
  have h2 := zMq I x
  rw [List.length_cons]
  show (addI (addS I x) X).length ≤ _
  omega
theorem addS_mem {I : List IT} {x y : IT} : y ∈ addS I x ↔ y ∈ I ∨ y = x := by
 unfold addS
 split
 ·rename_i h
  exact ⟨.inl, fun h' => h'.elim id fun e => e ▸ h⟩
 ·simp
theorem zBK : ∀ {I X : List IT} {y : IT}, y ∈ addI I X ↔ y ∈ I ∨ y ∈ X
 | I, [], y => by show y ∈ I ↔ _; simp
 | I, x :: X, y => by
  show y ∈ addI (addS I x) X ↔ _
  rw [zBK, addS_mem, List.mem_cons, or_assoc]
theorem zJO {I : List IT} (h : I.Nodup) (x : IT) : (addS I x).Nodup := by
 unfold addS
 split
 ·exact h
 ·rename_i hx
  exact List.nodup_append.2 ⟨h, by simp, fun a ha b hb => by rw [List.mem_singleton.1 hb]; exact fun e => hx (e ▸ ha)⟩
theorem zDI : ∀ {I X : List IT}, I.Nodup → (addI I X).Nodup
 | _, [], h => h
 | I, x :: X, h => zDI (I := addS I x) (X := X) (zJO h x)
theorem zCz : ∀ (I X : List IT), I <+: addI I X
 | I, [] => List.prefix_refl _
 | I, x :: X => by
  have h : I <+: addS I x := by
   unfold addS
   split
   ·exact List.prefix_refl _
   ·exact List.prefix_append ..
  exact h.trans (zCz (addS I x) X)
section
variable {ops : Array Oper} {rest : List Oper} {o : Oper} {A : Act} {w : World} {Q : Exit → Act → World → Prop} {K : Act → World → Prop} {E : Prop}
theorem zJP (hgd : o.guard = none) (m k v : Operand) (ho : o.op = .mapUpdate 145 m k v) (M : Nat) (hm : A.eval m = .map (some M)) (x : IT) (hk : A.eval k = .agg (itA x)) (hv : A.eval v = .bool true) (X : List IT) (h : MV w M X) (hx : x ∉ X)
  (kk : ∀ w', MV w' M (X ++ [x]) → Only M w w' → K (A.put o.dst undef) w') : if Region.wanted o (yielded ops A.tmps) = true then o.wp Tryz.prog A w K Q else E := by
 rw [if_pos (show Region.wanted o (yielded ops A.tmps) = true by simp [Region.wanted, hgd])]
 obtain ⟨w', hr, h1, h2⟩ := h.put hx
 unfold Oper.wp execOp
 simp only [ho, hm, hk, hv, hr, Sem.run_bind, Sem.run_pure, Result.andThen_ok]
 exact kk w' h1 h2
theorem zDJ (w : World) (x : IT) : (Instr.buildSlice 94 1 #[(0, .agg (itA x))]).run Tryz.prog w = .ok (.slice (some ⟨w.heap.size, 0, none⟩) 1 1) (w.alloc (.cells (itA x) 93)) := by kernel_rfl
theorem zGk (w : World) (x : IT) : Vs 3 (w.alloc (.cells (itA x) 93)) (some ⟨w.heap.size, 0, none⟩) 1 1 (itC [x]) := Vs.lit (k := 3) (xs := itC [x]) w _ (by rw [itC_one]; rfl) (by rw [itC_one]; rfl) rfl
theorem zBT (hgd : o.guard = none) (p : Operand) (ho : o.op = .buildSlice 94 1 #[(0, p)]) (x : IT) (hx : A.eval p = .agg (itA x))
  (kk : ∀ w' g, g = w.heap.size → Vs 3 w' (some ⟨g, 0, none⟩) 1 1 (itC [x]) → Below w.heap.size w w' → w'.heap.size = w.heap.size + 1 → K (A.put o.dst (.slice (some ⟨g, 0, none⟩) 1 1)) w') : if Region.wanted o (yielded ops A.tmps) = true then o.wp Tryz.prog A w K Q else E := by
 rw [if_pos (show Region.wanted o (yielded ops A.tmps) = true by simp [Region.wanted, hgd])]
 have h := kk _ w.heap.size rfl (zGk w x) (zAA w _) (by simp)
 have hr := zDJ w x
 unfold Oper.wp execOp
 simp only [ho, List.map_toArray, List.map_cons, List.map_nil, hx, hr, Sem.run_bind, Result.andThen_ok, Sem.run_pure]
 exact h
theorem zBL (hgd : o.guard = none) (p : Operand) (ho : o.op = .buildSlice 94 1 #[(0, p)]) (x : IT) (hx : A.eval p = .agg (itA x))
  (kk : ∀ w' g, g = w.heap.size → Vs 3 w' (some ⟨g, 0, none⟩) 1 1 (itC [x]) → Below w.heap.size w w' → w'.heap.size = w.heap.size + 1 → wpList Tryz.prog ops Q rest (A.put o.dst (.slice (some ⟨g, 0, none⟩) 1 1)) w') : wpList Tryz.prog ops Q (o :: rest) A w :=
 wpList_plain hgd fun K hK => by
  have h := kk _ w.heap.size rfl (zGk w x) (zAA w _) (by simp)
  have hr := zDJ w x
  unfold Oper.wp execOp
  simp only [ho, List.map_toArray, List.map_cons, List.map_nil, hx, hr, Sem.run_bind, Result.andThen_ok, Sem.run_pure]
  exact hK _ _ h
theorem zC0 (hgd : o.guard = none) (ty : TypeId) (hi : (Tryz.prog.info? ty).map (·.size) = some 1) (x y : Operand) (ho : o.op = .store ty x y)
  (T : TypeId) (b j : Nat) (cs : List Value) (h : Bk w b T cs.toArray) (hj : j < cs.length) (v : Value) (hc : v.cells = #[v]) (h1 : v.oneCell' = true) (hx : A.eval x = .pointer (some ⟨b, j, none⟩)) (hy : A.eval y = v)
  (kk : ∀ w', Bk w' b T (cs.set j v).toArray → Only b w w' → K (A.put o.dst undef) w') : if Region.wanted o (yielded ops A.tmps) = true then o.wp Tryz.prog A w K Q else E := by
 rw [if_pos (show Region.wanted o (yielded ops A.tmps) = true by simp [Region.wanted, hgd])]
 unfold Oper.wp execOp
 simp only [ho, hx, hy, Instr.storeAt, Instr.sureAddr, Sem.run_bind, Sem.run_pure, Result.andThen_ok, zBE (P := Tryz.prog) w ty T b j cs v hi hc h (by omega) h1]
 rw [splice_set' _ _ _ hj]
 exact kk _ (setRow_heap w b _ _ _ _ h) (Only.ofRow w b _)
end
theorem zBp : (Tryz.prog.info? 94).map (·.size) = some 1 := by kernel_rfl
set_option maxRecDepth 100000 in
set_option maxHeartbeats 16000000 in
theorem zC1 (B p M q : Nat) (ia : Option Addr) (ic : Nat) (R : List SLV) (I : List IT) (A : List (List IT)) (xa : Option Addr) (xn xc : Nat) (X : List IT) (w : World) (h : Cur B w p M q ia ic R I I A) (hx : Vs 3 w xa xn xc (itC X)) (hxa : ∀ g off, 0 < xn → xa = some ⟨g, off, none⟩ → g ≠ p ∧ g ≠ M ∧ ia ≠ some ⟨g, 0, none⟩) (hn : I.length + xn ≤ 1000000000) (hB : B ≤ w.heap.size) :
  Calls Tryz.prog 77 #[.pointer (some ⟨p, 0, none⟩), .slice xa xn xc] w fun e w' => e = .returned (.tuple #[]) ∧ ∃ ia' ic', Cur B w' p M q ia' ic' R (addI I X) (addI I X) A ∧ KX (fun b => b = p ∨ b = M ∨ ia = some ⟨b, 0, none⟩) w w' ∧ ∀ b, b < w.heap.size → ia' = some ⟨b, 0, none⟩ → ia = some ⟨b, 0, none⟩ := by
 have HX := hid hx
 have HC := hid h
 have HXA := hid hxa
 have HXL : Hid (X.length = xn) := hid (zIk hx)
 have HBW := hid hB
 obtain ⟨EX, hEX⟩ : ∃ EX : Nat → Prop, EX = fun b => b = p ∨ b = M ∨ ia = some ⟨b, 0, none⟩ := ⟨_, rfl⟩
 have HEX : Hid (∀ b, EX b ↔ (b = p ∨ b = M ∨ ia = some ⟨b, 0, none⟩)) := hid fun b => by rw [hEX]
 rw [← hEX]
 clear hx h hxa hB hEX
 go_enter Tryz.func77, Tryz.ntmps77
 go_wp2
 go_loopw [8] (fun v wr => ∃ (k : Nat) (ia' : Option Addr) (ic' : Nat) (I' : List IT), v = .int .i64 (k : Int) ∧ k ≤ xn ∧ Hid (Cur B wr p M q ia' ic' R I' I' A) ∧ Hid (I' = addI I (X.take k)) ∧ Hid (KX EX w wr) ∧ Hid (∀ b, b < w.heap.size → ia' = some ⟨b, 0, none⟩ → ia = some ⟨b, 0, none⟩)) (fun v _ => xn - (intOf v).toNat)
 case atStart => exact ⟨0, ia, ic, I, rfl, Nat.zero_le _, HC, hid (by rw [List.take_zero]; rfl), hid (KX.refl _ _), hid fun b _ e => e⟩
 case round =>
  obtain ⟨k, ia', ic', I', rfl, hk, HCR, HI, HKX, HIA⟩ := hrel
  by_cases hlt : k < xn
  ·have hltI : (k : Int) < (xn : Int) := by omega
   have hk0 : (0 : Int) ≤ (k : Int) := Int.natCast_nonneg _
   have hxr : Vs 3 wr xa xn xc (itC X) := zQR HX.out HKX.out fun g off h0 hg e => by
    obtain ⟨n1, n2, n3⟩ := HXA.out g off h0 hg
    rcases (HEX.out g).1 e with e | e | e
    ·exact n1 e
    ·exact n2 e
    ·exact n3 e
   obtain ⟨b, off, rfl, _, _⟩ := hxr.at_ (by omega)
   have HCS := hid (zHS hxr hlt)
   have HNX := hid (zLL (I := I) (X := X) (k := k) (by rw [HXL.out]; exact hlt))
   obtain ⟨x, hx⟩ : ∃ x, x = xA X k := ⟨_, rfl⟩
   rw [← hx] at HCS HNX
   rw [← HI.out] at HNX
   clear hxr hx
   have HIL : Hid (I'.length ≤ 1000000000) := hid (by
    rw [HI.out]
    have := zIn I (X.take k)
    rw [List.length_take] at this
    omega)
   obtain ⟨D, hD⟩ : ∃ D, D = wr.heap.size := ⟨_, rfl⟩
   have HDD := hid hD
   obtain ⟨VX, hvx⟩ : ∃ V, V = itA x := ⟨_, rfl⟩
   have HVX := hid hvx
   rw [← hvx] at HCS
   clear hD hvx
   go_upto_region 3 with (first
    | (refine zCI zAo rfl (.tmp 10) rfl b (off + k * 3) rfl VX (by rw [HVX.out]; rfl) HCS.out ?_)
    | (refine zAn zAo rfl (.tmp 5) (.tmp 11) rfl D (by rw [HDD.out]; rfl) VX rfl (by rw [HVX.out]; rfl) (by rw [HVX.out]; exact zHR x) #[.int .i64 0, .int .i64 0, .int .i64 0] rfl (by rw [HDD.out]; exact Bk.new wr _ _) ?_; rw [← HDD.out]; intro w4 h4 ho4; have HB4 : Hid (Below wr.heap.size wr w4) := hid ((zAA wr _).trans (ho4.below (by rw [HDD.out]; exact Nat.le_refl _))); have H4 : Hid (Bk w4 D 93 (itA x)) := hid (by rw [← HVX.out]; exact h4); clear h4 ho4))
   have HC4 : Hid (Cur B w4 p M q ia' ic' R I' I' A) := hid (HCR.out.below HB4.out)
   have HK4 : Hid (KX EX w w4) := hid (HKX.out.trans (KX.of EX HB4.out) fun b _ h => h)
   have HBW4 : Hid (B ≤ w4.heap.size) := hid (by have := HBW.out; have := HK4.out.size; omega)
   have HWW : Hid (w.heap.size ≤ wr.heap.size) := hid HKX.out.size
   have HDI : Hid (ia' ≠ some ⟨D, 0, none⟩) := hid fun e => by
    have := (zAj HCR.out.io e).2.1
    rw [HDD.out] at this
    omega
   clear HCS HVX HDD HX HCR HKX
   obtain ⟨d, hd⟩ : ∃ d, d = decide (x ∈ I') := ⟨_, rfl⟩
   have HQ : Hid (∀ u, Below w4.heap.size w4 u → u.cell? ⟨p, 1, none⟩ = some (.map (some M)) ∧ Bk u D 93 (itA x) ∧ (Instr.lookup 145 (.map (some M)) (.agg (itA x)) false).run Tryz.prog u = .ok (.bool d) u) := hid fun u hu => by
    have hc := HC4.out.below hu
    refine ⟨hc.pb.cell 1, H4.out.below hu, ?_⟩
    rw [hd]
    exact hc.mp.look x
   have HD := hid hd
   clear hd
   refine wp_region_noPanic ?_
   refine wp_region_held_drew (S := fun u => u.cell? ⟨p, 1, none⟩ = some (.map (some M)) ∧ Bk u D 93 (itA x) ∧ (Instr.lookup 145 (.map (some M)) (.agg (itA x)) false).run Tryz.prog u = .ok (.bool d) u) (by kernel_rfl) (HQ.out _ (Below.refl _ _).drew) (fun hHeld => ?_)
   refine zG 0 rfl ?_
   try simp only [Act.put, aS, aZ, aC]
   refine zG 1 rfl ?_
   try simp only [Act.put, aS, aZ, aC]
   refine zG 2 rfl ?_
   try simp only [Act.put, aS, aZ, aC]
   refine zG 3 rfl ?_
   try simp only [Act.put, aS, aZ, aC]
   refine zT 4 (v := .agg (itA x)) rfl (fun w0 h0 => zBc zAo (.tmp 5) D rfl (itA x) rfl h0.2.1) ?_
   try simp only [Act.put, aS, aZ, aC]
   refine zT 5 (v := .bool d) rfl ?_ ?_
   ·intro w' hSw; have hl := hSw.2.2; clear hSw; go_simp; try with_reducible rfl
   try simp only [Act.put, aS, aZ, aC]
   refine zG 6 rfl ?_
   try simp only [Act.put, aS, aZ, aC]
   refine wpAnyH_done (by kernel_rfl) ?_ _
   refine NoPanic.normal ?_
   cases d with
   | true =>
    have HE : Hid (addI I (X.take (k + 1)) = I') := hid (by rw [HNX.out]; unfold addS; rw [if_pos (by have := HD.out; simpa using this.symm)])
    have HD4 : Hid (Below w4.heap.size w4 w4.drew) := hid (Below.refl _ _).drew
    go_wp2
    go_roundw
    case rel => exact ⟨k + 1, ia', ic', I', by go_num, by omega, hid (HC4.out.below HD4.out), hid HE.out.symm, hid (HK4.out.trans (KX.of EX HD4.out) fun b _ h => h), HIA⟩
    case measure => simp [intOf]; omega
   | false =>
    have HNI : Hid (x ∉ I') := hid (by have := HD.out; simpa using this.symm)
    have HE : Hid (addI I (X.take (k + 1)) = I' ++ [x]) := hid (by rw [HNX.out]; unfold addS; rw [if_neg HNI.out])
    clear HNX HD
    go_upto_region 4 with fail
    have HQ2 : Hid (∀ u, Below w4.heap.size w4 u → u.cell? ⟨p, 1, none⟩ = some (.map (some M)) ∧ Bk u D 93 (itA x)) := hid fun u hu => ⟨(HQ.out u hu).1, (HQ.out u hu).2.1⟩
    have HPM : Hid (p ≠ M ∧ D ≠ M) := hid (by
     refine ⟨HC4.out.apart.1, fun e => ?_⟩
     have h1 := H4.out
     obtain ⟨es, cl, hm, _⟩ := HC4.out.mp
     rw [e] at h1
     rw [show w4.heap[M]? = _ from h1] at hm
     cases hm)
    clear HQ
    refine wp_region_noPanic ?_
    refine wp_region_held_drew (S := fun u => u.cell? ⟨p, 1, none⟩ = some (.map (some M)) ∧ Bk u D 93 (itA x)) (by kernel_rfl) (HQ2.out _ (Below.refl _ _).drew.drew) (fun hHeld => ?_)
    refine zG 0 rfl ?_
    try simp only [Act.put, aS, aZ, aC]
    refine zG 1 rfl ?_
    try simp only [Act.put, aS, aZ, aC]
    refine zG 2 rfl ?_
    try simp only [Act.put, aS, aZ, aC]
    refine zG 3 rfl ?_
    try simp only [Act.put, aS, aZ, aC]
    refine zT 4 (v := .agg (itA x)) rfl (fun w0 h0 => zBc zAo (.tmp 5) D rfl (itA x) rfl h0.2) ?_
    try simp only [Act.put, aS, aZ, aC]
    refine zR [5] ?_
    refine hDo rfl (fun K hK => ?_) ?_
    ·refine zJP rfl (.tmp 22) (.tmp 23) (.const (.bool true)) rfl M rfl x rfl rfl I' (HC4.out.below (Below.refl _ _).drew.drew).mp HNI.out ?_
     intro w5 hm5 ho5
     have HO5 := hid ho5
     have HC5 : Hid (Cur B w5 p M q ia' ic' R I' (I' ++ [x]) A) := hid ((HC4.out.below (Below.refl _ _).drew.drew).put hm5 ho5)
     have H5 : Hid (Bk w5 D 93 (itA x)) := hid ((H4.out.below (Below.refl _ _).drew.drew).only ho5 HPM.out.2)
     have HK5 : Hid (KX EX w w5) := hid ((HK4.out.trans (KX.of EX (Below.refl _ _).drew.drew) fun b _ h => h).trans (KX.only (ex := EX) ho5 ((HEX.out M).2 (.inr (.inl rfl)))) fun b _ h => h)
     clear hm5 ho5
     refine hK.out _ _ (⟨HC5.out.pb.cell 1, H5.out⟩) (fun hHeld => ?_)
     clear hK K
     try simp only [Act.put]
     refine wpAnyH_done (by kernel_rfl) ?_ _
     refine NoPanic.normal ?_
     have HBW5 : Hid (B ≤ w5.heap.size) := hid (by have := HBW.out; have := HK5.out.size; omega)
     have HWW5 : Hid (w.heap.size ≤ w5.heap.size) := hid HK5.out.size
     have HPD : Hid (D ≠ p) := hid (by
      intro e
      have h1 := H5.out
      have h2 : w5.heap[p]? = _ := HC5.out.pb
      rw [e] at h1
      rw [show w5.heap[p]? = _ from h1] at h2
      simp only [Option.some.injEq, Obj.cells.injEq] at h2
      exact absurd h2.2.1 (by decide))
     clear HQ2 HC4 HK4 H4 HO5 HBW4
     go_upto_region 5 with fail
     obtain ⟨m, hm⟩ : ∃ m, m = I'.length := ⟨_, rfl⟩
     have HM := hid hm
     have HC5' : Hid (∀ u, Below w5.heap.size w5 u → u.cell? ⟨p, 0, none⟩ = some (.slice ia' m ic') ∧ OwnV B 93 3 u ia' m ic' (itC I')) := hid fun u hu => by
      have hc := HC5.out.below hu
      rw [hm]
      exact ⟨hc.pb.cell 0, hc.io⟩
     have HIL' : Hid (m ≤ 1000000000) := hid (by rw [hm]; exact HIL.out)
     clear hm
     refine wp_region_noPanic ?_
     refine wp_region_held_drew (S := fun u => Bk u D 93 (itA x)) (by kernel_rfl) (H5.out.below (Below.refl _ _).drew) (fun hHeld => ?_)
     refine zG 0 rfl ?_
     try simp only [Act.put, aS, aZ, aC]
     refine zG 1 rfl ?_
     try simp only [Act.put, aS, aZ, aC]
     refine zG 2 rfl ?_
     try simp only [Act.put, aS, aZ, aC]
     refine zG 3 rfl ?_
     try simp only [Act.put, aS, aZ, aC]
     refine zT 5 (v := .agg (itA x)) rfl (fun w0 h0 => zBc zAo (.tmp 5) D rfl (itA x) rfl h0) ?_
     try simp only [Act.put, aS, aZ, aC]
     refine zR [4, 6] ?_
     refine hDo rfl (fun K hK => ?_) ?_
     ·have d0 := (HC5'.out _ ((Below.refl w5.heap.size w5).drew)).1
      go_simp
      clear d0
      refine hK.out _ _ (H5.out.below ((Below.refl w5.heap.size w5).drew)) (fun hHeld => ?_)
      clear hK K
      try simp only [Act.put, aS, aZ, aC]
      refine zR [6] ?_
      refine hDo rfl (fun K hK => ?_) ?_
      ·refine zBT rfl (.tmp 29) rfl x rfl ?_
       intro w6 g6 hg6 hv6 hb6 hs6
       have HV6 := hid hv6
       have HB6 : Hid (Below w5.heap.size w5 w6) := hid (((Below.refl w5.heap.size w5).drew).trans (hb6.mono ((Below.refl w5.heap.size w5).drew).size))
       clear hv6 hb6 hg6 hs6
       refine hK.out _ _ (H5.out.below HB6.out) (fun hHeld => ?_)
       clear hK K
       try simp only [Act.put, aS, aZ, aC]
       refine zR [7] ?_
       refine hDo rfl (fun K hK => ?_) ?_
       ·refine zCJ rfl (.tmp 28) (.tmp 30) 94 rfl 93 B 3 24 _ Tryz.underlying94 zBo rfl (by omega) ia' m ic' (itC I') rfl (HC5'.out _ (HB6.out)).2 g6 0 1 1 (itC [x]) rfl HV6.out (by omega) (zBn _) (by have := HIL'.out; unfold maxLen; omega) (by have := HIL'.out; omega) (by have := HBW5.out; have := (HB6.out).size; omega) ?_
        intro g7 c7 w7 ho7 hg7 hb7 hl7
        rw [itC_one] at ho7
        have HO7 := hid ho7
        have HG7 := hid hg7
        have HL7 := hid hl7
        have HC6 : Hid (Cur B w6 p M q ia' ic' R I' (I' ++ [x]) A) := hid (HC5.out.below HB6.out)
        have HKG : Hid (KX (fun b => ia' = some ⟨b, 0, none⟩) w6 w7) := hid (KX.grown (by have := HC6.out.io; rw [← HM.out] at this; exact this) hg7 fun g hg => hg)
        have HP7 : Hid (Bk w7 p 148 (pcA ia' m ic' M (some ⟨q, 0, none⟩) A.length A.length)) := hid (by have := zDS HC6.out.pb HKG.out (fun e => (HC6.out.apart.2.2.2.1 p e).1 rfl); rw [← HM.out] at this; exact this)
        have HD7 : Hid (Bk w7 D 93 (itA x)) := hid (zDS (H5.out.below HB6.out) HKG.out fun e => HDI.out e)
        clear ho7 hg7 hl7 hb7
        refine hK.out _ _ (HD7.out) (fun hHeld => ?_)
        clear hK K
        try simp only [Act.put, aS, aZ, aC]
        refine zG 8 rfl ?_
        try simp only [Act.put, aS, aZ, aC]
        refine zG 9 rfl ?_
        try simp only [Act.put, aS, aZ, aC]
        refine zR [10] ?_
        refine hDo rfl (fun K hK => ?_) ?_
        ·refine zC0 rfl 94 zBp (.tmp 33) (.tmp 31) rfl 148 p 0 [.slice ia' m ic', .map (some M), .slice (some ⟨q, 0, none⟩) A.length A.length] HP7.out (by simp) (.slice (some ⟨g7, 0, none⟩) (m + 1) c7) rfl rfl rfl rfl ?_
         intro w8 h8 ho8
         have H8 := hid h8
         have HO8 := hid ho8
         clear h8 ho8
         refine hK.out _ _ (HD7.out.only HO8.out HPD.out) (fun hHeld => ?_)
         clear hK K
         try simp only [Act.put]
         refine wpAnyH_done (by kernel_rfl) ?_ _
         refine NoPanic.normal ?_
         go_wp2
         go_roundw
         case rel =>
          obtain ⟨q1, q2⟩ := HC6.out.items (g' := g7) (c' := c7) (x := x) (w' := w7) (w'' := w8) (by rw [← HM.out]; exact HO7.out) (by rw [← HM.out]; exact HG7.out) HL7.out (by rw [← HM.out]; exact H8.out) HO8.out
          refine ⟨k + 1, _, _, _, by go_num, by omega, hid q1, hid HE.out.symm, hid ?_, hid ?_⟩
          ·refine (HK5.out.trans (KX.of EX HB6.out) fun b _ h => h).trans q2 fun b hb hq => ?_
           rcases hq with rfl | hq
           ·exact (HEX.out _).2 (.inl rfl)
           ·exact (HEX.out _).2 (.inr (.inr (HIA.out b hb hq)))
          ·intro b hb e
           simp only [Option.some.injEq, Addr.mk.injEq, and_true] at e
           subst e
           rcases HL7.out with h | h
           ·exact HIA.out _ hb h
           ·have := HB6.out.size; have := HWW5.out; omega
         case measure => simp [intOf]; omega
        exact AllReadyH.nil
       exact AllReadyH.nil
      exact AllReadyH.nil
     refine hDo rfl (fun K hK => ?_) ?_
     ·refine zBT rfl (.tmp 29) rfl x rfl ?_
      intro w6 g6 hg6 hv6 hb6 hs6
      have HV6 := hid hv6
      have HB6 : Hid (Below w5.heap.size w5 w6) := hid (((Below.refl w5.heap.size w5).drew).trans (hb6.mono ((Below.refl w5.heap.size w5).drew).size))
      clear hv6 hb6 hg6 hs6
      refine hK.out _ _ (H5.out.below HB6.out) (fun hHeld => ?_)
      clear hK K
      try simp only [Act.put, aS, aZ, aC]
      refine zR [4] ?_
      refine hDo rfl (fun K hK => ?_) ?_
      ·have d0 := (HC5'.out _ (HB6.out)).1
       go_simp
       clear d0
       refine hK.out _ _ (H5.out.below (HB6.out)) (fun hHeld => ?_)
       clear hK K
       try simp only [Act.put, aS, aZ, aC]
       refine zR [7] ?_
       refine hDo rfl (fun K hK => ?_) ?_
       ·refine zCJ rfl (.tmp 28) (.tmp 30) 94 rfl 93 B 3 24 _ Tryz.underlying94 zBo rfl (by omega) ia' m ic' (itC I') rfl (HC5'.out _ (HB6.out)).2 g6 0 1 1 (itC [x]) rfl HV6.out (by omega) (zBn _) (by have := HIL'.out; unfold maxLen; omega) (by have := HIL'.out; omega) (by have := HBW5.out; have := (HB6.out).size; omega) ?_
        intro g7 c7 w7 ho7 hg7 hb7 hl7
        rw [itC_one] at ho7
        have HO7 := hid ho7
        have HG7 := hid hg7
        have HL7 := hid hl7
        have HC6 : Hid (Cur B w6 p M q ia' ic' R I' (I' ++ [x]) A) := hid (HC5.out.below HB6.out)
        have HKG : Hid (KX (fun b => ia' = some ⟨b, 0, none⟩) w6 w7) := hid (KX.grown (by have := HC6.out.io; rw [← HM.out] at this; exact this) hg7 fun g hg => hg)
        have HP7 : Hid (Bk w7 p 148 (pcA ia' m ic' M (some ⟨q, 0, none⟩) A.length A.length)) := hid (by have := zDS HC6.out.pb HKG.out (fun e => (HC6.out.apart.2.2.2.1 p e).1 rfl); rw [← HM.out] at this; exact this)
        have HD7 : Hid (Bk w7 D 93 (itA x)) := hid (zDS (H5.out.below HB6.out) HKG.out fun e => HDI.out e)
        clear ho7 hg7 hl7 hb7
        refine hK.out _ _ (HD7.out) (fun hHeld => ?_)
        clear hK K
        try simp only [Act.put, aS, aZ, aC]
        refine zG 8 rfl ?_
        try simp only [Act.put, aS, aZ, aC]
        refine zG 9 rfl ?_
        try simp only [Act.put, aS, aZ, aC]
        refine zR [10] ?_
        refine hDo rfl (fun K hK => ?_) ?_
        ·refine zC0 rfl 94 zBp (.tmp 33) (.tmp 31) rfl 148 p 0 [.slice ia' m ic', .map (some M), .slice (some ⟨q, 0, none⟩) A.length A.length] HP7.out (by simp) (.slice (some ⟨g7, 0, none⟩) (m + 1) c7) rfl rfl rfl rfl ?_
         intro w8 h8 ho8
         have H8 := hid h8
         have HO8 := hid ho8
         clear h8 ho8
         refine hK.out _ _ (HD7.out.only HO8.out HPD.out) (fun hHeld => ?_)
         clear hK K
         try simp only [Act.put]
         refine wpAnyH_done (by kernel_rfl) ?_ _
         refine NoPanic.normal ?_
         go_wp2
         go_roundw
         case rel =>
          obtain ⟨q1, q2⟩ := HC6.out.items (g' := g7) (c' := c7) (x := x) (w' := w7) (w'' := w8) (by rw [← HM.out]; exact HO7.out) (by rw [← HM.out]; exact HG7.out) HL7.out (by rw [← HM.out]; exact H8.out) HO8.out
          refine ⟨k + 1, _, _, _, by go_num, by omega, hid q1, hid HE.out.symm, hid ?_, hid ?_⟩
          ·refine (HK5.out.trans (KX.of EX HB6.out) fun b _ h => h).trans q2 fun b hb hq => ?_
           rcases hq with rfl | hq
           ·exact (HEX.out _).2 (.inl rfl)
           ·exact (HEX.out _).2 (.inr (.inr (HIA.out b hb hq)))
          ·intro b hb e
           simp only [Option.some.injEq, Addr.mk.injEq, and_true] at e
           subst e
           rcases HL7.out with h | h
           ·exact HIA.out _ hb h
           ·have := HB6.out.size; have := HWW5.out; omega
         case measure => simp [intOf]; omega
        exact AllReadyH.nil
       exact AllReadyH.nil
      exact AllReadyH.nil
     exact AllReadyH.nil
    ·exact AllReadyH.nil
  ·obtain rfl : k = xn := by omega
   have hltI : ¬ (k : Int) < (k : Int) := by omega
   go_wp2
   go_end0
   refine ⟨rfl, ia', ⟨ic', ?_⟩, HKX.out, HIA.out⟩
   have h1 := HI.out
   rw [List.take_of_length_le (by rw [HXL.out]; exact Nat.le_refl _)] at h1
   rw [← h1]
   exact HCR.out
end Go.Proofs.YtcjbhdgjcpnklaaGreatDoor
