import Derived.Test.YtcjbhdgjcpnklaaGreatDoorR15
namespace Go.Proofs.YtcjbhdgjcpnklaaGreatDoor
open Go.RowKit
set_option maxRecDepth 20000 in
set_option maxHeartbeats 4000000 in
theorem zLJ (x : Nm) (k f t : Int) (s : Nm) (e : Int) (w : World) :
  Calls Tryz.prog 122 #[.string (mk x), .agg #[.int .i64 k, .int .i64 f, .int .i64 t, .string (mk s), .int .i64 e]] w fun e' w' => e' = .returned (.bool (partB k s x)) ∧ Below w.heap.size w w' := by
 obtain ⟨B, hB⟩ : ∃ B, B = w.heap.size := ⟨_, rfl⟩
 obtain ⟨w1, hw1⟩ : ∃ w1, w1 = w.alloc (.cells #[.int .i64 k, .int .i64 f, .int .i64 t, .string (mk s), .int .i64 e] 51) := ⟨_, rfl⟩
 have HT1 : Hid (T5 w1 B k f t s e) := hid (by rw [hw1, hB]; exact T5.new w k f t s e)
 have HB1 : Hid (Below w.heap.size w w1) := hid (by rw [hw1]; exact zAA w _)
 go_enter Tryz.func122, Tryz.ntmps122
 go_upto_region 1 with fail
 rw [← hw1, ← hB]
 clear hw1 hB
 go_wp2_with (refine zA2 zBJ rfl (.tmp 3) rfl B rfl _ rfl HT1.out ?_)
 refine (zKj k f t s e x w1).mono ?_
 rintro e' w2 ⟨rfl, hb2⟩
 have HB2 := hid hb2
 clear hb2
 go_wp2
 go_ret
 exact ⟨rfl, HB1.out.trans (HB2.out.mono HB1.out.size)⟩
set_option maxRecDepth 20000 in
set_option maxHeartbeats 4000000 in
theorem zGi (x : Nm) (k f t : Int) (s : Nm) (e : Int) (w : World) :
  Calls Tryz.prog 72 #[.string (mk x), .agg #[.int .i64 k, .int .i64 f, .int .i64 t, .string (mk s), .int .i64 e]] w fun e' w' => e' = .returned (.bool (k == 6 && s == x)) ∧ Below w.heap.size w w' := by
 obtain ⟨B, hB⟩ : ∃ B, B = w.heap.size := ⟨_, rfl⟩
 obtain ⟨w1, hw1⟩ : ∃ w1, w1 = w.alloc (.cells #[.int .i64 k, .int .i64 f, .int .i64 t, .string (mk s), .int .i64 e] 51) := ⟨_, rfl⟩
 have HT1 : Hid (T5 w1 B k f t s e) := hid (by rw [hw1, hB]; exact T5.new w k f t s e)
 have HB1 : Hid (Below w.heap.size w w1) := hid (by rw [hw1]; exact zAA w _)
 have hx := mk_toList x
 have hs := mk_toList s
 obtain ⟨c0, c1, c2, c3, c4⟩ := HT1.out.cells
 go_enter Tryz.func72, Tryz.ntmps72
 go_upto_region 1 with fail
 rw [← hw1, ← hB]
 clear hw1 hB
 cases hk : (k == 6) with
 | false =>
  go_wp2
  go_ret
  exact ⟨zAk (by rw [hk]; rfl), HB1.out⟩
 | true =>
  cases he : (s == x) with
  | true =>
   go_wp2
   go_ret
   exact ⟨zAk (by rw [hk, he]; rfl), HB1.out⟩
  | false =>
   go_wp2
   go_ret
   exact ⟨zAk (by rw [hk, he]; rfl), HB1.out⟩
def letB (s : Sd) (t : TK) (alone : Bool) : Bool := match s with
 | .ho _ => alone
 | s => s.ok t
theorem zCy (L : List OP) (z : List Int) (s : Sd) (t : TK) : letsB L z s t = letB s t (leafB t.k (freeB L z (txN t))) := by cases s <;> rfl
set_option maxRecDepth 20000 in
set_option maxHeartbeats 4000000 in
theorem zMo (s : Sd) (p q : Value) (t : TK) (alone : Bool) (w : World) (h : SdV w (p, q) s) :
  Calls Tryz.prog 80 #[.agg #[p, q], .agg #[.int .i64 t.k, .int .i64 t.f, .int .i64 t.t, .string (mk (txN t)), .int .i64 t.e], .bool alone] w fun e' w' => e' = .returned (.bool (letB s t alone)) ∧ Below w.heap.size w w' := by
 obtain ⟨B, hB⟩ : ∃ B, B = w.heap.size := ⟨_, rfl⟩
 obtain ⟨w1, hw1⟩ : ∃ w1, w1 = w.alloc (.cells #[p, q] 136) := ⟨_, rfl⟩
 obtain ⟨w2, hw2⟩ : ∃ w2, w2 = w1.alloc (.cells #[.int .i64 t.k, .int .i64 t.f, .int .i64 t.t, .string (mk (txN t)), .int .i64 t.e] 51) := ⟨_, rfl⟩
 have s1 : w1.heap.size = B + 1 := by rw [hw1, hB]; simp
 have HS2 : Hid (Bk w2 B 136 #[p, q]) := hid (by rw [hw2, hw1, hB]; exact (Bk.new w _ _).alloc _)
 have HT2 : Hid (T5 w2 (B + 1) t.k t.f t.t (txN t) t.e) := hid (by rw [hw2, ← s1]; exact T5.new w1 _ _ _ _ _)
 have HB2 : Hid (Below w.heap.size w w2) := hid (by rw [hw2, hw1]; exact (zAA w _).alloc (by simp) _)
 obtain ⟨k, f, t', tx, e⟩ := t
 dsimp only at HT2 hw2 ⊢
 obtain ⟨x, hx⟩ : ∃ x, x = txN ⟨k, f, t', tx, e⟩ := ⟨_, rfl⟩
 have HXX : Hid (x = txN ⟨k, f, t', tx, e⟩) := hid hx
 rw [← hx] at HT2 hw2 ⊢
 clear hx
 have c0 := HS2.out.cell 0
 rw [show (#[p, q] : Array Value)[0]? = some p from rfl] at c0
 go_enter Tryz.func80, Tryz.ntmps80
 go_upto_region 1 with fail
 rw [← hw1]
 try rw [← hw2]
 rw [← hB]
 try rw [s1]
 clear hw1 hw2 s1 hB
 cases s with
 | ho K =>
  obtain ⟨hp, _⟩ := h
  dsimp only at hp
  subst hp
  have hnf : ∀ w' : World, (binOp .eql 63 .nilFunc .nilFunc).run Tryz.prog w' = .ok (.bool true) w' := fun w' => by kernel_rfl
  go_wp2
  go_ret
  exact ⟨rfl, HB2.out⟩
 | br y =>
  obtain ⟨hp, _⟩ := h
  dsimp only at hp
  subst hp
  have hnf : ∀ w' : World, (binOp .eql 63 (.func (.func 72) #[.string (mk y)] #[]) .nilFunc).run Tryz.prog w' = .ok (.bool false) w' := fun w' => by kernel_rfl
  go_wp2_with (refine zA2 zBJ rfl (.tmp 4) rfl (B + 1) rfl _ rfl HT2.out ?_)
  refine (zGi y k f t' x e w2).mono ?_
  rintro e' w3 ⟨rfl, hb3⟩
  have HB3 := hid hb3
  clear hb3
  go_wp2
  go_ret
  exact ⟨zAk (by rw [HXX.out]; rfl), HB2.out.trans (HB3.out.mono HB2.out.size)⟩
 | pt y =>
  obtain ⟨hp, _⟩ := h
  dsimp only at hp
  subst hp
  have hnf : ∀ w' : World, (binOp .eql 63 (.func (.func 122) #[.string (mk y)] #[]) .nilFunc).run Tryz.prog w' = .ok (.bool false) w' := fun w' => by kernel_rfl
  go_wp2_with (refine zA2 zBJ rfl (.tmp 4) rfl (B + 1) rfl _ rfl HT2.out ?_)
  refine (zLJ y k f t' x e w2).mono ?_
  rintro e' w3 ⟨rfl, hb3⟩
  have HB3 := hid hb3
  clear hb3
  go_wp2
  go_ret
  exact ⟨zAk (by rw [HXX.out]; rfl), HB2.out.trans (HB3.out.mono HB2.out.size)⟩
def nexI (x : IT) : IT := (x.1, x.2.1 + 1, x.2.2)
section
variable {ops : Array Oper} {rest : List Oper} {o : Oper} {A : Act} {w : World} {Q : Exit → Act → World → Prop}
theorem zMp (hgd : o.guard = none) (x y : Operand) (ho : o.op = .store 3 x y) (b : Nat) (hx : A.eval x = .pointer (some ⟨b, 1, none⟩)) (v : Int) (hy : A.eval y = .int .i64 v) (f s a : Int) (h : Bk w b 93 #[.int .i64 f, .int .i64 s, .int .i64 a])
  (k : ∀ w', Bk w' b 93 #[.int .i64 f, .int .i64 v, .int .i64 a] → Only b w w' → wpList Tryz.prog ops Q rest (A.put o.dst undef) w') : wpList Tryz.prog ops Q (o :: rest) A w :=
 zAm hgd 3 93 x y ho b 1 [.int .i64 f, .int .i64 s, .int .i64 a] (.int .i64 v) hx hy zOu rfl h (by simp) rfl fun w' h' ho' => k w' h' ho'
end
set_option maxRecDepth 20000 in
set_option maxHeartbeats 4000000 in
theorem zEX (x : IT) (w : World) (hx : x.2.1 ≤ 1000000) :
  Calls Tryz.prog 79 #[.agg (itA x)] w fun e' w' => e' = .returned (.agg (itA (nexI x))) ∧ Below w.heap.size w w' := by
 obtain ⟨f, s, a⟩ := x
 dsimp only at hx
 obtain ⟨B, hB⟩ : ∃ B, B = w.heap.size := ⟨_, rfl⟩
 obtain ⟨w1, hw1⟩ : ∃ w1, w1 = w.alloc (.cells #[.int .i64 (f : Int), .int .i64 (s : Int), .int .i64 (a : Int)] 93) := ⟨_, rfl⟩
 obtain ⟨w2, hw2⟩ : ∃ w2, w2 = w1.alloc (.cells #[.int .i64 0, .int .i64 0, .int .i64 0] 93) := ⟨_, rfl⟩
 have s1 : w1.heap.size = B + 1 := by rw [hw1, hB]; simp
 have HI2 : Hid (Bk w2 B 93 #[.int .i64 (f : Int), .int .i64 (s : Int), .int .i64 (a : Int)]) := hid (by rw [hw2, hw1, hB]; exact (Bk.new w _ _).alloc _)
 have HR2 : Hid (Bk w2 (B + 1) 93 #[.int .i64 0, .int .i64 0, .int .i64 0]) := hid (by rw [hw2, ← s1]; exact Bk.new w1 _ _)
 have HB2 : Hid (Below w.heap.size w w2) := hid (by rw [hw2, hw1]; exact (zAA w _).alloc (by simp) _)
 have HBB := hid hB
 have c1 := HI2.out.cell 1
 rw [show (#[.int .i64 (f : Int), .int .i64 (s : Int), .int .i64 (a : Int)] : Array Value)[1]? = some (.int .i64 (s : Int)) from rfl] at c1
 have hws : IntKind.i64.wrap ((s : Int) + 1) = (s : Int) + 1 := IntWalk.i64_in _ (by omega)
 show Calls Tryz.prog 79 #[.agg #[.int .i64 (f : Int), .int .i64 (s : Int), .int .i64 (a : Int)]] w _
 go_enter Tryz.func79, Tryz.ntmps79
 go_upto_region 1 with fail
 rw [← hw1]
 try rw [← hw2]
 rw [← hB]
 try rw [s1]
 clear hw1 hw2 s1 hB
 go_wp2_with (first
  | (refine zMp rfl (.tmp 6) (.tmp 5) rfl B rfl ((s : Int) + 1) rfl (f : Int) (s : Int) (a : Int) HI2.out ?_; intro w3 h3 ho3; have HI3 := hid h3; have HR3 : Hid (Bk w3 (B + 1) 93 #[.int .i64 0, .int .i64 0, .int .i64 0]) := hid (HR2.out.only ho3 (by omega)); have HO3 := hid ho3; clear h3 ho3 c1)
  | (refine zA2 zAo rfl (.tmp 1) rfl B rfl _ rfl HI3.out ?_)
  | (refine zAn zAo rfl (.tmp 2) (.tmp 7) rfl (B + 1) rfl #[.int .i64 (f : Int), .int .i64 ((s : Int) + 1), .int .i64 (a : Int)] rfl rfl (by kernel_rfl) _ rfl HR3.out ?_; intro w4 h4 ho4; have HR4 := hid h4; have HO4 := hid ho4; clear h4 ho4))
 refine bodyPost_ret (zNr zAo rfl _ _ (B + 1) _ rfl rfl HR4.out) rfl ⟨?_, ?_⟩
 ·unfold nexI itA
  dsimp only
  rw [Int.natCast_succ]
 ·exact (HB2.out.trans (HO3.out.below (by rw [HBB.out]; exact Nat.le_refl _))).trans (HO4.out.below (by rw [HBB.out]; exact Nat.le_succ _))
theorem zJN : Tryz.prog.elem 138 = 136 := by kernel_rfl
theorem zLK : ∀ (vs : List VV) (s : Nat), (cV vs).drop (s * 2) = cV (vs.drop s)
 | [], s => by rw [List.drop_nil]; exact List.drop_nil
 | p :: vs, 0 => by rw [Nat.zero_mul, List.drop_zero, List.drop_zero]
 | p :: vs, s + 1 => by
  rw [List.drop_succ_cons, ← zLK vs s, show (s + 1) * 2 = s * 2 + 1 + 1 by omega]
  show ((p.1 :: p.2 :: cV vs)).drop (s * 2 + 1 + 1) = _
  rw [List.drop_succ_cons, List.drop_succ_cons]
theorem StV.from {w : World} {g off n c s : Nat} {S : List Sd} (h : StV w (some ⟨g, off, none⟩) n c S) (hs : s ≤ n) : StV w (some ⟨g, if c = s then off else off + s * 2, none⟩) (n - s) (c - s) (S.drop s) := by
 obtain ⟨h0, vs, h1, h2, h3⟩ := h
 refine ⟨by rw [List.length_drop, h0], vs.drop s, by rw [List.length_drop, h1], by rw [← zLK]; exact h2.from hs, fun j hj => ?_⟩
 have e1 : vA (vs.drop s) j = vA vs (s + j) := by unfold vA; simp [List.getD, List.getElem?_drop]
 have e2 : sA (S.drop s) j = sA S (s + j) := by unfold sA; simp [List.getD, List.getElem?_drop]
 rw [e1, e2]
 exact h3 (s + j) (by omega)
def wkA (fa : Option Addr) (fn fc : Nat) (pa : Option Addr) (pn pc : Nat) : Array Value := #[.slice fa fn fc, .slice pa pn pc]
set_option maxRecDepth 20000 in
set_option maxHeartbeats 4000000 in
theorem zGj (W : Nat) (fa : Option Addr) (fc : Nat) (F : List FD) (pa : Option Addr) (pn pc : Nat) (x : IT) (wf w : World) (hW : Bk w W 90 (wkA fa F.length fc pa pn pc)) (hF : FsV wf fa fc F) (hwf : Below wf.heap.size wf w) (hf : x.1 < F.length) (hne : (fA F x.1).S ≠ []) (hs : x.2.1 ≤ (fA F x.1).S.length) :
  Calls Tryz.prog 78 #[.pointer (some ⟨W, 0, none⟩), .agg (itA x)] w fun e' w' => ∃ a c, e' = .returned (.slice a ((fA F x.1).S.length - x.2.1) c) ∧ StV wf a ((fA F x.1).S.length - x.2.1) c ((fA F x.1).S.drop x.2.1) ∧ Below w.heap.size w w' := by
 obtain ⟨f, s, a⟩ := x
 dsimp only at hf hne hs ⊢
 obtain ⟨R, hR, hv, hst⟩ := hF
 have hsf := hst f hf
 obtain ⟨fb, fo, rfl, _, hcell⟩ := hv.at_ (by omega)
 have cf := hcell f (by omega)
 rw [zLF (by omega)] at cf
 obtain ⟨r, hr⟩ : ∃ r, r = rA R f := ⟨_, rfl⟩
 rw [← hr] at cf hsf
 obtain ⟨sa, sn, sc⟩ := r
 dsimp only at cf hsf
 obtain rfl : (fA F f).S.length = sn := hsf.1
 obtain ⟨sl, hsl⟩ : ∃ sl, sl = (fA F f).S.length := ⟨_, rfl⟩
 have hpos : 0 < sl := by rw [hsl]; exact List.length_pos_iff.2 hne
 obtain ⟨_, vs, _, hvs, _⟩ := id hsf
 obtain ⟨sb, so, rfl, _, _⟩ := hvs.at_ (by omega)
 have HST := hid (hsf.from hs)
 rw [← hsl] at cf hs HST ⊢
 obtain ⟨w1, hw1⟩ : ∃ w1, w1 = w.alloc (.cells #[.int .i64 (f : Int), .int .i64 (s : Int), .int .i64 (a : Int)] 93) := ⟨_, rfl⟩
 obtain ⟨B, hB⟩ : ∃ B, B = w.heap.size := ⟨_, rfl⟩
 have HI1 : Hid (Bk w1 B 93 #[.int .i64 (f : Int), .int .i64 (s : Int), .int .i64 (a : Int)]) := hid (by rw [hw1, hB]; exact Bk.new w _ _)
 have HB1 : Hid (Below w.heap.size w w1) := hid (by rw [hw1]; exact zAA w _)
 have c0 := HI1.out.cell 0
 have c1 := HI1.out.cell 1
 rw [show (#[.int .i64 (f : Int), .int .i64 (s : Int), .int .i64 (a : Int)] : Array Value)[0]? = some (.int .i64 (f : Int)) from rfl] at c0
 rw [show (#[.int .i64 (f : Int), .int .i64 (s : Int), .int .i64 (a : Int)] : Array Value)[1]? = some (.int .i64 (s : Int)) from rfl] at c1
 have cw := (hW.below HB1.out).cell 0
 rw [show (wkA (some ⟨fb, fo, none⟩) F.length fc pa pn pc)[0]? = some (.slice (some ⟨fb, fo, none⟩) F.length fc) from rfl] at cw
 have cf1 : w1.cell? ⟨fb, fo + f, none⟩ = some (.slice (some ⟨sb, so, none⟩) sl sc) := ((hwf.trans (HB1.out.mono hwf.size)).cell (World.block_lt_of_cell? wf ⟨fb, fo + f, none⟩ cf)).trans cf
 have hcut := fun w => zFK (P := Tryz.prog) (t := 138) (g := sb) (off := so) (n := sl) (c := sc) (l := s) zJN Tryz.underlying138 zAg hs w
 obtain ⟨so', hso⟩ : ∃ q, q = (if sc = s then so else so + s * 2) := ⟨_, rfl⟩
 obtain ⟨c', hc'⟩ : ∃ q, q = sc - s := ⟨_, rfl⟩
 obtain ⟨m, hm⟩ : ∃ q, q = sl - s := ⟨_, rfl⟩
 rw [← hso, ← hc', ← hm] at HST
 simp only [← hso, ← hc', ← hm] at hcut
 rw [← hm]
 obtain ⟨fl, hfl⟩ : ∃ q, q = F.length := ⟨_, rfl⟩
 rw [← hfl] at cw hf
 have hltf : (f : Int) < (fl : Int) := by omega
 have hf0 : (0 : Int) ≤ (f : Int) := Int.natCast_nonneg _
 have hs0 : (0 : Int) ≤ (s : Int) := Int.natCast_nonneg _
 clear hW hv hst hcell hsf hvs cf hne hR hsl hso hc' hm hfl hpos hr
 show Calls Tryz.prog 78 #[.pointer (some ⟨W, 0, none⟩), .agg #[.int .i64 (f : Int), .int .i64 (s : Int), .int .i64 (a : Int)]] w _
 go_enter Tryz.func78, Tryz.ntmps78
 go_upto_region 1 with fail
 rw [← hw1, ← hB]
 clear hw1 hB
 go_region
 go_wp2
 go_ret
 exact ⟨_, _, rfl, HST.out, HB1.out.trans (Below.refl _ _).drew⟩
end Go.Proofs.YtcjbhdgjcpnklaaGreatDoor
