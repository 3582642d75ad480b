import Derived.Test.YtcjbhdgjcpnklaaGreatDoorN15
namespace Go.Proofs.YtcjbhdgjcpnklaaGreatDoor
section
open Go.RowKit
def rw_ (x : Nm) : Sd := if x = [] then .ho [] else .pt x
def hoL (b : Bool) : List Sd := if b then [.ho []] else []
def mid : List Nm → List Sd
 | [] => []
 | [p] => [.pt p]
 | p :: q :: P => .pt p :: .ho [] :: mid (q :: P)
theorem mid_snoc : ∀ (P : List Nm) (x : Nm), mid (P ++ [x]) = mid P ++ (hoL (decide (0 < P.length)) ++ [.pt x])
 | [], x => rfl
 | [p], x => rfl
 | p :: q :: P, x => by
  show .pt p :: .ho [] :: mid (q :: P ++ [x]) = .pt p :: .ho [] :: (mid (q :: P) ++ _)
  rw [mid_snoc (q :: P) x]
  simp [hoL]
theorem zSk : ∀ (P : List Nm), (∀ p ∈ P, p ≠ []) → (sepL P).map rw_ = mid P
 | [], _ => rfl
 | [p], h => by
  show [rw_ p] = [.pt p]
  unfold rw_; rw [if_neg (h p (List.mem_cons_self ..))]
 | p :: q :: P, h => by
  show rw_ p :: rw_ [] :: (sepL (q :: P)).map rw_ = .pt p :: .ho [] :: mid (q :: P)
  rw [zSk (q :: P) fun x hx => h x (List.mem_cons_of_mem _ hx)]
  unfold rw_; rw [if_neg (h p (List.mem_cons_self ..)), if_pos rfl]
def shS (s : SH) : List Sd := hoL s.l ++ mid s.P ++ hoL s.r
theorem zSl {s : SH} (h : ∀ p ∈ s.P, p ≠ []) : shS s = (itemsL s).map rw_ := by
 unfold shS itemsL
 rw [List.map_append, List.map_append, zSk s.P h, List.append_assoc]
 congr 1
 ·cases s.l <;> rfl
 ·congr 1
  cases s.r <;> rfl
def isHo : Sd → Bool
 | .ho _ => true
 | _ => false
def holS (S : List Sd) : Nat := (S.filter isHo).length
theorem holS_app (A B : List Sd) : holS (A ++ B) = holS A + holS B := by unfold holS; rw [List.filter_append, List.length_append]
theorem zRS : ∀ I : List Nm, holS (I.map rw_) = holN I
 | [] => rfl
 | x :: I => by
  have ih := zRS I
  by_cases hx : x = []
  ·subst hx
   rw [zGa, List.map_cons, show rw_ [] :: I.map rw_ = [Sd.ho []] ++ I.map rw_ from rfl, holS_app, ih]
   show 1 + _ = _
   omega
  ·rw [zGb hx, List.map_cons, show rw_ x :: I.map rw_ = [Sd.pt x] ++ I.map rw_ by unfold rw_; rw [if_neg hx]; rfl, holS_app, ih]
   show 0 + _ = _
   omega
def opS (o : OP) (S : List Sd) : FD := ⟨3, o.1, (holS S : Nat), o, S⟩
theorem zRe (b : Bool) : (hoL b).length ≤ 1 := by cases b <;> simp [hoL]
theorem zRy : ∀ P : List Nm, (mid P).length ≤ 2 * P.length
 | [] => Nat.zero_le _
 | [p] => by simp [mid]
 | p :: q :: P => by
  have := zRy (q :: P)
  show (Sd.pt p :: Sd.ho [] :: mid (q :: P)).length ≤ _
  simp only [List.length_cons] at this ⊢
  omega
theorem zTp (S : List Sd) : holS S ≤ S.length := List.length_filter_le ..
structure OpW (w : World) (F : Nat) (o : OP) (S : List Sd) (a : Option Addr) (c : Nat) (vs : List VV) : Prop where
 bf : Bk w F 119 (fmA (opS o S) a S.length c)
 own : OwnV F 125 2 w a S.length c (cV vs)
 hl : vs.length = S.length
 st : ∀ j, j < S.length → SdO w (vA vs j) (sA S j)
theorem OpW.sto {w : World} {F : Nat} {o : OP} {S : List Sd} {a : Option Addr} {c : Nat} {vs : List VV} (h : OpW w F o S a c vs) : StO w a c S vs := ⟨h.hl, h.own.weaken (Nat.zero_le _), h.st⟩
theorem OpW.below {w w' : World} {F : Nat} {o : OP} {S : List Sd} {a : Option Addr} {c : Nat} {vs : List VV} (h : OpW w F o S a c vs) (hb : Below w.heap.size w w') : OpW w' F o S a c vs :=
 ⟨h.bf.below hb, h.own.keep hb (Nat.le_refl _), h.hl, (h.sto.below hb).st⟩
theorem zSm : (Tryz.prog.info? 117).map (·.size) = some 1 := by kernel_rfl
section
variable {ops : Array Oper} {rest : List Oper} {o : Oper} {A : Act} {w : World} {Q : Exit → Act → World → Prop}
theorem zSB (hgd : o.guard = none) (x y : Operand) (ho : o.op = .store 117 x y) (b : Nat) (hx : A.eval x = .pointer (some ⟨b, 8, none⟩)) (a' : Option Addr) (n' c' : Nat) (hy : A.eval y = .slice a' n' c') (f : FD) (a : Option Addr) (n c : Nat) (h : Bk w b 119 (fmA f a n c))
  (k : ∀ w', Bk w' b 119 (fmA f a' n' c') → Only b w w' → wpList Tryz.prog ops Q rest (A.put o.dst undef) w') : wpList Tryz.prog ops Q (o :: rest) A w :=
 zAm hgd 117 119 x y ho b 8 [.int .i64 f.k, .string (mk f.n), .int .i64 0, .int .i64 0, .int .i64 f.c, .string (mk f.o.1), .int .i64 f.o.2.1, .int .i64 f.o.2.2, .slice a n c] (.slice a' n' c') hx hy zSm rfl h (by simp) rfl fun w' h' ho' => k w' h' ho'
theorem zTF (hgd : o.guard = none) (x y : Operand) (ho : o.op = .store 3 x y) (b : Nat) (hx : A.eval x = .pointer (some ⟨b, 4, none⟩)) (v : Int) (hy : A.eval y = .int .i64 v) (k : Int) (n : Nm) (c : Int) (p : OP) (S : List Sd) (a : Option Addr) (m d : Nat) (h : Bk w b 119 (fmA ⟨k, n, c, p, S⟩ a m d))
  (kk : ∀ w', Bk w' b 119 (fmA ⟨k, n, v, p, S⟩ a m d) → Only b w w' → wpList Tryz.prog ops Q rest (A.put o.dst undef) w') : wpList Tryz.prog ops Q (o :: rest) A w :=
 zAm hgd 3 119 x y ho b 4 [.int .i64 k, .string (mk n), .int .i64 0, .int .i64 0, .int .i64 c, .string (mk p.1), .int .i64 p.2.1, .int .i64 p.2.2, .slice a m d] (.int .i64 v) hx hy zOu rfl h (by simp) rfl fun w' h' ho' => kk w' h' ho'
end
theorem zRT {w w' : World} {o : Obj} {F : Nat} {cs : Array Value} {base : Nat} {a : Option Addr} {n c : Nat} {xs : List Value} (h : Bk w F 119 cs) (hr : OwnV base 125 2 (w.alloc o) a n c xs) (hg : (w.alloc o).grownBy w' (Value.ownBlock (.slice a n c))) : Bk w' F 119 cs :=
 (Kt.grown (P := tS) hr rfl hg).row F cs _ (h.alloc o) (by unfold tS; decide)
theorem OwnV.only_f {base k : Nat} {w w' : World} {a : Option Addr} {n c : Nat} {xs : List Value} {g : Nat} {cs : Array Value} (h : OwnV base 125 k w a n c xs) (hg : Bk w g 119 cs) (ho : Only g w w') : OwnV base 125 k w' a n c xs :=
 h.kt (P := fun t => t = 119) (by decide) (Kt.only hg rfl ho)
theorem zRU {w w' : World} {F : Nat} {S : List Sd} {a' : Option Addr} {c' : Nat} {vs : List VV} {v : VV} {s : Sd} (hl : vs.length = S.length) (hst : ∀ j, j < S.length → SdO w (vA vs j) (sA S j)) (hs : SdO w v s) (hk : Kt tF w w')
  (ho : OwnV F 125 2 w' a' (S.length + 1) c' (cV vs ++ cV [v])) : OwnV F 125 2 w' a' (S ++ [s]).length c' (cV (vs ++ [v])) ∧ (vs ++ [v]).length = (S ++ [s]).length ∧ ∀ j, j < (S ++ [s]).length → SdO w' (vA (vs ++ [v]) j) (sA (S ++ [s]) j) := by
 refine ⟨by rw [zK1, List.length_append]; exact ho, by simp [hl], fun j hj => ?_⟩
 rw [List.length_append, List.length_singleton] at hj
 by_cases hlt : j < S.length
 ·have h1 := hst j hlt
  have e1 : vA (vs ++ [v]) j = vA vs j := by unfold vA; simp [List.getD, List.getElem?_append_left (show j < vs.length by omega)]
  have e2 : sA (S ++ [s]) j = sA S j := by unfold sA; simp [List.getD, List.getElem?_append_left hlt]
  rw [e1, e2]
  exact h1.kt zUC hk
 ·obtain rfl : j = S.length := by omega
  have e1 : vA (vs ++ [v]) S.length = v := by unfold vA; simp [List.getD, ← hl]
  have e2 : sA (S ++ [s]) S.length = s := by unfold sA; simp [List.getD]
  rw [e1, e2]
  exact hs.kt zUC hk
set_option maxRecDepth 100000 in
set_option maxHeartbeats 4000000 in
theorem zRC (th : Bool) (F : Nat) (o : OP) (S : List Sd) (a : Option Addr) (c : Nat) (vs : List VV) (w : World) (h : OpW w F o S a c vs) (hn : S.length ≤ 1000000) :
  Calls Tryz.prog 110 #[.bool th, .pointer (some ⟨F, 0, none⟩)] w fun e w' => e = .returned (.tuple #[]) ∧ (∃ a' c' vs', OpW w' F o (S ++ hoL th) a' c' vs') ∧ Below F w w' ∧ Kt tF w w' := by
 have H := hid h
 have f8 : w.cell? ⟨F, 8, none⟩ = some (.slice a S.length c) := h.bf.cell 8
 obtain ⟨q, hq⟩ : ∃ q, q = holS S := ⟨_, rfl⟩
 have HQ := hid hq
 have hq6 : q ≤ 1000000 := by have := zTp S; omega
 have HF : Hid (F < w.heap.size) := hid h.bf.lt
 obtain ⟨m, hm⟩ : ∃ m, m = S.length := ⟨_, rfl⟩
 have HM := hid hm
 have hb := h.own.bounds
 rw [← hm] at f8 hn hb
 obtain ⟨_, hlc, hcm⟩ := hb
 unfold maxLen at hcm
 clear h hq hm
 go_enter Tryz.func110, Tryz.ntmps110
 cases th with
 | false =>
  go_wp2
  go_end0
  exact ⟨rfl, ⟨a, c, vs, by rw [show hoL false = [] from rfl, List.append_nil]; exact H.out⟩, Below.refl _ _, Kt.refl _ _⟩
 | true =>
  have hwq : IntKind.i64.wrap ((q : Int) + 1) = (q : Int) + 1 := IntWalk.i64_in _ (by omega)
  go_wp2_with (first
   | (at_builtin; refine zAL rfl (.tmp 5) (.tmp 7) 117 rfl 125 F 2 32 _ Tryz.underlying117 zRB rfl (by omega) _ _ _ (cV vs) rfl ((by rw [HM.out]; exact H.out.own : OwnV F 125 2 w a m c (cV vs)).alloc _) _ _ _ (cV [(.nilFunc, .slice none 0 0)]) rfl (Vs.lit (k := 2) (xs := cV [(.nilFunc, .slice none 0 0)]) _ _ rfl rfl rfl) (by intro u hu; simp [cV] at hu; rcases hu with rfl | rfl <;> rfl) (by unfold maxLen; omega) (by omega) (by have := HF.out; simp; omega) ?_; intro a6 c6 w6 hO6 hG6 hb6 _; have HO6 := hid hO6; have HB6 : Hid (Below F w w6) := hid (((Below.refl F w).alloc (by have := HF.out; omega) _).trans hb6); have HK6 : Hid (Kt tF w w6) := hid ((Kt.below (zAA w _)).trans (Kt.grown ((by rw [HM.out]; exact H.out.own : OwnV F 125 2 w a m c (cV vs)).alloc _) (.inl rfl) hG6)); have HF6 : Hid (Bk w6 F 119 (fmA (opS o S) a m c)) := hid (zRT (by rw [HM.out]; exact H.out.bf) ((by rw [HM.out]; exact H.out.own : OwnV F 125 2 w a m c (cV vs)).alloc _) hG6); clear hO6 hG6 hb6 f8)
   | (refine zSB rfl (.tmp 9) (.tmp 8) rfl F rfl a6 (m + 1) c6 rfl (opS o S) a m c HF6.out ?_; intro w7 h7 ho7; have H7 : Hid (Bk w7 F 119 (fmA ⟨3, o.1, (q : Int), o, S⟩ a6 (m + 1) c6)) := hid (by rw [HQ.out]; exact h7); have HO7 := hid ho7; have f4 : w7.cell? ⟨F, 4, none⟩ = some (.int .i64 (q : Int)) := H7.out.cell 4; clear h7 ho7)
   | (refine zTF rfl (.tmp 15) (.tmp 13) rfl F rfl ((q : Int) + 1) rfl 3 o.1 (q : Int) o S a6 (m + 1) c6 H7.out ?_; intro w8 h8 ho8; have H8 := hid h8; have HO8 := hid ho8; clear h8 ho8))
  go_end0
  have hk : Kt tF w w8 := HK6.out.trans ((Kt.only HF6.out (.inr rfl) HO7.out).trans (Kt.only H7.out (.inr rfl) HO8.out))
  have hown : OwnV F 125 2 w8 a6 (S.length + 1) c6 (cV vs ++ cV [(.nilFunc, .slice none 0 0)]) := by
   rw [← HM.out]
   exact (HO6.out.only_f HF6.out HO7.out).only_f H7.out HO8.out
  obtain ⟨q1, q2, q3⟩ := zRU (s := .ho []) H.out.hl H.out.st ⟨rfl, none, 0, rfl, OwnV.none0⟩ hk hown
  rw [show hoL true = [Sd.ho []] from rfl]
  refine ⟨rfl, ⟨a6, c6, vs ++ [(.nilFunc, .slice none 0 0)], ?_, q1, q2, q3⟩, HB6.out.trans ((HO7.out.below (Nat.le_refl _)).trans (HO8.out.below (Nat.le_refl _))), hk⟩
  have h8 := H8.out
  show Bk w8 F 119 (fmA (opS o (S ++ [Sd.ho []])) a6 (S ++ [Sd.ho []]).length c6)
  rw [show (S ++ [Sd.ho []]).length = m + 1 by rw [List.length_append, HM.out]; rfl]
  have e : fmA (opS o (S ++ [Sd.ho []])) a6 (m + 1) c6 = fmA ⟨3, o.1, (q : Int) + 1, o, S⟩ a6 (m + 1) c6 := by
   unfold fmA opS
   rw [holS_app, show holS [Sd.ho []] = 1 from rfl, ← HQ.out]
   simp
  rw [e]; exact h8
theorem zIe : RT 157 3 := ⟨⟨_, Tryz.underlying157, rfl⟩, by kernel_rfl⟩
theorem zOv : (Tryz.prog.info? 9).map (·.size) = some 1 := by kernel_rfl
def SQ (l : Bool) (P : List Nm) (k : Nat) : List Sd := hoL l ++ mid (P.take k)
theorem zSn (l : Bool) (P : List Nm) (k : Nat) : (SQ l P k).length ≤ 1 + 2 * k := by
 unfold SQ
 rw [List.length_append]
 have := zRe l
 have := zRy (P.take k)
 rw [List.length_take] at this
 omega
theorem zTq (l : Bool) {P : List Nm} {k : Nat} (h : k < P.length) : SQ l P (k + 1) = (SQ l P k ++ hoL (decide (0 < k))) ++ [.pt (pt P k)] := by
 unfold SQ
 rw [zOc h, mid_snoc, List.length_take, Nat.min_eq_left (by omega), List.append_assoc, List.append_assoc]
def okO (o : OP) : Bool := (ofR o.1).2 == 0
def shR (o : OP) : List Sd := shS (ofR o.1).1
set_option maxRecDepth 100000 in
set_option maxHeartbeats 16000000 in
theorem operator_any' (o : OP) (w : World) (ht : Tab w) (hp : o.1.length ≤ 1000000) :
  Calls Tryz.prog 61 #[.agg #[.string (mk o.1), .int .i64 o.2.1, .int .i64 o.2.2]] w fun e w' => ∃ F a c vs, e = .returned (.tuple #[.agg (fmA (opS o (shR o)) a (shR o).length c), .bool (okO o)]) ∧ OpW w' F o (shR o) a c vs ∧ w.heap.size ≤ F ∧ Below w.heap.size w w' := by
 obtain ⟨p, g, s⟩ := o
 dsimp only at hp ⊢
 obtain ⟨o, ho⟩ : ∃ o : OP, o = (p, g, s) := ⟨_, rfl⟩
 have HOE : Hid (o = (p, g, s)) := hid ho
 rw [← ho]
 obtain ⟨B, hB⟩ : ∃ B, B = w.heap.size := ⟨_, rfl⟩
 obtain ⟨w1, hw1⟩ : ∃ w1, w1 = w.alloc (.cells #[.string (mk p), .int .i64 g, .int .i64 s] 38) := ⟨_, rfl⟩
 obtain ⟨w2, hw2⟩ : ∃ w2, w2 = w1.alloc (.cells fmZ 119) := ⟨_, rfl⟩
 have s1 : w1.heap.size = B + 1 := by rw [hw1, hB]; simp
 have HO2 : Hid (Bk w2 B 38 #[.string (mk p), .int .i64 g, .int .i64 s]) := hid (by rw [hw2, hw1, hB]; exact (Bk.new w _ _).alloc _)
 have HR2 : Hid (Bk w2 (B + 1) 119 fmZ) := hid (by rw [hw2, ← s1]; exact Bk.new w1 _ fmZ)
 have HB2 : Hid (Below w.heap.size w w2) := hid (by rw [hw2, hw1]; exact (zAA w _).alloc (by simp) _)
 have HBB := hid hB
 have x0 : w2.cell? ⟨B, 0, none⟩ = some (.string (mk p)) := HO2.out.cell 0
 have HT2 := hid (ht.keep HB2.out)
 have HP := hid hp
 have hz : fmZ = #[.int .i64 0, .string ⟨#[]⟩, .int .i64 0, .int .i64 0, .int .i64 0, .string ⟨#[]⟩, .int .i64 0, .int .i64 0, .slice none 0 0] := rfl
 rw [hz] at hw2
 clear ht hp ho hz
 go_enter Tryz.func61, Tryz.ntmps61
 go_upto_region 1 with fail
 rw [← hw1]
 try rw [← hw2]
 rw [← hB]
 try rw [s1]
 clear hw1 hw2 s1 hB
 go_wp2_with fail
 refine (zFP p w2 HT2.out HP.out).mono ?_
 obtain ⟨⟨⟨P, l, r⟩, er⟩, hV⟩ : ∃ V, V = ofR p := ⟨_, rfl⟩
 rw [← hV]
 have HV := hid hV
 simp only [shV]
 rintro e w3 ⟨sa, sn, sc, rfl, hps, hb3⟩
 dsimp only at hps ⊢
 have HPS := hid hps
 have HPL : Hid (P.length = sn) := hid (Ss.len hps)
 have hsn4 : sn ≤ 4 := by
  rw [← HPL.out]
  have h1 := HV.out
  unfold ofR at h1
  cases hs : ofS p with
  | none => rw [hs] at h1; cases h1; exact Nat.zero_le _
  | some sh => rw [hs] at h1; cases h1; obtain ⟨_, _, hm, _⟩ := zCh hs; refine Nat.le_of_not_lt fun hc => ?_; rw [zFN hc] at hm; cases hm
 have HB3 : Hid (Below w.heap.size w w3) := hid (HB2.out.trans (hb3.mono HB2.out.size))
 have HO3 := hid (HO2.out.below hb3)
 have HR3 := hid (HR2.out.below hb3)
 obtain ⟨H, hH⟩ : ∃ H, H = w3.heap.size := ⟨_, rfl⟩
 have HHH := hid hH
 have HRH : Hid (B + 1 < H) := hid (by rw [hH]; exact HR3.out.lt)
 clear hV hps hb3 x0 hH
 go_upto_region 2 with (refine zAn zIe rfl (.tmp 4) (.tmp 14) rfl H (by rw [HHH.out]; rfl) #[.slice sa sn sc, .bool l, .bool r] rfl rfl (by kernel_rfl) #[.slice none 0 0, .bool false, .bool false] rfl (by rw [HHH.out]; exact Bk.new w3 _ _) ?_; rw [← HHH.out]; intro w4 h4 ho4; have HH4 := hid h4; have HB34 : Hid (Below w3.heap.size w3 w4) := hid ((zAA w3 _).trans (ho4.below (by rw [HHH.out]; exact Nat.le_refl _))); clear h4 ho4)
 have HO4 := hid (HO3.out.below HB34.out)
 have HR4 := hid (HR3.out.below HB34.out)
 have HP4 := hid (HPS.out.below HB34.out)
 have HB4 : Hid (Below w.heap.size w w4) := hid (HB3.out.trans (HB34.out.mono HB3.out.size))
 have x0 : w4.cell? ⟨B, 0, none⟩ = some (.string (mk p)) := HO4.out.cell 0
 obtain ⟨F, hF⟩ : ∃ F, F = w4.heap.size := ⟨_, rfl⟩
 have HFF := hid hF
 have HHF : Hid (H < F) := hid (by rw [hF]; exact HH4.out.lt)
 clear hF HPS HB3 HO3 HR3 HB34 HO2 HR2 HT2 HB2 HHH
 go_upto_region 3 with (first
  | (refine zA2 zBd rfl (.tmp 1) rfl B rfl #[.string (mk p), .int .i64 g, .int .i64 s] rfl HO4.out ?_)
  | (refine zAn zQi rfl (.tmp 6) (.tmp 20) rfl F (by rw [HFF.out]; rfl) (fmA (opS (p, g, s) []) none 0 0) rfl rfl (zQq ..) fmZ rfl (by rw [HFF.out]; exact Bk.new w4 _ fmZ) ?_; rw [← HFF.out]; intro w5 h5 ho5; have H5 := hid h5; have HB45 : Hid (Below w4.heap.size w4 w5) := hid ((zAA w4 _).trans (ho5.below (by rw [HFF.out]; exact Nat.le_refl _))); clear h5 ho5))
 have HW5 : Hid (OpW w5 F o [] none 0 []) := hid ⟨by rw [HOE.out]; exact H5.out, OwnV.none0, rfl, fun j hj => by cases hj⟩
 have HH5 := hid (HH4.out.below HB45.out)
 have y1 : w5.cell? ⟨H, 1, none⟩ = some (.bool l) := HH5.out.cell 1
 clear x0 HO4 H5
 go_wp2_with fail
 refine (zRC l F o [] none 0 [] w5 HW5.out (Nat.zero_le _)).mono ?_
 rintro e w6 ⟨rfl, ⟨a6, c6, v6, hw6⟩, hb6, hk6⟩
 rw [List.nil_append] at hw6
 have HW6 : Hid (OpW w6 F o (SQ l P 0) a6 c6 v6) := hid (by unfold SQ; rw [List.take_zero]; simp only [mid, List.append_nil]; exact hw6)
 have HB46 : Hid (Below w4.heap.size w4 w6) := hid (HB45.out.trans (by rw [← HFF.out]; exact hb6))
 have HH6 := hid (HH4.out.below HB46.out)
 have y0 : w6.cell? ⟨H, 0, none⟩ = some (.slice sa sn sc) := HH6.out.cell 0
 clear hw6 hb6 hk6 y1 HB45 HH5 HW5
 go_wp2
 go_loopw [29] (fun v wr => ∃ k : Nat, ∃ a c vs, v = .int .i64 (k : Int) ∧ k ≤ sn ∧ Hid (OpW wr F o (SQ l P k) a c vs) ∧ Hid (Below w4.heap.size w4 wr)) (fun v _ => sn - (intOf v).toNat)
 case atStart => exact ⟨0, a6, c6, v6, rfl, Nat.zero_le _, HW6, HB46⟩
 case round =>
  obtain ⟨k, a, c, vs, rfl, hk, HW, HB⟩ := hrel
  by_cases hlt : k < sn
  ·have hltI : (k : Int) < (sn : Int) := by omega
   have hk0 : (0 : Int) ≤ (k : Int) := Int.natCast_nonneg _
   have hps : Ss wr sa sn sc P := HP4.out.below HB.out
   obtain ⟨pb, po, rfl, _, hc⟩ := hps.at_ (by omega)
   clear hc
   have c0 := Ss.str hps hlt
   obtain ⟨x, hx⟩ : ∃ x, x = pt P k := ⟨_, rfl⟩
   have HXE := hid hx
   rw [← hx] at c0
   obtain ⟨N, hN⟩ : ∃ N, N = wr.heap.size := ⟨_, rfl⟩
   have HNN := hid hN
   obtain ⟨th, hth⟩ : ∃ th, decide (0 < k) = th := ⟨_, rfl⟩
   have HTH := hid hth
   have hl6 : (SQ l P k).length ≤ 1000000 := by have := zSn l P k; omega
   have HL6 := hid hl6
   clear hps hx hN
   go_wp2_with (refine zMj rfl 9 (.tmp 9) (.tmp 33) rfl N (by rw [HNN.out]; rfl) (.string (mk x)) rfl zOv rfl rfl 9 (.string ⟨#[]⟩) (by rw [HNN.out]; exact C1.new wr _ _) ?_; rw [← HNN.out]; intro w7 h7 ho7; have HN7 := hid h7; have HB7 : Hid (Below wr.heap.size wr w7) := hid ((zAA wr _).trans (ho7.below (by rw [HNN.out]; exact Nat.le_refl _))); clear h7 ho7 c0)
   refine (zRC th F o (SQ l P k) a c vs w7 (HW.out.below HB7.out) HL6.out).mono ?_
   rintro e w8 ⟨rfl, ⟨a8, c8, v8, hw8⟩, hb8, hk8⟩
   obtain ⟨S, hS⟩ : ∃ S, S = SQ l P k ++ hoL th := ⟨_, rfl⟩
   have HSE := hid hS
   rw [← hS] at hw8
   obtain ⟨m, hm⟩ : ∃ m, m = S.length := ⟨_, rfl⟩
   have HM := hid hm
   have hm6 : m ≤ 1000000 := by rw [hm, hS, List.length_append]; have := zRe th; have := zSn l P k; omega
   have HW8 := hid hw8
   have HN8 : Hid (C1 w8 N 9 (.string (mk x))) := hid (HN7.out.kt (P := tF) (by unfold tF; decide) hk8)
   have HB48 : Hid (Below w4.heap.size w4 w8) := hid ((HB.out.trans (HB7.out.mono HB.out.size)).trans (by rw [← HFF.out]; exact hb8))
   have HF8 : Hid (F < w8.heap.size) := hid hw8.bf.lt
   have f8 : w8.cell? ⟨F, 8, none⟩ = some (.slice a8 m c8) := by rw [hm]; exact hw8.bf.cell 8
   have HOWN : Hid (OwnV F 125 2 w8 a8 m c8 (cV v8)) := hid (by rw [hm]; exact hw8.own)
   have HBF : Hid (Bk w8 F 119 (fmA (opS o S) a8 m c8)) := hid (by rw [hm]; exact hw8.bf)
   clear hw8 hb8 hk8 hS hm HW HN7 HB7 hl6 HNN hth
   go_wp2_with (first
    | (at_builtin; refine zAL rfl (.tmp 39) (.tmp 42) 117 rfl 125 F 2 32 _ Tryz.underlying117 zRB rfl (by omega) _ _ _ (cV v8) rfl (HOWN.out.alloc _) _ _ _ (cV [(.func (.func 111) #[] #[.pointer (some ⟨N, 0, none⟩)], .slice none 0 0)]) rfl (Vs.lit (k := 2) (xs := cV [(.func (.func 111) #[] #[.pointer (some ⟨N, 0, none⟩)], .slice none 0 0)]) _ _ rfl rfl rfl) (by intro u hu; simp [cV] at hu; rcases hu with rfl | rfl <;> rfl) (by unfold maxLen; omega) (by omega) (by have := HF8.out; simp; omega) ?_; intro a9 c9 w9 hO9 hG9 hb9 _; have HO9 := hid hO9; have HB9 : Hid (Below F w8 w9) := hid (((Below.refl F w8).alloc (by have := HF8.out; omega) _).trans hb9); have HK9 : Hid (Kt tF w8 w9) := hid ((Kt.below (zAA w8 _)).trans (Kt.grown (HOWN.out.alloc _) (.inl rfl) hG9)); have HF9 : Hid (Bk w9 F 119 (fmA (opS o S) a8 m c8)) := hid (zRT HBF.out (HOWN.out.alloc _) hG9); clear hO9 hG9 hb9 f8)
    | (refine zSB rfl (.tmp 44) (.tmp 43) rfl F rfl a9 (m + 1) c9 rfl (opS o S) a8 m c8 HF9.out ?_; intro w10 h10 ho10; have H10 := hid h10; have HO10 := hid ho10; clear h10 ho10))
   have hk : Kt tF w8 w10 := HK9.out.trans (Kt.only HF9.out (.inr rfl) HO10.out)
   have hown : OwnV F 125 2 w10 a9 (S.length + 1) c9 (cV v8 ++ cV [(.func (.func 111) #[] #[.pointer (some ⟨N, 0, none⟩)], .slice none 0 0)]) := by
    rw [← HM.out]
    exact HO9.out.only_f HF9.out HO10.out
   have hsn := zRU (s := .pt x) HW8.out.hl HW8.out.st ⟨N, rfl, HN8.out, rfl⟩ hk hown
   have e1 : S ++ [.pt x] = SQ l P (k + 1) := by rw [zTq l (by rw [HPL.out]; exact hlt), HSE.out, HTH.out, HXE.out]
   rw [e1] at hsn
   have HW10 : Hid (OpW w10 F o (SQ l P (k + 1)) a9 c9 (v8 ++ [(.func (.func 111) #[] #[.pointer (some ⟨N, 0, none⟩)], .slice none 0 0)])) := hid ⟨by
    have h := H10.out
    rw [← e1, show (S ++ [Sd.pt x]).length = m + 1 by rw [List.length_append, HM.out]; rfl]
    have e2 : fmA (opS o (S ++ [.pt x])) a9 (m + 1) c9 = fmA (opS o S) a9 (m + 1) c9 := by
     unfold fmA opS
     rw [holS_app, show holS [Sd.pt x] = 0 from rfl, Nat.add_zero]
    rw [e2]; exact h, hsn.1, hsn.2.1, hsn.2.2⟩
   have HB410 : Hid (Below w4.heap.size w4 w10) := hid (HB48.out.trans (by rw [← HFF.out]; exact HB9.out.trans (HO10.out.below (Nat.le_refl _))))
   clear hk hown hsn e1
   go_roundw
   case rel => exact ⟨k + 1, a9, c9, _, by go_num, by omega, HW10, HB410⟩
   case measure => simp [intOf]; omega
  ·obtain rfl : k = sn := by omega
   have HHr := hid (HH4.out.below HB.out)
   have HRr := hid (HR4.out.below HB.out)
   have y2 : wr.cell? ⟨H, 2, none⟩ = some (.bool r) := HHr.out.cell 2
   have HL6 : Hid ((SQ l P k).length ≤ 1000000) := hid (by have := zSn l P k; omega)
   go_wp2_with fail
   refine (zRC r F o (SQ l P k) a c vs wr HW.out HL6.out).mono ?_
   rintro e w8 ⟨rfl, ⟨a8, c8, v8, hw8⟩, hb8, hk8⟩
   have e1 : SQ l P k ++ hoL r = shR o := by
    unfold shR SQ shS
    rw [HOE.out]
    dsimp only
    rw [← HV.out]
    dsimp only
    rw [List.take_of_length_le (by rw [HPL.out]; exact Nat.le_refl _)]
   rw [e1] at hw8
   have HW8 := hid hw8
   have HB48 : Hid (Below w4.heap.size w4 w8) := hid (HB.out.trans (by rw [← HFF.out]; exact hb8))
   have HR8 := hid (HR4.out.below HB48.out)
   have HOK : Hid (okO o = (er == 0)) := hid (by unfold okO; rw [HOE.out]; dsimp only; rw [← HV.out])
   obtain ⟨ok, hok⟩ : ∃ ok, (er == 0) = ok := ⟨_, rfl⟩
   have HOB := hid hok
   obtain ⟨M, hM⟩ : ∃ M, M = (shR o).length := ⟨_, rfl⟩
   have HMM := hid hM
   clear hw8 hb8 hk8 e1 y2 hM
   go_wp2_with (first
    | (refine zA2 zQi rfl (.tmp 6) rfl F rfl (fmA (opS o (shR o)) a8 (shR o).length c8) rfl HW8.out.bf ?_)
    | (refine zAn zQi rfl (.tmp 2) (.tmp 50) rfl (B + 1) rfl (fmA (opS o (shR o)) a8 (shR o).length c8) rfl rfl (zQq ..) fmZ rfl HR8.out ?_; intro w9 h9 ho9; have H9 := hid h9; have HO9 := hid ho9; clear h9 ho9))
   have hne : F ≠ B + 1 := by have := HRH.out; have := HHF.out; omega
   refine bodyPost_ret (zTl zQi rfl _ _ (B + 1) (fmA (opS o (shR o)) a8 (shR o).length c8) rfl rfl H9.out) rfl ⟨F, a8, c8, v8, ?_, ⟨HW8.out.bf.only HO9.out hne, HW8.out.own.only_f HR8.out HO9.out, HW8.out.hl, fun j hj => (HW8.out.st j hj).kt zUC (Kt.only HR8.out (.inr rfl) HO9.out)⟩, by rw [HFF.out]; exact HB4.out.size, (HB4.out.trans (HB48.out.mono HB4.out.size)).trans (HO9.out.below (by have := HBB.out; omega))⟩
   rw [HOK.out, HOB.out]
   rfl
end
section
open Go.RowKit
set_option maxRecDepth 20000 in
set_option maxHeartbeats 4000000 in
theorem zSJ (a : Option Addr) (len cap : Nat) (L : List TK) (N : Nat) (x : Nm) (w : World) (h : Ts w a len cap L) (hN : C1 w N 9 (.string (mk x))) :
  Calls Tryz.prog 147 #[.slice a len cap, .func (.func 111) #[] #[.pointer (some ⟨N, 0, none⟩)]] w fun e w' => ∃ v : Int, e = .returned (.int .i64 v) ∧ (decide (v ≥ 0) = L.any fun y => (Sd.pt x).ok y) ∧ Below w.heap.size w w' := by
 have hcm := h.cm
 have hlc := h.lc
 unfold maxLen at hcm
 have H := hid h
 have HL := hid h.hl
 have HN := hid hN
 clear h hN
 go_enter Tryz.func147, Tryz.ntmps147
 go_wp2
 go_loopw [8] (fun i wr => ∃ k : Nat, i = .int .i64 k ∧ k ≤ len ∧ Hid (∀ j, j < k → (Sd.pt x).ok (tat L j) = false) ∧ Hid (Below w.heap.size w wr)) (fun i _ => len - (intOf i).toNat)
 case atStart => exact ⟨0, rfl, by omega, hid (fun j hj => by omega), hid (Below.refl _ _)⟩
 case round =>
  obtain ⟨k, rfl, hk, HM, HB⟩ := hrel
  by_cases hlt : k < len
  ·have hb := H.out.below HB.out
   obtain ⟨b, off, rfl, c0, c1, c2, c3, c4⟩ := zIa hb hlt
   obtain ⟨T, hT⟩ : ∃ T, T = tat L k := ⟨_, rfl⟩
   rw [← hT] at c0 c1 c2 c3 c4
   have HTU := hid hT
   have KT := hid (zRR T N x wr (HN.out.below HB.out))
   obtain ⟨q, hq⟩ : ∃ q, q = (Sd.pt x).ok T := ⟨_, rfl⟩
   rw [← hq] at KT
   have HQ := hid hq
   clear hb hT hq
   go_wp2_with fail
   refine KT.out.mono ?_
   rintro e w1 ⟨rfl, hb1⟩
   have HW1 : Hid (Below w.heap.size w w1) := hid (HB.out.trans (hb1.mono HB.out.size))
   clear hb1 c0 c1 c2 c3 c4
   cases q with
   | true =>
    go_wp2
    go_ret
    refine ⟨(k : Int), rfl, ?_, HW1.out⟩
    rw [show decide ((k : Int) ≥ 0) = true by simp]
    exact (List.any_eq_true.2 ⟨tat L k, zSM (by rw [HL.out]; exact hlt), by rw [← HTU.out]; exact HQ.out.symm⟩).symm
   | false =>
    go_wp2
    go_roundw
    case rel => exact ⟨k + 1, by go_num, by omega, hid (fun j hj => by
     by_cases hjk : j < k
     ·exact HM.out j hjk
     ·obtain rfl : j = k := by omega
      rw [← HTU.out]; exact HQ.out.symm), HW1⟩
    case measure => simp [intOf]; omega
  ·obtain rfl : k = len := by omega
   go_wp2
   go_ret
   refine ⟨-1, rfl, ?_, HB.out⟩
   rw [show decide ((-1 : Int) ≥ 0) = false by decide]
   refine (Bool.eq_false_iff.2 fun hc => ?_).symm
   obtain ⟨y, hy, h1⟩ := List.any_eq_true.1 hc
   obtain ⟨j, hj, rfl⟩ := List.mem_iff_getElem.1 hy
   have := HM.out j (by rw [← HL.out]; exact hj)
   unfold tat at this
   rw [List.getD_eq_getElem?_getD, List.getElem?_eq_getElem hj] at this
   rw [show (some L[j]).getD ⟨0, 0, 0, ⟨#[]⟩, 0⟩ = L[j] from rfl] at this
   rw [this] at h1
   cases h1
set_option maxRecDepth 20000 in
theorem zRf (a : Option Addr) (len cap : Nat) (L : List TK) (N : Nat) (x : Nm) (w : World) (h : Ts w a len cap L) (hN : C1 w N 9 (.string (mk x))) :
  Calls Tryz.prog 113 #[.slice a len cap, .func (.func 111) #[] #[.pointer (some ⟨N, 0, none⟩)]] w fun e w' => e = .returned (.bool (L.any fun y => (Sd.pt x).ok y)) ∧ Below w.heap.size w w' := by
 have K := hid (zSJ a len cap L N x w h hN)
 obtain ⟨q, hq⟩ : ∃ q, q = L.any fun y => (Sd.pt x).ok y := ⟨_, rfl⟩
 rw [← hq] at K ⊢
 clear h hN hq
 go_enter Tryz.func113, Tryz.ntmps113
 go_wp2_with fail
 refine K.out.mono ?_
 rintro e w1 ⟨v, rfl, hv, hb⟩
 have HB := hid hb
 clear hb
 go_wp2
 go_ret
 exact ⟨rfl, HB.out⟩
def thS (tok : List TK) : Sd → Bool
 | .ho _ => true
 | s => tok.any fun y => s.ok y
set_option maxRecDepth 100000 in
set_option maxHeartbeats 8000000 in
theorem zSo (f : FD) (a : Option Addr) (c : Nat) (vs : List VV) (ta : Option Addr) (tn tc : Nat) (tok : List TK) (w : World) (h : StO w a c f.S vs) (ht : Ts w ta tn tc tok) (hn : f.S.length ≤ 1000000) (hnb : ∀ j, j < f.S.length → ∀ x, sA f.S j ≠ .br x) :
  Calls Tryz.prog 62 #[.agg (fmA f a f.S.length c), .slice ta tn tc] w fun e w' => e = .returned (.bool (f.S.all (thS tok))) ∧ Below w.heap.size w w' := by
 obtain ⟨S, hS⟩ : ∃ S, S = f.S := ⟨_, rfl⟩
 rw [← hS] at h hn hnb ⊢
 obtain ⟨m, hm⟩ : ∃ m, m = S.length := ⟨_, rfl⟩
 have HM := hid hm
 rw [← hm] at hn ⊢
 obtain ⟨X, hX⟩ : ∃ X, X = fmA f a m c := ⟨_, rfl⟩
 rw [← hX]
 obtain ⟨B, hB⟩ : ∃ B, B = w.heap.size := ⟨_, rfl⟩
 obtain ⟨w1, hw1⟩ : ∃ w1, w1 = w.alloc (.cells X 119) := ⟨_, rfl⟩
 have HF : Hid (Bk w1 B 119 (fmA f a m c)) := hid (by rw [hw1, hB, ← hX]; exact Bk.new w _ X)
 have HB1 : Hid (Below w.heap.size w w1) := hid (by rw [hw1]; exact zAA w _)
 have HT1 : Hid (Ts w1 ta tn tc tok) := hid (ht.below HB1.out)
 have HS1 : Hid (StO w1 a c S vs) := hid (h.below HB1.out)
 have x8 : w1.cell? ⟨B, 8, none⟩ = some (.slice a m c) := HF.out.cell 8
 have HNB := hid hnb
 clear h ht hnb hm hX hS
 go_enter Tryz.func62, Tryz.ntmps62
 go_upto_region 1 with fail
 rw [← hw1, ← hB]
 clear hw1 hB
 go_wp2
 clear x8
 go_loopw [10] (fun v wr => ∃ k : Nat, v = .int .i64 (k : Int) ∧ k ≤ m ∧ Hid (∀ j, j < k → thS tok (sA S j) = true) ∧ Hid (Below w1.heap.size w1 wr)) (fun v _ => m - (intOf v).toNat)
 case atStart => exact ⟨0, rfl, Nat.zero_le _, hid (fun j hj => by omega), hid (Below.refl _ _)⟩
 case round =>
  obtain ⟨k, rfl, hk, HA, HB⟩ := hrel
  by_cases hlt : k < m
  ·have hltI : (k : Int) < (m : Int) := by omega
   have hk0 : (0 : Int) ≤ (k : Int) := Int.natCast_nonneg _
   have hso := HS1.out.below HB.out
   have hkS : k < S.length := by rw [← HM.out]; exact hlt
   obtain ⟨sb, so, rfl, _, hst⟩ := hso.sts.at_ (by omega)
   obtain ⟨fv, kv, k0, k1, hsd⟩ := hst k hkS
   have HSA : Hid (sA S k ∈ S) := hid (by rw [zRd hkS]; exact List.getElem_mem _)
   obtain ⟨sd, hsd'⟩ : ∃ sd, sd = S[k] := ⟨_, rfl⟩
   rw [← hsd'] at hsd
   have HSD : Hid (sA S k = sd) := hid (by rw [hsd', zRd hkS])
   have hnb := HNB.out k (by first | exact hlt | exact hkS)
   rw [HSD.out] at hnb
   obtain ⟨D, hD⟩ : ∃ D, D = wr.heap.size := ⟨_, rfl⟩
   have HDD := hid hD
   clear hst hso hkS hsd' hD
   cases sd with
   | br x => exact absurd rfl (hnb x)
   | ho K =>
    obtain ⟨rfl, ka, kc, rfl, _⟩ := hsd
    have hnf : ∀ w' : World, (binOp .neq 63 .nilFunc .nilFunc).run Tryz.prog w' = .ok (.bool false) w' := fun w' => by kernel_rfl
    go_wp2_with (refine zAn zQw rfl (.tmp 6) (.tmp 13) rfl D (by rw [HDD.out]; rfl) #[.nilFunc, .slice ka K.length kc] rfl rfl (by kernel_rfl) sdZ rfl (by rw [HDD.out]; exact Bk.new wr _ sdZ) ?_; rw [← HDD.out]; intro w4 h4 ho4; have HB4 : Hid (Below wr.heap.size wr w4) := hid ((zAA wr _).trans (ho4.below (by rw [HDD.out]; exact Nat.le_refl _))); have d0 : w4.cell? ⟨D, 0, none⟩ = some .nilFunc := h4.cell 0; clear h4 ho4)
    go_roundw
    case rel => exact ⟨k + 1, by go_num, by omega, hid (fun j hj => by
     by_cases hjk : j < k
     ·exact HA.out j hjk
     ·obtain rfl : j = k := by omega
      rw [HSD.out]; rfl), hid (HB.out.trans (HB4.out.mono HB.out.size))⟩
    case measure => simp [intOf]; omega
   | pt x =>
    obtain ⟨N, rfl, hN, qa, qn, qc, rfl⟩ := hsd
    have HN := hid hN
    have hnf : ∀ w' : World, (binOp .neq 63 (.func (.func 111) #[] #[.pointer (some ⟨N, 0, none⟩)]) .nilFunc).run Tryz.prog w' = .ok (.bool true) w' := fun w' => by kernel_rfl
    obtain ⟨q, hq⟩ : ∃ q, q = tok.any fun y => (Sd.pt x).ok y := ⟨_, rfl⟩
    have HQ : Hid (thS tok (sA S k) = q) := hid (by rw [HSD.out, hq]; rfl)
    have KC : Hid (∀ w', Below wr.heap.size wr w' → Calls Tryz.prog 113 #[.slice ta tn tc, .func (.func 111) #[] #[.pointer (some ⟨N, 0, none⟩)]] w' fun e w'' => e = .returned (.bool q) ∧ Below w'.heap.size w' w'') := hid fun w' hb' => by
     rw [hq]
     exact zRf ta tn tc tok N x w' ((HT1.out.below HB.out).below hb') (HN.out.below hb')
    clear hN hq
    go_wp2_with (refine zAn zQw rfl (.tmp 6) (.tmp 13) rfl D (by rw [HDD.out]; rfl) #[.func (.func 111) #[] #[.pointer (some ⟨N, 0, none⟩)], .slice qa qn qc] rfl rfl (by kernel_rfl) sdZ rfl (by rw [HDD.out]; exact Bk.new wr _ sdZ) ?_; rw [← HDD.out]; intro w4 h4 ho4; have HB4 : Hid (Below wr.heap.size wr w4) := hid ((zAA wr _).trans (ho4.below (by rw [HDD.out]; exact Nat.le_refl _))); have d0 : w4.cell? ⟨D, 0, none⟩ = some (.func (.func 111) #[] #[.pointer (some ⟨N, 0, none⟩)]) := h4.cell 0; clear h4 ho4)
    refine (KC.out w4 HB4.out).mono ?_
    rintro e w5 ⟨rfl, hb5⟩
    have HB5 : Hid (Below w1.heap.size w1 w5) := hid ((HB.out.trans (HB4.out.mono HB.out.size)).trans (hb5.mono (HB.out.trans (HB4.out.mono HB.out.size)).size))
    clear hb5 d0 k0 k1 hnf
    cases q with
    | false =>
     go_wp2
     go_ret
     refine ⟨?_, HB1.out.trans (HB5.out.mono HB1.out.size)⟩
     have hall : S.all (thS tok) = false := Bool.eq_false_iff.2 fun hc => by
      have h1 := List.all_eq_true.1 hc (sA S k) HSA.out
      rw [HQ.out] at h1
      cases h1
     rw [hall]; rfl
    | true =>
     go_wp2
     go_roundw
     case rel => exact ⟨k + 1, by go_num, by omega, hid (fun j hj => by
      by_cases hjk : j < k
      ·exact HA.out j hjk
      ·obtain rfl : j = k := by omega
       exact HQ.out), HB5⟩
     case measure => simp [intOf]; omega
  ·obtain rfl : k = m := by omega
   go_wp2
   go_ret
   refine ⟨?_, HB1.out.trans (HB.out.mono HB1.out.size)⟩
   have hall : S.all (thS tok) = true := List.all_eq_true.2 fun s hs => by
    obtain ⟨j, hj, rfl⟩ := List.mem_iff_getElem.1 hs
    have := HA.out j (by rw [HM.out]; exact hj)
    rwa [zRd hj] at this
   rw [hall]; rfl
end
end Go.Proofs.YtcjbhdgjcpnklaaGreatDoor
