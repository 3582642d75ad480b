import Derived.Test.YtcjbhdgjcpnklaaGreatDoorR20
namespace Go.Proofs.YtcjbhdgjcpnklaaGreatDoor
open Go.RowKit
def hoV (b : Bool) (K : List Nat) : List Sd := if b = true then [.ho K] else []
def midV (n : Nat) : List Nm → List Sd
 | [] => []
 | [p] => [.pt p]
 | p :: q :: P => .pt p :: .ho (allV n) :: midV n (q :: P)
theorem midV_snoc (n : Nat) : ∀ (P : List Nm) (x : Nm), midV n (P ++ [x]) = midV n P ++ (hoV (decide (0 < P.length)) (allV n) ++ [.pt x])
 | [], x => rfl
 | [p], x => rfl
 | p :: q :: P, x => by
  show .pt p :: .ho (allV n) :: midV n (q :: P ++ [x]) = .pt p :: .ho (allV n) :: (midV n (q :: P) ++ _)
  rw [midV_snoc n (q :: P) x]
  simp [hoV]
theorem zE5 (z : List Int) (O : List OP) (o : OP) (R : List Nm) : ∀ (P : List Nm), P ≠ [] → (∀ p ∈ P, p ≠ []) → ∀ first, stepsV z O o (sepL P ++ R) first = midV O.length P ++ stepsV z O o R false
 | [], h0, _, _ => absurd rfl h0
 | [p], _, h, first => by
  show stepsV z O o (p :: R) first = .pt p :: stepsV z O o R false
  rw [stepsV, if_neg (h p (List.mem_cons_self ..))]
 | p :: q :: P, _, h, first => by
  show stepsV z O o (p :: [] :: (sepL (q :: P) ++ R)) first = .pt p :: .ho (allV O.length) :: (midV O.length (q :: P) ++ _)
  have ih := zE5 z O o R (q :: P) (by simp) (fun x hx => h x (List.mem_cons_of_mem _ hx)) false
  rw [stepsV, if_neg (h p (List.mem_cons_self ..)), stepsV, if_pos rfl, ih]
  have he : (sepL (q :: P) ++ R).isEmpty = false := by
   cases P <;> rfl
  rw [he]
  rfl
theorem zGp (z : List Int) (O : List OP) (o : OP) {s : SH} (h0 : s.P ≠ []) (h : ∀ p ∈ s.P, p ≠ []) : stepsV z O o (itemsL s) true = hoV s.l (endsV z O o false) ++ midV O.length s.P ++ hoV s.r (endsV z O o true) := by
 have hr : stepsV z O o (if s.r = true then [[]] else []) false = hoV s.r (endsV z O o true) := by
  cases s.r <;> rfl
 have hm : ∀ first, stepsV z O o (sepL s.P ++ (if s.r = true then [[]] else [])) first = midV O.length s.P ++ hoV s.r (endsV z O o true) := fun first => by
  rw [zE5 z O o _ s.P h0 h first, hr]
 unfold itemsL
 cases hl : s.l with
 | false => exact hm true
 | true =>
  show stepsV z O o ([] :: (sepL s.P ++ _)) true = _
  rw [stepsV, if_pos rfl]
  rw [hm false]
  rfl
def SV (z : List Int) (O : List OP) (o : OP) (l : Bool) (P : List Nm) (k : Nat) : List Sd := hoV l (endsV z O o false) ++ midV O.length (P.take k)
theorem zIs (n : Nat) : ∀ P : List Nm, (midV n P).length ≤ 2 * P.length
 | [] => Nat.zero_le _
 | [p] => by simp [midV]
 | p :: q :: P => by
  have := zIs n (q :: P)
  show (Sd.pt p :: Sd.ho (allV n) :: midV n (q :: P)).length ≤ _
  simp only [List.length_cons] at this ⊢
  omega
theorem zO9 (b : Bool) (K : List Nat) : (hoV b K).length ≤ 1 := by cases b <;> simp [hoV]
theorem zNz (z : List Int) (O : List OP) (o : OP) (l : Bool) (P : List Nm) (k : Nat) : (SV z O o l P k).length ≤ 1 + 2 * k := by
 unfold SV
 rw [List.length_append]
 have := zO9 l (endsV z O o false)
 have := zIs O.length (P.take k)
 rw [List.length_take] at this
 omega
theorem zFs (z : List Int) (O : List OP) (o : OP) (l : Bool) {P : List Nm} {k : Nat} (h : k < P.length) : SV z O o l P (k + 1) = (SV z O o l P k ++ hoV (decide (0 < k)) (allV O.length)) ++ [.pt (pt P k)] := by
 unfold SV
 rw [zOc h, midV_snoc, List.length_take, Nat.min_eq_left (by omega), List.append_assoc, List.append_assoc]
def tW (t : TypeId) : Prop := t = 136
def SdW (w : World) (p : VV) : Sd → Prop
 | .br x => p.1 = .func (.func 72) #[.string (mk x)] #[] ∧ p.2 = .slice none 0 0
 | .pt x => p.1 = .func (.func 122) #[.string (mk x)] #[] ∧ p.2 = .slice none 0 0
 | .ho K => p.1 = .nilFunc ∧ ∃ a c, p.2 = .slice a K.length c ∧ OwnV 0 3 1 w a K.length c (intsK K)
theorem SdW.kt {w w' : World} {p : VV} {s : Sd} (h : SdW w p s) (hk : Kt tW w w') : SdW w' p s := by
 cases s with
 | br x => exact h
 | pt x => exact h
 | ho K => obtain ⟨h1, a, c, h2, h3⟩ := h; exact ⟨h1, a, c, h2, h3.kt (P := tW) (by unfold tW; decide) hk⟩
theorem SdW.v {w : World} {p : VV} {s : Sd} (h : SdW w p s) : SdV w p s := by
 cases s with
 | br x => exact h
 | pt x => exact h
 | ho K => obtain ⟨h1, a, c, h2, h3⟩ := h; exact ⟨h1, a, c, h2, h3.vs⟩
structure SwO (base : Nat) (w : World) (a : Option Addr) (c : Nat) (S : List Sd) (vs : List VV) : Prop where
 hl : vs.length = S.length
 own : OwnV base 136 2 w a S.length c (cV vs)
 st : ∀ j, j < S.length → SdW w (vA vs j) (sA S j)
theorem SwO.below {base : Nat} {w w' : World} {a : Option Addr} {c : Nat} {S : List Sd} {vs : List VV} (h : SwO base w a c S vs) (hb : Below w.heap.size w w') : SwO base w' a c S vs :=
 ⟨h.hl, h.own.keep hb (Nat.le_refl _), fun j hj => (h.st j hj).kt (Kt.below hb)⟩
theorem SwO.stv {base : Nat} {w : World} {a : Option Addr} {c : Nat} {S : List Sd} {vs : List VV} (h : SwO base w a c S vs) : StV w a S.length c S := ⟨rfl, vs, h.hl, h.own.vs, fun j hj => (h.st j hj).v⟩
theorem SwO.none {base : Nat} {w : World} : SwO base w none 0 [] [] := ⟨rfl, OwnV.none0, fun j hj => by cases hj⟩
theorem SwO.weak {base : Nat} {w : World} {a : Option Addr} {c : Nat} {S : List Sd} {vs : List VV} (h : SwO base w a c S vs) : SwO 0 w a c S vs := ⟨h.hl, h.own.weaken (Nat.zero_le _), h.st⟩
theorem SdW.ktp {P : TypeId → Prop} (hi : ¬ P 3) {w w' : World} {p : VV} {s : Sd} (h : SdW w p s) (hk : Kt P w w') : SdW w' p s := by
 cases s with
 | br x => exact h
 | pt x => exact h
 | ho K => obtain ⟨h1, a, c, h2, h3⟩ := h; exact ⟨h1, a, c, h2, h3.kt hi hk⟩
theorem SwO.ktp {P : TypeId → Prop} (hi : ¬ P 3) (hs : ¬ P 136) {base : Nat} {w w' : World} {a : Option Addr} {c : Nat} {S : List Sd} {vs : List VV} (h : SwO base w a c S vs) (hk : Kt P w w') : SwO base w' a c S vs :=
 ⟨h.hl, h.own.kt hs hk, fun j hj => (h.st j hj).ktp hi hk⟩
theorem SwO.snoc {base : Nat} {w w' : World} {a a' : Option Addr} {c c' n : Nat} {S : List Sd} {vs : List VV} {v : VV} {s : Sd} (h : SwO base w a c S vs) (hs : SdW w v s) (hk : Kt tW w w') (hn : n = S.length) (ho : OwnV base 136 2 w' a' (n + 1) c' (cV vs ++ cV [v])) : SwO base w' a' c' (S ++ [s]) (vs ++ [v]) := by
 have hl := h.hl
 subst hn
 refine ⟨by simp [hl], by rw [zK1, List.length_append]; exact ho, fun j hj => ?_⟩
 rw [List.length_append, List.length_singleton] at hj
 by_cases hlt : j < S.length
 ·have e1 : vA (vs ++ [v]) j = vA vs j := by unfold vA; simp [List.getD, List.getElem?_append_left (show j < vs.length by omega)]
  have e2 : sA (S ++ [s]) j = sA S j := by unfold sA; simp [List.getD, List.getElem?_append_left hlt]
  rw [e1, e2]
  exact (h.st j hlt).kt hk
 ·obtain rfl : j = S.length := by omega
  have e1 : vA (vs ++ [v]) S.length = v := by unfold vA; simp [List.getD, ← hl]
  have e2 : sA (S ++ [s]) S.length = s := by unfold sA; simp [List.getD]
  rw [e1, e2]
  exact hs.kt hk
set_option maxRecDepth 20000 in
set_option maxHeartbeats 8000000 in
theorem zMy (z : List Int) (hz : z.length = 10) (hr : ∀ i, i < 10 → I64 (bt z i)) (a : Option Addr) (n c : Nat) (L : List OP) (O E X : Nat) (ea : Option Addr) (en ec : Nat) (p : Nm) (g s : Int) (rt : Bool) (w : World) (ht : Tab w) (hO : Bk w O 30 #[.slice a n c]) (hL : OpS w a n c L) (hE : EB w E ea en ec z) (hX : D3 w X (p, g, s)) (hn : n ≤ 1000000) (hpl : p.length ≤ 1000000) (hp : ∀ o ∈ L, o.1.length ≤ 1000000) :
  Calls Tryz.prog 73 #[.bool rt, .pointer (some ⟨O, 0, none⟩), .pointer (some ⟨E, 0, none⟩), .pointer (some ⟨X, 0, none⟩)] w fun e w' => ∃ ra rc, e = .returned (.agg #[.nilFunc, .slice ra (endsV z L (p, g, s) rt).length rc]) ∧ OwnV 0 3 1 w' ra (endsV z L (p, g, s) rt).length rc (intsK (endsV z L (p, g, s) rt)) ∧ Below w.heap.size w w' := by
 have hLn := OpS.len hL
 obtain ⟨B, hB⟩ : ∃ B, B = w.heap.size := ⟨_, rfl⟩
 obtain ⟨w1, hw1⟩ : ∃ w1, w1 = w.alloc (.cells #[.bool rt] 4) := ⟨_, rfl⟩
 obtain ⟨w2, hw2⟩ : ∃ w2, w2 = w1.alloc (.cells #[.nilFunc, .slice none 0 0] 136) := ⟨_, rfl⟩
 have s1 : w1.heap.size = B + 1 := by rw [hw1, hB]; simp
 have HR2 : Hid (Bk w2 B 4 #[.bool rt]) := hid (by rw [hw2, hw1, hB]; exact (Bk.new w _ _).alloc _)
 have HV2 : Hid (Bk w2 (B + 1) 136 #[.nilFunc, .slice none 0 0]) := hid (by rw [hw2, ← s1]; exact Bk.new w1 _ _)
 have HB2 : Hid (Below w.heap.size w w2) := hid (by rw [hw2, hw1]; exact (zAA w _).alloc (by simp) _)
 have HBB := hid hB
 have o0 := (hO.below HB2.out).cell 0
 rw [show (#[.slice a n c] : Array Value)[0]? = some (.slice a n c) from rfl] at o0
 have HK := hid (zLV z hz hr E ea en ec X p g s B rt a n c L w2 (ht.keep HB2.out) (hL.below HB2.out) hn hp (hE.below HB2.out) (Bk.below hX HB2.out) HR2.out hpl)
 have HKE : Hid (kdsL (fun k => fitsB z (p, g, s) k rt) L n = endsV z L (p, g, s) rt) := hid (by rw [← hLn]; exact zLT)
 rw [HKE.out] at HK
 obtain ⟨K, hK⟩ : ∃ K, K = endsV z L (p, g, s) rt := ⟨_, rfl⟩
 rw [← hK] at HK ⊢
 clear ht hO hL hE hX hK hz hr hp
 go_enter Tryz.func73, Tryz.ntmps73
 go_upto_region 1 with fail
 rw [← hw1]
 try rw [← hw2]
 rw [← hB]
 try rw [s1]
 clear hw1 hw2 s1 hB
 go_wp2_with fail
 refine HK.out.mono ?_
 rintro e w3 ⟨ra, rc, rfl, ho3, hb3⟩
 have HO3 := hid ho3
 have HB3 := hid hb3
 have HV3 := hid (HV2.out.below hb3)
 obtain ⟨kn, hkn⟩ : ∃ k, k = K.length := ⟨_, rfl⟩
 have HKN := hid hkn
 rw [← hkn] at HO3 ⊢
 clear ho3 hb3 hkn
 go_wp2_with (refine zAn zBW rfl (.tmp 5) (.tmp 9) rfl (B + 1) rfl #[.nilFunc, .slice ra kn rc] rfl rfl (by kernel_rfl) _ rfl HV3.out ?_; intro w4 h4 ho4; have H4 := hid h4; have HO4 := hid ho4; clear h4 ho4)
 refine bodyPost_ret (zNr zBW rfl _ _ (B + 1) _ rfl rfl H4.out) rfl ⟨ra, rc, by rw [← HKN.out], ?_, ?_⟩
 ·rw [← HKN.out]
  exact (HO3.out.kt (P := tW) (by unfold tW; decide) (Kt.only HV3.out rfl HO4.out)).weaken (Nat.zero_le _)
 ·exact (HB2.out.trans (HB3.out.mono HB2.out.size)).trans (HO4.out.below (by rw [HBB.out]; exact Nat.le_succ _))
set_option maxRecDepth 100000 in
set_option maxHeartbeats 16000000 in
theorem zFt (z : List Int) (hz : z.length = 10) (hr : ∀ i, i < 10 → I64 (bt z i)) (a : Option Addr) (n c : Nat) (L : List OP) (O E X : Nat) (ea : Option Addr) (en ec : Nat) (p : Nm) (g s : Int) (sh : SH) (hs : ofS p = some sh) (ha : Option Addr) (hc : Nat) (w : World) (ht : Tab w) (hO : Bk w O 30 #[.slice a n c]) (hL : OpS w a n c L) (hE : EB w E ea en ec z) (hX : D3 w X (p, g, s)) (hH : OwnV 0 3 1 w ha (allV L.length).length hc (intsK (allV L.length))) (hn : n ≤ 1000000) (hpl : p.length ≤ 1000000) (hp : ∀ o ∈ L, o.1.length ≤ 1000000) :
  Calls Tryz.prog 76 #[.agg #[.string (mk p), .int .i64 g, .int .i64 s], .agg #[.nilFunc, .slice ha (allV L.length).length hc], .func (.func 73) #[] #[.pointer (some ⟨O, 0, none⟩), .pointer (some ⟨E, 0, none⟩), .pointer (some ⟨X, 0, none⟩)]] w fun e w' => ∃ ra rc, e = .returned (.slice ra (stepsV z L (p, g, s) (itemsL sh) true).length rc) ∧ (∃ vs, SwO 0 w' ra rc (stepsV z L (p, g, s) (itemsL sh) true) vs) ∧ Below w.heap.size w w' := by
 have HEN : Hid (∀ (rt : Bool) (u : World), Below w.heap.size w u → Calls Tryz.prog 73 #[.bool rt, .pointer (some ⟨O, 0, none⟩), .pointer (some ⟨E, 0, none⟩), .pointer (some ⟨X, 0, none⟩)] u fun e w' => ∃ ra rc, e = .returned (.agg #[.nilFunc, .slice ra (endsV z L (p, g, s) rt).length rc]) ∧ OwnV 0 3 1 w' ra (endsV z L (p, g, s) rt).length rc (intsK (endsV z L (p, g, s) rt)) ∧ Below u.heap.size u w') := hid fun rt u hu =>
  zMy z hz hr a n c L O E X ea en ec p g s rt u (ht.keep hu) (hO.below hu) (hL.below hu) (hE.below hu) (Bk.below hX hu) hn hpl hp
 have HSS : Hid (stepsV z L (p, g, s) (itemsL sh) true = hoV sh.l (endsV z L (p, g, s) false) ++ midV L.length sh.P ++ hoV sh.r (endsV z L (p, g, s) true)) := hid (zGp z L (p, g, s) (zAc hs).1 fun x hx => ((zAc hs).2 x hx).1)
 obtain ⟨SS, hSS⟩ : ∃ S, S = stepsV z L (p, g, s) (itemsL sh) true := ⟨_, rfl⟩
 rw [← hSS] at HSS ⊢
 have HHO := hid hH
 obtain ⟨an, han⟩ : ∃ n, n = (allV L.length).length := ⟨_, rfl⟩
 have HAN := hid han
 rw [← han] at HHO ⊢
 obtain ⟨B, hB⟩ : ∃ B, B = w.heap.size := ⟨_, rfl⟩
 obtain ⟨w1, hw1⟩ : ∃ w1, w1 = w.alloc (.cells #[.string (mk p), .int .i64 g, .int .i64 s] 38) := ⟨_, rfl⟩
 obtain ⟨w2, hw2⟩ : ∃ w2, w2 = w1.alloc (.cells #[.nilFunc, .slice ha an hc] 136) := ⟨_, rfl⟩
 have s1 : w1.heap.size = B + 1 := by rw [hw1, hB]; simp
 have HP2 : Hid (Bk w2 B 38 #[.string (mk p), .int .i64 g, .int .i64 s]) := hid (by rw [hw2, hw1, hB]; exact (Bk.new w _ _).alloc _)
 have HH2 : Hid (Bk w2 (B + 1) 136 #[.nilFunc, .slice ha an hc]) := hid (by rw [hw2, ← s1]; exact Bk.new w1 _ _)
 have HB2 : Hid (Below w.heap.size w w2) := hid (by rw [hw2, hw1]; exact (zAA w _).alloc (by simp) _)
 have x0 := HP2.out.cell 0
 rw [show (#[.string (mk p), .int .i64 g, .int .i64 s] : Array Value)[0]? = some (.string (mk p)) from rfl] at x0
 have HT2 := hid (ht.keep HB2.out)
 have HS := hid hs
 have HPPL := hid hpl
 obtain ⟨_, _, hsm, _⟩ := zCh hs
 have hp4 : sh.P.length ≤ 4 := by
  refine Nat.le_of_not_lt fun hcc => ?_
  rw [zFN hcc] at hsm; cases hsm
 clear ht hO hL hE hX hH hz hr hp hpl hs han hsm hSS
 go_enter Tryz.func76, Tryz.ntmps76
 go_upto_region 1 with fail
 rw [← hw1]
 try rw [← hw2]
 rw [← hB]
 try rw [s1]
 clear hw1 hw2 s1 hB
 go_wp2_with fail
 refine (zIp HS.out w2 HT2.out HPPL.out).mono ?_
 rintro e w3 ⟨sa, sn, sc, rfl, hps, hb3⟩
 obtain ⟨P, l, r⟩ := sh
 dsimp only at hps hp4 HSS ⊢
 have HPS := hid hps
 have HPL : Hid (P.length = sn) := hid (Ss.len hps)
 have hsn4 : sn ≤ 4 := by rw [← HPL.out]; exact hp4
 have HB3 : Hid (Below w.heap.size w w3) := hid (HB2.out.trans (hb3.mono HB2.out.size))
 have HH3 := hid (HH2.out.below hb3)
 obtain ⟨H, hH⟩ : ∃ H, H = w3.heap.size := ⟨_, rfl⟩
 have HHH := hid hH
 clear hps hb3 x0 hH HS
 go_upto_region 2 with (refine zAn zIe rfl (.tmp 7) (.tmp 16) rfl H (by rw [HHH.out]; rfl) #[.slice sa sn sc, .bool l, .bool r] rfl rfl (by kernel_rfl) #[.slice none 0 0, .bool false, .bool false] rfl (by rw [HHH.out]; exact Bk.new w3 _ _) ?_; rw [← HHH.out]; intro w4 h4 ho4; have HS4 := hid h4; have HB34 : Hid (Below w3.heap.size w3 w4) := hid ((zAA w3 _).trans (ho4.below (by rw [HHH.out]; exact Nat.le_refl _))); clear h4 ho4)
 have HH4 := hid (HH3.out.below HB34.out)
 have HP4 := hid (HPS.out.below HB34.out)
 have HB4 : Hid (Below w.heap.size w w4) := hid (HB3.out.trans (HB34.out.mono HB3.out.size))
 obtain ⟨B2, hB2⟩ : ∃ b, b = w4.heap.size := ⟨_, rfl⟩
 have HB24 := hid hB2
 have HHO4 := hid (HHO.out.keep HB4.out (Nat.le_refl _))
 have y0 := HS4.out.cell 0
 have y1 := HS4.out.cell 1
 rw [show (#[.slice sa sn sc, .bool l, .bool r] : Array Value)[0]? = some (.slice sa sn sc) from rfl] at y0
 rw [show (#[.slice sa sn sc, .bool l, .bool r] : Array Value)[1]? = some (.bool l) from rfl] at y1
 clear HPS HH3 HB34 HP2 HH2 HT2 HB2 HHH hB2 HHO HB3
 cases l with
 | false =>
  go_wp2
  go_loopw [9, 28] (fun u v wr => ∃ (a : Option Addr) (c : Nat) (S : List Sd) (vs : List VV) (k : Nat), u = .slice a S.length c ∧ v = .int .i64 (k : Int) ∧ k ≤ sn ∧ Hid (S = SV z L (p, g, s) false P k) ∧ Hid (SwO B2 wr a c S vs) ∧ Hid (Below w4.heap.size w4 wr)) (fun _ v _ => sn - (intOf v).toNat)
  case atStart => exact ⟨none, 0, ([] : List Sd), [], 0, rfl, rfl, Nat.zero_le _, hid rfl, hid SwO.none, hid (Below.refl _ _)⟩
  case round =>
   rename World => wa
   obtain ⟨a, c, S, vs, k, rfl, rfl, hk, HS, HSW, HB⟩ := hrel
   have HSL : Hid (S.length ≤ 20) := hid (by rw [HS.out]; have := zNz z L (p, g, s) false P k; omega)
   obtain ⟨m, hm⟩ : ∃ m, m = S.length := ⟨_, rfl⟩
   have HM := hid hm
   have hm6 : m ≤ 20 := by rw [hm]; exact HSL.out
   rw [← hm]
   clear hm
   have HOW : Hid (OwnV B2 136 2 wa a m c (cV vs)) := hid (by rw [HM.out]; exact HSW.out.own)
   have hk0 : (0 : Int) ≤ (k : Int) := Int.natCast_nonneg _
   by_cases hlt : k < sn
   ·have hltI : (k : Int) < (sn : Int) := by omega
    have hps : Ss wa sa sn sc P := HP4.out.below HB.out
    obtain ⟨pb, po, rfl, _, hc⟩ := hps.at_ (by omega)
    clear hc
    have c0 := Ss.str hps hlt
    obtain ⟨x, hx⟩ : ∃ x, x = pt P k := ⟨_, rfl⟩
    have HXE := hid hx
    rw [← hx] at c0
    clear hps hx
    by_cases hk00 : k = 0
    ·have hkd : decide (0 < k) = false := by rw [hk00]; rfl
     have hkI : ¬ (0 : Int) < (k : Int) := by omega
     have HSP : Hid (SV z L (p, g, s) false P k ++ hoV (decide (0 < k)) (allV L.length) = S) := hid (by rw [HS.out, hkd]; simp [hoV])
     clear hk00
     go_wp2_with (at_builtin; refine zAL rfl (.tmp 39) (.tmp 43) 138 rfl 136 B2 2 32 _ Tryz.underlying138 zAg rfl (by omega) a m c (cV vs) rfl (HOW.out.alloc _) _ _ _ (cV [(.func (.func 122) #[.string (mk x)] #[], .slice none 0 0)]) rfl (Vs.lit (k := 2) (xs := cV [(.func (.func 122) #[.string (mk x)] #[], .slice none 0 0)]) _ _ rfl rfl rfl) (by intro u hu; simp [cV] at hu; rcases hu with rfl | rfl <;> rfl) (by unfold maxLen; omega) (by omega) (by have := HB.out.size; have := HB24.out; simp; omega) ?_; intro a9 c9 w9 hO9 hG9 hb9 _; have HO9 := hid hO9; have HK9 : Hid (Kt tW wa w9) := hid ((Kt.below (zAA wa _)).trans (Kt.grown (HOW.out.alloc _) rfl hG9)); have HB9 : Hid (Below w4.heap.size w4 w9) := hid ((HB.out.alloc HB.out.size _).trans (hb9.mono (by have := HB24.out; omega))); clear hO9 hG9 hb9)
     have HSW9 := hid (HSW.out.snoc (s := .pt x) (v := (.func (.func 122) #[.string (mk x)] #[], .slice none 0 0)) ⟨rfl, rfl⟩ HK9.out HM.out HO9.out)
     go_roundw
     case rel => exact ⟨a9, c9, S ++ [.pt x], _, k + 1, by rw [List.length_append, ← HM.out]; rfl, by go_num, by omega, hid (by rw [zFs z L (p, g, s) false (by rw [HPL.out]; exact hlt), HSP.out, HXE.out]), HSW9, HB9⟩
     case measure => simp [intOf]; omega
    ·have hkd : decide (0 < k) = true := by simp; omega
     have hkI : (0 : Int) < (k : Int) := by omega
     go_upto_region 10 with (first
      | (refine zA2 zBW rfl (.tmp 4) rfl (B + 1) rfl #[.nilFunc, .slice ha an hc] rfl (HH4.out.below HB.out) ?_)
      | (at_builtin; refine zAL rfl (.tmp 35) (.tmp 37) 138 rfl 136 B2 2 32 _ Tryz.underlying138 zAg rfl (by omega) a m c (cV vs) rfl (HOW.out.alloc _) _ _ _ (cV [(.nilFunc, .slice ha an hc)]) rfl (Vs.lit (k := 2) (xs := cV [(.nilFunc, .slice ha an hc)]) _ _ rfl rfl rfl) (by intro u hu; simp [cV] at hu; rcases hu with rfl | rfl <;> rfl) (by unfold maxLen; omega) (by omega) (by have := HB.out.size; have := HB24.out; simp; omega) ?_; intro aP cP wP hOP hGP hbP _; have HOP := hid hOP; have HKP : Hid (Kt tW wa wP) := hid ((Kt.below (zAA wa _)).trans (Kt.grown (HOW.out.alloc _) rfl hGP)); have HBP : Hid (Below w4.heap.size w4 wP) := hid ((HB.out.alloc HB.out.size _).trans (hbP.mono (by have := HB24.out; omega))); clear hOP hGP hbP))
     have HSWP := hid (HSW.out.snoc (s := .ho (allV L.length)) (v := (.nilFunc, .slice ha an hc)) ⟨rfl, ha, hc, by rw [HAN.out], by rw [← HAN.out]; exact HHO4.out.keep HB.out (Nat.le_refl _)⟩ HKP.out HM.out HOP.out)
     obtain ⟨vP, hvP⟩ : ∃ v, v = vs ++ [((.nilFunc, .slice ha an hc) : VV)] := ⟨_, rfl⟩
     obtain ⟨SP, hSP⟩ : ∃ v, v = S ++ [Sd.ho (allV L.length)] := ⟨_, rfl⟩
     rw [← hvP, ← hSP] at HSWP
     have HOW2 : Hid (OwnV B2 136 2 wP aP (m + 1) cP (cV vP)) := hid (by rw [hvP, zK1]; exact HOP.out)
     have HSP : Hid (SV z L (p, g, s) false P k ++ hoV (decide (0 < k)) (allV L.length) = SP) := hid (by rw [hSP, HS.out, hkd]; rfl)
     have HMP : Hid (m + 1 = SP.length) := hid (by rw [hSP, List.length_append, HM.out]; rfl)
     clear hvP hSP HOP HKP c0 HOW
     go_wp2_with (at_builtin; refine zAL rfl (.tmp 39) (.tmp 43) 138 rfl 136 B2 2 32 _ Tryz.underlying138 zAg rfl (by omega) aP (m + 1) cP (cV vP) rfl (HOW2.out.alloc _) _ _ _ (cV [(.func (.func 122) #[.string (mk x)] #[], .slice none 0 0)]) rfl (Vs.lit (k := 2) (xs := cV [(.func (.func 122) #[.string (mk x)] #[], .slice none 0 0)]) _ _ rfl rfl rfl) (by intro u hu; simp [cV] at hu; rcases hu with rfl | rfl <;> rfl) (by unfold maxLen; omega) (by omega) (by have := HBP.out.size; have := HB24.out; simp; omega) ?_; intro a9 c9 w9 hO9 hG9 hb9 _; have HO9 := hid hO9; have HK9 : Hid (Kt tW wP w9) := hid ((Kt.below (zAA wP _)).trans (Kt.grown (HOW2.out.alloc _) rfl hG9)); have HB9 : Hid (Below w4.heap.size w4 w9) := hid ((HBP.out.alloc HBP.out.size _).trans (hb9.mono (by have := HB24.out; omega))); clear hO9 hG9 hb9)
     have HSW9 := hid (HSWP.out.snoc (s := .pt x) (v := (.func (.func 122) #[.string (mk x)] #[], .slice none 0 0)) ⟨rfl, rfl⟩ HK9.out HMP.out HO9.out)
     go_roundw
     case rel => exact ⟨a9, c9, SP ++ [.pt x], _, k + 1, by rw [List.length_append, ← HMP.out]; rfl, by go_num, by omega, hid (by rw [zFs z L (p, g, s) false (by rw [HPL.out]; exact hlt), HSP.out, HXE.out]), HSW9, HB9⟩
     case measure => simp [intOf]; omega
   ·obtain rfl : k = sn := by omega
    have hltI : ¬ (k : Int) < (k : Int) := by omega
    have y2 := (HS4.out.below HB.out).cell 2
    rw [show (#[.slice sa k sc, .bool false, .bool r] : Array Value)[2]? = some (.bool r) from rfl] at y2
    have hSk : S = hoV false (endsV z L (p, g, s) false) ++ midV L.length P := by
     rw [HS.out]
     unfold SV
     rw [List.take_of_length_le (by rw [HPL.out]; exact Nat.le_refl _)]
    have HSS2 : Hid (SS = S ++ hoV r (endsV z L (p, g, s) true)) := hid (by rw [hSk]; exact HSS.out)
    clear hSk
    cases r with
    | false =>
     have HSE : Hid (SS = S) := hid (by rw [HSS2.out]; exact List.append_nil _)
     go_wp2
     go_ret
     rw [HSE.out, HM.out]
     exact ⟨a, c, rfl, ⟨vs, HSW.out.weak⟩, HB4.out.trans (HB.out.mono HB4.out.size)⟩
    | true =>
     have HSE : Hid (SS = S ++ [.ho (endsV z L (p, g, s) true)]) := hid HSS2.out
     go_wp2_with fail
     refine (HEN.out true wa (HB4.out.trans (HB.out.mono HB4.out.size))).mono ?_
     obtain ⟨KE, hKE⟩ : ∃ K, K = endsV z L (p, g, s) true := ⟨_, rfl⟩
     rw [← hKE] at HSE ⊢
     obtain ⟨kf, hkf⟩ : ∃ k, k = KE.length := ⟨_, rfl⟩
     have HKF := hid hkf
     rw [← hkf]
     rintro e wb ⟨ra, rc, rfl, hob, hbb⟩
     have HOB := hid hob
     have HBB : Hid (Below w4.heap.size w4 wb) := hid (HB.out.trans (hbb.mono HB.out.size))
     have HSWB := hid (HSW.out.below hbb)
     have HOWB : Hid (OwnV B2 136 2 wb a m c (cV vs)) := hid (by rw [HM.out]; exact HSWB.out.own)
     clear hob hbb hKE hkf y2
     go_wp2_with (first
      | (at_builtin; refine zAL rfl (.tmp 48) (.tmp 51) 138 rfl 136 B2 2 32 _ Tryz.underlying138 zAg rfl (by omega) a m c (cV vs) rfl (HOWB.out.alloc _) _ _ _ (cV [(.nilFunc, .slice ra kf rc)]) rfl (Vs.lit (k := 2) (xs := cV [(.nilFunc, .slice ra kf rc)]) _ _ rfl rfl rfl) (by intro u hu; simp [cV] at hu; rcases hu with rfl | rfl <;> rfl) (by unfold maxLen; omega) (by omega) (by have := HBB.out.size; have := HB24.out; simp; omega) ?_; intro aP cP wP hOP hGP hbP _; have HOP := hid hOP; have HKP : Hid (Kt tW wb wP) := hid ((Kt.below (zAA wb _)).trans (Kt.grown (HOWB.out.alloc _) rfl hGP)); have HBP : Hid (Below w4.heap.size w4 wP) := hid ((HBB.out.alloc HBB.out.size _).trans (hbP.mono (by have := HB24.out; omega))); clear hOP hGP hbP))
     have HSWP := hid (HSWB.out.snoc (s := .ho KE) (v := (.nilFunc, .slice ra kf rc)) ⟨rfl, ra, rc, by rw [HKF.out], by rw [← HKF.out]; exact HOB.out⟩ HKP.out HM.out HOP.out)
     go_ret
     rw [HSE.out, List.length_append, ← HM.out]
     exact ⟨aP, cP, rfl, ⟨_, HSWP.out.weak⟩, HB4.out.trans (HBP.out.mono HB4.out.size)⟩
 | true =>
  go_wp2_with fail
  refine (HEN.out false w4 HB4.out).mono ?_
  obtain ⟨KS, hKS⟩ : ∃ K, K = endsV z L (p, g, s) false := ⟨_, rfl⟩
  have HKS := hid hKS
  rw [← hKS]
  obtain ⟨kf, hkf⟩ : ∃ k, k = KS.length := ⟨_, rfl⟩
  have HKF := hid hkf
  rw [← hkf]
  rintro e w5 ⟨ra, rc, rfl, ho5, hb5⟩
  have HO5 := hid ho5
  have HB5 : Hid (Below w4.heap.size w4 w5) := hid (by rw [← HB24.out] at hb5 ⊢; exact hb5)
  have y0' := (HS4.out.below HB5.out).cell 0
  clear ho5 hb5 hKS hkf y1
  go_upto_region 5 with (first
   | (at_builtin; refine zAL rfl (.tmp 20) (.tmp 23) 138 rfl 136 B2 2 32 _ Tryz.underlying138 zAg rfl (by omega) none 0 0 (cV []) rfl ((OwnV.none0 (base := B2) (e := 136) (k := 2) (w := w5)).alloc _) _ _ _ (cV [(.nilFunc, .slice ra kf rc)]) rfl (Vs.lit (k := 2) (xs := cV [(.nilFunc, .slice ra kf rc)]) _ _ rfl rfl rfl) (by intro u hu; simp [cV] at hu; rcases hu with rfl | rfl <;> rfl) (by unfold maxLen; omega) (by omega) (by have := HB5.out.size; have := HB24.out; simp; omega) ?_; intro aP cP wP hOP hGP hbP _; have HOP := hid hOP; have HKP : Hid (Kt tW w5 wP) := hid ((Kt.below (zAA w5 _)).trans (Kt.grown ((OwnV.none0 (base := B2) (e := 136) (k := 2) (w := w5)).alloc _) rfl hGP)); have HBP : Hid (Below w4.heap.size w4 wP) := hid ((HB5.out.alloc HB5.out.size _).trans (hbP.mono (by have := HB24.out; omega))); clear hOP hGP hbP))
  have HSWP := hid ((SwO.none (base := B2) (w := w5)).snoc (s := .ho KS) (v := (.nilFunc, .slice ra kf rc)) ⟨rfl, ra, rc, by rw [HKF.out], by rw [← HKF.out]; exact HO5.out⟩ HKP.out rfl HOP.out)
  have y0 := (HS4.out.below HBP.out).cell 0
  rw [show (#[.slice sa sn sc, .bool true, .bool r] : Array Value)[0]? = some (.slice sa sn sc) from rfl] at y0
  clear HOP HKP y0'
  rw [List.nil_append, List.nil_append] at HSWP
  have HS0 : Hid ([Sd.ho KS] = SV z L (p, g, s) true P 0) := hid (by rw [HKS.out]; rfl)
  go_wp2
  go_loopw [9, 28] (fun u v wr => ∃ (a : Option Addr) (c : Nat) (S : List Sd) (vs : List VV) (k : Nat), u = .slice a S.length c ∧ v = .int .i64 (k : Int) ∧ k ≤ sn ∧ Hid (S = SV z L (p, g, s) true P k) ∧ Hid (SwO B2 wr a c S vs) ∧ Hid (Below w4.heap.size w4 wr)) (fun _ v _ => sn - (intOf v).toNat)
  case atStart => exact ⟨aP, cP, [Sd.ho KS], _, 0, rfl, rfl, Nat.zero_le _, HS0, HSWP, HBP⟩
  case round =>
   rename World => wa
   obtain ⟨a, c, S, vs, k, rfl, rfl, hk, HS, HSW, HB⟩ := hrel
   have HSL : Hid (S.length ≤ 20) := hid (by rw [HS.out]; have := zNz z L (p, g, s) true P k; omega)
   obtain ⟨m, hm⟩ : ∃ m, m = S.length := ⟨_, rfl⟩
   have HM := hid hm
   have hm6 : m ≤ 20 := by rw [hm]; exact HSL.out
   rw [← hm]
   clear hm
   have HOW : Hid (OwnV B2 136 2 wa a m c (cV vs)) := hid (by rw [HM.out]; exact HSW.out.own)
   have hk0 : (0 : Int) ≤ (k : Int) := Int.natCast_nonneg _
   by_cases hlt : k < sn
   ·have hltI : (k : Int) < (sn : Int) := by omega
    have hps : Ss wa sa sn sc P := HP4.out.below HB.out
    obtain ⟨pb, po, rfl, _, hc⟩ := hps.at_ (by omega)
    clear hc
    have c0 := Ss.str hps hlt
    obtain ⟨x, hx⟩ : ∃ x, x = pt P k := ⟨_, rfl⟩
    have HXE := hid hx
    rw [← hx] at c0
    clear hps hx
    by_cases hk00 : k = 0
    ·have hkd : decide (0 < k) = false := by rw [hk00]; rfl
     have hkI : ¬ (0 : Int) < (k : Int) := by omega
     have HSP : Hid (SV z L (p, g, s) true P k ++ hoV (decide (0 < k)) (allV L.length) = S) := hid (by rw [HS.out, hkd]; simp [hoV])
     clear hk00
     go_wp2_with (at_builtin; refine zAL rfl (.tmp 39) (.tmp 43) 138 rfl 136 B2 2 32 _ Tryz.underlying138 zAg rfl (by omega) a m c (cV vs) rfl (HOW.out.alloc _) _ _ _ (cV [(.func (.func 122) #[.string (mk x)] #[], .slice none 0 0)]) rfl (Vs.lit (k := 2) (xs := cV [(.func (.func 122) #[.string (mk x)] #[], .slice none 0 0)]) _ _ rfl rfl rfl) (by intro u hu; simp [cV] at hu; rcases hu with rfl | rfl <;> rfl) (by unfold maxLen; omega) (by omega) (by have := HB.out.size; have := HB24.out; simp; omega) ?_; intro a9 c9 w9 hO9 hG9 hb9 _; have HO9 := hid hO9; have HK9 : Hid (Kt tW wa w9) := hid ((Kt.below (zAA wa _)).trans (Kt.grown (HOW.out.alloc _) rfl hG9)); have HB9 : Hid (Below w4.heap.size w4 w9) := hid ((HB.out.alloc HB.out.size _).trans (hb9.mono (by have := HB24.out; omega))); clear hO9 hG9 hb9)
     have HSW9 := hid (HSW.out.snoc (s := .pt x) (v := (.func (.func 122) #[.string (mk x)] #[], .slice none 0 0)) ⟨rfl, rfl⟩ HK9.out HM.out HO9.out)
     go_roundw
     case rel => exact ⟨a9, c9, S ++ [.pt x], _, k + 1, by rw [List.length_append, ← HM.out]; rfl, by go_num, by omega, hid (by rw [zFs z L (p, g, s) true (by rw [HPL.out]; exact hlt), HSP.out, HXE.out]), HSW9, HB9⟩
     case measure => simp [intOf]; omega
    ·have hkd : decide (0 < k) = true := by simp; omega
     have hkI : (0 : Int) < (k : Int) := by omega
     go_upto_region 10 with (first
      | (refine zA2 zBW rfl (.tmp 4) rfl (B + 1) rfl #[.nilFunc, .slice ha an hc] rfl (HH4.out.below HB.out) ?_)
      | (at_builtin; refine zAL rfl (.tmp 35) (.tmp 37) 138 rfl 136 B2 2 32 _ Tryz.underlying138 zAg rfl (by omega) a m c (cV vs) rfl (HOW.out.alloc _) _ _ _ (cV [(.nilFunc, .slice ha an hc)]) rfl (Vs.lit (k := 2) (xs := cV [(.nilFunc, .slice ha an hc)]) _ _ rfl rfl rfl) (by intro u hu; simp [cV] at hu; rcases hu with rfl | rfl <;> rfl) (by unfold maxLen; omega) (by omega) (by have := HB.out.size; have := HB24.out; simp; omega) ?_; intro aP cP wP hOP hGP hbP _; have HOP := hid hOP; have HKP : Hid (Kt tW wa wP) := hid ((Kt.below (zAA wa _)).trans (Kt.grown (HOW.out.alloc _) rfl hGP)); have HBP : Hid (Below w4.heap.size w4 wP) := hid ((HB.out.alloc HB.out.size _).trans (hbP.mono (by have := HB24.out; omega))); clear hOP hGP hbP))
     have HSWP := hid (HSW.out.snoc (s := .ho (allV L.length)) (v := (.nilFunc, .slice ha an hc)) ⟨rfl, ha, hc, by rw [HAN.out], by rw [← HAN.out]; exact HHO4.out.keep HB.out (Nat.le_refl _)⟩ HKP.out HM.out HOP.out)
     obtain ⟨vP, hvP⟩ : ∃ v, v = vs ++ [((.nilFunc, .slice ha an hc) : VV)] := ⟨_, rfl⟩
     obtain ⟨SP, hSP⟩ : ∃ v, v = S ++ [Sd.ho (allV L.length)] := ⟨_, rfl⟩
     rw [← hvP, ← hSP] at HSWP
     have HOW2 : Hid (OwnV B2 136 2 wP aP (m + 1) cP (cV vP)) := hid (by rw [hvP, zK1]; exact HOP.out)
     have HSP : Hid (SV z L (p, g, s) true P k ++ hoV (decide (0 < k)) (allV L.length) = SP) := hid (by rw [hSP, HS.out, hkd]; rfl)
     have HMP : Hid (m + 1 = SP.length) := hid (by rw [hSP, List.length_append, HM.out]; rfl)
     clear hvP hSP HOP HKP c0 HOW
     go_wp2_with (at_builtin; refine zAL rfl (.tmp 39) (.tmp 43) 138 rfl 136 B2 2 32 _ Tryz.underlying138 zAg rfl (by omega) aP (m + 1) cP (cV vP) rfl (HOW2.out.alloc _) _ _ _ (cV [(.func (.func 122) #[.string (mk x)] #[], .slice none 0 0)]) rfl (Vs.lit (k := 2) (xs := cV [(.func (.func 122) #[.string (mk x)] #[], .slice none 0 0)]) _ _ rfl rfl rfl) (by intro u hu; simp [cV] at hu; rcases hu with rfl | rfl <;> rfl) (by unfold maxLen; omega) (by omega) (by have := HBP.out.size; have := HB24.out; simp; omega) ?_; intro a9 c9 w9 hO9 hG9 hb9 _; have HO9 := hid hO9; have HK9 : Hid (Kt tW wP w9) := hid ((Kt.below (zAA wP _)).trans (Kt.grown (HOW2.out.alloc _) rfl hG9)); have HB9 : Hid (Below w4.heap.size w4 w9) := hid ((HBP.out.alloc HBP.out.size _).trans (hb9.mono (by have := HB24.out; omega))); clear hO9 hG9 hb9)
     have HSW9 := hid (HSWP.out.snoc (s := .pt x) (v := (.func (.func 122) #[.string (mk x)] #[], .slice none 0 0)) ⟨rfl, rfl⟩ HK9.out HMP.out HO9.out)
     go_roundw
     case rel => exact ⟨a9, c9, SP ++ [.pt x], _, k + 1, by rw [List.length_append, ← HMP.out]; rfl, by go_num, by omega, hid (by rw [zFs z L (p, g, s) true (by rw [HPL.out]; exact hlt), HSP.out, HXE.out]), HSW9, HB9⟩
     case measure => simp [intOf]; omega
   ·obtain rfl : k = sn := by omega
    have hltI : ¬ (k : Int) < (k : Int) := by omega
    have y2 := (HS4.out.below HB.out).cell 2
    rw [show (#[.slice sa k sc, .bool true, .bool r] : Array Value)[2]? = some (.bool r) from rfl] at y2
    have hSk : S = hoV true (endsV z L (p, g, s) false) ++ midV L.length P := by
     rw [HS.out]
     unfold SV
     rw [List.take_of_length_le (by rw [HPL.out]; exact Nat.le_refl _)]
    have HSS2 : Hid (SS = S ++ hoV r (endsV z L (p, g, s) true)) := hid (by rw [hSk]; exact HSS.out)
    clear hSk
    cases r with
    | false =>
     have HSE : Hid (SS = S) := hid (by rw [HSS2.out]; exact List.append_nil _)
     go_wp2
     go_ret
     rw [HSE.out, HM.out]
     exact ⟨a, c, rfl, ⟨vs, HSW.out.weak⟩, HB4.out.trans (HB.out.mono HB4.out.size)⟩
    | true =>
     have HSE : Hid (SS = S ++ [.ho (endsV z L (p, g, s) true)]) := hid HSS2.out
     go_wp2_with fail
     refine (HEN.out true wa (HB4.out.trans (HB.out.mono HB4.out.size))).mono ?_
     obtain ⟨KE, hKE⟩ : ∃ K, K = endsV z L (p, g, s) true := ⟨_, rfl⟩
     rw [← hKE] at HSE ⊢
     obtain ⟨kf, hkf⟩ : ∃ k, k = KE.length := ⟨_, rfl⟩
     have HKF := hid hkf
     rw [← hkf]
     rintro e wb ⟨ra, rc, rfl, hob, hbb⟩
     have HOB := hid hob
     have HBB : Hid (Below w4.heap.size w4 wb) := hid (HB.out.trans (hbb.mono HB.out.size))
     have HSWB := hid (HSW.out.below hbb)
     have HOWB : Hid (OwnV B2 136 2 wb a m c (cV vs)) := hid (by rw [HM.out]; exact HSWB.out.own)
     clear hob hbb hKE hkf y2
     go_wp2_with (first
      | (at_builtin; refine zAL rfl (.tmp 48) (.tmp 51) 138 rfl 136 B2 2 32 _ Tryz.underlying138 zAg rfl (by omega) a m c (cV vs) rfl (HOWB.out.alloc _) _ _ _ (cV [(.nilFunc, .slice ra kf rc)]) rfl (Vs.lit (k := 2) (xs := cV [(.nilFunc, .slice ra kf rc)]) _ _ rfl rfl rfl) (by intro u hu; simp [cV] at hu; rcases hu with rfl | rfl <;> rfl) (by unfold maxLen; omega) (by omega) (by have := HBB.out.size; have := HB24.out; simp; omega) ?_; intro aP cP wP hOP hGP hbP _; have HOP := hid hOP; have HKP : Hid (Kt tW wb wP) := hid ((Kt.below (zAA wb _)).trans (Kt.grown (HOWB.out.alloc _) rfl hGP)); have HBP : Hid (Below w4.heap.size w4 wP) := hid ((HBB.out.alloc HBB.out.size _).trans (hbP.mono (by have := HB24.out; omega))); clear hOP hGP hbP))
     have HSWP := hid (HSWB.out.snoc (s := .ho KE) (v := (.nilFunc, .slice ra kf rc)) ⟨rfl, ra, rc, by rw [HKF.out], by rw [← HKF.out]; exact HOB.out⟩ HKP.out HM.out HOP.out)
     go_ret
     rw [HSE.out, List.length_append, ← HM.out]
     exact ⟨aP, cP, rfl, ⟨_, HSWP.out.weak⟩, HB4.out.trans (HBP.out.mono HB4.out.size)⟩
end Go.Proofs.YtcjbhdgjcpnklaaGreatDoor
