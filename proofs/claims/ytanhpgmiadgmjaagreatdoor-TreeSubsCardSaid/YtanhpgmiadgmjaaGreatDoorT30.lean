import Derived.Test.YtanhpgmiadgmjaaGreatDoorT29
namespace Go.Proofs.YtanhpgmiadgmjaaGreatDoor
open Go.RowKit
structure OW (w wr : World) (B b1 b2 b3 : Nat) (a : Option Addr) (n c : Nat) (L : List OP) (z : List Int) (la : Option Addr) (ln lc : Nat) (tok : List TK) (x : ND) (ka : Option Addr) (kn kc : Nat) (K : List ND) : Prop where
 fe : EB wr B a n c z
 fl : C1 wr b1 23 (.slice la ln lc)
 fn : N5 wr b2 x
 fk : C1 wr b3 24 (.slice ka kn kc)
 fo : OpS wr a n c L
 ft : Ts wr la ln lc tok
 fd : NdS wr ka kn kc K
 fT : Tab wr
 fb : Below w.heap.size w wr
theorem OW.below {w wr w' : World} {B b1 b2 b3 : Nat} {a : Option Addr} {n c : Nat} {L : List OP} {z : List Int} {la : Option Addr} {ln lc : Nat} {tok : List TK} {x : ND} {ka : Option Addr} {kn kc : Nat} {K : List ND}
  (h : OW w wr B b1 b2 b3 a n c L z la ln lc tok x ka kn kc K) (hb : Below wr.heap.size wr w') : OW w w' B b1 b2 b3 a n c L z la ln lc tok x ka kn kc K :=
 ⟨h.fe.below hb, h.fl.below hb, h.fn.below hb, h.fk.below hb, h.fo.below hb, h.ft.below hb, h.fd.below hb, h.fT.keep hb, h.fb.trans (hb.mono h.fb.size)⟩
theorem shape_zero (w : World) : (w.alloc (.cells #[.slice none 0 0, .bool false, .bool false] 168)).heap[w.heap.size]? = some (.cells #[.slice none 0 0, .bool false, .bool false] 168 (0, 0)) := heap_alloc_new w _
theorem shp_info : (Tryz.prog.info? 168).map (·.size) = some 3 := by kernel_rfl
theorem store_sh {ops : Array Oper} {rest : List Oper} {o : Oper} {A : Act} {w : World} {Q : Exit → Act → World → Prop} (hgd : o.guard = none) (x y : Operand) (ho : o.op = .store 168 x y)
  (b : Nat) (hx : A.eval x = .pointer (some ⟨b, 0, none⟩)) (a : Option Addr) (n c : Nat) (l r : Bool) (hy : A.eval y = .agg #[.slice a n c, .bool l, .bool r]) (old : Array Value) (h : w.heap[b]? = some (.cells old 168 (0, 0))) (hold : old.size = 3)
  (k : ∀ w', w'.heap[b]? = some (.cells #[.slice a n c, .bool l, .bool r] 168 (0, 0)) → Only b w w' → wpList Tryz.prog ops Q rest (A.put o.dst undef) w') : wpList Tryz.prog ops Q (o :: rest) A w :=
 wpList_store_row hgd 168 x y ho b _ hx hy _ _ h shp_info hold (by kernel_rfl) (k _ (setRow_heap w b _ _ _ _ h) (Only.ofRow w b _))
theorem along_oper {w wA : World} {B b1 b2 b3 ba : Nat} {a : Option Addr} {n c : Nat} {L : List OP} {z : List Int} {la : Option Addr} {ln lc : Nat} {tok : List TK} {x : ND} {ka : Option Addr} {kn kc : Nat} {K : List ND} {sa : Option Addr} {sn sc : Nat} {P : List Nm} {l r : Bool}
  (hW : OW w wA B b1 b2 b3 a n c L z la ln lc tok x ka kn kc K) (hb : b1 = B + 1 ∧ b2 = B + 2 ∧ b3 = B + 3) (hba : B + 4 ≤ ba) (hA : C1 wA ba 3 (.int .i64 x.f)) (hS : Ss wA sa sn sc P) (hP : ∀ q ∈ P, q ≠ []) (hPl : P.length ≤ 1000000) (hln : ln ≤ 1000000) (hg : goodN tok x) (hkg : ∀ c ∈ K, goodN tok c) (hN : kn = holN (alI l P r)) :
  Calls Tryz.prog 112 #[.agg #[.slice sa sn sc, .bool l, .bool r], .func (.func 109) #[] #[.pointer (some ⟨ba, 0, none⟩), .pointer (some ⟨b2, 0, none⟩), .pointer (some ⟨b1, 0, none⟩)], .func (.func 111) #[] #[.pointer (some ⟨b3, 0, none⟩), .pointer (some ⟨ba, 0, none⟩)]] wA fun e w' =>
   ∃ b, e = .returned (.bool b) ∧ (b = true → ∃ at_ : Nat, C1 w' ba 3 (.int .i64 (at_ : Int)) ∧ N5 w' b2 x ∧ alB tok x.t (alI l P r) x.f K = ((at_ : Int) == x.t)) ∧ (b = false → alB tok x.t (alI l P r) x.f K = false) ∧ Below B wA w' := by
 have htl : tok.length = ln := hW.ft.hl
 unfold goodN at hg
 have hne : b2 ≠ ba ∧ b1 ≠ ba ∧ b2 ≠ b3 ∧ b1 ≠ b3 ∧ B ≤ ba ∧ B ≤ b3 ∧ ba ≠ b3 := by omega
 have hlt := hA.lt
 have hKl := NdS.len hW.fd
 obtain ⟨V, hV⟩ : ∃ V, V = alB tok x.t (alI l P r) x.f K := ⟨_, rfl⟩
 rw [← hV]
 refine (alongO_any ba b2 b1 b3 B ba b3 (Jo tok x V la ln lc ba b2 b1 b3 B) (fun _ => V = false) (fun p r w1 hp hj => jo_part hne hln (by omega) p r w1 hp hj) (fun r w1 hj => jo_hole hne htl r w1 hj) sa sn sc P l r wA (fun w' hb' => ss_but hS hA hW.fk hb') hP (by rw [← Ss.len hS]; exact hPl) (by omega) hlt hW.fk.lt ?_).mono ?_
 ·intro w' hb'
  have hx : ((x.f.toNat : Nat) : Int) = x.f := by omega
  refine ⟨⟨x.f.toNat, K, ka, kc, by rw [hx]; exact hA.below hb', by omega, by rw [hKl]; exact hW.fk.below hb', by rw [hKl]; exact hW.fd.below hb', by rw [hKl]; exact hN, hkg, by rw [hx, hV]⟩, hW.fn.below hb', hW.fl.below hb', hW.ft.below hb', by have := hb'.size; omega⟩
 ·rintro e w' ⟨b, rfl, h1, h2, h3⟩
  refine ⟨b, rfl, fun hb1 => ?_, h2, h3.b⟩
  have hj := h1 hb1
  obtain ⟨at_, K', ka', kc', g1, _, _, _, g5, _, g7⟩ := hj.j
  have : K' = [] := List.eq_nil_of_length_eq_zero g5
  subst this
  exact ⟨at_, g1, hj.n, by rw [← g7]; rfl⟩
set_option maxRecDepth 100000 in
set_option maxHeartbeats 16000000 in
theorem operates_any (a : Option Addr) (n c : Nat) (L : List OP) (z : List Int) (la : Option Addr) (ln lc : Nat) (tok : List TK) (x : ND) (ka : Option Addr) (kn kc : Nat) (K : List ND) (w : World) (ht : Tab w) (h : OpS w a n c L) (hz : z.length = 10) (hr : ∀ i, i < 10 → I64 (bt z i)) (hT : Ts w la ln lc tok) (hK : NdS w ka kn kc K)
  (hn : n ≤ 1000000) (hL : ∀ o ∈ L, o.1.length ≤ 1000000) (hln : ln ≤ 1000000) (hkn : kn ≤ 1000000) (hxn : x.n.length ≤ 1000000) (hg : goodN tok x) (hkg : ∀ c ∈ K, goodN tok c) :
  Calls Tryz.prog 66 #[.agg (ev a n c z), .slice la ln lc, .agg (ndA x), .slice ka kn kc] w fun e w' => e = .returned (.bool (opP L z tok x K)) ∧ Below w.heap.size w w' := by
 obtain ⟨B, hB⟩ : ∃ B, B = w.heap.size := ⟨_, rfl⟩
 obtain ⟨w1, hw1⟩ : ∃ w1, w1 = w.alloc (.cells (ev a n c z) 30) := ⟨_, rfl⟩
 obtain ⟨w2, hw2⟩ : ∃ w2, w2 = w1.alloc (.cells #[.slice la ln lc] 23) := ⟨_, rfl⟩
 obtain ⟨w3, hw3⟩ : ∃ w3, w3 = w2.alloc (.cells (ndA x) 37) := ⟨_, rfl⟩
 obtain ⟨w4, hw4⟩ : ∃ w4, w4 = w3.alloc (.cells #[.slice ka kn kc] 24) := ⟨_, rfl⟩
 obtain ⟨b1, hb1⟩ : ∃ b, b = w1.heap.size := ⟨_, rfl⟩
 obtain ⟨b2, hb2⟩ : ∃ b, b = w2.heap.size := ⟨_, rfl⟩
 obtain ⟨b3, hb3⟩ : ∃ b, b = w3.heap.size := ⟨_, rfl⟩
 have s1 : b1 = B + 1 := by rw [hb1, hw1, hB]; simp
 have s2 : b2 = B + 1 + 1 := by rw [hb2, hw2]; simp; omega
 have s3 : b3 = B + 1 + 1 + 1 := by rw [hb3, hw3]; simp; omega
 have hb04 : Below w.heap.size w w4 := by
  rw [hw4, hw3, hw2, hw1]
  exact (((below_alloc w _).alloc (by simp) _).alloc (by simp; omega) _).alloc (by simp; omega) _
 have HW4 : Hid (OW w w4 B b1 b2 b3 a n c L z la ln lc tok x ka kn kc K) := hid
  ⟨by rw [hw4, hw3, hw2, hw1, hB]; exact (((EB.new w a n c z).alloc _).alloc _).alloc _,
  by rw [hw4, hw3, hw2, hb1]; exact ((C1.new w1 _ _).alloc _).alloc _,
  by rw [hw4, hw3, hb2]; exact (N5.new w2 x).alloc _,
  by rw [hw4, hb3]; exact C1.new w3 _ _,
  h.below hb04, hT.below hb04, hK.below hb04, ht.keep hb04, hb04⟩
 have HS4 : Hid (w4.heap.size = B + 4) := hid (by rw [hw4]; simp; omega)
 have HBB : Hid (B = w.heap.size ∧ b1 = B + 1 ∧ b2 = B + 2 ∧ b3 = B + 3) := hid ⟨hB, by omega, by omega, by omega⟩
 have HZ := hid hz
 have HR := hid hr
 have HL := hid hL
 have HXN := hid hxn
 have HG := hid hg
 have HKG := hid hkg
 have hnd : ndA x = #[.int .i64 x.k, .string (mk x.n), .int .i64 x.f, .int .i64 x.t, .int .i64 x.c] := rfl
 obtain ⟨V, hV⟩ : ∃ V, V = opP L z tok x K := ⟨_, rfl⟩
 have HV := hid hV
 rw [← hV]
 have x1 := HW4.out.fn.cells.2.1
 obtain ⟨xn, hxn'⟩ : ∃ q, q = x.n := ⟨_, rfl⟩
 have HXQ := hid hxn'
 rw [← hxn'] at x1
 clear ht h hz hr hT hK hL hxn hg hkg hb04 hV hxn'
 go_enter Tryz.func66, Tryz.ntmps66
 rw [hnd]
 go_upto_region 1 with fail
 rw [← hnd, ← hw1]
 try rw [← hw2]
 try rw [← hw3]
 try rw [← hw4]
 rw [← hB]
 try rw [← s3]
 try rw [← s2]
 try rw [← s1]
 clear hw1 hw2 hw3 hw4 hB hb1 hb2 hb3 s1 s2 s3 hnd
 go_wp2_with (refine load_env rfl (.tmp 4) rfl B rfl a n c z HZ.out HW4.out.fe ?_)
 refine (operator_any a n c L z xn w4 HW4.out.fo HZ.out hn).mono ?_
 rintro e w5 ⟨rfl, hb5⟩
 have HW5 := hid (HW4.out.below hb5)
 have HS5 : Hid (B + 4 ≤ w5.heap.size) := hid (by rw [← HS4.out]; exact hb5.size)
 obtain ⟨b4, hb4⟩ : ∃ b, b = w5.heap.size := ⟨_, rfl⟩
 have HB4 := hid hb4
 clear hb5 x1 hb4
 have hopv : ∃ (p : Nm) (g s : Int), opV (findO L xn) = #[.string (mk p), .int .i64 g, .int .i64 s] ∧ (∀ o, findO L xn = some o → o = (p, g, s)) := by
  cases findO L xn with
  | none => exact ⟨[], 0, 0, rfl, fun o h => by cases h⟩
  | some o => exact ⟨o.1, o.2.1, o.2.2, rfl, fun o' h => by cases h; rfl⟩
 obtain ⟨p, g, s, hop, hof⟩ := hopv
 have HOF := hid hof
 obtain ⟨ok, hok⟩ : ∃ b, b = (findO L xn).isSome := ⟨_, rfl⟩
 have HOK := hid hok
 rw [hop, ← hok]
 clear hop hof hok
 obtain ⟨P, l, r, ep, hOp, hp0, hp1⟩ : ∃ P l r ep, ofR xn = (⟨P, l, r⟩, ep) ∧ (ep = 0 → ofS xn = some ⟨P, l, r⟩) ∧ (ep ≠ 0 → ofS xn = none) := by
  cases hO : ofS xn with
  | none => exact ⟨_, _, _, _, ofR_none hO, (fun h => by cases h), fun _ => rfl⟩
  | some u => exact ⟨u.P, u.l, u.r, 0, ofR_some hO, fun _ => rfl, fun h => absurd rfl h⟩
 have HP := hid (And.intro hp0 hp1)
 have KOF : Hid (∀ w', Tab w' → Calls Tryz.prog 100 #[.string (mk xn)] w' fun e' w'' => ∃ a n c, e' = .returned (.tuple #[.agg #[.slice a n c, .bool l, .bool r], .int .i64 ep]) ∧ Ss w'' a n c P ∧ Below w'.heap.size w' w'') := hid fun w' ht => by
  refine (sof_any xn w' ht (by rw [HXQ.out]; exact HXN.out)).mono ?_
  rw [hOp]
  rintro e' w'' ⟨a, n, c, rfl, h1, h2⟩
  exact ⟨a, n, c, rfl, h1, h2⟩
 clear hp0 hp1 hOp
 go_wp2_with (refine store_d3 rfl (.tmp 9) (.tmp 21) rfl _ rfl p g s rfl ([], 0, 0) (D3.new w5 ([], 0, 0)) ?_; rw [← HB4.out]; intro w6 h6 ho6; have HD6 := hid h6; have HB56 : Hid (Below w5.heap.size w5 w6) := hid ((below_alloc w5 _).trans (ho6.below (by rw [HB4.out]; exact Nat.le_refl _))); have HW6 := hid (HW5.out.below HB56.out); have x1 : w6.cell? ⟨b2, 1, none⟩ = some (.string (mk xn)) := (by rw [HXQ.out]; exact HW6.out.fn.cells.2.1); clear h6 ho6)
 refine (KOF.out w6 HW6.out.fT).mono ?_
 rintro e w7 ⟨sa, sn, sc, rfl, hss, hb7⟩
 have HW7 := hid (HW6.out.below hb7)
 have HD7 : Hid (D3 w7 b4 (p, g, s)) := hid (HD6.out.below hb7)
 have HS7 : Hid (b4 < w7.heap.size ∧ B + 4 ≤ b4) := hid (by have := (Array.getElem?_eq_some_iff.1 HD6.out).1; have := hb7.size; have := HB4.out; have := HS5.out; omega)
 have HSS7 := hid hss
 obtain ⟨b5, hb5⟩ : ∃ b, b = w7.heap.size := ⟨_, rfl⟩
 have HB5 := hid hb5
 clear hb7 hss x1 hb5
 go_upto_region 3 with (refine store_sh rfl (.tmp 11) (.tmp 27) rfl _ rfl sa sn sc l r rfl _ (shape_zero w7) rfl ?_; rw [← HB5.out]; intro w8 h8 ho8; have HH8 := hid h8; have HB78 : Hid (Below w7.heap.size w7 w8) := hid ((below_alloc w7 _).trans (ho8.below (by rw [HB5.out]; exact Nat.le_refl _))); clear h8 ho8)
 have HW8 := hid (HW7.out.below HB78.out)
 have HD8 : Hid (D3 w8 b4 (p, g, s)) := hid (HD7.out.below HB78.out)
 have HSS8 : Hid (Ss w8 sa sn sc P) := hid (HSS7.out.below HB78.out)
 have HS8 : Hid (B + 4 ≤ b4 ∧ b4 < b5 ∧ b5 < w8.heap.size) := hid ⟨HS7.out.2, by rw [HB5.out]; exact HS7.out.1, (Array.getElem?_eq_some_iff.1 HH8.out).1⟩
 clear HW4 HS4 HW5 HS5 HB4 HD6 HB56 HW6 HW7 HD7 HS7 HSS7 HB5 HB78 KOF
 have hfin : ∀ w', Below w8.heap.size w8 w' → Below w.heap.size w w' := fun w' hb => HW8.out.fb.trans (hb.mono HW8.out.fb.size)
 have HFIN := hid hfin
 clear hfin
 cases ok with
 | false =>
  have hv : V = false := by
   rw [HV.out]
   have h0 := HOK.out
   unfold opP
   rw [← HXQ.out]
   cases hf : findO L xn with
   | none => rfl
   | some o => rw [hf] at h0; cases h0
  subst hv
  go_quiet (fail)
  go_wp2
  go_ret
  exact ⟨rfl, HFIN.out _ (below_drewN (Below.refl _ _) _)⟩
 | true =>
  have HFO : Hid (findO L xn = some (p, g, s)) := hid (by
   have h0 := HOK.out
   cases hf : findO L xn with
   | none => rw [hf] at h0; cases h0
   | some o => rw [HOF.out o hf])
  clear HOF HOK
  cases hep : (ep == 0) with
  | false =>
   have hv : V = false := by
    rw [HV.out]
    unfold opP
    rw [← HXQ.out, HFO.out]
    have h0 := HP.out.2 (by simpa using hep)
    dsimp only
    rw [h0]
   subst hv
   have hep1 : (ep != 0) = true := by simp only [bne, hep, Bool.not_false]
   go_quiet (fail)
   go_wp2
   go_ret
   exact ⟨rfl, HFIN.out _ (below_drewN (Below.refl _ _) _)⟩
  | true =>
   have hep0 : ep = 0 := by simpa using hep
   subst hep0
   clear hep
   have hOS := HP.out.1 rfl
   have HWEL : Hid (P ≠ [] ∧ (∀ q ∈ P, q ≠ []) ∧ P.length ≤ 1000000) := hid (by
    obtain ⟨_, _, hq, hw, _⟩ := ofS_some hOS
    refine ⟨hw.1, fun q hq => (hw.2 q hq).1, ?_⟩
    have h4 : ¬ 4 < P.length := fun h4 => by
     rw [shM_big (s := ⟨P, l, r⟩) h4] at hq
     cases hq
    omega)
   obtain ⟨N, hN⟩ : ∃ N, N = holN (alI l P r) := ⟨_, rfl⟩
   have HNN := hid hN
   have KH : Hid (∀ w', Below w8.heap.size w8 w' → Calls Tryz.prog 107 #[.agg #[.slice sa sn sc, .bool l, .bool r]] w' fun e w'' => e = .returned (.int .i64 (N : Int)) ∧ Below w'.heap.size w' w'') := hid fun w' hb => by
    rw [hN]
    exact holes_any sa sn sc P l r w' (HSS8.out.below hb) HWEL.out.2.1 (by rw [← Ss.len HSS8.out]; exact HWEL.out.2.2)
   have HV2 : Hid (V = (kn == N && ((!l || (match K.head? with | some c => mayH L z (p, g, s) c false | none => false)) && ((!r || (match K.getLast? with | some c => mayH L z (p, g, s) c true | none => false)) && alB tok x.t (alI l P r) x.f K)))) := hid (by
    rw [HV.out]
    unfold opP
    rw [← HXQ.out, HFO.out]
    dsimp only
    rw [hOS]
    dsimp only
    rw [← hN, NdS.len HW8.out.fd]
    rfl)
   have HK3 : Hid (∀ w', Below w8.heap.size w8 w' → w'.cell? ⟨b3, 0, none⟩ = some (.slice ka kn kc) ∧ w'.cell? ⟨b5, 0, none⟩ = some (.slice sa sn sc) ∧ w'.cell? ⟨b5, 1, none⟩ = some (.bool l) ∧ w'.cell? ⟨b5, 2, none⟩ = some (.bool r)) := hid fun w' hb => by
    obtain ⟨⟨y0, y1, y2⟩, _⟩ := three (cells3 HH8.out hb)
    exact ⟨(HW8.out.fk.below hb).cell, y0, y1, y2⟩
   clear hN hOS HV HP
   refine wp_region_noPanic ?_
   refine wp_region_held_drew (S := fun w' => w'.cell? ⟨b3, 0, none⟩ = some (.slice ka kn kc) ∧ w'.cell? ⟨b5, 0, none⟩ = some (.slice sa sn sc) ∧ w'.cell? ⟨b5, 1, none⟩ = some (.bool l) ∧ w'.cell? ⟨b5, 2, none⟩ = some (.bool r)) (by kernel_rfl) (HK3.out _ (Below.refl _ _).drew) (fun hHeld => ?_)
   refine zG 0 rfl ?_
   try simp only [Act.put, aS, aZ, aC]
   refine zG 1 rfl ?_
   try simp only [Act.put, aS, aZ, aC]
   refine zG 2 rfl ?_
   try simp only [Act.put, aS, aZ, aC]
   refine zG 3 rfl ?_
   try simp only [Act.put, aS, aZ, aC]
   refine zG 4 rfl ?_
   try simp only [Act.put, aS, aZ, aC]
   refine zG 5 rfl ?_
   try simp only [Act.put, aS, aZ, aC]
   refine zG 6 rfl ?_
   try simp only [Act.put, aS, aZ, aC]
   refine zG 7 rfl ?_
   try simp only [Act.put, aS, aZ, aC]
   refine zG 8 rfl ?_
   try simp only [Act.put, aS, aZ, aC]
   refine zG 9 rfl ?_
   try simp only [Act.put, aS, aZ, aC]
   refine zR [10] ?_
   refine hDo rfl (fun K hK => ?_) ?_
   ·go_simp
    (go_at_call 107; (with_reducible refine (KH.out _ (Below.refl _ _).drew).mono ?_); rintro e w9 ⟨rfl, hb9⟩)
    have HB89 : Hid (Below w8.heap.size w8 w9) := hid ((Below.refl _ _).drew.trans hb9)
    clear hb9
    refine hK.out _ _ (HK3.out _ HB89.out) (fun hHeld => ?_)
    clear hK K
    try simp only [Act.put, aS, aZ, aC]
    refine zG 11 rfl ?_
    try simp only [Act.put, aS, aZ, aC]
    refine zG 12 rfl ?_
    try simp only [Act.put, aS, aZ, aC]
    refine wpAnyH_done (by kernel_rfl) ?_ _
    refine NoPanic.normal ?_
    by_cases hkN : kn = N
    ·have HW9 := hid (HW8.out.below HB89.out)
     have HD9 : Hid (D3 w9 b4 (p, g, s)) := hid (HD8.out.below HB89.out)
     have HH9 := hid (cells3 HH8.out HB89.out)
     have HSS9 : Hid (Ss w9 sa sn sc P) := hid (HSS8.out.below HB89.out)
     have HS9 : Hid (B + 4 ≤ b4 ∧ b4 < b5 ∧ b5 < w9.heap.size) := hid (by have := HS8.out; have := HB89.out.size; omega)
     have HF9 : Hid (∀ w', Below w9.heap.size w9 w' → Below w.heap.size w w') := hid fun w' hb => HFIN.out w' (HB89.out.trans (hb.mono HB89.out.size))
     have HKN : Hid (kn = holN (alI l P r)) := hid (by rw [hkN]; exact HNN.out)
     obtain ⟨V5, hV5⟩ : ∃ v, v = alB tok x.t (alI l P r) x.f K := ⟨_, rfl⟩
     have HV5 := hid hV5
     obtain ⟨f1, hf1⟩ : ∃ v, v = (match K.head? with | some c => mayH L z (p, g, s) c false | none => false) := ⟨_, rfl⟩
     obtain ⟨f2, hf2⟩ : ∃ v, v = (match K.getLast? with | some c => mayH L z (p, g, s) c true | none => false) := ⟨_, rfl⟩
     have HVV : Hid (V = ((!l || f1) && ((!r || f2) && V5))) := hid (by rw [HV2.out, hf1, hf2, hV5, hkN, beq_self_eq_true, Bool.true_and])
     have HKL : Hid (K.length = kn) := hid (NdS.len HW9.out.fd)
     have hPL : p.length ≤ 1000000 := by
      have h1 := HL.out _ (List.mem_of_find?_eq_some HFO.out)
      exact h1
     have HPL := hid hPL
     have KF : Hid (∀ (y : ND) (rt : Bool) (w' : World), Below w9.heap.size w9 w' → Calls Tryz.prog 108 #[.agg (ev a n c z), .agg #[.string (mk p), .int .i64 g, .int .i64 s], .agg #[.int .i64 y.k, .string (mk y.n), .int .i64 y.f, .int .i64 y.t, .int .i64 y.c], .bool rt] w' fun e w'' => e = .returned (.bool (mayH L z (p, g, s) y rt)) ∧ Below w'.heap.size w' w'') := hid fun y rt w' hb =>
      fitN_any a n c L z p g s y rt w' (HW9.out.fT.keep hb) (HW9.out.fo.below hb) HZ.out HR.out hn HPL.out HL.out
     have KAL : Hid (∀ (ba : Nat) (wA : World), Below w9.heap.size w9 wA → B + 4 ≤ ba → C1 wA ba 3 (.int .i64 x.f) → Calls Tryz.prog 112 #[.agg #[.slice sa sn sc, .bool l, .bool r], .func (.func 109) #[] #[.pointer (some ⟨ba, 0, none⟩), .pointer (some ⟨b2, 0, none⟩), .pointer (some ⟨b1, 0, none⟩)], .func (.func 111) #[] #[.pointer (some ⟨b3, 0, none⟩), .pointer (some ⟨ba, 0, none⟩)]] wA fun e w' =>
        ∃ b, e = .returned (.bool b) ∧ (b = true → ∃ at_ : Nat, C1 w' ba 3 (.int .i64 (at_ : Int)) ∧ N5 w' b2 x ∧ V5 = ((at_ : Int) == x.t)) ∧ (b = false → V5 = false) ∧ Below B wA w') := hid fun ba wA hb hba hA => by
      rw [HV5.out]
      exact along_oper (HW9.out.below hb) HBB.out.2 hba hA (HSS9.out.below hb) HWEL.out.2.1 HWEL.out.2.2 hln HG.out HKG.out HKN.out
     have hcmp : ((kn : Int) != (N : Int)) = false := by rw [hkN]; simp
     clear hV5 hkN HV2 KH HK3 HFIN HW8 HD8 HH8 HSS8 HS8 HNN HSS9 hPL
     go_wp2_with fail
     clear hcmp
     cases l with
     | false =>
      cases r with
      | false =>
       have HK5 : Hid (∀ w', Below w9.heap.size w9 w' → w'.cell? ⟨b5, 1, none⟩ = some (.bool false) ∧ w'.cell? ⟨b5, 2, none⟩ = some (.bool false)) := hid fun w' hb => by
        obtain ⟨⟨_, y1, y2⟩, _⟩ := three (cells3 HH9.out hb)
        exact ⟨y1, y2⟩
       refine wp_region_noPanic ?_
       refine wp_region_held_drew (S := fun w' => w'.cell? ⟨b5, 1, none⟩ = some (.bool false) ∧ w'.cell? ⟨b5, 2, none⟩ = some (.bool false)) (by kernel_rfl) (HK5.out _ (Below.refl _ _).drew) (fun hHeld => ?_)
       refine zG 0 rfl ?_
       try simp only [Act.put, aS, aZ, aC]
       refine zG 1 rfl ?_
       try simp only [Act.put, aS, aZ, aC]
       refine zG 2 rfl ?_
       try simp only [Act.put, aS, aZ, aC]
       refine hTn 3 rfl (by kernel_rfl) (fun _ _ _ h => h) (by rfl) (by assumption) ?_
       try simp only [Act.put, aS, aZ, aC]
       refine hTn 4 rfl (by kernel_rfl) (fun _ _ _ h => h) (by rfl) (by assumption) ?_
       try simp only [Act.put, aS, aZ, aC]
       refine hTn 5 rfl (by kernel_rfl) (fun _ _ _ h => h) (by rfl) (by assumption) ?_
       try simp only [Act.put, aS, aZ, aC]
       refine hTn 6 rfl (by kernel_rfl) (fun _ _ _ h => h) (by rfl) (by assumption) ?_
       try simp only [Act.put, aS, aZ, aC]
       refine hTn 7 rfl (by kernel_rfl) (fun _ _ _ h => h) (by rfl) (by assumption) ?_
       try simp only [Act.put, aS, aZ, aC]
       refine hTn 8 rfl (by kernel_rfl) (fun _ _ _ h => h) (by rfl) (by assumption) ?_
       try simp only [Act.put, aS, aZ, aC]
       refine hTn 9 rfl (by kernel_rfl) (fun _ _ _ h => h) (by rfl) (by assumption) ?_
       try simp only [Act.put, aS, aZ, aC]
       refine zG 10 rfl ?_
       try simp only [Act.put, aS, aZ, aC]
       refine zG 11 rfl ?_
       try simp only [Act.put, aS, aZ, aC]
       refine zG 12 rfl ?_
       try simp only [Act.put, aS, aZ, aC]
       refine zG 13 rfl ?_
       try simp only [Act.put, aS, aZ, aC]
       refine zG 14 rfl ?_
       try simp only [Act.put, aS, aZ, aC]
       refine hTn 15 rfl (by kernel_rfl) (fun _ _ _ h => h) (by rfl) (by assumption) ?_
       try simp only [Act.put, aS, aZ, aC]
       refine hTn 16 rfl (by kernel_rfl) (fun _ _ _ h => h) (by rfl) (by assumption) ?_
       try simp only [Act.put, aS, aZ, aC]
       refine hTn 17 rfl (by kernel_rfl) (fun _ _ _ h => h) (by rfl) (by assumption) ?_
       try simp only [Act.put, aS, aZ, aC]
       refine hTn 18 rfl (by kernel_rfl) (fun _ _ _ h => h) (by rfl) (by assumption) ?_
       try simp only [Act.put, aS, aZ, aC]
       refine hTn 19 rfl (by kernel_rfl) (fun _ _ _ h => h) (by rfl) (by assumption) ?_
       try simp only [Act.put, aS, aZ, aC]
       refine hTn 20 rfl (by kernel_rfl) (fun _ _ _ h => h) (by rfl) (by assumption) ?_
       try simp only [Act.put, aS, aZ, aC]
       refine hTn 21 rfl (by kernel_rfl) (fun _ _ _ h => h) (by rfl) (by assumption) ?_
       try simp only [Act.put, aS, aZ, aC]
       refine hTn 22 rfl (by kernel_rfl) (fun _ _ _ h => h) (by rfl) (by assumption) ?_
       try simp only [Act.put, aS, aZ, aC]
       refine hTn 23 rfl (by kernel_rfl) (fun _ _ _ h => h) (by rfl) (by assumption) ?_
       try simp only [Act.put, aS, aZ, aC]
       refine hTn 24 rfl (by kernel_rfl) (fun _ _ _ h => h) (by rfl) (by assumption) ?_
       try simp only [Act.put, aS, aZ, aC]
       refine zG 25 rfl ?_
       try simp only [Act.put, aS, aZ, aC]
       refine zG 26 rfl ?_
       try simp only [Act.put, aS, aZ, aC]
       refine wpAnyH_done (by kernel_rfl) ?_ _
       refine NoPanic.normal ?_
       obtain ⟨wE, hwE⟩ : ∃ wE, wE = w9.drew := ⟨_, rfl⟩
       rw [← hwE]
       have HwE : Hid (Below w9.heap.size w9 wE) := hid (by rw [hwE]; exact (Below.refl _ _).drew)
       clear hwE
       have HWE := hid (HW9.out.below HwE.out)
       have HHE := hid (cells3 HH9.out HwE.out)
       have e2 := HWE.out.fn.cells.2.2.1
       obtain ⟨xf, hxf⟩ : ∃ q, q = x.f := ⟨_, rfl⟩
       have HXF := hid hxf
       rw [← hxf] at e2
       obtain ⟨ba, hba⟩ : ∃ b, b = wE.heap.size := ⟨_, rfl⟩
       have HBA := hid hba
       have HSZ : Hid (B + 4 ≤ ba) := hid (by have := HS9.out; have := HwE.out.size; omega)
       clear hba hxf
       go_wp2_with (refine store_c1 rfl 3 (.tmp 13) (.tmp 70) rfl _ rfl (.int .i64 xf) rfl nint1 rfl rfl 3 (.int .i64 0) (C1.new wE 3 (.int .i64 0)) ?_; rw [← HBA.out]; intro wA hA hoA; have HA := hid hA; have HBEA : Hid (Below wE.heap.size wE wA) := hid ((below_alloc wE _).trans (hoA.below (by rw [HBA.out]; exact Nat.le_refl _))); obtain ⟨⟨y0, y1, y2⟩, _⟩ := three (cells3 HHE.out HBEA.out); clear hA hoA e2)
       refine (KAL.out ba wA (HwE.out.trans (HBEA.out.mono HwE.out.size)) HSZ.out (by rw [← HXF.out]; exact HA.out)).mono ?_
       rintro e wB ⟨bb, rfl, h1, h2, h3⟩
       have HFB : Hid (Below w.heap.size w wB) := hid ((HF9.out wA (HwE.out.trans (HBEA.out.mono HwE.out.size))).trans (h3.mono (by rw [← HBB.out.1]; exact Nat.le_refl _)))
       cases bb with
       | false =>
        have hv5 := h2 rfl
        have hv : V = false := by rw [HVV.out, hv5]; simp
        subst hv
        clear h1 h2 h3 hv5 y0 y1 y2
        go_wp2
        go_ret
        exact ⟨rfl, HFB.out⟩
       | true =>
        obtain ⟨at_, g1, g2, g3⟩ := h1 rfl
        have a0 := g1.cell
        have a3 := g2.cells.2.2.2.1
        obtain ⟨xt, hxt⟩ : ∃ q, q = x.t := ⟨_, rfl⟩
        rw [← hxt] at a3 g3
        have HVQ : Hid (V = ((at_ : Int) == xt)) := hid (by rw [HVV.out, g3]; simp)
        clear h1 h2 h3 g1 g2 g3 hxt y0 y1 y2
        go_wp2
        go_ret
        exact ⟨by rw [HVQ.out]; rfl, HFB.out⟩
      | true =>
       obtain ⟨m, rfl⟩ : ∃ m, kn = m + 1 := ⟨kn - 1, by
        have h0 := alI_hol P false true HWEL.out.2.1 HWEL.out.1
        have h1 : 0 < holN (alI false P true) := by first | exact h0.1 rfl | exact h0.2 rfl
        have h3 := HKN.out
        omega⟩
       obtain ⟨kb, ko, rfl, _, hc⟩ := HW9.out.fd.at_ (by omega)
       clear hc
       obtain ⟨y, hy⟩ : ∃ q, q = nA K 0 := ⟨_, rfl⟩
       obtain ⟨v, hv⟩ : ∃ q, q = nA K m := ⟨_, rfl⟩
       have hhd : K.head? = some y := by
        rw [hy, nA_eq (by rw [HKL.out]; omega)]
        cases K with
        | nil => have := HKL.out; simp at this
        | cons u K => rfl
       have hls : K.getLast? = some v := by
        rw [hv, nA_eq (by rw [HKL.out]; omega), List.getLast?_eq_getElem?, List.getElem?_eq_getElem (by rw [HKL.out]; omega)]
        congr 2
        rw [HKL.out]; omega
       rw [hhd] at hf1
       rw [hls] at hf2
       have K1 : Hid (∀ w', Below w9.heap.size w9 w' → Calls Tryz.prog 108 #[.agg (ev a n c z), .agg #[.string (mk p), .int .i64 g, .int .i64 s], .agg #[.int .i64 y.k, .string (mk y.n), .int .i64 y.f, .int .i64 y.t, .int .i64 y.c], .bool false] w' fun e w'' => e = .returned (.bool f1) ∧ Below w'.heap.size w' w'') := hid fun w' hb => by rw [hf1]; exact KF.out y false w' hb
       have K2 : Hid (∀ w', Below w9.heap.size w9 w' → Calls Tryz.prog 108 #[.agg (ev a n c z), .agg #[.string (mk p), .int .i64 g, .int .i64 s], .agg #[.int .i64 v.k, .string (mk v.n), .int .i64 v.f, .int .i64 v.t, .int .i64 v.c], .bool true] w' fun e w'' => e = .returned (.bool f2) ∧ Below w'.heap.size w' w'') := hid fun w' hb => by rw [hf2]; exact KF.out v true w' hb
       have HK5 : Hid (∀ w', Below w9.heap.size w9 w' → EB w' B a n c z ∧ w'.cell? ⟨b3, 0, none⟩ = some (.slice (some ⟨kb, ko, none⟩) (m + 1) kc) ∧ w'.cell? ⟨b5, 1, none⟩ = some (.bool false) ∧ w'.cell? ⟨b5, 2, none⟩ = some (.bool true) ∧ w'.cell? ⟨b4, 0, none⟩ = some (.string (mk p)) ∧ w'.cell? ⟨b4, 1, none⟩ = some (.int .i64 g) ∧ w'.cell? ⟨b4, 2, none⟩ = some (.int .i64 s) ∧ w'.cell? ⟨kb, ko, none⟩ = some (.int .i64 y.k) ∧ w'.cell? ⟨kb, ko + 1, none⟩ = some (.string (mk y.n)) ∧ w'.cell? ⟨kb, ko + 2, none⟩ = some (.int .i64 y.f) ∧ w'.cell? ⟨kb, ko + 3, none⟩ = some (.int .i64 y.t) ∧ w'.cell? ⟨kb, ko + 4, none⟩ = some (.int .i64 y.c) ∧ w'.cell? ⟨kb, ko + m * 5, none⟩ = some (.int .i64 v.k) ∧ w'.cell? ⟨kb, ko + m * 5 + 1, none⟩ = some (.string (mk v.n)) ∧ w'.cell? ⟨kb, ko + m * 5 + 2, none⟩ = some (.int .i64 v.f) ∧ w'.cell? ⟨kb, ko + m * 5 + 3, none⟩ = some (.int .i64 v.t) ∧ w'.cell? ⟨kb, ko + m * 5 + 4, none⟩ = some (.int .i64 v.c)) := hid fun w' hb => by
        obtain ⟨⟨_, y1, y2⟩, _⟩ := three (cells3 HH9.out hb)
        obtain ⟨o0, o1, o2⟩ := (HD9.out.below hb).cells
        have hd := HW9.out.fd.below hb
        obtain ⟨c0, c1, c2, c3, c4⟩ := NdS.at5 hd (show 0 < m + 1 by omega)
        obtain ⟨d0, d1, d2, d3, d4⟩ := NdS.at5 hd (show m < m + 1 by omega)
        rw [← hy, Nat.zero_mul, Nat.add_zero] at c0 c1 c2 c3 c4
        rw [← hv] at d0 d1 d2 d3 d4
        exact ⟨HW9.out.fe.below hb, (HW9.out.fk.below hb).cell, y1, y2, o0, o1, o2, c0, c1, c2, c3, c4, d0, d1, d2, d3, d4⟩
       have hm1 : ((m + 1 : Nat) : Int) - 1 = (m : Int) := by omega
       have hm2 : m ≤ 1000000 := by omega
       have hm3 : IntKind.i64.wrap (m : Int) = (m : Int) := IntWalk.i64_in _ (by omega)
       have hm4 : (m : Int) < (m : Int) + 1 := by omega
       clear hf1 hf2 hhd hls hy hv KF
       cases f2 with
       | false =>
        refine wp_region_noPanic ?_
        refine wp_region_held_drew (S := fun w' => EB w' B a n c z ∧ w'.cell? ⟨b3, 0, none⟩ = some (.slice (some ⟨kb, ko, none⟩) (m + 1) kc) ∧ w'.cell? ⟨b5, 1, none⟩ = some (.bool false) ∧ w'.cell? ⟨b5, 2, none⟩ = some (.bool true) ∧ w'.cell? ⟨b4, 0, none⟩ = some (.string (mk p)) ∧ w'.cell? ⟨b4, 1, none⟩ = some (.int .i64 g) ∧ w'.cell? ⟨b4, 2, none⟩ = some (.int .i64 s) ∧ w'.cell? ⟨kb, ko, none⟩ = some (.int .i64 y.k) ∧ w'.cell? ⟨kb, ko + 1, none⟩ = some (.string (mk y.n)) ∧ w'.cell? ⟨kb, ko + 2, none⟩ = some (.int .i64 y.f) ∧ w'.cell? ⟨kb, ko + 3, none⟩ = some (.int .i64 y.t) ∧ w'.cell? ⟨kb, ko + 4, none⟩ = some (.int .i64 y.c) ∧ w'.cell? ⟨kb, ko + m * 5, none⟩ = some (.int .i64 v.k) ∧ w'.cell? ⟨kb, ko + m * 5 + 1, none⟩ = some (.string (mk v.n)) ∧ w'.cell? ⟨kb, ko + m * 5 + 2, none⟩ = some (.int .i64 v.f) ∧ w'.cell? ⟨kb, ko + m * 5 + 3, none⟩ = some (.int .i64 v.t) ∧ w'.cell? ⟨kb, ko + m * 5 + 4, none⟩ = some (.int .i64 v.c)) (by kernel_rfl) (HK5.out _ (Below.refl _ _).drew) (fun hHeld => ?_)
        refine zG 0 rfl ?_
        try simp only [Act.put, aS, aZ, aC]
        refine zG 1 rfl ?_
        try simp only [Act.put, aS, aZ, aC]
        refine zG 2 rfl ?_
        try simp only [Act.put, aS, aZ, aC]
        refine hTn 3 rfl (by kernel_rfl) (fun _ _ _ h => h) (by rfl) (by assumption) ?_
        try simp only [Act.put, aS, aZ, aC]
        refine hTn 4 rfl (by kernel_rfl) (fun _ _ _ h => h) (by rfl) (by assumption) ?_
        try simp only [Act.put, aS, aZ, aC]
        refine hTn 5 rfl (by kernel_rfl) (fun _ _ _ h => h) (by rfl) (by assumption) ?_
        try simp only [Act.put, aS, aZ, aC]
        refine hTn 6 rfl (by kernel_rfl) (fun _ _ _ h => h) (by rfl) (by assumption) ?_
        try simp only [Act.put, aS, aZ, aC]
        refine hTn 7 rfl (by kernel_rfl) (fun _ _ _ h => h) (by rfl) (by assumption) ?_
        try simp only [Act.put, aS, aZ, aC]
        refine hTn 8 rfl (by kernel_rfl) (fun _ _ _ h => h) (by rfl) (by assumption) ?_
        try simp only [Act.put, aS, aZ, aC]
        refine hTn 9 rfl (by kernel_rfl) (fun _ _ _ h => h) (by rfl) (by assumption) ?_
        try simp only [Act.put, aS, aZ, aC]
        refine zG 10 rfl ?_
        try simp only [Act.put, aS, aZ, aC]
        refine zG 11 rfl ?_
        try simp only [Act.put, aS, aZ, aC]
        refine zG 12 rfl ?_
        try simp only [Act.put, aS, aZ, aC]
        refine zG 13 rfl ?_
        try simp only [Act.put, aS, aZ, aC]
        refine zG 14 rfl ?_
        try simp only [Act.put, aS, aZ, aC]
        refine take_env (i := 15) (oi := { dst := some 57, op := Op.load 30 (Operand.tmp 4), type := 30, pos := "tree.go:106", after := #[{ on := 14, ground := Ground.guard }], guard := some (14, true) }) (Operand.tmp 4) rfl (by kernel_rfl) (by kernel_rfl) (by kernel_rfl) a n c (z) (fun _ _ _ h => h) (by rfl) rfl (B) rfl (HZ.out) (fun w h => h.1) (by assumption) ?_
        try simp only [Act.put, aS, aZ, aC]
        refine zG 16 rfl ?_
        try simp only [Act.put, aS, aZ, aC]
        refine zG 17 rfl ?_
        try simp only [Act.put, aS, aZ, aC]
        refine zG 18 rfl ?_
        try simp only [Act.put, aS, aZ, aC]
        refine zG 19 rfl ?_
        try simp only [Act.put, aS, aZ, aC]
        refine zG 20 rfl ?_
        try simp only [Act.put, aS, aZ, aC]
        refine zG 21 rfl ?_
        try simp only [Act.put, aS, aZ, aC]
        refine zG 22 rfl ?_
        try simp only [Act.put, aS, aZ, aC]
        refine zR [23] ?_
        refine hDo rfl (fun K hK => ?_) ?_
        ·go_simp
         (go_at_call 108; (with_reducible refine (K2.out _ (Below.refl w9.heap.size w9).drew).mono ?_); rintro e wE ⟨rfl, hbwE⟩)
         have HwE : Hid (Below w9.heap.size w9 wE) := hid (((Below.refl w9.heap.size w9).drew).trans (hbwE.mono ((Below.refl w9.heap.size w9).drew).size))
         clear hbwE
         refine hK.out _ _ (HK5.out _ HwE.out) (fun hHeld => ?_)
         clear hK K
         try simp only [Act.put, aS, aZ, aC]
         refine zG 24 rfl ?_
         try simp only [Act.put, aS, aZ, aC]
         refine zG 25 rfl ?_
         try simp only [Act.put, aS, aZ, aC]
         refine zG 26 rfl ?_
         try simp only [Act.put, aS, aZ, aC]
         refine wpAnyH_done (by kernel_rfl) ?_ _
         refine NoPanic.normal ?_
         have hv : V = false := by rw [HVV.out]; simp
         subst hv
         go_wp2
         go_ret
         exact ⟨rfl, HF9.out _ HwE.out⟩
        ·exact AllReadyH.nil
       | true =>
        refine wp_region_noPanic ?_
        refine wp_region_held_drew (S := fun w' => EB w' B a n c z ∧ w'.cell? ⟨b3, 0, none⟩ = some (.slice (some ⟨kb, ko, none⟩) (m + 1) kc) ∧ w'.cell? ⟨b5, 1, none⟩ = some (.bool false) ∧ w'.cell? ⟨b5, 2, none⟩ = some (.bool true) ∧ w'.cell? ⟨b4, 0, none⟩ = some (.string (mk p)) ∧ w'.cell? ⟨b4, 1, none⟩ = some (.int .i64 g) ∧ w'.cell? ⟨b4, 2, none⟩ = some (.int .i64 s) ∧ w'.cell? ⟨kb, ko, none⟩ = some (.int .i64 y.k) ∧ w'.cell? ⟨kb, ko + 1, none⟩ = some (.string (mk y.n)) ∧ w'.cell? ⟨kb, ko + 2, none⟩ = some (.int .i64 y.f) ∧ w'.cell? ⟨kb, ko + 3, none⟩ = some (.int .i64 y.t) ∧ w'.cell? ⟨kb, ko + 4, none⟩ = some (.int .i64 y.c) ∧ w'.cell? ⟨kb, ko + m * 5, none⟩ = some (.int .i64 v.k) ∧ w'.cell? ⟨kb, ko + m * 5 + 1, none⟩ = some (.string (mk v.n)) ∧ w'.cell? ⟨kb, ko + m * 5 + 2, none⟩ = some (.int .i64 v.f) ∧ w'.cell? ⟨kb, ko + m * 5 + 3, none⟩ = some (.int .i64 v.t) ∧ w'.cell? ⟨kb, ko + m * 5 + 4, none⟩ = some (.int .i64 v.c)) (by kernel_rfl) (HK5.out _ (Below.refl _ _).drew) (fun hHeld => ?_)
        refine zG 0 rfl ?_
        try simp only [Act.put, aS, aZ, aC]
        refine zG 1 rfl ?_
        try simp only [Act.put, aS, aZ, aC]
        refine zG 2 rfl ?_
        try simp only [Act.put, aS, aZ, aC]
        refine hTn 3 rfl (by kernel_rfl) (fun _ _ _ h => h) (by rfl) (by assumption) ?_
        try simp only [Act.put, aS, aZ, aC]
        refine hTn 4 rfl (by kernel_rfl) (fun _ _ _ h => h) (by rfl) (by assumption) ?_
        try simp only [Act.put, aS, aZ, aC]
        refine hTn 5 rfl (by kernel_rfl) (fun _ _ _ h => h) (by rfl) (by assumption) ?_
        try simp only [Act.put, aS, aZ, aC]
        refine hTn 6 rfl (by kernel_rfl) (fun _ _ _ h => h) (by rfl) (by assumption) ?_
        try simp only [Act.put, aS, aZ, aC]
        refine hTn 7 rfl (by kernel_rfl) (fun _ _ _ h => h) (by rfl) (by assumption) ?_
        try simp only [Act.put, aS, aZ, aC]
        refine hTn 8 rfl (by kernel_rfl) (fun _ _ _ h => h) (by rfl) (by assumption) ?_
        try simp only [Act.put, aS, aZ, aC]
        refine hTn 9 rfl (by kernel_rfl) (fun _ _ _ h => h) (by rfl) (by assumption) ?_
        try simp only [Act.put, aS, aZ, aC]
        refine zG 10 rfl ?_
        try simp only [Act.put, aS, aZ, aC]
        refine zG 11 rfl ?_
        try simp only [Act.put, aS, aZ, aC]
        refine zG 12 rfl ?_
        try simp only [Act.put, aS, aZ, aC]
        refine zG 13 rfl ?_
        try simp only [Act.put, aS, aZ, aC]
        refine zG 14 rfl ?_
        try simp only [Act.put, aS, aZ, aC]
        refine take_env (i := 15) (oi := { dst := some 57, op := Op.load 30 (Operand.tmp 4), type := 30, pos := "tree.go:106", after := #[{ on := 14, ground := Ground.guard }], guard := some (14, true) }) (Operand.tmp 4) rfl (by kernel_rfl) (by kernel_rfl) (by kernel_rfl) a n c (z) (fun _ _ _ h => h) (by rfl) rfl (B) rfl (HZ.out) (fun w h => h.1) (by assumption) ?_
        try simp only [Act.put, aS, aZ, aC]
        refine zG 16 rfl ?_
        try simp only [Act.put, aS, aZ, aC]
        refine zG 17 rfl ?_
        try simp only [Act.put, aS, aZ, aC]
        refine zG 18 rfl ?_
        try simp only [Act.put, aS, aZ, aC]
        refine zG 19 rfl ?_
        try simp only [Act.put, aS, aZ, aC]
        refine zG 20 rfl ?_
        try simp only [Act.put, aS, aZ, aC]
        refine zG 21 rfl ?_
        try simp only [Act.put, aS, aZ, aC]
        refine zG 22 rfl ?_
        try simp only [Act.put, aS, aZ, aC]
        refine zR [23] ?_
        refine hDo rfl (fun K hK => ?_) ?_
        ·go_simp
         (go_at_call 108; (with_reducible refine (K2.out _ (Below.refl w9.heap.size w9).drew).mono ?_); rintro e wE ⟨rfl, hbwE⟩)
         have HwE : Hid (Below w9.heap.size w9 wE) := hid (((Below.refl w9.heap.size w9).drew).trans (hbwE.mono ((Below.refl w9.heap.size w9).drew).size))
         clear hbwE
         refine hK.out _ _ (HK5.out _ HwE.out) (fun hHeld => ?_)
         clear hK K
         try simp only [Act.put, aS, aZ, aC]
         refine zG 24 rfl ?_
         try simp only [Act.put, aS, aZ, aC]
         refine zG 25 rfl ?_
         try simp only [Act.put, aS, aZ, aC]
         refine zG 26 rfl ?_
         try simp only [Act.put, aS, aZ, aC]
         refine wpAnyH_done (by kernel_rfl) ?_ _
         refine NoPanic.normal ?_
         have HWE := hid (HW9.out.below HwE.out)
         have HHE := hid (cells3 HH9.out HwE.out)
         have e2 := HWE.out.fn.cells.2.2.1
         obtain ⟨xf, hxf⟩ : ∃ q, q = x.f := ⟨_, rfl⟩
         have HXF := hid hxf
         rw [← hxf] at e2
         obtain ⟨ba, hba⟩ : ∃ b, b = wE.heap.size := ⟨_, rfl⟩
         have HBA := hid hba
         have HSZ : Hid (B + 4 ≤ ba) := hid (by have := HS9.out; have := HwE.out.size; omega)
         clear hba hxf
         go_wp2_with (refine store_c1 rfl 3 (.tmp 13) (.tmp 70) rfl _ rfl (.int .i64 xf) rfl nint1 rfl rfl 3 (.int .i64 0) (C1.new wE 3 (.int .i64 0)) ?_; rw [← HBA.out]; intro wA hA hoA; have HA := hid hA; have HBEA : Hid (Below wE.heap.size wE wA) := hid ((below_alloc wE _).trans (hoA.below (by rw [HBA.out]; exact Nat.le_refl _))); obtain ⟨⟨y0, y1, y2⟩, _⟩ := three (cells3 HHE.out HBEA.out); clear hA hoA e2)
         refine (KAL.out ba wA (HwE.out.trans (HBEA.out.mono HwE.out.size)) HSZ.out (by rw [← HXF.out]; exact HA.out)).mono ?_
         rintro e wB ⟨bb, rfl, h1, h2, h3⟩
         have HFB : Hid (Below w.heap.size w wB) := hid ((HF9.out wA (HwE.out.trans (HBEA.out.mono HwE.out.size))).trans (h3.mono (by rw [← HBB.out.1]; exact Nat.le_refl _)))
         cases bb with
         | false =>
          have hv5 := h2 rfl
          have hv : V = false := by rw [HVV.out, hv5]; simp
          subst hv
          clear h1 h2 h3 hv5 y0 y1 y2
          go_wp2
          go_ret
          exact ⟨rfl, HFB.out⟩
         | true =>
          obtain ⟨at_, g1, g2, g3⟩ := h1 rfl
          have a0 := g1.cell
          have a3 := g2.cells.2.2.2.1
          obtain ⟨xt, hxt⟩ : ∃ q, q = x.t := ⟨_, rfl⟩
          rw [← hxt] at a3 g3
          have HVQ : Hid (V = ((at_ : Int) == xt)) := hid (by rw [HVV.out, g3]; simp)
          clear h1 h2 h3 g1 g2 g3 hxt y0 y1 y2
          go_wp2
          go_ret
          exact ⟨by rw [HVQ.out]; rfl, HFB.out⟩
        ·exact AllReadyH.nil
     | true =>
      cases r with
      | false =>
       obtain ⟨m, rfl⟩ : ∃ m, kn = m + 1 := ⟨kn - 1, by
        have h0 := alI_hol P true false HWEL.out.2.1 HWEL.out.1
        have h1 : 0 < holN (alI true P false) := by first | exact h0.1 rfl | exact h0.2 rfl
        have h3 := HKN.out
        omega⟩
       obtain ⟨kb, ko, rfl, _, hc⟩ := HW9.out.fd.at_ (by omega)
       clear hc
       obtain ⟨y, hy⟩ : ∃ q, q = nA K 0 := ⟨_, rfl⟩
       obtain ⟨v, hv⟩ : ∃ q, q = nA K m := ⟨_, rfl⟩
       have hhd : K.head? = some y := by
        rw [hy, nA_eq (by rw [HKL.out]; omega)]
        cases K with
        | nil => have := HKL.out; simp at this
        | cons u K => rfl
       have hls : K.getLast? = some v := by
        rw [hv, nA_eq (by rw [HKL.out]; omega), List.getLast?_eq_getElem?, List.getElem?_eq_getElem (by rw [HKL.out]; omega)]
        congr 2
        rw [HKL.out]; omega
       rw [hhd] at hf1
       rw [hls] at hf2
       have K1 : Hid (∀ w', Below w9.heap.size w9 w' → Calls Tryz.prog 108 #[.agg (ev a n c z), .agg #[.string (mk p), .int .i64 g, .int .i64 s], .agg #[.int .i64 y.k, .string (mk y.n), .int .i64 y.f, .int .i64 y.t, .int .i64 y.c], .bool false] w' fun e w'' => e = .returned (.bool f1) ∧ Below w'.heap.size w' w'') := hid fun w' hb => by rw [hf1]; exact KF.out y false w' hb
       have K2 : Hid (∀ w', Below w9.heap.size w9 w' → Calls Tryz.prog 108 #[.agg (ev a n c z), .agg #[.string (mk p), .int .i64 g, .int .i64 s], .agg #[.int .i64 v.k, .string (mk v.n), .int .i64 v.f, .int .i64 v.t, .int .i64 v.c], .bool true] w' fun e w'' => e = .returned (.bool f2) ∧ Below w'.heap.size w' w'') := hid fun w' hb => by rw [hf2]; exact KF.out v true w' hb
       have HK5 : Hid (∀ w', Below w9.heap.size w9 w' → EB w' B a n c z ∧ w'.cell? ⟨b3, 0, none⟩ = some (.slice (some ⟨kb, ko, none⟩) (m + 1) kc) ∧ w'.cell? ⟨b5, 1, none⟩ = some (.bool true) ∧ w'.cell? ⟨b5, 2, none⟩ = some (.bool false) ∧ w'.cell? ⟨b4, 0, none⟩ = some (.string (mk p)) ∧ w'.cell? ⟨b4, 1, none⟩ = some (.int .i64 g) ∧ w'.cell? ⟨b4, 2, none⟩ = some (.int .i64 s) ∧ w'.cell? ⟨kb, ko, none⟩ = some (.int .i64 y.k) ∧ w'.cell? ⟨kb, ko + 1, none⟩ = some (.string (mk y.n)) ∧ w'.cell? ⟨kb, ko + 2, none⟩ = some (.int .i64 y.f) ∧ w'.cell? ⟨kb, ko + 3, none⟩ = some (.int .i64 y.t) ∧ w'.cell? ⟨kb, ko + 4, none⟩ = some (.int .i64 y.c) ∧ w'.cell? ⟨kb, ko + m * 5, none⟩ = some (.int .i64 v.k) ∧ w'.cell? ⟨kb, ko + m * 5 + 1, none⟩ = some (.string (mk v.n)) ∧ w'.cell? ⟨kb, ko + m * 5 + 2, none⟩ = some (.int .i64 v.f) ∧ w'.cell? ⟨kb, ko + m * 5 + 3, none⟩ = some (.int .i64 v.t) ∧ w'.cell? ⟨kb, ko + m * 5 + 4, none⟩ = some (.int .i64 v.c)) := hid fun w' hb => by
        obtain ⟨⟨_, y1, y2⟩, _⟩ := three (cells3 HH9.out hb)
        obtain ⟨o0, o1, o2⟩ := (HD9.out.below hb).cells
        have hd := HW9.out.fd.below hb
        obtain ⟨c0, c1, c2, c3, c4⟩ := NdS.at5 hd (show 0 < m + 1 by omega)
        obtain ⟨d0, d1, d2, d3, d4⟩ := NdS.at5 hd (show m < m + 1 by omega)
        rw [← hy, Nat.zero_mul, Nat.add_zero] at c0 c1 c2 c3 c4
        rw [← hv] at d0 d1 d2 d3 d4
        exact ⟨HW9.out.fe.below hb, (HW9.out.fk.below hb).cell, y1, y2, o0, o1, o2, c0, c1, c2, c3, c4, d0, d1, d2, d3, d4⟩
       have hm1 : ((m + 1 : Nat) : Int) - 1 = (m : Int) := by omega
       have hm2 : m ≤ 1000000 := by omega
       have hm3 : IntKind.i64.wrap (m : Int) = (m : Int) := IntWalk.i64_in _ (by omega)
       have hm4 : (m : Int) < (m : Int) + 1 := by omega
       clear hf1 hf2 hhd hls hy hv KF
       cases f1 with
       | false =>
        refine wp_region_noPanic ?_
        refine wp_region_held_drew (S := fun w' => EB w' B a n c z ∧ w'.cell? ⟨b3, 0, none⟩ = some (.slice (some ⟨kb, ko, none⟩) (m + 1) kc) ∧ w'.cell? ⟨b5, 1, none⟩ = some (.bool true) ∧ w'.cell? ⟨b5, 2, none⟩ = some (.bool false) ∧ w'.cell? ⟨b4, 0, none⟩ = some (.string (mk p)) ∧ w'.cell? ⟨b4, 1, none⟩ = some (.int .i64 g) ∧ w'.cell? ⟨b4, 2, none⟩ = some (.int .i64 s) ∧ w'.cell? ⟨kb, ko, none⟩ = some (.int .i64 y.k) ∧ w'.cell? ⟨kb, ko + 1, none⟩ = some (.string (mk y.n)) ∧ w'.cell? ⟨kb, ko + 2, none⟩ = some (.int .i64 y.f) ∧ w'.cell? ⟨kb, ko + 3, none⟩ = some (.int .i64 y.t) ∧ w'.cell? ⟨kb, ko + 4, none⟩ = some (.int .i64 y.c) ∧ w'.cell? ⟨kb, ko + m * 5, none⟩ = some (.int .i64 v.k) ∧ w'.cell? ⟨kb, ko + m * 5 + 1, none⟩ = some (.string (mk v.n)) ∧ w'.cell? ⟨kb, ko + m * 5 + 2, none⟩ = some (.int .i64 v.f) ∧ w'.cell? ⟨kb, ko + m * 5 + 3, none⟩ = some (.int .i64 v.t) ∧ w'.cell? ⟨kb, ko + m * 5 + 4, none⟩ = some (.int .i64 v.c)) (by kernel_rfl) (HK5.out _ (Below.refl _ _).drew) (fun hHeld => ?_)
        refine zG 0 rfl ?_
        try simp only [Act.put, aS, aZ, aC]
        refine zG 1 rfl ?_
        try simp only [Act.put, aS, aZ, aC]
        refine zG 2 rfl ?_
        try simp only [Act.put, aS, aZ, aC]
        refine take_env (i := 3) (oi := { dst := some 45, op := Op.load 30 (Operand.tmp 4), type := 30, pos := "tree.go:106", after := #[{ on := 2, ground := Ground.guard }], guard := some (2, true) }) (Operand.tmp 4) rfl (by kernel_rfl) (by kernel_rfl) (by kernel_rfl) a n c (z) (fun _ _ _ h => h) (by rfl) rfl (B) rfl (HZ.out) (fun w h => h.1) (by assumption) ?_
        try simp only [Act.put, aS, aZ, aC]
        refine zG 4 rfl ?_
        try simp only [Act.put, aS, aZ, aC]
        refine zG 5 rfl ?_
        try simp only [Act.put, aS, aZ, aC]
        refine zG 6 rfl ?_
        try simp only [Act.put, aS, aZ, aC]
        refine zG 7 rfl ?_
        try simp only [Act.put, aS, aZ, aC]
        refine zR [8] ?_
        refine hDo rfl (fun K hK => ?_) ?_
        ·go_simp
         (go_at_call 108; (with_reducible refine (K1.out _ (Below.refl w9.heap.size w9).drew).mono ?_); rintro e wE ⟨rfl, hbwE⟩)
         have HwE : Hid (Below w9.heap.size w9 wE) := hid (((Below.refl w9.heap.size w9).drew).trans (hbwE.mono ((Below.refl w9.heap.size w9).drew).size))
         clear hbwE
         refine hK.out _ _ (HK5.out _ HwE.out) (fun hHeld => ?_)
         clear hK K
         try simp only [Act.put, aS, aZ, aC]
         refine zG 9 rfl ?_
         try simp only [Act.put, aS, aZ, aC]
         refine zG 10 rfl ?_
         try simp only [Act.put, aS, aZ, aC]
         refine zG 11 rfl ?_
         try simp only [Act.put, aS, aZ, aC]
         refine hTn 12 rfl (by kernel_rfl) (fun _ _ _ h => h) (by rfl) (by assumption) ?_
         try simp only [Act.put, aS, aZ, aC]
         refine hTn 13 rfl (by kernel_rfl) (fun _ _ _ h => h) (by rfl) (by assumption) ?_
         try simp only [Act.put, aS, aZ, aC]
         refine hTn 14 rfl (by kernel_rfl) (fun _ _ _ h => h) (by rfl) (by assumption) ?_
         try simp only [Act.put, aS, aZ, aC]
         refine hTn 15 rfl (by kernel_rfl) (fun _ _ _ h => h) (by rfl) (by assumption) ?_
         try simp only [Act.put, aS, aZ, aC]
         refine hTn 16 rfl (by kernel_rfl) (fun _ _ _ h => h) (by rfl) (by assumption) ?_
         try simp only [Act.put, aS, aZ, aC]
         refine hTn 17 rfl (by kernel_rfl) (fun _ _ _ h => h) (by rfl) (by assumption) ?_
         try simp only [Act.put, aS, aZ, aC]
         refine hTn 18 rfl (by kernel_rfl) (fun _ _ _ h => h) (by rfl) (by assumption) ?_
         try simp only [Act.put, aS, aZ, aC]
         refine hTn 19 rfl (by kernel_rfl) (fun _ _ _ h => h) (by rfl) (by assumption) ?_
         try simp only [Act.put, aS, aZ, aC]
         refine hTn 20 rfl (by kernel_rfl) (fun _ _ _ h => h) (by rfl) (by assumption) ?_
         try simp only [Act.put, aS, aZ, aC]
         refine hTn 21 rfl (by kernel_rfl) (fun _ _ _ h => h) (by rfl) (by assumption) ?_
         try simp only [Act.put, aS, aZ, aC]
         refine hTn 22 rfl (by kernel_rfl) (fun _ _ _ h => h) (by rfl) (by assumption) ?_
         try simp only [Act.put, aS, aZ, aC]
         refine hTn 23 rfl (by kernel_rfl) (fun _ _ _ h => h) (by rfl) (by assumption) ?_
         try simp only [Act.put, aS, aZ, aC]
         refine hTn 24 rfl (by kernel_rfl) (fun _ _ _ h => h) (by rfl) (by assumption) ?_
         try simp only [Act.put, aS, aZ, aC]
         refine hTn 25 rfl (by kernel_rfl) (fun _ _ _ h => h) (by rfl) (by assumption) ?_
         try simp only [Act.put, aS, aZ, aC]
         refine zG 26 rfl ?_
         try simp only [Act.put, aS, aZ, aC]
         refine wpAnyH_done (by kernel_rfl) ?_ _
         refine NoPanic.normal ?_
         have hv : V = false := by rw [HVV.out]; simp
         subst hv
         go_wp2
         go_ret
         exact ⟨rfl, HF9.out _ HwE.out⟩
        ·exact AllReadyH.nil
       | true =>
        refine wp_region_noPanic ?_
        refine wp_region_held_drew (S := fun w' => EB w' B a n c z ∧ w'.cell? ⟨b3, 0, none⟩ = some (.slice (some ⟨kb, ko, none⟩) (m + 1) kc) ∧ w'.cell? ⟨b5, 1, none⟩ = some (.bool true) ∧ w'.cell? ⟨b5, 2, none⟩ = some (.bool false) ∧ w'.cell? ⟨b4, 0, none⟩ = some (.string (mk p)) ∧ w'.cell? ⟨b4, 1, none⟩ = some (.int .i64 g) ∧ w'.cell? ⟨b4, 2, none⟩ = some (.int .i64 s) ∧ w'.cell? ⟨kb, ko, none⟩ = some (.int .i64 y.k) ∧ w'.cell? ⟨kb, ko + 1, none⟩ = some (.string (mk y.n)) ∧ w'.cell? ⟨kb, ko + 2, none⟩ = some (.int .i64 y.f) ∧ w'.cell? ⟨kb, ko + 3, none⟩ = some (.int .i64 y.t) ∧ w'.cell? ⟨kb, ko + 4, none⟩ = some (.int .i64 y.c) ∧ w'.cell? ⟨kb, ko + m * 5, none⟩ = some (.int .i64 v.k) ∧ w'.cell? ⟨kb, ko + m * 5 + 1, none⟩ = some (.string (mk v.n)) ∧ w'.cell? ⟨kb, ko + m * 5 + 2, none⟩ = some (.int .i64 v.f) ∧ w'.cell? ⟨kb, ko + m * 5 + 3, none⟩ = some (.int .i64 v.t) ∧ w'.cell? ⟨kb, ko + m * 5 + 4, none⟩ = some (.int .i64 v.c)) (by kernel_rfl) (HK5.out _ (Below.refl _ _).drew) (fun hHeld => ?_)
        refine zG 0 rfl ?_
        try simp only [Act.put, aS, aZ, aC]
        refine zG 1 rfl ?_
        try simp only [Act.put, aS, aZ, aC]
        refine zG 2 rfl ?_
        try simp only [Act.put, aS, aZ, aC]
        refine take_env (i := 3) (oi := { dst := some 45, op := Op.load 30 (Operand.tmp 4), type := 30, pos := "tree.go:106", after := #[{ on := 2, ground := Ground.guard }], guard := some (2, true) }) (Operand.tmp 4) rfl (by kernel_rfl) (by kernel_rfl) (by kernel_rfl) a n c (z) (fun _ _ _ h => h) (by rfl) rfl (B) rfl (HZ.out) (fun w h => h.1) (by assumption) ?_
        try simp only [Act.put, aS, aZ, aC]
        refine zG 4 rfl ?_
        try simp only [Act.put, aS, aZ, aC]
        refine zG 5 rfl ?_
        try simp only [Act.put, aS, aZ, aC]
        refine zG 6 rfl ?_
        try simp only [Act.put, aS, aZ, aC]
        refine zG 7 rfl ?_
        try simp only [Act.put, aS, aZ, aC]
        refine zR [8] ?_
        refine hDo rfl (fun K hK => ?_) ?_
        ·go_simp
         (go_at_call 108; (with_reducible refine (K1.out _ (Below.refl w9.heap.size w9).drew).mono ?_); rintro e wE ⟨rfl, hbwE⟩)
         have HwE : Hid (Below w9.heap.size w9 wE) := hid (((Below.refl w9.heap.size w9).drew).trans (hbwE.mono ((Below.refl w9.heap.size w9).drew).size))
         clear hbwE
         refine hK.out _ _ (HK5.out _ HwE.out) (fun hHeld => ?_)
         clear hK K
         try simp only [Act.put, aS, aZ, aC]
         refine zG 9 rfl ?_
         try simp only [Act.put, aS, aZ, aC]
         refine zG 10 rfl ?_
         try simp only [Act.put, aS, aZ, aC]
         refine zG 11 rfl ?_
         try simp only [Act.put, aS, aZ, aC]
         refine zG 12 rfl ?_
         try simp only [Act.put, aS, aZ, aC]
         refine zG 13 rfl ?_
         try simp only [Act.put, aS, aZ, aC]
         refine zG 14 rfl ?_
         try simp only [Act.put, aS, aZ, aC]
         refine hTn 15 rfl (by kernel_rfl) (fun _ _ _ h => h) (by rfl) (by assumption) ?_
         try simp only [Act.put, aS, aZ, aC]
         refine hTn 16 rfl (by kernel_rfl) (fun _ _ _ h => h) (by rfl) (by assumption) ?_
         try simp only [Act.put, aS, aZ, aC]
         refine hTn 17 rfl (by kernel_rfl) (fun _ _ _ h => h) (by rfl) (by assumption) ?_
         try simp only [Act.put, aS, aZ, aC]
         refine hTn 18 rfl (by kernel_rfl) (fun _ _ _ h => h) (by rfl) (by assumption) ?_
         try simp only [Act.put, aS, aZ, aC]
         refine hTn 19 rfl (by kernel_rfl) (fun _ _ _ h => h) (by rfl) (by assumption) ?_
         try simp only [Act.put, aS, aZ, aC]
         refine hTn 20 rfl (by kernel_rfl) (fun _ _ _ h => h) (by rfl) (by assumption) ?_
         try simp only [Act.put, aS, aZ, aC]
         refine hTn 21 rfl (by kernel_rfl) (fun _ _ _ h => h) (by rfl) (by assumption) ?_
         try simp only [Act.put, aS, aZ, aC]
         refine hTn 22 rfl (by kernel_rfl) (fun _ _ _ h => h) (by rfl) (by assumption) ?_
         try simp only [Act.put, aS, aZ, aC]
         refine hTn 23 rfl (by kernel_rfl) (fun _ _ _ h => h) (by rfl) (by assumption) ?_
         try simp only [Act.put, aS, aZ, aC]
         refine hTn 24 rfl (by kernel_rfl) (fun _ _ _ h => h) (by rfl) (by assumption) ?_
         try simp only [Act.put, aS, aZ, aC]
         refine zG 25 rfl ?_
         try simp only [Act.put, aS, aZ, aC]
         refine zG 26 rfl ?_
         try simp only [Act.put, aS, aZ, aC]
         refine wpAnyH_done (by kernel_rfl) ?_ _
         refine NoPanic.normal ?_
         have HWE := hid (HW9.out.below HwE.out)
         have HHE := hid (cells3 HH9.out HwE.out)
         have e2 := HWE.out.fn.cells.2.2.1
         obtain ⟨xf, hxf⟩ : ∃ q, q = x.f := ⟨_, rfl⟩
         have HXF := hid hxf
         rw [← hxf] at e2
         obtain ⟨ba, hba⟩ : ∃ b, b = wE.heap.size := ⟨_, rfl⟩
         have HBA := hid hba
         have HSZ : Hid (B + 4 ≤ ba) := hid (by have := HS9.out; have := HwE.out.size; omega)
         clear hba hxf
         go_wp2_with (refine store_c1 rfl 3 (.tmp 13) (.tmp 70) rfl _ rfl (.int .i64 xf) rfl nint1 rfl rfl 3 (.int .i64 0) (C1.new wE 3 (.int .i64 0)) ?_; rw [← HBA.out]; intro wA hA hoA; have HA := hid hA; have HBEA : Hid (Below wE.heap.size wE wA) := hid ((below_alloc wE _).trans (hoA.below (by rw [HBA.out]; exact Nat.le_refl _))); obtain ⟨⟨y0, y1, y2⟩, _⟩ := three (cells3 HHE.out HBEA.out); clear hA hoA e2)
         refine (KAL.out ba wA (HwE.out.trans (HBEA.out.mono HwE.out.size)) HSZ.out (by rw [← HXF.out]; exact HA.out)).mono ?_
         rintro e wB ⟨bb, rfl, h1, h2, h3⟩
         have HFB : Hid (Below w.heap.size w wB) := hid ((HF9.out wA (HwE.out.trans (HBEA.out.mono HwE.out.size))).trans (h3.mono (by rw [← HBB.out.1]; exact Nat.le_refl _)))
         cases bb with
         | false =>
          have hv5 := h2 rfl
          have hv : V = false := by rw [HVV.out, hv5]; simp
          subst hv
          clear h1 h2 h3 hv5 y0 y1 y2
          go_wp2
          go_ret
          exact ⟨rfl, HFB.out⟩
         | true =>
          obtain ⟨at_, g1, g2, g3⟩ := h1 rfl
          have a0 := g1.cell
          have a3 := g2.cells.2.2.2.1
          obtain ⟨xt, hxt⟩ : ∃ q, q = x.t := ⟨_, rfl⟩
          rw [← hxt] at a3 g3
          have HVQ : Hid (V = ((at_ : Int) == xt)) := hid (by rw [HVV.out, g3]; simp)
          clear h1 h2 h3 g1 g2 g3 hxt y0 y1 y2
          go_wp2
          go_ret
          exact ⟨by rw [HVQ.out]; rfl, HFB.out⟩
        ·exact AllReadyH.nil
      | true =>
       obtain ⟨m, rfl⟩ : ∃ m, kn = m + 1 := ⟨kn - 1, by
        have h0 := alI_hol P true true HWEL.out.2.1 HWEL.out.1
        have h1 : 0 < holN (alI true P true) := by first | exact h0.1 rfl | exact h0.2 rfl
        have h3 := HKN.out
        omega⟩
       obtain ⟨kb, ko, rfl, _, hc⟩ := HW9.out.fd.at_ (by omega)
       clear hc
       obtain ⟨y, hy⟩ : ∃ q, q = nA K 0 := ⟨_, rfl⟩
       obtain ⟨v, hv⟩ : ∃ q, q = nA K m := ⟨_, rfl⟩
       have hhd : K.head? = some y := by
        rw [hy, nA_eq (by rw [HKL.out]; omega)]
        cases K with
        | nil => have := HKL.out; simp at this
        | cons u K => rfl
       have hls : K.getLast? = some v := by
        rw [hv, nA_eq (by rw [HKL.out]; omega), List.getLast?_eq_getElem?, List.getElem?_eq_getElem (by rw [HKL.out]; omega)]
        congr 2
        rw [HKL.out]; omega
       rw [hhd] at hf1
       rw [hls] at hf2
       have K1 : Hid (∀ w', Below w9.heap.size w9 w' → Calls Tryz.prog 108 #[.agg (ev a n c z), .agg #[.string (mk p), .int .i64 g, .int .i64 s], .agg #[.int .i64 y.k, .string (mk y.n), .int .i64 y.f, .int .i64 y.t, .int .i64 y.c], .bool false] w' fun e w'' => e = .returned (.bool f1) ∧ Below w'.heap.size w' w'') := hid fun w' hb => by rw [hf1]; exact KF.out y false w' hb
       have K2 : Hid (∀ w', Below w9.heap.size w9 w' → Calls Tryz.prog 108 #[.agg (ev a n c z), .agg #[.string (mk p), .int .i64 g, .int .i64 s], .agg #[.int .i64 v.k, .string (mk v.n), .int .i64 v.f, .int .i64 v.t, .int .i64 v.c], .bool true] w' fun e w'' => e = .returned (.bool f2) ∧ Below w'.heap.size w' w'') := hid fun w' hb => by rw [hf2]; exact KF.out v true w' hb
       have HK5 : Hid (∀ w', Below w9.heap.size w9 w' → EB w' B a n c z ∧ w'.cell? ⟨b3, 0, none⟩ = some (.slice (some ⟨kb, ko, none⟩) (m + 1) kc) ∧ w'.cell? ⟨b5, 1, none⟩ = some (.bool true) ∧ w'.cell? ⟨b5, 2, none⟩ = some (.bool true) ∧ w'.cell? ⟨b4, 0, none⟩ = some (.string (mk p)) ∧ w'.cell? ⟨b4, 1, none⟩ = some (.int .i64 g) ∧ w'.cell? ⟨b4, 2, none⟩ = some (.int .i64 s) ∧ w'.cell? ⟨kb, ko, none⟩ = some (.int .i64 y.k) ∧ w'.cell? ⟨kb, ko + 1, none⟩ = some (.string (mk y.n)) ∧ w'.cell? ⟨kb, ko + 2, none⟩ = some (.int .i64 y.f) ∧ w'.cell? ⟨kb, ko + 3, none⟩ = some (.int .i64 y.t) ∧ w'.cell? ⟨kb, ko + 4, none⟩ = some (.int .i64 y.c) ∧ w'.cell? ⟨kb, ko + m * 5, none⟩ = some (.int .i64 v.k) ∧ w'.cell? ⟨kb, ko + m * 5 + 1, none⟩ = some (.string (mk v.n)) ∧ w'.cell? ⟨kb, ko + m * 5 + 2, none⟩ = some (.int .i64 v.f) ∧ w'.cell? ⟨kb, ko + m * 5 + 3, none⟩ = some (.int .i64 v.t) ∧ w'.cell? ⟨kb, ko + m * 5 + 4, none⟩ = some (.int .i64 v.c)) := hid fun w' hb => by
        obtain ⟨⟨_, y1, y2⟩, _⟩ := three (cells3 HH9.out hb)
        obtain ⟨o0, o1, o2⟩ := (HD9.out.below hb).cells
        have hd := HW9.out.fd.below hb
        obtain ⟨c0, c1, c2, c3, c4⟩ := NdS.at5 hd (show 0 < m + 1 by omega)
        obtain ⟨d0, d1, d2, d3, d4⟩ := NdS.at5 hd (show m < m + 1 by omega)
        rw [← hy, Nat.zero_mul, Nat.add_zero] at c0 c1 c2 c3 c4
        rw [← hv] at d0 d1 d2 d3 d4
        exact ⟨HW9.out.fe.below hb, (HW9.out.fk.below hb).cell, y1, y2, o0, o1, o2, c0, c1, c2, c3, c4, d0, d1, d2, d3, d4⟩
       have hm1 : ((m + 1 : Nat) : Int) - 1 = (m : Int) := by omega
       have hm2 : m ≤ 1000000 := by omega
       have hm3 : IntKind.i64.wrap (m : Int) = (m : Int) := IntWalk.i64_in _ (by omega)
       have hm4 : (m : Int) < (m : Int) + 1 := by omega
       clear hf1 hf2 hhd hls hy hv KF
       cases f1 with
       | false =>
        refine wp_region_noPanic ?_
        refine wp_region_held_drew (S := fun w' => EB w' B a n c z ∧ w'.cell? ⟨b3, 0, none⟩ = some (.slice (some ⟨kb, ko, none⟩) (m + 1) kc) ∧ w'.cell? ⟨b5, 1, none⟩ = some (.bool true) ∧ w'.cell? ⟨b5, 2, none⟩ = some (.bool true) ∧ w'.cell? ⟨b4, 0, none⟩ = some (.string (mk p)) ∧ w'.cell? ⟨b4, 1, none⟩ = some (.int .i64 g) ∧ w'.cell? ⟨b4, 2, none⟩ = some (.int .i64 s) ∧ w'.cell? ⟨kb, ko, none⟩ = some (.int .i64 y.k) ∧ w'.cell? ⟨kb, ko + 1, none⟩ = some (.string (mk y.n)) ∧ w'.cell? ⟨kb, ko + 2, none⟩ = some (.int .i64 y.f) ∧ w'.cell? ⟨kb, ko + 3, none⟩ = some (.int .i64 y.t) ∧ w'.cell? ⟨kb, ko + 4, none⟩ = some (.int .i64 y.c) ∧ w'.cell? ⟨kb, ko + m * 5, none⟩ = some (.int .i64 v.k) ∧ w'.cell? ⟨kb, ko + m * 5 + 1, none⟩ = some (.string (mk v.n)) ∧ w'.cell? ⟨kb, ko + m * 5 + 2, none⟩ = some (.int .i64 v.f) ∧ w'.cell? ⟨kb, ko + m * 5 + 3, none⟩ = some (.int .i64 v.t) ∧ w'.cell? ⟨kb, ko + m * 5 + 4, none⟩ = some (.int .i64 v.c)) (by kernel_rfl) (HK5.out _ (Below.refl _ _).drew) (fun hHeld => ?_)
        refine zG 0 rfl ?_
        try simp only [Act.put, aS, aZ, aC]
        refine zG 1 rfl ?_
        try simp only [Act.put, aS, aZ, aC]
        refine zG 2 rfl ?_
        try simp only [Act.put, aS, aZ, aC]
        refine take_env (i := 3) (oi := { dst := some 45, op := Op.load 30 (Operand.tmp 4), type := 30, pos := "tree.go:106", after := #[{ on := 2, ground := Ground.guard }], guard := some (2, true) }) (Operand.tmp 4) rfl (by kernel_rfl) (by kernel_rfl) (by kernel_rfl) a n c (z) (fun _ _ _ h => h) (by rfl) rfl (B) rfl (HZ.out) (fun w h => h.1) (by assumption) ?_
        try simp only [Act.put, aS, aZ, aC]
        refine zG 4 rfl ?_
        try simp only [Act.put, aS, aZ, aC]
        refine zG 5 rfl ?_
        try simp only [Act.put, aS, aZ, aC]
        refine zG 6 rfl ?_
        try simp only [Act.put, aS, aZ, aC]
        refine zG 7 rfl ?_
        try simp only [Act.put, aS, aZ, aC]
        refine zR [8] ?_
        refine hDo rfl (fun K hK => ?_) ?_
        ·go_simp
         (go_at_call 108; (with_reducible refine (K1.out _ (Below.refl w9.heap.size w9).drew).mono ?_); rintro e wE ⟨rfl, hbwE⟩)
         have HwE : Hid (Below w9.heap.size w9 wE) := hid (((Below.refl w9.heap.size w9).drew).trans (hbwE.mono ((Below.refl w9.heap.size w9).drew).size))
         clear hbwE
         refine hK.out _ _ (HK5.out _ HwE.out) (fun hHeld => ?_)
         clear hK K
         try simp only [Act.put, aS, aZ, aC]
         refine zG 9 rfl ?_
         try simp only [Act.put, aS, aZ, aC]
         refine zG 10 rfl ?_
         try simp only [Act.put, aS, aZ, aC]
         refine zG 11 rfl ?_
         try simp only [Act.put, aS, aZ, aC]
         refine hTn 12 rfl (by kernel_rfl) (fun _ _ _ h => h) (by rfl) (by assumption) ?_
         try simp only [Act.put, aS, aZ, aC]
         refine hTn 13 rfl (by kernel_rfl) (fun _ _ _ h => h) (by rfl) (by assumption) ?_
         try simp only [Act.put, aS, aZ, aC]
         refine hTn 14 rfl (by kernel_rfl) (fun _ _ _ h => h) (by rfl) (by assumption) ?_
         try simp only [Act.put, aS, aZ, aC]
         refine hTn 15 rfl (by kernel_rfl) (fun _ _ _ h => h) (by rfl) (by assumption) ?_
         try simp only [Act.put, aS, aZ, aC]
         refine hTn 16 rfl (by kernel_rfl) (fun _ _ _ h => h) (by rfl) (by assumption) ?_
         try simp only [Act.put, aS, aZ, aC]
         refine hTn 17 rfl (by kernel_rfl) (fun _ _ _ h => h) (by rfl) (by assumption) ?_
         try simp only [Act.put, aS, aZ, aC]
         refine hTn 18 rfl (by kernel_rfl) (fun _ _ _ h => h) (by rfl) (by assumption) ?_
         try simp only [Act.put, aS, aZ, aC]
         refine hTn 19 rfl (by kernel_rfl) (fun _ _ _ h => h) (by rfl) (by assumption) ?_
         try simp only [Act.put, aS, aZ, aC]
         refine hTn 20 rfl (by kernel_rfl) (fun _ _ _ h => h) (by rfl) (by assumption) ?_
         try simp only [Act.put, aS, aZ, aC]
         refine hTn 21 rfl (by kernel_rfl) (fun _ _ _ h => h) (by rfl) (by assumption) ?_
         try simp only [Act.put, aS, aZ, aC]
         refine hTn 22 rfl (by kernel_rfl) (fun _ _ _ h => h) (by rfl) (by assumption) ?_
         try simp only [Act.put, aS, aZ, aC]
         refine hTn 23 rfl (by kernel_rfl) (fun _ _ _ h => h) (by rfl) (by assumption) ?_
         try simp only [Act.put, aS, aZ, aC]
         refine hTn 24 rfl (by kernel_rfl) (fun _ _ _ h => h) (by rfl) (by assumption) ?_
         try simp only [Act.put, aS, aZ, aC]
         refine hTn 25 rfl (by kernel_rfl) (fun _ _ _ h => h) (by rfl) (by assumption) ?_
         try simp only [Act.put, aS, aZ, aC]
         refine zG 26 rfl ?_
         try simp only [Act.put, aS, aZ, aC]
         refine wpAnyH_done (by kernel_rfl) ?_ _
         refine NoPanic.normal ?_
         have hv : V = false := by rw [HVV.out]; simp
         subst hv
         go_wp2
         go_ret
         exact ⟨rfl, HF9.out _ HwE.out⟩
        ·exact AllReadyH.nil
       | true =>
        cases f2 with
        | false =>
         refine wp_region_noPanic ?_
         refine wp_region_held_drew (S := fun w' => EB w' B a n c z ∧ w'.cell? ⟨b3, 0, none⟩ = some (.slice (some ⟨kb, ko, none⟩) (m + 1) kc) ∧ w'.cell? ⟨b5, 1, none⟩ = some (.bool true) ∧ w'.cell? ⟨b5, 2, none⟩ = some (.bool true) ∧ w'.cell? ⟨b4, 0, none⟩ = some (.string (mk p)) ∧ w'.cell? ⟨b4, 1, none⟩ = some (.int .i64 g) ∧ w'.cell? ⟨b4, 2, none⟩ = some (.int .i64 s) ∧ w'.cell? ⟨kb, ko, none⟩ = some (.int .i64 y.k) ∧ w'.cell? ⟨kb, ko + 1, none⟩ = some (.string (mk y.n)) ∧ w'.cell? ⟨kb, ko + 2, none⟩ = some (.int .i64 y.f) ∧ w'.cell? ⟨kb, ko + 3, none⟩ = some (.int .i64 y.t) ∧ w'.cell? ⟨kb, ko + 4, none⟩ = some (.int .i64 y.c) ∧ w'.cell? ⟨kb, ko + m * 5, none⟩ = some (.int .i64 v.k) ∧ w'.cell? ⟨kb, ko + m * 5 + 1, none⟩ = some (.string (mk v.n)) ∧ w'.cell? ⟨kb, ko + m * 5 + 2, none⟩ = some (.int .i64 v.f) ∧ w'.cell? ⟨kb, ko + m * 5 + 3, none⟩ = some (.int .i64 v.t) ∧ w'.cell? ⟨kb, ko + m * 5 + 4, none⟩ = some (.int .i64 v.c)) (by kernel_rfl) (HK5.out _ (Below.refl _ _).drew) (fun hHeld => ?_)
         refine zG 0 rfl ?_
         try simp only [Act.put, aS, aZ, aC]
         refine zG 1 rfl ?_
         try simp only [Act.put, aS, aZ, aC]
         refine zG 2 rfl ?_
         try simp only [Act.put, aS, aZ, aC]
         refine take_env (i := 3) (oi := { dst := some 45, op := Op.load 30 (Operand.tmp 4), type := 30, pos := "tree.go:106", after := #[{ on := 2, ground := Ground.guard }], guard := some (2, true) }) (Operand.tmp 4) rfl (by kernel_rfl) (by kernel_rfl) (by kernel_rfl) a n c (z) (fun _ _ _ h => h) (by rfl) rfl (B) rfl (HZ.out) (fun w h => h.1) (by assumption) ?_
         try simp only [Act.put, aS, aZ, aC]
         refine zG 4 rfl ?_
         try simp only [Act.put, aS, aZ, aC]
         refine zG 5 rfl ?_
         try simp only [Act.put, aS, aZ, aC]
         refine zG 6 rfl ?_
         try simp only [Act.put, aS, aZ, aC]
         refine zG 7 rfl ?_
         try simp only [Act.put, aS, aZ, aC]
         refine zR [8] ?_
         refine hDo rfl (fun K hK => ?_) ?_
         ·go_simp
          (go_at_call 108; (with_reducible refine (K1.out _ (Below.refl w9.heap.size w9).drew).mono ?_); rintro e wD ⟨rfl, hbwD⟩)
          have HwD : Hid (Below w9.heap.size w9 wD) := hid (((Below.refl w9.heap.size w9).drew).trans (hbwD.mono ((Below.refl w9.heap.size w9).drew).size))
          clear hbwD
          refine hK.out _ _ (HK5.out _ HwD.out) (fun hHeld => ?_)
          clear hK K
          try simp only [Act.put, aS, aZ, aC]
          refine zG 9 rfl ?_
          try simp only [Act.put, aS, aZ, aC]
          refine zG 10 rfl ?_
          try simp only [Act.put, aS, aZ, aC]
          refine zG 11 rfl ?_
          try simp only [Act.put, aS, aZ, aC]
          refine zG 12 rfl ?_
          try simp only [Act.put, aS, aZ, aC]
          refine zG 13 rfl ?_
          try simp only [Act.put, aS, aZ, aC]
          refine zG 14 rfl ?_
          try simp only [Act.put, aS, aZ, aC]
          refine take_env (i := 15) (oi := { dst := some 57, op := Op.load 30 (Operand.tmp 4), type := 30, pos := "tree.go:106", after := #[{ on := 14, ground := Ground.guard }], guard := some (14, true) }) (Operand.tmp 4) rfl (by kernel_rfl) (by kernel_rfl) (by kernel_rfl) a n c (z) (fun _ _ _ h => h) (by rfl) rfl (B) rfl (HZ.out) (fun w h => h.1) (by assumption) ?_
          try simp only [Act.put, aS, aZ, aC]
          refine zG 16 rfl ?_
          try simp only [Act.put, aS, aZ, aC]
          refine zG 17 rfl ?_
          try simp only [Act.put, aS, aZ, aC]
          refine zG 18 rfl ?_
          try simp only [Act.put, aS, aZ, aC]
          refine zG 19 rfl ?_
          try simp only [Act.put, aS, aZ, aC]
          refine zG 20 rfl ?_
          try simp only [Act.put, aS, aZ, aC]
          refine zG 21 rfl ?_
          try simp only [Act.put, aS, aZ, aC]
          refine zG 22 rfl ?_
          try simp only [Act.put, aS, aZ, aC]
          refine zR [23] ?_
          refine hDo rfl (fun K hK => ?_) ?_
          ·go_simp
           (go_at_call 108; (with_reducible refine (K2.out _ HwD.out).mono ?_); rintro e wE ⟨rfl, hbwE⟩)
           have HwE : Hid (Below w9.heap.size w9 wE) := hid ((HwD.out).trans (hbwE.mono (HwD.out).size))
           clear hbwE
           refine hK.out _ _ (HK5.out _ HwE.out) (fun hHeld => ?_)
           clear hK K
           try simp only [Act.put, aS, aZ, aC]
           refine zG 24 rfl ?_
           try simp only [Act.put, aS, aZ, aC]
           refine zG 25 rfl ?_
           try simp only [Act.put, aS, aZ, aC]
           refine zG 26 rfl ?_
           try simp only [Act.put, aS, aZ, aC]
           refine wpAnyH_done (by kernel_rfl) ?_ _
           refine NoPanic.normal ?_
           have hv : V = false := by rw [HVV.out]; simp
           subst hv
           go_wp2
           go_ret
           exact ⟨rfl, HF9.out _ HwE.out⟩
          ·exact AllReadyH.nil
         ·exact AllReadyH.nil
        | true =>
         refine wp_region_noPanic ?_
         refine wp_region_held_drew (S := fun w' => EB w' B a n c z ∧ w'.cell? ⟨b3, 0, none⟩ = some (.slice (some ⟨kb, ko, none⟩) (m + 1) kc) ∧ w'.cell? ⟨b5, 1, none⟩ = some (.bool true) ∧ w'.cell? ⟨b5, 2, none⟩ = some (.bool true) ∧ w'.cell? ⟨b4, 0, none⟩ = some (.string (mk p)) ∧ w'.cell? ⟨b4, 1, none⟩ = some (.int .i64 g) ∧ w'.cell? ⟨b4, 2, none⟩ = some (.int .i64 s) ∧ w'.cell? ⟨kb, ko, none⟩ = some (.int .i64 y.k) ∧ w'.cell? ⟨kb, ko + 1, none⟩ = some (.string (mk y.n)) ∧ w'.cell? ⟨kb, ko + 2, none⟩ = some (.int .i64 y.f) ∧ w'.cell? ⟨kb, ko + 3, none⟩ = some (.int .i64 y.t) ∧ w'.cell? ⟨kb, ko + 4, none⟩ = some (.int .i64 y.c) ∧ w'.cell? ⟨kb, ko + m * 5, none⟩ = some (.int .i64 v.k) ∧ w'.cell? ⟨kb, ko + m * 5 + 1, none⟩ = some (.string (mk v.n)) ∧ w'.cell? ⟨kb, ko + m * 5 + 2, none⟩ = some (.int .i64 v.f) ∧ w'.cell? ⟨kb, ko + m * 5 + 3, none⟩ = some (.int .i64 v.t) ∧ w'.cell? ⟨kb, ko + m * 5 + 4, none⟩ = some (.int .i64 v.c)) (by kernel_rfl) (HK5.out _ (Below.refl _ _).drew) (fun hHeld => ?_)
         refine zG 0 rfl ?_
         try simp only [Act.put, aS, aZ, aC]
         refine zG 1 rfl ?_
         try simp only [Act.put, aS, aZ, aC]
         refine zG 2 rfl ?_
         try simp only [Act.put, aS, aZ, aC]
         refine take_env (i := 3) (oi := { dst := some 45, op := Op.load 30 (Operand.tmp 4), type := 30, pos := "tree.go:106", after := #[{ on := 2, ground := Ground.guard }], guard := some (2, true) }) (Operand.tmp 4) rfl (by kernel_rfl) (by kernel_rfl) (by kernel_rfl) a n c (z) (fun _ _ _ h => h) (by rfl) rfl (B) rfl (HZ.out) (fun w h => h.1) (by assumption) ?_
         try simp only [Act.put, aS, aZ, aC]
         refine zG 4 rfl ?_
         try simp only [Act.put, aS, aZ, aC]
         refine zG 5 rfl ?_
         try simp only [Act.put, aS, aZ, aC]
         refine zG 6 rfl ?_
         try simp only [Act.put, aS, aZ, aC]
         refine zG 7 rfl ?_
         try simp only [Act.put, aS, aZ, aC]
         refine zR [8] ?_
         refine hDo rfl (fun K hK => ?_) ?_
         ·go_simp
          (go_at_call 108; (with_reducible refine (K1.out _ (Below.refl w9.heap.size w9).drew).mono ?_); rintro e wD ⟨rfl, hbwD⟩)
          have HwD : Hid (Below w9.heap.size w9 wD) := hid (((Below.refl w9.heap.size w9).drew).trans (hbwD.mono ((Below.refl w9.heap.size w9).drew).size))
          clear hbwD
          refine hK.out _ _ (HK5.out _ HwD.out) (fun hHeld => ?_)
          clear hK K
          try simp only [Act.put, aS, aZ, aC]
          refine zG 9 rfl ?_
          try simp only [Act.put, aS, aZ, aC]
          refine zG 10 rfl ?_
          try simp only [Act.put, aS, aZ, aC]
          refine zG 11 rfl ?_
          try simp only [Act.put, aS, aZ, aC]
          refine zG 12 rfl ?_
          try simp only [Act.put, aS, aZ, aC]
          refine zG 13 rfl ?_
          try simp only [Act.put, aS, aZ, aC]
          refine zG 14 rfl ?_
          try simp only [Act.put, aS, aZ, aC]
          refine take_env (i := 15) (oi := { dst := some 57, op := Op.load 30 (Operand.tmp 4), type := 30, pos := "tree.go:106", after := #[{ on := 14, ground := Ground.guard }], guard := some (14, true) }) (Operand.tmp 4) rfl (by kernel_rfl) (by kernel_rfl) (by kernel_rfl) a n c (z) (fun _ _ _ h => h) (by rfl) rfl (B) rfl (HZ.out) (fun w h => h.1) (by assumption) ?_
          try simp only [Act.put, aS, aZ, aC]
          refine zG 16 rfl ?_
          try simp only [Act.put, aS, aZ, aC]
          refine zG 17 rfl ?_
          try simp only [Act.put, aS, aZ, aC]
          refine zG 18 rfl ?_
          try simp only [Act.put, aS, aZ, aC]
          refine zG 19 rfl ?_
          try simp only [Act.put, aS, aZ, aC]
          refine zG 20 rfl ?_
          try simp only [Act.put, aS, aZ, aC]
          refine zG 21 rfl ?_
          try simp only [Act.put, aS, aZ, aC]
          refine zG 22 rfl ?_
          try simp only [Act.put, aS, aZ, aC]
          refine zR [23] ?_
          refine hDo rfl (fun K hK => ?_) ?_
          ·go_simp
           (go_at_call 108; (with_reducible refine (K2.out _ HwD.out).mono ?_); rintro e wE ⟨rfl, hbwE⟩)
           have HwE : Hid (Below w9.heap.size w9 wE) := hid ((HwD.out).trans (hbwE.mono (HwD.out).size))
           clear hbwE
           refine hK.out _ _ (HK5.out _ HwE.out) (fun hHeld => ?_)
           clear hK K
           try simp only [Act.put, aS, aZ, aC]
           refine zG 24 rfl ?_
           try simp only [Act.put, aS, aZ, aC]
           refine zG 25 rfl ?_
           try simp only [Act.put, aS, aZ, aC]
           refine zG 26 rfl ?_
           try simp only [Act.put, aS, aZ, aC]
           refine wpAnyH_done (by kernel_rfl) ?_ _
           refine NoPanic.normal ?_
           have HWE := hid (HW9.out.below HwE.out)
           have HHE := hid (cells3 HH9.out HwE.out)
           have e2 := HWE.out.fn.cells.2.2.1
           obtain ⟨xf, hxf⟩ : ∃ q, q = x.f := ⟨_, rfl⟩
           have HXF := hid hxf
           rw [← hxf] at e2
           obtain ⟨ba, hba⟩ : ∃ b, b = wE.heap.size := ⟨_, rfl⟩
           have HBA := hid hba
           have HSZ : Hid (B + 4 ≤ ba) := hid (by have := HS9.out; have := HwE.out.size; omega)
           clear hba hxf
           go_wp2_with (refine store_c1 rfl 3 (.tmp 13) (.tmp 70) rfl _ rfl (.int .i64 xf) rfl nint1 rfl rfl 3 (.int .i64 0) (C1.new wE 3 (.int .i64 0)) ?_; rw [← HBA.out]; intro wA hA hoA; have HA := hid hA; have HBEA : Hid (Below wE.heap.size wE wA) := hid ((below_alloc wE _).trans (hoA.below (by rw [HBA.out]; exact Nat.le_refl _))); obtain ⟨⟨y0, y1, y2⟩, _⟩ := three (cells3 HHE.out HBEA.out); clear hA hoA e2)
           refine (KAL.out ba wA (HwE.out.trans (HBEA.out.mono HwE.out.size)) HSZ.out (by rw [← HXF.out]; exact HA.out)).mono ?_
           rintro e wB ⟨bb, rfl, h1, h2, h3⟩
           have HFB : Hid (Below w.heap.size w wB) := hid ((HF9.out wA (HwE.out.trans (HBEA.out.mono HwE.out.size))).trans (h3.mono (by rw [← HBB.out.1]; exact Nat.le_refl _)))
           cases bb with
           | false =>
            have hv5 := h2 rfl
            have hv : V = false := by rw [HVV.out, hv5]; simp
            subst hv
            clear h1 h2 h3 hv5 y0 y1 y2
            go_wp2
            go_ret
            exact ⟨rfl, HFB.out⟩
           | true =>
            obtain ⟨at_, g1, g2, g3⟩ := h1 rfl
            have a0 := g1.cell
            have a3 := g2.cells.2.2.2.1
            obtain ⟨xt, hxt⟩ : ∃ q, q = x.t := ⟨_, rfl⟩
            rw [← hxt] at a3 g3
            have HVQ : Hid (V = ((at_ : Int) == xt)) := hid (by rw [HVV.out, g3]; simp)
            clear h1 h2 h3 g1 g2 g3 hxt y0 y1 y2
            go_wp2
            go_ret
            exact ⟨by rw [HVQ.out]; rfl, HFB.out⟩
          ·exact AllReadyH.nil
         ·exact AllReadyH.nil
    ·have hv : V = false := by
      rw [HV2.out, beq_eq_false_iff_ne.2 hkN, Bool.false_and]
     subst hv
     have hcmp : ((kn : Int) != (N : Int)) = true := by simp; omega
     go_wp2
     go_ret
     exact ⟨rfl, HFIN.out _ HB89.out⟩
   ·exact AllReadyH.nil
end Go.Proofs.YtanhpgmiadgmjaaGreatDoor
