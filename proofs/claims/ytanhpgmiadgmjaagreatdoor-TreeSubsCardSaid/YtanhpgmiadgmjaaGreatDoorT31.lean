import Derived.Test.YtanhpgmiadgmjaaGreatDoorT30
namespace Go.Proofs.YtanhpgmiadgmjaaGreatDoor
open Go.RowKit
theorem tok_elem : Tryz.prog.elem 23 = 41 := by kernel_rfl
theorem ts_sub {w : World} {g off n c l h : Nat} {tok : List TK} (hv : Ts w (some ⟨g, off, none⟩) n c tok) (hl : l < h) (hh : h ≤ n) : ∃ o', (∀ w : World, (Instr.slice 23 (.slice (some ⟨g, off, none⟩) n c) (some (.int .i64 l)) (some (.int .i64 h)) none).run Tryz.prog w = .ok (.slice (some ⟨g, o', none⟩) (h - l) (c - l)) w) ∧ Ts w (some ⟨g, o', none⟩) (h - l) (c - l) ((tok.take h).drop l) := by
 have hlc := hv.lc
 refine ⟨off + l * 5, fun w => ?_, ?_⟩
 ·have := run_lh tok_elem Tryz.underlying23 tok_info (g := g) (off := off) (n := n) (c := c) (l := l) (h := h) (by omega) (by omega) w
  rw [if_neg (by omega)] at this
  exact this
 ·have h1 := hv.hl
  have h3 := hv.cm
  refine ⟨by rw [List.length_drop, List.length_take]; omega, by omega, by omega, fun h0 => ?_⟩
  obtain ⟨b, o, ha, hb, hc⟩ := hv.at_ (by omega)
  simp only [Option.some.injEq, Addr.mk.injEq, and_true] at ha
  obtain ⟨rfl, rfl⟩ := ha
  refine ⟨g, off + l * 5, rfl, hb, fun j hj i hi => ?_⟩
  rw [show off + l * 5 + (j * 5 + i) = off + ((l + j) * 5 + i) by omega, hc (l + j) (by omega) i hi]
  congr 2
  unfold tat
  rw [List.getD_eq_getElem?_getD, List.getD_eq_getElem?_getD, List.getElem?_drop, List.getElem?_take, if_pos (by omega)]
theorem tat_sub {tok : List TK} {l h j : Nat} (hj : l + j < h) : tat ((tok.take h).drop l) j = tat tok (l + j) := by
 unfold tat
 rw [List.getD_eq_getElem?_getD, List.getD_eq_getElem?_getD, List.getElem?_drop, List.getElem?_take, if_pos hj]
set_option maxRecDepth 100000 in
set_option maxHeartbeats 16000000 in
theorem derives_any (a : Option Addr) (n c : Nat) (L : List OP) (z : List Int) (la : Option Addr) (ln lc : Nat) (tok : List TK) (x : ND) (ka : Option Addr) (kn kc : Nat) (K : List ND) (w : World) (ht : Tab w) (h : OpS w a n c L) (hz : z.length = 10) (hr : ∀ i, i < 10 → I64 (bt z i)) (hT : Ts w la ln lc tok) (hK : NdS w ka kn kc K)
  (hn : n ≤ 1000000) (hL : ∀ o ∈ L, o.1.length ≤ 1000000) (hln : ln ≤ 1000000) (hkn : kn ≤ 1000000) (hxn : x.n.length ≤ 1000000) (hkg : ∀ c ∈ K, goodN tok c) :
  Calls Tryz.prog 40 #[.agg (ev a n c z), .slice la ln lc, .agg (ndA x), .slice ka kn kc] w fun e w' => e = .returned (.bool (drvB L z tok x K)) ∧ Below w.heap.size w w' := by
 obtain ⟨B, hB⟩ : ∃ B, B = w.heap.size := ⟨_, rfl⟩
 obtain ⟨w1, hw1⟩ : ∃ w1, w1 = w.alloc (.cells (ev a n c z) 30) := ⟨_, rfl⟩
 obtain ⟨w2, hw2⟩ : ∃ w2, w2 = w1.alloc (.cells (ndA x) 37) := ⟨_, rfl⟩
 obtain ⟨b1, hb1⟩ : ∃ b, b = w1.heap.size := ⟨_, rfl⟩
 have s1 : b1 = B + 1 := by rw [hb1, hw1, hB]; simp
 have hb02 : Below w.heap.size w w2 := by rw [hw2, hw1]; exact (below_alloc w _).alloc (by simp) _
 have HB2 := hid hb02
 have HE : Hid (EB w2 B a n c z) := hid (by rw [hw2, hw1, hB]; exact (EB.new w a n c z).alloc _)
 have HX : Hid (N5 w2 b1 x) := hid (by rw [hw2, hb1]; exact N5.new w1 x)
 have H2 : Hid (Tab w2 ∧ OpS w2 a n c L ∧ Ts w2 la ln lc tok ∧ NdS w2 ka kn kc K) := hid ⟨ht.keep hb02, h.below hb02, hT.below hb02, hK.below hb02⟩
 have HTL : Hid (tok.length = ln) := hid hT.hl
 have HKL : Hid (K.length = kn) := hid (NdS.len hK)
 have HZ := hid hz
 have HR := hid hr
 have HL := hid hL
 have HXN := hid hxn
 have HKG := hid hkg
 obtain ⟨x0, x1, x2, x3, x4⟩ := HX.out.cells
 obtain ⟨V, hV⟩ : ∃ V, V = drvB L z tok x K := ⟨_, rfl⟩
 have HV := hid hV
 rw [← hV]
 have hnd : ndA x = #[.int .i64 x.k, .string (mk x.n), .int .i64 x.f, .int .i64 x.t, .int .i64 x.c] := rfl
 obtain ⟨xk, hxk⟩ : ∃ q, q = x.k := ⟨_, rfl⟩
 obtain ⟨xn, hxn'⟩ : ∃ q, q = x.n := ⟨_, rfl⟩
 obtain ⟨xf, hxf⟩ : ∃ q, q = x.f := ⟨_, rfl⟩
 obtain ⟨xt, hxt⟩ : ∃ q, q = x.t := ⟨_, rfl⟩
 have HXX : Hid (xk = x.k ∧ xn = x.n ∧ xf = x.f ∧ xt = x.t) := hid ⟨hxk, hxn', hxf, hxt⟩
 have HGN : Hid ((¬ (0 ≤ xf ∧ xf < xt ∧ xt ≤ ln)) → V = false) := hid fun hno => by
  rw [hV]
  unfold drvB
  have : spanB tok x = false := by
   rw [Bool.eq_false_iff]
   intro hs
   have := good_span.1 hs
   unfold goodN at this
   rw [← hxf, ← hxt, hT.hl] at this
   exact hno this
  rw [this, Bool.false_and]
 rw [← hxk] at x0
 rw [← hxn'] at x1
 rw [← hxf] at x2
 rw [← hxt] at x3
 clear ht h hz hr hT hK hL hxn hkg hb02 hV hxk hxn' hxf hxt x4
 go_enter Tryz.func40, Tryz.ntmps40
 rw [hnd]
 go_upto_region 1 with fail
 rw [← hnd, ← hw1]
 try rw [← hw2]
 rw [← hB]
 try rw [← s1]
 clear hw1 hw2 hB hb1 s1 hnd
 by_cases hf0 : xf < 0
 ·have hv := HGN.out (fun h => by omega)
  subst hv
  go_wp2
  go_ret
  exact ⟨rfl, HB2.out⟩
 ·by_cases hft : xt ≤ xf
  ·have hv := HGN.out (fun h => by omega)
   subst hv
   go_wp2
   go_ret
   exact ⟨rfl, HB2.out⟩
  ·by_cases htl : (ln : Int) < xt
   ·have hv := HGN.out (fun h => by omega)
    subst hv
    go_wp2
    go_ret
    exact ⟨rfl, HB2.out⟩
   ·clear HGN
    obtain ⟨f, rfl⟩ : ∃ f : Nat, xf = f := ⟨xf.toNat, by omega⟩
    obtain ⟨t, rfl⟩ : ∃ t : Nat, xt = t := ⟨xt.toNat, by omega⟩
    have hft' : f < t := by omega
    have htl' : t ≤ ln := by omega
    obtain ⟨lb, lo, rfl, _, hc⟩ := H2.out.2.2.1.at_ (by omega)
    clear hc
    obtain ⟨o', hsl, hts⟩ := ts_sub H2.out.2.2.1 hft' htl'
    have HTS := hid hts
    obtain ⟨m, hm⟩ : ∃ m, m = t - f := ⟨_, rfl⟩
    rw [← hm] at hsl HTS
    have HM : Hid (m = t - f ∧ f < t ∧ t ≤ ln) := hid ⟨hm, hft', htl'⟩
    have hm0 : 0 < m := by omega
    have hmB : m ≤ 1000000 := by omega
    have HGD : Hid (goodN tok x) := hid (by have := HXX.out; unfold goodN; rw [HTL.out]; omega)
    have HVD : Hid (V = (if xk = 1 then leafP L z tok x K else if xk = 2 then parP tok x K else if xk = 3 then opP L z tok x K else false)) := hid (by rw [HV.out]; unfold drvB; rw [good_span.2 HGD.out, Bool.true_and, HXX.out.1])
    clear hts hm HV
    obtain ⟨c', hc'⟩ : ∃ c', c' = lc - f := ⟨_, rfl⟩
    rw [← hc'] at hsl HTS
    clear hc'
    by_cases hk1 : xk = 1
    ·subst hk1
     obtain ⟨tk, htk⟩ : ∃ y, y = tat tok f := ⟨_, rfl⟩
     obtain ⟨tx, htx⟩ : ∃ y, y = txN tk := ⟨_, rfl⟩
     obtain ⟨lf, hlf⟩ : ∃ v, v = leafB tk.k (freeB L z tx) := ⟨_, rfl⟩
     have HV1 : Hid (V = (decide (kn = 0) && (decide (m = 1) && (tx == xn && lf)))) := hid (by
      rw [HVD.out, if_pos rfl]
      unfold leafP
      have e1 : tkn tok x.f = tk := by unfold tkn; rw [← HXX.out.2.2.1, Int.toNat_natCast, htk]
      rw [e1, ← htx, ← hlf, ← HXX.out.2.1, ← HXX.out.2.2.1, ← HXX.out.2.2.2]
      congr 1
      ·rw [Bool.eq_iff_iff, List.isEmpty_iff, decide_eq_true_eq, ← HKL.out, List.length_eq_zero_iff]
      ·congr 1
       rw [Bool.eq_iff_iff, beq_iff_eq, decide_eq_true_eq]
       have := HM.out
       omega)
     clear HVD
     have HK5 : Hid (∀ w', Below w2.heap.size w2 w' → EB w' B a n c z ∧ w'.cell? ⟨b1, 1, none⟩ = some (.string (mk xn)) ∧ w'.cell? ⟨lb, o', none⟩ = some (.int .i64 tk.k) ∧ w'.cell? ⟨lb, o' + 1, none⟩ = some (.int .i64 tk.f) ∧ w'.cell? ⟨lb, o' + 2, none⟩ = some (.int .i64 tk.t) ∧ w'.cell? ⟨lb, o' + 3, none⟩ = some (.string (mk tx)) ∧ w'.cell? ⟨lb, o' + 4, none⟩ = some (.int .i64 tk.e)) := hid fun w' hb => by
      obtain ⟨b', o2, e', h0, h1, h2, h3, h4⟩ := tok_at (HTS.out.below hb) (show 0 < m by omega)
      simp only [Option.some.injEq, Addr.mk.injEq, and_true] at e'
      obtain ⟨rfl, rfl⟩ := e'
      rw [tat_sub (by have := HM.out; omega), show f + 0 = f from rfl, ← htk] at h0 h1 h2 h3 h4
      rw [Nat.zero_mul, Nat.add_zero] at h0 h1 h2 h3 h4
      rw [← htx] at h3
      exact ⟨HE.out.below hb, (hb.cell (p := ⟨b1, 1, none⟩) HX.out.lt).trans x1, h0, h1, h2, h3, h4⟩
     have KL : Hid (∀ w', Below w2.heap.size w2 w' → Calls Tryz.prog 58 #[.agg (ev a n c z), .agg #[.int .i64 tk.k, .int .i64 tk.f, .int .i64 tk.t, .string (mk tx), .int .i64 tk.e]] w' fun e w'' => e = .returned (.bool lf) ∧ Below w'.heap.size w' w'') := hid fun w' hb => by
      rw [hlf]
      exact fleaf_any a n c L z tk.k tk.f tk.t tx tk.e w' (H2.out.1.keep hb) (H2.out.2.1.below hb) HZ.out hn HL.out
     have hx := mk_toList tx
     have hy := mk_toList xn
     clear hlf htx htk
     by_cases hk0 : kn = 0
     ·subst hk0
      by_cases hm1 : m = 1
      ·subst hm1
       cases hq : (tx == xn) with
       | false =>
        have hv : V = false := by rw [HV1.out, hq]; simp
        subst hv
        obtain ⟨_, n1, t0, t1, t2, t3, t4⟩ := HK5.out w2 (Below.refl _ _)
        go_wp2_with fail
        go_quiet (fail)
        go_wp2
        go_ret
        exact ⟨rfl, HB2.out.trans ((below_drewN (Below.refl _ _) _).mono HB2.out.size)⟩
       | true =>
        have HV9 : Hid (V = lf) := hid (by rw [HV1.out, hq]; simp)
        go_wp2_with fail
        refine wp_region_noPanic ?_
        refine wp_region_held_drew (S := fun w' => EB w' B a n c z ∧ w'.cell? ⟨b1, 1, none⟩ = some (.string (mk xn)) ∧ w'.cell? ⟨lb, o', none⟩ = some (.int .i64 tk.k) ∧ w'.cell? ⟨lb, o' + 1, none⟩ = some (.int .i64 tk.f) ∧ w'.cell? ⟨lb, o' + 2, none⟩ = some (.int .i64 tk.t) ∧ w'.cell? ⟨lb, o' + 3, none⟩ = some (.string (mk tx)) ∧ w'.cell? ⟨lb, o' + 4, none⟩ = some (.int .i64 tk.e)) (by kernel_rfl) (HK5.out _ (Below.refl _ _).drew) (fun hHeld => ?_)
        refine zG 0 rfl ?_
        try simp only [Act.put, aS, aZ, aC]
        refine zG 1 rfl ?_
        try simp only [Act.put, aS, aZ, aC]
        refine zG 2 rfl ?_
        try simp only [Act.put, aS, aZ, aC]
        refine zG 3 rfl ?_
        try simp only [Act.put, aS, aZ, aC]
        refine zG 4 rfl ?_
        try simp only [Act.put, aS, aZ, aC]
        refine zG 5 rfl ?_
        try simp only [Act.put, aS, aZ, aC]
        refine zG 6 rfl ?_
        try simp only [Act.put, aS, aZ, aC]
        refine zG 7 rfl ?_
        try simp only [Act.put, aS, aZ, aC]
        refine zG 8 rfl ?_
        try simp only [Act.put, aS, aZ, aC]
        refine zG 9 rfl ?_
        try simp only [Act.put, aS, aZ, aC]
        refine zG 10 rfl ?_
        try simp only [Act.put, aS, aZ, aC]
        refine zG 11 rfl ?_
        try simp only [Act.put, aS, aZ, aC]
        refine zG 12 rfl ?_
        try simp only [Act.put, aS, aZ, aC]
        refine zG 13 rfl ?_
        try simp only [Act.put, aS, aZ, aC]
        refine zG 14 rfl ?_
        try simp only [Act.put, aS, aZ, aC]
        refine zG 15 rfl ?_
        try simp only [Act.put, aS, aZ, aC]
        refine zG 16 rfl ?_
        try simp only [Act.put, aS, aZ, aC]
        refine zG 17 rfl ?_
        try simp only [Act.put, aS, aZ, aC]
        refine take_env (i := 18) (oi := { dst := some 55, op := Op.load 30 (Operand.tmp 4), type := 30, pos := "tree.go:80", after := #[{ on := 17, ground := Ground.guard }], guard := some (17, true) }) (Operand.tmp 4) rfl (by kernel_rfl) (by kernel_rfl) (by kernel_rfl) a n c (z) (fun _ _ _ h => h) (by rfl) rfl (B) rfl (HZ.out) (fun w h => h.1) (by assumption) ?_
        try simp only [Act.put, aS, aZ, aC]
        refine zG 19 rfl ?_
        try simp only [Act.put, aS, aZ, aC]
        refine zG 20 rfl ?_
        try simp only [Act.put, aS, aZ, aC]
        refine zG 21 rfl ?_
        try simp only [Act.put, aS, aZ, aC]
        refine zR [22] ?_
        refine hDo rfl (fun K hK => ?_) ?_
        ·go_simp
         (go_at_call 58; (with_reducible refine (KL.out _ (Below.refl w2.heap.size w2).drew).mono ?_); rintro e wE ⟨rfl, hbwE⟩)
         have HwE : Hid (Below w2.heap.size w2 wE) := hid (((Below.refl w2.heap.size w2).drew).trans (hbwE.mono ((Below.refl w2.heap.size w2).drew).size))
         clear hbwE
         refine hK.out _ _ (HK5.out _ HwE.out) (fun hHeld => ?_)
         clear hK K
         try simp only [Act.put, aS, aZ, aC]
         refine zG 23 rfl ?_
         try simp only [Act.put, aS, aZ, aC]
         refine zG 24 rfl ?_
         try simp only [Act.put, aS, aZ, aC]
         refine wpAnyH_done (by kernel_rfl) ?_ _
         refine NoPanic.normal ?_
         go_wp2
         go_ret
         exact ⟨by rw [HV9.out]; rfl, HB2.out.trans (HwE.out.mono HB2.out.size)⟩
        ·exact AllReadyH.nil
      ·have hv : V = false := by rw [HV1.out, decide_eq_false hm1]; simp
       subst hv
       have hcmp : ((m : Int) == 1) = false := by simp; omega
       go_wp2_with fail
       go_quiet (fail)
       go_wp2
       go_ret
       exact ⟨rfl, HB2.out.trans ((below_drewN (Below.refl _ _) _).mono HB2.out.size)⟩
     ·have hv : V = false := by rw [HV1.out, decide_eq_false hk0]; simp
      subst hv
      have hcmp : ((kn : Int) == 0) = false := by simp; omega
      go_wp2_with fail
      go_quiet (fail)
      go_wp2
      go_ret
      exact ⟨rfl, HB2.out.trans ((below_drewN (Below.refl _ _) _).mono HB2.out.size)⟩
    ·by_cases hk2 : xk = 2
     ·subst hk2
      have HVP : Hid (V = parP tok x K) := hid (by rw [HVD.out, if_neg (by decide), if_pos rfl])
      clear HVD hk1
      by_cases hk1 : kn = 1
      ·subst hk1
       cases K with
       | nil => exact absurd HKL.out (by simp)
       | cons y K =>
        have hK0 : K = [] := List.eq_nil_of_length_eq_zero (by have := HKL.out; simpa using this)
        subst hK0
        by_cases hxn : xn = []
        ·subst hxn
         obtain ⟨kb, ko, rfl, _, hc⟩ := H2.out.2.2.2.at_ (by omega)
         clear hc
         obtain ⟨lf, hlf⟩ : ∃ v, v = (y.f == x.f + 1 && (y.t == x.t - 1 && (soloB (tkn tok x.f) 40 && soloB (tkn tok (x.t - 1)) 41))) := ⟨_, rfl⟩
         have HV9 : Hid (V = lf) := hid (by rw [HVP.out, hlf]; unfold parP; rw [← HXX.out.2.1]; rfl)
         have hnx : ndA x = #[.int .i64 2, .string (mk []), .int .i64 f, .int .i64 t, .int .i64 x.c] := by
          unfold ndA; rw [← HXX.out.1, ← HXX.out.2.1, ← HXX.out.2.2.1, ← HXX.out.2.2.2]
         have hny : ndA y = #[.int .i64 y.k, .string (mk y.n), .int .i64 y.f, .int .i64 y.t, .int .i64 y.c] := rfl
         have KE : Hid (∀ w', Below w2.heap.size w2 w' → Calls Tryz.prog 65 #[.slice (some ⟨lb, o', none⟩) m c', .agg #[.int .i64 2, .string (mk []), .int .i64 f, .int .i64 t, .int .i64 x.c], .agg #[.int .i64 y.k, .string (mk y.n), .int .i64 y.f, .int .i64 y.t, .int .i64 y.c]] w' fun e w'' => e = .returned (.bool lf) ∧ Below w'.heap.size w' w'') := hid fun w' hb => by
          rw [← hnx, ← hny, hlf]
          have hgd := HGD.out
          unfold goodN at hgd
          rw [HTL.out] at hgd
          have hmm := HM.out
          have hxx := HXX.out
          have e1 : tkn tok x.f = tat ((tok.take t).drop f) 0 := by
           rw [tat_sub (by omega), ← hxx.2.2.1]; unfold tkn; rw [Int.toNat_natCast]; rfl
          have e2 : tkn tok (x.t - 1) = tat ((tok.take t).drop f) (m - 1) := by
           rw [tat_sub (by omega), ← hxx.2.2.2]; unfold tkn; congr 1; omega
          rw [e1, e2]
          exact encloses_any _ m c' _ x y w' (HTS.out.below hb) hm0 hmB (by omega) (by omega)
         have HK5 : Hid (∀ w', Below w2.heap.size w2 w' → w'.cell? ⟨b1, 0, none⟩ = some (.int .i64 2) ∧ w'.cell? ⟨b1, 1, none⟩ = some (.string (mk [])) ∧ w'.cell? ⟨b1, 2, none⟩ = some (.int .i64 f) ∧ w'.cell? ⟨b1, 3, none⟩ = some (.int .i64 t) ∧ w'.cell? ⟨b1, 4, none⟩ = some (.int .i64 x.c) ∧ w'.cell? ⟨kb, ko, none⟩ = some (.int .i64 y.k) ∧ w'.cell? ⟨kb, ko + 1, none⟩ = some (.string (mk y.n)) ∧ w'.cell? ⟨kb, ko + 2, none⟩ = some (.int .i64 y.f) ∧ w'.cell? ⟨kb, ko + 3, none⟩ = some (.int .i64 y.t) ∧ w'.cell? ⟨kb, ko + 4, none⟩ = some (.int .i64 y.c)) := hid fun w' hb => by
          obtain ⟨n0, n1, n2, n3, n4⟩ := (HX.out.below hb).cells
          rw [← HXX.out.1] at n0
          rw [← HXX.out.2.1] at n1
          rw [← HXX.out.2.2.1] at n2
          rw [← HXX.out.2.2.2] at n3
          obtain ⟨c0, c1, c2, c3, c4⟩ := NdS.at5 (H2.out.2.2.2.below hb) (show 0 < 1 by omega)
          rw [show nA [y] 0 = y from rfl, Nat.zero_mul, Nat.add_zero] at c0 c1 c2 c3 c4
          exact ⟨n0, n1, n2, n3, n4, c0, c1, c2, c3, c4⟩
         have hem := mk_toList []
         clear hlf hnx hny
         go_wp2_with fail
         refine wp_region_noPanic ?_
         refine wp_region_held_drew (S := fun w' => w'.cell? ⟨b1, 0, none⟩ = some (.int .i64 2) ∧ w'.cell? ⟨b1, 1, none⟩ = some (.string (mk [])) ∧ w'.cell? ⟨b1, 2, none⟩ = some (.int .i64 f) ∧ w'.cell? ⟨b1, 3, none⟩ = some (.int .i64 t) ∧ w'.cell? ⟨b1, 4, none⟩ = some (.int .i64 x.c) ∧ w'.cell? ⟨kb, ko, none⟩ = some (.int .i64 y.k) ∧ w'.cell? ⟨kb, ko + 1, none⟩ = some (.string (mk y.n)) ∧ w'.cell? ⟨kb, ko + 2, none⟩ = some (.int .i64 y.f) ∧ w'.cell? ⟨kb, ko + 3, none⟩ = some (.int .i64 y.t) ∧ w'.cell? ⟨kb, ko + 4, none⟩ = some (.int .i64 y.c)) (by kernel_rfl) (HK5.out _ (Below.refl _ _).drew) (fun hHeld => ?_)
         refine zG 0 rfl ?_
         try simp only [Act.put, aS, aZ, aC]
         refine zG 1 rfl ?_
         try simp only [Act.put, aS, aZ, aC]
         refine zG 2 rfl ?_
         try simp only [Act.put, aS, aZ, aC]
         refine zG 3 rfl ?_
         try simp only [Act.put, aS, aZ, aC]
         refine zG 4 rfl ?_
         try simp only [Act.put, aS, aZ, aC]
         refine zG 5 rfl ?_
         try simp only [Act.put, aS, aZ, aC]
         refine zG 6 rfl ?_
         try simp only [Act.put, aS, aZ, aC]
         refine zG 7 rfl ?_
         try simp only [Act.put, aS, aZ, aC]
         refine zG 8 rfl ?_
         try simp only [Act.put, aS, aZ, aC]
         refine zG 9 rfl ?_
         try simp only [Act.put, aS, aZ, aC]
         refine zG 10 rfl ?_
         try simp only [Act.put, aS, aZ, aC]
         refine zG 11 rfl ?_
         try simp only [Act.put, aS, aZ, aC]
         refine zG 12 rfl ?_
         try simp only [Act.put, aS, aZ, aC]
         refine zG 13 rfl ?_
         try simp only [Act.put, aS, aZ, aC]
         refine zR [14] ?_
         refine hDo rfl (fun K hK => ?_) ?_
         ·go_simp
          (go_at_call 65; (with_reducible refine (KE.out _ (Below.refl w2.heap.size w2).drew).mono ?_); rintro e wE ⟨rfl, hbwE⟩)
          have HwE : Hid (Below w2.heap.size w2 wE) := hid (((Below.refl w2.heap.size w2).drew).trans (hbwE.mono ((Below.refl w2.heap.size w2).drew).size))
          clear hbwE
          refine hK.out _ _ (HK5.out _ HwE.out) (fun hHeld => ?_)
          clear hK K
          try simp only [Act.put, aS, aZ, aC]
          refine zG 15 rfl ?_
          try simp only [Act.put, aS, aZ, aC]
          refine zG 16 rfl ?_
          try simp only [Act.put, aS, aZ, aC]
          refine wpAnyH_done (by kernel_rfl) ?_ _
          refine NoPanic.normal ?_
          go_wp2
          go_ret
          exact ⟨by rw [HV9.out]; rfl, HB2.out.trans (HwE.out.mono HB2.out.size)⟩
         ·exact AllReadyH.nil
        ·have hv : V = false := by
          rw [HVP.out]
          unfold parP
          rw [← HXX.out.2.1, beq_eq_false_iff_ne.2 hxn]
          rfl
         subst hv
         have he1 : ¬ (mk xn).toList = [] := by rw [mk_toList]; exact hxn
         have he2 : (mk xn).toList.isEmpty = false := by rw [mk_toList]; cases xn with | nil => exact absurd rfl hxn | cons _ _ => rfl
         go_wp2_with fail
         go_quiet (fail)
         go_wp2
         go_ret
         exact ⟨rfl, HB2.out.trans ((below_drewN (Below.refl _ _) _).mono HB2.out.size)⟩
      ·have hv : V = false := by
        rw [HVP.out]
        have hl := HKL.out
        match K, hl with
        | [], _ => rfl
        | [_], hl => exact absurd hl.symm (by simpa using hk1)
        | _ :: _ :: _, _ => rfl
       subst hv
       have hcmp : ((kn : Int) == 1) = false := by simp; omega
       go_wp2_with fail
       go_quiet (fail)
       go_wp2
       go_ret
       exact ⟨rfl, HB2.out.trans ((below_drewN (Below.refl _ _) _).mono HB2.out.size)⟩
     ·by_cases hk3 : xk = 3
      ·subst hk3
       have HVO : Hid (V = opP L z tok x K) := hid (by rw [HVD.out, if_neg (by decide), if_neg (by decide), if_pos rfl])
       clear HVD hk1 hk2
       go_wp2_with (first
        | (refine load_env rfl (.tmp 4) rfl B rfl a n c z HZ.out HE.out ?_)
        | (refine load_n5 rfl (.tmp 6) rfl b1 rfl x HX.out ?_))
       refine (operates_any a n c L z _ ln lc tok x ka kn kc K w2 H2.out.1 H2.out.2.1 HZ.out HR.out H2.out.2.2.1 H2.out.2.2.2 hn HL.out hln hkn HXN.out HGD.out HKG.out).mono ?_
       rintro e w3 ⟨rfl, hb3⟩
       have HB3 := hid hb3
       clear hb3
       rw [← HVO.out]
       go_wp2
       go_ret
       exact ⟨rfl, HB2.out.trans (HB3.out.mono HB2.out.size)⟩
      ·have hv : V = false := by rw [HVD.out, if_neg hk1, if_neg hk2, if_neg hk3]
       subst hv
       go_wp2
       go_ret
       exact ⟨rfl, HB2.out⟩
end Go.Proofs.YtanhpgmiadgmjaaGreatDoor
