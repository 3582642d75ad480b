/- ScopeBlocks (laid by genZn.py). -/
import Derived.Test.YtcpmpidpoelleaaGreatDoorZm
namespace Go.Proofs.YtcpmpidpoelleaaGreatDoor
open Go.RowKit

/-- What the law keeps: the scope in its variable, the one that was ahead of the blocks, how many blocks have begun. -/
structure BInv (w : World) (S W : Nat) (x y : XV) (e : EV) (i : Nat) : Prop where
  sx : SB w S x
  sw : SB w W y
  ox : x.own w
  ow : y.own w
  ok : okS x.k
  okw : okS y.k
  st : x.k.st.length = i
  out : outV x.k = e
  we : y.k.e = e
section
variable {w w' : World} {S W i : Nat} {x y : XV} {e : EV}
theorem BInv.below (h : BInv w S W x y e i) (hb : Below w.heap.size w w') : BInv w' S W x y e i := ⟨h.sx.below hb, h.sw.below hb, h.ox.below hb, h.ow.below hb, h.ok, h.okw, h.st, h.out, h.we⟩
theorem BInv.store {a : XV} {j : Nat} (h : BInv w S W x y e i) (hne : W ≠ S) (q : Only S w w') (hs : SB w' S a) (ha : a.own w) (ho : okS a.k) (hst : a.k.st.length = j) (hout : outV a.k = e) : BInv w' S W a y e j :=
  ⟨hs, h.sw.only q hne, ha.kp (Kp.scope h.sx q), h.ow.kp (Kp.scope h.sx q), ho, h.okw, hst, hout, h.we⟩
theorem BInv.n (h : BInv w S W x y e i) : x.n = i := by rw [(XV.lens h.ox).2]; exact h.st
end
/-- A directive read in a region that draws. -/
theorem step_load_declat {ops : Array Oper} {o : Oper} {A : Act} {w : World} {K : Act → World → Prop} {Q : Exit → Act → World → Prop} {E : Prop} (hw : Region.wanted o (yielded ops A.tmps) = true) (p : Operand) (ho : o.op = .load 37 p)
    (b off : Nat) (hx : A.eval p = .pointer (some ⟨b, off, none⟩)) (d : DV) (h : ∀ j, j < 6 → w.cell? ⟨b, off + j, none⟩ = (dvC d)[j]?)
    (k : K (A.put o.dst (.agg (dA d))) w) : if Region.wanted o (yielded ops A.tmps) = true then o.wp Tryz.prog A w K Q else E := by
  rw [if_pos hw]
  exact wp_load_mid 37 p ho b off hx (dvC d) _ (decl_range6 h) Tryz.underlying37 rfl decl_info6 k

set_option maxRecDepth 100000 in
set_option maxHeartbeats 40000000 in
theorem scopeBlocks_any (aA : Option Addr) (lenA capA : Nat) (D1 : List DV) (aB : Option Addr) (lenB capB : Nat) (D2 : List DV) (nb : Int) (w : World) (ht : Tab w) (h1 : DvS w aA lenA capA D1) (h2 : DvS w aB lenB capB D2)
    (hp1 : ∀ x ∈ D1, x.2.1.1.length ≤ 140737488355328) (hp2 : ∀ x ∈ D2, x.2.1.1.length ≤ 140737488355328) (hn : 0 ≤ nb ∧ nb ≤ 255) :
    Calls Tryz.prog 4 #[.slice aA lenA capA, .slice aB lenB capB, .int .u8 nb] w fun e w' => e = .returned (.bool true) ∧ Below w.heap.size w w' := by
  have hnew : ∀ W : World, SB (W.alloc (.cells #[.slice none 0 0, .int .i64 0, .int .i64 0, .int .i64 0, .int .i64 0, .int .i64 0, .int .i64 0, .int .i64 0, .int .i64 0, .int .i64 0, .int .i64 0, .slice none 0 0] 31)) W.heap.size x0 := fun W => SB.new W x0
  have HT := Lib.hid ht
  have HD1 := Lib.hid h1
  have HD2 := Lib.hid h2
  have HP1 := Lib.hid hp1
  have HP2 := Lib.hid hp2
  have HLN1 := Lib.hid (DvS.len h1)
  have HLN2 := Lib.hid (DvS.len h2)
  have hlc1 := h1.lc
  have hcm1 := h1.cm
  have hlc2 := h2.lc
  have hcm2 := h2.cm
  unfold maxLen at hcm1 hcm2
  obtain ⟨hn0, hn1⟩ := hn
  obtain ⟨m, hm, hm5⟩ : ∃ m : Nat, Int.tmod nb 6 = (m : Int) ∧ m ≤ 5 := ⟨(Int.tmod nb 6).toNat, by rw [Int.tmod_eq_emod_of_nonneg hn0]; omega, by rw [Int.tmod_eq_emod_of_nonneg hn0]; omega⟩
  have hme : nb % 6 = (m : Int) := by rw [← hm, Int.tmod_eq_emod_of_nonneg hn0]
  clear ht h1 h2 hp1 hp2
  go_enter Tryz.func4, Tryz.ntmps4
  go_wp2_with fail
  refine (lshown_any w HT.out).mono ?_
  rintro e w1 ⟨rfl, hb1⟩
  have HB1 : Hid (Below w.heap.size w w1) := Lib.hid hb1
  clear hb1
  go_wp2_with fail
  refine (sstart_any w1).mono ?_
  rintro e w2 ⟨rfl, hb2⟩
  have HB2 : Hid (Below w.heap.size w w2) := Lib.hid (HB1.out.trans (hb2.mono HB1.out.size))
  clear hb2
  obtain ⟨S, hS⟩ : ∃ S, S = w2.heap.size := ⟨_, rfl⟩
  have HSG : Hid (w.heap.size ≤ S) := Lib.hid (by rw [hS]; exact HB2.out.size)
  go_wp2_with (refine store_scope rfl (.tmp 8) (.tmp 24) rfl _ rfl xS rfl rfl x0 rfl (hnew w2) ?_; rw [← hS]; intro w3 he3 hq3; have HS3 : Hid (SB w3 S xS ∧ xS.own w3) := Lib.hid ⟨he3, xS_own w3⟩; have HB23 : Hid (Below w2.heap.size w2 w3) := Lib.hid ((below_alloc w2 _).trans (hq3.below (by rw [hS]; exact Nat.le_refl _))); clear he3 hq3 hS)
  have HB3 : Hid (Below w.heap.size w w3) := Lib.hid (HB2.out.trans (HB23.out.mono HB2.out.size))
  have HO3 : Hid (okS xS.k ∧ xS.k.st = []) := Lib.hid ⟨okS_start, rfl⟩
  clear HB23 HB1 HB2
  go_loopw [9] (fun v wr => ∃ (i : Nat) (x : XV), v = .int .i64 i ∧ i ≤ lenA ∧ i ≤ 20 ∧ Hid (SB wr S x ∧ x.own wr) ∧ Hid (okS x.k ∧ x.k.st = []) ∧ Hid (Below w.heap.size w wr)) (fun v _ => lenA - (intOf v).toNat)
  case atStart => exact ⟨0, xS, rfl, Nat.zero_le _, Nat.zero_le _, HS3, HO3, HB3⟩
  case round =>
    clear HS3 HO3 HB3
    obtain ⟨i, x, rfl, hi, hi20, HSX, HOX, HB⟩ := hrel
    have HZ : Hid (x.e.z.length = 10) := Lib.hid HSX.out.2.z
    by_cases hgo : i < lenA ∧ i < 20
    · obtain ⟨hlt, hlt20⟩ := hgo
      have hg1 : (i : Int) < (lenA : Int) := by omega
      have hg2 : (i : Int) < 20 := by omega
      have hs := Vs.below HD1.out HB.out
      obtain ⟨b, off, rfl, _, _⟩ := hs.at_ (by omega)
      have HC : Hid (∀ j, j < 6 → wr.cell? ⟨b, off + i * 6 + j, none⟩ = (dvC (dvA D1 i))[j]?) := Lib.hid (DvS.cells6 hs hlt)
      have HPD : Hid ((dvA D1 i).2.1.1.length ≤ 140737488355328) := Lib.hid (HP1.out _ (dvA_mem (by rw [HLN1.out]; exact hlt)))
      obtain ⟨d, hd⟩ : ∃ d, d = dvA D1 i := ⟨_, rfl⟩
      rw [← hd] at HC HPD
      clear hs hd
      go_wp2_with fail
      refine wp_region_noPanic ?_
      refine wp_region_held_drew (S := fun _ => True) (by kernel_rfl) (trivial) (fun hHeld => ?_)
      refine wpAnyH_take (i := 1) (oi := { dst := some 36, op := Op.move (Operand.tmp 0), type := 22, pos := "law.go:71", after := #[], guard := none }) (v := ?_) rfl (by kernel_rfl) (by kernel_rfl) (by kernel_rfl) (fun _ _ _ h => h) (Or.inl ⟨by rfl, ?_⟩) (by assumption) ?_
      rotate_left
      · intro w' hSw
        try dsimp only at hSw
        go_simp
        try with_reducible rfl
      try simp only [Act.put, List.setIfInBounds_toArray, List.set_cons_zero, List.set_cons_succ]
      refine wpAnyH_take (i := 2) (oi := { dst := some 37, op := Op.move (Operand.tmp 9), type := 3, pos := "law.go:71", after := #[], guard := none }) (v := ?_) rfl (by kernel_rfl) (by kernel_rfl) (by kernel_rfl) (fun _ _ _ h => h) (Or.inl ⟨by rfl, ?_⟩) (by assumption) ?_
      rotate_left
      · intro w' hSw
        try dsimp only at hSw
        go_simp
        try with_reducible rfl
      try simp only [Act.put, List.setIfInBounds_toArray, List.set_cons_zero, List.set_cons_succ]
      refine wpAnyH_take (i := 3) (oi := { dst := some 38, op := Op.indexAddr 22 (Operand.tmp 36) (Operand.tmp 37), type := 0, pos := "law.go:71", after := #[{ on := 1, ground := Ground.data }, { on := 2, ground := Ground.data }], guard := none }) (v := ?_) rfl (by kernel_rfl) (by kernel_rfl) (by kernel_rfl) (fun _ _ _ h => h) (Or.inl ⟨by rfl, ?_⟩) (by assumption) ?_
      rotate_left
      · intro w' hSw
        try dsimp only at hSw
        go_simp
        try with_reducible rfl
      try simp only [Act.put, List.setIfInBounds_toArray, List.set_cons_zero, List.set_cons_succ]
      refine wpAnyH_ready (rs := [0, 4]) (by kernel_rfl) (by simp) ?_
      refine AllReadyH.cons (o := { dst := some 35, op := Op.load 31 (Operand.tmp 8), type := 31, pos := "law.go:71", after := #[], guard := none }) rfl (fun K hK => ?_) ?_
      · refine step_load_scope rfl (.tmp 8) rfl S rfl x HZ.out HSX.out.1.drew ?_
        refine hK.out _ _ (trivial) (fun hHeld => ?_)
        clear hK K
        try simp only [Act.put, List.setIfInBounds_toArray, List.set_cons_zero, List.set_cons_succ]
        refine wpAnyH_ready (rs := [4]) (by kernel_rfl) (by simp) ?_
        refine AllReadyH.cons (o := { dst := some 39, op := Op.load 37 (Operand.tmp 38), type := 37, pos := "law.go:71", after := #[{ on := 3, ground := Ground.data }], guard := none }) rfl (fun K hK => ?_) ?_
        · refine step_load_declat rfl (.tmp 38) rfl b (off + i * 6) rfl d HC.out ?_
          refine hK.out _ _ (trivial) (fun hHeld => ?_)
          clear hK K
          try simp only [Act.put, List.setIfInBounds_toArray, List.set_cons_zero, List.set_cons_succ]
          refine wpAnyH_ready (rs := [5]) (by kernel_rfl) (by simp) ?_
          refine AllReadyH.cons (o := { dst := some 40, op := Op.call { callee := Callee.value (Operand.func 12), args := #[Operand.tmp 35, Operand.tmp 39], argTypes := #[31, 37] }, type := 31, pos := "law.go:71", after := #[{ on := 0, ground := Ground.data }, { on := 4, ground := Ground.data }], guard := none }) rfl (fun K hK => ?_) ?_
          · go_simp
            (go_at_call 12; (refine (declared_any x d _ (HT.out.keep HB.out.drew) (HSX.out.2.below (Below.refl _ _).drew) HOX.out.1 HPD.out).mono ?_); rintro e w6 ⟨y, rfl, ho6, hk6, hb6⟩)
            have HO6 := Lib.hid ho6
            have HK6 := Lib.hid hk6
            have HB6 : Hid (Below wr.heap.size wr w6) := Lib.hid ((Below.refl _ _).drew.trans hb6)
            have HS6 := Lib.hid (HSX.out.1.below HB6.out)
            clear ho6 hk6 hb6
            refine hK.out _ _ (trivial) (fun hHeld => ?_)
            clear hK K
            try simp only [Act.put, List.setIfInBounds_toArray, List.set_cons_zero, List.set_cons_succ]
            refine wpAnyH_ready (rs := [6]) (by kernel_rfl) (by simp) ?_
            refine AllReadyH.cons (o := { dst := none, op := Op.store 31 (Operand.tmp 8) (Operand.tmp 40), type := 0, pos := "law.go:71", after := #[{ on := 5, ground := Ground.data }, { on := 5, ground := Ground.chain }, { on := 0, ground := Ground.phase }, { on := 1, ground := Ground.phase }, { on := 2, ground := Ground.phase }, { on := 3, ground := Ground.phase }, { on := 4, ground := Ground.phase }, { on := 5, ground := Ground.phase }], guard := none }) rfl (fun K hK => ?_) ?_
            · refine step_store_scope rfl (.tmp 8) (.tmp 40) rfl S rfl y rfl HO6.out.z x HZ.out HS6.out ?_
              intro w7 he7 hq7
              have HE7 := Lib.hid he7
              have HQ7 := Lib.hid hq7
              clear he7 hq7
              refine hK.out _ _ (trivial) (fun hHeld => ?_)
              clear hK K
              try simp only [Act.put]
              refine wpAnyH_done (by kernel_rfl) ?_ _
              refine NoPanic.normal ?_
              have HN7 : Hid (SB w7 S y ∧ y.own w7) := Lib.hid ⟨HE7.out, HO6.out.kp (Kp.scope HS6.out HQ7.out)⟩
              have HM7 : Hid (okS y.k ∧ y.k.st = []) := Lib.hid ⟨by rw [HK6.out]; exact okS_dcd HOX.out.1 d, by rw [HK6.out, dcd_st]; exact HOX.out.2⟩
              have HB7 : Hid (Below w.heap.size w w7) := Lib.hid ((HB.out.trans (HB6.out.mono HB.out.size)).trans (HQ7.out.below HSG.out))
              go_wp2
              go_roundw
              case rel => exact ⟨i + 1, y, by go_num, by omega, by omega, HN7, HM7, HB7⟩
              case measure => simp [intOf]; omega
            exact AllReadyH.nil
          exact AllReadyH.nil
        exact AllReadyH.nil
      refine AllReadyH.cons (o := { dst := some 39, op := Op.load 37 (Operand.tmp 38), type := 37, pos := "law.go:71", after := #[{ on := 3, ground := Ground.data }], guard := none }) rfl (fun K hK => ?_) ?_
      · refine step_load_declat rfl (.tmp 38) rfl b (off + i * 6) rfl d HC.out ?_
        refine hK.out _ _ (trivial) (fun hHeld => ?_)
        clear hK K
        try simp only [Act.put, List.setIfInBounds_toArray, List.set_cons_zero, List.set_cons_succ]
        refine wpAnyH_ready (rs := [0]) (by kernel_rfl) (by simp) ?_
        refine AllReadyH.cons (o := { dst := some 35, op := Op.load 31 (Operand.tmp 8), type := 31, pos := "law.go:71", after := #[], guard := none }) rfl (fun K hK => ?_) ?_
        · refine step_load_scope rfl (.tmp 8) rfl S rfl x HZ.out HSX.out.1.drew ?_
          refine hK.out _ _ (trivial) (fun hHeld => ?_)
          clear hK K
          try simp only [Act.put, List.setIfInBounds_toArray, List.set_cons_zero, List.set_cons_succ]
          refine wpAnyH_ready (rs := [5]) (by kernel_rfl) (by simp) ?_
          refine AllReadyH.cons (o := { dst := some 40, op := Op.call { callee := Callee.value (Operand.func 12), args := #[Operand.tmp 35, Operand.tmp 39], argTypes := #[31, 37] }, type := 31, pos := "law.go:71", after := #[{ on := 0, ground := Ground.data }, { on := 4, ground := Ground.data }], guard := none }) rfl (fun K hK => ?_) ?_
          · go_simp
            (go_at_call 12; (refine (declared_any x d _ (HT.out.keep HB.out.drew) (HSX.out.2.below (Below.refl _ _).drew) HOX.out.1 HPD.out).mono ?_); rintro e w6 ⟨y, rfl, ho6, hk6, hb6⟩)
            have HO6 := Lib.hid ho6
            have HK6 := Lib.hid hk6
            have HB6 : Hid (Below wr.heap.size wr w6) := Lib.hid ((Below.refl _ _).drew.trans hb6)
            have HS6 := Lib.hid (HSX.out.1.below HB6.out)
            clear ho6 hk6 hb6
            refine hK.out _ _ (trivial) (fun hHeld => ?_)
            clear hK K
            try simp only [Act.put, List.setIfInBounds_toArray, List.set_cons_zero, List.set_cons_succ]
            refine wpAnyH_ready (rs := [6]) (by kernel_rfl) (by simp) ?_
            refine AllReadyH.cons (o := { dst := none, op := Op.store 31 (Operand.tmp 8) (Operand.tmp 40), type := 0, pos := "law.go:71", after := #[{ on := 5, ground := Ground.data }, { on := 5, ground := Ground.chain }, { on := 0, ground := Ground.phase }, { on := 1, ground := Ground.phase }, { on := 2, ground := Ground.phase }, { on := 3, ground := Ground.phase }, { on := 4, ground := Ground.phase }, { on := 5, ground := Ground.phase }], guard := none }) rfl (fun K hK => ?_) ?_
            · refine step_store_scope rfl (.tmp 8) (.tmp 40) rfl S rfl y rfl HO6.out.z x HZ.out HS6.out ?_
              intro w7 he7 hq7
              have HE7 := Lib.hid he7
              have HQ7 := Lib.hid hq7
              clear he7 hq7
              refine hK.out _ _ (trivial) (fun hHeld => ?_)
              clear hK K
              try simp only [Act.put]
              refine wpAnyH_done (by kernel_rfl) ?_ _
              refine NoPanic.normal ?_
              have HN7 : Hid (SB w7 S y ∧ y.own w7) := Lib.hid ⟨HE7.out, HO6.out.kp (Kp.scope HS6.out HQ7.out)⟩
              have HM7 : Hid (okS y.k ∧ y.k.st = []) := Lib.hid ⟨by rw [HK6.out]; exact okS_dcd HOX.out.1 d, by rw [HK6.out, dcd_st]; exact HOX.out.2⟩
              have HB7 : Hid (Below w.heap.size w w7) := Lib.hid ((HB.out.trans (HB6.out.mono HB.out.size)).trans (HQ7.out.below HSG.out))
              go_wp2
              go_roundw
              case rel => exact ⟨i + 1, y, by go_num, by omega, by omega, HN7, HM7, HB7⟩
              case measure => simp [intOf]; omega
            exact AllReadyH.nil
          exact AllReadyH.nil
        exact AllReadyH.nil
      exact AllReadyH.nil
    · rcases (show (¬ i < lenA) ∨ (i < lenA ∧ ¬ i < 20) by omega) with hx | hx
      · have hg1 : ¬ (i : Int) < (lenA : Int) := by omega
        clear hx hgo hi hi20
        obtain ⟨W, hW⟩ : ∃ W, W = wr.heap.size := ⟨_, rfl⟩
        have HWS : Hid (W ≠ S) := Lib.hid (by rw [hW]; have := HSX.out.1.lt; omega)
        obtain ⟨xw, hxw⟩ : ∃ xw, xw = x := ⟨_, rfl⟩
        have HXW : Hid (okS xw.k ∧ xw.k.st = []) := Lib.hid (by rw [hxw]; exact HOX.out)
        have HXX := Lib.hid hxw
        clear hxw
        obtain ⟨e0, he0⟩ : ∃ e0, e0 = xw.k.e := ⟨_, rfl⟩
        have HEE := Lib.hid he0
        clear he0
        go_wp2_with (first
          | (refine store_scope rfl (.tmp 10) (.tmp 41) rfl _ rfl x rfl HZ.out x0 rfl (hnew wr) ?_; rw [← hW]; intro wv hev hqv; have HWB : Hid (SB wv W x) := Lib.hid hev; have HBv : Hid (Below wr.heap.size wr wv) := Lib.hid ((below_alloc wr _).trans (hqv.below (by rw [hW]; exact Nat.le_refl _))); clear hev hqv hW)
          | (refine load_scope rfl (.tmp 8) rfl S rfl x HZ.out HSX.out.1 ?_))
        have HI : Hid (BInv wv S W x xw e0 0) := Lib.hid ⟨HSX.out.1.below HBv.out, by rw [HXX.out]; exact HWB.out, HSX.out.2.below HBv.out, by rw [HXX.out]; exact HSX.out.2.below HBv.out, HOX.out.1, HXW.out.1, by rw [HOX.out.2]; rfl, by rw [HEE.out, HXX.out]; exact out_done (by rw [HOX.out.2]; rfl), HEE.out.symm⟩
        have HBB : Hid (Below w.heap.size w wv) := Lib.hid (HB.out.trans (HBv.out.mono HB.out.size))
        have hg1' := hg1
        clear HSX HOX HB HWB HBv HXX HEE HXW HZ hg1'
        go_loopw [12] (fun v wr => ∃ (i : Nat) (x : XV), v = .int .i64 i ∧ i ≤ m + 1 ∧ Hid (BInv wr S W x xw e0 i) ∧ Hid (Below w.heap.size w wr)) (fun v _ => m + 1 - (intOf v).toNat)
        case atStart => exact ⟨0, x, rfl, Nat.zero_le _, HI, HBB⟩
        case round =>
          clear HI HBB
          obtain ⟨i, x, rfl, hi, HI, HB⟩ := hrel
          have HZ : Hid (x.e.z.length = 10) := Lib.hid HI.out.ox.z
          by_cases hlt : i < m + 1
          · have hlt' : (i : Int) < 1 + (m : Int) := by omega
            have hdi : decide ((i : Int) < 1 + (m : Int)) = true := by simpa using hlt'
            go_wp2_with (refine load_scope rfl (.tmp 8) rfl S rfl x HZ.out HI.out.sx ?_)
            obtain ⟨q1, q2⟩ := step_begin (s := x.k) (d := dv4) rfl (by have := HI.out.st; omega)
            refine (sstep_any x dv4 wr (HT.out.keep HB.out) HI.out.ox.ok HI.out.ok (by decide)).mono ?_
            rw [q1]
            have HQ2 := Lib.hid q2
            clear q1 q2
            rintro e w6 ⟨y, rfl, ho6, hk6, hb6⟩
            have HO6 := Lib.hid ho6
            have HK6 : Hid (y.k = ⟨x.k.e, x.k.st ++ [x.k.e]⟩) := Lib.hid (hk6.trans HQ2.out)
            have HOK6 : Hid (okS y.k) := Lib.hid (by rw [hk6]; exact okS_V HI.out.ok _)
            have HI6 := Lib.hid (HI.out.below hb6)
            have HB6 : Hid (Below w.heap.size w w6) := Lib.hid (HB.out.trans (hb6.mono HB.out.size))
            clear ho6 hk6 hb6 HQ2
            have HST : Hid (y.k.st.length = i + 1 ∧ outV y.k = e0) := Lib.hid (by
              rw [HK6.out]
              refine ⟨by rw [List.length_append, HI.out.st]; rfl, ?_⟩
              rw [out_begin]; exact HI.out.out)
            have HYN : Hid (y.n = i + 1) := Lib.hid (by rw [(XV.lens HO6.out).2]; exact HST.out.1)
            have HZ6 : Hid (y.e.z.length = 10) := Lib.hid HO6.out.z
            obtain ⟨T, hT⟩ : ∃ T, T = w6.heap.size := ⟨_, rfl⟩
            go_wp2_with (first
              | (refine store_scope rfl (.tmp 8) (.tmp 67) rfl S rfl y rfl HZ6.out x HZ.out HI7.out.sx ?_; intro w8 he8 hq8; have HI8 : Hid (BInv w8 S W y xw e0 (i + 1)) := Lib.hid (HI7.out.store HWS.out hq8 he8 (HO6.out.below HB67.out) HOK6.out HST.out.1 HST.out.2); have HB8 : Hid (Below w.heap.size w w8) := Lib.hid ((HB6.out.trans (HB67.out.mono HB6.out.size)).trans (hq8.below HSG.out)); clear he8 hq8)
              | (refine load_scope rfl (.tmp 13) rfl T rfl y HZ6.out HT7.out ?_)
              | (refine store_scope rfl (.tmp 13) (.tmp 55) rfl _ rfl y rfl HZ6.out x0 rfl (hnew w6) ?_; rw [← hT]; intro w7 he7 hq7; have HT7 := Lib.hid he7; have HB67 : Hid (Below w6.heap.size w6 w7) := Lib.hid ((below_alloc w6 _).trans (hq7.below (by rw [hT]; exact Nat.le_refl _))); have HI7 := Lib.hid (HI6.out.below HB67.out); have c11 := he7.c11 HZ6.out; rw [HYN.out] at c11; clear he7 hq7 hT))
            clear c11 HI6 HI7 HT7 HB6 HB67 HO6 HK6 HOK6 HST HYN HZ6 HI HB HZ
            go_loopw [15] (fun v wr => ∃ (j : Nat) (x : XV), v = .int .i64 j ∧ j ≤ lenB ∧ j ≤ 20 ∧ Hid (BInv wr S W x xw e0 (i + 1)) ∧ Hid (Below w.heap.size w wr)) (fun v _ => lenB - (intOf v).toNat)
            case atStart => exact ⟨0, y, rfl, Nat.zero_le _, Nat.zero_le _, HI8, HB8⟩
            case round =>
              clear HI8 HB8
              obtain ⟨j, x, rfl, hj, hj20, HI, HB⟩ := hrel
              have HZ : Hid (x.e.z.length = 10) := Lib.hid HI.out.ox.z
              by_cases hgo : j < lenB ∧ j < 20
              · obtain ⟨hjl, hjl20⟩ := hgo
                have hg1 : (j : Int) < (lenB : Int) := by omega
                have hg2 : (j : Int) < 20 := by omega
                have hs := Vs.below HD2.out HB.out
                obtain ⟨b, off, rfl, _, _⟩ := hs.at_ (by omega)
                have HC : Hid (∀ q, q < 6 → wr.cell? ⟨b, off + j * 6 + q, none⟩ = (dvC (dvA D2 j))[q]?) := Lib.hid (DvS.cells6 hs hjl)
                have HPD : Hid ((dvA D2 j).2.1.1.length ≤ 140737488355328) := Lib.hid (HP2.out _ (dvA_mem (by rw [HLN2.out]; exact hjl)))
                obtain ⟨d, hd⟩ : ∃ d, d = dvA D2 j := ⟨_, rfl⟩
                rw [← hd] at HC HPD
                clear hs hd
                go_wp2_with fail
                refine wp_region_noPanic ?_
                refine wp_region_held_drew (S := fun _ => True) (by kernel_rfl) (trivial) (fun hHeld => ?_)
                refine wpAnyH_take (i := 1) (oi := { dst := some 79, op := Op.move (Operand.tmp 1), type := 22, pos := "law.go:82", after := #[], guard := none }) (v := ?_) rfl (by kernel_rfl) (by kernel_rfl) (by kernel_rfl) (fun _ _ _ h => h) (Or.inl ⟨by rfl, ?_⟩) (by assumption) ?_
                rotate_left
                · intro w' hSw
                  try dsimp only at hSw
                  go_simp
                  try with_reducible rfl
                try simp only [Act.put, List.setIfInBounds_toArray, List.set_cons_zero, List.set_cons_succ]
                refine wpAnyH_take (i := 2) (oi := { dst := some 80, op := Op.move (Operand.tmp 15), type := 3, pos := "law.go:82", after := #[], guard := none }) (v := ?_) rfl (by kernel_rfl) (by kernel_rfl) (by kernel_rfl) (fun _ _ _ h => h) (Or.inl ⟨by rfl, ?_⟩) (by assumption) ?_
                rotate_left
                · intro w' hSw
                  try dsimp only at hSw
                  go_simp
                  try with_reducible rfl
                try simp only [Act.put, List.setIfInBounds_toArray, List.set_cons_zero, List.set_cons_succ]
                refine wpAnyH_take (i := 3) (oi := { dst := some 81, op := Op.indexAddr 22 (Operand.tmp 79) (Operand.tmp 80), type := 0, pos := "law.go:82", after := #[{ on := 1, ground := Ground.data }, { on := 2, ground := Ground.data }], guard := none }) (v := ?_) rfl (by kernel_rfl) (by kernel_rfl) (by kernel_rfl) (fun _ _ _ h => h) (Or.inl ⟨by rfl, ?_⟩) (by assumption) ?_
                rotate_left
                · intro w' hSw
                  try dsimp only at hSw
                  go_simp
                  try with_reducible rfl
                try simp only [Act.put, List.setIfInBounds_toArray, List.set_cons_zero, List.set_cons_succ]
                refine wpAnyH_ready (rs := [0, 4]) (by kernel_rfl) (by simp) ?_
                refine AllReadyH.cons (o := { dst := some 78, op := Op.load 31 (Operand.tmp 8), type := 31, pos := "law.go:82", after := #[], guard := none }) rfl (fun K hK => ?_) ?_
                · refine step_load_scope rfl (.tmp 8) rfl S rfl x HZ.out HI.out.sx.drew ?_
                  refine hK.out _ _ (trivial) (fun hHeld => ?_)
                  clear hK K
                  try simp only [Act.put, List.setIfInBounds_toArray, List.set_cons_zero, List.set_cons_succ]
                  refine wpAnyH_ready (rs := [4]) (by kernel_rfl) (by simp) ?_
                  refine AllReadyH.cons (o := { dst := some 82, op := Op.load 37 (Operand.tmp 81), type := 37, pos := "law.go:82", after := #[{ on := 3, ground := Ground.data }], guard := none }) rfl (fun K hK => ?_) ?_
                  · refine step_load_declat rfl (.tmp 81) rfl b (off + j * 6) rfl d HC.out ?_
                    refine hK.out _ _ (trivial) (fun hHeld => ?_)
                    clear hK K
                    try simp only [Act.put, List.setIfInBounds_toArray, List.set_cons_zero, List.set_cons_succ]
                    refine wpAnyH_ready (rs := [5]) (by kernel_rfl) (by simp) ?_
                    refine AllReadyH.cons (o := { dst := some 83, op := Op.call { callee := Callee.value (Operand.func 12), args := #[Operand.tmp 78, Operand.tmp 82], argTypes := #[31, 37] }, type := 31, pos := "law.go:82", after := #[{ on := 0, ground := Ground.data }, { on := 4, ground := Ground.data }], guard := none }) rfl (fun K hK => ?_) ?_
                    · go_simp
                      (go_at_call 12; (refine (declared_any x d _ (HT.out.keep HB.out.drew) (HI.out.ox.below (Below.refl _ _).drew) HI.out.ok HPD.out).mono ?_); rintro e w6 ⟨y, rfl, ho6, hk6, hb6⟩)
                      have HO6 := Lib.hid ho6
                      have HK6 := Lib.hid hk6
                      have HB6 : Hid (Below wr.heap.size wr w6) := Lib.hid ((Below.refl _ _).drew.trans hb6)
                      have HI6 := Lib.hid (HI.out.below HB6.out)
                      clear ho6 hk6 hb6
                      refine hK.out _ _ (trivial) (fun hHeld => ?_)
                      clear hK K
                      try simp only [Act.put, List.setIfInBounds_toArray, List.set_cons_zero, List.set_cons_succ]
                      refine wpAnyH_ready (rs := [6]) (by kernel_rfl) (by simp) ?_
                      refine AllReadyH.cons (o := { dst := none, op := Op.store 31 (Operand.tmp 8) (Operand.tmp 83), type := 0, pos := "law.go:82", after := #[{ on := 5, ground := Ground.data }, { on := 5, ground := Ground.chain }, { on := 0, ground := Ground.phase }, { on := 1, ground := Ground.phase }, { on := 2, ground := Ground.phase }, { on := 3, ground := Ground.phase }, { on := 4, ground := Ground.phase }, { on := 5, ground := Ground.phase }], guard := none }) rfl (fun K hK => ?_) ?_
                      · refine step_store_scope rfl (.tmp 8) (.tmp 83) rfl S rfl y rfl HO6.out.z x HZ.out HI6.out.sx ?_
                        intro w7 he7 hq7
                        have HE7 := Lib.hid he7
                        have HQ7 := Lib.hid hq7
                        clear he7 hq7
                        refine hK.out _ _ (trivial) (fun hHeld => ?_)
                        clear hK K
                        try simp only [Act.put]
                        refine wpAnyH_done (by kernel_rfl) ?_ _
                        refine NoPanic.normal ?_
                        have HI7 : Hid (BInv w7 S W y xw e0 (i + 1)) := Lib.hid (HI6.out.store HWS.out HQ7.out HE7.out HO6.out (by rw [HK6.out]; exact okS_dcd HI.out.ok d) (by rw [HK6.out, dcd_st]; exact HI.out.st) (by rw [HK6.out, dcd_out d (by intro h0; have := HI.out.st; rw [h0] at this; cases this)]; exact HI.out.out))
                        have HB7 : Hid (Below w.heap.size w w7) := Lib.hid ((HB.out.trans (HB6.out.mono HB.out.size)).trans (HQ7.out.below HSG.out))
                        go_wp2
                        go_roundw
                        case rel => exact ⟨j + 1, y, by go_num, by omega, by omega, HI7, HB7⟩
                        case measure => simp [intOf]; omega
                      exact AllReadyH.nil
                    exact AllReadyH.nil
                  exact AllReadyH.nil
                refine AllReadyH.cons (o := { dst := some 82, op := Op.load 37 (Operand.tmp 81), type := 37, pos := "law.go:82", after := #[{ on := 3, ground := Ground.data }], guard := none }) rfl (fun K hK => ?_) ?_
                · refine step_load_declat rfl (.tmp 81) rfl b (off + j * 6) rfl d HC.out ?_
                  refine hK.out _ _ (trivial) (fun hHeld => ?_)
                  clear hK K
                  try simp only [Act.put, List.setIfInBounds_toArray, List.set_cons_zero, List.set_cons_succ]
                  refine wpAnyH_ready (rs := [0]) (by kernel_rfl) (by simp) ?_
                  refine AllReadyH.cons (o := { dst := some 78, op := Op.load 31 (Operand.tmp 8), type := 31, pos := "law.go:82", after := #[], guard := none }) rfl (fun K hK => ?_) ?_
                  · refine step_load_scope rfl (.tmp 8) rfl S rfl x HZ.out HI.out.sx.drew ?_
                    refine hK.out _ _ (trivial) (fun hHeld => ?_)
                    clear hK K
                    try simp only [Act.put, List.setIfInBounds_toArray, List.set_cons_zero, List.set_cons_succ]
                    refine wpAnyH_ready (rs := [5]) (by kernel_rfl) (by simp) ?_
                    refine AllReadyH.cons (o := { dst := some 83, op := Op.call { callee := Callee.value (Operand.func 12), args := #[Operand.tmp 78, Operand.tmp 82], argTypes := #[31, 37] }, type := 31, pos := "law.go:82", after := #[{ on := 0, ground := Ground.data }, { on := 4, ground := Ground.data }], guard := none }) rfl (fun K hK => ?_) ?_
                    · go_simp
                      (go_at_call 12; (refine (declared_any x d _ (HT.out.keep HB.out.drew) (HI.out.ox.below (Below.refl _ _).drew) HI.out.ok HPD.out).mono ?_); rintro e w6 ⟨y, rfl, ho6, hk6, hb6⟩)
                      have HO6 := Lib.hid ho6
                      have HK6 := Lib.hid hk6
                      have HB6 : Hid (Below wr.heap.size wr w6) := Lib.hid ((Below.refl _ _).drew.trans hb6)
                      have HI6 := Lib.hid (HI.out.below HB6.out)
                      clear ho6 hk6 hb6
                      refine hK.out _ _ (trivial) (fun hHeld => ?_)
                      clear hK K
                      try simp only [Act.put, List.setIfInBounds_toArray, List.set_cons_zero, List.set_cons_succ]
                      refine wpAnyH_ready (rs := [6]) (by kernel_rfl) (by simp) ?_
                      refine AllReadyH.cons (o := { dst := none, op := Op.store 31 (Operand.tmp 8) (Operand.tmp 83), type := 0, pos := "law.go:82", after := #[{ on := 5, ground := Ground.data }, { on := 5, ground := Ground.chain }, { on := 0, ground := Ground.phase }, { on := 1, ground := Ground.phase }, { on := 2, ground := Ground.phase }, { on := 3, ground := Ground.phase }, { on := 4, ground := Ground.phase }, { on := 5, ground := Ground.phase }], guard := none }) rfl (fun K hK => ?_) ?_
                      · refine step_store_scope rfl (.tmp 8) (.tmp 83) rfl S rfl y rfl HO6.out.z x HZ.out HI6.out.sx ?_
                        intro w7 he7 hq7
                        have HE7 := Lib.hid he7
                        have HQ7 := Lib.hid hq7
                        clear he7 hq7
                        refine hK.out _ _ (trivial) (fun hHeld => ?_)
                        clear hK K
                        try simp only [Act.put]
                        refine wpAnyH_done (by kernel_rfl) ?_ _
                        refine NoPanic.normal ?_
                        have HI7 : Hid (BInv w7 S W y xw e0 (i + 1)) := Lib.hid (HI6.out.store HWS.out HQ7.out HE7.out HO6.out (by rw [HK6.out]; exact okS_dcd HI.out.ok d) (by rw [HK6.out, dcd_st]; exact HI.out.st) (by rw [HK6.out, dcd_out d (by intro h0; have := HI.out.st; rw [h0] at this; cases this)]; exact HI.out.out))
                        have HB7 : Hid (Below w.heap.size w w7) := Lib.hid ((HB.out.trans (HB6.out.mono HB.out.size)).trans (HQ7.out.below HSG.out))
                        go_wp2
                        go_roundw
                        case rel => exact ⟨j + 1, y, by go_num, by omega, by omega, HI7, HB7⟩
                        case measure => simp [intOf]; omega
                      exact AllReadyH.nil
                    exact AllReadyH.nil
                  exact AllReadyH.nil
                exact AllReadyH.nil
              · rcases (show (¬ j < lenB) ∨ (j < lenB ∧ ¬ j < 20) by omega) with hx | hx
                · have hg1 : ¬ (j : Int) < (lenB : Int) := by omega
                  clear hx hgo
                  go_wp2
                  go_roundw
                  case rel => exact ⟨i + 1, x, by go_num, by omega, HI, HB⟩
                  case measure => simp [intOf]; omega
                · obtain ⟨hx1, hx2⟩ := hx
                  have hg1 : (j : Int) < (lenB : Int) := by omega
                  have hg2 : ¬ (j : Int) < 20 := by omega
                  clear hx1 hx2 hgo
                  go_wp2
                  go_roundw
                  case rel => exact ⟨i + 1, x, by go_num, by omega, HI, HB⟩
                  case measure => simp [intOf]; omega
          · have hlt' : ¬ (i : Int) < 1 + (m : Int) := by omega
            have hXN : x.n = m + 1 := by rw [HI.out.n]; omega
            have HIM : Hid (BInv wr S W x xw e0 (m + 1)) := Lib.hid (by have := HI.out; rw [show i = m + 1 by omega] at this; exact this)
            have c11 := HI.out.sx.c11 HZ.out
            rw [hXN] at c11
            clear hXN HI
            by_cases h6 : m = 5
            · subst h6
              go_wp2_with (refine load_scope rfl (.tmp 8) rfl S rfl x HZ.out HIM.out.sx ?_)
              clear c11
              obtain ⟨q1, _⟩ := step_big (s := x.k) (d := dv4) rfl (by have := HIM.out.st; omega)
              refine (sstep_any x dv4 wr (HT.out.keep HB.out) HIM.out.ox.ok HIM.out.ok (by decide)).mono ?_
              rw [q1]
              clear q1
              rintro e w6 ⟨y, rfl, ho6, _, hb6⟩
              have HZ6 : Hid (y.e.z.length = 10) := Lib.hid ho6.z
              have HI6 := Lib.hid (HIM.out.below hb6)
              have HB6 : Hid (Below w.heap.size w w6) := Lib.hid (HB.out.trans (hb6.mono HB.out.size))
              clear ho6 hb6
              obtain ⟨T, hT⟩ : ∃ T, T = w6.heap.size := ⟨_, rfl⟩
              go_wp2_with (refine store_scope rfl (.tmp 16) (.tmp 92) rfl _ rfl y rfl HZ6.out x0 rfl (hnew w6) ?_; rw [← hT]; intro w7 he7 hq7; have HB67 : Hid (Below w6.heap.size w6 w7) := Lib.hid ((below_alloc w6 _).trans (hq7.below (by rw [hT]; exact Nat.le_refl _))); have HI7 : Hid (BInv w7 S W x xw e0 (5 + 1 - 0)) := Lib.hid (HI6.out.below HB67.out); have HB7 : Hid (Below w.heap.size w w7) := Lib.hid (HB6.out.trans (HB67.out.mono HB6.out.size)); clear he7 hq7 hT)
              clear HI6 HB6 HB67 HIM HB HZ6 HZ
              go_loopw [18] (fun v wr => ∃ (i : Nat) (x : XV), v = .int .i64 i ∧ i ≤ 5 + 1 ∧ Hid (BInv wr S W x xw e0 (5 + 1 - i)) ∧ Hid (Below w.heap.size w wr)) (fun v _ => 5 + 1 - (intOf v).toNat)
              case atStart => exact ⟨0, x, rfl, Nat.zero_le _, HI7, HB7⟩
              case round =>
                clear HI7 HB7
                obtain ⟨i, x, rfl, hi, HI, HB⟩ := hrel
                have HZ : Hid (x.e.z.length = 10) := Lib.hid HI.out.ox.z
                by_cases hlt4 : i < 5 + 1
                · have hlt4' : (i : Int) < 1 + (5 : Int) := by omega
                  go_wp2_with (refine load_scope rfl (.tmp 8) rfl S rfl x HZ.out HI.out.sx ?_)
                  obtain ⟨q1, q2⟩ := step_end (s := x.k) (d := dv5) rfl (by have := HI.out.st; omega)
                  refine (sstep_any x dv5 wr (HT.out.keep HB.out) HI.out.ox.ok HI.out.ok (by decide)).mono ?_
                  rw [q1]
                  have HQ2 := Lib.hid q2
                  clear q1 q2
                  rintro e w6 ⟨y, rfl, ho6, hk6, hb6⟩
                  have HO6 := Lib.hid ho6
                  have HK6 := Lib.hid (hk6.trans HQ2.out)
                  have HOK6 : Hid (okS y.k) := Lib.hid (by rw [hk6]; exact okS_V HI.out.ok _)
                  have HI6 := Lib.hid (HI.out.below hb6)
                  have HB6 : Hid (Below w.heap.size w w6) := Lib.hid (HB.out.trans (hb6.mono HB.out.size))
                  clear ho6 hk6 hb6 HQ2
                  have HST : Hid (y.k.st.length = 5 + 1 - (i + 1) ∧ outV y.k = e0) := Lib.hid (by
                    rw [HK6.out]
                    refine ⟨by show (x.k.st.take (x.k.st.length - 1)).length = _; rw [List.length_take]; have := HI.out.st; omega, ?_⟩
                    rw [out_end x.k (by have := HI.out.st; omega)]; exact HI.out.out)
                  have HZ6 : Hid (y.e.z.length = 10) := Lib.hid HO6.out.z
                  obtain ⟨T, hT⟩ : ∃ T, T = w6.heap.size := ⟨_, rfl⟩
                  go_wp2_with (first
                    | (refine store_scope rfl (.tmp 8) (.tmp 109) rfl S rfl y rfl HZ6.out x HZ.out HI7.out.sx ?_; intro w8 he8 hq8; have HI8 : Hid (BInv w8 S W y xw e0 (5 + 1 - (i + 1))) := Lib.hid (HI7.out.store HWS.out hq8 he8 (HO6.out.below HB67.out) HOK6.out HST.out.1 HST.out.2); have HB8 : Hid (Below w.heap.size w w8) := Lib.hid ((HB6.out.trans (HB67.out.mono HB6.out.size)).trans (hq8.below HSG.out)); clear he8 hq8)
                    | (refine load_scope rfl (.tmp 19) rfl T rfl y HZ6.out HT7.out ?_)
                    | (refine store_scope rfl (.tmp 19) (.tmp 105) rfl _ rfl y rfl HZ6.out x0 rfl (hnew w6) ?_; rw [← hT]; intro w7 he7 hq7; have HT7 := Lib.hid he7; have HB67 : Hid (Below w6.heap.size w6 w7) := Lib.hid ((below_alloc w6 _).trans (hq7.below (by rw [hT]; exact Nat.le_refl _))); have HI7 := Lib.hid (HI6.out.below HB67.out); clear he7 hq7 hT))
                  go_roundw
                  case rel => exact ⟨i + 1, y, by go_num, by omega, HI8, HB8⟩
                  case measure => simp [intOf]; omega
                · have hlt4' : ¬ (i : Int) < 1 + (5 : Int) := by omega
                  have HI0 : Hid (BInv wr S W x xw e0 0) := Lib.hid (by have := HI.out; rw [show 5 + 1 - i = 0 by omega] at this; exact this)
                  clear HI
                  go_wp2_with (refine load_scope rfl (.tmp 8) rfl S rfl x HZ.out HI0.out.sx ?_)
                  obtain ⟨q1, _⟩ := step_none (s := x.k) (d := dv5) rfl HI0.out.st
                  refine (sstep_any x dv5 wr (HT.out.keep HB.out) HI0.out.ox.ok HI0.out.ok (by decide)).mono ?_
                  rw [q1]
                  clear q1
                  rintro e w6 ⟨y, rfl, ho6, _, hb6⟩
                  have HZ6 : Hid (y.e.z.length = 10) := Lib.hid ho6.z
                  have HI6 := Lib.hid (HI0.out.below hb6)
                  have HB6 : Hid (Below w.heap.size w w6) := Lib.hid (HB.out.trans (hb6.mono HB.out.size))
                  clear ho6 hb6
                  obtain ⟨T, hT⟩ : ∃ T, T = w6.heap.size := ⟨_, rfl⟩
                  have HZW : Hid (xw.e.z.length = 10) := Lib.hid HI0.out.ow.z
                  go_wp2_with (first
                    | (refine load_senv rfl (.tmp 124) rfl W rfl xw HZW.out HI7.out.sw ?_)
                    | (refine load_senv rfl (.tmp 122) rfl S rfl x HZ.out HI7.out.sx ?_)
                    | (refine store_scope rfl (.tmp 21) (.tmp 114) rfl _ rfl y rfl HZ6.out x0 rfl (hnew w6) ?_; rw [← hT]; intro w7 he7 hq7; have HB67 : Hid (Below w6.heap.size w6 w7) := Lib.hid ((below_alloc w6 _).trans (hq7.below (by rw [hT]; exact Nat.le_refl _))); have HI7 := Lib.hid (HI6.out.below HB67.out); clear he7 hq7 hT))
                  have HB7 : Hid (Below w.heap.size w w7) := Lib.hid (HB6.out.trans (HB67.out.mono HB6.out.size))
                  have HEQ : Hid (x.e.L = xw.e.L ∧ x.e.z = xw.e.z) := Lib.hid (by
                    have h1 : x.k.e = xw.k.e := by rw [HI7.out.we, ← HI7.out.out]; exact (out_done HI7.out.st).symm
                    exact ⟨congrArg Prod.fst h1, congrArg Prod.snd h1⟩)
                  refine (equal_any x.e.a xw.e.a x.e.n xw.e.n x.e.c xw.e.c x.e.L xw.e.L x.e.z xw.e.z w7 HI7.out.ox.e.1.vs HI7.out.ow.e.1.vs HZ.out HZW.out (by have := (XV.small HI7.out.ox.ok HI7.out.ok).1; omega) (by have := (XV.small HI7.out.ow.ok HI7.out.okw).1; omega)).mono ?_
                  rw [decide_eq_true HEQ.out]
                  rintro e w8 ⟨rfl, hb8⟩
                  have c11 := (HI7.out.sx.below hb8).c11 HZ.out
                  rw [HI7.out.n] at c11
                  have HB8 : Hid (Below w.heap.size w w8) := Lib.hid (HB7.out.trans (hb8.mono HB7.out.size))
                  clear hb8
                  go_wp2
                  go_ret
                  exact ⟨rfl, HB8.out⟩
            · have h6' : ¬ ((m : Int) + 1 = 6) := by omega
              have h6b : ((m : Int) + 1 == 6) = false := by simpa using h6'
              have HI7 : Hid (BInv wr S W x xw e0 (m + 1 - 0)) := Lib.hid HIM.out
              have HB7 := HB
              clear HIM HB HZ h6
              go_wp2
              clear c11 h6' h6b
              go_loopw [18] (fun v wr => ∃ (i : Nat) (x : XV), v = .int .i64 i ∧ i ≤ m + 1 ∧ Hid (BInv wr S W x xw e0 (m + 1 - i)) ∧ Hid (Below w.heap.size w wr)) (fun v _ => m + 1 - (intOf v).toNat)
              case atStart => exact ⟨0, x, rfl, Nat.zero_le _, HI7, HB7⟩
              case round =>
                clear HI7 HB7
                obtain ⟨i, x, rfl, hi, HI, HB⟩ := hrel
                have HZ : Hid (x.e.z.length = 10) := Lib.hid HI.out.ox.z
                by_cases hlt4 : i < m + 1
                · have hlt4' : (i : Int) < 1 + (m : Int) := by omega
                  go_wp2_with (refine load_scope rfl (.tmp 8) rfl S rfl x HZ.out HI.out.sx ?_)
                  obtain ⟨q1, q2⟩ := step_end (s := x.k) (d := dv5) rfl (by have := HI.out.st; omega)
                  refine (sstep_any x dv5 wr (HT.out.keep HB.out) HI.out.ox.ok HI.out.ok (by decide)).mono ?_
                  rw [q1]
                  have HQ2 := Lib.hid q2
                  clear q1 q2
                  rintro e w6 ⟨y, rfl, ho6, hk6, hb6⟩
                  have HO6 := Lib.hid ho6
                  have HK6 := Lib.hid (hk6.trans HQ2.out)
                  have HOK6 : Hid (okS y.k) := Lib.hid (by rw [hk6]; exact okS_V HI.out.ok _)
                  have HI6 := Lib.hid (HI.out.below hb6)
                  have HB6 : Hid (Below w.heap.size w w6) := Lib.hid (HB.out.trans (hb6.mono HB.out.size))
                  clear ho6 hk6 hb6 HQ2
                  have HST : Hid (y.k.st.length = m + 1 - (i + 1) ∧ outV y.k = e0) := Lib.hid (by
                    rw [HK6.out]
                    refine ⟨by show (x.k.st.take (x.k.st.length - 1)).length = _; rw [List.length_take]; have := HI.out.st; omega, ?_⟩
                    rw [out_end x.k (by have := HI.out.st; omega)]; exact HI.out.out)
                  have HZ6 : Hid (y.e.z.length = 10) := Lib.hid HO6.out.z
                  obtain ⟨T, hT⟩ : ∃ T, T = w6.heap.size := ⟨_, rfl⟩
                  go_wp2_with (first
                    | (refine store_scope rfl (.tmp 8) (.tmp 109) rfl S rfl y rfl HZ6.out x HZ.out HI7.out.sx ?_; intro w8 he8 hq8; have HI8 : Hid (BInv w8 S W y xw e0 (m + 1 - (i + 1))) := Lib.hid (HI7.out.store HWS.out hq8 he8 (HO6.out.below HB67.out) HOK6.out HST.out.1 HST.out.2); have HB8 : Hid (Below w.heap.size w w8) := Lib.hid ((HB6.out.trans (HB67.out.mono HB6.out.size)).trans (hq8.below HSG.out)); clear he8 hq8)
                    | (refine load_scope rfl (.tmp 19) rfl T rfl y HZ6.out HT7.out ?_)
                    | (refine store_scope rfl (.tmp 19) (.tmp 105) rfl _ rfl y rfl HZ6.out x0 rfl (hnew w6) ?_; rw [← hT]; intro w7 he7 hq7; have HT7 := Lib.hid he7; have HB67 : Hid (Below w6.heap.size w6 w7) := Lib.hid ((below_alloc w6 _).trans (hq7.below (by rw [hT]; exact Nat.le_refl _))); have HI7 := Lib.hid (HI6.out.below HB67.out); clear he7 hq7 hT))
                  go_roundw
                  case rel => exact ⟨i + 1, y, by go_num, by omega, HI8, HB8⟩
                  case measure => simp [intOf]; omega
                · have hlt4' : ¬ (i : Int) < 1 + (m : Int) := by omega
                  have HI0 : Hid (BInv wr S W x xw e0 0) := Lib.hid (by have := HI.out; rw [show m + 1 - i = 0 by omega] at this; exact this)
                  clear HI
                  go_wp2_with (refine load_scope rfl (.tmp 8) rfl S rfl x HZ.out HI0.out.sx ?_)
                  obtain ⟨q1, _⟩ := step_none (s := x.k) (d := dv5) rfl HI0.out.st
                  refine (sstep_any x dv5 wr (HT.out.keep HB.out) HI0.out.ox.ok HI0.out.ok (by decide)).mono ?_
                  rw [q1]
                  clear q1
                  rintro e w6 ⟨y, rfl, ho6, _, hb6⟩
                  have HZ6 : Hid (y.e.z.length = 10) := Lib.hid ho6.z
                  have HI6 := Lib.hid (HI0.out.below hb6)
                  have HB6 : Hid (Below w.heap.size w w6) := Lib.hid (HB.out.trans (hb6.mono HB.out.size))
                  clear ho6 hb6
                  obtain ⟨T, hT⟩ : ∃ T, T = w6.heap.size := ⟨_, rfl⟩
                  have HZW : Hid (xw.e.z.length = 10) := Lib.hid HI0.out.ow.z
                  go_wp2_with (first
                    | (refine load_senv rfl (.tmp 124) rfl W rfl xw HZW.out HI7.out.sw ?_)
                    | (refine load_senv rfl (.tmp 122) rfl S rfl x HZ.out HI7.out.sx ?_)
                    | (refine store_scope rfl (.tmp 21) (.tmp 114) rfl _ rfl y rfl HZ6.out x0 rfl (hnew w6) ?_; rw [← hT]; intro w7 he7 hq7; have HB67 : Hid (Below w6.heap.size w6 w7) := Lib.hid ((below_alloc w6 _).trans (hq7.below (by rw [hT]; exact Nat.le_refl _))); have HI7 := Lib.hid (HI6.out.below HB67.out); clear he7 hq7 hT))
                  have HB7 : Hid (Below w.heap.size w w7) := Lib.hid (HB6.out.trans (HB67.out.mono HB6.out.size))
                  have HEQ : Hid (x.e.L = xw.e.L ∧ x.e.z = xw.e.z) := Lib.hid (by
                    have h1 : x.k.e = xw.k.e := by rw [HI7.out.we, ← HI7.out.out]; exact (out_done HI7.out.st).symm
                    exact ⟨congrArg Prod.fst h1, congrArg Prod.snd h1⟩)
                  refine (equal_any x.e.a xw.e.a x.e.n xw.e.n x.e.c xw.e.c x.e.L xw.e.L x.e.z xw.e.z w7 HI7.out.ox.e.1.vs HI7.out.ow.e.1.vs HZ.out HZW.out (by have := (XV.small HI7.out.ox.ok HI7.out.ok).1; omega) (by have := (XV.small HI7.out.ow.ok HI7.out.okw).1; omega)).mono ?_
                  rw [decide_eq_true HEQ.out]
                  rintro e w8 ⟨rfl, hb8⟩
                  have c11 := (HI7.out.sx.below hb8).c11 HZ.out
                  rw [HI7.out.n] at c11
                  have HB8 : Hid (Below w.heap.size w w8) := Lib.hid (HB7.out.trans (hb8.mono HB7.out.size))
                  clear hb8
                  go_wp2
                  go_ret
                  exact ⟨rfl, HB8.out⟩
      · obtain ⟨hx1, hx2⟩ := hx
        have hg1 : (i : Int) < (lenA : Int) := by omega
        have hg2 : ¬ (i : Int) < 20 := by omega
        clear hx1 hx2 hgo hi hi20
        obtain ⟨W, hW⟩ : ∃ W, W = wr.heap.size := ⟨_, rfl⟩
        have HWS : Hid (W ≠ S) := Lib.hid (by rw [hW]; have := HSX.out.1.lt; omega)
        obtain ⟨xw, hxw⟩ : ∃ xw, xw = x := ⟨_, rfl⟩
        have HXW : Hid (okS xw.k ∧ xw.k.st = []) := Lib.hid (by rw [hxw]; exact HOX.out)
        have HXX := Lib.hid hxw
        clear hxw
        obtain ⟨e0, he0⟩ : ∃ e0, e0 = xw.k.e := ⟨_, rfl⟩
        have HEE := Lib.hid he0
        clear he0
        go_wp2_with (first
          | (refine store_scope rfl (.tmp 10) (.tmp 41) rfl _ rfl x rfl HZ.out x0 rfl (hnew wr) ?_; rw [← hW]; intro wv hev hqv; have HWB : Hid (SB wv W x) := Lib.hid hev; have HBv : Hid (Below wr.heap.size wr wv) := Lib.hid ((below_alloc wr _).trans (hqv.below (by rw [hW]; exact Nat.le_refl _))); clear hev hqv hW)
          | (refine load_scope rfl (.tmp 8) rfl S rfl x HZ.out HSX.out.1 ?_))
        have HI : Hid (BInv wv S W x xw e0 0) := Lib.hid ⟨HSX.out.1.below HBv.out, by rw [HXX.out]; exact HWB.out, HSX.out.2.below HBv.out, by rw [HXX.out]; exact HSX.out.2.below HBv.out, HOX.out.1, HXW.out.1, by rw [HOX.out.2]; rfl, by rw [HEE.out, HXX.out]; exact out_done (by rw [HOX.out.2]; rfl), HEE.out.symm⟩
        have HBB : Hid (Below w.heap.size w wv) := Lib.hid (HB.out.trans (HBv.out.mono HB.out.size))
        have hg1' := hg1
        clear HSX HOX HB HWB HBv HXX HEE HXW HZ hg1'
        go_loopw [12] (fun v wr => ∃ (i : Nat) (x : XV), v = .int .i64 i ∧ i ≤ m + 1 ∧ Hid (BInv wr S W x xw e0 i) ∧ Hid (Below w.heap.size w wr)) (fun v _ => m + 1 - (intOf v).toNat)
        case atStart => exact ⟨0, x, rfl, Nat.zero_le _, HI, HBB⟩
        case round =>
          clear HI HBB
          obtain ⟨i, x, rfl, hi, HI, HB⟩ := hrel
          have HZ : Hid (x.e.z.length = 10) := Lib.hid HI.out.ox.z
          by_cases hlt : i < m + 1
          · have hlt' : (i : Int) < 1 + (m : Int) := by omega
            have hdi : decide ((i : Int) < 1 + (m : Int)) = true := by simpa using hlt'
            go_wp2_with (refine load_scope rfl (.tmp 8) rfl S rfl x HZ.out HI.out.sx ?_)
            obtain ⟨q1, q2⟩ := step_begin (s := x.k) (d := dv4) rfl (by have := HI.out.st; omega)
            refine (sstep_any x dv4 wr (HT.out.keep HB.out) HI.out.ox.ok HI.out.ok (by decide)).mono ?_
            rw [q1]
            have HQ2 := Lib.hid q2
            clear q1 q2
            rintro e w6 ⟨y, rfl, ho6, hk6, hb6⟩
            have HO6 := Lib.hid ho6
            have HK6 : Hid (y.k = ⟨x.k.e, x.k.st ++ [x.k.e]⟩) := Lib.hid (hk6.trans HQ2.out)
            have HOK6 : Hid (okS y.k) := Lib.hid (by rw [hk6]; exact okS_V HI.out.ok _)
            have HI6 := Lib.hid (HI.out.below hb6)
            have HB6 : Hid (Below w.heap.size w w6) := Lib.hid (HB.out.trans (hb6.mono HB.out.size))
            clear ho6 hk6 hb6 HQ2
            have HST : Hid (y.k.st.length = i + 1 ∧ outV y.k = e0) := Lib.hid (by
              rw [HK6.out]
              refine ⟨by rw [List.length_append, HI.out.st]; rfl, ?_⟩
              rw [out_begin]; exact HI.out.out)
            have HYN : Hid (y.n = i + 1) := Lib.hid (by rw [(XV.lens HO6.out).2]; exact HST.out.1)
            have HZ6 : Hid (y.e.z.length = 10) := Lib.hid HO6.out.z
            obtain ⟨T, hT⟩ : ∃ T, T = w6.heap.size := ⟨_, rfl⟩
            go_wp2_with (first
              | (refine store_scope rfl (.tmp 8) (.tmp 67) rfl S rfl y rfl HZ6.out x HZ.out HI7.out.sx ?_; intro w8 he8 hq8; have HI8 : Hid (BInv w8 S W y xw e0 (i + 1)) := Lib.hid (HI7.out.store HWS.out hq8 he8 (HO6.out.below HB67.out) HOK6.out HST.out.1 HST.out.2); have HB8 : Hid (Below w.heap.size w w8) := Lib.hid ((HB6.out.trans (HB67.out.mono HB6.out.size)).trans (hq8.below HSG.out)); clear he8 hq8)
              | (refine load_scope rfl (.tmp 13) rfl T rfl y HZ6.out HT7.out ?_)
              | (refine store_scope rfl (.tmp 13) (.tmp 55) rfl _ rfl y rfl HZ6.out x0 rfl (hnew w6) ?_; rw [← hT]; intro w7 he7 hq7; have HT7 := Lib.hid he7; have HB67 : Hid (Below w6.heap.size w6 w7) := Lib.hid ((below_alloc w6 _).trans (hq7.below (by rw [hT]; exact Nat.le_refl _))); have HI7 := Lib.hid (HI6.out.below HB67.out); have c11 := he7.c11 HZ6.out; rw [HYN.out] at c11; clear he7 hq7 hT))
            clear c11 HI6 HI7 HT7 HB6 HB67 HO6 HK6 HOK6 HST HYN HZ6 HI HB HZ
            go_loopw [15] (fun v wr => ∃ (j : Nat) (x : XV), v = .int .i64 j ∧ j ≤ lenB ∧ j ≤ 20 ∧ Hid (BInv wr S W x xw e0 (i + 1)) ∧ Hid (Below w.heap.size w wr)) (fun v _ => lenB - (intOf v).toNat)
            case atStart => exact ⟨0, y, rfl, Nat.zero_le _, Nat.zero_le _, HI8, HB8⟩
            case round =>
              clear HI8 HB8
              obtain ⟨j, x, rfl, hj, hj20, HI, HB⟩ := hrel
              have HZ : Hid (x.e.z.length = 10) := Lib.hid HI.out.ox.z
              by_cases hgo : j < lenB ∧ j < 20
              · obtain ⟨hjl, hjl20⟩ := hgo
                have hg1 : (j : Int) < (lenB : Int) := by omega
                have hg2 : (j : Int) < 20 := by omega
                have hs := Vs.below HD2.out HB.out
                obtain ⟨b, off, rfl, _, _⟩ := hs.at_ (by omega)
                have HC : Hid (∀ q, q < 6 → wr.cell? ⟨b, off + j * 6 + q, none⟩ = (dvC (dvA D2 j))[q]?) := Lib.hid (DvS.cells6 hs hjl)
                have HPD : Hid ((dvA D2 j).2.1.1.length ≤ 140737488355328) := Lib.hid (HP2.out _ (dvA_mem (by rw [HLN2.out]; exact hjl)))
                obtain ⟨d, hd⟩ : ∃ d, d = dvA D2 j := ⟨_, rfl⟩
                rw [← hd] at HC HPD
                clear hs hd
                go_wp2_with fail
                refine wp_region_noPanic ?_
                refine wp_region_held_drew (S := fun _ => True) (by kernel_rfl) (trivial) (fun hHeld => ?_)
                refine wpAnyH_take (i := 1) (oi := { dst := some 79, op := Op.move (Operand.tmp 1), type := 22, pos := "law.go:82", after := #[], guard := none }) (v := ?_) rfl (by kernel_rfl) (by kernel_rfl) (by kernel_rfl) (fun _ _ _ h => h) (Or.inl ⟨by rfl, ?_⟩) (by assumption) ?_
                rotate_left
                · intro w' hSw
                  try dsimp only at hSw
                  go_simp
                  try with_reducible rfl
                try simp only [Act.put, List.setIfInBounds_toArray, List.set_cons_zero, List.set_cons_succ]
                refine wpAnyH_take (i := 2) (oi := { dst := some 80, op := Op.move (Operand.tmp 15), type := 3, pos := "law.go:82", after := #[], guard := none }) (v := ?_) rfl (by kernel_rfl) (by kernel_rfl) (by kernel_rfl) (fun _ _ _ h => h) (Or.inl ⟨by rfl, ?_⟩) (by assumption) ?_
                rotate_left
                · intro w' hSw
                  try dsimp only at hSw
                  go_simp
                  try with_reducible rfl
                try simp only [Act.put, List.setIfInBounds_toArray, List.set_cons_zero, List.set_cons_succ]
                refine wpAnyH_take (i := 3) (oi := { dst := some 81, op := Op.indexAddr 22 (Operand.tmp 79) (Operand.tmp 80), type := 0, pos := "law.go:82", after := #[{ on := 1, ground := Ground.data }, { on := 2, ground := Ground.data }], guard := none }) (v := ?_) rfl (by kernel_rfl) (by kernel_rfl) (by kernel_rfl) (fun _ _ _ h => h) (Or.inl ⟨by rfl, ?_⟩) (by assumption) ?_
                rotate_left
                · intro w' hSw
                  try dsimp only at hSw
                  go_simp
                  try with_reducible rfl
                try simp only [Act.put, List.setIfInBounds_toArray, List.set_cons_zero, List.set_cons_succ]
                refine wpAnyH_ready (rs := [0, 4]) (by kernel_rfl) (by simp) ?_
                refine AllReadyH.cons (o := { dst := some 78, op := Op.load 31 (Operand.tmp 8), type := 31, pos := "law.go:82", after := #[], guard := none }) rfl (fun K hK => ?_) ?_
                · refine step_load_scope rfl (.tmp 8) rfl S rfl x HZ.out HI.out.sx.drew ?_
                  refine hK.out _ _ (trivial) (fun hHeld => ?_)
                  clear hK K
                  try simp only [Act.put, List.setIfInBounds_toArray, List.set_cons_zero, List.set_cons_succ]
                  refine wpAnyH_ready (rs := [4]) (by kernel_rfl) (by simp) ?_
                  refine AllReadyH.cons (o := { dst := some 82, op := Op.load 37 (Operand.tmp 81), type := 37, pos := "law.go:82", after := #[{ on := 3, ground := Ground.data }], guard := none }) rfl (fun K hK => ?_) ?_
                  · refine step_load_declat rfl (.tmp 81) rfl b (off + j * 6) rfl d HC.out ?_
                    refine hK.out _ _ (trivial) (fun hHeld => ?_)
                    clear hK K
                    try simp only [Act.put, List.setIfInBounds_toArray, List.set_cons_zero, List.set_cons_succ]
                    refine wpAnyH_ready (rs := [5]) (by kernel_rfl) (by simp) ?_
                    refine AllReadyH.cons (o := { dst := some 83, op := Op.call { callee := Callee.value (Operand.func 12), args := #[Operand.tmp 78, Operand.tmp 82], argTypes := #[31, 37] }, type := 31, pos := "law.go:82", after := #[{ on := 0, ground := Ground.data }, { on := 4, ground := Ground.data }], guard := none }) rfl (fun K hK => ?_) ?_
                    · go_simp
                      (go_at_call 12; (refine (declared_any x d _ (HT.out.keep HB.out.drew) (HI.out.ox.below (Below.refl _ _).drew) HI.out.ok HPD.out).mono ?_); rintro e w6 ⟨y, rfl, ho6, hk6, hb6⟩)
                      have HO6 := Lib.hid ho6
                      have HK6 := Lib.hid hk6
                      have HB6 : Hid (Below wr.heap.size wr w6) := Lib.hid ((Below.refl _ _).drew.trans hb6)
                      have HI6 := Lib.hid (HI.out.below HB6.out)
                      clear ho6 hk6 hb6
                      refine hK.out _ _ (trivial) (fun hHeld => ?_)
                      clear hK K
                      try simp only [Act.put, List.setIfInBounds_toArray, List.set_cons_zero, List.set_cons_succ]
                      refine wpAnyH_ready (rs := [6]) (by kernel_rfl) (by simp) ?_
                      refine AllReadyH.cons (o := { dst := none, op := Op.store 31 (Operand.tmp 8) (Operand.tmp 83), type := 0, pos := "law.go:82", after := #[{ on := 5, ground := Ground.data }, { on := 5, ground := Ground.chain }, { on := 0, ground := Ground.phase }, { on := 1, ground := Ground.phase }, { on := 2, ground := Ground.phase }, { on := 3, ground := Ground.phase }, { on := 4, ground := Ground.phase }, { on := 5, ground := Ground.phase }], guard := none }) rfl (fun K hK => ?_) ?_
                      · refine step_store_scope rfl (.tmp 8) (.tmp 83) rfl S rfl y rfl HO6.out.z x HZ.out HI6.out.sx ?_
                        intro w7 he7 hq7
                        have HE7 := Lib.hid he7
                        have HQ7 := Lib.hid hq7
                        clear he7 hq7
                        refine hK.out _ _ (trivial) (fun hHeld => ?_)
                        clear hK K
                        try simp only [Act.put]
                        refine wpAnyH_done (by kernel_rfl) ?_ _
                        refine NoPanic.normal ?_
                        have HI7 : Hid (BInv w7 S W y xw e0 (i + 1)) := Lib.hid (HI6.out.store HWS.out HQ7.out HE7.out HO6.out (by rw [HK6.out]; exact okS_dcd HI.out.ok d) (by rw [HK6.out, dcd_st]; exact HI.out.st) (by rw [HK6.out, dcd_out d (by intro h0; have := HI.out.st; rw [h0] at this; cases this)]; exact HI.out.out))
                        have HB7 : Hid (Below w.heap.size w w7) := Lib.hid ((HB.out.trans (HB6.out.mono HB.out.size)).trans (HQ7.out.below HSG.out))
                        go_wp2
                        go_roundw
                        case rel => exact ⟨j + 1, y, by go_num, by omega, by omega, HI7, HB7⟩
                        case measure => simp [intOf]; omega
                      exact AllReadyH.nil
                    exact AllReadyH.nil
                  exact AllReadyH.nil
                refine AllReadyH.cons (o := { dst := some 82, op := Op.load 37 (Operand.tmp 81), type := 37, pos := "law.go:82", after := #[{ on := 3, ground := Ground.data }], guard := none }) rfl (fun K hK => ?_) ?_
                · refine step_load_declat rfl (.tmp 81) rfl b (off + j * 6) rfl d HC.out ?_
                  refine hK.out _ _ (trivial) (fun hHeld => ?_)
                  clear hK K
                  try simp only [Act.put, List.setIfInBounds_toArray, List.set_cons_zero, List.set_cons_succ]
                  refine wpAnyH_ready (rs := [0]) (by kernel_rfl) (by simp) ?_
                  refine AllReadyH.cons (o := { dst := some 78, op := Op.load 31 (Operand.tmp 8), type := 31, pos := "law.go:82", after := #[], guard := none }) rfl (fun K hK => ?_) ?_
                  · refine step_load_scope rfl (.tmp 8) rfl S rfl x HZ.out HI.out.sx.drew ?_
                    refine hK.out _ _ (trivial) (fun hHeld => ?_)
                    clear hK K
                    try simp only [Act.put, List.setIfInBounds_toArray, List.set_cons_zero, List.set_cons_succ]
                    refine wpAnyH_ready (rs := [5]) (by kernel_rfl) (by simp) ?_
                    refine AllReadyH.cons (o := { dst := some 83, op := Op.call { callee := Callee.value (Operand.func 12), args := #[Operand.tmp 78, Operand.tmp 82], argTypes := #[31, 37] }, type := 31, pos := "law.go:82", after := #[{ on := 0, ground := Ground.data }, { on := 4, ground := Ground.data }], guard := none }) rfl (fun K hK => ?_) ?_
                    · go_simp
                      (go_at_call 12; (refine (declared_any x d _ (HT.out.keep HB.out.drew) (HI.out.ox.below (Below.refl _ _).drew) HI.out.ok HPD.out).mono ?_); rintro e w6 ⟨y, rfl, ho6, hk6, hb6⟩)
                      have HO6 := Lib.hid ho6
                      have HK6 := Lib.hid hk6
                      have HB6 : Hid (Below wr.heap.size wr w6) := Lib.hid ((Below.refl _ _).drew.trans hb6)
                      have HI6 := Lib.hid (HI.out.below HB6.out)
                      clear ho6 hk6 hb6
                      refine hK.out _ _ (trivial) (fun hHeld => ?_)
                      clear hK K
                      try simp only [Act.put, List.setIfInBounds_toArray, List.set_cons_zero, List.set_cons_succ]
                      refine wpAnyH_ready (rs := [6]) (by kernel_rfl) (by simp) ?_
                      refine AllReadyH.cons (o := { dst := none, op := Op.store 31 (Operand.tmp 8) (Operand.tmp 83), type := 0, pos := "law.go:82", after := #[{ on := 5, ground := Ground.data }, { on := 5, ground := Ground.chain }, { on := 0, ground := Ground.phase }, { on := 1, ground := Ground.phase }, { on := 2, ground := Ground.phase }, { on := 3, ground := Ground.phase }, { on := 4, ground := Ground.phase }, { on := 5, ground := Ground.phase }], guard := none }) rfl (fun K hK => ?_) ?_
                      · refine step_store_scope rfl (.tmp 8) (.tmp 83) rfl S rfl y rfl HO6.out.z x HZ.out HI6.out.sx ?_
                        intro w7 he7 hq7
                        have HE7 := Lib.hid he7
                        have HQ7 := Lib.hid hq7
                        clear he7 hq7
                        refine hK.out _ _ (trivial) (fun hHeld => ?_)
                        clear hK K
                        try simp only [Act.put]
                        refine wpAnyH_done (by kernel_rfl) ?_ _
                        refine NoPanic.normal ?_
                        have HI7 : Hid (BInv w7 S W y xw e0 (i + 1)) := Lib.hid (HI6.out.store HWS.out HQ7.out HE7.out HO6.out (by rw [HK6.out]; exact okS_dcd HI.out.ok d) (by rw [HK6.out, dcd_st]; exact HI.out.st) (by rw [HK6.out, dcd_out d (by intro h0; have := HI.out.st; rw [h0] at this; cases this)]; exact HI.out.out))
                        have HB7 : Hid (Below w.heap.size w w7) := Lib.hid ((HB.out.trans (HB6.out.mono HB.out.size)).trans (HQ7.out.below HSG.out))
                        go_wp2
                        go_roundw
                        case rel => exact ⟨j + 1, y, by go_num, by omega, by omega, HI7, HB7⟩
                        case measure => simp [intOf]; omega
                      exact AllReadyH.nil
                    exact AllReadyH.nil
                  exact AllReadyH.nil
                exact AllReadyH.nil
              · rcases (show (¬ j < lenB) ∨ (j < lenB ∧ ¬ j < 20) by omega) with hx | hx
                · have hg1 : ¬ (j : Int) < (lenB : Int) := by omega
                  clear hx hgo
                  go_wp2
                  go_roundw
                  case rel => exact ⟨i + 1, x, by go_num, by omega, HI, HB⟩
                  case measure => simp [intOf]; omega
                · obtain ⟨hx1, hx2⟩ := hx
                  have hg1 : (j : Int) < (lenB : Int) := by omega
                  have hg2 : ¬ (j : Int) < 20 := by omega
                  clear hx1 hx2 hgo
                  go_wp2
                  go_roundw
                  case rel => exact ⟨i + 1, x, by go_num, by omega, HI, HB⟩
                  case measure => simp [intOf]; omega
          · have hlt' : ¬ (i : Int) < 1 + (m : Int) := by omega
            have hXN : x.n = m + 1 := by rw [HI.out.n]; omega
            have HIM : Hid (BInv wr S W x xw e0 (m + 1)) := Lib.hid (by have := HI.out; rw [show i = m + 1 by omega] at this; exact this)
            have c11 := HI.out.sx.c11 HZ.out
            rw [hXN] at c11
            clear hXN HI
            by_cases h6 : m = 5
            · subst h6
              go_wp2_with (refine load_scope rfl (.tmp 8) rfl S rfl x HZ.out HIM.out.sx ?_)
              clear c11
              obtain ⟨q1, _⟩ := step_big (s := x.k) (d := dv4) rfl (by have := HIM.out.st; omega)
              refine (sstep_any x dv4 wr (HT.out.keep HB.out) HIM.out.ox.ok HIM.out.ok (by decide)).mono ?_
              rw [q1]
              clear q1
              rintro e w6 ⟨y, rfl, ho6, _, hb6⟩
              have HZ6 : Hid (y.e.z.length = 10) := Lib.hid ho6.z
              have HI6 := Lib.hid (HIM.out.below hb6)
              have HB6 : Hid (Below w.heap.size w w6) := Lib.hid (HB.out.trans (hb6.mono HB.out.size))
              clear ho6 hb6
              obtain ⟨T, hT⟩ : ∃ T, T = w6.heap.size := ⟨_, rfl⟩
              go_wp2_with (refine store_scope rfl (.tmp 16) (.tmp 92) rfl _ rfl y rfl HZ6.out x0 rfl (hnew w6) ?_; rw [← hT]; intro w7 he7 hq7; have HB67 : Hid (Below w6.heap.size w6 w7) := Lib.hid ((below_alloc w6 _).trans (hq7.below (by rw [hT]; exact Nat.le_refl _))); have HI7 : Hid (BInv w7 S W x xw e0 (5 + 1 - 0)) := Lib.hid (HI6.out.below HB67.out); have HB7 : Hid (Below w.heap.size w w7) := Lib.hid (HB6.out.trans (HB67.out.mono HB6.out.size)); clear he7 hq7 hT)
              clear HI6 HB6 HB67 HIM HB HZ6 HZ
              go_loopw [18] (fun v wr => ∃ (i : Nat) (x : XV), v = .int .i64 i ∧ i ≤ 5 + 1 ∧ Hid (BInv wr S W x xw e0 (5 + 1 - i)) ∧ Hid (Below w.heap.size w wr)) (fun v _ => 5 + 1 - (intOf v).toNat)
              case atStart => exact ⟨0, x, rfl, Nat.zero_le _, HI7, HB7⟩
              case round =>
                clear HI7 HB7
                obtain ⟨i, x, rfl, hi, HI, HB⟩ := hrel
                have HZ : Hid (x.e.z.length = 10) := Lib.hid HI.out.ox.z
                by_cases hlt4 : i < 5 + 1
                · have hlt4' : (i : Int) < 1 + (5 : Int) := by omega
                  go_wp2_with (refine load_scope rfl (.tmp 8) rfl S rfl x HZ.out HI.out.sx ?_)
                  obtain ⟨q1, q2⟩ := step_end (s := x.k) (d := dv5) rfl (by have := HI.out.st; omega)
                  refine (sstep_any x dv5 wr (HT.out.keep HB.out) HI.out.ox.ok HI.out.ok (by decide)).mono ?_
                  rw [q1]
                  have HQ2 := Lib.hid q2
                  clear q1 q2
                  rintro e w6 ⟨y, rfl, ho6, hk6, hb6⟩
                  have HO6 := Lib.hid ho6
                  have HK6 := Lib.hid (hk6.trans HQ2.out)
                  have HOK6 : Hid (okS y.k) := Lib.hid (by rw [hk6]; exact okS_V HI.out.ok _)
                  have HI6 := Lib.hid (HI.out.below hb6)
                  have HB6 : Hid (Below w.heap.size w w6) := Lib.hid (HB.out.trans (hb6.mono HB.out.size))
                  clear ho6 hk6 hb6 HQ2
                  have HST : Hid (y.k.st.length = 5 + 1 - (i + 1) ∧ outV y.k = e0) := Lib.hid (by
                    rw [HK6.out]
                    refine ⟨by show (x.k.st.take (x.k.st.length - 1)).length = _; rw [List.length_take]; have := HI.out.st; omega, ?_⟩
                    rw [out_end x.k (by have := HI.out.st; omega)]; exact HI.out.out)
                  have HZ6 : Hid (y.e.z.length = 10) := Lib.hid HO6.out.z
                  obtain ⟨T, hT⟩ : ∃ T, T = w6.heap.size := ⟨_, rfl⟩
                  go_wp2_with (first
                    | (refine store_scope rfl (.tmp 8) (.tmp 109) rfl S rfl y rfl HZ6.out x HZ.out HI7.out.sx ?_; intro w8 he8 hq8; have HI8 : Hid (BInv w8 S W y xw e0 (5 + 1 - (i + 1))) := Lib.hid (HI7.out.store HWS.out hq8 he8 (HO6.out.below HB67.out) HOK6.out HST.out.1 HST.out.2); have HB8 : Hid (Below w.heap.size w w8) := Lib.hid ((HB6.out.trans (HB67.out.mono HB6.out.size)).trans (hq8.below HSG.out)); clear he8 hq8)
                    | (refine load_scope rfl (.tmp 19) rfl T rfl y HZ6.out HT7.out ?_)
                    | (refine store_scope rfl (.tmp 19) (.tmp 105) rfl _ rfl y rfl HZ6.out x0 rfl (hnew w6) ?_; rw [← hT]; intro w7 he7 hq7; have HT7 := Lib.hid he7; have HB67 : Hid (Below w6.heap.size w6 w7) := Lib.hid ((below_alloc w6 _).trans (hq7.below (by rw [hT]; exact Nat.le_refl _))); have HI7 := Lib.hid (HI6.out.below HB67.out); clear he7 hq7 hT))
                  go_roundw
                  case rel => exact ⟨i + 1, y, by go_num, by omega, HI8, HB8⟩
                  case measure => simp [intOf]; omega
                · have hlt4' : ¬ (i : Int) < 1 + (5 : Int) := by omega
                  have HI0 : Hid (BInv wr S W x xw e0 0) := Lib.hid (by have := HI.out; rw [show 5 + 1 - i = 0 by omega] at this; exact this)
                  clear HI
                  go_wp2_with (refine load_scope rfl (.tmp 8) rfl S rfl x HZ.out HI0.out.sx ?_)
                  obtain ⟨q1, _⟩ := step_none (s := x.k) (d := dv5) rfl HI0.out.st
                  refine (sstep_any x dv5 wr (HT.out.keep HB.out) HI0.out.ox.ok HI0.out.ok (by decide)).mono ?_
                  rw [q1]
                  clear q1
                  rintro e w6 ⟨y, rfl, ho6, _, hb6⟩
                  have HZ6 : Hid (y.e.z.length = 10) := Lib.hid ho6.z
                  have HI6 := Lib.hid (HI0.out.below hb6)
                  have HB6 : Hid (Below w.heap.size w w6) := Lib.hid (HB.out.trans (hb6.mono HB.out.size))
                  clear ho6 hb6
                  obtain ⟨T, hT⟩ : ∃ T, T = w6.heap.size := ⟨_, rfl⟩
                  have HZW : Hid (xw.e.z.length = 10) := Lib.hid HI0.out.ow.z
                  go_wp2_with (first
                    | (refine load_senv rfl (.tmp 124) rfl W rfl xw HZW.out HI7.out.sw ?_)
                    | (refine load_senv rfl (.tmp 122) rfl S rfl x HZ.out HI7.out.sx ?_)
                    | (refine store_scope rfl (.tmp 21) (.tmp 114) rfl _ rfl y rfl HZ6.out x0 rfl (hnew w6) ?_; rw [← hT]; intro w7 he7 hq7; have HB67 : Hid (Below w6.heap.size w6 w7) := Lib.hid ((below_alloc w6 _).trans (hq7.below (by rw [hT]; exact Nat.le_refl _))); have HI7 := Lib.hid (HI6.out.below HB67.out); clear he7 hq7 hT))
                  have HB7 : Hid (Below w.heap.size w w7) := Lib.hid (HB6.out.trans (HB67.out.mono HB6.out.size))
                  have HEQ : Hid (x.e.L = xw.e.L ∧ x.e.z = xw.e.z) := Lib.hid (by
                    have h1 : x.k.e = xw.k.e := by rw [HI7.out.we, ← HI7.out.out]; exact (out_done HI7.out.st).symm
                    exact ⟨congrArg Prod.fst h1, congrArg Prod.snd h1⟩)
                  refine (equal_any x.e.a xw.e.a x.e.n xw.e.n x.e.c xw.e.c x.e.L xw.e.L x.e.z xw.e.z w7 HI7.out.ox.e.1.vs HI7.out.ow.e.1.vs HZ.out HZW.out (by have := (XV.small HI7.out.ox.ok HI7.out.ok).1; omega) (by have := (XV.small HI7.out.ow.ok HI7.out.okw).1; omega)).mono ?_
                  rw [decide_eq_true HEQ.out]
                  rintro e w8 ⟨rfl, hb8⟩
                  have c11 := (HI7.out.sx.below hb8).c11 HZ.out
                  rw [HI7.out.n] at c11
                  have HB8 : Hid (Below w.heap.size w w8) := Lib.hid (HB7.out.trans (hb8.mono HB7.out.size))
                  clear hb8
                  go_wp2
                  go_ret
                  exact ⟨rfl, HB8.out⟩
            · have h6' : ¬ ((m : Int) + 1 = 6) := by omega
              have h6b : ((m : Int) + 1 == 6) = false := by simpa using h6'
              have HI7 : Hid (BInv wr S W x xw e0 (m + 1 - 0)) := Lib.hid HIM.out
              have HB7 := HB
              clear HIM HB HZ h6
              go_wp2
              clear c11 h6' h6b
              go_loopw [18] (fun v wr => ∃ (i : Nat) (x : XV), v = .int .i64 i ∧ i ≤ m + 1 ∧ Hid (BInv wr S W x xw e0 (m + 1 - i)) ∧ Hid (Below w.heap.size w wr)) (fun v _ => m + 1 - (intOf v).toNat)
              case atStart => exact ⟨0, x, rfl, Nat.zero_le _, HI7, HB7⟩
              case round =>
                clear HI7 HB7
                obtain ⟨i, x, rfl, hi, HI, HB⟩ := hrel
                have HZ : Hid (x.e.z.length = 10) := Lib.hid HI.out.ox.z
                by_cases hlt4 : i < m + 1
                · have hlt4' : (i : Int) < 1 + (m : Int) := by omega
                  go_wp2_with (refine load_scope rfl (.tmp 8) rfl S rfl x HZ.out HI.out.sx ?_)
                  obtain ⟨q1, q2⟩ := step_end (s := x.k) (d := dv5) rfl (by have := HI.out.st; omega)
                  refine (sstep_any x dv5 wr (HT.out.keep HB.out) HI.out.ox.ok HI.out.ok (by decide)).mono ?_
                  rw [q1]
                  have HQ2 := Lib.hid q2
                  clear q1 q2
                  rintro e w6 ⟨y, rfl, ho6, hk6, hb6⟩
                  have HO6 := Lib.hid ho6
                  have HK6 := Lib.hid (hk6.trans HQ2.out)
                  have HOK6 : Hid (okS y.k) := Lib.hid (by rw [hk6]; exact okS_V HI.out.ok _)
                  have HI6 := Lib.hid (HI.out.below hb6)
                  have HB6 : Hid (Below w.heap.size w w6) := Lib.hid (HB.out.trans (hb6.mono HB.out.size))
                  clear ho6 hk6 hb6 HQ2
                  have HST : Hid (y.k.st.length = m + 1 - (i + 1) ∧ outV y.k = e0) := Lib.hid (by
                    rw [HK6.out]
                    refine ⟨by show (x.k.st.take (x.k.st.length - 1)).length = _; rw [List.length_take]; have := HI.out.st; omega, ?_⟩
                    rw [out_end x.k (by have := HI.out.st; omega)]; exact HI.out.out)
                  have HZ6 : Hid (y.e.z.length = 10) := Lib.hid HO6.out.z
                  obtain ⟨T, hT⟩ : ∃ T, T = w6.heap.size := ⟨_, rfl⟩
                  go_wp2_with (first
                    | (refine store_scope rfl (.tmp 8) (.tmp 109) rfl S rfl y rfl HZ6.out x HZ.out HI7.out.sx ?_; intro w8 he8 hq8; have HI8 : Hid (BInv w8 S W y xw e0 (m + 1 - (i + 1))) := Lib.hid (HI7.out.store HWS.out hq8 he8 (HO6.out.below HB67.out) HOK6.out HST.out.1 HST.out.2); have HB8 : Hid (Below w.heap.size w w8) := Lib.hid ((HB6.out.trans (HB67.out.mono HB6.out.size)).trans (hq8.below HSG.out)); clear he8 hq8)
                    | (refine load_scope rfl (.tmp 19) rfl T rfl y HZ6.out HT7.out ?_)
                    | (refine store_scope rfl (.tmp 19) (.tmp 105) rfl _ rfl y rfl HZ6.out x0 rfl (hnew w6) ?_; rw [← hT]; intro w7 he7 hq7; have HT7 := Lib.hid he7; have HB67 : Hid (Below w6.heap.size w6 w7) := Lib.hid ((below_alloc w6 _).trans (hq7.below (by rw [hT]; exact Nat.le_refl _))); have HI7 := Lib.hid (HI6.out.below HB67.out); clear he7 hq7 hT))
                  go_roundw
                  case rel => exact ⟨i + 1, y, by go_num, by omega, HI8, HB8⟩
                  case measure => simp [intOf]; omega
                · have hlt4' : ¬ (i : Int) < 1 + (m : Int) := by omega
                  have HI0 : Hid (BInv wr S W x xw e0 0) := Lib.hid (by have := HI.out; rw [show m + 1 - i = 0 by omega] at this; exact this)
                  clear HI
                  go_wp2_with (refine load_scope rfl (.tmp 8) rfl S rfl x HZ.out HI0.out.sx ?_)
                  obtain ⟨q1, _⟩ := step_none (s := x.k) (d := dv5) rfl HI0.out.st
                  refine (sstep_any x dv5 wr (HT.out.keep HB.out) HI0.out.ox.ok HI0.out.ok (by decide)).mono ?_
                  rw [q1]
                  clear q1
                  rintro e w6 ⟨y, rfl, ho6, _, hb6⟩
                  have HZ6 : Hid (y.e.z.length = 10) := Lib.hid ho6.z
                  have HI6 := Lib.hid (HI0.out.below hb6)
                  have HB6 : Hid (Below w.heap.size w w6) := Lib.hid (HB.out.trans (hb6.mono HB.out.size))
                  clear ho6 hb6
                  obtain ⟨T, hT⟩ : ∃ T, T = w6.heap.size := ⟨_, rfl⟩
                  have HZW : Hid (xw.e.z.length = 10) := Lib.hid HI0.out.ow.z
                  go_wp2_with (first
                    | (refine load_senv rfl (.tmp 124) rfl W rfl xw HZW.out HI7.out.sw ?_)
                    | (refine load_senv rfl (.tmp 122) rfl S rfl x HZ.out HI7.out.sx ?_)
                    | (refine store_scope rfl (.tmp 21) (.tmp 114) rfl _ rfl y rfl HZ6.out x0 rfl (hnew w6) ?_; rw [← hT]; intro w7 he7 hq7; have HB67 : Hid (Below w6.heap.size w6 w7) := Lib.hid ((below_alloc w6 _).trans (hq7.below (by rw [hT]; exact Nat.le_refl _))); have HI7 := Lib.hid (HI6.out.below HB67.out); clear he7 hq7 hT))
                  have HB7 : Hid (Below w.heap.size w w7) := Lib.hid (HB6.out.trans (HB67.out.mono HB6.out.size))
                  have HEQ : Hid (x.e.L = xw.e.L ∧ x.e.z = xw.e.z) := Lib.hid (by
                    have h1 : x.k.e = xw.k.e := by rw [HI7.out.we, ← HI7.out.out]; exact (out_done HI7.out.st).symm
                    exact ⟨congrArg Prod.fst h1, congrArg Prod.snd h1⟩)
                  refine (equal_any x.e.a xw.e.a x.e.n xw.e.n x.e.c xw.e.c x.e.L xw.e.L x.e.z xw.e.z w7 HI7.out.ox.e.1.vs HI7.out.ow.e.1.vs HZ.out HZW.out (by have := (XV.small HI7.out.ox.ok HI7.out.ok).1; omega) (by have := (XV.small HI7.out.ow.ok HI7.out.okw).1; omega)).mono ?_
                  rw [decide_eq_true HEQ.out]
                  rintro e w8 ⟨rfl, hb8⟩
                  have c11 := (HI7.out.sx.below hb8).c11 HZ.out
                  rw [HI7.out.n] at c11
                  have HB8 : Hid (Below w.heap.size w w8) := Lib.hid (HB7.out.trans (hb8.mono HB7.out.size))
                  clear hb8
                  go_wp2
                  go_ret
                  exact ⟨rfl, HB8.out⟩

end Go.Proofs.YtcpmpidpoelleaaGreatDoor
