/- The document's New and Make (laid by genBh.py). -/
import Derived.Test.YtciijlcemmhbfaaGreatDoorBg
import Derived.Test.YtciijlcemmhbfaaGreatDoorMI
namespace Go.Proofs.YtciijlcemmhbfaaGreatDoor
open Go.RowKit

/-! ### Rows of changes -/

/-- A change: its kind, two groups, an operator. -/
abbrev CH := Nat × Nat × Nat × OP
def chC (x : CH) : List Value := [.int .u8 (x.1 : Int), .int .u8 (x.2.1 : Int), .int .u8 (x.2.2.1 : Int), .string (mk x.2.2.2.1), .int .i64 x.2.2.2.2.1, .int .i64 x.2.2.2.2.2]
def cC (C : List CH) : List Value := C.flatMap chC
theorem cC_cons (x : CH) (C : List CH) : cC (x :: C) = .int .u8 (x.1 : Int) :: .int .u8 (x.2.1 : Int) :: .int .u8 (x.2.2.1 : Int) :: .string (mk x.2.2.2.1) :: .int .i64 x.2.2.2.2.1 :: .int .i64 x.2.2.2.2.2 :: cC C := rfl
theorem cC_len : ∀ C : List CH, (cC C).length = C.length * 6
  | [] => rfl
  | x :: C => by rw [cC_cons]; simp only [List.length_cons, cC_len C]; omega
theorem cC_at : ∀ (C : List CH) (k : Nat) (h : k < C.length), ∀ j, j < 6 → (cC C)[k * 6 + j]? = (chC C[k])[j]?
  | x :: C, 0, h, j, hj => by
    rw [cC_cons]
    obtain rfl | rfl | rfl | rfl | rfl | rfl : j = 0 ∨ j = 1 ∨ j = 2 ∨ j = 3 ∨ j = 4 ∨ j = 5 := by omega
    all_goals rfl
  | x :: C, k + 1, h, j, hj => by
    have ih := cC_at C k (by simpa using h) j hj
    rw [show (k + 1) * 6 + j = k * 6 + j + 1 + 1 + 1 + 1 + 1 + 1 by omega, cC_cons]
    simpa using ih
def chA (C : List CH) (k : Nat) : CH := C.getD k (0, 0, 0, [], 0, 0)
theorem chA_eq {C : List CH} {k : Nat} (h : k < C.length) : chA C k = C[k] := by simp [chA, List.getD, h]
theorem chA_take {C : List CH} {k : Nat} (h : k < C.length) : C.take (k + 1) = C.take k ++ [chA C k] := by rw [List.take_add_one, chA_eq h]; simp [h]
/-- The slice value (a, len, cap) reads as these changes. -/
abbrev ChS (w : World) (a : Option Addr) (n c : Nat) (C : List CH) : Prop := Vs 6 w a n c (cC C)
theorem ChS.len {w : World} {a : Option Addr} {n c : Nat} {C : List CH} (h : ChS w a n c C) : C.length = n := by
  have := Vs.hl h; rw [cC_len] at this; omega
theorem ChS.at6 {w : World} {b o n c : Nat} {C : List CH} (h : ChS w (some ⟨b, o, none⟩) n c C) {k : Nat} (hk : k < n) :
    w.cell? ⟨b, o + k * 6, none⟩ = some (.int .u8 ((chA C k).1 : Int)) ∧ w.cell? ⟨b, o + k * 6 + 1, none⟩ = some (.int .u8 ((chA C k).2.1 : Int)) ∧ w.cell? ⟨b, o + k * 6 + 2, none⟩ = some (.int .u8 ((chA C k).2.2.1 : Int)) ∧ w.cell? ⟨b, o + k * 6 + 3, none⟩ = some (.string (mk (chA C k).2.2.2.1)) ∧ w.cell? ⟨b, o + k * 6 + 4, none⟩ = some (.int .i64 (chA C k).2.2.2.2.1) ∧ w.cell? ⟨b, o + k * 6 + 5, none⟩ = some (.int .i64 (chA C k).2.2.2.2.2) := by
  have hl := ChS.len h
  have hc : ∀ j, j < 6 → w.cell? ⟨b, o + k * 6 + j, none⟩ = (chC (chA C k))[j]? := fun j hj => by
    rw [Nat.add_assoc, Vs.cells h (by omega) (by omega), cC_at C k (by omega) j hj, chA_eq (by omega)]
  exact ⟨hc 0 (by decide), hc 1 (by decide), hc 2 (by decide), hc 3 (by decide), hc 4 (by decide), hc 5 (by decide)⟩
/-- Bytes that are bytes, a text that there is room for. -/
def okC (x : CH) : Prop := x.1 ≤ 255 ∧ x.2.1 ≤ 255 ∧ x.2.2.1 ≤ 255 ∧ x.2.2.2.1.length ≤ 140737488355328

/-! ### What is made -/

/-- An env that may be. -/
def okE (L : List OP) (z : List Int) : Prop := Srt L ∧ (∀ o ∈ L, mayV o.1 o.2.1 o.2.2 = 0 ∧ o.1.length ≤ 20) ∧ L.length ≤ 16 ∧ z.length = 10 ∧ ∀ i, i < 10 → I64 (bt z i)
theorem okE_nil : okE [] zS := ⟨srt_nil, (fun o h => by cases h), by simp, rfl, fun i hi => by have := zS_rng i hi; unfold I64; exact this⟩
theorem okE_add {L : List OP} {z : List Int} (h : okE L z) {o : OP} (ho : mayV o.1 o.2.1 o.2.2 = 0 ∧ o.1.length ≤ 20) (he : addE L o = 0) : okE (addL L o) z := by
  refine ⟨addL_srt h.1, fun x hx => ?_, ?_, h.2.2.2⟩
  · rcases (addL_mem h.1 x).1 hx with rfl | ⟨hx, _⟩
    · exact ho
    · exact h.2.1 x hx
  · rw [addL_len]
    have h16 := h.2.2.1
    by_cases hh : hitL L o.1 = true
    · rw [if_pos hh]; omega
    · have hf : hitL L o.1 = false := by simpa using hh
      rw [if_neg hh]
      by_cases hl : 16 ≤ L.length
      · rw [addE_full ho.1 hf hl] at he; cases he
      · omega
theorem okE_drop {L : List OP} {z : List Int} (h : okE L z) {p : Nm} (he : drpE L p = 0) : okE (drpL L p) z := by
  cases hi : drpI L p with
  | none => unfold drpE at he; rw [hi] at he; cases he
  | some i =>
    have hl := drpL_len hi
    exact ⟨drpL_srt h.1 hi, fun x hx => h.2.1 x ((drpL_mem h.1 hi x).1 hx).1, by have := h.2.2.1; omega, h.2.2.2⟩
theorem stq_ok {L : List OP} {z : List Int} (h : okE L z) (k g hh : Nat) {o : OP} (ho : mayV o.1 o.2.1 o.2.2 = 0 ∧ o.1.length ≤ 20) : okE (stq L z k g hh o).1 (stq L z k g hh o).2 := by
  unfold stq
  by_cases hv : (chK L z k g hh o).1 = 0
  · rw [if_pos hv]
    unfold chK at hv ⊢
    by_cases h2 : k % 4 = 2
    · rw [if_pos h2] at hv ⊢
      dsimp only at hv ⊢
      rw [if_pos hv]
      exact ⟨h.1, h.2.1, h.2.2.1, eV_len .., eV_rng h.2.2.2.2 _ _⟩
    · rw [if_neg h2] at hv ⊢
      by_cases h3 : k % 4 = 3
      · rw [if_pos h3] at hv ⊢
        dsimp only at hv ⊢
        unfold drpZ
        rw [if_pos hv]
        exact okE_drop h hv
      · rw [if_neg h3] at hv ⊢
        dsimp only at hv ⊢
        unfold addR addZ
        rw [if_pos hv, if_pos hv]
        exact okE_add h ho hv
  · rw [if_neg hv]; exact h
/-- The env behind so many changes. -/
def mkE (C : List CH) : List OP × List Int := C.foldl (fun s x => stq s.1 s.2 x.1 x.2.1 x.2.2.1 (fitO x.2.2.2)) ([], zS)
theorem mkE_snoc (C : List CH) (x : CH) : mkE (C ++ [x]) = stq (mkE C).1 (mkE C).2 x.1 x.2.1 x.2.2.1 (fitO x.2.2.2) := by unfold mkE; rw [List.foldl_append]; rfl
theorem mkE_ok (C : List CH) : okE (mkE C).1 (mkE C).2 := by
  suffices h : ∀ (D : List CH) (s : List OP × List Int), okE s.1 s.2 → okE (D.foldl (fun s x => stq s.1 s.2 x.1 x.2.1 x.2.2.1 (fitO x.2.2.2)) s).1 (D.foldl (fun s x => stq s.1 s.2 x.1 x.2.1 x.2.2.1 (fitO x.2.2.2)) s).2 from h C _ okE_nil
  intro D
  induction D with
  | nil => exact fun s h => h
  | cons x D ih => exact fun s h => ih _ (stq_ok h _ _ _ (fitO_good _))

/-- An env loaded in a region that draws. -/
theorem step_load_env {ops : Array Oper} {o : Oper} {A : Act} {w : World} {K : Act → World → Prop} {Q : Exit → Act → World → Prop} {E : Prop} (hw : Region.wanted o (yielded ops A.tmps) = true) (x : Operand) (ho : o.op = .load 26 x)
    (b : Nat) (hx : A.eval x = .pointer (some ⟨b, 0, none⟩)) (a : Option Addr) (n c : Nat) (z : List Int) (hz : z.length = 10) (h : EB w b a n c z)
    (k : K (A.put o.dst (.agg (ev a n c z))) w) : if Region.wanted o (yielded ops A.tmps) = true then o.wp Tryz.prog A w K Q else E := by
  rw [if_pos hw]
  exact wp_load_row 26 x ho b hx _ _ _ _ h Tryz.underlying26 rfl (by rw [ev_size hz]; exact env_info) k

set_option maxRecDepth 20000 in
theorem rnew_any (w : World) : Calls Tryz.prog 23 #[] w fun e w' => e = .returned (.agg (ev none 0 0 zS)) ∧ Below w.heap.size w w' := by
  obtain ⟨w0, hw0⟩ : ∃ w0, w0 = w.alloc (.cells #[.slice none 0 0, .int .i64 0, .int .i64 0, .int .i64 0, .int .i64 0, .int .i64 0, .int .i64 0, .int .i64 0, .int .i64 0, .int .i64 0, .int .i64 0] 26) := ⟨_, rfl⟩
  obtain ⟨B, hB⟩ : ∃ B, B = w.heap.size := ⟨_, rfl⟩
  have HE0 : Hid (EB w0 B none 0 0 z0) := Lib.hid (by rw [hw0, hB, ← ev_zero]; exact EB.new w none 0 0 z0)
  have HB0 : Hid (Below B w w0) := Lib.hid (by rw [hw0, hB]; exact (Below.refl _ _).alloc (Nat.le_refl _) _)
  have HS : Hid (B < w0.heap.size) := Lib.hid HE0.out.lt
  have HBB := Lib.hid hB
  have hbu : ∀ w, (Instr.build 26 #[(1, .agg (rv zS))]).run Tryz.prog w = .ok (.agg (ev none 0 0 zS)) w := fun w => built_rows rfl w
  go_enter Tryz.func23, Tryz.ntmps23
  go_wp2_with fail
  rw [← hw0, ← hB]
  clear hw0 hB
  refine (rstart_any w0).mono ?_
  rintro e w1 ⟨rfl, hb1⟩
  have HE1 := Lib.hid (HE0.out.below hb1)
  have HB1 := Lib.hid (HB0.out.trans (hb1.mono (Nat.le_of_lt HS.out)))
  clear hb1
  go_wp2_with (refine store_env rfl (.tmp 0) (.tmp 2) rfl B rfl none 0 0 zS rfl rfl none 0 0 z0 z0_len HE1.out ?_; intro w2 he2 ho2; have HE2 := Lib.hid he2; have HO2 := Lib.hid ho2; clear he2 ho2)
  exact bodyPost_ret (ret_env rfl _ _ B none 0 0 zS rfl rfl HE2.out) rfl ⟨rfl, by rw [← HBB.out]; exact HB1.out.trans (HO2.out.below (Nat.le_refl _))⟩

set_option maxRecDepth 20000 in
set_option maxHeartbeats 8000000 in
theorem rmake_any (aC : Option Addr) (len cap : Nat) (C : List CH) (w : World) (h : ChS w aC len cap C) (hok : ∀ x ∈ C, okC x) :
    Calls Tryz.prog 27 #[.slice aC len cap] w fun e w' => ∃ a' n' c', e = .returned (.agg (ev a' n' c' (mkE (C.take 40)).2)) ∧ OwnO w.heap.size w' a' n' c' (mkE (C.take 40)).1 ∧ Below w.heap.size w w' := by
  obtain ⟨B, hB⟩ : ∃ B, B = w.heap.size := ⟨_, rfl⟩
  obtain ⟨w0, hw0⟩ : ∃ w0, w0 = w.alloc (.cells #[.slice none 0 0, .int .i64 0, .int .i64 0, .int .i64 0, .int .i64 0, .int .i64 0, .int .i64 0, .int .i64 0, .int .i64 0, .int .i64 0, .int .i64 0] 26) := ⟨_, rfl⟩
  have HR0 : Hid (EB w0 B none 0 0 z0) := Lib.hid (by rw [hw0, hB, ← ev_zero]; exact EB.new w none 0 0 z0)
  have HB0 : Hid (Below B w w0) := Lib.hid (by rw [hw0, hB]; exact (Below.refl _ _).alloc (Nat.le_refl _) _)
  have HH : Hid (ChS w aC len cap C) := Lib.hid h
  have HL := Lib.hid (ChS.len h)
  have HOK := Lib.hid hok
  have HBB := Lib.hid hB
  have hlc := h.lc
  have hcm := h.cm
  unfold maxLen at hcm
  have hnew : ∀ W : World, EB (W.alloc (.cells #[.slice none 0 0, .int .i64 0, .int .i64 0, .int .i64 0, .int .i64 0, .int .i64 0, .int .i64 0, .int .i64 0, .int .i64 0, .int .i64 0, .int .i64 0] 26)) W.heap.size none 0 0 z0 := fun W => EB.new W none 0 0 z0
  clear h hok
  go_enter Tryz.func27, Tryz.ntmps27
  go_wp2_with fail
  rw [← hw0, ← hB]
  clear hw0 hB
  refine (rnew_any w0).mono ?_
  rintro e w1 ⟨rfl, hb1⟩
  have HR1 := Lib.hid (HR0.out.below hb1)
  have HB1 : Hid (Below B w w1) := Lib.hid (HB0.out.trans (hb1.mono (by have := HR0.out.lt; omega)))
  clear hb1
  go_wp2_with (refine store_env rfl (.tmp 3) (.tmp 5) rfl _ rfl none 0 0 zS rfl rfl none 0 0 z0 z0_len (hnew w1) ?_; intro w2 he2 hq2)
  obtain ⟨E, hE⟩ : ∃ E, E = w1.heap.size := ⟨_, rfl⟩
  rw [← hE] at he2 hq2 ⊢
  have HBE : Hid (B < E) := Lib.hid (by rw [hE]; exact HR1.out.lt)
  have HE2 := Lib.hid he2
  have HR2 : Hid (EB w2 B none 0 0 z0) := Lib.hid ((HR1.out.alloc _).only hq2 (by have := HBE.out; omega))
  have HB2 : Hid (Below B w w2) := Lib.hid ((HB1.out.alloc (by rw [← hE]; exact Nat.le_of_lt HBE.out) _).trans (hq2.below (Nat.le_of_lt HBE.out)))
  clear he2 hq2 hE hnew
  go_loopw [4] (fun v wr => ∃ i : Nat, v = .int .i64 i ∧ i ≤ len ∧ i ≤ 40 ∧ ∃ a1 n1 c1, Hid (EB wr E a1 n1 c1 (mkE (C.take i)).2) ∧ Hid (OwnO (B + 1) wr a1 n1 c1 (mkE (C.take i)).1) ∧ Hid (EB wr B none 0 0 z0) ∧ Hid (Below B w wr)) (fun v _ => len - (intOf v).toNat)
  case atStart => exact ⟨0, rfl, Nat.zero_le _, Nat.zero_le _, none, 0, 0, HE2, Lib.hid OwnV.none0, HR2, HB2⟩
  case round =>
    clear HE2 HR2 HB2
    obtain ⟨i, rfl, hi, hi40, a1, n1, c1, HE, HO, HR, HB⟩ := hrel
    obtain ⟨L1, z1, hs1⟩ : ∃ L1 z1, mkE (C.take i) = (L1, z1) := ⟨_, _, rfl⟩
    have HS1 := Lib.hid hs1
    have HOKE := Lib.hid (mkE_ok (C.take i))
    rw [hs1] at HE HO HOKE
    dsimp only at HE HO HOKE
    clear hs1
    have HZ1 : Hid (z1.length = 10) := Lib.hid HOKE.out.2.2.2.1
    have HN1 : Hid (L1.length = n1) := Lib.hid (OpS.len HO.out.vs)
    by_cases hgo : i < len ∧ i < 40
    · obtain ⟨hlt, hlt40⟩ := hgo
      have hg1 : decide ((i : Int) < (len : Int)) = true := by simpa using hlt
      have hg2 : decide ((i : Int) < 40) = true := by simp; omega
      have hs := HH.out.below (HBB.out ▸ HB.out)
      obtain ⟨b, off, rfl, _, hc⟩ := hs.at_ (by omega)
      clear hc
      have HSN := Lib.hid (mkE_snoc (C.take i) (chA C i))
      rw [← chA_take (by rw [HL.out]; exact hlt), HS1.out] at HSN
      have HCX : Hid (okC (chA C i)) := Lib.hid (HOK.out _ (by rw [chA_eq (by rw [HL.out]; exact hlt)]; exact List.getElem_mem _))
      have hcs := ChS.at6 hs hlt
      obtain ⟨x, hx⟩ : ∃ x, x = chA C i := ⟨_, rfl⟩
      rw [← hx] at HSN HCX hcs
      obtain ⟨k, g, hh, p, gr, s⟩ := x
      dsimp only at HSN HCX hcs
      obtain ⟨y0, y1, y2, y3, y4, y5⟩ := hcs
      have HZ6 : Hid ((stq L1 z1 k g hh (fitO (p, gr, s))).2.length = 10) := Lib.hid (stq_ok HOKE.out k g hh (fitO_good (p, gr, s))).2.2.2.1
      clear hs hx
      go_wp2_with fail
      -- the region (laid by genBh.py)
      refine wp_region_noPanic ?_
      refine wp_region_held_drew (S := fun _ => True) (by kernel_rfl) (trivial) (fun hHeld => ?_)
      refine wpAnyH_take (i := 1) (oi := { dst := some 17, op := Op.move (Operand.tmp 0), type := 46, pos := "ref.go:158", after := #[], guard := none }) (v := ?_) rfl (by kernel_rfl) (by kernel_rfl) (by kernel_rfl) (fun _ _ _ h => h) (Or.inl ⟨by rfl, ?_⟩) (by assumption) ?_
      rotate_left
      · intro w' hSw
        try dsimp only at hSw
        go_simp
        try with_reducible rfl
      try simp only [Act.put, List.setIfInBounds_toArray, List.set_cons_zero, List.set_cons_succ]
      refine wpAnyH_take (i := 2) (oi := { dst := some 18, op := Op.move (Operand.tmp 4), type := 3, pos := "ref.go:158", after := #[], guard := none }) (v := ?_) rfl (by kernel_rfl) (by kernel_rfl) (by kernel_rfl) (fun _ _ _ h => h) (Or.inl ⟨by rfl, ?_⟩) (by assumption) ?_
      rotate_left
      · intro w' hSw
        try dsimp only at hSw
        go_simp
        try with_reducible rfl
      try simp only [Act.put, List.setIfInBounds_toArray, List.set_cons_zero, List.set_cons_succ]
      refine wpAnyH_take (i := 3) (oi := { dst := some 19, op := Op.indexAddr 46 (Operand.tmp 17) (Operand.tmp 18), type := 0, pos := "ref.go:158", after := #[{ on := 1, ground := Ground.data }, { on := 2, ground := Ground.data }], guard := none }) (v := ?_) rfl (by kernel_rfl) (by kernel_rfl) (by kernel_rfl) (fun _ _ _ h => h) (Or.inl ⟨by rfl, ?_⟩) (by assumption) ?_
      rotate_left
      · intro w' hSw
        try dsimp only at hSw
        go_simp
        try with_reducible rfl
      try simp only [Act.put, List.setIfInBounds_toArray, List.set_cons_zero, List.set_cons_succ]
      refine wpAnyH_ready (rs := [0, 4]) (by kernel_rfl) (by simp) ?_
      refine AllReadyH.cons (o := { dst := some 16, op := Op.load 26 (Operand.tmp 3), type := 26, pos := "ref.go:158", after := #[], guard := none }) rfl (fun K hK => ?_) ?_
      · refine step_load_env rfl (.tmp 3) rfl E rfl a1 n1 c1 z1 HZ1.out HE.out.drew ?_
        refine hK.out _ _ (trivial) (fun hHeld => ?_)
        clear hK K
        try simp only [Act.put, List.setIfInBounds_toArray, List.set_cons_zero, List.set_cons_succ]
        refine wpAnyH_ready (rs := [4]) (by kernel_rfl) (by simp) ?_
        refine AllReadyH.cons (o := { dst := some 20, op := Op.load 49 (Operand.tmp 19), type := 49, pos := "ref.go:158", after := #[{ on := 3, ground := Ground.data }], guard := none }) rfl (fun K hK => ?_) ?_
        · go_simp
          refine hK.out _ _ (trivial) (fun hHeld => ?_)
          clear hK K
          try simp only [Act.put, List.setIfInBounds_toArray, List.set_cons_zero, List.set_cons_succ]
          refine wpAnyH_ready (rs := [5]) (by kernel_rfl) (by simp) ?_
          refine AllReadyH.cons (o := { dst := some 21, op := Op.call { callee := Callee.value (Operand.func 46), args := #[Operand.tmp 16, Operand.tmp 20], argTypes := #[26, 49] }, type := 26, pos := "ref.go:158", after := #[{ on := 0, ground := Ground.data }, { on := 4, ground := Ground.data }], guard := none }) rfl (fun K hK => ?_) ?_
          · go_simp
            (go_at_call 46; (refine (rstep_any (B + 1) a1 n1 c1 L1 z1 k g hh (p, gr, s) _ HO.out.drew (by have := HE.out.lt; have := HBE.out; simp; omega) HZ1.out (by have := HN1.out; have := HOKE.out.2.2.1; omega) HCX.out.1 HCX.out.2.1 HCX.out.2.2.1 HCX.out.2.2.2).mono ?_); rintro e w6 ⟨a6, n6, c6, rfl, ho6, hb6⟩)
            have HO6 := Lib.hid ho6
            have HB6 : Hid (Below wr.heap.size wr w6) := Lib.hid ((Below.refl _ _).drew.trans hb6)
            clear ho6 hb6
            refine hK.out _ _ (trivial) (fun hHeld => ?_)
            clear hK K
            try simp only [Act.put, List.setIfInBounds_toArray, List.set_cons_zero, List.set_cons_succ]
            refine wpAnyH_ready (rs := [6]) (by kernel_rfl) (by simp) ?_
            refine AllReadyH.cons (o := { dst := none, op := Op.store 26 (Operand.tmp 3) (Operand.tmp 21), type := 0, pos := "ref.go:158", after := #[{ on := 5, ground := Ground.data }, { on := 5, ground := Ground.chain }, { on := 0, ground := Ground.phase }, { on := 1, ground := Ground.phase }, { on := 2, ground := Ground.phase }, { on := 3, ground := Ground.phase }, { on := 4, ground := Ground.phase }, { on := 5, ground := Ground.phase }], guard := none }) rfl (fun K hK => ?_) ?_
            · refine step_store_env rfl (.tmp 3) (.tmp 21) rfl E rfl a6 n6 c6 _ rfl HZ6.out a1 n1 c1 z1 HZ1.out (HE.out.below HB6.out) ?_
              intro w7 he7 hq7
              have HE7 := Lib.hid he7
              have HQ7 := Lib.hid hq7
              clear he7 hq7
              refine hK.out _ _ (trivial) (fun hHeld => ?_)
              clear hK K
              try simp only [Act.put]
              refine wpAnyH_done (by kernel_rfl) ?_ _
              refine NoPanic.normal ?_
              have HRX : Hid (EB w7 B none 0 0 z0) := Lib.hid ((HR.out.below HB6.out).only HQ7.out (by have := HBE.out; omega))
              have HBX : Hid (Below B w w7) := Lib.hid ((HB.out.trans (HB6.out.mono (by have := HB.out.size; have := HBB.out; omega))).trans (HQ7.out.below (Nat.le_of_lt HBE.out)))
              have HEX : Hid (EB w7 E a6 n6 c6 (mkE (C.take (i + 1))).2) := Lib.hid (by rw [HSN.out]; exact HE7.out)
              have HOX : Hid (OwnO (B + 1) w7 a6 n6 c6 (mkE (C.take (i + 1))).1) := Lib.hid (by rw [HSN.out]; exact ownO_env HO6.out (HE.out.below HB6.out) HQ7.out)
              go_wp2
              go_roundw
              case rel => exact ⟨i + 1, by go_num, by omega, by omega, a6, n6, c6, HEX, HOX, HRX, HBX⟩
              case measure => simp [intOf]; omega
            exact AllReadyH.nil
          exact AllReadyH.nil
        exact AllReadyH.nil
      refine AllReadyH.cons (o := { dst := some 20, op := Op.load 49 (Operand.tmp 19), type := 49, pos := "ref.go:158", after := #[{ on := 3, ground := Ground.data }], guard := none }) rfl (fun K hK => ?_) ?_
      · go_simp
        refine hK.out _ _ (trivial) (fun hHeld => ?_)
        clear hK K
        try simp only [Act.put, List.setIfInBounds_toArray, List.set_cons_zero, List.set_cons_succ]
        refine wpAnyH_ready (rs := [0]) (by kernel_rfl) (by simp) ?_
        refine AllReadyH.cons (o := { dst := some 16, op := Op.load 26 (Operand.tmp 3), type := 26, pos := "ref.go:158", after := #[], guard := none }) rfl (fun K hK => ?_) ?_
        · refine step_load_env rfl (.tmp 3) rfl E rfl a1 n1 c1 z1 HZ1.out HE.out.drew ?_
          refine hK.out _ _ (trivial) (fun hHeld => ?_)
          clear hK K
          try simp only [Act.put, List.setIfInBounds_toArray, List.set_cons_zero, List.set_cons_succ]
          refine wpAnyH_ready (rs := [5]) (by kernel_rfl) (by simp) ?_
          refine AllReadyH.cons (o := { dst := some 21, op := Op.call { callee := Callee.value (Operand.func 46), args := #[Operand.tmp 16, Operand.tmp 20], argTypes := #[26, 49] }, type := 26, pos := "ref.go:158", after := #[{ on := 0, ground := Ground.data }, { on := 4, ground := Ground.data }], guard := none }) rfl (fun K hK => ?_) ?_
          · go_simp
            (go_at_call 46; (refine (rstep_any (B + 1) a1 n1 c1 L1 z1 k g hh (p, gr, s) _ HO.out.drew (by have := HE.out.lt; have := HBE.out; simp; omega) HZ1.out (by have := HN1.out; have := HOKE.out.2.2.1; omega) HCX.out.1 HCX.out.2.1 HCX.out.2.2.1 HCX.out.2.2.2).mono ?_); rintro e w6 ⟨a6, n6, c6, rfl, ho6, hb6⟩)
            have HO6 := Lib.hid ho6
            have HB6 : Hid (Below wr.heap.size wr w6) := Lib.hid ((Below.refl _ _).drew.trans hb6)
            clear ho6 hb6
            refine hK.out _ _ (trivial) (fun hHeld => ?_)
            clear hK K
            try simp only [Act.put, List.setIfInBounds_toArray, List.set_cons_zero, List.set_cons_succ]
            refine wpAnyH_ready (rs := [6]) (by kernel_rfl) (by simp) ?_
            refine AllReadyH.cons (o := { dst := none, op := Op.store 26 (Operand.tmp 3) (Operand.tmp 21), type := 0, pos := "ref.go:158", after := #[{ on := 5, ground := Ground.data }, { on := 5, ground := Ground.chain }, { on := 0, ground := Ground.phase }, { on := 1, ground := Ground.phase }, { on := 2, ground := Ground.phase }, { on := 3, ground := Ground.phase }, { on := 4, ground := Ground.phase }, { on := 5, ground := Ground.phase }], guard := none }) rfl (fun K hK => ?_) ?_
            · refine step_store_env rfl (.tmp 3) (.tmp 21) rfl E rfl a6 n6 c6 _ rfl HZ6.out a1 n1 c1 z1 HZ1.out (HE.out.below HB6.out) ?_
              intro w7 he7 hq7
              have HE7 := Lib.hid he7
              have HQ7 := Lib.hid hq7
              clear he7 hq7
              refine hK.out _ _ (trivial) (fun hHeld => ?_)
              clear hK K
              try simp only [Act.put]
              refine wpAnyH_done (by kernel_rfl) ?_ _
              refine NoPanic.normal ?_
              have HRX : Hid (EB w7 B none 0 0 z0) := Lib.hid ((HR.out.below HB6.out).only HQ7.out (by have := HBE.out; omega))
              have HBX : Hid (Below B w w7) := Lib.hid ((HB.out.trans (HB6.out.mono (by have := HB.out.size; have := HBB.out; omega))).trans (HQ7.out.below (Nat.le_of_lt HBE.out)))
              have HEX : Hid (EB w7 E a6 n6 c6 (mkE (C.take (i + 1))).2) := Lib.hid (by rw [HSN.out]; exact HE7.out)
              have HOX : Hid (OwnO (B + 1) w7 a6 n6 c6 (mkE (C.take (i + 1))).1) := Lib.hid (by rw [HSN.out]; exact ownO_env HO6.out (HE.out.below HB6.out) HQ7.out)
              go_wp2
              go_roundw
              case rel => exact ⟨i + 1, by go_num, by omega, by omega, a6, n6, c6, HEX, HOX, HRX, HBX⟩
              case measure => simp [intOf]; omega
            exact AllReadyH.nil
          exact AllReadyH.nil
        exact AllReadyH.nil
      exact AllReadyH.nil
    · have HT : Hid (mkE (C.take 40) = (L1, z1)) := Lib.hid (by
        rw [← HS1.out]
        congr 1
        by_cases h40 : i = 40
        · rw [h40]
        · rw [List.take_of_length_le (by rw [HL.out]; omega), List.take_of_length_le (by rw [HL.out]; omega)])
      rcases (show (¬ i < len) ∨ (i < len ∧ ¬ i < 40) by omega) with hx | hx
      · have hg1 : ¬ (i : Int) < (len : Int) := by omega
        clear hx hgo
        go_wp2_with (first
          | (refine store_env rfl (.tmp 2) (.tmp 22) rfl B rfl a1 n1 c1 z1 rfl HZ1.out none 0 0 z0 z0_len HR.out ?_; intro w7 he7 hq7; have HE7 := Lib.hid he7; have HQ7 := Lib.hid hq7; clear he7 hq7)
          | (refine load_env rfl (.tmp 3) rfl E rfl a1 n1 c1 z1 HZ1.out HE.out ?_))
        refine bodyPost_ret (ret_env rfl _ _ B a1 n1 c1 z1 HZ1.out rfl HE7.out) rfl ⟨a1, n1, c1, by rw [HT.out], ?_, ?_⟩
        · rw [HT.out]; exact (ownO_env HO.out HR.out HQ7.out).weak (by have := HBB.out; omega)
        · rw [← HBB.out]; exact HB.out.trans (HQ7.out.below (Nat.le_refl _))
      · obtain ⟨hx1, hx2⟩ := hx
        have hg1 : (i : Int) < (len : Int) := by omega
        have hg2 : ¬ (i : Int) < 40 := by omega
        clear hx1 hx2 hgo
        go_wp2_with (first
          | (refine store_env rfl (.tmp 2) (.tmp 22) rfl B rfl a1 n1 c1 z1 rfl HZ1.out none 0 0 z0 z0_len HR.out ?_; intro w7 he7 hq7; have HE7 := Lib.hid he7; have HQ7 := Lib.hid hq7; clear he7 hq7)
          | (refine load_env rfl (.tmp 3) rfl E rfl a1 n1 c1 z1 HZ1.out HE.out ?_))
        refine bodyPost_ret (ret_env rfl _ _ B a1 n1 c1 z1 HZ1.out rfl HE7.out) rfl ⟨a1, n1, c1, by rw [HT.out], ?_, ?_⟩
        · rw [HT.out]; exact (ownO_env HO.out HR.out HQ7.out).weak (by have := HBB.out; omega)
        · rw [← HBB.out]; exact HB.out.trans (HQ7.out.below (Nat.le_refl _))

end Go.Proofs.YtciijlcemmhbfaaGreatDoor
