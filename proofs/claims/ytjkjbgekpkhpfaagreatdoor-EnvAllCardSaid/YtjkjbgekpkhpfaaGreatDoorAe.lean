/- env.Entry (laid by genAe.py over XAe.start.txt). -/
import Derived.Test.YtjkjbgekpkhpfaaGreatDoorAp
namespace Go.Proofs.YtjkjbgekpkhpfaaGreatDoor
open Go.RowKit

/-! ### Rows of entries -/

/-- An entry: an operator, and which groups are tighter. -/
abbrev EN := OP × Int
def enC (x : EN) : List Value := [.string (mk x.1.1), .int .i64 x.1.2.1, .int .i64 x.1.2.2, .int .i64 x.2]
def cE (E : List EN) : List Value := E.flatMap enC
theorem cE_app (A B : List EN) : cE (A ++ B) = cE A ++ cE B := by simp [cE]
theorem cE_cons (x : EN) (E : List EN) : cE (x :: E) = .string (mk x.1.1) :: .int .i64 x.1.2.1 :: .int .i64 x.1.2.2 :: .int .i64 x.2 :: cE E := rfl
theorem cE_len : ∀ E : List EN, (cE E).length = E.length * 4
  | [] => rfl
  | x :: E => by rw [cE_cons, List.length_cons, List.length_cons, List.length_cons, List.length_cons, cE_len E, List.length_cons]; omega
theorem cE_one : ∀ E : List EN, ∀ u ∈ cE E, u.oneCell' = true
  | [], u, h => by cases h
  | x :: E, u, h => by
    rw [cE_cons, List.mem_cons, List.mem_cons, List.mem_cons, List.mem_cons] at h
    rcases h with rfl | rfl | rfl | rfl | h
    · rfl
    · rfl
    · rfl
    · rfl
    · exact cE_one E u h
theorem cE_at : ∀ (E : List EN) (k : Nat) (h : k < E.length), (cE E)[k * 4]? = some (.string (mk E[k].1.1)) ∧ (cE E)[k * 4 + 1]? = some (.int .i64 E[k].1.2.1) ∧ (cE E)[k * 4 + 2]? = some (.int .i64 E[k].1.2.2) ∧ (cE E)[k * 4 + 3]? = some (.int .i64 E[k].2)
  | x :: E, 0, h => ⟨rfl, rfl, rfl, rfl⟩
  | x :: E, k + 1, h => by
    have ih := cE_at E k (by simpa using h)
    rw [show (k + 1) * 4 = k * 4 + 1 + 1 + 1 + 1 by omega, cE_cons]
    simpa using ih
def enA (E : List EN) (k : Nat) : EN := E.getD k (([], 0, 0), 0)
theorem enA_eq {E : List EN} {k : Nat} (h : k < E.length) : enA E k = E[k] := by simp [enA, List.getD, h]
/-- The slice value (a, len, cap) reads as these entries. -/
abbrev Ens (w : World) (a : Option Addr) (n c : Nat) (E : List EN) : Prop := Vs 4 w a n c (cE E)
theorem Ens.len {w : World} {a : Option Addr} {n c : Nat} {E : List EN} (h : Ens w a n c E) : E.length = n := by
  have := Vs.hl h; rw [cE_len] at this; omega
theorem Ens.at4 {w : World} {b o n c : Nat} {E : List EN} (h : Ens w (some ⟨b, o, none⟩) n c E) {k : Nat} (hk : k < n) :
    w.cell? ⟨b, o + k * 4, none⟩ = some (.string (mk (enA E k).1.1)) ∧ w.cell? ⟨b, o + k * 4 + 1, none⟩ = some (.int .i64 (enA E k).1.2.1) ∧ w.cell? ⟨b, o + k * 4 + 2, none⟩ = some (.int .i64 (enA E k).1.2.2) ∧ w.cell? ⟨b, o + k * 4 + 3, none⟩ = some (.int .i64 (enA E k).2) := by
  have hl := Ens.len h
  have h3 := cE_at E k (by omega)
  rw [enA_eq (by omega)]
  rw [Nat.add_assoc o (k * 4) 1, Nat.add_assoc o (k * 4) 2, Nat.add_assoc o (k * 4) 3]
  exact ⟨(Vs.cells h (by omega) (by omega)).trans h3.1, (Vs.cells h (by omega) (by omega)).trans h3.2.1, (Vs.cells h (by omega) (by omega)).trans h3.2.2.1, (Vs.cells h (by omega) (by omega)).trans h3.2.2.2⟩
theorem en_info : (Tryz.prog.info? 58).map (fun i => (i.zero, i.size, i.bytes)) = some (some (.agg #[.string ByteArray.empty, .int .i64 0, .int .i64 0, .int .i64 0]), 4, 40) := by kernel_rfl

/-- What a name stands for. -/
def hasP (x : Nm) (o : OP) : Bool := (prt o.1).contains x
def entL (L : List OP) (z : List Int) (x : Nm) : List EN := (L.filter (hasP x)).map fun o => (o, rowV z o.2.1)
theorem entL_snoc {L : List OP} {k : Nat} (h : k < L.length) (z : List Int) (x : Nm) : entL (L.take (k + 1)) z x = entL (L.take k) z x ++ (if hasP x (opA L k) = true then [(opA L k, rowV z (opA L k).2.1)] else []) := by
  unfold entL
  rw [opA_take h, List.filter_append, List.map_append]
  congr 1
  split <;> simp_all
theorem entL_len (L : List OP) (z : List Int) (x : Nm) : (entL L z x).length ≤ L.length := by
  unfold entL; rw [List.length_map]; exact List.length_filter_le ..

/-- An operator in a block of its own. -/
def D3 (w : World) (D : Nat) (o : OP) : Prop := w.heap[D]? = some (.cells #[.string (mk o.1), .int .i64 o.2.1, .int .i64 o.2.2] 28 (0, 0))
theorem D3.below {w w' : World} {D : Nat} {o : OP} (h : D3 w D o) (hb : Below w.heap.size w w') : D3 w' D o := (hb.block D (Array.getElem?_eq_some_iff.1 h).1).trans h
theorem D3.cells {w : World} {D : Nat} {o : OP} (h : D3 w D o) : w.cell? ⟨D, 0, none⟩ = some (.string (mk o.1)) ∧ w.cell? ⟨D, 1, none⟩ = some (.int .i64 o.2.1) ∧ w.cell? ⟨D, 2, none⟩ = some (.int .i64 o.2.2) := (three h).1
theorem D3.new (w : World) (o : OP) : D3 (w.alloc (.cells #[.string (mk o.1), .int .i64 o.2.1, .int .i64 o.2.2] 28)) w.heap.size o := heap_alloc_new w _
theorem D3.grown {w w' : World} {D base : Nat} {o : OP} {e : TypeId} {k n c : Nat} {a : Option Addr} {xs : List Value} (h : D3 w D o) (hO : OwnV base e k w a n c xs) (he : e ≠ 28) (hg : w.grownBy w' (Value.ownBlock (.slice a n c))) : D3 w' D o := by
  refine (hg.block D (Array.getElem?_eq_some_iff.1 h).1 fun e2 => ?_).trans h
  cases a with
  | none => simp [Value.ownBlock] at e2
  | some ad =>
    obtain ⟨g, cur, ha, _, _, hb, _⟩ := hO.form (by simp)
    obtain rfl := Option.some.inj ha
    have e3 : D = g := by simpa [Value.ownBlock] using e2
    subst e3
    unfold D3 at h
    rw [hb] at h
    simp only [Option.some.injEq, Obj.cells.injEq] at h
    exact he h.2.1
theorem below_alloc (w : World) (o : Obj) : Below w.heap.size w (w.alloc o) := (Below.refl _ _).alloc (Nat.le_refl _) _
theorem se_of {w : World} {B : Nat} {a : Option Addr} {n c : Nat} {z : List Int} {D : Nat} {o : OP} (h : EB w B a n c z) (h2 : D3 w D o) : (EB w B a n c z ∧ D3 w D o) ∧ w.cell? ⟨D, 0, none⟩ = some (.string (mk o.1)) ∧ w.cell? ⟨D, 1, none⟩ = some (.int .i64 o.2.1) ∧ w.cell? ⟨D, 2, none⟩ = some (.int .i64 o.2.2) := ⟨⟨h, h2⟩, h2.cells⟩

set_option maxRecDepth 20000 in
set_option maxHeartbeats 4000000 in
theorem entry_any (a : Option Addr) (n c : Nat) (L : List OP) (z : List Int) (x : Nm) (w : World) (ht : Tab w) (h : OpS w a n c L) (hz : z.length = 10) (hn : n ≤ 1000000) (hp : ∀ o ∈ L, o.1.length ≤ 1000000) :
    Calls Tryz.prog 16 #[.agg (ev a n c z), .string (mk x)] w fun e w' => ∃ a' c', e = .returned (.slice a' (entL L z x).length c') ∧ Ens w' a' (entL L z x).length c' (entL L z x) ∧ Below w.heap.size w w' := by
  have hlc := h.lc
  have hcm := h.cm
  unfold maxLen at hcm
  obtain ⟨B, hB⟩ : ∃ B, B = w.heap.size := ⟨_, rfl⟩
  obtain ⟨w0, hw0⟩ : ∃ w0, w0 = w.alloc (.cells (ev a n c z) 26) := ⟨_, rfl⟩
  have HE0 : Hid (EB w0 B a n c z) := Lib.hid (by rw [hw0, hB]; exact EB.new w a n c z)
  have HB0 : Hid (Below B w w0) := Lib.hid (by rw [hw0, hB]; exact below_alloc w _)
  have HT : Hid (Tab w) := Lib.hid ht
  have H0 : Hid (OpS w0 a n c L) := Lib.hid (h.below (by rw [← hB]; exact HB0.out))
  have HL := Lib.hid (OpS.len h)
  have HZ := Lib.hid hz
  have HP := Lib.hid hp
  have HBB := Lib.hid hB
  have hS : B < w0.heap.size := HE0.out.lt
  have HS := Lib.hid hS
  have e0 := (EB.new w a n c z).c0
  clear ht h hz hp hS
  go_enter Tryz.func16, Tryz.ntmps16
  go_wp2
  rw [← hw0, ← hB]
  clear hw0 hB e0
  go_loopw [5, 11] (fun u v wr => ∃ a3, ∃ m q k : Nat, u = .slice a3 m q ∧ v = .int .i64 k ∧ k ≤ n ∧ Hid ((entL (L.take k) z x).length = m) ∧ Hid (OwnV w0.heap.size 58 4 wr a3 m q (cE (entL (L.take k) z x))) ∧ Hid (Below w0.heap.size w0 wr)) (fun _ v _ => n - (intOf v).toNat)
  case atStart => exact ⟨_, 0, 0, 0, rfl, rfl, by omega, Lib.hid rfl, Lib.hid OwnV.none0, Lib.hid (Below.refl _ _)⟩
  case round =>
    obtain ⟨a3, m, q, k, rfl, rfl, hk, HM, HO, HB⟩ := hrel
    by_cases hlt : k < n
    · have hs := H0.out.below HB.out
      obtain ⟨b, off, rfl, _, hc⟩ := hs.at_ (by omega)
      clear hc
      obtain ⟨c0, c1, c2⟩ := OpS.at3 hs hlt
      have HSN := Lib.hid (entL_snoc (L := L) (k := k) (by rw [HL.out]; exact hlt) z x)
      have HML : Hid (m ≤ k) := Lib.hid (by rw [← HM.out]; exact Nat.le_trans (entL_len ..) (by rw [List.length_take]; omega))
      obtain ⟨o, ho⟩ : ∃ o, o = opA L k := ⟨_, rfl⟩
      have HPo : Hid (o.1.length ≤ 1000000) := Lib.hid (by rw [ho]; exact HP.out _ (opA_mem (by rw [HL.out]; exact hlt)))
      rw [← ho] at c0 c1 c2 HSN
      clear hs ho
      obtain ⟨p, g, s⟩ := o
      dsimp only at c0 c1 c2
      obtain ⟨w1, hw1⟩ : ∃ w1, w1 = wr.alloc (.cells #[.string (mk p), .int .i64 g, .int .i64 s] 28) := ⟨_, rfl⟩
      obtain ⟨D, hD⟩ : ∃ D, D = wr.heap.size := ⟨_, rfl⟩
      have HD1 : Hid (D3 w1 D (p, g, s)) := Lib.hid (by rw [hw1, hD]; exact D3.new wr (p, g, s))
      have HB1 : Hid (Below w0.heap.size w0 w1) := Lib.hid (by rw [hw1]; exact HB.out.alloc HB.out.size _)
      have HO1 : Hid (OwnV w0.heap.size 58 4 w1 a3 m q (cE (entL (L.take k) z x))) := Lib.hid (by rw [hw1]; exact HO.out.alloc _)
      have HT1 : Hid (Tab w1) := Lib.hid ((HT.out.keep (HBB.out ▸ HB0.out)).keep HB1.out)
      have HGD : Hid (w0.heap.size ≤ D) := Lib.hid (by rw [hD]; exact HB.out.size)
      obtain ⟨d0, d1, d2⟩ := HD1.out.cells
      dsimp only at d0 d1 d2
      go_wp2_with fail
      rw [← hw1, ← hD]
      clear hw1 hD c0 c1 c2
      refine (parts_any p g s w1 HT1.out HPo.out).mono ?_
      rintro e w2 ⟨sa, sn, sc, rfl, hps, hb2⟩
      have HD2 := Lib.hid (HD1.out.below hb2)
      have HB2 := Lib.hid (HB1.out.trans (hb2.mono HB1.out.size))
      have HO2 : Hid (OwnV w0.heap.size 58 4 w2 a3 m q (cE (entL (L.take k) z x))) := Lib.hid (HO1.out.keep hb2 (Nat.le_refl _))
      have HSP := Lib.hid hps
      clear hps hb2 d0 d1 d2
      go_wp2_with fail
      refine (contains_strs sa sn sc (prt p) x w2 HSP.out (by have := Ss.len HSP.out; have := prt_len p; omega)).mono ?_
      rintro e w3 ⟨rfl, rfl⟩
      cases hh : (prt p).contains x with
      | false =>
        have HN : Hid (entL (L.take (k + 1)) z x = entL (L.take k) z x) := Lib.hid (by rw [HSN.out, if_neg (by unfold hasP; rw [hh]; decide), List.append_nil])
        go_wp2
        go_roundw
        case rel => exact ⟨a3, m, q, k + 1, rfl, by go_num, by omega, by rw [HN.out]; exact HM, by rw [HN.out]; exact HO2, HB2⟩
        case measure => simp [intOf]; omega
      | true =>
        have HN : Hid (entL (L.take (k + 1)) z x = entL (L.take k) z x ++ [((p, g, s), rowV z g)]) := Lib.hid (by rw [HSN.out, if_pos (by unfold hasP; exact hh)])
        clear hh
        have HE2 := Lib.hid (HE0.out.below HB2.out)
        go_wp2_with fail
        -- the region (laid by genAe.py)
        refine wp_region_noPanic ?_
        refine wp_region_held_drew (S := fun w' => (EB w' B (some ⟨b, off, none⟩) n c z ∧ D3 w' D (p, g, s)) ∧ w'.cell? ⟨D, 0, none⟩ = some (.string (mk p)) ∧ w'.cell? ⟨D, 1, none⟩ = some (.int .i64 g) ∧ w'.cell? ⟨D, 2, none⟩ = some (.int .i64 s)) (by kernel_rfl) (se_of HE2.out HD2.out) (fun hHeld => ?_)
        refine wpAnyH_take (i := 0) (oi := { dst := some 19, op := Op.move (Operand.tmp 5), type := 39, pos := "env.go:70", after := #[], guard := none }) (v := ?_) rfl (by kernel_rfl) (by kernel_rfl) (by kernel_rfl) (fun _ _ _ h => h) (Or.inl ⟨by rfl, ?_⟩) (by assumption) ?_
        rotate_left
        · intro w' hSw
          try dsimp only at hSw
          go_simp
          try with_reducible rfl
        try simp only [Act.put, List.setIfInBounds_toArray, List.set_cons_zero, List.set_cons_succ]
        refine wpAnyH_take (i := 1) (oi := { dst := some 20, op := Op.load 28 (Operand.tmp 7), type := 28, pos := "env.go:70", after := #[], guard := none }) (v := ?_) rfl (by kernel_rfl) (by kernel_rfl) (by kernel_rfl) (fun _ _ _ h => h) (Or.inl ⟨by rfl, ?_⟩) (by assumption) ?_
        rotate_left
        · intro w' hSw
          try dsimp only at hSw
          go_simp
          try with_reducible rfl
        try simp only [Act.put, List.setIfInBounds_toArray, List.set_cons_zero, List.set_cons_succ]
        refine wpAnyH_take (i := 2) (oi := { dst := some 21, op := Op.fieldAddr 26 (Operand.tmp 2) 1, type := 0, pos := "env.go:70", after := #[], guard := none }) (v := ?_) rfl (by kernel_rfl) (by kernel_rfl) (by kernel_rfl) (fun _ _ _ h => h) (Or.inl ⟨by rfl, ?_⟩) (by assumption) ?_
        rotate_left
        · intro w' hSw
          try dsimp only at hSw
          go_simp
          try with_reducible rfl
        try simp only [Act.put, List.setIfInBounds_toArray, List.set_cons_zero, List.set_cons_succ]
        refine take_er (i := 3) (oi := { dst := some 22, op := Op.load 24 (Operand.tmp 21), type := 24, pos := "env.go:70", after := #[{ on := 2, ground := Ground.data }], guard := none }) (Operand.tmp 21) rfl (by kernel_rfl) (by kernel_rfl) (by kernel_rfl) (z) (fun _ _ _ h => h) (by rfl) rfl (B) rfl (HZ.out) _ _ _ (fun _ h => h.1.1) (by assumption) ?_
        try simp only [Act.put, List.setIfInBounds_toArray, List.set_cons_zero, List.set_cons_succ]
        refine wpAnyH_take (i := 4) (oi := { dst := some 23, op := Op.fieldAddr 28 (Operand.tmp 7) 1, type := 0, pos := "env.go:70", after := #[], guard := none }) (v := ?_) rfl (by kernel_rfl) (by kernel_rfl) (by kernel_rfl) (fun _ _ _ h => h) (Or.inl ⟨by rfl, ?_⟩) (by assumption) ?_
        rotate_left
        · intro w' hSw
          try dsimp only at hSw
          go_simp
          try with_reducible rfl
        try simp only [Act.put, List.setIfInBounds_toArray, List.set_cons_zero, List.set_cons_succ]
        refine wpAnyH_take (i := 5) (oi := { dst := some 24, op := Op.load 3 (Operand.tmp 23), type := 3, pos := "env.go:70", after := #[{ on := 4, ground := Ground.data }], guard := none }) (v := ?_) rfl (by kernel_rfl) (by kernel_rfl) (by kernel_rfl) (fun _ _ _ h => h) (Or.inl ⟨by rfl, ?_⟩) (by assumption) ?_
        rotate_left
        · intro w' hSw
          try dsimp only at hSw
          go_simp
          try with_reducible rfl
        try simp only [Act.put, List.setIfInBounds_toArray, List.set_cons_zero, List.set_cons_succ]
        refine wpAnyH_ready (rs := [6]) (by kernel_rfl) (by simp) ?_
        refine AllReadyH.cons (o := { dst := some 25, op := Op.call { callee := Callee.value (Operand.func 37), args := #[Operand.tmp 22, Operand.tmp 24], argTypes := #[24, 3] }, type := 3, pos := "env.go:70", after := #[{ on := 3, ground := Ground.data }, { on := 5, ground := Ground.data }], guard := none }) rfl (fun K hK => ?_) ?_
        · go_simp
          (go_at_call 37; (with_reducible refine (row_any z HZ.out g _).mono ?_); rintro e w4 ⟨rfl, hw4⟩)
          have hb4 : Below w2.heap.size w2 w4 := by rw [hw4]; exact (Below.refl _ _).drew.alloc (by simp) _
          have HK4 := Lib.hid hb4
          have HB4 := Lib.hid (HB2.out.trans (hb4.mono HB2.out.size))
          have HO4 : Hid (OwnV w0.heap.size 58 4 w4 a3 m q (cE (entL (L.take k) z x))) := Lib.hid (HO2.out.keep hb4 (Nat.le_refl _))
          clear hb4 hw4
          refine hK.out _ _ (se_of (HE2.out.below HK4.out) (HD2.out.below HK4.out)) (fun hHeld => ?_)
          clear hK K
          try simp only [Act.put, List.setIfInBounds_toArray, List.set_cons_zero, List.set_cons_succ]
          refine wpAnyH_take (i := 7) (oi := { dst := some 26, op := Op.build 58 #[(0, Operand.tmp 20), (1, Operand.tmp 25)], type := 58, pos := "env.go:70", after := #[{ on := 1, ground := Ground.data }, { on := 6, ground := Ground.data }], guard := none }) (v := ?_) rfl (by kernel_rfl) (by kernel_rfl) (by kernel_rfl) (fun _ _ _ h => h) (Or.inl ⟨by rfl, ?_⟩) (by assumption) ?_
          rotate_left
          · intro w' hSw
            try dsimp only at hSw
            go_simp
            try with_reducible rfl
          try simp only [Act.put, List.setIfInBounds_toArray, List.set_cons_zero, List.set_cons_succ]
          refine wpAnyH_ready (rs := [8]) (by kernel_rfl) (by simp) ?_
          refine AllReadyH.cons (o := { dst := some 27, op := Op.buildSlice 39 1 #[(0, Operand.tmp 26)], type := 39, pos := "env.go:70", after := #[{ on := 7, ground := Ground.data }], guard := none }) rfl (fun K hK => ?_) ?_
          · go_simp
            refine hK.out _ _ (se_of ((HE2.out.below HK4.out).alloc _) ((HD2.out.below HK4.out).below (below_alloc _ _))) (fun hHeld => ?_)
            clear hK K
            try simp only [Act.put, List.setIfInBounds_toArray, List.set_cons_zero, List.set_cons_succ]
            refine wpAnyH_ready (rs := [9]) (by kernel_rfl) (by simp) ?_
            refine AllReadyH.cons (o := { dst := some 28, op := Op.call { callee := Callee.builtin Builtin.append, args := #[Operand.tmp 19, Operand.tmp 27], argTypes := #[39, 39] }, type := 39, pos := "env.go:70", after := #[{ on := 0, ground := Ground.data }, { on := 8, ground := Ground.data }, { on := 6, ground := Ground.chain }], guard := none }) rfl (fun K hK => ?_) ?_
            · refine step_appv rfl (.tmp 19) (.tmp 27) 39 rfl 58 w0.heap.size 4 40 _ Tryz.underlying39 en_info rfl (by omega) _ m _ (cE (entL (L.take k) z x)) rfl (HO4.out.alloc _) _ 1 _ (cE [((p, g, s), rowV z g)]) rfl (Vs.lit (k := 4) (xs := cE [((p, g, s), rowV z g)]) _ _ rfl rfl rfl) (cE_one _) (by unfold maxLen; have := HML.out; omega) (by have := HML.out; omega) (Nat.le_trans HB4.out.size (by simp)) ?_
              intro a6 c6 w6 ho6 hg6 hb6 _
              have HO5 := Lib.hid ho6
              have HB6 := Lib.hid ((HB4.out.alloc HB4.out.size _).trans hb6)
              have HKE := Lib.hid (((HE2.out.below HK4.out).alloc (.cells #[.string (mk p), .int .i64 g, .int .i64 s, .int .i64 (rowV z g)] 58)).keep hb6 HS.out)
              have hkd : D3 w6 D (p, g, s) := ((HD2.out.below HK4.out).below (below_alloc _ _)).grown (HO4.out.alloc _) (by decide) hg6
              have HKD := Lib.hid hkd
              clear ho6 hg6 hb6 hkd
              refine hK.out _ _ (se_of HKE.out HKD.out) (fun hHeld => ?_)
              clear hK K
              try simp only [Act.put, List.setIfInBounds_toArray, List.set_cons_zero, List.set_cons_succ]
              refine wpAnyH_take (i := 10) (oi := { dst := some 5, op := Op.assign (Operand.tmp 28), type := 39, pos := "env.go:70", after := #[{ on := 9, ground := Ground.data }, { on := 9, ground := Ground.chain }, { on := 0, ground := Ground.phase }, { on := 1, ground := Ground.phase }, { on := 2, ground := Ground.phase }, { on := 3, ground := Ground.phase }, { on := 4, ground := Ground.phase }, { on := 5, ground := Ground.phase }, { on := 6, ground := Ground.phase }, { on := 7, ground := Ground.phase }, { on := 8, ground := Ground.phase }, { on := 9, ground := Ground.phase }], guard := none }) (v := ?_) rfl (by kernel_rfl) (by kernel_rfl) (by kernel_rfl) (fun _ _ _ h => h) (Or.inl ⟨by rfl, ?_⟩) (by assumption) ?_
              rotate_left
              · intro w' hSw
                try dsimp only at hSw
                go_simp
                try with_reducible rfl
              try simp only [Act.put, List.setIfInBounds_toArray, List.set_cons_zero, List.set_cons_succ]
              refine wpAnyH_done (by kernel_rfl) ?_ _
              refine NoPanic.normal ?_
              have HN6 : Hid ((entL (L.take (k + 1)) z x).length = m + 1) := Lib.hid (by rw [HN.out, List.length_append, HM.out]; rfl)
              have HO6 : Hid (OwnV w0.heap.size 58 4 w6 a6 (m + 1) c6 (cE (entL (L.take (k + 1)) z x))) := Lib.hid (by rw [HN.out, cE_app]; exact HO5.out)
              go_wp2
              go_roundw
              case rel => exact ⟨_, m + 1, _, k + 1, rfl, by go_num, by omega, HN6, HO6, HB6⟩
              case measure => simp [intOf]; omega
            · exact AllReadyH.nil
          · exact AllReadyH.nil
        · exact AllReadyH.nil
        -- behind it
    · have HA : Hid (L.take k = L) := Lib.hid (List.take_of_length_le (by rw [HL.out]; omega))
      rw [HA.out] at HM HO
      have HBE : Hid (Below w.heap.size w wr) := Lib.hid (by rw [← HBB.out]; exact HB0.out.trans (HB.out.mono (Nat.le_of_lt HS.out)))
      go_wp2
      go_ret
      refine ⟨_, _, by rw [HM.out]; rfl, ?_, HBE.out⟩
      rw [HM.out]; exact HO.out.vs

end Go.Proofs.YtjkjbgekpkhpfaaGreatDoor
