/- env.Add. -/
import Derived.Test.YtjkjbgekpkhpfaaGreatDoorAp
import Derived.Test.YtjkjbgekpkhpfaaGreatDoorAe
import Derived.Test.YtjkjbgekpkhpfaaGreatDoorAi
namespace Go.Proofs.YtjkjbgekpkhpfaaGreatDoor
open Go.RowKit

theorem OwnV.weak {base base' : Nat} {e : TypeId} {k : Nat} {w : World} {a : Option Addr} {len cap : Nat} {xs : List Value} (h : OwnV base e k w a len cap xs) (hb : base' ≤ base) : OwnV base' e k w a len cap xs :=
  ⟨h.1, h.2.imp id fun ⟨g, cp, cur, hv, hg, r⟩ => ⟨g, cp, cur, hv, Nat.le_trans hb hg, r⟩⟩

/-- A struct stored somewhere in a row's block. -/
theorem run_storeVar_at {P : Program} (w : World) (ty t : TypeId) (g o : Nat) (cur cs : List Value) (hi : (P.info? ty).map (·.size) = some cs.length) (hg : w.heap[g]? = some (.cells cur.toArray t (0, 0)))
    (hfit : o + cs.length ≤ cur.length) (h1 : ∀ v ∈ cs, v.oneCell' = true) : (storeVar ty ⟨g, o, none⟩ (.agg cs.toArray)).run P w = .ok () (w.setRow g (splice cur o cs).toArray) := by
  have hst := run_storeCells_at P g o t cs 0 cur.toArray w hg (by simpa using hfit) h1
  cases hq : P.info? ty with
  | none => simp [hq] at hi
  | some i =>
    have hs : cs.length = i.size := by simp [hq] at hi; omega
    simp [storeVar, sizeOf, typeInfo, hq, Value.cells, hs, hst, splice]
theorem wpList_store_at {P : Program} {ops : Array Oper} {rest : List Oper} {op : Oper} {a : Act} {w : World} {Q : Exit → Act → World → Prop} (hgd : op.guard = none) (ty t : TypeId) (x y : Operand) (ho : op.op = .store ty x y)
    (g o : Nat) (cur cs : List Value) (hx : a.eval x = .pointer (some ⟨g, o, none⟩)) (hy : a.eval y = .agg cs.toArray) (hi : (P.info? ty).map (·.size) = some cs.length) (hg : w.heap[g]? = some (.cells cur.toArray t (0, 0)))
    (hfit : o + cs.length ≤ cur.length) (h1 : ∀ v ∈ cs, v.oneCell' = true)
    (h : ∀ w', w'.heap[g]? = some (.cells (splice cur o cs).toArray t (0, 0)) → Only g w w' → wpList P ops Q rest (a.put op.dst undef) w') : wpList P ops Q (op :: rest) a w :=
  wpList_plain hgd fun K hK => by
    unfold Oper.wp execOp
    simp only [ho, hx, hy, Instr.storeAt, Instr.sureAddr, Sem.run_bind, Sem.run_pure, Result.andThen_ok, run_storeVar_at w ty t g o cur cs hi hg hfit h1]
    exact hK _ _ (h _ (setRow_heap w g _ _ t _ hg) (Only.ofRow w g _))
theorem splice_mid {α : Type} (Z A X Y W : List α) (p q : Nat) (hp : A.length = p) (hX : X.length = q) (hq : Y.length = q) (hZ : Z.take (p + q + W.length) = A ++ X ++ W) : (splice Z p Y).take (p + q + W.length) = A ++ Y ++ W := by
  have hA : Z.take p = A := by
    have := congrArg (List.take p) hZ
    rw [List.take_take, Nat.min_eq_left (by omega), List.append_assoc, List.take_left' hp] at this
    exact this
  have hW : (Z.drop (p + q)).take W.length = W := by
    have := congrArg (List.drop (p + q)) hZ
    rw [List.drop_take, List.drop_left' (by simp; omega), show p + q + W.length - (p + q) = W.length by omega] at this
    exact this
  unfold splice
  rw [hA, hq, ← List.append_assoc, List.take_append, List.take_of_length_le (by simp; omega), show p + q + W.length - (A ++ Y).length = W.length by simp; omega, hW]

theorem ownO_only {base B : Nat} {w w' : World} {a : Option Addr} {n c : Nat} {L : List OP} (h : OwnO base w a n c L) (ho : Only B w w') (hB : B < base) : OwnO base w' a n c L := by
  refine ⟨h.1, h.2.imp id ?_⟩
  rintro ⟨g, cp, cur, hv, hg, hb, r⟩
  exact ⟨g, cp, cur, hv, hg, (ho.block g (by omega)).trans hb, r⟩

/-! ### What Add answers -/

def addE (L : List OP) (o : OP) : Int := if mayV o.1 o.2.1 o.2.2 = 0 then (if hitL L o.1 = true then 0 else if 16 ≤ L.length then 5 else 0) else mayV o.1 o.2.1 o.2.2
def addR (L : List OP) (o : OP) : List OP := if addE L o = 0 then addL L o else []
def addZ (L : List OP) (z : List Int) (o : OP) : List Int := if addE L o = 0 then z else z0
theorem addE_bad {L : List OP} {o : OP} (h : mayV o.1 o.2.1 o.2.2 ≠ 0) : addE L o = mayV o.1 o.2.1 o.2.2 ∧ addE L o ≠ 0 := by unfold addE; rw [if_neg h]; exact ⟨rfl, h⟩
theorem addE_hit {L : List OP} {o : OP} (h : mayV o.1 o.2.1 o.2.2 = 0) (hh : hitL L o.1 = true) : addE L o = 0 := by unfold addE; rw [if_pos h, if_pos hh]
theorem addE_full {L : List OP} {o : OP} (h : mayV o.1 o.2.1 o.2.2 = 0) (hh : hitL L o.1 = false) (hl : 16 ≤ L.length) : addE L o = 5 := by unfold addE; rw [if_pos h, if_neg (by rw [hh]; decide), if_pos hl]
theorem addE_room {L : List OP} {o : OP} (h : mayV o.1 o.2.1 o.2.2 = 0) (hh : hitL L o.1 = false) (hl : ¬ 16 ≤ L.length) : addE L o = 0 := by unfold addE; rw [if_pos h, if_neg (by rw [hh]; decide), if_neg hl]
theorem addL_hit {L : List OP} {o : OP} {k : Nat} (hk : posL L o.1 = k) (hh : hitL L o.1 = true) : addL L o = L.take k ++ [o] ++ L.drop (k + 1) := by unfold addL; rw [hk, if_pos hh]
theorem addL_new {L : List OP} {o : OP} {k : Nat} (hk : posL L o.1 = k) (hh : hitL L o.1 = false) : addL L o = L.take k ++ [o] ++ L.drop k := by unfold addL; rw [hk, if_neg (by rw [hh]; decide)]; rfl
theorem posL_step {L : List OP} {p : Nm} {k : Nat} (hk : k ≤ posL L p) (h : k < L.length) (hb : Op.bytesLess (opA L k).1 p = true) : k + 1 ≤ posL L p := by
  apply Decidable.byContradiction
  intro h1
  rw [opA_eq h] at hb
  exact posL_at L k h (by omega) ((less_iff _ _).1 hb)
theorem posL_stop {L : List OP} {p : Nm} {k : Nat} (hk : k ≤ posL L p) (h : k < L.length) (hb : Op.bytesLess (opA L k).1 p = false) : posL L p = k := by
  apply Decidable.byContradiction
  intro h1
  rw [opA_eq h] at hb
  exact (less_no _ _).1 hb (posL_lt L k h (by omega))

set_option maxRecDepth 100000 in
set_option maxHeartbeats 16000000 in
theorem add_any (a : Option Addr) (n c : Nat) (L : List OP) (z : List Int) (o : OP) (w : World) (ht : Tab w) (h : OpS w a n c L) (hz : z.length = 10) (hn : n ≤ 1000000) (hp : o.1.length ≤ 1000000) :
    Calls Tryz.prog 7 #[.agg (ev a n c z), .agg #[.string (mk o.1), .int .i64 o.2.1, .int .i64 o.2.2]] w fun e w' => ∃ a' n' c', e = .returned (.tuple #[.agg (ev a' n' c' (addZ L z o)), .int .i64 (addE L o)]) ∧ OwnO w.heap.size w' a' n' c' (addR L o) ∧ Below w.heap.size w w' := by
  obtain ⟨B, hB⟩ : ∃ B, B = w.heap.size := ⟨_, rfl⟩
  obtain ⟨w1, hw1⟩ : ∃ w1, w1 = w.alloc (.cells (ev a n c z) 26) := ⟨_, rfl⟩
  obtain ⟨p, g, s⟩ := o
  dsimp only at hp ⊢
  obtain ⟨w2, hw2⟩ : ∃ w2, w2 = w1.alloc (.cells #[.string (mk p), .int .i64 g, .int .i64 s] 28) := ⟨_, rfl⟩
  obtain ⟨w3, hw3⟩ : ∃ w3, w3 = w2.alloc (.cells #[.slice none 0 0, .int .i64 0, .int .i64 0, .int .i64 0, .int .i64 0, .int .i64 0, .int .i64 0, .int .i64 0, .int .i64 0, .int .i64 0, .int .i64 0] 26) := ⟨_, rfl⟩
  have s1 : w1.heap.size = B + 1 := by rw [hw1, hB]; simp
  have s2 : w2.heap.size = B + 1 + 1 := by rw [hw2]; simp [s1]
  have HE3 : Hid (EB w3 B a n c z) := Lib.hid (by rw [hw3, hw2, hw1, hB]; exact ((EB.new w a n c z).alloc _).alloc _)
  have HD3 : Hid (D3 w3 (B + 1) (p, g, s)) := Lib.hid (by rw [hw3, ← s1, hw2]; exact (D3.new w1 (p, g, s)).below (below_alloc _ _))
  have HR3 : Hid (EB w3 (B + 1 + 1) none 0 0 z0) := Lib.hid (by rw [hw3, ← s2, ← ev_zero]; exact EB.new w2 none 0 0 z0)
  have HB3 : Hid (Below B w w3) := Lib.hid (by rw [hw3, hw2, hw1, hB]; exact (((Below.refl _ _).alloc (Nat.le_refl _) _).alloc (by simp) _).alloc (by simp; omega) _)
  have HT3 : Hid (Tab w3) := Lib.hid (ht.keep (hB ▸ HB3.out))
  have HS3 : Hid (w3.heap.size = B + 1 + 1 + 1) := Lib.hid (by rw [hw3]; simp [s2])
  have HO3 : Hid (OpS w3 a n c L) := Lib.hid (h.below (hB ▸ HB3.out))
  have hlc := h.lc
  have hcm := h.cm
  unfold maxLen at hcm
  have HL := Lib.hid (OpS.len h)
  have HZ := Lib.hid hz
  have HP := Lib.hid hp
  have HBB := Lib.hid hB
  obtain ⟨d0, d1, d2⟩ := HD3.out.cells
  dsimp only at d0 d1 d2
  clear ht h hz hp s1 s2
  go_enter Tryz.func7, Tryz.ntmps7
  go_wp2_with fail
  rw [← hw1, ← hw2, ← hw3, ← hB]
  clear hw1 hw2 hw3 hB
  refine (omay_any p g s w3 HT3.out HP.out).mono ?_
  rintro e w4 ⟨rfl, hb4⟩
  have HE4 := Lib.hid (HE3.out.below hb4)
  have HD4 := Lib.hid (HD3.out.below hb4)
  have HR4 := Lib.hid (HR3.out.below hb4)
  have HO4 := Lib.hid (HO3.out.below hb4)
  have HT4 := Lib.hid (HT3.out.keep hb4)
  have HB4 : Hid (Below B w w4) := Lib.hid (HB3.out.trans (hb4.mono (by have := HS3.out; omega)))
  have HS4 : Hid (B + 1 + 1 < w4.heap.size) := Lib.hid HR4.out.lt
  clear hb4 d0 d1 d2
  obtain ⟨m, hm⟩ : ∃ m, m = mayV p g s := ⟨_, rfl⟩
  rw [← hm]
  by_cases hm0 : m = 0
  case neg =>
    have hbu : ∀ w, (Instr.build 26 #[]).run Tryz.prog w = .ok (.agg (ev none 0 0 z0)) w := fun w => built_none w
    have HBAD : Hid (addE L (p, g, s) = m ∧ addE L (p, g, s) ≠ 0) := Lib.hid (by rw [hm]; exact addE_bad (by rw [← hm]; exact hm0))
    clear hm
    go_wp2_with (refine store_env rfl (.tmp 4) (.tmp 13) rfl (B + 1 + 1) rfl none 0 0 z0 rfl rfl none 0 0 z0 z0_len HR4.out ?_; intro w5 he5 ho5; have HE5 := Lib.hid he5; have HO5 := Lib.hid ho5; clear he5 ho5)
    refine bodyPost_ret (ret_envp rfl _ _ (B + 1 + 1) none 0 0 z0 z0_len rfl HE5.out) rfl ⟨none, 0, 0, ?_, ?_, ?_⟩
    · unfold addZ; rw [if_neg HBAD.out.2, HBAD.out.1]; rfl
    · unfold addR; rw [if_neg HBAD.out.2]; exact OwnV.none0
    · rw [← HBB.out]; exact HB4.out.trans (HO5.out.below (by omega))
  subst hm0
  have HM0 : Hid (mayV p g s = 0) := Lib.hid hm.symm
  clear hm
  go_wp2
  go_loopw [7] (fun v wr => ∃ k : Nat, v = .int .i64 k ∧ k ≤ n ∧ Hid (k ≤ posL L p) ∧ Hid (Below w4.heap.size w4 wr)) (fun v _ => n - (intOf v).toNat)
  case atStart => exact ⟨0, rfl, Nat.zero_le _, Lib.hid (Nat.zero_le _), Lib.hid (Below.refl _ _)⟩
  case round =>
    obtain ⟨k, rfl, hk, HK, HB⟩ := hrel
    have d0 := (HD4.out.below HB.out).cells.1
    dsimp only at d0
    by_cases hlt : k < n
    · have hgd : decide ((k : Int) < (n : Int)) = true := by simpa using hlt
      have hs := HO4.out.below HB.out
      obtain ⟨b, off, rfl, _, hc⟩ := hs.at_ (by omega)
      clear hc
      have c0 := (OpS.at3 hs hlt).1
      clear hs
      obtain ⟨q, hq⟩ : ∃ q, q = (opA L k).1 := ⟨_, rfl⟩
      rw [← hq] at c0
      have HQ := Lib.hid hq
      clear hq
      have hp1 := mk_toList q
      have hp2 := mk_toList p
      cases hb : Op.bytesLess q p with
      | true =>
        have HK1 : Hid (k + 1 ≤ posL L p) := Lib.hid (posL_step HK.out (by rw [HL.out]; exact hlt) (by rw [← HQ.out]; exact hb))
        have e0 := (HE4.out.below HB.out).c0
        go_wp2_with fail
        go_region
        go_wp2
        go_roundw
        case rel => exact ⟨k + 1, by go_num, by omega, HK1, Lib.hid HB.out.drew⟩
        case measure => simp [intOf]; omega
      | false =>
        have HPO : Hid (posL L p = k) := Lib.hid (posL_stop HK.out (by rw [HL.out]; exact hlt) (by rw [← HQ.out]; exact hb))
        have HER := Lib.hid ((HE4.out.below HB.out).drew)
        have HDR := Lib.hid ((HD4.out.below HB.out).below (Below.refl _ _).drew)
        have HRR := Lib.hid ((HR4.out.below HB.out).drew)
        have HBR : Hid (Below w4.heap.size w4 wr.drew) := Lib.hid HB.out.drew
        have HOR := Lib.hid (HO4.out.below HBR.out)
        obtain ⟨w5, hw5⟩ : ∃ w5, w5 = wr.drew := ⟨_, rfl⟩
        rw [← hw5] at HER HDR HRR HBR HOR
        have e0 := HER.out.c0
        have r0 := (HE4.out.below HB.out).c0
        go_wp2_with fail
        go_region
        rw [← hw5]
        clear hw5
        go_wp2_with fail
        refine (clone_ops (some ⟨b, off, none⟩) n c L w5 HOR.out hn).mono ?_
        rintro e w6 ⟨a6, c6, rfl, ho6, hb6⟩
        have HE6 := Lib.hid (HER.out.below hb6)
        have HD6 := Lib.hid (HDR.out.below hb6)
        have HR6 := Lib.hid (HRR.out.below hb6)
        have HG6 : Hid (B + 1 + 1 < w5.heap.size) := Lib.hid HRR.out.lt
        have HB6 : Hid (Below B w w6) := Lib.hid ((HB4.out.trans (HBR.out.mono (by have := HS4.out; omega))).trans (hb6.mono (by have := HG6.out; omega)))
        have HO6 := Lib.hid ho6
        have HG5 : Hid (w5.heap.size ≤ w6.heap.size) := Lib.hid hb6.size
        have hl6 := ho6.bounds.2.1
        have hm6 := ho6.bounds.2.2
        unfold maxLen at hm6
        clear ho6 hb6 e0 r0 d0
        clear c0 hb
        obtain ⟨g6, cur, rfl, hbg, hglt, hg6, hcs, ht6⟩ := HO6.out.form (HO6.out.some (by omega))
        clear hbg hglt hg6 hcs ht6
        have c6c := (OpS.at3 HO6.out.vs hlt).1
        rw [Nat.zero_add, ← HQ.out] at c6c
        cases he : (q == p) with
        | true =>
          have HIT : Hid (hitL L p = true) := Lib.hid (by rw [hitL_at HPO.out (by rw [HL.out]; exact hlt), ← opA_eq, ← HQ.out]; exact he)
          have HE7 := Lib.hid HE6.out.drew
          have HD7 : Hid (D3 w6.drew (B + 1) (p, g, s)) := Lib.hid (HD6.out.below (Below.refl _ _).drew)
          have HR7 := Lib.hid HR6.out.drew
          have HO7 := Lib.hid HO6.out.drew
          have HB7 : Hid (Below B w w6.drew) := Lib.hid HB6.out.drew
          have HG7 : Hid (w5.heap.size ≤ w6.drew.heap.size) := Lib.hid HG5.out
          obtain ⟨w7, hw7⟩ : ∃ w7, w7 = w6.drew := ⟨_, rfl⟩
          rw [← hw7] at HE7 HD7 HR7 HO7 HB7 HG7
          obtain ⟨d0, d1, d2⟩ := HD6.out.cells
          dsimp only at d0 d1 d2
          go_wp2_with fail
          go_region
          rw [← hw7]
          clear hw7 d0 d1 d2
          obtain ⟨d0, d1, d2⟩ := HD7.out.cells
          dsimp only at d0 d1 d2
          clear he c6c
          obtain ⟨g7, cur, hga, hbg, hglt, hg7, hcs, ht7⟩ := HO7.out.form (by simp)
          simp only [Option.some.injEq, Addr.mk.injEq, and_true] at hga
          subst hga
          obtain ⟨Z, hZ⟩ : ∃ Z, Z = cur.toList := ⟨_, rfl⟩
          have HZ7 : Hid (w7.heap[g6]? = some (.cells Z.toArray 28 (0, 0))) := Lib.hid (by rw [hZ]; simpa using hg7)
          have HZL : Hid (Z.length = c6 * 3 ∧ Z.take (n * 3) = cO L ∧ w5.heap.size ≤ g6) := Lib.hid ⟨by rw [hZ]; simpa using hcs, by rw [hZ]; exact ht7, hbg⟩
          clear hbg hglt hg7 hcs ht7 hZ
          have HADD : Hid (addE L (p, g, s) = 0 ∧ addL L (p, g, s) = L.take k ++ [(p, g, s)] ++ L.drop (k + 1)) := Lib.hid ⟨addE_hit HM0.out HIT.out, addL_hit HPO.out HIT.out⟩
          have hk3 : k * 3 + 3 ≤ c6 * 3 := by omega
          go_wp2_with (first
            | (refine store_env rfl (.tmp 4) (.tmp 68) rfl (B + 1 + 1) rfl (some ⟨g6, 0, none⟩) n c6 z rfl HZ.out none 0 0 z0 z0_len HR8.out ?_; intro wY hey hoy; have HEY := Lib.hid hey; have HOY := Lib.hid hoy; clear hey hoy)
            | (refine load_er rfl (.tmp 66) rfl B rfl _ n c z HZ.out HE8.out ?_)
            | (refine build_env rfl (.tmp 65) (.tmp 67) rfl _ _ _ z HZ.out rfl rfl ?_)
            | (refine wpList_store_at rfl 28 28 (.tmp 59) (.tmp 58) rfl g6 (k * 3) Z (cO [(p, g, s)]) rfl rfl op_size3 HZ7.out (by rw [HZL.out.1]; exact hk3) (cO_one _) ?_; intro w8 hg8 ho8; have HG8 := Lib.hid hg8; have HQ8 := Lib.hid ho8; have HE8 : Hid (EB w8 B (some ⟨b, off, none⟩) n c z) := Lib.hid (HE7.out.only HQ8.out (by have := HZL.out.2.2; have := HG6.out; omega)); have HR8 : Hid (EB w8 (B + 1 + 1) none 0 0 z0) := Lib.hid (HR7.out.only HQ8.out (by have := HZL.out.2.2; have := HG6.out; omega)); clear hg8 ho8))
          refine bodyPost_ret (ret_envp rfl _ _ (B + 1 + 1) (some ⟨g6, 0, none⟩) n c6 z HZ.out rfl HEY.out) rfl ⟨some ⟨g6, 0, none⟩, n, c6, ?_, ?_, ?_⟩
          · unfold addZ; rw [if_pos HADD.out.1, HADD.out.1]; rfl
          · unfold addR; rw [if_pos HADD.out.1, HADD.out.2]
            have hls : (cO (L.drop (k + 1))).length = (n - (k + 1)) * 3 := by rw [cO_len, List.length_drop, HL.out]
            have ho : OwnO w5.heap.size w8 (some ⟨g6, 0, none⟩) n c6 (L.take k ++ [(p, g, s)] ++ L.drop (k + 1)) := by
              refine own_of HG8.out HZL.out.2.2 ?_ hl6 (by unfold maxLen; omega) ?_
              · rw [length_splice _ _ _ (by rw [HZL.out.1]; exact hk3)]; exact HZL.out.1
              · have := splice_mid Z (cO (L.take k)) (cO [opA L k]) (cO [(p, g, s)]) (cO (L.drop (k + 1))) (k * 3) 3 (by rw [cO_len, List.length_take, HL.out]; omega) rfl rfl (by
                  rw [hls, show k * 3 + 3 + (n - (k + 1)) * 3 = n * 3 by omega, HZL.out.2.1, ← cO_app, ← cO_app, List.append_assoc, List.singleton_append, ← opA_drop (by rw [HL.out]; exact hlt), List.take_append_drop])
                rw [hls, show k * 3 + 3 + (n - (k + 1)) * 3 = n * 3 by omega] at this
                rw [this, cO_app, cO_app]
            exact (ownO_only ho HOY.out HG6.out).weak (by have := HG6.out; have := HBB.out; omega)
          · rw [← HBB.out]; exact HB7.out.trans ((HQ8.out.below (by have := HZL.out.2.2; have := HG6.out; omega)).trans (HOY.out.below (by omega)))
        | false =>
          have HNO : Hid (hitL L p = false) := Lib.hid (by rw [hitL_at HPO.out (by rw [HL.out]; exact hlt), ← opA_eq, ← HQ.out]; exact he)
          have HE7 := Lib.hid HE6.out.drew
          have HD7 : Hid (D3 w6.drew (B + 1) (p, g, s)) := Lib.hid (HD6.out.below (Below.refl _ _).drew)
          have HR7 := Lib.hid HR6.out.drew
          have HO7 := Lib.hid HO6.out.drew
          have HB7 : Hid (Below B w w6.drew) := Lib.hid HB6.out.drew
          have HG7 : Hid (w5.heap.size ≤ w6.drew.heap.size) := Lib.hid HG5.out
          obtain ⟨w7, hw7⟩ : ∃ w7, w7 = w6.drew := ⟨_, rfl⟩
          rw [← hw7] at HE7 HD7 HR7 HO7 HB7 HG7
          obtain ⟨d0, d1, d2⟩ := HD6.out.cells
          dsimp only at d0 d1 d2
          go_wp2_with fail
          go_region
          rw [← hw7]
          clear hw7 d0 d1 d2
          obtain ⟨d0, d1, d2⟩ := HD7.out.cells
          dsimp only at d0 d1 d2
          clear he c6c
          by_cases hf : 16 ≤ n
          · have hfd : decide ((16 : Int) ≤ (n : Int)) = true := by simp; omega
            have hbu : ∀ w, (Instr.build 26 #[]).run Tryz.prog w = .ok (.agg (ev none 0 0 z0)) w := fun w => built_none w
            have HF5 : Hid (addE L (p, g, s) = 5) := Lib.hid (addE_full HM0.out HNO.out (by rw [HL.out]; exact hf))
            go_wp2_with (refine store_env rfl (.tmp 4) (.tmp 64) rfl (B + 1 + 1) rfl none 0 0 z0 rfl rfl none 0 0 z0 z0_len HR7.out ?_; intro wY hey hoy; have HEY := Lib.hid hey; have HOY := Lib.hid hoy; clear hey hoy)
            refine bodyPost_ret (ret_envp rfl _ _ (B + 1 + 1) none 0 0 z0 z0_len rfl HEY.out) rfl ⟨none, 0, 0, ?_, ?_, ?_⟩
            · unfold addZ; rw [if_neg (by rw [HF5.out]; decide), HF5.out]; rfl
            · unfold addR; rw [if_neg (by rw [HF5.out]; decide)]; exact OwnV.none0
            · rw [← HBB.out]; exact HB7.out.trans (HOY.out.below (by omega))
          · have hfd : decide ((16 : Int) ≤ (n : Int)) = false := by simp; omega
            have HADD : Hid (addE L (p, g, s) = 0 ∧ addL L (p, g, s) = L.take k ++ [(p, g, s)] ++ L.drop k) := Lib.hid ⟨addE_room HM0.out HNO.out (by rw [HL.out]; exact hf), addL_new HPO.out HNO.out⟩
            obtain ⟨w8, hw8⟩ : ∃ w8, w8 = w7.alloc (.cells #[.string (mk p), .int .i64 g, .int .i64 s] 28) := ⟨_, rfl⟩
            obtain ⟨vb, hvb⟩ : ∃ vb, vb = w7.heap.size := ⟨_, rfl⟩
            have HV8 : Hid (D3 w8 vb (p, g, s)) := Lib.hid (by rw [hw8, hvb]; exact D3.new w7 (p, g, s))
            have HE8 : Hid (EB w8 B (some ⟨b, off, none⟩) n c z) := Lib.hid (by rw [hw8]; exact HE7.out.alloc _)
            have HR8 : Hid (EB w8 (B + 1 + 1) none 0 0 z0) := Lib.hid (by rw [hw8]; exact HR7.out.alloc _)
            have HO8 : Hid (OwnO w5.heap.size w8 (some ⟨g6, 0, none⟩) n c6 L) := Lib.hid (by rw [hw8]; exact HO7.out.alloc _)
            have HNE : Hid (∀ g, ((some ⟨g6, 0, none⟩) : Option Addr) = some ⟨g, 0, none⟩ → vb ≠ g) := Lib.hid (fun g hg e => by
              subst e
              obtain ⟨g7, cur, hga, _, hglt, _⟩ := HO7.out.form (by rw [hg]; simp)
              rw [hg] at hga
              simp only [Option.some.injEq, Addr.mk.injEq] at hga
              omega)
            have HS8 : Hid (w5.heap.size ≤ w8.heap.size) := Lib.hid (by rw [hw8]; have := HG7.out; simp; omega)
            have HB8 : Hid (Below B w w8) := Lib.hid (by rw [hw8]; exact HB7.out.alloc (by have := HG7.out; have := HG6.out; omega) _)
            go_wp2_with fail
            rw [← hw8, ← hvb]
            clear hw8 hvb
            refine (insert_ops w5.heap.size (some ⟨g6, 0, none⟩) n c6 L k (p, g, s) vb w8 HO8.out hk hn HV8.out HNE.out HS8.out).mono ?_
            rintro e w9 ⟨a9, c9, rfl, ho9, hb9⟩
            have HE9 := Lib.hid (HE8.out.keep hb9 (by have := HG6.out; omega))
            have HR9 := Lib.hid (HR8.out.keep hb9 HG6.out)
            have HO9 := Lib.hid ho9
            have HB9 := Lib.hid (HB8.out.trans (hb9.mono (by have := HG6.out; omega)))
            clear ho9 hb9 d0 d1 d2
            go_wp2_with (first
              | (refine load_er rfl (.tmp 66) rfl B rfl _ n c z HZ.out HE9.out ?_)
              | (refine build_env rfl (.tmp 65) (.tmp 67) rfl _ _ _ z HZ.out rfl rfl ?_)
              | (refine store_env rfl (.tmp 4) (.tmp 68) rfl (B + 1 + 1) rfl a9 (n + 1) c9 z rfl HZ.out none 0 0 z0 z0_len HR9.out ?_; intro wY hey hoy; have HEY := Lib.hid hey; have HOY := Lib.hid hoy; clear hey hoy))
            refine bodyPost_ret (ret_envp rfl _ _ (B + 1 + 1) a9 (n + 1) c9 z HZ.out rfl HEY.out) rfl ⟨a9, n + 1, c9, ?_, ?_, ?_⟩
            · unfold addZ; rw [if_pos HADD.out.1, HADD.out.1]; rfl
            · unfold addR; rw [if_pos HADD.out.1, HADD.out.2]
              exact (ownO_only HO9.out HOY.out HG6.out).weak (by have := HG6.out; have := HBB.out; omega)
            · rw [← HBB.out]; exact HB9.out.trans (HOY.out.below (by omega))
    · have hgd : decide ((k : Int) < (n : Int)) = false := by simpa using hlt
      have HPO : Hid (posL L p = k) := Lib.hid (by have := posL_le L p; have := HK.out; have := HL.out; omega)
      have HER := Lib.hid ((HE4.out.below HB.out).drew)
      have HDR := Lib.hid ((HD4.out.below HB.out).below (Below.refl _ _).drew)
      have HRR := Lib.hid ((HR4.out.below HB.out).drew)
      have HBR : Hid (Below w4.heap.size w4 wr.drew) := Lib.hid HB.out.drew
      have HOR := Lib.hid (HO4.out.below HBR.out)
      obtain ⟨w5, hw5⟩ : ∃ w5, w5 = wr.drew := ⟨_, rfl⟩
      rw [← hw5] at HER HDR HRR HBR HOR
      have e0 := HER.out.c0
      have r0 := (HE4.out.below HB.out).c0
      go_wp2_with fail
      go_region
      rw [← hw5]
      clear hw5
      go_wp2_with fail
      refine (clone_ops a n c L w5 HOR.out hn).mono ?_
      rintro e w6 ⟨a6, c6, rfl, ho6, hb6⟩
      have HE6 := Lib.hid (HER.out.below hb6)
      have HD6 := Lib.hid (HDR.out.below hb6)
      have HR6 := Lib.hid (HRR.out.below hb6)
      have HG6 : Hid (B + 1 + 1 < w5.heap.size) := Lib.hid HRR.out.lt
      have HB6 : Hid (Below B w w6) := Lib.hid ((HB4.out.trans (HBR.out.mono (by have := HS4.out; omega))).trans (hb6.mono (by have := HG6.out; omega)))
      have HO6 := Lib.hid ho6
      have HG5 : Hid (w5.heap.size ≤ w6.heap.size) := Lib.hid hb6.size
      have hl6 := ho6.bounds.2.1
      have hm6 := ho6.bounds.2.2
      unfold maxLen at hm6
      clear ho6 hb6 e0 r0 d0
      have HNO : Hid (hitL L p = false) := Lib.hid (hitL_end (by rw [HPO.out, HL.out]; omega))
      have HE7 := Lib.hid HE6.out.drew
      have HD7 : Hid (D3 w6.drew (B + 1) (p, g, s)) := Lib.hid (HD6.out.below (Below.refl _ _).drew)
      have HR7 := Lib.hid HR6.out.drew
      have HO7 := Lib.hid HO6.out.drew
      have HB7 : Hid (Below B w w6.drew) := Lib.hid HB6.out.drew
      have HG7 : Hid (w5.heap.size ≤ w6.drew.heap.size) := Lib.hid HG5.out
      obtain ⟨w7, hw7⟩ : ∃ w7, w7 = w6.drew := ⟨_, rfl⟩
      rw [← hw7] at HE7 HD7 HR7 HO7 HB7 HG7
      obtain ⟨d0, d1, d2⟩ := HD6.out.cells
      dsimp only at d0 d1 d2
      go_wp2_with fail
      go_region
      rw [← hw7]
      clear hw7 d0 d1 d2
      obtain ⟨d0, d1, d2⟩ := HD7.out.cells
      dsimp only at d0 d1 d2
      by_cases hf : 16 ≤ n
      · have hfd : decide ((16 : Int) ≤ (n : Int)) = true := by simp; omega
        have hbu : ∀ w, (Instr.build 26 #[]).run Tryz.prog w = .ok (.agg (ev none 0 0 z0)) w := fun w => built_none w
        have HF5 : Hid (addE L (p, g, s) = 5) := Lib.hid (addE_full HM0.out HNO.out (by rw [HL.out]; exact hf))
        go_wp2_with (refine store_env rfl (.tmp 4) (.tmp 64) rfl (B + 1 + 1) rfl none 0 0 z0 rfl rfl none 0 0 z0 z0_len HR7.out ?_; intro wY hey hoy; have HEY := Lib.hid hey; have HOY := Lib.hid hoy; clear hey hoy)
        refine bodyPost_ret (ret_envp rfl _ _ (B + 1 + 1) none 0 0 z0 z0_len rfl HEY.out) rfl ⟨none, 0, 0, ?_, ?_, ?_⟩
        · unfold addZ; rw [if_neg (by rw [HF5.out]; decide), HF5.out]; rfl
        · unfold addR; rw [if_neg (by rw [HF5.out]; decide)]; exact OwnV.none0
        · rw [← HBB.out]; exact HB7.out.trans (HOY.out.below (by omega))
      · have hfd : decide ((16 : Int) ≤ (n : Int)) = false := by simp; omega
        have HADD : Hid (addE L (p, g, s) = 0 ∧ addL L (p, g, s) = L.take k ++ [(p, g, s)] ++ L.drop k) := Lib.hid ⟨addE_room HM0.out HNO.out (by rw [HL.out]; exact hf), addL_new HPO.out HNO.out⟩
        obtain ⟨w8, hw8⟩ : ∃ w8, w8 = w7.alloc (.cells #[.string (mk p), .int .i64 g, .int .i64 s] 28) := ⟨_, rfl⟩
        obtain ⟨vb, hvb⟩ : ∃ vb, vb = w7.heap.size := ⟨_, rfl⟩
        have HV8 : Hid (D3 w8 vb (p, g, s)) := Lib.hid (by rw [hw8, hvb]; exact D3.new w7 (p, g, s))
        have HE8 : Hid (EB w8 B a n c z) := Lib.hid (by rw [hw8]; exact HE7.out.alloc _)
        have HR8 : Hid (EB w8 (B + 1 + 1) none 0 0 z0) := Lib.hid (by rw [hw8]; exact HR7.out.alloc _)
        have HO8 : Hid (OwnO w5.heap.size w8 a6 n c6 L) := Lib.hid (by rw [hw8]; exact HO7.out.alloc _)
        have HNE : Hid (∀ g, (a6 : Option Addr) = some ⟨g, 0, none⟩ → vb ≠ g) := Lib.hid (fun g hg e => by
          subst e
          obtain ⟨g7, cur, hga, _, hglt, _⟩ := HO7.out.form (by rw [hg]; simp)
          rw [hg] at hga
          simp only [Option.some.injEq, Addr.mk.injEq] at hga
          omega)
        have HS8 : Hid (w5.heap.size ≤ w8.heap.size) := Lib.hid (by rw [hw8]; have := HG7.out; simp; omega)
        have HB8 : Hid (Below B w w8) := Lib.hid (by rw [hw8]; exact HB7.out.alloc (by have := HG7.out; have := HG6.out; omega) _)
        go_wp2_with fail
        rw [← hw8, ← hvb]
        clear hw8 hvb
        refine (insert_ops w5.heap.size a6 n c6 L k (p, g, s) vb w8 HO8.out hk hn HV8.out HNE.out HS8.out).mono ?_
        rintro e w9 ⟨a9, c9, rfl, ho9, hb9⟩
        have HE9 := Lib.hid (HE8.out.keep hb9 (by have := HG6.out; omega))
        have HR9 := Lib.hid (HR8.out.keep hb9 HG6.out)
        have HO9 := Lib.hid ho9
        have HB9 := Lib.hid (HB8.out.trans (hb9.mono (by have := HG6.out; omega)))
        clear ho9 hb9 d0 d1 d2
        go_wp2_with (first
          | (refine load_er rfl (.tmp 66) rfl B rfl _ n c z HZ.out HE9.out ?_)
          | (refine build_env rfl (.tmp 65) (.tmp 67) rfl _ _ _ z HZ.out rfl rfl ?_)
          | (refine store_env rfl (.tmp 4) (.tmp 68) rfl (B + 1 + 1) rfl a9 (n + 1) c9 z rfl HZ.out none 0 0 z0 z0_len HR9.out ?_; intro wY hey hoy; have HEY := Lib.hid hey; have HOY := Lib.hid hoy; clear hey hoy))
        refine bodyPost_ret (ret_envp rfl _ _ (B + 1 + 1) a9 (n + 1) c9 z HZ.out rfl HEY.out) rfl ⟨a9, n + 1, c9, ?_, ?_, ?_⟩
        · unfold addZ; rw [if_pos HADD.out.1, HADD.out.1]; rfl
        · unfold addR; rw [if_pos HADD.out.1, HADD.out.2]
          exact (ownO_only HO9.out HOY.out HG6.out).weak (by have := HG6.out; have := HBB.out; omega)
        · rw [← HBB.out]; exact HB9.out.trans (HOY.out.below (by omega))

end Go.Proofs.YtjkjbgekpkhpfaaGreatDoor
