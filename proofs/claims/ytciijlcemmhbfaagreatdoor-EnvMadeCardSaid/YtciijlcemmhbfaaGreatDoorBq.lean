/- EnvMade (laid by genBq.py). -/
import Derived.Test.YtciijlcemmhbfaaGreatDoorBh
import Derived.Test.YtciijlcemmhbfaaGreatDoorAy
import Derived.Deep.DeepCutAuto
namespace Go.Proofs.YtciijlcemmhbfaaGreatDoor
open Go.RowKit

theorem srt_at {L : List OP} (h : Srt L) {k : Nat} (h0 : 0 < k) (hk : k < L.length) : (opA L (k - 1)).1 < (opA L k).1 := by
  rw [opA_eq (by omega), opA_eq hk]
  exact (List.pairwise_iff_getElem.1 h) (k - 1) k (by omega) hk (by omega)
/-- What has the part is told of. -/
theorem entL_has {L : List OP} {z : List Int} {k j : Nat} (hk : k < L.length) (hj : j < (prt (opA L k).1).length) : ((entL L z (pt (prt (opA L k).1) j)).any fun e => decide (e.1 = opA L k)) = true := by
  refine List.any_eq_true.2 ⟨(opA L k, rowV z (opA L k).2.1), ?_, by simp⟩
  unfold entL
  refine List.mem_map.2 ⟨opA L k, List.mem_filter.2 ⟨opA_mem hk, ?_⟩, rfl⟩
  unfold hasP
  exact List.contains_iff_mem.2 (pt_mem hj)
theorem any_en {E : List EN} {n : Nat} (h : n < E.length) (o : OP) : ((E.take (n + 1)).any fun e => decide (e.1 = o)) = (((E.take n).any fun e => decide (e.1 = o)) || decide ((enA E n).1 = o)) := by
  rw [List.take_add_one, enA_eq h, List.any_append]
  simp [h]

set_option maxRecDepth 100000 in
set_option maxHeartbeats 32000000 in
theorem envMade_any (aC : Option Addr) (len cap : Nat) (C : List CH) (w : World) (ht : Tab w) (h : ChS w aC len cap C) (hok : ∀ x ∈ C, okC x) :
    Calls Tryz.prog 4 #[.slice aC len cap] w fun e w' => e = .returned (.bool true) ∧ Below w.heap.size w w' := by
  obtain ⟨B, hB⟩ : ∃ B, B = w.heap.size := ⟨_, rfl⟩
  have hnew : ∀ W : World, EB (W.alloc (.cells #[.slice none 0 0, .int .i64 0, .int .i64 0, .int .i64 0, .int .i64 0, .int .i64 0, .int .i64 0, .int .i64 0, .int .i64 0, .int .i64 0, .int .i64 0] 26)) W.heap.size none 0 0 z0 := fun W => EB.new W none 0 0 z0
  have HT := Lib.hid ht
  have HH : Hid (ChS w aC len cap C) := Lib.hid h
  have HL := Lib.hid (ChS.len h)
  have HOK := Lib.hid hok
  have HBB := Lib.hid hB
  have hlc := h.lc
  have hcm := h.cm
  unfold maxLen at hcm
  clear ht h hok hB
  go_enter Tryz.func4, Tryz.ntmps4
  go_wp2_with fail
  refine (shown_any w HT.out).mono ?_
  rintro e w1 ⟨rfl, hb1⟩
  have HB1 : Hid (Below B w w1) := Lib.hid (by rw [HBB.out]; exact hb1)
  clear hb1
  go_wp2_with fail
  refine (new_any w1).mono ?_
  rintro e w2 ⟨rfl, hb2⟩
  have HB2 : Hid (Below B w w2) := Lib.hid (HB1.out.trans (hb2.mono (by have := HB1.out.size; have := HBB.out; omega)))
  clear hb2
  go_wp2_with (refine store_env rfl (.tmp 4) (.tmp 14) rfl _ rfl none 0 0 zS rfl rfl none 0 0 z0 z0_len (hnew w2) ?_; intro w3 he3 hq3)
  obtain ⟨E, hE⟩ : ∃ E, E = w2.heap.size := ⟨_, rfl⟩
  rw [← hE] at he3 hq3 ⊢
  have HBE : Hid (B ≤ E) := Lib.hid (by rw [hE]; have := HB2.out.size; have := HBB.out; omega)
  have HE3 := Lib.hid he3
  have HB3 : Hid (Below B w w3) := Lib.hid ((HB2.out.alloc (by rw [← hE]; exact HBE.out) _).trans (hq3.below HBE.out))
  clear he3 hq3 hE hnew
  go_loopw [5] (fun v wr => ∃ i : Nat, v = .int .i64 i ∧ i ≤ len ∧ i ≤ 40 ∧ ∃ a1 n1 c1, Hid (EB wr E a1 n1 c1 (mkE (C.take i)).2) ∧ Hid (OwnO B wr a1 n1 c1 (mkE (C.take i)).1) ∧ Hid (Below B w wr)) (fun v _ => len - (intOf v).toNat)
  case atStart => exact ⟨0, rfl, Nat.zero_le _, Nat.zero_le _, none, 0, 0, HE3, Lib.hid OwnV.none0, HB3⟩
  case round =>
    clear HE3 HB3
    obtain ⟨i, rfl, hi, hi40, a1, n1, c1, HE, HO, HB⟩ := hrel
    by_cases hgo : i < len ∧ i < 40
    · obtain ⟨L1, z1, hs1⟩ : ∃ L1 z1, mkE (C.take i) = (L1, z1) := ⟨_, _, rfl⟩
      have HS1 := Lib.hid hs1
      have HOKE := Lib.hid (mkE_ok (C.take i))
      rw [hs1] at HE HO HOKE
      dsimp only at HE HO HOKE
      clear hs1
      have HZ1 : Hid (z1.length = 10) := Lib.hid HOKE.out.2.2.2.1
      have HN1 : Hid (L1.length = n1) := Lib.hid (OpS.len HO.out.vs)
      obtain ⟨hlt, hlt40⟩ := hgo
      have hg1 : decide ((i : Int) < (len : Int)) = true := by simpa using hlt
      have hg2 : decide ((i : Int) < 40) = true := by simp; omega
      have hs := Vs.below HH.out (HBB.out ▸ HB.out)
      obtain ⟨b, off, rfl, _, hc⟩ := hs.at_ (by omega)
      clear hc
      have HSN := Lib.hid (mkE_snoc (C.take i) (chA C i))
      rw [← chA_take (by rw [HL.out]; exact hlt), HS1.out] at HSN
      have HCX : Hid (okC (chA C i)) := Lib.hid (HOK.out _ (by rw [chA_eq (by rw [HL.out]; exact hlt)]; exact List.getElem_mem _))
      have hcs := ChS.at6 hs hlt
      obtain ⟨x, hx⟩ : ∃ x, x = chA C i := ⟨_, rfl⟩
      rw [← hx] at HSN HCX hcs
      obtain ⟨k, g, hh, p, gr, s⟩ := x
      dsimp only at HSN HCX hcs
      obtain ⟨y0, y1, y2, y3, y4, y5⟩ := hcs
      have HZ6 : Hid ((stq L1 z1 k g hh (fitO (p, gr, s))).2.length = 10) := Lib.hid (stq_ok HOKE.out k g hh (fitO_good (p, gr, s))).2.2.2.1
      have HTr : Hid (Tab wr) := Lib.hid (HT.out.keep (HBB.out ▸ HB.out))
      clear hs hx
      go_upto_region 6 with fail
      go_cut [] from 15 to 114 (fun wx => ∃ a n c, Hid (EB wx E a n c (mkE (C.take (i + 1))).2) ∧ Hid (OwnO B wx a n c (mkE (C.take (i + 1))).1) ∧ Hid (Below B w wx))
      case first =>
        -- the region (laid by genBq.py)
        refine wp_region_noPanic ?_
        refine wp_region_held_drew (S := fun _ => True) (by kernel_rfl) (trivial) (fun hHeld => ?_)
        refine wpAnyH_take (i := 1) (oi := { dst := some 26, op := Op.move (Operand.tmp 0), type := 46, pos := "law.go:64", after := #[], guard := none }) (v := ?_) rfl (by kernel_rfl) (by kernel_rfl) (by kernel_rfl) (fun _ _ _ h => h) (Or.inl ⟨by rfl, ?_⟩) (by assumption) ?_
        rotate_left
        · intro w' hSw
          try dsimp only at hSw
          go_simp
          try with_reducible rfl
        try simp only [Act.put, List.setIfInBounds_toArray, List.set_cons_zero, List.set_cons_succ]
        refine wpAnyH_take (i := 2) (oi := { dst := some 27, op := Op.move (Operand.tmp 5), type := 3, pos := "law.go:64", after := #[], guard := none }) (v := ?_) rfl (by kernel_rfl) (by kernel_rfl) (by kernel_rfl) (fun _ _ _ h => h) (Or.inl ⟨by rfl, ?_⟩) (by assumption) ?_
        rotate_left
        · intro w' hSw
          try dsimp only at hSw
          go_simp
          try with_reducible rfl
        try simp only [Act.put, List.setIfInBounds_toArray, List.set_cons_zero, List.set_cons_succ]
        refine wpAnyH_take (i := 3) (oi := { dst := some 28, op := Op.indexAddr 46 (Operand.tmp 26) (Operand.tmp 27), type := 0, pos := "law.go:64", after := #[{ on := 1, ground := Ground.data }, { on := 2, ground := Ground.data }], guard := none }) (v := ?_) rfl (by kernel_rfl) (by kernel_rfl) (by kernel_rfl) (fun _ _ _ h => h) (Or.inl ⟨by rfl, ?_⟩) (by assumption) ?_
        rotate_left
        · intro w' hSw
          try dsimp only at hSw
          go_simp
          try with_reducible rfl
        try simp only [Act.put, List.setIfInBounds_toArray, List.set_cons_zero, List.set_cons_succ]
        refine wpAnyH_ready (rs := [0, 4]) (by kernel_rfl) (by simp) ?_
        refine AllReadyH.cons (o := { dst := some 25, op := Op.load 26 (Operand.tmp 4), type := 26, pos := "law.go:64", after := #[], guard := none }) rfl (fun K hK => ?_) ?_
        · refine step_load_env rfl (.tmp 4) rfl E rfl a1 n1 c1 z1 HZ1.out HE.out.drew ?_
          refine hK.out _ _ (trivial) (fun hHeld => ?_)
          clear hK K
          try simp only [Act.put, List.setIfInBounds_toArray, List.set_cons_zero, List.set_cons_succ]
          refine wpAnyH_ready (rs := [4]) (by kernel_rfl) (by simp) ?_
          refine AllReadyH.cons (o := { dst := some 29, op := Op.load 49 (Operand.tmp 28), type := 49, pos := "law.go:64", after := #[{ on := 3, ground := Ground.data }], guard := none }) rfl (fun K hK => ?_) ?_
          · go_simp
            refine hK.out _ _ (trivial) (fun hHeld => ?_)
            clear hK K
            try simp only [Act.put, List.setIfInBounds_toArray, List.set_cons_zero, List.set_cons_succ]
            refine wpAnyH_ready (rs := [5]) (by kernel_rfl) (by simp) ?_
            refine AllReadyH.cons (o := { dst := some 30, op := Op.call { callee := Callee.value (Operand.func 24), args := #[Operand.tmp 25, Operand.tmp 29], argTypes := #[26, 49] }, type := 26, pos := "law.go:64", after := #[{ on := 0, ground := Ground.data }, { on := 4, ground := Ground.data }], guard := none }) rfl (fun K hK => ?_) ?_
            · go_simp
              (go_at_call 24; (refine (step_any B a1 n1 c1 L1 z1 k g hh (p, gr, s) _ (HTr.out.keep (Below.refl _ _).drew) HO.out.drew (by have := HE.out.lt; have := HBE.out; simp; omega) HZ1.out HOKE.out.2.2.2.2 (by have := HN1.out; have := HOKE.out.2.2.1; omega) HCX.out.1 HCX.out.2.1 HCX.out.2.2.1 HCX.out.2.2.2).mono ?_); rintro e w6 ⟨a6, n6, c6, rfl, ho6, hb6⟩)
              have HO6 := Lib.hid ho6
              have HB6 : Hid (Below wr.heap.size wr w6) := Lib.hid ((Below.refl _ _).drew.trans hb6)
              clear ho6 hb6
              refine hK.out _ _ (trivial) (fun hHeld => ?_)
              clear hK K
              try simp only [Act.put, List.setIfInBounds_toArray, List.set_cons_zero, List.set_cons_succ]
              refine wpAnyH_ready (rs := [6]) (by kernel_rfl) (by simp) ?_
              refine AllReadyH.cons (o := { dst := none, op := Op.store 26 (Operand.tmp 4) (Operand.tmp 30), type := 0, pos := "law.go:64", after := #[{ on := 5, ground := Ground.data }, { on := 5, ground := Ground.chain }, { on := 0, ground := Ground.phase }, { on := 1, ground := Ground.phase }, { on := 2, ground := Ground.phase }, { on := 3, ground := Ground.phase }, { on := 4, ground := Ground.phase }, { on := 5, ground := Ground.phase }], guard := none }) rfl (fun K hK => ?_) ?_
              · refine step_store_env rfl (.tmp 4) (.tmp 30) rfl E rfl a6 n6 c6 _ rfl HZ6.out a1 n1 c1 z1 HZ1.out (HE.out.below HB6.out) ?_
                intro w7 he7 hq7
                have HE7 := Lib.hid he7
                have HQ7 := Lib.hid hq7
                clear he7 hq7
                refine hK.out _ _ (trivial) (fun hHeld => ?_)
                clear hK K
                try simp only [Act.put]
                refine wpAnyH_done (by kernel_rfl) ?_ _
                refine NoPanic.normal ?_
                go_wp2
                go_meet
                exact ⟨a6, n6, c6, Lib.hid (by rw [HSN.out]; exact HE7.out), Lib.hid (by rw [HSN.out]; exact ownO_env HO6.out (HE.out.below HB6.out) HQ7.out), Lib.hid ((HB.out.trans (HB6.out.mono (by have := HB.out.size; have := HBB.out; omega))).trans (HQ7.out.below HBE.out))⟩
              exact AllReadyH.nil
            exact AllReadyH.nil
          exact AllReadyH.nil
        refine AllReadyH.cons (o := { dst := some 29, op := Op.load 49 (Operand.tmp 28), type := 49, pos := "law.go:64", after := #[{ on := 3, ground := Ground.data }], guard := none }) rfl (fun K hK => ?_) ?_
        · go_simp
          refine hK.out _ _ (trivial) (fun hHeld => ?_)
          clear hK K
          try simp only [Act.put, List.setIfInBounds_toArray, List.set_cons_zero, List.set_cons_succ]
          refine wpAnyH_ready (rs := [0]) (by kernel_rfl) (by simp) ?_
          refine AllReadyH.cons (o := { dst := some 25, op := Op.load 26 (Operand.tmp 4), type := 26, pos := "law.go:64", after := #[], guard := none }) rfl (fun K hK => ?_) ?_
          · refine step_load_env rfl (.tmp 4) rfl E rfl a1 n1 c1 z1 HZ1.out HE.out.drew ?_
            refine hK.out _ _ (trivial) (fun hHeld => ?_)
            clear hK K
            try simp only [Act.put, List.setIfInBounds_toArray, List.set_cons_zero, List.set_cons_succ]
            refine wpAnyH_ready (rs := [5]) (by kernel_rfl) (by simp) ?_
            refine AllReadyH.cons (o := { dst := some 30, op := Op.call { callee := Callee.value (Operand.func 24), args := #[Operand.tmp 25, Operand.tmp 29], argTypes := #[26, 49] }, type := 26, pos := "law.go:64", after := #[{ on := 0, ground := Ground.data }, { on := 4, ground := Ground.data }], guard := none }) rfl (fun K hK => ?_) ?_
            · go_simp
              (go_at_call 24; (refine (step_any B a1 n1 c1 L1 z1 k g hh (p, gr, s) _ (HTr.out.keep (Below.refl _ _).drew) HO.out.drew (by have := HE.out.lt; have := HBE.out; simp; omega) HZ1.out HOKE.out.2.2.2.2 (by have := HN1.out; have := HOKE.out.2.2.1; omega) HCX.out.1 HCX.out.2.1 HCX.out.2.2.1 HCX.out.2.2.2).mono ?_); rintro e w6 ⟨a6, n6, c6, rfl, ho6, hb6⟩)
              have HO6 := Lib.hid ho6
              have HB6 : Hid (Below wr.heap.size wr w6) := Lib.hid ((Below.refl _ _).drew.trans hb6)
              clear ho6 hb6
              refine hK.out _ _ (trivial) (fun hHeld => ?_)
              clear hK K
              try simp only [Act.put, List.setIfInBounds_toArray, List.set_cons_zero, List.set_cons_succ]
              refine wpAnyH_ready (rs := [6]) (by kernel_rfl) (by simp) ?_
              refine AllReadyH.cons (o := { dst := none, op := Op.store 26 (Operand.tmp 4) (Operand.tmp 30), type := 0, pos := "law.go:64", after := #[{ on := 5, ground := Ground.data }, { on := 5, ground := Ground.chain }, { on := 0, ground := Ground.phase }, { on := 1, ground := Ground.phase }, { on := 2, ground := Ground.phase }, { on := 3, ground := Ground.phase }, { on := 4, ground := Ground.phase }, { on := 5, ground := Ground.phase }], guard := none }) rfl (fun K hK => ?_) ?_
              · refine step_store_env rfl (.tmp 4) (.tmp 30) rfl E rfl a6 n6 c6 _ rfl HZ6.out a1 n1 c1 z1 HZ1.out (HE.out.below HB6.out) ?_
                intro w7 he7 hq7
                have HE7 := Lib.hid he7
                have HQ7 := Lib.hid hq7
                clear he7 hq7
                refine hK.out _ _ (trivial) (fun hHeld => ?_)
                clear hK K
                try simp only [Act.put]
                refine wpAnyH_done (by kernel_rfl) ?_ _
                refine NoPanic.normal ?_
                go_wp2
                go_meet
                exact ⟨a6, n6, c6, Lib.hid (by rw [HSN.out]; exact HE7.out), Lib.hid (by rw [HSN.out]; exact ownO_env HO6.out (HE.out.below HB6.out) HQ7.out), Lib.hid ((HB.out.trans (HB6.out.mono (by have := HB.out.size; have := HBB.out; omega))).trans (HQ7.out.below HBE.out))⟩
              exact AllReadyH.nil
            exact AllReadyH.nil
          exact AllReadyH.nil
        exact AllReadyH.nil
      case rest =>
      clear HE HO HB HS1 HOKE HZ1 HN1 HSN HCX HZ6 HTr y0 y1 y2 y3 y4 y5
      obtain ⟨a, n, c, HE, HO, HB⟩ := hcut
      obtain ⟨L, z, hs1⟩ : ∃ L1 z1, mkE (C.take (i + 1)) = (L1, z1) := ⟨_, _, rfl⟩
      have HOKE := Lib.hid (mkE_ok (C.take (i + 1)))
      have HS1 := Lib.hid hs1
      rw [hs1] at HE HO HOKE
      dsimp only at HE HO HOKE
      clear hs1
      have HN : Hid (L.length = n) := Lib.hid (OpS.len HO.out.vs)
      have hn16 : n ≤ 16 := by have := HN.out; have := HOKE.out.2.2.1; omega
      have hn16' : ¬ (16 : Int) < (n : Int) := by omega
      obtain ⟨wm, hwm⟩ : ∃ wm, wm = wc := ⟨_, rfl⟩
      rw [← hwm] at HE HO HB ⊢
      clear hwm
      obtain ⟨y0, y1, y2, y3, y4, y5, y6, y7, y8, y9, hzz⟩ := ten HOKE.out.2.2.2.1
      subst hzz
      have KT : Hid (∀ w', Below wm.heap.size wm w' → EB w' E a n c [y0, y1, y2, y3, y4, y5, y6, y7, y8, y9] ∧ OpS w' a n c L ∧ Tab w') := Lib.hid fun w' h => ⟨HE.out.below h, HO.out.vs.below h, (HT.out.keep (HBB.out ▸ HB.out)).keep h⟩
      have e0 := HE.out.c0
      go_wp2
      clear e0
      go_loopw [6] (fun v wr => ∃ k : Nat, v = .int .i64 k ∧ k ≤ n ∧ Hid (Below wm.heap.size wm wr)) (fun v _ => n - (intOf v).toNat)
      case atStart => exact ⟨0, rfl, Nat.zero_le _, Lib.hid (Below.refl _ _)⟩
      case round =>
        obtain ⟨k, rfl, hk, HW⟩ := hrel
        have e0 := (KT.out _ HW.out).1.c0
        by_cases hlt2 : k < n
        · have hltk : (k : Int) < (n : Int) := by omega
          have HOE := Lib.hid (KT.out _ HW.out).2.1
          obtain ⟨b2, o2, rfl, _, hc⟩ := HOE.out.at_ (by omega)
          clear hc
          obtain ⟨o, ho⟩ : ∃ o, o = opA L k := ⟨_, rfl⟩
          have HKO := Lib.hid ho
          have HMY : Hid (mayV o.1 o.2.1 o.2.2 = 0 ∧ o.1.length ≤ 20) := Lib.hid (by rw [ho]; exact HOKE.out.2.1 _ (opA_mem (by rw [HN.out]; exact hlt2)))
          have KS : Hid (∀ w', Below wm.heap.size wm w' → w'.cell? ⟨E, 0, none⟩ = some (.slice (some ⟨b2, o2, none⟩) n c) ∧ w'.cell? ⟨b2, o2 + k * 3, none⟩ = some (.string (mk o.1)) ∧ w'.cell? ⟨b2, o2 + k * 3 + 1, none⟩ = some (.int .i64 o.2.1) ∧ w'.cell? ⟨b2, o2 + k * 3 + 2, none⟩ = some (.int .i64 o.2.2)) := Lib.hid fun w' h => by
            have h3 := OpS.at3 (KT.out w' h).2.1 hlt2
            rw [← ho] at h3
            exact ⟨(KT.out w' h).1.c0, h3⟩
          clear ho
          obtain ⟨p2, g2, s2⟩ := o
          dsimp only at HMY KS
          have KM : Hid (∀ w', Tab w' → Calls Tryz.prog 25 #[.agg #[.string (mk p2), .int .i64 g2, .int .i64 s2]] w' fun e w'' => e = .returned (.int .i64 0) ∧ Below w'.heap.size w' w'') := Lib.hid fun w' h => by
            have := omay_any p2 g2 s2 w' h (Nat.le_trans HMY.out.2 (by decide))
            rw [HMY.out.1] at this
            exact this
          -- the test
          go_upto_region 12 with fail
          go_cut [68] from 35 to 114 (fun u wx => u = .bool false ∧ Hid (Below wm.heap.size wm wx))
          case first =>
            by_cases hk0 : k = 0
            · subst hk0
              have hn0 : 0 < n := hlt2
              have KS0 : Hid (∀ w', Below wm.heap.size wm w' → w'.cell? ⟨E, 0, none⟩ = some (.slice (some ⟨b2, o2, none⟩) n c) ∧ w'.cell? ⟨b2, o2, none⟩ = some (.string (mk p2)) ∧ w'.cell? ⟨b2, o2 + 1, none⟩ = some (.int .i64 g2) ∧ w'.cell? ⟨b2, o2 + 2, none⟩ = some (.int .i64 s2)) := Lib.hid fun w' h => by
                have := KS.out w' h
                rw [Nat.zero_mul, Nat.add_zero] at this
                exact this
              refine wp_region_noPanic ?_
              refine wp_region_held_drew (S := fun w' => w'.cell? ⟨E, 0, none⟩ = some (.slice (some ⟨b2, o2, none⟩) n c) ∧ w'.cell? ⟨b2, o2, none⟩ = some (.string (mk p2)) ∧ w'.cell? ⟨b2, o2 + 1, none⟩ = some (.int .i64 g2) ∧ w'.cell? ⟨b2, o2 + 2, none⟩ = some (.int .i64 s2)) (by kernel_rfl) (KS0.out _ HW.out.drew) (fun hHeld => ?_)
              refine wpAnyH_take (i := 0) (oi := { dst := some 42, op := Op.fieldAddr 26 (Operand.tmp 4) 0, type := 0, pos := "law.go:69", after := #[], guard := none }) (v := ?_) rfl (by kernel_rfl) (by kernel_rfl) (by kernel_rfl) (fun _ _ _ h => h) (Or.inl ⟨by rfl, ?_⟩) (by assumption) ?_
              rotate_left
              · intro w' hSw
                try dsimp only at hSw
                go_simp
                try with_reducible rfl
              try simp only [Act.put, List.setIfInBounds_toArray, List.set_cons_zero, List.set_cons_succ]
              refine wpAnyH_take (i := 1) (oi := { dst := some 43, op := Op.load 22 (Operand.tmp 42), type := 22, pos := "law.go:69", after := #[{ on := 0, ground := Ground.data }], guard := none }) (v := ?_) rfl (by kernel_rfl) (by kernel_rfl) (by kernel_rfl) (fun _ _ _ h => h) (Or.inl ⟨by rfl, ?_⟩) (by assumption) ?_
              rotate_left
              · intro w' hSw
                try dsimp only at hSw
                go_simp
                try with_reducible rfl
              try simp only [Act.put, List.setIfInBounds_toArray, List.set_cons_zero, List.set_cons_succ]
              refine wpAnyH_take (i := 2) (oi := { dst := some 44, op := Op.move (Operand.tmp 6), type := 3, pos := "law.go:69", after := #[], guard := none }) (v := ?_) rfl (by kernel_rfl) (by kernel_rfl) (by kernel_rfl) (fun _ _ _ h => h) (Or.inl ⟨by rfl, ?_⟩) (by assumption) ?_
              rotate_left
              · intro w' hSw
                try dsimp only at hSw
                go_simp
                try with_reducible rfl
              try simp only [Act.put, List.setIfInBounds_toArray, List.set_cons_zero, List.set_cons_succ]
              refine wpAnyH_take (i := 3) (oi := { dst := some 45, op := Op.indexAddr 22 (Operand.tmp 43) (Operand.tmp 44), type := 0, pos := "law.go:69", after := #[{ on := 1, ground := Ground.data }, { on := 2, ground := Ground.data }], guard := none }) (v := ?_) rfl (by kernel_rfl) (by kernel_rfl) (by kernel_rfl) (fun _ _ _ h => h) (Or.inl ⟨by rfl, ?_⟩) (by assumption) ?_
              rotate_left
              · intro w' hSw
                try dsimp only at hSw
                go_simp
                try with_reducible rfl
              try simp only [Act.put, List.setIfInBounds_toArray, List.set_cons_zero, List.set_cons_succ]
              refine wpAnyH_take (i := 4) (oi := { dst := some 46, op := Op.load 28 (Operand.tmp 45), type := 28, pos := "law.go:69", after := #[{ on := 3, ground := Ground.data }], guard := none }) (v := ?_) rfl (by kernel_rfl) (by kernel_rfl) (by kernel_rfl) (fun _ _ _ h => h) (Or.inl ⟨by rfl, ?_⟩) (by assumption) ?_
              rotate_left
              · intro w' hSw
                try dsimp only at hSw
                go_simp
                try with_reducible rfl
              try simp only [Act.put, List.setIfInBounds_toArray, List.set_cons_zero, List.set_cons_succ]
              refine wpAnyH_ready (rs := [5]) (by kernel_rfl) (by simp) ?_
              refine AllReadyH.cons (o := { dst := some 47, op := Op.call { callee := Callee.value (Operand.func 25), args := #[Operand.tmp 46], argTypes := #[28] }, type := 33, pos := "law.go:69", after := #[{ on := 4, ground := Ground.data }], guard := none }) rfl (fun K hK => ?_) ?_
              · go_simp
                (go_at_call 25; (refine (KM.out _ (KT.out _ HW.out.drew).2.2).mono ?_); rintro e w5 ⟨rfl, hb5⟩)
                have HW5 : Hid (Below wm.heap.size wm w5) := Lib.hid (HW.out.drew.trans (hb5.mono HW.out.size))
                clear hb5
                refine hK.out _ _ (KS0.out _ HW5.out) (fun hHeld => ?_)
                clear hK K
                try simp only [Act.put, List.setIfInBounds_toArray, List.set_cons_zero, List.set_cons_succ]
                refine wpAnyH_take (i := 6) (oi := { dst := some 48, op := Op.binOp BinOp.neq 33 (Operand.tmp 47) (Operand.const (Value.int IntKind.i64 0)) 33, type := 4, pos := "law.go:69", after := #[{ on := 5, ground := Ground.data }], guard := none }) (v := ?_) rfl (by kernel_rfl) (by kernel_rfl) (by kernel_rfl) (fun _ _ _ h => h) (Or.inl ⟨by rfl, ?_⟩) (by assumption) ?_
                rotate_left
                · intro w' hSw
                  try dsimp only at hSw
                  go_simp
                  try with_reducible rfl
                try simp only [Act.put, List.setIfInBounds_toArray, List.set_cons_zero, List.set_cons_succ]
                refine wpAnyH_take (i := 7) (oi := { dst := some 49, op := Op.move (Operand.tmp 48), type := 4, pos := "law.go:69", after := #[{ on := 6, ground := Ground.data }, { on := 5, ground := Ground.chain }], guard := none }) (v := ?_) rfl (by kernel_rfl) (by kernel_rfl) (by kernel_rfl) (fun _ _ _ h => h) (Or.inl ⟨by rfl, ?_⟩) (by assumption) ?_
                rotate_left
                · intro w' hSw
                  try dsimp only at hSw
                  go_simp
                  try with_reducible rfl
                try simp only [Act.put, List.setIfInBounds_toArray, List.set_cons_zero, List.set_cons_succ]
                refine wpAnyH_take (i := 8) (oi := { dst := some 50, op := Op.move (Operand.tmp 6), type := 3, pos := "law.go:69", after := #[{ on := 7, ground := Ground.guard }], guard := some (7, false) }) (v := ?_) rfl (by kernel_rfl) (by kernel_rfl) (by kernel_rfl) (fun _ _ _ h => h) (Or.inl ⟨by rfl, ?_⟩) (by assumption) ?_
                rotate_left
                · intro w' hSw
                  try dsimp only at hSw
                  go_simp
                  try with_reducible rfl
                try simp only [Act.put, List.setIfInBounds_toArray, List.set_cons_zero, List.set_cons_succ]
                refine wpAnyH_take (i := 9) (oi := { dst := some 51, op := Op.binOp BinOp.gtr 3 (Operand.tmp 50) (Operand.const (Value.int IntKind.i64 0)) 3, type := 4, pos := "law.go:69", after := #[{ on := 8, ground := Ground.data }, { on := 7, ground := Ground.guard }], guard := some (7, false) }) (v := ?_) rfl (by kernel_rfl) (by kernel_rfl) (by kernel_rfl) (fun _ _ _ h => h) (Or.inl ⟨by rfl, ?_⟩) (by assumption) ?_
                rotate_left
                · intro w' hSw
                  try dsimp only at hSw
                  go_simp
                  try with_reducible rfl
                try simp only [Act.put, List.setIfInBounds_toArray, List.set_cons_zero, List.set_cons_succ]
                refine wpAnyH_take (i := 10) (oi := { dst := some 52, op := Op.move (Operand.tmp 51), type := 4, pos := "law.go:69", after := #[{ on := 9, ground := Ground.data }, { on := 7, ground := Ground.chain }, { on := 7, ground := Ground.guard }], guard := some (7, false) }) (v := ?_) rfl (by kernel_rfl) (by kernel_rfl) (by kernel_rfl) (fun _ _ _ h => h) (Or.inl ⟨by rfl, ?_⟩) (by assumption) ?_
                rotate_left
                · intro w' hSw
                  try dsimp only at hSw
                  go_simp
                  try with_reducible rfl
                try simp only [Act.put, List.setIfInBounds_toArray, List.set_cons_zero, List.set_cons_succ]
                refine wpAnyH_take (i := 11) (oi := { dst := some 53, op := Op.fieldAddr 26 (Operand.tmp 4) 0, type := 0, pos := "law.go:69", after := #[{ on := 10, ground := Ground.guard }], guard := some (10, true) }) (v := undef) rfl (by kernel_rfl) (by kernel_rfl) (by kernel_rfl) (fun _ _ _ h => h) (Or.inr ⟨by rfl, rfl⟩) (by assumption) ?_
                try simp only [Act.put, List.setIfInBounds_toArray, List.set_cons_zero, List.set_cons_succ]
                refine wpAnyH_take (i := 12) (oi := { dst := some 54, op := Op.load 22 (Operand.tmp 53), type := 22, pos := "law.go:69", after := #[{ on := 11, ground := Ground.data }, { on := 10, ground := Ground.guard }], guard := some (10, true) }) (v := undef) rfl (by kernel_rfl) (by kernel_rfl) (by kernel_rfl) (fun _ _ _ h => h) (Or.inr ⟨by rfl, rfl⟩) (by assumption) ?_
                try simp only [Act.put, List.setIfInBounds_toArray, List.set_cons_zero, List.set_cons_succ]
                refine wpAnyH_take (i := 13) (oi := { dst := some 55, op := Op.move (Operand.tmp 6), type := 3, pos := "law.go:69", after := #[{ on := 10, ground := Ground.guard }], guard := some (10, true) }) (v := undef) rfl (by kernel_rfl) (by kernel_rfl) (by kernel_rfl) (fun _ _ _ h => h) (Or.inr ⟨by rfl, rfl⟩) (by assumption) ?_
                try simp only [Act.put, List.setIfInBounds_toArray, List.set_cons_zero, List.set_cons_succ]
                refine wpAnyH_take (i := 14) (oi := { dst := some 56, op := Op.binOp BinOp.sub 3 (Operand.tmp 55) (Operand.const (Value.int IntKind.i64 1)) 3, type := 3, pos := "law.go:69", after := #[{ on := 13, ground := Ground.data }, { on := 10, ground := Ground.guard }], guard := some (10, true) }) (v := undef) rfl (by kernel_rfl) (by kernel_rfl) (by kernel_rfl) (fun _ _ _ h => h) (Or.inr ⟨by rfl, rfl⟩) (by assumption) ?_
                try simp only [Act.put, List.setIfInBounds_toArray, List.set_cons_zero, List.set_cons_succ]
                refine wpAnyH_take (i := 15) (oi := { dst := some 57, op := Op.indexAddr 22 (Operand.tmp 54) (Operand.tmp 56), type := 0, pos := "law.go:69", after := #[{ on := 12, ground := Ground.data }, { on := 14, ground := Ground.data }, { on := 10, ground := Ground.guard }], guard := some (10, true) }) (v := undef) rfl (by kernel_rfl) (by kernel_rfl) (by kernel_rfl) (fun _ _ _ h => h) (Or.inr ⟨by rfl, rfl⟩) (by assumption) ?_
                try simp only [Act.put, List.setIfInBounds_toArray, List.set_cons_zero, List.set_cons_succ]
                refine wpAnyH_take (i := 16) (oi := { dst := some 58, op := Op.fieldAddr 28 (Operand.tmp 57) 0, type := 0, pos := "law.go:69", after := #[{ on := 15, ground := Ground.data }, { on := 10, ground := Ground.guard }], guard := some (10, true) }) (v := undef) rfl (by kernel_rfl) (by kernel_rfl) (by kernel_rfl) (fun _ _ _ h => h) (Or.inr ⟨by rfl, rfl⟩) (by assumption) ?_
                try simp only [Act.put, List.setIfInBounds_toArray, List.set_cons_zero, List.set_cons_succ]
                refine wpAnyH_take (i := 17) (oi := { dst := some 59, op := Op.load 9 (Operand.tmp 58), type := 9, pos := "law.go:69", after := #[{ on := 16, ground := Ground.data }, { on := 10, ground := Ground.guard }], guard := some (10, true) }) (v := undef) rfl (by kernel_rfl) (by kernel_rfl) (by kernel_rfl) (fun _ _ _ h => h) (Or.inr ⟨by rfl, rfl⟩) (by assumption) ?_
                try simp only [Act.put, List.setIfInBounds_toArray, List.set_cons_zero, List.set_cons_succ]
                refine wpAnyH_take (i := 18) (oi := { dst := some 60, op := Op.fieldAddr 26 (Operand.tmp 4) 0, type := 0, pos := "law.go:69", after := #[{ on := 10, ground := Ground.guard }], guard := some (10, true) }) (v := undef) rfl (by kernel_rfl) (by kernel_rfl) (by kernel_rfl) (fun _ _ _ h => h) (Or.inr ⟨by rfl, rfl⟩) (by assumption) ?_
                try simp only [Act.put, List.setIfInBounds_toArray, List.set_cons_zero, List.set_cons_succ]
                refine wpAnyH_take (i := 19) (oi := { dst := some 61, op := Op.load 22 (Operand.tmp 60), type := 22, pos := "law.go:69", after := #[{ on := 18, ground := Ground.data }, { on := 10, ground := Ground.guard }], guard := some (10, true) }) (v := undef) rfl (by kernel_rfl) (by kernel_rfl) (by kernel_rfl) (fun _ _ _ h => h) (Or.inr ⟨by rfl, rfl⟩) (by assumption) ?_
                try simp only [Act.put, List.setIfInBounds_toArray, List.set_cons_zero, List.set_cons_succ]
                refine wpAnyH_take (i := 20) (oi := { dst := some 62, op := Op.move (Operand.tmp 6), type := 3, pos := "law.go:69", after := #[{ on := 10, ground := Ground.guard }], guard := some (10, true) }) (v := undef) rfl (by kernel_rfl) (by kernel_rfl) (by kernel_rfl) (fun _ _ _ h => h) (Or.inr ⟨by rfl, rfl⟩) (by assumption) ?_
                try simp only [Act.put, List.setIfInBounds_toArray, List.set_cons_zero, List.set_cons_succ]
                refine wpAnyH_take (i := 21) (oi := { dst := some 63, op := Op.indexAddr 22 (Operand.tmp 61) (Operand.tmp 62), type := 0, pos := "law.go:69", after := #[{ on := 19, ground := Ground.data }, { on := 20, ground := Ground.data }, { on := 10, ground := Ground.guard }], guard := some (10, true) }) (v := undef) rfl (by kernel_rfl) (by kernel_rfl) (by kernel_rfl) (fun _ _ _ h => h) (Or.inr ⟨by rfl, rfl⟩) (by assumption) ?_
                try simp only [Act.put, List.setIfInBounds_toArray, List.set_cons_zero, List.set_cons_succ]
                refine wpAnyH_take (i := 22) (oi := { dst := some 64, op := Op.fieldAddr 28 (Operand.tmp 63) 0, type := 0, pos := "law.go:69", after := #[{ on := 21, ground := Ground.data }, { on := 10, ground := Ground.guard }], guard := some (10, true) }) (v := undef) rfl (by kernel_rfl) (by kernel_rfl) (by kernel_rfl) (fun _ _ _ h => h) (Or.inr ⟨by rfl, rfl⟩) (by assumption) ?_
                try simp only [Act.put, List.setIfInBounds_toArray, List.set_cons_zero, List.set_cons_succ]
                refine wpAnyH_take (i := 23) (oi := { dst := some 65, op := Op.load 9 (Operand.tmp 64), type := 9, pos := "law.go:69", after := #[{ on := 22, ground := Ground.data }, { on := 10, ground := Ground.guard }], guard := some (10, true) }) (v := undef) rfl (by kernel_rfl) (by kernel_rfl) (by kernel_rfl) (fun _ _ _ h => h) (Or.inr ⟨by rfl, rfl⟩) (by assumption) ?_
                try simp only [Act.put, List.setIfInBounds_toArray, List.set_cons_zero, List.set_cons_succ]
                refine wpAnyH_take (i := 24) (oi := { dst := some 66, op := Op.binOp BinOp.geq 9 (Operand.tmp 59) (Operand.tmp 65) 9, type := 4, pos := "law.go:69", after := #[{ on := 17, ground := Ground.data }, { on := 23, ground := Ground.data }, { on := 10, ground := Ground.guard }], guard := some (10, true) }) (v := undef) rfl (by kernel_rfl) (by kernel_rfl) (by kernel_rfl) (fun _ _ _ h => h) (Or.inr ⟨by rfl, rfl⟩) (by assumption) ?_
                try simp only [Act.put, List.setIfInBounds_toArray, List.set_cons_zero, List.set_cons_succ]
                refine wpAnyH_take (i := 25) (oi := { dst := some 67, op := Op.pick (Operand.tmp 52) (Operand.tmp 66) (Operand.const (Value.bool false)), type := 4, pos := "law.go:69", after := #[{ on := 10, ground := Ground.data }, { on := 24, ground := Ground.data }, { on := 7, ground := Ground.guard }], guard := some (7, false) }) (v := ?_) rfl (by kernel_rfl) (by kernel_rfl) (by kernel_rfl) (fun _ _ _ h => h) (Or.inl ⟨by rfl, ?_⟩) (by assumption) ?_
                rotate_left
                · intro w' hSw
                  try dsimp only at hSw
                  go_simp
                  try with_reducible rfl
                try simp only [Act.put, List.setIfInBounds_toArray, List.set_cons_zero, List.set_cons_succ]
                refine wpAnyH_take (i := 26) (oi := { dst := some 68, op := Op.pick (Operand.tmp 49) (Operand.const (Value.bool true)) (Operand.tmp 67), type := 4, pos := "law.go:69", after := #[{ on := 7, ground := Ground.data }, { on := 25, ground := Ground.data }], guard := none }) (v := ?_) rfl (by kernel_rfl) (by kernel_rfl) (by kernel_rfl) (fun _ _ _ h => h) (Or.inl ⟨by rfl, ?_⟩) (by assumption) ?_
                rotate_left
                · intro w' hSw
                  try dsimp only at hSw
                  go_simp
                  try with_reducible rfl
                try simp only [Act.put, List.setIfInBounds_toArray, List.set_cons_zero, List.set_cons_succ]
                refine wpAnyH_done (by kernel_rfl) ?_ _
                refine NoPanic.normal ?_
                go_wp2
                go_meet
                exact ⟨rfl, HW5⟩
              · exact AllReadyH.nil
            · have hk1 : (0 : Int) < (k : Int) := by omega
              have hkn : 0 < k := by omega
              have hk6 : decide (0 < k) = true := decide_eq_true hkn
              have hk3 : IntKind.i64.wrap ((k : Int) - 1) = ((k - 1 : Nat) : Int) := by rw [IntWalk.i64_in _ (by omega)]; omega
              have hk4 : (0 : Int) ≤ ((k - 1 : Nat) : Int) ∧ ((k - 1 : Nat) : Int) < (n : Int) := by omega
              obtain ⟨km, hkm⟩ : ∃ km, km = k - 1 := ⟨_, rfl⟩
              rw [← hkm] at hk3 hk4
              obtain ⟨q2, hq2⟩ : ∃ q, q = (opA L km).1 := ⟨_, rfl⟩
              have hlt3 : q2 < p2 := by
                have := srt_at HOKE.out.1 (k := k) (by omega) (by rw [HN.out]; exact hlt2)
                rw [← hkm, ← hq2, ← HKO.out] at this
                exact this
              have KS2 : Hid (∀ w', Below wm.heap.size wm w' → w'.cell? ⟨E, 0, none⟩ = some (.slice (some ⟨b2, o2, none⟩) n c) ∧ w'.cell? ⟨b2, o2 + k * 3, none⟩ = some (.string (mk p2)) ∧ w'.cell? ⟨b2, o2 + k * 3 + 1, none⟩ = some (.int .i64 g2) ∧ w'.cell? ⟨b2, o2 + k * 3 + 2, none⟩ = some (.int .i64 s2) ∧ w'.cell? ⟨b2, o2 + km * 3, none⟩ = some (.string (mk q2))) := Lib.hid fun w' h => by
                obtain ⟨h1, h2, h3, h4⟩ := KS.out w' h
                have h5 := (OpS.at3 (KT.out w' h).2.1 (k := km) (by omega)).1
                rw [← hq2] at h5
                exact ⟨h1, h2, h3, h4, h5⟩
              have hb1 : Op.bytesLess q2 p2 = true := (less_iff _ _).2 hlt3
              have hb2 : Op.bytesLess p2 q2 = false := (less_no _ _).2 fun e => slt_irr _ (slt_tr e hlt3)
              have hb3 : (q2 == p2) = false := beq_eq_false_iff_ne.2 (sne_of_lt hlt3)
              have hb4 : (p2 == q2) = false := beq_eq_false_iff_ne.2 (sne_of_lt hlt3).symm
              have ht1 := mk_toList q2
              have ht2 := mk_toList p2
              clear hlt3 hq2 hkm
              go_region_held3 (fun w' => w'.cell? ⟨E, 0, none⟩ = some (.slice (some ⟨b2, o2, none⟩) n c) ∧ w'.cell? ⟨b2, o2 + k * 3, none⟩ = some (.string (mk p2)) ∧ w'.cell? ⟨b2, o2 + k * 3 + 1, none⟩ = some (.int .i64 g2) ∧ w'.cell? ⟨b2, o2 + k * 3 + 2, none⟩ = some (.int .i64 s2) ∧ w'.cell? ⟨b2, o2 + km * 3, none⟩ = some (.string (mk q2)))
                (first
                  | exact KS2.out _ HW5.out
                  | exact KS2.out _ HW.out.drew)
                (first
                  | (go_at_call 25; (refine (KM.out _ (KT.out _ HW.out.drew).2.2).mono ?_); rintro e w5 ⟨rfl, hb5⟩; have HW5 : Hid (Below wm.heap.size wm w5) := Lib.hid (HW.out.drew.trans (hb5.mono HW.out.size)); clear hb5))
              all_goals
                go_wp2
                go_meet
                exact ⟨rfl, HW5⟩
          case rest =>
          obtain ⟨rfl, HW2⟩ := hcut
          clear HW HOE KM e0
          obtain ⟨wj, hwj⟩ : ∃ wj, wj = wc := ⟨_, rfl⟩
          rw [← hwj] at HW2 ⊢
          clear hwj
          have HTj : Hid (Tab wj) := Lib.hid (KT.out _ HW2.out).2.2
          obtain ⟨f0, f1, f2, f3⟩ := KS.out wj HW2.out
          go_wp2_with fail
          clear f0 f1 f2 f3
          obtain ⟨P, l, r, kx, hR⟩ : ∃ P l r k, ofR p2 = (⟨P, l, r⟩, k) := ⟨_, _, _, _, rfl⟩
          have HPR : Hid (prt p2 = P) := Lib.hid (by unfold prt; rw [hR])
          have KO := Lib.hid (sof_any p2 wj HTj.out (Nat.le_trans HMY.out.2 (by decide)))
          rw [hR] at KO
          simp only [shV] at KO
          clear hR
          refine KO.out.mono ?_
          rintro e w8 ⟨sa, sn, sc, rfl, hs8, hb8⟩
          obtain ⟨T, hT⟩ : ∃ T, T = w8.heap.size := ⟨_, rfl⟩
          obtain ⟨w9, hw9⟩ : ∃ w9, w9 = w8.alloc (.cells #[.slice sa sn sc, .bool l, .bool r] 53) := ⟨_, rfl⟩
          have HT9 : Hid (w9.heap[T]? = some (.cells #[.slice sa sn sc, .bool l, .bool r] 53 (0, 0))) := Lib.hid (by rw [hw9, hT]; exact heap_alloc_new w8 _)
          have HS9 : Hid (Ss w9 sa sn sc P) := Lib.hid (by rw [hw9]; exact hs8.below (below_alloc _ _))
          have HW9 : Hid (Below wm.heap.size wm w9) := Lib.hid (by rw [hw9]; exact (HW2.out.trans (hb8.mono HW2.out.size)).alloc (Nat.le_trans HW2.out.size hb8.size) _)
          have HPN : Hid (P.length = sn) := Lib.hid (Ss.len HS9.out)
          have hsn4 : sn ≤ 4 := by have := HPN.out; have := prt_len p2; rw [HPR.out] at this; omega
          have f4 := (heap_alloc_new w8 (.cells #[.slice sa sn sc, .bool l, .bool r] 53))
          obtain ⟨⟨f5, f6, f7⟩, _⟩ := three f4
          clear hs8 hb8 KO f4
          go_wp2
          rw [← hw9, ← hT]
          clear hw9 hT f5 f6 f7
          have K9 : Hid (∀ w', Below w9.heap.size w9 w' → Below wm.heap.size wm w' ∧ Ss w' sa sn sc P ∧ w'.cell? ⟨T, 0, none⟩ = some (.slice sa sn sc)) := Lib.hid fun w' h => ⟨HW9.out.trans (h.mono HW9.out.size), HS9.out.below h, (three (cells3 HT9.out h)).1.1⟩
          go_loopw [9] (fun v wr => ∃ j : Nat, v = .int .i64 j ∧ j ≤ sn ∧ Hid (Below w9.heap.size w9 wr)) (fun v _ => sn - (intOf v).toNat)
          case atStart => exact ⟨0, rfl, Nat.zero_le _, Lib.hid (Below.refl _ _)⟩
          case round =>
            rename World => wq
            obtain ⟨j, rfl, hj, HQ⟩ := hrel
            have e1 := (K9.out _ HQ.out).2.2
            by_cases hjl : j < sn
            · have hjl' : (j : Int) < (sn : Int) := by omega
              have HSq := Lib.hid (K9.out _ HQ.out).2.1
              obtain ⟨bs, os, rfl, _, hc⟩ := HSq.out.at_ (by omega)
              clear hc
              obtain ⟨x, hx⟩ : ∃ x, x = pt P j := ⟨_, rfl⟩
              have HXX := Lib.hid hx
              have KE : Hid (∀ w', Below w9.heap.size w9 w' → w'.cell? ⟨E, 0, none⟩ = some (.slice (some ⟨b2, o2, none⟩) n c) ∧ w'.cell? ⟨E, 1, none⟩ = some (.int .i64 y0) ∧ w'.cell? ⟨E, 2, none⟩ = some (.int .i64 y1) ∧ w'.cell? ⟨E, 3, none⟩ = some (.int .i64 y2) ∧ w'.cell? ⟨E, 4, none⟩ = some (.int .i64 y3) ∧ w'.cell? ⟨E, 5, none⟩ = some (.int .i64 y4) ∧ w'.cell? ⟨E, 6, none⟩ = some (.int .i64 y5) ∧ w'.cell? ⟨E, 7, none⟩ = some (.int .i64 y6) ∧ w'.cell? ⟨E, 8, none⟩ = some (.int .i64 y7) ∧ w'.cell? ⟨E, 9, none⟩ = some (.int .i64 y8) ∧ w'.cell? ⟨E, 10, none⟩ = some (.int .i64 y9) ∧ w'.cell? ⟨T, 0, none⟩ = some (.slice (some ⟨bs, os, none⟩) sn sc) ∧ w'.cell? ⟨bs, os + j, none⟩ = some (.string (mk x))) := Lib.hid fun w' h => by
                obtain ⟨h1, h2, h3⟩ := K9.out w' h
                obtain ⟨g0, g1, g2, g3, g4, g5, g6, g7, g8, g9, g10⟩ := env_cells (KT.out w' h1).1
                have h4 := Ss.str h2 hjl
                rw [← hx] at h4
                exact ⟨g0, g1, g2, g3, g4, g5, g6, g7, g8, g9, g10, h3, h4⟩
              have HPL : Hid (∀ o ∈ L, o.1.length ≤ 1000000) := Lib.hid fun o ho => Nat.le_trans (HOKE.out.2.1 o ho).2 (by decide)
              obtain ⟨EL, hEL⟩ : ∃ EL, EL = entL L [y0, y1, y2, y3, y4, y5, y6, y7, y8, y9] x := ⟨_, rfl⟩
              have HEL : Hid ((EL.any fun e => decide (e.1 = (p2, g2, s2))) = true) := Lib.hid (by
                rw [hEL, hx, ← HPR.out]
                have := entL_has (L := L) (z := [y0, y1, y2, y3, y4, y5, y6, y7, y8, y9]) (k := k) (j := j) (by rw [HN.out]; exact hlt2) (by rw [← HKO.out, HPR.out, HPN.out]; exact hjl)
                rw [← HKO.out] at this
                exact this)
              have KN : Hid (∀ w', Tab w' → OpS w' (some ⟨b2, o2, none⟩) n c L → Calls Tryz.prog 18 #[.agg (ev (some ⟨b2, o2, none⟩) n c [y0, y1, y2, y3, y4, y5, y6, y7, y8, y9]), .string (mk x)] w' fun e w'' => ∃ a' c', e = .returned (.slice a' EL.length c') ∧ Ens w'' a' EL.length c' EL ∧ Below w'.heap.size w' w'') := Lib.hid fun w' h1 h2 => by
                rw [hEL]
                exact entry_any (some ⟨b2, o2, none⟩) n c L [y0, y1, y2, y3, y4, y5, y6, y7, y8, y9] x w' h1 h2 rfl (by omega) HPL.out
              obtain ⟨m, hm⟩ : ∃ m, m = EL.length := ⟨_, rfl⟩
              rw [← hm] at KN
              have HMM := Lib.hid hm
              have hm16 : m ≤ 16 := by rw [hm, hEL]; exact Nat.le_trans (entL_len ..) (by rw [HN.out]; exact hn16)
              clear hx hEL hm
              go_wp2_with fail
              clear e1
              go_region_held3 (fun w' => w'.cell? ⟨E, 0, none⟩ = some (.slice (some ⟨b2, o2, none⟩) n c) ∧ w'.cell? ⟨E, 1, none⟩ = some (.int .i64 y0) ∧ w'.cell? ⟨E, 2, none⟩ = some (.int .i64 y1) ∧ w'.cell? ⟨E, 3, none⟩ = some (.int .i64 y2) ∧ w'.cell? ⟨E, 4, none⟩ = some (.int .i64 y3) ∧ w'.cell? ⟨E, 5, none⟩ = some (.int .i64 y4) ∧ w'.cell? ⟨E, 6, none⟩ = some (.int .i64 y5) ∧ w'.cell? ⟨E, 7, none⟩ = some (.int .i64 y6) ∧ w'.cell? ⟨E, 8, none⟩ = some (.int .i64 y7) ∧ w'.cell? ⟨E, 9, none⟩ = some (.int .i64 y8) ∧ w'.cell? ⟨E, 10, none⟩ = some (.int .i64 y9) ∧ w'.cell? ⟨T, 0, none⟩ = some (.slice (some ⟨bs, os, none⟩) sn sc) ∧ w'.cell? ⟨bs, os + j, none⟩ = some (.string (mk x)))
                (first
                  | exact KE.out _ HW5.out
                  | exact KE.out _ HQ.out.drew)
                (first
                  | (go_at_call 18; (refine (KN.out _ (KT.out _ (K9.out _ HQ.out.drew).1).2.2 (KT.out _ (K9.out _ HQ.out.drew).1).2.1).mono ?_); rintro e w5 ⟨a5, c5, rfl, he5, hb5⟩; have HN5 := Lib.hid he5; have HW5 : Hid (Below w9.heap.size w9 w5) := Lib.hid (HQ.out.drew.trans (hb5.mono HQ.out.size)); clear he5 hb5))
              have hl5 := HN5.out.lc
              have hm5 := HN5.out.cm
              unfold maxLen at hm5
              go_wp2
              go_loopw [10, 12] (fun v10 v12 wr => ∃ t : Bool, ∃ u : Nat, v10 = .bool t ∧ v12 = .int .i64 u ∧ u ≤ m ∧ Hid (((EL.take u).any fun e => decide (e.1 = (p2, g2, s2))) = t) ∧ Hid (Below w5.heap.size w5 wr)) (fun _ v _ => m - (intOf v).toNat)
              case atStart => exact ⟨false, 0, rfl, rfl, Nat.zero_le _, Lib.hid rfl, Lib.hid (Below.refl _ _)⟩
              case round =>
                rename World => wu
                obtain ⟨t, u, rfl, rfl, hu, HA, HU⟩ := hrel
                have HW6 : Hid (Below w9.heap.size w9 wu) := Lib.hid (HW5.out.trans (HU.out.mono HW5.out.size))
                by_cases hul : u < m
                · have hul' : (u : Int) < (m : Int) := by omega
                  have HSN := Lib.hid (any_en (E := EL) (n := u) (by rw [← HMM.out]; exact hul) (p2, g2, s2))
                  have hen := HN5.out.below HU.out
                  obtain ⟨be, oe, rfl, _, hc⟩ := hen.at_ (by omega)
                  clear hc
                  obtain ⟨n0, n1', n2', _⟩ := Ens.at4 hen hul
                  obtain ⟨d0, d1, d2, d3⟩ := KS.out _ (K9.out _ HW6.out).1
                  obtain ⟨y, hy⟩ : ∃ y, y = (enA EL u).1 := ⟨_, rfl⟩
                  rw [← hy] at n0 n1' n2' HSN
                  have heq := fun w => eq_op 9998 y (p2, g2, s2) w
                  dsimp only at heq
                  clear hen hy
                  cases t with
                  | true =>
                    have HA1 : Hid (((EL.take (u + 1)).any fun e => decide (e.1 = (p2, g2, s2))) = true) := Lib.hid (by rw [HSN.out, HA.out]; rfl)
                    go_wp2_with fail
                    go_region
                    go_wp2
                    go_roundw
                    case rel => exact ⟨true, u + 1, rfl, by go_num, by omega, HA1, Lib.hid HU.out.drew⟩
                    case measure => simp [intOf]; omega
                  | false =>
                    obtain ⟨dv, hdv⟩ : ∃ dv, dv = decide (y = (p2, g2, s2)) := ⟨_, rfl⟩
                    have HA1 : Hid (((EL.take (u + 1)).any fun e => decide (e.1 = (p2, g2, s2))) = dv) := Lib.hid (by rw [HSN.out, HA.out, ← hdv]; rfl)
                    rw [← hdv] at heq
                    clear hdv
                    cases dv with
                    | true =>
                      go_wp2_with fail
                      go_region
                      go_wp2
                      go_roundw
                      case rel => exact ⟨true, u + 1, rfl, by go_num, by omega, HA1, Lib.hid HU.out.drew⟩
                      case measure => simp [intOf]; omega
                    | false =>
                      go_wp2_with fail
                      go_region
                      go_wp2
                      go_roundw
                      case rel => exact ⟨false, u + 1, rfl, by go_num, by omega, HA1, Lib.hid HU.out.drew⟩
                      case measure => simp [intOf]; omega
                · have hul' : ¬ (u : Int) < (m : Int) := by omega
                  have ht : t = true := by
                    have h1 := HA.out
                    rw [List.take_of_length_le (by rw [← HMM.out]; omega)] at h1
                    rw [← h1]; exact HEL.out
                  subst ht
                  go_wp2
                  go_roundw
                  case rel => exact ⟨j + 1, by go_num, by omega, HW6⟩
                  case measure => simp [intOf]; omega
            · have hjl' : ¬ (j : Int) < (sn : Int) := by omega
              have HWX : Hid (Below wm.heap.size wm wq) := Lib.hid (K9.out _ HQ.out).1
              go_wp2
              go_roundw
              case rel => exact ⟨k + 1, by go_num, by omega, HWX⟩
              case measure => simp [intOf]; omega
        · have hltk : ¬ (k : Int) < (n : Int) := by omega
          have HEX : Hid (EB wr E a n c (mkE (C.take (i + 1))).2) := Lib.hid (by rw [HS1.out]; exact (KT.out _ HW.out).1)
          have HOX : Hid (OwnO B wr a n c (mkE (C.take (i + 1))).1) := Lib.hid (by rw [HS1.out]; exact HO.out.keep HW.out (Nat.le_refl _))
          have HBX : Hid (Below B w wr) := Lib.hid (HB.out.trans (HW.out.mono (by have := HB.out.size; have := HBB.out; omega)))
          go_wp2
          go_roundw
          case rel => exact ⟨i + 1, by go_num, by omega, by omega, a, n, c, HEX, HOX, HBX⟩
          case measure => simp [intOf]; omega
    · rcases (show (¬ i < len) ∨ (i < len ∧ ¬ i < 40) by omega) with hx | hx
      · have hg1 : ¬ (i : Int) < (len : Int) := by omega
        clear hx hgo
        go_wp2
        go_ret
        exact ⟨rfl, by rw [← HBB.out]; exact HB.out⟩
      · obtain ⟨hx1, hx2⟩ := hx
        have hg1 : (i : Int) < (len : Int) := by omega
        have hg2 : ¬ (i : Int) < 40 := by omega
        clear hx1 hx2 hgo
        go_wp2
        go_ret
        exact ⟨rfl, by rw [← HBB.out]; exact HB.out⟩

end Go.Proofs.YtciijlcemmhbfaaGreatDoor
