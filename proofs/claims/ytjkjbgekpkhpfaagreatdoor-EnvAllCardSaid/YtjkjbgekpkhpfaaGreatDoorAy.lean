/- The law's own shown. -/
import Derived.Test.YtjkjbgekpkhpfaaGreatDoorAn
import Derived.Test.YtjkjbgekpkhpfaaGreatDoorAz
import Derived.Test.YtjkjbgekpkhpfaaGreatDoorAs
import Derived.Deep.DeepCutAuto
namespace Go.Proofs.YtjkjbgekpkhpfaaGreatDoor
open Go.RowKit

def oX : OP := ([95, 43, 95], 3, 1)
theorem ofS_x : ofS [95, 43, 95] = some ⟨[[43]], true, true⟩ := by
  have h : (ofS [95, 43, 95]).map (fun s => (s.P, s.l, s.r)) = some ([[43]], true, true) := by decide +kernel
  obtain ⟨s, h1, h2⟩ := Option.map_eq_some_iff.1 h
  rw [h1]
  simp only [Prod.mk.injEq] at h2
  obtain ⟨P, l, r⟩ := s
  obtain ⟨rfl, rfl, rfl⟩ := h2
  rfl
theorem prt_x : prt [95, 43, 95] = [[43]] := prt_some ofS_x
theorem addE_x : addE [] oX = 0 := addE_room shown_may rfl (by decide)
theorem addR_x : addR [] oX = [oX] := by unfold addR; rw [if_pos addE_x]; rfl
theorem addZ_x : addZ [] zS oX = zS := by unfold addZ; rw [if_pos addE_x]
theorem entL_x : entL [oX] zS [43] = [(oX, 6)] := by
  have h : hasP [43] oX = true := by unfold hasP; rw [show oX.1 = [95, 43, 95] from rfl, prt_x]; rfl
  unfold entL
  rw [List.filter_cons, if_pos h, List.filter_nil]
  rfl
theorem entL_y : entL [oX] zS [42] = [] := by
  have h : hasP [42] oX = false := by unfold hasP; rw [show oX.1 = [95, 43, 95] from rfl, prt_x]; rfl
  unfold entL
  rw [List.filter_cons, if_neg (by rw [h]; decide), List.filter_nil]
  rfl
theorem uniq_x : uniqB [oX] = true := by
  unfold uniqB allP
  rw [List.flatMap_cons, show oX.1 = [95, 43, 95] from rfl, prt_x]
  rfl
theorem add_x (w : World) (ht : Tab w) : Calls Tryz.prog 7 #[.agg (ev none 0 0 zS), .agg #[.string (mk [95, 43, 95]), .int .i64 3, .int .i64 1]] w fun e w' => ∃ a' c', e = .returned (.tuple #[.agg (ev a' 1 c' zS), .int .i64 0]) ∧ OwnO 0 w' a' 1 c' [oX] ∧ Below w.heap.size w w' := by
  refine (add_any none 0 0 [] zS oX w ht (Vs.nil _ _ _ _ (Nat.zero_le _)) rfl (by decide) (by decide)).mono ?_
  rintro e w' ⟨a', n', c', rfl, ho, hb⟩
  rw [addR_x] at ho
  obtain rfl : n' = 1 := (OpS.len ho.vs).symm
  exact ⟨a', c', by rw [addZ_x, addE_x], ho.weak (Nat.zero_le _), hb⟩
theorem oX_len : ∀ o ∈ [oX], o.1.length ≤ 1000000 := fun o ho => by rw [List.mem_singleton.1 ho]; decide

set_option maxRecDepth 20000 in
set_option maxHeartbeats 8000000 in
theorem shown_any (w : World) (ht : Tab w) :
    Calls Tryz.prog 5 #[] w fun e w' => e = .returned (.bool true) ∧ Below w.heap.size w w' := by
  obtain ⟨D, hD⟩ : ∃ D, D = w.heap.size := ⟨_, rfl⟩
  obtain ⟨w1, hw1⟩ : ∃ w1, w1 = w.alloc (.cells #[.string (mk [95, 43, 95]), .int .i64 3, .int .i64 1] 28) := ⟨_, rfl⟩
  have hD1 : D3 w1 D oX := by rw [hw1, hD]; exact D3.new w oX
  have HKC : Hid (∀ w', Below w1.heap.size w1 w' → D3 w' D oX) := Lib.hid fun w' h => hD1.below h
  have HB1 : Hid (Below D w w1) := Lib.hid (by rw [hw1, hD]; exact below_alloc w _)
  have HT1 : Hid (Tab w1) := Lib.hid (ht.keep (hD ▸ HB1.out))
  have HS1 : Hid (w1.heap.size = D + 1) := Lib.hid (by rw [hw1, hD]; simp)
  have HDD := Lib.hid hD
  clear ht hD1
  go_enter Tryz.func5, Tryz.ntmps5
  go_upto_region 2 with fail
  rw [show ByteArray.mk #[95, 43, 95] = mk [95, 43, 95] from rfl, ← hw1, ← hD]
  clear hw1 hD
  have hst : ∀ (a' : Option Addr) (c' X : Nat) (W : World), EB W X none 0 0 z0 → (storeCells ⟨X, 0, none⟩ (ev a' 1 c' zS).toList).run Tryz.prog W = .ok () (W.setRow X (ev a' 1 c' zS)) := fun a' c' X W h => run_store_env W X h a' 1 c' zS rfl
  have hnew : ∀ W : World, EB (W.alloc (.cells #[.slice none 0 0, .int .i64 0, .int .i64 0, .int .i64 0, .int .i64 0, .int .i64 0, .int .i64 0, .int .i64 0, .int .i64 0, .int .i64 0, .int .i64 0] 26)) W.heap.size none 0 0 z0 := fun W => EB.new W none 0 0 z0
  go_cut [2, 3] (fun u v wx => ∃ X a' c', u = .pointer (some ⟨X, 0, none⟩) ∧ v = .int .i64 0 ∧ Hid (EB wx X a' 1 c' zS) ∧ Hid (OwnO 0 wx a' 1 c' [oX]) ∧ Hid (Below w1.heap.size w1 wx))
  case first =>
    go_region_held3 (fun w' => w'.cell? ⟨D, 0, none⟩ = some (.string (mk [95, 43, 95])) ∧ w'.cell? ⟨D, 1, none⟩ = some (.int .i64 3) ∧ w'.cell? ⟨D, 2, none⟩ = some (.int .i64 1))
      (first
        | exact (HKC.out _ ((HB3.out.alloc HB3.out.size _).trans ((Only.ofRow _ _ _).below HB3.out.size))).cells
        | exact (HKC.out _ (HB3.out.trans ((Only.ofRow _ _ _).below HB2.out.size))).cells
        | exact (HKC.out _ (HB3.out.trans ((Only.ofRow _ _ _).below (Nat.le_refl _)))).cells
        | exact (HKC.out _ HB3.out).cells
        | exact (HKC.out _ (HB3.out.alloc HB3.out.size _)).cells
        | exact (HKC.out _ HB2.out).cells
        | exact (HKC.out _ (HB2.out.alloc HB2.out.size _)).cells
        | exact (HKC.out _ ((Below.refl _ _).drew.alloc (Nat.le_refl _) _)).cells
        | exact (HKC.out _ (Below.refl _ _).drew).cells)
      (first
        | (go_at_call 7; (with_reducible refine (add_x _ (HT1.out.keep (by first | exact HB2.out | exact HB2.out.alloc HB2.out.size _))).mono ?_); rintro e w3 ⟨a3, c3, rfl, ho3, hb3⟩; have HO3 := Lib.hid ho3; (try have hx3 : EB w3 w2.heap.size none 0 0 z0 := (EB.new w2 none 0 0 z0).below hb3); (try have hx3 : EB w3 w1.heap.size none 0 0 z0 := hx2.below hb3); have HB3 : Hid (Below w1.heap.size w1 w3) := Lib.hid (by first | exact HB2.out.trans (hb3.mono HB2.out.size) | exact (HB2.out.alloc HB2.out.size _).trans (hb3.mono (Nat.le_trans HB2.out.size (by simp)))); clear ho3 hb3)
        | (go_at_call 20; (with_reducible refine (new_any _).mono ?_); rintro e w2 ⟨rfl, hb2⟩; (try have hx2 : EB w2 w1.heap.size none 0 0 z0 := (EB.new w1.drew none 0 0 z0).below hb2); have HB2 : Hid (Below w1.heap.size w1 w2) := Lib.hid (by first | exact (Below.refl _ _).drew.trans hb2 | exact ((Below.refl _ _).drew.alloc (Nat.le_refl _) _).trans (hb2.mono (by simp))); clear hb2))
    all_goals
      go_wp2
      go_meet
      first
        | exact ⟨_, _, _, rfl, rfl, Lib.hid (env_put hx3 HO3.out HB3.out HB2.out.size).1, Lib.hid (env_put hx3 HO3.out HB3.out HB2.out.size).2.1, Lib.hid (env_put hx3 HO3.out HB3.out HB2.out.size).2.2⟩
        | exact ⟨_, _, _, rfl, rfl, Lib.hid (env_put hx3 HO3.out HB3.out (Nat.le_refl _)).1, Lib.hid (env_put hx3 HO3.out HB3.out (Nat.le_refl _)).2.1, Lib.hid (env_put hx3 HO3.out HB3.out (Nat.le_refl _)).2.2⟩
        | exact ⟨_, _, _, rfl, rfl, Lib.hid (env_put (hnew w3) (HO3.out.alloc _) (HB3.out.alloc HB3.out.size _) HB3.out.size).1, Lib.hid (env_put (hnew w3) (HO3.out.alloc _) (HB3.out.alloc HB3.out.size _) HB3.out.size).2.1, Lib.hid (env_put (hnew w3) (HO3.out.alloc _) (HB3.out.alloc HB3.out.size _) HB3.out.size).2.2⟩
  case rest =>
    obtain ⟨X, a2, c2, rfl, rfl, HE, HO, HB⟩ := hcut
    clear hst hnew
    have HTw : Hid (Tab wc) := Lib.hid (HT1.out.keep HB.out)
    go_wp2_with (refine load_env rfl (.tmp 2) rfl X rfl a2 1 c2 zS rfl HE.out ?_)
    refine (entry_any a2 1 c2 [oX] zS [43] wc HTw.out HO.out.vs rfl (by decide) oX_len).mono ?_
    rw [entL_x]
    rintro e w3 ⟨a3, c3, rfl, he3, hb3⟩
    obtain ⟨b, o, rfl, hlt, hc⟩ := he3.at_ (by decide)
    clear hc
    have hl3 := he3.lc
    have hm3 := he3.cm
    unfold maxLen at hm3
    have HT3 : Hid (Tab w3) := Lib.hid (HTw.out.keep hb3)
    have HB3 : Hid (Below w1.heap.size w1 w3) := Lib.hid (HB.out.trans (hb3.mono HB.out.size))
    have hE3 := HE.out.below hb3
    have hD3 : D3 w3 D oX := HKC.out _ HB3.out
    have HO3 : Hid (OpS w3 a2 1 c2 [oX]) := Lib.hid (HO.out.vs.below hb3)
    have HKS : Hid (∀ w', Below w3.heap.size w3 w' → EB w' X a2 1 c2 zS ∧ (w'.cell? ⟨D, 0, none⟩ = some (.string (mk [95, 43, 95])) ∧ w'.cell? ⟨D, 1, none⟩ = some (.int .i64 3) ∧ w'.cell? ⟨D, 2, none⟩ = some (.int .i64 1)) ∧ w'.cell? ⟨b, o, none⟩ = some (.string (mk [95, 43, 95])) ∧ w'.cell? ⟨b, o + 1, none⟩ = some (.int .i64 3) ∧ w'.cell? ⟨b, o + 2, none⟩ = some (.int .i64 1) ∧ w'.cell? ⟨b, o + 3, none⟩ = some (.int .i64 6)) := Lib.hid fun w' h => by
      have := Ens.at4 (he3.below h) (k := 0) (by decide)
      rw [Nat.zero_mul, Nat.add_zero] at this
      exact ⟨hE3.below h, (hD3.below h).cells, this⟩
    have heq : ∀ w, (Op.equalIn 10000 58 (.agg #[.string (mk [95, 43, 95]), .int .i64 3, .int .i64 1, .int .i64 6]) (.agg #[.string (mk [95, 43, 95]), .int .i64 3, .int .i64 1, .int .i64 6])).run Tryz.prog w = .ok true w := fun w => eq_en (oX, 6) (oX, 6) w
    clear he3 hb3 hE3 hD3
    go_wp2_with fail
    -- the region (laid by genAy.py)
    refine wp_region_noPanic ?_
    refine wp_region_held_drew (S := fun w' => EB w' X a2 1 c2 zS ∧ (w'.cell? ⟨D, 0, none⟩ = some (.string (mk [95, 43, 95])) ∧ w'.cell? ⟨D, 1, none⟩ = some (.int .i64 3) ∧ w'.cell? ⟨D, 2, none⟩ = some (.int .i64 1)) ∧ w'.cell? ⟨b, o, none⟩ = some (.string (mk [95, 43, 95])) ∧ w'.cell? ⟨b, o + 1, none⟩ = some (.int .i64 3) ∧ w'.cell? ⟨b, o + 2, none⟩ = some (.int .i64 1) ∧ w'.cell? ⟨b, o + 3, none⟩ = some (.int .i64 6)) (by kernel_rfl) (HKS.out _ (Below.refl _ _).drew) (fun hHeld => ?_)
    refine wpAnyH_take (i := 0) (oi := { dst := some 14, op := Op.move (Operand.tmp 3), type := 33, pos := "law.go:18", after := #[], guard := none }) (v := ?_) rfl (by kernel_rfl) (by kernel_rfl) (by kernel_rfl) (fun _ _ _ h => h) (Or.inl ⟨by rfl, ?_⟩) (by assumption) ?_
    rotate_left
    · intro w' hSw
      try dsimp only at hSw
      go_simp
      try with_reducible rfl
    try simp only [Act.put, List.setIfInBounds_toArray, List.set_cons_zero, List.set_cons_succ]
    refine wpAnyH_take (i := 1) (oi := { dst := some 15, op := Op.binOp BinOp.eql 33 (Operand.tmp 14) (Operand.const (Value.int IntKind.i64 0)) 33, type := 4, pos := "law.go:18", after := #[{ on := 0, ground := Ground.data }], guard := none }) (v := ?_) rfl (by kernel_rfl) (by kernel_rfl) (by kernel_rfl) (fun _ _ _ h => h) (Or.inl ⟨by rfl, ?_⟩) (by assumption) ?_
    rotate_left
    · intro w' hSw
      try dsimp only at hSw
      go_simp
      try with_reducible rfl
    try simp only [Act.put, List.setIfInBounds_toArray, List.set_cons_zero, List.set_cons_succ]
    refine wpAnyH_take (i := 2) (oi := { dst := some 16, op := Op.move (Operand.tmp 15), type := 4, pos := "law.go:18", after := #[{ on := 1, ground := Ground.data }], guard := none }) (v := ?_) rfl (by kernel_rfl) (by kernel_rfl) (by kernel_rfl) (fun _ _ _ h => h) (Or.inl ⟨by rfl, ?_⟩) (by assumption) ?_
    rotate_left
    · intro w' hSw
      try dsimp only at hSw
      go_simp
      try with_reducible rfl
    try simp only [Act.put, List.setIfInBounds_toArray, List.set_cons_zero, List.set_cons_succ]
    refine wpAnyH_take (i := 3) (oi := { dst := some 17, op := Op.move (Operand.tmp 4), type := 39, pos := "law.go:18", after := #[{ on := 2, ground := Ground.guard }], guard := some (2, true) }) (v := ?_) rfl (by kernel_rfl) (by kernel_rfl) (by kernel_rfl) (fun _ _ _ h => h) (Or.inl ⟨by rfl, ?_⟩) (by assumption) ?_
    rotate_left
    · intro w' hSw
      try dsimp only at hSw
      go_simp
      try with_reducible rfl
    try simp only [Act.put, List.setIfInBounds_toArray, List.set_cons_zero, List.set_cons_succ]
    refine wpAnyH_take (i := 4) (oi := { dst := some 18, op := Op.call { callee := Callee.builtin Builtin.len, args := #[Operand.tmp 17], argTypes := #[39] }, type := 3, pos := "law.go:18", after := #[{ on := 3, ground := Ground.data }, { on := 2, ground := Ground.guard }], guard := some (2, true) }) (v := ?_) rfl (by kernel_rfl) (by kernel_rfl) (by kernel_rfl) (fun _ _ _ h => h) (Or.inl ⟨by rfl, ?_⟩) (by assumption) ?_
    rotate_left
    · intro w' hSw
      try dsimp only at hSw
      go_simp
      try with_reducible rfl
    try simp only [Act.put, List.setIfInBounds_toArray, List.set_cons_zero, List.set_cons_succ]
    refine wpAnyH_take (i := 5) (oi := { dst := some 19, op := Op.binOp BinOp.eql 3 (Operand.tmp 18) (Operand.const (Value.int IntKind.i64 1)) 3, type := 4, pos := "law.go:18", after := #[{ on := 4, ground := Ground.data }, { on := 2, ground := Ground.guard }], guard := some (2, true) }) (v := ?_) rfl (by kernel_rfl) (by kernel_rfl) (by kernel_rfl) (fun _ _ _ h => h) (Or.inl ⟨by rfl, ?_⟩) (by assumption) ?_
    rotate_left
    · intro w' hSw
      try dsimp only at hSw
      go_simp
      try with_reducible rfl
    try simp only [Act.put, List.setIfInBounds_toArray, List.set_cons_zero, List.set_cons_succ]
    refine wpAnyH_take (i := 6) (oi := { dst := some 20, op := Op.pick (Operand.tmp 16) (Operand.tmp 19) (Operand.const (Value.bool false)), type := 4, pos := "law.go:18", after := #[{ on := 2, ground := Ground.data }, { on := 5, ground := Ground.data }], guard := none }) (v := ?_) rfl (by kernel_rfl) (by kernel_rfl) (by kernel_rfl) (fun _ _ _ h => h) (Or.inl ⟨by rfl, ?_⟩) (by assumption) ?_
    rotate_left
    · intro w' hSw
      try dsimp only at hSw
      go_simp
      try with_reducible rfl
    try simp only [Act.put, List.setIfInBounds_toArray, List.set_cons_zero, List.set_cons_succ]
    refine wpAnyH_take (i := 7) (oi := { dst := some 21, op := Op.move (Operand.tmp 20), type := 4, pos := "law.go:18", after := #[{ on := 6, ground := Ground.data }, { on := 2, ground := Ground.chain }], guard := none }) (v := ?_) rfl (by kernel_rfl) (by kernel_rfl) (by kernel_rfl) (fun _ _ _ h => h) (Or.inl ⟨by rfl, ?_⟩) (by assumption) ?_
    rotate_left
    · intro w' hSw
      try dsimp only at hSw
      go_simp
      try with_reducible rfl
    try simp only [Act.put, List.setIfInBounds_toArray, List.set_cons_zero, List.set_cons_succ]
    refine wpAnyH_take (i := 8) (oi := { dst := some 22, op := Op.move (Operand.tmp 4), type := 39, pos := "law.go:18", after := #[{ on := 7, ground := Ground.guard }], guard := some (7, true) }) (v := ?_) rfl (by kernel_rfl) (by kernel_rfl) (by kernel_rfl) (fun _ _ _ h => h) (Or.inl ⟨by rfl, ?_⟩) (by assumption) ?_
    rotate_left
    · intro w' hSw
      try dsimp only at hSw
      go_simp
      try with_reducible rfl
    try simp only [Act.put, List.setIfInBounds_toArray, List.set_cons_zero, List.set_cons_succ]
    refine wpAnyH_take (i := 9) (oi := { dst := some 23, op := Op.indexAddr 39 (Operand.tmp 22) (Operand.const (Value.int IntKind.i64 0)), type := 0, pos := "law.go:18", after := #[{ on := 8, ground := Ground.data }, { on := 7, ground := Ground.guard }], guard := some (7, true) }) (v := ?_) rfl (by kernel_rfl) (by kernel_rfl) (by kernel_rfl) (fun _ _ _ h => h) (Or.inl ⟨by rfl, ?_⟩) (by assumption) ?_
    rotate_left
    · intro w' hSw
      try dsimp only at hSw
      go_simp
      try with_reducible rfl
    try simp only [Act.put, List.setIfInBounds_toArray, List.set_cons_zero, List.set_cons_succ]
    refine wpAnyH_take (i := 10) (oi := { dst := some 24, op := Op.load 58 (Operand.tmp 23), type := 58, pos := "law.go:18", after := #[{ on := 9, ground := Ground.data }, { on := 7, ground := Ground.guard }], guard := some (7, true) }) (v := ?_) rfl (by kernel_rfl) (by kernel_rfl) (by kernel_rfl) (fun _ _ _ h => h) (Or.inl ⟨by rfl, ?_⟩) (by assumption) ?_
    rotate_left
    · intro w' hSw
      try dsimp only at hSw
      go_simp
      try with_reducible rfl
    try simp only [Act.put, List.setIfInBounds_toArray, List.set_cons_zero, List.set_cons_succ]
    refine wpAnyH_take (i := 11) (oi := { dst := some 25, op := Op.load 28 (Operand.tmp 1), type := 28, pos := "law.go:18", after := #[{ on := 7, ground := Ground.guard }], guard := some (7, true) }) (v := ?_) rfl (by kernel_rfl) (by kernel_rfl) (by kernel_rfl) (fun _ _ _ h => h) (Or.inl ⟨by rfl, ?_⟩) (by assumption) ?_
    rotate_left
    · intro w' hSw
      try dsimp only at hSw
      go_simp
      try with_reducible rfl
    try simp only [Act.put, List.setIfInBounds_toArray, List.set_cons_zero, List.set_cons_succ]
    refine wpAnyH_take (i := 12) (oi := { dst := some 26, op := Op.build 58 #[(0, Operand.tmp 25), (1, Operand.const (Value.int IntKind.i64 6))], type := 58, pos := "law.go:18", after := #[{ on := 11, ground := Ground.data }, { on := 7, ground := Ground.guard }], guard := some (7, true) }) (v := ?_) rfl (by kernel_rfl) (by kernel_rfl) (by kernel_rfl) (fun _ _ _ h => h) (Or.inl ⟨by rfl, ?_⟩) (by assumption) ?_
    rotate_left
    · intro w' hSw
      try dsimp only at hSw
      go_simp
      try with_reducible rfl
    try simp only [Act.put, List.setIfInBounds_toArray, List.set_cons_zero, List.set_cons_succ]
    refine wpAnyH_take (i := 13) (oi := { dst := some 27, op := Op.binOp BinOp.eql 58 (Operand.tmp 24) (Operand.tmp 26) 58, type := 4, pos := "law.go:18", after := #[{ on := 10, ground := Ground.data }, { on := 12, ground := Ground.data }, { on := 7, ground := Ground.guard }], guard := some (7, true) }) (v := ?_) rfl (by kernel_rfl) (by kernel_rfl) (by kernel_rfl) (fun _ _ _ h => h) (Or.inl ⟨by rfl, ?_⟩) (by assumption) ?_
    rotate_left
    · intro w' hSw
      try dsimp only at hSw
      go_simp
      try with_reducible rfl
    try simp only [Act.put, List.setIfInBounds_toArray, List.set_cons_zero, List.set_cons_succ]
    refine wpAnyH_take (i := 14) (oi := { dst := some 28, op := Op.pick (Operand.tmp 21) (Operand.tmp 27) (Operand.const (Value.bool false)), type := 4, pos := "law.go:18", after := #[{ on := 7, ground := Ground.data }, { on := 13, ground := Ground.data }], guard := none }) (v := ?_) rfl (by kernel_rfl) (by kernel_rfl) (by kernel_rfl) (fun _ _ _ h => h) (Or.inl ⟨by rfl, ?_⟩) (by assumption) ?_
    rotate_left
    · intro w' hSw
      try dsimp only at hSw
      go_simp
      try with_reducible rfl
    try simp only [Act.put, List.setIfInBounds_toArray, List.set_cons_zero, List.set_cons_succ]
    refine wpAnyH_take (i := 15) (oi := { dst := some 29, op := Op.move (Operand.tmp 28), type := 4, pos := "law.go:18", after := #[{ on := 14, ground := Ground.data }, { on := 7, ground := Ground.chain }], guard := none }) (v := ?_) rfl (by kernel_rfl) (by kernel_rfl) (by kernel_rfl) (fun _ _ _ h => h) (Or.inl ⟨by rfl, ?_⟩) (by assumption) ?_
    rotate_left
    · intro w' hSw
      try dsimp only at hSw
      go_simp
      try with_reducible rfl
    try simp only [Act.put, List.setIfInBounds_toArray, List.set_cons_zero, List.set_cons_succ]
    refine take_env (i := 16) (oi := { dst := some 30, op := Op.load 26 (Operand.tmp 2), type := 26, pos := "law.go:18", after := #[{ on := 15, ground := Ground.guard }], guard := some (15, true) }) (Operand.tmp 2) rfl (by kernel_rfl) (by kernel_rfl) (by kernel_rfl) a2 1 c2 (zS) (fun _ _ _ h => h) (by rfl) rfl (X) rfl (rfl) (fun _ h => h.1) (by assumption) ?_
    try simp only [Act.put, List.setIfInBounds_toArray, List.set_cons_zero, List.set_cons_succ]
    refine wpAnyH_ready (rs := [17]) (by kernel_rfl) (by simp) ?_
    refine AllReadyH.cons (o := { dst := some 31, op := Op.call { callee := Callee.value (Operand.func 16), args := #[Operand.tmp 30, Operand.const (Value.string { data := #[42] })], argTypes := #[26, 9] }, type := 39, pos := "law.go:18", after := #[{ on := 16, ground := Ground.data }, { on := 15, ground := Ground.chain }, { on := 15, ground := Ground.guard }], guard := some (15, true) }) rfl (fun K hK => ?_) ?_
    · go_simp
      (go_at_call 16; (refine (entry_any a2 1 c2 [oX] zS [42] _ (HT3.out.keep (Below.refl _ _).drew) (HO3.out.below (Below.refl _ _).drew) rfl (by decide) oX_len).mono ?_))
      rw [entL_y]
      rintro e w4 ⟨a4, c4, rfl, he4, hb4⟩
      clear he4
      have HB4 : Hid (Below w3.heap.size w3 w4) := Lib.hid ((Below.refl _ _).drew.trans hb4)
      clear hb4
      refine hK.out _ _ (HKS.out _ HB4.out) (fun hHeld => ?_)
      clear hK K
      try simp only [Act.put, List.setIfInBounds_toArray, List.set_cons_zero, List.set_cons_succ]
      refine wpAnyH_take (i := 18) (oi := { dst := some 32, op := Op.call { callee := Callee.builtin Builtin.len, args := #[Operand.tmp 31], argTypes := #[39] }, type := 3, pos := "law.go:18", after := #[{ on := 17, ground := Ground.data }, { on := 15, ground := Ground.guard }], guard := some (15, true) }) (v := ?_) rfl (by kernel_rfl) (by kernel_rfl) (by kernel_rfl) (fun _ _ _ h => h) (Or.inl ⟨by rfl, ?_⟩) (by assumption) ?_
      rotate_left
      · intro w' hSw
        try dsimp only at hSw
        go_simp
        try with_reducible rfl
      try simp only [Act.put, List.setIfInBounds_toArray, List.set_cons_zero, List.set_cons_succ]
      refine wpAnyH_take (i := 19) (oi := { dst := some 33, op := Op.binOp BinOp.eql 3 (Operand.tmp 32) (Operand.const (Value.int IntKind.i64 0)) 3, type := 4, pos := "law.go:18", after := #[{ on := 18, ground := Ground.data }, { on := 15, ground := Ground.guard }], guard := some (15, true) }) (v := ?_) rfl (by kernel_rfl) (by kernel_rfl) (by kernel_rfl) (fun _ _ _ h => h) (Or.inl ⟨by rfl, ?_⟩) (by assumption) ?_
      rotate_left
      · intro w' hSw
        try dsimp only at hSw
        go_simp
        try with_reducible rfl
      try simp only [Act.put, List.setIfInBounds_toArray, List.set_cons_zero, List.set_cons_succ]
      refine wpAnyH_take (i := 20) (oi := { dst := some 34, op := Op.pick (Operand.tmp 29) (Operand.tmp 33) (Operand.const (Value.bool false)), type := 4, pos := "law.go:18", after := #[{ on := 15, ground := Ground.data }, { on := 19, ground := Ground.data }], guard := none }) (v := ?_) rfl (by kernel_rfl) (by kernel_rfl) (by kernel_rfl) (fun _ _ _ h => h) (Or.inl ⟨by rfl, ?_⟩) (by assumption) ?_
      rotate_left
      · intro w' hSw
        try dsimp only at hSw
        go_simp
        try with_reducible rfl
      try simp only [Act.put, List.setIfInBounds_toArray, List.set_cons_zero, List.set_cons_succ]
      refine wpAnyH_take (i := 21) (oi := { dst := some 35, op := Op.move (Operand.tmp 34), type := 4, pos := "law.go:18", after := #[{ on := 20, ground := Ground.data }, { on := 17, ground := Ground.chain }], guard := none }) (v := ?_) rfl (by kernel_rfl) (by kernel_rfl) (by kernel_rfl) (fun _ _ _ h => h) (Or.inl ⟨by rfl, ?_⟩) (by assumption) ?_
      rotate_left
      · intro w' hSw
        try dsimp only at hSw
        go_simp
        try with_reducible rfl
      try simp only [Act.put, List.setIfInBounds_toArray, List.set_cons_zero, List.set_cons_succ]
      refine take_env (i := 22) (oi := { dst := some 36, op := Op.load 26 (Operand.tmp 2), type := 26, pos := "law.go:18", after := #[{ on := 21, ground := Ground.guard }], guard := some (21, true) }) (Operand.tmp 2) rfl (by kernel_rfl) (by kernel_rfl) (by kernel_rfl) a2 1 c2 (zS) (fun _ _ _ h => h) (by rfl) rfl (X) rfl (rfl) (fun _ h => h.1) (by assumption) ?_
      try simp only [Act.put, List.setIfInBounds_toArray, List.set_cons_zero, List.set_cons_succ]
      refine wpAnyH_ready (rs := [23]) (by kernel_rfl) (by simp) ?_
      refine AllReadyH.cons (o := { dst := some 37, op := Op.call { callee := Callee.value (Operand.func 18), args := #[Operand.tmp 36], argTypes := #[26] }, type := 4, pos := "law.go:18", after := #[{ on := 22, ground := Ground.data }, { on := 21, ground := Ground.chain }, { on := 21, ground := Ground.guard }], guard := some (21, true) }) rfl (fun K hK => ?_) ?_
      · go_simp
        (go_at_call 18; (with_reducible refine (uniq_any a2 1 c2 [oX] zS _ (HT3.out.keep HB4.out) (HO3.out.below HB4.out) (by decide) oX_len).mono ?_))
        rw [uniq_x]
        rintro e w5 ⟨rfl, hb5⟩
        have HB5 : Hid (Below w3.heap.size w3 w5) := Lib.hid (HB4.out.trans (hb5.mono HB4.out.size))
        clear hb5
        refine hK.out _ _ (HKS.out _ HB5.out) (fun hHeld => ?_)
        clear hK K
        try simp only [Act.put, List.setIfInBounds_toArray, List.set_cons_zero, List.set_cons_succ]
        refine wpAnyH_take (i := 24) (oi := { dst := some 38, op := Op.pick (Operand.tmp 35) (Operand.tmp 37) (Operand.const (Value.bool false)), type := 4, pos := "law.go:18", after := #[{ on := 21, ground := Ground.data }, { on := 23, ground := Ground.data }], guard := none }) (v := ?_) rfl (by kernel_rfl) (by kernel_rfl) (by kernel_rfl) (fun _ _ _ h => h) (Or.inl ⟨by rfl, ?_⟩) (by assumption) ?_
        rotate_left
        · intro w' hSw
          try dsimp only at hSw
          go_simp
          try with_reducible rfl
        try simp only [Act.put, List.setIfInBounds_toArray, List.set_cons_zero, List.set_cons_succ]
        refine wpAnyH_take (i := 25) (oi := { dst := some 0, op := Op.assign (Operand.tmp 38), type := 4, pos := "law.go:18", after := #[{ on := 24, ground := Ground.data }, { on := 23, ground := Ground.chain }, { on := 0, ground := Ground.phase }, { on := 1, ground := Ground.phase }, { on := 2, ground := Ground.phase }, { on := 3, ground := Ground.phase }, { on := 4, ground := Ground.phase }, { on := 5, ground := Ground.phase }, { on := 6, ground := Ground.phase }, { on := 7, ground := Ground.phase }, { on := 8, ground := Ground.phase }, { on := 9, ground := Ground.phase }, { on := 10, ground := Ground.phase }, { on := 11, ground := Ground.phase }, { on := 12, ground := Ground.phase }, { on := 13, ground := Ground.phase }, { on := 14, ground := Ground.phase }, { on := 15, ground := Ground.phase }, { on := 16, ground := Ground.phase }, { on := 17, ground := Ground.phase }, { on := 18, ground := Ground.phase }, { on := 19, ground := Ground.phase }, { on := 20, ground := Ground.phase }, { on := 21, ground := Ground.phase }, { on := 22, ground := Ground.phase }, { on := 23, ground := Ground.phase }, { on := 24, ground := Ground.phase }], guard := none }) (v := ?_) rfl (by kernel_rfl) (by kernel_rfl) (by kernel_rfl) (fun _ _ _ h => h) (Or.inl ⟨by rfl, ?_⟩) (by assumption) ?_
        rotate_left
        · intro w' hSw
          try dsimp only at hSw
          go_simp
          try with_reducible rfl
        try simp only [Act.put, List.setIfInBounds_toArray, List.set_cons_zero]
        refine wpAnyH_done (by kernel_rfl) ?_ _
        refine NoPanic.normal ?_
        have HBE : Hid (Below D w w5) := Lib.hid (HB1.out.trans ((HB3.out.trans (HB5.out.mono HB3.out.size)).mono (by have := HS1.out; omega)))
        go_wp2
        go_ret
        exact ⟨rfl, by rw [← HDD.out]; exact HBE.out⟩
      · exact AllReadyH.nil
    · exact AllReadyH.nil
    -- behind it

end Go.Proofs.YtjkjbgekpkhpfaaGreatDoor
