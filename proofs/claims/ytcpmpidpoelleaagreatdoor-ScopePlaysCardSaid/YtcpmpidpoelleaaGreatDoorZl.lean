/- The document's Equal and Start of layer 16; the laws' fit, declared (laid by genZl.py). -/
import Derived.Test.YtcpmpidpoelleaaGreatDoorZi
import Derived.Test.YtcpmpidpoelleaaGreatDoorZj
import Derived.Test.YtcpmpidpoelleaaGreatDoorMQ
namespace Go.Proofs.YtcpmpidpoelleaaGreatDoor
open Go.RowKit

set_option maxRecDepth 20000 in
theorem rnew16_any (w : World) : Calls Tryz.prog 15 #[] w fun e w' => e = .returned (.agg (ev none 0 0 zS)) ∧ Below w.heap.size w w' := by
  obtain ⟨w0, hw0⟩ : ∃ w0, w0 = w.alloc (.cells #[.slice none 0 0, .int .i64 0, .int .i64 0, .int .i64 0, .int .i64 0, .int .i64 0, .int .i64 0, .int .i64 0, .int .i64 0, .int .i64 0, .int .i64 0] 28) := ⟨_, rfl⟩
  obtain ⟨B, hB⟩ : ∃ B, B = w.heap.size := ⟨_, rfl⟩
  have HE0 : Hid (EB w0 B none 0 0 z0) := Lib.hid (by rw [hw0, hB, ← ev_zero]; exact EB.new w none 0 0 z0)
  have HB0 : Hid (Below B w w0) := Lib.hid (by rw [hw0, hB]; exact (Below.refl _ _).alloc (Nat.le_refl _) _)
  have HS : Hid (B < w0.heap.size) := Lib.hid HE0.out.lt
  have HBB := Lib.hid hB
  have hbu : ∀ w, (Instr.build 28 #[(1, .agg (rv zS))]).run Tryz.prog w = .ok (.agg (ev none 0 0 zS)) w := fun w => built_rows rfl w
  go_enter Tryz.func15, Tryz.ntmps15
  go_wp2_with fail
  rw [← hw0, ← hB]
  clear hw0 hB
  refine (rstart_any w0).mono ?_
  rintro e w1 ⟨rfl, hb1⟩
  have HE1 := Lib.hid (HE0.out.below hb1)
  have HB1 := Lib.hid (HB0.out.trans (hb1.mono (Nat.le_of_lt HS.out)))
  clear hb1
  go_wp2_with (refine store_env rfl (.tmp 0) (.tmp 2) rfl B rfl none 0 0 zS rfl rfl none 0 0 z0 z0_len HE1.out ?_; intro w2 he2 ho2; have HE2 := Lib.hid he2; have HO2 := Lib.hid ho2; clear he2 ho2)
  exact bodyPost_ret (ret_env rfl _ _ B none 0 0 zS rfl rfl HE2.out) rfl ⟨rfl, by rw [← HBB.out]; exact HB1.out.trans (HO2.out.below (Nat.le_refl _))⟩

set_option maxRecDepth 20000 in
theorem rsstart_any (w : World) : Calls Tryz.prog 7 #[] w fun e w' => e = .returned (.agg (sv xS)) ∧ Below w.heap.size w w' := by
  obtain ⟨B, hB⟩ : ∃ B, B = w.heap.size := ⟨_, rfl⟩
  obtain ⟨w1, hw1⟩ : ∃ w1, w1 = w.alloc (.cells #[.slice none 0 0, .int .i64 0, .int .i64 0, .int .i64 0, .int .i64 0, .int .i64 0, .int .i64 0, .int .i64 0, .int .i64 0, .int .i64 0, .int .i64 0, .slice none 0 0] 31) := ⟨_, rfl⟩
  have HR1 : Hid (SB w1 B x0) := Lib.hid (by rw [hw1, hB, ← sv_zero]; exact SB.new w x0)
  have HB1 : Hid (Below B w w1) := Lib.hid (by rw [hw1, hB]; exact below_alloc w _)
  have HBB := Lib.hid hB
  go_enter Tryz.func7, Tryz.ntmps7
  go_wp2_with fail
  rw [← hw1, ← hB]
  clear hw1 hB
  refine (rnew16_any w1).mono ?_
  rintro e w2 ⟨rfl, hb2⟩
  have HR2 := Lib.hid (HR1.out.below hb2)
  have HB2 : Hid (Below B w w2) := Lib.hid (HB1.out.trans (hb2.mono (Nat.le_of_lt HR1.out.lt)))
  clear hb2
  go_wp2_with (first
    | (refine store_scope rfl (.tmp 0) (.tmp 2) rfl B rfl xS rfl rfl x0 rfl HR2.out ?_; intro w3 he3 hq3; have HE3 := Lib.hid he3; have HQ3 := Lib.hid hq3; clear he3 hq3)
    | (refine build_scope1 rfl (.tmp 1) rfl ⟨none, 0, 0, [], zS⟩ rfl rfl ?_))
  exact bodyPost_ret (ret_scope rfl _ _ B xS rfl rfl HE3.out) rfl ⟨rfl, by rw [← HBB.out]; exact HB2.out.trans (HQ3.out.below (Nat.le_refl _))⟩

theorem k_at {V V' : List AV} (h : V.map AV.k = V'.map AV.k) {i : Nat} (hi : i < V.length) : (avA V i).L = (avA V' i).L ∧ (avA V i).z = (avA V' i).z := by
  have hl : V.length = V'.length := by have := congrArg List.length h; simpa using this
  have h1 : (V.map AV.k)[i]? = (V'.map AV.k)[i]? := by rw [h]
  rw [List.getElem?_map, List.getElem?_map, List.getElem?_eq_getElem hi, List.getElem?_eq_getElem (by omega)] at h1
  rw [avA_eq hi, avA_eq (show i < V'.length by omega)]
  simp only [Option.map_some, Option.some.injEq] at h1
  exact ⟨congrArg Prod.fst h1, congrArg Prod.snd h1⟩

set_option maxRecDepth 20000 in
set_option maxHeartbeats 8000000 in
/-- The document's Equal at two that say the same. -/
theorem sequal_any (x y : XV) (w : World) (h : x.ok w) (h' : y.ok w) (hk : okS x.k) (hxy : x.k = y.k) :
    Calls Tryz.prog 11 #[.agg (sv x), .agg (sv y)] w fun e w' => e = .returned (.bool true) ∧ Below w.heap.size w w' := by
  obtain ⟨B, hB⟩ : ∃ B, B = w.heap.size := ⟨_, rfl⟩
  obtain ⟨w1, hw1⟩ : ∃ w1, w1 = w.alloc (.cells (sv x) 31) := ⟨_, rfl⟩
  obtain ⟨w2, hw2⟩ : ∃ w2, w2 = w1.alloc (.cells (sv y) 31) := ⟨_, rfl⟩
  have s1 : w1.heap.size = B + 1 := by rw [hw1, hB]; simp
  have HE1 : Hid (SB w2 B x) := Lib.hid (by rw [hw2, hw1, hB]; exact (SB.new w x).alloc _)
  have HE2 : Hid (SB w2 (B + 1) y) := Lib.hid (by rw [hw2, ← s1]; exact SB.new w1 y)
  have HB2 : Hid (Below B w w2) := Lib.hid (by rw [hw2, hw1, hB]; exact (below_alloc w _).alloc (by simp) _)
  have HSM := Lib.hid (XV.small h hk)
  have HSN := Lib.hid (XV.small h' (hxy ▸ hk))
  have HX2 : Hid (x.ok w2) := Lib.hid (XV.below h (hB ▸ HB2.out))
  have HY2 : Hid (y.ok w2) := Lib.hid (XV.below h' (hB ▸ HB2.out))
  have HZ : Hid (x.e.z.length = 10) := Lib.hid HSM.out.2.2.2.2
  have HZ' : Hid (y.e.z.length = 10) := Lib.hid HSN.out.2.2.2.2
  have hmk : x.V.map AV.k = y.V.map AV.k := congrArg SC.st hxy
  have hn : y.n = x.n := by
    have := congrArg List.length hmk
    rw [List.length_map, List.length_map, HSM.out.2.2.2.1, HSN.out.2.2.2.1] at this
    exact this.symm
  have hek : x.e.L = y.e.L ∧ x.e.z = y.e.z := ⟨congrArg (fun s : SC => s.e.1) hxy, congrArg (fun s : SC => s.e.2) hxy⟩
  have HEK := Lib.hid hek
  have HMK := Lib.hid hmk
  have HNN := Lib.hid hn
  have hn6 := HSM.out.2.1
  have HBB := Lib.hid hB
  clear h h' hk hxy hek hmk s1
  go_enter Tryz.func11, Tryz.ntmps11
  go_wp2_with (first
    | (refine load_senv rfl (.tmp 8) rfl (B + 1) rfl y HZ'.out HE2.out ?_)
    | (rw [← hw1, ← hw2, ← hB]; clear hw1 hw2 hB hn; refine load_senv rfl (.tmp 6) rfl B rfl x HZ.out HE1.out ?_))
  refine (equal_any x.e.a y.e.a x.e.n y.e.n x.e.c y.e.c x.e.L y.e.L x.e.z y.e.z w2 HX2.out.1.1 HY2.out.1.1 HZ.out HZ'.out (by have := HSM.out.1; omega) (by have := HSN.out.1; omega)).mono ?_
  rw [decide_eq_true HEK.out]
  rintro e w3 ⟨rfl, hb3⟩
  have HB3 : Hid (Below w2.heap.size w2 w3) := Lib.hid hb3
  clear hb3
  have HKS : Hid (∀ w', Below w2.heap.size w2 w' → w'.cell? ⟨B, 11, none⟩ = some (.slice x.a x.n x.c) ∧ w'.cell? ⟨B + 1, 11, none⟩ = some (.slice y.a x.n y.c)) := Lib.hid fun w' hb => ⟨(HE1.out.below hb).c11 HZ.out, by have := (HE2.out.below hb).c11 HZ'.out; rw [HNN.out] at this; exact this⟩
  obtain ⟨e11, f11⟩ := HKS.out _ HB3.out
  go_wp2
  clear e11 f11
  go_loopw [5] (fun v wr => ∃ i : Nat, v = .int .i64 i ∧ i ≤ x.n ∧ Hid (Below w2.heap.size w2 wr)) (fun v _ => x.n - (intOf v).toNat)
  case atStart => exact ⟨0, rfl, Nat.zero_le _, HB3⟩
  case round =>
    clear HB3
    obtain ⟨i, rfl, hi, HBr⟩ := hrel
    obtain ⟨e11, f11⟩ := HKS.out _ HBr.out
    by_cases hlt : i < x.n
    · have hlt' : (i : Int) < (x.n : Int) := by omega
      obtain ⟨b, off, hxa, _, _⟩ := HX2.out.2.row.at_ (by omega)
      obtain ⟨b', off', hya, _, _⟩ := HY2.out.2.row.at_ (by have := HNN.out; omega)
      have HS : Hid (∀ w', Below w2.heap.size w2 w' → (∀ j, j < 11 → w'.cell? ⟨b, off + i * 11 + j, none⟩ = (ev (avA x.V i).a (avA x.V i).n (avA x.V i).c (avA x.V i).z)[j]?) ∧ (∀ j, j < 11 → w'.cell? ⟨b', off' + i * 11 + j, none⟩ = (ev (avA y.V i).a (avA y.V i).n (avA y.V i).c (avA y.V i).z)[j]?) ∧ w'.cell? ⟨B, 11, none⟩ = some (.slice (some ⟨b, off, none⟩) x.n x.c) ∧ w'.cell? ⟨B + 1, 11, none⟩ = some (.slice (some ⟨b', off', none⟩) x.n y.c)) := Lib.hid fun w' hb => by
        refine ⟨fun j hj => ?_, fun j hj => ?_, ?_, ?_⟩
        · have h2 := HX2.out.2.below hb
          rw [hxa] at h2
          exact h2.at hlt hj
        · have h2 := HY2.out.2.below hb
          rw [hya] at h2
          exact h2.at (by have := HNN.out; omega) hj
        · have := (HKS.out _ hb).1; rw [hxa] at this; exact this
        · have := (HKS.out _ hb).2; rw [hya] at this; exact this
      have HMX : Hid ((avA x.V i).ok w2 ∧ (avA x.V i).n ≤ 16) := Lib.hid (by
        have := avA_mem (V := x.V) (k := i) (by have := HSM.out.2.2.2.1; omega)
        exact ⟨HX2.out.2.ok _ this, HSM.out.2.2.1 _ this⟩)
      have HMY : Hid ((avA y.V i).ok w2 ∧ (avA y.V i).n ≤ 16) := Lib.hid (by
        have := avA_mem (V := y.V) (k := i) (by have := HSN.out.2.2.2.1; have := HNN.out; omega)
        exact ⟨HY2.out.2.ok _ this, HSN.out.2.2.1 _ this⟩)
      have HEQ : Hid ((avA x.V i).L = (avA y.V i).L ∧ (avA x.V i).z = (avA y.V i).z) := Lib.hid (k_at HMK.out (by have := HSM.out.2.2.2.1; omega))
      rw [hxa] at e11
      rw [hya] at f11
      clear hxa hya
      go_wp2_with fail
      refine wp_region_noPanic ?_
      refine wp_region_held_drew (S := fun w' => (∀ j, j < 11 → w'.cell? ⟨b, off + i * 11 + j, none⟩ = (ev (avA x.V i).a (avA x.V i).n (avA x.V i).c (avA x.V i).z)[j]?) ∧ (∀ j, j < 11 → w'.cell? ⟨b', off' + i * 11 + j, none⟩ = (ev (avA y.V i).a (avA y.V i).n (avA y.V i).c (avA y.V i).z)[j]?) ∧ w'.cell? ⟨B, 11, none⟩ = some (.slice (some ⟨b, off, none⟩) x.n x.c) ∧ w'.cell? ⟨B + 1, 11, none⟩ = some (.slice (some ⟨b', off', none⟩) x.n y.c)) (by kernel_rfl) (HS.out _ HBr.out.drew) (fun hHeld => ?_)
      refine wpAnyH_take (i := 0) (oi := { dst := some 28, op := Op.fieldAddr 31 (Operand.tmp 2) 1, type := 0, pos := "ref.go:50", after := #[], guard := none }) (v := ?_) rfl (by kernel_rfl) (by kernel_rfl) (by kernel_rfl) (fun _ _ _ h => h) (Or.inl ⟨by rfl, ?_⟩) (by assumption) ?_
      rotate_left
      · intro w' hSw
        try dsimp only at hSw
        go_simp
        try with_reducible rfl
      try simp only [Act.put, List.setIfInBounds_toArray, List.set_cons_zero, List.set_cons_succ]
      refine wpAnyH_take (i := 1) (oi := { dst := some 29, op := Op.load 29 (Operand.tmp 28), type := 29, pos := "ref.go:50", after := #[{ on := 0, ground := Ground.data }], guard := none }) (v := ?_) rfl (by kernel_rfl) (by kernel_rfl) (by kernel_rfl) (fun _ _ _ h => h) (Or.inl ⟨by rfl, ?_⟩) (by assumption) ?_
      rotate_left
      · intro w' hSw
        try dsimp only at hSw
        go_simp
        try with_reducible rfl
      try simp only [Act.put, List.setIfInBounds_toArray, List.set_cons_zero, List.set_cons_succ]
      refine wpAnyH_take (i := 2) (oi := { dst := some 30, op := Op.move (Operand.tmp 5), type := 3, pos := "ref.go:50", after := #[], guard := none }) (v := ?_) rfl (by kernel_rfl) (by kernel_rfl) (by kernel_rfl) (fun _ _ _ h => h) (Or.inl ⟨by rfl, ?_⟩) (by assumption) ?_
      rotate_left
      · intro w' hSw
        try dsimp only at hSw
        go_simp
        try with_reducible rfl
      try simp only [Act.put, List.setIfInBounds_toArray, List.set_cons_zero, List.set_cons_succ]
      refine wpAnyH_take (i := 3) (oi := { dst := some 31, op := Op.indexAddr 29 (Operand.tmp 29) (Operand.tmp 30), type := 0, pos := "ref.go:50", after := #[{ on := 1, ground := Ground.data }, { on := 2, ground := Ground.data }], guard := none }) (v := ?_) rfl (by kernel_rfl) (by kernel_rfl) (by kernel_rfl) (fun _ _ _ h => h) (Or.inl ⟨by rfl, ?_⟩) (by assumption) ?_
      rotate_left
      · intro w' hSw
        try dsimp only at hSw
        go_simp
        try with_reducible rfl
      try simp only [Act.put, List.setIfInBounds_toArray, List.set_cons_zero, List.set_cons_succ]
      refine take_aenv (i := 4) (oi := { dst := some 32, op := Op.load 28 (Operand.tmp 31), type := 28, pos := "ref.go:50", after := #[{ on := 3, ground := Ground.data }], guard := none }) (Operand.tmp 31) rfl (by kernel_rfl) (by kernel_rfl) (by kernel_rfl) (avA x.V i).a (avA x.V i).n (avA x.V i).c (avA x.V i).z (fun _ _ _ h => h) (by rfl) rfl (b) (off + i * 11) rfl (HMX.out.1.2) (fun w h => h.1) (by assumption) ?_
      try simp only [Act.put, List.setIfInBounds_toArray, List.set_cons_zero, List.set_cons_succ]
      refine wpAnyH_take (i := 5) (oi := { dst := some 33, op := Op.fieldAddr 31 (Operand.tmp 3) 1, type := 0, pos := "ref.go:50", after := #[], guard := none }) (v := ?_) rfl (by kernel_rfl) (by kernel_rfl) (by kernel_rfl) (fun _ _ _ h => h) (Or.inl ⟨by rfl, ?_⟩) (by assumption) ?_
      rotate_left
      · intro w' hSw
        try dsimp only at hSw
        go_simp
        try with_reducible rfl
      try simp only [Act.put, List.setIfInBounds_toArray, List.set_cons_zero, List.set_cons_succ]
      refine wpAnyH_take (i := 6) (oi := { dst := some 34, op := Op.load 29 (Operand.tmp 33), type := 29, pos := "ref.go:50", after := #[{ on := 5, ground := Ground.data }], guard := none }) (v := ?_) rfl (by kernel_rfl) (by kernel_rfl) (by kernel_rfl) (fun _ _ _ h => h) (Or.inl ⟨by rfl, ?_⟩) (by assumption) ?_
      rotate_left
      · intro w' hSw
        try dsimp only at hSw
        go_simp
        try with_reducible rfl
      try simp only [Act.put, List.setIfInBounds_toArray, List.set_cons_zero, List.set_cons_succ]
      refine wpAnyH_take (i := 7) (oi := { dst := some 35, op := Op.move (Operand.tmp 5), type := 3, pos := "ref.go:50", after := #[], guard := none }) (v := ?_) rfl (by kernel_rfl) (by kernel_rfl) (by kernel_rfl) (fun _ _ _ h => h) (Or.inl ⟨by rfl, ?_⟩) (by assumption) ?_
      rotate_left
      · intro w' hSw
        try dsimp only at hSw
        go_simp
        try with_reducible rfl
      try simp only [Act.put, List.setIfInBounds_toArray, List.set_cons_zero, List.set_cons_succ]
      refine wpAnyH_take (i := 8) (oi := { dst := some 36, op := Op.indexAddr 29 (Operand.tmp 34) (Operand.tmp 35), type := 0, pos := "ref.go:50", after := #[{ on := 6, ground := Ground.data }, { on := 7, ground := Ground.data }], guard := none }) (v := ?_) rfl (by kernel_rfl) (by kernel_rfl) (by kernel_rfl) (fun _ _ _ h => h) (Or.inl ⟨by rfl, ?_⟩) (by assumption) ?_
      rotate_left
      · intro w' hSw
        try dsimp only at hSw
        go_simp
        try with_reducible rfl
      try simp only [Act.put, List.setIfInBounds_toArray, List.set_cons_zero, List.set_cons_succ]
      refine take_aenv (i := 9) (oi := { dst := some 37, op := Op.load 28 (Operand.tmp 36), type := 28, pos := "ref.go:50", after := #[{ on := 8, ground := Ground.data }], guard := none }) (Operand.tmp 36) rfl (by kernel_rfl) (by kernel_rfl) (by kernel_rfl) (avA y.V i).a (avA y.V i).n (avA y.V i).c (avA y.V i).z (fun _ _ _ h => h) (by rfl) rfl (b') (off' + i * 11) rfl (HMY.out.1.2) (fun w h => h.2.1) (by assumption) ?_
      try simp only [Act.put, List.setIfInBounds_toArray, List.set_cons_zero, List.set_cons_succ]
      refine wpAnyH_ready (rs := [10]) (by kernel_rfl) (by simp) ?_
      refine AllReadyH.cons (o := { dst := some 38, op := Op.call { callee := Callee.value (Operand.func 13), args := #[Operand.tmp 32, Operand.tmp 37], argTypes := #[28, 28] }, type := 4, pos := "ref.go:50", after := #[{ on := 4, ground := Ground.data }, { on := 9, ground := Ground.data }], guard := none }) rfl (fun K hK => ?_) ?_
      · go_simp
        (go_at_call 13; (refine (equal_any (avA x.V i).a (avA y.V i).a (avA x.V i).n (avA y.V i).n (avA x.V i).c (avA y.V i).c (avA x.V i).L (avA y.V i).L (avA x.V i).z (avA y.V i).z _ (Vs.below HMX.out.1.1 HBr.out.drew) (Vs.below HMY.out.1.1 HBr.out.drew) HMX.out.1.2 HMY.out.1.2 (by have := HMX.out.2; omega) (by have := HMY.out.2; omega)).mono ?_); rw [decide_eq_true HEQ.out]; rintro e w5 ⟨rfl, hb5⟩)
        have HB5 : Hid (Below w2.heap.size w2 w5) := Lib.hid (HBr.out.drew.trans (hb5.mono HBr.out.size))
        clear hb5
        refine hK.out _ _ (HS.out _ HB5.out) (fun hHeld => ?_)
        clear hK K
        try simp only [Act.put, List.setIfInBounds_toArray, List.set_cons_zero, List.set_cons_succ]
        refine wpAnyH_take (i := 11) (oi := { dst := some 39, op := Op.unOp UnOp.not 4 (Operand.tmp 38), type := 4, pos := "ref.go:50", after := #[{ on := 10, ground := Ground.data }], guard := none }) (v := ?_) rfl (by kernel_rfl) (by kernel_rfl) (by kernel_rfl) (fun _ _ _ h => h) (Or.inl ⟨by rfl, ?_⟩) (by assumption) ?_
        rotate_left
        · intro w' hSw
          try dsimp only at hSw
          go_simp
          try with_reducible rfl
        try simp only [Act.put, List.setIfInBounds_toArray, List.set_cons_zero, List.set_cons_succ]
        refine wpAnyH_done (by kernel_rfl) ?_ _
        refine NoPanic.normal ?_
        go_wp2
        go_roundw
        case rel => exact ⟨i + 1, by go_num, by omega, HB5⟩
        case measure => simp [intOf]; omega
      · exact AllReadyH.nil
    · have hlt' : ¬ (i : Int) < (x.n : Int) := by omega
      go_wp2
      go_ret
      exact ⟨rfl, by rw [← HBB.out]; exact HB2.out.trans (HBr.out.mono (by have := HE1.out.lt; omega))⟩

/-! ### A directive's variable -/

theorem int_size1 : (Tryz.prog.info? 3).map (·.size) = some 1 := by kernel_rfl
theorem decl_info6 : (Tryz.prog.info? 37).map (·.size) = some 6 := by kernel_rfl
theorem dA_one (d : DV) : (dA d).all (·.oneCell') = true := by simp [dA, Value.oneCell']
section
variable {ops : Array Oper} {rest : List Oper} {o : Oper} {A : Act} {w : World} {Q : Exit → Act → World → Prop}
theorem store_dk (hgd : o.guard = none) (p q : Operand) (ho : o.op = .store 3 p q) (b : Nat) (hx : A.eval p = .pointer (some ⟨b, 0, none⟩)) (v : Int) (hy : A.eval q = .int .i64 v) (d : DV) (h : DB6 w b d)
    (k : ∀ w', DB6 w' b (v, d.2) → Only b w w' → wpList Tryz.prog ops Q rest (A.put o.dst undef) w') : wpList Tryz.prog ops Q (o :: rest) A w :=
  wpList_store_cell hgd 3 37 p q ho b 0 (dvC d) (.int .i64 v) hx hy int_size1 rfl h (by simp [dvC]) rfl fun w' h' ho' => k w' h' ho'
theorem store_dg (hgd : o.guard = none) (p q : Operand) (ho : o.op = .store 3 p q) (b : Nat) (hx : A.eval p = .pointer (some ⟨b, 4, none⟩)) (v : Int) (hy : A.eval q = .int .i64 v) (d : DV) (h : DB6 w b d)
    (k : ∀ w', DB6 w' b (d.1, d.2.1, v, d.2.2.2) → Only b w w' → wpList Tryz.prog ops Q rest (A.put o.dst undef) w') : wpList Tryz.prog ops Q (o :: rest) A w :=
  wpList_store_cell hgd 3 37 p q ho b 4 (dvC d) (.int .i64 v) hx hy int_size1 rfl h (by simp [dvC]) rfl fun w' h' ho' => k w' h' ho'
theorem store_dh (hgd : o.guard = none) (p q : Operand) (ho : o.op = .store 3 p q) (b : Nat) (hx : A.eval p = .pointer (some ⟨b, 5, none⟩)) (v : Int) (hy : A.eval q = .int .i64 v) (d : DV) (h : DB6 w b d)
    (k : ∀ w', DB6 w' b (d.1, d.2.1, d.2.2.1, v) → Only b w w' → wpList Tryz.prog ops Q rest (A.put o.dst undef) w') : wpList Tryz.prog ops Q (o :: rest) A w :=
  wpList_store_cell hgd 3 37 p q ho b 5 (dvC d) (.int .i64 v) hx hy int_size1 rfl h (by simp [dvC]) rfl fun w' h' ho' => k w' h' ho'
theorem store_do (hgd : o.guard = none) (p q : Operand) (ho : o.op = .store 35 p q) (b : Nat) (hx : A.eval p = .pointer (some ⟨b, 1, none⟩)) (v : OP) (hy : A.eval q = .agg #[.string (mk v.1), .int .i64 v.2.1, .int .i64 v.2.2]) (d : DV) (h : DB6 w b d)
    (k : ∀ w', DB6 w' b (d.1, v, d.2.2) → Only b w w' → wpList Tryz.prog ops Q rest (A.put o.dst undef) w') : wpList Tryz.prog ops Q (o :: rest) A w :=
  wpList_store_at hgd 35 37 p q ho b 1 (dvC d) (opC v) hx hy op_size3 h (by simp [dvC, opC]) (fun u hu => by
    simp only [opC, List.mem_cons, List.not_mem_nil, or_false] at hu
    rcases hu with rfl | rfl | rfl <;> rfl) fun w' h' ho' => k w' h' ho'
theorem load_decl (hw : Region.wanted o (yielded ops A.tmps) = true) (p : Operand) (ho : o.op = .load 37 p)
    (b : Nat) (hx : A.eval p = .pointer (some ⟨b, 0, none⟩)) (d : DV) (h : DB6 w b d)
    (k : wpList Tryz.prog ops Q rest (A.put o.dst (.agg (dA d))) w) : wpList Tryz.prog ops Q (o :: rest) A w :=
  wpList_step fun K hK => by
    rw [if_pos hw]
    exact wp_load_row 37 p ho b hx _ _ _ _ h Tryz.underlying37 rfl decl_info6 (hK _ _ k)
theorem store_decl6 (hgd : o.guard = none) (p q : Operand) (ho : o.op = .store 37 p q)
    (b : Nat) (hx : A.eval p = .pointer (some ⟨b, 0, none⟩)) (d' : DV) (hy : A.eval q = .agg (dA d')) (d : DV) (h : DB6 w b d)
    (k : ∀ w', DB6 w' b d' → Only b w w' → wpList Tryz.prog ops Q rest (A.put o.dst undef) w') : wpList Tryz.prog ops Q (o :: rest) A w :=
  wpList_store_row hgd 37 p q ho b (dA d') hx hy _ _ h decl_info6 rfl (dA_one d') (k _ (setRow_heap w b _ _ _ _ h) (Only.ofRow w b _))
end
theorem ret_decl6 {fn : Func} {p : Tmp} (h : fn.results = #[.cell p 37]) (tmps : Array Value) (w : World) (b : Nat) (d : DV)
    (hp : tmps.getD p undef = .pointer (some ⟨b, 0, none⟩)) (hg : DB6 w b d) : (results fn tmps).run Tryz.prog w = .ok (.agg (dA d)) w :=
  results_cell_row h tmps w b _ _ _ _ hp hg Tryz.underlying37 rfl decl_info6
def dZ : DV := (0, ([], 0, 0), 0, 0)
theorem D3.only {w w' : World} {D g : Nat} {o : OP} (h : D3 w D o) (ho : Only g w w') (hne : D ≠ g) : D3 w' D o := (ho.block D hne).trans h

set_option maxRecDepth 20000 in
set_option maxHeartbeats 8000000 in
theorem lfit_any (d : DV) (w : World) (hp : d.2.1.1.length ≤ 140737488355328) :
    Calls Tryz.prog 8 #[.agg (dA d)] w fun e w' => e = .returned (.agg (dA (fitD d))) ∧ Below w.heap.size w w' := by
  obtain ⟨B, hB⟩ : ∃ B, B = w.heap.size := ⟨_, rfl⟩
  obtain ⟨w1, hw1⟩ : ∃ w1, w1 = w.alloc (.cells (dA d) 37) := ⟨_, rfl⟩
  obtain ⟨w2, hw2⟩ : ∃ w2, w2 = w1.alloc (.cells #[.int .i64 0, .string { data := #[] }, .int .i64 0, .int .i64 0, .int .i64 0, .int .i64 0] 37) := ⟨_, rfl⟩
  have s1 : w1.heap.size = B + 1 := by rw [hw1, hB]; simp
  have HD2 : Hid (DB6 w2 B d) := Lib.hid (by rw [hw2, hw1, hB]; exact (DB6.new w d).alloc _)
  have HR2 : Hid (DB6 w2 (B + 1) dZ) := Lib.hid (by rw [hw2, ← s1]; exact DB6.new w1 dZ)
  have HB2 : Hid (Below B w w2) := Lib.hid (by rw [hw2, hw1, hB]; exact (below_alloc w _).alloc (by simp) _)
  have HS2 : Hid (B + 1 < w2.heap.size) := Lib.hid HR2.out.lt
  have HBB := Lib.hid hB
  have HP := Lib.hid hp
  have HFD : Hid (fitD d = (1 + fit5 d.1, (if 1 + fit5 d.1 = 2 then ((fitO d.2.1).1, 0, 0) else fitO d.2.1), 1 + fit9 d.2.2.1, 1 + fit9 d.2.2.2)) := Lib.hid rfl
  obtain ⟨FD, hFD⟩ : ∃ FD, FD = fitD d := ⟨_, rfl⟩
  rw [← hFD] at HFD ⊢
  clear hFD
  obtain ⟨k, ⟨p, g, s⟩, G, H⟩ := d
  dsimp only at HFD HP
  obtain ⟨t0, t1, t2, t3, t4, t5⟩ := HD2.out.at
  dsimp only at t0 t1 t2 t3 t4 t5
  rw [hw2, hw1, hB] at t1 t2 t3
  -- the remainders
  obtain ⟨a, ha⟩ : ∃ a, Int.tmod k 5 = a := ⟨_, rfl⟩
  obtain ⟨r, hr⟩ : ∃ r, Int.tmod (a + 5) 5 = r := ⟨_, rfl⟩
  have har : -5 < a ∧ a < 5 := by rw [← ha]; exact tmod_small (k := k) (n := 5) (by decide)
  have hrr : 0 ≤ r ∧ r ≤ 4 := by rw [← hr, ← ha]; exact fit5_rng k
  obtain ⟨a1, ha1⟩ : ∃ a, Int.tmod G 9 = a := ⟨_, rfl⟩
  obtain ⟨r1, hr1⟩ : ∃ r, Int.tmod (a1 + 9) 9 = r := ⟨_, rfl⟩
  have har1 : -9 < a1 ∧ a1 < 9 := by rw [← ha1]; exact tmod_small (k := G) (n := 9) (by decide)
  have hrr1 : 0 ≤ r1 ∧ r1 ≤ 8 := by rw [← hr1, ← ha1]; exact fit9_rng G
  obtain ⟨a2, ha2⟩ : ∃ a, Int.tmod H 9 = a := ⟨_, rfl⟩
  obtain ⟨r2, hr2⟩ : ∃ r, Int.tmod (a2 + 9) 9 = r := ⟨_, rfl⟩
  have har2 : -9 < a2 ∧ a2 < 9 := by rw [← ha2]; exact tmod_small (k := H) (n := 9) (by decide)
  have hrr2 : 0 ≤ r2 ∧ r2 ≤ 8 := by rw [← hr2, ← ha2]; exact fit9_rng H
  have hf1 : fit5 k = r := by unfold fit5; rw [ha, hr]
  have hf2 : fit9 G = r1 := by unfold fit9; rw [ha1, hr1]
  have hf3 : fit9 H = r2 := by unfold fit9; rw [ha2, hr2]
  rw [hf1, hf2, hf3] at HFD
  obtain ⟨ha3, ha4⟩ := har
  obtain ⟨hr3, hr4⟩ := hrr
  obtain ⟨hb3, hb4⟩ := har1
  obtain ⟨hs3, hs4⟩ := hrr1
  obtain ⟨hc3, hc4⟩ := har2
  obtain ⟨hu3, hu4⟩ := hrr2
  clear hf1 hf2 hf3 hp t0 t4 t5 s1
  go_enter Tryz.func8, Tryz.ntmps8
  go_wp2_with fail
  rw [← hw1, ← hw2, ← hB]
  clear hw1 hw2 hB t1 t2 t3 w1
  refine (fit_any p g s w2 HP.out).mono ?_
  rintro e w4 ⟨rfl, hb4'⟩
  have HD4 := Lib.hid (HD2.out.below hb4')
  have HR4 := Lib.hid (HR2.out.below hb4')
  have HB4 : Hid (Below w2.heap.size w2 w4) := Lib.hid hb4'
  clear hb4'
  have HFO : Hid (fitO (p, g, s) = (pat (fitQ p), fitG g, fitA p g s)) := Lib.hid rfl
  obtain ⟨q, hq⟩ : ∃ q, q = fitO (p, g, s) := ⟨_, rfl⟩
  rw [← hq] at HFO HFD
  clear hq
  obtain ⟨fp, fg, fs⟩ := q
  have hq' : pat (fitQ p) = fp ∧ fitG g = fg ∧ fitA p g s = fs := by simpa using HFO.out.symm
  rw [hq'.1, hq'.2.1, hq'.2.2]
  clear hq' HFO
  obtain ⟨F, hF⟩ : ∃ F, F = w4.heap.size := ⟨_, rfl⟩
  obtain ⟨w5, hw5⟩ : ∃ w5, w5 = w4.alloc (.cells #[.string (mk fp), .int .i64 fg, .int .i64 fs] 35) := ⟨_, rfl⟩
  have HF5 : Hid (D3 w5 F (fp, fg, fs)) := Lib.hid (by rw [hw5, hF]; exact D3.new w4 (fp, fg, fs))
  have HD5 : Hid (DB6 w5 B (k, (p, g, s), G, H)) := Lib.hid (by rw [hw5]; exact HD4.out.alloc _)
  have HR5 : Hid (DB6 w5 (B + 1) dZ) := Lib.hid (by rw [hw5]; exact HR4.out.alloc _)
  have HB5 : Hid (Below w2.heap.size w2 w5) := Lib.hid (by rw [hw5]; exact HB4.out.alloc HB4.out.size _)
  have HFB : Hid (B + 1 < F) := Lib.hid (by rw [hF]; exact HR4.out.lt)
  have t0 := HD5.out.at.1
  dsimp only at t0
  rw [hw5] at t0
  by_cases h2 : r = 1
  · subst h2
    have HFR : Hid (FD = (2, (fp, 0, 0), 1 + r1, 1 + r2)) := Lib.hid (by rw [HFD.out]; rfl)
    go_wp2_with (first
      | (refine store_decl6 rfl (.tmp 2) (.tmp 37) rfl (B + 1) rfl (2, (fp, 0, 0), 1 + r1, 1 + r2) rfl dZ HR10.out ?_; intro wu heu hqu; have HEU := Lib.hid heu; have HQU := Lib.hid hqu; clear heu hqu)
      | (refine load_decl rfl (.tmp 1) rfl B rfl (2, (fp, 0, 0), 1 + r1, 1 + r2) HD10.out ?_)
      | (refine store_dh rfl (.tmp 36) (.tmp 35) rfl B rfl (1 + r2) rfl (2, (fp, 0, 0), 1 + r1, H) HD9.out ?_; intro w10 hd10 hq10; have HD10 := Lib.hid hd10; have HQ10 : Hid (Only B w9 w10) := Lib.hid hq10; have HR10 := Lib.hid (HR9.out.only hq10 (by omega));  clear hd10 hq10)
      | (refine store_dg rfl (.tmp 29) (.tmp 28) rfl B rfl (1 + r1) rfl (2, (fp, 0, 0), G, H) HD8.out ?_; intro w9 hd9 hq9; have HD9 := Lib.hid hd9; have HQ9 : Hid (Only B w8 w9) := Lib.hid hq9; have HR9 := Lib.hid (HR8.out.only hq9 (by omega)); obtain ⟨_, _, _, _, _, c5⟩ := hd9.at; clear hd9 hq9)
      | (refine store_do rfl (.tmp 22) (.tmp 21) rfl B rfl (fp, 0, 0) rfl (2, (fp, fg, fs), G, H) HD7.out ?_; intro w8 hd8 hq8; have HD8 := Lib.hid hd8; have HQ8 : Hid (Only B w7 w8) := Lib.hid hq8; have HR8 := Lib.hid (HR7.out.only hq8 (by omega)); obtain ⟨_, _, _, _, c4, _⟩ := hd8.at; clear hd8 hq8)
      | (refine store_do rfl (.tmp 15) (.tmp 14) rfl B rfl (fp, fg, fs) rfl (2, (p, g, s), G, H) HD6.out ?_; intro w7 hd7 hq7; have HD7 := Lib.hid hd7; have HQ7 : Hid (Only B w6 w7) := Lib.hid hq7; have HR7 := Lib.hid (HR6.out.only hq7 (by omega)); have HF7 := Lib.hid (HF6.out.only hq7 (by have := HFB.out; omega)); obtain ⟨y0, y1, y2⟩ := HF7.out.cells; obtain ⟨c0, _, _, _, c4, _⟩ := hd7.at; clear hd7 hq7)
      | (rw [← hw5, ← hF]; clear hw5 hF t0; refine store_dk rfl (.tmp 13) (.tmp 12) rfl B rfl (2) rfl (k, (p, g, s), G, H) HD5.out ?_; intro w6 hd6 hq6; have HD6 := Lib.hid hd6; have HQ6 : Hid (Only B w5 w6) := Lib.hid hq6; have HR6 := Lib.hid (HR5.out.only hq6 (by omega)); have HF6 := Lib.hid (HF5.out.only hq6 (by have := HFB.out; omega)); obtain ⟨y0, y1, y2⟩ := HF6.out.cells; clear hd6 hq6))
    refine bodyPost_ret (ret_decl6 rfl _ _ (B + 1) (2, (fp, 0, 0), 1 + r1, 1 + r2) rfl HEU.out) rfl ⟨by rw [HFR.out], ?_⟩
    rw [← HBB.out]; exact ((((((HB2.out.trans (HB5.out.mono (by have := HS2.out; omega))).trans (HQ6.out.below (Nat.le_refl _))).trans (HQ7.out.below (Nat.le_refl _))).trans (HQ8.out.below (Nat.le_refl _))).trans (HQ9.out.below (Nat.le_refl _))).trans (HQ10.out.below (Nat.le_refl _))).trans (HQU.out.below (by omega))
  · have h2' : ¬ (1 + r = 2) := by omega
    have h2b : (1 + r == 2) = false := by simpa using h2'
    have HFR : Hid (FD = (1 + r, (fp, fg, fs), 1 + r1, 1 + r2)) := Lib.hid (by rw [HFD.out, if_neg h2'])
    go_wp2_with (first
      | (refine store_decl6 rfl (.tmp 2) (.tmp 37) rfl (B + 1) rfl (1 + r, (fp, fg, fs), 1 + r1, 1 + r2) rfl dZ HR9.out ?_; intro wu heu hqu; have HEU := Lib.hid heu; have HQU := Lib.hid hqu; clear heu hqu)
      | (refine load_decl rfl (.tmp 1) rfl B rfl (1 + r, (fp, fg, fs), 1 + r1, 1 + r2) HD9.out ?_)
      | (refine store_dh rfl (.tmp 36) (.tmp 35) rfl B rfl (1 + r2) rfl (1 + r, (fp, fg, fs), 1 + r1, H) HD8.out ?_; intro w9 hd9 hq9; have HD9 := Lib.hid hd9; have HQ9 : Hid (Only B w8 w9) := Lib.hid hq9; have HR9 := Lib.hid (HR8.out.only hq9 (by omega));  clear hd9 hq9)
      | (refine store_dg rfl (.tmp 29) (.tmp 28) rfl B rfl (1 + r1) rfl (1 + r, (fp, fg, fs), G, H) HD7.out ?_; intro w8 hd8 hq8; have HD8 := Lib.hid hd8; have HQ8 : Hid (Only B w7 w8) := Lib.hid hq8; have HR8 := Lib.hid (HR7.out.only hq8 (by omega)); obtain ⟨_, _, _, _, _, c5⟩ := hd8.at; clear hd8 hq8)
      | (refine store_do rfl (.tmp 15) (.tmp 14) rfl B rfl (fp, fg, fs) rfl (1 + r, (p, g, s), G, H) HD6.out ?_; intro w7 hd7 hq7; have HD7 := Lib.hid hd7; have HQ7 : Hid (Only B w6 w7) := Lib.hid hq7; have HR7 := Lib.hid (HR6.out.only hq7 (by omega)); have HF7 := Lib.hid (HF6.out.only hq7 (by have := HFB.out; omega)); obtain ⟨y0, y1, y2⟩ := HF7.out.cells; obtain ⟨c0, _, _, _, c4, _⟩ := hd7.at; clear hd7 hq7)
      | (rw [← hw5, ← hF]; clear hw5 hF t0; refine store_dk rfl (.tmp 13) (.tmp 12) rfl B rfl (1 + r) rfl (k, (p, g, s), G, H) HD5.out ?_; intro w6 hd6 hq6; have HD6 := Lib.hid hd6; have HQ6 : Hid (Only B w5 w6) := Lib.hid hq6; have HR6 := Lib.hid (HR5.out.only hq6 (by omega)); have HF6 := Lib.hid (HF5.out.only hq6 (by have := HFB.out; omega)); obtain ⟨y0, y1, y2⟩ := HF6.out.cells; clear hd6 hq6))
    refine bodyPost_ret (ret_decl6 rfl _ _ (B + 1) (1 + r, (fp, fg, fs), 1 + r1, 1 + r2) rfl HEU.out) rfl ⟨by rw [HFR.out], ?_⟩
    rw [← HBB.out]; exact (((((HB2.out.trans (HB5.out.mono (by have := HS2.out; omega))).trans (HQ6.out.below (Nat.le_refl _))).trans (HQ7.out.below (Nat.le_refl _))).trans (HQ8.out.below (Nat.le_refl _))).trans (HQ9.out.below (Nat.le_refl _))).trans (HQU.out.below (by omega))
/-- A scope behind a directive that is made such as may be, and is not of a block. -/
def dcdV (s : SC) (d : DV) : SC := if 4 ≤ (fitD d).1 then s else nxtV s (fitD d)
theorem okS_dcd {s : SC} (h : okS s) (d : DV) : okS (dcdV s d) := by
  unfold dcdV
  split
  · exact h
  · exact okS_next h _
theorem dcd_st {s : SC} (d : DV) : (dcdV s d).st = s.st := by
  unfold dcdV
  split
  · rfl
  · have := fitD_rng d; exact decl_st (by omega)
theorem dcd_out {s : SC} (d : DV) (h : s.st ≠ []) : outV (dcdV s d) = outV s := by
  unfold dcdV
  split
  · rfl
  · have := fitD_rng d; exact decl_out (by omega) h

set_option maxRecDepth 20000 in
set_option maxHeartbeats 8000000 in
theorem declared_any (x : XV) (d : DV) (w : World) (ht : Tab w) (h : x.own w) (hk : okS x.k) (hp : d.2.1.1.length ≤ 140737488355328) :
    Calls Tryz.prog 12 #[.agg (sv x), .agg (dA d)] w fun e w' => ∃ y : XV, e = .returned (.agg (sv y)) ∧ y.own w' ∧ y.k = dcdV x.k d ∧ Below w.heap.size w w' := by
  obtain ⟨B, hB⟩ : ∃ B, B = w.heap.size := ⟨_, rfl⟩
  obtain ⟨w1, hw1⟩ : ∃ w1, w1 = w.alloc (.cells (sv x) 31) := ⟨_, rfl⟩
  obtain ⟨w2, hw2⟩ : ∃ w2, w2 = w1.alloc (.cells (dA d) 37) := ⟨_, rfl⟩
  obtain ⟨w3, hw3⟩ : ∃ w3, w3 = w2.alloc (.cells #[.slice none 0 0, .int .i64 0, .int .i64 0, .int .i64 0, .int .i64 0, .int .i64 0, .int .i64 0, .int .i64 0, .int .i64 0, .int .i64 0, .int .i64 0, .slice none 0 0] 31) := ⟨_, rfl⟩
  have s1 : w1.heap.size = B + 1 := by rw [hw1, hB]; simp
  have s2 : w2.heap.size = B + 1 + 1 := by rw [hw2]; simp [s1]
  have HE3 : Hid (SB w3 B x) := Lib.hid (by rw [hw3, hw2, hw1, hB]; exact ((SB.new w x).alloc _).alloc _)
  have HD3 : Hid (DB6 w3 (B + 1) d) := Lib.hid (by rw [hw3, hw2, ← s1]; exact (DB6.new w1 d).alloc _)
  have HR3 : Hid (SB w3 (B + 1 + 1) x0) := Lib.hid (by rw [hw3, ← s2, ← sv_zero]; exact SB.new w2 x0)
  have HB3 : Hid (Below B w w3) := Lib.hid (by rw [hw3, hw2, hw1, hB]; exact (((Below.refl _ _).alloc (Nat.le_refl _) _).alloc (by simp) _).alloc (by simp; omega) _)
  have HS3 : Hid (B + 1 + 1 < w3.heap.size) := Lib.hid HR3.out.lt
  have HX3 : Hid (x.own w3) := Lib.hid (h.below (hB ▸ HB3.out))
  have HT3 : Hid (Tab w3) := Lib.hid (ht.keep (hB ▸ HB3.out))
  have HZ : Hid (x.e.z.length = 10) := Lib.hid h.z
  have HOK := Lib.hid hk
  have HP := Lib.hid hp
  have HBB := Lib.hid hB
  have HFR := Lib.hid (fitD_rng d)
  have HDC : Hid (dcdV x.k d = if 4 ≤ (fitD d).1 then x.k else nxtV x.k (fitD d)) := Lib.hid rfl
  obtain ⟨Y, hY⟩ : ∃ Y, Y = dcdV x.k d := ⟨_, rfl⟩
  rw [← hY] at HDC ⊢
  have hlf := lfit_any d w3 hp
  obtain ⟨f, hf⟩ : ∃ f, f = fitD d := ⟨_, rfl⟩
  rw [← hf] at HDC HFR hlf
  have HLF := Lib.hid hlf
  have hdn : ∀ W : World, DB6 (W.alloc (.cells #[.int .i64 0, .string { data := #[] }, .int .i64 0, .int .i64 0, .int .i64 0, .int .i64 0] 37)) W.heap.size dZ := fun W => DB6.new W dZ
  have hnew : ∀ W : World, SB (W.alloc (.cells #[.slice none 0 0, .int .i64 0, .int .i64 0, .int .i64 0, .int .i64 0, .int .i64 0, .int .i64 0, .int .i64 0, .int .i64 0, .int .i64 0, .int .i64 0, .slice none 0 0] 31)) W.heap.size x0 := fun W => SB.new W x0
  clear h ht hk hp s1 s2 hY hf hlf
  go_enter Tryz.func12, Tryz.ntmps12
  go_wp2_with (rw [← hw1, ← hw2, ← hw3, ← hB]; clear hw1 hw2 hw3 hB w1 w2; refine load_decl rfl (.tmp 3) rfl (B + 1) rfl d HD3.out ?_)
  refine HLF.out.mono ?_
  rintro e w4 ⟨rfl, hb4⟩
  have HB4 : Hid (Below w3.heap.size w3 w4) := Lib.hid hb4
  have HE4 := Lib.hid (HE3.out.below hb4)
  have HR4 := Lib.hid (HR3.out.below hb4)
  have HX4 := Lib.hid (HX3.out.below hb4)
  clear hb4 HLF
  obtain ⟨F, hF⟩ : ∃ F, F = w4.heap.size := ⟨_, rfl⟩
  by_cases h4 : 4 ≤ f.1
  · have HY : Hid (Y = x.k) := Lib.hid (by rw [HDC.out, if_pos h4])
    go_wp2_with (first
      | (refine store_scope rfl (.tmp 4) (.tmp 13) rfl (B + 1 + 1) rfl x rfl HZ.out x0 rfl HR5.out ?_; intro w6 he6 hq6; have HE6 := Lib.hid he6; have HQ6 := Lib.hid hq6; clear he6 hq6)
      | (refine load_scope rfl (.tmp 2) rfl B rfl x HZ.out HE5.out ?_)
      | (refine store_decl6 rfl (.tmp 5) (.tmp 9) rfl _ rfl f rfl dZ (hdn w4) ?_; rw [← hF]; intro w5 hd5 hq5; have t0 := hd5.at.1; have HB5 : Hid (Below w4.heap.size w4 w5) := Lib.hid ((below_alloc w4 _).trans (hq5.below (by rw [hF]; exact Nat.le_refl _))); have HR5 := Lib.hid (HR4.out.below HB5.out); have HE5 := Lib.hid (HE4.out.below HB5.out); clear hd5 hq5 hF))
    refine bodyPost_ret (ret_scope rfl _ _ (B + 1 + 1) x HZ.out rfl HE6.out) rfl ⟨x, rfl, (HX4.out.below HB5.out).kp (Kp.scope HR5.out HQ6.out), HY.out.symm, ?_⟩
    rw [← HBB.out]; exact (HB3.out.trans ((HB4.out.trans (HB5.out.mono HB4.out.size)).mono (by have := HS3.out; omega))).trans (HQ6.out.below (by omega))
  · go_wp2_with (first
      | (refine load_decl rfl (.tmp 5) rfl F rfl f HF5.out ?_)
      | (refine load_scope rfl (.tmp 2) rfl B rfl x HZ.out HE5.out ?_)
      | (refine store_decl6 rfl (.tmp 5) (.tmp 9) rfl _ rfl f rfl dZ (hdn w4) ?_; rw [← hF]; intro w5 hd5 hq5; have HF5 := Lib.hid hd5; have t0 := hd5.at.1; have HB5 : Hid (Below w4.heap.size w4 w5) := Lib.hid ((below_alloc w4 _).trans (hq5.below (by rw [hF]; exact Nat.le_refl _))); have HR5 := Lib.hid (HR4.out.below HB5.out); have HE5 := Lib.hid (HE4.out.below HB5.out); clear hd5 hq5 hF))
    clear t0
    have HX5 := Lib.hid (HX4.out.below HB5.out)
    have HB35 : Hid (Below w3.heap.size w3 w5) := Lib.hid (HB4.out.trans (HB5.out.mono HB4.out.size))
    refine (sstep_any x f w5 (HT3.out.keep HB35.out) HX5.out.ok HOK.out (by have := HFR.out.2.1; omega)).mono ?_
    have HNX : Hid (Y = if stpE x.k f = 0 then stpG x.k f else x.k) := Lib.hid (by rw [HDC.out, if_neg (show ¬ 4 ≤ f.1 by omega)]; rfl)
    have HSV : Hid (stpV x.k f = if stpE x.k f = 0 then stpG x.k f else sc0) := Lib.hid rfl
    obtain ⟨V, hV⟩ : ∃ V, V = stpE x.k f := ⟨_, rfl⟩
    rw [← hV] at HNX HSV ⊢
    clear hV
    rintro e w7 ⟨y, rfl, ho7, hk7, hb7⟩
    have HO7 := Lib.hid ho7
    have HK7 := Lib.hid hk7
    have HB7 : Hid (Below w5.heap.size w5 w7) := Lib.hid hb7
    have HR7 := Lib.hid (HR5.out.below hb7)
    have HE7 := Lib.hid (HE5.out.below hb7)
    clear ho7 hk7 hb7
    obtain ⟨T, hT⟩ : ∃ T, T = w7.heap.size := ⟨_, rfl⟩
    by_cases hv : V = 0
    · subst hv
      go_wp2_with (first
        | (refine store_scope rfl (.tmp 4) (.tmp 23) rfl (B + 1 + 1) rfl y rfl HO7.out.z x0 rfl HR8.out ?_; intro w9 he9 hq9; have HE9 := Lib.hid he9; have HQ9 := Lib.hid hq9; clear he9 hq9)
        | (refine load_scope rfl (.tmp 6) rfl T rfl y HO7.out.z HT8.out ?_)
        | (refine store_scope rfl (.tmp 6) (.tmp 18) rfl _ rfl y rfl HO7.out.z x0 rfl (hnew w7) ?_; rw [← hT]; intro w8 he8 hq8; have HT8 := Lib.hid he8; have HB8 : Hid (Below w7.heap.size w7 w8) := Lib.hid ((below_alloc w7 _).trans (hq8.below (by rw [hT]; exact Nat.le_refl _))); have HR8 := Lib.hid (HR7.out.below HB8.out); clear he8 hq8 hT))
      refine bodyPost_ret (ret_scope rfl _ _ (B + 1 + 1) y HO7.out.z rfl HE9.out) rfl ⟨y, rfl, (HO7.out.below HB8.out).kp (Kp.scope HR8.out HQ9.out), ?_, ?_⟩
      · rw [HK7.out, HSV.out, HNX.out]; simp
      · rw [← HBB.out]; exact (HB3.out.trans (((HB35.out.trans (HB7.out.mono HB35.out.size)).trans (HB8.out.mono (Nat.le_trans HB35.out.size HB7.out.size))).mono (by have := HS3.out; omega))).trans (HQ9.out.below (by omega))
    · go_wp2_with (first
        | (refine store_scope rfl (.tmp 4) (.tmp 22) rfl (B + 1 + 1) rfl x rfl HZ.out x0 rfl HR8.out ?_; intro w9 he9 hq9; have HE9 := Lib.hid he9; have HQ9 := Lib.hid hq9; clear he9 hq9)
        | (refine load_scope rfl (.tmp 2) rfl B rfl x HZ.out HE8.out ?_)
        | (refine store_scope rfl (.tmp 6) (.tmp 18) rfl _ rfl y rfl HO7.out.z x0 rfl (hnew w7) ?_; rw [← hT]; intro w8 he8 hq8; have HB8 : Hid (Below w7.heap.size w7 w8) := Lib.hid ((below_alloc w7 _).trans (hq8.below (by rw [hT]; exact Nat.le_refl _))); have HR8 := Lib.hid (HR7.out.below HB8.out); have HE8 := Lib.hid (HE7.out.below HB8.out); clear he8 hq8 hT))
      refine bodyPost_ret (ret_scope rfl _ _ (B + 1 + 1) x HZ.out rfl HE9.out) rfl ⟨x, rfl, ((HX5.out.below HB7.out).below HB8.out).kp (Kp.scope HR8.out HQ9.out), ?_, ?_⟩
      · rw [HNX.out, if_neg hv]
      · rw [← HBB.out]; exact (HB3.out.trans (((HB35.out.trans (HB7.out.mono HB35.out.size)).trans (HB8.out.mono (Nat.le_trans HB35.out.size HB7.out.size))).mono (by have := HS3.out; omega))).trans (HQ9.out.below (by omega))
end Go.Proofs.YtcpmpidpoelleaaGreatDoor
