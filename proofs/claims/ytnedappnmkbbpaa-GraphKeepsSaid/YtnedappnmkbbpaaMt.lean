/- GraphCycles (its last region laid by genMt.py). -/
import Derived.Test.YtnedappnmkbbpaaMs
namespace Go.Proofs.Ytnedappnmkbbpaa
open Go.RowKit

theorem keep2 {w w' : World} {X Y : Nat} {u v : List Int} (h : RB w X u ∧ RB w Y v) (hb : Below w.heap.size w w') : RB w' X u ∧ RB w' Y v :=
  ⟨h.1.keep hb h.1.lt, h.2.keep hb h.2.lt⟩
theorem eq_z0 (w : World) : (Op.equalIn 10000 23 (.agg (rv z0)) (.agg #[.int .i64 0, .int .i64 0, .int .i64 0, .int .i64 0, .int .i64 0, .int .i64 0, .int .i64 0, .int .i64 0, .int .i64 0, .int .i64 0])).run Try.prog w = .ok true w := by
  have := eq_rows z0 z0 rfl rfl w
  rw [decide_eq_true rfl] at this
  exact this

set_option maxRecDepth 20000 in
set_option maxHeartbeats 8000000 in
theorem cycles_any (a : Option Addr) (len cap : Nat) (x y : Nat) (hx : x ≤ 255) (hy : y ≤ 255) (w : World) (hp : Pa w a len cap) :
    Calls Try.prog 5 #[.slice a len cap, .agg #[.int .u8 x, .int .u8 y]] w fun e w' => e = .returned (.bool true) ∧ Below w.heap.size w w' := by
  have HP : Hid (∀ w', Below w.heap.size w w' → Pa w' a len cap) := Lib.hid fun w' hb => hp.below hb
  clear hp
  obtain ⟨w0, hw0⟩ : ∃ w0, w.alloc (.cells #[.int .u8 x, .int .u8 y] 36) = w0 := ⟨_, rfl⟩
  have HB0 : Hid (Below w.heap.size w w0) := Lib.hid (by rw [← hw0]; exact (Below.refl _ _).alloc (Nat.le_refl _) _)
  obtain ⟨P, hP⟩ : ∃ P, w.heap.size = P := ⟨_, rfl⟩
  have HX0 : Hid (w0.heap[P]? = some (.cells #[.int .u8 x, .int .u8 y] 36 (0, 0))) := Lib.hid (by rw [← hw0, ← hP]; exact heap_alloc_new w _)
  have HG0 : Hid (P ≤ w.heap.size) := Lib.hid (by omega)
  have HL0 : Hid (P < w0.heap.size) := Lib.hid (Array.getElem?_eq_some_iff.1 HX0.out).1
  rw [hP] at HB0 HP ⊢
  obtain ⟨gx, hgx, hgx8⟩ := tmod9 x
  obtain ⟨gy, hgy, hgy8⟩ := tmod9 y
  have y0 : IntKind.i64.wrap (x : Int) = x := by rw [IntKind.wrap_i64]; omega
  have y1 : IntKind.i64.wrap (y : Int) = y := by rw [IntKind.wrap_i64]; omega
  obtain ⟨g, hg⟩ : ∃ g, g = gx + 1 := ⟨_, rfl⟩
  obtain ⟨h, hh⟩ : ∃ h, h = gy + 1 := ⟨_, rfl⟩
  have b1 : IntKind.i64.wrap (1 + (gx : Int)) = (g : Int) := by rw [IntKind.wrap_i64]; omega
  have b2 : IntKind.i64.wrap (1 + (gy : Int)) = (h : Int) := by rw [IntKind.wrap_i64]; omega
  have hg9 : g ≤ 9 := by omega
  have hh9 : h ≤ 9 := by omega
  have HN : Hid (inG (g, h)) := Lib.hid ⟨by show 1 ≤ g; omega, by show g ≤ 9; omega, by show 1 ≤ h; omega, by show h ≤ 9; omega⟩
  clear hg hh hx hy
  go_enter Try.func5, Try.ntmps5
  go_wp2_with fail
  refine (shown_any w0).mono ?_
  rintro e w1 ⟨rfl, hb1⟩
  have HX1 := Lib.hid ((hb1.block P HL0.out).trans HX0.out)
  have HL1 := Lib.hid (Nat.lt_of_lt_of_le HL0.out hb1.size)
  have HB1 := Lib.hid (HB0.out.trans (hb1.mono (Nat.le_of_lt HL0.out)))
  clear hb1
  go_wp2_with fail
  refine (laid_any a len cap w1 (HP.out w1 HB1.out)).mono ?_
  rintro e w2 ⟨z, E, a', n, c, rfl, hI, hE, hn, hv, hb2⟩
  have HI := Lib.hid hI
  have HE := Lib.hid hE
  have HV2 := Lib.hid hv
  have HX2 := Lib.hid ((hb2.block P HL1.out).trans HX1.out)
  have HL2 := Lib.hid (Nat.lt_of_lt_of_le HL1.out hb2.size)
  have HB2 := Lib.hid (HB1.out.trans (hb2.mono (Nat.le_of_lt HL1.out)))
  clear hI hE hv hb2
  have KE := Lib.hid fun w1 => edge_any z HI.out.len HI.out.rng g h w1
  go_wp2_with (first
    | (refine store_rows rfl (.tmp 6) (.tmp 16) rfl w2.heap.size rfl z rfl HI.out.len z0 z0_len (heap_alloc_new w2 _) ?_; intro w3 hr3 ho3; have HR3 := Lib.hid hr3; have HC := Lib.hid (((Below.refl w2.heap.size w2).alloc (Nat.le_refl _) _).trans (ho3.below (Nat.le_refl _))); have HX3 := Lib.hid ((HC.out.block P HL2.out).trans HX2.out); have d0 : w3.cell? ⟨P, 0, none⟩ = some (.int .u8 x) := by { simp [World.cell?, HX3.out] }; have d1 : w3.cell? ⟨P, 1, none⟩ = some (.int .u8 y) := by { simp [World.cell?, HX3.out] }; clear hr3 ho3)
    | (refine load_rows rfl (.tmp 6) rfl w2.heap.size rfl z HI.out.len HR3.out ?_))
  refine (KE.out _).mono ?_
  rintro e w4 ⟨rfl, hb4⟩
  have HV3 := Lib.hid (HV2.out.below HC.out)
  have HB3 := Lib.hid (HB2.out.trans (HC.out.mono (Nat.le_of_lt HL2.out)))
  have HL3 := Lib.hid (Nat.lt_of_lt_of_le HL2.out HC.out.size)
  obtain ⟨X, hX⟩ : ∃ X, w2.heap.size = X := ⟨_, rfl⟩
  rw [hX] at HR3 ⊢
  clear hX HC d0 d1 y0 y1 b1 b2 hgx hgy
  have HR4 := Lib.hid (RB.keep HR3.out hb4 HR3.out.lt)
  have HV4 := Lib.hid (HV3.out.below hb4)
  have HB4 := Lib.hid (HB3.out.trans (hb4.mono (Nat.le_of_lt HL3.out)))
  have HL4 := Lib.hid (Nat.lt_of_lt_of_le HL3.out hb4.size)
  clear hb4 KE
  have HGP := Lib.hid (Nat.le_trans HG0.out HB4.out.size)
  rcases inv_e HI.out HN.out with ⟨he, hv, hc⟩ | ⟨he, hv, hI2, hne, hT⟩
  · rw [he, hv]
    have heq : ∀ w', (Op.equalIn 10000 23 (.agg (rv z0)) (.agg #[.int .i64 0, .int .i64 0, .int .i64 0, .int .i64 0, .int .i64 0, .int .i64 0, .int .i64 0, .int .i64 0, .int .i64 0, .int .i64 0])).run Try.prog w' = .ok true w' := eq_z0
    clear he hv
    by_cases hgh : g = h
    · have hq : ((g : Int) == h) = true := by simp; omega
      clear hgh hc
      go_wp2_with (first
        | (refine store_rows rfl (.tmp 10) (.tmp 33) rfl w4.heap.size rfl z0 rfl rfl z0 z0_len (heap_alloc_new w4 _) ?_; intro w5 hr5 ho5; have HR5 := Lib.hid hr5; have HB5 := Lib.hid ((HB4.out.alloc HGP.out _).trans (ho5.below HGP.out)); clear hr5 ho5)
        | (refine load_rows rfl (.tmp 10) rfl w4.heap.size rfl z0 rfl HR5.out ?_))
      go_ret
      exact ⟨rfl, HB5.out⟩
    · have hq : ((g : Int) == h) = false := by simp; omega
      have HT := Lib.hid (hc.resolve_left hgh)
      clear hgh hc
      go_wp2_with (refine store_rows rfl (.tmp 10) (.tmp 33) rfl w4.heap.size rfl z0 rfl rfl z0 z0_len (heap_alloc_new w4 _) ?_; intro w5 hr5 ho5; have HR5 := Lib.hid hr5; have HV5 := Lib.hid (HV4.out.below (((Below.refl w4.heap.size w4).alloc (Nat.le_refl _) _).trans (ho5.below (Nat.le_refl _)))); have HB5 := Lib.hid ((HB4.out.alloc HGP.out _).trans (ho5.below HGP.out)); clear hr5 ho5)
      refine (leads_any z E HI.out a' n c h g w5 HV5.out HE.out hn hh9 hg9).mono ?_
      rw [HT.out]
      rintro e w6 ⟨rfl, hb6⟩
      have HR6 := Lib.hid (RB.keep HR5.out hb6 HR5.out.lt)
      have HB6 := Lib.hid (HB5.out.trans (hb6.mono (Nat.le_trans HG0.out HB5.out.size)))
      clear hb6
      go_wp2_with (refine load_rows rfl (.tmp 10) rfl w4.heap.size rfl z0 rfl HR6.out ?_)
      go_ret
      exact ⟨rfl, HB6.out⟩
  · rw [he, hv]
    have HI2 := Lib.hid hI2
    have hsm := HI.out.same HN.out hne hT
    have HT := Lib.hid hT
    have HS := Lib.hid hsm.2
    have hd : decide (eR z g h = z) = T z g h := by
      rw [Bool.eq_iff_iff, decide_eq_true_eq, hsm.1, HI.out.T (show g < 10 by omega)]
    have heq : ∀ w', (Op.equalIn 10000 23 (.agg (rv (eR z g h))) (.agg (rv z))).run Try.prog w' = .ok (T z g h) w' := fun w' => by
      rw [eq_rows (eR z g h) z (eTo_len ..) HI.out.len w', hd]
    have hq : ((g : Int) == h) = false := by simp; omega
    clear he hv hI2 hne hT hsm hd
    go_wp2_with (refine store_rows rfl (.tmp 10) (.tmp 33) rfl w4.heap.size rfl (eR z g h) rfl (eTo_len ..) z0 z0_len (heap_alloc_new w4 _) ?_; intro w5 hr5 ho5; have HR5 := Lib.hid hr5; have HC5 := Lib.hid (((Below.refl w4.heap.size w4).alloc (Nat.le_refl _) _).trans (ho5.below (Nat.le_refl _))); have HV5 := Lib.hid (HV4.out.below HC5.out); have HX5 := Lib.hid (RB.keep HR4.out HC5.out HR4.out.lt); have HB5 := Lib.hid ((HB4.out.alloc HGP.out _).trans (ho5.below HGP.out)); clear hr5 ho5)
    refine (leads_any z E HI.out a' n c h g w5 HV5.out HE.out hn hh9 hg9).mono ?_
    rw [HT.out]
    rintro e w6 ⟨rfl, hb6⟩
    have HR6 := Lib.hid (RB.keep HR5.out hb6 HR5.out.lt)
    have HX6 := Lib.hid (RB.keep HX5.out hb6 HX5.out.lt)
    have HV6 := Lib.hid (HV5.out.below hb6)
    have HB6 := Lib.hid (HB5.out.trans (hb6.mono (Nat.le_trans HG0.out HB5.out.size)))
    clear hb6
    obtain ⟨Y, hY⟩ : ∃ Y, w4.heap.size = Y := ⟨_, rfl⟩
    rw [hY] at HR6 ⊢
    clear hY HC5 HR5 HX5
    have KL := Lib.hid (leads_any z E HI.out a' n c g h w6.drew (Vs.drew HV6.out) HE.out hn hg9 hh9)
    have KT := Lib.hid fun w1 => tight_T (eR z g h) (eTo_len ..) HI2.out.rng g h w1 hg9 hh9
    rw [HS.out] at KT
    obtain ⟨t, ht⟩ : ∃ t, T z g h = t := ⟨_, rfl⟩
    rw [ht] at KL heq
    clear ht
    go_wp2_with fail
    -- the region, by hand (laid by genMt.py)
    refine wp_region_noPanic ?_
    refine wp_region_held_drew (S := fun w' => RB w' Y (eR z g h) ∧ RB w' X z) (by kernel_rfl) (⟨HR6.out, HX6.out⟩) (fun hHeld => ?_)
    refine wpAnyH_take (i := 0) (oi := { dst := some 54, op := Op.move (Operand.tmp 5), type := 4, pos := "law.go:86", after := #[], guard := none }) (v := ?_) rfl (by kernel_rfl) (by kernel_rfl) (by kernel_rfl) (fun _ _ _ h => h) (Or.inl ⟨by rfl, ?_⟩) (by assumption) ?_
    rotate_left
    · intro w' hSw
      try dsimp only at hSw
      go_simp
      try with_reducible rfl
    try simp only [Act.put, List.setIfInBounds_toArray, List.set_cons_zero, List.set_cons_succ]
    refine wpAnyH_take (i := 1) (oi := { dst := some 55, op := Op.move (Operand.tmp 54), type := 4, pos := "law.go:86", after := #[{ on := 0, ground := Ground.data }], guard := none }) (v := ?_) rfl (by kernel_rfl) (by kernel_rfl) (by kernel_rfl) (fun _ _ _ h => h) (Or.inl ⟨by rfl, ?_⟩) (by assumption) ?_
    rotate_left
    · intro w' hSw
      try dsimp only at hSw
      go_simp
      try with_reducible rfl
    try simp only [Act.put, List.setIfInBounds_toArray, List.set_cons_zero, List.set_cons_succ]
    refine wpAnyH_take (i := 2) (oi := { dst := some 56, op := Op.move (Operand.tmp 11), type := 25, pos := "law.go:86", after := #[{ on := 1, ground := Ground.guard }], guard := some (1, true) }) (v := ?_) rfl (by kernel_rfl) (by kernel_rfl) (by kernel_rfl) (fun _ _ _ h => h) (Or.inl ⟨by rfl, ?_⟩) (by assumption) ?_
    rotate_left
    · intro w' hSw
      try dsimp only at hSw
      go_simp
      try with_reducible rfl
    try simp only [Act.put, List.setIfInBounds_toArray, List.set_cons_zero, List.set_cons_succ]
    refine wpAnyH_take (i := 3) (oi := { dst := some 57, op := Op.binOp BinOp.eql 25 (Operand.tmp 56) (Operand.const (Value.int IntKind.i64 0)) 25, type := 4, pos := "law.go:86", after := #[{ on := 2, ground := Ground.data }, { on := 1, ground := Ground.guard }], guard := some (1, true) }) (v := ?_) rfl (by kernel_rfl) (by kernel_rfl) (by kernel_rfl) (fun _ _ _ h => h) (Or.inl ⟨by rfl, ?_⟩) (by assumption) ?_
    rotate_left
    · intro w' hSw
      try dsimp only at hSw
      go_simp
      try with_reducible rfl
    try simp only [Act.put, List.setIfInBounds_toArray, List.set_cons_zero, List.set_cons_succ]
    refine wpAnyH_take (i := 4) (oi := { dst := some 58, op := Op.pick (Operand.tmp 55) (Operand.tmp 57) (Operand.const (Value.bool false)), type := 4, pos := "law.go:86", after := #[{ on := 1, ground := Ground.data }, { on := 3, ground := Ground.data }], guard := none }) (v := ?_) rfl (by kernel_rfl) (by kernel_rfl) (by kernel_rfl) (fun _ _ _ h => h) (Or.inl ⟨by rfl, ?_⟩) (by assumption) ?_
    rotate_left
    · intro w' hSw
      try dsimp only at hSw
      go_simp
      try with_reducible rfl
    try simp only [Act.put, List.setIfInBounds_toArray, List.set_cons_zero, List.set_cons_succ]
    refine wpAnyH_take (i := 5) (oi := { dst := some 59, op := Op.move (Operand.tmp 58), type := 4, pos := "law.go:86", after := #[{ on := 4, ground := Ground.data }, { on := 1, ground := Ground.chain }], guard := none }) (v := ?_) rfl (by kernel_rfl) (by kernel_rfl) (by kernel_rfl) (fun _ _ _ h => h) (Or.inl ⟨by rfl, ?_⟩) (by assumption) ?_
    rotate_left
    · intro w' hSw
      try dsimp only at hSw
      go_simp
      try with_reducible rfl
    try simp only [Act.put, List.setIfInBounds_toArray, List.set_cons_zero, List.set_cons_succ]
    refine take_rows (i := 6) (oi := { dst := some 60, op := Op.load 23 (Operand.tmp 10), type := 23, pos := "law.go:86", after := #[{ on := 5, ground := Ground.guard }], guard := some (5, true) }) (Operand.tmp 10) rfl (by kernel_rfl) (by kernel_rfl) (by kernel_rfl) (eR z g h) (fun _ _ _ h => h) (by rfl) rfl (Y) rfl (eTo_len ..) (fun _ h => h.1) (by assumption) ?_
    try simp only [Act.put, List.setIfInBounds_toArray, List.set_cons_zero, List.set_cons_succ]
    refine take_rows (i := 7) (oi := { dst := some 61, op := Op.load 23 (Operand.tmp 6), type := 23, pos := "law.go:86", after := #[{ on := 5, ground := Ground.guard }], guard := some (5, true) }) (Operand.tmp 6) rfl (by kernel_rfl) (by kernel_rfl) (by kernel_rfl) (z) (fun _ _ _ h => h) (by rfl) rfl (X) rfl (HI.out.len) (fun _ h => h.2) (by assumption) ?_
    try simp only [Act.put, List.setIfInBounds_toArray, List.set_cons_zero, List.set_cons_succ]
    refine wpAnyH_take (i := 8) (oi := { dst := some 62, op := Op.binOp BinOp.eql 23 (Operand.tmp 60) (Operand.tmp 61) 23, type := 4, pos := "law.go:86", after := #[{ on := 6, ground := Ground.data }, { on := 7, ground := Ground.data }, { on := 5, ground := Ground.guard }], guard := some (5, true) }) (v := ?_) rfl (by kernel_rfl) (by kernel_rfl) (by kernel_rfl) (fun _ _ _ h => h) (Or.inl ⟨by rfl, ?_⟩) (by assumption) ?_
    rotate_left
    · intro w' hSw
      try dsimp only at hSw
      go_simp
      try with_reducible rfl
    try simp only [Act.put, List.setIfInBounds_toArray, List.set_cons_zero, List.set_cons_succ]
    refine wpAnyH_take (i := 9) (oi := { dst := some 63, op := Op.move (Operand.tmp 7), type := 31, pos := "law.go:86", after := #[{ on := 5, ground := Ground.guard }], guard := some (5, true) }) (v := ?_) rfl (by kernel_rfl) (by kernel_rfl) (by kernel_rfl) (fun _ _ _ h => h) (Or.inl ⟨by rfl, ?_⟩) (by assumption) ?_
    rotate_left
    · intro w' hSw
      try dsimp only at hSw
      go_simp
      try with_reducible rfl
    try simp only [Act.put, List.setIfInBounds_toArray, List.set_cons_zero, List.set_cons_succ]
    refine wpAnyH_take (i := 10) (oi := { dst := some 64, op := Op.move (Operand.tmp 8), type := 3, pos := "law.go:86", after := #[{ on := 5, ground := Ground.guard }], guard := some (5, true) }) (v := ?_) rfl (by kernel_rfl) (by kernel_rfl) (by kernel_rfl) (fun _ _ _ h => h) (Or.inl ⟨by rfl, ?_⟩) (by assumption) ?_
    rotate_left
    · intro w' hSw
      try dsimp only at hSw
      go_simp
      try with_reducible rfl
    try simp only [Act.put, List.setIfInBounds_toArray, List.set_cons_zero, List.set_cons_succ]
    refine wpAnyH_take (i := 11) (oi := { dst := some 65, op := Op.move (Operand.tmp 9), type := 3, pos := "law.go:86", after := #[{ on := 5, ground := Ground.guard }], guard := some (5, true) }) (v := ?_) rfl (by kernel_rfl) (by kernel_rfl) (by kernel_rfl) (fun _ _ _ h => h) (Or.inl ⟨by rfl, ?_⟩) (by assumption) ?_
    rotate_left
    · intro w' hSw
      try dsimp only at hSw
      go_simp
      try with_reducible rfl
    try simp only [Act.put, List.setIfInBounds_toArray, List.set_cons_zero, List.set_cons_succ]
    refine wpAnyH_ready (rs := [12]) (by kernel_rfl) (by simp) ?_
    refine AllReadyH.cons (o := { dst := some 66, op := Op.call { callee := Callee.value (Operand.func 16), args := #[Operand.tmp 63, Operand.tmp 64, Operand.tmp 65], argTypes := #[31, 3, 3] }, type := 4, pos := "law.go:86", after := #[{ on := 9, ground := Ground.data }, { on := 10, ground := Ground.data }, { on := 11, ground := Ground.data }, { on := 5, ground := Ground.chain }, { on := 5, ground := Ground.guard }], guard := some (5, true) }) rfl (fun K hK => ?_) ?_
    · go_simp
      (go_at_call 16; (with_reducible refine (KL.out).mono ?_); rintro e w7 ⟨rfl, hb⟩)
      have HK7 := Lib.hid hb
      have HB7 := Lib.hid (HB6.out.drew.trans (hb.mono (Nat.le_trans HG0.out HB6.out.drew.size)))
      clear hb
      refine hK.out _ _ (keep2 hHeld HK7.out) (fun hHeld => ?_)
      clear hK K
      try simp only [Act.put, List.setIfInBounds_toArray, List.set_cons_zero, List.set_cons_succ]
      refine wpAnyH_take (i := 13) (oi := { dst := some 67, op := Op.binOp BinOp.eql 4 (Operand.tmp 62) (Operand.tmp 66) 4, type := 4, pos := "law.go:86", after := #[{ on := 8, ground := Ground.data }, { on := 12, ground := Ground.data }, { on := 5, ground := Ground.guard }], guard := some (5, true) }) (v := ?_) rfl (by kernel_rfl) (by kernel_rfl) (by kernel_rfl) (fun _ _ _ h => h) (Or.inl ⟨by rfl, ?_⟩) (by assumption) ?_
      rotate_left
      · intro w' hSw
        try dsimp only at hSw
        go_simp
        try with_reducible rfl
      try simp only [Act.put, List.setIfInBounds_toArray, List.set_cons_zero, List.set_cons_succ]
      refine wpAnyH_take (i := 14) (oi := { dst := some 68, op := Op.pick (Operand.tmp 59) (Operand.tmp 67) (Operand.const (Value.bool false)), type := 4, pos := "law.go:86", after := #[{ on := 5, ground := Ground.data }, { on := 13, ground := Ground.data }], guard := none }) (v := ?_) rfl (by kernel_rfl) (by kernel_rfl) (by kernel_rfl) (fun _ _ _ h => h) (Or.inl ⟨by rfl, ?_⟩) (by assumption) ?_
      rotate_left
      · intro w' hSw
        try dsimp only at hSw
        go_simp
        try with_reducible rfl
      try simp only [Act.put, List.setIfInBounds_toArray, List.set_cons_zero, List.set_cons_succ]
      refine wpAnyH_take (i := 15) (oi := { dst := some 69, op := Op.move (Operand.tmp 68), type := 4, pos := "law.go:86", after := #[{ on := 14, ground := Ground.data }, { on := 12, ground := Ground.chain }], guard := none }) (v := ?_) rfl (by kernel_rfl) (by kernel_rfl) (by kernel_rfl) (fun _ _ _ h => h) (Or.inl ⟨by rfl, ?_⟩) (by assumption) ?_
      rotate_left
      · intro w' hSw
        try dsimp only at hSw
        go_simp
        try with_reducible rfl
      try simp only [Act.put, List.setIfInBounds_toArray, List.set_cons_zero, List.set_cons_succ]
      refine take_rows (i := 16) (oi := { dst := some 70, op := Op.load 23 (Operand.tmp 10), type := 23, pos := "law.go:86", after := #[{ on := 15, ground := Ground.guard }], guard := some (15, true) }) (Operand.tmp 10) rfl (by kernel_rfl) (by kernel_rfl) (by kernel_rfl) (eR z g h) (fun _ _ _ h => h) (by rfl) rfl (Y) rfl (eTo_len ..) (fun _ h => h.1) (by assumption) ?_
      try simp only [Act.put, List.setIfInBounds_toArray, List.set_cons_zero, List.set_cons_succ]
      refine wpAnyH_take (i := 17) (oi := { dst := some 71, op := Op.move (Operand.tmp 8), type := 3, pos := "law.go:86", after := #[{ on := 15, ground := Ground.guard }], guard := some (15, true) }) (v := ?_) rfl (by kernel_rfl) (by kernel_rfl) (by kernel_rfl) (fun _ _ _ h => h) (Or.inl ⟨by rfl, ?_⟩) (by assumption) ?_
      rotate_left
      · intro w' hSw
        try dsimp only at hSw
        go_simp
        try with_reducible rfl
      try simp only [Act.put, List.setIfInBounds_toArray, List.set_cons_zero, List.set_cons_succ]
      refine wpAnyH_take (i := 18) (oi := { dst := some 72, op := Op.move (Operand.tmp 9), type := 3, pos := "law.go:86", after := #[{ on := 15, ground := Ground.guard }], guard := some (15, true) }) (v := ?_) rfl (by kernel_rfl) (by kernel_rfl) (by kernel_rfl) (fun _ _ _ h => h) (Or.inl ⟨by rfl, ?_⟩) (by assumption) ?_
      rotate_left
      · intro w' hSw
        try dsimp only at hSw
        go_simp
        try with_reducible rfl
      try simp only [Act.put, List.setIfInBounds_toArray, List.set_cons_zero, List.set_cons_succ]
      refine wpAnyH_ready (rs := [19]) (by kernel_rfl) (by simp) ?_
      refine AllReadyH.cons (o := { dst := some 73, op := Op.call { callee := Callee.value (Operand.func 13), args := #[Operand.tmp 70, Operand.tmp 71, Operand.tmp 72], argTypes := #[23, 3, 3] }, type := 4, pos := "law.go:86", after := #[{ on := 16, ground := Ground.data }, { on := 17, ground := Ground.data }, { on := 18, ground := Ground.data }, { on := 15, ground := Ground.chain }, { on := 15, ground := Ground.guard }], guard := some (15, true) }) rfl (fun K hK => ?_) ?_
      · go_simp
        (go_at_call 13; (with_reducible refine (KT.out _).mono ?_); rintro e w8 ⟨rfl, hb⟩)
        have HK8 := Lib.hid hb
        have HB8 := Lib.hid (HB7.out.trans (hb.mono (Nat.le_trans HG0.out HB7.out.size)))
        clear hb
        refine hK.out _ _ (keep2 hHeld HK8.out) (fun hHeld => ?_)
        clear hK K
        try simp only [Act.put, List.setIfInBounds_toArray, List.set_cons_zero, List.set_cons_succ]
        refine wpAnyH_take (i := 20) (oi := { dst := some 74, op := Op.pick (Operand.tmp 69) (Operand.tmp 73) (Operand.const (Value.bool false)), type := 4, pos := "law.go:86", after := #[{ on := 15, ground := Ground.data }, { on := 19, ground := Ground.data }], guard := none }) (v := ?_) rfl (by kernel_rfl) (by kernel_rfl) (by kernel_rfl) (fun _ _ _ h => h) (Or.inl ⟨by rfl, ?_⟩) (by assumption) ?_
        rotate_left
        · intro w' hSw
          try dsimp only at hSw
          go_simp
          try with_reducible rfl
        try simp only [Act.put, List.setIfInBounds_toArray, List.set_cons_zero, List.set_cons_succ]
        refine wpAnyH_take (i := 21) (oi := { dst := some 4, op := Op.assign (Operand.tmp 74), type := 4, pos := "law.go:86", after := #[{ on := 20, ground := Ground.data }, { on := 19, ground := Ground.chain }, { on := 0, ground := Ground.phase }, { on := 1, ground := Ground.phase }, { on := 2, ground := Ground.phase }, { on := 3, ground := Ground.phase }, { on := 4, ground := Ground.phase }, { on := 5, ground := Ground.phase }, { on := 6, ground := Ground.phase }, { on := 7, ground := Ground.phase }, { on := 8, ground := Ground.phase }, { on := 9, ground := Ground.phase }, { on := 10, ground := Ground.phase }, { on := 11, ground := Ground.phase }, { on := 12, ground := Ground.phase }, { on := 13, ground := Ground.phase }, { on := 14, ground := Ground.phase }, { on := 15, ground := Ground.phase }, { on := 16, ground := Ground.phase }, { on := 17, ground := Ground.phase }, { on := 18, ground := Ground.phase }, { on := 19, ground := Ground.phase }, { on := 20, ground := Ground.phase }], guard := none }) (v := ?_) rfl (by kernel_rfl) (by kernel_rfl) (by kernel_rfl) (fun _ _ _ h => h) (Or.inl ⟨by rfl, ?_⟩) (by assumption) ?_
        rotate_left
        · intro w' hSw
          try dsimp only at hSw
          go_simp
          try with_reducible rfl
        try simp only [Act.put, List.setIfInBounds_toArray, List.set_cons_zero, List.set_cons_succ]
        refine wpAnyH_done (by kernel_rfl) ?_ _
        refine NoPanic.normal ?_
        go_wp2
        go_ret
        exact ⟨rfl, HB8.out⟩
      · exact AllReadyH.nil
    · exact AllReadyH.nil
    -- behind it

theorem cycles_wide (a : Option Addr) (len cap : Nat) (zs : List Int) (hz : zs.length = 2 ∧ ∀ x ∈ zs, 0 ≤ x ∧ x ≤ 255) (w : World) (hp : Pa w a len cap) :
    Calls Try.prog 5 #[.slice a len cap, .agg (zs.map (Value.int .u8)).toArray] w fun e w' => e = .returned (.bool true) ∧ Below w.heap.size w w' := by
  obtain ⟨hl, hr⟩ := hz
  match zs, hl with
  | [p, q], _ =>
    have hp1 := hr p (by simp)
    have hq1 := hr q (by simp)
    obtain ⟨x, rfl⟩ := Int.eq_ofNat_of_zero_le hp1.1
    obtain ⟨y, rfl⟩ := Int.eq_ofNat_of_zero_le hq1.1
    exact cycles_any a len cap x y (by omega) (by omega) w hp

end Go.Proofs.Ytnedappnmkbbpaa
