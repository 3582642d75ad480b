/- GraphAll. -/
import Derived.Test.YtnedappnmkbbpaaMh
import Derived.Test.YtnedappnmkbbpaaMi
namespace Go.Proofs.Ytnedappnmkbbpaa
open Go.RowKit

theorem keep3 {w w' : World} {G X Y : Nat} {z u v : List Int} (h : RB w G z ∧ RB w X u ∧ RB w Y v) (hb : Below w.heap.size w w') : RB w' G z ∧ RB w' X u ∧ RB w' Y v :=
  ⟨h.1.keep hb h.1.lt, h.2.1.keep hb h.2.1.lt, h.2.2.keep hb h.2.2.lt⟩

set_option maxRecDepth 20000 in
set_option maxHeartbeats 4000000 in
theorem all_any (z : List Int) (hz : z.length = 10) (hr : ∀ i, i < 10 → I64 (bt z i)) (g h : Int) (w : World) :
    Calls Try.prog 3 #[.agg (rv z), .int .i64 g, .int .i64 h] w fun e w' => e = .returned (.bool true) ∧ Below w.heap.size w w' := by
  obtain ⟨w0, hw0⟩ : ∃ w0, w.alloc (.cells (rv z) 23) = w0 := ⟨_, rfl⟩
  have HB0 : Hid (Below w.heap.size w w0) := Lib.hid (by rw [← hw0]; exact (Below.refl _ _).alloc (Nat.le_refl _) _)
  obtain ⟨G, hG⟩ : ∃ G, w.heap.size = G := ⟨_, rfl⟩
  have HR0 : Hid (RB w0 G z) := Lib.hid (by rw [← hw0, ← hG]; exact RB.new w z)
  have HG0 : Hid (G ≤ w.heap.size) := Lib.hid (by omega)
  rw [hG] at HB0 ⊢
  have HZ := Lib.hid hz
  have KE := Lib.hid fun w1 => edge_any z hz hr g h w1
  have KR := Lib.hid fun w1 => redge_any z hz g h w1
  have KT := Lib.hid fun w1 => tighter_any z hz hr g h w1
  have KU := Lib.hid fun w1 => rtighter_any z hz g h w1
  have hvl := eV_len z g h
  generalize eV z g h = v at KE KR hvl
  generalize eE z g h = c at KE KR
  generalize tgt z g h = t at KT KU
  have HV := Lib.hid hvl
  have heq1 : ∀ w', (Op.equalIn 10000 23 (.agg (rv zS)) (.agg (rv zS))).run Try.prog w' = .ok true w' := fun w' => by rw [eq_rows zS zS rfl rfl w', decide_eq_true rfl]
  have heq2 : ∀ w', (Op.equalIn 10000 23 (.agg (rv v)) (.agg (rv v))).run Try.prog w' = .ok true w' := fun w' => by rw [eq_rows v v hvl hvl w', decide_eq_true rfl]
  clear hz hr hvl
  go_enter Try.func3, Try.ntmps3
  go_wp2_with fail
  refine (shown_any w0).mono ?_
  rintro e w1 ⟨rfl, hb1⟩
  have HR1 := Lib.hid (RB.keep HR0.out hb1 HR0.out.lt)
  have HB1 := Lib.hid (HB0.out.trans (hb1.mono (Nat.le_trans HG0.out HB0.out.size)))
  clear hb1
  go_wp2_with (refine load_rows rfl (.tmp 3) rfl G rfl z HZ.out HR1.out ?_)
  refine (KE.out _).mono ?_
  rintro e w2 ⟨rfl, hb2⟩
  have HR2 := Lib.hid (RB.keep HR1.out hb2 HR1.out.lt)
  have HB2 := Lib.hid (HB1.out.trans (hb2.mono (Nat.le_trans HG0.out HB1.out.size)))
  clear hb2
  have HG2 := Lib.hid (Nat.le_trans HG0.out HB2.out.size)
  have HL2 := Lib.hid (HR2.out.lt)
  go_wp2_with (first
    | (refine load_rows rfl (.tmp 3) rfl G rfl z HZ.out HR3.out ?_)
    | (refine store_rows rfl (.tmp 8) (.tmp 18) rfl w2.heap.size rfl v rfl HV.out z0 z0_len (heap_alloc_new w2 _) ?_; intro w3 hr3 ho3; have HX3 := Lib.hid hr3; have HR3 := Lib.hid (ho3.rows (Nat.ne_of_lt HL2.out) (HR2.out.alloc _)); have HB3 := Lib.hid ((HB2.out.alloc HG2.out _).trans (ho3.below HG2.out)); clear hr3 ho3))
  refine (KR.out _).mono ?_
  rintro e w4 ⟨rfl, hb4⟩
  have HR4 := Lib.hid (RB.keep HR3.out hb4 HR3.out.lt)
  have HX4 := Lib.hid (RB.keep HX3.out hb4 HX3.out.lt)
  have HB4 := Lib.hid (HB3.out.trans (hb4.mono (Nat.le_trans HG0.out HB3.out.size)))
  clear hb4
  have HG4 := Lib.hid (Nat.le_trans HG0.out HB4.out.size)
  have HL4 := Lib.hid (HR4.out.lt)
  have HM4 := Lib.hid (HX4.out.lt)
  obtain ⟨X, hX⟩ : ∃ X, w2.heap.size = X := ⟨_, rfl⟩
  rw [hX] at HX4 HM4 ⊢
  clear hX
  go_wp2_with (refine store_rows rfl (.tmp 10) (.tmp 25) rfl w4.heap.size rfl v rfl HV.out z0 z0_len (heap_alloc_new w4 _) ?_; intro w5 hr5 ho5; have HY5 := Lib.hid hr5; have HR5 := Lib.hid (ho5.rows (Nat.ne_of_lt HL4.out) (HR4.out.alloc _)); have HX5 := Lib.hid (ho5.rows (Nat.ne_of_lt HM4.out) (HX4.out.alloc _)); have HB5 := Lib.hid ((HB4.out.alloc HG4.out _).trans (ho5.below HG4.out)); clear hr5 ho5)
  obtain ⟨Y, hY⟩ : ∃ Y, w4.heap.size = Y := ⟨_, rfl⟩
  rw [hY] at HY5 ⊢
  clear hY
  -- the region, by hand (laid by genMk.py)
  refine wp_region_noPanic ?_
  refine wp_region_held_drew (S := fun w' => RB w' G z ∧ RB w' X v ∧ RB w' Y v) (by kernel_rfl) (⟨HR5.out, HX5.out, HY5.out⟩) (fun hHeld => ?_)
  refine wpAnyH_take (i := 0) (oi := { dst := some 27, op := Op.move (Operand.tmp 7), type := 4, pos := "law.go:21", after := #[], guard := none }) (v := ?_) rfl (by kernel_rfl) (by kernel_rfl) (by kernel_rfl) (fun _ _ _ h => h) (Or.inl ⟨by rfl, ?_⟩) (by assumption) ?_
  rotate_left
  · intro w' hSw
    try dsimp only at hSw
    go_simp
    try with_reducible rfl
  try simp only [Act.put, List.setIfInBounds_toArray, List.set_cons_zero, List.set_cons_succ]
  refine wpAnyH_take (i := 1) (oi := { dst := some 28, op := Op.move (Operand.tmp 27), type := 4, pos := "law.go:21", after := #[{ on := 0, ground := Ground.data }], guard := none }) (v := ?_) rfl (by kernel_rfl) (by kernel_rfl) (by kernel_rfl) (fun _ _ _ h => h) (Or.inl ⟨by rfl, ?_⟩) (by assumption) ?_
  rotate_left
  · intro w' hSw
    try dsimp only at hSw
    go_simp
    try with_reducible rfl
  try simp only [Act.put, List.setIfInBounds_toArray, List.set_cons_zero, List.set_cons_succ]
  refine wpAnyH_ready (rs := [2]) (by kernel_rfl) (by simp) ?_
  refine AllReadyH.cons (o := { dst := some 29, op := Op.call { callee := Callee.value (Operand.func 11), args := #[], argTypes := #[] }, type := 23, pos := "law.go:21", after := #[{ on := 1, ground := Ground.chain }, { on := 1, ground := Ground.guard }], guard := some (1, true) }) rfl (fun K hK => ?_) ?_
  · go_simp
    (go_at_call 11; (with_reducible refine (start_any _).mono ?_); rintro e w6 ⟨rfl, hb⟩)
    have HK6 := Lib.hid hb
    have HB6 := Lib.hid (HB5.out.drew.trans (hb.mono (Nat.le_trans HG0.out HB5.out.drew.size)))
    clear hb
    refine hK.out _ _ (keep3 hHeld HK6.out) (fun hHeld => ?_)
    clear hK K
    try simp only [Act.put, List.setIfInBounds_toArray, List.set_cons_zero, List.set_cons_succ]
    refine wpAnyH_ready (rs := [3]) (by kernel_rfl) (by simp) ?_
    refine AllReadyH.cons (o := { dst := some 30, op := Op.call { callee := Callee.value (Operand.func 12), args := #[], argTypes := #[] }, type := 23, pos := "law.go:21", after := #[{ on := 2, ground := Ground.chain }, { on := 1, ground := Ground.guard }], guard := some (1, true) }) rfl (fun K hK => ?_) ?_
    · go_simp
      (go_at_call 12; (with_reducible refine (rstart_any _).mono ?_); rintro e w7 ⟨rfl, hb⟩)
      have HK7 := Lib.hid hb
      have HB7 := Lib.hid (HB6.out.trans (hb.mono (Nat.le_trans HG0.out HB6.out.size)))
      clear hb
      refine hK.out _ _ (keep3 hHeld HK7.out) (fun hHeld => ?_)
      clear hK K
      try simp only [Act.put, List.setIfInBounds_toArray, List.set_cons_zero, List.set_cons_succ]
      refine wpAnyH_take (i := 4) (oi := { dst := some 31, op := Op.binOp BinOp.eql 23 (Operand.tmp 29) (Operand.tmp 30) 23, type := 4, pos := "law.go:21", after := #[{ on := 2, ground := Ground.data }, { on := 3, ground := Ground.data }, { on := 1, ground := Ground.guard }], guard := some (1, true) }) (v := ?_) rfl (by kernel_rfl) (by kernel_rfl) (by kernel_rfl) (fun _ _ _ h => h) (Or.inl ⟨by rfl, ?_⟩) (by assumption) ?_
      rotate_left
      · intro w' hSw
        try dsimp only at hSw
        go_simp
        try with_reducible rfl
      try simp only [Act.put, List.setIfInBounds_toArray, List.set_cons_zero, List.set_cons_succ]
      refine wpAnyH_take (i := 5) (oi := { dst := some 32, op := Op.pick (Operand.tmp 28) (Operand.tmp 31) (Operand.const (Value.bool false)), type := 4, pos := "law.go:21", after := #[{ on := 1, ground := Ground.data }, { on := 4, ground := Ground.data }], guard := none }) (v := ?_) rfl (by kernel_rfl) (by kernel_rfl) (by kernel_rfl) (fun _ _ _ h => h) (Or.inl ⟨by rfl, ?_⟩) (by assumption) ?_
      rotate_left
      · intro w' hSw
        try dsimp only at hSw
        go_simp
        try with_reducible rfl
      try simp only [Act.put, List.setIfInBounds_toArray, List.set_cons_zero, List.set_cons_succ]
      refine wpAnyH_take (i := 6) (oi := { dst := some 33, op := Op.move (Operand.tmp 32), type := 4, pos := "law.go:21", after := #[{ on := 5, ground := Ground.data }, { on := 3, ground := Ground.chain }], guard := none }) (v := ?_) rfl (by kernel_rfl) (by kernel_rfl) (by kernel_rfl) (fun _ _ _ h => h) (Or.inl ⟨by rfl, ?_⟩) (by assumption) ?_
      rotate_left
      · intro w' hSw
        try dsimp only at hSw
        go_simp
        try with_reducible rfl
      try simp only [Act.put, List.setIfInBounds_toArray, List.set_cons_zero, List.set_cons_succ]
      refine take_rows (i := 7) (oi := { dst := some 34, op := Op.load 23 (Operand.tmp 3), type := 23, pos := "law.go:21", after := #[{ on := 6, ground := Ground.guard }], guard := some (6, true) }) (Operand.tmp 3) rfl (by kernel_rfl) (by kernel_rfl) (by kernel_rfl) (z) (fun _ _ _ h => h) (by rfl) rfl (G) rfl (HZ.out) (fun _ h => h.1) (by assumption) ?_
      try simp only [Act.put, List.setIfInBounds_toArray, List.set_cons_zero, List.set_cons_succ]
      refine wpAnyH_take (i := 8) (oi := { dst := some 35, op := Op.move (Operand.tmp 1), type := 3, pos := "law.go:21", after := #[{ on := 6, ground := Ground.guard }], guard := some (6, true) }) (v := ?_) rfl (by kernel_rfl) (by kernel_rfl) (by kernel_rfl) (fun _ _ _ h => h) (Or.inl ⟨by rfl, ?_⟩) (by assumption) ?_
      rotate_left
      · intro w' hSw
        try dsimp only at hSw
        go_simp
        try with_reducible rfl
      try simp only [Act.put, List.setIfInBounds_toArray, List.set_cons_zero, List.set_cons_succ]
      refine wpAnyH_take (i := 9) (oi := { dst := some 36, op := Op.move (Operand.tmp 2), type := 3, pos := "law.go:21", after := #[{ on := 6, ground := Ground.guard }], guard := some (6, true) }) (v := ?_) rfl (by kernel_rfl) (by kernel_rfl) (by kernel_rfl) (fun _ _ _ h => h) (Or.inl ⟨by rfl, ?_⟩) (by assumption) ?_
      rotate_left
      · intro w' hSw
        try dsimp only at hSw
        go_simp
        try with_reducible rfl
      try simp only [Act.put, List.setIfInBounds_toArray, List.set_cons_zero, List.set_cons_succ]
      refine take_rows (i := 11) (oi := { dst := some 38, op := Op.load 23 (Operand.tmp 3), type := 23, pos := "law.go:21", after := #[{ on := 6, ground := Ground.guard }], guard := some (6, true) }) (Operand.tmp 3) rfl (by kernel_rfl) (by kernel_rfl) (by kernel_rfl) (z) (fun _ _ _ h => h) (by rfl) rfl (G) rfl (HZ.out) (fun _ h => h.1) (by assumption) ?_
      try simp only [Act.put, List.setIfInBounds_toArray, List.set_cons_zero, List.set_cons_succ]
      refine wpAnyH_take (i := 12) (oi := { dst := some 39, op := Op.move (Operand.tmp 1), type := 3, pos := "law.go:21", after := #[{ on := 6, ground := Ground.guard }], guard := some (6, true) }) (v := ?_) rfl (by kernel_rfl) (by kernel_rfl) (by kernel_rfl) (fun _ _ _ h => h) (Or.inl ⟨by rfl, ?_⟩) (by assumption) ?_
      rotate_left
      · intro w' hSw
        try dsimp only at hSw
        go_simp
        try with_reducible rfl
      try simp only [Act.put, List.setIfInBounds_toArray, List.set_cons_zero, List.set_cons_succ]
      refine wpAnyH_take (i := 13) (oi := { dst := some 40, op := Op.move (Operand.tmp 2), type := 3, pos := "law.go:21", after := #[{ on := 6, ground := Ground.guard }], guard := some (6, true) }) (v := ?_) rfl (by kernel_rfl) (by kernel_rfl) (by kernel_rfl) (fun _ _ _ h => h) (Or.inl ⟨by rfl, ?_⟩) (by assumption) ?_
      rotate_left
      · intro w' hSw
        try dsimp only at hSw
        go_simp
        try with_reducible rfl
      try simp only [Act.put, List.setIfInBounds_toArray, List.set_cons_zero, List.set_cons_succ]
      refine wpAnyH_ready (rs := [10]) (by kernel_rfl) (by simp) ?_
      refine AllReadyH.cons (o := { dst := some 37, op := Op.call { callee := Callee.value (Operand.func 13), args := #[Operand.tmp 34, Operand.tmp 35, Operand.tmp 36], argTypes := #[23, 3, 3] }, type := 4, pos := "law.go:21", after := #[{ on := 7, ground := Ground.data }, { on := 8, ground := Ground.data }, { on := 9, ground := Ground.data }, { on := 6, ground := Ground.chain }, { on := 6, ground := Ground.guard }], guard := some (6, true) }) rfl (fun K hK => ?_) ?_
      · go_simp
        (go_at_call 13; (with_reducible refine (KT.out _).mono ?_); rintro e w8 ⟨rfl, hb⟩)
        have HK8 := Lib.hid hb
        have HB8 := Lib.hid (HB7.out.trans (hb.mono (Nat.le_trans HG0.out HB7.out.size)))
        clear hb
        refine hK.out _ _ (keep3 hHeld HK8.out) (fun hHeld => ?_)
        clear hK K
        try simp only [Act.put, List.setIfInBounds_toArray, List.set_cons_zero, List.set_cons_succ]
        refine wpAnyH_ready (rs := [14]) (by kernel_rfl) (by simp) ?_
        refine AllReadyH.cons (o := { dst := some 41, op := Op.call { callee := Callee.value (Operand.func 14), args := #[Operand.tmp 38, Operand.tmp 39, Operand.tmp 40], argTypes := #[23, 3, 3] }, type := 4, pos := "law.go:21", after := #[{ on := 11, ground := Ground.data }, { on := 12, ground := Ground.data }, { on := 13, ground := Ground.data }, { on := 10, ground := Ground.chain }, { on := 6, ground := Ground.guard }], guard := some (6, true) }) rfl (fun K hK => ?_) ?_
        · go_simp
          (go_at_call 14; (with_reducible refine (KU.out _).mono ?_); rintro e w9 ⟨rfl, hb⟩)
          have HK9 := Lib.hid hb
          have HB9 := Lib.hid (HB8.out.trans (hb.mono (Nat.le_trans HG0.out HB8.out.size)))
          clear hb
          refine hK.out _ _ (keep3 hHeld HK9.out) (fun hHeld => ?_)
          clear hK K
          try simp only [Act.put, List.setIfInBounds_toArray, List.set_cons_zero, List.set_cons_succ]
          refine wpAnyH_take (i := 15) (oi := { dst := some 42, op := Op.binOp BinOp.eql 4 (Operand.tmp 37) (Operand.tmp 41) 4, type := 4, pos := "law.go:21", after := #[{ on := 10, ground := Ground.data }, { on := 14, ground := Ground.data }, { on := 6, ground := Ground.guard }], guard := some (6, true) }) (v := ?_) rfl (by kernel_rfl) (by kernel_rfl) (by kernel_rfl) (fun _ _ _ h => h) (Or.inl ⟨by rfl, ?_⟩) (by assumption) ?_
          rotate_left
          · intro w' hSw
            try dsimp only at hSw
            go_simp
            try with_reducible rfl
          try simp only [Act.put, List.setIfInBounds_toArray, List.set_cons_zero, List.set_cons_succ]
          refine wpAnyH_take (i := 16) (oi := { dst := some 43, op := Op.pick (Operand.tmp 33) (Operand.tmp 42) (Operand.const (Value.bool false)), type := 4, pos := "law.go:21", after := #[{ on := 6, ground := Ground.data }, { on := 15, ground := Ground.data }], guard := none }) (v := ?_) rfl (by kernel_rfl) (by kernel_rfl) (by kernel_rfl) (fun _ _ _ h => h) (Or.inl ⟨by rfl, ?_⟩) (by assumption) ?_
          rotate_left
          · intro w' hSw
            try dsimp only at hSw
            go_simp
            try with_reducible rfl
          try simp only [Act.put, List.setIfInBounds_toArray, List.set_cons_zero, List.set_cons_succ]
          refine wpAnyH_take (i := 17) (oi := { dst := some 44, op := Op.move (Operand.tmp 43), type := 4, pos := "law.go:21", after := #[{ on := 16, ground := Ground.data }, { on := 14, ground := Ground.chain }], guard := none }) (v := ?_) rfl (by kernel_rfl) (by kernel_rfl) (by kernel_rfl) (fun _ _ _ h => h) (Or.inl ⟨by rfl, ?_⟩) (by assumption) ?_
          rotate_left
          · intro w' hSw
            try dsimp only at hSw
            go_simp
            try with_reducible rfl
          try simp only [Act.put, List.setIfInBounds_toArray, List.set_cons_zero, List.set_cons_succ]
          refine take_rows (i := 18) (oi := { dst := some 45, op := Op.load 23 (Operand.tmp 8), type := 23, pos := "law.go:21", after := #[{ on := 17, ground := Ground.guard }], guard := some (17, true) }) (Operand.tmp 8) rfl (by kernel_rfl) (by kernel_rfl) (by kernel_rfl) (v) (fun _ _ _ h => h) (by rfl) rfl (X) rfl (HV.out) (fun _ h => h.2.1) (by assumption) ?_
          try simp only [Act.put, List.setIfInBounds_toArray, List.set_cons_zero, List.set_cons_succ]
          refine take_rows (i := 19) (oi := { dst := some 46, op := Op.load 23 (Operand.tmp 10), type := 23, pos := "law.go:21", after := #[{ on := 17, ground := Ground.guard }], guard := some (17, true) }) (Operand.tmp 10) rfl (by kernel_rfl) (by kernel_rfl) (by kernel_rfl) (v) (fun _ _ _ h => h) (by rfl) rfl (Y) rfl (HV.out) (fun _ h => h.2.2) (by assumption) ?_
          try simp only [Act.put, List.setIfInBounds_toArray, List.set_cons_zero, List.set_cons_succ]
          refine wpAnyH_take (i := 20) (oi := { dst := some 47, op := Op.binOp BinOp.eql 23 (Operand.tmp 45) (Operand.tmp 46) 23, type := 4, pos := "law.go:21", after := #[{ on := 18, ground := Ground.data }, { on := 19, ground := Ground.data }, { on := 17, ground := Ground.guard }], guard := some (17, true) }) (v := ?_) rfl (by kernel_rfl) (by kernel_rfl) (by kernel_rfl) (fun _ _ _ h => h) (Or.inl ⟨by rfl, ?_⟩) (by assumption) ?_
          rotate_left
          · intro w' hSw
            try dsimp only at hSw
            go_simp
            try with_reducible rfl
          try simp only [Act.put, List.setIfInBounds_toArray, List.set_cons_zero, List.set_cons_succ]
          refine wpAnyH_take (i := 21) (oi := { dst := some 48, op := Op.pick (Operand.tmp 44) (Operand.tmp 47) (Operand.const (Value.bool false)), type := 4, pos := "law.go:21", after := #[{ on := 17, ground := Ground.data }, { on := 20, ground := Ground.data }], guard := none }) (v := ?_) rfl (by kernel_rfl) (by kernel_rfl) (by kernel_rfl) (fun _ _ _ h => h) (Or.inl ⟨by rfl, ?_⟩) (by assumption) ?_
          rotate_left
          · intro w' hSw
            try dsimp only at hSw
            go_simp
            try with_reducible rfl
          try simp only [Act.put, List.setIfInBounds_toArray, List.set_cons_zero, List.set_cons_succ]
          refine wpAnyH_take (i := 22) (oi := { dst := some 49, op := Op.move (Operand.tmp 48), type := 4, pos := "law.go:21", after := #[{ on := 21, ground := Ground.data }, { on := 17, ground := Ground.chain }], guard := none }) (v := ?_) rfl (by kernel_rfl) (by kernel_rfl) (by kernel_rfl) (fun _ _ _ h => h) (Or.inl ⟨by rfl, ?_⟩) (by assumption) ?_
          rotate_left
          · intro w' hSw
            try dsimp only at hSw
            go_simp
            try with_reducible rfl
          try simp only [Act.put, List.setIfInBounds_toArray, List.set_cons_zero, List.set_cons_succ]
          refine wpAnyH_take (i := 23) (oi := { dst := some 50, op := Op.move (Operand.tmp 9), type := 25, pos := "law.go:21", after := #[{ on := 22, ground := Ground.guard }], guard := some (22, true) }) (v := ?_) rfl (by kernel_rfl) (by kernel_rfl) (by kernel_rfl) (fun _ _ _ h => h) (Or.inl ⟨by rfl, ?_⟩) (by assumption) ?_
          rotate_left
          · intro w' hSw
            try dsimp only at hSw
            go_simp
            try with_reducible rfl
          try simp only [Act.put, List.setIfInBounds_toArray, List.set_cons_zero, List.set_cons_succ]
          refine wpAnyH_take (i := 24) (oi := { dst := some 51, op := Op.move (Operand.tmp 11), type := 25, pos := "law.go:21", after := #[{ on := 22, ground := Ground.guard }], guard := some (22, true) }) (v := ?_) rfl (by kernel_rfl) (by kernel_rfl) (by kernel_rfl) (fun _ _ _ h => h) (Or.inl ⟨by rfl, ?_⟩) (by assumption) ?_
          rotate_left
          · intro w' hSw
            try dsimp only at hSw
            go_simp
            try with_reducible rfl
          try simp only [Act.put, List.setIfInBounds_toArray, List.set_cons_zero, List.set_cons_succ]
          refine wpAnyH_take (i := 25) (oi := { dst := some 52, op := Op.binOp BinOp.eql 25 (Operand.tmp 50) (Operand.tmp 51) 25, type := 4, pos := "law.go:21", after := #[{ on := 23, ground := Ground.data }, { on := 24, ground := Ground.data }, { on := 22, ground := Ground.guard }], guard := some (22, true) }) (v := ?_) rfl (by kernel_rfl) (by kernel_rfl) (by kernel_rfl) (fun _ _ _ h => h) (Or.inl ⟨by rfl, ?_⟩) (by assumption) ?_
          rotate_left
          · intro w' hSw
            try dsimp only at hSw
            go_simp
            try with_reducible rfl
          try simp only [Act.put, List.setIfInBounds_toArray, List.set_cons_zero, List.set_cons_succ]
          refine wpAnyH_take (i := 26) (oi := { dst := some 53, op := Op.pick (Operand.tmp 49) (Operand.tmp 52) (Operand.const (Value.bool false)), type := 4, pos := "law.go:21", after := #[{ on := 22, ground := Ground.data }, { on := 25, ground := Ground.data }], guard := none }) (v := ?_) rfl (by kernel_rfl) (by kernel_rfl) (by kernel_rfl) (fun _ _ _ h => h) (Or.inl ⟨by rfl, ?_⟩) (by assumption) ?_
          rotate_left
          · intro w' hSw
            try dsimp only at hSw
            go_simp
            try with_reducible rfl
          try simp only [Act.put, List.setIfInBounds_toArray, List.set_cons_zero, List.set_cons_succ]
          refine wpAnyH_take (i := 27) (oi := { dst := some 6, op := Op.assign (Operand.tmp 53), type := 4, pos := "law.go:21", after := #[{ on := 26, ground := Ground.data }, { on := 22, ground := Ground.chain }, { on := 0, ground := Ground.phase }, { on := 1, ground := Ground.phase }, { on := 2, ground := Ground.phase }, { on := 3, ground := Ground.phase }, { on := 4, ground := Ground.phase }, { on := 5, ground := Ground.phase }, { on := 6, ground := Ground.phase }, { on := 7, ground := Ground.phase }, { on := 8, ground := Ground.phase }, { on := 9, ground := Ground.phase }, { on := 10, ground := Ground.phase }, { on := 11, ground := Ground.phase }, { on := 12, ground := Ground.phase }, { on := 13, ground := Ground.phase }, { on := 14, ground := Ground.phase }, { on := 15, ground := Ground.phase }, { on := 16, ground := Ground.phase }, { on := 17, ground := Ground.phase }, { on := 18, ground := Ground.phase }, { on := 19, ground := Ground.phase }, { on := 20, ground := Ground.phase }, { on := 21, ground := Ground.phase }, { on := 22, ground := Ground.phase }, { on := 23, ground := Ground.phase }, { on := 24, ground := Ground.phase }, { on := 25, ground := Ground.phase }, { on := 26, ground := Ground.phase }], guard := none }) (v := ?_) rfl (by kernel_rfl) (by kernel_rfl) (by kernel_rfl) (fun _ _ _ h => h) (Or.inl ⟨by rfl, ?_⟩) (by assumption) ?_
          rotate_left
          · intro w' hSw
            try dsimp only at hSw
            go_simp
            try with_reducible rfl
          try simp only [Act.put, List.setIfInBounds_toArray, List.set_cons_zero, List.set_cons_succ]
          refine wpAnyH_done (by kernel_rfl) ?_ _
          refine NoPanic.normal ?_
          go_wp2
          go_ret
          exact ⟨rfl, HB9.out⟩
        · exact AllReadyH.nil
      · exact AllReadyH.nil
    · exact AllReadyH.nil
  · exact AllReadyH.nil
  -- behind it

theorem all_wide (z : List Int) (hz : z.length = 10 ∧ ∀ x ∈ z, (Lit.int .i64 x).wf = true) (g h : Int) (w : World) :
    Calls Try.prog 3 #[.agg (z.map (Value.int .i64)).toArray, .int .i64 g, .int .i64 h] w fun e w' => e = .returned (.bool true) ∧ Below w.heap.size w w' :=
  all_any z hz.1 (fun i hi => by
    have h1 := hz.2 (bt z i) (by unfold bt; rw [List.getD_eq_getElem?_getD, List.getElem?_eq_getElem (by have := hz.1; omega)]; simp)
    have h2 : IntKind.i64.min = -9223372036854775808 := rfl
    have h3 : IntKind.i64.max = 9223372036854775807 := rfl
    simp only [Lit.wf, Bool.and_eq_true, decide_eq_true_eq] at h1
    unfold I64
    omega) g h w

end Go.Proofs.Ytnedappnmkbbpaa
