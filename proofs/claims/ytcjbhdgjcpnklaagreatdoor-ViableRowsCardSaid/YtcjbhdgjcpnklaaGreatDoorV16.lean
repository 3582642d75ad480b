import Derived.Test.YtcjbhdgjcpnklaaGreatDoorV22
import Derived.Test.YtcjbhdgjcpnklaaGreatDoorV15
namespace Go.Proofs.YtcjbhdgjcpnklaaGreatDoor
section
open Go.RowKit
def tgt (z : List Int) (g h : Int) : Bool := inB 0 [g, h] && T z g.toNat h.toNat
theorem zBz (lo g h : Int) : inB lo [g, h] = true ↔ (lo ≤ g ∧ g ≤ 9) ∧ lo ≤ h ∧ h ≤ 9 := by simp [inB]
set_option maxRecDepth 20000 in
theorem zHC (z : List Int) (hz : z.length = 10) (hr : ∀ i, i < 10 → I64 (bt z i)) (g h : Int) (w : World) :
  Calls Tryz.prog 121 #[.agg (rv z), .int .i64 g, .int .i64 h] w fun e w' => e = .returned (.bool (tgt z g h)) ∧ Below w.heap.size w w' := by
 obtain ⟨w0, hw0⟩ : ∃ w0, w.alloc (.cells (rv z) 32) = w0 := ⟨_, rfl⟩
 have HB0 : Hid (Below w.heap.size w w0) := hid (by rw [← hw0]; exact (Below.refl _ _).alloc (Nat.le_refl _) _)
 obtain ⟨G, hG⟩ : ∃ G, w.heap.size = G := ⟨_, rfl⟩
 have HR : Hid (RB w0 G z) := hid (by rw [← hw0, ← hG]; exact RB.new w z)
 have HS : Hid (G ≤ w0.heap.size) := hid (by rw [← hG]; exact HB0.out.size)
 rw [hG] at HB0 ⊢
 have HZ := hid hz
 have HI := hid hr
 clear hr hz
 by_cases hin : inB 0 [g, h] = true
 ·obtain ⟨⟨g1, g2⟩, h1, h2⟩ := (zBz 0 g h).1 hin
  obtain ⟨x, rfl⟩ := Int.eq_ofNat_of_zero_le g1
  obtain ⟨y, rfl⟩ := Int.eq_ofNat_of_zero_le h1
  have HT : Hid (tgt z x y = T z x y) := hid (by rw [tgt, hin]; rfl)
  have HN := hid hin
  clear hin
  have KW : Hid (∀ (b : Nat) (w1 : World), w1.heap[b]? = some (.cells #[.int .i64 x, .int .i64 y] 3 (0, 0)) → Calls Tryz.prog 151 #[.int .i64 0, .slice (some ⟨b, 0, none⟩) 2 2] w1 fun e w' => e = .returned (.bool true) ∧ w1 = w') := hid fun b w1 hb => by
   have := zEv 0 x y b w1 hb
   rw [HN.out] at this; exact this
  have HD : Hid (decide (z.set x (bits .or .i64 (bt z x) (2 ^ y)) = z) = tgt z x y) := hid (by
   rw [HT.out, Bool.eq_iff_iff, decide_eq_true_eq, T, ← zOQ (HI.out x (by omega)) (by omega)]
   refine ⟨fun e => ?_, fun e => ?_⟩
   ·have := congrArg (fun l => bt l x) e
    simp only [bt_set' HZ.out _ _ _ (show x < 10 by omega)] at this
    simpa using this
   ·rw [e]
    exact zEu (by simp [HZ.out]) HZ.out fun i hi => by
     rw [bt_set' HZ.out _ _ _ (show x < 10 by omega)]
     split
     ·rename_i h; rw [h]
     ·rfl)
  have heq := fun w' => zOU (z.set x (bits .or .i64 (bt z x) (2 ^ y))) z (by simp [HZ.out]) HZ.out w'
  have hpw := zFS y (by omega)
  go_enter Tryz.func121, Tryz.ntmps121
  go_wp2_with fail
  refine wp_region_noPanic ?_
  refine wp_region_held_drew (S := fun w' => RB w' G z) (by kernel_rfl) (HR.out) (fun hHeld => ?_)
  refine zG 0 rfl ?_
  try simp only [Act.put, aS, aZ, aC]
  refine zG 1 rfl ?_
  try simp only [Act.put, aS, aZ, aC]
  refine zR [2] ?_
  refine hDo rfl (fun K hK => ?_) ?_
  ·go_simp
   refine hK.out _ _ (RB.alloc HR.out _) (fun hHeld => ?_)
   clear hK K
   try simp only [Act.put, aS, aZ, aC]
   refine zR [3] ?_
   refine hDo rfl (fun K hK => ?_) ?_
   ·go_simp
    (go_at_call 151; (with_reducible refine (KW.out _ _ ?_).mono ?_); (exact heap_alloc_new w0 _); rintro e w1 ⟨rfl, rfl⟩)
    refine hK.out _ _ (RB.alloc HR.out _) (fun hHeld => ?_)
    clear hK K
    try simp only [Act.put, aS, aZ, aC]
    refine zG 4 rfl ?_
    try simp only [Act.put, aS, aZ, aC]
    refine zD4 (i := 5) (oi := { dst := some 12, op := Op.load 32 (Operand.tmp 3), type := 32, pos := "graph.go:19", after := #[{ on := 4, ground := Ground.guard }], guard := some (4, true) }) (Operand.tmp 3) rfl (by kernel_rfl) (by kernel_rfl) (by kernel_rfl) (z) (fun _ _ _ h => h) (by rfl) rfl (G) rfl (HZ.out) (fun _ h => h) (by assumption) ?_
    try simp only [Act.put, aS, aZ, aC]
    refine zG 6 rfl ?_
    try simp only [Act.put, aS, aZ, aC]
    refine zG 7 rfl ?_
    try simp only [Act.put, aS, aZ, aC]
    refine zG 8 rfl ?_
    try simp only [Act.put, aS, aZ, aC]
    refine zD4 (i := 10) (oi := { dst := some 17, op := Op.load 32 (Operand.tmp 3), type := 32, pos := "graph.go:19", after := #[{ on := 4, ground := Ground.guard }], guard := some (4, true) }) (Operand.tmp 3) rfl (by kernel_rfl) (by kernel_rfl) (by kernel_rfl) (z) (fun _ _ _ h => h) (by rfl) rfl (G) rfl (HZ.out) (fun _ h => h) (by assumption) ?_
    try simp only [Act.put, aS, aZ, aC]
    refine zR [9] ?_
    refine hDo rfl (fun K hK => ?_) ?_
    ·go_simp
     (go_at_call 89; (with_reducible refine (zH8 z HZ.out x (by omega) _ _).mono ?_); rintro e w2 ⟨rfl, hb⟩)
     have HB2 := hid hb
     clear hb
     refine hK.out _ _ (RB.keep (RB.drew (RB.alloc HR.out _)) HB2.out (RB.lt (RB.drew (RB.alloc HR.out _)))) (fun hHeld => ?_)
     clear hK K
     try simp only [Act.put, aS, aZ, aC]
     refine zG 11 rfl ?_
     try simp only [Act.put, aS, aZ, aC]
     refine zG 12 rfl ?_
     try simp only [Act.put, aS, aZ, aC]
     refine zG 13 rfl ?_
     try simp only [Act.put, aS, aZ, aC]
     refine wpAnyH_done (by kernel_rfl) ?_ _
     refine NoPanic.normal ?_
     have HX : Below G w w2 := HB0.out.trans (((((Below.refl _ w0).alloc (Nat.le_refl _) _).drew).trans (HB2.out.mono (by simp))).mono HS.out)
     go_wp2
     go_ret
     exact ⟨by rw [HD.out]; rfl, HX⟩
    ·exact AllReadyH.nil
   ·exact AllReadyH.nil
  ·exact AllReadyH.nil
 ·have HN : Hid (inB 0 [g, h] = false) := hid (by simpa using hin)
  have HT : Hid (tgt z g h = false) := hid (by rw [tgt, HN.out]; rfl)
  clear hin
  have KW : Hid (∀ (b : Nat) (w1 : World), w1.heap[b]? = some (.cells #[.int .i64 g, .int .i64 h] 3 (0, 0)) → Calls Tryz.prog 151 #[.int .i64 0, .slice (some ⟨b, 0, none⟩) 2 2] w1 fun e w' => e = .returned (.bool false) ∧ w1 = w') := hid fun b w1 hb => by
   have := zEv 0 g h b w1 hb
   rw [HN.out] at this; exact this
  go_enter Tryz.func121, Tryz.ntmps121
  go_wp2_with fail
  refine wp_region_noPanic ?_
  refine wp_region_held_drew (S := fun w' => RB w' G z) (by kernel_rfl) (HR.out) (fun hHeld => ?_)
  refine zG 0 rfl ?_
  try simp only [Act.put, aS, aZ, aC]
  refine zG 1 rfl ?_
  try simp only [Act.put, aS, aZ, aC]
  refine zR [2] ?_
  refine hDo rfl (fun K hK => ?_) ?_
  ·go_simp
   refine hK.out _ _ (RB.alloc HR.out _) (fun hHeld => ?_)
   clear hK K
   try simp only [Act.put, aS, aZ, aC]
   refine zR [3] ?_
   refine hDo rfl (fun K hK => ?_) ?_
   ·go_simp
    (go_at_call 151; (with_reducible refine (KW.out _ _ ?_).mono ?_); (exact heap_alloc_new w0 _); rintro e w1 ⟨rfl, rfl⟩)
    refine hK.out _ _ (RB.alloc HR.out _) (fun hHeld => ?_)
    clear hK K
    try simp only [Act.put, aS, aZ, aC]
    refine zG 4 rfl ?_
    try simp only [Act.put, aS, aZ, aC]
    refine wpAnyH_take (i := 5) (oi := { dst := some 12, op := Op.load 32 (Operand.tmp 3), type := 32, pos := "graph.go:19", after := #[{ on := 4, ground := Ground.guard }], guard := some (4, true) }) (v := undef) rfl (by kernel_rfl) (by kernel_rfl) (by kernel_rfl) (fun _ _ _ h => h) (Or.inr ⟨by rfl, rfl⟩) (by assumption) ?_
    try simp only [Act.put, aS, aZ, aC]
    refine wpAnyH_take (i := 6) (oi := { dst := some 13, op := Op.move (Operand.tmp 1), type := 3, pos := "graph.go:19", after := #[{ on := 4, ground := Ground.guard }], guard := some (4, true) }) (v := undef) rfl (by kernel_rfl) (by kernel_rfl) (by kernel_rfl) (fun _ _ _ h => h) (Or.inr ⟨by rfl, rfl⟩) (by assumption) ?_
    try simp only [Act.put, aS, aZ, aC]
    refine wpAnyH_take (i := 7) (oi := { dst := some 14, op := Op.move (Operand.tmp 2), type := 3, pos := "graph.go:19", after := #[{ on := 4, ground := Ground.guard }], guard := some (4, true) }) (v := undef) rfl (by kernel_rfl) (by kernel_rfl) (by kernel_rfl) (fun _ _ _ h => h) (Or.inr ⟨by rfl, rfl⟩) (by assumption) ?_
    try simp only [Act.put, aS, aZ, aC]
    refine wpAnyH_take (i := 8) (oi := { dst := some 15, op := Op.binOp BinOp.shl 3 (Operand.const (Value.int IntKind.i64 1)) (Operand.tmp 14) 3, type := 3, pos := "graph.go:19", after := #[{ on := 7, ground := Ground.data }, { on := 4, ground := Ground.guard }], guard := some (4, true) }) (v := undef) rfl (by kernel_rfl) (by kernel_rfl) (by kernel_rfl) (fun _ _ _ h => h) (Or.inr ⟨by rfl, rfl⟩) (by assumption) ?_
    try simp only [Act.put, aS, aZ, aC]
    refine wpAnyH_take (i := 10) (oi := { dst := some 17, op := Op.load 32 (Operand.tmp 3), type := 32, pos := "graph.go:19", after := #[{ on := 4, ground := Ground.guard }], guard := some (4, true) }) (v := undef) rfl (by kernel_rfl) (by kernel_rfl) (by kernel_rfl) (fun _ _ _ h => h) (Or.inr ⟨by rfl, rfl⟩) (by assumption) ?_
    try simp only [Act.put, aS, aZ, aC]
    refine wpAnyH_take (i := 9) (oi := { dst := some 16, op := Op.call { callee := Callee.value (Operand.func 89), args := #[Operand.tmp 12, Operand.tmp 13, Operand.tmp 15], argTypes := #[32, 3, 3] }, type := 32, pos := "graph.go:19", after := #[{ on := 5, ground := Ground.data }, { on := 6, ground := Ground.data }, { on := 8, ground := Ground.data }, { on := 4, ground := Ground.chain }, { on := 4, ground := Ground.guard }], guard := some (4, true) }) (v := undef) rfl (by kernel_rfl) (by kernel_rfl) (by kernel_rfl) (fun _ _ _ h => h) (Or.inr ⟨by rfl, rfl⟩) (by assumption) ?_
    try simp only [Act.put, aS, aZ, aC]
    refine wpAnyH_take (i := 11) (oi := { dst := some 18, op := Op.binOp BinOp.eql 32 (Operand.tmp 16) (Operand.tmp 17) 32, type := 4, pos := "graph.go:19", after := #[{ on := 9, ground := Ground.data }, { on := 10, ground := Ground.data }, { on := 4, ground := Ground.guard }], guard := some (4, true) }) (v := undef) rfl (by kernel_rfl) (by kernel_rfl) (by kernel_rfl) (fun _ _ _ h => h) (Or.inr ⟨by rfl, rfl⟩) (by assumption) ?_
    try simp only [Act.put, aS, aZ, aC]
    refine zG 12 rfl ?_
    try simp only [Act.put, aS, aZ, aC]
    refine zG 13 rfl ?_
    try simp only [Act.put, aS, aZ, aC]
    refine wpAnyH_done (by kernel_rfl) ?_ _
    refine NoPanic.normal ?_
    have HX : Below G w (w0.alloc (.cells #[.int .i64 g, .int .i64 h] 3)).drew := (HB0.out.alloc HS.out _).drew
    go_wp2
    go_ret
    exact ⟨by rw [HT.out]; rfl, HX⟩
   ·exact AllReadyH.nil
  ·exact AllReadyH.nil
end
section
open Go.RowKit
set_option maxRecDepth 20000 in
theorem zDP (z : List Int) (hz : z.length = 10) (g h : Int) (w : World) :
  Calls Tryz.prog 106 #[.agg (rv z), .int .i64 g, .int .i64 h] w fun e w' => e = .returned (.bool (tgt z g h)) ∧ Below w.heap.size w w' := by
 obtain ⟨w0, hw0⟩ : ∃ w0, w.alloc (.cells (rv z) 32) = w0 := ⟨_, rfl⟩
 have HB0 : Hid (Below w.heap.size w w0) := hid (by rw [← hw0]; exact (Below.refl _ _).alloc (Nat.le_refl _) _)
 obtain ⟨G, hG⟩ : ∃ G, w.heap.size = G := ⟨_, rfl⟩
 have HR : Hid (RB w0 G z) := hid (by rw [← hw0, ← hG]; exact RB.new w z)
 rw [hG] at HB0 ⊢
 have HZ := hid hz
 clear hz
 by_cases hin : inB 0 [g, h] = true
 ·obtain ⟨⟨g1, g2⟩, h1, h2⟩ := (zBz 0 g h).1 hin
  obtain ⟨x, rfl⟩ := Int.eq_ofNat_of_zero_le g1
  obtain ⟨y, rfl⟩ := Int.eq_ofNat_of_zero_le h1
  have HT : Hid (tgt z x y = T z x y) := hid (by rw [tgt, hin]; rfl)
  clear hin
  have hc := HR.out.cell HZ.out (show x < 10 by omega)
  have HD : Hid ((bits .and .i64 (bt z x / 2 ^ y) 1 == 1) = tgt z x y) := hid (by
   rw [HT.out, Bool.eq_iff_iff, T, ← zOR (bt z x) (h := y) (by omega)]; simp)
  have d1 : decide ((x : Int) < 10) = true := by simp; omega
  have d2 : decide ((y : Int) < 10) = true := by simp; omega
  go_enter Tryz.func106, Tryz.ntmps106
  go_wp2
  go_ret
  exact ⟨by rw [← HD.out]; rfl, HB0.out⟩
 ·have HN : Hid (tgt z g h = false) := hid (by rw [tgt, show inB 0 [g, h] = false by simpa using hin]; rfl)
  have hin' : ¬ ((0 ≤ g ∧ g ≤ 9) ∧ 0 ≤ h ∧ h ≤ 9) := fun hh => hin ((zBz 0 g h).2 hh)
  clear hin
  by_cases a1 : g < 0
  ·clear hin'
   go_enter Tryz.func106, Tryz.ntmps106
   go_wp2
   go_ret
   exact ⟨by rw [HN.out]; rfl, HB0.out⟩
  ·by_cases a2 : 9 < g
   ·clear hin'
    go_enter Tryz.func106, Tryz.ntmps106
    go_wp2
    go_ret
    exact ⟨by rw [HN.out]; rfl, HB0.out⟩
   ·by_cases b1 : h < 0
    ·clear hin'
     go_enter Tryz.func106, Tryz.ntmps106
     go_wp2
     go_ret
     exact ⟨by rw [HN.out]; rfl, HB0.out⟩
    ·have b2 : 9 < h := by omega
     clear hin'
     go_enter Tryz.func106, Tryz.ntmps106
     go_wp2
     go_ret
     exact ⟨by rw [HN.out]; rfl, HB0.out⟩
end
end Go.Proofs.YtcjbhdgjcpnklaaGreatDoor
