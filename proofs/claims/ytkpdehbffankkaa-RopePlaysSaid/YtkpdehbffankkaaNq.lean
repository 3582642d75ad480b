/- Contract of package rope's Replace, an edit laid over the parts. -/
import Derived.Test.YtkpdehbffankkaaNp
namespace Go.Proofs.Ytkpdehbffankkaa
open Go.RowKit

variable {w : World} {b : Nat} {t : PT} {e : Nat} {sv : Value} {dn dp : Int}

theorem Bs.own {w : World} {g n c : Nat} {l : List Int} (h : Bs w (some ⟨g, 0, none⟩) n c l) {n' : Nat} (hn : n = n') : Bs w (some ⟨g, 0, none⟩) n' c l := hn ▸ h

set_option maxRecDepth 40000 in
set_option maxHeartbeats 2000000 in
theorem rep_over (k d : Nat) (a : Option Addr) (n c : Nat) (l : List Int) (h : RP w b t e sv dn dp) (hb : Bs w a n c l) (hkd : k + d ≤ t.l.length) (hbig : t.l.length - d + n ≤ 2048) (he : e ≠ 9) :
    Calls Try.prog 13 #[.pointer (some ⟨b, 0, none⟩), .int .i64 k, .int .i64 d, .slice a n c] w fun r w' => ∃ g t' e', r = .returned (.tuple #[.pointer (some ⟨g, 0, none⟩), .int .i64 0]) ∧ RP w' g t' e' (.pointer none) 0 0 ∧ t'.l = t.l.take k ++ l ++ t.l.drop (k + d) ∧ w.heap.size ≤ g ∧ Below w.heap.size w w' := by
  have hlen := h.len
  have KL := Lib.hid (len_any h)
  have c0 := h.c0
  have c1 := h.c1
  have hb0 := h.lt
  have HR := Lib.hid h
  have HKD := Lib.hid hkd
  obtain ⟨N, hN⟩ : ∃ N, t.l.length = N := ⟨_, rfl⟩
  rw [hN] at KL hkd hbig hlen
  have HN := Lib.hid hN
  have hd0 : decide ((k : Int) < 0) = false := by simp
  have hd1 : decide ((d : Int) < 0) = false := by simp
  have hd2 : decide ((k : Int) > (N : Int)) = false := by simp; omega
  have w1 : IntKind.i64.wrap ((N : Int) - (k : Int)) = (N : Int) - (k : Int) := by rw [IntKind.wrap_i64]; omega
  have hd3 : decide ((d : Int) > (N : Int) - (k : Int)) = false := by simp; omega
  have w2 : IntKind.i64.wrap ((N : Int) - (d : Int)) = (N : Int) - (d : Int) := by rw [IntKind.wrap_i64]; omega
  have w3 : IntKind.i64.wrap ((N : Int) - (d : Int) + (n : Int)) = (N : Int) - (d : Int) + (n : Int) := by rw [IntKind.wrap_i64]; omega
  have hd4 : decide ((N : Int) - (d : Int) + (n : Int) > 2048) = false := by simp; omega
  have w4 : IntKind.i64.wrap ((k : Int) + (d : Int)) = (k : Int) + (d : Int) := by rw [IntKind.wrap_i64]; omega
  have hnl := hb.hl
  have HB := Lib.hid hb
  have he0 := h.e9
  have he9 : ((e : Int) == 9) = false := by simp; omega
  have we : IntKind.i64.wrap ((e : Int) + 1) = (e : Int) + 1 := by rw [IntKind.wrap_i64]; omega
  have IA := Lib.hid (ahead_any t k w h.okt (by have := HKD.out; omega) (by rw [HN.out]; omega))
  have IB := Lib.hid (fun w' (hw : Below w.heap.size w w') => behind_any t (k + d) w' (PT.ok.below hw t HR.out.okt) HKD.out (by rw [HN.out]; omega))
  rw [Int.natCast_add] at IB
  have HE := Lib.hid he
  clear h hN hb he
  go_enter Try.func13, Try.ntmps13
  go_wp2_with (first | (go_at_call 20; refine KL.out.mono ?_; rintro r w' ⟨rfl, rfl⟩))
  refine IA.out.mono ?_
  rintro r w1 ⟨z1, s1, rfl, x1, x2, x3, x4⟩
  have HW1 := Lib.hid x4
  have X1 := Lib.hid x1
  have X2 := Lib.hid x2
  have c0' := (x4.cell hb0).trans c0
  clear x1 x2 x4 IA
  go_wp2_with fail
  refine (IB.out w1 HW1.out).mono ?_
  rintro r w2 ⟨z2, s2, rfl, y1, y2, y3, y4⟩
  have HW2 := Lib.hid (HW1.out.trans (y4.mono HW1.out.size))
  have X1 := Lib.hid (PT.ok.below y4 z1 X1.out)
  have Y1 := Lib.hid y1
  have Y2 := Lib.hid y2
  clear y1 y2 y4 IB c0'
  have L1 : z1.l.length + s1.length = k := by
    have := congrArg List.length X2.out
    rw [List.length_append, List.length_take, HN.out] at this
    omega
  have L2 : s2.length + z2.l.length = N - (k + d) := by
    have := congrArg List.length Y2.out
    rw [List.length_append, List.length_drop, HN.out] at this
    exact this
  have R1 : ∀ x ∈ s1, 0 ≤ x ∧ x ≤ 255 := fun x hx => PT.l_rng t HR.out.okt x (List.take_subset _ _ (by rw [← X2.out]; exact List.mem_append_right _ hx))
  have R2 : ∀ x ∈ s2, 0 ≤ x ∧ x ≤ 255 := fun x hx => PT.l_rng t HR.out.okt x (List.drop_subset _ _ (by rw [← Y2.out]; exact List.mem_append_left _ hx))
  obtain ⟨g1, C1, W3, kc1, b1, hb1⟩ := conv_str w2 s1 R1 (by omega)
  obtain ⟨g2, C2, W4, kc2, b2, hb2⟩ := conv_str W3 s2 R2 (by omega)
  have HW4 := Lib.hid ((HW2.out.trans (hb1.mono HW2.out.size)).trans (hb2.mono (Nat.le_trans HW2.out.size hb1.size)))
  have HW24 := Lib.hid (hb1.trans (hb2.mono hb1.size))
  have B1 := Lib.hid (b1.below hb2)
  have B2 := Lib.hid b2
  obtain ⟨m1, hm1⟩ : ∃ m, s1.length = m := ⟨_, rfl⟩
  obtain ⟨m2, hm2⟩ : ∃ m, s2.length = m := ⟨_, rfl⟩
  obtain ⟨q1, hq1⟩ : ∃ m, z1.l.length = m := ⟨_, rfl⟩
  obtain ⟨q2, hq2⟩ : ∃ m, z2.l.length = m := ⟨_, rfl⟩
  rw [hm1] at kc1 B1 L1
  rw [hm2] at kc2 B2 L2
  rw [hq1] at L1
  rw [hq2] at L2
  have HQ1 := Lib.hid hq1
  have HQ2 := Lib.hid hq2
  clear hb1 hb2 b1 b2 R1 R2 hm1 hm2 hq1 hq2
  go_wp2_with fail
  (with_reducible refine (concatR _ _ _ _ _ _ _ _ _ s1 l s2 W4 B1.out (HB.out.below HW4.out) B2.out ?_).mono ?_)
  · omega
  rintro r w5 ⟨a5, c5, rfl, u1, u2⟩
  have HW5 := Lib.hid (HW4.out.trans (u2.mono HW4.out.size))
  have HW25 := Lib.hid (HW24.out.trans (u2.mono HW24.out.size))
  have U1 := Lib.hid u1
  clear u1 u2 kc1 kc2
  go_wp2_with fail
  refine (build_any 5 _ _ _ _ _ U1.out.bs (by omega) (by omega)).mono ?_
  rintro r w6 ⟨z3, rfl, v1, v2, v3, v4⟩
  have HW6 := Lib.hid (HW5.out.trans (v4.mono HW5.out.size))
  have HW26 := Lib.hid (HW25.out.trans (v4.mono HW25.out.size))
  have V1 := Lib.hid v1
  have V2 := Lib.hid v2
  have q3 : z3.l.length = m1 + n + m2 := by rw [v2]; exact U1.out.bs.hl
  have Q3 := Lib.hid q3
  have c1' := (HW6.out.cell hb0).trans c1
  have X1 := Lib.hid (PT.ok.below HW26.out z1 X1.out)
  have Y1 := Lib.hid (PT.ok.below HW26.out z2 Y1.out)
  clear v1 v2 v4 q3 HW24 HW25 U1
  go_wp2_with fail
  go_region_held3 (fun w' => w'.cell? ⟨b, 1, none⟩ = some (.int .i64 e)) (first | go_keep | exact (HW7.out.cell hb0).trans c1 | exact (HW8.out.cell hb0).trans c1 | fail) (first | (go_at_call 27; (with_reducible refine (join_any z1 z3 _ ?_ ?_ ?_).mono ?_); (exact PT.ok.below (Below.refl _ _).drew z1 X1.out); (exact PT.ok.below (Below.refl _ _).drew z3 V1.out); (rw [HQ1.out, Q3.out]; omega); rintro r w7 ⟨x, rfl, j1, j2, j3, j4⟩; have HW7 : Hid (Below w.heap.size w w7) := Lib.hid ((HW6.out.drew).trans (j4.mono HW6.out.size))) | (go_at_call 27; (with_reducible refine (join_any x z2 _ ?_ ?_ ?_).mono ?_); (exact j1); (exact PT.ok.below ((Below.refl _ _).drew.trans j4) z2 Y1.out); (rw [j2, List.length_append, HQ1.out, Q3.out, HQ2.out]; omega); rintro r w8 ⟨y, rfl, i1, i2, i3, i4⟩; have HW8 : Hid (Below w.heap.size w w8) := Lib.hid (HW7.out.trans (i4.mono HW7.out.size)); obtain ⟨p, hp⟩ := v_ptr y; have HP := Lib.hid hp; rw [hp]; clear hp))
  have hb9 : Below w8.heap.size w8 (w8.alloc (.cells (ropeC y (e + 1) (.pointer none) 0 0) 73)) := (Below.refl _ _).alloc (Nat.le_refl _) _
  have hblk : (w8.alloc (.cells (ropeC y (e + 1) (.pointer none) 0 0) 73)).heap[w8.heap.size]? = _ := heapAt4 w8 _
  have hyl : y.l = t.l.take k ++ l ++ t.l.drop (k + d) := by
    rw [i2, j2, V2.out, ← X2.out, ← Y2.out]
    simp only [List.append_assoc]
  have hRP : RP (w8.alloc (.cells (ropeC y (e + 1) (.pointer none) 0 0) 73)) w8.heap.size y (e + 1) (.pointer none) 0 0 := by
    refine ⟨hblk, PT.ok.below hb9 y i1, by have := HE.out; omega, ?_, ?_, .inl rfl, .inl rfl⟩
    · have := HR.out.dle
      omega
    · rw [i2, j2, List.length_append, List.length_append, HQ1.out, Q3.out, HQ2.out]
      omega
  have hBB := HW8.out.trans (hb9.mono HW8.out.size)
  have hle := HW8.out.size
  rw [show ropeC y (e + 1) (.pointer none) 0 0 = #[.pointer p, .int .i64 ((e : Int) + 1), .pointer none, .int .u32 0, .int .i32 0, .int .u32 0, .int .i64 0] from by unfold ropeC; rw [HP.out, Int.natCast_add]; rfl] at hRP hBB
  have HRP := Lib.hid hRP
  have HBB := Lib.hid hBB
  have HYL := Lib.hid hyl
  have HLE := Lib.hid hle
  clear hRP hBB hyl hb9 hblk i4 j4 i2 j2 hle
  go_wp2
  exact bodyPost_ret (v := .tuple #[.pointer (some ⟨w8.heap.size, 0, none⟩), .int .i64 0]) (by simp [results, Try.results13, go_sem]) rfl ⟨_, y, e + 1, rfl, HRP.out, HYL.out, HLE.out, HBB.out⟩

theorem rep_any (k d : Nat) (a : Option Addr) (n c : Nat) (l : List Int) (h : RP w b t e sv dn dp) (hb : Bs w a n c l) (hkd : k + d ≤ t.l.length) (hbig : t.l.length - d + n ≤ 2048) :
    Calls Try.prog 13 #[.pointer (some ⟨b, 0, none⟩), .int .i64 k, .int .i64 d, .slice a n c] w fun r w' => ∃ g t' e', r = .returned (.tuple #[.pointer (some ⟨g, 0, none⟩), .int .i64 0]) ∧ RP w' g t' e' (.pointer none) 0 0 ∧ t'.l = t.l.take k ++ l ++ t.l.drop (k + d) ∧ w.heap.size ≤ g ∧ Below w.heap.size w w' := by
  by_cases he : e = 9
  · exact rep_new k d a n c l h hb hkd hbig he
  · exact rep_over k d a n c l h hb hkd hbig he

end Go.Proofs.Ytkpdehbffankkaa
