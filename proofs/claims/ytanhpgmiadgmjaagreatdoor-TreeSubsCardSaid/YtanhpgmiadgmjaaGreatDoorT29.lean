import Derived.Deep.RegionHeld3
import Derived.Deep.QuietTactic
import Derived.BigQuiet
import Derived.Test.YtanhpgmiadgmjaaGreatDoorT28
namespace Go.Proofs.YtanhpgmiadgmjaaGreatDoor
open Go.RowKit
theorem agg_tk (y : TK) : Value.agg (tkA y) = .agg #[.int .i64 y.k, .int .i64 y.f, .int .i64 y.t, .string (mk (txN y)), .int .i64 y.e] := by rw [txN_mk]; rfl
set_option maxRecDepth 20000 in
set_option maxHeartbeats 4000000 in
theorem encloses_any (a : Option Addr) (n c : Nat) (own : List TK) (x y : ND) (w : World) (h : Ts w a n c own) (h0 : 0 < n) (hn : n ≤ 1000000) (hf : 0 ≤ x.f ∧ x.f ≤ 1000000) (ht : 0 ≤ x.t ∧ x.t ≤ 1000000) :
  Calls Tryz.prog 65 #[.slice a n c, .agg (ndA x), .agg (ndA y)] w fun e w' => e = .returned (.bool (y.f == x.f + 1 && (y.t == x.t - 1 && (soloB (tat own 0) 40 && soloB (tat own (n - 1)) 41)))) ∧ Below w.heap.size w w' := by
 obtain ⟨B, hB⟩ : ∃ B, B = w.heap.size := ⟨_, rfl⟩
 obtain ⟨w1, hw1⟩ : ∃ w1, w1 = w.alloc (.cells (ndA x) 37) := ⟨_, rfl⟩
 obtain ⟨w2, hw2⟩ : ∃ w2, w2 = w1.alloc (.cells (ndA y) 37) := ⟨_, rfl⟩
 obtain ⟨b1, hb1⟩ : ∃ b1, b1 = w1.heap.size := ⟨_, rfl⟩
 have s1 : b1 = B + 1 := by rw [hb1, hw1, hB]; simp
 have HX : Hid (N5 w2 B x) := hid (by rw [hw2, hw1, hB]; exact (N5.new w x).alloc _)
 have HY : Hid (N5 w2 b1 y) := hid (by rw [hw2, hb1]; exact N5.new w1 y)
 have HB2 : Hid (Below w.heap.size w w2) := hid (by rw [hw2, hw1]; exact (below_alloc w _).alloc (by simp) _)
 have HT : Hid (Ts w2 a n c own) := hid (h.below HB2.out)
 obtain ⟨x0, x1, x2, x3, x4⟩ := HX.out.cells
 obtain ⟨y0, y1, y2, y3, y4⟩ := HY.out.cells
 obtain ⟨b, o, rfl, c0, c1, c2, c3, c4⟩ := tok_at HT.out (show 0 < n by omega)
 obtain ⟨b', o', e', d0, d1, d2, d3, d4⟩ := tok_at HT.out (show n - 1 < n by omega)
 simp only [Option.some.injEq, Addr.mk.injEq, and_true] at e'
 obtain ⟨rfl, rfl⟩ := e'
 rw [Nat.zero_mul, Nat.add_zero] at c0 c1 c2 c3 c4
 obtain ⟨m, hm⟩ : ∃ m, m = n - 1 := ⟨_, rfl⟩
 have hmn : (n : Int) - 1 = (m : Int) := by omega
 have hmlt : (m : Int) < (n : Int) := by omega
 have hm0 : (0 : Int) ≤ (m : Int) := Int.natCast_nonneg _
 rw [← hm] at d0 d1 d2 d3 d4 ⊢
 obtain ⟨ta, hta⟩ : ∃ t, t = tat own 0 := ⟨_, rfl⟩
 obtain ⟨tb, htb⟩ : ∃ t, t = tat own m := ⟨_, rfl⟩
 rw [← hta] at c0 c1 c2 c3 c4 ⊢
 rw [← htb] at d0 d1 d2 d3 d4 ⊢
 obtain ⟨v1, hv1⟩ : ∃ v, v = soloB ta 40 := ⟨_, rfl⟩
 obtain ⟨v2, hv2⟩ : ∃ v, v = soloB tb 41 := ⟨_, rfl⟩
 have K1 : Hid (∀ w', Calls Tryz.prog 105 #[.agg #[.int .i64 ta.k, .int .i64 ta.f, .int .i64 ta.t, .string (mk (txN ta)), .int .i64 ta.e], .string { data := #[40] }] w' fun e w'' => e = .returned (.bool v1) ∧ Below w'.heap.size w' w'') := hid fun w' => by rw [hv1, ← agg_tk]; exact tsolo_any ta 40 w'
 have K2 : Hid (∀ w', Calls Tryz.prog 105 #[.agg #[.int .i64 tb.k, .int .i64 tb.f, .int .i64 tb.t, .string (mk (txN tb)), .int .i64 tb.e], .string { data := #[41] }] w' fun e w'' => e = .returned (.bool v2) ∧ Below w'.heap.size w' w'') := hid fun w' => by rw [hv2, ← agg_tk]; exact tsolo_any tb 41 w'
 rw [← hv1, ← hv2]
 have HTB : Hid (∀ w', Below w2.heap.size w2 w' → w'.cell? ⟨b, o + m * 5, none⟩ = some (.int .i64 tb.k) ∧ w'.cell? ⟨b, o + m * 5 + 1, none⟩ = some (.int .i64 tb.f) ∧ w'.cell? ⟨b, o + m * 5 + 2, none⟩ = some (.int .i64 tb.t) ∧ w'.cell? ⟨b, o + m * 5 + 3, none⟩ = some (.string (mk (txN tb))) ∧ w'.cell? ⟨b, o + m * 5 + 4, none⟩ = some (.int .i64 tb.e)) := hid fun w' hb => by
  have hlt : b < w2.heap.size := World.block_lt_of_cell? w2 ⟨b, o + m * 5, none⟩ d0
  exact ⟨(hb.cell hlt).trans d0, (hb.cell hlt).trans d1, (hb.cell hlt).trans d2, (hb.cell hlt).trans d3, (hb.cell hlt).trans d4⟩
 obtain ⟨ta0, hta0⟩ : ∃ q, q = txN ta := ⟨_, rfl⟩
 obtain ⟨tb0, htb0⟩ : ∃ q, q = txN tb := ⟨_, rfl⟩
 rw [← hta0] at c3 K1
 rw [← htb0] at HTB K2
 have hnx : ndA x = #[.int .i64 x.k, .string (mk x.n), .int .i64 x.f, .int .i64 x.t, .int .i64 x.c] := rfl
 have hny : ndA y = #[.int .i64 y.k, .string (mk y.n), .int .i64 y.f, .int .i64 y.t, .int .i64 y.c] := rfl
 obtain ⟨xf, hxf⟩ : ∃ q, q = x.f := ⟨_, rfl⟩
 obtain ⟨xt, hxt⟩ : ∃ q, q = x.t := ⟨_, rfl⟩
 obtain ⟨yf, hyf⟩ : ∃ q, q = y.f := ⟨_, rfl⟩
 obtain ⟨yt, hyt⟩ : ∃ q, q = y.t := ⟨_, rfl⟩
 rw [← hxf] at x2 hf ⊢
 rw [← hxt] at x3 ht ⊢
 rw [← hyf] at y2 ⊢
 rw [← hyt] at y3 ⊢
 clear h hta htb hv1 hv2 hta0 htb0 hxf hxt hyf hyt d0 d1 d2 d3 d4 x0 x1 x4 y0 y1 y4 hm
 obtain ⟨hf0, hf1⟩ := hf
 obtain ⟨ht0, ht1⟩ := ht
 go_enter Tryz.func65, Tryz.ntmps65
 rw [hnx, hny]
 go_upto_region 1 with fail
 rw [← hnx, ← hny, ← hw1]
 try rw [← hw2]
 rw [← hB]
 try rw [← s1]
 clear hw1 hw2 hB hb1 s1 hnx hny
 cases e1 : (yf == xf + 1) with
 | false =>
  go_wp2
  go_ret
  exact ⟨ret_bool (by rw [e1]; rfl), HB2.out⟩
 | true =>
  cases e2 : (yt == xt - 1) with
  | false =>
   go_wp2
   go_ret
   exact ⟨ret_bool (by rw [e1, e2]; rfl), HB2.out⟩
  | true =>
   go_wp2_with fail
   refine (K1.out w2).mono ?_
   rintro e w3 ⟨rfl, hb3⟩
   have HB3 := hid hb3
   cases v1 with
   | false =>
    clear hb3
    go_wp2
    go_ret
    exact ⟨ret_bool (by rw [e1, e2]; rfl), HB2.out.trans (HB3.out.mono HB2.out.size)⟩
   | true =>
    obtain ⟨d0, d1, d2, d3, d4⟩ := HTB.out _ hb3
    clear hb3
    go_wp2_with fail
    refine (K2.out w3).mono ?_
    rintro e w4 ⟨rfl, hb4⟩
    have HB4 : Hid (Below w.heap.size w w4) := hid ((HB2.out.trans (HB3.out.mono HB2.out.size)).trans (hb4.mono (Nat.le_trans HB2.out.size HB3.out.size)))
    clear hb4 d0 d1 d2 d3 d4
    cases v2 with
    | false =>
     go_wp2
     go_ret
     exact ⟨ret_bool (by rw [e1, e2]; rfl), HB4.out⟩
    | true =>
     go_wp2
     go_ret
     exact ⟨ret_bool (by rw [e1, e2]; rfl), HB4.out⟩
theorem ss_but {w w' : World} {a : Option Addr} {n c m X Y : Nat} {P : List Nm} {t t' : TypeId} {i : Int} {ka : Option Addr} {kn kc : Nat} (h : Ss w a n c P) (hX : C1 w X t (.int .i64 i)) (hY : C1 w Y t' (.slice ka kn kc)) (hb : But m X Y w w') : Ss w' a n c P :=
 ⟨h.hl, h.lc, h.cm, fun h0 => by
  obtain ⟨b, o, ha, hlt, hc⟩ := h.at_ h0
  have h1 := hc 0 (by omega)
  have hl := Ss.len h
  rw [List.getElem?_map, List.getElem?_eq_getElem (by omega)] at h1
  have hne : ∀ (Z : Nat) (s : TypeId) (v : Value), C1 w Z s v → (∀ q, v ≠ .string q) → b ≠ Z := by
   intro Z s v hZ hv e
   subst e
   rw [cell_of_row w b (o + 0) _ _ _ hZ] at h1
   by_cases h00 : o + 0 = 0
   ·rw [h00] at h1
    simp only [List.getElem?_toArray, List.getElem?_cons_zero, Option.map_some, Option.some.injEq] at h1
    exact hv _ h1
   ·rw [Array.getElem?_eq_none (by simp; omega)] at h1
    cases h1
  refine ⟨b, o, ha, Nat.lt_of_lt_of_le hlt hb.size, fun j hj => ?_⟩
  rw [← hc j hj]
  unfold World.cell?
  rw [hb.s b hlt (hne X t _ hX (fun q h => by cases h)) (hne Y t' _ hY (fun q h => by cases h))]⟩
theorem ts_but {w w' : World} {a : Option Addr} {n c m X Y : Nat} {tok : List TK} {t t' : TypeId} {u u' : Value} (h : Ts w a n c tok) (hX : C1 w X t u) (hY : C1 w Y t' u') (hb : But m X Y w w') : Ts w' a n c tok :=
 ⟨h.hl, h.lc, h.cm, fun h0 => by
  obtain ⟨b, o, ha, hlt, hc⟩ := h.at_ h0
  have hne : ∀ (Z : Nat) (s : TypeId) (v : Value), C1 w Z s v → b ≠ Z := by
   intro Z s v hZ e
   subst e
   have h1 := hc 0 h0 1 (by omega)
   rw [cell_of_row w b _ _ _ _ hZ, Array.getElem?_eq_none (by simp)] at h1
   cases h1
  refine ⟨b, o, ha, Nat.lt_of_lt_of_le hlt hb.size, fun j hj i hi => ?_⟩
  rw [← hc j hj i hi]
  unfold World.cell?
  rw [hb.s b hlt (hne X t u hX) (hne Y t' u' hY)]⟩
theorem But.weak {m X Y : Nat} {w w' : World} (h : But m X X w w') : But m X Y w w' := ⟨h.b, fun g hg h1 _ => h.s g hg h1 h1⟩
theorem al_part {tok : List TK} {to_ : Int} {p : Nm} (hp : p ≠ []) (r : List Nm) (a : Int) (K : List ND) : alB tok to_ (p :: r) a K = (decide (a < to_) && (partB (tkn tok a).k (txN (tkn tok a)) p && alB tok to_ r (a + 1) K)) := by
 conv => lhs; unfold alB
 rw [if_pos hp]
theorem al_hole {tok : List TK} {to_ : Int} (r : List Nm) (a : Int) (c : ND) (K : List ND) : alB tok to_ ([] :: r) a (c :: K) = (c.f == a && alB tok to_ r c.t K) := by
 conv => lhs; unfold alB
 rw [if_neg (by simp)]
structure Jo (tok : List TK) (x : ND) (V : Bool) (la : Option Addr) (ln lc : Nat) (ba bn bl bk m : Nat) (I : List Nm) (w1 : World) : Prop where
 j : ∃ (at_ : Nat) (K' : List ND) (ka' : Option Addr) (kc' : Nat), C1 w1 ba 3 (.int .i64 (at_ : Int)) ∧ at_ ≤ ln ∧ C1 w1 bk 24 (.slice ka' K'.length kc') ∧ NdS w1 ka' K'.length kc' K' ∧ K'.length = holN I ∧ (∀ c ∈ K', goodN tok c) ∧ alB tok x.t I at_ K' = V
 n : N5 w1 bn x
 l : C1 w1 bl 23 (.slice la ln lc)
 t : Ts w1 la ln lc tok
 s : m ≤ w1.heap.size
section
variable {tok : List TK} {x : ND} {V : Bool} {la : Option Addr} {ln lc ba bn bl bk m : Nat}
theorem Jo.below {I : List Nm} {w1 w' : World} (h : Jo tok x V la ln lc ba bn bl bk m I w1) (hb : Below w1.heap.size w1 w') : Jo tok x V la ln lc ba bn bl bk m I w' := by
 obtain ⟨at_, K', ka', kc', h1, h2, h3, h4, h5, h6, h7⟩ := h.j
 exact ⟨⟨at_, K', ka', kc', h1.below hb, h2, h3.below hb, h4.below hb, h5, h6, h7⟩, h.n.below hb, h.l.below hb, h.t.below hb, Nat.le_trans h.s hb.size⟩
theorem jo_part (hne : bn ≠ ba ∧ bl ≠ ba ∧ bn ≠ bk ∧ bl ≠ bk ∧ m ≤ ba ∧ m ≤ bk ∧ ba ≠ bk) (hln : ln ≤ 1000000) (hxt : x.t ≤ ln) (p : Nm) (r : List Nm) (w1 : World) (hp : p ≠ []) (h : Jo tok x V la ln lc ba bn bl bk m (p :: r) w1) :
  Calls Tryz.prog 109 #[.string (mk p), .pointer (some ⟨ba, 0, none⟩), .pointer (some ⟨bn, 0, none⟩), .pointer (some ⟨bl, 0, none⟩)] w1 fun e w' => ∃ b, e = .returned (.bool b) ∧ (b = true → Jo tok x V la ln lc ba bn bl bk m r w') ∧ (b = false → V = false) ∧ But m ba bk w1 w' := by
 obtain ⟨at_, K', ka', kc', h1, h2, h3, h4, h5, h6, h7⟩ := h.j
 refine (opart_any p ba bn bl ba m at_ x la ln lc tok w1 h1 h.n h.l h.t hln (by omega) hxt hne.2.2.2.2.1 hne.1 hne.2.1).mono ?_
 rintro e w' ⟨rfl, h8, h9⟩
 have h7' := h7
 rw [al_part hp] at h7'
 have hkk : C1 w' bk 24 (.slice ka' K'.length kc') := h3.but h9 hne.2.2.2.2.2.2.symm hne.2.2.2.2.2.2.symm
 have h9' : But m ba bk w1 w' := h9.weak
 refine ⟨_, rfl, fun hb => ?_, fun hb => ?_, h9'⟩
 ·simp only [Bool.and_eq_true, decide_eq_true_eq] at hb
  rw [decide_eq_true hb.1, hb.2, Bool.true_and, Bool.true_and] at h7'
  exact ⟨⟨at_ + 1, K', ka', kc', h8, by omega, hkk, vs_but (by omega) h4 h1 h3 h9', by rw [h5, holN_part hp], h6, h7'⟩, h.n.but h9 hne.1 hne.1, h.l.but h9 hne.2.1 hne.2.1, ts_but h.t h1 h3 h9', Nat.le_trans h.s h9.size⟩
 ·rw [← Bool.and_assoc, hb, Bool.false_and] at h7'
  exact h7'.symm
theorem jo_hole (hne : bn ≠ ba ∧ bl ≠ ba ∧ bn ≠ bk ∧ bl ≠ bk ∧ m ≤ ba ∧ m ≤ bk ∧ ba ≠ bk) (hlt : tok.length = ln) (r : List Nm) (w1 : World) (h : Jo tok x V la ln lc ba bn bl bk m ([] :: r) w1) :
  Calls Tryz.prog 111 #[.pointer (some ⟨bk, 0, none⟩), .pointer (some ⟨ba, 0, none⟩)] w1 fun e w' => ∃ b, e = .returned (.bool b) ∧ (b = true → Jo tok x V la ln lc ba bn bl bk m r w') ∧ (b = false → V = false) ∧ But m ba bk w1 w' := by
 obtain ⟨at_, K', ka', kc', h1, h2, h3, h4, h5, h6, h7⟩ := h.j
 rw [holN_hole] at h5
 cases K' with
 | nil => simp at h5
 | cons y K' =>
  have hy := h6 y (List.mem_cons_self ..)
  unfold goodN at hy
  rw [List.length_cons] at h3 h4 h5
  refine (ohole_any ba bk m at_ ka' K'.length kc' y K' w1 h1 h3 h4 hne.2.2.2.2.2.2 hne.2.2.2.2.1 hne.2.2.2.2.2.1 h.s).mono ?_
  rintro e w' ⟨rfl, h8, ⟨ka2, kc2, h10, h11⟩, h9⟩
  have h7' := h7
  rw [al_hole] at h7'
  refine ⟨_, rfl, fun hb => ?_, fun hb => ?_, h9⟩
  ·rw [hb, Bool.true_and] at h7'
   have ht : ((y.t.toNat : Nat) : Int) = y.t := by omega
   exact ⟨⟨y.t.toNat, K', ka2, kc2, by rw [ht]; exact h8, by omega, h10, h11, by omega, fun c hc => h6 c (List.mem_cons_of_mem _ hc), by rw [ht]; exact h7'⟩, h.n.but h9 hne.1 hne.2.2.1, h.l.but h9 hne.2.1 hne.2.2.2.1, ts_but h.t h1 h3 h9, Nat.le_trans h.s h9.size⟩
  ·rw [hb, Bool.false_and] at h7'
   exact h7'.symm
end
end Go.Proofs.YtanhpgmiadgmjaaGreatDoor
