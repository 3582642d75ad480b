/- GraphKeeps. -/
import Derived.Test.YtnedappnmkbbpaaMt
namespace Go.Proofs.Ytnedappnmkbbpaa
open Go.RowKit

/-- The first i edges from place d on, round. -/
def rot (E : List (Nat × Nat)) (d i : Nat) : List (Nat × Nat) := (List.range i).map fun j => E.getD ((j + d) % E.length) (0, 0)
theorem rot_zero (E : List (Nat × Nat)) (d : Nat) : rot E d 0 = [] := rfl
theorem rot_next {E : List (Nat × Nat)} {d i q : Nat} {p : Nat × Nat} (hq : (i + d) % E.length = q) (hp : E[q]? = some p) : rot E d (i + 1) = rot E d i ++ [p] := by
  simp [rot, List.range_succ, hq, List.getD_eq_getElem?_getD, hp]
theorem rot_in {E : List (Nat × Nat)} {d i : Nat} (h0 : 0 < E.length) : ∀ p ∈ rot E d i, p ∈ E := by
  intro p hp
  obtain ⟨j, _, rfl⟩ := List.mem_map.1 hp
  have hlt := Nat.mod_lt (j + d) h0
  rw [List.getD_eq_getElem?_getD, List.getElem?_eq_getElem hlt]
  exact List.getElem_mem hlt
theorem rot_all {E : List (Nat × Nat)} (d : Nat) : ∀ p ∈ E, p ∈ rot E d E.length := by
  intro p hp
  obtain ⟨k, hk, rfl⟩ := List.getElem_of_mem hp
  obtain ⟨n, hn⟩ : ∃ n, E.length = n := ⟨_, rfl⟩
  have h0 : 0 < n := by omega
  refine List.mem_map.2 ⟨(k + (n - d % n)) % n, by rw [hn]; exact List.mem_range.2 (Nat.mod_lt _ h0), ?_⟩
  have hr := Nat.mod_lt d h0
  have hd := Nat.div_add_mod d n
  have e : ((k + (n - d % n)) % n + d) % n = k := by
    rw [Nat.mod_add_mod]
    have e2 : k + (n - d % n) + d = k + n * (d / n + 1) := by rw [Nat.mul_add]; omega
    rw [e2, Nat.add_mul_mod_self_left, Nat.mod_eq_of_lt (by omega)]
  rw [hn, e, List.getD_eq_getElem?_getD, List.getElem?_eq_getElem hk]
  rfl

/-- An edge of those that were not refused is not refused by fewer of them. -/
theorem keeps_ok {z s : List Int} {E F : List (Nat × Nat)} (H : Inv z E) (K : Inv s F) (hs : ∀ q ∈ F, q ∈ E) {p q : Nat} (hp : (p, q) ∈ E) : inG (p, q) ∧ ¬ (p = q ∨ T s q p = true) := by
  have hg := H.edg _ hp
  have hl : Ld E p q := .single (.inr hp)
  refine ⟨hg, fun h => ?_⟩
  rcases h with rfl | h
  · exact H.acy _ hl
  · exact H.acy _ (hl.trans ((K.T (by have := hg.2.2.2; simp only at this; omega)).1 h |>.mono hs))

/-- An edge takes no bit away. -/
theorem keep_and {s : List Int} (hr : ∀ i, i < 10 → I64 (bt s i)) (p : Nat) {q : Nat} (hq : q < 10) {i : Nat} (hi : i < 10) : bits .and .i64 (bt s i) (bt (eR s p q) i) = bt s i := by
  refine tb_ext (and_rng _ _) (hr i hi) fun k _ => ?_
  rw [tb_and, show bt (eR s p q) i = eRow s p q i by rw [eR, eTo_at _ _ _ _ hi, if_pos hi]]
  cases h : tb (bt s i) k with
  | false => rfl
  | true => rw [(eRow_bit s p hq i k).2 (.inl h)]; rfl

theorem keeps_end {z s : List Int} {E : List (Nat × Nat)} (d : Nat) (H : Inv z E) (K : Inv s (rot E d E.length)) : s = z := by
  refine K.ext H fun a b => ⟨fun h => h.mono fun p hp => ?_, fun h => h.mono (rot_all d)⟩
  by_cases h0 : 0 < E.length
  · exact rot_in h0 p hp
  · rw [show E.length = 0 by omega] at hp; simp [rot] at hp

set_option maxRecDepth 20000 in
set_option maxHeartbeats 8000000 in
theorem keeps_any (a : Option Addr) (len cap : Nat) (d : Nat) (hd : d ≤ 255) (w : World) (hp : Pa w a len cap) :
    Calls Try.prog 6 #[.slice a len cap, .int .u8 d] w fun e w' => e = .returned (.bool true) ∧ Below w.heap.size w w' := by
  have HP : Hid (∀ w', Below w.heap.size w w' → Pa w' a len cap) := Lib.hid fun w' hb => hp.below hb
  clear hp
  have y0 : IntKind.i64.wrap (d : Int) = d := by rw [IntKind.wrap_i64]; omega
  go_enter Try.func6, Try.ntmps6
  go_wp2_with fail
  refine (shown_any w).mono ?_
  rintro e w1 ⟨rfl, hb1⟩
  have HB1 := Lib.hid hb1
  clear hb1
  go_wp2_with fail
  refine (laid_any a len cap w1 (HP.out w1 HB1.out)).mono ?_
  rintro e w2 ⟨z, E, a', n, c, rfl, hI, hE, hn, hv, hb2⟩
  have HI := Lib.hid hI
  have HE := Lib.hid hE
  have HV : Hid (∀ w', Below w2.heap.size w2 w' → Vs 2 w' a' n c (eC E)) := Lib.hid fun w' hb => hv.below hb
  have hlc := hv.lc
  have hcm := hv.cm
  unfold maxLen at hcm
  have HB2 := Lib.hid (HB1.out.trans (hb2.mono HB1.out.size))
  clear hI hE hv hb2
  go_wp2_with (refine store_rows rfl (.tmp 6) (.tmp 19) rfl w2.heap.size rfl z rfl HI.out.len z0 z0_len (heap_alloc_new w2 _) ?_; intro w3 hr3 ho3; have HR3 := Lib.hid hr3; have HC3 := Lib.hid (((Below.refl w2.heap.size w2).alloc (Nat.le_refl _) _).trans (ho3.below (Nat.le_refl _))); clear hr3 ho3)
  refine (start_any w3).mono ?_
  rintro e w4 ⟨rfl, hb4⟩
  have HR4 := Lib.hid (RB.keep HR3.out hb4 HR3.out.lt)
  have HC4 := Lib.hid (HC3.out.trans (hb4.mono HC3.out.size))
  clear hb4
  go_wp2_with (refine store_rows rfl (.tmp 8) (.tmp 21) rfl w4.heap.size rfl zS rfl rfl z0 z0_len (heap_alloc_new w4 _) ?_; intro w5 hr5 ho5; have HS5 := Lib.hid hr5; have HC5 := Lib.hid ((HC4.out.alloc HC4.out.size _).trans (ho5.below HC4.out.size)); have HR5 := Lib.hid (RB.keep HR4.out (((Below.refl w4.heap.size w4).alloc (Nat.le_refl _) _).trans (ho5.below (Nat.le_refl _))) HR4.out.lt); clear hr5 ho5)
  have HXY : Hid (w2.heap.size < w4.heap.size) := Lib.hid HR4.out.lt
  obtain ⟨X, hX⟩ : ∃ X, w2.heap.size = X := ⟨_, rfl⟩
  obtain ⟨Y, hY⟩ : ∃ Y, w4.heap.size = Y := ⟨_, rfl⟩
  rw [hX] at HR5 HXY HC5 HV ⊢
  rw [hY] at HS5 HXY ⊢
  have HXw : Hid (X ≤ w2.heap.size) := Lib.hid (by omega)
  have HWX : Hid (w.heap.size ≤ X) := Lib.hid (by rw [← hX]; exact HB2.out.size)
  clear hX hY HC3 HC4 HR3 HR4
  go_loopw [10, 11, 12, 13, 14] (fun v _ _ _ _ wr => ∃ (i : Nat) (s : List Int), v = .int .i64 i ∧ i ≤ n ∧ Hid (Inv s (rot E d i)) ∧ Hid (RB wr X z) ∧ Hid (RB wr Y s) ∧ Hid (Below X w2 wr)) (fun v _ _ _ _ _ => 40 - (intOf v).toNat)
  case atStart => exact ⟨0, zS, rfl, by omega, Lib.hid inv_start, HR5, HS5, HC5⟩
  case round =>
    obtain ⟨i, s, rfl, hi, HK, HR, HS, HC⟩ := hrel
    rename World => wa
    by_cases hin : i < n
    · obtain ⟨q, hq⟩ : ∃ q, (i + d) % n = q := ⟨_, rfl⟩
      have hqn : q < n := by rw [← hq]; exact Nat.mod_lt _ (by omega)
      obtain ⟨b, off, x, y, rfl, hxy, cx, cy⟩ := edge_cells (HV.out wa HC.out) HE.out hqn
      have hk := keeps_ok HI.out HK.out (rot_in (by have := HE.out; omega)) (List.mem_of_getElem? hxy)
      have HN := Lib.hid hk.1
      have HQ := Lib.hid hk.2
      have HF := Lib.hid (rot_next (E := E) (d := d) (i := i) (by rw [HE.out]; exact hq) hxy)
      have hx9 : x ≤ 9 := hk.1.2.1
      have hy9 : y ≤ 9 := hk.1.2.2.2
      have t1 : IntKind.i64.wrap ((i : Int) + d) = (i : Int) + d := by rw [IntKind.wrap_i64]; omega
      have t2 : Int.tmod ((i : Int) + d) n = q := by
        rw [Int.tmod_eq_emod_of_nonneg (by omega), ← hq]
        exact (Int.natCast_emod (i + d) n).symm
      have t3 : ¬ ((n : Int) = 0) := by omega
      have hdi : decide ((i : Int) < n) = true := by simp; omega
      clear hxy hk hq
      have KE := Lib.hid fun w1 => edge_any s HK.out.len HK.out.rng x y w1
      go_wp2_with (refine load_rows rfl (.tmp 8) rfl Y rfl s HK.out.len (RB.alloc HS.out _) ?_)
      refine (KE.out _).mono ?_
      rintro e wb ⟨rfl, hbb⟩
      have HRb := Lib.hid (RB.keep (RB.alloc HR.out _) hbb (RB.lt (RB.alloc HR.out _)))
      have HSb := Lib.hid (RB.keep (RB.alloc HS.out _) hbb (RB.lt (RB.alloc HS.out _)))
      have HXa := Lib.hid (Nat.le_of_lt HR.out.lt)
      have HCb := Lib.hid ((HC.out.alloc HXa.out _).trans (hbb.mono (show X ≤ (wa.alloc _).heap.size by simp; have := HXa.out; omega)))
      have HXb := Lib.hid (Nat.le_of_lt HRb.out.lt)
      rcases inv_e HK.out HN.out with ⟨_, _, hc⟩ | ⟨he, hv, hI2, _, _⟩
      · exact absurd hc HQ.out
      rw [he, hv]
      have HI2 : Hid (Inv (eR s x y) (rot E d (i + 1))) := Lib.hid (by rw [HF.out]; exact hI2)
      have HAND : Hid (∀ g, g < 10 → bits .and .i64 (bt s g) (bt (eR s x y) g) = bt s g) := Lib.hid fun g hg => keep_and HK.out.rng x (by omega) hg
      clear he hv hI2 hbb KE t1 t2 t3 cx cy
      go_wp2_with (refine store_rows rfl (.tmp 12) (.tmp 45) rfl wb.heap.size rfl (eR s x y) rfl (eTo_len ..) z0 z0_len (heap_alloc_new wb _) ?_; intro wc hrc hoc; have HTc := Lib.hid hrc; have HBc := Lib.hid (((Below.refl wb.heap.size wb).alloc (Nat.le_refl _) _).trans (hoc.below (Nat.le_refl _))); clear hrc hoc)
      have HRc := Lib.hid (RB.keep HRb.out HBc.out HRb.out.lt)
      have HSc := Lib.hid (RB.keep HSb.out HBc.out HSb.out.lt)
      have HCc := Lib.hid (HCb.out.trans (HBc.out.mono HXb.out))
      have HYT := Lib.hid HSb.out.lt
      obtain ⟨Z, hZ⟩ : ∃ Z, wb.heap.size = Z := ⟨_, rfl⟩
      rw [hZ] at HTc HYT ⊢
      clear hZ HBc
      go_loopw [14] (fun v wr => ∃ g : Nat, v = .int .i64 g ∧ g ≤ 10 ∧ Hid (RB wr X z) ∧ Hid (RB wr Y s) ∧ Hid (RB wr Z (eR s x y)) ∧ Hid (Below X w2 wr)) (fun v _ => 10 - (intOf v).toNat)
      case atStart => exact ⟨0, rfl, by omega, HRc, HSc, HTc, HCc⟩
      case round =>
        clear HRc HSc HTc HCc
        obtain ⟨g, rfl, hg, HR, HS, HT, HC⟩ := hrel
        rename World => wd
        by_cases hg10 : g < 10
        · have hdg : decide ((g : Int) < 10) = true := by simp; omega
          have hcs := HS.out.cell HK.out.len hg10
          have hct := HT.out.cell (eTo_len ..) hg10
          have hand := HAND.out g hg10
          have HRe := Lib.hid (RB.drew HR.out)
          have HSe := Lib.hid (RB.drew HS.out)
          have HTe := Lib.hid (RB.drew HT.out)
          have HCe := Lib.hid HC.out.drew
          go_wp2_with fail
          go_region
          go_wp2
          go_roundw
          case rel => exact ⟨g + 1, by go_num, by omega, HRe, HSe, HTe, HCe⟩
          case measure => simp [intOf]; omega
        · have q1 : decide ((g : Int) < 10) = false := by simp; omega
          go_wp2_with (first
            | (refine load_rows rfl (.tmp 12) rfl Z rfl (eR s x y) (eTo_len ..) HT.out ?_)
            | (refine store_rows rfl (.tmp 8) (.tmp 64) rfl Y rfl (eR s x y) rfl (eTo_len ..) s HK.out.len HS.out ?_; intro we hre hoe; have HSe := Lib.hid hre; have HRe := Lib.hid (hoe.rows (Nat.ne_of_lt HXY.out) HR.out); have HCe := Lib.hid (HC.out.trans (hoe.below (Nat.le_of_lt HXY.out))); clear hre hoe))
          go_roundw
          case rel => exact ⟨i + 1, eR s x y, by go_num, by omega, HI2, HRe, HSe, HCe⟩
          case measure => simp [intOf]; omega
    · have hdi : decide ((i : Int) < n) = false := by simp; omega
      have HEnd := Lib.hid (keeps_end d HI.out (s := s) (by have := HK.out; rw [show i = E.length by have := HE.out; omega] at this; exact this))
      rw [HEnd.out] at HS
      have heq : ∀ w', (Op.equalIn 10000 23 (.agg (rv z)) (.agg (rv z))).run Try.prog w' = .ok true w' := fun w' => by rw [eq_rows z z HI.out.len HI.out.len w', decide_eq_true rfl]
      have HBE := Lib.hid (HB2.out.trans (HC.out.mono HWX.out))
      go_wp2_with (first
        | (refine load_rows rfl (.tmp 8) rfl Y rfl z HI.out.len HS.out ?_)
        | (refine load_rows rfl (.tmp 6) rfl X rfl z HI.out.len HR.out ?_))
      go_ret
      exact ⟨rfl, HBE.out⟩

theorem keeps_wide (a : Option Addr) (len cap : Nat) (d : Int) (hd : (Lit.int .u8 d).wf = true) (w : World) (hp : Pa w a len cap) :
    Calls Try.prog 6 #[.slice a len cap, .int .u8 d] w fun e w' => e = .returned (.bool true) ∧ Below w.heap.size w w' := by
  have h := byte_rng hd
  obtain ⟨x, rfl⟩ := Int.eq_ofNat_of_zero_le h.1
  exact keeps_any a len cap x (by omega) w hp

end Go.Proofs.Ytnedappnmkbbpaa
