/- The law ShapeMade. -/
import Derived.Test.YtenaadfmlpmffaaDoorHx
import Derived.Test.YtenaadfmlpmffaaDoorMC
namespace Go.Proofs.YtenaadfmlpmffaaDoor
open Go.RowKit

/-- The part that a byte stands for. -/
def paN (v : Nat) : Nm := if v < 104 then [UInt8.ofNat (97 + v % 26), 120] else (([[43], [61, 62], [124], [91]] : List Nm).getD (v / 26 % 4) [])
theorem paN_ok : ∀ v : Nat, v < 256 → (stB (paN v) && !(paN v).contains 95 && decide ((paN v).length ≤ 2)) = true := by decide +kernel
def pa (x : Int) : Nm := paN x.toNat
theorem pa_ok {x : Int} (h : 0 ≤ x ∧ x ≤ 255) : stB (pa x) = true ∧ (95 : UInt8) ∉ pa x ∧ (pa x).length ≤ 2 := by
  have := paN_ok x.toNat (by omega)
  simp only [Bool.and_eq_true, Bool.not_eq_true', List.contains_eq_mem, decide_eq_false_iff_not, decide_eq_true_eq] at this
  exact ⟨this.1.1, this.1.2, this.2⟩
/-- The parts of the first k bytes. -/
def paP (l : List Int) (k : Nat) : List Nm := (l.take k).map pa
theorem paP_step {l : List Int} {k : Nat} (h : k < l.length) : paP l (k + 1) = paP l k ++ [pa (bt l k)] := by
  unfold paP
  rw [List.take_add_one, List.map_append]
  unfold bt
  simp [List.getD, h]
theorem paP_len {l : List Int} {k : Nat} (h : k ≤ l.length) : (paP l k).length = k := by unfold paP; rw [List.length_map, List.length_take]; omega
theorem paP_mem {l : List Int} (hr : ∀ x ∈ l, 0 ≤ x ∧ x ≤ 255) {k : Nat} : ∀ p ∈ paP l k, stB p = true ∧ (95 : UInt8) ∉ p ∧ p.length ≤ 2 := by
  intro p hp
  obtain ⟨x, hx, rfl⟩ := List.mem_map.1 hp
  exact pa_ok (hr x (List.take_subset _ _ hx))
theorem pa_small {v : Int} (h : 0 ≤ v ∧ v ≤ 255) (h1 : v < 104) : bstr [97 + v % 26, 120] = mk (pa v) := by
  apply toList_inj
  rw [mk_toList, bstr_toList]
  unfold pa paN
  rw [if_pos (by omega)]
  have e : (97 + v % 26).toNat = 97 + v.toNat % 26 := by omega
  simp only [List.map_cons, List.map_nil, e]
  rfl
theorem pa_great {v : Int} (h : 0 ≤ v ∧ v ≤ 255) (h1 : ¬ v < 104) : pa v = (([[43], [61, 62], [124], [91]] : List Nm).getD (v / 26 % 4).toNat []) := by
  unfold pa paN
  rw [if_neg (by omega), show (v / 26 % 4).toNat = v.toNat / 26 % 4 by omega]
theorem sg_cell {w : World} {q : Nat} {e : TypeId} (h : w.heap[q]? = some (.cells #[.string ⟨#[43]⟩, .string ⟨#[61, 62]⟩, .string ⟨#[124]⟩, .string ⟨#[91]⟩] e (0, 0))) {i : Nat} (hi : i < 4) : w.cell? ⟨q, i, none⟩ = some (.string (mk (([[43], [61, 62], [124], [91]] : List Nm).getD i []))) := by
  have : w.cell? ⟨q, i, none⟩ = (#[Value.string ⟨#[43]⟩, .string ⟨#[61, 62]⟩, .string ⟨#[124]⟩, .string ⟨#[91]⟩] : Array Value)[i]? := by simp [World.cell?, h]
  rw [this]
  match i, hi with
  | 0, _ => rfl
  | 1, _ => rfl
  | 2, _ => rfl
  | 3, _ => rfl

theorem made_none (l r : Bool) : ofR (stx ⟨[], l, r⟩) = (⟨[], false, false⟩, 23) := by
  refine ofR_none (ofS_mayn ?_)
  cases l <;> cases r <;> decide +kernel
theorem made_wel {P : List Nm} (h0 : P ≠ []) (h : ∀ p ∈ P, stB p = true ∧ (95 : UInt8) ∉ p ∧ p.length ≤ 2) (l r : Bool) : wel ⟨P, l, r⟩ := ⟨h0, fun p hp => ⟨stB_ne (h p hp).1, (h p hp).2.1⟩⟩
theorem made_lone {P : List Nm} (h1 : P.length = 1) (h : ∀ p ∈ P, stB p = true ∧ (95 : UInt8) ∉ p ∧ p.length ≤ 2) : ofR (stx ⟨P, false, false⟩) = (⟨[], false, false⟩, 23) := by
  refine ofR_none (ofS_mayn ?_)
  rw [rd_stx (made_wel (by intro e; rw [e] at h1; simp at h1) h false false)]
  exact shM_lone h1
theorem made_size {P : List Nm} (h4 : P.length ≤ 4) (h : ∀ p ∈ P, stB p = true ∧ (95 : UInt8) ∉ p ∧ p.length ≤ 2) (l r : Bool) : (stx ⟨P, l, r⟩).length ≤ 40 := by
  have h2 := jnP_le P fun p hp => (h p hp).2.2
  have h3 : P.length * (2 + 1) ≤ 4 * 3 := Nat.mul_le_mul_right _ h4
  have h5 := hol_len l
  have h6 := hol_len r
  unfold stx
  simp only [List.length_append]
  omega
theorem made_some {P : List Nm} (h1 : 1 ≤ P.length) (h4 : P.length ≤ 4) (h : ∀ p ∈ P, stB p = true ∧ (95 : UInt8) ∉ p ∧ p.length ≤ 2) {l r : Bool} (hh : P.length ≠ 1 ∨ l = true ∨ r = true) : ofR (stx ⟨P, l, r⟩) = (⟨P, l, r⟩, 0) := by
  refine ofR_some (ofS_stx (made_wel (by intro e; rw [e] at h1; simp at h1) h l r) ?_ (made_size h4 h l r))
  rw [shM_all h4 hh, List.all_eq_true]
  exact fun p hp => (h p hp).1

set_option maxRecDepth 100000 in
set_option maxHeartbeats 16000000 in
theorem shapeMade_any (a : Option Addr) (len cap : Nat) (l : List Int) (left right : Bool) (w : World) (h : Bs w a len cap l) (ht : Tab w) :
    Calls Tryd.prog 5 #[.slice a len cap, .bool left, .bool right] w fun e w' => e = .returned (.bool true) ∧ Below w.heap.size w w' := by
  have H := Lib.hid h
  have HT := Lib.hid ht
  have HR := Lib.hid h.rng
  have HL := Lib.hid h.hl
  have hlc := h.lc
  have hcm := h.cm
  unfold maxLen at hcm
  clear h ht
  go_enter Tryd.func5, Tryd.ntmps5
  go_wp2_with fail
  refine (shown_any w HT.out).mono ?_
  rintro e w1 ⟨rfl, hb1⟩
  obtain ⟨q1, hq1⟩ : ∃ q1, q1 = w1.heap.size := ⟨_, rfl⟩
  obtain ⟨q2, hq2⟩ : ∃ q2, q2 = q1 + 1 := ⟨_, rfl⟩
  obtain ⟨w3, hw3⟩ : ∃ w3, w3 = (w1.alloc (.cells #[.slice none 0 0, .bool left, .bool right] 24)).alloc (.cells #[.string ⟨#[43]⟩, .string ⟨#[61, 62]⟩, .string ⟨#[124]⟩, .string ⟨#[91]⟩] 40) := ⟨_, rfl⟩
  have hs3 : w3.heap.size = q2 + 1 := by rw [hw3, hq2, hq1]; simp
  have HQ1 : Hid (w3.heap[q1]? = some (.cells #[.slice none 0 0, .bool left, .bool right] 24 (0, 0))) := Lib.hid (by
    rw [hw3, hq1, Lib.alloc_old _ _ _ (by simp)]; exact heap_alloc_new w1 _)
  have HQ2 : Hid (w3.heap[q2]? = some (.cells #[.string ⟨#[43]⟩, .string ⟨#[61, 62]⟩, .string ⟨#[124]⟩, .string ⟨#[91]⟩] 40 (0, 0))) := Lib.hid (by
    rw [hw3, hq2, hq1]; exact heap_alloc2_new w1 _ _)
  have HW3 : Hid (Below w.heap.size w w3) := Lib.hid (by rw [hw3]; exact (hb1.alloc hb1.size _).alloc (Nat.le_trans hb1.size (by simp)) _)
  have HQW : Hid (w.heap.size ≤ q1 ∧ q1 < q2) := Lib.hid ⟨by rw [hq1]; exact hb1.size, by omega⟩
  clear hb1
  go_wp2
  rw [← hw3, ← hq1]
  try rw [← hq2]
  clear hw3 hq1 hq2
  go_loopw [10, 11] (fun v10 v11 wr => ∃ (k : Nat) (a' : Option Addr) (c' : Nat), v10 = .int .i64 k ∧ k ≤ len ∧ k ≤ 4 ∧ Hid (wr.heap[q1]? = some (.cells #[.slice a' k c', .bool left, .bool right] 24 (0, 0))) ∧ Hid (OwnV (q2 + 1) 9 1 wr a' k c' ((paP l k).map enS)) ∧ Hid (Below q2 w3 wr ∨ True) ∧ Hid (wr.heap[q2]? = some (.cells #[.string ⟨#[43]⟩, .string ⟨#[61, 62]⟩, .string ⟨#[124]⟩, .string ⟨#[91]⟩] 40 (0, 0))) ∧ Hid (Below q1 w3 wr)) (fun v10 _ _ => len - (intOf v10).toNat)
  case atStart => exact ⟨0, none, 0, rfl, by omega, by omega, HQ1, Lib.hid OwnV.none0, Lib.hid (.inr trivial), HQ2, Lib.hid (Below.refl _ _)⟩
  case round =>
    obtain ⟨k, a', c', rfl, hk, hk4, HK, HO, _, HG, HB⟩ := hrel
    rename World => wr
    have hk0 : (0 : Int) ≤ (k : Int) := Int.natCast_nonneg _
    have HBW : Hid (Below w.heap.size w wr) := Lib.hid (HW3.out.trans (HB.out.mono HQW.out.1))
    obtain ⟨⟨y0, y1, y2⟩, _⟩ := three HK.out
    by_cases hlt : k < len ∧ k < 4
    · have hk1 : (k : Int) < (len : Int) := by omega
      have hk2 : (k : Int) < 4 := by omega
      have hS := H.out.below HBW.out
      obtain ⟨g, o, rfl, hgl, hx⟩ := hS.at_ (by omega)
      have hc := hx k hlt.1
      have hv := bt_rng HR.out k
      have hst := paP_step (l := l) (k := k) (by rw [HL.out]; exact hlt.1)
      obtain ⟨v, hvx⟩ : ∃ v, v = bt l k := ⟨_, rfl⟩
      rw [← hvx] at hc hv hst
      have HST : Hid ((paP l (k + 1)).map enS = (paP l k).map enS ++ [enS (pa v)]) := Lib.hid (by rw [hst, List.map_append]; rfl)
      have hsg := sg_cell HG.out (i := (v / 26 % 4).toNat) (by omega)
      have hv0 := hv.1
      have hv1 := hv.2
      have hsr : q2 + 1 ≤ wr.heap.size := by have := HB.out.size; omega
      clear hx hvx hst hv
      by_cases h104 : v < 104
      · have hw : IntKind.u8.wrap (97 + v % 26) = 97 + v % 26 := IntWalk.u8_in _ (by omega)
        have hbs : Bs (wr.alloc (.cells #[.int .u8 (97 + v % 26), .int .u8 120] 5)) (some ⟨wr.heap.size, 0, none⟩) 2 2 [97 + v % 26, 120] := Bs.lit wr 5 (by simp) (by intro x hx; simp only [List.mem_cons, List.not_mem_nil, or_false] at hx; rcases hx with rfl | rfl <;> omega) rfl rfl (by decide)
        have hconv := hbs.str (P := Tryd.prog) 36 9 5 Tryd.underlying36 Tryd.underlying5 Tryd.underlying9
        rw [pa_small ⟨hv0, hv1⟩ h104] at hconv
        have hmod : (97 + v % 26) = 97 + v % 26 := rfl
        have y0' : (wr.alloc (.cells #[.int .u8 (97 + v % 26), .int .u8 120] 5)).cell? ⟨q1, 0, none⟩ = some (.slice a' k c') := (((Below.refl wr.heap.size wr).alloc (Nat.le_refl _) _).cell (by show q1 < wr.heap.size; have := HQW.out; omega)).trans y0
        clear hmod hbs
        go_wp2_with (at_builtin; refine Hid.out ?_)
        refine Lib.hid ?_
        refine wpList_appv rfl (.tmp 52) (.tmp 54) 22 rfl 9 (q2 + 1) 1 16 _ Tryd.underlying22 str_info rfl (by omega) _ _ _ ((paP l k).map enS) rfl ((HO.out.alloc _).alloc _) _ _ _ [enS (pa v)] rfl (Vs.lit (k := 1) (xs := [enS (pa v)]) _ _ rfl rfl (by simp)) (by simp; rfl) (by unfold maxLen; omega) (by omega) (by simp; omega) ?_
        intro a7 c7 w7 ho7 hg7 hb7 _
        have HB7 : Hid (Below (q2 + 1) wr w7) := Lib.hid ((((Below.refl _ _).alloc hsr _).alloc (by simp; omega) _).trans hb7)
        have HO7 : Hid (OwnV (q2 + 1) 9 1 w7 a7 (k + 1) c7 ((paP l (k + 1)).map enS)) := Lib.hid (by rw [HST.out]; exact ho7)
        have HQ7 := Lib.hid ((HB7.out.block q1 (by have := HQW.out; omega)).trans HK.out)
        have HG7 := Lib.hid ((HB7.out.block q2 (by omega)).trans HG.out)
        obtain ⟨⟨u0, u1, u2⟩, fz, _⟩ := three HQ7.out
        have HGB := Lib.hid (gb_set w7 q1 0 (.slice a7 (k + 1) c7))
        have HK8 : Hid ((w7.setCell ⟨q1, 0, none⟩ (.slice a7 (k + 1) c7)).heap[q1]? = some (.cells #[.slice a7 (k + 1) c7, .bool left, .bool right] 24 (0, 0))) := Lib.hid (by rw [blk_set _ HQ7.out]; simp)
        have HO8 := Lib.hid (HO7.out.other HGB.out (.inr (HO7.out.apart (by have := HQW.out; omega))))
        have HG8 := Lib.hid (gb_block HGB.out HG7.out (by have := HQW.out; omega))
        have HB8 : Hid (Below q1 w3 (w7.setCell ⟨q1, 0, none⟩ (.slice a7 (k + 1) c7))) := Lib.hid (HB.out.trans ((HB7.out.mono (by have := HQW.out; omega)).trans (gb_to HGB.out (Nat.le_refl _) (by have := HB7.out.size; have := HQW.out; omega))))
        have h4' : k + 1 ≤ 4 := by omega
        have hn' : k + 1 ≤ len := by omega
        clear ho7 hg7 hb7
        go_wp2
        go_roundw
        case rel => exact ⟨k + 1, a7, c7, by go_num, hn', h4', HK8, HO8, Lib.hid (.inr trivial), HG8, HB8⟩
        case measure => simp [intOf]; omega
      · have HEQ : Hid (pa v = (([[43], [61, 62], [124], [91]] : List Nm).getD (v / 26 % 4).toNat [])) := Lib.hid (pa_great ⟨hv0, hv1⟩ h104)
        rw [← HEQ.out] at hsg
        go_wp2_with (at_builtin; refine Hid.out ?_)
        refine Lib.hid ?_
        refine wpList_appv rfl (.tmp 52) (.tmp 54) 22 rfl 9 (q2 + 1) 1 16 _ Tryd.underlying22 str_info rfl (by omega) _ _ _ ((paP l k).map enS) rfl (HO.out.alloc _) _ _ _ [enS (pa v)] rfl (Vs.lit (k := 1) (xs := [enS (pa v)]) _ _ rfl rfl (by simp)) (by simp; rfl) (by unfold maxLen; omega) (by omega) (by simp; omega) ?_
        intro a7 c7 w7 ho7 hg7 hb7 _
        have HB7 : Hid (Below (q2 + 1) wr w7) := Lib.hid (((Below.refl _ _).alloc hsr _).trans hb7)
        have HO7 : Hid (OwnV (q2 + 1) 9 1 w7 a7 (k + 1) c7 ((paP l (k + 1)).map enS)) := Lib.hid (by rw [HST.out]; exact ho7)
        have HQ7 := Lib.hid ((HB7.out.block q1 (by have := HQW.out; omega)).trans HK.out)
        have HG7 := Lib.hid ((HB7.out.block q2 (by omega)).trans HG.out)
        obtain ⟨⟨u0, u1, u2⟩, fz, _⟩ := three HQ7.out
        have HGB := Lib.hid (gb_set w7 q1 0 (.slice a7 (k + 1) c7))
        have HK8 : Hid ((w7.setCell ⟨q1, 0, none⟩ (.slice a7 (k + 1) c7)).heap[q1]? = some (.cells #[.slice a7 (k + 1) c7, .bool left, .bool right] 24 (0, 0))) := Lib.hid (by rw [blk_set _ HQ7.out]; simp)
        have HO8 := Lib.hid (HO7.out.other HGB.out (.inr (HO7.out.apart (by have := HQW.out; omega))))
        have HG8 := Lib.hid (gb_block HGB.out HG7.out (by have := HQW.out; omega))
        have HB8 : Hid (Below q1 w3 (w7.setCell ⟨q1, 0, none⟩ (.slice a7 (k + 1) c7))) := Lib.hid (HB.out.trans ((HB7.out.mono (by have := HQW.out; omega)).trans (gb_to HGB.out (Nat.le_refl _) (by have := HB7.out.size; have := HQW.out; omega))))
        have h4' : k + 1 ≤ 4 := by omega
        have hn' : k + 1 ≤ len := by omega
        clear ho7 hg7 hb7
        go_wp2
        go_roundw
        case rel => exact ⟨k + 1, a7, c7, by go_num, hn', h4', HK8, HO8, Lib.hid (.inr trivial), HG8, HB8⟩
        case measure => simp [intOf]; omega
    · have HQL : Hid (q1 < wr.heap.size) := Lib.hid (Array.getElem?_eq_some_iff.1 HK.out).1
      obtain ⟨P, hP⟩ : ∃ P, P = paP l k := ⟨_, rfl⟩
      have HPL : Hid (P.length = k) := Lib.hid (by rw [hP]; exact paP_len (by rw [HL.out]; exact hk))
      have HPM : Hid (∀ p ∈ P, stB p = true ∧ (95 : UInt8) ∉ p ∧ p.length ≤ 2) := Lib.hid (by rw [hP]; exact paP_mem HR.out)
      have HV : Hid (Ss wr a' k c' P) := Lib.hid (by rw [hP]; exact HO.out.vs)
      clear hP HO HG
      by_cases hkl : k < len
      · have hk1 : (k : Int) < (len : Int) := by omega
        have hk2 : ¬ (k : Int) < 4 := by omega
        have hk3 : (0 : Int) < (k : Int) := by omega
        have hk5 : (1 : Int) < (k : Int) := by omega
        have HOF : Hid (∀ T, T = stx ⟨P, left, right⟩ → ofR T = (⟨P, left, right⟩, 0)) := Lib.hid fun T hT => by rw [hT]; exact made_some (by rw [HPL.out]; omega) (by rw [HPL.out]; omega) HPM.out (.inl (by rw [HPL.out]; omega))
        obtain ⟨T, hTx⟩ : ∃ T, T = stx ⟨P, left, right⟩ := ⟨_, rfl⟩
        have HTX := Lib.hid hTx
        have HTL : Hid (T.length ≤ 100) := Lib.hid (by rw [hTx]; have := made_size (by rw [HPL.out]; omega) HPM.out left right; omega)
        clear hTx
        go_wp2_with fail
        refine (text_any a' k c' P left right _ HV.out (by rw [← HTX.out]; have := HTL.out; omega)).mono ?_
        rw [← HTX.out]
        rintro e w4 ⟨rfl, hb4⟩
        have HW4 : Hid (Below w.heap.size w w4) := Lib.hid (HBW.out.trans (hb4.mono HBW.out.size))
        have HB4 := Lib.hid hb4
        clear hb4
        go_wp2_with fail
        refine (sof_any T _ (HT.out.keep HW4.out) (by have := HTL.out; omega)).mono ?_
        rw [HOF.out T HTX.out]
        simp only [shV]
        rintro e w5 ⟨a5, n5, c5, rfl, hs5, hb5⟩
        obtain rfl : k = n5 := HPL.out.symm.trans (Ss.len hs5)
        have HW5 : Hid (Below w.heap.size w (w5.alloc (.cells #[.slice a5 k c5, .bool left, .bool right] 24))) := Lib.hid ((HW4.out.trans (hb5.mono HW4.out.size)).alloc (Nat.le_trans HW4.out.size hb5.size) _)
        have HB5 : Hid (Below wr.heap.size wr (w5.alloc (.cells #[.slice a5 k c5, .bool left, .bool right] 24))) := Lib.hid ((HB4.out.trans (hb5.mono HB4.out.size)).alloc (Nat.le_trans HB4.out.size hb5.size) _)
        have HS5 : Hid (Ss (w5.alloc (.cells #[.slice a5 k c5, .bool left, .bool right] 24)) a' k c' P ∧ Ss (w5.alloc (.cells #[.slice a5 k c5, .bool left, .bool right] 24)) a5 k c5 P) := Lib.hid ⟨Vs.below HV.out HB5.out, Vs.below hs5 ((Below.refl _ _).alloc (Nat.le_refl _) _)⟩
        obtain ⟨⟨x0, x1, x2⟩, _⟩ := three ((HB5.out.block q1 HQL.out).trans HK.out)
        clear hs5 hb5
        go_wp2_with fail
        refine (rsame_any a' a5 k c' c5 P left right _ HS5.out.1 HS5.out.2).mono ?_
        rintro e w6 ⟨rfl, hb6⟩
        go_wp2
        go_ret
        exact ⟨rfl, HW5.out.trans (hb6.mono HW5.out.size)⟩
      · have hk1 : ¬ (k : Int) < (len : Int) := by omega
        by_cases hz : k = 0
        · subst hz
          have hP0 : P = [] := List.eq_nil_of_length_eq_zero HPL.out
          have HOF : Hid (∀ T, T = stx ⟨P, left, right⟩ → ofR T = (⟨[], false, false⟩, 23)) := Lib.hid fun T hT => by rw [hT]; exact by rw [hP0]; exact made_none left right
          obtain ⟨T, hTx⟩ : ∃ T, T = stx ⟨P, left, right⟩ := ⟨_, rfl⟩
          have HTX := Lib.hid hTx
          have HTL : Hid (T.length ≤ 100) := Lib.hid (by rw [hTx]; have := made_size (by rw [HPL.out]; omega) HPM.out left right; omega)
          clear hTx
          go_wp2_with fail
          refine (text_any a' 0 c' P left right _ HV.out (by rw [← HTX.out]; have := HTL.out; omega)).mono ?_
          rw [← HTX.out]
          rintro e w4 ⟨rfl, hb4⟩
          have HW4 : Hid (Below w.heap.size w w4) := Lib.hid (HBW.out.trans (hb4.mono HBW.out.size))
          have HB4 := Lib.hid hb4
          clear hb4
          go_wp2_with fail
          refine (sof_any T _ (HT.out.keep HW4.out) (by have := HTL.out; omega)).mono ?_
          rw [HOF.out T HTX.out]
          simp only [shV]
          rintro e w5 ⟨a5, n5, c5, rfl, _, hb5⟩
          have HW5 : Hid (Below w.heap.size w (w5.alloc (.cells #[.slice a5 n5 c5, .bool false, .bool false] 24))) := Lib.hid ((HW4.out.trans (hb5.mono HW4.out.size)).alloc (Nat.le_trans HW4.out.size hb5.size) _)
          clear hb5
          go_wp2
          go_ret
          exact ⟨rfl, HW5.out⟩
        · have hk3 : (0 : Int) < (k : Int) := by omega
          by_cases h1 : k = 1
          · subst h1
            cases left with
            | true =>
              have HOF : Hid (∀ T, T = stx ⟨P, true, right⟩ → ofR T = (⟨P, true, right⟩, 0)) := Lib.hid fun T hT => by rw [hT]; exact made_some (by rw [HPL.out]; omega) (by rw [HPL.out]; omega) HPM.out (.inr (.inl rfl))
              obtain ⟨T, hTx⟩ : ∃ T, T = stx ⟨P, true, right⟩ := ⟨_, rfl⟩
              have HTX := Lib.hid hTx
              have HTL : Hid (T.length ≤ 100) := Lib.hid (by rw [hTx]; have := made_size (by rw [HPL.out]; omega) HPM.out true right; omega)
              clear hTx
              go_wp2_with fail
              refine (text_any a' 1 c' P true right _ HV.out (by rw [← HTX.out]; have := HTL.out; omega)).mono ?_
              rw [← HTX.out]
              rintro e w4 ⟨rfl, hb4⟩
              have HW4 : Hid (Below w.heap.size w w4) := Lib.hid (HBW.out.trans (hb4.mono HBW.out.size))
              have HB4 := Lib.hid hb4
              clear hb4
              go_wp2_with fail
              refine (sof_any T _ (HT.out.keep HW4.out) (by have := HTL.out; omega)).mono ?_
              rw [HOF.out T HTX.out]
              simp only [shV]
              rintro e w5 ⟨a5, n5, c5, rfl, hs5, hb5⟩
              obtain rfl : 1 = n5 := HPL.out.symm.trans (Ss.len hs5)
              have HW5 : Hid (Below w.heap.size w (w5.alloc (.cells #[.slice a5 1 c5, .bool true, .bool right] 24))) := Lib.hid ((HW4.out.trans (hb5.mono HW4.out.size)).alloc (Nat.le_trans HW4.out.size hb5.size) _)
              have HB5 : Hid (Below wr.heap.size wr (w5.alloc (.cells #[.slice a5 1 c5, .bool true, .bool right] 24))) := Lib.hid ((HB4.out.trans (hb5.mono HB4.out.size)).alloc (Nat.le_trans HB4.out.size hb5.size) _)
              have HS5 : Hid (Ss (w5.alloc (.cells #[.slice a5 1 c5, .bool true, .bool right] 24)) a' 1 c' P ∧ Ss (w5.alloc (.cells #[.slice a5 1 c5, .bool true, .bool right] 24)) a5 1 c5 P) := Lib.hid ⟨Vs.below HV.out HB5.out, Vs.below hs5 ((Below.refl _ _).alloc (Nat.le_refl _) _)⟩
              obtain ⟨⟨x0, x1, x2⟩, _⟩ := three ((HB5.out.block q1 HQL.out).trans HK.out)
              clear hs5 hb5
              go_wp2_with fail
              refine (rsame_any a' a5 1 c' c5 P true right _ HS5.out.1 HS5.out.2).mono ?_
              rintro e w6 ⟨rfl, hb6⟩
              go_wp2
              go_ret
              exact ⟨rfl, HW5.out.trans (hb6.mono HW5.out.size)⟩
            | false =>
              cases right with
              | true =>
                have HOF : Hid (∀ T, T = stx ⟨P, false, true⟩ → ofR T = (⟨P, false, true⟩, 0)) := Lib.hid fun T hT => by rw [hT]; exact made_some (by rw [HPL.out]; omega) (by rw [HPL.out]; omega) HPM.out (.inr (.inr rfl))
                obtain ⟨T, hTx⟩ : ∃ T, T = stx ⟨P, false, true⟩ := ⟨_, rfl⟩
                have HTX := Lib.hid hTx
                have HTL : Hid (T.length ≤ 100) := Lib.hid (by rw [hTx]; have := made_size (by rw [HPL.out]; omega) HPM.out false true; omega)
                clear hTx
                go_wp2_with fail
                refine (text_any a' 1 c' P false true _ HV.out (by rw [← HTX.out]; have := HTL.out; omega)).mono ?_
                rw [← HTX.out]
                rintro e w4 ⟨rfl, hb4⟩
                have HW4 : Hid (Below w.heap.size w w4) := Lib.hid (HBW.out.trans (hb4.mono HBW.out.size))
                have HB4 := Lib.hid hb4
                clear hb4
                go_wp2_with fail
                refine (sof_any T _ (HT.out.keep HW4.out) (by have := HTL.out; omega)).mono ?_
                rw [HOF.out T HTX.out]
                simp only [shV]
                rintro e w5 ⟨a5, n5, c5, rfl, hs5, hb5⟩
                obtain rfl : 1 = n5 := HPL.out.symm.trans (Ss.len hs5)
                have HW5 : Hid (Below w.heap.size w (w5.alloc (.cells #[.slice a5 1 c5, .bool false, .bool true] 24))) := Lib.hid ((HW4.out.trans (hb5.mono HW4.out.size)).alloc (Nat.le_trans HW4.out.size hb5.size) _)
                have HB5 : Hid (Below wr.heap.size wr (w5.alloc (.cells #[.slice a5 1 c5, .bool false, .bool true] 24))) := Lib.hid ((HB4.out.trans (hb5.mono HB4.out.size)).alloc (Nat.le_trans HB4.out.size hb5.size) _)
                have HS5 : Hid (Ss (w5.alloc (.cells #[.slice a5 1 c5, .bool false, .bool true] 24)) a' 1 c' P ∧ Ss (w5.alloc (.cells #[.slice a5 1 c5, .bool false, .bool true] 24)) a5 1 c5 P) := Lib.hid ⟨Vs.below HV.out HB5.out, Vs.below hs5 ((Below.refl _ _).alloc (Nat.le_refl _) _)⟩
                obtain ⟨⟨x0, x1, x2⟩, _⟩ := three ((HB5.out.block q1 HQL.out).trans HK.out)
                clear hs5 hb5
                go_wp2_with fail
                refine (rsame_any a' a5 1 c' c5 P false true _ HS5.out.1 HS5.out.2).mono ?_
                rintro e w6 ⟨rfl, hb6⟩
                go_wp2
                go_ret
                exact ⟨rfl, HW5.out.trans (hb6.mono HW5.out.size)⟩
              | false =>
                have HOF : Hid (∀ T, T = stx ⟨P, false, false⟩ → ofR T = (⟨[], false, false⟩, 23)) := Lib.hid fun T hT => by rw [hT]; exact made_lone HPL.out HPM.out
                obtain ⟨T, hTx⟩ : ∃ T, T = stx ⟨P, false, false⟩ := ⟨_, rfl⟩
                have HTX := Lib.hid hTx
                have HTL : Hid (T.length ≤ 100) := Lib.hid (by rw [hTx]; have := made_size (by rw [HPL.out]; omega) HPM.out false false; omega)
                clear hTx
                go_wp2_with fail
                refine (text_any a' 1 c' P false false _ HV.out (by rw [← HTX.out]; have := HTL.out; omega)).mono ?_
                rw [← HTX.out]
                rintro e w4 ⟨rfl, hb4⟩
                have HW4 : Hid (Below w.heap.size w w4) := Lib.hid (HBW.out.trans (hb4.mono HBW.out.size))
                have HB4 := Lib.hid hb4
                clear hb4
                go_wp2_with fail
                refine (sof_any T _ (HT.out.keep HW4.out) (by have := HTL.out; omega)).mono ?_
                rw [HOF.out T HTX.out]
                simp only [shV]
                rintro e w5 ⟨a5, n5, c5, rfl, _, hb5⟩
                have HW5 : Hid (Below w.heap.size w (w5.alloc (.cells #[.slice a5 n5 c5, .bool false, .bool false] 24))) := Lib.hid ((HW4.out.trans (hb5.mono HW4.out.size)).alloc (Nat.le_trans HW4.out.size hb5.size) _)
                clear hb5
                go_wp2
                go_ret
                exact ⟨rfl, HW5.out⟩
          · have hk5 : (1 : Int) < (k : Int) := by omega
            have HOF : Hid (∀ T, T = stx ⟨P, left, right⟩ → ofR T = (⟨P, left, right⟩, 0)) := Lib.hid fun T hT => by rw [hT]; exact made_some (by rw [HPL.out]; omega) (by rw [HPL.out]; omega) HPM.out (.inl (by rw [HPL.out]; omega))
            obtain ⟨T, hTx⟩ : ∃ T, T = stx ⟨P, left, right⟩ := ⟨_, rfl⟩
            have HTX := Lib.hid hTx
            have HTL : Hid (T.length ≤ 100) := Lib.hid (by rw [hTx]; have := made_size (by rw [HPL.out]; omega) HPM.out left right; omega)
            clear hTx
            go_wp2_with fail
            refine (text_any a' k c' P left right _ HV.out (by rw [← HTX.out]; have := HTL.out; omega)).mono ?_
            rw [← HTX.out]
            rintro e w4 ⟨rfl, hb4⟩
            have HW4 : Hid (Below w.heap.size w w4) := Lib.hid (HBW.out.trans (hb4.mono HBW.out.size))
            have HB4 := Lib.hid hb4
            clear hb4
            go_wp2_with fail
            refine (sof_any T _ (HT.out.keep HW4.out) (by have := HTL.out; omega)).mono ?_
            rw [HOF.out T HTX.out]
            simp only [shV]
            rintro e w5 ⟨a5, n5, c5, rfl, hs5, hb5⟩
            obtain rfl : k = n5 := HPL.out.symm.trans (Ss.len hs5)
            have HW5 : Hid (Below w.heap.size w (w5.alloc (.cells #[.slice a5 k c5, .bool left, .bool right] 24))) := Lib.hid ((HW4.out.trans (hb5.mono HW4.out.size)).alloc (Nat.le_trans HW4.out.size hb5.size) _)
            have HB5 : Hid (Below wr.heap.size wr (w5.alloc (.cells #[.slice a5 k c5, .bool left, .bool right] 24))) := Lib.hid ((HB4.out.trans (hb5.mono HB4.out.size)).alloc (Nat.le_trans HB4.out.size hb5.size) _)
            have HS5 : Hid (Ss (w5.alloc (.cells #[.slice a5 k c5, .bool left, .bool right] 24)) a' k c' P ∧ Ss (w5.alloc (.cells #[.slice a5 k c5, .bool left, .bool right] 24)) a5 k c5 P) := Lib.hid ⟨Vs.below HV.out HB5.out, Vs.below hs5 ((Below.refl _ _).alloc (Nat.le_refl _) _)⟩
            obtain ⟨⟨x0, x1, x2⟩, _⟩ := three ((HB5.out.block q1 HQL.out).trans HK.out)
            clear hs5 hb5
            go_wp2_with fail
            refine (rsame_any a' a5 k c' c5 P left right _ HS5.out.1 HS5.out.2).mono ?_
            rintro e w6 ⟨rfl, hb6⟩
            go_wp2
            go_ret
            exact ⟨rfl, HW5.out.trans (hb6.mono HW5.out.size)⟩

end Go.Proofs.YtenaadfmlpmffaaDoor
