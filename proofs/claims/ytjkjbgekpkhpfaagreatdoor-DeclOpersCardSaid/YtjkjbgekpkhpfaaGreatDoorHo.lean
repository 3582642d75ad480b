/- Contracts of package shape's may and Of. -/
import Derived.Test.YtjkjbgekpkhpfaaGreatDoorHr
import Derived.Test.YtjkjbgekpkhpfaaGreatDoorMD
import Derived.Laws.ResultCell
namespace Go.Proofs.YtjkjbgekpkhpfaaGreatDoor
open Go.RowKit

theorem results_pair {P : Program} {fn : Func} {p u : Tmp} {ty : TypeId} (h : fn.results = #[.cell p ty, .tmp u]) (tmps : Array Value) (w : World) (g : Nat) (t : TypeId) (cs : Array Value) (fr : Nat × Nat) (d : TypeDesc)
    (hp : tmps.getD p undef = .pointer (some ⟨g, 0, none⟩)) (hg : w.heap[g]? = some (.cells cs t fr))
    (hu : P.underlying ty = some d) (hd : (match d with | .struct _ | .array _ _ => true | _ => false) = true) (hi : (P.info? ty).map (·.size) = some cs.size) :
    (results fn tmps).run P w = .ok (.tuple #[.agg cs, tmps.getD u undef]) w := by
  rw [results_cell_tmp h, hp]
  simp [asAddr, Result.andThen, run_loadVar_row w g t ty cs fr d hg hu hd hi]

theorem shM_big {s : SH} (h : 4 < s.P.length) : shM s = false := by
  unfold shM; rw [show decide (s.P.length ≤ 4) = false by simp; omega]; rfl
theorem shM_lone {P : List Nm} (h : P.length = 1) : shM ⟨P, false, false⟩ = false := by
  unfold shM hlB; simp [h]
theorem shM_all {P : List Nm} {l r : Bool} (h4 : P.length ≤ 4) (hh : P.length ≠ 1 ∨ l = true ∨ r = true) : shM ⟨P, l, r⟩ = P.all stB := by
  unfold shM hlB
  rw [show decide ((⟨P, l, r⟩ : SH).P.length ≤ 4) = true by simpa using h4]
  rcases hh with h | rfl | rfl
  · simp [h]
  · simp
  · simp
theorem all_step {P : List Nm} {k : Nat} (h : k < P.length) : (P.drop k).all stB = (stB (pt P k) && (P.drop (k + 1)).all stB) := by
  rw [List.drop_eq_getElem_cons h, List.all_cons]
  unfold pt
  simp [List.getD, h]

set_option maxRecDepth 100000 in
set_option maxHeartbeats 4000000 in
theorem smay_any (a : Option Addr) (n c : Nat) (P : List Nm) (l r : Bool) (w : World) (h : Ss w a n c P) (ht : Tab w) (hsz : ∀ p ∈ P, p.length ≤ 100000) :
    Calls Tryz.prog 68 #[.agg #[.slice a n c, .bool l, .bool r]] w fun e w' => e = .returned (.bool (shM ⟨P, l, r⟩)) ∧ Below w.heap.size w w' := by
  have hcm := h.cm
  have hlc := h.lc
  unfold maxLen at hcm
  have H := Lib.hid h
  have HP := Lib.hid (Ss.len h)
  have HT := Lib.hid ht
  have HZ := Lib.hid hsz
  have HB2 : Hid (Below w.heap.size w (w.alloc (.cells #[.slice a n c, .bool l, .bool r] 72))) := Lib.hid ((Below.refl _ _).alloc (Nat.le_refl _) _)
  clear h ht hsz
  by_cases h4 : 4 < n
  · have HE : Hid (shM ⟨P, l, r⟩ = false) := Lib.hid (shM_big (by rw [HP.out]; exact h4))
    go_enter Tryz.func68, Tryz.ntmps68
    go_wp2
    go_ret
    exact ⟨by rw [HE.out]; rfl, HB2.out⟩
  · have h4' : ¬ (4 : Int) < (n : Int) := by omega
    cases l with
    | true =>
      cases r with
      | true =>
        have HE : Hid (shM ⟨P, true, true⟩ = P.all stB) := Lib.hid (shM_all (by rw [HP.out]; omega) (.inr (.inl rfl)))
        go_enter Tryz.func68, Tryz.ntmps68
        go_wp2
        go_loopw [2, 4, 28] (fun v2 v4 v wr => ∃ k : Nat, v = .int .i64 k ∧ k ≤ n ∧ Hid ((P.drop k).all stB = P.all stB) ∧ Hid (Below w.heap.size w wr)) (fun _ _ v _ => n - (intOf v).toNat)
        case atStart => exact ⟨0, rfl, by omega, Lib.hid rfl, HB2⟩
        case round =>
          obtain ⟨k, rfl, hk, HA, HB⟩ := hrel
          have hk0 : (0 : Int) ≤ (k : Int) := Int.natCast_nonneg _
          by_cases hlt : k < n
          · have hk1 : (k : Int) < (n : Int) := by omega
            have hS := H.out.below HB.out
            obtain ⟨d, o, rfl, _, hx⟩ := hS.at_ (by omega)
            clear hx
            have hs := Ss.str hS hlt
            have hst := all_step (P := P) (k := k) (by rw [HP.out]; exact hlt)
            have hpm := pt_mem (P := P) (k := k) (by rw [HP.out]; exact hlt)
            obtain ⟨p, hp⟩ : ∃ p, p = pt P k := ⟨_, rfl⟩
            rw [← hp] at hs hst hpm
            have hpl := HZ.out p hpm
            have HST : Hid (P.all stB = (stB p && (P.drop (k + 1)).all stB)) := Lib.hid (by rw [← hst]; exact HA.out.symm)
            clear hS hp hst hpm
            go_wp2_with fail
            refine (stands_any (mk p) _ (HT.out.keep HB.out) (by rw [mk_size]; exact hpl)).mono ?_
            rw [mk_toList]
            rintro e w4 ⟨rfl, hb4⟩
            have HB4 : Hid (Below w.heap.size w w4) := Lib.hid (HB.out.trans (hb4.mono HB.out.size))
            clear hb4 hs
            cases hq : stB p with
            | true =>
              have HA4 : Hid ((P.drop (k + 1)).all stB = P.all stB) := Lib.hid (by rw [HST.out, hq, Bool.true_and])
              go_wp2
              go_roundw
              case rel => exact ⟨k + 1, by go_num, by omega, HA4, HB4⟩
              case measure => simp [intOf]; omega
            | false =>
              have HF : Hid (P.all stB = false) := Lib.hid (by rw [HST.out, hq, Bool.false_and])
              go_wp2
              go_ret
              exact ⟨by rw [HE.out, HF.out]; rfl, HB4.out⟩
          · have HF : Hid (P.all stB = true) := Lib.hid (by rw [← HA.out, List.drop_of_length_le (by rw [HP.out]; omega)]; rfl)
            go_wp2
            go_ret
            exact ⟨by rw [HE.out, HF.out]; rfl, HB.out⟩
      | false =>
        have HE : Hid (shM ⟨P, true, false⟩ = P.all stB) := Lib.hid (shM_all (by rw [HP.out]; omega) (.inr (.inl rfl)))
        go_enter Tryz.func68, Tryz.ntmps68
        go_wp2
        go_loopw [2, 4, 28] (fun v2 v4 v wr => ∃ k : Nat, v = .int .i64 k ∧ k ≤ n ∧ Hid ((P.drop k).all stB = P.all stB) ∧ Hid (Below w.heap.size w wr)) (fun _ _ v _ => n - (intOf v).toNat)
        case atStart => exact ⟨0, rfl, by omega, Lib.hid rfl, HB2⟩
        case round =>
          obtain ⟨k, rfl, hk, HA, HB⟩ := hrel
          have hk0 : (0 : Int) ≤ (k : Int) := Int.natCast_nonneg _
          by_cases hlt : k < n
          · have hk1 : (k : Int) < (n : Int) := by omega
            have hS := H.out.below HB.out
            obtain ⟨d, o, rfl, _, hx⟩ := hS.at_ (by omega)
            clear hx
            have hs := Ss.str hS hlt
            have hst := all_step (P := P) (k := k) (by rw [HP.out]; exact hlt)
            have hpm := pt_mem (P := P) (k := k) (by rw [HP.out]; exact hlt)
            obtain ⟨p, hp⟩ : ∃ p, p = pt P k := ⟨_, rfl⟩
            rw [← hp] at hs hst hpm
            have hpl := HZ.out p hpm
            have HST : Hid (P.all stB = (stB p && (P.drop (k + 1)).all stB)) := Lib.hid (by rw [← hst]; exact HA.out.symm)
            clear hS hp hst hpm
            go_wp2_with fail
            refine (stands_any (mk p) _ (HT.out.keep HB.out) (by rw [mk_size]; exact hpl)).mono ?_
            rw [mk_toList]
            rintro e w4 ⟨rfl, hb4⟩
            have HB4 : Hid (Below w.heap.size w w4) := Lib.hid (HB.out.trans (hb4.mono HB.out.size))
            clear hb4 hs
            cases hq : stB p with
            | true =>
              have HA4 : Hid ((P.drop (k + 1)).all stB = P.all stB) := Lib.hid (by rw [HST.out, hq, Bool.true_and])
              go_wp2
              go_roundw
              case rel => exact ⟨k + 1, by go_num, by omega, HA4, HB4⟩
              case measure => simp [intOf]; omega
            | false =>
              have HF : Hid (P.all stB = false) := Lib.hid (by rw [HST.out, hq, Bool.false_and])
              go_wp2
              go_ret
              exact ⟨by rw [HE.out, HF.out]; rfl, HB4.out⟩
          · have HF : Hid (P.all stB = true) := Lib.hid (by rw [← HA.out, List.drop_of_length_le (by rw [HP.out]; omega)]; rfl)
            go_wp2
            go_ret
            exact ⟨by rw [HE.out, HF.out]; rfl, HB.out⟩
    | false =>
      cases r with
      | true =>
        have HE : Hid (shM ⟨P, false, true⟩ = P.all stB) := Lib.hid (shM_all (by rw [HP.out]; omega) (.inr (.inr rfl)))
        go_enter Tryz.func68, Tryz.ntmps68
        go_wp2
        go_loopw [2, 4, 28] (fun v2 v4 v wr => ∃ k : Nat, v = .int .i64 k ∧ k ≤ n ∧ Hid ((P.drop k).all stB = P.all stB) ∧ Hid (Below w.heap.size w wr)) (fun _ _ v _ => n - (intOf v).toNat)
        case atStart => exact ⟨0, rfl, by omega, Lib.hid rfl, HB2⟩
        case round =>
          obtain ⟨k, rfl, hk, HA, HB⟩ := hrel
          have hk0 : (0 : Int) ≤ (k : Int) := Int.natCast_nonneg _
          by_cases hlt : k < n
          · have hk1 : (k : Int) < (n : Int) := by omega
            have hS := H.out.below HB.out
            obtain ⟨d, o, rfl, _, hx⟩ := hS.at_ (by omega)
            clear hx
            have hs := Ss.str hS hlt
            have hst := all_step (P := P) (k := k) (by rw [HP.out]; exact hlt)
            have hpm := pt_mem (P := P) (k := k) (by rw [HP.out]; exact hlt)
            obtain ⟨p, hp⟩ : ∃ p, p = pt P k := ⟨_, rfl⟩
            rw [← hp] at hs hst hpm
            have hpl := HZ.out p hpm
            have HST : Hid (P.all stB = (stB p && (P.drop (k + 1)).all stB)) := Lib.hid (by rw [← hst]; exact HA.out.symm)
            clear hS hp hst hpm
            go_wp2_with fail
            refine (stands_any (mk p) _ (HT.out.keep HB.out) (by rw [mk_size]; exact hpl)).mono ?_
            rw [mk_toList]
            rintro e w4 ⟨rfl, hb4⟩
            have HB4 : Hid (Below w.heap.size w w4) := Lib.hid (HB.out.trans (hb4.mono HB.out.size))
            clear hb4 hs
            cases hq : stB p with
            | true =>
              have HA4 : Hid ((P.drop (k + 1)).all stB = P.all stB) := Lib.hid (by rw [HST.out, hq, Bool.true_and])
              go_wp2
              go_roundw
              case rel => exact ⟨k + 1, by go_num, by omega, HA4, HB4⟩
              case measure => simp [intOf]; omega
            | false =>
              have HF : Hid (P.all stB = false) := Lib.hid (by rw [HST.out, hq, Bool.false_and])
              go_wp2
              go_ret
              exact ⟨by rw [HE.out, HF.out]; rfl, HB4.out⟩
          · have HF : Hid (P.all stB = true) := Lib.hid (by rw [← HA.out, List.drop_of_length_le (by rw [HP.out]; omega)]; rfl)
            go_wp2
            go_ret
            exact ⟨by rw [HE.out, HF.out]; rfl, HB.out⟩
      | false =>
        by_cases h1 : n = 1
        · have HE : Hid (shM ⟨P, false, false⟩ = false) := Lib.hid (shM_lone (by rw [HP.out]; exact h1))
          subst h1
          go_enter Tryz.func68, Tryz.ntmps68
          go_wp2
          go_ret
          exact ⟨by rw [HE.out]; rfl, HB2.out⟩
        · have h1' : ((n : Int) == 1) = false := by simp; omega
          have HE : Hid (shM ⟨P, false, false⟩ = P.all stB) := Lib.hid (shM_all (by rw [HP.out]; omega) (.inl (by rw [HP.out]; exact h1)))
          go_enter Tryz.func68, Tryz.ntmps68
          go_wp2
          go_loopw [2, 4, 28] (fun v2 v4 v wr => ∃ k : Nat, v = .int .i64 k ∧ k ≤ n ∧ Hid ((P.drop k).all stB = P.all stB) ∧ Hid (Below w.heap.size w wr)) (fun _ _ v _ => n - (intOf v).toNat)
          case atStart => exact ⟨0, rfl, by omega, Lib.hid rfl, HB2⟩
          case round =>
            obtain ⟨k, rfl, hk, HA, HB⟩ := hrel
            have hk0 : (0 : Int) ≤ (k : Int) := Int.natCast_nonneg _
            by_cases hlt : k < n
            · have hk1 : (k : Int) < (n : Int) := by omega
              have hS := H.out.below HB.out
              obtain ⟨d, o, rfl, _, hx⟩ := hS.at_ (by omega)
              clear hx
              have hs := Ss.str hS hlt
              have hst := all_step (P := P) (k := k) (by rw [HP.out]; exact hlt)
              have hpm := pt_mem (P := P) (k := k) (by rw [HP.out]; exact hlt)
              obtain ⟨p, hp⟩ : ∃ p, p = pt P k := ⟨_, rfl⟩
              rw [← hp] at hs hst hpm
              have hpl := HZ.out p hpm
              have HST : Hid (P.all stB = (stB p && (P.drop (k + 1)).all stB)) := Lib.hid (by rw [← hst]; exact HA.out.symm)
              clear hS hp hst hpm
              go_wp2_with fail
              refine (stands_any (mk p) _ (HT.out.keep HB.out) (by rw [mk_size]; exact hpl)).mono ?_
              rw [mk_toList]
              rintro e w4 ⟨rfl, hb4⟩
              have HB4 : Hid (Below w.heap.size w w4) := Lib.hid (HB.out.trans (hb4.mono HB.out.size))
              clear hb4 hs
              cases hq : stB p with
              | true =>
                have HA4 : Hid ((P.drop (k + 1)).all stB = P.all stB) := Lib.hid (by rw [HST.out, hq, Bool.true_and])
                go_wp2
                go_roundw
                case rel => exact ⟨k + 1, by go_num, by omega, HA4, HB4⟩
                case measure => simp [intOf]; omega
              | false =>
                have HF : Hid (P.all stB = false) := Lib.hid (by rw [HST.out, hq, Bool.false_and])
                go_wp2
                go_ret
                exact ⟨by rw [HE.out, HF.out]; rfl, HB4.out⟩
            · have HF : Hid (P.all stB = true) := Lib.hid (by rw [← HA.out, List.drop_of_length_le (by rw [HP.out]; omega)]; rfl)
              go_wp2
              go_ret
              exact ⟨by rw [HE.out, HF.out]; rfl, HB.out⟩

/-- What Of tells. -/
def ofR (p : Nm) : SH × Int := match ofS p with
  | some s => (s, 0)
  | none => (⟨[], false, false⟩, 23)
theorem ofR_some {p : Nm} {s : SH} (h : ofS p = some s) : ofR p = (s, 0) := by unfold ofR; rw [h]
theorem ofR_none {p : Nm} (h : ofS p = none) : ofR p = (⟨[], false, false⟩, 23) := by unfold ofR; rw [h]
theorem ofS_big {p : Nm} (h : 40 < p.length) : ofS p = none := by unfold ofS; rw [if_neg (by omega)]
theorem ofS_may {p : Nm} (h : p.length ≤ 40) (h1 : shM (rd p) = true) : ofS p = some (rd p) := by unfold ofS; rw [if_pos ⟨h, h1⟩]
theorem ofS_mayn {p : Nm} (h1 : shM (rd p) = false) : ofS p = none := by unfold ofS; rw [if_neg (by rw [h1]; simp)]
theorem jnP_mem : ∀ (P : List Nm), ∀ p ∈ P, p.length ≤ (jnP P).length
  | [], p, h => by cases h
  | [q], p, h => by rw [List.mem_singleton.1 h]; exact Nat.le_refl _
  | q :: q' :: P, p, h => by
    rw [jnP_cons q (P := q' :: P) (by simp), List.length_append, List.length_cons]
    rcases List.mem_cons.1 h with rfl | h
    · omega
    · have := jnP_mem (q' :: P) p h; omega
theorem stx_mem (s : SH) : ∀ p ∈ s.P, p.length ≤ (stx s).length := fun p hp => by
  have := jnP_mem s.P p hp
  unfold stx
  rw [List.length_append, List.length_append]
  omega

/-- What is told in two: a shape and an error. -/
def shV (a : Option Addr) (n c : Nat) (x : SH × Int) : Value := .tuple #[.agg #[.slice a n c, .bool x.1.l, .bool x.1.r], .int .i64 x.2]

set_option maxRecDepth 100000 in
set_option maxHeartbeats 4000000 in
theorem sof_any (p : Nm) (w : World) (ht : Tab w) (hsz : p.length ≤ 1000000) :
    Calls Tryz.prog 47 #[.string (mk p)] w fun e w' => ∃ a n c, e = .returned (shV a n c (ofR p)) ∧ Ss w' a n c (ofR p).1.P ∧ Below w.heap.size w w' := by
  have hms := mk_size p
  obtain ⟨m, hm⟩ : ∃ m, m = p.length := ⟨_, rfl⟩
  rw [← hm] at hms
  have HB2 : Hid (Below w.heap.size w (w.alloc (.cells #[.slice none 0 0, .bool false, .bool false] 72))) := Lib.hid ((Below.refl _ _).alloc (Nat.le_refl _) _)
  have HT := Lib.hid ht
  clear ht
  by_cases hb : 40 < m
  · have HE : Hid (ofR p = (⟨[], false, false⟩, 23)) := Lib.hid (ofR_none (ofS_big (by omega)))
    have HZ : Hid ((w.alloc (.cells #[.slice none 0 0, .bool false, .bool false] 72)).heap[w.heap.size]? = some (.cells #[.slice none 0 0, .bool false, .bool false] 72 (0, 0))) := Lib.hid (heap_alloc_new w _)
    go_enter Tryz.func47, Tryz.ntmps47
    go_wp2
    refine bodyPost_ret (results_pair rfl _ _ w.heap.size 72 #[.slice none 0 0, .bool false, .bool false] (0, 0) _ rfl HZ.out Tryz.underlying72 rfl shape_info) rfl ⟨none, 0, 0, by rw [HE.out]; rfl, by rw [HE.out]; exact Vs.nil _ _ _ _ (Nat.zero_le _), HB2.out⟩
  · have hb' : ¬ (40 : Int) < (m : Int) := by omega
    have hp40 : p.length ≤ 40 := by omega
    obtain ⟨R, hR⟩ : ∃ R, R = w.heap.size := ⟨_, rfl⟩
    obtain ⟨w2, hw2⟩ : ∃ w2, w2 = w.alloc (.cells #[.slice none 0 0, .bool false, .bool false] 72) := ⟨_, rfl⟩
    have HZ2 : Hid (w2.heap[R]? = some (.cells #[.slice none 0 0, .bool false, .bool false] 72 (0, 0))) := Lib.hid (by rw [hw2, hR]; exact heap_alloc_new w _)
    have hs2 : w2.heap.size = R + 1 := by rw [hw2, hR]; simp
    rw [← hw2, ← hR] at HB2
    rw [← hR]
    clear hm
    go_enter Tryz.func47, Tryz.ntmps47
    go_wp2_with fail
    rw [← hw2, ← hR]
    refine (read_any p w2 (by omega)).mono ?_
    have HQM : Hid (∀ q ∈ (rd p).P, q.length ≤ 100000) := Lib.hid fun q hq => by
      have := stx_mem (rd p) q hq
      rw [stx_rd] at this
      omega
    obtain ⟨P, hP⟩ : ∃ P, P = (rd p).P := ⟨_, rfl⟩
    obtain ⟨l, hl⟩ : ∃ l, l = (rd p).l := ⟨_, rfl⟩
    obtain ⟨r, hr⟩ : ∃ r, r = (rd p).r := ⟨_, rfl⟩
    have HRD : Hid (rd p = ⟨P, l, r⟩) := Lib.hid (by rw [hP, hl, hr])
    rw [← hP, ← hl, ← hr]
    rw [← hP] at HQM
    rintro e w3 ⟨a, n, c, rfl, hS3, hb3⟩
    have hs3 : R + 1 ≤ w3.heap.size := by have := hb3.size; omega
    obtain ⟨q, hq⟩ : ∃ q, q = w3.heap.size := ⟨_, rfl⟩
    obtain ⟨w4, hw4⟩ : ∃ w4, w4 = w3.alloc (.cells #[.slice a n c, .bool l, .bool r] 72) := ⟨_, rfl⟩
    have hs4 : w4.heap.size = q + 1 := by rw [hw4, hq]; simp
    have HQ4 : Hid (w4.heap[q]? = some (.cells #[.slice a n c, .bool l, .bool r] 72 (0, 0))) := Lib.hid (by rw [hw4, hq]; exact heap_alloc_new w3 _)
    have HB34 : Below w3.heap.size w3 w4 := by rw [hw4]; exact (Below.refl _ _).alloc (Nat.le_refl _) _
    have HZ4 : Hid (w4.heap[R]? = some (.cells #[.slice none 0 0, .bool false, .bool false] 72 (0, 0))) := Lib.hid ((HB34.block R (by omega)).trans ((hb3.block R (by omega)).trans HZ2.out))
    have HS4 := Lib.hid (Vs.below hS3.vs HB34)
    have HO4 : Hid (OwnV (R + 1) 9 1 w4 a n c (P.map enS)) := Lib.hid (by rw [hs2] at hS3; exact hS3.keep HB34 (Nat.le_refl _))
    have HB4 : Hid (Below R w w4) := Lib.hid (HB2.out.trans ((hb3.mono (by omega)).trans (HB34.mono (by omega))))
    have HT4 : Hid (Tab w4) := Lib.hid (HT.out.keep (by rw [← hR]; exact HB4.out))
    obtain ⟨⟨x0, x1, x2⟩, _⟩ := three HQ4.out
    clear hS3 hb3 HB34 hP hl hr hw2 hR
    go_wp2_with fail
    rw [← hq, ← hw4]
    clear hw4
    refine (smay_any a n c P l r w4 HS4.out HT4.out HQM.out).mono ?_
    rintro e w5 ⟨rfl, hb5⟩
    have HQ5 := Lib.hid ((hb5.block q (by omega)).trans HQ4.out)
    have HZ5 := Lib.hid ((hb5.block R (by omega)).trans HZ4.out)
    have HO5 := Lib.hid (HO4.out.keep hb5 (Nat.le_refl _))
    have HB5 : Hid (Below R w w5) := Lib.hid (HB4.out.trans (hb5.mono (by omega)))
    have hs5 : R < w5.heap.size := by have := hb5.size; omega
    obtain ⟨⟨y0, y1, y2⟩, _⟩ := three HQ5.out
    obtain ⟨⟨z0, z1, z2⟩, f0, f1, f2⟩ := three HZ5.out
    clear hb5 x0 x1 x2 hq
    cases hM : shM ⟨P, l, r⟩ with
    | true =>
      have HE : Hid (ofR p = (⟨P, l, r⟩, 0)) := Lib.hid (by have := ofS_may hp40 (by rw [HRD.out]; exact hM); rw [HRD.out] at this; exact ofR_some this)
      have HF := Lib.hid (three_set (x' := .slice a n c) (y' := .bool l) (z' := .bool r) HZ5.out)
      have HG := Lib.hid (three_gb w5 R (.slice a n c) (.bool l) (.bool r))
      go_wp2
      refine bodyPost_ret (results_pair rfl _ _ R 72 #[.slice a n c, .bool l, .bool r] (0, 0) _ rfl HF.out Tryz.underlying72 rfl shape_info) rfl ⟨a, n, c, by rw [HE.out]; rfl, ?_, HB5.out.trans (gb_to HG.out (Nat.le_refl _) (by omega))⟩
      rw [HE.out]
      exact (HO5.out.other HG.out (.inr (HO5.out.apart (by omega)))).vs
    | false =>
      have HE : Hid (ofR p = (⟨[], false, false⟩, 23)) := Lib.hid (ofR_none (ofS_mayn (by rw [HRD.out]; exact hM)))
      have HF := Lib.hid (three_set (x' := .slice none 0 0) (y' := .bool false) (z' := .bool false) HZ5.out)
      have HG := Lib.hid (three_gb w5 R (.slice none 0 0) (.bool false) (.bool false))
      go_wp2
      refine bodyPost_ret (results_pair rfl _ _ R 72 #[.slice none 0 0, .bool false, .bool false] (0, 0) _ rfl HF.out Tryz.underlying72 rfl shape_info) rfl ⟨none, 0, 0, by rw [HE.out]; rfl, by rw [HE.out]; exact Vs.nil _ _ _ _ (Nat.zero_le _), HB5.out.trans (gb_to HG.out (Nat.le_refl _) (by omega))⟩

end Go.Proofs.YtjkjbgekpkhpfaaGreatDoor
