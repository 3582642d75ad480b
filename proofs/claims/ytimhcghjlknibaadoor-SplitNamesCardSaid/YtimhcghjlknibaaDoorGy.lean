/- The law SplitNames. -/
import Derived.Test.YtimhcghjlknibaaDoorGr
import Derived.Test.YtimhcghjlknibaaDoorGp
namespace Go.Proofs.YtimhcghjlknibaaDoor
open Go.RowKit

/-- One of the first k tokens is a name, and says x. -/
def thB (L : List TK) (x : Nm) (k : Nat) : Bool := (L.take k).any fun t => t.s.toList == x && isN t
theorem thB_step {L : List TK} {x : Nm} {k : Nat} (h : k < L.length) : thB L x (k + 1) = (thB L x k || ((tat L k).s.toList == x && isN (tat L k))) := by
  unfold thB
  rw [tat_take h, List.any_append]
  simp
theorem thB_all {L : List TK} {x : Nm} (h : x ∈ nms L) : thB L x L.length = true := by
  unfold thB nms at *
  obtain ⟨t, ht, rfl⟩ := List.mem_map.1 h
  rw [List.take_length, List.any_eq_true]
  obtain ⟨h1, h2⟩ := List.mem_filter.1 ht
  exact ⟨t, h1, by simp [h2]⟩
/-- One of the first i names is x. -/
def thC (R : List Nm) (x : Nm) (i : Nat) : Bool := (R.take i).any fun y => x == y
theorem thC_step {R : List Nm} {x : Nm} {i : Nat} (h : i < R.length) : thC R x (i + 1) = (thC R x i || x == at_ R i) := by
  unfold thC at_
  rw [List.take_add_one, List.any_append, List.getElem?_eq_getElem h, show R.getD i [] = R[i] by simp [List.getD, h]]
  simp
theorem thC_all {R : List Nm} {x : Nm} (h : x ∈ R) : thC R x R.length = true := by
  unfold thC
  rw [List.take_length, List.any_eq_true]
  exact ⟨x, h, by simp⟩
theorem at_mem {R : List Nm} {i : Nat} (h : i < R.length) : at_ R i ∈ R := by
  unfold at_; rw [show R.getD i [] = R[i] by simp [List.getD, h]]; exact List.getElem_mem h
theorem at_lt {R : List Nm} (hr : Ris R) {i j : Nat} (hij : i < j) (hj : j < R.length) : at_ R i < at_ R j := by
  unfold at_
  rw [show R.getD i [] = R[i]'(by omega) by simp [List.getD, show i < R.length by omega], show R.getD j [] = R[j] by simp [List.getD, hj]]
  exact List.pairwise_iff_getElem.1 hr i j (by omega) hj hij
theorem vs_enc {w : World} {b o n c p : Nat} {M : List Nm} (h : Vs 1 w (some ⟨b, o, none⟩) n c (M.map encStr)) (hp : p < n) {S : ByteArray} (hS : S.toList = at_ M p) : w.cell? ⟨b, o + p, none⟩ = some (.string S) := by
  have hl := h.hl
  rw [List.length_map, Nat.mul_one] at hl
  have := h.cells (by omega) (j := p) (by omega)
  rw [List.getElem?_map] at this
  rw [this, ← enc_str S, hS]
  unfold at_
  rw [List.getD_eq_getElem?_getD, List.getElem?_eq_getElem (by omega)]
  rfl
theorem nm_mem {L : List TK} {k : Nat} (h : k < L.length) (hn : isN (tat L k) = true) : (tat L k).s.toList ∈ nms L :=
  List.mem_map.2 ⟨tat L k, List.mem_filter.2 ⟨tat_mem h, hn⟩, rfl⟩

theorem kept7 {w w' : World} {p b b5 o o5 n : Nat} {v : Value} {S : ByteArray} {k f t e : Int} {s : ByteArray} (h : Below w.heap.size w w') (hb : b < w.heap.size) (hb5 : b5 < w.heap.size) (hp : p < w.heap.size)
    (hs : w.cell? ⟨p, n, none⟩ = some v ∧ w.cell? ⟨b5, o5, none⟩ = some (.string S) ∧ w.cell? ⟨b, o, none⟩ = some (.int .i64 k) ∧ w.cell? ⟨b, o + 1, none⟩ = some (.int .i64 f) ∧ w.cell? ⟨b, o + 2, none⟩ = some (.int .i64 t) ∧ w.cell? ⟨b, o + 3, none⟩ = some (.string s) ∧ w.cell? ⟨b, o + 4, none⟩ = some (.int .i64 e)) :
    w'.cell? ⟨p, n, none⟩ = some v ∧ w'.cell? ⟨b5, o5, none⟩ = some (.string S) ∧ w'.cell? ⟨b, o, none⟩ = some (.int .i64 k) ∧ w'.cell? ⟨b, o + 1, none⟩ = some (.int .i64 f) ∧ w'.cell? ⟨b, o + 2, none⟩ = some (.int .i64 t) ∧ w'.cell? ⟨b, o + 3, none⟩ = some (.string s) ∧ w'.cell? ⟨b, o + 4, none⟩ = some (.int .i64 e) :=
  ⟨(h.cell hp).trans hs.1, (h.cell hb5).trans hs.2.1, (h.cell hb).trans hs.2.2.1, (h.cell hb).trans hs.2.2.2.1, (h.cell hb).trans hs.2.2.2.2.1, (h.cell hb).trans hs.2.2.2.2.2.1, (h.cell hb).trans hs.2.2.2.2.2.2⟩

set_option maxRecDepth 100000 in
set_option maxHeartbeats 16000000 in
theorem splitNames_any (f0 t0 i0 : Int) (a : Option Addr) (len cap : Nat) (L : List TK) (w : World) (h : Ts w a len cap L) (ht : Tab w) :
    Calls Tryd.prog 5 #[.agg #[.int .i64 f0, .int .i64 t0, .int .i64 i0, .slice a len cap]] w fun e w' => e = .returned (.bool true) ∧ Below w.heap.size w w' := by
  obtain ⟨n, hn⟩ : ∃ n, n = min len 40 := ⟨_, rfl⟩
  obtain ⟨T, hT⟩ : ∃ T, T = L.take 40 := ⟨_, rfl⟩
  have hf := ts_few h 40
  rw [← hn, ← hT] at hf
  have HF := Lib.hid hf
  have HN := Lib.hid hn
  have hn40 : n ≤ 40 := by omega
  have hlc := h.lc
  have hnc := hf.lc
  have hcm := h.cm
  unfold maxLen at hcm
  have HTl : Hid (T.length = n) := Lib.hid hf.hl
  have HT := Lib.hid ht
  have HA : Hid (Below w.heap.size w (w.alloc (.cells #[.int .i64 f0, .int .i64 t0, .int .i64 i0, .slice a len cap] 25))) := Lib.hid ((Below.refl _ _).alloc (Nat.le_refl _) _)
  clear h ht hn hT hf
  go_enter Tryd.func5, Tryd.ntmps5
  go_wp2_with fail
  refine (shown_any _ (HT.out.keep HA.out)).mono ?_
  rintro e w1 ⟨rfl, hb1⟩
  have HW1 : Hid (Below w.heap.size w w1) := Lib.hid (HA.out.trans (hb1.mono (by simp)))
  have k0 : w1.cell? ⟨w.heap.size, 0, none⟩ = some (.int .i64 f0) := (hb1.cell (by simp)).trans (by simp)
  have k1 : w1.cell? ⟨w.heap.size, 1, none⟩ = some (.int .i64 t0) := (hb1.cell (by simp)).trans (by simp)
  have k2 : w1.cell? ⟨w.heap.size, 2, none⟩ = some (.int .i64 i0) := (hb1.cell (by simp)).trans (by simp)
  have k3 : w1.cell? ⟨w.heap.size, 3, none⟩ = some (.slice a len cap) := (hb1.cell (by simp)).trans (by simp)
  clear hb1
  go_wp2_with fail
  refine (short_any f0 t0 i0 a len cap n _ HN.out hlc).mono ?_
  rintro e w2 ⟨rfl, hb2⟩
  have HW2 : Hid (Below w.heap.size w w2) := Lib.hid (HW1.out.trans (hb2.mono HW1.out.size))
  have HA2 : Hid (Below w.heap.size w (w2.alloc (.cells #[.int .i64 f0, .int .i64 t0, .int .i64 i0, .slice a n cap] 25))) := Lib.hid (HW2.out.alloc HW2.out.size _)
  clear hb2 k0 k1 k2 k3
  go_wp2_with fail
  refine (names_any f0 t0 i0 a n cap T _ (HF.out.below HA2.out) (by omega)).mono ?_
  obtain ⟨R, hR⟩ : ∃ R, R = nmR (nms T) := ⟨_, rfl⟩
  obtain ⟨r, hr⟩ : ∃ r, r = R.length := ⟨_, rfl⟩
  rw [← hR, ← hr]
  have HR := Lib.hid hR
  have HRl := Lib.hid hr
  have hr40 : r ≤ 40 := by
    have h1 := nmR_len (nms T)
    have h2 := nms_len T
    rw [← hR, ← hr] at h1
    have h3 := HTl.out
    omega
  clear hR hr
  rintro e w3 ⟨a5, c5, rfl, hv3, hb3⟩
  have HW3 : Hid (Below w.heap.size w w3) := Lib.hid (HA2.out.trans (hb3.mono HA2.out.size))
  have HB4 : Hid (w2.heap.size < w3.heap.size) := Lib.hid (by have := hb3.size; simp at this; omega)
  have HK3 : Hid (w3.cell? ⟨w2.heap.size, 3, none⟩ = some (.slice a n cap)) := Lib.hid ((hb3.cell (by simp)).trans (by simp))
  have HV3 := Lib.hid hv3
  have hlc5 := hv3.lc
  have hcm5 := hv3.cm
  unfold maxLen at hcm5
  clear hv3 hb3
  go_wp2
  go_loopw [6] (fun v wr => ∃ i : Nat, v = .int .i64 i ∧ i ≤ r ∧ Hid (Below w3.heap.size w3 wr)) (fun v _ => r - (intOf v).toNat)
  case atStart => exact ⟨0, rfl, by omega, Lib.hid (Below.refl _ _)⟩
  case round =>
    obtain ⟨i, rfl, hi, HB⟩ := hrel
    rename World => wa
    have hi0 : (0 : Int) ≤ (i : Int) := Int.natCast_nonneg _
    by_cases hlt : i < r
    · have hi1 : (i : Int) < (r : Int) := by omega
      obtain ⟨S, hS⟩ := str_at R i
      have HS := Lib.hid hS
      clear hS
      go_wp2
      go_loopw [7, 8] (fun u v wr => ∃ b : Bool, ∃ k : Nat, u = .bool b ∧ v = .int .i64 k ∧ k ≤ n ∧ Hid (b = thB T S.toList k) ∧ Hid (Below w3.heap.size w3 wr)) (fun _ v _ => n - (intOf v).toNat)
      case atStart => exact ⟨false, 0, rfl, rfl, by omega, Lib.hid (by simp [thB]), HB⟩
      case round =>
        obtain ⟨b, k, rfl, rfl, hk, HT1, HBk⟩ := hrel
        rename World => wb
        have k3 := (HBk.out.cell HB4.out).trans HK3.out
        have hk0 : (0 : Int) ≤ (k : Int) := Int.natCast_nonneg _
        by_cases hkn : k < n
        · have hk1 : (k : Int) < (n : Int) := by omega
          have hst := thB_step (L := T) (x := S.toList) (k := k) (by rw [HTl.out]; exact hkn)
          rw [← HT1.out] at hst
          have hts := (HF.out.below HW3.out).below HBk.out
          have hvs := HV3.out.below HBk.out
          obtain ⟨b4, o4, rfl, hbl, _⟩ := hts.at_ (by omega)
          obtain ⟨b5, o5, rfl, hbl5, hx5⟩ := hvs.at_ (by omega)
          clear hx5
          have v5 := vs_enc hvs hlt HS.out
          obtain ⟨c0, c1, c2, c3, c4⟩ := hts.at5 hkn
          obtain ⟨X, hX⟩ : ∃ X, X = tat T k := ⟨_, rfl⟩
          rw [← hX] at c0 c1 c2 c3 c4 hst
          have HST := Lib.hid hst
          have HB4w : Hid (w2.heap.size < wb.heap.size) := Lib.hid (Nat.lt_of_lt_of_le HB4.out HBk.out.size)
          clear hts hvs hX hst
          cases b with
          | true =>
            have HE : Hid (true = thB T S.toList (k + 1)) := Lib.hid (by rw [HST.out]; rfl)
            go_wp2
            go_quiet (fail)
            go_wp2
            go_roundw
            case rel => exact ⟨true, k + 1, rfl, by go_num, by omega, HE, Lib.hid (below_drewN HBk.out _)⟩
            case measure => simp [intOf]; omega
          | false =>
            cases he : X.s.toList == S.toList with
            | false =>
              have HE : Hid (false = thB T S.toList (k + 1)) := Lib.hid (by rw [HST.out, he]; rfl)
              go_wp2
              go_quiet (fail)
              go_wp2
              go_roundw
              case rel => exact ⟨false, k + 1, rfl, by go_num, by omega, HE, Lib.hid (below_drewN HBk.out _)⟩
              case measure => simp [intOf]; omega
            | true =>
              have HE : Hid (isN X = thB T S.toList (k + 1)) := Lib.hid (by rw [HST.out, he]; rfl)
              obtain ⟨z, hz⟩ : ∃ z, z = isN X := ⟨_, rfl⟩
              rw [← hz] at HE
              have HZ := Lib.hid hz
              clear hz
              have HSS := Lib.hid (And.intro k3 (And.intro v5 (And.intro c0 (And.intro c1 (And.intro c2 (And.intro c3 c4))))))
              have HBL := Lib.hid (And.intro hbl hbl5)
              go_wp2
              have hS := HSS.out
              go_region_held3 (fun w' => w'.cell? ⟨w2.heap.size, 3, none⟩ = some (.slice (some ⟨b4, o4, none⟩) n cap) ∧ w'.cell? ⟨b5, o5 + i, none⟩ = some (.string S) ∧ w'.cell? ⟨b4, o4 + k * 5, none⟩ = some (.int .i64 X.k) ∧ w'.cell? ⟨b4, o4 + k * 5 + 1, none⟩ = some (.int .i64 X.f) ∧ w'.cell? ⟨b4, o4 + k * 5 + 2, none⟩ = some (.int .i64 X.t) ∧ w'.cell? ⟨b4, o4 + k * 5 + 3, none⟩ = some (.string X.s) ∧ w'.cell? ⟨b4, o4 + k * 5 + 4, none⟩ = some (.int .i64 X.e))
                (first
                  | go_keep
                  | exact HSS6.out)
                (first
                  | (go_at_call 20; (refine (name2_any X _).mono ?_); (rw [← HZ.out]); (rintro e w6 ⟨rfl, hb6⟩); (have HB6 : Hid (Below wb.heap.size wb w6) := Lib.hid ((Below.refl _ _).drew.trans hb6)); (have HSS6 := Lib.hid (kept7 HB6.out HBL.out.1 HBL.out.2 HB4w.out HSS.out)); clear hb6))
              all_goals
                go_wp2
                go_roundw
                case rel => exact ⟨z, k + 1, rfl, by go_num, by omega, HE, Lib.hid (HBk.out.trans (HB6.out.mono HBk.out.size))⟩
                case measure => simp [intOf]; omega
        · have hkn' : k = n := by omega
          have HE : Hid (b = true) := Lib.hid (by
            rw [HT1.out, hkn', ← HTl.out]
            refine thB_all ((nmR_mem (nms T) S.toList).1 ?_)
            rw [← HR.out, HS.out]
            exact at_mem (by rw [← HRl.out]; exact hlt))
          have hvs := HV3.out.below HBk.out
          obtain ⟨b5, o5, rfl, hbl5, hx5⟩ := hvs.at_ (by omega)
          clear hx5
          have v5 := vs_enc hvs hlt HS.out
          by_cases hz : i = 0
          · have hgt : decide ((0 : Int) < (i : Int)) = false := by simp; omega
            clear hvs
            go_wp2
            rw [HE.out]
            go_quiet (fail)
            go_wp2
            go_roundw
            case rel => exact ⟨i + 1, by go_num, by omega, Lib.hid (below_drewN HBk.out _)⟩
            case measure => simp [intOf]; omega
          · have hgt : decide (0 < i) = true := by simp; omega
            obtain ⟨q, hq⟩ : ∃ q : Nat, (i : Int) - 1 = (q : Int) := ⟨i - 1, by omega⟩
            obtain ⟨S2, hS2⟩ := str_at R q
            have v6 := vs_enc hvs (show q < r by omega) hS2
            have hw : IntKind.i64.wrap ((i : Int) - 1) = (q : Int) := by rw [IntWalk.i64_in _ (by omega)]; exact hq
            have hqr : q < r := by omega
            have hq0 : (0 : Int) ≤ (q : Int) := Int.natCast_nonneg _
            have hq1 : (q : Int) < (r : Int) := by omega
            have hbl : Op.bytesLess S2.toList S.toList = true := by
              rw [bytesLess_eq, hS2, HS.out]
              have : at_ R q < at_ R i := at_lt (by rw [HR.out]; exact nmR_ris _) (by omega) (by rw [← HRl.out]; exact hlt)
              simpa using this
            clear hvs hS2
            go_wp2
            rw [HE.out]
            go_quiet (fail)
            go_wp2
            go_roundw
            case rel => exact ⟨i + 1, by go_num, by omega, Lib.hid (below_drewN HBk.out _)⟩
            case measure => simp [intOf]; omega
    · go_wp2
      go_loopw [9] (fun v wr => ∃ k : Nat, v = .int .i64 k ∧ k ≤ n ∧ Hid (Below w3.heap.size w3 wr)) (fun v _ => n - (intOf v).toNat)
      case atStart => exact ⟨0, rfl, by omega, HB⟩
      case round =>
        obtain ⟨k, rfl, hk, HB2⟩ := hrel
        rename World => wb
        have k3 := (HB2.out.cell HB4.out).trans HK3.out
        have hk0 : (0 : Int) ≤ (k : Int) := Int.natCast_nonneg _
        by_cases hkn : k < n
        · have hk1 : (k : Int) < (n : Int) := by omega
          obtain ⟨X, hX⟩ : ∃ X, X = tat T k := ⟨_, rfl⟩
          have HX := Lib.hid hX
          clear hX
          go_wp2
          go_loopw [10, 11] (fun u v wr => ∃ b : Bool, ∃ j : Nat, u = .bool b ∧ v = .int .i64 j ∧ j ≤ r ∧ Hid (b = thC R X.s.toList j) ∧ Hid (Below w3.heap.size w3 wr)) (fun _ v _ => r - (intOf v).toNat)
          case atStart => exact ⟨false, 0, rfl, rfl, by omega, Lib.hid (by simp [thC]), HB2⟩
          case round =>
            obtain ⟨b, j, rfl, rfl, hj, HT1, HBk⟩ := hrel
            rename World => wc
            have k3 := (HBk.out.cell HB4.out).trans HK3.out
            have hj0 : (0 : Int) ≤ (j : Int) := Int.natCast_nonneg _
            have hts := (HF.out.below HW3.out).below HBk.out
            obtain ⟨b4, o4, rfl, hbl, _⟩ := hts.at_ (by omega)
            obtain ⟨c0, c1, c2, c3, c4⟩ := hts.at5 hkn
            rw [← HX.out] at c0 c1 c2 c3 c4
            clear hts
            by_cases hjr : j < r
            · have hj1 : (j : Int) < (r : Int) := by omega
              have hst := thC_step (R := R) (x := X.s.toList) (i := j) (by rw [← HRl.out]; exact hjr)
              rw [← HT1.out] at hst
              have hvs := HV3.out.below HBk.out
              obtain ⟨b5, o5, rfl, hbl5, hx5⟩ := hvs.at_ (by omega)
              clear hx5
              obtain ⟨S, hS⟩ := str_at R j
              have v5 := vs_enc hvs hjr hS
              rw [← hS] at hst
              have HST := Lib.hid hst
              clear hvs hst hbl hbl5 hS
              cases b with
              | true =>
                have HE : Hid (true = thC R X.s.toList (j + 1)) := Lib.hid (by rw [HST.out]; rfl)
                go_wp2
                go_quiet (fail)
                go_wp2
                go_roundw
                case rel => exact ⟨true, j + 1, rfl, by go_num, by omega, HE, Lib.hid (below_drewN HBk.out _)⟩
                case measure => simp [intOf]; omega
              | false =>
                have HE : Hid ((X.s.toList == S.toList) = thC R X.s.toList (j + 1)) := Lib.hid (by rw [HST.out]; rfl)
                go_wp2
                go_quiet (fail)
                go_wp2
                go_roundw
                case rel => exact ⟨_, j + 1, rfl, by go_num, by omega, HE, Lib.hid (below_drewN HBk.out _)⟩
                case measure => simp [intOf]; omega
            · have hjr' : j = r := by omega
              have HE : Hid (isN X = true → b = true) := Lib.hid (fun hn => by
                rw [HT1.out, hjr', HRl.out]
                refine thC_all ?_
                rw [HR.out, nmR_mem, HX.out]
                exact nm_mem (by rw [HTl.out]; exact hkn) (by rw [← HX.out]; exact hn))
              clear hjr'
              have hdj : decide ((j : Int) < (r : Int)) = false := by simp; omega
              go_wp2_with fail
              refine (name2_any X _).mono ?_
              rintro e w6 ⟨rfl, hb6⟩
              have HB6 : Hid (Below w3.heap.size w3 w6) := Lib.hid (HBk.out.trans (hb6.mono HBk.out.size))
              clear hb6
              cases hz : isN X with
              | false =>
                go_wp2
                go_roundw
                case rel => exact ⟨k + 1, by go_num, by omega, HB6⟩
                case measure => simp [intOf]; omega
              | true =>
                have hb : b = true := HE.out hz
                subst hb
                go_wp2
                go_roundw
                case rel => exact ⟨k + 1, by go_num, by omega, HB6⟩
                case measure => simp [intOf]; omega
        · have hkn' : k = n := by omega
          go_wp2
          go_ret
          exact ⟨rfl, HW3.out.trans (HB2.out.mono HW3.out.size)⟩

end Go.Proofs.YtimhcghjlknibaaDoor
