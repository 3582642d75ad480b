/- Texts laid one behind the other. -/
import Derived.Test.YtkaeanaeklilfaaGreatDoorM2
import Derived.Test.YtkaeanaeklilfaaGreatDoorM1
import Derived.Lib.Hide
import Derived.Test.YtkaeanaeklilfaaGreatDoorM3

/- The plain mathematics of layer 3: runs of digits and their number. No walk here. -/
namespace Go.Proofs.YtkaeanaeklilfaaGreatDoor
open Go.RowKit

theorem runL_cls (n : Int) : ∀ (l : List Int) (j : Nat), j < runL n l → cls (bt l j) = n
  | [], j, h => by simp [runL] at h
  | c :: r, j, h => by
    by_cases hc : cls c = n
    · cases j with
      | zero => simpa [bt] using hc
      | succ j =>
        have := runL_cls n r j (by simp only [runL, if_pos hc] at h; omega)
        simpa [bt] using this
    · simp only [runL, if_neg hc] at h; omega

theorem dig_cls_all : ∀ n : Nat, n < 256 → (cls n = 4 ↔ (48 ≤ n ∧ n ≤ 57)) := by decide +kernel
theorem dig_cls {c : Int} (h0 : 0 ≤ c) (h1 : c ≤ 255) : cls c = 4 ↔ (48 ≤ c ∧ c ≤ 57) := by
  have := dig_cls_all c.toNat (by omega)
  rw [Int.toNat_of_nonneg h0] at this
  rw [this]; omega

/-- The number that digits make. -/
def numL : List Int → Int := List.foldl (fun n c => n * 10 + (c - 48)) 0

theorem numL_nil : numL [] = 0 := rfl
theorem numL_snoc (l : List Int) (c : Int) : numL (l ++ [c]) = numL l * 10 + (c - 48) := by unfold numL; rw [List.foldl_append]; rfl

theorem take_snoc {l : List Int} {k : Nat} (h : k < l.length) : l.take (k + 1) = l.take k ++ [bt l k] := by
  rw [List.take_succ_eq_append_getElem h]; simp [bt, List.getD, h]

/-- All of them are digits. -/
def digs (l : List Int) : Prop := ∀ x ∈ l, 48 ≤ x ∧ x ≤ 57

theorem numL_nonneg (l : List Int) (h : digs l) : 0 ≤ numL l := by
  suffices ∀ (l : List Int) (a : Int), 0 ≤ a → digs l → 0 ≤ l.foldl (fun n c => n * 10 + (c - 48)) a from this l 0 (Int.le_refl _) h
  intro l
  induction l with
  | nil => intro a ha _; exact ha
  | cons c r ih =>
    intro a ha h
    have := h c (by simp)
    exact ih (a * 10 + (c - 48)) (by omega) fun x hx => h x (by simp [hx])

theorem numL_append (l k : List Int) (hk : digs k) (hl : 0 ≤ numL l) : numL l ≤ numL (l ++ k) := by
  suffices ∀ (k : List Int) (a : Int), 0 ≤ a → digs k → a ≤ k.foldl (fun n c => n * 10 + (c - 48)) a by
    unfold numL; rw [List.foldl_append]; exact this k _ hl hk
  intro k
  induction k with
  | nil => intro a _ _; exact Int.le_refl _
  | cons c r ih =>
    intro a ha h
    have h1 := h c (by simp)
    have := ih (a * 10 + (c - 48)) (by omega) fun x hx => h x (by simp [hx])
    show a ≤ r.foldl _ (a * 10 + (c - 48))
    omega

theorem digs_take {l : List Int} (h : digs l) (k : Nat) : digs (l.take k) := fun x hx => h x (List.take_subset _ _ hx)

theorem numL_take_mono {l : List Int} (h : digs l) {j k : Nat} (hjk : j ≤ k) : numL (l.take j) ≤ numL (l.take k) := by
  have e : l.take k = l.take j ++ (l.drop j).take (k - j) := by
    rw [← List.take_add, Nat.add_sub_cancel' hjk]
  rw [e]
  exact numL_append _ _ (fun x hx => h x (List.drop_subset _ _ (List.take_subset _ _ hx))) (numL_nonneg _ (digs_take h _))

theorem run_digs {l : List Int} (hr : ∀ x ∈ l, 0 ≤ x ∧ x ≤ 255) : digs (l.take (runL 4 l)) := by
  intro x hx
  obtain ⟨j, hj, rfl⟩ := List.getElem_of_mem hx
  have hl := runL_le 4 l
  have hj' : j < runL 4 l := by rw [List.length_take] at hj; omega
  have hjl : j < l.length := by omega
  have := runL_cls 4 l j hj'
  have e : bt l j = l[j] := by simp [bt, List.getD, hjl]
  rw [e] at this
  rw [List.getElem_take]
  have hm := hr l[j] (List.getElem_mem hjl)
  exact (dig_cls hm.1 hm.2).1 this

/-- digits.Take's three answers. -/
def dkK (l : List Int) : Nat := runL 4 l
def dkBig (l : List Int) : Bool := decide (2147483647 < numL (l.take (runL 4 l)))
def dkN (l : List Int) : Int := if dkBig l then 0 else numL (l.take (runL 4 l))
def dkE (l : List Int) : Int := if runL 4 l = 0 then 2 else if dkBig l then 4 else 0

theorem dkN_zero {l : List Int} (h : runL 4 l = 0) : dkN l = 0 := by unfold dkN dkBig; rw [h]; rfl

theorem dig_bt {l : List Int} (hr : ∀ x ∈ l, 0 ≤ x ∧ x ≤ 255) {j : Nat} (h : j < runL 4 l) : 48 ≤ bt l j ∧ bt l j ≤ 57 :=
  (dig_cls (bt_rng hr j).1 (bt_rng hr j).2).1 (runL_cls 4 l j h)

theorem big_of {l : List Int} (hr : ∀ x ∈ l, 0 ≤ x ∧ x ≤ 255) {j : Nat} (hj : j ≤ runL 4 l) (h : 2147483647 < numL (l.take j)) : dkBig l = true := by
  unfold dkBig
  have := numL_take_mono (run_digs hr) hj
  rw [List.take_take, Nat.min_eq_left hj, List.take_take, Nat.min_self] at this
  simp only [decide_eq_true_eq]; omega

theorem step_num {l : List Int} (_hr : ∀ x ∈ l, 0 ≤ x ∧ x ≤ 255) {j : Nat} (h : j < runL 4 l) : numL (l.take (j + 1)) = numL (l.take j) * 10 + (bt l j - 48) := by
  have := runL_le 4 l
  rw [take_snoc (by omega), numL_snoc]

theorem num_nonneg {l : List Int} (hr : ∀ x ∈ l, 0 ≤ x ∧ x ≤ 255) {j : Nat} (h : j ≤ runL 4 l) : 0 ≤ numL (l.take j) := by
  have := numL_nonneg _ (digs_take (run_digs hr) j)
  rwa [List.take_take, Nat.min_eq_left h] at this

end Go.Proofs.YtkaeanaeklilfaaGreatDoor

/- Contract of package digits' Take. -/
namespace Go.Proofs.YtkaeanaeklilfaaGreatDoor
open Go.RowKit

def dkV (l : List Int) : Value := .tuple #[.int .i64 (dkN l), .int .i64 (dkK l), .int .i64 (dkE l)]

set_option maxHeartbeats 400000 in
theorem dtake_any (a : Option Addr) (len cap : Nat) (l : List Int) (w : World) (h : Bs w a len cap l) (ht : Tab w) :
    Calls Tryz.prog 128 #[.slice a len cap] w fun e w' => e = .returned (dkV l) ∧ Below w.heap.size w w' := by
  have hm := h.lt
  have hlc := h.lc
  have hcm := h.cm
  unfold maxLen at hm hcm
  have hrl : runL 4 l ≤ len := by rw [← h.hl]; exact runL_le 4 l
  have HR := Lib.hid h.rng
  have H := Lib.hid h
  have HT := Lib.hid ht
  clear h ht
  by_cases h0 : runL 4 l = 0
  · have HV : Hid (dkV l = .tuple #[.int .i64 0, .int .i64 0, .int .i64 2]) := Lib.hid (by unfold dkV dkK dkE; rw [dkN_zero h0, h0]; rfl)
    have H0 := Lib.hid h0
    clear h0
    go_enter Tryz.func128, Tryz.ntmps128
    go_wp2_with fail
    refine (run_any _ _ _ _ _ _ H.out HT.out).mono ?_
    rintro e w1 ⟨rfl, hb1⟩
    have HB1 := Lib.hid hb1
    clear hb1
    rw [H0.out]
    go_wp2
    exact bodyPost_ret (v := .tuple #[.int .i64 0, .int .i64 0, .int .i64 2]) (by simp [results, Tryz.results128, go_sem]) rfl ⟨by rw [HV.out], HB1.out⟩
  · have hpos : 0 < runL 4 l := by omega
    clear h0
    go_enter Tryz.func128, Tryz.ntmps128
    go_wp2_with fail
    refine (run_any _ _ _ _ _ _ H.out HT.out).mono ?_
    rintro e w1 ⟨rfl, hb1⟩
    have HB1 := Lib.hid hb1
    clear hb1
    go_wp2
    go_loop [2, 3, 15] (fun n z i => ∃ k : Nat, i = .int .i64 k ∧ z = .int .i64 (runL 4 l) ∧ k ≤ runL 4 l ∧ numL (l.take k) ≤ 2147483647 ∧ n = .int .i64 (numL (l.take k))) (fun _ _ i => runL 4 l - (intOf i).toNat)
    case atStart => exact ⟨0, rfl, rfl, by omega, by simp [numL_nil], rfl⟩
    case round =>
      obtain ⟨k, rfl, rfl, hk, hn, rfl⟩ := hrel
      have hnn := num_nonneg HR.out hk
      by_cases hlt : k < runL 4 l
      · have hs := Lib.hid (step_num HR.out hlt)
        have hd0 := (dig_bt HR.out hlt).1
        have hd1 := (dig_bt HR.out hlt).2
        have hb := H.out.below HB1.out
        obtain ⟨b, off, rfl, _, hc⟩ := hb.at_ (by omega)
        have hck := hc k (by omega)
        clear hb hc
        by_cases hbig : 2147483647 < numL (l.take k) * 10 + (bt l k - 48)
        · have HV : Hid (dkV l = .tuple #[.int .i64 0, .int .i64 (runL 4 l), .int .i64 4]) := Lib.hid (by
            have hb := big_of HR.out (j := k + 1) (by omega) (by rw [hs.out]; exact hbig)
            have hne : runL 4 l ≠ 0 := by omega
            simp [dkV, dkN, dkK, dkE, hb, hne])
          go_wp2
          exact bodyPost_ret (v := .tuple #[.int .i64 0, .int .i64 (runL 4 l), .int .i64 4]) (by simp [results, Tryz.results128, go_sem]) rfl ⟨by rw [HV.out], HB1.out⟩
        · go_wp2
          go_round
          case rel => exact ⟨k + 1, by go_num, rfl, by omega, by rw [hs.out]; omega, by rw [hs.out]⟩
          case measure => simp [intOf]; omega
      · have hkk : k = runL 4 l := by omega
        have HV : Hid (dkV l = .tuple #[.int .i64 (numL (l.take k)), .int .i64 (runL 4 l), .int .i64 0]) := Lib.hid (by
          have hb : dkBig l = false := by unfold dkBig; rw [← hkk]; simpa using hn
          have hne : runL 4 l ≠ 0 := by omega
          rw [hkk]; simp [dkV, dkN, dkK, dkE, hb, hne])
        clear hkk
        go_wp2
        exact bodyPost_ret (v := .tuple #[.int .i64 (numL (l.take k)), .int .i64 (runL 4 l), .int .i64 0]) (by simp [results, Tryz.results128, go_sem]) rfl ⟨by rw [HV.out], HB1.out⟩

end Go.Proofs.YtkaeanaeklilfaaGreatDoor

/- Contract: layer 3's document's own Take. -/
namespace Go.Proofs.YtkaeanaeklilfaaGreatDoor
open Go.RowKit

set_option maxHeartbeats 400000 in
theorem rdtake_any (a : Option Addr) (len cap : Nat) (l : List Int) (w : World) (h : Bs w a len cap l) :
    Calls Tryz.prog 156 #[.slice a len cap] w fun e w' => e = .returned (dkV l) ∧ w = w' := by
  have hm := h.lt
  have hlc := h.lc
  have hcm := h.cm
  unfold maxLen at hm hcm
  have hrl : runL 4 l ≤ len := by rw [← h.hl]; exact runL_le 4 l
  have HR := Lib.hid h.rng
  have H := Lib.hid h
  clear h
  by_cases h0 : runL 4 l = 0
  · have HV : Hid (dkV l = .tuple #[.int .i64 0, .int .i64 0, .int .i64 2]) := Lib.hid (by unfold dkV dkK dkE; rw [dkN_zero h0, h0]; rfl)
    have H0 := Lib.hid h0
    clear h0
    go_enter Tryz.func156, Tryz.ntmps156
    go_wp2_with fail
    refine (rrun_any _ _ _ _ _ _ H.out).mono ?_
    rintro e w1 ⟨rfl, rfl⟩
    rw [H0.out]
    go_wp2
    exact bodyPost_ret (v := .tuple #[.int .i64 0, .int .i64 0, .int .i64 2]) (by simp [results, Tryz.results156, go_sem]) rfl ⟨by rw [HV.out], rfl⟩
  · have hpos : 0 < runL 4 l := by omega
    clear h0
    go_enter Tryz.func156, Tryz.ntmps156
    go_wp2_with fail
    refine (rrun_any _ _ _ _ _ _ H.out).mono ?_
    rintro e w1 ⟨rfl, rfl⟩
    go_wp2
    go_loop [6, 7] (fun n i => ∃ k : Nat, i = .int .i64 k ∧ k ≤ runL 4 l ∧ numL (l.take k) ≤ 2147483647 ∧ n = .int .i64 (numL (l.take k))) (fun _ i => runL 4 l - (intOf i).toNat)
    case atStart => exact ⟨0, rfl, by omega, by simp [numL_nil], rfl⟩
    case round =>
      obtain ⟨k, rfl, hk, hn, rfl⟩ := hrel
      have hnn := num_nonneg HR.out hk
      by_cases hlt : k < runL 4 l
      · have hs := Lib.hid (step_num HR.out hlt)
        have hd0 := (dig_bt HR.out hlt).1
        have hd1 := (dig_bt HR.out hlt).2
        have hkl : k < len := by omega
        obtain ⟨b, off, rfl, _, hc⟩ := H.out.at_ (by omega)
        have hck := hc k (by omega)
        clear hc
        by_cases hbig : 2147483647 < numL (l.take k) * 10 + (bt l k - 48)
        · have HV : Hid (dkV l = .tuple #[.int .i64 0, .int .i64 (runL 4 l), .int .i64 4]) := Lib.hid (by
            have hb := big_of HR.out (j := k + 1) (by omega) (by rw [hs.out]; exact hbig)
            have hne : runL 4 l ≠ 0 := by omega
            simp [dkV, dkN, dkK, dkE, hb, hne])
          go_wp2
          exact bodyPost_ret (v := .tuple #[.int .i64 0, .int .i64 (runL 4 l), .int .i64 4]) (by simp [results, Tryz.results156, go_sem]) rfl ⟨by rw [HV.out], rfl⟩
        · go_wp2
          go_round
          case rel => exact ⟨k + 1, by go_num, by omega, by rw [hs.out]; omega, by rw [hs.out]⟩
          case measure => simp [intOf]; omega
      · have hkk : k = runL 4 l := by omega
        have HV : Hid (dkV l = .tuple #[.int .i64 (numL (l.take k)), .int .i64 (runL 4 l), .int .i64 0]) := Lib.hid (by
          have hb : dkBig l = false := by unfold dkBig; rw [← hkk]; simpa using hn
          have hne : runL 4 l ≠ 0 := by omega
          rw [hkk]; simp [dkV, dkN, dkK, dkE, hb, hne])
        clear hkk
        go_wp2
        exact bodyPost_ret (v := .tuple #[.int .i64 (numL (l.take k)), .int .i64 (runL 4 l), .int .i64 0]) (by simp [results, Tryz.results156, go_sem]) rfl ⟨by rw [HV.out], rfl⟩

end Go.Proofs.YtkaeanaeklilfaaGreatDoor
