/- Contracts of tree.along, at the two pairs of functions that it is called with (laid by genXXf.py). -/
import Derived.Test.YtkaeanaeklilfaaGreatDoorXb
import Derived.Test.YtkaeanaeklilfaaGreatDoorMC
import Derived.Test.YtkaeanaeklilfaaGreatDoorMK
namespace Go.Proofs.YtkaeanaeklilfaaGreatDoor
open Go.RowKit

/-- All blocks but X and Y stand, and all that lay below m. -/
structure But (m X Y : Nat) (w w' : World) : Prop where
  b : Below m w w'
  s : ∀ g, g < w.heap.size → g ≠ X → g ≠ Y → w'.heap[g]? = w.heap[g]?
theorem But.refl (m X Y : Nat) (w : World) : But m X Y w w := ⟨Below.refl _ _, fun _ _ _ _ => rfl⟩
theorem But.size {m X Y : Nat} {w w' : World} (h : But m X Y w w') : w.heap.size ≤ w'.heap.size := h.b.size
theorem But.trans {m X Y : Nat} {a b c : World} (h : But m X Y a b) (k : But m X Y b c) : But m X Y a c :=
  ⟨h.b.trans k.b, fun g hg h1 h2 => (k.s g (Nat.lt_of_lt_of_le hg h.size) h1 h2).trans (h.s g hg h1 h2)⟩
theorem But.of {m X Y : Nat} {w w' : World} (h : Below w.heap.size w w') (hm : m ≤ w.heap.size) : But m X Y w w' := ⟨h.mono hm, fun g hg _ _ => h.block g hg⟩
theorem But.onlyX {m X Y : Nat} {w w' : World} (h : Only X w w') (hm : m ≤ X) : But m X Y w w' := ⟨h.below hm, fun g _ h1 _ => h.block g h1⟩
theorem But.onlyY {m X Y : Nat} {w w' : World} (h : Only Y w w') (hm : m ≤ Y) : But m X Y w w' := ⟨h.below hm, fun g _ _ h2 => h.block g h2⟩
theorem But.row {m X Y g : Nat} {w w' : World} (h : But m X Y w w') (h1 : g ≠ X) (h2 : g ≠ Y) {o : Obj} (hg : w.heap[g]? = some o) : w'.heap[g]? = some o :=
  (h.s g (Array.getElem?_eq_some_iff.1 hg).1 h1 h2).trans hg

theorem pt_drop {P : List Nm} {k : Nat} (h : k < P.length) : P.drop k = pt P k :: P.drop (k + 1) := by
  rw [List.drop_eq_getElem_cons h]; unfold pt; simp [List.getD, h]
/-- The items that are left behind k parts. -/
def remI (l : Bool) (P : List Nm) (r : Bool) (k : Nat) : List Nm := alI (decide (0 < k) || l) (P.drop k) r
theorem rem_zero (l : Bool) (P : List Nm) (r : Bool) : remI l P r 0 = alI l P r := rfl
theorem rem_hole {l : Bool} {P : List Nm} {r : Bool} {k : Nat} (hk : k < P.length) (h : (decide (0 < k) || l) = true) : remI l P r k = [] :: pt P k :: remI l P r (k + 1) := by
  unfold remI
  rw [h, pt_drop hk]
  have : decide (0 < k + 1) = true := by simp
  rw [this]
  rfl
theorem rem_part {l : Bool} {P : List Nm} {r : Bool} {k : Nat} (hk : k < P.length) (h : (decide (0 < k) || l) = false) : remI l P r k = pt P k :: remI l P r (k + 1) := by
  unfold remI
  rw [h, pt_drop hk]
  have : decide (0 < k + 1) = true := by simp
  rw [this]
  rfl
theorem rem_end {l : Bool} {P : List Nm} {r : Bool} {k : Nat} (hk : P.length ≤ k) : remI l P r k = if r then [[]] else [] := by
  unfold remI
  rw [List.drop_eq_nil_of_le hk]
  cases (decide (0 < k) || l) <;> rfl

set_option maxRecDepth 20000 in
set_option maxHeartbeats 8000000 in
theorem alongN_any (X0 : Nat) (m X Y : Nat) (J : List Nm → World → Prop) (Jx : World → Prop)
    (KP : ∀ (x : Nm) (r : List Nm) (w1 : World), x ≠ [] → J (x :: r) w1 → Calls Tryz.prog 89 #[.string (mk x)] w1 fun e w' => ∃ b, e = .returned (.bool b) ∧ (b = true → J r w') ∧ (b = false → Jx w') ∧ But m X Y w1 w')
    (KH : ∀ (r : List Nm) (w1 : World), J ([] :: r) w1 → Calls Tryz.prog 90 #[.pointer (some ⟨X0, 0, none⟩)] w1 fun e w' => ∃ b, e = .returned (.bool b) ∧ (b = true → J r w') ∧ (b = false → Jx w') ∧ But m X Y w1 w')
    (a : Option Addr) (n c : Nat) (P : List Nm) (l r : Bool) (w : World) (hS : ∀ w', But m X Y w w' → Ss w' a n c P) (hp : ∀ p ∈ P, p ≠ []) (hn : n ≤ 1000000) (hm : m ≤ w.heap.size) (hX : X < w.heap.size) (hY : Y < w.heap.size)
    (hJ : ∀ w', Below w.heap.size w w' → J (alI l P r) w') :
    Calls Tryz.prog 66 #[.agg #[.slice a n c, .bool l, .bool r], .func (.func 89) #[] #[], .func (.func 90) #[] #[.pointer (some ⟨X0, 0, none⟩)]] w fun e w' => ∃ b, e = .returned (.bool b) ∧ (b = true → J [] w') ∧ (b = false → Jx w') ∧ But m X Y w w' := by
  obtain ⟨B, hB⟩ : ∃ B, B = w.heap.size := ⟨_, rfl⟩
  obtain ⟨w1, hw1⟩ : ∃ w1, w1 = w.alloc (.cells #[.slice a n c, .bool l, .bool r] 77) := ⟨_, rfl⟩
  have HB1 : Hid (But m X Y w w1) := Lib.hid (by rw [hw1]; exact But.of (below_alloc w _) hm)
  have HS1 : Hid (w1.heap[B]? = some (.cells #[.slice a n c, .bool l, .bool r] 77 (0, 0))) := Lib.hid (by rw [hw1, hB]; exact heap_alloc_new w _)
  have HJ1 : Hid (J (remI l P r 0) w1) := Lib.hid (hJ _ (by rw [hw1]; exact below_alloc w _))
  have HNE : Hid (B ≠ X ∧ B ≠ Y) := Lib.hid ⟨by omega, by omega⟩
  have HP := Lib.hid hp
  have HSS := Lib.hid hS
  have HL : Hid (P.length = n) := Lib.hid (Ss.len (hS w (But.refl _ _ _ _)))
  have HKP := Lib.hid KP
  have HKH := Lib.hid KH
  obtain ⟨⟨y0, y1, y2⟩, _⟩ := three HS1.out
  clear KP KH hp hS hJ hm hX hY
  go_enter Tryz.func66, Tryz.ntmps66
  go_upto_region 1 with fail
  rw [← hw1, ← hB]
  clear hw1 hB
  go_wp2
  go_loopw [12] (fun u wr => ∃ k : Nat, u = .int .i64 k ∧ k ≤ n ∧ Hid (J (remI l P r k) wr) ∧ Hid (But m X Y w1 wr)) (fun u _ => n - (intOf u).toNat)
  case atStart => exact ⟨0, rfl, by omega, HJ1, Lib.hid (But.refl _ _ _ _)⟩
  case round =>
    obtain ⟨k, rfl, hk, HJ, HB⟩ := hrel
    clear y0 y1 y2
    obtain ⟨⟨y0, y1, y2⟩, _⟩ := three (HB.out.row HNE.out.1 HNE.out.2 HS1.out)
    have hss := HSS.out _ (HB1.out.trans HB.out)
    have hk0 : (0 : Int) ≤ (k : Int) := Int.natCast_nonneg _
    by_cases hlt : k < n
    · obtain ⟨b, o, rfl, _, hc⟩ := hss.at_ (by omega)
      clear hc
      have s0 := Ss.str hss hlt
      have hkb : k + 1 ≤ 1000000 := by omega
      obtain ⟨p, hp⟩ : ∃ p, p = pt P k := ⟨_, rfl⟩
      have HPN : Hid (p ≠ []) := Lib.hid (by rw [hp]; exact HP.out _ (pt_mem (by rw [HL.out]; exact hlt)))
      have HR1 : Hid ((decide (0 < k) || l) = true → remI l P r k = [] :: p :: remI l P r (k + 1)) := Lib.hid fun h => by rw [hp]; exact rem_hole (by rw [HL.out]; exact hlt) h
      have HR0 : Hid ((decide (0 < k) || l) = false → remI l P r k = p :: remI l P r (k + 1)) := Lib.hid fun h => by rw [hp]; exact rem_part (by rw [HL.out]; exact hlt) h
      rw [← hp] at s0
      clear hp hss
      have HPART : Hid (∀ w2, But m X Y wr w2 → J (p :: remI l P r (k + 1)) w2 → Calls Tryz.prog 89 #[.string (mk p)] w2 fun e w' => ∃ b, e = .returned (.bool b) ∧ (b = true → J (remI l P r (k + 1)) w') ∧ (b = false → Jx w') ∧ But m X Y w1 w') := Lib.hid fun w2 hb hj =>
        (HKP.out p _ w2 HPN.out hj).mono fun e w' ⟨b, he, h1, h2, h3⟩ => ⟨b, he, h1, h2, HB.out.trans (hb.trans h3)⟩
      by_cases hh : k = 0 ∧ l = false
      · obtain ⟨rfl, rfl⟩ := hh
        rw [Nat.add_zero] at s0
        have hj := HJ.out
        rw [HR0.out rfl] at hj
        have HJ' := Lib.hid hj
        clear hj
        go_wp2_with fail
        refine (HPART.out wr (But.refl _ _ _ _) HJ'.out).mono ?_
        rintro e w3 ⟨b3, rfl, hb1, hb0, hbut⟩
        cases b3 with
        | false =>
          have HF := Lib.hid (And.intro (hb0 rfl) hbut)
          clear hb0 hb1 hbut y0 y1 y2
          go_wp2
          go_ret
          exact ⟨false, rfl, (fun h => by cases h), fun _ => HF.out.1, HB1.out.trans HF.out.2⟩
        | true =>
          have HF := Lib.hid (And.intro (hb1 rfl) hbut)
          clear hb0 hb1 hbut y0 y1 y2
          go_wp2
          go_roundw
          case rel => exact ⟨1, by go_num, by omega, Lib.hid HF.out.1, Lib.hid HF.out.2⟩
          case measure => simp [intOf]; omega
      · have hd : (decide (0 < k) || l) = true := by
          cases l with
          | true => simp
          | false =>
            have : 0 < k := by
              rcases Nat.eq_zero_or_pos k with h | h
              · exact absurd ⟨h, rfl⟩ hh
              · exact h
            simp [this]
        have hj := HJ.out
        rw [HR1.out hd] at hj
        have KH1 : Hid (Calls Tryz.prog 90 #[.pointer (some ⟨X0, 0, none⟩)] wr fun e w' => ∃ b, e = .returned (.bool b) ∧ (b = true → J (p :: remI l P r (k + 1)) w') ∧ (b = false → Jx w') ∧ But m X Y wr w') := Lib.hid (HKH.out _ wr hj)
        clear hj hd
        by_cases hkp : (0 : Int) < (k : Int)
        · clear hh
          go_wp2_with fail
          refine KH1.out.mono ?_
          rintro e w2 ⟨b2, rfl, hb1, hb0, hbut⟩
          cases b2 with
          | false =>
            have HF := Lib.hid (And.intro (hb0 rfl) hbut)
            clear hb0 hb1 hbut y0 y1 y2
            go_wp2
            go_ret
            exact ⟨false, rfl, (fun h => by cases h), fun _ => HF.out.1, HB1.out.trans (HB.out.trans HF.out.2)⟩
          | true =>
            have HF := Lib.hid (And.intro (hb1 rfl) hbut)
            clear hb0 hb1 hbut y0 y1 y2
            go_wp2_with fail
            refine (HPART.out w2 HF.out.2 HF.out.1).mono ?_
            rintro e w3 ⟨b3, rfl, hb1, hb0, hbut⟩
            cases b3 with
            | false =>
              have HG := Lib.hid (And.intro (hb0 rfl) hbut)
              clear hb0 hb1 hbut
              go_wp2
              go_ret
              exact ⟨false, rfl, (fun h => by cases h), fun _ => HG.out.1, HB1.out.trans HG.out.2⟩
            | true =>
              have HG := Lib.hid (And.intro (hb1 rfl) hbut)
              clear hb0 hb1 hbut
              go_wp2
              go_roundw
              case rel => exact ⟨k + 1, by go_num, by omega, Lib.hid HG.out.1, Lib.hid HG.out.2⟩
              case measure => simp [intOf]; omega
        · obtain rfl : k = 0 := by omega
          have hl : l = true := by
            cases l with
            | true => rfl
            | false => exact absurd ⟨rfl, rfl⟩ hh
          subst hl
          rw [Nat.add_zero] at s0
          clear hh
          go_wp2_with fail
          refine KH1.out.mono ?_
          rintro e w2 ⟨b2, rfl, hb1, hb0, hbut⟩
          cases b2 with
          | false =>
            have HF := Lib.hid (And.intro (hb0 rfl) hbut)
            clear hb0 hb1 hbut y0 y1 y2
            go_wp2
            go_ret
            exact ⟨false, rfl, (fun h => by cases h), fun _ => HF.out.1, HB1.out.trans (HB.out.trans HF.out.2)⟩
          | true =>
            have HF := Lib.hid (And.intro (hb1 rfl) hbut)
            clear hb0 hb1 hbut y0 y1 y2
            go_wp2_with fail
            refine (HPART.out w2 HF.out.2 HF.out.1).mono ?_
            rintro e w3 ⟨b3, rfl, hb1, hb0, hbut⟩
            cases b3 with
            | false =>
              have HG := Lib.hid (And.intro (hb0 rfl) hbut)
              clear hb0 hb1 hbut
              go_wp2
              go_ret
              exact ⟨false, rfl, (fun h => by cases h), fun _ => HG.out.1, HB1.out.trans HG.out.2⟩
            | true =>
              have HG := Lib.hid (And.intro (hb1 rfl) hbut)
              clear hb0 hb1 hbut
              go_wp2
              go_roundw
              case rel => exact ⟨1, by go_num, by omega, Lib.hid HG.out.1, Lib.hid HG.out.2⟩
              case measure => simp [intOf]; omega
    · obtain rfl : k = n := by omega
      have HE : Hid (remI l P r k = if r then [[]] else []) := Lib.hid (rem_end (by rw [HL.out]; exact Nat.le_refl _))
      clear hss
      cases r with
      | false =>
        have hj := HJ.out
        rw [HE.out] at hj
        have HJ' := Lib.hid hj
        clear hj
        go_wp2
        go_ret
        exact ⟨true, rfl, (fun _ => HJ'.out), (fun h => by cases h), HB1.out.trans HB.out⟩
      | true =>
        have hj := HJ.out
        rw [HE.out] at hj
        have KH1 : Hid (Calls Tryz.prog 90 #[.pointer (some ⟨X0, 0, none⟩)] wr fun e w' => ∃ b, e = .returned (.bool b) ∧ (b = true → J [] w') ∧ (b = false → Jx w') ∧ But m X Y wr w') := Lib.hid (HKH.out _ wr hj)
        clear hj
        go_wp2_with fail
        refine KH1.out.mono ?_
        rintro e w2 ⟨b2, rfl, hb1, hb0, hbut⟩
        cases b2 with
        | false =>
          have HF := Lib.hid (And.intro (hb0 rfl) hbut)
          clear hb0 hb1 hbut y0 y1 y2
          go_wp2
          go_ret
          exact ⟨false, rfl, (fun h => by cases h), fun _ => HF.out.1, HB1.out.trans (HB.out.trans HF.out.2)⟩
        | true =>
          have HF := Lib.hid (And.intro (hb1 rfl) hbut)
          clear hb0 hb1 hbut y0 y1 y2
          go_wp2
          go_ret
          exact ⟨true, rfl, (fun _ => HF.out.1), (fun h => by cases h), HB1.out.trans (HB.out.trans HF.out.2)⟩

set_option maxRecDepth 20000 in
set_option maxHeartbeats 8000000 in
theorem alongO_any (ba bn bl bk : Nat) (m X Y : Nat) (J : List Nm → World → Prop) (Jx : World → Prop)
    (KP : ∀ (x : Nm) (r : List Nm) (w1 : World), x ≠ [] → J (x :: r) w1 → Calls Tryz.prog 63 #[.string (mk x), .pointer (some ⟨ba, 0, none⟩), .pointer (some ⟨bn, 0, none⟩), .pointer (some ⟨bl, 0, none⟩)] w1 fun e w' => ∃ b, e = .returned (.bool b) ∧ (b = true → J r w') ∧ (b = false → Jx w') ∧ But m X Y w1 w')
    (KH : ∀ (r : List Nm) (w1 : World), J ([] :: r) w1 → Calls Tryz.prog 65 #[.pointer (some ⟨bk, 0, none⟩), .pointer (some ⟨ba, 0, none⟩)] w1 fun e w' => ∃ b, e = .returned (.bool b) ∧ (b = true → J r w') ∧ (b = false → Jx w') ∧ But m X Y w1 w')
    (a : Option Addr) (n c : Nat) (P : List Nm) (l r : Bool) (w : World) (hS : ∀ w', But m X Y w w' → Ss w' a n c P) (hp : ∀ p ∈ P, p ≠ []) (hn : n ≤ 1000000) (hm : m ≤ w.heap.size) (hX : X < w.heap.size) (hY : Y < w.heap.size)
    (hJ : ∀ w', Below w.heap.size w w' → J (alI l P r) w') :
    Calls Tryz.prog 66 #[.agg #[.slice a n c, .bool l, .bool r], .func (.func 63) #[] #[.pointer (some ⟨ba, 0, none⟩), .pointer (some ⟨bn, 0, none⟩), .pointer (some ⟨bl, 0, none⟩)], .func (.func 65) #[] #[.pointer (some ⟨bk, 0, none⟩), .pointer (some ⟨ba, 0, none⟩)]] w fun e w' => ∃ b, e = .returned (.bool b) ∧ (b = true → J [] w') ∧ (b = false → Jx w') ∧ But m X Y w w' := by
  obtain ⟨B, hB⟩ : ∃ B, B = w.heap.size := ⟨_, rfl⟩
  obtain ⟨w1, hw1⟩ : ∃ w1, w1 = w.alloc (.cells #[.slice a n c, .bool l, .bool r] 77) := ⟨_, rfl⟩
  have HB1 : Hid (But m X Y w w1) := Lib.hid (by rw [hw1]; exact But.of (below_alloc w _) hm)
  have HS1 : Hid (w1.heap[B]? = some (.cells #[.slice a n c, .bool l, .bool r] 77 (0, 0))) := Lib.hid (by rw [hw1, hB]; exact heap_alloc_new w _)
  have HJ1 : Hid (J (remI l P r 0) w1) := Lib.hid (hJ _ (by rw [hw1]; exact below_alloc w _))
  have HNE : Hid (B ≠ X ∧ B ≠ Y) := Lib.hid ⟨by omega, by omega⟩
  have HP := Lib.hid hp
  have HSS := Lib.hid hS
  have HL : Hid (P.length = n) := Lib.hid (Ss.len (hS w (But.refl _ _ _ _)))
  have HKP := Lib.hid KP
  have HKH := Lib.hid KH
  obtain ⟨⟨y0, y1, y2⟩, _⟩ := three HS1.out
  clear KP KH hp hS hJ hm hX hY
  go_enter Tryz.func66, Tryz.ntmps66
  go_upto_region 1 with fail
  rw [← hw1, ← hB]
  clear hw1 hB
  go_wp2
  go_loopw [12] (fun u wr => ∃ k : Nat, u = .int .i64 k ∧ k ≤ n ∧ Hid (J (remI l P r k) wr) ∧ Hid (But m X Y w1 wr)) (fun u _ => n - (intOf u).toNat)
  case atStart => exact ⟨0, rfl, by omega, HJ1, Lib.hid (But.refl _ _ _ _)⟩
  case round =>
    obtain ⟨k, rfl, hk, HJ, HB⟩ := hrel
    clear y0 y1 y2
    obtain ⟨⟨y0, y1, y2⟩, _⟩ := three (HB.out.row HNE.out.1 HNE.out.2 HS1.out)
    have hss := HSS.out _ (HB1.out.trans HB.out)
    have hk0 : (0 : Int) ≤ (k : Int) := Int.natCast_nonneg _
    by_cases hlt : k < n
    · obtain ⟨b, o, rfl, _, hc⟩ := hss.at_ (by omega)
      clear hc
      have s0 := Ss.str hss hlt
      have hkb : k + 1 ≤ 1000000 := by omega
      obtain ⟨p, hp⟩ : ∃ p, p = pt P k := ⟨_, rfl⟩
      have HPN : Hid (p ≠ []) := Lib.hid (by rw [hp]; exact HP.out _ (pt_mem (by rw [HL.out]; exact hlt)))
      have HR1 : Hid ((decide (0 < k) || l) = true → remI l P r k = [] :: p :: remI l P r (k + 1)) := Lib.hid fun h => by rw [hp]; exact rem_hole (by rw [HL.out]; exact hlt) h
      have HR0 : Hid ((decide (0 < k) || l) = false → remI l P r k = p :: remI l P r (k + 1)) := Lib.hid fun h => by rw [hp]; exact rem_part (by rw [HL.out]; exact hlt) h
      rw [← hp] at s0
      clear hp hss
      have HPART : Hid (∀ w2, But m X Y wr w2 → J (p :: remI l P r (k + 1)) w2 → Calls Tryz.prog 63 #[.string (mk p), .pointer (some ⟨ba, 0, none⟩), .pointer (some ⟨bn, 0, none⟩), .pointer (some ⟨bl, 0, none⟩)] w2 fun e w' => ∃ b, e = .returned (.bool b) ∧ (b = true → J (remI l P r (k + 1)) w') ∧ (b = false → Jx w') ∧ But m X Y w1 w') := Lib.hid fun w2 hb hj =>
        (HKP.out p _ w2 HPN.out hj).mono fun e w' ⟨b, he, h1, h2, h3⟩ => ⟨b, he, h1, h2, HB.out.trans (hb.trans h3)⟩
      by_cases hh : k = 0 ∧ l = false
      · obtain ⟨rfl, rfl⟩ := hh
        rw [Nat.add_zero] at s0
        have hj := HJ.out
        rw [HR0.out rfl] at hj
        have HJ' := Lib.hid hj
        clear hj
        go_wp2_with fail
        refine (HPART.out wr (But.refl _ _ _ _) HJ'.out).mono ?_
        rintro e w3 ⟨b3, rfl, hb1, hb0, hbut⟩
        cases b3 with
        | false =>
          have HF := Lib.hid (And.intro (hb0 rfl) hbut)
          clear hb0 hb1 hbut y0 y1 y2
          go_wp2
          go_ret
          exact ⟨false, rfl, (fun h => by cases h), fun _ => HF.out.1, HB1.out.trans HF.out.2⟩
        | true =>
          have HF := Lib.hid (And.intro (hb1 rfl) hbut)
          clear hb0 hb1 hbut y0 y1 y2
          go_wp2
          go_roundw
          case rel => exact ⟨1, by go_num, by omega, Lib.hid HF.out.1, Lib.hid HF.out.2⟩
          case measure => simp [intOf]; omega
      · have hd : (decide (0 < k) || l) = true := by
          cases l with
          | true => simp
          | false =>
            have : 0 < k := by
              rcases Nat.eq_zero_or_pos k with h | h
              · exact absurd ⟨h, rfl⟩ hh
              · exact h
            simp [this]
        have hj := HJ.out
        rw [HR1.out hd] at hj
        have KH1 : Hid (Calls Tryz.prog 65 #[.pointer (some ⟨bk, 0, none⟩), .pointer (some ⟨ba, 0, none⟩)] wr fun e w' => ∃ b, e = .returned (.bool b) ∧ (b = true → J (p :: remI l P r (k + 1)) w') ∧ (b = false → Jx w') ∧ But m X Y wr w') := Lib.hid (HKH.out _ wr hj)
        clear hj hd
        by_cases hkp : (0 : Int) < (k : Int)
        · clear hh
          go_wp2_with fail
          refine KH1.out.mono ?_
          rintro e w2 ⟨b2, rfl, hb1, hb0, hbut⟩
          cases b2 with
          | false =>
            have HF := Lib.hid (And.intro (hb0 rfl) hbut)
            clear hb0 hb1 hbut y0 y1 y2
            go_wp2
            go_ret
            exact ⟨false, rfl, (fun h => by cases h), fun _ => HF.out.1, HB1.out.trans (HB.out.trans HF.out.2)⟩
          | true =>
            have HF := Lib.hid (And.intro (hb1 rfl) hbut)
            clear hb0 hb1 hbut y0 y1 y2
            go_wp2_with fail
            refine (HPART.out w2 HF.out.2 HF.out.1).mono ?_
            rintro e w3 ⟨b3, rfl, hb1, hb0, hbut⟩
            cases b3 with
            | false =>
              have HG := Lib.hid (And.intro (hb0 rfl) hbut)
              clear hb0 hb1 hbut
              go_wp2
              go_ret
              exact ⟨false, rfl, (fun h => by cases h), fun _ => HG.out.1, HB1.out.trans HG.out.2⟩
            | true =>
              have HG := Lib.hid (And.intro (hb1 rfl) hbut)
              clear hb0 hb1 hbut
              go_wp2
              go_roundw
              case rel => exact ⟨k + 1, by go_num, by omega, Lib.hid HG.out.1, Lib.hid HG.out.2⟩
              case measure => simp [intOf]; omega
        · obtain rfl : k = 0 := by omega
          have hl : l = true := by
            cases l with
            | true => rfl
            | false => exact absurd ⟨rfl, rfl⟩ hh
          subst hl
          rw [Nat.add_zero] at s0
          clear hh
          go_wp2_with fail
          refine KH1.out.mono ?_
          rintro e w2 ⟨b2, rfl, hb1, hb0, hbut⟩
          cases b2 with
          | false =>
            have HF := Lib.hid (And.intro (hb0 rfl) hbut)
            clear hb0 hb1 hbut y0 y1 y2
            go_wp2
            go_ret
            exact ⟨false, rfl, (fun h => by cases h), fun _ => HF.out.1, HB1.out.trans (HB.out.trans HF.out.2)⟩
          | true =>
            have HF := Lib.hid (And.intro (hb1 rfl) hbut)
            clear hb0 hb1 hbut y0 y1 y2
            go_wp2_with fail
            refine (HPART.out w2 HF.out.2 HF.out.1).mono ?_
            rintro e w3 ⟨b3, rfl, hb1, hb0, hbut⟩
            cases b3 with
            | false =>
              have HG := Lib.hid (And.intro (hb0 rfl) hbut)
              clear hb0 hb1 hbut
              go_wp2
              go_ret
              exact ⟨false, rfl, (fun h => by cases h), fun _ => HG.out.1, HB1.out.trans HG.out.2⟩
            | true =>
              have HG := Lib.hid (And.intro (hb1 rfl) hbut)
              clear hb0 hb1 hbut
              go_wp2
              go_roundw
              case rel => exact ⟨1, by go_num, by omega, Lib.hid HG.out.1, Lib.hid HG.out.2⟩
              case measure => simp [intOf]; omega
    · obtain rfl : k = n := by omega
      have HE : Hid (remI l P r k = if r then [[]] else []) := Lib.hid (rem_end (by rw [HL.out]; exact Nat.le_refl _))
      clear hss
      cases r with
      | false =>
        have hj := HJ.out
        rw [HE.out] at hj
        have HJ' := Lib.hid hj
        clear hj
        go_wp2
        go_ret
        exact ⟨true, rfl, (fun _ => HJ'.out), (fun h => by cases h), HB1.out.trans HB.out⟩
      | true =>
        have hj := HJ.out
        rw [HE.out] at hj
        have KH1 : Hid (Calls Tryz.prog 65 #[.pointer (some ⟨bk, 0, none⟩), .pointer (some ⟨ba, 0, none⟩)] wr fun e w' => ∃ b, e = .returned (.bool b) ∧ (b = true → J [] w') ∧ (b = false → Jx w') ∧ But m X Y wr w') := Lib.hid (HKH.out _ wr hj)
        clear hj
        go_wp2_with fail
        refine KH1.out.mono ?_
        rintro e w2 ⟨b2, rfl, hb1, hb0, hbut⟩
        cases b2 with
        | false =>
          have HF := Lib.hid (And.intro (hb0 rfl) hbut)
          clear hb0 hb1 hbut y0 y1 y2
          go_wp2
          go_ret
          exact ⟨false, rfl, (fun h => by cases h), fun _ => HF.out.1, HB1.out.trans (HB.out.trans HF.out.2)⟩
        | true =>
          have HF := Lib.hid (And.intro (hb1 rfl) hbut)
          clear hb0 hb1 hbut y0 y1 y2
          go_wp2
          go_ret
          exact ⟨true, rfl, (fun _ => HF.out.1), (fun h => by cases h), HB1.out.trans (HB.out.trans HF.out.2)⟩

end Go.Proofs.YtkaeanaeklilfaaGreatDoor
