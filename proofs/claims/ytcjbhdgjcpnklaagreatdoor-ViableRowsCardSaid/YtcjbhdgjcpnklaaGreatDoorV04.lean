import Derived.Lib.Hide
import Derived.WalkMore
import Derived.Test.YtcjbhdgjcpnklaaGreatDoorV22
import Derived.Test.YtcjbhdgjcpnklaaGreatDoorV01
import Derived.Test.YtcjbhdgjcpnklaaGreatDoorV02
namespace Go.Proofs.YtcjbhdgjcpnklaaGreatDoor
section
structure QR where
 e : Int
 n : Nat
 t : List Int
def qE (r : List Int) : Int :=
 if r = [] then 12 else if bt r 0 = 39 then (if bt r 1 = 39 then -1 else 0)
 else if bt r 0 = 92 then (if bt r 1 = 110 ∨ bt r 1 = 92 ∨ bt r 1 = 39 then -1 else 13)
 else if bt r 0 = 10 then 12 else if bt r 0 < 32 ∨ bt r 0 = 127 then 11 else if okSeq r then -1 else 10
def qN (r : List Int) : Nat := if bt r 0 = 39 then 2 else if bt r 0 = 92 then 2 else takeN r
def qT (r : List Int) : List Int := if bt r 0 = 39 then [39] else if bt r 0 = 92 then [if bt r 1 = 110 then 10 else bt r 1] else r.take (takeN r)
theorem zPO {l : List Int} {j : Nat} (h : l.length ≤ j) : bt l j = 0 := by unfold bt; simp [List.getD, List.getElem?_eq_none h]
theorem zDo {l : List Int} {j : Nat} (h : bt l j ≠ 0) : j < l.length := by
 apply Decidable.byContradiction; intro hn; exact h (zPO (by omega))
theorem zLs (c : Int) (l : List Int) : bt (c :: l) 0 = c := rfl
theorem zPP : qE [] = 12 := rfl
theorem zNE {r : List Int} (h0 : bt r 0 = 39) (h1 : bt r 1 ≠ 39) : qE r = 0 := by
 have hr : r ≠ [] := by intro h; subst h; simp [bt] at h0
 unfold qE; rw [if_neg hr, if_pos h0, if_neg h1]
theorem zNF {r : List Int} (h0 : bt r 0 = 39) (h1 : bt r 1 = 39) : qE r = -1 ∧ qN r = 2 ∧ qT r = [39] := by
 have hr : r ≠ [] := by intro h; subst h; simp [bt] at h0
 unfold qE qN qT; rw [if_neg hr, if_pos h0, if_pos h1, if_pos h0, if_pos h0]; exact ⟨rfl, rfl, rfl⟩
theorem zNG {r : List Int} (h0 : bt r 0 = 92) (h1 : bt r 1 = 110 ∨ bt r 1 = 92 ∨ bt r 1 = 39) : qE r = -1 ∧ qN r = 2 ∧ qT r = [if bt r 1 = 110 then 10 else bt r 1] := by
 have hr : r ≠ [] := by intro h; subst h; simp [bt] at h0
 unfold qE qN qT; rw [if_neg hr, if_neg (by omega), if_pos h0, if_pos h1, if_neg (by omega), if_pos h0, if_neg (by omega), if_pos h0]; exact ⟨rfl, rfl, rfl⟩
theorem zHd {r : List Int} (h0 : bt r 0 = 92) (h1 : ¬ (bt r 1 = 110 ∨ bt r 1 = 92 ∨ bt r 1 = 39)) : qE r = 13 := by
 have hr : r ≠ [] := by intro h; subst h; simp [bt] at h0
 unfold qE; rw [if_neg hr, if_neg (by omega), if_pos h0, if_neg h1]
theorem zJc {r : List Int} (h0 : bt r 0 = 10) : qE r = 12 := by
 have hr : r ≠ [] := by intro h; subst h; simp [bt] at h0
 unfold qE; rw [if_neg hr, if_neg (by omega), if_neg (by omega), if_pos h0]
theorem zFC {r : List Int} (hr : r ≠ []) (h0 : bt r 0 ≠ 10) (h1 : bt r 0 < 32 ∨ bt r 0 = 127) : qE r = 11 := by
 unfold qE; rw [if_neg hr, if_neg (by omega), if_neg (by omega), if_neg h0, if_pos h1]
theorem zNH {r : List Int} (h0 : 32 ≤ bt r 0) (h1 : bt r 0 ≠ 39) (h2 : bt r 0 ≠ 92) (h3 : bt r 0 ≠ 127) (h : okSeq r = false) : qE r = 10 := by
 have hr : r ≠ [] := by intro h; subst h; simp [bt] at h0
 unfold qE; rw [if_neg hr, if_neg h1, if_neg h2, if_neg (by omega), if_neg (by omega), if_neg (by rw [h]; decide)]
theorem zNI {r : List Int} (h0 : 32 ≤ bt r 0) (h1 : bt r 0 ≠ 39) (h2 : bt r 0 ≠ 92) (h3 : bt r 0 ≠ 127) (h : okSeq r = true) : qE r = -1 ∧ qN r = takeN r ∧ qT r = r.take (takeN r) := by
 have hr : r ≠ [] := by intro h; subst h; simp [bt] at h0
 unfold qE qN qT; rw [if_neg hr, if_neg h1, if_neg h2, if_neg (by omega), if_neg (by omega), if_pos h, if_neg h1, if_neg h2, if_neg h1, if_neg h2]; exact ⟨rfl, rfl, rfl⟩
theorem zNJ {r : List Int} (h : qE r = -1) : 0 < qN r := by
 have hr : r ≠ [] := by intro hr; subst hr; simp [qE] at h
 unfold qN
 by_cases h1 : bt r 0 = 39
 ·rw [if_pos h1]; omega
 ·rw [if_neg h1]
  by_cases h2 : bt r 0 = 92
  ·rw [if_pos h2]; omega
  ·rw [if_neg h2]; exact zAy hr
theorem zPQ {r : List Int} (h : qE r = -1) : qN r ≤ r.length := by
 have hr : r ≠ [] := by intro hr; subst hr; simp [qE] at h
 unfold qE at h
 unfold qN
 rw [if_neg hr] at h
 by_cases h1 : bt r 0 = 39
 ·rw [if_pos h1] at h ⊢
  by_cases h2 : bt r 1 = 39
  ·exact zDo (by omega)
  ·rw [if_neg h2] at h; omega
 ·rw [if_neg h1] at h ⊢
  by_cases h2 : bt r 0 = 92
  ·rw [if_pos h2] at h ⊢
   by_cases h3 : bt r 1 = 110 ∨ bt r 1 = 92 ∨ bt r 1 = 39
   ·exact zDo (by omega)
   ·rw [if_neg h3] at h; omega
  ·rw [if_neg h2]; exact zCK r
def qs (r : List Int) : QR :=
 if _h : qE r = -1 then ⟨(qs (r.drop (qN r))).e, qN r + (qs (r.drop (qN r))).n, qT r ++ (qs (r.drop (qN r))).t⟩
 else if qE r = 0 then ⟨0, 1, []⟩ else ⟨qE r, 0, []⟩
termination_by r.length
decreasing_by all_goals (have := zNJ _h; have := zPQ _h; simp; omega)
theorem zPR {r : List Int} (h : qE r = -1) : qs r = ⟨(qs (r.drop (qN r))).e, qN r + (qs (r.drop (qN r))).n, qT r ++ (qs (r.drop (qN r))).t⟩ := by
 rw [qs]; simp [h]
theorem zPS {r : List Int} (h : qE r = 0) : qs r = ⟨0, 1, []⟩ := by rw [qs]; simp [h]
theorem zNK {r : List Int} {e : Int} (h : qE r = e) (h1 : e ≠ -1) (h0 : e ≠ 0) : qs r = ⟨e, 0, []⟩ := by rw [qs]; simp [h, h1, h0]
def tk (l : List Int) : QR := if bt l 0 = 39 then ⟨(qs (l.drop 1)).e, 1 + (qs (l.drop 1)).n, if (qs (l.drop 1)).e = 0 then (qs (l.drop 1)).t else []⟩ else ⟨2, 0, []⟩
theorem zJd {l : List Int} (h : bt l 0 ≠ 39) : tk l = ⟨2, 0, []⟩ := by unfold tk; rw [if_neg h]
def At (l : List Int) (s : Nat) (t : List Int) : Prop := tk l = ⟨(qs (l.drop s)).e, s + (qs (l.drop s)).n, if (qs (l.drop s)).e = 0 then t ++ (qs (l.drop s)).t else []⟩
theorem At.start {l : List Int} (h : bt l 0 = 39) : At l 1 [] := by unfold At tk; rw [if_pos h]; simp
theorem At.go {l t : List Int} {s : Nat} (h : At l s t) (hq : qE (l.drop s) = -1) : At l (s + qN (l.drop s)) (t ++ qT (l.drop s)) := by
 unfold At at *; rw [h, zPR hq, List.drop_drop, List.append_assoc, Nat.add_assoc]
theorem At.ok {l t : List Int} {s : Nat} (h : At l s t) (hq : qE (l.drop s) = 0) : tk l = ⟨0, s + 1, t⟩ := by
 unfold At at *; rw [h, zPS hq]; simp
theorem At.err {l t : List Int} {s : Nat} {e : Int} (h : At l s t) (hq : qE (l.drop s) = e) (h1 : e ≠ -1) (h0 : e ≠ 0) : tk l = ⟨e, s, []⟩ := by
 unfold At at *; rw [h, zNK hq h1 h0]; simp [h0]
def good (c : Int) : Prop := (32 ≤ c ∨ c = 10) ∧ c ≠ 127
instance (c : Int) : Decidable (good c) := by unfold good; infer_instance
theorem zJe {l : List Int} (h : l ≠ []) (h0 : bt l 0 ≤ 127) : okSeq l = true ∧ takeN l = 1 := by
 have hl : lenOf (bt l 0) = 1 := by unfold lenOf; rw [if_pos h0]
 have hp : 1 ≤ l.length := by cases l with | nil => contradiction | cons => simp
 have ho : okSeq l = true := (zAp l).2 ⟨h, by omega, by omega, fun j hj => by omega⟩
 exact ⟨ho, by unfold takeN; rw [if_neg h, if_pos ho, hl]⟩
theorem zLt {l : List Int} (h : okSeq l = true) : takeN l = lenOf (bt l 0) := by
 unfold takeN; rw [if_neg ((zAp l).1 h).1, if_pos h]
theorem QR.ext' {a b : QR} (h1 : a.e = b.e) (h2 : a.n = b.n) (h3 : a.t = b.t) : a = b := by cases a; cases b; simp_all
end
section
open Go.RowKit
end
section
open Go.RowKit
theorem zJf {c : Int} (h0 : 0 ≤ c) (h1 : c ≤ 255) : cls c = 7 ↔ c = 39 := by
 obtain ⟨n, rfl⟩ := Int.eq_ofNat_of_zero_le h0
 have := (by decide +kernel : ∀ n : Nat, n < 256 → (cls (n : Int) = 7 ↔ (n : Int) = 39)) n (by omega)
 exact this
set_option maxHeartbeats 400000 in
theorem zAP (a : Option Addr) (len cap : Nat) (l : List Int) (w : World) (h : Bs w a len cap l) (ht : Tab w) :
  Calls Tryz.prog 188 #[.slice a len cap] w fun e w' => e = .returned (.bool (decide (bt l 0 = 39))) ∧ Below w.heap.size w w' := by
 have hm := h.lt
 unfold maxLen at hm
 by_cases h0 : len = 0
 ·subst h0
  have hl : l = [] := List.eq_nil_of_length_eq_zero h.hl
  subst hl
  clear h ht
  go_enter Tryz.func188, Tryz.ntmps188
  go_wp2
  go_ret
  exact ⟨rfl, Below.refl _ _⟩
 ·obtain ⟨b, off, rfl, hbl, hc⟩ := h.at_ (by omega)
  have hpos : 0 < len := by omega
  have hc0 : w.cell? ⟨b, off, none⟩ = some (.int .u8 (bt l 0)) := hc 0 (by omega)
  have hr := zAI h.rng 0
  have hq := zJf hr.1 hr.2
  have HQ : Hid ((cls (bt l 0) == 7) = decide (bt l 0 = 39)) := hid (by
   by_cases h39 : bt l 0 = 39
   ·rw [hq.2 h39, h39]; rfl
   ·have : cls (bt l 0) ≠ 7 := fun hh => h39 (hq.1 hh)
    simp [this, h39])
  have HR := hid hr
  have HT := hid ht
  clear h hc hq hr ht h0
  go_enter Tryz.func188, Tryz.ntmps188
  go_wp2_with (first | (go_at_call 138; refine (zDM _ _ HT.out HR.out.1 HR.out.2).mono ?_; rintro e w' ⟨rfl, hb⟩; have HB := hid hb; clear hb))
  go_ret
  exact ⟨by rw [← HQ.out]; rfl, HB.out⟩
def escV (l : List Int) : Value := if bt l 0 = 110 then .tuple #[.int .u8 10, .bool true] else if bt l 0 = 92 ∨ bt l 0 = 39 then .tuple #[.int .u8 (bt l 0), .bool true] else .tuple #[.int .u8 0, .bool false]
set_option maxHeartbeats 400000 in
theorem zCY (a : Option Addr) (len cap : Nat) (l : List Int) (w : World) (h : Bs w a len cap l) :
  Calls Tryz.prog 189 #[.slice a len cap] w fun e w' => e = .returned (escV l) ∧ w = w' := by
 have hm := h.lt
 unfold maxLen at hm
 by_cases h0 : len = 0
 ·subst h0
  have hl : l = [] := List.eq_nil_of_length_eq_zero h.hl
  subst hl
  clear h
  go_enter Tryz.func189, Tryz.ntmps189
  go_wp2
  go_ret2
  exact ⟨rfl, rfl⟩
 ·obtain ⟨b, off, rfl, hbl, hc⟩ := h.at_ (by omega)
  have hpos : 0 < len := by omega
  have hz : ((len : Int) == 0) = false := by simp; omega
  have hc0 : w.cell? ⟨b, off, none⟩ = some (.int .u8 (bt l 0)) := hc 0 (by omega)
  clear h hc h0
  by_cases h1 : bt l 0 = 110
  ·have HV : Hid (escV l = .tuple #[.int .u8 10, .bool true]) := hid (by unfold escV; rw [if_pos h1])
   go_enter Tryz.func189, Tryz.ntmps189
   go_wp2
   go_ret2
   exact ⟨by rw [HV.out]; rfl, rfl⟩
  ·have e1 : (bt l 0 == 110) = false := by simpa using h1
   by_cases h2 : bt l 0 = 92
   ·have HV : Hid (escV l = .tuple #[.int .u8 (bt l 0), .bool true]) := hid (by unfold escV; rw [if_neg h1, if_pos (Or.inl h2)])
    have e2 : (bt l 0 == 92) = true := by simpa using h2
    clear h1 h2
    go_enter Tryz.func189, Tryz.ntmps189
    go_wp2
    go_ret2
    exact ⟨by rw [HV.out]; rfl, rfl⟩
   ·have e2 : (bt l 0 == 92) = false := by simpa using h2
    by_cases h3 : bt l 0 = 39
    ·have HV : Hid (escV l = .tuple #[.int .u8 (bt l 0), .bool true]) := hid (by unfold escV; rw [if_neg h1, if_pos (Or.inr h3)])
     have e3 : (bt l 0 == 39) = true := by simpa using h3
     clear h1 h2 h3
     go_enter Tryz.func189, Tryz.ntmps189
     go_wp2
     go_ret2
     exact ⟨by rw [HV.out]; rfl, rfl⟩
    ·have HV : Hid (escV l = .tuple #[.int .u8 0, .bool false]) := hid (by unfold escV; rw [if_neg h1, if_neg (by omega)])
     have e3 : (bt l 0 == 39) = false := by simpa using h3
     clear h1 h2 h3
     go_enter Tryz.func189, Tryz.ntmps189
     go_wp2
     go_ret2
     exact ⟨by rw [HV.out]; rfl, rfl⟩
end
section
open Go.RowKit
theorem Bs.cell {w : World} {b off len cap : Nat} {l : List Int} (h : Bs w (some ⟨b, off, none⟩) len cap l) {s : Nat} (hs : s < len) : w.cell? ⟨b, off + s, none⟩ = some (.int .u8 (bt l s)) := by
 obtain ⟨b', off', hab, _, hc⟩ := h.at_ (by omega)
 simp only [Option.some.injEq, Addr.mk.injEq] at hab
 obtain ⟨rfl, rfl, _⟩ := hab
 exact hc s hs
set_option maxRecDepth 20000 in
set_option maxHeartbeats 2000000 in
theorem zF0 (a : Option Addr) (len cap : Nat) (l : List Int) (w : World) (h : Bs w a len cap l) (ht : Tab w) (hsz : len ≤ 1000000) :
  Calls Tryz.prog 182 #[.slice a len cap] w fun e w' => ∃ a' c', e = .returned (.tuple #[.slice a' (tk l).t.length c', .int .i64 (tk l).n, .int .i64 (tk l).e]) ∧ OwnB w.heap.size 5 w' a' (tk l).t.length c' (tk l).t ∧ Below w.heap.size w w' := by
 have hlc := h.lc
 have hcm := h.cm
 unfold maxLen at hcm
 have H := hid h
 have HT := hid ht
 by_cases h39 : bt l 0 = 39
 ·obtain ⟨b, off, rfl, hbl, hc⟩ := h.at_ (by have := zDo (l := l) (j := 0) (by omega); have := h.hl; omega)
  have hl1 : 1 ≤ len := by have := zDo (l := l) (j := 0) (by omega); have := h.hl; omega
  have HR := hid h.rng
  have HL := hid h.hl
  have HD : Hid (decide (bt l 0 = 39) = true) := hid (by simp [h39])
  have HA := hid (At.start h39)
  clear h ht hc h39 hbl
  go_enter Tryz.func182, Tryz.ntmps182
  go_wp2
  go_step3
  go_wp2_with fail
  refine (zAP _ _ _ _ _ H.out HT.out).mono ?_
  rintro e w1 ⟨rfl, hb1⟩
  have HB1 := hid hb1
  clear hb1
  rw [HD.out]
  go_wp2
  go_step3
  go_wp2
  go_loopw [2, 3] (fun v n wr => ∃ a1 c1, ∃ s k : Nat, ∃ t : List Int, v = .slice a1 k c1 ∧ n = .int .i64 s ∧ 1 ≤ s ∧ s ≤ len ∧ k ≤ s ∧ Hid (OwnB w.heap.size 5 wr a1 k c1 t) ∧ Hid (Below w.heap.size w wr) ∧ Hid (At l s t)) (fun _ n _ => len - (intOf n).toNat)
  case atStart => exact ⟨none, 0, 1, 0, [], rfl, rfl, by omega, by omega, by simp, hid OwnB.none0, HB1, HA⟩
  case round =>
   obtain ⟨a1, c1, s, k, t, rfl, rfl, hs1, hsl, hts, HO, HB, HS⟩ := hrel
   clear HB1 HA
   rename World => wa
   by_cases hlt : s < len
   ·have hwa := H.out.below HB.out
    have hcs := hwa.cell hlt
    have HRS := hid (hwa.drop (k := s) (by omega))
    have hrng := zAI HR.out s
    have hr0 := hrng.1
    have hr1 := hrng.2
    clear hwa hrng
    by_cases hq : bt l s = 39
    ·have HQ1 : Hid (decide (bt (l.drop s) 0 = 39) = true) := hid (by rw [zAB]; simp [hq])
     by_cases hq2 : bt l (s + 1) = 39
     ·have hQ := zNF (r := l.drop s) (by rw [zAB]; exact hq) (by rw [zAB]; exact hq2)
      have HQ2 : Hid (decide (bt ((l.drop s).drop 1) 0 = 39) = true) := hid (by rw [zAB, zAB]; simp [hq2])
      have h2 : s + 2 ≤ len := by have := zDo (l := l) (j := s + 1) (by omega); have := HL.out; omega
      have HG : Hid (At l (s + 2) (t ++ [39])) := hid (by have := HS.out.go hQ.1; rwa [hQ.2.1, hQ.2.2] at this)
      have HRS1 := hid (HRS.out.drop (k := 1) (by omega))
      clear hQ
      go_wp2_with fail
      refine (zAP _ _ _ _ _ HRS.out (HT.out.keep HB.out)).mono ?_
      rintro e w2 ⟨rfl, hb2⟩
      have HB2 : Hid (Below w.heap.size w w2) := hid (HB.out.trans (hb2.mono HB.out.size))
      have HO2 := hid (HO.out.keep hb2 (Nat.le_refl _))
      have HR2 := hid (HRS1.out.below hb2)
      clear hb2
      rw [HQ1.out]
      go_wp2_with fail
      refine (zAP _ _ _ _ _ HR2.out (HT.out.keep HB2.out)).mono ?_
      rintro e w3 ⟨rfl, hb3⟩
      have HB3 : Hid (Below w.heap.size w w3) := hid (HB2.out.trans (hb3.mono HB2.out.size))
      have HO3 := hid (HO2.out.keep hb3 (Nat.le_refl _))
      clear hb3
      rw [HQ2.out]
      go_wp2_with (at_builtin; refine Hid.out ?_)
      refine hid ?_
      refine zAv rfl (.tmp 50) (.tmp 51) 59 rfl 5 w.heap.size Tryz.underlying59 info5 _ _ _ t rfl (HO3.out.alloc _) _ _ _ [39] rfl (Bs.lit _ 5 (by simp) (by simp) rfl rfl (by decide)) (by omega) (by have := HB3.out.size; simp; omega) ?_
      intro a2 c2 w4 ho4 hb4
      have HO4 := hid ho4
      have HB4 := hid ((HB3.out.alloc HB3.out.size _).trans hb4)
      clear ho4 hb4
      go_wp2
      go_roundw
      case rel => exact ⟨_, _, s + 2, k + 1, _, rfl, by go_num, by omega, by omega, by omega, HO4, HB4, HG⟩
      case measure => simp [intOf]; omega
     ·have hQ := zNE (r := l.drop s) (by rw [zAB]; exact hq) (by rw [zAB]; exact hq2)
      have HQ2 : Hid (decide (bt ((l.drop s).drop 1) 0 = 39) = false) := hid (by rw [zAB, zAB]; simp [hq2])
      have HV : Hid (tk l = ⟨0, s + 1, t⟩) := hid (HS.out.ok hQ)
      have HRS1 := hid (HRS.out.drop (k := 1) (by omega))
      have HK := hid HO.out.bs.hl
      clear hQ
      have hcap : cap = s + 1 ∨ s + 2 ≤ cap := by omega
      rcases hcap with hcap | hcap
      ·have hlen : len = s + 1 := by omega
       have HRSx : Hid (Bs wa (some ⟨b, off + s, none⟩) 1 1 (l.drop s)) := hid (by have := HRS.out; rwa [show len - s = 1 by omega, show cap - s = 1 by omega] at this)
       go_wp2_with fail
       refine (zAP _ _ _ _ _ HRSx.out (HT.out.keep HB.out)).mono ?_
       rintro e w2 ⟨rfl, hb2⟩
       have HB2 : Hid (Below w.heap.size w w2) := hid (HB.out.trans (hb2.mono HB.out.size))
       have HO2 := hid (HO.out.keep hb2 (Nat.le_refl _))
       have HQ0 := hid hb2
       clear hb2
       rw [HQ1.out]
       go_wp2_with fail
       refine (zAP _ _ _ ((l.drop s).drop 1) _ ((HRSx.out.none_left _ _ (by decide)).below HQ0.out) (HT.out.keep HB2.out)).mono ?_
       rintro e w3 ⟨rfl, hb3⟩
       have HB3 : Hid (Below w.heap.size w w3) := hid (HB2.out.trans (hb3.mono HB2.out.size))
       have HO3 := hid (HO2.out.keep hb3 (Nat.le_refl _))
       clear hb3
       rw [HQ2.out]
       go_wp2
       rw [Exit.noGoto_ret]
       exact bodyPost_ret (v := .tuple #[.slice a1 k c1, .int .i64 (s + 1), .int .i64 0]) (by simp [results, Tryz.results182, go_sem]) rfl ⟨a1, c1, by rw [HV.out, HK.out]; rfl, by rw [HV.out, HK.out]; exact HO3.out, HB3.out⟩
      ·go_wp2_with fail
       refine (zAP _ _ _ _ _ HRS.out (HT.out.keep HB.out)).mono ?_
       rintro e w2 ⟨rfl, hb2⟩
       have HB2 : Hid (Below w.heap.size w w2) := hid (HB.out.trans (hb2.mono HB.out.size))
       have HO2 := hid (HO.out.keep hb2 (Nat.le_refl _))
       have HR2 := hid (HRS1.out.below hb2)
       clear hb2
       rw [HQ1.out]
       go_wp2_with fail
       refine (zAP _ _ _ _ _ HR2.out (HT.out.keep HB2.out)).mono ?_
       rintro e w3 ⟨rfl, hb3⟩
       have HB3 : Hid (Below w.heap.size w w3) := hid (HB2.out.trans (hb3.mono HB2.out.size))
       have HO3 := hid (HO2.out.keep hb3 (Nat.le_refl _))
       clear hb3
       rw [HQ2.out]
       go_wp2
       rw [Exit.noGoto_ret]
       exact bodyPost_ret (v := .tuple #[.slice a1 k c1, .int .i64 (s + 1), .int .i64 0]) (by simp [results, Tryz.results182, go_sem]) rfl ⟨a1, c1, by rw [HV.out, HK.out]; rfl, by rw [HV.out, HK.out]; exact HO3.out, HB3.out⟩
    ·have HQ1 : Hid (decide (bt (l.drop s) 0 = 39) = false) := hid (by rw [zAB]; simp [hq])
     have heqs : (bt l s == 39) = false := by simpa using hq
     have HRS1 := hid (HRS.out.drop (k := 1) (by omega))
     by_cases hq9 : bt l s = 92
     ·by_cases hq2 : bt l (s + 1) = 110 ∨ bt l (s + 1) = 92 ∨ bt l (s + 1) = 39
      ·have hQ := zNG (r := l.drop s) (by rw [zAB]; exact hq9) (by rw [zAB]; exact hq2)
       obtain ⟨m, hm⟩ : ∃ m, m = if bt (l.drop s) 1 = 110 then 10 else bt (l.drop s) 1 := ⟨_, rfl⟩
       have hm0 : 0 ≤ m ∧ m ≤ 255 := by
        rw [hm, zAB]
        by_cases h110 : bt l (s + 1) = 110
        ·rw [if_pos h110]; omega
        ·rw [if_neg h110]; exact zAI HR.out _
       have HQ2 : Hid (escV ((l.drop s).drop 1) = .tuple #[.int .u8 m, .bool true]) := hid (by
        have e : bt ((l.drop s).drop 1) 0 = bt l (s + 1) := by rw [zAB, zAB]
        unfold escV; rw [e, hm, zAB]
        by_cases h110 : bt l (s + 1) = 110
        ·rw [if_pos h110, if_pos h110]
        ·rw [if_neg h110, if_neg h110, if_pos (by omega)])
       have h2 : s + 2 ≤ len := by have := zDo (l := l) (j := s + 1) (by omega); have := HL.out; omega
       have HG : Hid (At l (s + 2) (t ++ [m])) := hid (by have := HS.out.go hQ.1; rw [hQ.2.1, hQ.2.2, ← hm] at this; exact this)
       clear hQ hm
       go_wp2_with fail
       refine (zAP _ _ _ _ _ HRS.out (HT.out.keep HB.out)).mono ?_
       rintro e w2 ⟨rfl, hb2⟩
       have HB2 : Hid (Below w.heap.size w w2) := hid (HB.out.trans (hb2.mono HB.out.size))
       have HO2 := hid (HO.out.keep hb2 (Nat.le_refl _))
       have HR2 := hid (HRS1.out.below hb2)
       clear hb2
       rw [HQ1.out]
       go_wp2_with fail
       refine (zCY _ _ _ _ _ HR2.out).mono ?_
       rintro e w' ⟨rfl, rfl⟩
       rw [HQ2.out]
       go_wp2_with (at_builtin; refine Hid.out ?_)
       refine hid ?_
       refine zAv rfl (.tmp 67) (.tmp 69) 59 rfl 5 w.heap.size Tryz.underlying59 info5 _ _ _ t rfl (HO2.out.alloc _) _ _ _ [m] rfl (Bs.lit _ 5 (by simp) (by simpa using hm0) rfl rfl (by decide)) (by omega) (by have := HB2.out.size; simp; omega) ?_
       intro a2 c2 w4 ho4 hb4
       have HO4 := hid ho4
       have HB4 := hid ((HB2.out.alloc HB2.out.size _).trans hb4)
       clear ho4 hb4
       go_wp2
       go_roundw
       case rel => exact ⟨_, _, s + 2, k + 1, _, rfl, by go_num, by omega, by omega, by omega, HO4, HB4, HG⟩
       case measure => simp [intOf]; omega
      ·have hQ := zHd (r := l.drop s) (by rw [zAB]; exact hq9) (by rw [zAB]; exact hq2)
       have HQ2 : Hid (escV ((l.drop s).drop 1) = .tuple #[.int .u8 0, .bool false]) := hid (by
        have e : bt ((l.drop s).drop 1) 0 = bt l (s + 1) := by rw [zAB, zAB]
        unfold escV; rw [e, if_neg (by omega), if_neg (by omega)])
       have HV : Hid (tk l = ⟨13, s, []⟩) := hid (HS.out.err hQ (by decide) (by decide))
       clear hQ hq2
       have hcap : cap = s + 1 ∨ s + 2 ≤ cap := by omega
       rcases hcap with hcap | hcap
       ·have hlen : len = s + 1 := by omega
        have HRSx : Hid (Bs wa (some ⟨b, off + s, none⟩) 1 1 (l.drop s)) := hid (by have := HRS.out; rwa [show len - s = 1 by omega, show cap - s = 1 by omega] at this)
        go_wp2_with fail
        refine (zAP _ _ _ _ _ HRSx.out (HT.out.keep HB.out)).mono ?_
        rintro e w2 ⟨rfl, hb2⟩
        have HB2 : Hid (Below w.heap.size w w2) := hid (HB.out.trans (hb2.mono HB.out.size))
        have HQ0 := hid hb2
        clear hb2
        rw [HQ1.out]
        go_wp2_with fail
        refine (zCY _ _ _ ((l.drop s).drop 1) _ ((HRSx.out.none_left _ _ (by decide)).below HQ0.out)).mono ?_
        rintro e w' ⟨rfl, rfl⟩
        rw [HQ2.out]
        go_wp2
        rw [Exit.noGoto_ret]
        exact bodyPost_ret (v := .tuple #[.slice none 0 0, .int .i64 s, .int .i64 13]) (by simp [results, Tryz.results182, go_sem]) rfl ⟨none, 0, by rw [HV.out]; rfl, by rw [HV.out]; exact OwnB.none0, HB2.out⟩
       ·go_wp2_with fail
        refine (zAP _ _ _ _ _ HRS.out (HT.out.keep HB.out)).mono ?_
        rintro e w2 ⟨rfl, hb2⟩
        have HB2 : Hid (Below w.heap.size w w2) := hid (HB.out.trans (hb2.mono HB.out.size))
        have HR2 := hid (HRS1.out.below hb2)
        clear hb2
        rw [HQ1.out]
        go_wp2_with fail
        refine (zCY _ _ _ _ _ HR2.out).mono ?_
        rintro e w' ⟨rfl, rfl⟩
        rw [HQ2.out]
        go_wp2
        rw [Exit.noGoto_ret]
        exact bodyPost_ret (v := .tuple #[.slice none 0 0, .int .i64 s, .int .i64 13]) (by simp [results, Tryz.results182, go_sem]) rfl ⟨none, 0, by rw [HV.out]; rfl, by rw [HV.out]; exact OwnB.none0, HB2.out⟩
     ·have heq9 : (bt l s == 92) = false := by simpa using hq9
      by_cases hq10 : bt l s = 10
      ·have HV : Hid (tk l = ⟨12, s, []⟩) := hid (HS.out.err (zJc (r := l.drop s) (by rw [zAB]; exact hq10)) (by decide) (by decide))
       go_wp2_with fail
       refine (zAP _ _ _ _ _ HRS.out (HT.out.keep HB.out)).mono ?_
       rintro e w2 ⟨rfl, hb2⟩
       have HB2 : Hid (Below w.heap.size w w2) := hid (HB.out.trans (hb2.mono HB.out.size))
       clear hb2
       rw [HQ1.out]
       go_wp2
       try rw [Exit.noGoto_ret]
       exact bodyPost_ret (v := .tuple #[.slice none 0 0, .int .i64 s, .int .i64 12]) (by simp [results, Tryz.results182, go_sem]) rfl ⟨none, 0, by rw [HV.out]; rfl, by rw [HV.out]; exact OwnB.none0, HB2.out⟩
      ·have heq10 : (bt l s == 10) = false := by simpa using hq10
       have hnil : l.drop s ≠ [] := by intro hh; have := HL.out; rw [List.drop_eq_nil_iff] at hh; omega
       have hctl : bt l s < 32 ∨ (32 ≤ bt l s ∧ bt l s = 127) ∨ (32 ≤ bt l s ∧ bt l s ≠ 127) := by omega
       rcases hctl with hc | ⟨hc, hc'⟩ | ⟨hc, hc'⟩
       ·have HV : Hid (tk l = ⟨11, s, []⟩) := hid (HS.out.err (zFC hnil (by rw [zAB]; exact hq10) (by rw [zAB]; exact Or.inl hc)) (by decide) (by decide))
        clear hnil hq hq9 hq10
        go_wp2_with fail
        refine (zAP _ _ _ _ _ HRS.out (HT.out.keep HB.out)).mono ?_
        rintro e w2 ⟨rfl, hb2⟩
        have HB2 : Hid (Below w.heap.size w w2) := hid (HB.out.trans (hb2.mono HB.out.size))
        clear hb2
        rw [HQ1.out]
        go_wp2
        rw [Exit.noGoto_ret]
        exact bodyPost_ret (v := .tuple #[.slice none 0 0, .int .i64 s, .int .i64 11]) (by simp [results, Tryz.results182, go_sem]) rfl ⟨none, 0, by rw [HV.out]; rfl, by rw [HV.out]; exact OwnB.none0, HB2.out⟩
       ·have HV : Hid (tk l = ⟨11, s, []⟩) := hid (HS.out.err (zFC hnil (by rw [zAB]; exact hq10) (by rw [zAB]; exact Or.inr hc')) (by decide) (by decide))
        clear hnil hq hq9 hq10
        go_wp2_with fail
        refine (zAP _ _ _ _ _ HRS.out (HT.out.keep HB.out)).mono ?_
        rintro e w2 ⟨rfl, hb2⟩
        have HB2 : Hid (Below w.heap.size w w2) := hid (HB.out.trans (hb2.mono HB.out.size))
        clear hb2
        rw [HQ1.out]
        go_wp2
        rw [Exit.noGoto_ret]
        exact bodyPost_ret (v := .tuple #[.slice none 0 0, .int .i64 s, .int .i64 11]) (by simp [results, Tryz.results182, go_sem]) rfl ⟨none, 0, by rw [HV.out]; rfl, by rw [HV.out]; exact OwnB.none0, HB2.out⟩
       ·have heq7 : (bt l s == 127) = false := by simpa using hc'
        have hge : ¬ bt l s < 32 := by omega
        cases hok : okSeq (l.drop s) with
        | false =>
         have HV : Hid (tk l = ⟨10, s, []⟩) := hid (HS.out.err (zNH (r := l.drop s) (by rw [zAB]; exact hc) (by rw [zAB]; exact hq) (by rw [zAB]; exact hq9) (by rw [zAB]; exact hc') hok) (by decide) (by decide))
         clear hnil hq hq9 hq10 hc'
         go_wp2_with fail
         refine (zAP _ _ _ _ _ HRS.out (HT.out.keep HB.out)).mono ?_
         rintro e w2 ⟨rfl, hb2⟩
         have HB2 : Hid (Below w.heap.size w w2) := hid (HB.out.trans (hb2.mono HB.out.size))
         have HR2 := hid (HRS.out.below hb2)
         clear hb2
         rw [HQ1.out]
         go_wp2_with fail
         refine (zCM _ _ _ _ _ HR2.out).mono ?_
         rintro e w' ⟨rfl, rfl⟩
         rw [hok]
         go_wp2
         rw [Exit.noGoto_ret]
         exact bodyPost_ret (v := .tuple #[.slice none 0 0, .int .i64 s, .int .i64 10]) (by simp [results, Tryz.results182, go_sem]) rfl ⟨none, 0, by rw [HV.out]; rfl, by rw [HV.out]; exact OwnB.none0, HB2.out⟩
        | true =>
         have hQ := zNI (r := l.drop s) (by rw [zAB]; exact hc) (by rw [zAB]; exact hq) (by rw [zAB]; exact hq9) (by rw [zAB]; exact hc') hok
         have HG : Hid (At l (s + takeN (l.drop s)) (t ++ (l.drop s).take (takeN (l.drop s)))) := hid (by have := HS.out.go hQ.1; rw [hQ.2.1, hQ.2.2] at this; exact this)
         have hn1 := zAy hnil
         have hn2 : takeN (l.drop s) ≤ len - s := by have h1 := zCK (l.drop s); rw [List.length_drop, HL.out] at h1; exact h1
         have HRT := hid (HRS.out.take (k := takeN (l.drop s)) (c' := cap - s) hn2 (by omega) (by have := HRS.out.cm; exact this))
         clear hnil hq hq9 hq10 hc' hQ
         go_wp2_with fail
         refine (zAP _ _ _ _ _ HRS.out (HT.out.keep HB.out)).mono ?_
         rintro e w2 ⟨rfl, hb2⟩
         have HB2 : Hid (Below w.heap.size w w2) := hid (HB.out.trans (hb2.mono HB.out.size))
         have HO2 := hid (HO.out.keep hb2 (Nat.le_refl _))
         have HR2 := hid (HRS.out.below hb2)
         have HT2 := hid (HRT.out.below hb2)
         clear hb2
         rw [HQ1.out]
         go_wp2_with fail
         refine (zCM _ _ _ _ _ HR2.out).mono ?_
         rintro e w' ⟨rfl, rfl⟩
         rw [hok]
         go_wp2_with (at_builtin; refine Hid.out ?_)
         refine hid ?_
         refine zAv rfl (.tmp 32) (.tmp 35) 59 rfl 5 w.heap.size Tryz.underlying59 info5 _ _ _ t rfl HO2.out _ _ _ _ rfl HT2.out (by omega) HB2.out.size ?_
         intro a2 c2 w4 ho4 hb4
         have HO4 := hid ho4
         have HB4 := hid (HB2.out.trans hb4)
         clear ho4 hb4
         go_wp2
         go_roundw
         case rel => exact ⟨_, _, s + takeN (l.drop s), k + takeN (l.drop s), _, rfl, by go_num, by omega, by omega, by omega, HO4, HB4, HG⟩
         case measure => simp [intOf]; omega
   ·have hsl' : s = len := by omega
    subst hsl'
    have HV : Hid (tk l = ⟨12, s, []⟩) := hid (HS.out.err (e := 12) (by rw [List.drop_eq_nil_of_le (by rw [HL.out]; omega)]; rfl) (by decide) (by decide))
    go_wp2
    rw [Exit.noGoto_ret]
    exact bodyPost_ret (v := .tuple #[.slice none 0 0, .int .i64 s, .int .i64 12]) (by simp [results, Tryz.results182, go_sem]) rfl ⟨none, 0, by rw [HV.out]; rfl, by rw [HV.out]; exact OwnB.none0, HB.out⟩
 ·have hl : Hid (decide (bt l 0 = 39) = false) := hid (by simp [h39])
  have HV := hid (zJd h39)
  clear h ht h39
  go_enter Tryz.func182, Tryz.ntmps182
  go_wp2
  go_step3
  go_wp2_with (first | (go_at_call 188; refine (zAP _ _ _ _ _ H.out HT.out).mono ?_; rintro e w1 ⟨rfl, hb1⟩; have HB1 := hid hb1; clear hb1; rw [hl.out]))
  rw [Exit.noGoto_ret]
  exact bodyPost_ret (v := .tuple #[.slice none 0 0, .int .i64 0, .int .i64 2]) (by simp [results, Tryz.results182, go_sem]) rfl ⟨none, 0, by rw [HV.out]; rfl, by rw [HV.out]; exact OwnB.none0, HB1.out⟩
end
section
open Go.RowKit
set_option maxHeartbeats 400000 in
theorem zNL (a : Option Addr) (len cap : Nat) (l : List Int) (i : Nat) (w : World) (h : Bs w a len cap l) (hi : i ≤ 1000001) :
  Calls Tryz.prog 214 #[.slice a len cap, .int .i64 i] w fun e w' => e = .returned (.int .u8 (bt l i)) ∧ w = w' := by
 have hm := h.lt
 unfold maxLen at hm
 by_cases hlt : i < len
 ·obtain ⟨b, off, rfl, _, hc⟩ := h.at_ (by omega)
  have hcs := hc i hlt
  clear h hc
  go_enter Tryz.func214, Tryz.ntmps214
  go_wp2
  go_ret
  exact ⟨rfl, rfl⟩
 ·have HV : Hid (bt l i = 0) := hid (zPO (by rw [h.hl]; omega))
  clear h
  go_enter Tryz.func214, Tryz.ntmps214
  go_wp2
  go_ret
  exact ⟨by rw [HV.out]; rfl, rfl⟩
set_option maxRecDepth 20000 in
set_option maxHeartbeats 2000000 in
theorem zEk (a : Option Addr) (len cap : Nat) (l : List Int) (w : World) (h : Bs w a len cap l) (hsz : len ≤ 1000000) :
  Calls Tryz.prog 209 #[.slice a len cap] w fun e w' => ∃ a' c', e = .returned (.tuple #[.slice a' (tk l).t.length c', .int .i64 (tk l).n, .int .i64 (tk l).e]) ∧ OwnB w.heap.size 5 w' a' (tk l).t.length c' (tk l).t ∧ Below w.heap.size w w' := by
 have hlc := h.lc
 have hcm := h.cm
 unfold maxLen at hcm
 have H := hid h
 have H0 := hid (zNL a len cap l 0 w h (by omega))
 by_cases h39 : bt l 0 = 39
 ·obtain ⟨b, off, rfl, hbl, hc⟩ := h.at_ (by have := zDo (l := l) (j := 0) (by omega); have := h.hl; omega)
  have hl1 : 1 ≤ len := by have := zDo (l := l) (j := 0) (by omega); have := h.hl; omega
  have HR := hid h.rng
  have HL := hid h.hl
  have HA := hid (At.start h39)
  have HO0 : Hid (OwnB w.heap.size 5 (w.alloc (.cells #[] 5)) (some ⟨w.heap.size, 0, none⟩) 0 0 []) := hid (OwnB.made (Nat.le_refl _))
  have HB0 : Hid (Below w.heap.size w (w.alloc (.cells #[] 5))) := hid ((Below.refl _ _).alloc (Nat.le_refl _) _)
  clear h hc hbl
  go_enter Tryz.func209, Tryz.ntmps209
  go_wp2_with fail
  refine H0.out.mono ?_
  rintro e w' ⟨rfl, rfl⟩
  go_wp2
  clear h39 H0
  go_loopw [5, 6] (fun v n wr => ∃ a1 c1, ∃ s k : Nat, ∃ t : List Int, v = .slice a1 k c1 ∧ n = .int .i64 s ∧ 1 ≤ s ∧ s ≤ len ∧ k ≤ s ∧ Hid (OwnB w.heap.size 5 wr a1 k c1 t) ∧ Hid (Below w.heap.size w wr) ∧ Hid (At l s t)) (fun _ n _ => len - (intOf n).toNat)
  case atStart => exact ⟨some ⟨w.heap.size, 0, none⟩, 0, 1, 0, [], rfl, rfl, by omega, by omega, by simp, HO0, HB0, HA⟩
  case round =>
   obtain ⟨a1, c1, s, k, t, rfl, rfl, hs1, hsl, hts, HO, HB, HS⟩ := hrel
   clear HB0 HA HO0
   rename World => wa
   by_cases hlt : s < len
   ·have hwa := H.out.below HB.out
    have hcs := hwa.cell hlt
    have HWA := hid hwa
    have HRS := hid (hwa.drop (k := s) (by omega))
    have hrng := zAI HR.out s
    have hr0 := hrng.1
    have hr1 := hrng.2
    have HAT : Hid (Calls Tryz.prog 214 #[.slice (some ⟨b, off, none⟩) len cap, .int .i64 ((s : Int) + 1)] wa fun e w' => e = .returned (.int .u8 (bt l (s + 1))) ∧ wa = w') := hid (zNL (some ⟨b, off, none⟩) len cap l (s + 1) wa hwa (by omega))
    clear hwa hrng
    by_cases hq10 : bt l s = 10
    ·have HV : Hid (tk l = ⟨12, s, []⟩) := hid (HS.out.err (zJc (r := l.drop s) (by rw [zAB]; exact hq10)) (by decide) (by decide))
     go_wp2
     exact bodyPost_ret (v := .tuple #[.slice none 0 0, .int .i64 s, .int .i64 12]) (by simp [results, Tryz.results209, go_sem]) rfl ⟨none, 0, by rw [HV.out]; rfl, by rw [HV.out]; exact OwnB.none0, HB.out⟩
    ·have heq10 : (bt l s == 10) = false := by simpa using hq10
     by_cases hq : bt l s = 39
     ·by_cases hq2 : bt l (s + 1) = 39
      ·have hQ := zNF (r := l.drop s) (by rw [zAB]; exact hq) (by rw [zAB]; exact hq2)
       have h2 : s + 2 ≤ len := by have := zDo (l := l) (j := s + 1) (by omega); have := HL.out; omega
       have HG : Hid (At l (s + 2) (t ++ [39])) := hid (by have := HS.out.go hQ.1; rwa [hQ.2.1, hQ.2.2] at this)
       clear hQ
       go_wp2_with fail
       refine HAT.out.mono ?_
       rintro e w' ⟨rfl, rfl⟩
       go_wp2_with (at_builtin; refine Hid.out ?_)
       refine hid ?_
       refine zAv rfl (.tmp 41) (.tmp 42) 59 rfl 5 w.heap.size Tryz.underlying59 info5 _ _ _ t rfl (HO.out.alloc _) _ _ _ [39] rfl (Bs.lit _ 5 (by simp) (by simp) rfl rfl (by decide)) (by omega) (by have := HB.out.size; simp; omega) ?_
       intro a2 c2 w4 ho4 hb4
       have HO4 := hid ho4
       have HB4 := hid ((HB.out.alloc HB.out.size _).trans hb4)
       clear ho4 hb4
       go_wp2
       go_roundw
       case rel => exact ⟨_, _, s + 2, k + 1, _, rfl, by go_num, by omega, by omega, by omega, HO4, HB4, HG⟩
       case measure => simp [intOf]; omega
      ·have hQ := zNE (r := l.drop s) (by rw [zAB]; exact hq) (by rw [zAB]; exact hq2)
       have heq2 : (bt l (s + 1) == 39) = false := by simpa using hq2
       have HV : Hid (tk l = ⟨0, s + 1, t⟩) := hid (HS.out.ok hQ)
       have HK := hid HO.out.bs.hl
       clear hQ
       go_wp2_with fail
       refine HAT.out.mono ?_
       rintro e w' ⟨rfl, rfl⟩
       go_wp2
       exact bodyPost_ret (v := .tuple #[.slice a1 k c1, .int .i64 (s + 1), .int .i64 0]) (by simp [results, Tryz.results209, go_sem]) rfl ⟨a1, c1, by rw [HV.out, HK.out]; rfl, by rw [HV.out, HK.out]; exact HO.out, HB.out⟩
     ·have heq : (bt l s == 39) = false := by simpa using hq
      by_cases hq9 : bt l s = 92
      ·by_cases hq2 : bt l (s + 1) = 110 ∨ bt l (s + 1) = 92 ∨ bt l (s + 1) = 39
       ·have hQ := zNG (r := l.drop s) (by rw [zAB]; exact hq9) (by rw [zAB]; exact hq2)
        have h2 : s + 2 ≤ len := by have := zDo (l := l) (j := s + 1) (by omega); have := HL.out; omega
        have hG := HS.out.go hQ.1
        rw [hQ.2.1, hQ.2.2, zAB] at hG
        by_cases hq3 : bt l (s + 1) = 110
        ·have HG : Hid (At l (s + 2) (t ++ [10])) := hid (by rw [if_pos hq3] at hG; exact hG)
         clear hQ hG hq2
         go_wp2_with fail
         refine HAT.out.mono ?_
         rintro e w' ⟨rfl, rfl⟩
         go_wp2_with (at_builtin; refine Hid.out ?_)
         refine hid ?_
         refine zAv rfl (.tmp 61) (.tmp 63) 59 rfl 5 w.heap.size Tryz.underlying59 info5 _ _ _ t rfl (HO.out.alloc _) _ _ _ [10] rfl (Bs.lit _ 5 (by simp) (by simp) rfl rfl (by decide)) (by omega) (by have := HB.out.size; simp; omega) ?_
         intro a2 c2 w4 ho4 hb4
         have HO4 := hid ho4
         have HB4 := hid ((HB.out.alloc HB.out.size _).trans hb4)
         clear ho4 hb4
         go_wp2
         go_roundw
         case rel => exact ⟨_, _, s + 2, k + 1, _, rfl, by go_num, by omega, by omega, by omega, HO4, HB4, HG⟩
         case measure => simp [intOf]; omega
        ·rw [if_neg hq3] at hG
         have hq4 : bt l (s + 1) = 92 ∨ bt l (s + 1) = 39 := by omega
         clear hQ hq2 hq3
         rcases hq4 with hq4 | hq4
         ·have HG : Hid (At l (s + 2) (t ++ [92])) := hid (by rw [hq4] at hG; exact hG)
          clear hG
          go_wp2_with fail
          refine HAT.out.mono ?_
          rintro e w' ⟨rfl, rfl⟩
          go_wp2_with (at_builtin; refine Hid.out ?_)
          refine hid ?_
          refine zAv rfl (.tmp 61) (.tmp 63) 59 rfl 5 w.heap.size Tryz.underlying59 info5 _ _ _ t rfl (HO.out.alloc _) _ _ _ [92] rfl (Bs.lit _ 5 (by simp) (by simp) rfl rfl (by decide)) (by omega) (by have := HB.out.size; simp; omega) ?_
          intro a2 c2 w4 ho4 hb4
          have HO4 := hid ho4
          have HB4 := hid ((HB.out.alloc HB.out.size _).trans hb4)
          clear ho4 hb4
          go_wp2
          go_roundw
          case rel => exact ⟨_, _, s + 2, k + 1, _, rfl, by go_num, by omega, by omega, by omega, HO4, HB4, HG⟩
          case measure => simp [intOf]; omega
         ·have HG : Hid (At l (s + 2) (t ++ [39])) := hid (by rw [hq4] at hG; exact hG)
          clear hG
          go_wp2_with fail
          refine HAT.out.mono ?_
          rintro e w' ⟨rfl, rfl⟩
          go_wp2_with (at_builtin; refine Hid.out ?_)
          refine hid ?_
          refine zAv rfl (.tmp 61) (.tmp 63) 59 rfl 5 w.heap.size Tryz.underlying59 info5 _ _ _ t rfl (HO.out.alloc _) _ _ _ [39] rfl (Bs.lit _ 5 (by simp) (by simp) rfl rfl (by decide)) (by omega) (by have := HB.out.size; simp; omega) ?_
          intro a2 c2 w4 ho4 hb4
          have HO4 := hid ho4
          have HB4 := hid ((HB.out.alloc HB.out.size _).trans hb4)
          clear ho4 hb4
          go_wp2
          go_roundw
          case rel => exact ⟨_, _, s + 2, k + 1, _, rfl, by go_num, by omega, by omega, by omega, HO4, HB4, HG⟩
          case measure => simp [intOf]; omega
       ·have HV : Hid (tk l = ⟨13, s, []⟩) := hid (HS.out.err (zHd (r := l.drop s) (by rw [zAB]; exact hq9) (by rw [zAB]; exact hq2)) (by decide) (by decide))
        have e1 : (bt l (s + 1) != 110) = true := by simp; omega
        have e2 : (bt l (s + 1) != 92) = true := by simp; omega
        have e3 : (bt l (s + 1) != 39) = true := by simp; omega
        clear hq2
        go_wp2_with fail
        refine HAT.out.mono ?_
        rintro e w' ⟨rfl, rfl⟩
        go_wp2
        exact bodyPost_ret (v := .tuple #[.slice none 0 0, .int .i64 s, .int .i64 13]) (by simp [results, Tryz.results209, go_sem]) rfl ⟨none, 0, by rw [HV.out]; rfl, by rw [HV.out]; exact OwnB.none0, HB.out⟩
      ·have heq9 : (bt l s == 92) = false := by simpa using hq9
       have hnil : l.drop s ≠ [] := by intro hh; have := HL.out; rw [List.drop_eq_nil_iff] at hh; omega
       have hctl : bt l s < 32 ∨ (32 ≤ bt l s ∧ bt l s = 127) ∨ (32 ≤ bt l s ∧ bt l s ≠ 127) := by omega
       rcases hctl with hc | ⟨hc, hc'⟩ | ⟨hc, hc'⟩
       ·have HV : Hid (tk l = ⟨11, s, []⟩) := hid (HS.out.err (zFC hnil (by rw [zAB]; exact hq10) (by rw [zAB]; exact Or.inl hc)) (by decide) (by decide))
        clear hnil hq hq9 hq10
        go_wp2_with fail
        refine HAT.out.mono ?_
        rintro e w' ⟨rfl, rfl⟩
        go_wp2
        exact bodyPost_ret (v := .tuple #[.slice none 0 0, .int .i64 s, .int .i64 11]) (by simp [results, Tryz.results209, go_sem]) rfl ⟨none, 0, by rw [HV.out]; rfl, by rw [HV.out]; exact OwnB.none0, HB.out⟩
       ·have HV : Hid (tk l = ⟨11, s, []⟩) := hid (HS.out.err (zFC hnil (by rw [zAB]; exact hq10) (by rw [zAB]; exact Or.inr hc')) (by decide) (by decide))
        clear hnil hq hq9 hq10
        go_wp2_with fail
        refine HAT.out.mono ?_
        rintro e w' ⟨rfl, rfl⟩
        go_wp2
        exact bodyPost_ret (v := .tuple #[.slice none 0 0, .int .i64 s, .int .i64 11]) (by simp [results, Tryz.results209, go_sem]) rfl ⟨none, 0, by rw [HV.out]; rfl, by rw [HV.out]; exact OwnB.none0, HB.out⟩
       ·have heq7 : (bt l s == 127) = false := by simpa using hc'
        have hge : ¬ bt l s < 32 := by omega
        cases hok : okSeq (l.drop s) with
        | false =>
         have HV : Hid (tk l = ⟨10, s, []⟩) := hid (HS.out.err (zNH (r := l.drop s) (by rw [zAB]; exact hc) (by rw [zAB]; exact hq) (by rw [zAB]; exact hq9) (by rw [zAB]; exact hc') hok) (by decide) (by decide))
         clear hnil hq hq9 hq10 hc'
         go_wp2_with fail
         refine HAT.out.mono ?_
         rintro e w' ⟨rfl, rfl⟩
         go_wp2_with fail
         refine (zAM _ _ _ _ _ HRS.out).mono ?_
         rintro e w2 ⟨rfl, hdr⟩
         have HB2 : Hid (Below w.heap.size w w2) := hid (hdr.below HB.out)
         clear hdr
         rw [hok]
         go_wp2
         exact bodyPost_ret (v := .tuple #[.slice none 0 0, .int .i64 s, .int .i64 10]) (by simp [results, Tryz.results209, go_sem]) rfl ⟨none, 0, by rw [HV.out]; rfl, by rw [HV.out]; exact OwnB.none0, HB2.out⟩
        | true =>
         have hQ := zNI (r := l.drop s) (by rw [zAB]; exact hc) (by rw [zAB]; exact hq) (by rw [zAB]; exact hq9) (by rw [zAB]; exact hc') hok
         have HG : Hid (At l (s + takeN (l.drop s)) (t ++ (l.drop s).take (takeN (l.drop s)))) := hid (by have := HS.out.go hQ.1; rw [hQ.2.1, hQ.2.2] at this; exact this)
         have hn1 := zAy hnil
         have hn2 : takeN (l.drop s) ≤ len - s := by have h1 := zCK (l.drop s); rw [List.length_drop, HL.out] at h1; exact h1
         have HRT := hid (HRS.out.take (k := takeN (l.drop s)) (c' := cap - s) hn2 (by omega) (by have := HRS.out.cm; exact this))
         clear hnil hq hq9 hq10 hc' hQ
         go_wp2_with fail
         refine HAT.out.mono ?_
         rintro e w' ⟨rfl, rfl⟩
         go_wp2_with fail
         refine (zAM _ _ _ _ _ HRS.out).mono ?_
         rintro e w2 ⟨rfl, hdr⟩
         have HB2 : Hid (Below w.heap.size w w2) := hid (hdr.below HB.out)
         have HO2 := hid (HO.out.keep (Dr.below (Below.refl _ _) hdr) (Nat.le_refl _))
         have HT3 : Hid (Bs w2 (some ⟨b, off + s, none⟩) (s + takeN (l.drop s) - s) (cap - s) ((l.drop s).take (takeN (l.drop s)))) := hid (by rw [Nat.add_sub_cancel_left]; exact HRT.out.dr hdr)
         have HN3 : Hid (k + (s + takeN (l.drop s) - s) = k + takeN (l.drop s)) := hid (by omega)
         clear hdr
         rw [hok]
         go_wp2_with (at_builtin; refine Hid.out ?_)
         refine hid ?_
         refine zAv rfl (.tmp 84) (.tmp 90) 59 rfl 5 w.heap.size Tryz.underlying59 info5 _ _ _ t rfl HO2.out _ _ _ _ rfl HT3.out (by omega) HB2.out.size ?_
         intro a2 c2 w4 ho4 hb4
         rw [HN3.out] at ho4 ⊢
         have HO4 := hid ho4
         have HB4 := hid (HB2.out.trans hb4)
         clear ho4 hb4
         go_wp2
         go_roundw
         case rel => exact ⟨_, _, s + takeN (l.drop s), k + takeN (l.drop s), _, rfl, by go_num, by omega, by omega, by omega, HO4, HB4, HG⟩
         case measure => simp [intOf]; omega
   ·have hsl' : s = len := by omega
    subst hsl'
    have HV : Hid (tk l = ⟨12, s, []⟩) := hid (HS.out.err (e := 12) (by rw [List.drop_eq_nil_of_le (by rw [HL.out]; omega)]; rfl) (by decide) (by decide))
    go_wp2
    exact bodyPost_ret (v := .tuple #[.slice none 0 0, .int .i64 s, .int .i64 12]) (by simp [results, Tryz.results209, go_sem]) rfl ⟨none, 0, by rw [HV.out]; rfl, by rw [HV.out]; exact OwnB.none0, HB.out⟩
 ·have heq : (bt l 0 == 39) = false := by simpa using h39
  have HV := hid (zJd h39)
  clear h h39
  go_enter Tryz.func209, Tryz.ntmps209
  go_wp2_with fail
  refine H0.out.mono ?_
  rintro e w' ⟨rfl, rfl⟩
  go_wp2
  exact bodyPost_ret (v := .tuple #[.slice none 0 0, .int .i64 0, .int .i64 2]) (by simp [results, Tryz.results209, go_sem]) rfl ⟨none, 0, by rw [HV.out]; rfl, by rw [HV.out]; exact OwnB.none0, Below.refl _ _⟩
end
section
def Cut (E : List Int) (m : Nat) (q : QR) : Prop :=
 (q.e = 0 ∧ q.n = m ∧ 1 ≤ m ∧ bt E (m - 1) = 39 ∧ q.t.length + 1 ≤ m) ∨ (q.e = 12 ∧ q.n = m) ∨ (q.e = 13 ∧ q.n + 1 = m ∧ bt E (m - 1) = 92) ∨ (q.e = 10 ∧ q.n < m ∧ 128 ≤ bt E (m - 1))
theorem Cut.pre {E : List Int} {m : Nat} {q : QR} (h : Cut E m q) (p t : List Int) (ht : t.length ≤ p.length) : Cut (p ++ E) (p.length + m) ⟨q.e, p.length + q.n, t ++ q.t⟩ := by
 have hb : 1 ≤ m → bt (p ++ E) (p.length + m - 1) = bt E (m - 1) := fun hm => by
  unfold bt
  rw [List.getD_eq_getElem?_getD, List.getElem?_append_right (by omega), ← List.getD_eq_getElem?_getD, show p.length + m - 1 - p.length = m - 1 by omega]
 rcases h with ⟨h1, h2, h3, h4, h5⟩ | ⟨h1, h2⟩ | ⟨h1, h2, h3⟩ | ⟨h1, h2, h3⟩
 ·exact Or.inl ⟨h1, by show p.length + q.n = _; omega, by omega, by rw [hb h3]; exact h4, by show (t ++ q.t).length + 1 ≤ _; rw [List.length_append]; omega⟩
 ·exact Or.inr (Or.inl ⟨h1, by show p.length + q.n = _; omega⟩)
 ·exact Or.inr (Or.inr (Or.inl ⟨h1, by show p.length + q.n + 1 = _; omega, by rw [hb (by omega)]; exact h3⟩))
 ·exact Or.inr (Or.inr (Or.inr ⟨h1, by show p.length + q.n < _; omega, by rw [hb (by omega)]; exact h3⟩))
end
end Go.Proofs.YtcjbhdgjcpnklaaGreatDoor
