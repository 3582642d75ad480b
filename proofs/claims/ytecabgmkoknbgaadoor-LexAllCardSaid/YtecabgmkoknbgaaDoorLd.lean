/- A scope in which the run jumps to any of its labels; contract of package layout's Skip. -/
import Derived.Test.YtecabgmkoknbgaaDoorLa
import Derived.WalkMore
namespace Go

/-- As Q; by a goto to a label: what holds at that label. -/
def Exit.toLabel (J : Nat → Act → World → Prop) (Q : Exit → Act → World → Prop) : Exit → Act → World → Prop
  | .goto l, a, w => J l a w
  | .normal, a, w => Q .normal a w
  | .exit i, a, w => Q (.exit i) a w
  | .ret, a, w => Q .ret a w
  | .panic c, a, w => Q (.panic c) a w
  | .outgrown, a, w => Q .outgrown a w

section
variable {P : Program} {Q : Exit → Act → World → Prop}

/-- From each label that is jumped to, the run comes to an end of the scope, or to a label with less to do. -/
theorem wp_scope_labels {c : Code} {a : Act} {w : World} (J : Nat → Act → World → Prop) (μ : Nat → Act → World → Nat)
    (start : c.wp P (Exit.toLabel J Q) a w)
    (go : ∀ m l a w, μ l a w = m → J l a w → ∃ rest, findLabel c l = some rest ∧ rest.wp P (Exit.toLabel (fun l' a' w' => J l' a' w' ∧ μ l' a' w' < m) Q) a w) : (Code.scope c).wp P Q a w := by
  intro b k cs
  have turns : ∀ n l a w, μ l a w < n → J l a w → ∃ rest, findLabel c l = some rest ∧ ∃ e a' w', Q e a' w' ∧ Arrives P (lone (b.at a (.code rest :: .inScope c :: k)) cs w) b k cs e a' w' := by
    intro n
    induction n with
    | zero => intro l a w h; omega
    | succ n ih =>
      intro l a w hn hJ
      obtain ⟨rest, hr, hwp⟩ := go _ l a w rfl hJ
      refine ⟨rest, hr, ?_⟩
      obtain ⟨e, a₁, w₁, hq, har⟩ := hwp b (.inScope c :: k) cs
      cases e with
      | goto l' =>
        obtain ⟨hJ', hlt⟩ := hq
        obtain ⟨rest', hr', e₂, a₂, w₂, hq₂, har₂⟩ := ih l' a₁ w₁ (by omega) hJ'
        exact ⟨e₂, a₂, w₂, hq₂, .of_steps (har _ (by simp [gotoIn, hr'])) har₂⟩
      | normal => exact ⟨.normal, a₁, w₁, hq, Steps.trans har (.one step_inScope)⟩
      | exit i => exact ⟨.exit i, a₁, w₁, hq, fun k' hk => har k' (by simp [exitTo, hk])⟩
      | ret => exact ⟨_, a₁, w₁, hq, har⟩
      | panic ch => exact ⟨_, a₁, w₁, hq, har⟩
      | outgrown => exact ⟨_, a₁, w₁, hq, har⟩
  obtain ⟨e, a₁, w₁, hq, har⟩ := start b (.inScope c :: k) cs
  cases e with
  | goto l =>
    obtain ⟨rest, hr, e₂, a₂, w₂, hq₂, har₂⟩ := turns _ l a₁ w₁ (Nat.lt_succ_self _) hq
    exact ⟨e₂, a₂, w₂, hq₂, .of_steps (.head step_scope (har _ (by simp [gotoIn, hr]))) har₂⟩
  | normal => exact ⟨.normal, a₁, w₁, hq, .head step_scope (Steps.trans har (.one step_inScope))⟩
  | exit i => exact ⟨.exit i, a₁, w₁, hq, fun k' hk => .head step_scope (har k' (by simp [exitTo, hk]))⟩
  | ret => exact ⟨_, a₁, w₁, hq, .of_steps (.one step_scope) har⟩
  | panic ch => exact ⟨_, a₁, w₁, hq, .of_steps (.one step_scope) har⟩
  | outgrown => exact ⟨_, a₁, w₁, hq, .of_steps (.one step_scope) har⟩

theorem Exit.toLabel_ret (J : Nat → Act → World → Prop) (a : Act) (w : World) : Exit.toLabel J Q .ret a w = Q .ret a w := rfl
end
end Go

namespace Go.Proofs.YtecabgmkoknbgaaDoor
open Go.RowKit

theorem begins47_any (a : Option Addr) (len cap : Nat) (l : List Int) (w : World) (h : Bs w a len cap l) :
    Calls Tryd.prog 40 #[.slice a len cap, .string { data := #[47, 42] }] w fun e w' => e = .returned (.bool (pre2 47 42 l)) ∧ w = w' := begins_any a len cap l 47 42 w h
theorem begins42_any (a : Option Addr) (len cap : Nat) (l : List Int) (w : World) (h : Bs w a len cap l) :
    Calls Tryd.prog 40 #[.slice a len cap, .string { data := #[42, 47] }] w fun e w' => e = .returned (.bool (pre2 42 47 l)) ∧ w = w' := begins_any a len cap l 42 47 w h

/-- What holds at the labels: between tokens (0), within a comment (1). -/
def LJ (b off len cap : Nat) (l : List Int) (w : World) : Nat → Act → World → Prop
  | 0, a, w' => ∃ k : Nat, ∃ u1 u5 u7 u8 u9 u10 u11 u12 u13 u14 u15 u16 u17 u18 u19 u20 u21 u22 u23 u24 u25 u26 u27 u28 u29 u30 u31 u32 u33 u34 u35 u36 u37 u38 u39 u40 u41 u42 u43 u44 u45 u46 u47 u48 u49 u50 u51 u52 u53 u54 u55 u56 : Value, a = { tmps := #[.slice (some ⟨b, off, none⟩) len cap, u1, .int .i64 0, .int .i64 0, .int .i64 k, u5, .int .i64 0, u7, u8, u9, u10, u11, u12, u13, u14, u15, u16, u17, u18, u19, u20, u21, u22, u23, u24, u25, u26, u27, u28, u29, u30, u31, u32, u33, u34, u35, u36, u37, u38, u39, u40, u41, u42, u43, u44, u45, u46, u47, u48, u49, u50, u51, u52, u53, u54, u55, u56], defers := [] } ∧ k ≤ len ∧ Hid (skAt l k = sk l) ∧ Hid (Below w.heap.size w w')
  | 1, a, w' => ∃ k f : Nat, ∃ d : Int, ∃ u1 u7 u8 u9 u10 u11 u12 u13 u14 u15 u16 u17 u18 u19 u20 u21 u22 u23 u24 u25 u26 u27 u28 u29 u30 u31 u32 u33 u34 u35 u36 u37 u38 u39 u40 u41 u42 u43 u44 u45 u46 u47 u48 u49 u50 u51 u52 u53 u54 u55 u56 : Value, a = { tmps := #[.slice (some ⟨b, off, none⟩) len cap, u1, .int .i64 0, .int .i64 0, .int .i64 k, .int .i64 f, .int .i64 d, u7, u8, u9, u10, u11, u12, u13, u14, u15, u16, u17, u18, u19, u20, u21, u22, u23, u24, u25, u26, u27, u28, u29, u30, u31, u32, u33, u34, u35, u36, u37, u38, u39, u40, u41, u42, u43, u44, u45, u46, u47, u48, u49, u50, u51, u52, u53, u54, u55, u56], defers := [] } ∧ f ≤ k ∧ k ≤ len ∧ -(k : Int) ≤ d ∧ d ≤ k ∧ Hid (pre2 47 42 (l.drop f) = true) ∧ Hid (cmAt l k d = cmAt l f 0) ∧ Hid (skAt l f = sk l) ∧ Hid (Below w.heap.size w w')
  | _, _, _ => False

def LM (len : Nat) : Nat → Act → World → Nat
  | 0, a, _ => 2 * (len - (intOf (a.tmps.getD 4 undef)).toNat) + 1
  | _, a, _ => 2 * (len - (intOf (a.tmps.getD 4 undef)).toNat)

/-- Nothing is left behind the end. -/
theorem Bs.past {w : World} {a : Option Addr} {len cap k : Nat} {l : List Int} (h : Bs w a len cap l) (hk : len ≤ k) (a' : Option Addr) (c' : Nat) (hc : c' ≤ maxLen) : Bs w a' 0 c' (l.drop k) := by
  rw [show l.drop k = [] from by rw [List.drop_eq_nil_iff, h.hl]; exact hk]
  exact Bs.nil w a' c' hc

theorem sk_stop {l : List Int} {k : Nat} (hr : ∀ x ∈ l, 0 ≤ x ∧ x ≤ 255) (hk : k ≤ l.length) (hs : skAt l k = sk l) (h1 : runL 1 (l.drop k) = 0) (h8 : runL 8 (l.drop k) = 0) (hp : pre2 47 42 (l.drop k) = false) : sk l = (k, 0) := by
  rw [← hs]
  by_cases hlt : k < l.length
  · have hd : 0 < (l.drop k).length := by rw [List.length_drop]; omega
    have i1 := (runL_zero hd).1 h1
    have i8 := (runL_zero hd).1 h8
    rw [bt_drop] at i1 i8
    exact skAt_else hlt i1 (fun h => i8 ((cls37' (bt_rng hr _).1 (bt_rng hr _).2).2 h)) hp
  · exact skAt_end (by omega)

theorem run8_pos {l : List Int} {k : Nat} (hr : ∀ x ∈ l, 0 ≤ x ∧ x ≤ 255) (h : 0 < runL 8 (l.drop k)) : k < l.length ∧ bt l k = 37 := by
  have hle := runL_le 8 (l.drop k)
  rw [List.length_drop] at hle
  refine ⟨by omega, ?_⟩
  apply Decidable.byContradiction
  intro hne
  have := (runL_zero (n := 8) (l := l.drop k) (by rw [List.length_drop]; omega)).2 (by rw [bt_drop]; exact fun h8 => hne ((cls37' (bt_rng hr _).1 (bt_rng hr _).2).1 h8))
  omega

set_option maxRecDepth 100000 in
set_option maxHeartbeats 2000000 in
theorem lskip_some (b off len cap : Nat) (l : List Int) (w : World) (h : Bs w (some ⟨b, off, none⟩) len cap l) (ht : Tab w) (hsz : len ≤ 1000000) :
    Calls Tryd.prog 29 #[.slice (some ⟨b, off, none⟩) len cap] w fun e w' => e = .returned (.tuple #[.int .i64 (sk l).1, .int .i64 (sk l).2]) ∧ Below w.heap.size w w' := by
  have hl := h.hl
  have hlc := h.lc
  have hcm := h.cm
  unfold maxLen at hcm
  have H := Lib.hid h
  have HT := Lib.hid ht
  clear h ht
  go_enter Tryd.func29, Tryd.ntmps29
  go_wp2
  refine wp_scope_labels (LJ b off len cap l w) (LM len) ?_ ?_
  · obtain ⟨k, hk0⟩ : ∃ k : Nat, k = 0 := ⟨0, rfl⟩
    have hk : k ≤ len := by omega
    have HS : Hid (skAt l k = sk l) := Lib.hid (by rw [hk0]; exact skAt_zero l)
    have HB : Hid (Below w.heap.size w w) := Lib.hid (Below.refl _ _)
    go_wp2
    go_step3
    rw [show ({ tmps := #[.slice (some ⟨b, off, none⟩) len cap, undef, .int .i64 0, .int .i64 0, .int .i64 0, .int .i64 0, .int .i64 0, undef, undef, undef, undef, undef, undef, undef, undef, undef, undef, undef, undef, undef, undef, undef, undef, undef, undef, undef, undef, undef, undef, undef, undef, undef, undef, undef, undef, undef, undef, undef, undef, undef, undef, undef, undef, undef, undef, undef, undef, undef, undef, undef, undef, undef, undef, undef, undef, undef, undef], defers := [] } : Act) = { tmps := #[.slice (some ⟨b, off, none⟩) len cap, undef, .int .i64 0, .int .i64 0, .int .i64 (k : Int), .int .i64 0, .int .i64 0, undef, undef, undef, undef, undef, undef, undef, undef, undef, undef, undef, undef, undef, undef, undef, undef, undef, undef, undef, undef, undef, undef, undef, undef, undef, undef, undef, undef, undef, undef, undef, undef, undef, undef, undef, undef, undef, undef, undef, undef, undef, undef, undef, undef, undef, undef, undef, undef, undef, undef], defers := [] } from by rw [hk0]; rfl]
    clear hk0
    obtain ⟨r, hr⟩ : ∃ r, r = runL 1 (l.drop k) := ⟨_, rfl⟩
    have HR : Hid (runL 1 (l.drop k) = r) := Lib.hid hr.symm
    have hrl : k + r ≤ len := by have := runL_le 1 (l.drop k); rw [List.length_drop] at this; omega
    have HS1 : Hid (skAt l (k + r) = sk l) := Lib.hid (by rw [hr, ← skAt_run]; exact HS.out)
    have HZ : Hid (runL 1 (l.drop (k + r)) = 0) := Lib.hid (by rw [hr, ← List.drop_drop]; exact runL_again 1 _)
    clear hr
    by_cases hcap : k + r < cap
    · have hcap0 : k < cap := by omega
      have HA := Lib.hid ((H.out.below HB.out).drop hk)
      go_wp2_with fail
      refine (run_any _ _ _ (l.drop k) 1 _ HA.out (HT.out.keep HB.out)).mono ?_
      rintro e w1 ⟨rfl, hb1⟩
      have HB1 : Hid (Below w.heap.size w w1) := Lib.hid (HB.out.trans (hb1.mono HB.out.size))
      clear hb1
      rw [HR.out]
      have HA1 := Lib.hid ((H.out.below HB1.out).drop hrl)
      obtain ⟨p, hp⟩ : ∃ p, p = runL 8 (l.drop (k + r)) := ⟨_, rfl⟩
      have HP : Hid (runL 8 (l.drop (k + r)) = p) := Lib.hid hp.symm
      go_wp2_with fail
      refine (run_any _ _ _ (l.drop (k + r)) 8 _ HA1.out (HT.out.keep HB1.out)).mono ?_
      rintro e w2 ⟨rfl, hb2⟩
      have HB2 : Hid (Below w.heap.size w w2) := Lib.hid (HB1.out.trans (hb2.mono HB1.out.size))
      clear hb2
      rw [HP.out]
      have HA2 := Lib.hid ((H.out.below HB2.out).drop hrl)
      by_cases hp0 : 0 < p
      · have h37 := run8_pos H.out.rng (by rw [← hp]; exact hp0)
        have hlt : k + r < len := by have := h37.1; omega
        have hpos := lineL_pos (l := l.drop (k + r)) (by rw [bt_drop]; exact h37.2)
        have hmax := lineL_le (l.drop (k + r))
        rw [List.length_drop] at hmax
        obtain ⟨n, hn⟩ : ∃ n, n = lineL (l.drop (k + r)) := ⟨_, rfl⟩
        have HN : Hid (lineL (l.drop (k + r)) = n) := Lib.hid hn.symm
        have HS3 : Hid (skAt l (k + r + n) = sk l) := Lib.hid (by rw [hn, ← skAt_line H.out.rng (by omega) h37.2]; exact HS1.out)
        rw [← hn] at hpos hmax
        clear h37 hn hp
        go_wp2_with fail
        refine (line_any _ _ _ _ (l.drop (k + r)) _ HA2.out (by omega)).mono ?_
        rintro e w3 ⟨rfl, rfl⟩
        rw [HN.out]
        go_wp2
        go_step3
        refine (show LJ b off len cap l w 0 _ _ from ?_)
        unfold LJ
        exact ⟨k + r + n, _, _, _, _, _, _, _, _, _, _, _, _, _, _, _, _, _, _, _, _, _, _, _, _, _, _, _, _, _, _, _, _, _, _, _, _, _, _, _, _, _, _, _, _, _, _, _, _, _, _, _, _, rfl, by omega, HS3, HB2⟩
      · have hp00 : p = 0 := by omega
        have HE8 : Hid (runL 8 (l.drop (k + r)) = 0) := Lib.hid (by rw [← hp]; exact hp00)
        clear hp
        by_cases p1 : pre2 47 42 (l.drop (k + r)) = true
        · have HQ := Lib.hid p1
          clear p1
          go_wp2_with fail
          refine (begins47_any _ _ _ (l.drop (k + r)) _ HA2.out).mono ?_
          rintro e w3 ⟨rfl, rfl⟩
          rw [HQ.out]
          go_wp2
          go_step3
          refine (show LJ b off len cap l w 1 _ _ from ?_)
          unfold LJ
          exact ⟨k + r, k + r, 0, _, _, _, _, _, _, _, _, _, _, _, _, _, _, _, _, _, _, _, _, _, _, _, _, _, _, _, _, _, _, _, _, _, _, _, _, _, _, _, _, _, _, _, _, _, _, _, _, _, _, _, rfl, by omega, by omega, by omega, by omega, HQ, Lib.hid rfl, HS1, HB2⟩
        · have hp1 : pre2 47 42 (l.drop (k + r)) = false := by simpa using p1
          have HQ := Lib.hid hp1
          have HV : Hid (sk l = (k + r, 0)) := Lib.hid (sk_stop H.out.rng (by omega) HS1.out HZ.out HE8.out hp1)
          clear p1 hp1
          go_wp2_with fail
          refine (begins47_any _ _ _ (l.drop (k + r)) _ HA2.out).mono ?_
          rintro e w3 ⟨rfl, rfl⟩
          rw [HQ.out]
          go_wp2
          rw [Exit.toLabel_ret]
          exact bodyPost_ret (v := .tuple #[.int .i64 ((k + r : Nat) : Int), .int .i64 0]) (by simp [results, Tryd.results29, go_sem]) rfl ⟨by rw [HV.out], HB2.out⟩
    · have hlen : len ≤ k + r := by omega
      have hcap1 : cap ≤ k + r := by omega
      by_cases hcap0 : k < cap
      · have HA := Lib.hid ((H.out.below HB.out).drop hk)
        have HQ : Hid (pre2 47 42 (l.drop (k + r)) = false) := Lib.hid (by rw [List.drop_eq_nil_iff.2 (by omega)]; rfl)
        have HE8 : Hid (runL 8 (l.drop (k + r)) = 0) := Lib.hid (by rw [List.drop_eq_nil_iff.2 (by omega)]; rfl)
        have HV : Hid (sk l = (k + r, 0)) := Lib.hid (sk_stop H.out.rng (by omega) HS1.out HZ.out HE8.out HQ.out)
        go_wp2_with fail
        refine (run_any _ _ _ (l.drop k) 1 _ HA.out (HT.out.keep HB.out)).mono ?_
        rintro e w1 ⟨rfl, hb1⟩
        have HB1 : Hid (Below w.heap.size w w1) := Lib.hid (HB.out.trans (hb1.mono HB.out.size))
        clear hb1
        rw [HR.out]
        have HA1 := Lib.hid ((H.out.below HB1.out).past (k := k + r) (by omega) (some ⟨b, off, none⟩) 0 (by decide))
        go_wp2_with fail
        refine (run_any _ _ _ (l.drop (k + r)) 8 _ HA1.out (HT.out.keep HB1.out)).mono ?_
        rintro e w2 ⟨rfl, hb2⟩
        have HB2 : Hid (Below w.heap.size w w2) := Lib.hid (HB1.out.trans (hb2.mono HB1.out.size))
        clear hb2
        rw [HE8.out]
        go_wp2_with fail
        refine (begins47_any _ _ _ (l.drop (k + r)) _ ((H.out.below HB2.out).past (k := k + r) (by omega) (some ⟨b, off, none⟩) 0 (by decide))).mono ?_
        rintro e w3 ⟨rfl, rfl⟩
        rw [HQ.out]
        go_wp2
        rw [Exit.toLabel_ret]
        exact bodyPost_ret (v := .tuple #[.int .i64 ((k + r : Nat) : Int), .int .i64 0]) (by simp [results, Tryd.results29, go_sem]) rfl ⟨by rw [HV.out], HB2.out⟩
      · have hcap2 : cap ≤ k := by omega
        have hlen2 : len ≤ k := by omega
        have HA := Lib.hid ((H.out.below HB.out).past (k := k) (by omega) (some ⟨b, off, none⟩) 0 (by decide))
        have HQ : Hid (pre2 47 42 (l.drop (k + r)) = false) := Lib.hid (by rw [List.drop_eq_nil_iff.2 (by omega)]; rfl)
        have HE8 : Hid (runL 8 (l.drop (k + r)) = 0) := Lib.hid (by rw [List.drop_eq_nil_iff.2 (by omega)]; rfl)
        have HV : Hid (sk l = (k + r, 0)) := Lib.hid (sk_stop H.out.rng (by omega) HS1.out HZ.out HE8.out HQ.out)
        go_wp2_with fail
        refine (run_any _ _ _ (l.drop k) 1 _ HA.out (HT.out.keep HB.out)).mono ?_
        rintro e w1 ⟨rfl, hb1⟩
        have HB1 : Hid (Below w.heap.size w w1) := Lib.hid (HB.out.trans (hb1.mono HB.out.size))
        clear hb1
        rw [HR.out]
        have HA1 := Lib.hid ((H.out.below HB1.out).past (k := k + r) (by omega) (some ⟨b, off, none⟩) 0 (by decide))
        go_wp2_with fail
        refine (run_any _ _ _ (l.drop (k + r)) 8 _ HA1.out (HT.out.keep HB1.out)).mono ?_
        rintro e w2 ⟨rfl, hb2⟩
        have HB2 : Hid (Below w.heap.size w w2) := Lib.hid (HB1.out.trans (hb2.mono HB1.out.size))
        clear hb2
        rw [HE8.out]
        go_wp2_with fail
        refine (begins47_any _ _ _ (l.drop (k + r)) _ ((H.out.below HB2.out).past (k := k + r) (by omega) (some ⟨b, off, none⟩) 0 (by decide))).mono ?_
        rintro e w3 ⟨rfl, rfl⟩
        rw [HQ.out]
        go_wp2
        rw [Exit.toLabel_ret]
        exact bodyPost_ret (v := .tuple #[.int .i64 ((k + r : Nat) : Int), .int .i64 0]) (by simp [results, Tryd.results29, go_sem]) rfl ⟨by rw [HV.out], HB2.out⟩
  · rintro m (_ | _ | lb) a' w' hm hJ
    · obtain ⟨k, u1, u5, u7, u8, u9, u10, u11, u12, u13, u14, u15, u16, u17, u18, u19, u20, u21, u22, u23, u24, u25, u26, u27, u28, u29, u30, u31, u32, u33, u34, u35, u36, u37, u38, u39, u40, u41, u42, u43, u44, u45, u46, u47, u48, u49, u50, u51, u52, u53, u54, u55, u56, rfl, hk, HS, HB⟩ := hJ
      have hm' : 2 * (len - k) + 1 = m := by simpa [LM, intOf] using hm
      clear hm
      refine ⟨_, rfl, ?_⟩
      obtain ⟨r, hr⟩ : ∃ r, r = runL 1 (l.drop k) := ⟨_, rfl⟩
      have HR : Hid (runL 1 (l.drop k) = r) := Lib.hid hr.symm
      have hrl : k + r ≤ len := by have := runL_le 1 (l.drop k); rw [List.length_drop] at this; omega
      have HS1 : Hid (skAt l (k + r) = sk l) := Lib.hid (by rw [hr, ← skAt_run]; exact HS.out)
      have HZ : Hid (runL 1 (l.drop (k + r)) = 0) := Lib.hid (by rw [hr, ← List.drop_drop]; exact runL_again 1 _)
      clear hr
      by_cases hcap : k + r < cap
      · have hcap0 : k < cap := by omega
        have HA := Lib.hid ((H.out.below HB.out).drop hk)
        go_wp2_with fail
        refine (run_any _ _ _ (l.drop k) 1 _ HA.out (HT.out.keep HB.out)).mono ?_
        rintro e w1 ⟨rfl, hb1⟩
        have HB1 : Hid (Below w.heap.size w w1) := Lib.hid (HB.out.trans (hb1.mono HB.out.size))
        clear hb1
        rw [HR.out]
        have HA1 := Lib.hid ((H.out.below HB1.out).drop hrl)
        obtain ⟨p, hp⟩ : ∃ p, p = runL 8 (l.drop (k + r)) := ⟨_, rfl⟩
        have HP : Hid (runL 8 (l.drop (k + r)) = p) := Lib.hid hp.symm
        go_wp2_with fail
        refine (run_any _ _ _ (l.drop (k + r)) 8 _ HA1.out (HT.out.keep HB1.out)).mono ?_
        rintro e w2 ⟨rfl, hb2⟩
        have HB2 : Hid (Below w.heap.size w w2) := Lib.hid (HB1.out.trans (hb2.mono HB1.out.size))
        clear hb2
        rw [HP.out]
        have HA2 := Lib.hid ((H.out.below HB2.out).drop hrl)
        by_cases hp0 : 0 < p
        · have h37 := run8_pos H.out.rng (by rw [← hp]; exact hp0)
          have hlt : k + r < len := by have := h37.1; omega
          have hpos := lineL_pos (l := l.drop (k + r)) (by rw [bt_drop]; exact h37.2)
          have hmax := lineL_le (l.drop (k + r))
          rw [List.length_drop] at hmax
          obtain ⟨n, hn⟩ : ∃ n, n = lineL (l.drop (k + r)) := ⟨_, rfl⟩
          have HN : Hid (lineL (l.drop (k + r)) = n) := Lib.hid hn.symm
          have HS3 : Hid (skAt l (k + r + n) = sk l) := Lib.hid (by rw [hn, ← skAt_line H.out.rng (by omega) h37.2]; exact HS1.out)
          rw [← hn] at hpos hmax
          clear h37 hn hp
          go_wp2_with fail
          refine (line_any _ _ _ _ (l.drop (k + r)) _ HA2.out (by omega)).mono ?_
          rintro e w3 ⟨rfl, rfl⟩
          rw [HN.out]
          go_wp2
          go_step3
          refine (show LJ b off len cap l w 0 _ _ ∧ LM len 0 _ _ < m from ⟨?_, by simp [LM, intOf]; omega⟩)
          unfold LJ
          exact ⟨k + r + n, _, _, _, _, _, _, _, _, _, _, _, _, _, _, _, _, _, _, _, _, _, _, _, _, _, _, _, _, _, _, _, _, _, _, _, _, _, _, _, _, _, _, _, _, _, _, _, _, _, _, _, _, rfl, by omega, HS3, HB2⟩
        · have hp00 : p = 0 := by omega
          have HE8 : Hid (runL 8 (l.drop (k + r)) = 0) := Lib.hid (by rw [← hp]; exact hp00)
          clear hp
          by_cases p1 : pre2 47 42 (l.drop (k + r)) = true
          · have HQ := Lib.hid p1
            clear p1
            go_wp2_with fail
            refine (begins47_any _ _ _ (l.drop (k + r)) _ HA2.out).mono ?_
            rintro e w3 ⟨rfl, rfl⟩
            rw [HQ.out]
            go_wp2
            go_step3
            refine (show LJ b off len cap l w 1 _ _ ∧ LM len 1 _ _ < m from ⟨?_, by simp [LM, intOf]; omega⟩)
            unfold LJ
            exact ⟨k + r, k + r, 0, _, _, _, _, _, _, _, _, _, _, _, _, _, _, _, _, _, _, _, _, _, _, _, _, _, _, _, _, _, _, _, _, _, _, _, _, _, _, _, _, _, _, _, _, _, _, _, _, _, _, _, rfl, by omega, by omega, by omega, by omega, HQ, Lib.hid rfl, HS1, HB2⟩
          · have hp1 : pre2 47 42 (l.drop (k + r)) = false := by simpa using p1
            have HQ := Lib.hid hp1
            have HV : Hid (sk l = (k + r, 0)) := Lib.hid (sk_stop H.out.rng (by omega) HS1.out HZ.out HE8.out hp1)
            clear p1 hp1
            go_wp2_with fail
            refine (begins47_any _ _ _ (l.drop (k + r)) _ HA2.out).mono ?_
            rintro e w3 ⟨rfl, rfl⟩
            rw [HQ.out]
            go_wp2
            rw [Exit.toLabel_ret]
            exact bodyPost_ret (v := .tuple #[.int .i64 ((k + r : Nat) : Int), .int .i64 0]) (by simp [results, Tryd.results29, go_sem]) rfl ⟨by rw [HV.out], HB2.out⟩
      · have hlen : len ≤ k + r := by omega
        have hcap1 : cap ≤ k + r := by omega
        by_cases hcap0 : k < cap
        · have HA := Lib.hid ((H.out.below HB.out).drop hk)
          have HQ : Hid (pre2 47 42 (l.drop (k + r)) = false) := Lib.hid (by rw [List.drop_eq_nil_iff.2 (by omega)]; rfl)
          have HE8 : Hid (runL 8 (l.drop (k + r)) = 0) := Lib.hid (by rw [List.drop_eq_nil_iff.2 (by omega)]; rfl)
          have HV : Hid (sk l = (k + r, 0)) := Lib.hid (sk_stop H.out.rng (by omega) HS1.out HZ.out HE8.out HQ.out)
          go_wp2_with fail
          refine (run_any _ _ _ (l.drop k) 1 _ HA.out (HT.out.keep HB.out)).mono ?_
          rintro e w1 ⟨rfl, hb1⟩
          have HB1 : Hid (Below w.heap.size w w1) := Lib.hid (HB.out.trans (hb1.mono HB.out.size))
          clear hb1
          rw [HR.out]
          have HA1 := Lib.hid ((H.out.below HB1.out).past (k := k + r) (by omega) (some ⟨b, off, none⟩) 0 (by decide))
          go_wp2_with fail
          refine (run_any _ _ _ (l.drop (k + r)) 8 _ HA1.out (HT.out.keep HB1.out)).mono ?_
          rintro e w2 ⟨rfl, hb2⟩
          have HB2 : Hid (Below w.heap.size w w2) := Lib.hid (HB1.out.trans (hb2.mono HB1.out.size))
          clear hb2
          rw [HE8.out]
          go_wp2_with fail
          refine (begins47_any _ _ _ (l.drop (k + r)) _ ((H.out.below HB2.out).past (k := k + r) (by omega) (some ⟨b, off, none⟩) 0 (by decide))).mono ?_
          rintro e w3 ⟨rfl, rfl⟩
          rw [HQ.out]
          go_wp2
          rw [Exit.toLabel_ret]
          exact bodyPost_ret (v := .tuple #[.int .i64 ((k + r : Nat) : Int), .int .i64 0]) (by simp [results, Tryd.results29, go_sem]) rfl ⟨by rw [HV.out], HB2.out⟩
        · have hcap2 : cap ≤ k := by omega
          have hlen2 : len ≤ k := by omega
          have HA := Lib.hid ((H.out.below HB.out).past (k := k) (by omega) (some ⟨b, off, none⟩) 0 (by decide))
          have HQ : Hid (pre2 47 42 (l.drop (k + r)) = false) := Lib.hid (by rw [List.drop_eq_nil_iff.2 (by omega)]; rfl)
          have HE8 : Hid (runL 8 (l.drop (k + r)) = 0) := Lib.hid (by rw [List.drop_eq_nil_iff.2 (by omega)]; rfl)
          have HV : Hid (sk l = (k + r, 0)) := Lib.hid (sk_stop H.out.rng (by omega) HS1.out HZ.out HE8.out HQ.out)
          go_wp2_with fail
          refine (run_any _ _ _ (l.drop k) 1 _ HA.out (HT.out.keep HB.out)).mono ?_
          rintro e w1 ⟨rfl, hb1⟩
          have HB1 : Hid (Below w.heap.size w w1) := Lib.hid (HB.out.trans (hb1.mono HB.out.size))
          clear hb1
          rw [HR.out]
          have HA1 := Lib.hid ((H.out.below HB1.out).past (k := k + r) (by omega) (some ⟨b, off, none⟩) 0 (by decide))
          go_wp2_with fail
          refine (run_any _ _ _ (l.drop (k + r)) 8 _ HA1.out (HT.out.keep HB1.out)).mono ?_
          rintro e w2 ⟨rfl, hb2⟩
          have HB2 : Hid (Below w.heap.size w w2) := Lib.hid (HB1.out.trans (hb2.mono HB1.out.size))
          clear hb2
          rw [HE8.out]
          go_wp2_with fail
          refine (begins47_any _ _ _ (l.drop (k + r)) _ ((H.out.below HB2.out).past (k := k + r) (by omega) (some ⟨b, off, none⟩) 0 (by decide))).mono ?_
          rintro e w3 ⟨rfl, rfl⟩
          rw [HQ.out]
          go_wp2
          rw [Exit.toLabel_ret]
          exact bodyPost_ret (v := .tuple #[.int .i64 ((k + r : Nat) : Int), .int .i64 0]) (by simp [results, Tryd.results29, go_sem]) rfl ⟨by rw [HV.out], HB2.out⟩
    · obtain ⟨k, f, d, u1, u7, u8, u9, u10, u11, u12, u13, u14, u15, u16, u17, u18, u19, u20, u21, u22, u23, u24, u25, u26, u27, u28, u29, u30, u31, u32, u33, u34, u35, u36, u37, u38, u39, u40, u41, u42, u43, u44, u45, u46, u47, u48, u49, u50, u51, u52, u53, u54, u55, u56, rfl, hfk, hk, hd1, hd2, HF, HC, HS, HB⟩ := hJ
      have hm' : 2 * (len - k) = m := by simpa [LM, intOf] using hm
      clear hm
      refine ⟨_, rfl, ?_⟩
      by_cases hlt : k < len
      · have hcap0 : k < cap := by omega
        have hne : ¬ len - k = 0 := by omega
        have HA := Lib.hid ((H.out.below HB.out).drop hk)
        by_cases p1 : pre2 47 42 (l.drop k) = true
        · have HP := Lib.hid p1
          have hk2 := (pre2_head p1).1
          have HN : Hid (cmAt l (k + 2) (d + 1) = cmAt l f 0) := Lib.hid (by rw [← cmAt_open p1]; exact HC.out)
          clear p1
          go_wp2_with fail
          refine (begins47_any _ _ _ (l.drop k) _ HA.out).mono ?_
          rintro e w3 ⟨rfl, rfl⟩
          rw [HP.out]
          go_wp2
          go_step3
          refine (show LJ b off len cap l w 1 _ _ ∧ LM len 1 _ _ < m from ⟨?_, by simp [LM, intOf]; omega⟩)
          unfold LJ
          exact ⟨k + 2, f, d + 1, _, _, _, _, _, _, _, _, _, _, _, _, _, _, _, _, _, _, _, _, _, _, _, _, _, _, _, _, _, _, _, _, _, _, _, _, _, _, _, _, _, _, _, _, _, _, _, _, _, _, _, rfl, by omega, by omega, by omega, by omega, HF, HN, HS, HB⟩
        · have hp1 : pre2 47 42 (l.drop k) = false := by simpa using p1
          have HP := Lib.hid hp1
          by_cases p2 : pre2 42 47 (l.drop k) = true
          · have HP2 := Lib.hid p2
            have hk2 := (pre2_head p2).1
            by_cases hd : d = 1
            · subst hd
              have HN : Hid (skAt l (k + 2) = sk l) := Lib.hid (by rw [← skAt_some HF.out (by rw [← HC.out]; exact cmAt_last p2)]; exact HS.out)
              clear p1 hp1 p2
              go_wp2_with fail
              refine (begins47_any _ _ _ (l.drop k) _ HA.out).mono ?_
              rintro e w3 ⟨rfl, rfl⟩
              rw [HP.out]
              go_wp2_with fail
              refine (begins42_any _ _ _ (l.drop k) _ HA.out).mono ?_
              rintro e w3 ⟨rfl, rfl⟩
              rw [HP2.out]
              go_wp2
              go_step3
              refine (show LJ b off len cap l w 0 _ _ ∧ LM len 0 _ _ < m from ⟨?_, by simp [LM, intOf]; omega⟩)
              unfold LJ
              exact ⟨k + 2, _, _, _, _, _, _, _, _, _, _, _, _, _, _, _, _, _, _, _, _, _, _, _, _, _, _, _, _, _, _, _, _, _, _, _, _, _, _, _, _, _, _, _, _, _, _, _, _, _, _, _, _, rfl, by omega, HN, HB⟩
            · have HN : Hid (cmAt l (k + 2) (d - 1) = cmAt l f 0) := Lib.hid (by rw [← cmAt_close p2 hd]; exact HC.out)
              have hd' : ¬ d - 1 = 0 := by omega
              clear p1 hp1 p2
              go_wp2_with fail
              refine (begins47_any _ _ _ (l.drop k) _ HA.out).mono ?_
              rintro e w3 ⟨rfl, rfl⟩
              rw [HP.out]
              go_wp2_with fail
              refine (begins42_any _ _ _ (l.drop k) _ HA.out).mono ?_
              rintro e w3 ⟨rfl, rfl⟩
              rw [HP2.out]
              go_wp2
              go_step3
              refine (show LJ b off len cap l w 1 _ _ ∧ LM len 1 _ _ < m from ⟨?_, by simp [LM, intOf]; omega⟩)
              unfold LJ
              exact ⟨k + 2, f, d - 1, _, _, _, _, _, _, _, _, _, _, _, _, _, _, _, _, _, _, _, _, _, _, _, _, _, _, _, _, _, _, _, _, _, _, _, _, _, _, _, _, _, _, _, _, _, _, _, _, _, _, _, rfl, by omega, by omega, by omega, by omega, HF, HN, HS, HB⟩
          · have hp2 : pre2 42 47 (l.drop k) = false := by simpa using p2
            have HP2 := Lib.hid hp2
            have HN : Hid (cmAt l (k + 1) d = cmAt l f 0) := Lib.hid (by rw [← cmAt_else (by omega) hp1 hp2]; exact HC.out)
            clear p1 hp1 p2 hp2
            go_wp2_with fail
            refine (begins47_any _ _ _ (l.drop k) _ HA.out).mono ?_
            rintro e w3 ⟨rfl, rfl⟩
            rw [HP.out]
            go_wp2_with fail
            refine (begins42_any _ _ _ (l.drop k) _ HA.out).mono ?_
            rintro e w3 ⟨rfl, rfl⟩
            rw [HP2.out]
            go_wp2
            go_step3
            refine (show LJ b off len cap l w 1 _ _ ∧ LM len 1 _ _ < m from ⟨?_, by simp [LM, intOf]; omega⟩)
            unfold LJ
            exact ⟨k + 1, f, d, _, _, _, _, _, _, _, _, _, _, _, _, _, _, _, _, _, _, _, _, _, _, _, _, _, _, _, _, _, _, _, _, _, _, _, _, _, _, _, _, _, _, _, _, _, _, _, _, _, _, _, rfl, by omega, by omega, by omega, by omega, HF, HN, HS, HB⟩
      · have hlen : len ≤ k := by omega
        by_cases hcap0 : k < cap
        · skip
          have HV : Hid (sk l = (f, 14)) := Lib.hid (by rw [← HS.out]; exact skAt_none HF.out (by rw [← HC.out]; exact cmAt_end (by omega)))
          go_wp2
          rw [Exit.toLabel_ret]
          exact bodyPost_ret (v := .tuple #[.int .i64 f, .int .i64 14]) (by simp [results, Tryd.results29, go_sem]) rfl ⟨by rw [HV.out], HB.out⟩
        · have hcap2 : cap ≤ k := by omega
          have HV : Hid (sk l = (f, 14)) := Lib.hid (by rw [← HS.out]; exact skAt_none HF.out (by rw [← HC.out]; exact cmAt_end (by omega)))
          go_wp2
          rw [Exit.toLabel_ret]
          exact bodyPost_ret (v := .tuple #[.int .i64 f, .int .i64 14]) (by simp [results, Tryd.results29, go_sem]) rfl ⟨by rw [HV.out], HB.out⟩
    · exact hJ.elim

end Go.Proofs.YtecabgmkoknbgaaDoor
