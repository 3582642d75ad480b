/- Contract of package token's first: the map tells which function scans the token. -/
import Derived.Test.YtecabgmkoknbgaaDoorTc
namespace Go.Proofs.YtecabgmkoknbgaaDoor
open Go.RowKit

theorem scans_m (w : World) :
    Calls Tryd.prog 41 #[] w fun r w' => ∃ M, r = .returned (.map (some M)) ∧ Below w.heap.size w w' ∧ M < w'.heap.size ∧ w'.heap[M]? = some (.map scanEs 7) :=
  (scans_any w).mono fun _ _ h => ⟨_, h.1, h.2 ▸ ⟨(Below.refl _ _).alloc (Nat.le_refl _) _, by simp, heap_alloc_new w _⟩⟩

set_option maxHeartbeats 1000000 in
theorem first_go (a : Option Addr) (len cap : Nat) (l : List Int) (w : World) (h : Bs w a len cap l) (ht : Tab w) (h0 : 0 < len) (k : Int) (hk : cls (bt l 0) = k) (hkr : 0 ≤ k ∧ k ≤ 9)
    (F : Nat) (hfs : F = 56 ∨ F = 57 ∨ F = 58 ∨ F = 59 ∨ F = 60 ∨ F = 61) (hv : scanV k = .func (.func F) #[] #[]) (hs : scanB k = true) (t : TR)
    (hF : ∀ w1, Below w.heap.size w w1 → Calls Tryd.prog F #[.slice a len cap] w1 fun r w' => r = .returned (tkv t) ∧ Below w1.heap.size w1 w') :
    Calls Tryd.prog 32 #[.slice a len cap] w fun r w' => r = .returned (tkv t) ∧ Below w.heap.size w w' := by
  have hlc := h.lc
  have hcm := h.cm
  have hl := h.hl
  unfold maxLen at hcm
  have r0 := (bt_rng h.rng 0).1
  have r1 := (bt_rng h.rng 0).2
  have HW0 := Lib.hid (wTok_below w)
  have HC0 := Lib.hid (wTok_tc w)
  have H := Lib.hid h
  have HT := Lib.hid ht
  obtain ⟨b, off, rfl, hbl, hc⟩ := h.at_ h0
  have HCK : Hid (w.cell? ⟨b, off, none⟩ = some (.int .u8 (bt l 0))) := Lib.hid (hc 0 h0)
  have HK := Lib.hid hk
  have HKR := Lib.hid hkr
  have HV := Lib.hid hv
  have HS := Lib.hid hs
  have HFS := Lib.hid hfs
  have HFF := Lib.hid hF
  clear h ht hc hk hv hs hkr hfs hF
  go_enter Tryd.func32, Tryd.ntmps32
  go_wp2
  have hX : (wTok w).cell? ⟨b, off, none⟩ = some (.int .u8 (bt l 0)) := (HW0.out.cell hbl).trans HCK.out
  go_region_held3 (fun w' => w'.cell? ⟨b, off, none⟩ = some (.int .u8 (bt l 0)))
    (first
      | exact (HW2.out.cell hbl).trans HCK.out
      | exact (HW1.out.cell hbl).trans HCK.out
      | go_keep)
    (first
      | (go_at_call 41; refine (scans_m _).mono ?_; rintro e w1 ⟨M, rfl, hb1, hM1, hM2⟩; have HW1 : Hid (Below w.heap.size w w1) := Lib.hid (HW0.out.drew.trans (hb1.mono HW0.out.size)); have HC1 : Hid (TC w.heap.size w1) := Lib.hid (HC0.out.keep ((Below.refl _ _).drew.trans hb1)); have HM1 := Lib.hid hM1; have HM2 := Lib.hid hM2; clear hb1 hM1 hM2)
      | (go_at_call 42; refine (of_any _ _ (HT.out.keep HW1.out) r0 r1).mono ?_; rw [HK.out]; rintro e w2 ⟨rfl, hb2⟩; have HW2 : Hid (Below w.heap.size w w2) := Lib.hid (HW1.out.trans (hb2.mono HW1.out.size)); have HC2 : Hid (TC w.heap.size w2) := Lib.hid (HC1.out.keep hb2); have hlk := look_any M k HKR.out w2 ((hb2.block M HM1.out).trans HM2.out); rw [HV.out, HS.out] at hlk; clear hb2))
  go_wp2_with fail
  rcases HFS.out with rfl | rfl | rfl | rfl | rfl | rfl
  all_goals
    go_wp2_with fail
    refine (HFF.out w2 HW2.out).mono ?_
    rintro e w3 ⟨rfl, hb3⟩
    have HW3 : Hid (Below w.heap.size w w3) := Lib.hid (HW2.out.trans (hb3.mono HW2.out.size))
    have HC3 : Hid (TC w.heap.size w3) := Lib.hid (HC2.out.keep hb3)
    clear hb3
    unfold tkv
    have q0 := HC3.out.q0
    have q1 := HC3.out.q1
    have q2 := HC3.out.q2
    have q3 := HC3.out.q3
    have q4 := HC3.out.q4
    have z0 := HC3.out.z 0
    have z1 := HC3.out.z 1
    have z2 := HC3.out.z 2
    have z3 := HC3.out.z 3
    have z4 := HC3.out.z 4
    have hlt := HC3.out.lt
    go_wp2
    exact bodyPost_ret (v := .agg #[.int .i64 t.k, .int .i64 0, .int .i64 t.n, .string (bstr t.t), .int .i64 t.e]) (by simp [results, Tryd.results32, go_sem, q0, q1, q2, q3, q4]) rfl ⟨rfl, set5_below HW3.out (Nat.le_refl _) _ _ _ _ _⟩

set_option maxHeartbeats 1000000 in
theorem first_no (a : Option Addr) (len cap : Nat) (l : List Int) (w : World) (h : Bs w a len cap l) (ht : Tab w) (h0 : 0 < len) (k : Int) (hk : cls (bt l 0) = k) (hkr : 0 ≤ k ∧ k ≤ 9)
    (hv : scanV k = .nilFunc) (hs : scanB k = false) :
    Calls Tryd.prog 32 #[.slice a len cap] w fun r w' => r = .returned (tkv ⟨8, 1, [], 11⟩) ∧ Below w.heap.size w w' := by
  have hlc := h.lc
  have hcm := h.cm
  have hl := h.hl
  unfold maxLen at hcm
  have r0 := (bt_rng h.rng 0).1
  have r1 := (bt_rng h.rng 0).2
  have HW0 := Lib.hid (wTok_below w)
  have HC0 := Lib.hid (wTok_tc w)
  have H := Lib.hid h
  have HT := Lib.hid ht
  obtain ⟨b, off, rfl, hbl, hc⟩ := h.at_ h0
  have HCK : Hid (w.cell? ⟨b, off, none⟩ = some (.int .u8 (bt l 0))) := Lib.hid (hc 0 h0)
  have HK := Lib.hid hk
  have HKR := Lib.hid hkr
  have HV := Lib.hid hv
  have HS := Lib.hid hs
  clear h ht hc hk hv hs hkr
  go_enter Tryd.func32, Tryd.ntmps32
  go_wp2
  have hX : (wTok w).cell? ⟨b, off, none⟩ = some (.int .u8 (bt l 0)) := (HW0.out.cell hbl).trans HCK.out
  go_region_held3 (fun w' => w'.cell? ⟨b, off, none⟩ = some (.int .u8 (bt l 0)))
    (first
      | exact (HW2.out.cell hbl).trans HCK.out
      | exact (HW1.out.cell hbl).trans HCK.out
      | go_keep)
    (first
      | (go_at_call 41; refine (scans_m _).mono ?_; rintro e w1 ⟨M, rfl, hb1, hM1, hM2⟩; have HW1 : Hid (Below w.heap.size w w1) := Lib.hid (HW0.out.drew.trans (hb1.mono HW0.out.size)); have HC1 : Hid (TC w.heap.size w1) := Lib.hid (HC0.out.keep ((Below.refl _ _).drew.trans hb1)); have HM1 := Lib.hid hM1; have HM2 := Lib.hid hM2; clear hb1 hM1 hM2)
      | (go_at_call 42; refine (of_any _ _ (HT.out.keep HW1.out) r0 r1).mono ?_; rw [HK.out]; rintro e w2 ⟨rfl, hb2⟩; have HW2 : Hid (Below w.heap.size w w2) := Lib.hid (HW1.out.trans (hb2.mono HW1.out.size)); have HC2 : Hid (TC w.heap.size w2) := Lib.hid (HC1.out.keep hb2); have hlk := look_any M k HKR.out w2 ((hb2.block M HM1.out).trans HM2.out); rw [HV.out, HS.out] at hlk; clear hb2))
  go_wp2_with fail
  refine (bad_any 1 11 _).mono ?_
  rintro e w3 ⟨rfl, hb3⟩
  have HW3 : Hid (Below w.heap.size w w3) := Lib.hid (HW2.out.trans (hb3.mono HW2.out.size))
  have HC3 : Hid (TC w.heap.size w3) := Lib.hid (HC2.out.keep hb3)
  clear hb3
  have q0 := HC3.out.q0
  have q1 := HC3.out.q1
  have q2 := HC3.out.q2
  have q3 := HC3.out.q3
  have q4 := HC3.out.q4
  have z0 := HC3.out.z 0
  have z1 := HC3.out.z 1
  have z2 := HC3.out.z 2
  have z3 := HC3.out.z 3
  have z4 := HC3.out.z 4
  have hlt := HC3.out.lt
  go_wp2
  exact bodyPost_ret (v := .agg #[.int .i64 8, .int .i64 0, .int .i64 1, .string ⟨#[]⟩, .int .i64 11]) (by simp [results, Tryd.results32, go_sem, q0, q1, q2, q3, q4]) rfl ⟨rfl, set5_below HW3.out (Nat.le_refl _) _ _ _ _ _⟩

theorem first_any (a : Option Addr) (len cap : Nat) (l : List Int) (w : World) (h : Bs w a len cap l) (ht : Tab w) (h0 : 0 < len) (hsz : len ≤ 1000000) :
    Calls Tryd.prog 32 #[.slice a len cap] w fun r w' => r = .returned (tkv (firstT l)) ∧ Below w.heap.size w w' := by
  have hr := cls_rng (bt_rng h.rng 0).1 (bt_rng h.rng 0).2
  obtain hk | hk | hk | hk | hk | hk | hk | hk | hk | hk : cls (bt l 0) = 2 ∨ cls (bt l 0) = 3 ∨ cls (bt l 0) = 9 ∨ cls (bt l 0) = 5 ∨ cls (bt l 0) = 4 ∨ cls (bt l 0) = 7 ∨ cls (bt l 0) = 6 ∨ cls (bt l 0) = 0 ∨ cls (bt l 0) = 1 ∨ cls (bt l 0) = 8 := by omega
  · have hn : highT l = nameT 1 l := by
      unfold highT
      have h1 := nmB_name (l := l) (fun hn => by have := congrArg List.length hn; rw [h.hl] at this; simp at this; omega) h.rng (nameB_of (Or.inl hk))
      have := nmL_pos h1.1
      rw [if_neg (by omega)]
    rw [firstT2 hk, ← hn]
    exact first_go a len cap l w h ht h0 2 hk (by omega) 56 (by simp) rfl rfl _ fun w1 hb => atom_any a len cap l w1 (h.below hb) (ht.keep hb)
  · rw [firstT3 hk]
    exact first_go a len cap l w h ht h0 3 hk (by omega) 57 (by simp) rfl rfl _ fun w1 hb => variable_any a len cap l w1 (h.below hb) (ht.keep hb)
  · rw [firstT9 hk]
    exact first_go a len cap l w h ht h0 9 hk (by omega) 56 (by simp) rfl rfl _ fun w1 hb => atom_any a len cap l w1 (h.below hb) (ht.keep hb)
  · rw [firstT5 hk]
    exact first_go a len cap l w h ht h0 5 hk (by omega) 58 (by simp) rfl rfl _ fun w1 hb => symbol_any a len cap l w1 (h.below hb) (ht.keep hb) h0 hk
  · rw [firstT4 hk]
    exact first_go a len cap l w h ht h0 4 hk (by omega) 59 (by simp) rfl rfl _ fun w1 hb => number_any a len cap l w1 (h.below hb) (ht.keep hb)
  · rw [firstT7 hk]
    exact first_go a len cap l w h ht h0 7 hk (by omega) 60 (by simp) rfl rfl _ fun w1 hb => qtok_any a len cap l w1 (h.below hb) (ht.keep hb) hsz
  · rw [firstT6 hk]
    exact first_go a len cap l w h ht h0 6 hk (by omega) 61 (by simp) rfl rfl _ fun w1 hb => solo_any a len cap l w1 (h.below hb) (ht.keep hb) h0
  all_goals
    rw [firstT0 (by omega)]
    exact first_no a len cap l w h ht h0 _ hk (by omega) rfl rfl

end Go.Proofs.YtecabgmkoknbgaaDoor
