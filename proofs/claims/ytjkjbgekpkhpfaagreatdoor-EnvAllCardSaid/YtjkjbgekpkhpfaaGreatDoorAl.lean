/- EnvAll (laid by genAl.py over XAl.start.txt: the tail stands three times). -/
import Derived.Test.YtjkjbgekpkhpfaaGreatDoorAu
import Derived.Test.YtjkjbgekpkhpfaaGreatDoorAh
import Derived.Test.YtjkjbgekpkhpfaaGreatDoorAk
import Derived.Test.YtjkjbgekpkhpfaaGreatDoorBr
import Derived.Test.YtjkjbgekpkhpfaaGreatDoorBf
import Derived.Test.YtjkjbgekpkhpfaaGreatDoorAy
import Derived.Test.YtjkjbgekpkhpfaaGreatDoorAq
import Derived.Deep.DeepCutAuto
namespace Go.Proofs.YtjkjbgekpkhpfaaGreatDoor
open Go.RowKit

/-! ### Mathematics -/

theorem addL_sub {L : List OP} {o x : OP} (h : x ∈ addL L o) : x = o ∨ x ∈ L := by
  unfold addL at h
  rcases List.mem_append.1 h with h | h
  · rcases List.mem_append.1 h with h | h
    · exact .inr (List.mem_of_mem_take h)
    · exact .inl (List.mem_singleton.1 h)
  · exact .inr (List.mem_of_mem_drop h)
theorem drpL_sub {L : List OP} {p : Nm} {x : OP} (h : x ∈ drpL L p) : x ∈ L := by
  unfold drpL at h
  split at h
  · cases h
  · rcases List.mem_append.1 h with h | h
    · exact List.mem_of_mem_take h
    · exact List.mem_of_mem_drop h
theorem drpL_le (L : List OP) (p : Nm) : (drpL L p).length ≤ L.length := by
  unfold drpL
  split
  · simp
  · rw [List.length_append, List.length_take, List.length_drop]; omega
theorem addR_fine {L : List OP} {o : OP} {n : Nat} (h : ∀ x ∈ L, x.1.length ≤ n) (ho : o.1.length ≤ n) : (addR L o).length ≤ L.length + 1 ∧ ∀ x ∈ addR L o, x.1.length ≤ n := by
  unfold addR
  split
  · refine ⟨by rw [addL_len]; split <;> omega, fun x hx => ?_⟩
    rcases addL_sub hx with rfl | hx
    · exact ho
    · exact h x hx
  · exact ⟨by simp, fun x hx => by cases hx⟩

/-- A call in a block of its own. -/
def LB (w : World) (b : Nat) (k : Int) (p : Nm) (g a : Int) (G H : Int) : Prop := w.heap[b]? = some (.cells #[.int .u8 k, .string (mk p), .int .i64 g, .int .i64 a, .int .i64 G, .int .i64 H] 30 (0, 0))
theorem LB.keep {w w' : World} {b B : Nat} {k : Int} {p : Nm} {g a G H : Int} (h : LB w b k p g a G H) (hb : Below B w w') (hB : b < B) : LB w' b k p g a G H := (hb.block b hB).trans h
theorem LB.cells {w : World} {b : Nat} {k : Int} {p : Nm} {g a G H : Int} (h : LB w b k p g a G H) : w.cell? ⟨b, 0, none⟩ = some (.int .u8 k) ∧ w.cell? ⟨b, 1, none⟩ = some (.string (mk p)) ∧ w.cell? ⟨b, 2, none⟩ = some (.int .i64 g) ∧ w.cell? ⟨b, 3, none⟩ = some (.int .i64 a) ∧ w.cell? ⟨b, 4, none⟩ = some (.int .i64 G) ∧ w.cell? ⟨b, 5, none⟩ = some (.int .i64 H) :=
  ⟨(cell_of_row w b 0 _ _ _ h).trans rfl, (cell_of_row w b 1 _ _ _ h).trans rfl, (cell_of_row w b 2 _ _ _ h).trans rfl, (cell_of_row w b 3 _ _ _ h).trans rfl, (cell_of_row w b 4 _ _ _ h).trans rfl, (cell_of_row w b 5 _ _ _ h).trans rfl⟩
theorem cut60 (p : Nm) : ∃ v : Nat, min ((mk p).size : Int) 60 = (v : Int) ∧ ∀ w, (Instr.slice 9 (.string (mk p)) none (some (.int .i64 v)) none).run Tryz.prog w = .ok (.string (mk (p.take 60))) w := by
  refine ⟨min p.length 60, by rw [mk_size]; omega, fun w => ?_⟩
  rw [run_hi w p _ (by omega)]
  congr 3
  by_cases h30 : p.length ≤ 60
  · rw [Nat.min_eq_left h30, List.take_of_length_le (Nat.le_refl _), List.take_of_length_le h30]
  · rw [Nat.min_eq_right (by omega)]

set_option maxRecDepth 100000 in
set_option maxHeartbeats 64000000 in
theorem envAll_any (a : Option Addr) (n c : Nat) (L : List OP) (z : List Int) (kk : Nat) (p : Nm) (g s gg hh : Int) (x : Nm) (w : World) (ht : Tab w) (h : OpS w a n c L) (hz : z.length = 10) (hr : ∀ i, i < 10 → I64 (bt z i)) (hkk : kk ≤ 255) :
    Calls Tryz.prog 3 #[.agg (ev a n c z), .agg #[.int .u8 kk, .string (mk p), .int .i64 g, .int .i64 s, .int .i64 gg, .int .i64 hh], .string (mk x)] w fun e w' => e = .returned (.bool true) ∧ Below w.heap.size w w' := by
  have hnew : ∀ W : World, EB (W.alloc (.cells #[.slice none 0 0, .int .i64 0, .int .i64 0, .int .i64 0, .int .i64 0, .int .i64 0, .int .i64 0, .int .i64 0, .int .i64 0, .int .i64 0, .int .i64 0] 26)) W.heap.size none 0 0 z0 := fun W => EB.new W none 0 0 z0
  obtain ⟨B, hB⟩ : ∃ B, B = w.heap.size := ⟨_, rfl⟩
  obtain ⟨C, hC⟩ : ∃ C, C = B + 1 := ⟨_, rfl⟩
  obtain ⟨w0, hw0⟩ : ∃ w0, w0 = w.alloc (.cells (ev a n c z) 26) := ⟨_, rfl⟩
  obtain ⟨w1, hw1⟩ : ∃ w1, w1 = w0.alloc (.cells #[.int .u8 kk, .string (mk p), .int .i64 g, .int .i64 s, .int .i64 gg, .int .i64 hh] 30) := ⟨_, rfl⟩
  have hs0 : w0.heap.size = C := by rw [hw0, hC, hB]; simp
  have hs1 : w1.heap.size = C + 1 := by rw [hw1]; simp [hs0]
  have HE1 : Hid (EB w1 B a n c z) := Lib.hid (by rw [hw1, hw0, hB]; exact (EB.new w a n c z).alloc _)
  have HL1 : Hid (LB w1 C kk p g s gg hh) := Lib.hid (by rw [hw1, ← hs0]; exact heap_alloc_new w0 _)
  have HB1 : Hid (Below B w w1) := Lib.hid (by rw [hw1, hw0, hB]; exact (below_alloc w _).alloc (by simp) _)
  have HT : Hid (Tab w) := Lib.hid ht
  have H := Lib.hid h
  have HZ := Lib.hid hz
  have HR := Lib.hid hr
  have HW : Hid (B = w.heap.size) := Lib.hid hB
  have HS1 : Hid (w1.heap.size = C + 1 ∧ C = B + 1) := Lib.hid ⟨hs1, hC⟩
  obtain ⟨v1, hv1, hcut1⟩ := cut60 p
  obtain ⟨v2, hv2, hcut2⟩ := cut60 x
  have hm1 := mk_size p
  have hm2 := mk_size x
  obtain ⟨p', hp'⟩ : ∃ q, q = p.take 60 := ⟨_, rfl⟩
  have HP' : Hid (p'.length ≤ 60) := Lib.hid (by rw [hp', List.length_take]; omega)
  obtain ⟨x', hx'⟩ : ∃ q, q = x.take 60 := ⟨_, rfl⟩
  rw [← hp'] at hcut1
  rw [← hx'] at hcut2
  obtain ⟨u1, hu1⟩ : ∃ u, u = (mk p).size := ⟨_, rfl⟩
  obtain ⟨u2, hu2⟩ : ∃ u, u = (mk x).size := ⟨_, rfl⟩
  rw [← hu1] at hv1 hm1
  rw [← hu2] at hv2 hm2
  have hu1' : (mk p).size = u1 := hu1.symm
  have hu2' : (mk x).size = u2 := hu2.symm
  have hv10 : (0 : Int) ≤ (v1 : Int) := Int.natCast_nonneg _
  have hv20 : (0 : Int) ≤ (v2 : Int) := Int.natCast_nonneg _
  clear ht h hz hr hp' hx' hu1 hu2 hm1 hm2
  go_enter Tryz.func3, Tryz.ntmps3
  go_wp2_with fail
  rw [← hw0, ← hw1, ← hB, ← hC]
  clear hw0 hw1 hB hC hs0 hs1
  refine (shown_any w1 (HT.out.keep (HW.out ▸ HB1.out))).mono ?_
  rintro e w2 ⟨rfl, hb2⟩
  have HE2 : Hid (EB w2 B a n c z) := Lib.hid (HE1.out.below hb2)
  have HL2 : Hid (LB w2 C kk p g s gg hh) := Lib.hid (HL1.out.keep hb2 (by rw [HS1.out.1]; omega))
  have HB2 : Hid (Below B w w2) := Lib.hid (HB1.out.trans (hb2.mono (by have := HS1.out; omega)))
  have HS2 : Hid (C < w2.heap.size) := Lib.hid (by have := HS1.out; have := hb2.size; omega)
  clear hb2
  go_wp2_with (refine load_env rfl (.tmp 3) rfl B rfl a n c z HZ.out HE2.out ?_)
  refine (few_any a n c L z w2 (H.out.below (HW.out ▸ HB2.out)) HZ.out).mono ?_
  obtain ⟨F, hF⟩ : ∃ F, F = fewL L := ⟨_, rfl⟩
  have HFP : Hid (∀ o ∈ F, o.1.length ≤ 60) := Lib.hid (by rw [hF]; exact fewL_pat)
  obtain ⟨nf, hnf⟩ : ∃ n, n = F.length := ⟨_, rfl⟩
  have HFL : Hid (F.length = nf) := Lib.hid hnf.symm
  have hnf20 : nf ≤ 20 := by rw [hnf, hF]; exact fewL_len L
  rw [← hF, ← hnf]
  rintro e w3 ⟨af, cf, rfl, ho3, hb3⟩
  have HO3 := Lib.hid ho3
  have HL3 : Hid (LB w3 C kk p g s gg hh) := Lib.hid (HL2.out.keep hb3 HS2.out)
  have HB3 : Hid (Below B w w3) := Lib.hid (HB2.out.trans (hb3.mono HB2.out.size |> fun h => by have := HS2.out; have := HS1.out; exact hb3.mono (by omega)))
  have HS3 : Hid (w2.heap.size ≤ w3.heap.size) := Lib.hid hb3.size
  clear hb3 ho3 hF hnf
  obtain ⟨X, hX⟩ : ∃ X, X = w3.heap.size := ⟨_, rfl⟩
  go_wp2_with (first
    | (refine store_env rfl (.tmp 8) (.tmp 17) rfl _ rfl af nf cf z rfl HZ.out none 0 0 z0 z0_len (hnew w3) ?_; intro w4 he4 hq4; rw [← hX] at he4 hq4; have HE4 := Lib.hid he4; have HB34 : Hid (Below w3.heap.size w3 w4) := Lib.hid ((below_alloc w3 _).trans (hq4.below (by rw [hX]; exact Nat.le_refl _))); have HL4 : Hid (LB w4 C kk p g s gg hh) := Lib.hid (HL3.out.keep HB34.out (by have := HS2.out; have := HS3.out; omega)); obtain ⟨c0, c1, c2, c3, c4, c5⟩ := HL4.out.cells; clear he4 hq4)
    | (refine wpList_store_cell rfl 9 30 (.tmp 28) (.tmp 26) rfl C 1 [.int .u8 kk, .string (mk p), .int .i64 g, .int .i64 s, .int .i64 gg, .int .i64 hh] (.string (mk p')) rfl rfl string_size1 rfl HL4.out (by simp) rfl ?_; intro w5 hl5 hq5; have HL5 : Hid (LB w5 C kk p' g s gg hh) := Lib.hid hl5; have HQ5 := Lib.hid hq5; clear hl5 hq5 c0 c1 c2 c3 c4 c5; obtain ⟨c0, c1, c2, c3, c4, c5⟩ := HL5.out.cells)
    | (refine load_env rfl (.tmp 8) rfl X (by rw [← hX]; rfl) af nf cf z HZ.out (HE4.out.only HQ5.out (by have := HS2.out; have := HS3.out; omega)) ?_))
  rw [← hX]
  have HE5 : Hid (EB w5 X af nf cf z) := Lib.hid (HE4.out.only HQ5.out (by have := HS2.out; have := HS3.out; omega))
  have HO5 : Hid (OwnO w2.heap.size w5 af nf cf F) := Lib.hid (ownO_only (HO3.out.keep HB34.out (Nat.le_refl _)) HQ5.out HS2.out)
  have HB5 : Hid (Below B w w5) := Lib.hid ((HB3.out.trans (HB34.out.mono (by have := HS1.out; have := HS2.out; have := HS3.out; omega))).trans (HQ5.out.below (by have := HS1.out; omega)))
  have HC5 : Hid (C < w5.heap.size ∧ X < w5.heap.size) := Lib.hid ⟨(Array.getElem?_eq_some_iff.1 HL5.out).1, HE5.out.lt⟩
  have HSB : Hid (B ≤ w5.heap.size) := Lib.hid (by have := HS1.out; have := HC5.out; omega)
  have KW : Hid (∀ w', Below w5.heap.size w5 w' → EB w' X af nf cf z ∧ OpS w' af nf cf F ∧ LB w' C kk p' g s gg hh ∧ Tab w' ∧ Below B w w') := Lib.hid fun w' hb => by
    have h1 := HB5.out.trans (hb.mono HSB.out)
    exact ⟨HE5.out.below hb, HO5.out.vs.below hb, HL5.out.keep hb HC5.out.1, HT.out.keep (HW.out ▸ h1), h1⟩
  clear hX c0 c1 c2 c3 c4 c5 HE4 HL3 HL4 HE1 HL1 HE2 HL2 HO3 HB34 HQ5
  obtain ⟨LA, hLA⟩ : ∃ l, l = addR F (p', g, s) := ⟨_, rfl⟩
  obtain ⟨ZA, hZA⟩ : ∃ l, l = addZ F z (p', g, s) := ⟨_, rfl⟩
  obtain ⟨ea, hea⟩ : ∃ l, l = addE F (p', g, s) := ⟨_, rfl⟩
  have HLA : Hid (LA.length ≤ 21 ∧ ∀ o ∈ LA, o.1.length ≤ 60) := Lib.hid (by
    rw [hLA]
    have := addR_fine HFP.out (o := (p', g, s)) HP'.out
    exact ⟨by have := HFL.out; omega, this.2⟩)
  have HZA : Hid (ZA.length = 10) := Lib.hid (by
    rw [hZA]; unfold addZ; split
    · exact HZ.out
    · rfl)
  have KA : Hid (∀ w', Below w5.heap.size w5 w' → Calls Tryz.prog 7 #[.agg (ev af nf cf z), .agg #[.string (mk p'), .int .i64 g, .int .i64 s]] w' fun e w'' => ∃ a' n' c', e = .returned (.tuple #[.agg (ev a' n' c' ZA), .int .i64 ea]) ∧ OwnO w'.heap.size w'' a' n' c' LA ∧ Below w'.heap.size w' w'') := Lib.hid fun w' hb => by
    rw [hLA, hZA, hea]
    exact add_any af nf cf F z (p', g, s) w' (KW.out w' hb).2.2.2.1 (KW.out w' hb).2.1 HZ.out (by omega) (Nat.le_trans HP'.out (by decide))
  have KB : Hid (∀ w', Below w5.heap.size w5 w' → Calls Tryz.prog 8 #[.agg (ev af nf cf z), .agg #[.string (mk p'), .int .i64 g, .int .i64 s]] w' fun e w'' => ∃ a' n' c', e = .returned (.tuple #[.agg (ev a' n' c' ZA), .int .i64 ea]) ∧ OwnO w'.heap.size w'' a' n' c' LA ∧ Below w'.heap.size w' w'') := Lib.hid fun w' hb => by
    rw [hLA, hZA, hea]
    exact radd_any af nf cf F z (p', g, s) w' (KW.out w' hb).2.1 HZ.out (by omega) (Nat.le_trans HP'.out (by decide))
  clear hLA hZA hea
  refine (KA.out w5 (Below.refl _ _)).mono ?_
  rintro e w6 ⟨aa, na, ca, rfl, ho6, hb6⟩
  have HO6 := Lib.hid ho6
  have HB6 := Lib.hid hb6
  clear ho6 hb6
  obtain ⟨Ta, hTa⟩ : ∃ t, t = w6.heap.size := ⟨_, rfl⟩
  go_wp2_with (first
    | (refine store_env rfl (.tmp 10) (.tmp 39) rfl _ rfl aa na ca ZA rfl HZA.out none 0 0 z0 z0_len (hnew w6) ?_; intro w7 he7 hq7; rw [← hTa] at he7 hq7; have HE7 := Lib.hid he7; have HB67 : Hid (Below w6.heap.size w6 w7) := Lib.hid ((below_alloc w6 _).trans (hq7.below (by rw [hTa]; exact Nat.le_refl _))); have HB7 : Hid (Below w5.heap.size w5 w7) := Lib.hid (HB6.out.trans (HB67.out.mono HB6.out.size)); obtain ⟨c0, c1, c2, c3, c4, c5⟩ := (KW.out w7 HB7.out).2.2.1.cells; clear he7 hq7)
    | (refine load_env rfl (.tmp 8) rfl X rfl af nf cf z HZ.out (KW.out w7 HB7.out).1 ?_))
  rw [← hTa]
  have HO7 : Hid (OwnO w5.heap.size w7 aa na ca LA) := Lib.hid (HO6.out.keep HB67.out (Nat.le_refl _))
  have HTA : Hid (w5.heap.size ≤ Ta) := Lib.hid (by rw [hTa]; exact HB6.out.size)
  clear hTa c0 c1 c2 c3 c4 c5 HO6 HB67
  refine (KB.out w7 HB7.out).mono ?_
  rintro e w8 ⟨ab, nb, cb, rfl, ho8, hb8⟩
  have HO8 := Lib.hid ho8
  have HB8 : Hid (Below w5.heap.size w5 w8) := Lib.hid (HB7.out.trans (hb8.mono HB7.out.size))
  have HE8 : Hid (EB w8 Ta aa na ca ZA) := Lib.hid (HE7.out.below hb8)
  have HA8 : Hid (OwnO w5.heap.size w8 aa na ca LA) := Lib.hid (HO7.out.keep hb8 (Nat.le_refl _))
  clear ho8 hb8 HE7 HO7
  obtain ⟨Tb, hTb⟩ : ∃ t, t = w8.heap.size := ⟨_, rfl⟩
  have HTB : Hid (Ta < Tb) := Lib.hid (by rw [hTb]; exact HE8.out.lt)
  obtain ⟨κ, hκ⟩ : ∃ κ, κ = kk % 3 := ⟨_, rfl⟩
  have hκ3 : κ < 3 := by omega
  have htm : Int.tmod (kk : Int) 3 = (κ : Int) := by rw [Int.tmod_eq_emod_of_nonneg (by omega)]; omega
  have hem : (kk : Int) % 3 = (κ : Int) := by omega
  clear hκ
  rcases (show κ = 0 ∨ κ = 1 ∨ κ = 2 by omega) with rfl | rfl | rfl
  · go_wp2_with (refine store_env rfl (.tmp 12) (.tmp 46) rfl _ rfl ab nb cb ZA rfl HZA.out none 0 0 z0 z0_len (hnew w8) ?_; intro w9 he9 hq9; rw [← hTb] at he9 hq9; have HE9 := Lib.hid he9; have HB89 : Hid (Below w8.heap.size w8 w9) := Lib.hid ((below_alloc w8 _).trans (hq9.below (by rw [hTb]; exact Nat.le_refl _))); have HB9 : Hid (Below w5.heap.size w5 w9) := Lib.hid (HB8.out.trans (HB89.out.mono HB8.out.size)); obtain ⟨c0, c1, c2, c3, c4, c5⟩ := (KW.out w9 HB9.out).2.2.1.cells; clear he9 hq9)
    clear htm hem
    rw [← hTb]
    clear hTb c0 c1 c2 c3 c4 c5
    have HEa9 : Hid (EB w9 Ta aa na ca ZA) := Lib.hid (HE8.out.below HB89.out)
    have HA9 : Hid (OwnO w5.heap.size w9 aa na ca LA) := Lib.hid (HA8.out.keep HB89.out (Nat.le_refl _))
    have HO9 : Hid (OwnO w7.heap.size w9 ab nb cb LA) := Lib.hid (HO8.out.keep HB89.out (Nat.le_refl _))
    have HS9 : Hid (Ta < w9.heap.size ∧ Tb < w9.heap.size) := Lib.hid ⟨HEa9.out.lt, HE9.out.lt⟩
    have HLA1 : Hid (LA.length ≤ 21) := Lib.hid HLA.out.1
    have HLA2 : Hid (∀ o ∈ LA, o.1.length ≤ 60) := Lib.hid HLA.out.2
    obtain ⟨wz, hwz⟩ : ∃ wz, wz = w9 := ⟨_, rfl⟩
    have KZ : Hid (∀ w', Below wz.heap.size wz w' → (EB w' X af nf cf z ∧ OpS w' af nf cf F) ∧ (EB w' Ta aa na ca ZA ∧ OpS w' aa na ca LA) ∧ (EB w' Tb ab nb cb ZA ∧ OpS w' ab nb cb LA) ∧ Tab w') := Lib.hid fun w' hb => by
      rw [hwz] at hb
      have h5 := HB9.out.trans (hb.mono HB9.out.size)
      exact ⟨⟨(KW.out w' h5).1, (KW.out w' h5).2.1⟩, ⟨HEa9.out.below hb, HA9.out.vs.below hb⟩, ⟨HE9.out.below hb, HO9.out.vs.below hb⟩, (KW.out w' h5).2.2.2.1⟩
    have HBz : Hid (Below B w wz) := Lib.hid (by rw [hwz]; exact (KW.out _ HB9.out).2.2.2.2)
    rw [← hwz]
    clear hwz
    -- whether the entries are the same
    obtain ⟨y0, y1, y2, y3, y4, y5, y6, y7, y8, y9, rfl⟩ := ten HZ.out
    obtain ⟨x0, x1, x2, x3, x4, x5, x6, x7, x8, x9, rfl⟩ := ten HZA.out
    obtain ⟨bS, hbS⟩ : ∃ b, b = decide (entL F [y0, y1, y2, y3, y4, y5, y6, y7, y8, y9] x' = entL LA [x0, x1, x2, x3, x4, x5, x6, x7, x8, x9] x') := ⟨_, rfl⟩
    obtain ⟨E1, hE1⟩ : ∃ E, E = entL F [y0, y1, y2, y3, y4, y5, y6, y7, y8, y9] x' := ⟨_, rfl⟩
    obtain ⟨E2, hE2⟩ : ∃ E, E = entL LA [x0, x1, x2, x3, x4, x5, x6, x7, x8, x9] x' := ⟨_, rfl⟩
    obtain ⟨bU, hbU⟩ : ∃ b, b = uniqB F := ⟨_, rfl⟩
    have HLE : Hid (E1.length ≤ 1000000 ∧ E2.length ≤ 1000000) := Lib.hid ⟨by rw [hE1]; exact Nat.le_trans (entL_len ..) (by rw [HFL.out]; omega), by rw [hE2]; exact Nat.le_trans (entL_len ..) (by have := HLA1.out; omega)⟩
    have hn1 : na ≤ 1000000 := by have := (KZ.out wz (Below.refl _ _)).2.1.2; have := OpS.len this; have := HLA1.out; omega
    have hn2 : nb ≤ 1000000 := by have := (KZ.out wz (Below.refl _ _)).2.2.1.2; have := OpS.len this; have := HLA1.out; omega
    have KE : Hid (∀ w', Below wz.heap.size wz w' → Calls Tryz.prog 14 #[.agg (ev af nf cf [y0, y1, y2, y3, y4, y5, y6, y7, y8, y9]), .string (mk x')] w' fun e w'' => ∃ b1 d1, e = .returned (.slice b1 E1.length d1) ∧ Ens w'' b1 E1.length d1 E1 ∧ Below w'.heap.size w' w'') := Lib.hid fun w' hb => by
      rw [hE1]; exact rentry_any af nf cf F [y0, y1, y2, y3, y4, y5, y6, y7, y8, y9] x' w' (KZ.out w' hb).1.2 HZ.out (by omega) (fun o ho => Nat.le_trans (HFP.out o ho) (by decide))
    have KF : Hid (∀ w', Below wz.heap.size wz w' → Calls Tryz.prog 14 #[.agg (ev ab nb cb [x0, x1, x2, x3, x4, x5, x6, x7, x8, x9]), .string (mk x')] w' fun e w'' => ∃ b1 d1, e = .returned (.slice b1 E2.length d1) ∧ Ens w'' b1 E2.length d1 E2 ∧ Below w'.heap.size w' w'') := Lib.hid fun w' hb => by
      rw [hE2]; exact rentry_any ab nb cb LA [x0, x1, x2, x3, x4, x5, x6, x7, x8, x9] x' w' (KZ.out w' hb).2.2.1.2 HZA.out hn2 (fun o ho => Nat.le_trans (HLA2.out o ho) (by decide))
    have KG : Hid (∀ w', Below wz.heap.size wz w' → Calls Tryz.prog 16 #[.agg (ev af nf cf [y0, y1, y2, y3, y4, y5, y6, y7, y8, y9]), .string (mk x')] w' fun e w'' => ∃ b1 d1, e = .returned (.slice b1 E1.length d1) ∧ Ens w'' b1 E1.length d1 E1 ∧ Below w'.heap.size w' w'') := Lib.hid fun w' hb => by
      rw [hE1]; exact entry_any af nf cf F [y0, y1, y2, y3, y4, y5, y6, y7, y8, y9] x' w' (KZ.out w' hb).2.2.2 (KZ.out w' hb).1.2 HZ.out (by omega) (fun o ho => Nat.le_trans (HFP.out o ho) (by decide))
    have KM : Hid (∀ w', Below wz.heap.size wz w' → Calls Tryz.prog 17 #[.agg (ev af nf cf [y0, y1, y2, y3, y4, y5, y6, y7, y8, y9]), .agg (ev ab nb cb [x0, x1, x2, x3, x4, x5, x6, x7, x8, x9]), .string (mk x')] w' fun e w'' => e = .returned (.bool bS) ∧ Below w'.heap.size w' w'') := Lib.hid fun w' hb => by
      have hq := same_any af ab nf nb cf cb F LA [y0, y1, y2, y3, y4, y5, y6, y7, y8, y9] [x0, x1, x2, x3, x4, x5, x6, x7, x8, x9] x' w' (KZ.out w' hb).2.2.2 (KZ.out w' hb).1.2 (KZ.out w' hb).2.2.1.2 HZ.out HZA.out (by omega) hn2 (fun o ho => Nat.le_trans (HFP.out o ho) (by decide)) (fun o ho => Nat.le_trans (HLA2.out o ho) (by decide))
      rw [← hbS] at hq
      exact hq
    have KU : Hid (∀ w', Below wz.heap.size wz w' → Calls Tryz.prog 18 #[.agg (ev af nf cf [y0, y1, y2, y3, y4, y5, y6, y7, y8, y9])] w' fun e w'' => e = .returned (.bool bU) ∧ Below w'.heap.size w' w'') := Lib.hid fun w' hb => by
      have hq := uniq_any af nf cf F [y0, y1, y2, y3, y4, y5, y6, y7, y8, y9] w' (KZ.out w' hb).2.2.2 (KZ.out w' hb).1.2 (by omega) (fun o ho => Nat.le_trans (HFP.out o ho) (by decide))
      rw [← hbU] at hq
      exact hq
    have KV : Hid (∀ w', Below wz.heap.size wz w' → Calls Tryz.prog 19 #[.agg (ev af nf cf [y0, y1, y2, y3, y4, y5, y6, y7, y8, y9])] w' fun e w'' => e = .returned (.bool bU) ∧ Below w'.heap.size w' w'') := Lib.hid fun w' hb => by
      have hq := runiq_any af nf cf F [y0, y1, y2, y3, y4, y5, y6, y7, y8, y9] w' (KZ.out w' hb).1.2 (by omega) (fun o ho => Nat.le_trans (HFP.out o ho) (by decide))
      rw [← hbU] at hq
      exact hq
    have KQ : Hid (∀ w', Below wz.heap.size wz w' → Calls Tryz.prog 15 #[.agg (ev aa na ca [x0, x1, x2, x3, x4, x5, x6, x7, x8, x9]), .agg (ev ab nb cb [x0, x1, x2, x3, x4, x5, x6, x7, x8, x9])] w' fun e w'' => e = .returned (.bool true) ∧ Below w'.heap.size w' w'') := Lib.hid fun w' hb => by
      have := equal_any aa ab na nb ca cb LA LA [x0, x1, x2, x3, x4, x5, x6, x7, x8, x9] [x0, x1, x2, x3, x4, x5, x6, x7, x8, x9] w' (KZ.out w' hb).2.1.2 (KZ.out w' hb).2.2.1.2 HZA.out HZA.out hn1 hn2
      rwa [decide_eq_true (show LA = LA ∧ [x0, x1, x2, x3, x4, x5, x6, x7, x8, x9] = [x0, x1, x2, x3, x4, x5, x6, x7, x8, x9] from ⟨rfl, rfl⟩)] at this
    have KR : Hid (∀ w', Calls Tryz.prog 15 #[.agg (ev none 0 0 zS), .agg (ev none 0 0 zS)] w' fun e w'' => e = .returned (.bool true) ∧ Below w'.heap.size w' w'') := Lib.hid fun w' => by
      have := equal_any none none 0 0 0 0 [] [] zS zS w' (Vs.nil _ _ _ _ (Nat.zero_le _)) (Vs.nil _ _ _ _ (Nat.zero_le _)) rfl rfl (Nat.zero_le _) (Nat.zero_le _)
      rwa [decide_eq_true (show ([] : List OP) = [] ∧ zS = zS from ⟨rfl, rfl⟩)] at this
    have KS1 : Hid (∀ (w' : World) (b3 : Option Addr) (c3 : Nat) (b4 : Option Addr) (c4 : Nat), Ens w' b3 E1.length c3 E1 → Ens w' b4 E2.length c4 E2 → Calls Tryz.prog 13 #[.slice b3 E1.length c3, .slice b4 E2.length c4] w' fun e w'' => e = .returned (.bool bS) ∧ Below w'.heap.size w' w'') := Lib.hid fun w' b3 c3 b4 c4 h3 h4 => by
      have hq := rsameE_any b3 b4 _ _ c3 c4 E1 E2 w' h3 h4 HLE.out.1 HLE.out.2
      rw [hE1, hE2] at hq ⊢
      rw [← hbS] at hq
      exact hq
    have KS2 : Hid (∀ (w' : World) (b3 : Option Addr) (c3 : Nat) (b4 : Option Addr) (c4 : Nat), Ens w' b3 E1.length c3 E1 → Ens w' b4 E1.length c4 E1 → Calls Tryz.prog 13 #[.slice b3 E1.length c3, .slice b4 E1.length c4] w' fun e w'' => e = .returned (.bool true) ∧ Below w'.heap.size w' w'') := Lib.hid fun w' b3 c3 b4 c4 h3 h4 => by
      have := rsameE_any b3 b4 _ _ c3 c4 E1 E1 w' h3 h4 HLE.out.1 HLE.out.1
      rwa [decide_eq_true (show E1 = E1 from rfl)] at this
    have KC : Hid (∀ w', Below wz.heap.size wz w' → (w'.cell? ⟨X, 0, none⟩ = some (.slice af nf cf) ∧ w'.cell? ⟨X, 1, none⟩ = some (.int .i64 y0) ∧ w'.cell? ⟨X, 2, none⟩ = some (.int .i64 y1) ∧ w'.cell? ⟨X, 3, none⟩ = some (.int .i64 y2) ∧ w'.cell? ⟨X, 4, none⟩ = some (.int .i64 y3) ∧ w'.cell? ⟨X, 5, none⟩ = some (.int .i64 y4) ∧ w'.cell? ⟨X, 6, none⟩ = some (.int .i64 y5) ∧ w'.cell? ⟨X, 7, none⟩ = some (.int .i64 y6) ∧ w'.cell? ⟨X, 8, none⟩ = some (.int .i64 y7) ∧ w'.cell? ⟨X, 9, none⟩ = some (.int .i64 y8) ∧ w'.cell? ⟨X, 10, none⟩ = some (.int .i64 y9)) ∧ (w'.cell? ⟨Ta, 0, none⟩ = some (.slice aa na ca) ∧ w'.cell? ⟨Ta, 1, none⟩ = some (.int .i64 x0) ∧ w'.cell? ⟨Ta, 2, none⟩ = some (.int .i64 x1) ∧ w'.cell? ⟨Ta, 3, none⟩ = some (.int .i64 x2) ∧ w'.cell? ⟨Ta, 4, none⟩ = some (.int .i64 x3) ∧ w'.cell? ⟨Ta, 5, none⟩ = some (.int .i64 x4) ∧ w'.cell? ⟨Ta, 6, none⟩ = some (.int .i64 x5) ∧ w'.cell? ⟨Ta, 7, none⟩ = some (.int .i64 x6) ∧ w'.cell? ⟨Ta, 8, none⟩ = some (.int .i64 x7) ∧ w'.cell? ⟨Ta, 9, none⟩ = some (.int .i64 x8) ∧ w'.cell? ⟨Ta, 10, none⟩ = some (.int .i64 x9)) ∧ (w'.cell? ⟨Tb, 0, none⟩ = some (.slice ab nb cb) ∧ w'.cell? ⟨Tb, 1, none⟩ = some (.int .i64 x0) ∧ w'.cell? ⟨Tb, 2, none⟩ = some (.int .i64 x1) ∧ w'.cell? ⟨Tb, 3, none⟩ = some (.int .i64 x2) ∧ w'.cell? ⟨Tb, 4, none⟩ = some (.int .i64 x3) ∧ w'.cell? ⟨Tb, 5, none⟩ = some (.int .i64 x4) ∧ w'.cell? ⟨Tb, 6, none⟩ = some (.int .i64 x5) ∧ w'.cell? ⟨Tb, 7, none⟩ = some (.int .i64 x6) ∧ w'.cell? ⟨Tb, 8, none⟩ = some (.int .i64 x7) ∧ w'.cell? ⟨Tb, 9, none⟩ = some (.int .i64 x8) ∧ w'.cell? ⟨Tb, 10, none⟩ = some (.int .i64 x9))) := Lib.hid fun w' hb => ⟨env_cells (KZ.out w' hb).1.1, env_cells (KZ.out w' hb).2.1.1, env_cells (KZ.out w' hb).2.2.1.1⟩
    obtain ⟨m1, hm1⟩ : ∃ m, m = E1.length := ⟨_, rfl⟩
    obtain ⟨m2, hm2⟩ : ∃ m, m = E2.length := ⟨_, rfl⟩
    rw [← hm1] at KE KG KS1 KS2
    rw [← hm2] at KF KS1
    clear hbS hE1 hE2 hbU hm1 hm2
    go_wp2_with fail
    go_region_held3 (fun w' => (w'.cell? ⟨X, 0, none⟩ = some (.slice af nf cf) ∧ w'.cell? ⟨X, 1, none⟩ = some (.int .i64 y0) ∧ w'.cell? ⟨X, 2, none⟩ = some (.int .i64 y1) ∧ w'.cell? ⟨X, 3, none⟩ = some (.int .i64 y2) ∧ w'.cell? ⟨X, 4, none⟩ = some (.int .i64 y3) ∧ w'.cell? ⟨X, 5, none⟩ = some (.int .i64 y4) ∧ w'.cell? ⟨X, 6, none⟩ = some (.int .i64 y5) ∧ w'.cell? ⟨X, 7, none⟩ = some (.int .i64 y6) ∧ w'.cell? ⟨X, 8, none⟩ = some (.int .i64 y7) ∧ w'.cell? ⟨X, 9, none⟩ = some (.int .i64 y8) ∧ w'.cell? ⟨X, 10, none⟩ = some (.int .i64 y9)) ∧ (w'.cell? ⟨Tb, 0, none⟩ = some (.slice ab nb cb) ∧ w'.cell? ⟨Tb, 1, none⟩ = some (.int .i64 x0) ∧ w'.cell? ⟨Tb, 2, none⟩ = some (.int .i64 x1) ∧ w'.cell? ⟨Tb, 3, none⟩ = some (.int .i64 x2) ∧ w'.cell? ⟨Tb, 4, none⟩ = some (.int .i64 x3) ∧ w'.cell? ⟨Tb, 5, none⟩ = some (.int .i64 x4) ∧ w'.cell? ⟨Tb, 6, none⟩ = some (.int .i64 x5) ∧ w'.cell? ⟨Tb, 7, none⟩ = some (.int .i64 x6) ∧ w'.cell? ⟨Tb, 8, none⟩ = some (.int .i64 x7) ∧ w'.cell? ⟨Tb, 9, none⟩ = some (.int .i64 x8) ∧ w'.cell? ⟨Tb, 10, none⟩ = some (.int .i64 x9)))
      (first
        | exact ⟨(KC.out _ HV3.out).1, (KC.out _ HV3.out).2.2⟩
        | exact ⟨(KC.out _ HV2.out).1, (KC.out _ HV2.out).2.2⟩
        | exact ⟨(KC.out _ HV1.out).1, (KC.out _ HV1.out).2.2⟩
        | exact ⟨(KC.out _ (Below.refl wz.heap.size wz).drew).1, (KC.out _ (Below.refl wz.heap.size wz).drew).2.2⟩)
      (first
        | (go_at_call 13; (refine (KS1.out _ _ _ _ _ HN1.out HN2.out).mono ?_); rintro e v3 ⟨rfl, hb3⟩; have HV3 : Hid (Below wz.heap.size wz v3) := Lib.hid (HV2.out.trans (hb3.mono HV2.out.size)); clear hb3)
        | (go_at_call 14; (refine (KF.out _ HV1.out).mono ?_); rintro e v2 ⟨b4, c4, rfl, he4, hb2⟩; have HN2 := Lib.hid he4; have HN1 := Lib.hid (Vs.below HM1.out hb2); have HV2 : Hid (Below wz.heap.size wz v2) := Lib.hid (HV1.out.trans (hb2.mono HV1.out.size)); clear he4 hb2)
        | (go_at_call 14; (refine (KE.out _ (Below.refl wz.heap.size wz).drew).mono ?_); rintro e v1 ⟨b3, c3, rfl, he3, hb1⟩; have HM1 := Lib.hid he3; have HV1 : Hid (Below wz.heap.size wz v1) := Lib.hid ((Below.refl wz.heap.size wz).drew.trans hb1); clear he3 hb1))
    go_wp2_with fail
    go_region_held3 (fun w' => (w'.cell? ⟨X, 0, none⟩ = some (.slice af nf cf) ∧ w'.cell? ⟨X, 1, none⟩ = some (.int .i64 y0) ∧ w'.cell? ⟨X, 2, none⟩ = some (.int .i64 y1) ∧ w'.cell? ⟨X, 3, none⟩ = some (.int .i64 y2) ∧ w'.cell? ⟨X, 4, none⟩ = some (.int .i64 y3) ∧ w'.cell? ⟨X, 5, none⟩ = some (.int .i64 y4) ∧ w'.cell? ⟨X, 6, none⟩ = some (.int .i64 y5) ∧ w'.cell? ⟨X, 7, none⟩ = some (.int .i64 y6) ∧ w'.cell? ⟨X, 8, none⟩ = some (.int .i64 y7) ∧ w'.cell? ⟨X, 9, none⟩ = some (.int .i64 y8) ∧ w'.cell? ⟨X, 10, none⟩ = some (.int .i64 y9)) ∧ (w'.cell? ⟨Ta, 0, none⟩ = some (.slice aa na ca) ∧ w'.cell? ⟨Ta, 1, none⟩ = some (.int .i64 x0) ∧ w'.cell? ⟨Ta, 2, none⟩ = some (.int .i64 x1) ∧ w'.cell? ⟨Ta, 3, none⟩ = some (.int .i64 x2) ∧ w'.cell? ⟨Ta, 4, none⟩ = some (.int .i64 x3) ∧ w'.cell? ⟨Ta, 5, none⟩ = some (.int .i64 x4) ∧ w'.cell? ⟨Ta, 6, none⟩ = some (.int .i64 x5) ∧ w'.cell? ⟨Ta, 7, none⟩ = some (.int .i64 x6) ∧ w'.cell? ⟨Ta, 8, none⟩ = some (.int .i64 x7) ∧ w'.cell? ⟨Ta, 9, none⟩ = some (.int .i64 x8) ∧ w'.cell? ⟨Ta, 10, none⟩ = some (.int .i64 x9)) ∧ (w'.cell? ⟨Tb, 0, none⟩ = some (.slice ab nb cb) ∧ w'.cell? ⟨Tb, 1, none⟩ = some (.int .i64 x0) ∧ w'.cell? ⟨Tb, 2, none⟩ = some (.int .i64 x1) ∧ w'.cell? ⟨Tb, 3, none⟩ = some (.int .i64 x2) ∧ w'.cell? ⟨Tb, 4, none⟩ = some (.int .i64 x3) ∧ w'.cell? ⟨Tb, 5, none⟩ = some (.int .i64 x4) ∧ w'.cell? ⟨Tb, 6, none⟩ = some (.int .i64 x5) ∧ w'.cell? ⟨Tb, 7, none⟩ = some (.int .i64 x6) ∧ w'.cell? ⟨Tb, 8, none⟩ = some (.int .i64 x7) ∧ w'.cell? ⟨Tb, 9, none⟩ = some (.int .i64 x8) ∧ w'.cell? ⟨Tb, 10, none⟩ = some (.int .i64 x9)))
      (first
        | exact KC.out _ HU10.out
        | exact KC.out _ HU9.out
        | exact KC.out _ HU8.out
        | exact KC.out _ HU7.out
        | exact KC.out _ HU6.out
        | exact KC.out _ HU5.out
        | exact KC.out _ HU4.out
        | exact KC.out _ HU3.out
        | exact KC.out _ HU2.out
        | exact KC.out _ HU1.out
        | exact KC.out _ HV3.out.drew
        | exact KC.out _ HV3.out)
      (first
        | (go_at_call 15; (with_reducible refine (KR.out _).mono ?_); rintro e u10 ⟨rfl, hb⟩; have HU10 : Hid (Below wz.heap.size wz u10) := Lib.hid (HU9.out.trans (hb.mono HU9.out.size)); clear hb)
        | (go_at_call 21; (refine (rnew_any _).mono ?_); rintro e u9 ⟨rfl, hb⟩; have HU9 : Hid (Below wz.heap.size wz u9) := Lib.hid (HU8.out.trans (hb.mono HU8.out.size)); clear hb)
        | (go_at_call 20; (refine (new_any _).mono ?_); rintro e u8 ⟨rfl, hb⟩; have HU8 : Hid (Below wz.heap.size wz u8) := Lib.hid (HU7.out.trans (hb.mono HU7.out.size)); clear hb)
        | (go_at_call 19; (refine (KV.out _ HU6.out).mono ?_); rintro e u7 ⟨rfl, hb⟩; have HU7 : Hid (Below wz.heap.size wz u7) := Lib.hid (HU6.out.trans (hb.mono HU6.out.size)); clear hb)
        | (go_at_call 18; (refine (KU.out _ HU5.out).mono ?_); rintro e u6 ⟨rfl, hb⟩; have HU6 : Hid (Below wz.heap.size wz u6) := Lib.hid (HU5.out.trans (hb.mono HU5.out.size)); clear hb)
        | (go_at_call 17; (refine (KM.out _ HU4.out).mono ?_); rintro e u5 ⟨rfl, hb⟩; have HU5 : Hid (Below wz.heap.size wz u5) := Lib.hid (HU4.out.trans (hb.mono HU4.out.size)); clear hb)
        | (go_at_call 13; (refine (KS2.out _ _ _ _ _ HN3.out HN4.out).mono ?_); rintro e u4 ⟨rfl, hb⟩; have HU4 : Hid (Below wz.heap.size wz u4) := Lib.hid (HU3.out.trans (hb.mono HU3.out.size)); clear hb)
        | (go_at_call 14; (refine (KE.out _ HU2.out).mono ?_); rintro e u3 ⟨b6, c6, rfl, he, hb⟩; have HN4 := Lib.hid he; have HN3 := Lib.hid (Vs.below HM3.out hb); have HU3 : Hid (Below wz.heap.size wz u3) := Lib.hid (HU2.out.trans (hb.mono HU2.out.size)); clear he hb)
        | (go_at_call 16; (refine (KG.out _ HU1.out).mono ?_); rintro e u2 ⟨b5, c5, rfl, he, hb⟩; have HM3 := Lib.hid he; have HU2 : Hid (Below wz.heap.size wz u2) := Lib.hid (HU1.out.trans (hb.mono HU1.out.size)); clear he hb)
        | (go_at_call 15; (refine (KQ.out _ HV3.out.drew).mono ?_); rintro e u1 ⟨rfl, hb⟩; have HU1 : Hid (Below wz.heap.size wz u1) := Lib.hid (HV3.out.drew.trans (hb.mono HV3.out.drew.size)); clear hb))
    all_goals
      go_wp2
      go_ret
      exact ⟨by first | rfl | simp, by rw [← HW.out]; exact HBz.out.trans (HU10.out.mono (by have := HBz.out.size; have := HW.out; omega))⟩
  · skip
    obtain ⟨LD, hLD⟩ : ∃ l, l = drpL F p' := ⟨_, rfl⟩
    obtain ⟨ZD, hZD⟩ : ∃ l, l = drpZ F z p' := ⟨_, rfl⟩
    obtain ⟨ed, hed⟩ : ∃ l, l = drpE F p' := ⟨_, rfl⟩
    have HLD : Hid (LD.length ≤ 21 ∧ ∀ o ∈ LD, o.1.length ≤ 60) := Lib.hid (by
      rw [hLD]
      exact ⟨Nat.le_trans (drpL_le _ _) (by rw [HFL.out]; omega), fun o ho => HFP.out o (drpL_sub ho)⟩)
    have HZD : Hid (ZD.length = 10) := Lib.hid (by
      rw [hZD]; unfold drpZ; split
      · exact HZ.out
      · rfl)
    have KD : Hid (∀ w', Below w5.heap.size w5 w' → Calls Tryz.prog 9 #[.agg (ev af nf cf z), .string (mk p')] w' fun e w'' => ∃ a' n' c', e = .returned (.tuple #[.agg (ev a' n' c' ZD), .int .i64 ed]) ∧ OwnO w'.heap.size w'' a' n' c' LD ∧ Below w'.heap.size w' w'') := Lib.hid fun w' hb => by
      rw [hLD, hZD, hed]
      exact drop_any af nf cf F z p' w' (KW.out w' hb).2.1 HZ.out (by omega)
    have KT : Hid (∀ w', Below w5.heap.size w5 w' → Calls Tryz.prog 10 #[.agg (ev af nf cf z), .string (mk p')] w' fun e w'' => ∃ a' n' c', e = .returned (.tuple #[.agg (ev a' n' c' ZD), .int .i64 ed]) ∧ OwnO w'.heap.size w'' a' n' c' LD ∧ Below w'.heap.size w' w'') := Lib.hid fun w' hb => by
      rw [hLD, hZD, hed]
      exact rdrop_any af nf cf F z p' w' (KW.out w' hb).2.1 HZ.out (by omega)
    clear hLD hZD hed
    go_wp2_with (first
      | (refine store_env rfl (.tmp 12) (.tmp 46) rfl _ rfl ab nb cb ZA rfl HZA.out none 0 0 z0 z0_len (hnew w8) ?_; intro w9 he9 hq9; rw [← hTb] at he9 hq9; have HE9 := Lib.hid he9; have HB89 : Hid (Below w8.heap.size w8 w9) := Lib.hid ((below_alloc w8 _).trans (hq9.below (by rw [hTb]; exact Nat.le_refl _))); have HB9 : Hid (Below w5.heap.size w5 w9) := Lib.hid (HB8.out.trans (HB89.out.mono HB8.out.size)); obtain ⟨c0, c1, c2, c3, c4, c5⟩ := (KW.out w9 HB9.out).2.2.1.cells; clear he9 hq9)
      | (refine load_env rfl (.tmp 8) rfl X rfl af nf cf z HZ.out (KW.out w9 HB9.out).1 ?_))
    rw [← hTb]
    clear hTb c0 c1 c2 c3 c4 c5
    have HEa9 : Hid (EB w9 Ta aa na ca ZA) := Lib.hid (HE8.out.below HB89.out)
    have HA9 : Hid (OwnO w5.heap.size w9 aa na ca LA) := Lib.hid (HA8.out.keep HB89.out (Nat.le_refl _))
    have HO9 : Hid (OwnO w7.heap.size w9 ab nb cb LA) := Lib.hid (HO8.out.keep HB89.out (Nat.le_refl _))
    have HS9 : Hid (Ta < w9.heap.size ∧ Tb < w9.heap.size) := Lib.hid ⟨HEa9.out.lt, HE9.out.lt⟩
    refine (KD.out w9 HB9.out).mono ?_
    rintro e w10 ⟨ac, nc, cc, rfl, ho10, hb10⟩
    have HO10 := Lib.hid ho10
    have HB10 : Hid (Below w5.heap.size w5 w10) := Lib.hid (HB9.out.trans (hb10.mono HB9.out.size))
    have HEa10 : Hid (EB w10 Ta aa na ca ZA) := Lib.hid (HEa9.out.below hb10)
    have HEb10 : Hid (EB w10 Tb ab nb cb ZA) := Lib.hid (HE9.out.below hb10)
    clear ho10 hb10
    go_wp2_with (first
      | (refine store_env rfl (.tmp 10) (.tmp 59) rfl Ta rfl ac nc cc ZD rfl HZD.out aa na ca ZA HZA.out HEa10.out ?_; intro w11 he11 hq11; have HE11 := Lib.hid he11; have HO11 : Hid (OwnO w9.heap.size w11 ac nc cc LD) := Lib.hid (ownO_only HO10.out hq11 HS9.out.1); have HEb11 : Hid (EB w11 Tb ab nb cb ZA) := Lib.hid (HEb10.out.only hq11 (by have := HTB.out; omega)); have HB11 : Hid (Below w5.heap.size w5 w11) := Lib.hid (HB10.out.trans (hq11.below HTA.out)); obtain ⟨c0, c1, c2, c3, c4, c5⟩ := (KW.out w11 HB11.out).2.2.1.cells; clear he11 hq11)
      | (refine load_env rfl (.tmp 8) rfl X rfl af nf cf z HZ.out (KW.out w11 HB11.out).1 ?_))
    clear c0 c1 c2 c3 c4 c5
    refine (KT.out w11 HB11.out).mono ?_
    rintro e w12 ⟨ad, nd, cd, rfl, ho12, hb12⟩
    have HO12 := Lib.hid ho12
    have HB12 : Hid (Below w5.heap.size w5 w12) := Lib.hid (HB11.out.trans (hb12.mono HB11.out.size))
    have HEa12 : Hid (EB w12 Ta ac nc cc ZD) := Lib.hid (HE11.out.below hb12)
    have HEb12 : Hid (EB w12 Tb ab nb cb ZA) := Lib.hid (HEb11.out.below hb12)
    have HOa12 : Hid (OwnO w9.heap.size w12 ac nc cc LD) := Lib.hid (HO11.out.keep hb12 (Nat.le_refl _))
    have HS11 : Hid (Tb < w11.heap.size) := Lib.hid HEb11.out.lt
    clear ho12 hb12
    go_wp2_with (refine store_env rfl (.tmp 12) (.tmp 67) rfl Tb rfl ad nd cd ZD rfl HZD.out ab nb cb ZA HZA.out HEb12.out ?_; intro w13 he13 hq13; have HE13 := Lib.hid he13; have HO13 : Hid (OwnO w11.heap.size w13 ad nd cd LD) := Lib.hid (ownO_only HO12.out hq13 HS11.out); have HOa13 : Hid (OwnO w9.heap.size w13 ac nc cc LD) := Lib.hid (ownO_only HOa12.out hq13 HS9.out.2); have HEa13 : Hid (EB w13 Ta ac nc cc ZD) := Lib.hid (HEa12.out.only hq13 (by have := HTB.out; omega)); have HB13 : Hid (Below w5.heap.size w5 w13) := Lib.hid (HB12.out.trans (hq13.below (by have := HTA.out; have := HTB.out; omega))); clear he13 hq13)
    have HLD1 : Hid (LD.length ≤ 21) := Lib.hid HLD.out.1
    have HLD2 : Hid (∀ o ∈ LD, o.1.length ≤ 60) := Lib.hid HLD.out.2
    obtain ⟨wz, hwz⟩ : ∃ wz, wz = w13 := ⟨_, rfl⟩
    have KZ : Hid (∀ w', Below wz.heap.size wz w' → (EB w' X af nf cf z ∧ OpS w' af nf cf F) ∧ (EB w' Ta ac nc cc ZD ∧ OpS w' ac nc cc LD) ∧ (EB w' Tb ad nd cd ZD ∧ OpS w' ad nd cd LD) ∧ Tab w') := Lib.hid fun w' hb => by
      rw [hwz] at hb
      have h5 := HB13.out.trans (hb.mono HB13.out.size)
      exact ⟨⟨(KW.out w' h5).1, (KW.out w' h5).2.1⟩, ⟨HEa13.out.below hb, HOa13.out.vs.below hb⟩, ⟨HE13.out.below hb, HO13.out.vs.below hb⟩, (KW.out w' h5).2.2.2.1⟩
    have HBz : Hid (Below B w wz) := Lib.hid (by rw [hwz]; exact (KW.out _ HB13.out).2.2.2.2)
    rw [← hwz]
    clear hwz
    -- whether the entries are the same
    obtain ⟨y0, y1, y2, y3, y4, y5, y6, y7, y8, y9, rfl⟩ := ten HZ.out
    obtain ⟨x0, x1, x2, x3, x4, x5, x6, x7, x8, x9, rfl⟩ := ten HZD.out
    obtain ⟨bS, hbS⟩ : ∃ b, b = decide (entL F [y0, y1, y2, y3, y4, y5, y6, y7, y8, y9] x' = entL LD [x0, x1, x2, x3, x4, x5, x6, x7, x8, x9] x') := ⟨_, rfl⟩
    obtain ⟨E1, hE1⟩ : ∃ E, E = entL F [y0, y1, y2, y3, y4, y5, y6, y7, y8, y9] x' := ⟨_, rfl⟩
    obtain ⟨E2, hE2⟩ : ∃ E, E = entL LD [x0, x1, x2, x3, x4, x5, x6, x7, x8, x9] x' := ⟨_, rfl⟩
    obtain ⟨bU, hbU⟩ : ∃ b, b = uniqB F := ⟨_, rfl⟩
    have HLE : Hid (E1.length ≤ 1000000 ∧ E2.length ≤ 1000000) := Lib.hid ⟨by rw [hE1]; exact Nat.le_trans (entL_len ..) (by rw [HFL.out]; omega), by rw [hE2]; exact Nat.le_trans (entL_len ..) (by have := HLD1.out; omega)⟩
    have hn1 : nc ≤ 1000000 := by have := (KZ.out wz (Below.refl _ _)).2.1.2; have := OpS.len this; have := HLD1.out; omega
    have hn2 : nd ≤ 1000000 := by have := (KZ.out wz (Below.refl _ _)).2.2.1.2; have := OpS.len this; have := HLD1.out; omega
    have KE : Hid (∀ w', Below wz.heap.size wz w' → Calls Tryz.prog 14 #[.agg (ev af nf cf [y0, y1, y2, y3, y4, y5, y6, y7, y8, y9]), .string (mk x')] w' fun e w'' => ∃ b1 d1, e = .returned (.slice b1 E1.length d1) ∧ Ens w'' b1 E1.length d1 E1 ∧ Below w'.heap.size w' w'') := Lib.hid fun w' hb => by
      rw [hE1]; exact rentry_any af nf cf F [y0, y1, y2, y3, y4, y5, y6, y7, y8, y9] x' w' (KZ.out w' hb).1.2 HZ.out (by omega) (fun o ho => Nat.le_trans (HFP.out o ho) (by decide))
    have KF : Hid (∀ w', Below wz.heap.size wz w' → Calls Tryz.prog 14 #[.agg (ev ad nd cd [x0, x1, x2, x3, x4, x5, x6, x7, x8, x9]), .string (mk x')] w' fun e w'' => ∃ b1 d1, e = .returned (.slice b1 E2.length d1) ∧ Ens w'' b1 E2.length d1 E2 ∧ Below w'.heap.size w' w'') := Lib.hid fun w' hb => by
      rw [hE2]; exact rentry_any ad nd cd LD [x0, x1, x2, x3, x4, x5, x6, x7, x8, x9] x' w' (KZ.out w' hb).2.2.1.2 HZD.out hn2 (fun o ho => Nat.le_trans (HLD2.out o ho) (by decide))
    have KG : Hid (∀ w', Below wz.heap.size wz w' → Calls Tryz.prog 16 #[.agg (ev af nf cf [y0, y1, y2, y3, y4, y5, y6, y7, y8, y9]), .string (mk x')] w' fun e w'' => ∃ b1 d1, e = .returned (.slice b1 E1.length d1) ∧ Ens w'' b1 E1.length d1 E1 ∧ Below w'.heap.size w' w'') := Lib.hid fun w' hb => by
      rw [hE1]; exact entry_any af nf cf F [y0, y1, y2, y3, y4, y5, y6, y7, y8, y9] x' w' (KZ.out w' hb).2.2.2 (KZ.out w' hb).1.2 HZ.out (by omega) (fun o ho => Nat.le_trans (HFP.out o ho) (by decide))
    have KM : Hid (∀ w', Below wz.heap.size wz w' → Calls Tryz.prog 17 #[.agg (ev af nf cf [y0, y1, y2, y3, y4, y5, y6, y7, y8, y9]), .agg (ev ad nd cd [x0, x1, x2, x3, x4, x5, x6, x7, x8, x9]), .string (mk x')] w' fun e w'' => e = .returned (.bool bS) ∧ Below w'.heap.size w' w'') := Lib.hid fun w' hb => by
      have hq := same_any af ad nf nd cf cd F LD [y0, y1, y2, y3, y4, y5, y6, y7, y8, y9] [x0, x1, x2, x3, x4, x5, x6, x7, x8, x9] x' w' (KZ.out w' hb).2.2.2 (KZ.out w' hb).1.2 (KZ.out w' hb).2.2.1.2 HZ.out HZD.out (by omega) hn2 (fun o ho => Nat.le_trans (HFP.out o ho) (by decide)) (fun o ho => Nat.le_trans (HLD2.out o ho) (by decide))
      rw [← hbS] at hq
      exact hq
    have KU : Hid (∀ w', Below wz.heap.size wz w' → Calls Tryz.prog 18 #[.agg (ev af nf cf [y0, y1, y2, y3, y4, y5, y6, y7, y8, y9])] w' fun e w'' => e = .returned (.bool bU) ∧ Below w'.heap.size w' w'') := Lib.hid fun w' hb => by
      have hq := uniq_any af nf cf F [y0, y1, y2, y3, y4, y5, y6, y7, y8, y9] w' (KZ.out w' hb).2.2.2 (KZ.out w' hb).1.2 (by omega) (fun o ho => Nat.le_trans (HFP.out o ho) (by decide))
      rw [← hbU] at hq
      exact hq
    have KV : Hid (∀ w', Below wz.heap.size wz w' → Calls Tryz.prog 19 #[.agg (ev af nf cf [y0, y1, y2, y3, y4, y5, y6, y7, y8, y9])] w' fun e w'' => e = .returned (.bool bU) ∧ Below w'.heap.size w' w'') := Lib.hid fun w' hb => by
      have hq := runiq_any af nf cf F [y0, y1, y2, y3, y4, y5, y6, y7, y8, y9] w' (KZ.out w' hb).1.2 (by omega) (fun o ho => Nat.le_trans (HFP.out o ho) (by decide))
      rw [← hbU] at hq
      exact hq
    have KQ : Hid (∀ w', Below wz.heap.size wz w' → Calls Tryz.prog 15 #[.agg (ev ac nc cc [x0, x1, x2, x3, x4, x5, x6, x7, x8, x9]), .agg (ev ad nd cd [x0, x1, x2, x3, x4, x5, x6, x7, x8, x9])] w' fun e w'' => e = .returned (.bool true) ∧ Below w'.heap.size w' w'') := Lib.hid fun w' hb => by
      have := equal_any ac ad nc nd cc cd LD LD [x0, x1, x2, x3, x4, x5, x6, x7, x8, x9] [x0, x1, x2, x3, x4, x5, x6, x7, x8, x9] w' (KZ.out w' hb).2.1.2 (KZ.out w' hb).2.2.1.2 HZD.out HZD.out hn1 hn2
      rwa [decide_eq_true (show LD = LD ∧ [x0, x1, x2, x3, x4, x5, x6, x7, x8, x9] = [x0, x1, x2, x3, x4, x5, x6, x7, x8, x9] from ⟨rfl, rfl⟩)] at this
    have KR : Hid (∀ w', Calls Tryz.prog 15 #[.agg (ev none 0 0 zS), .agg (ev none 0 0 zS)] w' fun e w'' => e = .returned (.bool true) ∧ Below w'.heap.size w' w'') := Lib.hid fun w' => by
      have := equal_any none none 0 0 0 0 [] [] zS zS w' (Vs.nil _ _ _ _ (Nat.zero_le _)) (Vs.nil _ _ _ _ (Nat.zero_le _)) rfl rfl (Nat.zero_le _) (Nat.zero_le _)
      rwa [decide_eq_true (show ([] : List OP) = [] ∧ zS = zS from ⟨rfl, rfl⟩)] at this
    have KS1 : Hid (∀ (w' : World) (b3 : Option Addr) (c3 : Nat) (b4 : Option Addr) (c4 : Nat), Ens w' b3 E1.length c3 E1 → Ens w' b4 E2.length c4 E2 → Calls Tryz.prog 13 #[.slice b3 E1.length c3, .slice b4 E2.length c4] w' fun e w'' => e = .returned (.bool bS) ∧ Below w'.heap.size w' w'') := Lib.hid fun w' b3 c3 b4 c4 h3 h4 => by
      have hq := rsameE_any b3 b4 _ _ c3 c4 E1 E2 w' h3 h4 HLE.out.1 HLE.out.2
      rw [hE1, hE2] at hq ⊢
      rw [← hbS] at hq
      exact hq
    have KS2 : Hid (∀ (w' : World) (b3 : Option Addr) (c3 : Nat) (b4 : Option Addr) (c4 : Nat), Ens w' b3 E1.length c3 E1 → Ens w' b4 E1.length c4 E1 → Calls Tryz.prog 13 #[.slice b3 E1.length c3, .slice b4 E1.length c4] w' fun e w'' => e = .returned (.bool true) ∧ Below w'.heap.size w' w'') := Lib.hid fun w' b3 c3 b4 c4 h3 h4 => by
      have := rsameE_any b3 b4 _ _ c3 c4 E1 E1 w' h3 h4 HLE.out.1 HLE.out.1
      rwa [decide_eq_true (show E1 = E1 from rfl)] at this
    have KC : Hid (∀ w', Below wz.heap.size wz w' → (w'.cell? ⟨X, 0, none⟩ = some (.slice af nf cf) ∧ w'.cell? ⟨X, 1, none⟩ = some (.int .i64 y0) ∧ w'.cell? ⟨X, 2, none⟩ = some (.int .i64 y1) ∧ w'.cell? ⟨X, 3, none⟩ = some (.int .i64 y2) ∧ w'.cell? ⟨X, 4, none⟩ = some (.int .i64 y3) ∧ w'.cell? ⟨X, 5, none⟩ = some (.int .i64 y4) ∧ w'.cell? ⟨X, 6, none⟩ = some (.int .i64 y5) ∧ w'.cell? ⟨X, 7, none⟩ = some (.int .i64 y6) ∧ w'.cell? ⟨X, 8, none⟩ = some (.int .i64 y7) ∧ w'.cell? ⟨X, 9, none⟩ = some (.int .i64 y8) ∧ w'.cell? ⟨X, 10, none⟩ = some (.int .i64 y9)) ∧ (w'.cell? ⟨Ta, 0, none⟩ = some (.slice ac nc cc) ∧ w'.cell? ⟨Ta, 1, none⟩ = some (.int .i64 x0) ∧ w'.cell? ⟨Ta, 2, none⟩ = some (.int .i64 x1) ∧ w'.cell? ⟨Ta, 3, none⟩ = some (.int .i64 x2) ∧ w'.cell? ⟨Ta, 4, none⟩ = some (.int .i64 x3) ∧ w'.cell? ⟨Ta, 5, none⟩ = some (.int .i64 x4) ∧ w'.cell? ⟨Ta, 6, none⟩ = some (.int .i64 x5) ∧ w'.cell? ⟨Ta, 7, none⟩ = some (.int .i64 x6) ∧ w'.cell? ⟨Ta, 8, none⟩ = some (.int .i64 x7) ∧ w'.cell? ⟨Ta, 9, none⟩ = some (.int .i64 x8) ∧ w'.cell? ⟨Ta, 10, none⟩ = some (.int .i64 x9)) ∧ (w'.cell? ⟨Tb, 0, none⟩ = some (.slice ad nd cd) ∧ w'.cell? ⟨Tb, 1, none⟩ = some (.int .i64 x0) ∧ w'.cell? ⟨Tb, 2, none⟩ = some (.int .i64 x1) ∧ w'.cell? ⟨Tb, 3, none⟩ = some (.int .i64 x2) ∧ w'.cell? ⟨Tb, 4, none⟩ = some (.int .i64 x3) ∧ w'.cell? ⟨Tb, 5, none⟩ = some (.int .i64 x4) ∧ w'.cell? ⟨Tb, 6, none⟩ = some (.int .i64 x5) ∧ w'.cell? ⟨Tb, 7, none⟩ = some (.int .i64 x6) ∧ w'.cell? ⟨Tb, 8, none⟩ = some (.int .i64 x7) ∧ w'.cell? ⟨Tb, 9, none⟩ = some (.int .i64 x8) ∧ w'.cell? ⟨Tb, 10, none⟩ = some (.int .i64 x9))) := Lib.hid fun w' hb => ⟨env_cells (KZ.out w' hb).1.1, env_cells (KZ.out w' hb).2.1.1, env_cells (KZ.out w' hb).2.2.1.1⟩
    obtain ⟨m1, hm1⟩ : ∃ m, m = E1.length := ⟨_, rfl⟩
    obtain ⟨m2, hm2⟩ : ∃ m, m = E2.length := ⟨_, rfl⟩
    rw [← hm1] at KE KG KS1 KS2
    rw [← hm2] at KF KS1
    clear hbS hE1 hE2 hbU hm1 hm2
    go_wp2_with fail
    go_region_held3 (fun w' => (w'.cell? ⟨X, 0, none⟩ = some (.slice af nf cf) ∧ w'.cell? ⟨X, 1, none⟩ = some (.int .i64 y0) ∧ w'.cell? ⟨X, 2, none⟩ = some (.int .i64 y1) ∧ w'.cell? ⟨X, 3, none⟩ = some (.int .i64 y2) ∧ w'.cell? ⟨X, 4, none⟩ = some (.int .i64 y3) ∧ w'.cell? ⟨X, 5, none⟩ = some (.int .i64 y4) ∧ w'.cell? ⟨X, 6, none⟩ = some (.int .i64 y5) ∧ w'.cell? ⟨X, 7, none⟩ = some (.int .i64 y6) ∧ w'.cell? ⟨X, 8, none⟩ = some (.int .i64 y7) ∧ w'.cell? ⟨X, 9, none⟩ = some (.int .i64 y8) ∧ w'.cell? ⟨X, 10, none⟩ = some (.int .i64 y9)) ∧ (w'.cell? ⟨Tb, 0, none⟩ = some (.slice ad nd cd) ∧ w'.cell? ⟨Tb, 1, none⟩ = some (.int .i64 x0) ∧ w'.cell? ⟨Tb, 2, none⟩ = some (.int .i64 x1) ∧ w'.cell? ⟨Tb, 3, none⟩ = some (.int .i64 x2) ∧ w'.cell? ⟨Tb, 4, none⟩ = some (.int .i64 x3) ∧ w'.cell? ⟨Tb, 5, none⟩ = some (.int .i64 x4) ∧ w'.cell? ⟨Tb, 6, none⟩ = some (.int .i64 x5) ∧ w'.cell? ⟨Tb, 7, none⟩ = some (.int .i64 x6) ∧ w'.cell? ⟨Tb, 8, none⟩ = some (.int .i64 x7) ∧ w'.cell? ⟨Tb, 9, none⟩ = some (.int .i64 x8) ∧ w'.cell? ⟨Tb, 10, none⟩ = some (.int .i64 x9)))
      (first
        | exact ⟨(KC.out _ HV3.out).1, (KC.out _ HV3.out).2.2⟩
        | exact ⟨(KC.out _ HV2.out).1, (KC.out _ HV2.out).2.2⟩
        | exact ⟨(KC.out _ HV1.out).1, (KC.out _ HV1.out).2.2⟩
        | exact ⟨(KC.out _ (Below.refl wz.heap.size wz).drew).1, (KC.out _ (Below.refl wz.heap.size wz).drew).2.2⟩)
      (first
        | (go_at_call 13; (refine (KS1.out _ _ _ _ _ HN1.out HN2.out).mono ?_); rintro e v3 ⟨rfl, hb3⟩; have HV3 : Hid (Below wz.heap.size wz v3) := Lib.hid (HV2.out.trans (hb3.mono HV2.out.size)); clear hb3)
        | (go_at_call 14; (refine (KF.out _ HV1.out).mono ?_); rintro e v2 ⟨b4, c4, rfl, he4, hb2⟩; have HN2 := Lib.hid he4; have HN1 := Lib.hid (Vs.below HM1.out hb2); have HV2 : Hid (Below wz.heap.size wz v2) := Lib.hid (HV1.out.trans (hb2.mono HV1.out.size)); clear he4 hb2)
        | (go_at_call 14; (refine (KE.out _ (Below.refl wz.heap.size wz).drew).mono ?_); rintro e v1 ⟨b3, c3, rfl, he3, hb1⟩; have HM1 := Lib.hid he3; have HV1 : Hid (Below wz.heap.size wz v1) := Lib.hid ((Below.refl wz.heap.size wz).drew.trans hb1); clear he3 hb1))
    go_wp2_with fail
    go_region_held3 (fun w' => (w'.cell? ⟨X, 0, none⟩ = some (.slice af nf cf) ∧ w'.cell? ⟨X, 1, none⟩ = some (.int .i64 y0) ∧ w'.cell? ⟨X, 2, none⟩ = some (.int .i64 y1) ∧ w'.cell? ⟨X, 3, none⟩ = some (.int .i64 y2) ∧ w'.cell? ⟨X, 4, none⟩ = some (.int .i64 y3) ∧ w'.cell? ⟨X, 5, none⟩ = some (.int .i64 y4) ∧ w'.cell? ⟨X, 6, none⟩ = some (.int .i64 y5) ∧ w'.cell? ⟨X, 7, none⟩ = some (.int .i64 y6) ∧ w'.cell? ⟨X, 8, none⟩ = some (.int .i64 y7) ∧ w'.cell? ⟨X, 9, none⟩ = some (.int .i64 y8) ∧ w'.cell? ⟨X, 10, none⟩ = some (.int .i64 y9)) ∧ (w'.cell? ⟨Ta, 0, none⟩ = some (.slice ac nc cc) ∧ w'.cell? ⟨Ta, 1, none⟩ = some (.int .i64 x0) ∧ w'.cell? ⟨Ta, 2, none⟩ = some (.int .i64 x1) ∧ w'.cell? ⟨Ta, 3, none⟩ = some (.int .i64 x2) ∧ w'.cell? ⟨Ta, 4, none⟩ = some (.int .i64 x3) ∧ w'.cell? ⟨Ta, 5, none⟩ = some (.int .i64 x4) ∧ w'.cell? ⟨Ta, 6, none⟩ = some (.int .i64 x5) ∧ w'.cell? ⟨Ta, 7, none⟩ = some (.int .i64 x6) ∧ w'.cell? ⟨Ta, 8, none⟩ = some (.int .i64 x7) ∧ w'.cell? ⟨Ta, 9, none⟩ = some (.int .i64 x8) ∧ w'.cell? ⟨Ta, 10, none⟩ = some (.int .i64 x9)) ∧ (w'.cell? ⟨Tb, 0, none⟩ = some (.slice ad nd cd) ∧ w'.cell? ⟨Tb, 1, none⟩ = some (.int .i64 x0) ∧ w'.cell? ⟨Tb, 2, none⟩ = some (.int .i64 x1) ∧ w'.cell? ⟨Tb, 3, none⟩ = some (.int .i64 x2) ∧ w'.cell? ⟨Tb, 4, none⟩ = some (.int .i64 x3) ∧ w'.cell? ⟨Tb, 5, none⟩ = some (.int .i64 x4) ∧ w'.cell? ⟨Tb, 6, none⟩ = some (.int .i64 x5) ∧ w'.cell? ⟨Tb, 7, none⟩ = some (.int .i64 x6) ∧ w'.cell? ⟨Tb, 8, none⟩ = some (.int .i64 x7) ∧ w'.cell? ⟨Tb, 9, none⟩ = some (.int .i64 x8) ∧ w'.cell? ⟨Tb, 10, none⟩ = some (.int .i64 x9)))
      (first
        | exact KC.out _ HU10.out
        | exact KC.out _ HU9.out
        | exact KC.out _ HU8.out
        | exact KC.out _ HU7.out
        | exact KC.out _ HU6.out
        | exact KC.out _ HU5.out
        | exact KC.out _ HU4.out
        | exact KC.out _ HU3.out
        | exact KC.out _ HU2.out
        | exact KC.out _ HU1.out
        | exact KC.out _ HV3.out.drew
        | exact KC.out _ HV3.out)
      (first
        | (go_at_call 15; (with_reducible refine (KR.out _).mono ?_); rintro e u10 ⟨rfl, hb⟩; have HU10 : Hid (Below wz.heap.size wz u10) := Lib.hid (HU9.out.trans (hb.mono HU9.out.size)); clear hb)
        | (go_at_call 21; (refine (rnew_any _).mono ?_); rintro e u9 ⟨rfl, hb⟩; have HU9 : Hid (Below wz.heap.size wz u9) := Lib.hid (HU8.out.trans (hb.mono HU8.out.size)); clear hb)
        | (go_at_call 20; (refine (new_any _).mono ?_); rintro e u8 ⟨rfl, hb⟩; have HU8 : Hid (Below wz.heap.size wz u8) := Lib.hid (HU7.out.trans (hb.mono HU7.out.size)); clear hb)
        | (go_at_call 19; (refine (KV.out _ HU6.out).mono ?_); rintro e u7 ⟨rfl, hb⟩; have HU7 : Hid (Below wz.heap.size wz u7) := Lib.hid (HU6.out.trans (hb.mono HU6.out.size)); clear hb)
        | (go_at_call 18; (refine (KU.out _ HU5.out).mono ?_); rintro e u6 ⟨rfl, hb⟩; have HU6 : Hid (Below wz.heap.size wz u6) := Lib.hid (HU5.out.trans (hb.mono HU5.out.size)); clear hb)
        | (go_at_call 17; (refine (KM.out _ HU4.out).mono ?_); rintro e u5 ⟨rfl, hb⟩; have HU5 : Hid (Below wz.heap.size wz u5) := Lib.hid (HU4.out.trans (hb.mono HU4.out.size)); clear hb)
        | (go_at_call 13; (refine (KS2.out _ _ _ _ _ HN3.out HN4.out).mono ?_); rintro e u4 ⟨rfl, hb⟩; have HU4 : Hid (Below wz.heap.size wz u4) := Lib.hid (HU3.out.trans (hb.mono HU3.out.size)); clear hb)
        | (go_at_call 14; (refine (KE.out _ HU2.out).mono ?_); rintro e u3 ⟨b6, c6, rfl, he, hb⟩; have HN4 := Lib.hid he; have HN3 := Lib.hid (Vs.below HM3.out hb); have HU3 : Hid (Below wz.heap.size wz u3) := Lib.hid (HU2.out.trans (hb.mono HU2.out.size)); clear he hb)
        | (go_at_call 16; (refine (KG.out _ HU1.out).mono ?_); rintro e u2 ⟨b5, c5, rfl, he, hb⟩; have HM3 := Lib.hid he; have HU2 : Hid (Below wz.heap.size wz u2) := Lib.hid (HU1.out.trans (hb.mono HU1.out.size)); clear he hb)
        | (go_at_call 15; (refine (KQ.out _ HV3.out.drew).mono ?_); rintro e u1 ⟨rfl, hb⟩; have HU1 : Hid (Below wz.heap.size wz u1) := Lib.hid (HV3.out.drew.trans (hb.mono HV3.out.drew.size)); clear hb))
    all_goals
      go_wp2
      go_ret
      exact ⟨by first | rfl | simp, by rw [← HW.out]; exact HBz.out.trans (HU10.out.mono (by have := HBz.out.size; have := HW.out; omega))⟩
  · skip
    obtain ⟨LD, hLD⟩ : ∃ l, l = (if eE z gg hh = 0 then F else []) := ⟨_, rfl⟩
    obtain ⟨ZD, hZD⟩ : ∃ l, l = eV z gg hh := ⟨_, rfl⟩
    obtain ⟨ed, hed⟩ : ∃ l, l = eE z gg hh := ⟨_, rfl⟩
    have HLD : Hid (LD.length ≤ 21 ∧ ∀ o ∈ LD, o.1.length ≤ 60) := Lib.hid (by
      rw [hLD]
      split
      · exact ⟨by rw [HFL.out]; omega, HFP.out⟩
      · exact ⟨by simp, fun o ho => by cases ho⟩)
    have HZD : Hid (ZD.length = 10) := Lib.hid (by rw [hZD]; exact eV_len z gg hh)
    have KD : Hid (∀ w', Below w5.heap.size w5 w' → Calls Tryz.prog 11 #[.agg (ev af nf cf z), .int .i64 gg, .int .i64 hh] w' fun e w'' => ∃ a' n' c', e = .returned (.tuple #[.agg (ev a' n' c' ZD), .int .i64 ed]) ∧ OwnO w'.heap.size w'' a' n' c' LD ∧ Below w'.heap.size w' w'') := Lib.hid fun w' hb => by
      rw [hLD, hZD, hed]
      exact envEdge_any af nf cf F z gg hh w' (KW.out w' hb).2.1 HZ.out HR.out (by omega)
    have KT : Hid (∀ w', Below w5.heap.size w5 w' → Calls Tryz.prog 12 #[.agg (ev af nf cf z), .int .i64 gg, .int .i64 hh] w' fun e w'' => ∃ a' n' c', e = .returned (.tuple #[.agg (ev a' n' c' ZD), .int .i64 ed]) ∧ OwnO w'.heap.size w'' a' n' c' LD ∧ Below w'.heap.size w' w'') := Lib.hid fun w' hb => by
      rw [hLD, hZD, hed]
      exact renvEdge_any af nf cf F z gg hh w' (KW.out w' hb).2.1 HZ.out (by omega)
    clear hLD hZD hed
    go_wp2_with (first
      | (refine store_env rfl (.tmp 12) (.tmp 46) rfl _ rfl ab nb cb ZA rfl HZA.out none 0 0 z0 z0_len (hnew w8) ?_; intro w9 he9 hq9; rw [← hTb] at he9 hq9; have HE9 := Lib.hid he9; have HB89 : Hid (Below w8.heap.size w8 w9) := Lib.hid ((below_alloc w8 _).trans (hq9.below (by rw [hTb]; exact Nat.le_refl _))); have HB9 : Hid (Below w5.heap.size w5 w9) := Lib.hid (HB8.out.trans (HB89.out.mono HB8.out.size)); obtain ⟨c0, c1, c2, c3, c4, c5⟩ := (KW.out w9 HB9.out).2.2.1.cells; clear he9 hq9)
      | (refine load_env rfl (.tmp 8) rfl X rfl af nf cf z HZ.out (KW.out w9 HB9.out).1 ?_))
    rw [← hTb]
    clear hTb c0 c1 c2 c3 c4 c5
    have HEa9 : Hid (EB w9 Ta aa na ca ZA) := Lib.hid (HE8.out.below HB89.out)
    have HA9 : Hid (OwnO w5.heap.size w9 aa na ca LA) := Lib.hid (HA8.out.keep HB89.out (Nat.le_refl _))
    have HO9 : Hid (OwnO w7.heap.size w9 ab nb cb LA) := Lib.hid (HO8.out.keep HB89.out (Nat.le_refl _))
    have HS9 : Hid (Ta < w9.heap.size ∧ Tb < w9.heap.size) := Lib.hid ⟨HEa9.out.lt, HE9.out.lt⟩
    refine (KD.out w9 HB9.out).mono ?_
    rintro e w10 ⟨ac, nc, cc, rfl, ho10, hb10⟩
    have HO10 := Lib.hid ho10
    have HB10 : Hid (Below w5.heap.size w5 w10) := Lib.hid (HB9.out.trans (hb10.mono HB9.out.size))
    have HEa10 : Hid (EB w10 Ta aa na ca ZA) := Lib.hid (HEa9.out.below hb10)
    have HEb10 : Hid (EB w10 Tb ab nb cb ZA) := Lib.hid (HE9.out.below hb10)
    clear ho10 hb10
    go_wp2_with (first
      | (refine store_env rfl (.tmp 10) (.tmp 78) rfl Ta rfl ac nc cc ZD rfl HZD.out aa na ca ZA HZA.out HEa10.out ?_; intro w11 he11 hq11; have HE11 := Lib.hid he11; have HO11 : Hid (OwnO w9.heap.size w11 ac nc cc LD) := Lib.hid (ownO_only HO10.out hq11 HS9.out.1); have HEb11 : Hid (EB w11 Tb ab nb cb ZA) := Lib.hid (HEb10.out.only hq11 (by have := HTB.out; omega)); have HB11 : Hid (Below w5.heap.size w5 w11) := Lib.hid (HB10.out.trans (hq11.below HTA.out)); obtain ⟨c0, c1, c2, c3, c4, c5⟩ := (KW.out w11 HB11.out).2.2.1.cells; clear he11 hq11)
      | (refine load_env rfl (.tmp 8) rfl X rfl af nf cf z HZ.out (KW.out w11 HB11.out).1 ?_))
    clear c0 c1 c2 c3 c4 c5
    refine (KT.out w11 HB11.out).mono ?_
    rintro e w12 ⟨ad, nd, cd, rfl, ho12, hb12⟩
    have HO12 := Lib.hid ho12
    have HB12 : Hid (Below w5.heap.size w5 w12) := Lib.hid (HB11.out.trans (hb12.mono HB11.out.size))
    have HEa12 : Hid (EB w12 Ta ac nc cc ZD) := Lib.hid (HE11.out.below hb12)
    have HEb12 : Hid (EB w12 Tb ab nb cb ZA) := Lib.hid (HEb11.out.below hb12)
    have HOa12 : Hid (OwnO w9.heap.size w12 ac nc cc LD) := Lib.hid (HO11.out.keep hb12 (Nat.le_refl _))
    have HS11 : Hid (Tb < w11.heap.size) := Lib.hid HEb11.out.lt
    clear ho12 hb12
    go_wp2_with (refine store_env rfl (.tmp 12) (.tmp 87) rfl Tb rfl ad nd cd ZD rfl HZD.out ab nb cb ZA HZA.out HEb12.out ?_; intro w13 he13 hq13; have HE13 := Lib.hid he13; have HO13 : Hid (OwnO w11.heap.size w13 ad nd cd LD) := Lib.hid (ownO_only HO12.out hq13 HS11.out); have HOa13 : Hid (OwnO w9.heap.size w13 ac nc cc LD) := Lib.hid (ownO_only HOa12.out hq13 HS9.out.2); have HEa13 : Hid (EB w13 Ta ac nc cc ZD) := Lib.hid (HEa12.out.only hq13 (by have := HTB.out; omega)); have HB13 : Hid (Below w5.heap.size w5 w13) := Lib.hid (HB12.out.trans (hq13.below (by have := HTA.out; have := HTB.out; omega))); clear he13 hq13)
    have HLD1 : Hid (LD.length ≤ 21) := Lib.hid HLD.out.1
    have HLD2 : Hid (∀ o ∈ LD, o.1.length ≤ 60) := Lib.hid HLD.out.2
    obtain ⟨wz, hwz⟩ : ∃ wz, wz = w13 := ⟨_, rfl⟩
    have KZ : Hid (∀ w', Below wz.heap.size wz w' → (EB w' X af nf cf z ∧ OpS w' af nf cf F) ∧ (EB w' Ta ac nc cc ZD ∧ OpS w' ac nc cc LD) ∧ (EB w' Tb ad nd cd ZD ∧ OpS w' ad nd cd LD) ∧ Tab w') := Lib.hid fun w' hb => by
      rw [hwz] at hb
      have h5 := HB13.out.trans (hb.mono HB13.out.size)
      exact ⟨⟨(KW.out w' h5).1, (KW.out w' h5).2.1⟩, ⟨HEa13.out.below hb, HOa13.out.vs.below hb⟩, ⟨HE13.out.below hb, HO13.out.vs.below hb⟩, (KW.out w' h5).2.2.2.1⟩
    have HBz : Hid (Below B w wz) := Lib.hid (by rw [hwz]; exact (KW.out _ HB13.out).2.2.2.2)
    rw [← hwz]
    clear hwz
    -- whether the entries are the same
    obtain ⟨y0, y1, y2, y3, y4, y5, y6, y7, y8, y9, rfl⟩ := ten HZ.out
    obtain ⟨x0, x1, x2, x3, x4, x5, x6, x7, x8, x9, rfl⟩ := ten HZD.out
    obtain ⟨bS, hbS⟩ : ∃ b, b = decide (entL F [y0, y1, y2, y3, y4, y5, y6, y7, y8, y9] x' = entL LD [x0, x1, x2, x3, x4, x5, x6, x7, x8, x9] x') := ⟨_, rfl⟩
    obtain ⟨E1, hE1⟩ : ∃ E, E = entL F [y0, y1, y2, y3, y4, y5, y6, y7, y8, y9] x' := ⟨_, rfl⟩
    obtain ⟨E2, hE2⟩ : ∃ E, E = entL LD [x0, x1, x2, x3, x4, x5, x6, x7, x8, x9] x' := ⟨_, rfl⟩
    obtain ⟨bU, hbU⟩ : ∃ b, b = uniqB F := ⟨_, rfl⟩
    have HLE : Hid (E1.length ≤ 1000000 ∧ E2.length ≤ 1000000) := Lib.hid ⟨by rw [hE1]; exact Nat.le_trans (entL_len ..) (by rw [HFL.out]; omega), by rw [hE2]; exact Nat.le_trans (entL_len ..) (by have := HLD1.out; omega)⟩
    have hn1 : nc ≤ 1000000 := by have := (KZ.out wz (Below.refl _ _)).2.1.2; have := OpS.len this; have := HLD1.out; omega
    have hn2 : nd ≤ 1000000 := by have := (KZ.out wz (Below.refl _ _)).2.2.1.2; have := OpS.len this; have := HLD1.out; omega
    have KE : Hid (∀ w', Below wz.heap.size wz w' → Calls Tryz.prog 14 #[.agg (ev af nf cf [y0, y1, y2, y3, y4, y5, y6, y7, y8, y9]), .string (mk x')] w' fun e w'' => ∃ b1 d1, e = .returned (.slice b1 E1.length d1) ∧ Ens w'' b1 E1.length d1 E1 ∧ Below w'.heap.size w' w'') := Lib.hid fun w' hb => by
      rw [hE1]; exact rentry_any af nf cf F [y0, y1, y2, y3, y4, y5, y6, y7, y8, y9] x' w' (KZ.out w' hb).1.2 HZ.out (by omega) (fun o ho => Nat.le_trans (HFP.out o ho) (by decide))
    have KF : Hid (∀ w', Below wz.heap.size wz w' → Calls Tryz.prog 14 #[.agg (ev ad nd cd [x0, x1, x2, x3, x4, x5, x6, x7, x8, x9]), .string (mk x')] w' fun e w'' => ∃ b1 d1, e = .returned (.slice b1 E2.length d1) ∧ Ens w'' b1 E2.length d1 E2 ∧ Below w'.heap.size w' w'') := Lib.hid fun w' hb => by
      rw [hE2]; exact rentry_any ad nd cd LD [x0, x1, x2, x3, x4, x5, x6, x7, x8, x9] x' w' (KZ.out w' hb).2.2.1.2 HZD.out hn2 (fun o ho => Nat.le_trans (HLD2.out o ho) (by decide))
    have KG : Hid (∀ w', Below wz.heap.size wz w' → Calls Tryz.prog 16 #[.agg (ev af nf cf [y0, y1, y2, y3, y4, y5, y6, y7, y8, y9]), .string (mk x')] w' fun e w'' => ∃ b1 d1, e = .returned (.slice b1 E1.length d1) ∧ Ens w'' b1 E1.length d1 E1 ∧ Below w'.heap.size w' w'') := Lib.hid fun w' hb => by
      rw [hE1]; exact entry_any af nf cf F [y0, y1, y2, y3, y4, y5, y6, y7, y8, y9] x' w' (KZ.out w' hb).2.2.2 (KZ.out w' hb).1.2 HZ.out (by omega) (fun o ho => Nat.le_trans (HFP.out o ho) (by decide))
    have KM : Hid (∀ w', Below wz.heap.size wz w' → Calls Tryz.prog 17 #[.agg (ev af nf cf [y0, y1, y2, y3, y4, y5, y6, y7, y8, y9]), .agg (ev ad nd cd [x0, x1, x2, x3, x4, x5, x6, x7, x8, x9]), .string (mk x')] w' fun e w'' => e = .returned (.bool bS) ∧ Below w'.heap.size w' w'') := Lib.hid fun w' hb => by
      have hq := same_any af ad nf nd cf cd F LD [y0, y1, y2, y3, y4, y5, y6, y7, y8, y9] [x0, x1, x2, x3, x4, x5, x6, x7, x8, x9] x' w' (KZ.out w' hb).2.2.2 (KZ.out w' hb).1.2 (KZ.out w' hb).2.2.1.2 HZ.out HZD.out (by omega) hn2 (fun o ho => Nat.le_trans (HFP.out o ho) (by decide)) (fun o ho => Nat.le_trans (HLD2.out o ho) (by decide))
      rw [← hbS] at hq
      exact hq
    have KU : Hid (∀ w', Below wz.heap.size wz w' → Calls Tryz.prog 18 #[.agg (ev af nf cf [y0, y1, y2, y3, y4, y5, y6, y7, y8, y9])] w' fun e w'' => e = .returned (.bool bU) ∧ Below w'.heap.size w' w'') := Lib.hid fun w' hb => by
      have hq := uniq_any af nf cf F [y0, y1, y2, y3, y4, y5, y6, y7, y8, y9] w' (KZ.out w' hb).2.2.2 (KZ.out w' hb).1.2 (by omega) (fun o ho => Nat.le_trans (HFP.out o ho) (by decide))
      rw [← hbU] at hq
      exact hq
    have KV : Hid (∀ w', Below wz.heap.size wz w' → Calls Tryz.prog 19 #[.agg (ev af nf cf [y0, y1, y2, y3, y4, y5, y6, y7, y8, y9])] w' fun e w'' => e = .returned (.bool bU) ∧ Below w'.heap.size w' w'') := Lib.hid fun w' hb => by
      have hq := runiq_any af nf cf F [y0, y1, y2, y3, y4, y5, y6, y7, y8, y9] w' (KZ.out w' hb).1.2 (by omega) (fun o ho => Nat.le_trans (HFP.out o ho) (by decide))
      rw [← hbU] at hq
      exact hq
    have KQ : Hid (∀ w', Below wz.heap.size wz w' → Calls Tryz.prog 15 #[.agg (ev ac nc cc [x0, x1, x2, x3, x4, x5, x6, x7, x8, x9]), .agg (ev ad nd cd [x0, x1, x2, x3, x4, x5, x6, x7, x8, x9])] w' fun e w'' => e = .returned (.bool true) ∧ Below w'.heap.size w' w'') := Lib.hid fun w' hb => by
      have := equal_any ac ad nc nd cc cd LD LD [x0, x1, x2, x3, x4, x5, x6, x7, x8, x9] [x0, x1, x2, x3, x4, x5, x6, x7, x8, x9] w' (KZ.out w' hb).2.1.2 (KZ.out w' hb).2.2.1.2 HZD.out HZD.out hn1 hn2
      rwa [decide_eq_true (show LD = LD ∧ [x0, x1, x2, x3, x4, x5, x6, x7, x8, x9] = [x0, x1, x2, x3, x4, x5, x6, x7, x8, x9] from ⟨rfl, rfl⟩)] at this
    have KR : Hid (∀ w', Calls Tryz.prog 15 #[.agg (ev none 0 0 zS), .agg (ev none 0 0 zS)] w' fun e w'' => e = .returned (.bool true) ∧ Below w'.heap.size w' w'') := Lib.hid fun w' => by
      have := equal_any none none 0 0 0 0 [] [] zS zS w' (Vs.nil _ _ _ _ (Nat.zero_le _)) (Vs.nil _ _ _ _ (Nat.zero_le _)) rfl rfl (Nat.zero_le _) (Nat.zero_le _)
      rwa [decide_eq_true (show ([] : List OP) = [] ∧ zS = zS from ⟨rfl, rfl⟩)] at this
    have KS1 : Hid (∀ (w' : World) (b3 : Option Addr) (c3 : Nat) (b4 : Option Addr) (c4 : Nat), Ens w' b3 E1.length c3 E1 → Ens w' b4 E2.length c4 E2 → Calls Tryz.prog 13 #[.slice b3 E1.length c3, .slice b4 E2.length c4] w' fun e w'' => e = .returned (.bool bS) ∧ Below w'.heap.size w' w'') := Lib.hid fun w' b3 c3 b4 c4 h3 h4 => by
      have hq := rsameE_any b3 b4 _ _ c3 c4 E1 E2 w' h3 h4 HLE.out.1 HLE.out.2
      rw [hE1, hE2] at hq ⊢
      rw [← hbS] at hq
      exact hq
    have KS2 : Hid (∀ (w' : World) (b3 : Option Addr) (c3 : Nat) (b4 : Option Addr) (c4 : Nat), Ens w' b3 E1.length c3 E1 → Ens w' b4 E1.length c4 E1 → Calls Tryz.prog 13 #[.slice b3 E1.length c3, .slice b4 E1.length c4] w' fun e w'' => e = .returned (.bool true) ∧ Below w'.heap.size w' w'') := Lib.hid fun w' b3 c3 b4 c4 h3 h4 => by
      have := rsameE_any b3 b4 _ _ c3 c4 E1 E1 w' h3 h4 HLE.out.1 HLE.out.1
      rwa [decide_eq_true (show E1 = E1 from rfl)] at this
    have KC : Hid (∀ w', Below wz.heap.size wz w' → (w'.cell? ⟨X, 0, none⟩ = some (.slice af nf cf) ∧ w'.cell? ⟨X, 1, none⟩ = some (.int .i64 y0) ∧ w'.cell? ⟨X, 2, none⟩ = some (.int .i64 y1) ∧ w'.cell? ⟨X, 3, none⟩ = some (.int .i64 y2) ∧ w'.cell? ⟨X, 4, none⟩ = some (.int .i64 y3) ∧ w'.cell? ⟨X, 5, none⟩ = some (.int .i64 y4) ∧ w'.cell? ⟨X, 6, none⟩ = some (.int .i64 y5) ∧ w'.cell? ⟨X, 7, none⟩ = some (.int .i64 y6) ∧ w'.cell? ⟨X, 8, none⟩ = some (.int .i64 y7) ∧ w'.cell? ⟨X, 9, none⟩ = some (.int .i64 y8) ∧ w'.cell? ⟨X, 10, none⟩ = some (.int .i64 y9)) ∧ (w'.cell? ⟨Ta, 0, none⟩ = some (.slice ac nc cc) ∧ w'.cell? ⟨Ta, 1, none⟩ = some (.int .i64 x0) ∧ w'.cell? ⟨Ta, 2, none⟩ = some (.int .i64 x1) ∧ w'.cell? ⟨Ta, 3, none⟩ = some (.int .i64 x2) ∧ w'.cell? ⟨Ta, 4, none⟩ = some (.int .i64 x3) ∧ w'.cell? ⟨Ta, 5, none⟩ = some (.int .i64 x4) ∧ w'.cell? ⟨Ta, 6, none⟩ = some (.int .i64 x5) ∧ w'.cell? ⟨Ta, 7, none⟩ = some (.int .i64 x6) ∧ w'.cell? ⟨Ta, 8, none⟩ = some (.int .i64 x7) ∧ w'.cell? ⟨Ta, 9, none⟩ = some (.int .i64 x8) ∧ w'.cell? ⟨Ta, 10, none⟩ = some (.int .i64 x9)) ∧ (w'.cell? ⟨Tb, 0, none⟩ = some (.slice ad nd cd) ∧ w'.cell? ⟨Tb, 1, none⟩ = some (.int .i64 x0) ∧ w'.cell? ⟨Tb, 2, none⟩ = some (.int .i64 x1) ∧ w'.cell? ⟨Tb, 3, none⟩ = some (.int .i64 x2) ∧ w'.cell? ⟨Tb, 4, none⟩ = some (.int .i64 x3) ∧ w'.cell? ⟨Tb, 5, none⟩ = some (.int .i64 x4) ∧ w'.cell? ⟨Tb, 6, none⟩ = some (.int .i64 x5) ∧ w'.cell? ⟨Tb, 7, none⟩ = some (.int .i64 x6) ∧ w'.cell? ⟨Tb, 8, none⟩ = some (.int .i64 x7) ∧ w'.cell? ⟨Tb, 9, none⟩ = some (.int .i64 x8) ∧ w'.cell? ⟨Tb, 10, none⟩ = some (.int .i64 x9))) := Lib.hid fun w' hb => ⟨env_cells (KZ.out w' hb).1.1, env_cells (KZ.out w' hb).2.1.1, env_cells (KZ.out w' hb).2.2.1.1⟩
    obtain ⟨m1, hm1⟩ : ∃ m, m = E1.length := ⟨_, rfl⟩
    obtain ⟨m2, hm2⟩ : ∃ m, m = E2.length := ⟨_, rfl⟩
    rw [← hm1] at KE KG KS1 KS2
    rw [← hm2] at KF KS1
    clear hbS hE1 hE2 hbU hm1 hm2
    go_wp2_with fail
    go_region_held3 (fun w' => (w'.cell? ⟨X, 0, none⟩ = some (.slice af nf cf) ∧ w'.cell? ⟨X, 1, none⟩ = some (.int .i64 y0) ∧ w'.cell? ⟨X, 2, none⟩ = some (.int .i64 y1) ∧ w'.cell? ⟨X, 3, none⟩ = some (.int .i64 y2) ∧ w'.cell? ⟨X, 4, none⟩ = some (.int .i64 y3) ∧ w'.cell? ⟨X, 5, none⟩ = some (.int .i64 y4) ∧ w'.cell? ⟨X, 6, none⟩ = some (.int .i64 y5) ∧ w'.cell? ⟨X, 7, none⟩ = some (.int .i64 y6) ∧ w'.cell? ⟨X, 8, none⟩ = some (.int .i64 y7) ∧ w'.cell? ⟨X, 9, none⟩ = some (.int .i64 y8) ∧ w'.cell? ⟨X, 10, none⟩ = some (.int .i64 y9)) ∧ (w'.cell? ⟨Tb, 0, none⟩ = some (.slice ad nd cd) ∧ w'.cell? ⟨Tb, 1, none⟩ = some (.int .i64 x0) ∧ w'.cell? ⟨Tb, 2, none⟩ = some (.int .i64 x1) ∧ w'.cell? ⟨Tb, 3, none⟩ = some (.int .i64 x2) ∧ w'.cell? ⟨Tb, 4, none⟩ = some (.int .i64 x3) ∧ w'.cell? ⟨Tb, 5, none⟩ = some (.int .i64 x4) ∧ w'.cell? ⟨Tb, 6, none⟩ = some (.int .i64 x5) ∧ w'.cell? ⟨Tb, 7, none⟩ = some (.int .i64 x6) ∧ w'.cell? ⟨Tb, 8, none⟩ = some (.int .i64 x7) ∧ w'.cell? ⟨Tb, 9, none⟩ = some (.int .i64 x8) ∧ w'.cell? ⟨Tb, 10, none⟩ = some (.int .i64 x9)))
      (first
        | exact ⟨(KC.out _ HV3.out).1, (KC.out _ HV3.out).2.2⟩
        | exact ⟨(KC.out _ HV2.out).1, (KC.out _ HV2.out).2.2⟩
        | exact ⟨(KC.out _ HV1.out).1, (KC.out _ HV1.out).2.2⟩
        | exact ⟨(KC.out _ (Below.refl wz.heap.size wz).drew).1, (KC.out _ (Below.refl wz.heap.size wz).drew).2.2⟩)
      (first
        | (go_at_call 13; (refine (KS1.out _ _ _ _ _ HN1.out HN2.out).mono ?_); rintro e v3 ⟨rfl, hb3⟩; have HV3 : Hid (Below wz.heap.size wz v3) := Lib.hid (HV2.out.trans (hb3.mono HV2.out.size)); clear hb3)
        | (go_at_call 14; (refine (KF.out _ HV1.out).mono ?_); rintro e v2 ⟨b4, c4, rfl, he4, hb2⟩; have HN2 := Lib.hid he4; have HN1 := Lib.hid (Vs.below HM1.out hb2); have HV2 : Hid (Below wz.heap.size wz v2) := Lib.hid (HV1.out.trans (hb2.mono HV1.out.size)); clear he4 hb2)
        | (go_at_call 14; (refine (KE.out _ (Below.refl wz.heap.size wz).drew).mono ?_); rintro e v1 ⟨b3, c3, rfl, he3, hb1⟩; have HM1 := Lib.hid he3; have HV1 : Hid (Below wz.heap.size wz v1) := Lib.hid ((Below.refl wz.heap.size wz).drew.trans hb1); clear he3 hb1))
    go_wp2_with fail
    go_region_held3 (fun w' => (w'.cell? ⟨X, 0, none⟩ = some (.slice af nf cf) ∧ w'.cell? ⟨X, 1, none⟩ = some (.int .i64 y0) ∧ w'.cell? ⟨X, 2, none⟩ = some (.int .i64 y1) ∧ w'.cell? ⟨X, 3, none⟩ = some (.int .i64 y2) ∧ w'.cell? ⟨X, 4, none⟩ = some (.int .i64 y3) ∧ w'.cell? ⟨X, 5, none⟩ = some (.int .i64 y4) ∧ w'.cell? ⟨X, 6, none⟩ = some (.int .i64 y5) ∧ w'.cell? ⟨X, 7, none⟩ = some (.int .i64 y6) ∧ w'.cell? ⟨X, 8, none⟩ = some (.int .i64 y7) ∧ w'.cell? ⟨X, 9, none⟩ = some (.int .i64 y8) ∧ w'.cell? ⟨X, 10, none⟩ = some (.int .i64 y9)) ∧ (w'.cell? ⟨Ta, 0, none⟩ = some (.slice ac nc cc) ∧ w'.cell? ⟨Ta, 1, none⟩ = some (.int .i64 x0) ∧ w'.cell? ⟨Ta, 2, none⟩ = some (.int .i64 x1) ∧ w'.cell? ⟨Ta, 3, none⟩ = some (.int .i64 x2) ∧ w'.cell? ⟨Ta, 4, none⟩ = some (.int .i64 x3) ∧ w'.cell? ⟨Ta, 5, none⟩ = some (.int .i64 x4) ∧ w'.cell? ⟨Ta, 6, none⟩ = some (.int .i64 x5) ∧ w'.cell? ⟨Ta, 7, none⟩ = some (.int .i64 x6) ∧ w'.cell? ⟨Ta, 8, none⟩ = some (.int .i64 x7) ∧ w'.cell? ⟨Ta, 9, none⟩ = some (.int .i64 x8) ∧ w'.cell? ⟨Ta, 10, none⟩ = some (.int .i64 x9)) ∧ (w'.cell? ⟨Tb, 0, none⟩ = some (.slice ad nd cd) ∧ w'.cell? ⟨Tb, 1, none⟩ = some (.int .i64 x0) ∧ w'.cell? ⟨Tb, 2, none⟩ = some (.int .i64 x1) ∧ w'.cell? ⟨Tb, 3, none⟩ = some (.int .i64 x2) ∧ w'.cell? ⟨Tb, 4, none⟩ = some (.int .i64 x3) ∧ w'.cell? ⟨Tb, 5, none⟩ = some (.int .i64 x4) ∧ w'.cell? ⟨Tb, 6, none⟩ = some (.int .i64 x5) ∧ w'.cell? ⟨Tb, 7, none⟩ = some (.int .i64 x6) ∧ w'.cell? ⟨Tb, 8, none⟩ = some (.int .i64 x7) ∧ w'.cell? ⟨Tb, 9, none⟩ = some (.int .i64 x8) ∧ w'.cell? ⟨Tb, 10, none⟩ = some (.int .i64 x9)))
      (first
        | exact KC.out _ HU10.out
        | exact KC.out _ HU9.out
        | exact KC.out _ HU8.out
        | exact KC.out _ HU7.out
        | exact KC.out _ HU6.out
        | exact KC.out _ HU5.out
        | exact KC.out _ HU4.out
        | exact KC.out _ HU3.out
        | exact KC.out _ HU2.out
        | exact KC.out _ HU1.out
        | exact KC.out _ HV3.out.drew
        | exact KC.out _ HV3.out)
      (first
        | (go_at_call 15; (with_reducible refine (KR.out _).mono ?_); rintro e u10 ⟨rfl, hb⟩; have HU10 : Hid (Below wz.heap.size wz u10) := Lib.hid (HU9.out.trans (hb.mono HU9.out.size)); clear hb)
        | (go_at_call 21; (refine (rnew_any _).mono ?_); rintro e u9 ⟨rfl, hb⟩; have HU9 : Hid (Below wz.heap.size wz u9) := Lib.hid (HU8.out.trans (hb.mono HU8.out.size)); clear hb)
        | (go_at_call 20; (refine (new_any _).mono ?_); rintro e u8 ⟨rfl, hb⟩; have HU8 : Hid (Below wz.heap.size wz u8) := Lib.hid (HU7.out.trans (hb.mono HU7.out.size)); clear hb)
        | (go_at_call 19; (refine (KV.out _ HU6.out).mono ?_); rintro e u7 ⟨rfl, hb⟩; have HU7 : Hid (Below wz.heap.size wz u7) := Lib.hid (HU6.out.trans (hb.mono HU6.out.size)); clear hb)
        | (go_at_call 18; (refine (KU.out _ HU5.out).mono ?_); rintro e u6 ⟨rfl, hb⟩; have HU6 : Hid (Below wz.heap.size wz u6) := Lib.hid (HU5.out.trans (hb.mono HU5.out.size)); clear hb)
        | (go_at_call 17; (refine (KM.out _ HU4.out).mono ?_); rintro e u5 ⟨rfl, hb⟩; have HU5 : Hid (Below wz.heap.size wz u5) := Lib.hid (HU4.out.trans (hb.mono HU4.out.size)); clear hb)
        | (go_at_call 13; (refine (KS2.out _ _ _ _ _ HN3.out HN4.out).mono ?_); rintro e u4 ⟨rfl, hb⟩; have HU4 : Hid (Below wz.heap.size wz u4) := Lib.hid (HU3.out.trans (hb.mono HU3.out.size)); clear hb)
        | (go_at_call 14; (refine (KE.out _ HU2.out).mono ?_); rintro e u3 ⟨b6, c6, rfl, he, hb⟩; have HN4 := Lib.hid he; have HN3 := Lib.hid (Vs.below HM3.out hb); have HU3 : Hid (Below wz.heap.size wz u3) := Lib.hid (HU2.out.trans (hb.mono HU2.out.size)); clear he hb)
        | (go_at_call 16; (refine (KG.out _ HU1.out).mono ?_); rintro e u2 ⟨b5, c5, rfl, he, hb⟩; have HM3 := Lib.hid he; have HU2 : Hid (Below wz.heap.size wz u2) := Lib.hid (HU1.out.trans (hb.mono HU1.out.size)); clear he hb)
        | (go_at_call 15; (refine (KQ.out _ HV3.out.drew).mono ?_); rintro e u1 ⟨rfl, hb⟩; have HU1 : Hid (Below wz.heap.size wz u1) := Lib.hid (HV3.out.drew.trans (hb.mono HV3.out.drew.size)); clear hb))
    all_goals
      go_wp2
      go_ret
      exact ⟨by first | rfl | simp, by rw [← HW.out]; exact HBz.out.trans (HU10.out.mono (by have := HBz.out.size; have := HW.out; omega))⟩

end Go.Proofs.YtjkjbgekpkhpfaaGreatDoor
