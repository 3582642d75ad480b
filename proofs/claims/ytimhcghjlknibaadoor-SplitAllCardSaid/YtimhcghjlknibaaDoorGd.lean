/- The document's Pieces. -/
import Derived.Test.YtimhcghjlknibaaDoorMD
import Derived.Test.YtimhcghjlknibaaDoorMB
import Derived.Deep.RegionHeld3
namespace Go.Proofs.YtimhcghjlknibaaDoor
open Go.RowKit

theorem hdN_here {T : List TK} {f k : Nat} (hf : f ≤ k) (hk : k < T.length) (hm : ∀ j, f ≤ j → j < k → (tat T j).k ≠ 7) (h : (tat T k).k = 7 ∨ k + 1 = T.length) : hdN (T.drop f) = k + 1 - f := by
  have hl : (T.drop f).length = T.length - f := List.length_drop
  rcases h with h | h
  · rw [hdN_at (k := k - f) (by omega) (by rw [tat_drop', show f + (k - f) = k by omega]; exact h) (fun j hj => by rw [tat_drop']; exact hm _ (by omega) (by omega))]
    omega
  · by_cases h7 : (tat T k).k = 7
    · rw [hdN_at (k := k - f) (by omega) (by rw [tat_drop', show f + (k - f) = k by omega]; exact h7) (fun j hj => by rw [tat_drop']; exact hm _ (by omega) (by omega))]
      omega
    · rw [hdN_none (fun j hj => by
        rw [tat_drop']
        by_cases hjk : f + j < k
        · exact hm _ (by omega) hjk
        · rw [show f + j = k by omega]; exact h7), hl]
      omega
theorem pk_here {T : List TK} {f k : Nat} (hf : f ≤ k) (hk : k < T.length) (hm : ∀ j, f ≤ j → j < k → (tat T j).k ≠ 7) (h : (tat T k).k = 7 ∨ k + 1 = T.length) :
    pk f (pcs (T.drop f)) = ⟨(tat T f).f, (tat T k).t, f, (T.take (k + 1)).drop f⟩ :: pk (k + 1) (pcs (T.drop (k + 1))) := by
  have hl : (T.drop f).length = T.length - f := List.length_drop
  rw [pcs_cons (by omega), hdN_here hf hk hm h, pk, List.drop_drop, show f + (k + 1 - f) = k + 1 by omega]
  have hlt : ((T.drop f).take (k + 1 - f)).length = k + 1 - f := by rw [List.length_take, hl]; omega
  rw [hlt, show f + (k + 1 - f) = k + 1 by omega]
  congr 1
  unfold pkOf
  rw [hlt, tat_takeL (by omega), tat_takeL (by omega), tat_drop', tat_drop', Nat.add_zero, show f + (k + 1 - f - 1) = k by omega, List.drop_take]

theorem own_snoc {base : Nat} {w w' : World} {D : List PV} {x : PV} (hD : ∀ p ∈ D, p.s.own base w) (h : ∀ {s : SV}, s.own base w → s.own base w') (hx : x.s.own base w') : ∀ p ∈ D ++ [x], p.s.own base w' := fun p hp => by
  rcases List.mem_append.1 hp with hp | hp
  · exact h (hD p hp)
  · rw [List.mem_singleton.1 hp]; exact hx

set_option maxRecDepth 100000 in
set_option maxHeartbeats 8000000 in
theorem rpieces_any (a : Option Addr) (len cap : Nat) (l : List Int) (w : World) (h : Bs w a len cap l) (hsz : len ≤ 1000000) :
    Calls Tryd.prog 15 #[.slice a len cap] w fun e w' => ∃ a', ∃ n' c' : Nat, ∃ V : List PV, e = .returned (.slice a' n' c') ∧ Ps w' a' n' c' V ∧ V.map PV.k = pieces l ∧ Below w.heap.size w w' := by
  have H := Lib.hid h
  have hTL := toks_length h.rng
  rw [h.hl] at hTL
  obtain ⟨T, hT⟩ : ∃ T, T = toks l := ⟨_, rfl⟩
  rw [← hT] at hTL
  obtain ⟨n, hn⟩ : ∃ n, n = T.length := ⟨_, rfl⟩
  rw [← hn] at hTL
  have HTT := Lib.hid hT
  have HN := Lib.hid hn
  clear h hT hn
  go_enter Tryd.func15, Tryd.ntmps15
  go_wp2_with fail
  refine (rall_own _ _ _ l _ (H.out.below ((Below.refl _ _).alloc (Nat.le_refl _) _)) hsz).mono ?_
  rw [← HTT.out, ← HN.out]
  rintro e w1 ⟨a4, c4, rfl, hr1, hb1⟩
  have HB0 : Hid (Below w.heap.size w w1) := Lib.hid (((Below.refl _ _).alloc (Nat.le_refl _) _).trans (hb1.mono (by simp)))
  have HO0 : Hid (OwnV w.heap.size 25 4 w1 (some ⟨w.heap.size, 0, none⟩) 0 0 []) := Lib.hid (OwnV.keep (OwnV.emptyAt (heap_alloc_new w _) (Nat.le_refl _)) hb1 (Nat.le_refl _))
  have HR1 : Hid (RowT w.heap.size 38 w1 a4 n c4 T) := Lib.hid (hr1.mono (by simp))
  have hlc4 := hr1.lc
  have hcm4 := hr1.cm
  unfold maxLen at hcm4
  clear hr1 hb1
  go_wp2
  go_loopw [3, 5, 6] (fun v x i wr => ∃ a3, ∃ c3 d f k : Nat, v = .slice a3 d c3 ∧ x = .int .i64 f ∧ i = .int .i64 k ∧ f ≤ k ∧ k ≤ n ∧ d ≤ f ∧ (k = n → f = n) ∧ Hid (∀ j, f ≤ j → j < k → (tat T j).k ≠ 7) ∧ (∃ D : List PV, Hid (OwnV w.heap.size 25 4 wr a3 d c3 (rowP D)) ∧ Hid (∀ p ∈ D, p.s.own w.heap.size wr) ∧ Hid (D.map PV.k ++ pk f (pcs (T.drop f)) = pieces l)) ∧ Hid (Below w.heap.size w wr) ∧ Hid (RowT w.heap.size 38 wr a4 n c4 T)) (fun _ _ i _ => n - (intOf i).toNat)
  case atStart => exact ⟨_, _, 0, 0, 0, rfl, rfl, rfl, by omega, by omega, by omega, fun h => h, Lib.hid (fun j h1 h2 => by omega), ⟨[], HO0, Lib.hid (by simp), Lib.hid (by unfold pieces; rw [← HTT.out]; rfl)⟩, HB0, HR1⟩
  case round =>
    obtain ⟨a3, c3, d, f, k, rfl, rfl, rfl, hfk, hk, hdf, hend, HM, ⟨D, HO, HD, HE⟩, HB, HR⟩ := hrel
    by_cases hlt : k < n
    · have hr := HR.out.ts
      obtain ⟨b4, o4, rfl, hbl, _⟩ := hr.at_ (by omega)
      obtain ⟨p0, _, p2, _, _⟩ := hr.at5 (k := k) hlt
      obtain ⟨_, p1, _, _, _⟩ := hr.at5 (k := f) (by omega)
      obtain ⟨K, hK⟩ : ∃ K, K = (tat T k).k := ⟨_, rfl⟩
      obtain ⟨F, hF⟩ : ∃ F, F = (tat T f).f := ⟨_, rfl⟩
      obtain ⟨U, hU⟩ : ∃ U, U = (tat T k).t := ⟨_, rfl⟩
      rw [← hK] at p0
      rw [← hF] at p1
      rw [← hU] at p2
      have hw2 : (0 : Int) ≤ (k : Int) := Int.natCast_nonneg _
      have hw3 : (k : Int) < (n : Int) := by omega
      have hw4 : (0 : Int) ≤ (f : Int) := Int.natCast_nonneg _
      have hw5 : (f : Int) < (n : Int) := by omega
      have hw6 : IntKind.i64.wrap ((n : Int) - 1) = (n : Int) - 1 := IntWalk.i64_in _ (by omega)
      have hw7 : IntKind.i64.wrap ((k : Int) + 1) = (k : Int) + 1 := IntWalk.i64_in _ (by omega)
      have hw8 : decide ((k : Int) < n) = true := decide_eq_true hw3
      have HK := Lib.hid hK
      have HP : Hid (wr.cell? ⟨b4, o4 + f * 5 + 1, none⟩ = some (.int .i64 F) ∧ wr.cell? ⟨b4, o4 + k * 5 + 2, none⟩ = some (.int .i64 U)) := Lib.hid ⟨p1, p2⟩
      have HBL := Lib.hid hbl
      have HFU := Lib.hid (And.intro hF hU)
      have HPK : Hid ((tat T k).k = 7 ∨ k + 1 = n → pk f (pcs (T.drop f)) = ⟨F, U, f, (T.take (k + 1)).drop f⟩ :: pk (k + 1) (pcs (T.drop (k + 1)))) := Lib.hid fun h => by
        rw [hF, hU]
        exact pk_here hfk (by rw [← HN.out]; exact hlt) HM.out (by rw [← HN.out]; exact h)
      clear hr hK hF hU p1 p2 hbl
      by_cases h7 : K = 7
      · have hq : (K == 7) = true := by simpa using h7
        have HK7 : Hid ((tat T k).k = 7) := Lib.hid (by rw [← HK.out]; exact h7)
        clear h7
        have HPP := Lib.hid (HPK.out (Or.inl HK7.out))
        have hsl : ∀ w, (Instr.slice 23 (.slice (some ⟨b4, o4, none⟩) n c4) (some (.int .i64 f)) (some (.int .i64 ((k : Int) + 1))) none).run Tryd.prog w = .ok (.slice (some ⟨b4, if c4 = f then o4 else o4 + f * 5, none⟩) (k + 1 - f) (c4 - f)) w := fun w => run_lh (n := n) (l := f) (h := k + 1) elem_toks Tryd.underlying23 tok_info (by omega) (by omega) w
        have hts := HR.out.ts.sub (l := f) (h := k + 1) (by omega) (by omega)
        obtain ⟨o2, ho2⟩ : ∃ o2, o2 = if c4 = f then o4 else o4 + f * 5 := ⟨_, rfl⟩
        obtain ⟨n2, hn2⟩ : ∃ n2, n2 = k + 1 - f := ⟨_, rfl⟩
        obtain ⟨c2, hc2⟩ : ∃ c2, c2 = c4 - f := ⟨_, rfl⟩
        rw [← ho2, ← hn2, ← hc2] at hsl hts
        have HTS := Lib.hid hts
        have hn2' : n2 ≤ 1000000 := by omega
        clear ho2 hts hn2 hc2
        go_wp2
        have hS : wr.cell? ⟨b4, o4 + f * 5 + 1, none⟩ = some (.int .i64 F) ∧ wr.cell? ⟨b4, o4 + k * 5 + 2, none⟩ = some (.int .i64 U) := HP.out
        go_region_held3 (fun w' => w'.cell? ⟨b4, o4 + f * 5 + 1, none⟩ = some (.int .i64 F) ∧ w'.cell? ⟨b4, o4 + k * 5 + 2, none⟩ = some (.int .i64 U))
          (first
            | go_keep
            | exact ⟨(HB5.out.cell HBL.out).trans HP.out.1, (HB5.out.cell HBL.out).trans HP.out.2⟩
            | exact ⟨((HB5.out.alloc HB5.out.size _).cell HBL.out).trans HP.out.1, ((HB5.out.alloc HB5.out.size _).cell HBL.out).trans HP.out.2⟩
            | exact HP6.out)
          (first
            | (refine step_appv rfl (.tmp 41) (.tmp 46) 23 rfl 38 wr.heap.size 5 48 _ Tryd.underlying23 tok_info rfl (by omega) _ _ _ [] rfl (OwnV.emptyAt (heapAt1 _ _) (by simp)) _ _ _ (rowT ((T.take (k + 1)).drop f)) rfl (HTS.out.vs.below ((Below.refl _ _).alloc (Nat.le_refl _) _).drew) (rowT_one _) (by unfold maxLen; omega) (by omega) (by simp) ?_; intro a5 c5 w5 ho5 hg5 hb5 _; rw [Nat.zero_add] at ho5 ⊢; rw [List.nil_append] at ho5; have HO5 : Hid (RowT wr.heap.size 38 w5 a5 n2 c5 ((T.take (k + 1)).drop f)) := Lib.hid (OwnT.row (show OwnT _ _ _ _ _ _ _ from ho5)); have HB5 : Hid (Below wr.heap.size wr w5) := Lib.hid (((Below.refl _ _).alloc (Nat.le_refl _) _).drew.trans hb5); clear ho5 hg5 hb5)
            | (refine step_appv rfl (.tmp 29) (.tmp 49) 31 rfl 25 w.heap.size 4 48 _ Tryd.underlying31 piece_info rfl (by omega) _ _ _ (rowP D) rfl ((HO.out.keep HB5.out (Nat.le_refl _)).alloc _) _ _ _ (rowP [⟨F, U, f, ⟨a5, n2, c5, (T.take (k + 1)).drop f⟩⟩]) rfl (Vs.lit (k := 4) (xs := rowP [⟨F, U, f, ⟨a5, n2, c5, (T.take (k + 1)).drop f⟩⟩]) _ _ rfl rfl rfl) (rowP_one _) (by unfold maxLen; omega) (by omega) (by have := HB.out.size; have := HB5.out.size; simp; omega) ?_; intro a6 c6 w6 ho6 hg6 hb6 _; rw [← rowP_append] at ho6; have HO6 := Lib.hid ho6; have HB6 : Hid (Below w.heap.size w w6) := Lib.hid (((HB.out.trans (HB5.out.mono HB.out.size)).alloc (Nat.le_trans HB.out.size HB5.out.size) _).trans hb6); have HD6 : Hid (∀ p ∈ D ++ [(⟨F, U, f, ⟨a5, n2, c5, (T.take (k + 1)).drop f⟩⟩ : PV)], p.s.own w.heap.size w6) := Lib.hid (own_snoc HD.out (fun hp => RowT.past (RowT.keep (RowT.keep hp HB5.out (Nat.le_refl _)) ((Below.refl _ _).alloc (Nat.le_refl _) _) (Nat.le_refl _)) ((HO.out.keep HB5.out (Nat.le_refl _)).alloc _) (by decide) hg6) (RowT.past (RowT.keep (HO5.out.mono HB.out.size) ((Below.refl _ _).alloc (Nat.le_refl _) _) (Nat.le_refl _)) ((HO.out.keep HB5.out (Nat.le_refl _)).alloc _) (by decide) hg6)); have HR6 : Hid (RowT w.heap.size 38 w6 (some ⟨b4, o4, none⟩) n c4 T) := Lib.hid (RowT.past (RowT.keep (RowT.keep HR.out HB5.out (Nat.le_refl _)) ((Below.refl _ _).alloc (Nat.le_refl _) _) (Nat.le_refl _)) ((HO.out.keep HB5.out (Nat.le_refl _)).alloc _) (by decide) hg6); have HP6 : Hid (w6.cell? ⟨b4, o4 + f * 5 + 1, none⟩ = some (.int .i64 F) ∧ w6.cell? ⟨b4, o4 + k * 5 + 2, none⟩ = some (.int .i64 U)) := Lib.hid ⟨(HR6.out.ts.at5 (by omega)).2.1.trans (by rw [HFU.out.1]), (HR6.out.ts.at5 (by omega)).2.2.1.trans (by rw [HFU.out.2])⟩; clear ho6 hg6 hb6))
        clear hS
        have HE6 : Hid ((D ++ [(⟨F, U, f, ⟨a5, n2, c5, (T.take (k + 1)).drop f⟩⟩ : PV)]).map PV.k ++ pk (k + 1) (pcs (T.drop (k + 1))) = pieces l) := Lib.hid (by
          rw [← HE.out, HPP.out, List.map_append, List.append_assoc]; rfl)
        go_wp2
        go_roundw
        case rel => exact ⟨_, _, d + 1, k + 1, k + 1, rfl, by go_num, by go_num, by omega, by omega, by omega, fun h => h, Lib.hid (fun j h1 h2 => by omega), ⟨_, HO6, HD6, HE6⟩, HB6, HR6⟩
        case measure => simp [intOf]; omega
      · have hq : (K == 7) = false := by simpa using h7
        have HK7 : Hid ((tat T k).k ≠ 7) := Lib.hid (by rw [← HK.out]; exact h7)
        clear h7
        by_cases hl : k + 1 = n
        · have hq2 : ((k : Int) == (n : Int) - 1) = true := by simp; omega
          have HLL := Lib.hid hl
          have hl' : n ≤ k + 1 := by omega
          clear hl
          have HPP := Lib.hid (HPK.out (Or.inr HLL.out))
          have hsl : ∀ w, (Instr.slice 23 (.slice (some ⟨b4, o4, none⟩) n c4) (some (.int .i64 f)) (some (.int .i64 ((k : Int) + 1))) none).run Tryd.prog w = .ok (.slice (some ⟨b4, if c4 = f then o4 else o4 + f * 5, none⟩) (k + 1 - f) (c4 - f)) w := fun w => run_lh (n := n) (l := f) (h := k + 1) elem_toks Tryd.underlying23 tok_info (by omega) (by omega) w
          have hts := HR.out.ts.sub (l := f) (h := k + 1) (by omega) (by omega)
          obtain ⟨o2, ho2⟩ : ∃ o2, o2 = if c4 = f then o4 else o4 + f * 5 := ⟨_, rfl⟩
          obtain ⟨n2, hn2⟩ : ∃ n2, n2 = k + 1 - f := ⟨_, rfl⟩
          obtain ⟨c2, hc2⟩ : ∃ c2, c2 = c4 - f := ⟨_, rfl⟩
          rw [← ho2, ← hn2, ← hc2] at hsl hts
          have HTS := Lib.hid hts
          have hn2' : n2 ≤ 1000000 := by omega
          clear ho2 hts hn2 hc2
          go_wp2
          have hS : wr.cell? ⟨b4, o4 + f * 5 + 1, none⟩ = some (.int .i64 F) ∧ wr.cell? ⟨b4, o4 + k * 5 + 2, none⟩ = some (.int .i64 U) := HP.out
          go_region_held3 (fun w' => w'.cell? ⟨b4, o4 + f * 5 + 1, none⟩ = some (.int .i64 F) ∧ w'.cell? ⟨b4, o4 + k * 5 + 2, none⟩ = some (.int .i64 U))
            (first
              | go_keep
              | exact ⟨(HB5.out.cell HBL.out).trans HP.out.1, (HB5.out.cell HBL.out).trans HP.out.2⟩
              | exact ⟨((HB5.out.alloc HB5.out.size _).cell HBL.out).trans HP.out.1, ((HB5.out.alloc HB5.out.size _).cell HBL.out).trans HP.out.2⟩
              | exact HP6.out)
            (first
              | (refine step_appv rfl (.tmp 41) (.tmp 46) 23 rfl 38 wr.heap.size 5 48 _ Tryd.underlying23 tok_info rfl (by omega) _ _ _ [] rfl (OwnV.emptyAt (heapAt1 _ _) (by simp)) _ _ _ (rowT ((T.take (k + 1)).drop f)) rfl (HTS.out.vs.below ((Below.refl _ _).alloc (Nat.le_refl _) _).drew) (rowT_one _) (by unfold maxLen; omega) (by omega) (by simp) ?_; intro a5 c5 w5 ho5 hg5 hb5 _; rw [Nat.zero_add] at ho5 ⊢; rw [List.nil_append] at ho5; have HO5 : Hid (RowT wr.heap.size 38 w5 a5 n2 c5 ((T.take (k + 1)).drop f)) := Lib.hid (OwnT.row (show OwnT _ _ _ _ _ _ _ from ho5)); have HB5 : Hid (Below wr.heap.size wr w5) := Lib.hid (((Below.refl _ _).alloc (Nat.le_refl _) _).drew.trans hb5); clear ho5 hg5 hb5)
              | (refine step_appv rfl (.tmp 29) (.tmp 49) 31 rfl 25 w.heap.size 4 48 _ Tryd.underlying31 piece_info rfl (by omega) _ _ _ (rowP D) rfl ((HO.out.keep HB5.out (Nat.le_refl _)).alloc _) _ _ _ (rowP [⟨F, U, f, ⟨a5, n2, c5, (T.take (k + 1)).drop f⟩⟩]) rfl (Vs.lit (k := 4) (xs := rowP [⟨F, U, f, ⟨a5, n2, c5, (T.take (k + 1)).drop f⟩⟩]) _ _ rfl rfl rfl) (rowP_one _) (by unfold maxLen; omega) (by omega) (by have := HB.out.size; have := HB5.out.size; simp; omega) ?_; intro a6 c6 w6 ho6 hg6 hb6 _; rw [← rowP_append] at ho6; have HO6 := Lib.hid ho6; have HB6 : Hid (Below w.heap.size w w6) := Lib.hid (((HB.out.trans (HB5.out.mono HB.out.size)).alloc (Nat.le_trans HB.out.size HB5.out.size) _).trans hb6); have HD6 : Hid (∀ p ∈ D ++ [(⟨F, U, f, ⟨a5, n2, c5, (T.take (k + 1)).drop f⟩⟩ : PV)], p.s.own w.heap.size w6) := Lib.hid (own_snoc HD.out (fun hp => RowT.past (RowT.keep (RowT.keep hp HB5.out (Nat.le_refl _)) ((Below.refl _ _).alloc (Nat.le_refl _) _) (Nat.le_refl _)) ((HO.out.keep HB5.out (Nat.le_refl _)).alloc _) (by decide) hg6) (RowT.past (RowT.keep (HO5.out.mono HB.out.size) ((Below.refl _ _).alloc (Nat.le_refl _) _) (Nat.le_refl _)) ((HO.out.keep HB5.out (Nat.le_refl _)).alloc _) (by decide) hg6)); have HR6 : Hid (RowT w.heap.size 38 w6 (some ⟨b4, o4, none⟩) n c4 T) := Lib.hid (RowT.past (RowT.keep (RowT.keep HR.out HB5.out (Nat.le_refl _)) ((Below.refl _ _).alloc (Nat.le_refl _) _) (Nat.le_refl _)) ((HO.out.keep HB5.out (Nat.le_refl _)).alloc _) (by decide) hg6); have HP6 : Hid (w6.cell? ⟨b4, o4 + f * 5 + 1, none⟩ = some (.int .i64 F) ∧ w6.cell? ⟨b4, o4 + k * 5 + 2, none⟩ = some (.int .i64 U)) := Lib.hid ⟨(HR6.out.ts.at5 (by omega)).2.1.trans (by rw [HFU.out.1]), (HR6.out.ts.at5 (by omega)).2.2.1.trans (by rw [HFU.out.2])⟩; clear ho6 hg6 hb6))
          clear hS
          have HE6 : Hid ((D ++ [(⟨F, U, f, ⟨a5, n2, c5, (T.take (k + 1)).drop f⟩⟩ : PV)]).map PV.k ++ pk (k + 1) (pcs (T.drop (k + 1))) = pieces l) := Lib.hid (by
            rw [← HE.out, HPP.out, List.map_append, List.append_assoc]; rfl)
          go_wp2
          go_roundw
          case rel => exact ⟨_, _, d + 1, k + 1, k + 1, rfl, by go_num, by go_num, by omega, by omega, by omega, fun h => h, Lib.hid (fun j h1 h2 => by omega), ⟨_, HO6, HD6, HE6⟩, HB6, HR6⟩
          case measure => simp [intOf]; omega
        · have hq2 : ((k : Int) == (n : Int) - 1) = false := by simp; omega
          have HM' : Hid (∀ j, f ≤ j → j < k + 1 → (tat T j).k ≠ 7) := Lib.hid (fun j h1 h2 => by
            by_cases hjk : j < k
            · exact HM.out j h1 hjk
            · have : j = k := by omega
              subst this; exact HK7.out)
          go_wp2
          go_roundw
          case rel => exact ⟨_, _, d, f, k + 1, rfl, rfl, by go_num, by omega, by omega, by omega, fun h => absurd h hl, HM', ⟨_, HO, HD, HE⟩, HB, HR⟩
          case measure => simp [intOf]; omega
    · have hkl : k = n := by omega
      have hfn := hend hkl
      have HE' : Hid (D.map PV.k = pieces l) := Lib.hid (by rw [← HE.out, hfn, HN.out, List.drop_length, pcs_nil]; simp [pk])
      go_wp2
      go_ret
      exact ⟨_, _, _, D, rfl, ⟨HO.out.vs, fun p hp => (HD.out p hp).ts⟩, HE'.out, HB.out⟩

end Go.Proofs.YtimhcghjlknibaaDoor
