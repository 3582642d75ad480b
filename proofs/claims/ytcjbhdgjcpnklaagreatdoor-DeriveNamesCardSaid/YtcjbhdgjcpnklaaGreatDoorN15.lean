import Derived.Test.YtcjbhdgjcpnklaaGreatDoorN13
import Derived.Test.YtcjbhdgjcpnklaaGreatDoorN14
namespace Go.Proofs.YtcjbhdgjcpnklaaGreatDoor
section
open Go.RowKit
theorem zRx : RT 32 10 := ⟨⟨_, Tryz.underlying32, rfl⟩, by kernel_rfl⟩
def fmZ : Array Value := #[.int .i64 0, .string ⟨#[]⟩, .int .i64 0, .int .i64 0, .int .i64 0, .string ⟨#[]⟩, .int .i64 0, .int .i64 0, .slice none 0 0]
def mayK (z : List Int) (F : List FD) (o : OP) (rt : Bool) (i : Nat) : Bool := ((fA F i).k != 3) || fitsB z o (fA F i).o rt
def kidsV (z : List Int) (F : List FD) (f : FD) (j : Nat) : List Nat :=
 if 0 < j ∧ j + 1 < f.S.length then List.range F.length else (List.range F.length).filter (mayK z F f.o (decide (0 < j)))
theorem zK2 {p : Nat → Bool} (k : Nat) : (List.range (k + 1)).filter p = (List.range k).filter p ++ (if p k = true then [k] else []) := by
 rw [List.range_succ, List.filter_append]
 congr 1
 by_cases h : p k = true
 ·rw [if_pos h, List.filter_cons_of_pos h]; rfl
 ·rw [if_neg h, List.filter_cons_of_neg h]; rfl
theorem zGc (A B : List Nat) : intsK (A ++ B) = intsK A ++ intsK B := by simp [intsK]
theorem zMl (p : Nat → Bool) (k : Nat) : ((List.range k).filter p).length ≤ k := by
 have := List.length_filter_le p (List.range k)
 rwa [List.length_range] at this
set_option maxRecDepth 100000 in
set_option maxHeartbeats 8000000 in
theorem zTD (z : List Int) (hz : z.length = 10) (hr : ∀ i, i < 10 → I64 (bt z i)) (a : Option Addr) (n c : Nat) (F : List FD) (gs : List GC) (f : FD) (sa : Option Addr) (sc : Nat) (i : Nat) (w : World) (ht : Tab w) (h : FmO w a n c F gs) (hn : n ≤ 1000000) (hi : i < f.S.length) (hs : f.S.length ≤ 1000000) (hfo : f.o.1.length ≤ 1000000) (hna : ∀ k, k < n → (fA F k).o.1.length ≤ 1000000) :
  Calls Tryz.prog 63 #[.agg (rv z), .slice a n c, .agg (fmA f sa f.S.length sc), .int .i64 (i : Int)] w fun e w' => ∃ ra K rc, e = .returned (.slice ra K.length rc) ∧ K = kidsV z F f i ∧ OwnV w.heap.size 3 1 w' ra K.length rc (intsK K) ∧ Below w.heap.size w w' := by
 obtain ⟨fk0, fn0, fc0, ⟨p0, g0, s0⟩, S0⟩ := f
 dsimp only at hi hs hfo ⊢
 obtain ⟨f, hf⟩ : ∃ f, f = (⟨fk0, fn0, fc0, (p0, g0, s0), S0⟩ : FD) := ⟨_, rfl⟩
 have HFE : Hid (f = (⟨fk0, fn0, fc0, (p0, g0, s0), S0⟩ : FD)) := hid hf
 rw [← hf]
 obtain ⟨sl, hsl⟩ : ∃ sl, sl = S0.length := ⟨_, rfl⟩
 rw [← hsl] at hi hs ⊢
 have HSL := hid hsl
 obtain ⟨B, hB⟩ : ∃ B, B = w.heap.size := ⟨_, rfl⟩
 obtain ⟨X, hX⟩ : ∃ X, X = fmA f sa sl sc := ⟨_, rfl⟩
 obtain ⟨w1, hw1⟩ : ∃ w1, w1 = w.alloc (.cells (rv z) 32) := ⟨_, rfl⟩
 obtain ⟨w2, hw2⟩ : ∃ w2, w2 = w1.alloc (.cells X 119) := ⟨_, rfl⟩
 have s1 : w1.heap.size = B + 1 := by rw [hw1, hB]; simp
 have HZ2 : Hid (Bk w2 B 32 (rv z)) := hid (by rw [hw2, hw1, hB]; exact (Bk.new w _ _).alloc _)
 have HFB : Hid (Bk w2 (B + 1) 119 (fmA ⟨fk0, fn0, fc0, (p0, g0, s0), S0⟩ sa sl sc)) := hid (by rw [hw2, ← s1, ← hf, ← hX]; exact Bk.new w1 _ _)
 have HBW2 : Hid (Below w.heap.size w w2) := hid (by rw [hw2, hw1]; exact (zAA w _).alloc (by simp) _)
 have HF2 : Hid (FmO w2 a n c F gs) := hid (h.below HBW2.out)
 have HT2 : Hid (Tab w2) := hid (ht.keep HBW2.out)
 have x8 : w2.cell? ⟨B + 1, 8, none⟩ = some (.slice sa sl sc) := HFB.out.cell 8
 have HZ := hid hz
 have HR10 := hid hr
 have HFO := hid hfo
 have HNA := hid hna
 have hwl : IntKind.i64.wrap ((sl : Int) - 1) = (sl : Int) - 1 := IntWalk.i64_in _ (by omega)
 have HFN : Hid (F.length = n) := hid h.hn
 rw [← hX]
 clear h ht hz hr hfo hna hf hsl hX
 go_enter Tryz.func63, Tryz.ntmps63
 go_upto_region 1 with fail
 rw [← hw1]
 try rw [← hw2]
 rw [← hB]
 try rw [s1]
 clear hw1 hw2 s1 hB
 by_cases hint : 0 < i ∧ i + 1 < sl
 ·have hgt : decide (0 < i) = true := by simpa using hint.1
  have hlt : decide ((i : Int) < (sl : Int) - 1) = true := by simp; omega
  have HKV : Hid (kidsV z F f i = List.range n) := hid (by unfold kidsV; rw [HFE.out]; dsimp only; rw [← HSL.out, if_pos hint, HFN.out])
  clear hint
  go_wp2_with fail
  refine (zRl a n c w2 hn).mono ?_
  rintro e w3 ⟨ra, rc, rfl, ho, hb⟩
  have HO := hid ho
  have HB := hid hb
  clear ho hb
  go_wp2
  go_ret
  exact ⟨ra, List.range n, rc, by rw [List.length_range]; rfl, HKV.out.symm, by rw [List.length_range]; exact HO.out.weaken HBW2.out.size, HBW2.out.trans (HB.out.mono HBW2.out.size)⟩
 ·by_cases h0 : 0 < i
  ·have hgt : decide (0 < i) = true := by simpa using h0
   have hlt : decide ((i : Int) < (sl : Int) - 1) = false := by simp; omega
   obtain ⟨rt, hrt⟩ : ∃ rt : Bool, rt = true := ⟨_, rfl⟩
   have HKV : Hid (kidsV z F f i = (List.range n).filter (mayK z F (p0, g0, s0) rt)) := hid (by unfold kidsV; rw [HFE.out]; dsimp only; rw [← HSL.out, if_neg hint, HFN.out, hgt, hrt])
   subst hrt
   clear hint h0
   go_wp2
   go_loopw [9, 26] (fun u v wr => ∃ a' c' R, ∃ k : Nat, u = .slice a' R.length c' ∧ v = .int .i64 (k : Int) ∧ k ≤ n ∧ Hid (R = (List.range k).filter (mayK z F (p0, g0, s0) true)) ∧ Hid (OwnV w2.heap.size 3 1 wr a' R.length c' (intsK R)) ∧ Hid (Below w2.heap.size w2 wr)) (fun _ v _ => n - (intOf v).toNat)
   case atStart => exact ⟨none, 0, [], 0, rfl, rfl, Nat.zero_le _, hid rfl, hid OwnV.none0, hid (Below.refl _ _)⟩
   case round =>
    obtain ⟨a', c', R, k, rfl, rfl, hk, HR, HO, HB⟩ := hrel
    have hrl : R.length ≤ k := by rw [HR.out]; exact zMl _ _
    by_cases hlt : k < n
    ·have hltI : (k : Int) < (n : Int) := by omega
     have hk0 : (0 : Int) ≤ (k : Int) := Int.natCast_nonneg _
     have hfr : FmO wr a n c F gs := HF2.out.below HB.out
     obtain ⟨b, o, rfl, _, hc⟩ := hfr.own.vs.at_ (by omega)
     clear hc
     have hcs := hfr.cells hlt
     obtain ⟨fd, hfd⟩ : ∃ fd, fd = fA F k := ⟨_, rfl⟩
     have HNM : Hid (fd.o.1.length ≤ 1000000) := hid (by rw [hfd]; exact HNA.out k hlt)
     have HMK : Hid (mayK z F (p0, g0, s0) true k = ((fd.k != 3) || fitsB z (p0, g0, s0) fd.o true)) := hid (by rw [hfd]; rfl)
     rw [← hfd] at hcs
     clear hfd hfr
     obtain ⟨fk, fnm, fc, ⟨fp, fg, fs⟩, fS⟩ := fd
     obtain ⟨D, hD⟩ : ∃ D, D = wr.heap.size := ⟨_, rfl⟩
     have HDD := hid hD
     obtain ⟨g, hg⟩ : ∃ g, g = gA gs k := ⟨_, rfl⟩
     rw [← hg] at hcs
     clear hg hD
     obtain ⟨VF, hvf⟩ : ∃ VF, VF = fmA ⟨fk, fnm, fc, (fp, fg, fs), fS⟩ (some ⟨g.1, 0, none⟩) fS.length g.2 := ⟨_, rfl⟩
     have HVF : Hid (VF = fmA ⟨fk, fnm, fc, (fp, fg, fs), fS⟩ (some ⟨g.1, 0, none⟩) fS.length g.2) := hid hvf
     have HCS : Hid (∀ j, j < 9 → wr.cell? ⟨b, o + k * 9 + j, none⟩ = VF[j]?) := hid (by rw [hvf]; exact hcs)
     clear hcs hvf
     go_upto_region 7 with (first
      | (refine zCI zQi rfl (.tmp 29) rfl b (o + k * 9) rfl VF (by rw [HVF.out]; rfl) HCS.out ?_)
      | (refine zAn zQi rfl (.tmp 11) (.tmp 30) rfl D (by rw [HDD.out]; rfl) VF rfl (by rw [HVF.out]; rfl) (by rw [HVF.out]; exact zQq ..) fmZ rfl (by rw [HDD.out]; exact Bk.new wr _ fmZ) ?_; rw [← HDD.out]; intro w4 h4 ho4; have HB4 : Hid (Below wr.heap.size wr w4) := hid ((zAA wr _).trans (ho4.below (by rw [HDD.out]; exact Nat.le_refl _))); have H4 : Hid (Bk w4 D 119 (fmA ⟨fk, fnm, fc, (fp, fg, fs), fS⟩ (some ⟨g.1, 0, none⟩) fS.length g.2)) := hid (by rw [← HVF.out]; exact h4); clear h4 ho4))
     try simp only [Act.put]
     have d0 : w4.cell? ⟨D, 0, none⟩ = some (.int .i64 fk) := H4.out.cell 0
     cases hk3 : (fk != 3) with
     | true =>
      have HM : Hid (mayK z F (p0, g0, s0) true k = true) := hid (by rw [HMK.out]; simp [hk3])
      go_wp2_with (at_builtin; refine zAL rfl (.tmp 45) (.tmp 47) 82 rfl 3 w2.heap.size 1 8 _ Tryz.underlying82 zId rfl (by omega) _ _ _ (intsK R) rfl ((HO.out.keep HB4.out (Nat.le_refl _)).alloc _) _ _ _ [.int .i64 (k : Int)] rfl (Vs.lit (k := 1) (xs := [.int .i64 (k : Int)]) _ _ rfl rfl rfl) (by intro u hu; rw [List.mem_singleton.1 hu]; rfl) (by unfold maxLen; omega) (by omega) (by have h1 := HB.out.size; have h2 := HB4.out.size; simp; omega) ?_; intro a6 c6 w6 hO6 _ hb6 _; have HO6 := hid hO6; have HB6 : Hid (Below w2.heap.size w2 w6) := hid ((HB.out.trans (HB4.out.mono HB.out.size)).trans (((Below.refl _ _).alloc (by have h1 := HB.out.size; have h2 := HB4.out.size; omega) _).trans hb6)); clear hO6 hb6)
      go_roundw
      case rel => exact ⟨a6, c6, R ++ [k], k + 1, by rw [List.length_append]; rfl, by go_num, by omega, hid (by rw [zK2, if_pos HM.out, ← HR.out]), hid (by rw [List.length_append, zGc]; exact HO6.out), HB6⟩
      case measure => simp [intOf]; omega
     | false =>
      have d5 : w4.cell? ⟨D, 5, none⟩ = some (.string (mk fp)) := H4.out.cell 5
      have d6 : w4.cell? ⟨D, 6, none⟩ = some (.int .i64 fg) := H4.out.cell 6
      have d7 : w4.cell? ⟨D, 7, none⟩ = some (.int .i64 fs) := H4.out.cell 7
      have HB24 : Hid (Below w2.heap.size w2 w4) := hid (HB.out.trans (HB4.out.mono HB.out.size))
      have HFB4 := hid (HFB.out.below HB24.out)
      have e5 : w4.cell? ⟨B + 1, 5, none⟩ = some (.string (mk p0)) := HFB4.out.cell 5
      have e6 : w4.cell? ⟨B + 1, 6, none⟩ = some (.int .i64 g0) := HFB4.out.cell 6
      have e7 : w4.cell? ⟨B + 1, 7, none⟩ = some (.int .i64 s0) := HFB4.out.cell 7
      obtain ⟨d, hd⟩ : ∃ d, d = fitsB z (p0, g0, s0) (fp, fg, fs) true := ⟨_, rfl⟩
      have HMD : Hid (mayK z F (p0, g0, s0) true k = d) := hid (by rw [HMK.out, hk3, hd]; rfl)
      have KF := hid (zMd z HZ.out HR10.out p0 g0 s0 fp fg fs true w4 (HT2.out.keep HB24.out) HFO.out HNM.out)
      rw [← hd] at KF
      clear hd
      go_wp2_with (refine zA2 zRx rfl (.tmp 4) rfl B rfl (rv z) (zBY HZ.out) (HZ2.out.below HB24.out) ?_)
      refine KF.out.mono ?_
      rintro e w5 ⟨rfl, hb5⟩
      have HB5 : Hid (Below wr.heap.size wr w5) := hid (HB4.out.trans (hb5.mono HB4.out.size))
      clear hb5 d0 d5 d6 d7 e5 e6 e7
      cases d with
      | true =>
       have HM : Hid (mayK z F (p0, g0, s0) true k = true) := HMD
       go_wp2_with (at_builtin; refine zAL rfl (.tmp 45) (.tmp 47) 82 rfl 3 w2.heap.size 1 8 _ Tryz.underlying82 zId rfl (by omega) _ _ _ (intsK R) rfl ((HO.out.keep HB5.out (Nat.le_refl _)).alloc _) _ _ _ [.int .i64 (k : Int)] rfl (Vs.lit (k := 1) (xs := [.int .i64 (k : Int)]) _ _ rfl rfl rfl) (by intro u hu; rw [List.mem_singleton.1 hu]; rfl) (by unfold maxLen; omega) (by omega) (by have h1 := HB.out.size; have h2 := HB5.out.size; simp; omega) ?_; intro a6 c6 w6 hO6 _ hb6 _; have HO6 := hid hO6; have HB6 : Hid (Below w2.heap.size w2 w6) := hid ((HB.out.trans (HB5.out.mono HB.out.size)).trans (((Below.refl _ _).alloc (by have h1 := HB.out.size; have h2 := HB5.out.size; omega) _).trans hb6)); clear hO6 hb6)
       go_roundw
       case rel => exact ⟨a6, c6, R ++ [k], k + 1, by rw [List.length_append]; rfl, by go_num, by omega, hid (by rw [zK2, if_pos HM.out, ← HR.out]), hid (by rw [List.length_append, zGc]; exact HO6.out), HB6⟩
       case measure => simp [intOf]; omega
      | false =>
       have HM : Hid (mayK z F (p0, g0, s0) true k = false) := HMD
       go_wp2
       go_roundw
       case rel => exact ⟨a', c', R, k + 1, rfl, by go_num, by omega, hid (by rw [zK2, if_neg (by rw [HM.out]; simp), ← HR.out, List.append_nil]), hid (HO.out.keep HB5.out (Nat.le_refl _)), hid (HB.out.trans (HB5.out.mono HB.out.size))⟩
       case measure => simp [intOf]; omega
    ·obtain rfl : k = n := by omega
     go_wp2
     go_ret
     refine ⟨a', R, c', rfl, ?_, HO.out.weaken HBW2.out.size, HBW2.out.trans (HB.out.mono HBW2.out.size)⟩
     rw [HR.out, HKV.out]
  ·have hgt : decide (0 < i) = false := by simpa using h0
   obtain ⟨rt, hrt⟩ : ∃ rt : Bool, rt = false := ⟨_, rfl⟩
   have HKV : Hid (kidsV z F f i = (List.range n).filter (mayK z F (p0, g0, s0) rt)) := hid (by unfold kidsV; rw [HFE.out]; dsimp only; rw [← HSL.out, if_neg hint, HFN.out, hgt, hrt])
   subst hrt
   clear hint h0
   go_wp2
   go_loopw [9, 26] (fun u v wr => ∃ a' c' R, ∃ k : Nat, u = .slice a' R.length c' ∧ v = .int .i64 (k : Int) ∧ k ≤ n ∧ Hid (R = (List.range k).filter (mayK z F (p0, g0, s0) false)) ∧ Hid (OwnV w2.heap.size 3 1 wr a' R.length c' (intsK R)) ∧ Hid (Below w2.heap.size w2 wr)) (fun _ v _ => n - (intOf v).toNat)
   case atStart => exact ⟨none, 0, [], 0, rfl, rfl, Nat.zero_le _, hid rfl, hid OwnV.none0, hid (Below.refl _ _)⟩
   case round =>
    obtain ⟨a', c', R, k, rfl, rfl, hk, HR, HO, HB⟩ := hrel
    have hrl : R.length ≤ k := by rw [HR.out]; exact zMl _ _
    by_cases hlt : k < n
    ·have hltI : (k : Int) < (n : Int) := by omega
     have hk0 : (0 : Int) ≤ (k : Int) := Int.natCast_nonneg _
     have hfr : FmO wr a n c F gs := HF2.out.below HB.out
     obtain ⟨b, o, rfl, _, hc⟩ := hfr.own.vs.at_ (by omega)
     clear hc
     have hcs := hfr.cells hlt
     obtain ⟨fd, hfd⟩ : ∃ fd, fd = fA F k := ⟨_, rfl⟩
     have HNM : Hid (fd.o.1.length ≤ 1000000) := hid (by rw [hfd]; exact HNA.out k hlt)
     have HMK : Hid (mayK z F (p0, g0, s0) false k = ((fd.k != 3) || fitsB z (p0, g0, s0) fd.o false)) := hid (by rw [hfd]; rfl)
     rw [← hfd] at hcs
     clear hfd hfr
     obtain ⟨fk, fnm, fc, ⟨fp, fg, fs⟩, fS⟩ := fd
     obtain ⟨D, hD⟩ : ∃ D, D = wr.heap.size := ⟨_, rfl⟩
     have HDD := hid hD
     obtain ⟨g, hg⟩ : ∃ g, g = gA gs k := ⟨_, rfl⟩
     rw [← hg] at hcs
     clear hg hD
     obtain ⟨VF, hvf⟩ : ∃ VF, VF = fmA ⟨fk, fnm, fc, (fp, fg, fs), fS⟩ (some ⟨g.1, 0, none⟩) fS.length g.2 := ⟨_, rfl⟩
     have HVF : Hid (VF = fmA ⟨fk, fnm, fc, (fp, fg, fs), fS⟩ (some ⟨g.1, 0, none⟩) fS.length g.2) := hid hvf
     have HCS : Hid (∀ j, j < 9 → wr.cell? ⟨b, o + k * 9 + j, none⟩ = VF[j]?) := hid (by rw [hvf]; exact hcs)
     clear hcs hvf
     go_upto_region 7 with (first
      | (refine zCI zQi rfl (.tmp 29) rfl b (o + k * 9) rfl VF (by rw [HVF.out]; rfl) HCS.out ?_)
      | (refine zAn zQi rfl (.tmp 11) (.tmp 30) rfl D (by rw [HDD.out]; rfl) VF rfl (by rw [HVF.out]; rfl) (by rw [HVF.out]; exact zQq ..) fmZ rfl (by rw [HDD.out]; exact Bk.new wr _ fmZ) ?_; rw [← HDD.out]; intro w4 h4 ho4; have HB4 : Hid (Below wr.heap.size wr w4) := hid ((zAA wr _).trans (ho4.below (by rw [HDD.out]; exact Nat.le_refl _))); have H4 : Hid (Bk w4 D 119 (fmA ⟨fk, fnm, fc, (fp, fg, fs), fS⟩ (some ⟨g.1, 0, none⟩) fS.length g.2)) := hid (by rw [← HVF.out]; exact h4); clear h4 ho4))
     try simp only [Act.put]
     have d0 : w4.cell? ⟨D, 0, none⟩ = some (.int .i64 fk) := H4.out.cell 0
     cases hk3 : (fk != 3) with
     | true =>
      have HM : Hid (mayK z F (p0, g0, s0) false k = true) := hid (by rw [HMK.out]; simp [hk3])
      go_wp2_with (at_builtin; refine zAL rfl (.tmp 45) (.tmp 47) 82 rfl 3 w2.heap.size 1 8 _ Tryz.underlying82 zId rfl (by omega) _ _ _ (intsK R) rfl ((HO.out.keep HB4.out (Nat.le_refl _)).alloc _) _ _ _ [.int .i64 (k : Int)] rfl (Vs.lit (k := 1) (xs := [.int .i64 (k : Int)]) _ _ rfl rfl rfl) (by intro u hu; rw [List.mem_singleton.1 hu]; rfl) (by unfold maxLen; omega) (by omega) (by have h1 := HB.out.size; have h2 := HB4.out.size; simp; omega) ?_; intro a6 c6 w6 hO6 _ hb6 _; have HO6 := hid hO6; have HB6 : Hid (Below w2.heap.size w2 w6) := hid ((HB.out.trans (HB4.out.mono HB.out.size)).trans (((Below.refl _ _).alloc (by have h1 := HB.out.size; have h2 := HB4.out.size; omega) _).trans hb6)); clear hO6 hb6)
      go_roundw
      case rel => exact ⟨a6, c6, R ++ [k], k + 1, by rw [List.length_append]; rfl, by go_num, by omega, hid (by rw [zK2, if_pos HM.out, ← HR.out]), hid (by rw [List.length_append, zGc]; exact HO6.out), HB6⟩
      case measure => simp [intOf]; omega
     | false =>
      have d5 : w4.cell? ⟨D, 5, none⟩ = some (.string (mk fp)) := H4.out.cell 5
      have d6 : w4.cell? ⟨D, 6, none⟩ = some (.int .i64 fg) := H4.out.cell 6
      have d7 : w4.cell? ⟨D, 7, none⟩ = some (.int .i64 fs) := H4.out.cell 7
      have HB24 : Hid (Below w2.heap.size w2 w4) := hid (HB.out.trans (HB4.out.mono HB.out.size))
      have HFB4 := hid (HFB.out.below HB24.out)
      have e5 : w4.cell? ⟨B + 1, 5, none⟩ = some (.string (mk p0)) := HFB4.out.cell 5
      have e6 : w4.cell? ⟨B + 1, 6, none⟩ = some (.int .i64 g0) := HFB4.out.cell 6
      have e7 : w4.cell? ⟨B + 1, 7, none⟩ = some (.int .i64 s0) := HFB4.out.cell 7
      obtain ⟨d, hd⟩ : ∃ d, d = fitsB z (p0, g0, s0) (fp, fg, fs) false := ⟨_, rfl⟩
      have HMD : Hid (mayK z F (p0, g0, s0) false k = d) := hid (by rw [HMK.out, hk3, hd]; rfl)
      have KF := hid (zMd z HZ.out HR10.out p0 g0 s0 fp fg fs false w4 (HT2.out.keep HB24.out) HFO.out HNM.out)
      rw [← hd] at KF
      clear hd
      go_wp2_with (refine zA2 zRx rfl (.tmp 4) rfl B rfl (rv z) (zBY HZ.out) (HZ2.out.below HB24.out) ?_)
      refine KF.out.mono ?_
      rintro e w5 ⟨rfl, hb5⟩
      have HB5 : Hid (Below wr.heap.size wr w5) := hid (HB4.out.trans (hb5.mono HB4.out.size))
      clear hb5 d0 d5 d6 d7 e5 e6 e7
      cases d with
      | true =>
       have HM : Hid (mayK z F (p0, g0, s0) false k = true) := HMD
       go_wp2_with (at_builtin; refine zAL rfl (.tmp 45) (.tmp 47) 82 rfl 3 w2.heap.size 1 8 _ Tryz.underlying82 zId rfl (by omega) _ _ _ (intsK R) rfl ((HO.out.keep HB5.out (Nat.le_refl _)).alloc _) _ _ _ [.int .i64 (k : Int)] rfl (Vs.lit (k := 1) (xs := [.int .i64 (k : Int)]) _ _ rfl rfl rfl) (by intro u hu; rw [List.mem_singleton.1 hu]; rfl) (by unfold maxLen; omega) (by omega) (by have h1 := HB.out.size; have h2 := HB5.out.size; simp; omega) ?_; intro a6 c6 w6 hO6 _ hb6 _; have HO6 := hid hO6; have HB6 : Hid (Below w2.heap.size w2 w6) := hid ((HB.out.trans (HB5.out.mono HB.out.size)).trans (((Below.refl _ _).alloc (by have h1 := HB.out.size; have h2 := HB5.out.size; omega) _).trans hb6)); clear hO6 hb6)
       go_roundw
       case rel => exact ⟨a6, c6, R ++ [k], k + 1, by rw [List.length_append]; rfl, by go_num, by omega, hid (by rw [zK2, if_pos HM.out, ← HR.out]), hid (by rw [List.length_append, zGc]; exact HO6.out), HB6⟩
       case measure => simp [intOf]; omega
      | false =>
       have HM : Hid (mayK z F (p0, g0, s0) false k = false) := HMD
       go_wp2
       go_roundw
       case rel => exact ⟨a', c', R, k + 1, rfl, by go_num, by omega, hid (by rw [zK2, if_neg (by rw [HM.out]; simp), ← HR.out, List.append_nil]), hid (HO.out.keep HB5.out (Nat.le_refl _)), hid (HB.out.trans (HB5.out.mono HB.out.size))⟩
       case measure => simp [intOf]; omega
    ·obtain rfl : k = n := by omega
     go_wp2
     go_ret
     refine ⟨a', R, c', rfl, ?_, HO.out.weaken HBW2.out.size, HBW2.out.trans (HB.out.mono HBW2.out.size)⟩
     rw [HR.out, HKV.out]
end
section
open Go.RowKit
theorem zTE (w : World) : Bk (w.alloc (.cells #[.int .i64 0, .int .i64 0, .int .i64 0, .string ⟨#[]⟩, .int .i64 0] 51)) w.heap.size 51 #[.int .i64 0, .int .i64 0, .int .i64 0, .string ⟨#[]⟩, .int .i64 0] := Bk.new w _ _
def sdZ : Array Value := #[.nilFunc, .slice none 0 0]
theorem solo_any' (t : Nm) (w : World) : Calls Tryz.prog 108 #[.string (mk t)] w fun e w' => ∃ X, e = .returned (.agg #[.func (.func 109) #[] #[.pointer (some ⟨X, 0, none⟩)], .slice none 0 0]) ∧ T5 w' X 6 0 0 t 0 ∧ Below w.heap.size w w' := by
 obtain ⟨B, hB⟩ : ∃ B, B = w.heap.size := ⟨_, rfl⟩
 obtain ⟨w1, hw1⟩ : ∃ w1, w1 = w.alloc (.cells #[.nilFunc, .slice none 0 0] 125) := ⟨_, rfl⟩
 have HR1 : Hid (Bk w1 B 125 sdZ) := hid (by rw [hw1, hB]; exact Bk.new w _ sdZ)
 have HB1 : Hid (Below w.heap.size w w1) := hid (by rw [hw1]; exact zAA w _)
 have HBB := hid hB
 obtain ⟨X, hX⟩ : ∃ X, X = w1.heap.size := ⟨_, rfl⟩
 have HXX := hid hX
 have HXB : Hid (B < X) := hid (by rw [hX]; exact HR1.out.lt)
 clear hX
 go_enter Tryz.func108, Tryz.ntmps108
 go_upto_region 1 with fail
 rw [← hw1, ← hB]
 clear hw1 hB
 go_wp2_with (first
  | (refine zAn zBJ rfl (.tmp 3) (.tmp 5) rfl X (by rw [HXX.out]; rfl) #[.int .i64 6, .int .i64 0, .int .i64 0, .string (mk t), .int .i64 0] rfl rfl (by kernel_rfl) #[.int .i64 0, .int .i64 0, .int .i64 0, .string ⟨#[]⟩, .int .i64 0] rfl (by rw [HXX.out]; exact zTE w1) ?_; rw [← HXX.out]; intro w2 h2 ho2; have HT2 : Hid (T5 w2 X 6 0 0 t 0) := hid h2; have HB2 : Hid (Below w1.heap.size w1 w2) := hid ((zAA w1 _).trans (ho2.below (by rw [HXX.out]; exact Nat.le_refl _))); clear h2 ho2)
  | (refine zAn zQw rfl (.tmp 2) (.tmp 7) rfl B rfl #[.func (.func 109) #[] #[.pointer (some ⟨X, 0, none⟩)], .slice none 0 0] rfl rfl (by kernel_rfl) sdZ rfl (HR1.out.below HB2.out) ?_; intro w3 h3 ho3; have HR3 := hid h3; have HO3 := hid ho3; clear h3 ho3))
 refine bodyPost_ret (zNr zQw rfl _ _ B _ rfl rfl HR3.out) rfl ⟨X, rfl, ?_, ?_⟩
 ·exact (HO3.out.block X (by have := HXB.out; omega)).trans HT2.out
 ·exact (HB1.out.trans (HB2.out.mono HB1.out.size)).trans (HO3.out.below (by rw [HBB.out]; exact Nat.le_refl _))
def rawB : List Sd := [.br [40], .ho [], .br [41]]
def fB0 : FD := ⟨2, [], 1, ([], 0, 0), rawB⟩
theorem lit3 (w : World) (v : VV) (u : VV) (x : VV) : OwnV w.heap.size 125 2 (w.alloc (.cells #[v.1, v.2, u.1, u.2, x.1, x.2] 125)) (some ⟨w.heap.size, 0, none⟩) 3 3 (cV [v, u, x]) :=
 ⟨rfl, .inr ⟨w.heap.size, 3, _, rfl, Nat.le_refl _, heap_alloc_new w _, Nat.le_refl _, by decide, rfl, rfl⟩⟩
set_option maxRecDepth 100000 in
set_option maxHeartbeats 4000000 in
theorem zRm (w : World) : Calls Tryz.prog 60 #[] w fun e w' => ∃ G vs, e = .returned (.agg (fmA fB0 (some ⟨G, 0, none⟩) 3 3)) ∧ StO w' (some ⟨G, 0, none⟩) 3 rawB vs ∧ w.heap.size ≤ G ∧ Below w.heap.size w w' := by
 obtain ⟨B, hB⟩ : ∃ B, B = w.heap.size := ⟨_, rfl⟩
 obtain ⟨w1, hw1⟩ : ∃ w1, w1 = w.alloc (.cells fmZ 119) := ⟨_, rfl⟩
 have HR1 : Hid (Bk w1 B 119 fmZ) := hid (by rw [hw1, hB]; exact Bk.new w _ fmZ)
 have HB1 : Hid (Below w.heap.size w w1) := hid (by rw [hw1]; exact zAA w _)
 have HBB := hid hB
 have hz : fmZ = #[.int .i64 0, .string ⟨#[]⟩, .int .i64 0, .int .i64 0, .int .i64 0, .string ⟨#[]⟩, .int .i64 0, .int .i64 0, .slice none 0 0] := rfl
 rw [hz] at hw1
 go_enter Tryz.func60, Tryz.ntmps60
 go_upto_region 1 with fail
 rw [← hw1, ← hB]
 clear hw1 hB hz
 go_wp2_with fail
 refine (solo_any' [40] w1).mono ?_
 rintro e w2 ⟨X, rfl, hX, hb2⟩
 have HX := hid hX
 have HB2 := hid hb2
 clear hX hb2
 go_wp2_with fail
 refine (solo_any' [41] w2).mono ?_
 rintro e w3 ⟨Y, rfl, hY, hb3⟩
 have HY := hid hY
 have HB3 : Hid (Below w1.heap.size w1 w3) := hid (HB2.out.trans (hb3.mono HB2.out.size))
 have HX3 := hid (HX.out.below hb3)
 have HR3 := hid (HR1.out.below HB3.out)
 clear hY hb3
 obtain ⟨G, hG⟩ : ∃ G, G = w3.heap.size := ⟨_, rfl⟩
 have HGG := hid hG
 obtain ⟨w4, hw4⟩ : ∃ w4, w4 = w3.alloc (.cells #[.func (.func 109) #[] #[.pointer (some ⟨X, 0, none⟩)], .slice none 0 0, .nilFunc, .slice none 0 0, .func (.func 109) #[] #[.pointer (some ⟨Y, 0, none⟩)], .slice none 0 0] 125) := ⟨_, rfl⟩
 have HO : Hid (OwnV w3.heap.size 125 2 w4 (some ⟨G, 0, none⟩) 3 3 (cV [(.func (.func 109) #[] #[.pointer (some ⟨X, 0, none⟩)], .slice none 0 0), (.nilFunc, .slice none 0 0), (.func (.func 109) #[] #[.pointer (some ⟨Y, 0, none⟩)], .slice none 0 0)])) := hid (by rw [hw4, hG]; exact lit3 w3 (.func (.func 109) #[] #[.pointer (some ⟨X, 0, none⟩)], .slice none 0 0) (.nilFunc, .slice none 0 0) (.func (.func 109) #[] #[.pointer (some ⟨Y, 0, none⟩)], .slice none 0 0))
 have HB4 : Hid (Below w3.heap.size w3 w4) := hid (by rw [hw4]; exact zAA w3 _)
 have HR4 := hid (HR3.out.below HB4.out)
 have HX4 := hid (HX3.out.below HB4.out)
 have HY4 := hid (HY.out.below HB4.out)
 go_wp2_with (refine zAn zQi rfl (.tmp 0) (.tmp 9) rfl B rfl (fmA fB0 (some ⟨G, 0, none⟩) 3 3) (by rw [HGG.out]; rfl) rfl (zQq ..) fmZ rfl (by rw [← hw4]; exact HR4.out) ?_; rw [← hw4]; intro w5 h5 ho5; have H5 := hid h5; have HO5 := hid ho5; clear h5 ho5)
 have HBN : Hid (B < w1.heap.size) := hid HR1.out.lt
 have hkt : Kt tF w4 w5 := Kt.only HR4.out (.inr rfl) HO5.out
 refine bodyPost_ret (zNr zQi rfl _ _ B (fmA fB0 (some ⟨G, 0, none⟩) 3 3) rfl rfl H5.out) rfl ⟨G, [(.func (.func 109) #[] #[.pointer (some ⟨X, 0, none⟩)], .slice none 0 0), (.nilFunc, .slice none 0 0), (.func (.func 109) #[] #[.pointer (some ⟨Y, 0, none⟩)], .slice none 0 0)], rfl, ⟨rfl, ?_, ?_⟩, ?_, ?_⟩
 rotate_left
 ·intro j hj
  match j, hj with
  | 0, _ => exact SdO.kt (P := tF) zUC (s := .br [40]) ⟨X, rfl, HX4.out, rfl⟩ hkt
  | 1, _ => exact ⟨rfl, none, 0, rfl, OwnV.none0⟩
  | 2, _ => exact SdO.kt (P := tF) zUC (s := .br [41]) ⟨Y, rfl, HY4.out, rfl⟩ hkt
 ·rw [HGG.out]
  exact Nat.le_trans HB1.out.size HB3.out.size
 ·exact (HB1.out.trans ((HB3.out.trans (HB4.out.mono HB3.out.size)).mono HB1.out.size)).trans (HO5.out.below (by rw [HBB.out]; exact Nat.le_refl _))
 ·obtain ⟨q1, q2⟩ := HO.out.weaken (Nat.zero_le _)
  refine ⟨q1, q2.imp id ?_⟩
  rintro ⟨q, cp, cur, hv, hq, hb, r⟩
  refine ⟨q, cp, cur, hv, hq, (HO5.out.block q ?_).trans hb, r⟩
  have hv' := hv
  simp only [Value.slice.injEq, Option.some.injEq, Addr.mk.injEq, and_true, true_and] at hv'
  obtain ⟨rfl, _⟩ := hv'
  have h1 := HBN.out
  have h2 := HB3.out.size
  rw [HGG.out]
  omega
end
end Go.Proofs.YtcjbhdgjcpnklaaGreatDoor
