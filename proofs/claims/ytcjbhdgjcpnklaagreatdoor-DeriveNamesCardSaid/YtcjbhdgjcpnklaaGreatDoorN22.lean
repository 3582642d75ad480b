import Derived.Test.YtcjbhdgjcpnklaaGreatDoorV24
import Derived.Test.YtcjbhdgjcpnklaaGreatDoorV09
import Derived.Deep.RegionHeld3
import Derived.Test.YtcjbhdgjcpnklaaGreatDoorV25
import Derived.Test.YtcjbhdgjcpnklaaGreatDoorV20
import Derived.Test.YtcjbhdgjcpnklaaGreatDoorN01
import Derived.Test.YtcjbhdgjcpnklaaGreatDoorN20
import Derived.Test.YtcjbhdgjcpnklaaGreatDoorN21
namespace Go.Proofs.YtcjbhdgjcpnklaaGreatDoor
section
open Go.RowKit
section
variable {L : List OP} {z : List Int} {tok : List TK}
theorem cnt_one' {n : Nat} {t u : List ND} (h : CntP L z tok n t) (hu : Dv L z tok .tr 0 tok.length u 1) (hv : ∀ v, Dv L z tok .tr 0 tok.length v 1 → v = u) : n = 1 ∧ t = u := zQz h (.one hu hv)
theorem cnt_zero' {n : Nat} {t : List ND} (h : CntP L z tok n t) (hu : ∀ u, ¬ Dv L z tok .tr 0 tok.length u 1) : n = 0 ∧ t = [] := zQz h (.none hu)
theorem cnt_two' {n : Nat} {t u v : List ND} (h : CntP L z tok n t) (hu : Dv L z tok .tr 0 tok.length u 1) (hv : Dv L z tok .tr 0 tok.length v 1) (hne : u ≠ v) : n = 2 ∧ t = [] := zQz h (.two hne hu hv)
theorem zTM {n : Nat} {t u : List ND} (hU : uniqB L = true) (hz : RowsOk z) (h : CntP L z tok n t) (hu : rightB L z tok u = true) : n = 1 ∧ t = u :=
 cnt_one' h (zQs.1 hu) fun _ hv => zRh hU hz (zQs.2 hv) hu
end
theorem zBm : RowsOk zS := zIN []
theorem zEU : ∀ i, i < 10 → I64 (bt zS i) := fun i hi => by have := zS_rng i hi; unfold I64; exact this
def pPlus : Nm := [95, 43, 95]
def oL : OP := (pPlus, 3, 1)
def oN : OP := (pPlus, 3, 0)
def pIf : Nm := [105, 102, 95, 116, 104, 101, 110, 95]
def pEl : Nm := [105, 102, 95, 116, 104, 101, 110, 95, 101, 108, 115, 101, 95]
def oI : OP := (pIf, 5, 2)
def oE : OP := (pEl, 5, 2)
theorem zUP : wthL [oL] = [oL] := by decide +kernel
theorem zUQ : wthL [oN] = [oN] := by decide +kernel
theorem zUG : wthL [oI, oE] = [oI, oE] := by decide +kernel
def lA : List Int := [97, 32, 43, 32, 98, 32, 43, 32, 99]
def lB : List Int := [105, 102, 32, 97, 32, 116, 104, 101, 110, 32, 105, 102, 32, 98, 32, 116, 104, 101, 110, 32, 99, 32, 101, 108, 115, 101, 32, 100]
theorem zS3 : (toks lA).length = 5 := by decide +kernel
theorem zUH : (toks lB).length = 9 := by decide +kernel
def tA : List ND := [⟨3, pPlus, 0, 5, 2⟩, ⟨3, pPlus, 0, 3, 2⟩, ⟨1, [97], 0, 1, 0⟩, ⟨1, [98], 2, 3, 0⟩, ⟨1, [99], 4, 5, 0⟩]
theorem zTz : rightB [oL] zS (toks lA) tA = true := by decide +kernel
theorem zUI : uniqB [oL] = true := by decide +kernel
theorem zT0 : ofS pPlus = some ⟨[[43]], true, true⟩ := by kernel_rfl
theorem zUJ (u : List ND) : ¬ Dv [oN] zS (toks lA) .tr 0 (toks lA).length u 1 :=
 zTy zBm zT0 ⟨by decide, by decide⟩ (fun a ha => by
  rw [zS3] at ha
  have h : ∀ a, a < 5 → (tat (toks lA) a).k ≠ 6 := by decide +kernel
  exact fun hk => absurd hk (h a ha)) (by rw [zS3]; decide) u
def tInner : List ND := [⟨3, pIf, 0, 9, 2⟩, ⟨1, [97], 1, 2, 0⟩, ⟨3, pEl, 3, 9, 3⟩, ⟨1, [98], 4, 5, 0⟩, ⟨1, [99], 6, 7, 0⟩, ⟨1, [100], 8, 9, 0⟩]
def tOuter : List ND := [⟨3, pEl, 0, 9, 3⟩, ⟨1, [97], 1, 2, 0⟩, ⟨3, pIf, 3, 7, 2⟩, ⟨1, [98], 4, 5, 0⟩, ⟨1, [99], 6, 7, 0⟩, ⟨1, [100], 8, 9, 0⟩]
theorem zT1 : rightB [oI, oE] zS (toks lB) tInner = true := by decide +kernel
theorem zT2 : rightB [oI, oE] zS (toks lB) tOuter = true := by decide +kernel
theorem zUR : tInner ≠ tOuter := by decide +kernel
theorem zUS {n : Nat} {t : List ND} (h : CntP [oL] zS (toks lA) n t) : n = 1 ∧ t.length = 5 := by
 obtain ⟨h1, h2⟩ := zTM zUI zBm h zTz
 exact ⟨h1, by rw [h2]; rfl⟩
theorem zUT {n : Nat} {t : List ND} (h : CntP [oN] zS (toks lA) n t) : n = 0 ∧ t = [] := cnt_zero' h zUJ
theorem zUU {n : Nat} {t : List ND} (h : CntP [oI, oE] zS (toks lB) n t) : n = 2 ∧ t = [] := cnt_two' h (zQs.1 zT1) (zQs.1 zT2) zUR
theorem zUV : Srt [oL] := by unfold Srt; simp
theorem zUW : Srt [oN] := by unfold Srt; simp
theorem zUK : Srt [oI, oE] := by
 unfold Srt
 rw [List.pairwise_cons]
 exact ⟨fun x hx => by rw [List.mem_singleton.1 hx]; decide, by simp⟩
end
section
open Go.RowKit
theorem zRg (w : World) (A : List OP) {g n : Nat} (hn : A.length = n) (hm : n ≤ 10) {cs : Array Value} (hc : cs = (cO A).toArray) (hg : g = w.heap.size) : OpS (w.alloc (.cells cs 38)) (some ⟨g, 0, none⟩) n n A := by
 subst hg
 subst hc
 refine ⟨by rw [cO_len, hn], Nat.le_refl _, by unfold maxLen; omega, fun _ => ⟨w.heap.size, 0, rfl, by simp, fun j hj => ?_⟩⟩
 rw [cell_of_row _ w.heap.size (0 + j) _ _ _ (heap_alloc_new w _), Nat.zero_add, List.getElem?_toArray]
theorem zUL (w : World) : (Instr.buildSlice 59 28 #[(0, .int .u8 105), (1, .int .u8 102), (2, .int .u8 32), (3, .int .u8 97), (4, .int .u8 32), (5, .int .u8 116), (6, .int .u8 104), (7, .int .u8 101), (8, .int .u8 110), (9, .int .u8 32), (10, .int .u8 105), (11, .int .u8 102), (12, .int .u8 32), (13, .int .u8 98), (14, .int .u8 32), (15, .int .u8 116), (16, .int .u8 104), (17, .int .u8 101), (18, .int .u8 110), (19, .int .u8 32), (20, .int .u8 99), (21, .int .u8 32), (22, .int .u8 101), (23, .int .u8 108), (24, .int .u8 115), (25, .int .u8 101), (26, .int .u8 32), (27, .int .u8 100)]).run Tryz.prog w = .ok (.slice (some ⟨w.heap.size, 0, none⟩) 28 28) (w.alloc (.cells #[.int .u8 105, .int .u8 102, .int .u8 32, .int .u8 97, .int .u8 32, .int .u8 116, .int .u8 104, .int .u8 101, .int .u8 110, .int .u8 32, .int .u8 105, .int .u8 102, .int .u8 32, .int .u8 98, .int .u8 32, .int .u8 116, .int .u8 104, .int .u8 101, .int .u8 110, .int .u8 32, .int .u8 99, .int .u8 32, .int .u8 101, .int .u8 108, .int .u8 115, .int .u8 101, .int .u8 32, .int .u8 100] 5)) := by kernel_rfl
theorem zT3 {ops : Array Oper} {o : Oper} {A : Act} {w : World} {K : Act → World → Prop} {Q : Exit → Act → World → Prop} {E : Prop} (hgd : o.guard = none) (ho : o.op = .buildSlice 59 28 #[(0, .const (.int .u8 105)), (1, .const (.int .u8 102)), (2, .const (.int .u8 32)), (3, .const (.int .u8 97)), (4, .const (.int .u8 32)), (5, .const (.int .u8 116)), (6, .const (.int .u8 104)), (7, .const (.int .u8 101)), (8, .const (.int .u8 110)), (9, .const (.int .u8 32)), (10, .const (.int .u8 105)), (11, .const (.int .u8 102)), (12, .const (.int .u8 32)), (13, .const (.int .u8 98)), (14, .const (.int .u8 32)), (15, .const (.int .u8 116)), (16, .const (.int .u8 104)), (17, .const (.int .u8 101)), (18, .const (.int .u8 110)), (19, .const (.int .u8 32)), (20, .const (.int .u8 99)), (21, .const (.int .u8 32)), (22, .const (.int .u8 101)), (23, .const (.int .u8 108)), (24, .const (.int .u8 115)), (25, .const (.int .u8 101)), (26, .const (.int .u8 32)), (27, .const (.int .u8 100))])
  (k : ∀ w' X, X = w.heap.size → w' = w.alloc (.cells #[.int .u8 105, .int .u8 102, .int .u8 32, .int .u8 97, .int .u8 32, .int .u8 116, .int .u8 104, .int .u8 101, .int .u8 110, .int .u8 32, .int .u8 105, .int .u8 102, .int .u8 32, .int .u8 98, .int .u8 32, .int .u8 116, .int .u8 104, .int .u8 101, .int .u8 110, .int .u8 32, .int .u8 99, .int .u8 32, .int .u8 101, .int .u8 108, .int .u8 115, .int .u8 101, .int .u8 32, .int .u8 100] 5) → K (A.put o.dst (.slice (some ⟨X, 0, none⟩) 28 28)) w') : if Region.wanted o (yielded ops A.tmps) = true then o.wp Tryz.prog A w K Q else E := by
 rw [if_pos (show Region.wanted o (yielded ops A.tmps) = true by simp [Region.wanted, hgd])]
 have h := k _ w.heap.size rfl rfl
 have hr := zUL w
 unfold Oper.wp execOp
 simp only [ho, List.map_toArray, List.map_cons, List.map_nil, Act.eval, hr, Sem.run_bind, Result.andThen_ok, Sem.run_pure]
 exact h
theorem zT4 {ops : Array Oper} {o : Oper} {A : Act} {w w0 : World} {X : Nat} {K : Act → World → Prop} {Q : Exit → Act → World → Prop} {E : Prop} (hX : X = w0.heap.size) (hw : w = w0.alloc (.cells #[.int .u8 105, .int .u8 102, .int .u8 32, .int .u8 97, .int .u8 32, .int .u8 116, .int .u8 104, .int .u8 101, .int .u8 110, .int .u8 32, .int .u8 105, .int .u8 102, .int .u8 32, .int .u8 98, .int .u8 32, .int .u8 116, .int .u8 104, .int .u8 101, .int .u8 110, .int .u8 32, .int .u8 99, .int .u8 32, .int .u8 101, .int .u8 108, .int .u8 115, .int .u8 101, .int .u8 32, .int .u8 100] 5)) (hgd : o.guard = none) (x : Operand) (ho : o.op = .convert 59 59 x) (hx : A.eval x = .slice (some ⟨X, 0, none⟩) 28 28)
  (k : ∀ w', Bs w' (some ⟨X, 0, none⟩) 28 28 lB → Below w0.heap.size w0 w' → K (A.put o.dst (.slice (some ⟨X, 0, none⟩) 28 28)) w') : if Region.wanted o (yielded ops A.tmps) = true then o.wp Tryz.prog A w K Q else E := by
 rw [if_pos (show Region.wanted o (yielded ops A.tmps) = true by simp [Region.wanted, hgd])]
 subst hX
 subst hw
 have h := k _ (Bs.lit (l := lB) (cs := #[.int .u8 105, .int .u8 102, .int .u8 32, .int .u8 97, .int .u8 32, .int .u8 116, .int .u8 104, .int .u8 101, .int .u8 110, .int .u8 32, .int .u8 105, .int .u8 102, .int .u8 32, .int .u8 98, .int .u8 32, .int .u8 116, .int .u8 104, .int .u8 101, .int .u8 110, .int .u8 32, .int .u8 99, .int .u8 32, .int .u8 101, .int .u8 108, .int .u8 115, .int .u8 101, .int .u8 32, .int .u8 100]) (mk := (28, 29)) w0 5 rfl (by decide) (g := w0.heap.size) (n := 28) rfl rfl (by decide)) (zAA w0 _)
 have hr := Joins.run_convert_bytes_const_at (P := Tryz.prog) w0 59 5 #[.int .u8 105, .int .u8 102, .int .u8 32, .int .u8 97, .int .u8 32, .int .u8 116, .int .u8 104, .int .u8 101, .int .u8 110, .int .u8 32, .int .u8 105, .int .u8 102, .int .u8 32, .int .u8 98, .int .u8 32, .int .u8 116, .int .u8 104, .int .u8 101, .int .u8 110, .int .u8 32, .int .u8 99, .int .u8 32, .int .u8 101, .int .u8 108, .int .u8 115, .int .u8 101, .int .u8 32, .int .u8 100] 28 28 w0.heap.size rfl Tryz.underlying59 Tryz.underlying5
 unfold Oper.wp execOp
 simp only [ho, hx, hr, Sem.run_bind, Result.andThen_ok, Sem.run_pure]
 exact h
set_option maxRecDepth 100000 in
set_option maxHeartbeats 32000000 in
theorem zSL (w : World) (ht : Tab w) : Calls Tryz.prog 10 #[] w fun e w' => e = .returned (.bool true) ∧ Below w.heap.size w w' := by
 have HT := hid ht
 have HW0 : Hid (Below w.heap.size w w) := hid (Below.refl _ _)
 clear ht
 go_enter Tryz.func10, Tryz.ntmps10
 go_wp2_with fail
 obtain ⟨wA, hwA⟩ : ∃ q, q = w.alloc (.cells #[.string { data := #[95, 43, 95] }, .int .i64 3, .int .i64 1] 38) := ⟨_, rfl⟩
 have HOP : Hid (OpS wA (some ⟨w.heap.size, 0, none⟩) 1 1 [oL]) := hid (by rw [hwA]; exact zRg w [oL] rfl (by decide) rfl rfl)
 have HBA : Hid (Below w.heap.size w wA) := hid (by rw [hwA]; exact zAA w _)
 obtain ⟨g, hg⟩ : ∃ g, g = w.heap.size := ⟨_, rfl⟩
 rw [← hwA, ← hg]
 rw [← hg] at HOP
 clear hwA hg
 refine (zRI _ 1 1 [oL] wA (HT.out.keep (HW0.out.trans (HBA.out.mono HW0.out.size))) HOP.out (by decide) (by decide)).mono ?_
 rw [zUP]
 rintro e wB ⟨ea1, em, ec1, rfl, ho, hb⟩
 obtain rfl : em = 1 := (OpS.len ho).symm
 have HBB : Hid (Below w.heap.size w wB) := hid (HBA.out.trans (hb.mono HBA.out.size))
 obtain ⟨E1, hE⟩ : ∃ q, q = wB.heap.size := ⟨_, rfl⟩
 have HEE := hid hE
 have HOB := hid ho
 have hnew : EB (wB.alloc (.cells #[.slice none 0 0, .int .i64 0, .int .i64 0, .int .i64 0, .int .i64 0, .int .i64 0, .int .i64 0, .int .i64 0, .int .i64 0, .int .i64 0, .int .i64 0] 34)) E1 none 0 0 z0 := by rw [hE]; exact EB.new wB none 0 0 z0
 have HNEW := hid hnew
 clear ho hb hE hnew HOP HBA
 go_wp2_with (refine zAD rfl (.tmp 1) (.tmp 13) rfl E1 (by rw [HEE.out]; rfl) ea1 1 ec1 zS rfl rfl none 0 0 z0 zAF HNEW.out ?_; rw [← HEE.out]; intro v1 h3 ho3; have HE1 := hid h3; have HB3 : Hid (Below wB.heap.size wB v1) := hid ((zAA wB _).trans (ho3.below (by rw [HEE.out]; exact Nat.le_refl _))); clear h3 ho3)
 have HC : Hid (Below w.heap.size w v1) := hid (HBB.out.trans (HB3.out.mono HBB.out.size))
 have HW1 : Hid (Below w.heap.size w v1) := hid (HW0.out.trans (HC.out.mono HW0.out.size))
 have HO1 : Hid (OpS v1 ea1 1 ec1 [oL]) := hid (HOB.out.below HB3.out)
 clear HNEW HEE HBB HOB HB3 HC
 obtain ⟨wA, hwA⟩ : ∃ q, q = v1.alloc (.cells #[.string { data := #[95, 43, 95] }, .int .i64 3, .int .i64 0] 38) := ⟨_, rfl⟩
 have HOP : Hid (OpS wA (some ⟨v1.heap.size, 0, none⟩) 1 1 [oN]) := hid (by rw [hwA]; exact zRg v1 [oN] rfl (by decide) rfl rfl)
 have HBA : Hid (Below v1.heap.size v1 wA) := hid (by rw [hwA]; exact zAA v1 _)
 obtain ⟨g, hg⟩ : ∃ g, g = v1.heap.size := ⟨_, rfl⟩
 rw [← hwA, ← hg]
 rw [← hg] at HOP
 clear hwA hg
 refine (zRI _ 1 1 [oN] wA (HT.out.keep (HW1.out.trans (HBA.out.mono HW1.out.size))) HOP.out (by decide) (by decide)).mono ?_
 rw [zUQ]
 rintro e wB ⟨ea2, em, ec2, rfl, ho, hb⟩
 obtain rfl : em = 1 := (OpS.len ho).symm
 have HBB : Hid (Below v1.heap.size v1 wB) := hid (HBA.out.trans (hb.mono HBA.out.size))
 obtain ⟨E2, hE⟩ : ∃ q, q = wB.heap.size := ⟨_, rfl⟩
 have HEE := hid hE
 have HOB := hid ho
 have hnew : EB (wB.alloc (.cells #[.slice none 0 0, .int .i64 0, .int .i64 0, .int .i64 0, .int .i64 0, .int .i64 0, .int .i64 0, .int .i64 0, .int .i64 0, .int .i64 0, .int .i64 0] 34)) E2 none 0 0 z0 := by rw [hE]; exact EB.new wB none 0 0 z0
 have HNEW := hid hnew
 clear ho hb hE hnew HOP HBA
 go_wp2_with (refine zAD rfl (.tmp 2) (.tmp 16) rfl E2 (by rw [HEE.out]; rfl) ea2 1 ec2 zS rfl rfl none 0 0 z0 zAF HNEW.out ?_; rw [← HEE.out]; intro v2 h3 ho3; have HE2 := hid h3; have HB3 : Hid (Below wB.heap.size wB v2) := hid ((zAA wB _).trans (ho3.below (by rw [HEE.out]; exact Nat.le_refl _))); clear h3 ho3)
 have HC : Hid (Below v1.heap.size v1 v2) := hid (HBB.out.trans (HB3.out.mono HBB.out.size))
 have HW2 : Hid (Below w.heap.size w v2) := hid (HW1.out.trans (HC.out.mono HW1.out.size))
 have HO2 : Hid (OpS v2 ea2 1 ec2 [oN]) := hid (HOB.out.below HB3.out)
 replace HE1 := hid (HE1.out.below HC.out)
 replace HO1 : Hid (OpS v2 ea1 1 ec1 [oL]) := hid (HO1.out.below HC.out)
 clear HNEW HEE HBB HOB HB3 HC
 obtain ⟨wA, hwA⟩ : ∃ q, q = v2.alloc (.cells #[.string { data := #[105, 102, 95, 116, 104, 101, 110, 95] }, .int .i64 5, .int .i64 2, .string { data := #[105, 102, 95, 116, 104, 101, 110, 95, 101, 108, 115, 101, 95] }, .int .i64 5, .int .i64 2] 38) := ⟨_, rfl⟩
 have HOP : Hid (OpS wA (some ⟨v2.heap.size, 0, none⟩) 2 2 [oI, oE]) := hid (by rw [hwA]; exact zRg v2 [oI, oE] rfl (by decide) rfl rfl)
 have HBA : Hid (Below v2.heap.size v2 wA) := hid (by rw [hwA]; exact zAA v2 _)
 obtain ⟨g, hg⟩ : ∃ g, g = v2.heap.size := ⟨_, rfl⟩
 rw [← hwA, ← hg]
 rw [← hg] at HOP
 clear hwA hg
 refine (zRI _ 2 2 [oI, oE] wA (HT.out.keep (HW2.out.trans (HBA.out.mono HW2.out.size))) HOP.out (by decide) (by decide)).mono ?_
 rw [zUG]
 rintro e wB ⟨ea3, em, ec3, rfl, ho, hb⟩
 obtain rfl : em = 2 := (OpS.len ho).symm
 have HBB : Hid (Below v2.heap.size v2 wB) := hid (HBA.out.trans (hb.mono HBA.out.size))
 obtain ⟨E3, hE⟩ : ∃ q, q = wB.heap.size := ⟨_, rfl⟩
 have HEE := hid hE
 have HOB := hid ho
 have hnew : EB (wB.alloc (.cells #[.slice none 0 0, .int .i64 0, .int .i64 0, .int .i64 0, .int .i64 0, .int .i64 0, .int .i64 0, .int .i64 0, .int .i64 0, .int .i64 0, .int .i64 0] 34)) E3 none 0 0 z0 := by rw [hE]; exact EB.new wB none 0 0 z0
 have HNEW := hid hnew
 clear ho hb hE hnew HOP HBA
 have hcv : ∀ w3 : World, (convert 59 59 (.slice (some ⟨w3.heap.size, 0, none⟩) 9 9)).run Tryz.prog (w3.alloc (.cells #[.int .u8 97, .int .u8 32, .int .u8 43, .int .u8 32, .int .u8 98, .int .u8 32, .int .u8 43, .int .u8 32, .int .u8 99] 5)) = .ok (.slice (some ⟨w3.heap.size, 0, none⟩) 9 9) (w3.alloc (.cells #[.int .u8 97, .int .u8 32, .int .u8 43, .int .u8 32, .int .u8 98, .int .u8 32, .int .u8 43, .int .u8 32, .int .u8 99] 5 (9, 10))) := fun w3 => Joins.run_convert_bytes_const_at (P := Tryz.prog) w3 59 5 #[.int .u8 97, .int .u8 32, .int .u8 43, .int .u8 32, .int .u8 98, .int .u8 32, .int .u8 43, .int .u8 32, .int .u8 99] 9 9 w3.heap.size rfl Tryz.underlying59 Tryz.underlying5
 go_wp2_with (refine zAD rfl (.tmp 3) (.tmp 20) rfl E3 (by rw [HEE.out]; rfl) ea3 2 ec3 zS rfl rfl none 0 0 z0 zAF HNEW.out ?_; rw [← HEE.out]; intro v3 h3 ho3; have HE3 := hid h3; have HB3 : Hid (Below wB.heap.size wB v3) := hid ((zAA wB _).trans (ho3.below (by rw [HEE.out]; exact Nat.le_refl _))); clear h3 ho3)
 have HC : Hid (Below v2.heap.size v2 v3) := hid (HBB.out.trans (HB3.out.mono HBB.out.size))
 have HW3 : Hid (Below w.heap.size w v3) := hid (HW2.out.trans (HC.out.mono HW2.out.size))
 have HO3 : Hid (OpS v3 ea3 2 ec3 [oI, oE]) := hid (HOB.out.below HB3.out)
 replace HE1 := hid (HE1.out.below HC.out)
 replace HO1 : Hid (OpS v3 ea1 1 ec1 [oL]) := hid (HO1.out.below HC.out)
 replace HE2 := hid (HE2.out.below HC.out)
 replace HO2 : Hid (OpS v3 ea2 1 ec2 [oN]) := hid (HO2.out.below HC.out)
 clear HNEW HEE HBB HOB HB3 HC
 clear hcv
 have hbs := Bs.lit (l := lA) (cs := #[.int .u8 97, .int .u8 32, .int .u8 43, .int .u8 32, .int .u8 98, .int .u8 32, .int .u8 43, .int .u8 32, .int .u8 99]) (mk := (9, 10)) v3 5 rfl (by decide) (g := v3.heap.size) (n := 9) rfl rfl (by decide)
 have HBS := hid hbs
 have HB4 : Hid (Below v3.heap.size v3 (v3.alloc (.cells #[.int .u8 97, .int .u8 32, .int .u8 43, .int .u8 32, .int .u8 98, .int .u8 32, .int .u8 43, .int .u8 32, .int .u8 99] 5 (9, 10)))) := hid (zAA v3 _)
 clear hbs
 refine (zDA _ 9 9 lA _ HBS.out (HT.out.keep (HW3.out.trans (HB4.out.mono HW3.out.size))) (by decide)).mono ?_
 rw [zS3]
 rintro e w5 ⟨la, rfl, hrow, hb5⟩
 have HTS : Hid (Ts w5 la 5 5 (toks lA)) := hid hrow.ts
 have HB5 : Hid (Below v3.heap.size v3 w5) := hid (HB4.out.trans (hb5.mono HB4.out.size))
 have HW5 : Hid (Below w.heap.size w w5) := hid (HW3.out.trans (HB5.out.mono HW3.out.size))
 have HE15 := hid (HE1.out.below HB5.out)
 clear hrow hb5 HB4 HBS
 go_wp2_with (refine zAS rfl (.tmp 1) rfl E1 rfl ea1 1 ec1 zS rfl HE15.out ?_)
 have ho : OpS w5 ea1 1 ec1 [oL] := HO1.out.below HB5.out
 refine (zQn ea1 1 ec1 [oL] zS la 5 5 (toks lA) w5 (HT.out.keep HW5.out) ho (HTS.out) rfl zEU zUV (by decide) (by decide) (by decide)).mono ?_
 rintro e w6 ⟨m1, t1, na1, nc1, rfl, _, hc1, hb6⟩
 obtain ⟨rfl, hl1⟩ := zUS hc1
 rw [hl1]
 have HB6 : Hid (Below v3.heap.size v3 w6) := hid (HB5.out.trans (hb6.mono HB5.out.size))
 have HW6 : Hid (Below w.heap.size w w6) := hid (HW3.out.trans (HB6.out.mono HW3.out.size))
 have HE26 := hid (HE2.out.below HB6.out)
 have HTS6 : Hid (Ts w6 la 5 5 (toks lA)) := hid (HTS.out.below hb6)
 clear hc1 hl1 hb6 ho HTS HB5 HW5 HE15
 go_wp2_with (refine zAS rfl (.tmp 2) rfl E2 rfl ea2 1 ec2 zS rfl HE26.out ?_)
 have ho : OpS w6 ea2 1 ec2 [oN] := HO2.out.below HB6.out
 refine (zQn ea2 1 ec2 [oN] zS la 5 5 (toks lA) w6 (HT.out.keep HW6.out) ho (HTS6.out) rfl zEU zUW (by decide) (by decide) (by decide)).mono ?_
 rintro e w7 ⟨m2, t2, na2, nc2, rfl, _, hc2, hb7⟩
 obtain ⟨rfl, rfl⟩ := zUT hc2
 have HB7 : Hid (Below v3.heap.size v3 w7) := hid (HB6.out.trans (hb7.mono HB6.out.size))
 have HW7 : Hid (Below w.heap.size w w7) := hid (HW3.out.trans (HB7.out.mono HW3.out.size))
 have HE37 := hid (HE3.out.below HB7.out)
 have HO37 : Hid (OpS w7 ea3 2 ec3 [oI, oE]) := hid (HO3.out.below HB7.out)
 clear hc2 hb7 ho HTS6 HB6 HW6 HE26 HE1 HE2 HE3 HO1 HO2 HO3 HB7 HW0 HW1 HW2 HW3
 go_upto_region 7 with fail
 refine wp_region_noPanic ?_
 refine wp_region_held_drew (S := fun w' => EB w' E3 ea3 2 ec3 zS) (by kernel_rfl) (HE37.out.below (Below.refl _ _).drew) (fun hHeld => ?_)
 refine zT 0 (v := .agg (ev ea3 2 ec3 zS)) rfl (fun w0 h0 => zBc zKz (.tmp 3) E3 rfl (ev ea3 2 ec3 zS) (zA7 rfl) h0) ?_
 try simp only [Act.put, aS, aZ, aC]
 refine zR [1] ?_
 refine hDo rfl (fun K hK => ?_) ?_
 ·refine zT3 rfl rfl ?_
  intro u1 X1 hX1 hu1
  have HU1 := hid hu1
  have HX1 := hid hX1
  have HV1 : Hid (Below w7.heap.size w7 u1) := hid (by rw [hu1]; exact ((Below.refl _ _).drew).alloc (Nat.le_refl _) _)
  clear hu1 hX1
  refine hK.out _ _ (HE37.out.below HV1.out) (fun hHeld => ?_)
  clear hK K
  try simp only [Act.put, aS, aZ, aC]
  refine zR [2] ?_
  refine hDo rfl (fun K hK => ?_) ?_
  ·refine zT4 HX1.out HU1.out rfl (.tmp 38) rfl rfl ?_
   intro u2 hs2 hv2
   have HS2 := hid hs2
   have HV2 : Hid (Below w7.heap.size w7 u2) := hid ((Below.refl _ _).drew.trans (hv2.mono (Nat.le_refl _)))
   clear hs2 hv2 HU1 HX1 HV1
   refine hK.out _ _ (HE37.out.below HV2.out) (fun hHeld => ?_)
   clear hK K
   try simp only [Act.put, aS, aZ, aC]
   refine zR [3] ?_
   refine hDo rfl (fun K hK => ?_) ?_
   ·go_simp
    (go_at_call 24; (with_reducible refine (zDA _ 28 28 lB _ HS2.out (HT.out.keep (HW7.out.trans (HV2.out.mono HW7.out.size))) (by decide)).mono ?_); rw [zUH]; rintro e u3 ⟨la3, rfl, hrow3, hb3⟩)
    have HV3 : Hid (Below w7.heap.size w7 u3) := hid (HV2.out.trans (hb3.mono HV2.out.size))
    have HTS3 : Hid (Ts u3 la3 9 9 (toks lB)) := hid hrow3.ts
    clear hrow3 hb3 HV2 HS2
    refine hK.out _ _ (HE37.out.below HV3.out) (fun hHeld => ?_)
    clear hK K
    try simp only [Act.put, aS, aZ, aC]
    refine zR [4] ?_
    refine hDo rfl (fun K hK => ?_) ?_
    ·go_simp
     (go_at_call 16; (with_reducible refine (zQn ea3 2 ec3 [oI, oE] zS la3 9 9 (toks lB) _ (HT.out.keep (HW7.out.trans (HV3.out.mono HW7.out.size))) (HO37.out.below HV3.out) HTS3.out rfl zEU zUK (by decide) (by decide) (by decide)).mono ?_); rintro e u4 ⟨m3, t3, na3, nc3, rfl, _, hc3, hb4⟩)
     obtain ⟨rfl, rfl⟩ := zUU hc3
     have HV4 : Hid (Below w7.heap.size w7 u4) := hid (HV3.out.trans (hb4.mono HV3.out.size))
     clear hc3 hb4 HV3 HTS3
     refine hK.out _ _ (HE37.out.below HV4.out) (fun hHeld => ?_)
     clear hK K
     try simp only [Act.put, aS, aZ, aC]
     refine zG 5 rfl ?_
     try simp only [Act.put, aS, aZ, aC]
     refine zG 6 rfl ?_
     try simp only [Act.put, aS, aZ, aC]
     refine zG 7 rfl ?_
     try simp only [Act.put, aS, aZ, aC]
     refine zG 8 rfl ?_
     try simp only [Act.put, aS, aZ, aC]
     refine zG 9 rfl ?_
     try simp only [Act.put, aS, aZ, aC]
     refine wpAnyH_done (by kernel_rfl) ?_ _
     refine NoPanic.normal ?_
     go_wp2
     go_ret
     exact ⟨rfl, HW7.out.trans (HV4.out.mono HW7.out.size)⟩
    ·exact AllReadyH.nil
   ·exact AllReadyH.nil
  ·exact AllReadyH.nil
 ·exact AllReadyH.nil
end
section
open Go.RowKit
theorem zFm (aC : Option Addr) (len cap : Nat) (C : List CH) (hok : ∀ x ∈ C, okC x) : ∃ (L : List OP) (Z : List Int), RowsOk Z ∧ okE L Z ∧ ∀ w : World, ChS w aC len cap C → Calls Tryz.prog 13 #[.slice aC len cap] w fun e w' => ∃ a n c, e = .returned (.agg (ev a n c Z)) ∧ OwnO w.heap.size w' a n c L ∧ Below w.heap.size w w' :=
 ⟨_, _, zIN _, zNj _, fun w h => zKd aC len cap C w h hok⟩
end
end Go.Proofs.YtcjbhdgjcpnklaaGreatDoor
