import Derived.Test.YtcjbhdgjcpnklaaGreatDoorV45
import Derived.Test.YtcjbhdgjcpnklaaGreatDoorV49
namespace Go.Proofs.YtcjbhdgjcpnklaaGreatDoor
open Go.RowKit
def tkL : TK := ⟨6, 0, 0, ⟨#[40]⟩, 0⟩
def tkX : TK := ⟨3, 0, 0, ⟨#[88]⟩, 0⟩
theorem zP9 (w : World) (e : TypeId) {mk : Nat × Nat} (t u : TK) {cs : Array Value} (hc : cs = (cellsT t ++ cellsT u).toArray) {g : Nat} (hg : g = w.heap.size) : Ts (w.alloc (.cells cs e mk)) (some ⟨g, 0, none⟩) 2 2 [t, u] := by
 subst hc; subst hg
 refine ⟨rfl, Nat.le_refl _, by decide, fun _ => ⟨w.heap.size, 0, rfl, by simp, fun j hj i hi => ?_⟩⟩
 rw [cell_of_row (w.alloc (.cells (cellsT t ++ cellsT u).toArray e mk)) w.heap.size (0 + (j * 5 + i)) _ e mk (heap_alloc_new w _)]
 rcases (show j = 0 ∨ j = 1 by omega) with rfl | rfl <;> rcases (show i = 0 ∨ i = 1 ∨ i = 2 ∨ i = 3 ∨ i = 4 by omega) with rfl | rfl | rfl | rfl | rfl <;> rfl
set_option maxRecDepth 100000 in
set_option maxHeartbeats 32000000 in
theorem zEh (ca : Option Addr) (cl cc : Nat) (C : List CH) (la : Option Addr) (ln lc : Nat) (l : List TK) (y : Int) (w : World) (ht : Tab w) (hC : ChS w ca cl cc C) (hok : ∀ x ∈ C, okC x) (hl : Ts w la ln lc l) (hy : 0 ≤ y ∧ y ≤ 255) :
  Calls Tryz.prog 6 #[.slice ca cl cc, .slice la ln lc, .int .u8 y] w fun e w' => e = .returned (.bool true) ∧ Below w.heap.size w w' := by
 have HT := hid ht
 have HL := hid hl
 have HC := hid hC
 obtain ⟨L, Z, hRO, hE, hmk⟩ := zFm ca cl cc C hok
 have HE := hid hE
 have HZL : Hid (Z.length = 10) := hid hE.2.2.2.1
 have HMK := hid hmk
 obtain ⟨tok, htok⟩ : ∃ q, q = shortV l := ⟨_, rfl⟩
 obtain ⟨m, hm⟩ : ∃ q, q = tok.length := ⟨_, rfl⟩
 have HTM : Hid (tok.length = m) := hid hm.symm
 have HTL : Hid (m ≤ 14) := hid (by rw [hm, htok]; exact zDK l)
 have HTK := hid htok
 clear ht hl hC hok hE hmk hRO htok hm
 go_enter Tryz.func6, Tryz.ntmps6
 go_wp2_with fail
 refine (zCT w HT.out).mono ?_
 rintro e w1 ⟨rfl, hb1⟩
 have HB1 := hid hb1
 clear hb1
 go_wp2_with fail
 refine (HMK.out w1 (HC.out.below HB1.out)).mono ?_
 rintro e w2 ⟨ea, en, ec, rfl, ho2, hb2⟩
 have HO2 : Hid (OpS w2 ea en ec L) := hid ho2.vs
 have HB2 : Hid (Below w.heap.size w w2) := hid (HB1.out.trans (hb2.mono HB1.out.size))
 obtain ⟨E, hE⟩ : ∃ q, q = w2.heap.size := ⟨_, rfl⟩
 have HEE := hid hE
 have hnew : EB (w2.alloc (.cells #[.slice none 0 0, .int .i64 0, .int .i64 0, .int .i64 0, .int .i64 0, .int .i64 0, .int .i64 0, .int .i64 0, .int .i64 0, .int .i64 0, .int .i64 0] 34)) E none 0 0 z0 := by rw [HEE.out]; exact EB.new w2 none 0 0 z0
 have HNEW := hid hnew
 clear ho2 hb2 hE hnew HB1
 go_wp2_with (refine zAD rfl (.tmp 8) (.tmp 20) rfl E (by rw [HEE.out]; rfl) ea en ec Z rfl HE.out.2.2.2.1 none 0 0 z0 zAF HNEW.out ?_; rw [← HEE.out]; intro w3 h3 ho3; have H3 := hid h3; have HB3 : Hid (Below w2.heap.size w2 w3) := hid ((zAA w2 _).trans (ho3.below (by rw [HEE.out]; exact Nat.le_refl _))); clear h3 ho3)
 have HB3W : Hid (Below w.heap.size w w3) := hid (HB2.out.trans (HB3.out.mono HB2.out.size))
 have HO3 : Hid (OpS w3 ea en ec L) := hid (HO2.out.below HB3.out)
 have HL3 : Hid (Ts w3 la ln lc l) := hid (HL.out.below HB3W.out)
 clear HNEW HEE HB2 HO2 HB3
 refine (zFv la ln lc l w3 HL3.out).mono ?_
 rw [← HTK.out, HTM.out]
 rintro e u1 ⟨fa, fc, rfl, hf, hb⟩
 have HF : Hid (Ts u1 fa m fc tok) := hid hf.ts
 have HW1 : Hid (Below w.heap.size w u1) := hid (HB3W.out.trans (hb.mono HB3W.out.size))
 have HE1 := hid (H3.out.below hb)
 have HLG := hid (lgk HE.out (HT.out.keep HW1.out) (zBR HO3.out hb))
 clear hf hb HL3 HO3 H3 HB3W HL HC HMK HT HTK
 obtain ⟨k, hk4, hky⟩ : ∃ k : Nat, k < 4 ∧ y % 4 = (k : Int) := ⟨(y % 4).toNat, by omega, by omega⟩
 have hy64 : IntKind.i64.wrap y = y := IntWalk.i64_in _ (by omega)
 go_wp2_with fail
 rw [hky]
 clear hky hy64 hy
 go_loopw [11, 12] (fun u v wr => ∃ (j : Nat) (a' : Option Addr) (c' : Nat), u = .slice a' j c' ∧ v = .int .i64 j ∧ j ≤ k ∧ Hid (OwnT u1.heap.size 51 wr a' j c' (List.replicate j tkL)) ∧ Hid (Below u1.heap.size u1 wr)) (fun _ v _ => k - (intOf v).toNat)
 case atStart => exact ⟨0, _, 0, rfl, rfl, Nat.zero_le _, hid (OwnT.emptyAt (heap_alloc_new u1 _) (Nat.le_refl _)), hid (zAA u1 _)⟩
 case round =>
  obtain ⟨j, a', c', rfl, rfl, hj, HO, HBr⟩ := hrel
  have hj0 : (0 : Int) ≤ (j : Int) := Int.natCast_nonneg _
  by_cases hjk : j < k
  ·have hjI : (j : Int) < (k : Int) := by omega
   have HTS := hid (Ts.one (mk := (0, 0)) wr 51 tkL rfl rfl)
   go_wp2_with (at_builtin; refine zBt rfl (.tmp 32) (.tmp 34) rfl u1.heap.size _ _ _ (List.replicate j tkL) rfl (HO.out.alloc _) _ _ _ [tkL] rfl (Ts.one wr 51 tkL rfl rfl) (by omega) (by have := HBr.out.size; simp; omega) ?_; intro a6 c6 w8 hO6 hG6 hb6; have HO6 := hid hO6; have HB6 : Hid (Below u1.heap.size u1 w8) := hid ((HBr.out.alloc HBr.out.size _).trans hb6); clear hO6 hG6 hb6)
   go_roundw
   case rel => exact ⟨j + 1, a6, c6, rfl, by go_num, by omega, hid (by rw [List.replicate_succ']; exact HO6.out), HB6⟩
   case measure => simp [intOf]; omega
  ·have hjI : ¬ (j : Int) < (k : Int) := by omega
   obtain rfl : j = k := by omega
   clear hjk hj
   go_wp2_with (refine zAS rfl (.tmp 8) rfl E rfl ea en ec Z HZL.out (HE1.out.below HBr.out) ?_)
   refine (HLG.out wr fa m fc tok HBr.out (HF.out.below HBr.out) (by have := HTL.out; omega)).mono ?_
   rintro e u2 ⟨n, rfl, hlon, hb⟩
   have HLON := hid hlon
   have HB2 : Hid (Below u1.heap.size u1 u2) := hid (HBr.out.trans (hb.mono HBr.out.size))
   have HD : Hid (Below u1.heap.size u1 u2.drew) := hid HB2.out.drew
   have HO2 : Hid (OwnT u1.heap.size 51 u2.drew a' j c' (List.replicate j tkL)) := hid ((HO.out.keep hb (Nat.le_refl _)).keep (Below.refl u2.heap.size u2).drew (Nat.le_refl _))
   clear hlon hb HO HBr
   go_upto_region 11 with fail
   refine wp_region_noPanic ?_
   refine wp_region_held_drew (S := fun w' => EB w' E ea en ec Z) (by kernel_rfl) (HE1.out.below HD.out) (fun hHeld => ?_)
   refine zAh (i := 0) (oi := { dst := some 39, op := Op.load 34 (Operand.tmp 8), type := 34, pos := "law.go:82", after := #[], guard := none }) (Operand.tmp 8) rfl (by kernel_rfl) (by kernel_rfl) (by kernel_rfl) ea en ec (Z) (fun _ _ _ h => h) (by rfl) rfl (E) rfl (HZL.out) (fun w h => h) (by assumption) ?_
   try simp only [Act.put, aS, aZ, aC]
   refine zG 1 rfl ?_
   try simp only [Act.put, aS, aZ, aC]
   refine zG 2 rfl ?_
   try simp only [Act.put, aS, aZ, aC]
   refine zR [3] ?_
   refine hDo rfl (fun K hK => ?_) ?_
   ·refine zBU rfl (.tmp 40) (.tmp 41) rfl u1.heap.size a' j c' (List.replicate j tkL) rfl HO2.out fa m fc tok rfl (HF.out.below HD.out) (by have := HTL.out; omega) HD.out.size ?_
    intro a3 c3 u3 ho3 hg3 hb3
    have HB3 : Hid (Below u1.heap.size u1 u3) := hid (HD.out.trans hb3)
    have HA3 : Hid (Ts u3 a3 (j + m) c3 (List.replicate j tkL ++ tok)) := hid ho3.ts
    clear ho3 hg3 hb3
    refine hK.out _ _ (HE1.out.below HB3.out) (fun hHeld => ?_)
    clear hK K
    try simp only [Act.put, aS, aZ, aC]
    refine zR [4] ?_
    refine hDo rfl (fun K hK => ?_) ?_
    ·go_simp
     (go_at_call 20; (with_reducible refine (HLG.out u3 a3 (j + m) c3 (List.replicate j tkL ++ tok) HB3.out HA3.out (by have := HTL.out; omega)).mono ?_); rintro e u4 ⟨M, rfl, hlon4, hb4⟩)
     have HB4 : Hid (Below u1.heap.size u1 u4) := hid (HB3.out.trans (hb4.mono HB3.out.size))
     have HLM := hid hlon4
     clear hlon4 hb4
     refine hK.out _ _ (HE1.out.below HB4.out) (fun hHeld => ?_)
     clear hK K
     try simp only [Act.put, aS, aZ, aC]
     refine zG 5 rfl ?_
     try simp only [Act.put, aS, aZ, aC]
     refine wpAnyH_done (by kernel_rfl) ?_ _
     refine NoPanic.normal ?_
     clear HA3 HB3 HO2 HD HB2
     go_wp2_with (refine zAS rfl (.tmp 8) rfl E rfl ea en ec Z HZL.out (HE1.out.below HB4.out) ?_)
     refine (HLG.out _ _ 1 1 [tk7] (HB4.out.alloc HB4.out.size _) (Ts.one u4 51 tk7 rfl rfl) (by omega)).mono ?_
     rintro e u5 ⟨n5, rfl, hlon5, hb5⟩
     obtain rfl : n5 = 1 := zM8 (Or.inr (Or.inl rfl)) hlon5
     have HB5 : Hid (Below u1.heap.size u1 u5) := hid ((HB4.out.alloc HB4.out.size _).trans (hb5.mono (HB4.out.alloc HB4.out.size _).size))
     clear hlon5 hb5
     go_wp2_with (refine zAS rfl (.tmp 8) rfl E rfl ea en ec Z HZL.out (HE1.out.below HB5.out) ?_)
     refine (HLG.out _ _ 2 2 [tk7, tkX] (HB5.out.alloc HB5.out.size _) (zP9 u5 51 tk7 tkX rfl rfl) (by omega)).mono ?_
     rintro e u6 ⟨n6, rfl, hlon6, hb6⟩
     obtain rfl : n6 = 1 := zLe (Or.inr (Or.inl rfl)) (Or.inl rfl) hlon6
     have HB6 : Hid (Below u1.heap.size u1 u6) := hid ((HB5.out.alloc HB5.out.size _).trans (hb6.mono (HB5.out.alloc HB5.out.size _).size))
     have hEK := zP7 (o := tkL) ⟨rfl, by rfl⟩ HLON.out HLM.out
     have hnm : n ≤ m := by rw [← HTM.out]; exact HLON.out.1
     have htl := HTL.out
     have hn0 : (0 : Int) ≤ (n : Int) := Int.natCast_nonneg _
     have hM0 : (0 : Int) ≤ (M : Int) := Int.natCast_nonneg _
     have hnk : IntKind.i64.wrap ((n : Int) + (j : Int)) = (n : Int) + (j : Int) := IntWalk.i64_in _ (by omega)
     clear hlon6 hb6 HB5 HB4 HLM HLON HLG HE1
     by_cases hlt : n < m
     ·have hmI : (0 : Int) < (m : Int) := by omega
      have hltI : (n : Int) < (m : Int) := by omega
      obtain ⟨b, off, rfl, c0, c1, c2, c3, c4⟩ := zIa (HF.out.below HB6.out) hlt
      have hSH : shutA tok n ↔ ((tat tok n).k = 6 ∧ txN (tat tok n) = [41]) := ⟨fun h => h.2, fun h => ⟨by rw [HTM.out]; exact hlt, h⟩⟩
      rw [hSH] at hEK
      obtain ⟨x, hx⟩ : ∃ x, x = tat tok n := ⟨_, rfl⟩
      rw [← hx] at c0 c1 c2 c3 c4 hEK
      obtain ⟨xk, hxk⟩ : ∃ q, q = x.k := ⟨_, rfl⟩
      obtain ⟨xt, hxt⟩ : ∃ q, q = txN x := ⟨_, rfl⟩
      rw [← hxk] at c0 hEK
      rw [← hxt] at c3 hEK
      clear hSH hx hxk hxt c1 c2 c4
      cases hk6 : (xk == 6) with
      | false =>
       have hMe : M = n + j := by
        rcases hEK with h | ⟨h, _⟩
        ·exact h
        ·rw [h.1] at hk6; cases hk6
       have hMb : ((M : Int) == (n : Int) + (j : Int)) = true := by rw [hMe]; simp
       have HEK := hid hEK
       have HME := hid hMe
       clear hEK hMe
       go_wp2
       go_ret
       exact ⟨rfl, HW1.out.trans (HB6.out.mono HW1.out.size)⟩
      | true =>
       cases hts : ((mk xt).toList == [41]) with
       | false =>
        have hMe : M = n + j := by
         rcases hEK with h | ⟨h, _⟩
         ·exact h
         ·rw [h.2, mk_toList] at hts
          simp at hts
        have hMb : ((M : Int) == (n : Int) + (j : Int)) = true := by rw [hMe]; simp
        clear hEK hMe
        go_wp2
        go_ret
        exact ⟨rfl, HW1.out.trans (HB6.out.mono HW1.out.size)⟩
       | true =>
        have hMg : n + j ≤ M := by rcases hEK with h | ⟨_, h⟩ <;> omega
        have hMgI : (n : Int) + (j : Int) ≤ (M : Int) := by omega
        have hMgd : decide ((n : Int) + (j : Int) ≤ (M : Int)) = true := by simp; omega
        clear hEK
        by_cases hMe : M = n + j
        ·have hMb : ((M : Int) == (n : Int) + (j : Int)) = true := by rw [hMe]; simp
         clear hMe hMg
         go_wp2
         go_ret
         exact ⟨rfl, HW1.out.trans (HB6.out.mono HW1.out.size)⟩
        ·have hMb : ((M : Int) == (n : Int) + (j : Int)) = false := by simp; omega
         clear hMe hMg
         go_wp2
         go_ret
         exact ⟨rfl, HW1.out.trans (HB6.out.mono HW1.out.size)⟩
     ·have hMe : M = n + j := by
       rcases hEK with h | ⟨h, _⟩
       ·exact h
       ·exact absurd h.1 (by rw [HTM.out]; exact hlt)
      have hMb : ((M : Int) == (n : Int) + (j : Int)) = true := by rw [hMe]; simp
      have hltI : ¬ (n : Int) < (m : Int) := by omega
      clear hEK hMe
      by_cases hm0 : 0 < m
      ·have hmI : (0 : Int) < (m : Int) := by omega
       go_wp2
       go_ret
       exact ⟨rfl, HW1.out.trans (HB6.out.mono HW1.out.size)⟩
      ·have hmI : ¬ (0 : Int) < (m : Int) := by omega
       go_wp2
       go_ret
       exact ⟨rfl, HW1.out.trans (HB6.out.mono HW1.out.size)⟩
    ·exact AllReadyH.nil
   ·exact AllReadyH.nil
end Go.Proofs.YtcjbhdgjcpnklaaGreatDoor
