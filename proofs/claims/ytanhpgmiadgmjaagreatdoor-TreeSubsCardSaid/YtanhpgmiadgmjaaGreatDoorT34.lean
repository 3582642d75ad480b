import Derived.Deep.QuietTactic
import Derived.BigQuiet
import Derived.Test.YtanhpgmiadgmjaaGreatDoorT28
import Derived.Test.YtanhpgmiadgmjaaGreatDoorT33
namespace Go.Proofs.YtanhpgmiadgmjaaGreatDoor
open Go.RowKit
theorem N5.zero (w : World) : N5 (w.alloc (.cells #[.int .i64 0, .string ⟨#[]⟩, .int .i64 0, .int .i64 0, .int .i64 0] 37)) w.heap.size ⟨0, [], 0, 0, 0⟩ := heap_alloc_new w _
theorem nint_size1 : (Tryz.prog.info? 3).map (·.size) = some 1 := by kernel_rfl
theorem store_n5 {ops : Array Oper} {rest : List Oper} {o : Oper} {a : Act} {w : World} {Q : Exit → Act → World → Prop} (hgd : o.guard = none) (x y : Operand) (ho : o.op = .store 37 x y)
  (b : Nat) (hx : a.eval x = .pointer (some ⟨b, 0, none⟩)) (v : ND) (hy : a.eval y = .agg (ndA v)) (u : ND) (h : N5 w b u)
  (k : ∀ w', N5 w' b v → Only b w w' → wpList Tryz.prog ops Q rest (a.put o.dst undef) w') : wpList Tryz.prog ops Q (o :: rest) a w :=
 wpList_store_row hgd 37 x y ho b _ hx hy _ _ h n5_info rfl (by kernel_rfl) (k _ (setRow_heap w b _ _ _ _ h) (Only.ofRow w b _))
theorem bare_take {T : List ND} {k : Nat} (h : k < T.length) : bareL (T.take (k + 1)) = bareL (T.take k) ++ bareL [nA T k] := by
 rw [nA_take h]
 unfold bareL
 rw [List.filter_append, List.map_append]
set_option maxRecDepth 20000 in
set_option maxHeartbeats 4000000 in
theorem tbare_any (a : Option Addr) (n c : Nat) (T : List ND) (w : World) (h : NdS w a n c T) (hn : n ≤ 1000000) :
  Calls Tryz.prog 25 #[.slice a n c] w fun e w' => ∃ a' c', e = .returned (.slice a' (bareL T).length c') ∧ OwnN w.heap.size w' a' (bareL T).length c' (bareL T) ∧ Below w.heap.size w w' := by
 have HL := hid (NdS.len h)
 have H := hid h
 clear h
 go_enter Tryz.func25, Tryz.ntmps25
 go_wp2
 go_loopw [3, 8] (fun u v wr => ∃ (k m : Nat) (a' : Option Addr) (c' : Nat), u = .slice a' m c' ∧ v = .int .i64 k ∧ k ≤ n ∧ m ≤ k ∧ Hid (m = (bareL (T.take k)).length) ∧ Hid (OwnN w.heap.size wr a' m c' (bareL (T.take k))) ∧ Hid (Below w.heap.size w wr)) (fun _ v _ => n - (intOf v).toNat)
 case atStart => exact ⟨0, 0, none, 0, rfl, rfl, by omega, by omega, hid rfl, hid OwnV.none0, hid (Below.refl _ _)⟩
 case round =>
  obtain ⟨k, m, a', c', rfl, rfl, hk, hmk, HM, HO, HB⟩ := hrel
  by_cases hlt : k < n
  ·have hb := H.out.below HB.out
   obtain ⟨b, off, rfl, _, hc⟩ := hb.at_ (by omega)
   clear hc
   obtain ⟨c0, c1, c2, c3, c4⟩ := NdS.at5 hb hlt
   have HT := hid (bare_take (T := T) (k := k) (by rw [HL.out]; exact hlt))
   obtain ⟨x, hx⟩ : ∃ x, x = nA T k := ⟨_, rfl⟩
   rw [← hx] at c0 c1 c2 c3 c4 HT
   clear hb hx
   obtain ⟨xk, xn, xf, xt, xc⟩ := x
   dsimp only at c0 c1 c2 c3 c4
   obtain ⟨G, hG⟩ : ∃ G, G = wr.heap.size := ⟨_, rfl⟩
   have HG := hid hG
   have hkb : k + 1 ≤ 1000000 := by omega
   clear hG
   by_cases h2 : xk = 2
   ·have HT2 : Hid (bareL (T.take (k + 1)) = bareL (T.take k)) := hid (by rw [HT.out, bare_no h2]; exact List.append_nil _)
    subst h2
    go_wp2_with (refine store_n5 rfl (.tmp 5) (.tmp 11) rfl _ rfl ⟨2, xn, xf, xt, xc⟩ rfl ⟨0, [], 0, 0, 0⟩ (N5.zero wr) ?_; rw [← HG.out]; intro w5 h5 ho5; have HB45 : Hid (Below wr.heap.size wr w5) := hid ((below_alloc wr _).trans (ho5.below (by rw [HG.out]; exact Nat.le_refl _))); obtain ⟨d0, d1, d2, d3, d4⟩ := h5.cells; dsimp only at d0 d1 d4; clear h5 ho5 d2 d3 c0 c1 c2 c3 c4)
    go_roundw
    case rel => exact ⟨k + 1, m, a', c', rfl, by go_num, by omega, by omega, hid (by rw [HT2.out]; exact HM.out), hid (by rw [HT2.out]; exact HO.out.keep HB45.out (Nat.le_refl _)), hid (HB.out.trans (HB45.out.mono HB.out.size))⟩
    case measure => simp [intOf]; omega
   ·have HT2 : Hid (bareL (T.take (k + 1)) = bareL (T.take k) ++ [⟨xk, xn, 0, 0, xc⟩]) := hid (by rw [HT.out, bare_yes h2]; rfl)
    go_wp2_with (first
     | (refine store_n5 rfl (.tmp 5) (.tmp 11) rfl _ rfl ⟨xk, xn, xf, xt, xc⟩ rfl ⟨0, [], 0, 0, 0⟩ (N5.zero wr) ?_; rw [← HG.out]; intro w5 h5 ho5; have HB45 : Hid (Below wr.heap.size wr w5) := hid ((below_alloc wr _).trans (ho5.below (by rw [HG.out]; exact Nat.le_refl _))); obtain ⟨d0, d1, d2, d3, d4⟩ := h5.cells; dsimp only at d0 d1 d4; clear h5 ho5 d2 d3 c0 c1 c2 c3 c4)
     | (at_builtin; refine wpList_appv rfl (.tmp 15) (.tmp 23) 24 rfl 37 w.heap.size 5 48 _ Tryz.underlying24 nd_info rfl (by omega) _ _ _ (cN (bareL (T.take k))) rfl ((HO.out.keep HB45.out (Nat.le_refl _)).alloc _) _ _ _ (cN [⟨xk, xn, 0, 0, xc⟩]) rfl (Vs.lit (k := 5) (xs := cN [⟨xk, xn, 0, 0, xc⟩]) _ _ rfl rfl rfl) (cN_one _) (by unfold maxLen; omega) (by omega) (by have := HB.out.size; have := HB45.out.size; simp; omega) ?_; intro a6 c6 w6 hO6 hG6 hb6 _; have HO6 := hid hO6; have HB6 : Hid (Below w.heap.size w w6) := hid (((HB.out.trans (HB45.out.mono HB.out.size)).alloc (by have := HB.out.size; have := HB45.out.size; omega) _).trans hb6); clear hO6 hG6 hb6))
    go_roundw
    case rel => exact ⟨k + 1, m + 1, a6, c6, rfl, by go_num, by omega, by omega, hid (by rw [HT2.out, List.length_append, ← HM.out]; rfl), hid (by rw [HT2.out]; unfold OwnN; rw [cN_app]; exact HO6.out), HB6⟩
    case measure => simp [intOf]; omega
  ·obtain rfl : k = n := by omega
   have HTK : Hid (T.take k = T) := hid (List.take_of_length_le (by rw [HL.out]; exact Nat.le_refl _))
   go_wp2
   go_ret
   have hm := HM.out
   have ho := HO.out
   rw [HTK.out] at hm ho
   subst hm
   exact ⟨a', c', rfl, ho, HB.out⟩
end Go.Proofs.YtanhpgmiadgmjaaGreatDoor
