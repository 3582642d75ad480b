/- The law's own shown. -/
import Derived.Test.YtkaeanaeklilfaaGreatDoorXk
import Derived.Test.YtkaeanaeklilfaaGreatDoorXl
import Derived.Test.YtkaeanaeklilfaaGreatDoorMK
import Derived.Test.YtkaeanaeklilfaaGreatDoorMB
namespace Go.Proofs.YtkaeanaeklilfaaGreatDoor
open Go.RowKit

/-! ### The document's example -/

def oX : OP := ([95, 43, 95], 3, 0)
def lX : List Int := [97, 32, 43, 32, 98]
def tX : List ND := [⟨3, [95, 43, 95], 0, 3, 2⟩, ⟨1, [97], 0, 1, 0⟩, ⟨1, [98], 2, 3, 0⟩]
theorem addE_x : addE [] oX = 0 := by decide +kernel
theorem addR_x : addR [] oX = [oX] := by unfold addR; rw [if_pos addE_x]; rfl
theorem addZ_x : addZ [] zS oX = zS := by unfold addZ; rw [if_pos addE_x]
theorem toks_x : (toks lX).length = 3 := by decide +kernel
theorem right_x : rightB [oX] zS (toks lX) tX = true := by decide +kernel
theorem right_y : rightB [] zS (toks lX) tX = false := by decide +kernel
theorem end_x : endV tX 0 = 3 := by decide +kernel
theorem kids_x : kidV tX 0 = [1, 2] := by decide +kernel
theorem bare_x : (bareL tX).length = 3 := by decide +kernel
theorem zS_i64x : ∀ i, i < 10 → I64 (bt zS i) := fun i hi => by have := zS_rng i hi; unfold I64; exact this
theorem oX_len : ∀ o ∈ [oX], o.1.length ≤ 1000000 := fun o ho => by rw [List.mem_singleton.1 ho]; decide
theorem tX_nm : ∀ x ∈ tX, x.n.length ≤ 1000000 := by decide
theorem add_x (w : World) (ht : Tab w) : Calls Tryz.prog 23 #[.agg (ev none 0 0 zS), .agg #[.string { data := #[95, 43, 95] }, .int .i64 3, .int .i64 0]] w fun e w' => ∃ a' c', e = .returned (.tuple #[.agg (ev a' 1 c' zS), .int .i64 0]) ∧ OpS w' a' 1 c' [oX] ∧ Below w.heap.size w w' := by
  refine Calls.mono (add_any none 0 0 [] zS oX w ht (Vs.nil _ _ _ _ (Nat.zero_le _)) rfl (by decide) (by decide)) ?_
  rintro e w' ⟨a', n', c', rfl, ho, hb⟩
  rw [addR_x] at ho
  obtain rfl : n' = 1 := (OpS.len ho.vs).symm
  exact ⟨a', c', by rw [addZ_x, addE_x], ho.vs, hb⟩
theorem nd_lits (w : World) (T : List ND) {g n : Nat} (hn : T.length = n) (hm : n ≤ 10) {cs : Array Value} (hc : cs = (cN T).toArray) (hg : g = w.heap.size) : NdS (w.alloc (.cells cs 43)) (some ⟨g, 0, none⟩) n n T := by
  subst hg
  subst hc
  refine ⟨by rw [cN_len, hn], Nat.le_refl _, by unfold maxLen; omega, fun _ => ⟨w.heap.size, 0, rfl, by simp, fun j hj => ?_⟩⟩
  rw [cell_of_row _ w.heap.size (0 + j) _ _ _ (heap_alloc_new w _), Nat.zero_add, List.getElem?_toArray]

set_option maxRecDepth 100000 in
set_option maxHeartbeats 16000000 in
theorem shown_any (w : World) (ht : Tab w) : Calls Tryz.prog 8 #[] w fun e w' => e = .returned (.bool true) ∧ Below w.heap.size w w' := by
  have HT := Lib.hid ht
  clear ht
  go_enter Tryz.func8, Tryz.ntmps8
  go_wp2_with fail
  refine (new_any w).mono ?_
  rintro e w1 ⟨rfl, hb1⟩
  have HB1 := Lib.hid hb1
  clear hb1
  go_wp2_with fail
  refine (add_x w1 (HT.out.keep HB1.out)).mono ?_
  rintro e w2 ⟨ea, ec, rfl, ho2, hb2⟩
  have HO2 := Lib.hid ho2
  have HB2 : Hid (Below w.heap.size w w2) := Lib.hid (HB1.out.trans (hb2.mono HB1.out.size))
  obtain ⟨E, hE⟩ : ∃ q, q = w2.heap.size := ⟨_, rfl⟩
  have HEE := Lib.hid hE
  clear ho2 hb2 hE HB1
  have hnew : EB (w2.alloc (.cells #[.slice none 0 0, .int .i64 0, .int .i64 0, .int .i64 0, .int .i64 0, .int .i64 0, .int .i64 0, .int .i64 0, .int .i64 0, .int .i64 0, .int .i64 0] 26)) E none 0 0 z0 := by rw [HEE.out]; exact EB.new w2 none 0 0 z0
  have HNEW := Lib.hid hnew
  clear hnew
  have hcv : ∀ w3 : World, (convert 54 54 (.slice (some ⟨w3.heap.size, 0, none⟩) 5 5)).run Tryz.prog (w3.alloc (.cells #[.int .u8 97, .int .u8 32, .int .u8 43, .int .u8 32, .int .u8 98] 5)) = .ok (.slice (some ⟨w3.heap.size, 0, none⟩) 5 5) (w3.alloc (.cells #[.int .u8 97, .int .u8 32, .int .u8 43, .int .u8 32, .int .u8 98] 5 (5, 6))) := fun w3 => Joins.run_convert_bytes_const_at (P := Tryz.prog) w3 54 5 #[.int .u8 97, .int .u8 32, .int .u8 43, .int .u8 32, .int .u8 98] 5 5 w3.heap.size rfl Tryz.underlying54 Tryz.underlying5
  go_wp2_with (refine store_env rfl (.tmp 1) (.tmp 10) rfl E (by rw [HEE.out]; rfl) ea 1 ec zS rfl rfl none 0 0 z0 z0_len HNEW.out ?_; rw [← HEE.out]; intro w3 h3 ho3; have H3 := Lib.hid h3; have HB3 : Hid (Below w2.heap.size w2 w3) := Lib.hid ((below_alloc w2 _).trans (ho3.below (by rw [HEE.out]; exact Nat.le_refl _))); clear h3 ho3)
  have HB3W : Hid (Below w.heap.size w w3) := Lib.hid (HB2.out.trans (HB3.out.mono HB2.out.size))
  have HO3 : Hid (OpS w3 ea 1 ec [oX]) := Lib.hid (HO2.out.below HB3.out)
  clear HNEW HEE HB2 HO2 HB3
  clear hcv
  have hbs := Bs.lit (l := lX) (cs := #[.int .u8 97, .int .u8 32, .int .u8 43, .int .u8 32, .int .u8 98]) (mk := (5, 6)) w3 5 rfl (by decide) (g := w3.heap.size) (n := 5) rfl rfl (by decide)
  have HBS := Lib.hid hbs
  have HB4 : Hid (Below w3.heap.size w3 (w3.alloc (.cells #[.int .u8 97, .int .u8 32, .int .u8 43, .int .u8 32, .int .u8 98] 5 (5, 6)))) := Lib.hid (below_alloc w3 _)
  clear hbs
  refine (all_any _ 5 5 lX _ HBS.out (HT.out.keep (HB3W.out.trans (HB4.out.mono HB3W.out.size))) (by decide)).mono ?_
  rw [toks_x]
  rintro e w5 ⟨la, rfl, hrow, hb5⟩
  have HTS : Hid (Ts w5 la 3 3 (toks lX)) := Lib.hid hrow.ts
  have HB5 : Hid (Below w3.heap.size w3 w5) := Lib.hid (HB4.out.trans (hb5.mono HB4.out.size))
  clear hrow hb5 HB4 HBS
  go_wp2_with fail
  obtain ⟨w6, hw6⟩ : ∃ q, q = w5.alloc (.cells #[.int .i64 3, .string { data := #[95, 43, 95] }, .int .i64 0, .int .i64 3, .int .i64 2, .int .i64 1, .string { data := #[97] }, .int .i64 0, .int .i64 1, .int .i64 0, .int .i64 1, .string { data := #[98] }, .int .i64 2, .int .i64 3, .int .i64 0] 43) := ⟨_, rfl⟩
  have HN6 : Hid (NdS w6 (some ⟨w5.heap.size, 0, none⟩) 3 3 tX) := Lib.hid (by rw [hw6]; exact nd_lits w5 tX rfl (by decide) rfl rfl)
  have HB6 : Hid (Below w3.heap.size w3 w6) := Lib.hid (by rw [hw6]; exact HB5.out.alloc HB5.out.size _)
  have HTS6 : Hid (Ts w6 la 3 3 (toks lX)) := Lib.hid (by rw [hw6]; exact HTS.out.alloc _)
  obtain ⟨tb, htb⟩ : ∃ q, q = w5.heap.size := ⟨_, rfl⟩
  rw [← hw6, ← htb]
  rw [← htb] at HN6
  clear hw6 htb HTS HB5
  refine (tkids_any _ 3 3 tX 0 w6 HN6.out (by decide) (by decide)).mono ?_
  rw [kids_x]
  rintro e w7 ⟨ka, kc, rfl, hk7, hb7⟩
  obtain ⟨kb, ko, rfl, _, hc⟩ := hk7.at_ (by decide)
  clear hc
  have HB7 : Hid (Below w3.heap.size w3 w7) := Lib.hid (HB6.out.trans (hb7.mono HB6.out.size))
  have HK7 := Lib.hid hk7
  have HN7 : Hid (NdS w7 (some ⟨tb, 0, none⟩) 3 3 tX) := Lib.hid (HN6.out.below hb7)
  have HTS7 : Hid (Ts w7 la 3 3 (toks lX)) := Lib.hid (HTS6.out.below hb7)
  have HE7 := Lib.hid (H3.out.below HB7.out)
  have HO7 : Hid (OpS w7 ea 1 ec [oX]) := Lib.hid (HO3.out.below HB7.out)
  have HBW7 : Hid (Below w.heap.size w w7) := Lib.hid (HB3W.out.trans (HB7.out.mono HB3W.out.size))
  clear hk7 hb7 HN6 HTS6 H3 HO3 HB3W HB6 HB7
  go_wp2_with (refine load_env rfl (.tmp 1) rfl E rfl ea 1 ec zS rfl HE7.out ?_)
  refine (tright_any ea 1 ec [oX] zS la 3 3 (toks lX) _ 3 3 tX w7 (HT.out.keep HBW7.out) HO7.out rfl zS_i64x HTS7.out HN7.out (by decide) oX_len (by decide) (by decide) tX_nm).mono ?_
  rw [right_x]
  rintro e w8 ⟨rfl, hb8⟩
  have HB8 := Lib.hid hb8
  clear hb8
  go_wp2_with fail
  refine (new_any w8).mono ?_
  rintro e w9 ⟨rfl, hb9⟩
  have HB9 : Hid (Below w7.heap.size w7 w9) := Lib.hid (HB8.out.trans (hb9.mono HB8.out.size))
  clear hb9
  go_wp2_with fail
  refine (tright_any none 0 0 [] zS la 3 3 (toks lX) _ 3 3 tX w9 (HT.out.keep (HBW7.out.trans (HB9.out.mono HBW7.out.size))) (Vs.nil _ _ _ _ (Nat.zero_le _)) rfl zS_i64x (HTS7.out.below HB9.out) (HN7.out.below HB9.out) (by decide) (fun o h => by cases h) (by decide) (by decide) tX_nm).mono ?_
  rw [right_y]
  rintro e w10 ⟨rfl, hb10⟩
  have HB10 : Hid (Below w7.heap.size w7 w10) := Lib.hid (HB9.out.trans (hb10.mono HB9.out.size))
  clear hb10
  go_wp2_with fail
  refine (tend_any _ 3 3 tX 0 w10 (HN7.out.below HB10.out) (by decide) (by decide)).mono ?_
  rw [end_x]
  rintro e w11 ⟨rfl, rfl⟩
  have c1 := ints_at (K := [1, 2]) (HK7.out.below HB10.out) (k := 1) (by decide)
  rw [show bt [1, 2] 1 = 2 from rfl] at c1
  go_wp2_with fail
  refine (tbare_any _ 3 3 tX w10 (HN7.out.below HB10.out) (by decide)).mono ?_
  rw [bare_x]
  rintro e w12 ⟨ba, bc, rfl, _, hb12⟩
  have HB12 : Hid (Below w.heap.size w w12) := Lib.hid (HBW7.out.trans ((HB10.out.trans (hb12.mono HB10.out.size)).mono HBW7.out.size))
  clear hb12 c1
  go_wp2
  go_ret
  exact ⟨rfl, HB12.out⟩

end Go.Proofs.YtkaeanaeklilfaaGreatDoor
