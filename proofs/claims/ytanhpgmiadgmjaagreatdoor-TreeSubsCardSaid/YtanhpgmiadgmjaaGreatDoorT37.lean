import Derived.Test.YtanhpgmiadgmjaaGreatDoorT09
import Derived.Test.YtanhpgmiadgmjaaGreatDoorT18
import Derived.Test.YtanhpgmiadgmjaaGreatDoorT19
import Derived.Test.YtanhpgmiadgmjaaGreatDoorT23
import Derived.Test.YtanhpgmiadgmjaaGreatDoorT28
import Derived.Test.YtanhpgmiadgmjaaGreatDoorT34
import Derived.Test.YtanhpgmiadgmjaaGreatDoorT36
namespace Go.Proofs.YtanhpgmiadgmjaaGreatDoor
section
open Go.RowKit
theorem str_size1 : (Tryz.prog.info? 9).map (·.size) = some 1 := by kernel_rfl
theorem store_nc {ops : Array Oper} {rest : List Oper} {o : Oper} {A : Act} {w : World} {Q : Exit → Act → World → Prop} (hgd : o.guard = none) (x y : Operand) (ho : o.op = .store 3 x y)
  (b : Nat) (hx : A.eval x = .pointer (some ⟨b, 4, none⟩)) (v : Int) (hy : A.eval y = .int .i64 v) (k : Int) (n : Nm) (f t c : Int) (h : N5 w b ⟨k, n, f, t, c⟩)
  (kk : ∀ w', N5 w' b ⟨k, n, f, t, v⟩ → Only b w w' → wpList Tryz.prog ops Q rest (A.put o.dst undef) w') : wpList Tryz.prog ops Q (o :: rest) A w :=
 wpList_store_cell hgd 3 37 x y ho b 4 [.int .i64 k, .string (mk n), .int .i64 f, .int .i64 t, .int .i64 c] (.int .i64 v) hx hy nint_size1 rfl h (by simp) rfl fun w' h' ho' => kk w' h' ho'
theorem store_nn {ops : Array Oper} {rest : List Oper} {o : Oper} {A : Act} {w : World} {Q : Exit → Act → World → Prop} (hgd : o.guard = none) (x y : Operand) (ho : o.op = .store 9 x y)
  (b : Nat) (hx : A.eval x = .pointer (some ⟨b, 1, none⟩)) (v : Nm) (hy : A.eval y = .string (mk v)) (k : Int) (n : Nm) (f t c : Int) (h : N5 w b ⟨k, n, f, t, c⟩)
  (kk : ∀ w', N5 w' b ⟨k, v, f, t, c⟩ → Only b w w' → wpList Tryz.prog ops Q rest (A.put o.dst undef) w') : wpList Tryz.prog ops Q (o :: rest) A w :=
 wpList_store_cell hgd 9 37 x y ho b 1 [.int .i64 k, .string (mk n), .int .i64 f, .int .i64 t, .int .i64 c] (.string (mk v)) hx hy str_size1 rfl h (by simp) rfl fun w' h' ho' => kk w' h' ho'
theorem cut60 (p : Nm) (v : Nat) (hv : v = min p.length 60) : ∀ w, (Instr.slice 9 (.string (mk p)) none (some (.int .i64 (v : Int))) none).run Tryz.prog w = .ok (.string (mk (p.take 60))) w := fun w => by
 rw [run_hi w p v (by omega)]
 congr 3
 rw [hv]
 by_cases h : p.length ≤ 60
 ·rw [Nat.min_eq_left h, List.take_of_length_le (Nat.le_refl _), List.take_of_length_le h]
 ·rw [Nat.min_eq_right (by omega)]
def fewN (x : ND) : ND := ⟨x.k, x.n.take 60, x.f, x.t, Int.tmod x.c 7⟩
def fewT (T : List ND) : List ND := (T.take 20).map fewN
theorem fewT_len (T : List ND) : (fewT T).length ≤ 20 := by unfold fewT; rw [List.length_map, List.length_take]; omega
theorem fewT_nm {T : List ND} : ∀ x ∈ fewT T, x.n.length ≤ 1000000 := fun x hx => by
 obtain ⟨u, _, rfl⟩ := List.mem_map.1 hx
 show (u.n.take 60).length ≤ _
 rw [List.length_take]; omega
theorem few_snoc {T : List ND} {k : Nat} (h : k < T.length) : (T.take (k + 1)).map fewN = (T.take k).map fewN ++ [fewN (nA T k)] := by rw [nA_take h, List.map_append]; rfl
theorem few_stop {T : List ND} {k : Nat} (h : k ≤ 20) (h2 : ¬ (k < T.length ∧ k < 20)) : (T.take k).map fewN = fewT T := by
 unfold fewT
 congr 1
 by_cases h3 : k = 20
 ·rw [h3]
 ·rw [List.take_of_length_le (by omega), List.take_of_length_le (by omega)]
set_option maxRecDepth 20000 in
set_option maxHeartbeats 8000000 in
theorem few_any (a : Option Addr) (n c : Nat) (T : List ND) (w : World) (h : NdS w a n c T) :
  Calls Tryz.prog 17 #[.slice a n c] w fun e w' => ∃ a' c', e = .returned (.slice a' (fewT T).length c') ∧ OwnN w.heap.size w' a' (fewT T).length c' (fewT T) ∧ Below w.heap.size w w' := by
 have HL := hid (NdS.len h)
 have H := hid h
 clear h
 go_enter Tryz.func17, Tryz.ntmps17
 go_wp2
 go_loopw [3, 4] (fun u v wr => ∃ (k : Nat) (a' : Option Addr) (c' : Nat), u = .slice a' k c' ∧ v = .int .i64 k ∧ k ≤ n ∧ k ≤ 20 ∧ Hid (OwnN w.heap.size wr a' k c' ((T.take k).map fewN)) ∧ Hid (Below w.heap.size w wr)) (fun _ v _ => n - (intOf v).toNat)
 case atStart => exact ⟨0, _, 0, rfl, rfl, by omega, by omega, hid (OwnV.emptyAt (heap_alloc_new w _) (Nat.le_refl _)), hid (below_alloc w _)⟩
 case round =>
  obtain ⟨k, a', c', rfl, rfl, hk, hk20, HO, HB⟩ := hrel
  have hk0 : (0 : Int) ≤ (k : Int) := Int.natCast_nonneg _
  by_cases hlt : k < n ∧ k < 20
  ·have hk1 : (k : Int) < (n : Int) := by omega
   have hk2 : (k : Int) < 20 := by omega
   have hkn : k < n := hlt.1
   have hb := H.out.below HB.out
   obtain ⟨b, off, rfl, _, hc⟩ := hb.at_ (by omega)
   clear hc
   obtain ⟨c0, c1, c2, c3, c4⟩ := NdS.at5 hb hkn
   have HT := hid (few_snoc (T := T) (k := k) (by rw [HL.out]; exact hkn))
   obtain ⟨x, hx⟩ : ∃ x, x = nA T k := ⟨_, rfl⟩
   rw [← hx] at c0 c1 c2 c3 c4 HT
   clear hb hx
   obtain ⟨xk, xn, xf, xt, xc⟩ := x
   dsimp only [fewN] at c0 c1 c2 c3 c4 HT
   obtain ⟨G, hG⟩ : ∃ G, G = wr.heap.size := ⟨_, rfl⟩
   have HG := hid hG
   clear hG
   have hsz : (mk xn).size = xn.length := mk_size xn
   obtain ⟨m, hm⟩ : ∃ m, m = xn.length := ⟨_, rfl⟩
   rw [← hm] at hsz
   obtain ⟨v, hv⟩ : ∃ v, v = min m 60 := ⟨_, rfl⟩
   have hmin : min (m : Int) 60 = (v : Int) := by omega
   have hsl := cut60 xn v (by rw [hv, hm])
   have hv0 : (0 : Int) ≤ (v : Int) := Int.natCast_nonneg _
   obtain ⟨p', hp'⟩ : ∃ q, q = xn.take 60 := ⟨_, rfl⟩
   rw [← hp'] at hsl HT
   obtain ⟨r, hr⟩ : ∃ r, r = Int.tmod xc 7 := ⟨_, rfl⟩
   have hrb : -7 < r ∧ r < 7 := by
    rw [hr]
    have h1 := Int.tmod_lt_of_pos xc (show (0 : Int) < 7 by decide)
    have h2 := Int.lt_tmod_of_pos xc (show (0 : Int) < 7 by decide)
    omega
   have hr' : Int.tmod xc 7 = r := hr.symm
   have hwr : IntKind.i64.wrap r = r := IntWalk.i64_in _ (by omega)
   rw [← hr] at HT
   clear hm hv hp' hr hrb hlt
   go_wp2_with (first
    | (refine store_n5 rfl (.tmp 5) (.tmp 20) rfl _ rfl ⟨xk, xn, xf, xt, xc⟩ rfl ⟨0, [], 0, 0, 0⟩ (N5.zero wr) ?_; rw [← HG.out]; intro w5 h5 ho5; have HB45 : Hid (Below wr.heap.size wr w5) := hid ((below_alloc wr _).trans (ho5.below (by rw [HG.out]; exact Nat.le_refl _))); have H5 := hid h5; have d4 := h5.cells.2.2.2.2; dsimp only at d4; clear h5 ho5 c0 c1 c2 c3 c4)
    | (refine store_nc rfl (.tmp 24) (.tmp 23) rfl G rfl r rfl xk xn xf xt xc H5.out ?_; intro w6 h6 ho6; have HB56 : Hid (Below wr.heap.size wr w6) := hid (HB45.out.trans (ho6.below (by rw [HG.out]; exact Nat.le_refl _))); have H6 := hid h6; have d1 := h6.cells.2.1; dsimp only at d1; clear h6 ho6 d4)
    | (refine store_nn rfl (.tmp 32) (.tmp 31) rfl G rfl p' rfl xk xn xf xt r H6.out ?_; intro w7 h7 ho7; have HB67 : Hid (Below wr.heap.size wr w7) := hid (HB56.out.trans (ho7.below (by rw [HG.out]; exact Nat.le_refl _))); have H7 := hid h7; clear h7 ho7 d1)
    | (refine load_n5 rfl (.tmp 5) rfl G rfl ⟨xk, p', xf, xt, r⟩ H7.out ?_; dsimp only [ndA])
    | (at_builtin; refine wpList_appv rfl (.tmp 33) (.tmp 35) 24 rfl 37 w.heap.size 5 48 _ Tryz.underlying24 nd_info rfl (by omega) _ _ _ (cN ((T.take k).map fewN)) rfl ((HO.out.keep HB67.out (Nat.le_refl _)).alloc _) _ _ _ (cN [⟨xk, p', xf, xt, r⟩]) rfl (Vs.lit (k := 5) (xs := cN [⟨xk, p', xf, xt, r⟩]) _ _ rfl rfl rfl) (cN_one _) (by unfold maxLen; omega) (by omega) (by have := HB.out.size; have := HB67.out.size; simp; omega) ?_; intro a6 c6 w8 hO6 hG6 hb6 _; have HO6 := hid hO6; have HB6 : Hid (Below w.heap.size w w8) := hid (((HB.out.trans (HB67.out.mono HB.out.size)).alloc (by have := HB.out.size; have := HB67.out.size; omega) _).trans hb6); clear hO6 hG6 hb6))
   go_roundw
   case rel => exact ⟨k + 1, a6, c6, rfl, by go_num, by omega, by omega, hid (by rw [HT.out]; unfold OwnN; rw [cN_app]; exact HO6.out), HB6⟩
   case measure => simp [intOf]; omega
  ·have HE : Hid ((T.take k).map fewN = fewT T ∧ k = (fewT T).length) := hid (by
    have h1 := few_stop hk20 (by rw [HL.out]; exact hlt)
    refine ⟨h1, ?_⟩
    rw [← h1, List.length_map, List.length_take, HL.out]
    omega)
   by_cases hkn : k < n
   ·have hk20' : k = 20 := by omega
    subst hk20'
    go_wp2
    go_ret
    have ho := HO.out
    rw [HE.out.1] at ho
    rw [← HE.out.2]
    exact ⟨a', c', rfl, ho, HB.out⟩
   ·go_wp2
    go_ret
    have ho := HO.out
    rw [HE.out.1] at ho
    rw [← HE.out.2]
    exact ⟨a', c', rfl, ho, HB.out⟩
def cutT (y : TK) : TK := { y with s := mk ((txN y).take 60) }
def shortT (l : List TK) : List TK := (l.take 20).map cutT
theorem shortT_len (l : List TK) : (shortT l).length ≤ 20 := by unfold shortT; rw [List.length_map, List.length_take]; omega
theorem short_snoc {l : List TK} {k : Nat} (h : k < l.length) : (l.take (k + 1)).map cutT = (l.take k).map cutT ++ [cutT (tat l k)] := by rw [tat_take h, List.map_append]; rfl
theorem short_stop {l : List TK} {k : Nat} (h : k ≤ 20) (h2 : ¬ (k < l.length ∧ k < 20)) : (l.take k).map cutT = shortT l := by
 unfold shortT
 congr 1
 by_cases h3 : k = 20
 ·rw [h3]
 ·rw [List.take_of_length_le (by omega), List.take_of_length_le (by omega)]
theorem store_t5 {ops : Array Oper} {rest : List Oper} {o : Oper} {A : Act} {w : World} {Q : Exit → Act → World → Prop} (hgd : o.guard = none) (x y : Operand) (ho : o.op = .store 9 x y)
  (b : Nat) (hx : A.eval x = .pointer (some ⟨b, 3, none⟩)) (s' : Nm) (hy : A.eval y = .string (mk s')) (k f t : Int) (s : Nm) (e : Int) (h : T5 w b k f t s e)
  (kk : ∀ w', T5 w' b k f t s' e → Only b w w' → wpList Tryz.prog ops Q rest (A.put o.dst undef) w') : wpList Tryz.prog ops Q (o :: rest) A w :=
 wpList_store_cell hgd 9 41 x y ho b 3 [.int .i64 k, .int .i64 f, .int .i64 t, .string (mk s), .int .i64 e] (.string (mk s')) hx hy str_size1 rfl h (by simp) rfl fun w' h' ho' => kk w' h' ho'
theorem t5_info : (Tryz.prog.info? 41).map (·.size) = some 5 := by kernel_rfl
theorem load_t5 {ops : Array Oper} {rest : List Oper} {o : Oper} {a : Act} {w : World} {Q : Exit → Act → World → Prop} (hw : Region.wanted o (yielded ops a.tmps) = true) (x : Operand) (ho : o.op = .load 41 x)
  (b : Nat) (hx : a.eval x = .pointer (some ⟨b, 0, none⟩)) (k f t : Int) (s : Nm) (e : Int) (h : T5 w b k f t s e)
  (kk : wpList Tryz.prog ops Q rest (a.put o.dst (.agg #[.int .i64 k, .int .i64 f, .int .i64 t, .string (mk s), .int .i64 e])) w) : wpList Tryz.prog ops Q (o :: rest) a w :=
 wpList_step fun K hK => by
  rw [if_pos hw]
  exact wp_load_row 41 x ho b hx _ _ _ _ h Tryz.underlying41 rfl t5_info (hK _ _ kk)
theorem store_t5w {ops : Array Oper} {rest : List Oper} {o : Oper} {a : Act} {w : World} {Q : Exit → Act → World → Prop} (hgd : o.guard = none) (x y : Operand) (ho : o.op = .store 41 x y)
  (b : Nat) (hx : a.eval x = .pointer (some ⟨b, 0, none⟩)) (k f t : Int) (s : Nm) (e : Int) (hy : a.eval y = .agg #[.int .i64 k, .int .i64 f, .int .i64 t, .string (mk s), .int .i64 e]) (k0 f0 t0 : Int) (s0 : Nm) (e0 : Int) (h : T5 w b k0 f0 t0 s0 e0)
  (kk : ∀ w', T5 w' b k f t s e → Only b w w' → wpList Tryz.prog ops Q rest (a.put o.dst undef) w') : wpList Tryz.prog ops Q (o :: rest) a w :=
 wpList_store_row hgd 41 x y ho b _ hx hy _ _ h t5_info rfl (by kernel_rfl) (kk _ (setRow_heap w b _ _ _ _ h) (Only.ofRow w b _))
theorem T5.zero (w : World) : T5 (w.alloc (.cells #[.int .i64 0, .int .i64 0, .int .i64 0, .string ⟨#[]⟩, .int .i64 0] 41)) w.heap.size 0 0 0 [] 0 := heap_alloc_new w _
set_option maxRecDepth 20000 in
set_option maxHeartbeats 8000000 in
theorem short_any (a : Option Addr) (n c : Nat) (l : List TK) (w : World) (h : Ts w a n c l) :
  Calls Tryz.prog 18 #[.slice a n c] w fun e w' => ∃ a' c', e = .returned (.slice a' (shortT l).length c') ∧ OwnT w.heap.size 41 w' a' (shortT l).length c' (shortT l) ∧ Below w.heap.size w w' := by
 have HL := hid h.hl
 have H := hid h
 clear h
 go_enter Tryz.func18, Tryz.ntmps18
 go_wp2
 go_loopw [3, 4] (fun u v wr => ∃ (k : Nat) (a' : Option Addr) (c' : Nat), u = .slice a' k c' ∧ v = .int .i64 k ∧ k ≤ n ∧ k ≤ 20 ∧ Hid (OwnT w.heap.size 41 wr a' k c' ((l.take k).map cutT)) ∧ Hid (Below w.heap.size w wr)) (fun _ v _ => n - (intOf v).toNat)
 case atStart => exact ⟨0, _, 0, rfl, rfl, by omega, by omega, hid (OwnT.emptyAt (heap_alloc_new w _) (Nat.le_refl _)), hid (below_alloc w _)⟩
 case round =>
  obtain ⟨k, a', c', rfl, rfl, hk, hk20, HO, HB⟩ := hrel
  have hk0 : (0 : Int) ≤ (k : Int) := Int.natCast_nonneg _
  by_cases hlt : k < n ∧ k < 20
  ·have hk1 : (k : Int) < (n : Int) := by omega
   have hk2 : (k : Int) < 20 := by omega
   have hkn : k < n := hlt.1
   obtain ⟨b, off, rfl, c0, c1, c2, c3, c4⟩ := tok_at (H.out.below HB.out) hkn
   have HT := hid (short_snoc (l := l) (k := k) (by rw [HL.out]; exact hkn))
   obtain ⟨x, hx⟩ : ∃ x, x = tat l k := ⟨_, rfl⟩
   rw [← hx] at c0 c1 c2 c3 c4 HT
   clear hx
   obtain ⟨xn, hxn⟩ : ∃ q, q = txN x := ⟨_, rfl⟩
   rw [← hxn] at c3
   have HCT : Hid (cutT x = ⟨x.k, x.f, x.t, mk (xn.take 60), x.e⟩) := hid (by rw [hxn]; rfl)
   clear hxn
   obtain ⟨G, hG⟩ : ∃ G, G = wr.heap.size := ⟨_, rfl⟩
   have HG := hid hG
   clear hG
   have hsz : (mk xn).size = xn.length := mk_size xn
   obtain ⟨m, hm⟩ : ∃ m, m = xn.length := ⟨_, rfl⟩
   rw [← hm] at hsz
   obtain ⟨v, hv⟩ : ∃ v, v = min m 60 := ⟨_, rfl⟩
   have hmin : min (m : Int) 60 = (v : Int) := by omega
   have hsl := cut60 xn v (by rw [hv, hm])
   have hv0 : (0 : Int) ≤ (v : Int) := Int.natCast_nonneg _
   obtain ⟨p', hp'⟩ : ∃ q, q = xn.take 60 := ⟨_, rfl⟩
   rw [← hp'] at hsl HCT
   clear hm hv hp' hlt
   go_wp2_with (first
    | (refine store_t5w rfl (.tmp 5) (.tmp 20) rfl _ rfl x.k x.f x.t xn x.e rfl 0 0 0 [] 0 (T5.zero wr) ?_; rw [← HG.out]; intro w5 h5 ho5; have HB45 : Hid (Below wr.heap.size wr w5) := hid ((below_alloc wr _).trans (ho5.below (by rw [HG.out]; exact Nat.le_refl _))); have H5 := hid h5; have d3 := h5.cells.2.2.2.1; clear h5 ho5 c0 c1 c2 c3 c4)
    | (refine store_t5 rfl (.tmp 28) (.tmp 27) rfl G rfl p' rfl x.k x.f x.t xn x.e H5.out ?_; intro w7 h7 ho7; have HB67 : Hid (Below wr.heap.size wr w7) := hid (HB45.out.trans (ho7.below (by rw [HG.out]; exact Nat.le_refl _))); have H7 := hid h7; clear h7 ho7 d3)
    | (refine load_t5 rfl (.tmp 5) rfl G rfl x.k x.f x.t p' x.e H7.out ?_)
    | (at_builtin; refine wpList_appT rfl (.tmp 29) (.tmp 31) rfl w.heap.size _ _ _ ((l.take k).map cutT) rfl ((HO.out.keep HB67.out (Nat.le_refl _)).alloc _) _ _ _ [⟨x.k, x.f, x.t, mk p', x.e⟩] rfl (Ts.one w7 41 ⟨x.k, x.f, x.t, mk p', x.e⟩ rfl rfl) (by omega) (by have := HB.out.size; have := HB67.out.size; simp; omega) ?_; intro a6 c6 w8 hO6 hG6 hb6; have HO6 := hid hO6; have HB6 : Hid (Below w.heap.size w w8) := hid (((HB.out.trans (HB67.out.mono HB.out.size)).alloc (by have := HB.out.size; have := HB67.out.size; omega) _).trans hb6); clear hO6 hG6 hb6))
   go_roundw
   case rel => exact ⟨k + 1, a6, c6, rfl, by go_num, by omega, by omega, hid (by rw [HT.out, HCT.out]; exact HO6.out), HB6⟩
   case measure => simp [intOf]; omega
  ·have HE : Hid ((l.take k).map cutT = shortT l ∧ k = (shortT l).length) := hid (by
    have h1 := short_stop hk20 (by rw [HL.out]; exact hlt)
    refine ⟨h1, ?_⟩
    rw [← h1, List.length_map, List.length_take, HL.out]
    omega)
   by_cases hkn : k < n
   ·have hk20' : k = 20 := by omega
    subst hk20'
    go_wp2
    go_ret
    have ho := HO.out
    rw [HE.out.1] at ho
    rw [← HE.out.2]
    exact ⟨a', c', rfl, ho, HB.out⟩
   ·go_wp2
    go_ret
    have ho := HO.out
    rw [HE.out.1] at ho
    rw [← HE.out.2]
    exact ⟨a', c', rfl, ho, HB.out⟩
end
section
open Go.RowKit
def oX : OP := ([95, 43, 95], 3, 0)
def lX : List Int := [97, 32, 43, 32, 98]
def tX : List ND := [⟨3, [95, 43, 95], 0, 3, 2⟩, ⟨1, [97], 0, 1, 0⟩, ⟨1, [98], 2, 3, 0⟩]
theorem addE_x : addE [] oX = 0 := by decide +kernel
theorem addR_x : addR [] oX = [oX] := by unfold addR; rw [if_pos addE_x]; rfl
theorem addZ_x : addZ [] zS oX = zS := by unfold addZ; rw [if_pos addE_x]
theorem toks_x : (toks lX).length = 3 := by decide +kernel
theorem right_x : rightB [oX] zS (toks lX) tX = true := by decide +kernel
theorem right_y : rightB [] zS (toks lX) tX = false := by decide +kernel
theorem end_x : endV tX 0 = 3 := by decide +kernel
theorem kids_x : kidV tX 0 = [1, 2] := by decide +kernel
theorem bare_x : (bareL tX).length = 3 := by decide +kernel
theorem zS_i64x : ∀ i, i < 10 → I64 (bt zS i) := fun i hi => by have := zS_rng i hi; unfold I64; exact this
theorem oX_len : ∀ o ∈ [oX], o.1.length ≤ 1000000 := fun o ho => by rw [List.mem_singleton.1 ho]; decide
theorem tX_nm : ∀ x ∈ tX, x.n.length ≤ 1000000 := by decide
theorem add_x (w : World) (ht : Tab w) : Calls Tryz.prog 35 #[.agg (ev none 0 0 zS), .agg #[.string { data := #[95, 43, 95] }, .int .i64 3, .int .i64 0]] w fun e w' => ∃ a' c', e = .returned (.tuple #[.agg (ev a' 1 c' zS), .int .i64 0]) ∧ OpS w' a' 1 c' [oX] ∧ Below w.heap.size w w' := by
 refine Calls.mono (add_any none 0 0 [] zS oX w ht (Vs.nil _ _ _ _ (Nat.zero_le _)) rfl (by decide) (by decide)) ?_
 rintro e w' ⟨a', n', c', rfl, ho, hb⟩
 rw [addR_x] at ho
 obtain rfl : n' = 1 := (OpS.len ho.vs).symm
 exact ⟨a', c', by rw [addZ_x, addE_x], ho.vs, hb⟩
theorem nd_lits (w : World) (T : List ND) {g n : Nat} (hn : T.length = n) (hm : n ≤ 10) {cs : Array Value} (hc : cs = (cN T).toArray) (hg : g = w.heap.size) : NdS (w.alloc (.cells cs 37)) (some ⟨g, 0, none⟩) n n T := by
 subst hg
 subst hc
 refine ⟨by rw [cN_len, hn], Nat.le_refl _, by unfold maxLen; omega, fun _ => ⟨w.heap.size, 0, rfl, by simp, fun j hj => ?_⟩⟩
 rw [cell_of_row _ w.heap.size (0 + j) _ _ _ (heap_alloc_new w _), Nat.zero_add, List.getElem?_toArray]
set_option maxRecDepth 100000 in
set_option maxHeartbeats 16000000 in
theorem shown_any (w : World) (ht : Tab w) : Calls Tryz.prog 15 #[] w fun e w' => e = .returned (.bool true) ∧ Below w.heap.size w w' := by
 have HT := hid ht
 clear ht
 go_enter Tryz.func15, Tryz.ntmps15
 go_wp2_with fail
 refine (new_any w).mono ?_
 rintro e w1 ⟨rfl, hb1⟩
 have HB1 := hid hb1
 clear hb1
 go_wp2_with fail
 refine (add_x w1 (HT.out.keep HB1.out)).mono ?_
 rintro e w2 ⟨ea, ec, rfl, ho2, hb2⟩
 have HO2 := hid ho2
 have HB2 : Hid (Below w.heap.size w w2) := hid (HB1.out.trans (hb2.mono HB1.out.size))
 obtain ⟨E, hE⟩ : ∃ q, q = w2.heap.size := ⟨_, rfl⟩
 have HEE := hid hE
 clear ho2 hb2 hE HB1
 have hnew : EB (w2.alloc (.cells #[.slice none 0 0, .int .i64 0, .int .i64 0, .int .i64 0, .int .i64 0, .int .i64 0, .int .i64 0, .int .i64 0, .int .i64 0, .int .i64 0, .int .i64 0] 30)) E none 0 0 z0 := by rw [HEE.out]; exact EB.new w2 none 0 0 z0
 have HNEW := hid hnew
 clear hnew
 have hcv : ∀ w3 : World, (convert 62 62 (.slice (some ⟨w3.heap.size, 0, none⟩) 5 5)).run Tryz.prog (w3.alloc (.cells #[.int .u8 97, .int .u8 32, .int .u8 43, .int .u8 32, .int .u8 98] 5)) = .ok (.slice (some ⟨w3.heap.size, 0, none⟩) 5 5) (w3.alloc (.cells #[.int .u8 97, .int .u8 32, .int .u8 43, .int .u8 32, .int .u8 98] 5 (5, 6))) := fun w3 => Joins.run_convert_bytes_const_at (P := Tryz.prog) w3 62 5 #[.int .u8 97, .int .u8 32, .int .u8 43, .int .u8 32, .int .u8 98] 5 5 w3.heap.size rfl Tryz.underlying62 Tryz.underlying5
 go_wp2_with (refine store_env rfl (.tmp 1) (.tmp 10) rfl E (by rw [HEE.out]; rfl) ea 1 ec zS rfl rfl none 0 0 z0 z0_len HNEW.out ?_; rw [← HEE.out]; intro w3 h3 ho3; have H3 := hid h3; have HB3 : Hid (Below w2.heap.size w2 w3) := hid ((below_alloc w2 _).trans (ho3.below (by rw [HEE.out]; exact Nat.le_refl _))); clear h3 ho3)
 have HB3W : Hid (Below w.heap.size w w3) := hid (HB2.out.trans (HB3.out.mono HB2.out.size))
 have HO3 : Hid (OpS w3 ea 1 ec [oX]) := hid (HO2.out.below HB3.out)
 clear HNEW HEE HB2 HO2 HB3
 clear hcv
 have hbs := Bs.lit (l := lX) (cs := #[.int .u8 97, .int .u8 32, .int .u8 43, .int .u8 32, .int .u8 98]) (mk := (5, 6)) w3 5 rfl (by decide) (g := w3.heap.size) (n := 5) rfl rfl (by decide)
 have HBS := hid hbs
 have HB4 : Hid (Below w3.heap.size w3 (w3.alloc (.cells #[.int .u8 97, .int .u8 32, .int .u8 43, .int .u8 32, .int .u8 98] 5 (5, 6)))) := hid (below_alloc w3 _)
 clear hbs
 refine (all_any _ 5 5 lX _ HBS.out (HT.out.keep (HB3W.out.trans (HB4.out.mono HB3W.out.size))) (by decide)).mono ?_
 rw [toks_x]
 rintro e w5 ⟨la, rfl, hrow, hb5⟩
 have HTS : Hid (Ts w5 la 3 3 (toks lX)) := hid hrow.ts
 have HB5 : Hid (Below w3.heap.size w3 w5) := hid (HB4.out.trans (hb5.mono HB4.out.size))
 clear hrow hb5 HB4 HBS
 go_wp2_with fail
 obtain ⟨w6, hw6⟩ : ∃ q, q = w5.alloc (.cells #[.int .i64 3, .string { data := #[95, 43, 95] }, .int .i64 0, .int .i64 3, .int .i64 2, .int .i64 1, .string { data := #[97] }, .int .i64 0, .int .i64 1, .int .i64 0, .int .i64 1, .string { data := #[98] }, .int .i64 2, .int .i64 3, .int .i64 0] 37) := ⟨_, rfl⟩
 have HN6 : Hid (NdS w6 (some ⟨w5.heap.size, 0, none⟩) 3 3 tX) := hid (by rw [hw6]; exact nd_lits w5 tX rfl (by decide) rfl rfl)
 have HB6 : Hid (Below w3.heap.size w3 w6) := hid (by rw [hw6]; exact HB5.out.alloc HB5.out.size _)
 have HTS6 : Hid (Ts w6 la 3 3 (toks lX)) := hid (by rw [hw6]; exact HTS.out.alloc _)
 obtain ⟨tb, htb⟩ : ∃ q, q = w5.heap.size := ⟨_, rfl⟩
 rw [← hw6, ← htb]
 rw [← htb] at HN6
 clear hw6 htb HTS HB5
 refine (tkids_any _ 3 3 tX 0 w6 HN6.out (by decide) (by decide)).mono ?_
 rw [kids_x]
 rintro e w7 ⟨ka, kc, rfl, hk7, hb7⟩
 obtain ⟨kb, ko, rfl, _, hc⟩ := hk7.at_ (by decide)
 clear hc
 have HB7 : Hid (Below w3.heap.size w3 w7) := hid (HB6.out.trans (hb7.mono HB6.out.size))
 have HK7 := hid hk7
 have HN7 : Hid (NdS w7 (some ⟨tb, 0, none⟩) 3 3 tX) := hid (HN6.out.below hb7)
 have HTS7 : Hid (Ts w7 la 3 3 (toks lX)) := hid (HTS6.out.below hb7)
 have HE7 := hid (H3.out.below HB7.out)
 have HO7 : Hid (OpS w7 ea 1 ec [oX]) := hid (HO3.out.below HB7.out)
 have HBW7 : Hid (Below w.heap.size w w7) := hid (HB3W.out.trans (HB7.out.mono HB3W.out.size))
 clear hk7 hb7 HN6 HTS6 H3 HO3 HB3W HB6 HB7
 go_wp2_with (refine load_env rfl (.tmp 1) rfl E rfl ea 1 ec zS rfl HE7.out ?_)
 refine (tright_any ea 1 ec [oX] zS la 3 3 (toks lX) _ 3 3 tX w7 (HT.out.keep HBW7.out) HO7.out rfl zS_i64x HTS7.out HN7.out (by decide) oX_len (by decide) (by decide) tX_nm).mono ?_
 rw [right_x]
 rintro e w8 ⟨rfl, hb8⟩
 have HB8 := hid hb8
 clear hb8
 go_wp2_with fail
 refine (new_any w8).mono ?_
 rintro e w9 ⟨rfl, hb9⟩
 have HB9 : Hid (Below w7.heap.size w7 w9) := hid (HB8.out.trans (hb9.mono HB8.out.size))
 clear hb9
 go_wp2_with fail
 refine (tright_any none 0 0 [] zS la 3 3 (toks lX) _ 3 3 tX w9 (HT.out.keep (HBW7.out.trans (HB9.out.mono HBW7.out.size))) (Vs.nil _ _ _ _ (Nat.zero_le _)) rfl zS_i64x (HTS7.out.below HB9.out) (HN7.out.below HB9.out) (by decide) (fun o h => by cases h) (by decide) (by decide) tX_nm).mono ?_
 rw [right_y]
 rintro e w10 ⟨rfl, hb10⟩
 have HB10 : Hid (Below w7.heap.size w7 w10) := hid (HB9.out.trans (hb10.mono HB9.out.size))
 clear hb10
 go_wp2_with fail
 refine (tend_any _ 3 3 tX 0 w10 (HN7.out.below HB10.out) (by decide) (by decide)).mono ?_
 rw [end_x]
 rintro e w11 ⟨rfl, rfl⟩
 have c1 := ints_at (K := [1, 2]) (HK7.out.below HB10.out) (k := 1) (by decide)
 rw [show bt [1, 2] 1 = 2 from rfl] at c1
 go_wp2_with fail
 refine (tbare_any _ 3 3 tX w10 (HN7.out.below HB10.out) (by decide)).mono ?_
 rw [bare_x]
 rintro e w12 ⟨ba, bc, rfl, _, hb12⟩
 have HB12 : Hid (Below w.heap.size w w12) := hid (HBW7.out.trans ((HB10.out.trans (hb12.mono HB10.out.size)).mono HBW7.out.size))
 clear hb12 c1
 go_wp2
 go_ret
 exact ⟨rfl, HB12.out⟩
end
end Go.Proofs.YtanhpgmiadgmjaaGreatDoor
