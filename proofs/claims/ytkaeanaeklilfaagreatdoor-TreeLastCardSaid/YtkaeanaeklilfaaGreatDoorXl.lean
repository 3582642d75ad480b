/- The law's own few, short, fewOf, same. -/
import Derived.Test.YtkaeanaeklilfaaGreatDoorXe
import Derived.Test.YtkaeanaeklilfaaGreatDoorXg
import Derived.Test.YtkaeanaeklilfaaGreatDoorML
import Derived.Test.YtkaeanaeklilfaaGreatDoorMT
namespace Go.Proofs.YtkaeanaeklilfaaGreatDoor
open Go.RowKit

theorem str_size1 : (Tryz.prog.info? 9).map (·.size) = some 1 := by kernel_rfl
theorem opers_size1 : (Tryz.prog.info? 22).map (·.size) = some 1 := by kernel_rfl
theorem store_nc {ops : Array Oper} {rest : List Oper} {o : Oper} {A : Act} {w : World} {Q : Exit → Act → World → Prop} (hgd : o.guard = none) (x y : Operand) (ho : o.op = .store 3 x y)
    (b : Nat) (hx : A.eval x = .pointer (some ⟨b, 4, none⟩)) (v : Int) (hy : A.eval y = .int .i64 v) (k : Int) (n : Nm) (f t c : Int) (h : N5 w b ⟨k, n, f, t, c⟩)
    (kk : ∀ w', N5 w' b ⟨k, n, f, t, v⟩ → Only b w w' → wpList Tryz.prog ops Q rest (A.put o.dst undef) w') : wpList Tryz.prog ops Q (o :: rest) A w :=
  wpList_store_cell hgd 3 43 x y ho b 4 [.int .i64 k, .string (mk n), .int .i64 f, .int .i64 t, .int .i64 c] (.int .i64 v) hx hy nint_size1 rfl h (by simp) rfl fun w' h' ho' => kk w' h' ho'
theorem store_nn {ops : Array Oper} {rest : List Oper} {o : Oper} {A : Act} {w : World} {Q : Exit → Act → World → Prop} (hgd : o.guard = none) (x y : Operand) (ho : o.op = .store 9 x y)
    (b : Nat) (hx : A.eval x = .pointer (some ⟨b, 1, none⟩)) (v : Nm) (hy : A.eval y = .string (mk v)) (k : Int) (n : Nm) (f t c : Int) (h : N5 w b ⟨k, n, f, t, c⟩)
    (kk : ∀ w', N5 w' b ⟨k, v, f, t, c⟩ → Only b w w' → wpList Tryz.prog ops Q rest (A.put o.dst undef) w') : wpList Tryz.prog ops Q (o :: rest) A w :=
  wpList_store_cell hgd 9 43 x y ho b 1 [.int .i64 k, .string (mk n), .int .i64 f, .int .i64 t, .int .i64 c] (.string (mk v)) hx hy str_size1 rfl h (by simp) rfl fun w' h' ho' => kk w' h' ho'
theorem cut60 (p : Nm) (v : Nat) (hv : v = min p.length 60) : ∀ w, (Instr.slice 9 (.string (mk p)) none (some (.int .i64 (v : Int))) none).run Tryz.prog w = .ok (.string (mk (p.take 60))) w := fun w => by
  rw [run_hi w p v (by omega)]
  congr 3
  rw [hv]
  by_cases h : p.length ≤ 60
  · rw [Nat.min_eq_left h, List.take_of_length_le (Nat.le_refl _), List.take_of_length_le h]
  · rw [Nat.min_eq_right (by omega)]

/-! ### few -/

def fewN (x : ND) : ND := ⟨x.k, x.n.take 60, x.f, x.t, Int.tmod x.c 7⟩
def fewT (T : List ND) : List ND := (T.take 20).map fewN
theorem fewT_len (T : List ND) : (fewT T).length ≤ 20 := by unfold fewT; rw [List.length_map, List.length_take]; omega
theorem fewT_nm {T : List ND} : ∀ x ∈ fewT T, x.n.length ≤ 1000000 := fun x hx => by
  obtain ⟨u, _, rfl⟩ := List.mem_map.1 hx
  show (u.n.take 60).length ≤ _
  rw [List.length_take]; omega
theorem few_snoc {T : List ND} {k : Nat} (h : k < T.length) : (T.take (k + 1)).map fewN = (T.take k).map fewN ++ [fewN (nA T k)] := by rw [nA_take h, List.map_append]; rfl
theorem few_stop {T : List ND} {k : Nat} (h : k ≤ 20) (h2 : ¬ (k < T.length ∧ k < 20)) : (T.take k).map fewN = fewT T := by
  unfold fewT
  congr 1
  by_cases h3 : k = 20
  · rw [h3]
  · rw [List.take_of_length_le (by omega), List.take_of_length_le (by omega)]

set_option maxRecDepth 20000 in
set_option maxHeartbeats 8000000 in
theorem few_any (a : Option Addr) (n c : Nat) (T : List ND) (w : World) (h : NdS w a n c T) :
    Calls Tryz.prog 10 #[.slice a n c] w fun e w' => ∃ a' c', e = .returned (.slice a' (fewT T).length c') ∧ OwnN w.heap.size w' a' (fewT T).length c' (fewT T) ∧ Below w.heap.size w w' := by
  have HL := Lib.hid (NdS.len h)
  have H := Lib.hid h
  clear h
  go_enter Tryz.func10, Tryz.ntmps10
  go_wp2
  go_loopw [3, 4] (fun u v wr => ∃ (k : Nat) (a' : Option Addr) (c' : Nat), u = .slice a' k c' ∧ v = .int .i64 k ∧ k ≤ n ∧ k ≤ 20 ∧ Hid (OwnN w.heap.size wr a' k c' ((T.take k).map fewN)) ∧ Hid (Below w.heap.size w wr)) (fun _ v _ => n - (intOf v).toNat)
  case atStart => exact ⟨0, _, 0, rfl, rfl, by omega, by omega, Lib.hid (OwnV.emptyAt (heap_alloc_new w _) (Nat.le_refl _)), Lib.hid (below_alloc w _)⟩
  case round =>
    obtain ⟨k, a', c', rfl, rfl, hk, hk20, HO, HB⟩ := hrel
    have hk0 : (0 : Int) ≤ (k : Int) := Int.natCast_nonneg _
    by_cases hlt : k < n ∧ k < 20
    · have hk1 : (k : Int) < (n : Int) := by omega
      have hk2 : (k : Int) < 20 := by omega
      have hkn : k < n := hlt.1
      have hb := H.out.below HB.out
      obtain ⟨b, off, rfl, _, hc⟩ := hb.at_ (by omega)
      clear hc
      obtain ⟨c0, c1, c2, c3, c4⟩ := NdS.at5 hb hkn
      have HT := Lib.hid (few_snoc (T := T) (k := k) (by rw [HL.out]; exact hkn))
      obtain ⟨x, hx⟩ : ∃ x, x = nA T k := ⟨_, rfl⟩
      rw [← hx] at c0 c1 c2 c3 c4 HT
      clear hb hx
      obtain ⟨xk, xn, xf, xt, xc⟩ := x
      dsimp only [fewN] at c0 c1 c2 c3 c4 HT
      obtain ⟨G, hG⟩ : ∃ G, G = wr.heap.size := ⟨_, rfl⟩
      have HG := Lib.hid hG
      clear hG
      have hsz : (mk xn).size = xn.length := mk_size xn
      obtain ⟨m, hm⟩ : ∃ m, m = xn.length := ⟨_, rfl⟩
      rw [← hm] at hsz
      obtain ⟨v, hv⟩ : ∃ v, v = min m 60 := ⟨_, rfl⟩
      have hmin : min (m : Int) 60 = (v : Int) := by omega
      have hsl := cut60 xn v (by rw [hv, hm])
      have hv0 : (0 : Int) ≤ (v : Int) := Int.natCast_nonneg _
      obtain ⟨p', hp'⟩ : ∃ q, q = xn.take 60 := ⟨_, rfl⟩
      rw [← hp'] at hsl HT
      obtain ⟨r, hr⟩ : ∃ r, r = Int.tmod xc 7 := ⟨_, rfl⟩
      have hrb : -7 < r ∧ r < 7 := by
        rw [hr]
        have h1 := Int.tmod_lt_of_pos xc (show (0 : Int) < 7 by decide)
        have h2 := Int.lt_tmod_of_pos xc (show (0 : Int) < 7 by decide)
        omega
      have hr' : Int.tmod xc 7 = r := hr.symm
      have hwr : IntKind.i64.wrap r = r := IntWalk.i64_in _ (by omega)
      rw [← hr] at HT
      clear hm hv hp' hr hrb hlt
      go_wp2_with (first
        | (refine store_n5 rfl (.tmp 5) (.tmp 20) rfl _ rfl ⟨xk, xn, xf, xt, xc⟩ rfl ⟨0, [], 0, 0, 0⟩ (N5.zero wr) ?_; rw [← HG.out]; intro w5 h5 ho5; have HB45 : Hid (Below wr.heap.size wr w5) := Lib.hid ((below_alloc wr _).trans (ho5.below (by rw [HG.out]; exact Nat.le_refl _))); have H5 := Lib.hid h5; have d4 := h5.cells.2.2.2.2; dsimp only at d4; clear h5 ho5 c0 c1 c2 c3 c4)
        | (refine store_nc rfl (.tmp 24) (.tmp 23) rfl G rfl r rfl xk xn xf xt xc H5.out ?_; intro w6 h6 ho6; have HB56 : Hid (Below wr.heap.size wr w6) := Lib.hid (HB45.out.trans (ho6.below (by rw [HG.out]; exact Nat.le_refl _))); have H6 := Lib.hid h6; have d1 := h6.cells.2.1; dsimp only at d1; clear h6 ho6 d4)
        | (refine store_nn rfl (.tmp 32) (.tmp 31) rfl G rfl p' rfl xk xn xf xt r H6.out ?_; intro w7 h7 ho7; have HB67 : Hid (Below wr.heap.size wr w7) := Lib.hid (HB56.out.trans (ho7.below (by rw [HG.out]; exact Nat.le_refl _))); have H7 := Lib.hid h7; clear h7 ho7 d1)
        | (refine load_n5 rfl (.tmp 5) rfl G rfl ⟨xk, p', xf, xt, r⟩ H7.out ?_; dsimp only [ndA])
        | (at_builtin; refine wpList_appv rfl (.tmp 33) (.tmp 35) 28 rfl 43 w.heap.size 5 48 _ Tryz.underlying28 nd_info rfl (by omega) _ _ _ (cN ((T.take k).map fewN)) rfl ((HO.out.keep HB67.out (Nat.le_refl _)).alloc _) _ _ _ (cN [⟨xk, p', xf, xt, r⟩]) rfl (Vs.lit (k := 5) (xs := cN [⟨xk, p', xf, xt, r⟩]) _ _ rfl rfl rfl) (cN_one _) (by unfold maxLen; omega) (by omega) (by have := HB.out.size; have := HB67.out.size; simp; omega) ?_; intro a6 c6 w8 hO6 hG6 hb6 _; have HO6 := Lib.hid hO6; have HB6 : Hid (Below w.heap.size w w8) := Lib.hid (((HB.out.trans (HB67.out.mono HB.out.size)).alloc (by have := HB.out.size; have := HB67.out.size; omega) _).trans hb6); clear hO6 hG6 hb6))
      go_roundw
      case rel => exact ⟨k + 1, a6, c6, rfl, by go_num, by omega, by omega, Lib.hid (by rw [HT.out]; unfold OwnN; rw [cN_app]; exact HO6.out), HB6⟩
      case measure => simp [intOf]; omega
    · have HE : Hid ((T.take k).map fewN = fewT T ∧ k = (fewT T).length) := Lib.hid (by
        have h1 := few_stop hk20 (by rw [HL.out]; exact hlt)
        refine ⟨h1, ?_⟩
        rw [← h1, List.length_map, List.length_take, HL.out]
        omega)
      by_cases hkn : k < n
      · have hk20' : k = 20 := by omega
        subst hk20'
        go_wp2
        go_ret
        have ho := HO.out
        rw [HE.out.1] at ho
        rw [← HE.out.2]
        exact ⟨a', c', rfl, ho, HB.out⟩
      · go_wp2
        go_ret
        have ho := HO.out
        rw [HE.out.1] at ho
        rw [← HE.out.2]
        exact ⟨a', c', rfl, ho, HB.out⟩

/-! ### short -/

def cutT (y : TK) : TK := { y with s := mk ((txN y).take 60) }
def shortT (l : List TK) : List TK := (l.take 20).map cutT
theorem shortT_len (l : List TK) : (shortT l).length ≤ 20 := by unfold shortT; rw [List.length_map, List.length_take]; omega
theorem short_snoc {l : List TK} {k : Nat} (h : k < l.length) : (l.take (k + 1)).map cutT = (l.take k).map cutT ++ [cutT (tat l k)] := by rw [tat_take h, List.map_append]; rfl
theorem short_stop {l : List TK} {k : Nat} (h : k ≤ 20) (h2 : ¬ (k < l.length ∧ k < 20)) : (l.take k).map cutT = shortT l := by
  unfold shortT
  congr 1
  by_cases h3 : k = 20
  · rw [h3]
  · rw [List.take_of_length_le (by omega), List.take_of_length_le (by omega)]
theorem store_t5 {ops : Array Oper} {rest : List Oper} {o : Oper} {A : Act} {w : World} {Q : Exit → Act → World → Prop} (hgd : o.guard = none) (x y : Operand) (ho : o.op = .store 9 x y)
    (b : Nat) (hx : A.eval x = .pointer (some ⟨b, 3, none⟩)) (s' : Nm) (hy : A.eval y = .string (mk s')) (k f t : Int) (s : Nm) (e : Int) (h : T5 w b k f t s e)
    (kk : ∀ w', T5 w' b k f t s' e → Only b w w' → wpList Tryz.prog ops Q rest (A.put o.dst undef) w') : wpList Tryz.prog ops Q (o :: rest) A w :=
  wpList_store_cell hgd 9 47 x y ho b 3 [.int .i64 k, .int .i64 f, .int .i64 t, .string (mk s), .int .i64 e] (.string (mk s')) hx hy str_size1 rfl h (by simp) rfl fun w' h' ho' => kk w' h' ho'
theorem t5_info : (Tryz.prog.info? 47).map (·.size) = some 5 := by kernel_rfl
theorem load_t5 {ops : Array Oper} {rest : List Oper} {o : Oper} {a : Act} {w : World} {Q : Exit → Act → World → Prop} (hw : Region.wanted o (yielded ops a.tmps) = true) (x : Operand) (ho : o.op = .load 47 x)
    (b : Nat) (hx : a.eval x = .pointer (some ⟨b, 0, none⟩)) (k f t : Int) (s : Nm) (e : Int) (h : T5 w b k f t s e)
    (kk : wpList Tryz.prog ops Q rest (a.put o.dst (.agg #[.int .i64 k, .int .i64 f, .int .i64 t, .string (mk s), .int .i64 e])) w) : wpList Tryz.prog ops Q (o :: rest) a w :=
  wpList_step fun K hK => by
    rw [if_pos hw]
    exact wp_load_row 47 x ho b hx _ _ _ _ h Tryz.underlying47 rfl t5_info (hK _ _ kk)
theorem store_t5w {ops : Array Oper} {rest : List Oper} {o : Oper} {a : Act} {w : World} {Q : Exit → Act → World → Prop} (hgd : o.guard = none) (x y : Operand) (ho : o.op = .store 47 x y)
    (b : Nat) (hx : a.eval x = .pointer (some ⟨b, 0, none⟩)) (k f t : Int) (s : Nm) (e : Int) (hy : a.eval y = .agg #[.int .i64 k, .int .i64 f, .int .i64 t, .string (mk s), .int .i64 e]) (k0 f0 t0 : Int) (s0 : Nm) (e0 : Int) (h : T5 w b k0 f0 t0 s0 e0)
    (kk : ∀ w', T5 w' b k f t s e → Only b w w' → wpList Tryz.prog ops Q rest (a.put o.dst undef) w') : wpList Tryz.prog ops Q (o :: rest) a w :=
  wpList_store_row hgd 47 x y ho b _ hx hy _ _ h t5_info rfl (by kernel_rfl) (kk _ (setRow_heap w b _ _ _ _ h) (Only.ofRow w b _))
theorem T5.zero (w : World) : T5 (w.alloc (.cells #[.int .i64 0, .int .i64 0, .int .i64 0, .string ⟨#[]⟩, .int .i64 0] 47)) w.heap.size 0 0 0 [] 0 := heap_alloc_new w _

set_option maxRecDepth 20000 in
set_option maxHeartbeats 8000000 in
theorem short_any (a : Option Addr) (n c : Nat) (l : List TK) (w : World) (h : Ts w a n c l) :
    Calls Tryz.prog 12 #[.slice a n c] w fun e w' => ∃ a' c', e = .returned (.slice a' (shortT l).length c') ∧ OwnT w.heap.size 47 w' a' (shortT l).length c' (shortT l) ∧ Below w.heap.size w w' := by
  have HL := Lib.hid h.hl
  have H := Lib.hid h
  clear h
  go_enter Tryz.func12, Tryz.ntmps12
  go_wp2
  go_loopw [3, 4] (fun u v wr => ∃ (k : Nat) (a' : Option Addr) (c' : Nat), u = .slice a' k c' ∧ v = .int .i64 k ∧ k ≤ n ∧ k ≤ 20 ∧ Hid (OwnT w.heap.size 47 wr a' k c' ((l.take k).map cutT)) ∧ Hid (Below w.heap.size w wr)) (fun _ v _ => n - (intOf v).toNat)
  case atStart => exact ⟨0, _, 0, rfl, rfl, by omega, by omega, Lib.hid (OwnT.emptyAt (heap_alloc_new w _) (Nat.le_refl _)), Lib.hid (below_alloc w _)⟩
  case round =>
    obtain ⟨k, a', c', rfl, rfl, hk, hk20, HO, HB⟩ := hrel
    have hk0 : (0 : Int) ≤ (k : Int) := Int.natCast_nonneg _
    by_cases hlt : k < n ∧ k < 20
    · have hk1 : (k : Int) < (n : Int) := by omega
      have hk2 : (k : Int) < 20 := by omega
      have hkn : k < n := hlt.1
      obtain ⟨b, off, rfl, c0, c1, c2, c3, c4⟩ := tok_at (H.out.below HB.out) hkn
      have HT := Lib.hid (short_snoc (l := l) (k := k) (by rw [HL.out]; exact hkn))
      obtain ⟨x, hx⟩ : ∃ x, x = tat l k := ⟨_, rfl⟩
      rw [← hx] at c0 c1 c2 c3 c4 HT
      clear hx
      obtain ⟨xn, hxn⟩ : ∃ q, q = txN x := ⟨_, rfl⟩
      rw [← hxn] at c3
      have HCT : Hid (cutT x = ⟨x.k, x.f, x.t, mk (xn.take 60), x.e⟩) := Lib.hid (by rw [hxn]; rfl)
      clear hxn
      obtain ⟨G, hG⟩ : ∃ G, G = wr.heap.size := ⟨_, rfl⟩
      have HG := Lib.hid hG
      clear hG
      have hsz : (mk xn).size = xn.length := mk_size xn
      obtain ⟨m, hm⟩ : ∃ m, m = xn.length := ⟨_, rfl⟩
      rw [← hm] at hsz
      obtain ⟨v, hv⟩ : ∃ v, v = min m 60 := ⟨_, rfl⟩
      have hmin : min (m : Int) 60 = (v : Int) := by omega
      have hsl := cut60 xn v (by rw [hv, hm])
      have hv0 : (0 : Int) ≤ (v : Int) := Int.natCast_nonneg _
      obtain ⟨p', hp'⟩ : ∃ q, q = xn.take 60 := ⟨_, rfl⟩
      rw [← hp'] at hsl HCT
      clear hm hv hp' hlt
      go_wp2_with (first
        | (refine store_t5w rfl (.tmp 5) (.tmp 20) rfl _ rfl x.k x.f x.t xn x.e rfl 0 0 0 [] 0 (T5.zero wr) ?_; rw [← HG.out]; intro w5 h5 ho5; have HB45 : Hid (Below wr.heap.size wr w5) := Lib.hid ((below_alloc wr _).trans (ho5.below (by rw [HG.out]; exact Nat.le_refl _))); have H5 := Lib.hid h5; have d3 := h5.cells.2.2.2.1; clear h5 ho5 c0 c1 c2 c3 c4)
        | (refine store_t5 rfl (.tmp 28) (.tmp 27) rfl G rfl p' rfl x.k x.f x.t xn x.e H5.out ?_; intro w7 h7 ho7; have HB67 : Hid (Below wr.heap.size wr w7) := Lib.hid (HB45.out.trans (ho7.below (by rw [HG.out]; exact Nat.le_refl _))); have H7 := Lib.hid h7; clear h7 ho7 d3)
        | (refine load_t5 rfl (.tmp 5) rfl G rfl x.k x.f x.t p' x.e H7.out ?_)
        | (at_builtin; refine wpList_appT rfl (.tmp 29) (.tmp 31) rfl w.heap.size _ _ _ ((l.take k).map cutT) rfl ((HO.out.keep HB67.out (Nat.le_refl _)).alloc _) _ _ _ [⟨x.k, x.f, x.t, mk p', x.e⟩] rfl (Ts.one w7 47 ⟨x.k, x.f, x.t, mk p', x.e⟩ rfl rfl) (by omega) (by have := HB.out.size; have := HB67.out.size; simp; omega) ?_; intro a6 c6 w8 hO6 hG6 hb6; have HO6 := Lib.hid hO6; have HB6 : Hid (Below w.heap.size w w8) := Lib.hid (((HB.out.trans (HB67.out.mono HB.out.size)).alloc (by have := HB.out.size; have := HB67.out.size; omega) _).trans hb6); clear hO6 hG6 hb6))
      go_roundw
      case rel => exact ⟨k + 1, a6, c6, rfl, by go_num, by omega, by omega, Lib.hid (by rw [HT.out, HCT.out]; exact HO6.out), HB6⟩
      case measure => simp [intOf]; omega
    · have HE : Hid ((l.take k).map cutT = shortT l ∧ k = (shortT l).length) := Lib.hid (by
        have h1 := short_stop hk20 (by rw [HL.out]; exact hlt)
        refine ⟨h1, ?_⟩
        rw [← h1, List.length_map, List.length_take, HL.out]
        omega)
      by_cases hkn : k < n
      · have hk20' : k = 20 := by omega
        subst hk20'
        go_wp2
        go_ret
        have ho := HO.out
        rw [HE.out.1] at ho
        rw [← HE.out.2]
        exact ⟨a', c', rfl, ho, HB.out⟩
      · go_wp2
        go_ret
        have ho := HO.out
        rw [HE.out.1] at ho
        rw [← HE.out.2]
        exact ⟨a', c', rfl, ho, HB.out⟩

end Go.Proofs.YtkaeanaeklilfaaGreatDoor
