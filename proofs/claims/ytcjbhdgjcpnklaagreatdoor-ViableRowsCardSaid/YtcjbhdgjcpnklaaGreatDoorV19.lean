import Derived.Test.YtcjbhdgjcpnklaaGreatDoorV22
import Derived.Test.YtcjbhdgjcpnklaaGreatDoorV18
namespace Go.Proofs.YtcjbhdgjcpnklaaGreatDoor
section
open Go.RowKit
theorem zCm : (Tryz.prog.info? 38).map (·.size) = some 3 := by kernel_rfl
theorem zNi {w : World} {vb : Nat} {o : OP} (hv : w.heap[vb]? = some (.cells #[.string (mk o.1), .int .i64 o.2.1, .int .i64 o.2.2] 38 (0, 0))) : OpS w (some ⟨vb, 0, none⟩) 1 1 [o] :=
 ⟨rfl, Nat.le_refl _, by decide, fun _ => ⟨vb, 0, rfl, (Array.getElem?_eq_some_iff.1 hv).1, fun j hj => by
  rw [cell_of_row w vb (0 + j) _ _ _ hv, Nat.zero_add, cO_cons, zIF]
  simp⟩⟩
theorem zIH {base g n c : Nat} {w : World} {cur : List Value} {xs : List Value} (hg : w.heap[g]? = some (.cells cur.toArray 38 (0, 0))) (hb : base ≤ g) (hc : cur.length = c * 3) (hnc : n ≤ c) (hcm : c ≤ maxLen) (hx : cur.take (n * 3) = xs) :
  OwnV base 38 3 w (some ⟨g, 0, none⟩) n c xs :=
 ⟨by rw [← hx, List.length_take]; have : n * 3 ≤ c * 3 := Nat.mul_le_mul_right _ hnc; omega, .inr ⟨g, c, cur.toArray, rfl, hb, hg, hnc, hcm, by simpa using hc, by simpa using hx⟩⟩
theorem zero_cells_len (k : Nat) : (Builtin.zeroCells (Value.agg #[.string ByteArray.empty, .int .i64 0, .int .i64 0]).cells k).toList.length = k * 3 := by
 rw [Array.length_toList, Builtin.zeroCells]
 simp [Value.cells]
set_option maxRecDepth 100000 in
set_option maxHeartbeats 8000000 in
theorem zEy (base : Nat) (a : Option Addr) (n c : Nat) (L : List OP) (i : Nat) (o : OP) (vb : Nat) (w : World) (hO : OwnO base w a n c L) (hi : i ≤ n) (hn : n ≤ 1000000)
  (hv : w.heap[vb]? = some (.cells #[.string (mk o.1), .int .i64 o.2.1, .int .i64 o.2.2] 38 (0, 0))) (hvb : ∀ g, a = some ⟨g, 0, none⟩ → vb ≠ g) (hbase : base ≤ w.heap.size) :
  Calls Tryz.prog 48 #[.slice a n c, .int .i64 i, .slice (some ⟨vb, 0, none⟩) 1 1] w fun e w' => ∃ a' c', e = .returned (.slice a' (n + 1) c') ∧ OwnO base w' a' (n + 1) c' (L.take i ++ [o] ++ L.drop i) ∧ Below base w w' := by
 have hlc := hO.bounds.2.1
 have hcm := hO.bounds.2.2
 have hLn := OpS.len hO.vs
 have hV := zNi hv
 unfold maxLen at hcm
 by_cases hin : i = n
 ·subst hin
  have hs0 : ∃ v, (Instr.slice 30 (.slice a i c) (some (.int .i64 i)) none none).run Tryz.prog w = .ok v w := by
   cases a with
   | none =>
    obtain ⟨h0, hc0⟩ : i = 0 ∧ c = 0 := by
     rcases hO.2 with ⟨h, _⟩ | ⟨g, cp, cur, h, _⟩
     ·simp only [Value.slice.injEq] at h; exact ⟨h.2.1, h.2.2⟩
     ·simp at h
    subst h0; subst hc0
    exact ⟨_, run_slice_l (P := Tryz.prog) w 30 none 0 0 (by rw [op_elem]; exact Tryz.underlying30) .i64 0 (by omega) (by omega)⟩
   | some ad =>
    obtain ⟨g, cur, ha, _⟩ := hO.form (by simp)
    obtain rfl := Option.some.inj ha
    exact ⟨_, zFK op_elem Tryz.underlying30 zAJ (Nat.le_refl i) w⟩
  obtain ⟨v, hs0⟩ := hs0
  have H := hid hO
  have HV := hid hV
  have HL := hid hLn
  clear hO hV hv hLn
  go_enter Tryz.func48, Tryz.ntmps48
  go_wp2_with (at_builtin; refine Hid.out ?_)
  refine hid ?_
  refine zAL rfl (.tmp 23) (.tmp 24) 30 rfl 38 base 3 32 _ Tryz.underlying30 zAJ rfl (by omega) _ i _ (cO L) rfl H.out _ 1 _ (cO [o]) rfl HV.out (zAX _) (by unfold maxLen; omega) (by omega) hbase ?_
  intro a2 c2 w2 ho2 hg2 hb2 _
  have HO2 : Hid (OwnO base w2 a2 (i + 1) c2 (L.take i ++ [o] ++ L.drop i)) := hid (by rw [List.take_of_length_le (by have := HL.out; omega), List.drop_of_length_le (by have := HL.out; omega), List.append_nil, OwnO, cO_app]; exact ho2)
  have HB2 := hid hb2
  clear ho2 hg2 hb2
  go_wp2
  go_ret
  exact ⟨_, _, rfl, HO2.out, HB2.out⟩
 ·obtain ⟨g, cur, rfl, hbg, hglt, hg, hcs, ht⟩ := hO.form (hO.some (by omega))
  have hne := hvb g rfl
  obtain ⟨Z, hZ⟩ : ∃ Z, Z = cur.toList := ⟨_, rfl⟩
  have hgZ : w.heap[g]? = some (.cells Z.toArray 38 (0, 0)) := by rw [hZ]; simpa using hg
  have hZl : Z.length = c * 3 := by rw [hZ]; simpa using hcs
  rw [← hZ] at ht
  have hi3 : i * 3 ≤ n * 3 := Nat.mul_le_mul_right _ hi
  have hZi : Z.take (i * 3) = cO (L.take i) := by rw [← zHE, ← ht, List.take_take, Nat.min_eq_left hi3]
  have hLi : (L.take i).length = i := by rw [List.length_take]; omega
  have hLd : (L.drop i).length = n - i := by rw [List.length_drop]; omega
  have hsrc : ∀ j v, (cO (L.drop i))[j]? = some v → Z[i * 3 + j]? = some v := fun j v hj => by
   have hlt := (List.getElem?_eq_some_iff.1 hj).1
   rw [cO_len, hLd] at hlt
   rw [← zHF, ← ht, List.getElem?_drop, List.getElem?_take, if_pos (by rw [Nat.sub_mul] at hlt; omega)] at hj
   exact hj
  have hs0 : ∀ w, (Instr.slice 30 (.slice (some ⟨g, 0, none⟩) n c) (some (.int .i64 i)) none none).run Tryz.prog w = .ok (.slice (some ⟨g, i * 3, none⟩) (n - i) (c - i)) w := fun w => by
   rw [zFK op_elem Tryz.underlying30 zAJ hi w, if_neg (by omega), Nat.zero_add]
  have hni : ¬ ((i : Int) = (n : Int)) := by omega
  have hw1 : IntKind.i64.wrap ((n : Int) + 1) = (n : Int) + 1 := by rw [IntKind.wrap_i64]; omega
  have hw2 : IntKind.i64.wrap ((i : Int) + 1) = (i : Int) + 1 := by rw [IntKind.wrap_i64]; omega
  by_cases hroom : c < n + 1
  ·have hgt : (c : Int) < (n : Int) + 1 := by omega
   have hs1 : ∀ w, (Instr.slice 30 (.slice (some ⟨g, 0, none⟩) n c) none (some (.int .i64 i)) none).run Tryz.prog w = .ok (.slice (some ⟨g, 0, none⟩) i c) w := fun w => zL5 op_elem Tryz.underlying30 zAJ (by omega) w
   have hw3 : IntKind.i64.wrap ((n : Int) + 1 - (i : Int)) = (n : Int) + 1 - (i : Int) := by rw [IntKind.wrap_i64]; omega
   obtain ⟨ti, hti, hz, hsz, hby⟩ := info_parts zAJ
   obtain ⟨G, hG⟩ : ∃ G, G = w.heap.size := ⟨_, rfl⟩
   obtain ⟨q, hq⟩ : ∃ q, q = grownCap w (i + (n + 1 - i)) c 38 := ⟨_, rfl⟩
   obtain ⟨w2, hw2d⟩ : ∃ w2, w2 = (w.drew.alloc (.cells ((cO (L.take i)).toArray ++ Builtin.zeroCells (Value.agg #[.string ByteArray.empty, .int .i64 0, .int .i64 0]).cells (n + 1 - i) ++ Builtin.zeroCells (Value.agg #[.string ByteArray.empty, .int .i64 0, .int .i64 0]).cells (q - (i + (n + 1 - i)))) 38)) := ⟨_, rfl⟩
   have hrun : ∀ ty, (Builtin.append_ #[30, 3] ty #[.slice (some ⟨g, 0, none⟩) i c, .int .i64 ((n : Int) + 1 - (i : Int))]).run Tryz.prog w = .ok (.slice (some ⟨G, 0, none⟩) (n + 1) q) w2 := fun ty => by
    rw [zDR w 30 3 ty 38 ti _ .i64 Tryz.underlying30 Tryz.underlying3 hti hz ⟨g, 0, none⟩ i c (n + 1 - i) _ (by omega) (cO (L.take i)) (by rw [cO_len, hLi, hsz]) (fun j v hj => by
      rw [zAe, Nat.zero_add, cell_of_row w g j _ _ _ hgZ]
      rw [← hZi, List.getElem?_take] at hj
      split at hj
      ·simpa using hj
      ·cases hj) (by omega) (by rw [hsz]; decide) (by omega) (by rw [hby]; omega) (by omega), ← hq, ← hw2d, ← hG, show i + (n + 1 - i) = n + 1 by omega]
   have hqge : n + 1 ≤ q := by have := grownCap_ge w (i + (n + 1 - i)) c 38; omega
   have hqm : q ≤ maxLen := by rw [hq]; exact grownCap_le_maxLen _ _ _ _ (by unfold maxLen; omega)
   obtain ⟨C, hC⟩ : ∃ C, C = ((cO (L.take i)).toArray ++ Builtin.zeroCells (Value.agg #[.string ByteArray.empty, .int .i64 0, .int .i64 0]).cells (n + 1 - i) ++ Builtin.zeroCells (Value.agg #[.string ByteArray.empty, .int .i64 0, .int .i64 0]).cells (q - (i + (n + 1 - i)))).toList := ⟨_, rfl⟩
   have hCl : C.length = q * 3 := by
    rw [hC, Array.toList_append, Array.toList_append, List.length_append, List.length_append, zero_cells_len, zero_cells_len, List.toList_toArray, cO_len, hLi]
    omega
   have hCi : C.take (i * 3) = cO (L.take i) := by
    rw [hC, Array.toList_append, Array.toList_append, List.append_assoc, List.toList_toArray, List.take_append_of_le_length (by rw [cO_len, hLi]; exact Nat.le_refl _)]
    exact List.take_of_length_le (by rw [cO_len, hLi]; exact Nat.le_refl _)
   have hG2 : w2.heap[G]? = some (.cells C.toArray 38 (0, 0)) := by rw [hw2d, hG, hC, Array.toArray_toList]; exact heap_alloc_new w.drew _
   have hb2 : Below w.heap.size w w2 := by rw [hw2d]; exact (Below.refl _ _).drew.alloc (by simp) _
   have HG2 := hid hG2
   have HB2 := hid hb2
   have hgZ2 : w2.heap[g]? = some (.cells Z.toArray 38 (0, 0)) := (hb2.block g hglt).trans hgZ
   have HZ2 := hid hgZ2
   have HV2 := hid (hV.below hb2)
   have hvlt : vb < w.heap.size := (Array.getElem?_eq_some_iff.1 hv).1
   have hqi : ¬ (q = i) := by omega
   have hs3 : ∀ w, (Instr.slice 30 (.slice (some ⟨G, 0, none⟩) (n + 1) q) (some (.int .i64 i)) none none).run Tryz.prog w = .ok (.slice (some ⟨G, i * 3, none⟩) (n + 1 - i) (q - i)) w := fun w => by
    rw [zFK op_elem Tryz.underlying30 zAJ (by omega) w, if_neg hqi, Nat.zero_add]
   have hs4 : ∀ w, (Instr.slice 30 (.slice (some ⟨G, 0, none⟩) (n + 1) q) (some (.int .i64 ((i : Int) + 1))) none none).run Tryz.prog w = .ok (.slice (some ⟨G, (i + 1) * 3, none⟩) (n + 1 - (i + 1)) (q - (i + 1))) w := fun w => by
    have := zFK (P := Tryz.prog) (g := G) (off := 0) (n := n + 1) (c := q) (l := i + 1) op_elem Tryz.underlying30 zAJ (by omega) w
    rw [if_neg (by omega), Nat.zero_add] at this
    exact this
   have HF := hid (And.intro hsrc (And.intro hCl hCi))
   have HN := hid (And.intro hLi hLd)
   have HQ := hid (And.intro hqge hqm)
   have HX := hid (And.intro hglt (And.intro hvlt (And.intro hG (And.intro hbase hne))))
   clear hO hvb hg hcs hZ hgZ hZl ht hZi hsrc hCl hCi hC hG2 hb2 hgZ2 hV hv hvlt hq hw2d hqge hqm hG hti hz hsz hby hLi hLd hglt hne hi3 hbase
   obtain ⟨w3, hw3d⟩ : ∃ w3, w3 = w2.setRow G (splice C (i * 3) (cO [o])).toArray := ⟨_, rfl⟩
   have hcp : ∀ ty, (Builtin.copy_ #[30, 30] ty #[.slice (some ⟨G, i * 3, none⟩) (n + 1 - i) (q - i), .slice (some ⟨vb, 0, none⟩) 1 1]).run Tryz.prog w2 = .ok (goInt 1) w3 := fun ty => by
    rw [hw3d]
    exact zEA w2 30 30 ty 38 3 1 G (i * 3) _ _ ⟨vb, 0, none⟩ 1 1 C 38 (cO [o]) Tryz.underlying30 zCm HG2.out (by simp only [Nat.min_def]; split <;> omega) rfl (fun j v hj => by rw [zAe, HV2.out.cells (by omega) (by have := (List.getElem?_eq_some_iff.1 hj).1; rw [cO_len] at this; simpa using this)]; exact hj) (by rw [HF.out.2.1, cO_len]; have := HQ.out.1; simp; omega) (zAX _)
   have HG3 : Hid (w3.heap[G]? = some (.cells (splice C (i * 3) (cO [o])).toArray 38 (0, 0))) := hid (by rw [hw3d]; exact setRow_heap w2 G _ _ _ _ HG2.out)
   have HO3 : Hid (Only G w2 w3) := hid (by rw [hw3d]; exact Only.ofRow w2 G _)
   clear hw3d
   go_enter Tryz.func48, Tryz.ntmps48
   have HM : Hid (n - i = Nat.min (n - i) (n + 1 - (i + 1))) := hid (by simp only [Nat.min_def]; split <;> omega)
   go_wp2_with (at_builtin; refine Lib.wpList_append_run _ rfl _ _ _ _ rfl _ _ rfl rfl _ _ (hrun _) ?_)
   have HZ3 : Hid (w3.heap[g]? = some (.cells Z.toArray 38 (0, 0))) := hid ((HO3.out.block g (by have := HX.out.1; have := HX.out.2.2.1; omega)).trans HZ2.out)
   clear HV2 HZ2
   refine wp_region_noPanic ?_
   refine wp_region_held_drew (S := fun _ => True) (by kernel_rfl) (trivial) (fun hHeld => ?_)
   refine zG 0 rfl ?_
   try simp only [Act.put, aS, aZ, aC]
   refine zG 1 rfl ?_
   try simp only [Act.put, aS, aZ, aC]
   refine zG 2 rfl ?_
   try simp only [Act.put, aS, aZ, aC]
   refine zG 3 rfl ?_
   try simp only [Act.put, aS, aZ, aC]
   refine zG 4 rfl ?_
   try simp only [Act.put, aS, aZ, aC]
   refine zG 5 rfl ?_
   try simp only [Act.put, aS, aZ, aC]
   refine zG 6 rfl ?_
   try simp only [Act.put, aS, aZ, aC]
   refine zG 7 rfl ?_
   try simp only [Act.put, aS, aZ, aC]
   refine zR [8] ?_
   refine hDo rfl (fun K hK => ?_) ?_
   ·refine zEx rfl (.tmp 50) (.tmp 53) 30 30 rfl 38 3 (n - i) Tryz.underlying30 zCm G ((i + 1) * 3) _ _ ⟨g, i * 3, none⟩ _ _ rfl rfl (splice C (i * 3) (cO [o])) 38 HG3.out (cO (L.drop i)) (Nat.min_self _).symm (by rw [cO_len, HN.out.2]) (fun j v hj => by rw [zAe, World.cell?_drew, cell_of_row _ g _ _ _ _ HZ3.out]; simpa using HF.out.1 j v hj) (by rw [length_splice _ _ _ (by rw [HF.out.2.1, cO_len]; have := HQ.out.1; simp; omega), HF.out.2.1, cO_len, HN.out.2]; have := HQ.out.1; omega) (zAX _) ?_
    intro w4 hg4 ho4
    have HG4 := hid hg4
    have HO4 := hid ho4
    clear hg4 ho4
    refine hK.out _ _ (trivial) (fun hHeld => ?_)
    clear hK K
    try simp only [Act.put, aS, aZ, aC]
    refine wpAnyH_done (by kernel_rfl) ?_ _
    refine NoPanic.normal ?_
    have HB4 : Hid (Below w.heap.size w w4) := hid ((HB2.out.trans (HO3.out.below (by rw [HX.out.2.2.1]; exact Nat.le_refl _))).trans (Below.trans ((Below.refl _ _).drew) (HO4.out.below (by rw [HX.out.2.2.1]; exact Nat.le_refl _))))
    go_wp2
    go_ret
    refine ⟨_, _, rfl, zIH HG4.out (by have := HX.out; omega) ?_ HQ.out.1 HQ.out.2 ?_, HB4.out.mono HX.out.2.2.2.1⟩
    ·rw [length_splice _ _ _ (by rw [length_splice _ _ _ (by rw [HF.out.2.1, cO_len]; have := HQ.out.1; simp; omega), HF.out.2.1, cO_len, HN.out.2]; have := HQ.out.1; omega), length_splice _ _ _ (by rw [HF.out.2.1, cO_len]; have := HQ.out.1; simp; omega)]; exact HF.out.2.1
    ·have := zJA C (cO (L.take i)) (cO [o]) (cO (L.drop i)) (i * 3) 3 (by rw [cO_len, HN.out.1]) rfl (by rw [HF.out.2.1, cO_len, HN.out.2]; have := HQ.out.1; omega) HF.out.2.2
     rw [cO_len, HN.out.2, show i * 3 + 3 + (n - i) * 3 = (n + 1) * 3 by omega, show i * 3 + 3 = (i + 1) * 3 by omega] at this
     rw [this, cO_app, cO_app]
   ·exact AllReadyH.nil
  ·have hgt : ¬ ((c : Int) < (n : Int) + 1) := by omega
   have hs1 : ∀ w, (Instr.slice 30 (.slice (some ⟨g, 0, none⟩) n c) none (some (.int .i64 ((n : Int) + 1))) none).run Tryz.prog w = .ok (.slice (some ⟨g, 0, none⟩) (n + 1) c) w := fun w => zL5 (h := n + 1) op_elem Tryz.underlying30 zAJ (by omega) w
   have hs3 : ∀ w, (Instr.slice 30 (.slice (some ⟨g, 0, none⟩) (n + 1) c) (some (.int .i64 i)) none none).run Tryz.prog w = .ok (.slice (some ⟨g, i * 3, none⟩) (n + 1 - i) (c - i)) w := fun w => by
    rw [zFK op_elem Tryz.underlying30 zAJ (by omega) w, if_neg (by omega), Nat.zero_add]
   have hs4 : ∀ w, (Instr.slice 30 (.slice (some ⟨g, 0, none⟩) (n + 1) c) (some (.int .i64 ((i : Int) + 1))) none none).run Tryz.prog w = .ok (.slice (some ⟨g, (i + 1) * 3, none⟩) (n - i) (c - (i + 1))) w := fun w => by
    have := zFK (P := Tryz.prog) (g := g) (off := 0) (n := n + 1) (c := c) (l := i + 1) op_elem Tryz.underlying30 zAJ (by omega) w
    rw [if_neg (by omega), Nat.zero_add, show n + 1 - (i + 1) = n - i by omega] at this
    exact this
   have hov : (callFunc 87 #[.slice (some ⟨vb, 0, none⟩) 1 1, .slice (some ⟨g, (i + 1) * 3, none⟩) (n - i) (c - (i + 1))]).run Tryz.prog w = .ok (.value (.bool false)) w := by
    rw [run_callFunc_extern Tryz.func87 (by kernel_rfl) (by kernel_rfl) (by kernel_rfl) (e := Extern.SlicesOverlaps.overlaps #[30, 30] #[4]) (by kernel_rfl),
     Lib.run_overlaps_apart w 30 4 38 Tryz.underlying30 3 (fun w => by kernel_rfl) ⟨vb, 0, none⟩ ⟨g, (i + 1) * 3, none⟩ 1 1 (n - i) (c - (i + 1)) hne 38 38 3 (c * 3)
      (by simp [World.shape?, hv]) (by simp [World.shape?, hgZ, hZl]) (by omega) (frozen_of_row w vb 0 _ _ hv) (frozen_of_row w vb 3 _ _ hv)]
    rfl
   have HM : Hid (n - i = Nat.min (n + 1 - i) (n - i)) := hid (by simp only [Nat.min_def]; split <;> omega)
   have HM2 : Hid ((1 : Nat) = Nat.min 1 (n + 1 - i)) := hid (by simp only [Nat.min_def]; split <;> omega)
   have HF := hid (And.intro hsrc (And.intro hZl hZi))
   have HN := hid (And.intro hLi hLd)
   have HZ := hid hgZ
   have HV := hid hv
   have HX := hid (And.intro hglt (And.intro hbase (And.intro hne (And.intro hbg hcm))))
   clear hO hvb hg hcs hZ hgZ hZl ht hZi hsrc hV hv hLi hLd hglt hne hi3 hbase hbg
   go_enter Tryz.func48, Tryz.ntmps48
   go_wp2_with (simp only [hov])
   clear hov
   refine wp_region_noPanic ?_
   refine wp_region_held_drew (S := fun _ => True) (by kernel_rfl) (trivial) (fun hHeld => ?_)
   refine zG 0 rfl ?_
   try simp only [Act.put, aS, aZ, aC]
   refine zG 1 rfl ?_
   try simp only [Act.put, aS, aZ, aC]
   refine zG 2 rfl ?_
   try simp only [Act.put, aS, aZ, aC]
   refine zG 3 rfl ?_
   try simp only [Act.put, aS, aZ, aC]
   refine zG 4 rfl ?_
   try simp only [Act.put, aS, aZ, aC]
   refine zG 5 rfl ?_
   try simp only [Act.put, aS, aZ, aC]
   refine zG 6 rfl ?_
   try simp only [Act.put, aS, aZ, aC]
   refine zG 7 rfl ?_
   try simp only [Act.put, aS, aZ, aC]
   refine zR [8] ?_
   refine hDo rfl (fun K hK => ?_) ?_
   ·refine zEx rfl (.tmp 73) (.tmp 76) 30 30 rfl 38 3 (n - i) Tryz.underlying30 zCm g ((i + 1) * 3) _ _ ⟨g, i * 3, none⟩ _ _ rfl rfl Z 38 HZ.out (cO (L.drop i)) HM.out (by rw [cO_len, HN.out.2]) (fun j v hj => by rw [zAe, World.cell?_drew, cell_of_row _ g _ _ _ _ HZ.out]; simpa using HF.out.1 j v hj) (by rw [HF.out.2.1, cO_len, HN.out.2]; omega) (zAX _) ?_
    intro w4 hg4 ho4
    have HG4 := hid hg4
    have HO4 := hid ho4
    clear hg4 ho4
    refine hK.out _ _ (trivial) (fun hHeld => ?_)
    clear hK K
    try simp only [Act.put, aS, aZ, aC]
    refine wpAnyH_done (by kernel_rfl) ?_ _
    refine NoPanic.normal ?_
    have hl4 : (splice Z ((i + 1) * 3) (cO (L.drop i))).length = c * 3 := by
     rw [length_splice _ _ _ (by rw [HF.out.2.1, cO_len, HN.out.2]; omega), HF.out.2.1]
    have HV4 : Hid (OpS w4 (some ⟨vb, 0, none⟩) 1 1 [o]) := hid (zNi ((HO4.out.block vb HX.out.2.2.1).trans HV.out))
    obtain ⟨w5, hw5⟩ : ∃ w5, w5 = w4.setRow g (splice (splice Z ((i + 1) * 3) (cO (L.drop i))) (i * 3) (cO [o])).toArray := ⟨_, rfl⟩
    have hcp : ∀ ty, (Builtin.copy_ #[30, 30] ty #[.slice (some ⟨g, i * 3, none⟩) (n + 1 - i) (c - i), .slice (some ⟨vb, 0, none⟩) 1 1]).run Tryz.prog w4 = .ok (goInt 1) w5 := fun ty => by
     rw [hw5]
     exact zEA w4 30 30 ty 38 3 1 g (i * 3) _ _ ⟨vb, 0, none⟩ 1 1 _ 38 (cO [o]) Tryz.underlying30 zCm HG4.out HM2.out rfl (fun j v hj => by rw [zAe, HV4.out.cells (by omega) (by have := (List.getElem?_eq_some_iff.1 hj).1; rw [cO_len] at this; simpa using this)]; exact hj) (by rw [hl4, cO_len]; simp; omega) (zAX _)
    have HG5 : Hid (w5.heap[g]? = some (.cells (splice (splice Z ((i + 1) * 3) (cO (L.drop i))) (i * 3) (cO [o])).toArray 38 (0, 0))) := hid (by rw [hw5]; exact setRow_heap w4 g _ _ _ _ HG4.out)
    have HB5 : Hid (Below base w w5) := hid (by
     rw [hw5]
     exact (Below.trans ((Below.refl base w).drew) (HO4.out.below HX.out.2.2.2.1)).trans ((Only.ofRow w4 g _).below HX.out.2.2.2.1))
    have HL5 : Hid ((splice (splice Z ((i + 1) * 3) (cO (L.drop i))) (i * 3) (cO [o])).length = c * 3) := hid (by
     rw [length_splice _ _ _ (by rw [hl4, cO_len]; simp; omega)]; exact hl4)
    clear hw5 hl4
    go_wp2
    go_ret
    refine ⟨_, _, rfl, zIH HG5.out HX.out.2.2.2.1 HL5.out (by omega) HX.out.2.2.2.2 ?_, HB5.out⟩
    have := zHG Z (cO (L.take i)) (cO [o]) (cO (L.drop i)) (i * 3) 3 (by rw [cO_len, HN.out.1]) rfl (by rw [HF.out.2.1, cO_len, HN.out.2]; omega) HF.out.2.2
    rw [cO_len, HN.out.2, show i * 3 + 3 + (n - i) * 3 = (n + 1) * 3 by omega, show i * 3 + 3 = (i + 1) * 3 by omega] at this
    rw [this, cO_app, cO_app]
   ·exact AllReadyH.nil
end
section
open Go.RowKit
theorem OwnV.weak {base base' : Nat} {e : TypeId} {k : Nat} {w : World} {a : Option Addr} {len cap : Nat} {xs : List Value} (h : OwnV base e k w a len cap xs) (hb : base' ≤ base) : OwnV base' e k w a len cap xs :=
 ⟨h.1, h.2.imp id fun ⟨g, cp, cur, hv, hg, r⟩ => ⟨g, cp, cur, hv, Nat.le_trans hb hg, r⟩⟩
theorem zED {P : Program} (w : World) (ty t : TypeId) (g o : Nat) (cur cs : List Value) (hi : (P.info? ty).map (·.size) = some cs.length) (hg : w.heap[g]? = some (.cells cur.toArray t (0, 0)))
  (hfit : o + cs.length ≤ cur.length) (h1 : ∀ v ∈ cs, v.oneCell' = true) : (storeVar ty ⟨g, o, none⟩ (.agg cs.toArray)).run P w = .ok () (w.setRow g (splice cur o cs).toArray) := by
 have hst := run_storeCells_at P g o t cs 0 cur.toArray w hg (by simpa using hfit) h1
 cases hq : P.info? ty with
 | none => simp [hq] at hi
 | some i =>
  have hs : cs.length = i.size := by simp [hq] at hi; omega
  simp [storeVar, sizeOf, typeInfo, hq, Value.cells, hs, hst, splice]
theorem zEE {P : Program} {ops : Array Oper} {rest : List Oper} {op : Oper} {a : Act} {w : World} {Q : Exit → Act → World → Prop} (hgd : op.guard = none) (ty t : TypeId) (x y : Operand) (ho : op.op = .store ty x y)
  (g o : Nat) (cur cs : List Value) (hx : a.eval x = .pointer (some ⟨g, o, none⟩)) (hy : a.eval y = .agg cs.toArray) (hi : (P.info? ty).map (·.size) = some cs.length) (hg : w.heap[g]? = some (.cells cur.toArray t (0, 0)))
  (hfit : o + cs.length ≤ cur.length) (h1 : ∀ v ∈ cs, v.oneCell' = true)
  (h : ∀ w', w'.heap[g]? = some (.cells (splice cur o cs).toArray t (0, 0)) → Only g w w' → wpList P ops Q rest (a.put op.dst undef) w') : wpList P ops Q (op :: rest) a w :=
 wpList_plain hgd fun K hK => by
  unfold Oper.wp execOp
  simp only [ho, hx, hy, Instr.storeAt, Instr.sureAddr, Sem.run_bind, Sem.run_pure, Result.andThen_ok, zED w ty t g o cur cs hi hg hfit h1]
  exact hK _ _ (h _ (setRow_heap w g _ _ t _ hg) (Only.ofRow w g _))
theorem zJC {α : Type} (Z A X Y W : List α) (p q : Nat) (hp : A.length = p) (hX : X.length = q) (hq : Y.length = q) (hZ : Z.take (p + q + W.length) = A ++ X ++ W) : (splice Z p Y).take (p + q + W.length) = A ++ Y ++ W := by
 have hA : Z.take p = A := by
  have := congrArg (List.take p) hZ
  rw [List.take_take, Nat.min_eq_left (by omega), List.append_assoc, List.take_left' hp] at this
  exact this
 have hW : (Z.drop (p + q)).take W.length = W := by
  have := congrArg (List.drop (p + q)) hZ
  rw [List.drop_take, List.drop_left' (by simp; omega), show p + q + W.length - (p + q) = W.length by omega] at this
  exact this
 unfold splice
 rw [hA, hq, ← List.append_assoc, List.take_append, List.take_of_length_le (by simp; omega), show p + q + W.length - (A ++ Y).length = W.length by simp; omega, hW]
theorem zBi {base B : Nat} {w w' : World} {a : Option Addr} {n c : Nat} {L : List OP} (h : OwnO base w a n c L) (ho : Only B w w') (hB : B < base) : OwnO base w' a n c L := by
 refine ⟨h.1, h.2.imp id ?_⟩
 rintro ⟨g, cp, cur, hv, hg, hb, r⟩
 exact ⟨g, cp, cur, hv, hg, (ho.block g (by omega)).trans hb, r⟩
def addE (L : List OP) (o : OP) : Int := if mayV o.1 o.2.1 o.2.2 = 0 then (if hitL L o.1 = true then 0 else if 16 ≤ L.length then 5 else 0) else mayV o.1 o.2.1 o.2.2
def addR (L : List OP) (o : OP) : List OP := if addE L o = 0 then addL L o else []
def addZ (L : List OP) (z : List Int) (o : OP) : List Int := if addE L o = 0 then z else z0
theorem zII {L : List OP} {o : OP} (h : mayV o.1 o.2.1 o.2.2 ≠ 0) : addE L o = mayV o.1 o.2.1 o.2.2 ∧ addE L o ≠ 0 := by unfold addE; rw [if_neg h]; exact ⟨rfl, h⟩
theorem zIJ {L : List OP} {o : OP} (h : mayV o.1 o.2.1 o.2.2 = 0) (hh : hitL L o.1 = true) : addE L o = 0 := by unfold addE; rw [if_pos h, if_pos hh]
theorem zCF {L : List OP} {o : OP} (h : mayV o.1 o.2.1 o.2.2 = 0) (hh : hitL L o.1 = false) (hl : 16 ≤ L.length) : addE L o = 5 := by unfold addE; rw [if_pos h, if_neg (by rw [hh]; decide), if_pos hl]
theorem zCn {L : List OP} {o : OP} (h : mayV o.1 o.2.1 o.2.2 = 0) (hh : hitL L o.1 = false) (hl : ¬ 16 ≤ L.length) : addE L o = 0 := by unfold addE; rw [if_pos h, if_neg (by rw [hh]; decide), if_neg hl]
theorem zIK {L : List OP} {o : OP} {k : Nat} (hk : posL L o.1 = k) (hh : hitL L o.1 = true) : addL L o = L.take k ++ [o] ++ L.drop (k + 1) := by unfold addL; rw [hk, if_pos hh]
theorem zDd {L : List OP} {o : OP} {k : Nat} (hk : posL L o.1 = k) (hh : hitL L o.1 = false) : addL L o = L.take k ++ [o] ++ L.drop k := by unfold addL; rw [hk, if_neg (by rw [hh]; decide)]; rfl
theorem zGO {L : List OP} {p : Nm} {k : Nat} (hk : k ≤ posL L p) (h : k < L.length) (hb : Op.bytesLess (opA L k).1 p = true) : k + 1 ≤ posL L p := by
 apply Decidable.byContradiction
 intro h1
 rw [zBh h] at hb
 exact zKT L k h (by omega) ((zFU _ _).1 hb)
theorem zGP {L : List OP} {p : Nm} {k : Nat} (hk : k ≤ posL L p) (h : k < L.length) (hb : Op.bytesLess (opA L k).1 p = false) : posL L p = k := by
 apply Decidable.byContradiction
 intro h1
 rw [zBh h] at hb
 exact (zOV _ _).1 hb (zKS L k h (by omega))
set_option maxRecDepth 100000 in
set_option maxHeartbeats 16000000 in
theorem zHI (a : Option Addr) (n c : Nat) (L : List OP) (z : List Int) (o : OP) (w : World) (ht : Tab w) (h : OpS w a n c L) (hz : z.length = 10) (hn : n ≤ 1000000) (hp : o.1.length ≤ 1000000) :
  Calls Tryz.prog 22 #[.agg (ev a n c z), .agg #[.string (mk o.1), .int .i64 o.2.1, .int .i64 o.2.2]] w fun e w' => ∃ a' n' c', e = .returned (.tuple #[.agg (ev a' n' c' (addZ L z o)), .int .i64 (addE L o)]) ∧ OwnO w.heap.size w' a' n' c' (addR L o) ∧ Below w.heap.size w w' := by
 obtain ⟨B, hB⟩ : ∃ B, B = w.heap.size := ⟨_, rfl⟩
 obtain ⟨w1, hw1⟩ : ∃ w1, w1 = w.alloc (.cells (ev a n c z) 34) := ⟨_, rfl⟩
 obtain ⟨p, g, s⟩ := o
 dsimp only at hp ⊢
 obtain ⟨w2, hw2⟩ : ∃ w2, w2 = w1.alloc (.cells #[.string (mk p), .int .i64 g, .int .i64 s] 38) := ⟨_, rfl⟩
 obtain ⟨w3, hw3⟩ : ∃ w3, w3 = w2.alloc (.cells #[.slice none 0 0, .int .i64 0, .int .i64 0, .int .i64 0, .int .i64 0, .int .i64 0, .int .i64 0, .int .i64 0, .int .i64 0, .int .i64 0, .int .i64 0] 34) := ⟨_, rfl⟩
 have s1 : w1.heap.size = B + 1 := by rw [hw1, hB]; simp
 have s2 : w2.heap.size = B + 1 + 1 := by rw [hw2]; simp [s1]
 have HE3 : Hid (EB w3 B a n c z) := hid (by rw [hw3, hw2, hw1, hB]; exact ((EB.new w a n c z).alloc _).alloc _)
 have HD3 : Hid (D3 w3 (B + 1) (p, g, s)) := hid (by rw [hw3, ← s1, hw2]; exact (D3.new w1 (p, g, s)).below (zAA _ _))
 have HR3 : Hid (EB w3 (B + 1 + 1) none 0 0 z0) := hid (by rw [hw3, ← s2, ← zB1]; exact EB.new w2 none 0 0 z0)
 have HB3 : Hid (Below B w w3) := hid (by rw [hw3, hw2, hw1, hB]; exact (((Below.refl _ _).alloc (Nat.le_refl _) _).alloc (by simp) _).alloc (by simp; omega) _)
 have HT3 : Hid (Tab w3) := hid (ht.keep (hB ▸ HB3.out))
 have HS3 : Hid (w3.heap.size = B + 1 + 1 + 1) := hid (by rw [hw3]; simp [s2])
 have HO3 : Hid (OpS w3 a n c L) := hid (h.below (hB ▸ HB3.out))
 have hlc := h.lc
 have hcm := h.cm
 unfold maxLen at hcm
 have HL := hid (OpS.len h)
 have HZ := hid hz
 have HP := hid hp
 have HBB := hid hB
 obtain ⟨d0, d1, d2⟩ := HD3.out.cells
 dsimp only at d0 d1 d2
 clear ht h hz hp s1 s2
 go_enter Tryz.func22, Tryz.ntmps22
 go_wp2_with fail
 rw [← hw1, ← hw2, ← hw3, ← hB]
 clear hw1 hw2 hw3 hB
 refine (zMJ p g s w3 HT3.out HP.out).mono ?_
 rintro e w4 ⟨rfl, hb4⟩
 have HE4 := hid (HE3.out.below hb4)
 have HD4 := hid (HD3.out.below hb4)
 have HR4 := hid (HR3.out.below hb4)
 have HO4 := hid (HO3.out.below hb4)
 have HT4 := hid (HT3.out.keep hb4)
 have HB4 : Hid (Below B w w4) := hid (HB3.out.trans (hb4.mono (by have := HS3.out; omega)))
 have HS4 : Hid (B + 1 + 1 < w4.heap.size) := hid HR4.out.lt
 clear hb4 d0 d1 d2
 obtain ⟨m, hm⟩ : ∃ m, m = mayV p g s := ⟨_, rfl⟩
 rw [← hm]
 by_cases hm0 : m = 0
 case neg =>
  have hbu : ∀ w, (Instr.build 34 #[]).run Tryz.prog w = .ok (.agg (ev none 0 0 z0)) w := fun w => zAx w
  have HBAD : Hid (addE L (p, g, s) = m ∧ addE L (p, g, s) ≠ 0) := hid (by rw [hm]; exact zII (by rw [← hm]; exact hm0))
  clear hm
  go_wp2_with (refine zAD rfl (.tmp 4) (.tmp 13) rfl (B + 1 + 1) rfl none 0 0 z0 rfl rfl none 0 0 z0 zAF HR4.out ?_; intro w5 he5 ho5; have HE5 := hid he5; have HO5 := hid ho5; clear he5 ho5)
  refine bodyPost_ret (zAb rfl _ _ (B + 1 + 1) none 0 0 z0 zAF rfl HE5.out) rfl ⟨none, 0, 0, ?_, ?_, ?_⟩
  ·unfold addZ; rw [if_neg HBAD.out.2, HBAD.out.1]; rfl
  ·unfold addR; rw [if_neg HBAD.out.2]; exact OwnV.none0
  ·rw [← HBB.out]; exact HB4.out.trans (HO5.out.below (by omega))
 subst hm0
 have HM0 : Hid (mayV p g s = 0) := hid hm.symm
 clear hm
 go_wp2
 go_loopw [7] (fun v wr => ∃ k : Nat, v = .int .i64 k ∧ k ≤ n ∧ Hid (k ≤ posL L p) ∧ Hid (Below w4.heap.size w4 wr)) (fun v _ => n - (intOf v).toNat)
 case atStart => exact ⟨0, rfl, Nat.zero_le _, hid (Nat.zero_le _), hid (Below.refl _ _)⟩
 case round =>
  obtain ⟨k, rfl, hk, HK, HB⟩ := hrel
  have d0 := (HD4.out.below HB.out).cells.1
  dsimp only at d0
  by_cases hlt : k < n
  ·have hgd : decide ((k : Int) < (n : Int)) = true := by simpa using hlt
   have hs := HO4.out.below HB.out
   obtain ⟨b, off, rfl, _, hc⟩ := hs.at_ (by omega)
   clear hc
   have c0 := (OpS.at3 hs hlt).1
   clear hs
   obtain ⟨q, hq⟩ : ∃ q, q = (opA L k).1 := ⟨_, rfl⟩
   rw [← hq] at c0
   have HQ := hid hq
   clear hq
   have hp1 := mk_toList q
   have hp2 := mk_toList p
   cases hb : Op.bytesLess q p with
   | true =>
    have HK1 : Hid (k + 1 ≤ posL L p) := hid (zGO HK.out (by rw [HL.out]; exact hlt) (by rw [← HQ.out]; exact hb))
    have e0 := (HE4.out.below HB.out).c0
    go_wp2_with fail
    go_region
    go_wp2
    go_roundw
    case rel => exact ⟨k + 1, by go_num, by omega, HK1, hid HB.out.drew⟩
    case measure => simp [intOf]; omega
   | false =>
    have HPO : Hid (posL L p = k) := hid (zGP HK.out (by rw [HL.out]; exact hlt) (by rw [← HQ.out]; exact hb))
    have HER := hid ((HE4.out.below HB.out).drew)
    have HDR := hid ((HD4.out.below HB.out).below (Below.refl _ _).drew)
    have HRR := hid ((HR4.out.below HB.out).drew)
    have HBR : Hid (Below w4.heap.size w4 wr.drew) := hid HB.out.drew
    have HOR := hid (HO4.out.below HBR.out)
    obtain ⟨w5, hw5⟩ : ∃ w5, w5 = wr.drew := ⟨_, rfl⟩
    rw [← hw5] at HER HDR HRR HBR HOR
    have e0 := HER.out.c0
    have r0 := (HE4.out.below HB.out).c0
    go_wp2_with fail
    go_region
    rw [← hw5]
    clear hw5
    go_wp2_with fail
    refine (zEB (some ⟨b, off, none⟩) n c L w5 HOR.out hn).mono ?_
    rintro e w6 ⟨a6, c6, rfl, ho6, hb6⟩
    have HE6 := hid (HER.out.below hb6)
    have HD6 := hid (HDR.out.below hb6)
    have HR6 := hid (HRR.out.below hb6)
    have HG6 : Hid (B + 1 + 1 < w5.heap.size) := hid HRR.out.lt
    have HB6 : Hid (Below B w w6) := hid ((HB4.out.trans (HBR.out.mono (by have := HS4.out; omega))).trans (hb6.mono (by have := HG6.out; omega)))
    have HO6 := hid ho6
    have HG5 : Hid (w5.heap.size ≤ w6.heap.size) := hid hb6.size
    have hl6 := ho6.bounds.2.1
    have hm6 := ho6.bounds.2.2
    unfold maxLen at hm6
    clear ho6 hb6 e0 r0 d0
    clear c0 hb
    obtain ⟨g6, cur, rfl, hbg, hglt, hg6, hcs, ht6⟩ := HO6.out.form (HO6.out.some (by omega))
    clear hbg hglt hg6 hcs ht6
    have c6c := (OpS.at3 HO6.out.vs hlt).1
    rw [Nat.zero_add, ← HQ.out] at c6c
    cases he : (q == p) with
    | true =>
     have HIT : Hid (hitL L p = true) := hid (by rw [zFW HPO.out (by rw [HL.out]; exact hlt), ← zBh, ← HQ.out]; exact he)
     have HE7 := hid HE6.out.drew
     have HD7 : Hid (D3 w6.drew (B + 1) (p, g, s)) := hid (HD6.out.below (Below.refl _ _).drew)
     have HR7 := hid HR6.out.drew
     have HO7 := hid HO6.out.drew
     have HB7 : Hid (Below B w w6.drew) := hid HB6.out.drew
     have HG7 : Hid (w5.heap.size ≤ w6.drew.heap.size) := hid HG5.out
     obtain ⟨w7, hw7⟩ : ∃ w7, w7 = w6.drew := ⟨_, rfl⟩
     rw [← hw7] at HE7 HD7 HR7 HO7 HB7 HG7
     obtain ⟨d0, d1, d2⟩ := HD6.out.cells
     dsimp only at d0 d1 d2
     go_wp2_with fail
     go_region
     rw [← hw7]
     clear hw7 d0 d1 d2
     obtain ⟨d0, d1, d2⟩ := HD7.out.cells
     dsimp only at d0 d1 d2
     clear he c6c
     obtain ⟨g7, cur, hga, hbg, hglt, hg7, hcs, ht7⟩ := HO7.out.form (by simp)
     simp only [Option.some.injEq, Addr.mk.injEq, and_true] at hga
     subst hga
     obtain ⟨Z, hZ⟩ : ∃ Z, Z = cur.toList := ⟨_, rfl⟩
     have HZ7 : Hid (w7.heap[g6]? = some (.cells Z.toArray 38 (0, 0))) := hid (by rw [hZ]; simpa using hg7)
     have HZL : Hid (Z.length = c6 * 3 ∧ Z.take (n * 3) = cO L ∧ w5.heap.size ≤ g6) := hid ⟨by rw [hZ]; simpa using hcs, by rw [hZ]; exact ht7, hbg⟩
     clear hbg hglt hg7 hcs ht7 hZ
     have HADD : Hid (addE L (p, g, s) = 0 ∧ addL L (p, g, s) = L.take k ++ [(p, g, s)] ++ L.drop (k + 1)) := hid ⟨zIJ HM0.out HIT.out, zIK HPO.out HIT.out⟩
     have hk3 : k * 3 + 3 ≤ c6 * 3 := by omega
     go_wp2_with (first
      | (refine zAD rfl (.tmp 4) (.tmp 68) rfl (B + 1 + 1) rfl (some ⟨g6, 0, none⟩) n c6 z rfl HZ.out none 0 0 z0 zAF HR8.out ?_; intro wY hey hoy; have HEY := hid hey; have HOY := hid hoy; clear hey hoy)
      | (refine zD8 rfl (.tmp 66) rfl B rfl _ n c z HZ.out HE8.out ?_)
      | (refine zD7 rfl (.tmp 65) (.tmp 67) rfl _ _ _ z HZ.out rfl rfl ?_)
      | (refine zEE rfl 38 38 (.tmp 59) (.tmp 58) rfl g6 (k * 3) Z (cO [(p, g, s)]) rfl rfl zCm HZ7.out (by rw [HZL.out.1]; exact hk3) (zAX _) ?_; intro w8 hg8 ho8; have HG8 := hid hg8; have HQ8 := hid ho8; have HE8 : Hid (EB w8 B (some ⟨b, off, none⟩) n c z) := hid (HE7.out.only HQ8.out (by have := HZL.out.2.2; have := HG6.out; omega)); have HR8 : Hid (EB w8 (B + 1 + 1) none 0 0 z0) := hid (HR7.out.only HQ8.out (by have := HZL.out.2.2; have := HG6.out; omega)); clear hg8 ho8))
     refine bodyPost_ret (zAb rfl _ _ (B + 1 + 1) (some ⟨g6, 0, none⟩) n c6 z HZ.out rfl HEY.out) rfl ⟨some ⟨g6, 0, none⟩, n, c6, ?_, ?_, ?_⟩
     ·unfold addZ; rw [if_pos HADD.out.1, HADD.out.1]; rfl
     ·unfold addR; rw [if_pos HADD.out.1, HADD.out.2]
      have hls : (cO (L.drop (k + 1))).length = (n - (k + 1)) * 3 := by rw [cO_len, List.length_drop, HL.out]
      have ho : OwnO w5.heap.size w8 (some ⟨g6, 0, none⟩) n c6 (L.take k ++ [(p, g, s)] ++ L.drop (k + 1)) := by
       refine zIH HG8.out HZL.out.2.2 ?_ hl6 (by unfold maxLen; omega) ?_
       ·rw [length_splice _ _ _ (by rw [HZL.out.1]; exact hk3)]; exact HZL.out.1
       ·have := zJC Z (cO (L.take k)) (cO [opA L k]) (cO [(p, g, s)]) (cO (L.drop (k + 1))) (k * 3) 3 (by rw [cO_len, List.length_take, HL.out]; omega) rfl rfl (by
         rw [hls, show k * 3 + 3 + (n - (k + 1)) * 3 = n * 3 by omega, HZL.out.2.1, ← cO_app, ← cO_app, List.append_assoc, List.singleton_append, ← zFY (by rw [HL.out]; exact hlt), List.take_append_drop])
        rw [hls, show k * 3 + 3 + (n - (k + 1)) * 3 = n * 3 by omega] at this
        rw [this, cO_app, cO_app]
      exact (zBi ho HOY.out HG6.out).weak (by have := HG6.out; have := HBB.out; omega)
     ·rw [← HBB.out]; exact HB7.out.trans ((HQ8.out.below (by have := HZL.out.2.2; have := HG6.out; omega)).trans (HOY.out.below (by omega)))
    | false =>
     have HNO : Hid (hitL L p = false) := hid (by rw [zFW HPO.out (by rw [HL.out]; exact hlt), ← zBh, ← HQ.out]; exact he)
     have HE7 := hid HE6.out.drew
     have HD7 : Hid (D3 w6.drew (B + 1) (p, g, s)) := hid (HD6.out.below (Below.refl _ _).drew)
     have HR7 := hid HR6.out.drew
     have HO7 := hid HO6.out.drew
     have HB7 : Hid (Below B w w6.drew) := hid HB6.out.drew
     have HG7 : Hid (w5.heap.size ≤ w6.drew.heap.size) := hid HG5.out
     obtain ⟨w7, hw7⟩ : ∃ w7, w7 = w6.drew := ⟨_, rfl⟩
     rw [← hw7] at HE7 HD7 HR7 HO7 HB7 HG7
     obtain ⟨d0, d1, d2⟩ := HD6.out.cells
     dsimp only at d0 d1 d2
     go_wp2_with fail
     go_region
     rw [← hw7]
     clear hw7 d0 d1 d2
     obtain ⟨d0, d1, d2⟩ := HD7.out.cells
     dsimp only at d0 d1 d2
     clear he c6c
     by_cases hf : 16 ≤ n
     ·have hfd : decide ((16 : Int) ≤ (n : Int)) = true := by simp; omega
      have hbu : ∀ w, (Instr.build 34 #[]).run Tryz.prog w = .ok (.agg (ev none 0 0 z0)) w := fun w => zAx w
      have HF5 : Hid (addE L (p, g, s) = 5) := hid (zCF HM0.out HNO.out (by rw [HL.out]; exact hf))
      go_wp2_with (refine zAD rfl (.tmp 4) (.tmp 64) rfl (B + 1 + 1) rfl none 0 0 z0 rfl rfl none 0 0 z0 zAF HR7.out ?_; intro wY hey hoy; have HEY := hid hey; have HOY := hid hoy; clear hey hoy)
      refine bodyPost_ret (zAb rfl _ _ (B + 1 + 1) none 0 0 z0 zAF rfl HEY.out) rfl ⟨none, 0, 0, ?_, ?_, ?_⟩
      ·unfold addZ; rw [if_neg (by rw [HF5.out]; decide), HF5.out]; rfl
      ·unfold addR; rw [if_neg (by rw [HF5.out]; decide)]; exact OwnV.none0
      ·rw [← HBB.out]; exact HB7.out.trans (HOY.out.below (by omega))
     ·have hfd : decide ((16 : Int) ≤ (n : Int)) = false := by simp; omega
      have HADD : Hid (addE L (p, g, s) = 0 ∧ addL L (p, g, s) = L.take k ++ [(p, g, s)] ++ L.drop k) := hid ⟨zCn HM0.out HNO.out (by rw [HL.out]; exact hf), zDd HPO.out HNO.out⟩
      obtain ⟨w8, hw8⟩ : ∃ w8, w8 = w7.alloc (.cells #[.string (mk p), .int .i64 g, .int .i64 s] 38) := ⟨_, rfl⟩
      obtain ⟨vb, hvb⟩ : ∃ vb, vb = w7.heap.size := ⟨_, rfl⟩
      have HV8 : Hid (D3 w8 vb (p, g, s)) := hid (by rw [hw8, hvb]; exact D3.new w7 (p, g, s))
      have HE8 : Hid (EB w8 B (some ⟨b, off, none⟩) n c z) := hid (by rw [hw8]; exact HE7.out.alloc _)
      have HR8 : Hid (EB w8 (B + 1 + 1) none 0 0 z0) := hid (by rw [hw8]; exact HR7.out.alloc _)
      have HO8 : Hid (OwnO w5.heap.size w8 (some ⟨g6, 0, none⟩) n c6 L) := hid (by rw [hw8]; exact HO7.out.alloc _)
      have HNE : Hid (∀ g, ((some ⟨g6, 0, none⟩) : Option Addr) = some ⟨g, 0, none⟩ → vb ≠ g) := hid (fun g hg e => by
       subst e
       obtain ⟨g7, cur, hga, _, hglt, _⟩ := HO7.out.form (by rw [hg]; simp)
       rw [hg] at hga
       simp only [Option.some.injEq, Addr.mk.injEq] at hga
       omega)
      have HS8 : Hid (w5.heap.size ≤ w8.heap.size) := hid (by rw [hw8]; have := HG7.out; simp; omega)
      have HB8 : Hid (Below B w w8) := hid (by rw [hw8]; exact HB7.out.alloc (by have := HG7.out; have := HG6.out; omega) _)
      go_wp2_with fail
      rw [← hw8, ← hvb]
      clear hw8 hvb
      refine (zEy w5.heap.size (some ⟨g6, 0, none⟩) n c6 L k (p, g, s) vb w8 HO8.out hk hn HV8.out HNE.out HS8.out).mono ?_
      rintro e w9 ⟨a9, c9, rfl, ho9, hb9⟩
      have HE9 := hid (HE8.out.keep hb9 (by have := HG6.out; omega))
      have HR9 := hid (HR8.out.keep hb9 HG6.out)
      have HO9 := hid ho9
      have HB9 := hid (HB8.out.trans (hb9.mono (by have := HG6.out; omega)))
      clear ho9 hb9 d0 d1 d2
      go_wp2_with (first
       | (refine zD8 rfl (.tmp 66) rfl B rfl _ n c z HZ.out HE9.out ?_)
       | (refine zD7 rfl (.tmp 65) (.tmp 67) rfl _ _ _ z HZ.out rfl rfl ?_)
       | (refine zAD rfl (.tmp 4) (.tmp 68) rfl (B + 1 + 1) rfl a9 (n + 1) c9 z rfl HZ.out none 0 0 z0 zAF HR9.out ?_; intro wY hey hoy; have HEY := hid hey; have HOY := hid hoy; clear hey hoy))
      refine bodyPost_ret (zAb rfl _ _ (B + 1 + 1) a9 (n + 1) c9 z HZ.out rfl HEY.out) rfl ⟨a9, n + 1, c9, ?_, ?_, ?_⟩
      ·unfold addZ; rw [if_pos HADD.out.1, HADD.out.1]; rfl
      ·unfold addR; rw [if_pos HADD.out.1, HADD.out.2]
       exact (zBi HO9.out HOY.out HG6.out).weak (by have := HG6.out; have := HBB.out; omega)
      ·rw [← HBB.out]; exact HB9.out.trans (HOY.out.below (by omega))
  ·have hgd : decide ((k : Int) < (n : Int)) = false := by simpa using hlt
   have HPO : Hid (posL L p = k) := hid (by have := zHD L p; have := HK.out; have := HL.out; omega)
   have HER := hid ((HE4.out.below HB.out).drew)
   have HDR := hid ((HD4.out.below HB.out).below (Below.refl _ _).drew)
   have HRR := hid ((HR4.out.below HB.out).drew)
   have HBR : Hid (Below w4.heap.size w4 wr.drew) := hid HB.out.drew
   have HOR := hid (HO4.out.below HBR.out)
   obtain ⟨w5, hw5⟩ : ∃ w5, w5 = wr.drew := ⟨_, rfl⟩
   rw [← hw5] at HER HDR HRR HBR HOR
   have e0 := HER.out.c0
   have r0 := (HE4.out.below HB.out).c0
   go_wp2_with fail
   go_region
   rw [← hw5]
   clear hw5
   go_wp2_with fail
   refine (zEB a n c L w5 HOR.out hn).mono ?_
   rintro e w6 ⟨a6, c6, rfl, ho6, hb6⟩
   have HE6 := hid (HER.out.below hb6)
   have HD6 := hid (HDR.out.below hb6)
   have HR6 := hid (HRR.out.below hb6)
   have HG6 : Hid (B + 1 + 1 < w5.heap.size) := hid HRR.out.lt
   have HB6 : Hid (Below B w w6) := hid ((HB4.out.trans (HBR.out.mono (by have := HS4.out; omega))).trans (hb6.mono (by have := HG6.out; omega)))
   have HO6 := hid ho6
   have HG5 : Hid (w5.heap.size ≤ w6.heap.size) := hid hb6.size
   have hl6 := ho6.bounds.2.1
   have hm6 := ho6.bounds.2.2
   unfold maxLen at hm6
   clear ho6 hb6 e0 r0 d0
   have HNO : Hid (hitL L p = false) := hid (zFV (by rw [HPO.out, HL.out]; omega))
   have HE7 := hid HE6.out.drew
   have HD7 : Hid (D3 w6.drew (B + 1) (p, g, s)) := hid (HD6.out.below (Below.refl _ _).drew)
   have HR7 := hid HR6.out.drew
   have HO7 := hid HO6.out.drew
   have HB7 : Hid (Below B w w6.drew) := hid HB6.out.drew
   have HG7 : Hid (w5.heap.size ≤ w6.drew.heap.size) := hid HG5.out
   obtain ⟨w7, hw7⟩ : ∃ w7, w7 = w6.drew := ⟨_, rfl⟩
   rw [← hw7] at HE7 HD7 HR7 HO7 HB7 HG7
   obtain ⟨d0, d1, d2⟩ := HD6.out.cells
   dsimp only at d0 d1 d2
   go_wp2_with fail
   go_region
   rw [← hw7]
   clear hw7 d0 d1 d2
   obtain ⟨d0, d1, d2⟩ := HD7.out.cells
   dsimp only at d0 d1 d2
   by_cases hf : 16 ≤ n
   ·have hfd : decide ((16 : Int) ≤ (n : Int)) = true := by simp; omega
    have hbu : ∀ w, (Instr.build 34 #[]).run Tryz.prog w = .ok (.agg (ev none 0 0 z0)) w := fun w => zAx w
    have HF5 : Hid (addE L (p, g, s) = 5) := hid (zCF HM0.out HNO.out (by rw [HL.out]; exact hf))
    go_wp2_with (refine zAD rfl (.tmp 4) (.tmp 64) rfl (B + 1 + 1) rfl none 0 0 z0 rfl rfl none 0 0 z0 zAF HR7.out ?_; intro wY hey hoy; have HEY := hid hey; have HOY := hid hoy; clear hey hoy)
    refine bodyPost_ret (zAb rfl _ _ (B + 1 + 1) none 0 0 z0 zAF rfl HEY.out) rfl ⟨none, 0, 0, ?_, ?_, ?_⟩
    ·unfold addZ; rw [if_neg (by rw [HF5.out]; decide), HF5.out]; rfl
    ·unfold addR; rw [if_neg (by rw [HF5.out]; decide)]; exact OwnV.none0
    ·rw [← HBB.out]; exact HB7.out.trans (HOY.out.below (by omega))
   ·have hfd : decide ((16 : Int) ≤ (n : Int)) = false := by simp; omega
    have HADD : Hid (addE L (p, g, s) = 0 ∧ addL L (p, g, s) = L.take k ++ [(p, g, s)] ++ L.drop k) := hid ⟨zCn HM0.out HNO.out (by rw [HL.out]; exact hf), zDd HPO.out HNO.out⟩
    obtain ⟨w8, hw8⟩ : ∃ w8, w8 = w7.alloc (.cells #[.string (mk p), .int .i64 g, .int .i64 s] 38) := ⟨_, rfl⟩
    obtain ⟨vb, hvb⟩ : ∃ vb, vb = w7.heap.size := ⟨_, rfl⟩
    have HV8 : Hid (D3 w8 vb (p, g, s)) := hid (by rw [hw8, hvb]; exact D3.new w7 (p, g, s))
    have HE8 : Hid (EB w8 B a n c z) := hid (by rw [hw8]; exact HE7.out.alloc _)
    have HR8 : Hid (EB w8 (B + 1 + 1) none 0 0 z0) := hid (by rw [hw8]; exact HR7.out.alloc _)
    have HO8 : Hid (OwnO w5.heap.size w8 a6 n c6 L) := hid (by rw [hw8]; exact HO7.out.alloc _)
    have HNE : Hid (∀ g, (a6 : Option Addr) = some ⟨g, 0, none⟩ → vb ≠ g) := hid (fun g hg e => by
     subst e
     obtain ⟨g7, cur, hga, _, hglt, _⟩ := HO7.out.form (by rw [hg]; simp)
     rw [hg] at hga
     simp only [Option.some.injEq, Addr.mk.injEq] at hga
     omega)
    have HS8 : Hid (w5.heap.size ≤ w8.heap.size) := hid (by rw [hw8]; have := HG7.out; simp; omega)
    have HB8 : Hid (Below B w w8) := hid (by rw [hw8]; exact HB7.out.alloc (by have := HG7.out; have := HG6.out; omega) _)
    go_wp2_with fail
    rw [← hw8, ← hvb]
    clear hw8 hvb
    refine (zEy w5.heap.size a6 n c6 L k (p, g, s) vb w8 HO8.out hk hn HV8.out HNE.out HS8.out).mono ?_
    rintro e w9 ⟨a9, c9, rfl, ho9, hb9⟩
    have HE9 := hid (HE8.out.keep hb9 (by have := HG6.out; omega))
    have HR9 := hid (HR8.out.keep hb9 HG6.out)
    have HO9 := hid ho9
    have HB9 := hid (HB8.out.trans (hb9.mono (by have := HG6.out; omega)))
    clear ho9 hb9 d0 d1 d2
    go_wp2_with (first
     | (refine zD8 rfl (.tmp 66) rfl B rfl _ n c z HZ.out HE9.out ?_)
     | (refine zD7 rfl (.tmp 65) (.tmp 67) rfl _ _ _ z HZ.out rfl rfl ?_)
     | (refine zAD rfl (.tmp 4) (.tmp 68) rfl (B + 1 + 1) rfl a9 (n + 1) c9 z rfl HZ.out none 0 0 z0 zAF HR9.out ?_; intro wY hey hoy; have HEY := hid hey; have HOY := hid hoy; clear hey hoy))
    refine bodyPost_ret (zAb rfl _ _ (B + 1 + 1) a9 (n + 1) c9 z HZ.out rfl HEY.out) rfl ⟨a9, n + 1, c9, ?_, ?_, ?_⟩
    ·unfold addZ; rw [if_pos HADD.out.1, HADD.out.1]; rfl
    ·unfold addR; rw [if_pos HADD.out.1, HADD.out.2]
     exact (zBi HO9.out HOY.out HG6.out).weak (by have := HG6.out; have := HBB.out; omega)
    ·rw [← HBB.out]; exact HB9.out.trans (HOY.out.below (by omega))
end
section
open Go.RowKit
theorem zAr {base X : Nat} {w w' : World} {a a' : Option Addr} {n c n' c' : Nat} {z : List Int} {L : List OP} (h : OwnO base w a n c L) (hx : EB w X a' n' c' z) (ho : Only X w w') : OwnO base w' a n c L := by
 refine ⟨h.1, h.2.imp id ?_⟩
 rintro ⟨g, cp, cur, hv, hg, hb, r⟩
 refine ⟨g, cp, cur, hv, hg, (ho.block g fun e => ?_).trans hb, r⟩
 subst e
 unfold EB at hx
 rw [hb] at hx
 simp only [Option.some.injEq, Obj.cells.injEq] at hx
 exact absurd hx.2.1 (by decide)
theorem zGQ {w : World} {E : Nat} {a : Option Addr} {n c : Nat} {y0 y1 y2 y3 y4 y5 y6 y7 y8 y9 : Int} (h : EB w E a n c [y0, y1, y2, y3, y4, y5, y6, y7, y8, y9]) : w.cell? ⟨E, 0, none⟩ = some (.slice a n c) ∧ w.cell? ⟨E, 1, none⟩ = some (.int .i64 y0) ∧ w.cell? ⟨E, 2, none⟩ = some (.int .i64 y1) ∧ w.cell? ⟨E, 3, none⟩ = some (.int .i64 y2) ∧ w.cell? ⟨E, 4, none⟩ = some (.int .i64 y3) ∧ w.cell? ⟨E, 5, none⟩ = some (.int .i64 y4) ∧ w.cell? ⟨E, 6, none⟩ = some (.int .i64 y5) ∧ w.cell? ⟨E, 7, none⟩ = some (.int .i64 y6) ∧ w.cell? ⟨E, 8, none⟩ = some (.int .i64 y7) ∧ w.cell? ⟨E, 9, none⟩ = some (.int .i64 y8) ∧ w.cell? ⟨E, 10, none⟩ = some (.int .i64 y9) := by
 have hc : ∀ j : Nat, w.cell? ⟨E, j, none⟩ = (ev a n c [y0, y1, y2, y3, y4, y5, y6, y7, y8, y9])[j]? := fun j => cell_of_row w E j _ _ _ h
 exact ⟨hc 0, hc 1, hc 2, hc 3, hc 4, hc 5, hc 6, hc 7, hc 8, hc 9, hc 10⟩
end
end Go.Proofs.YtcjbhdgjcpnklaaGreatDoor
