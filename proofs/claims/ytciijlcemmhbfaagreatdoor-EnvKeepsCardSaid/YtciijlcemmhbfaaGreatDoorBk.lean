/- EnvKeeps (laid by genBk.py). -/
import Derived.Test.YtciijlcemmhbfaaGreatDoorBh
import Derived.Test.YtciijlcemmhbfaaGreatDoorBj
import Derived.Test.YtciijlcemmhbfaaGreatDoorAy
import Derived.Test.YtciijlcemmhbfaaGreatDoorAq
namespace Go.Proofs.YtciijlcemmhbfaaGreatDoor
open Go.RowKit

/-- A result: an env in block F, its operators in a row from base on, ahead of top. -/
def Res (w : World) (base top F : Nat) (b : Option Addr) (m d : Nat) : Prop := (∃ L, OwnO base w b m d L) ∧ (∀ g, b = some ⟨g, 0, none⟩ → g < top) ∧ ∃ Z, Z.length = 10 ∧ EB w F b m d Z
section
variable {w w' : World} {base top F : Nat} {b : Option Addr} {m d : Nat}
theorem Res.below (h : Res w base top F b m d) (hb : Below w.heap.size w w') : Res w' base top F b m d := by
  obtain ⟨⟨L, hL⟩, h2, Z, hZ, hE⟩ := h
  exact ⟨⟨L, hL.keep hb (Nat.le_refl _)⟩, h2, Z, hZ, hE.below hb⟩
theorem Res.c0 (h : Res w base top F b m d) : w.cell? ⟨F, 0, none⟩ = some (.slice b m d) := by obtain ⟨_, _, Z, _, hE⟩ := h; exact hE.c0
theorem Res.bounds (h : Res w base top F b m d) : m ≤ d ∧ d ≤ maxLen := by obtain ⟨⟨L, hL⟩, _⟩ := h; exact ⟨hL.bounds.2.1, hL.bounds.2.2⟩
theorem Res.other (h : Res w base top F b m d) {g : Nat} {c : Array Value} (hg : w.heap[g]? = some (.cells c 28 (0, 0))) (hne : g < base ∨ top ≤ g) (ho : Only g w w') : Res w' base top F b m d := by
  obtain ⟨⟨L, hL⟩, h2, Z, hZ, hE⟩ := h
  refine ⟨⟨L, hL.1, hL.2.imp id ?_⟩, h2, Z, hZ, hE.only ho ?_⟩
  · rintro ⟨q, cp, cur, hv, hq, hb, r⟩
    refine ⟨q, cp, cur, hv, hq, (ho.block q ?_).trans hb, r⟩
    simp only [Value.slice.injEq] at hv
    have := h2 q hv.1
    omega
  · intro e
    subst e
    unfold EB at hE
    rw [hg] at hE
    simp only [Option.some.injEq, Obj.cells.injEq] at hE
    exact absurd hE.2.1 (by decide)
/-- One operator of it is written over. -/
theorem Res.store (h : Res w base top F b m d) {k : Nat} (hk : k < m) (o : OP) : ∃ g Z, b = some ⟨g, 0, none⟩ ∧ base ≤ g ∧ g < top ∧ w.heap[g]? = some (.cells (Z : List Value).toArray 28 (0, 0)) ∧ k * 3 + 3 ≤ Z.length ∧ ∀ w', w'.heap[g]? = some (.cells (splice Z (k * 3) (cO [o])).toArray 28 (0, 0)) → Only g w w' → Res w' base top F b m d := by
  obtain ⟨⟨L, hL⟩, h2, Z, hZ, hE⟩ := h
  have hb := hL.bounds
  have hln := OpS.len hL.vs
  obtain ⟨g, cur, rfl, hbg, hlt, hg, hcs, ht⟩ := hL.form (hL.some (by omega))
  have hg' : w.heap[g]? = some (.cells cur.toList.toArray 28 (0, 0)) := by simpa using hg
  have hl : cur.toList.length = d * 3 := by simpa using hcs
  have hk3 : k * 3 + 3 ≤ d * 3 := by omega
  refine ⟨g, cur.toList, rfl, hbg, h2 g rfl, hg', by omega, fun w' hw ho => ⟨⟨L.take k ++ [o] ++ L.drop (k + 1), own_of hw hbg ?_ hb.2.1 hb.2.2 ?_⟩, h2, Z, hZ, hE.only ho ?_⟩⟩
  · rw [length_splice _ _ _ (by rw [cO_len]; simp; omega)]; exact hl
  · have hls : (cO (L.drop (k + 1))).length = (m - (k + 1)) * 3 := by rw [cO_len, List.length_drop, hln]
    have := splice_mid cur.toList (cO (L.take k)) (cO [opA L k]) (cO [o]) (cO (L.drop (k + 1))) (k * 3) 3 (by rw [cO_len, List.length_take, hln]; omega) rfl rfl (by
      rw [hls, show k * 3 + 3 + (m - (k + 1)) * 3 = m * 3 by omega, ht, ← cO_app, ← cO_app, List.append_assoc, List.singleton_append, ← opA_drop (by omega), List.take_append_drop])
    rw [hls, show k * 3 + 3 + (m - (k + 1)) * 3 = m * 3 by omega] at this
    rw [this, cO_app, cO_app]
  · intro e
    subst e
    unfold EB at hE
    rw [hg] at hE
    simp only [Option.some.injEq, Obj.cells.injEq] at hE
    exact absurd hE.2.1 (by decide)
end
theorem own_top {base : Nat} {w : World} {b : Option Addr} {m d : Nat} {L : List OP} (h : OwnO base w b m d L) : ∀ g, b = some ⟨g, 0, none⟩ → g < w.heap.size := fun g e => by
  obtain ⟨q, cur, hq, _, hlt, _⟩ := h.form (by rw [e]; simp)
  rw [e] at hq
  simp only [Option.some.injEq, Addr.mk.injEq] at hq
  omega
theorem addZ_len {L : List OP} {z : List Int} (hz : z.length = 10) (o : OP) : (addZ L z o).length = 10 := by
  unfold addZ; split
  · exact hz
  · rfl
theorem drpZ_len {L : List OP} {z : List Int} (hz : z.length = 10) (p : Nm) : (drpZ L z p).length = 10 := by
  unfold drpZ; split
  · exact hz
  · rfl
/-- What a call has answered, put into its block. -/
theorem res_put {w : World} {base X : Nat} {a : Option Addr} {n c : Nat} {z : List Int} {L : List OP} (hx : EB w X none 0 0 z0) (h : OwnO base w a n c L) (hz : z.length = 10) : Res (w.setRow X (ev a n c z)) base (w.setRow X (ev a n c z)).heap.size X a n c := by
  have ho := ownO_env h hx (Only.ofRow w X (ev a n c z))
  exact ⟨⟨L, ho⟩, own_top ho, z, hz, hx.row a n c z⟩
theorem zero_op : (#[.string ByteArray.empty, .int .i64 0, .int .i64 0] : Array Value) = (cO [([], 0, 0)]).toArray := rfl

set_option maxRecDepth 100000 in
set_option maxHeartbeats 32000000 in
theorem envKeeps_any (aC : Option Addr) (len cap : Nat) (C : List CH) (kk : Int) (o : OP) (G H : Int) (w : World) (ht : Tab w) (h : ChS w aC len cap C) (hok : ∀ x ∈ C, okC x) (hp : o.1.length ≤ 140737488355328) :
    Calls Tryz.prog 6 #[.slice aC len cap, .agg #[.int .u8 kk, .string (mk o.1), .int .i64 o.2.1, .int .i64 o.2.2, .int .i64 G, .int .i64 H]] w fun e w' => e = .returned (.bool true) ∧ Below w.heap.size w w' := by
  obtain ⟨B, hB⟩ : ∃ B, B = w.heap.size := ⟨_, rfl⟩
  obtain ⟨p, g, s⟩ := o
  dsimp only at hp ⊢
  have hnew : ∀ W : World, EB (W.alloc (.cells #[.slice none 0 0, .int .i64 0, .int .i64 0, .int .i64 0, .int .i64 0, .int .i64 0, .int .i64 0, .int .i64 0, .int .i64 0, .int .i64 0, .int .i64 0] 26)) W.heap.size none 0 0 z0 := fun W => EB.new W none 0 0 z0
  obtain ⟨w1, hw1⟩ : ∃ w1, w1 = w.alloc (.cells #[.int .u8 kk, .string (mk p), .int .i64 g, .int .i64 s, .int .i64 G, .int .i64 H] 30) := ⟨_, rfl⟩
  have hc1 : w1.heap[B]? = some (.cells #[.int .u8 kk, .string (mk p), .int .i64 g, .int .i64 s, .int .i64 G, .int .i64 H] 30 (0, 0)) := by rw [hw1, hB]; exact heap_alloc_new w _
  have HX : Hid (∀ w', Below w1.heap.size w1 w' → w'.cell? ⟨B, 1, none⟩ = some (.string (mk p)) ∧ w'.cell? ⟨B, 2, none⟩ = some (.int .i64 g) ∧ w'.cell? ⟨B, 3, none⟩ = some (.int .i64 s) ∧ w'.cell? ⟨B, 4, none⟩ = some (.int .i64 G) ∧ w'.cell? ⟨B, 5, none⟩ = some (.int .i64 H)) := Lib.hid fun w' hb => by
    have h2 := (hb.block B (Array.getElem?_eq_some_iff.1 hc1).1).trans hc1
    have hc : ∀ j : Nat, w'.cell? ⟨B, j, none⟩ = #[.int .u8 kk, .string (mk p), .int .i64 g, .int .i64 s, .int .i64 G, .int .i64 H][j]? := fun j => cell_of_row w' B j _ _ _ h2
    exact ⟨hc 1, hc 2, hc 3, hc 4, hc 5⟩
  have HB1 : Hid (Below B w w1) := Lib.hid (by rw [hw1, hB]; exact below_alloc w _)
  have HT1 : Hid (Tab w1) := Lib.hid (ht.keep (hB ▸ HB1.out))
  have HC1 : Hid (ChS w1 aC len cap C) := Lib.hid (Vs.below h (hB ▸ HB1.out))
  have HOK := Lib.hid hok
  have HP := Lib.hid hp
  have HBB := Lib.hid hB
  have hlc := h.lc
  have hcm := h.cm
  unfold maxLen at hcm
  obtain ⟨M, hM⟩ : ∃ M, M = mkE (C.take 40) := ⟨_, rfl⟩
  have hME := mkE_ok (C.take 40)
  rw [← hM] at hME
  have HMM := Lib.hid hM.symm
  obtain ⟨L, z⟩ := M
  dsimp only at hME
  have HL16 : Hid (L.length ≤ 16) := Lib.hid hME.2.2.1
  have HRG : Hid (∀ i, i < 10 → I64 (bt z i)) := Lib.hid hME.2.2.2.2
  obtain ⟨y0, y1, y2, y3, y4, y5, y6, y7, y8, y9, hzz⟩ := ten hME.2.2.2.1
  subst hzz
  clear ht h hok hp hc1 hME hM
  go_enter Tryz.func6, Tryz.ntmps6
  go_wp2_with fail
  rw [← hw1, ← hB]
  clear hw1 hB
  refine (shown_any w1 HT1.out).mono ?_
  rintro e w2 ⟨rfl, hb2⟩
  have HC2 : Hid (ChS w2 aC len cap C) := Lib.hid (Vs.below HC1.out hb2)
  have HB2 : Hid (Below w1.heap.size w1 w2) := Lib.hid hb2
  clear hb2
  go_wp2_with fail
  refine (rmake_any aC len cap C w2 HC2.out HOK.out).mono ?_
  rw [HMM.out]
  rintro e w3 ⟨a1, n1, c1, rfl, ho3, hb3⟩
  have HO3 := Lib.hid ho3
  have HC3 : Hid (ChS w3 aC len cap C) := Lib.hid (Vs.below HC2.out hb3)
  have HB3 : Hid (Below w1.heap.size w1 w3) := Lib.hid (HB2.out.trans (hb3.mono HB2.out.size))
  clear ho3 hb3
  go_wp2_with (refine store_env rfl (.tmp 6) (.tmp 19) rfl _ rfl a1 n1 c1 [y0, y1, y2, y3, y4, y5, y6, y7, y8, y9] rfl rfl none 0 0 z0 z0_len (hnew w3) ?_; intro w4 he4 hq4)
  obtain ⟨E1, hE1⟩ : ∃ E, E = w3.heap.size := ⟨_, rfl⟩
  rw [← hE1] at he4 hq4 ⊢
  have HE4 := Lib.hid he4
  have HB34 : Hid (Below w3.heap.size w3 w4) := Lib.hid ((below_alloc w3 _).trans (hq4.below (by rw [hE1]; exact Nat.le_refl _)))
  have HO4 : Hid (OpS w4 a1 n1 c1 L) := Lib.hid (HO3.out.vs.below HB34.out)
  have HC4 : Hid (ChS w4 aC len cap C) := Lib.hid (Vs.below HC3.out HB34.out)
  have HB4 : Hid (Below w1.heap.size w1 w4) := Lib.hid (HB3.out.trans (HB34.out.mono HB3.out.size))
  clear he4 hq4 hE1
  refine (rmake_any aC len cap C w4 HC4.out HOK.out).mono ?_
  rw [HMM.out]
  rintro e w5 ⟨a2, n2, c2, rfl, ho5, hb5⟩
  have HO5 := Lib.hid ho5
  have HO5a := Lib.hid (HO4.out.below hb5)
  have HE5 := Lib.hid (HE4.out.below hb5)
  have HB5 : Hid (Below w1.heap.size w1 w5) := Lib.hid (HB4.out.trans (hb5.mono HB4.out.size))
  clear ho5 hb5
  obtain ⟨E2, hE2⟩ : ∃ E, E = w5.heap.size := ⟨_, rfl⟩
  have HL1 : Hid (n1 = L.length ∧ n2 = L.length) := Lib.hid ⟨(OpS.len HO4.out).symm, (OpS.len HO5.out.vs).symm⟩
  go_wp2_with (first
    | (refine load_env rfl (.tmp 6) rfl E1 rfl a1 n1 c1 [y0, y1, y2, y3, y4, y5, y6, y7, y8, y9] rfl HE6.out ?_)
    | (refine store_env rfl (.tmp 7) (.tmp 21) rfl _ rfl a2 n2 c2 [y0, y1, y2, y3, y4, y5, y6, y7, y8, y9] rfl rfl none 0 0 z0 z0_len (hnew w5) ?_; intro w6 he6 hq6; rw [← hE2] at he6 hq6; have HF6 := Lib.hid he6; have HB56 : Hid (Below w5.heap.size w5 w6) := Lib.hid ((below_alloc w5 _).trans (hq6.below (by rw [hE2]; exact Nat.le_refl _))); have HE6 := Lib.hid (HE5.out.below HB56.out); have HB6 : Hid (Below w1.heap.size w1 w6) := Lib.hid (HB5.out.trans (HB56.out.mono HB5.out.size)); obtain ⟨p0, p1, p2, p3, p4⟩ := HX.out w6 HB6.out; clear he6 hq6))
  rw [← hE2]
  have HO6a : Hid (OpS w6 a1 n1 c1 L) := Lib.hid (HO5a.out.below HB56.out)
  have HO6b : Hid (OpS w6 a2 n2 c2 L) := Lib.hid (HO5.out.vs.below HB56.out)
  have HT6 : Hid (Tab w6) := Lib.hid (HT1.out.keep HB6.out)
  clear hE2 p0 p1 p2 p3 p4
  clear HC2 HC3 HC4 HO3 HO4 HO5 HO5a HE4 HE5 HB2 HB3 HB34 HB4 HB5 HB56
  have hn16 : n1 ≤ 16 := by have := HL1.out.1; have := HL16.out; omega
  refine (add_all a1 n1 c1 L [y0, y1, y2, y3, y4, y5, y6, y7, y8, y9] (p, g, s) w6 HT6.out HO6a.out rfl (by omega) HP.out).mono ?_
  rintro e w7 ⟨b1, m1, d1, rfl, ho7, hb7⟩
  obtain ⟨V1, hV1⟩ : ∃ V, V = addE L (p, g, s) := ⟨_, rfl⟩
  obtain ⟨Z1, hZ1⟩ : ∃ Z, Z = addZ L [y0, y1, y2, y3, y4, y5, y6, y7, y8, y9] (p, g, s) := ⟨_, rfl⟩
  have HZ1 : Hid (Z1.length = 10) := Lib.hid (by rw [hZ1]; exact addZ_len rfl _)
  rw [← hV1, ← hZ1]
  clear hV1 hZ1
  have HO7 := Lib.hid ho7
  have HB7 : Hid (Below w6.heap.size w6 w7) := Lib.hid hb7
  clear ho7 hb7
  go_wp2_with (refine store_env rfl (.tmp 8) (.tmp 27) rfl _ rfl b1 m1 d1 Z1 rfl HZ1.out none 0 0 z0 z0_len (hnew w7) ?_; intro w8 he8 hq8)
  obtain ⟨F1, hF1⟩ : ∃ F, F = w7.heap.size := ⟨_, rfl⟩
  have HR8 : Hid (Res w8 w6.heap.size w8.heap.size F1 b1 m1 d1) := Lib.hid (by
    have ho := ownO_env (HO7.out.alloc _) (hnew w7) hq8
    exact ⟨⟨_, ho⟩, own_top ho, Z1, HZ1.out, by rw [hF1]; exact he8⟩)
  have HB8 : Hid (Below w6.heap.size w6 w8) := Lib.hid ((HB7.out.alloc HB7.out.size _).trans (hq8.below HB7.out.size))
  rw [← hF1]
  clear he8 hq8 hF1 HO7 HB7
  have HS8 : Hid (w6.heap.size ≤ w8.heap.size) := Lib.hid HB8.out.size
  -- what holds in every world from here on
  have KW : Hid (∀ w', Below w8.heap.size w8 w' → Below w1.heap.size w1 w' ∧ EB w' E1 a1 n1 c1 [y0, y1, y2, y3, y4, y5, y6, y7, y8, y9] ∧ OpS w' a1 n1 c1 L ∧ Tab w') := Lib.hid fun w' h => by
    have h6 := HB8.out.trans (h.mono HS8.out)
    exact ⟨HB6.out.trans (h6.mono HB6.out.size), HE6.out.below h6, HO6a.out.below h6, HT6.out.keep h6⟩
  have KS : Hid (∀ w', Below w8.heap.size w8 w' → w'.cell? ⟨E1, 0, none⟩ = some (.slice a1 n1 c1) ∧ w'.cell? ⟨E1, 1, none⟩ = some (.int .i64 y0) ∧ w'.cell? ⟨E1, 2, none⟩ = some (.int .i64 y1) ∧ w'.cell? ⟨E1, 3, none⟩ = some (.int .i64 y2) ∧ w'.cell? ⟨E1, 4, none⟩ = some (.int .i64 y3) ∧ w'.cell? ⟨E1, 5, none⟩ = some (.int .i64 y4) ∧ w'.cell? ⟨E1, 6, none⟩ = some (.int .i64 y5) ∧ w'.cell? ⟨E1, 7, none⟩ = some (.int .i64 y6) ∧ w'.cell? ⟨E1, 8, none⟩ = some (.int .i64 y7) ∧ w'.cell? ⟨E1, 9, none⟩ = some (.int .i64 y8) ∧ w'.cell? ⟨E1, 10, none⟩ = some (.int .i64 y9) ∧ w'.cell? ⟨B, 1, none⟩ = some (.string (mk p)) ∧ w'.cell? ⟨B, 2, none⟩ = some (.int .i64 g) ∧ w'.cell? ⟨B, 3, none⟩ = some (.int .i64 s)) := Lib.hid fun w' h => by
    obtain ⟨e0, e1, e2, e3, e4, e5, e6, e7, e8, e9, e10⟩ := env_cells (KW.out w' h).2.1
    obtain ⟨q1, q2, q3, _, _⟩ := HX.out w' (KW.out w' h).1
    exact ⟨e0, e1, e2, e3, e4, e5, e6, e7, e8, e9, e10, q1, q2, q3⟩
  obtain ⟨V2, hV2⟩ : ∃ V, V = drpE L (pat (fitQ p)) := ⟨_, rfl⟩
  obtain ⟨Z2, hZ2⟩ : ∃ Z, Z = drpZ L [y0, y1, y2, y3, y4, y5, y6, y7, y8, y9] (pat (fitQ p)) := ⟨_, rfl⟩
  have hZ2l : Z2.length = 10 := by rw [hZ2]; exact drpZ_len rfl _
  have KD : Hid (∀ w', OpS w' a1 n1 c1 L → Calls Tryz.prog 11 #[.agg (ev a1 n1 c1 [y0, y1, y2, y3, y4, y5, y6, y7, y8, y9]), .string (mk (pat (fitQ p)))] w' fun e w'' => ∃ a' n' c', e = .returned (.tuple #[.agg (ev a' n' c' Z2), .int .i64 V2]) ∧ OwnO w'.heap.size w'' a' n' c' (drpL L (pat (fitQ p))) ∧ Below w'.heap.size w' w'') := Lib.hid fun w' h1 => by
    rw [hV2, hZ2]
    exact drop_any a1 n1 c1 L [y0, y1, y2, y3, y4, y5, y6, y7, y8, y9] (pat (fitQ p)) w' h1 rfl (by omega)
  clear hV2 hZ2
  have hst : ∀ (a' : Option Addr) (n' c' X : Nat) (W : World), EB W X none 0 0 z0 → (storeCells ⟨X, 0, none⟩ (ev a' n' c' Z2).toList).run Tryz.prog W = .ok () (W.setRow X (ev a' n' c' Z2)) := fun a' n' c' X W h => run_store_env W X h a' n' c' Z2 hZ2l
  have hsz : ∀ (a : Option Addr) (n c : Nat), (ev a n c Z2).size = 11 := fun a n c => ev_size hZ2l
  have hfd : ∀ (q : Nm) (u v : Int) (w : World), (Instr.field 28 (.agg #[.string (mk q), .int .i64 u, .int .i64 v]) 0).run Tryz.prog w = .ok (.string (mk q)) w := fun q u v w => by kernel_rfl
  go_upto_region 5 with fail
  go_cut [10, 11] (fun u v wx => ∃ F b m d, u = .pointer (some ⟨F, 0, none⟩) ∧ v = .int .i64 V2 ∧ Hid (Res wx w8.heap.size wx.heap.size F b m d) ∧ Hid (Below w8.heap.size w8 wx))
  case first =>
    go_region_held3 (fun w' => w'.cell? ⟨E1, 0, none⟩ = some (.slice a1 n1 c1) ∧ w'.cell? ⟨E1, 1, none⟩ = some (.int .i64 y0) ∧ w'.cell? ⟨E1, 2, none⟩ = some (.int .i64 y1) ∧ w'.cell? ⟨E1, 3, none⟩ = some (.int .i64 y2) ∧ w'.cell? ⟨E1, 4, none⟩ = some (.int .i64 y3) ∧ w'.cell? ⟨E1, 5, none⟩ = some (.int .i64 y4) ∧ w'.cell? ⟨E1, 6, none⟩ = some (.int .i64 y5) ∧ w'.cell? ⟨E1, 7, none⟩ = some (.int .i64 y6) ∧ w'.cell? ⟨E1, 8, none⟩ = some (.int .i64 y7) ∧ w'.cell? ⟨E1, 9, none⟩ = some (.int .i64 y8) ∧ w'.cell? ⟨E1, 10, none⟩ = some (.int .i64 y9) ∧ w'.cell? ⟨B, 1, none⟩ = some (.string (mk p)) ∧ w'.cell? ⟨B, 2, none⟩ = some (.int .i64 g) ∧ w'.cell? ⟨B, 3, none⟩ = some (.int .i64 s))
      (first
        | exact KS.out _ ((HB10.out.alloc HB10.out.size _).trans ((Only.ofRow _ _ _).below HB10.out.size))
        | exact KS.out _ (HB10.out.trans ((Only.ofRow _ _ _).below HB9.out.size))
        | exact KS.out _ (HB10.out.trans ((Only.ofRow _ _ _).below (Nat.le_refl _)))
        | exact KS.out _ HB10.out
        | exact KS.out _ (HB10.out.alloc HB10.out.size _)
        | exact KS.out _ HB9.out
        | exact KS.out _ (HB9.out.alloc HB9.out.size _)
        | exact KS.out _ ((Below.refl _ _).drew.alloc (Nat.le_refl _) _)
        | exact KS.out _ (Below.refl _ _).drew)
      (first
        | (go_at_call 11; (refine (KD.out _ (KW.out _ (by first | exact HB9.out | exact HB9.out.alloc HB9.out.size _)).2.2.1).mono ?_); rintro e w10 ⟨a10, n10, c10, rfl, ho10, hb10⟩; have HO10 := Lib.hid (ho10.weak (by first | exact HB9.out.size | exact Nat.le_trans HB9.out.size (by simp))); (try have hx10 : EB w10 w9.heap.size none 0 0 z0 := (hnew w9).below hb10); (try have hx10 : EB w10 w8.heap.size none 0 0 z0 := hx9.below hb10); have HB10 : Hid (Below w8.heap.size w8 w10) := Lib.hid (by first | exact HB9.out.trans (hb10.mono HB9.out.size) | exact (HB9.out.alloc HB9.out.size _).trans (hb10.mono (Nat.le_trans HB9.out.size (by simp)))); clear ho10 hb10)
        | (go_at_call 28; (refine (fit_any p g s _ HP.out).mono ?_); rintro e w9 ⟨rfl, hb9⟩; (try have hx9 : EB w9 w8.heap.size none 0 0 z0 := (hnew w8.drew).below hb9); have HB9 : Hid (Below w8.heap.size w8 w9) := Lib.hid (by first | exact (Below.refl _ _).drew.trans hb9 | exact ((Below.refl _ _).drew.alloc (Nat.le_refl _) _).trans (hb9.mono (by simp))); clear hb9))
    all_goals
      go_wp2
      go_meet
      first
        | exact ⟨_, _, _, _, rfl, rfl, Lib.hid (res_put hx10 HO10.out hZ2l), Lib.hid (HB10.out.trans ((Only.ofRow _ _ _).below HB9.out.size))⟩
        | exact ⟨_, _, _, _, rfl, rfl, Lib.hid (res_put hx10 HO10.out hZ2l), Lib.hid (HB10.out.trans ((Only.ofRow _ _ _).below (Nat.le_refl _)))⟩
        | exact ⟨_, _, _, _, rfl, rfl, Lib.hid (res_put (hnew w10) (HO10.out.alloc _) hZ2l), Lib.hid ((HB10.out.alloc HB10.out.size _).trans ((Only.ofRow _ _ _).below HB10.out.size))⟩
  case rest =>
  obtain ⟨F2, b2, m2, d2, rfl, rfl, HRc, HBc⟩ := hcut
  clear hst hsz KD hZ2l hfd
  obtain ⟨wk, hwk⟩ : ∃ wk, wk = wc := ⟨_, rfl⟩
  rw [← hwk] at HRc HBc ⊢
  clear hwk
  have HT8 : Hid (Tab wk) := Lib.hid (KW.out _ HBc.out).2.2.2
  obtain ⟨V3, hV3⟩ : ∃ V, V = eE [y0, y1, y2, y3, y4, y5, y6, y7, y8, y9] G H := ⟨_, rfl⟩
  obtain ⟨Z3, hZ3⟩ : ∃ Z, Z = eV [y0, y1, y2, y3, y4, y5, y6, y7, y8, y9] G H := ⟨_, rfl⟩
  have HZ3 : Hid (Z3.length = 10) := Lib.hid (by rw [hZ3]; exact eV_len ..)
  obtain ⟨p0, p1, p2, p3, p4⟩ := HX.out wk (KW.out _ HBc.out).1
  have HEk : Hid (EB wk E1 a1 n1 c1 [y0, y1, y2, y3, y4, y5, y6, y7, y8, y9]) := Lib.hid (KW.out _ HBc.out).2.1
  have HOk : Hid (OpS wk a1 n1 c1 L) := Lib.hid (KW.out _ HBc.out).2.2.1
  go_wp2_with (refine load_env rfl (.tmp 6) rfl E1 rfl a1 n1 c1 [y0, y1, y2, y3, y4, y5, y6, y7, y8, y9] rfl HEk.out ?_)
  clear p0 p1 p2 p3 p4
  refine (envEdge_any a1 n1 c1 L [y0, y1, y2, y3, y4, y5, y6, y7, y8, y9] G H wk HOk.out rfl HRG.out (by omega)).mono ?_
  rw [← hV3, ← hZ3]
  clear hV3 hZ3
  rintro e ws ⟨b3, m3, d3, rfl, hos, hbs⟩
  have HOs := Lib.hid hos
  have HBs : Hid (Below wk.heap.size wk ws) := Lib.hid hbs
  clear hos hbs
  go_wp2_with (refine store_env rfl (.tmp 12) (.tmp 45) rfl _ rfl b3 m3 d3 Z3 rfl HZ3.out none 0 0 z0 z0_len (hnew ws) ?_; intro wt het hqt)
  obtain ⟨F3, hF3⟩ : ∃ F, F = ws.heap.size := ⟨_, rfl⟩
  have HC' : Hid (Res wt wk.heap.size wt.heap.size F3 b3 m3 d3) := Lib.hid (by
    have ho := ownO_env (HOs.out.alloc _) (hnew ws) hqt
    exact ⟨⟨_, ho⟩, own_top ho, Z3, HZ3.out, by rw [hF3]; exact het⟩)
  have HBt : Hid (Below wk.heap.size wk wt) := Lib.hid ((HBs.out.alloc HBs.out.size _).trans (hqt.below HBs.out.size))
  rw [← hF3]
  clear het hqt hF3 HOs HBs hnew
  have HA : Hid (Res wt w6.heap.size w8.heap.size F1 b1 m1 d1) := Lib.hid ((HR8.out.below HBc.out).below HBt.out)
  have HB' : Hid (Res wt w8.heap.size wk.heap.size F2 b2 m2 d2) := Lib.hid (HRc.out.below HBt.out)
  have HW : Hid (Below w6.heap.size w6 wt) := Lib.hid (HB8.out.trans ((HBc.out.trans (HBt.out.mono HBc.out.size)).mono HB8.out.size))
  have HSS : Hid (w6.heap.size ≤ w8.heap.size ∧ w8.heap.size ≤ wk.heap.size ∧ wk.heap.size ≤ wt.heap.size) := Lib.hid ⟨HB8.out.size, HBc.out.size, HBt.out.size⟩
  clear KW KS HR8 HRc HBc HBt HB8 HS8 HEk HOk HT8 HT6 HRG HC1 HOK HMM
  -- result 1: written over
  go_wp2
  go_loopw [14] (fun v wr => ∃ k : Nat, v = .int .i64 k ∧ k ≤ m1 ∧ Hid (Res wr w6.heap.size w8.heap.size F1 b1 m1 d1) ∧ Hid (Res wr w8.heap.size wk.heap.size F2 b2 m2 d2) ∧ Hid (Res wr wk.heap.size wt.heap.size F3 b3 m3 d3) ∧ Hid (Below w6.heap.size w6 wr)) (fun v _ => m1 - (intOf v).toNat)
  case atStart => exact ⟨0, rfl, Nat.zero_le _, HA, HB', HC', HW⟩
  case round =>
    clear HA HB' HC' HW
    obtain ⟨k, rfl, hk, HA, HB', HC', HW⟩ := hrel
    have e0 := HA.out.c0
    have hbd := HA.out.bounds
    have hbd1 := hbd.1
    have hbd2 := hbd.2
    unfold maxLen at hbd2
    clear hbd
    by_cases hlt : k < m1
    · have hlt' : (k : Int) < (m1 : Int) := by omega
      obtain ⟨q, Zq, rfl, hbq, htq, hgq, hlq, hstq⟩ := HA.out.store hlt ([], 0, 0)
      have HQ := Lib.hid (And.intro hbq (And.intro htq hstq))
      have HG := Lib.hid hgq
      clear hbq htq hgq hstq
      go_wp2_with (refine wpList_store_at rfl 28 28 (.tmp 58) (.tmp 57) rfl q (k * 3) Zq (cO [([], 0, 0)]) rfl rfl op_size3 HG.out hlq (cO_one _) ?_; intro wn hgn hon; have HGN := Lib.hid hgn; have HON := Lib.hid hon; clear hgn hon)
      have HA1 : Hid (Res wn w6.heap.size w8.heap.size F1 (some ⟨q, 0, none⟩) m1 d1) := Lib.hid (HQ.out.2.2 wn HGN.out HON.out)
      have HB1' : Hid (Res wn w8.heap.size wk.heap.size F2 b2 m2 d2) := Lib.hid (HB'.out.other HG.out (.inl (by have := HQ.out; have := HSS.out; omega)) HON.out)
      have HC1' : Hid (Res wn wk.heap.size wt.heap.size F3 b3 m3 d3) := Lib.hid (HC'.out.other HG.out (.inl (by have := HQ.out; have := HSS.out; omega)) HON.out)
      have HW1 : Hid (Below w6.heap.size w6 wn) := Lib.hid (HW.out.trans (HON.out.below (by have := HQ.out.1; have := HSS.out; omega)))
      go_wp2
      go_roundw
      case rel => exact ⟨k + 1, by go_num, by omega, HA1, HB1', HC1', HW1⟩
      case measure => simp [intOf]; omega
    · have hlt' : ¬ (k : Int) < (m1 : Int) := by omega
      -- result 2: written over
      go_wp2
      go_loopw [15] (fun v wr => ∃ k : Nat, v = .int .i64 k ∧ k ≤ m2 ∧ Hid (Res wr w6.heap.size w8.heap.size F1 b1 m1 d1) ∧ Hid (Res wr w8.heap.size wk.heap.size F2 b2 m2 d2) ∧ Hid (Res wr wk.heap.size wt.heap.size F3 b3 m3 d3) ∧ Hid (Below w6.heap.size w6 wr)) (fun v _ => m2 - (intOf v).toNat)
      case atStart => exact ⟨0, rfl, Nat.zero_le _, HA, HB', HC', HW⟩
      case round =>
        clear HA HB' HC' HW
        obtain ⟨k, rfl, hk, HA, HB', HC', HW⟩ := hrel
        have e0 := HB'.out.c0
        have hbd := HB'.out.bounds
        have hbd1 := hbd.1
        have hbd2 := hbd.2
        unfold maxLen at hbd2
        clear hbd
        by_cases hlt : k < m2
        · have hlt' : (k : Int) < (m2 : Int) := by omega
          obtain ⟨q, Zq, rfl, hbq, htq, hgq, hlq, hstq⟩ := HB'.out.store hlt ([], 0, 0)
          have HQ := Lib.hid (And.intro hbq (And.intro htq hstq))
          have HG := Lib.hid hgq
          clear hbq htq hgq hstq
          go_wp2_with (refine wpList_store_at rfl 28 28 (.tmp 70) (.tmp 69) rfl q (k * 3) Zq (cO [([], 0, 0)]) rfl rfl op_size3 HG.out hlq (cO_one _) ?_; intro wn hgn hon; have HGN := Lib.hid hgn; have HON := Lib.hid hon; clear hgn hon)
          have HA1 : Hid (Res wn w6.heap.size w8.heap.size F1 b1 m1 d1) := Lib.hid (HA.out.other HG.out (.inr (by have := HQ.out; have := HSS.out; omega)) HON.out)
          have HB1' : Hid (Res wn w8.heap.size wk.heap.size F2 (some ⟨q, 0, none⟩) m2 d2) := Lib.hid (HQ.out.2.2 wn HGN.out HON.out)
          have HC1' : Hid (Res wn wk.heap.size wt.heap.size F3 b3 m3 d3) := Lib.hid (HC'.out.other HG.out (.inl (by have := HQ.out; have := HSS.out; omega)) HON.out)
          have HW1 : Hid (Below w6.heap.size w6 wn) := Lib.hid (HW.out.trans (HON.out.below (by have := HQ.out.1; have := HSS.out; omega)))
          go_wp2
          go_roundw
          case rel => exact ⟨k + 1, by go_num, by omega, HA1, HB1', HC1', HW1⟩
          case measure => simp [intOf]; omega
        · have hlt' : ¬ (k : Int) < (m2 : Int) := by omega
          -- result 3: written over
          go_wp2
          go_loopw [16] (fun v wr => ∃ k : Nat, v = .int .i64 k ∧ k ≤ m3 ∧ Hid (Res wr w6.heap.size w8.heap.size F1 b1 m1 d1) ∧ Hid (Res wr w8.heap.size wk.heap.size F2 b2 m2 d2) ∧ Hid (Res wr wk.heap.size wt.heap.size F3 b3 m3 d3) ∧ Hid (Below w6.heap.size w6 wr)) (fun v _ => m3 - (intOf v).toNat)
          case atStart => exact ⟨0, rfl, Nat.zero_le _, HA, HB', HC', HW⟩
          case round =>
            clear HA HB' HC' HW
            obtain ⟨k, rfl, hk, HA, HB', HC', HW⟩ := hrel
            have e0 := HC'.out.c0
            have hbd := HC'.out.bounds
            have hbd1 := hbd.1
            have hbd2 := hbd.2
            unfold maxLen at hbd2
            clear hbd
            by_cases hlt : k < m3
            · have hlt' : (k : Int) < (m3 : Int) := by omega
              obtain ⟨q, Zq, rfl, hbq, htq, hgq, hlq, hstq⟩ := HC'.out.store hlt ([], 0, 0)
              have HQ := Lib.hid (And.intro hbq (And.intro htq hstq))
              have HG := Lib.hid hgq
              clear hbq htq hgq hstq
              go_wp2_with (refine wpList_store_at rfl 28 28 (.tmp 82) (.tmp 81) rfl q (k * 3) Zq (cO [([], 0, 0)]) rfl rfl op_size3 HG.out hlq (cO_one _) ?_; intro wn hgn hon; have HGN := Lib.hid hgn; have HON := Lib.hid hon; clear hgn hon)
              have HA1 : Hid (Res wn w6.heap.size w8.heap.size F1 b1 m1 d1) := Lib.hid (HA.out.other HG.out (.inr (by have := HQ.out; have := HSS.out; omega)) HON.out)
              have HB1' : Hid (Res wn w8.heap.size wk.heap.size F2 b2 m2 d2) := Lib.hid (HB'.out.other HG.out (.inr (by have := HQ.out; have := HSS.out; omega)) HON.out)
              have HC1' : Hid (Res wn wk.heap.size wt.heap.size F3 (some ⟨q, 0, none⟩) m3 d3) := Lib.hid (HQ.out.2.2 wn HGN.out HON.out)
              have HW1 : Hid (Below w6.heap.size w6 wn) := Lib.hid (HW.out.trans (HON.out.below (by have := HQ.out.1; have := HSS.out; omega)))
              go_wp2
              go_roundw
              case rel => exact ⟨k + 1, by go_num, by omega, HA1, HB1', HC1', HW1⟩
              case measure => simp [intOf]; omega
            · have hlt' : ¬ (k : Int) < (m3 : Int) := by omega
              have HEa : Hid (EB wr E1 a1 n1 c1 [y0, y1, y2, y3, y4, y5, y6, y7, y8, y9]) := Lib.hid (HE6.out.below HW.out)
              have HEb : Hid (EB wr E2 a2 n2 c2 [y0, y1, y2, y3, y4, y5, y6, y7, y8, y9]) := Lib.hid (HF6.out.below HW.out)
              go_wp2_with (first
                | (refine load_env rfl (.tmp 6) rfl E1 rfl a1 n1 c1 [y0, y1, y2, y3, y4, y5, y6, y7, y8, y9] rfl HEa.out ?_)
                | (refine load_env rfl (.tmp 7) rfl E2 rfl a2 n2 c2 [y0, y1, y2, y3, y4, y5, y6, y7, y8, y9] rfl HEb.out ?_))
              refine (equal_any a1 a2 n1 n2 c1 c2 L L [y0, y1, y2, y3, y4, y5, y6, y7, y8, y9] [y0, y1, y2, y3, y4, y5, y6, y7, y8, y9] wr (HO6a.out.below HW.out) (HO6b.out.below HW.out) rfl rfl (by omega) (by have := HL1.out; have := HL16.out; omega)).mono ?_
              rintro e w9 ⟨rfl, hb9⟩
              rw [decide_eq_true (show L = L ∧ [y0, y1, y2, y3, y4, y5, y6, y7, y8, y9] = [y0, y1, y2, y3, y4, y5, y6, y7, y8, y9] from ⟨rfl, rfl⟩)]
              have HX9 : Hid (Below B w w9) := Lib.hid (HB1.out.trans ((HB6.out.trans ((HW.out.trans (hb9.mono HW.out.size)).mono HB6.out.size)).mono (by have := HB1.out.size; have := HBB.out; omega)))
              clear hb9
              go_wp2
              go_ret
              exact ⟨rfl, by rw [← HBB.out]; exact HX9.out⟩

end Go.Proofs.YtciijlcemmhbfaaGreatDoor
