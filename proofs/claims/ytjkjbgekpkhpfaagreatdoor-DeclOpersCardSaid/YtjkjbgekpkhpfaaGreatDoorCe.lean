/- Contract of decl.match: a clause held against a row. -/
import Derived.Test.YtjkjbgekpkhpfaaGreatDoorCd
namespace Go.Proofs.YtjkjbgekpkhpfaaGreatDoor
open Go.RowKit

theorem row_of {R : Nm} {r : List (Int × Nm)} (h : (pcs (toks (nb R))).map (fun p => p.map kt) = [r]) : ∃ W, pieces (nb R) = [pkOf 0 W] ∧ W.map kt = r := by
  obtain ⟨W, hW⟩ : ∃ W, pcs (toks (nb R)) = [W] := by
    match hh : pcs (toks (nb R)), h with
    | [W], _ => exact ⟨W, rfl⟩
  rw [hW] at h
  refine ⟨W, by unfold pieces; rw [hW]; rfl, ?_⟩
  simpa using h

theorem OwnT.weak {base base' : Nat} {e : TypeId} {w : World} {a : Option Addr} {len cap : Nat} {L : List TK} (h : OwnT base e w a len cap L) (hb : base' ≤ base) : OwnT base' e w a len cap L :=
  ⟨h.1, h.2.imp id fun ⟨g, cp, cur, hv, hg, r⟩ => ⟨g, cp, cur, hv, Nat.le_trans hb hg, r⟩⟩

set_option maxRecDepth 20000 in
set_option maxHeartbeats 4000000 in
theorem match_any (a : Option Addr) (n c : Nat) (L : List TK) (f0 t0 i0 : Int) (R : Nm) (r : List (Int × Nm)) (w : World) (h : Ts w a n c L) (ht : Tab w) (hr : (pcs (toks (nb R))).map (fun p => p.map kt) = [r]) (hR : R.length ≤ 1000) (hn : n ≤ 1000000) :
    Calls Tryz.prog 64 #[.agg #[.int .i64 f0, .int .i64 t0, .int .i64 i0, .slice a n c], .string (mk R)] w fun e w' => ∃ a' m c', e = .returned (.tuple #[.slice a' m c', .bool (rowB (L.map kt) r)]) ∧ (rowB (L.map kt) r = true → OwnT w.heap.size 96 w' a' m c' (fnd L r)) ∧ Below w.heap.size w w' := by
  have hlc := h.lc
  have hcm := h.cm
  unfold maxLen at hcm
  obtain ⟨W, hpc, hWr⟩ := row_of hr
  obtain ⟨B, hB⟩ : ∃ B, B = w.heap.size := ⟨_, rfl⟩
  obtain ⟨w1, hw1⟩ : ∃ w1, w1 = w.alloc (.cells #[.int .i64 f0, .int .i64 t0, .int .i64 i0, .slice a n c] 80) := ⟨_, rfl⟩
  have HB1 : Hid (Below w.heap.size w w1) := Lib.hid (by rw [hw1]; exact below_new w _)
  have hb3 : w1.cell? ⟨B, 3, none⟩ = some (.slice a n c) := by rw [hw1, hB]; exact (cell_of_row _ _ 3 _ _ _ (heap_alloc_new w _)).trans rfl
  have hB1 : B < w1.heap.size := by rw [hw1, hB]; simp
  obtain ⟨q, C, w2, hcv, hbs, hb2⟩ := conv_str w1 (mk R) (nb R) (toList_inj (by rw [mk_toList, bstr_nb])) (nb_rng' _) (by unfold nb; rw [List.length_map]; omega)
  have hlen : (nb R).length ≤ 1000000 := by unfold nb; rw [List.length_map]; omega
  obtain ⟨l, hl⟩ : ∃ l, l = nb R := ⟨_, rfl⟩
  rw [← hl] at hcv hbs hpc hlen
  obtain ⟨m0, hm0⟩ : ∃ m, m = l.length := ⟨_, rfl⟩
  rw [← hm0] at hcv hbs hlen
  have HB2 : Hid (Below w.heap.size w w2) := Lib.hid (HB1.out.trans (hb2.mono HB1.out.size))
  have HT2 : Hid (Tab w2) := Lib.hid (ht.keep HB2.out)
  have HX2 : Hid (w2.cell? ⟨B, 3, none⟩ = some (.slice a n c)) := Lib.hid ((hb2.cell hB1).trans hb3)
  have HS2 : Hid (B < w2.heap.size) := Lib.hid (Nat.lt_of_lt_of_le hB1 hb2.size)
  have HBS := Lib.hid hbs
  have HPC := Lib.hid hpc
  have HL := Lib.hid h.hl
  have H := Lib.hid h
  have HWR := Lib.hid hWr
  have HWL : Hid (W.length = r.length) := Lib.hid (by rw [← hWr, List.length_map])
  have HBB := Lib.hid hB
  clear h ht hr hR hpc hWr hB1 hbs hb2 hl hm0
  go_enter Tryz.func64, Tryz.ntmps64
  go_wp2_with fail
  rw [← hw1, ← hB]
  clear hw1 hB
  rw [hcv]
  simp only [Result.andThen]
  rw [Oper.upon_value]
  go_wp2_with fail
  clear hcv hb3
  refine (pieces_any _ _ _ l w2 HBS.out HT2.out hlen).mono ?_
  rw [HPC.out]
  rintro e w3 ⟨a9, n9, c9, V, rfl, hv, hvk, hb3⟩
  have HB3 : Hid (Below w.heap.size w w3) := Lib.hid (HB2.out.trans (hb3.mono HB2.out.size))
  have HX3 : Hid (w3.cell? ⟨B, 3, none⟩ = some (.slice a n c)) := Lib.hid ((hb3.cell HS2.out).trans HX2.out)
  have HS3 : Hid (B < w3.heap.size) := Lib.hid (Nat.lt_of_lt_of_le HS2.out hb3.size)
  obtain ⟨v, rfl⟩ : ∃ v, V = [v] := List.length_eq_one_iff.1 (by simpa using congrArg List.length hvk)
  · have hvL : v.s.L = W := by
      have : v.k = pkOf 0 W := by simpa using hvk
      exact congrArg PK.L this
    obtain rfl : n9 = 1 := (hv.hl).symm
    obtain ⟨b9, o9, rfl, _⟩ := hv.form (by decide)
    have y3 : w3.cell? ⟨b9, o9 + 3, none⟩ = some (.slice v.s.a v.s.n v.s.c) := by simpa [pvat] using (hv.at4 (k := 0) (by decide)).2.2.2
    have hTW : Ts w3 v.s.a v.s.n v.s.c W := by have := hv.ok v (List.mem_singleton.2 rfl); unfold SV.ok at this; rwa [hvL] at this
    obtain ⟨wa, hwa⟩ : ∃ x, x = v.s.a := ⟨_, rfl⟩
    obtain ⟨wn, hwn⟩ : ∃ x, x = v.s.n := ⟨_, rfl⟩
    obtain ⟨wc, hwc⟩ : ∃ x, x = v.s.c := ⟨_, rfl⟩
    rw [← hwa, ← hwn, ← hwc] at y3 hTW
    have HTW := Lib.hid hTW
    have HTL : Hid (Ts w3 a n c L) := Lib.hid (H.out.below HB3.out)
    have hwl := hTW.hl
    have x3 := HX3.out
    have hc9 := hv.row.lc
    clear hv hvk hvL hwa hwn hwc hTW hb3
    by_cases hne : n = wn
    · have HRL : Hid (r.length = n) := Lib.hid (by rw [← HWL.out, hwl, hne])
      subst hne
      go_wp2
      clear y3
      go_loopw [7, 25] (fun u v wr => ∃ a3, ∃ m q k : Nat, u = .slice a3 m q ∧ v = .int .i64 k ∧ k ≤ n ∧ Hid (∀ j, j < k → fitB (kat (L.map kt) j) (kat r j) = true) ∧ Hid ((fnd (L.take k) r).length = m) ∧ Hid (OwnT w3.heap.size 96 wr a3 m q (fnd (L.take k) r)) ∧ Hid (Below w3.heap.size w3 wr)) (fun _ v _ => n - (intOf v).toNat)
      case atStart => exact ⟨_, 0, 0, 0, rfl, rfl, by omega, Lib.hid fun j hj => by omega, Lib.hid (by rw [List.take_zero, fnd_nil]; rfl), Lib.hid (by rw [List.take_zero, fnd_nil]; exact OwnT.none0), Lib.hid (Below.refl _ _)⟩
      case round =>
        obtain ⟨a3, m, q3, k, rfl, rfl, hk, HK, HM, HO, HB⟩ := hrel
        have xr := (HB.out.cell HS3.out).trans x3
        have HMK : Hid (m ≤ k) := Lib.hid (by rw [← HM.out]; exact Nat.le_trans (fnd_len _ _) (by rw [List.length_take]; omega))
        by_cases hlt : k < n
        · have hs := HTL.out.below HB.out
          have hs' := HTW.out.below HB.out
          obtain ⟨b, o, rfl, hbl, hc⟩ := hs.at_ (by omega)
          clear hc
          obtain ⟨b', o', rfl, _, hc⟩ := hs'.at_ (by omega)
          clear hc
          obtain ⟨d0, d1, d2, d3, d4⟩ := hs'.at5 hlt
          obtain ⟨t, htt⟩ : ∃ t, t = tat L k := ⟨_, rfl⟩
          obtain ⟨u, huu⟩ : ∃ u, u = tat W k := ⟨_, rfl⟩
          have HKT : Hid (kat (L.map kt) k = kt t) := Lib.hid (by rw [htt, kat_kt (by rw [HL.out]; exact hlt)])
          have HKU : Hid (kat r k = kt u) := Lib.hid (by rw [huu, ← HWR.out, kat_kt (by rw [hwl]; exact hlt)])
          have HSN : Hid (fnd (L.take (k + 1)) r = fnd (L.take k) r ++ (if u.k = 3 then [t] else [])) := Lib.hid (by rw [fnd_snoc (by rw [HL.out]; exact hlt) (by rw [HRL.out]; exact hlt), HKU.out, htt]; rfl)
          rw [← huu] at d0 d1 d2 d3 d4
          obtain ⟨w4, hw4⟩ : ∃ w4, w4 = wr.alloc (.cells #[.int .i64 u.k, .int .i64 u.f, .int .i64 u.t, .string u.s, .int .i64 u.e] 96) := ⟨_, rfl⟩
          obtain ⟨w5, hw5⟩ : ∃ w5, w5 = w4.alloc (.cells #[.int .i64 t.k, .int .i64 t.f, .int .i64 t.t, .string t.s, .int .i64 t.e] 96) := ⟨_, rfl⟩
          have cc : ∀ ob : Obj, (wr.alloc ob).cell? ⟨b, o + k * 5, none⟩ = some (.int .i64 t.k) ∧ (wr.alloc ob).cell? ⟨b, o + k * 5 + 1, none⟩ = some (.int .i64 t.f) ∧ (wr.alloc ob).cell? ⟨b, o + k * 5 + 2, none⟩ = some (.int .i64 t.t) ∧ (wr.alloc ob).cell? ⟨b, o + k * 5 + 3, none⟩ = some (.string t.s) ∧ (wr.alloc ob).cell? ⟨b, o + k * 5 + 4, none⟩ = some (.int .i64 t.e) := fun ob => by rw [htt]; exact (hs.alloc ob).at5 hlt
          have c0 := fun ob => (cc ob).1
          have c1 := fun ob => (cc ob).2.1
          have c2 := fun ob => (cc ob).2.2.1
          have c3 := fun ob => (cc ob).2.2.2.1
          have c4 := fun ob => (cc ob).2.2.2.2
          have x4 : ∀ ob : Obj, (wr.alloc ob).cell? ⟨B, 3, none⟩ = some (.slice (some ⟨b, o, none⟩) n c) := fun ob => ((HB.out.alloc HB.out.size ob).cell HS3.out).trans x3
          have HB4 : Hid (Below w3.heap.size w3 w4) := Lib.hid (by rw [hw4]; exact HB.out.alloc HB.out.size _)
          have HB5 : Hid (Below w3.heap.size w3 w5) := Lib.hid (by rw [hw5]; exact HB4.out.alloc HB4.out.size _)
          obtain ⟨D, hD⟩ : ∃ D, D = wr.heap.size := ⟨_, rfl⟩
          obtain ⟨D', hD'⟩ : ∃ D', D' = D + 1 := ⟨_, rfl⟩
          have hs4 : w4.heap.size = D' := by rw [hw4, hD', hD]; simp
          have hu4 : T5 w4 D u := by rw [hw4, hD]; exact T5.new wr u
          have HU5 : Hid (T5 w5 D u) := Lib.hid (by rw [hw5]; exact hu4.below (below_new w4 _))
          have HT5 : Hid (T5 w5 D' t) := Lib.hid (by rw [hw5, ← hs4]; exact T5.new w4 t)
          have HO5 : Hid (OwnT w3.heap.size 96 w5 a3 m q3 (fnd (L.take k) r)) := Lib.hid (by rw [hw5, hw4]; exact (HO.out.alloc _).alloc _)
          obtain ⟨e0, e1, e2, e3, e4⟩ := HU5.out.cells
          obtain ⟨g0, g1, g2, g3, g4⟩ := HT5.out.cells
          clear hs hs' hu4 htt huu cc
          go_wp2_with fail
          rw [← hw4, ← hw5, ← hD, ← hD']
          clear hw4 hw5 hD hD' hs4 c0 c1 c2 c3 c4 x4 d0 d1 d2 d3 d4 xr
          refine (fits_any t u w5).mono ?_
          rintro e w6 ⟨rfl, hb6⟩
          have HB6 : Hid (Below w3.heap.size w3 w6) := Lib.hid (HB5.out.trans (hb6.mono HB5.out.size))
          have HBE6 : Hid (Below w.heap.size w w6) := Lib.hid (HB3.out.trans (HB6.out.mono HB3.out.size))
          have HO6 : Hid (OwnT w3.heap.size 96 w6 a3 m q3 (fnd (L.take k) r)) := Lib.hid (HO5.out.keep hb6 (Nat.le_refl _))
          have HU6 : Hid (T5 w6 D u) := Lib.hid (HU5.out.below hb6)
          have HT6 : Hid (T5 w6 D' t) := Lib.hid (HT5.out.below hb6)
          clear hb6 e0 e1 e2 e3 e4 g0 g1 g2 g3 g4
          cases hfit : fitB (kt t) (kt u) with
          | false =>
            have HF : Hid (rowB (L.map kt) r = false) := Lib.hid (rowB_no (k := k) (by rw [List.length_map, HL.out]; exact hlt) (by rw [HKT.out, HKU.out]; exact hfit))
            go_wp2
            go_ret2
            exact ⟨_, _, _, by rw [HF.out]; rfl, (fun h => by rw [HF.out] at h; cases h), HBE6.out⟩
          | true =>
            have HK1 : Hid (∀ j, j < k + 1 → fitB (kat (L.map kt) j) (kat r j) = true) := Lib.hid fun j hj => by
              by_cases hjk : j = k
              · subst hjk; rw [HKT.out, HKU.out]; exact hfit
              · exact HK.out j (by omega)
            obtain ⟨e0, e1, e2, e3, e4⟩ := HU6.out.cells
            obtain ⟨g0, g1, g2, g3, g4⟩ := HT6.out.cells
            cases hu3 : (u.k == 3) with
            | false =>
              have HSE : Hid (fnd (L.take (k + 1)) r = fnd (L.take k) r) := Lib.hid (by rw [HSN.out, if_neg (beq_eq_false_iff_ne.1 hu3), List.append_nil])
              go_wp2
              go_roundw
              case rel => exact ⟨_, m, _, k + 1, rfl, by go_num, by omega, HK1, by rw [HSE.out]; exact HM, by rw [HSE.out]; exact HO6, HB6⟩
              case measure => simp [intOf]; omega
            | true =>
              have HSE : Hid (fnd (L.take (k + 1)) r = fnd (L.take k) r ++ [t]) := Lib.hid (by rw [HSN.out, if_pos (eq_of_beq hu3)])
              go_wp2_with (at_builtin; refine wpList_appT rfl (.tmp 42) (.tmp 44) rfl w3.heap.size _ m _ (fnd (L.take k) r) rfl (HO6.out.alloc _) _ 1 _ [t] rfl (Ts.one _ _ t rfl rfl) (by have := HMK.out; omega) (Nat.le_trans HB6.out.size (by simp)) ?_; intro a7 c7 w7 ho7 _ hb7; have HO7 := Lib.hid ho7; have HB7 : Hid (Below w3.heap.size w3 w7) := Lib.hid ((HB6.out.alloc HB6.out.size _).trans hb7); clear ho7 hb7)
              go_roundw
              case rel => exact ⟨_, m + 1, _, k + 1, rfl, by go_num, by omega, HK1, Lib.hid (by rw [HSE.out, List.length_append, HM.out]; rfl), by rw [HSE.out]; exact HO7, HB7⟩
              case measure => simp [intOf]; omega
        · have HA : Hid (L.take k = L) := Lib.hid (List.take_of_length_le (by rw [HL.out]; omega))
          have HT : Hid (rowB (L.map kt) r = true) := Lib.hid (rowB_yes (by rw [List.length_map, HL.out, HRL.out]) fun j hj => HK.out j (by rw [List.length_map, HL.out] at hj; omega))
          have HBE : Hid (Below w.heap.size w wr) := Lib.hid (HB3.out.trans (HB.out.mono HB3.out.size))
          rw [HA.out] at HO
          go_wp2
          go_ret2
          exact ⟨_, _, _, by rw [HT.out]; rfl, fun _ => HO.out.weak HB3.out.size, HBE.out⟩
    · have HF : Hid (rowB (L.map kt) r = false) := Lib.hid (by
        cases hh : rowB (L.map kt) r with
        | false => rfl
        | true =>
          have h1 := rowB_len hh
          rw [List.length_map, HL.out, ← HWL.out, hwl] at h1
          exact absurd h1 hne)
      have hne' : ¬ ((n : Int) = (wn : Int)) := by omega
      go_wp2
      go_ret2
      exact ⟨_, _, _, by rw [HF.out]; rfl, (fun h => by rw [HF.out] at h; cases h), HB3.out⟩

end Go.Proofs.YtjkjbgekpkhpfaaGreatDoor
