/- scope.own, scope.owned. -/
import Derived.Test.YtcpmpidpoelleaaGreatDoorZd
namespace Go.Proofs.YtcpmpidpoelleaaGreatDoor
open Go.RowKit

/-- make([]T, n), whatever an element's size: a new row, its world a letter. -/
theorem wpList_makek {P : Program} {ops : Array Oper} {rest : List Oper} {o : Oper} {a : Act} {w : World} {Q : Exit → Act → World → Prop} (hg : o.guard = none) (l c : Operand) (t : TypeId) (hop : o.op = .makeSlice t l c)
    (e k by_ : Nat) (z : Value) (ht : P.underlying t = some (.slice e)) (hinf : (P.info? e).map (fun i => (i.zero, i.size, i.bytes)) = some (some z, k, by_))
    (n : Nat) (hl : a.eval l = .int .i64 n) (hc : a.eval c = .int .i64 n) (hbytes : by_ * n ≤ 281474976710656) (h63 : n ≤ 9223372036854775807)
    (h : ∀ (cur : List Value) w', w'.heap[w.heap.size]? = some (.cells cur.toArray e (0, 0)) → cur.length = n * k → Below w.heap.size w w' → w'.heap.size = w.heap.size + 1 → wpList P ops Q rest (a.put o.dst (.slice (some ⟨w.heap.size, 0, none⟩) n n)) w') : wpList P ops Q (o :: rest) a w := by
  refine wpList_plain hg fun K hK => ?_
  obtain ⟨i, hi, hz, hsz, hby⟩ := info_parts hinf
  have hb' : (i.bytes : Int) * (n : Int) ≤ 281474976710656 := by
    have h : ((i.bytes * n : Nat) : Int) ≤ 281474976710656 := by rw [hby]; omega
    rwa [Int.natCast_mul] at h
  have hr := run_make (P := P) w t e i z ht hi hz .i64 .i64 n n (by omega) (Int.le_refl _) hb' (by omega)
  simp only [Int.toNat_natCast] at hr
  unfold Oper.wp
  simp only [execOp, hop, hl, hc, hr, Sem.run_bind, Result.andThen_ok, Sem.run_pure]
  refine hK _ _ (h (madeCells z.cells (n * i.size)).toList _ ?_ (by rw [Array.length_toList, size_madeCells, hsz]) ((Below.refl _ _).alloc (Nat.le_refl _) _) (by simp))
  rw [heap_alloc_new]
/-- copy out of nothing. -/
theorem wpList_copy_nil {P : Program} {w : World} {ops : Array Oper} {rest : List Oper} {o : Oper} {a : Act} {Q : Exit → Act → World → Prop} (hgd : o.guard = none) (d s : Operand) (dT sT : TypeId)
    (ho : o.op = .call { callee := .builtin .copy, args := #[d, s], argTypes := #[dT, sT] }) (elem : TypeId) (k : Nat) (hu : P.underlying dT = some (.slice elem)) (hsz : (P.info? elem).map (·.size) = some k)
    (g off dLen dCap c : Nat) (hd : a.eval d = .slice (some ⟨g, off, none⟩) dLen dCap) (hs : a.eval s = .slice none 0 c)
    (h : wpList P ops Q rest (a.put o.dst (goInt 0)) w) : wpList P ops Q (o :: rest) a w := by
  refine wpList_plain hgd fun K hK => ?_
  cases hq : P.info? elem with
  | none => simp [hq] at hsz
  | some i =>
    unfold Oper.wp
    simp [execOp, ho, resolve, invoke, builtin, hd, hs, Builtin.copy_, run_underlying hu, Builtin.lenOf, Builtin.firstCells, sizeOf, typeInfo, hq, Result.andThen]
    exact hK _ _ h
/-- A row stands where a block of another type is written. -/
theorem OwnV.only_t {base : Nat} {e t : TypeId} {k g : Nat} {cs : Array Value} {w w' : World} {a : Option Addr} {n c : Nat} {xs : List Value} (h : OwnV base e k w a n c xs) (hg : w.heap[g]? = .some (.cells cs t (0, 0))) (ht : t ≠ e) (ho : Only g w w') : OwnV base e k w' a n c xs := by
  refine ⟨h.1, h.2.imp id ?_⟩
  rintro ⟨q, cp, cur, hv, hq, hb, r⟩
  refine ⟨q, cp, cur, hv, hq, (ho.block q fun e => ?_).trans hb, r⟩
  subst e
  rw [hg] at hb
  simp only [Option.some.injEq, Obj.cells.injEq] at hb
  exact ht hb.2.1

theorem Vs.src {k : Nat} {w : World} {ad : Addr} {n c : Nat} {xs : List Value} (h : Vs k w (some ad) n c xs) : ∀ j v, xs[j]? = some v → w.cell? (ad.add j) = some v := fun j v hv => by
  rcases Nat.eq_zero_or_pos n with h0 | h0
  · have : xs = [] := List.eq_nil_of_length_eq_zero (by rw [h.hl, h0, Nat.zero_mul])
    subst this
    simp at hv
  · obtain ⟨b, off, ha, _⟩ := h.at_ h0
    simp only [Option.some.injEq] at ha
    subst ha
    exact h.news b off rfl h0 j v hv

set_option maxRecDepth 20000 in
set_option maxHeartbeats 4000000 in
theorem own_any (a : Option Addr) (n c : Nat) (L : List OP) (z : List Int) (w : World) (h : OpS w a n c L) (hz : z.length = 10) (hn : n ≤ 1000000) :
    Calls Tryz.prog 27 #[.agg (ev a n c z)] w fun e w' => ∃ a' c', e = .returned (.agg (ev a' n c' z)) ∧ OwnO w.heap.size w' a' n c' L ∧ Below w.heap.size w w' := by
  obtain ⟨B, hB⟩ : ∃ B, B = w.heap.size := ⟨_, rfl⟩
  obtain ⟨w1, hw1⟩ : ∃ w1, w1 = w.alloc (.cells (ev a n c z) 28) := ⟨_, rfl⟩
  obtain ⟨w2, hw2⟩ : ∃ w2, w2 = w1.alloc (.cells #[.slice none 0 0, .int .i64 0, .int .i64 0, .int .i64 0, .int .i64 0, .int .i64 0, .int .i64 0, .int .i64 0, .int .i64 0, .int .i64 0, .int .i64 0] 28) := ⟨_, rfl⟩
  have s1 : w1.heap.size = B + 1 := by rw [hw1, hB]; simp
  have HE2 : Hid (EB w2 B a n c z) := Lib.hid (by rw [hw2, hw1, hB]; exact (EB.new w a n c z).alloc _)
  have HR2 : Hid (EB w2 (B + 1) none 0 0 z0) := Lib.hid (by rw [hw2, ← s1, ← ev_zero]; exact EB.new w1 none 0 0 z0)
  have HB2 : Hid (Below B w w2) := Lib.hid (by rw [hw2, hw1, hB]; exact ((Below.refl _ _).alloc (Nat.le_refl _) _).alloc (by simp) _)
  have HS2 : Hid (B + 1 < w2.heap.size) := Lib.hid HR2.out.lt
  have H2 : Hid (OpS w2 a n c L) := Lib.hid (h.below (hB ▸ HB2.out))
  have HL := Lib.hid (OpS.len h)
  have HZ := Lib.hid hz
  have HBB := Lib.hid hB
  have e0 : w2.cell? ⟨B, 0, none⟩ = some (.slice a n c) := HE2.out.c0
  have hlc := h.lc
  have hcm := h.cm
  unfold maxLen at hcm
  obtain ⟨G, hG⟩ : ∃ G, G = w2.heap.size := ⟨_, rfl⟩
  have HGB : Hid (B + 1 < G) := Lib.hid (by rw [hG]; exact HS2.out)
  rw [hw2, hw1, hB] at e0
  have HCW := Lib.hid hn
  clear hz s1 h hn
  cases a with
  | none =>
    have h0 : n = 0 := by
      rcases Nat.eq_zero_or_pos n with h0 | h0
      · exact h0
      · obtain ⟨b, o, ha, _⟩ := H2.out.at_ h0; cases ha
    have hL : L = [] := List.eq_nil_of_length_eq_zero (by rw [HL.out, h0])
    subst h0; subst hL
    go_enter Tryz.func27, Tryz.ntmps27
    go_wp2_with (first
      | (refine store_env rfl (.tmp 2) (.tmp 15) rfl (B + 1) rfl (some ⟨G, 0, none⟩) 0 0 z rfl HZ.out none 0 0 z0 z0_len HR3.out ?_; intro w5 he5 ho5; have HE5 := Lib.hid he5; have HO5 := Lib.hid ho5; clear he5 ho5)
      | (refine build_env rfl (.tmp 12) (.tmp 14) rfl (some ⟨G, 0, none⟩) 0 0 z HZ.out rfl rfl ?_)
      | (refine load_er rfl (.tmp 13) rfl B rfl none 0 c z HZ.out HE3.out ?_)
      | (refine wpList_copy_nil rfl (.tmp 8) (.tmp 10) 24 24 rfl 35 3 Tryz.underlying24 op_size3 G 0 0 0 c rfl rfl ?_)
      | (refine wpList_makek rfl (.tmp 6) (.tmp 6) 24 rfl 35 3 32 _ Tryz.underlying24 op_info 0 rfl rfl (by omega) (by omega) ?_; rw [← hw1, ← hw2, ← hG, ← hB]; clear hw1 hw2 hB e0; intro cur w3 hg3 hl3 hb3 hs3; have HG3 := Lib.hid hg3; have HE3 := Lib.hid (HE2.out.keep hb3 (by have := HGB.out; omega)); have HR3 := Lib.hid (HR2.out.keep hb3 HGB.out); have e0 : w3.cell? ⟨B, 0, none⟩ = some (.slice none 0 c) := HE3.out.c0; have HB3 : Hid (Below B w w3) := Lib.hid (HB2.out.trans (hb3.mono (by have := HGB.out; omega))); have hcn : cur = [] := List.eq_nil_of_length_eq_zero hl3; subst hcn; have HG4 := HG3; have HB4 := HB3; clear hg3 hl3 hb3 hs3 hG))
    refine bodyPost_ret (ret_env rfl _ _ (B + 1) (some ⟨G, 0, none⟩) 0 0 z HZ.out rfl HE5.out) rfl ⟨_, _, rfl, ?_, ?_⟩
    · have := (HO5.out.block G (by have := HGB.out; omega)).trans HG4.out
      exact own_of (cur := cO []) this (by have := HGB.out; have := HBB.out; omega) (by rw [cO_len]; rfl) (Nat.le_refl _) (by unfold maxLen; omega) (List.take_of_length_le (by rw [cO_len]; simp))
    · rw [← HBB.out]; exact HB4.out.trans (HO5.out.below (by omega))
  | some ad =>
    go_enter Tryz.func27, Tryz.ntmps27
    go_wp2_with (first
      | (refine store_env rfl (.tmp 2) (.tmp 15) rfl (B + 1) rfl (some ⟨G, 0, none⟩) n n z rfl HZ.out none 0 0 z0 z0_len HR4.out ?_; intro w5 he5 ho5; have HE5 := Lib.hid he5; have HO5 := Lib.hid ho5; clear he5 ho5)
      | (refine build_env rfl (.tmp 12) (.tmp 14) rfl (some ⟨G, 0, none⟩) n n z HZ.out rfl rfl ?_)
      | (refine load_er rfl (.tmp 13) rfl B rfl (some ad) n c z HZ.out HE4.out ?_)
      | (refine wpList_copyk rfl (.tmp 8) (.tmp 10) 24 24 rfl 35 3 n Tryz.underlying24 op_size3 G 0 n n ad n c rfl rfl cur 35 HG3.out (cO L) (by simp) (by rw [cO_len, HL.out]) H3.out.src (by rw [cO_len, HL.out, HC3.out]; omega) (cO_one L) ?_; intro w4 hg4 ho4; have hsp : splice cur 0 (cO L) = cO L := (by unfold splice; rw [List.take_zero, List.nil_append, List.drop_of_length_le (by rw [HC3.out, cO_len, HL.out]; omega), List.append_nil]); rw [hsp] at hg4; clear hsp; have HG4 := Lib.hid hg4; have HE4 := Lib.hid (HE3.out.only ho4 (by have := HGB.out; omega)); have HR4 := Lib.hid (HR3.out.only ho4 (by have := HGB.out; omega)); have HB4 : Hid (Below B w w4) := Lib.hid (HB3.out.trans (ho4.below (by have := HGB.out; omega))); clear hg4 ho4)
      | (refine wpList_makek rfl (.tmp 6) (.tmp 6) 24 rfl 35 3 32 _ Tryz.underlying24 op_info n rfl rfl (by have := HCW.out; omega) (by have := HCW.out; omega) ?_; rw [← hw1, ← hw2, ← hG, ← hB]; clear hw1 hw2 hB e0; intro cur w3 hg3 hl3 hb3 hs3; have HG3 := Lib.hid hg3; have HE3 := Lib.hid (HE2.out.keep hb3 (by have := HGB.out; omega)); have HR3 := Lib.hid (HR2.out.keep hb3 HGB.out); have e0 : w3.cell? ⟨B, 0, none⟩ = some (.slice (some ad) n c) := HE3.out.c0; have HB3 : Hid (Below B w w3) := Lib.hid (HB2.out.trans (hb3.mono (by have := HGB.out; omega))); have HC3 := Lib.hid hl3; have H3 : Hid (OpS w3 (some ad) n c L) := Lib.hid (H2.out.below (hG ▸ hb3)); clear hg3 hl3 hb3 hs3 hG))
    refine bodyPost_ret (ret_env rfl _ _ (B + 1) (some ⟨G, 0, none⟩) n n z HZ.out rfl HE5.out) rfl ⟨_, _, rfl, ?_, ?_⟩
    · have := (HO5.out.block G (by have := HGB.out; omega)).trans HG4.out
      exact own_of (cur := cO L) this (by have := HGB.out; have := HBB.out; omega) (by rw [cO_len]; rw [HL.out]) (Nat.le_refl _) (by have := HCW.out; unfold maxLen; omega) (List.take_of_length_le (by rw [cO_len]; rw [HL.out]; omega))
    · rw [← HBB.out]; exact HB4.out.trans (HO5.out.below (by omega))

end Go.Proofs.YtcpmpidpoelleaaGreatDoor
