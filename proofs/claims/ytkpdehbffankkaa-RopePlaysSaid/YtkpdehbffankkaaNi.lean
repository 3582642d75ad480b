/- Contract of package rope's At. -/
import Derived.Test.YtkpdehbffankkaaNh
namespace Go.Proofs.Ytkpdehbffankkaa
open Go.RowKit

theorem run_call_loadp {P : Program} {f : FuncId} {fn : Func} (hf : P.funcs[f]? = some fn) (hname : (fn.name == "runtime.NumGoroutine") = false) (hb : fn.body.isNone = true) (hn : Extern.findNext fn = none)
    (he : Extern.find fn = some (Extern.Atomic.loadT .ptr)) {a : Addr} {x : Option Addr} {w : World} (hc : w.cell? a = some (.pointer x)) :
    (callFunc f #[.pointer (some a)]).run P w = .ok (.value (.pointer x)) w := by
  rw [run_callFunc_extern hf hname hb hn he]
  change (Sem.run P (do Extern.Atomic.read .ptr (← asAddr (.pointer (some a)))) w).andThen _ = _
  simp [Extern.Atomic.read, asAddr, hc, Result.andThen]

theorem run_call_storep {P : Program} {f : FuncId} {fn : Func} (hf : P.funcs[f]? = some fn) (hname : (fn.name == "runtime.NumGoroutine") = false) (hb : fn.body.isNone = true) (hn : Extern.findNext fn = none)
    (he : Extern.find fn = some Extern.Atomic.storeT) {a : Addr} {x : Option Addr} {u : Value} {w : World} (hc : w.cell? a = some u) (hz : w.frozen? a = false) :
    (callFunc f #[.pointer (some a), .pointer x]).run P w = .ok (.value (.tuple #[])) (w.setCell a (.pointer x)) := by
  rw [run_callFunc_extern hf hname hb hn he]
  change (Sem.run P (do
    store (← asAddr (.pointer (some a))) (.pointer x) .atomic
    pure Extern.Atomic.none_) w).andThen _ = _
  simp [asAddr, hc, hz, run_store P w a (.pointer x) .atomic rfl, Result.andThen, Extern.Atomic.none_]

/-- unsafe.Pointer(p) of a spot, and back. -/
theorem to_unsafe (w : World) (g : Nat) (c : Array Value) (hc : c.size = 2) (h : w.heap[g]? = some (.cells c 83 (0, 0))) :
    (convert 55 59 (.pointer (some ⟨g, 0, none⟩))).run Try.prog w = .ok (.pointer (some ⟨g, 0, none⟩)) w := by
  have : ∃ u, w.cell? ⟨g, 0, none⟩ = some u := ⟨c[0]'(by omega), by simp [World.cell?, h, hc]⟩
  obtain ⟨u, hu⟩ := this
  exact run_convert_to_unsafe (t := 83) Try.underlying55 Try.underlying59 (by kernel_rfl) hu

theorem from_unsafe (w : World) (g : Nat) (c : Array Value) (hc : c.size = 2) (h : w.heap[g]? = some (.cells c 83 (0, 0))) :
    (convert 59 55 (.pointer (some ⟨g, 0, none⟩))).run Try.prog w = .ok (.pointer (some ⟨g, 0, none⟩)) w := by
  obtain ⟨j, hj, _⟩ : ∃ j, Try.prog.info? 83 = some j ∧ True := by
    have : (Try.prog.info? 83).isSome = true := by kernel_rfl
    obtain ⟨j, hj⟩ := Option.isSome_iff_exists.1 this
    exact ⟨j, hj, trivial⟩
  exact Lib.run_from_unsafe w (u := 83) (e := 83) (j := j) (cells := 2) ⟨g, 0, none⟩ Try.underlying59 Try.underlying55 hj (by simp [World.shape?, h, hc]) (by kernel_rfl)

theorem from_unsafe_nil (w : World) : (convert 59 55 (.pointer none)).run Try.prog w = .ok (.pointer none) w := by
  simp [convert, Conv.unsafePointer, run_underlying (P := Try.prog) Try.underlying55, run_underlying (P := Try.prog) Try.underlying59]

theorem run_at (w : World) (l : List Int) (hr : ∀ x ∈ l, 0 ≤ x ∧ x ≤ 255) (k : Nat) (hk : k < l.length) :
    (Instr.index 9 (.string (bstr l)) (.int .i64 k)).run Try.prog w = .ok (.int .u8 (bt l k)) w := by
  rw [run_index_string w 9 (bstr l) .i64 k Try.underlying9, dif_pos ⟨by omega, by rw [PT.bstr_size]; omega⟩]
  congr 2
  have h1 : (bstr l)[((k : Int)).toNat]'(by rw [PT.bstr_size, Int.toNat_natCast]; exact hk) = UInt8.ofNat (bt l k).toNat := by
    simp only [ByteArray.getElem_eq_getElem_data]
    simp [bstr, bt, List.getD, hk]
  rw [h1, u8_back (bt_rng hr k)]

theorem gb_below {b : Nat} {w w' : World} (h : Below w.heap.size w w') : w.grownBy w' (some b) := ⟨h.os, h.tape, h.output, h.size, fun k hk _ => h.block k hk⟩
theorem gb_trans {b : Nat} {w w' w'' : World} (h : w.grownBy w' (some b)) (g : w'.grownBy w'' (some b)) : w.grownBy w'' (some b) :=
  ⟨g.os.trans h.os, g.tape.trans h.tape, g.output.trans h.output, Nat.le_trans h.size g.size, fun k hk hn => (g.block k (Nat.lt_of_lt_of_le hk h.size) hn).trans (h.block k hk hn)⟩
theorem gb_set (w : World) (b j : Nat) (v : Value) : w.grownBy (w.setCell ⟨b, j, none⟩ v) (some b) :=
  ⟨rfl, rfl, rfl, by simp [World.setCell], fun k _ hn => Below.heap_setCell w ⟨b, j, none⟩ v k (fun h => hn (by rw [h]))⟩

theorem blk_set {w : World} {b j : Nat} {c : Array Value} {e : TypeId} {m : Nat × Nat} (v : Value) (h : w.heap[b]? = some (.cells c e m)) :
    (w.setCell ⟨b, j, none⟩ v).heap[b]? = some (.cells (c.setIfInBounds j v) e m) := by
  simp [World.setCell, Array.getElem?_modify, h]

theorem gb_block {b : Nat} {w w' : World} (h : w.grownBy w' (some b)) {k : Nat} {o : Obj} (ho : w.heap[k]? = some o) (hk : k ≠ b) : w'.heap[k]? = some o :=
  (h.block k (Array.getElem?_eq_some_iff.1 ho).1 (fun hh => hk (by simpa using hh))).trans ho

variable {w : World} {b : Nat} {t : PT} {e : Nat} {sv : Value} {dn dp : Int}

/-- The field 'last' is written. -/
theorem RP.last {w' : World} (h : RP w b t e sv dn dp) (hk : PT.Kt w w') {sv' : Value} (hb : w'.heap[b]? = some (.cells (ropeC t e sv' dn dp) 73 (0, 0))) (hs : Spot w' t.l sv') : RP w' b t e sv' dn dp :=
  ⟨hb, h.okt.kt hk, h.e9, h.dle, h.len, hs, h.done⟩

theorem RP.heap {w' : World} (h : RP w b t e sv dn dp) (hh : w'.heap = w.heap) : RP w' b t e sv dn dp :=
  h.kt (fun k c x m h1 _ => by rw [hh]; exact h1) (by rw [hh])

theorem drewN_heap (w : World) (n : Nat) : (w.drewN n).heap = w.heap := rfl

/-- The bytes of a slice, by their places. -/
theorem bt_sub (l : List Int) (f m i : Nat) (h1 : f ≤ i) (h2 : i < f + m) : bt (sub l f (f + m)) (i - f) = bt l i := by
  unfold sub
  rw [bt_drop, bt_take _ _ _ (by omega), show f + (i - f) = i from by omega]

set_option maxRecDepth 40000 in
set_option maxHeartbeats 1000000 in
/-- A spot that has the byte. -/
theorem at_hit (g f m : Nat) (i : Nat) (h : RP w b t e (.pointer (some ⟨g, 0, none⟩)) dn dp) (hi : i < t.l.length) (hfm : f + m ≤ t.l.length) (hfi : f ≤ i) (him : i < f + m)
    (hg : w.heap[g]? = some (.cells #[.int .i64 (f : Nat), .string (bstr (sub t.l f (f + m)))] 83 (0, 0))) :
    Calls Try.prog 18 #[.pointer (some ⟨b, 0, none⟩), .int .i64 i] w fun r w' => r = .returned (.tuple #[.int .u8 (bt t.l i), .bool true]) ∧ (∃ sv', RP w' b t e sv' dn dp) ∧ w.grownBy w' (some b) := by
  have hlen := h.len
  have hg0 : w.cell? ⟨g, 0, none⟩ = some (.int .i64 f) := by simp [World.cell?, hg]
  have hg1 : w.cell? ⟨g, 1, none⟩ = some (.string (bstr (sub t.l f (f + m)))) := by simp [World.cell?, hg]
  have hsl : (sub t.l f (f + m)).length = m := by rw [sub_len hfm]; omega
  have kl := run_call_loadp (P := Try.prog) Try.func37 (by kernel_rfl) (by kernel_rfl) (by kernel_rfl) (by kernel_rfl) h.c2
  have kc := from_unsafe w g _ rfl hg
  have KH := Lib.hid (has_some i g f (sub t.l f (f + m)) w (by omega) (by omega) hg0 hg1)
  have hb1 : (decide (f ≤ i) && decide (i - f < (sub t.l f (f + m)).length)) = true := by rw [hsl]; simp; omega
  rw [hb1] at KH
  have hd0 : decide ((i : Int) < 0) = false := by simp
  have hd1 : decide ((i : Int) ≥ (t.l.length : Int)) = false := by simp; omega
  have hix : ∀ w, (Instr.index 9 (.string (bstr (sub t.l f (f + m)))) (.int .i64 ((i : Int) - (f : Int)))).run Try.prog w = .ok (.int .u8 (bt t.l i)) w := fun w => by
    have := run_at w (sub t.l f (f + m)) (sub_rng (PT.l_rng t h.okt)) (i - f) (by rw [hsl]; omega)
    rw [bt_sub _ _ _ _ hfi him, Int.natCast_sub hfi] at this
    exact this
  have k1 : IntKind.i64.wrap ((i : Int) - (f : Int)) = (i : Int) - (f : Int) := by rw [IntKind.wrap_i64]; omega
  have HR := Lib.hid h
  have c2 := h.c2
  obtain ⟨N, hN⟩ : ∃ N, t.l.length = N := ⟨_, rfl⟩
  obtain ⟨S, hS⟩ : ∃ S, sub t.l f (f + m) = S := ⟨_, rfl⟩
  obtain ⟨z, hz⟩ : ∃ z, bt t.l i = z := ⟨_, rfl⟩
  have KL := Lib.hid (len_any h)
  rw [hN] at hd1 hlen hi KL hfm
  rw [hS] at hix hg1
  rw [hz] at hix ⊢
  clear h hg hsl hS hz hb1
  go_enter Try.func18, Try.ntmps18
  go_wp2_with (first | (go_at_call 20; refine KL.out.mono ?_; rintro r w' ⟨rfl, rfl⟩) | (go_at_call 28; go_in) | (go_at_call 29; refine KH.out.mono ?_; rintro r w1 ⟨rfl, hbw, hh⟩; have q0 : w1.cell? ⟨g, 0, none⟩ = _ := (by simp only [World.cell?, hh]; exact hg0); have q1 : w1.cell? ⟨g, 1, none⟩ = _ := (by simp only [World.cell?, hh]; exact hg1)))
  have HB := Lib.hid hbw
  have HH := Lib.hid hh
  clear hbw hh
  go_quiet (fail)
  go_wp2
  refine bodyPost_ret (v := .tuple #[.int .u8 z, .bool true]) (by simp [results, Try.results18, go_sem]) rfl ⟨rfl, ⟨_, (HR.out.heap HH.out).heap (drewN_heap _ _)⟩, gb_below (below_drewN HB.out _)⟩

set_option maxRecDepth 40000 in
set_option maxHeartbeats 1000000 in
/-- No spot, or one that has not the byte. -/
theorem at_miss (sa : Option Addr) (i : Nat) (h : RP w b t e (.pointer sa) dn dp) (hi : i < t.l.length)
    (kc : (convert 59 55 (.pointer sa)).run Try.prog w = .ok (.pointer sa) w)
    (KH : Calls Try.prog 29 #[.pointer sa, .int .i64 i] w fun r w' => r = .returned (.bool false) ∧ Below w.heap.size w w' ∧ w'.heap = w.heap) :
    Calls Try.prog 18 #[.pointer (some ⟨b, 0, none⟩), .int .i64 i] w fun r w' => r = .returned (.tuple #[.int .u8 (bt t.l i), .bool true]) ∧ (∃ sv', RP w' b t e sv' dn dp) ∧ w.grownBy w' (some b) := by
  have hlen := h.len
  have kl := run_call_loadp (P := Try.prog) Try.func37 (by kernel_rfl) (by kernel_rfl) (by kernel_rfl) (by kernel_rfl) h.c2
  have hd0 : decide ((i : Int) < 0) = false := by simp
  have hd1 : decide ((i : Int) ≥ (t.l.length : Int)) = false := by simp; omega
  have HR := Lib.hid h
  have HI := Lib.hid hi
  have c2 := h.c2
  have HKH := Lib.hid KH
  obtain ⟨N, hN⟩ : ∃ N, t.l.length = N := ⟨_, rfl⟩
  obtain ⟨z, hz⟩ : ∃ z, bt t.l i = z := ⟨_, rfl⟩
  have KL := Lib.hid (len_any h)
  rw [hN] at hd1 hlen hi KL
  rw [hz]
  have HZ := Lib.hid hz
  have HN := Lib.hid hN
  clear h hz hN KH
  go_enter Try.func18, Try.ntmps18
  go_wp2_with (first | (go_at_call 20; refine KL.out.mono ?_; rintro r w' ⟨rfl, rfl⟩) | (go_at_call 28; go_in) | (go_at_call 29; refine HKH.out.mono ?_; rintro r w1 ⟨rfl, hbw, hh⟩; have q0 : w1.cell? ⟨b, 0, none⟩ = some t.v := ((HR.out.heap hh).c0)))
  have HB := Lib.hid hbw
  have HR1 := Lib.hid (HR.out.heap hh)
  clear hbw hh kl kc c2 HR HKH KL
  refine (find_any t i w1 HR1.out.okt HI.out (by have := HR1.out.len; omega) (by have := HR1.out.dle; have := HR1.out.e9; omega)).mono ?_
  rintro r w2 ⟨f, m, hfi, him, hfm, rfl, hw2⟩
  rw [HN.out] at hfm
  have hbw2 : Below w1.heap.size w1 w2 := by rw [hw2]; exact (Below.refl _ _).alloc (Nat.le_refl _) _
  have hg2 : w2.heap[w1.heap.size]? = some (.cells #[.int .i64 (f : Nat), .string (bstr (sub t.l f (f + m)))] 83 (0, 0)) := by rw [hw2]; exact heapAt4 w1 _
  have HR2 := Lib.hid (HR1.out.below hbw2)
  obtain ⟨g, hg⟩ : ∃ g, w1.heap.size = g := ⟨_, rfl⟩
  have hbg : g ≠ b := by have := HR1.out.lt; omega
  rw [hg] at hg2 ⊢
  have HB2 := Lib.hid (HB.out.trans (hbw2.mono HB.out.size))
  clear hw2 hbw2 HR1 HB hg q0
  have kc := to_unsafe w2 g _ rfl hg2
  have c2 := HR2.out.c2
  have kst := run_call_storep (P := Try.prog) (x := some ⟨g, 0, none⟩) Try.func38 (by kernel_rfl) (by kernel_rfl) (by kernel_rfl) (by kernel_rfl) c2 (HR2.out.fz 2)
  have hgb := gb_set w2 b 2 (.pointer (some ⟨g, 0, none⟩))
  have hbl := blk_set (j := 2) (.pointer (some ⟨g, 0, none⟩)) HR2.out.blk
  obtain ⟨w3, hw3⟩ : ∃ w3, w2.setCell ⟨b, 2, none⟩ (.pointer (some ⟨g, 0, none⟩)) = w3 := ⟨_, rfl⟩
  rw [hw3] at kst hgb hbl
  have hg3 := gb_block hgb hg2 hbg
  have hR3 : RP w3 b t e (.pointer (some ⟨g, 0, none⟩)) dn dp := HR2.out.last (HR2.out.ktg hgb) hbl (.inr ⟨g, f, m, rfl, by rw [HN.out]; exact hfm, hg3⟩)
  have HR3 := Lib.hid hR3
  have HGB := Lib.hid (gb_trans (gb_below HB2.out) hgb)
  have hg0 : w3.cell? ⟨g, 0, none⟩ = some (.int .i64 f) := by simp [World.cell?, hg3]
  have hg1 : w3.cell? ⟨g, 1, none⟩ = some (.string (bstr (sub t.l f (f + m)))) := by simp [World.cell?, hg3]
  have hsl : (sub t.l f (f + m)).length = m := by rw [sub_len (by rw [HN.out]; exact hfm)]; omega
  have hix : ∀ w, (Instr.index 9 (.string (bstr (sub t.l f (f + m)))) (.int .i64 ((i : Int) - (f : Int)))).run Try.prog w = .ok (.int .u8 z) w := fun w => by
    have := run_at w (sub t.l f (f + m)) (sub_rng (PT.l_rng t hR3.okt)) (i - f) (by rw [hsl]; omega)
    rw [bt_sub _ _ _ _ hfi him, Int.natCast_sub hfi, HZ.out] at this
    exact this
  have k1 : IntKind.i64.wrap ((i : Int) - (f : Int)) = (i : Int) - (f : Int) := by rw [IntKind.wrap_i64]; omega
  obtain ⟨S, hS⟩ : ∃ S, sub t.l f (f + m) = S := ⟨_, rfl⟩
  rw [hS] at hix hg1
  clear hg2 hgb hbl hw3 hg3 hR3 hsl hS HR2 HB2
  go_wp2_with (first | (go_at_call 31; go_in))
  go_end0
  go_wp2_with fail
  go_quiet (fail)
  go_wp2
  refine bodyPost_ret (v := .tuple #[.int .u8 z, .bool true]) (by simp [results, Try.results18, go_sem]) rfl ⟨rfl, ⟨_, HR3.out.heap (drewN_heap _ _)⟩, gb_trans HGB.out (gb_below (below_drewN (Below.refl _ _) _))⟩

theorem at_any (i : Nat) (h : RP w b t e sv dn dp) (hi : i < t.l.length) :
    Calls Try.prog 18 #[.pointer (some ⟨b, 0, none⟩), .int .i64 i] w fun r w' => r = .returned (.tuple #[.int .u8 (bt t.l i), .bool true]) ∧ (∃ sv', RP w' b t e sv' dn dp) ∧ w.grownBy w' (some b) := by
  rcases h.spot with rfl | ⟨g, f, m, rfl, hfm, hg⟩
  · exact at_miss none i h hi (from_unsafe_nil w) (has_nil i w)
  · by_cases hc : f ≤ i ∧ i < f + m
    · exact at_hit g f m i h hi hfm hc.1 hc.2 hg
    · have hg0 : w.cell? ⟨g, 0, none⟩ = some (.int .i64 f) := by simp [World.cell?, hg]
      have hg1 : w.cell? ⟨g, 1, none⟩ = some (.string (bstr (sub t.l f (f + m)))) := by simp [World.cell?, hg]
      have hsl : (sub t.l f (f + m)).length = m := by rw [sub_len hfm]; omega
      have KH := has_some i g f (sub t.l f (f + m)) w (by have := h.len; omega) (by have := h.len; omega) hg0 hg1
      rw [show (decide (f ≤ i) && decide (i - f < (sub t.l f (f + m)).length)) = false from by rw [hsl]; simp; omega] at KH
      exact at_miss (some ⟨g, 0, none⟩) i h hi (from_unsafe w g _ rfl hg) KH

/-- No such place. -/
theorem at_bad (i : Int) (h : RP w b t e sv dn dp) (hi : i < 0 ∨ (t.l.length : Int) ≤ i) :
    Calls Try.prog 18 #[.pointer (some ⟨b, 0, none⟩), .int .i64 i] w fun r w' => r = .returned (.tuple #[.int .u8 0, .bool false]) ∧ w = w' := by
  have KL := Lib.hid (len_any h)
  obtain ⟨N, hN⟩ : ∃ N, t.l.length = N := ⟨_, rfl⟩
  rw [hN] at KL hi
  clear h hN
  by_cases h0 : i < 0
  · have hd0 : decide (i < 0) = true := by simpa using h0
    go_enter Try.func18, Try.ntmps18
    go_wp2
    exact bodyPost_ret (v := .tuple #[.int .u8 0, .bool false]) (by simp [results, Try.results18, go_sem]) rfl ⟨rfl, rfl⟩
  · have hd0 : decide (i < 0) = false := by simpa using h0
    have hd1 : decide (i ≥ (N : Int)) = true := by simp; omega
    go_enter Try.func18, Try.ntmps18
    go_wp2_with (first | (go_at_call 20; refine KL.out.mono ?_; rintro r w' ⟨rfl, rfl⟩))
    exact bodyPost_ret (v := .tuple #[.int .u8 0, .bool false]) (by simp [results, Try.results18, go_sem]) rfl ⟨rfl, rfl⟩

end Go.Proofs.Ytkpdehbffankkaa
