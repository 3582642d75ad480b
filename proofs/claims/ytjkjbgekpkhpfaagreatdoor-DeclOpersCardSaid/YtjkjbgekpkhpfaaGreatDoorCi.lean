/- Contracts of the laws' own of and shown, of decl.Is; directives compared. -/
import Derived.Test.YtjkjbgekpkhpfaaGreatDoorCg
import Derived.Test.YtjkjbgekpkhpfaaGreatDoorCh
import Derived.Laws.StructEq
namespace Go.Proofs.YtjkjbgekpkhpfaaGreatDoor
open Go.RowKit

theorem eq_operD (n : Nat) (s s' : ByteArray) (g g' a a' : Int) (w : World) :
    (Op.equalIn (n + 2) 28 (.agg #[.string s, .int .i64 g, .int .i64 a]) (.agg #[.string s', .int .i64 g', .int .i64 a'])).run Tryz.prog w = .ok ((s.toList == s'.toList) && ((g == g') && (a == a'))) w := by
  have hu : Tryz.prog.underlying 28 = some (.struct (Tryz.prog.fieldsOf 28)) := by
    unfold Program.fieldsOf
    rw [Tryz.underlying28]
  rw [run_equalIn_struct w (n + 1) 28 _ _ hu (by kernel_rfl)]
  unfold Program.fieldsOf
  rw [Tryz.underlying28]
  have p0 : ∀ w (b c : Value) (q : ByteArray), (part 9 #[.string q, b, c] 0).run Tryz.prog w = .ok (.string q) w := fun _ _ _ _ => by kernel_rfl
  have p1 : ∀ w (b c : Value) (q : ByteArray), (part 3 #[.string q, b, c] 1).run Tryz.prog w = .ok b w := fun _ _ _ _ => by kernel_rfl
  have p2 : ∀ w (b c : Value) (q : ByteArray), (part 3 #[.string q, b, c] 2).run Tryz.prog w = .ok c w := fun _ _ _ _ => by kernel_rfl
  have e1 : ∀ w (a b : Int), (Op.equalIn (n + 1) 3 (.int .i64 a) (.int .i64 b)).run Tryz.prog w = .ok (a == b) w := fun w a b => run_equalIn_int w n _ _ _ a b Tryz.underlying3
  have e3 : ∀ w (a b : ByteArray), (Op.equalIn (n + 1) 9 (.string a) (.string b)).run Tryz.prog w = .ok (a.toList == b.toList) w := fun w a b => run_equalIn_string w n _ a b Tryz.underlying9
  simp only [Op.eqFields, Sem.run_bind, Sem.run_ite, p0, p1, p2, e1, e3, Result.andThen_ok, Sem.run_pure, ne_eq, String.reduceEq, not_false_eq_true, if_true]
  cases (s.toList == s'.toList) <;> cases g == g' <;> cases a == a' <;> rfl
/-- A directive compared with itself. -/
theorem eq_dc (d : DC) (w : World) : (Op.equalIn 10000 53 (.agg d.cs) (.agg d.cs)).run Tryz.prog w = .ok true w := by
  obtain ⟨k, p, g, a, G, H⟩ := d
  unfold DC.cs
  dsimp only
  have hu : Tryz.prog.underlying 53 = some (.struct (Tryz.prog.fieldsOf 53)) := by
    unfold Program.fieldsOf
    rw [Tryz.underlying53]
  rw [run_equalIn_struct w 9999 53 _ _ hu (by kernel_rfl)]
  unfold Program.fieldsOf
  rw [Tryz.underlying53]
  obtain ⟨q, hq⟩ : ∃ q, q = mk p := ⟨_, rfl⟩
  rw [← hq]
  have p0 : ∀ w (k g a G H : Int) (q : ByteArray), (part 3 #[.int .i64 k, .string q, .int .i64 g, .int .i64 a, .int .i64 G, .int .i64 H] 0).run Tryz.prog w = .ok (.int .i64 k) w := fun _ _ _ _ _ _ _ => by kernel_rfl
  have p1 : ∀ w (k g a G H : Int) (q : ByteArray), (part 28 #[.int .i64 k, .string q, .int .i64 g, .int .i64 a, .int .i64 G, .int .i64 H] 1).run Tryz.prog w = .ok (.agg #[.string q, .int .i64 g, .int .i64 a]) w := fun _ _ _ _ _ _ _ => by kernel_rfl
  have p4 : ∀ w (k g a G H : Int) (q : ByteArray), (part 3 #[.int .i64 k, .string q, .int .i64 g, .int .i64 a, .int .i64 G, .int .i64 H] 4).run Tryz.prog w = .ok (.int .i64 G) w := fun _ _ _ _ _ _ _ => by kernel_rfl
  have p5 : ∀ w (k g a G H : Int) (q : ByteArray), (part 3 #[.int .i64 k, .string q, .int .i64 g, .int .i64 a, .int .i64 G, .int .i64 H] 5).run Tryz.prog w = .ok (.int .i64 H) w := fun _ _ _ _ _ _ _ => by kernel_rfl
  have e1 : ∀ w (a b : Int), (Op.equalIn 9999 3 (.int .i64 a) (.int .i64 b)).run Tryz.prog w = .ok (a == b) w := fun w a b => run_equalIn_int w 9998 _ _ _ a b Tryz.underlying3
  have e0 := fun w => eq_operD 9997 q q g g a a w
  simp only [Op.eqFields, Sem.run_bind, Sem.run_ite, p0, p1, p4, p5, e0, e1, Result.andThen_ok, Sem.run_pure, ne_eq, String.reduceEq, not_false_eq_true, if_true]
  simp

set_option maxRecDepth 20000 in
set_option maxHeartbeats 4000000 in
theorem ofc_any (s : ByteArray) (w : World) (ht : Tab w) (hk : TabK w) (hl : (sb s).length ≤ 10000) :
    Calls Tryz.prog 26 #[.string s] w fun e w' => e = .returned (dclV (decV (kl (sb s)))) ∧ Below w.heap.size w w' := by
  obtain ⟨D, hD⟩ : ∃ D, D = w.heap.size := ⟨_, rfl⟩
  obtain ⟨w1, hw1⟩ : ∃ w1, w1 = w.alloc (.cells #[.int .i64 0, .string { data := #[] }, .int .i64 0, .int .i64 0, .int .i64 0, .int .i64 0] 53) := ⟨_, rfl⟩
  have HD1 : Hid (DB w1 D d0) := Lib.hid (by rw [hw1, hD]; exact DB.new w)
  have HB1 : Hid (Below D w w1) := Lib.hid (by rw [hw1, hD]; exact below_new w _)
  obtain ⟨q, C, w2, hcv, hbs, hb2⟩ := conv_str w1 s (sb s) (bstr_sb s).symm (sb_rng s) (by omega)
  have hrg := sb_rng s
  obtain ⟨l, hll⟩ : ∃ l, l = sb s := ⟨_, rfl⟩
  rw [← hll] at hcv hbs hl hrg ⊢
  obtain ⟨m, hm⟩ : ∃ m, m = l.length := ⟨_, rfl⟩
  rw [← hm] at hcv hbs hl
  obtain ⟨hfl, hn⟩ := toks_fl hrg
  have HTX : Hid (∀ t ∈ toks l, t.s.toList.length ≤ 100000) := Lib.hid fun t ht => by
    have h1 := (hfl t ht).2
    unfold sb at h1
    rw [List.length_map] at h1
    omega
  have HN : Hid ((toks l).length ≤ 10000) := Lib.hid (by omega)
  have HBS := Lib.hid hbs
  have HB2 : Hid (Below D w w2) := Lib.hid (HB1.out.trans (hb2.mono (by have := HB1.out.size; have := hD; omega)))
  have HT2 : Hid (Tab w2) := Lib.hid (ht.keep (hD ▸ HB2.out))
  have HK : Hid (TabK w) := Lib.hid hk
  have HD2 : Hid (DB w2 D d0) := Lib.hid (HD1.out.below hb2)
  have HW : Hid (D = w.heap.size) := Lib.hid hD
  have HT : Hid (Tab w) := Lib.hid ht
  have HKL : Hid ((toks l).map kt = kl l) := Lib.hid (kl_toks l)
  clear ht hk hbs hb2 hfl hn hrg hll hm
  go_enter Tryz.func26, Tryz.ntmps26
  go_wp2_with fail
  rw [← hw1, ← hD]
  clear hw1 hD
  rw [hcv]
  simp only [Result.andThen]
  rw [Oper.upon_value]
  go_wp2_with fail
  clear hcv
  refine (all_any _ _ _ l w2 HBS.out HT2.out (by omega)).mono ?_
  rintro e w3 ⟨a', rfl, hr, hb3⟩
  have HB23 : Hid (Below w2.heap.size w2 w3) := Lib.hid hb3
  have HB3 : Hid (Below D w w3) := Lib.hid (HB2.out.trans (hb3.mono (by have := HB2.out.size; have := HW.out; omega)))
  have HTS := Lib.hid hr.ts
  have HD3 : Hid (DB w3 D d0) := Lib.hid (HD2.out.below hb3)
  clear hr hb3
  obtain ⟨k, hk⟩ : ∃ k, k = (toks l).length := ⟨_, rfl⟩
  rw [← hk] at HTS HN
  have hk' : (toks l).length = k := hk.symm
  clear hk
  rw [hk']
  clear hk'
  obtain ⟨V, hV⟩ : ∃ V, V = decV (kl l) := ⟨_, rfl⟩
  have HO : Hid (Calls Tryz.prog 46 #[.agg #[.int .i64 0, .int .i64 0, .int .i64 0, .slice a' k k]] w3 fun e w' => e = .returned (dclV V) ∧ Below w3.heap.size w3 w') := Lib.hid (by
    rw [hV, ← HKL.out]
    exact dof_any a' k k (toks l) 0 0 0 w3 HTS.out (HT.out.keep (HW.out ▸ HB3.out)) (HK.out.keep (HW.out ▸ HB3.out)) (by have := HN.out; omega) HTX.out)
  have HVE : Hid (decV (kl l) = V) := Lib.hid hV.symm
  obtain ⟨dv, de⟩ := V
  simp only [dclV] at HO
  clear hV
  go_wp2_with (refine build_run rfl 80 #[(3, .tmp 6)] rfl (.agg #[.int .i64 0, .int .i64 0, .int .i64 0, .slice a' k k]) (by kernel_rfl) ?_)
  refine HO.out.mono ?_
  rintro e w4 ⟨rfl, hb4⟩
  have HD4 : Hid (DB w4 D d0) := Lib.hid (HD3.out.below hb4)
  have HB4 : Hid (Below D w w4) := Lib.hid (HB3.out.trans (hb4.mono (by have := HB3.out.size; have := HW.out; omega)))
  clear hb4
  go_wp2_with (refine store_decl rfl (.tmp 2) (.tmp 9) rfl D rfl dv rfl d0 HD4.out ?_; intro w5 hd5 ho5; have HD5 := Lib.hid hd5; have HB5 : Hid (Below D w w5) := Lib.hid (HB4.out.trans (ho5 _ (Nat.le_refl _))); clear hd5 ho5)
  all_goals exact bodyPost_ret (ret_decl rfl _ _ D dv rfl HD5.out) rfl ⟨by rw [HVE.out]; rfl, by rw [← HW.out]; exact HB5.out⟩

set_option maxRecDepth 20000 in
theorem isd_any (b off n c : Nat) (L : List TK) (f0 t0 i0 : Int) (w : World) (h : Ts w (some ⟨b, off, none⟩) n c L) (hn : 0 < n) (hm : (tat L 0).k = 2 ∧ (tat L 0).s.toList = [58, 45]) :
    Calls Tryz.prog 42 #[.agg #[.int .i64 f0, .int .i64 t0, .int .i64 i0, .slice (some ⟨b, off, none⟩) n c]] w fun e w' => e = .returned (.bool true) ∧ Below w.heap.size w w' := by
  have h1 := h.alloc (.cells #[.int .i64 f0, .int .i64 t0, .int .i64 i0, .slice (some ⟨b, off, none⟩) n c] 80)
  obtain ⟨c0, _, _, c3, _⟩ := h1.at5 hn
  rw [hm.1] at c0
  obtain ⟨s, hs⟩ : ∃ s, s = (tat L 0).s := ⟨_, rfl⟩
  rw [← hs] at c3
  have hsl : (s.toList == [58, 45]) = true := by rw [hs, hm.2]; rfl
  rw [Nat.zero_mul, Nat.add_zero] at c0 c3
  have hn0 : (0 : Int) < (n : Int) := by omega
  have HB : Hid (Below w.heap.size w (w.alloc (.cells #[.int .i64 f0, .int .i64 t0, .int .i64 i0, .slice (some ⟨b, off, none⟩) n c] 80))) := Lib.hid (below_new w _)
  clear h h1 hm hs
  go_enter Tryz.func42, Tryz.ntmps42
  go_wp2
  go_ret
  exact ⟨rfl, HB.out⟩

end Go.Proofs.YtjkjbgekpkhpfaaGreatDoor
