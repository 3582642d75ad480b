/- DeclEdges (laid by genCk.py over XCk.start.txt: its regions that draw). -/
import Derived.Test.YtjkjbgekpkhpfaaDoorCj
import Derived.Test.YtjkjbgekpkhpfaaDoorMN
import Derived.Test.YtjkjbgekpkhpfaaDoorM1
namespace Go.Proofs.YtjkjbgekpkhpfaaDoor
open Go.RowKit

theorem cat5 (g h : Nat) : ({ data := #[58, 45, 32, 101, 100, 103, 101, 40] } : ByteArray) ++ bstr (digL g) ++ { data := #[44] } ++ bstr (digL h) ++ { data := #[41, 46] } = bstr (tEd g h) := by
  rw [show ({ data := #[58, 45, 32, 101, 100, 103, 101, 40] } : ByteArray) = bstr [58, 45, 32, 101, 100, 103, 101, 40] from rfl, show ({ data := #[44] } : ByteArray) = bstr [44] from rfl, show ({ data := #[41, 46] } : ByteArray) = bstr [41, 46] from rfl,
    bstr_append, bstr_append, bstr_append, bstr_append]
  congr 1
  unfold tEd nb
  simp
theorem DB.cells {w : World} {b : Nat} {d : DC} (h : DB w b d) : w.cell? ⟨b, 0, none⟩ = some (.int .i64 d.k) ∧ w.cell? ⟨b, 1, none⟩ = some (.string (mk d.p)) ∧ w.cell? ⟨b, 2, none⟩ = some (.int .i64 d.g) ∧ w.cell? ⟨b, 3, none⟩ = some (.int .i64 d.a) ∧ w.cell? ⟨b, 4, none⟩ = some (.int .i64 d.G) ∧ w.cell? ⟨b, 5, none⟩ = some (.int .i64 d.H) :=
  ⟨(cell_of_row w b 0 _ _ _ h).trans rfl, (cell_of_row w b 1 _ _ _ h).trans rfl, (cell_of_row w b 2 _ _ _ h).trans rfl, (cell_of_row w b 3 _ _ _ h).trans rfl, (cell_of_row w b 4 _ _ _ h).trans rfl, (cell_of_row w b 5 _ _ _ h).trans rfl⟩
/-- Slices of a row of tokens that is not empty. -/
theorem tk_upto {w : World} {g n c h : Nat} {L : List TK} (hv : Ts w (some ⟨g, 0, none⟩) n c L) (hh : h ≤ n) : (∀ w0 : World, (Instr.slice 28 (.slice (some ⟨g, 0, none⟩) n c) none (some (.int .i64 h)) none).run Tryd.prog w0 = .ok (.slice (some ⟨g, 0, none⟩) h c) w0) ∧ Ts w (some ⟨g, 0, none⟩) h c (L.take h) :=
  ⟨fun w0 => run_h elem_toks Tryd.underlying28 tok_info (by have := hv.lc; omega) w0, hv.to hh⟩
theorem tk_from {w : World} {g n c l : Nat} {L : List TK} (hv : Ts w (some ⟨g, 0, none⟩) n c L) (hl : l ≤ n) : ∃ a', (∀ w0 : World, (Instr.slice 28 (.slice (some ⟨g, 0, none⟩) n c) (some (.int .i64 l)) none none).run Tryd.prog w0 = .ok (.slice a' (n - l) (c - l)) w0) ∧ Ts w a' (n - l) (c - l) (L.drop l) :=
  ⟨_, fun w0 => run_l elem_toks Tryd.underlying28 tok_info hl w0, hv.from hl⟩

set_option maxRecDepth 100000 in
set_option maxHeartbeats 16000000 in
theorem declEdges_any (g h ww : Nat) (hg : g ≤ 4294967295) (hh : h ≤ 4294967295) (hw : ww ≤ 255) (w : World) (ht : Tab w) (hk : TabK w) (hp : Pow w) :
    Calls Tryd.prog 3 #[.int .u32 g, .int .u32 h, .int .u8 ww] w fun e w' => e = .returned (.bool true) ∧ Below w.heap.size w w' := by
  obtain ⟨G, hG, hG2⟩ := mask31 (g : Int) (by omega) (by omega)
  obtain ⟨H, hH, hH2⟩ := mask31 (h : Int) (by omega) (by omega)
  have hgc : IntKind.i64.wrap (g : Int) = (g : Int) := IntWalk.i64_in _ (by omega)
  have hhc : IntKind.i64.wrap (h : Int) = (h : Int) := IntWalk.i64_in _ (by omega)
  have HT := Lib.hid ht
  have HK := Lib.hid hk
  have HPW := Lib.hid hp
  have HGH : Hid (G ≤ 2147483647 ∧ H ≤ 2147483647) := Lib.hid ⟨hG2, hH2⟩
  clear ht hk hp
  go_enter Tryd.func3, Tryd.ntmps3
  go_wp2_with fail
  refine (showd_any w HT.out HK.out).mono ?_
  rintro e w1 ⟨rfl, hb1⟩
  have HB1 := Lib.hid hb1
  clear hb1
  go_wp2_with fail
  refine (put_any G w1 HGH.out.1 (HPW.out.keep HB1.out)).mono ?_
  rintro e w2 ⟨a2, c2, rfl, ho2, hb2⟩
  have HB2 : Hid (Below w.heap.size w w2) := Lib.hid (HB1.out.trans (hb2.mono HB1.out.size))
  have HO2 := Lib.hid ho2
  clear ho2 hb2
  go_wp2_with fail
  refine (put_any H w2 HGH.out.2 (HPW.out.keep HB2.out)).mono ?_
  rintro e w3 ⟨a3, c3, rfl, ho3, hb3⟩
  have HB3 : Hid (Below w.heap.size w w3) := Lib.hid (HB2.out.trans (hb3.mono HB2.out.size))
  have k1 := (HO2.out.bs.below hb3).str (P := Tryd.prog) 24 9 5 Tryd.underlying24 Tryd.underlying5 Tryd.underlying9
  have k2 := ho3.bs.str (P := Tryd.prog) 24 9 5 Tryd.underlying24 Tryd.underlying5 Tryd.underlying9
  have hcat := cat5 G H
  have hs1 := bstr_size (digL G)
  have hs2 := bstr_size (digL H)
  have hl1 := digL_le G HGH.out.1
  have hl2 := digL_le H HGH.out.2
  have hkl := kl_ed G H HGH.out.1 HGH.out.2
  have htr := tEd_rng G H
  have htl : (tEd G H).length ≤ 100 := by
    unfold tEd nb
    simp
    omega
  obtain ⟨l, hl⟩ : ∃ l, l = tEd G H := ⟨_, rfl⟩
  rw [← hl] at hcat hkl htr htl
  obtain ⟨sG, hsG⟩ : ∃ s, s = bstr (digL G) := ⟨_, rfl⟩
  obtain ⟨sH, hsH⟩ : ∃ s, s = bstr (digL H) := ⟨_, rfl⟩
  rw [← hsG] at k1 hcat hs1
  rw [← hsH] at k2 hcat hs2
  obtain ⟨n1, hn1⟩ : ∃ n, n = (digL G).length := ⟨_, rfl⟩
  obtain ⟨n2, hn2⟩ : ∃ n, n = (digL H).length := ⟨_, rfl⟩
  rw [← hn1] at k1 hs1 hl1 ⊢
  rw [← hn2] at k2 hs2 hl2 ⊢
  obtain ⟨q, C, w4, hcv, hbs, hb4⟩ := conv_str w3 _ l hcat htr (by omega)
  have HB4 : Hid (Below w.heap.size w w4) := Lib.hid (HB3.out.trans (hb4.mono HB3.out.size))
  have HBS := Lib.hid hbs
  obtain ⟨hfl, hTn⟩ := toks_fl htr
  obtain ⟨T, hT⟩ : ∃ T, T = toks l := ⟨_, rfl⟩
  have hTk : T.map kt = kEd G H := by rw [hT, kl_toks, hkl]
  have hT8 : T.length = 8 := by have := congrArg List.length hTk; rw [List.length_map] at this; exact this
  have HTK := Lib.hid hTk
  have HT8 := Lib.hid hT8
  have HTX : Hid (∀ t ∈ T, t.s.toList.length ≤ 100000) := Lib.hid fun t ht => by
    rw [hT] at ht
    have h1 := (hfl t ht).2
    unfold sb at h1
    rw [List.length_map] at h1
    omega
  have HTT := Lib.hid hT
  obtain ⟨m, hm⟩ : ∃ m, m = l.length := ⟨_, rfl⟩
  rw [← hm] at hcv HBS htl
  clear hcat hl hsG hsH hn1 hn2 hkl htr hbs hb3 hb4 ho3 hT hTk hT8 hfl hTn hm
  go_wp2_with fail
  clear k1 k2 hcv
  refine (all_any _ _ _ l w4 HBS.out (HT.out.keep HB4.out) (by omega)).mono ?_
  rw [← HTT.out, HT8.out]
  rintro e w5 ⟨a5, rfl, hr, hb5⟩
  obtain ⟨gg, cur, rfl, _⟩ := hr.own (by decide)
  have HB5 : Hid (Below w.heap.size w w5) := Lib.hid (HB4.out.trans (hb5.mono HB4.out.size))
  have HTS := Lib.hid hr.ts
  clear hr hb5
  -- what decl.Of answers to tokens
  have KO : Hid (∀ (w' : World) (a : Option Addr) (n c : Nat) (L : List TK) (d : DC) (e : Int), Below w.heap.size w w' → Ts w' a n c L → n ≤ 1000 → (∀ t ∈ L, t ∈ T) → decV (L.map kt) = (d, e) → Calls Tryd.prog 8 #[.agg #[.int .i64 0, .int .i64 0, .int .i64 0, .slice a n c]] w' fun r w'' => r = .returned (.tuple #[.agg #[.int .i64 d.k, .string (mk d.p), .int .i64 d.g, .int .i64 d.a, .int .i64 d.G, .int .i64 d.H], .int .i64 e]) ∧ Below w'.heap.size w' w'') := Lib.hid fun w' a n c L d e hb h1 h2 h3 h4 => by
    have := dof_any a n c L 0 0 0 w' h1 (HT.out.keep hb) (HK.out.keep hb) (by omega) (fun t ht => HTX.out t (h3 t ht))
    rw [h4] at this
    exact this
  go_wp2_with (refine build_run rfl 37 #[(3, .tmp 55)] rfl (.agg #[.int .i64 0, .int .i64 0, .int .i64 0, .slice (some ⟨gg, 0, none⟩) 8 8]) (by kernel_rfl) ?_)
  refine (KO.out w5 _ 8 8 T ⟨3, [], 0, 0, G, H⟩ 0 HB5.out HTS.out (by decide) (fun t h => h) (by rw [HTK.out]; exact dec_ed G H HGH.out.1 HGH.out.2)).mono ?_
  rintro e w6 ⟨rfl, hb6⟩
  obtain ⟨w7, hw7⟩ : ∃ w7, w7 = w6.alloc (.cells (DC.cs ⟨3, [], 0, 0, G, H⟩) 33) := ⟨_, rfl⟩
  obtain ⟨A, hA⟩ : ∃ A, A = w6.heap.size := ⟨_, rfl⟩
  have HA7 : Hid (DB w7 A ⟨3, [], 0, 0, G, H⟩) := Lib.hid (by rw [hw7, hA]; exact heap_alloc_new w6 _)
  have HB7 : Hid (Below w5.heap.size w5 w7) := Lib.hid (by rw [hw7]; exact hb6.alloc hb6.size _)
  have HBX7 : Hid (Below w.heap.size w w7) := Lib.hid (HB5.out.trans (HB7.out.mono HB5.out.size))
  have hs0 : (mk [] : ByteArray) = { data := #[] } := rfl
  unfold DC.cs at hw7
  dsimp only at hw7 ⊢
  rw [hs0] at hw7
  clear hb6
  go_wp2_with fail
  rw [← hw7, ← hA]
  clear hw7 hA
  refine (of_lit (p := [58, 45, 32, 98, 101, 103, 105, 110, 46]) (d := ⟨4, [], 0, 0, 0, 0⟩) (e := 0) (by have := dec_bg; rw [← kl_bg] at this; exact this) (by decide) w7 (HT.out.keep HBX7.out) (HK.out.keep HBX7.out)).mono ?_
  rintro e w8 ⟨rfl, hb8⟩
  obtain ⟨w9, hw9⟩ : ∃ w9, w9 = w8.alloc (.cells (DC.cs ⟨4, [], 0, 0, 0, 0⟩) 33) := ⟨_, rfl⟩
  obtain ⟨A', hA'⟩ : ∃ A, A = w8.heap.size := ⟨_, rfl⟩
  have HB79 : Hid (Below w7.heap.size w7 w9) := Lib.hid (by rw [hw9]; exact hb8.alloc hb8.size _)
  have HA9 : Hid (DB w9 A' ⟨4, [], 0, 0, 0, 0⟩) := Lib.hid (by rw [hw9, hA']; exact heap_alloc_new w8 _)
  have HAa9 : Hid (DB w9 A ⟨3, [], 0, 0, G, H⟩) := Lib.hid (HA7.out.below HB79.out)
  have HBX9 : Hid (Below w.heap.size w w9) := Lib.hid (HBX7.out.trans (HB79.out.mono HBX7.out.size))
  have HB9 : Hid (Below w5.heap.size w5 w9) := Lib.hid (HB7.out.trans (HB79.out.mono HB7.out.size))
  unfold DC.cs at hw9
  dsimp only at hw9 ⊢
  rw [hs0] at hw9
  clear hb8
  go_wp2_with fail
  rw [← hw9, ← hA']
  clear hw9 hA'
  refine (of_lit (p := [58, 45, 32, 101, 110, 100, 46]) (d := ⟨5, [], 0, 0, 0, 0⟩) (e := 0) (by have := dec_en; rw [← kl_en] at this; exact this) (by decide) w9 (HT.out.keep HBX9.out) (HK.out.keep HBX9.out)).mono ?_
  rintro e w10 ⟨rfl, hb10⟩
  obtain ⟨w11, hw11⟩ : ∃ w11, w11 = w10.alloc (.cells (DC.cs ⟨5, [], 0, 0, 0, 0⟩) 33) := ⟨_, rfl⟩
  obtain ⟨A'', hA''⟩ : ∃ A, A = w10.heap.size := ⟨_, rfl⟩
  have HB911 : Hid (Below w9.heap.size w9 w11) := Lib.hid (by rw [hw11]; exact hb10.alloc hb10.size _)
  have HA11 : Hid (DB w11 A'' ⟨5, [], 0, 0, 0, 0⟩) := Lib.hid (by rw [hw11, hA'']; exact heap_alloc_new w10 _)
  have HAb11 : Hid (DB w11 A' ⟨4, [], 0, 0, 0, 0⟩) := Lib.hid (HA9.out.below HB911.out)
  have HAa11 : Hid (DB w11 A ⟨3, [], 0, 0, G, H⟩) := Lib.hid (HAa9.out.below HB911.out)
  have HBX11 : Hid (Below w.heap.size w w11) := Lib.hid (HBX9.out.trans (HB911.out.mono HBX9.out.size))
  have HB11 : Hid (Below w5.heap.size w5 w11) := Lib.hid (HB9.out.trans (HB911.out.mono HB9.out.size))
  unfold DC.cs at hw11
  dsimp only at hw11 ⊢
  rw [hs0] at hw11
  clear hb10
  -- which token is left out, or doubled
  obtain ⟨v, hv⟩ : ∃ v, v = ww / 2 := ⟨_, rfl⟩
  obtain ⟨jj, hK⟩ : ∃ jj, jj = v % 8 := ⟨_, rfl⟩
  have hK8 : jj < 8 := by omega
  have hsh : (ww : Int) / 2 = (v : Int) := by omega
  have htm : Int.tmod (v : Int) 8 = (jj : Int) := by rw [Int.tmod_eq_emod_of_nonneg (by omega)]; omega
  have hem : (v : Int) % 8 = (jj : Int) := by omega
  have hv255 : v ≤ 127 := by omega
  clear hv hK
  go_wp2_with fail
  rw [← hw11, ← hA'']
  clear hw11 hA''
  have KT : Hid (∀ w', Below w5.heap.size w5 w' → Ts w' (some ⟨gg, 0, none⟩) 8 8 T) := Lib.hid fun w' hb => HTS.out.below hb
  obtain ⟨hu1, _⟩ := tk_upto HTS.out (h := jj) (by omega)
  have KU1 : Hid (∀ w', Below w5.heap.size w5 w' → Vs 5 w' (some ⟨gg, 0, none⟩) jj 8 (rowT (T.take jj))) := Lib.hid fun w' hb => ((KT.out w' hb).to (by omega)).vs
  obtain ⟨f1, hf1, _⟩ := tk_from HTS.out (l := jj + 1) (by omega)
  have KF1 : Hid (∀ w', Below w5.heap.size w5 w' → Vs 5 w' f1 (8 - (jj + 1)) (8 - (jj + 1)) (rowT (T.drop (jj + 1)))) := Lib.hid fun w' hb => by
    obtain ⟨f, hf, hT⟩ := tk_from (KT.out w' hb) (l := jj + 1) (by omega)
    have e := (hf1 w').symm.trans (hf w')
    simp only [Result.ok.injEq, Value.slice.injEq, and_true] at e
    rw [e]; exact hT.vs
  obtain ⟨hu2, _⟩ := tk_upto HTS.out (h := jj + 1) (by omega)
  have KU2 : Hid (∀ w', Below w5.heap.size w5 w' → Vs 5 w' (some ⟨gg, 0, none⟩) (jj + 1) 8 (rowT (T.take (jj + 1)))) := Lib.hid fun w' hb => ((KT.out w' hb).to (by omega)).vs
  obtain ⟨f2, hf2, _⟩ := tk_from HTS.out (l := jj) (by omega)
  have KF2 : Hid (∀ w', Below w5.heap.size w5 w' → Vs 5 w' f2 (8 - jj) (8 - jj) (rowT (T.drop jj))) := Lib.hid fun w' hb => by
    obtain ⟨f, hf, hT⟩ := tk_from (KT.out w' hb) (l := jj) (by omega)
    have e := (hf2 w').symm.trans (hf w')
    simp only [Result.ok.injEq, Value.slice.injEq, and_true] at e
    rw [e]; exact hT.vs
  have e1 : ((jj + 1 : Nat) : Int) = (jj : Int) + 1 := by omega
  rw [e1] at hf1 hu2
  obtain ⟨m1, hm1⟩ : ∃ m, m = 8 - (jj + 1) := ⟨_, rfl⟩
  obtain ⟨m2, hm2⟩ : ∃ m, m = 8 - jj := ⟨_, rfl⟩
  have HM1 : Hid (jj + m1 = 7) := Lib.hid (by omega)
  have HM2 : Hid (jj + 1 + m2 = 9) := Lib.hid (by omega)
  rw [← hm1] at hf1 KF1
  rw [← hm2] at hf2 KF2
  clear hm1 hm2
  have hw1 : IntKind.i64.wrap ((jj : Int) + 1) = (jj : Int) + 1 := IntWalk.i64_in _ (by omega)
  have HD : Hid (∀ k, k < 8 → decV ((T.take k ++ T.drop (k + 1)).map kt) = (⟨0, [], 0, 0, 0, 0⟩, 20) ∧ decV ((T.take (k + 1) ++ T.drop k).map kt) = (⟨0, [], 0, 0, 0, 0⟩, 20)) := Lib.hid fun k hk => by
    rw [List.map_append, List.map_append, List.map_take, List.map_drop, List.map_take, List.map_drop, HTK.out]
    exact dec_odd G H k hk
  have HKK : Hid (jj < 8) := Lib.hid hK8
  have he3 : ∀ w, (Op.equalIn 10000 33 (.agg #[.int .i64 3, .string { data := #[] }, .int .i64 0, .int .i64 0, .int .i64 G, .int .i64 H]) (.agg #[.int .i64 3, .string { data := #[] }, .int .i64 0, .int .i64 0, .int .i64 G, .int .i64 H])).run Tryd.prog w = .ok true w := fun w => eq_dc ⟨3, [], 0, 0, G, H⟩ w
  have he4 : ∀ w, (Op.equalIn 10000 33 (.agg #[.int .i64 4, .string { data := #[] }, .int .i64 0, .int .i64 0, .int .i64 0, .int .i64 0]) (.agg #[.int .i64 4, .string { data := #[] }, .int .i64 0, .int .i64 0, .int .i64 0, .int .i64 0])).run Tryd.prog w = .ok true w := fun w => eq_dc ⟨4, [], 0, 0, 0, 0⟩ w
  have he5 : ∀ w, (Op.equalIn 10000 33 (.agg #[.int .i64 5, .string { data := #[] }, .int .i64 0, .int .i64 0, .int .i64 0, .int .i64 0]) (.agg #[.int .i64 5, .string { data := #[] }, .int .i64 0, .int .i64 0, .int .i64 0, .int .i64 0])).run Tryd.prog w = .ok true w := fun w => eq_dc ⟨5, [], 0, 0, 0, 0⟩ w
  refine wp_region_noPanic ?_
  refine wp_region_held_drew (S := fun _ => True) (by kernel_rfl) (trivial) (fun hHeld => ?_)
  refine wpAnyH_take (i := 1) (oi := { dst := some 76, op := Op.move (Operand.tmp 12), type := 28, pos := "law.go:78", after := #[], guard := none }) (v := ?_) rfl (by kernel_rfl) (by kernel_rfl) (by kernel_rfl) (fun _ _ _ h => h) (Or.inl ⟨by rfl, ?_⟩) (by assumption) ?_
  rotate_left
  · intro w' hSw
    try dsimp only at hSw
    go_simp
    try with_reducible rfl
  try simp only [Act.put, List.setIfInBounds_toArray, List.set_cons_zero, List.set_cons_succ]
  refine wpAnyH_take (i := 2) (oi := { dst := some 77, op := Op.move (Operand.tmp 19), type := 3, pos := "law.go:78", after := #[], guard := none }) (v := ?_) rfl (by kernel_rfl) (by kernel_rfl) (by kernel_rfl) (fun _ _ _ h => h) (Or.inl ⟨by rfl, ?_⟩) (by assumption) ?_
  rotate_left
  · intro w' hSw
    try dsimp only at hSw
    go_simp
    try with_reducible rfl
  try simp only [Act.put, List.setIfInBounds_toArray, List.set_cons_zero, List.set_cons_succ]
  refine wpAnyH_take (i := 3) (oi := { dst := some 78, op := Op.slice 28 (Operand.tmp 76) none (some (Operand.tmp 77)) none, type := 28, pos := "law.go:78", after := #[{ on := 1, ground := Ground.data }, { on := 2, ground := Ground.data }], guard := none }) (v := ?_) rfl (by kernel_rfl) (by kernel_rfl) (by kernel_rfl) (fun _ _ _ h => h) (Or.inl ⟨by rfl, ?_⟩) (by assumption) ?_
  rotate_left
  · intro w' hSw
    try dsimp only at hSw
    go_simp
    try with_reducible rfl
  try simp only [Act.put, List.setIfInBounds_toArray, List.set_cons_zero, List.set_cons_succ]
  refine wpAnyH_take (i := 5) (oi := { dst := some 80, op := Op.move (Operand.tmp 12), type := 28, pos := "law.go:78", after := #[], guard := none }) (v := ?_) rfl (by kernel_rfl) (by kernel_rfl) (by kernel_rfl) (fun _ _ _ h => h) (Or.inl ⟨by rfl, ?_⟩) (by assumption) ?_
  rotate_left
  · intro w' hSw
    try dsimp only at hSw
    go_simp
    try with_reducible rfl
  try simp only [Act.put, List.setIfInBounds_toArray, List.set_cons_zero, List.set_cons_succ]
  refine wpAnyH_take (i := 6) (oi := { dst := some 81, op := Op.move (Operand.tmp 19), type := 3, pos := "law.go:78", after := #[], guard := none }) (v := ?_) rfl (by kernel_rfl) (by kernel_rfl) (by kernel_rfl) (fun _ _ _ h => h) (Or.inl ⟨by rfl, ?_⟩) (by assumption) ?_
  rotate_left
  · intro w' hSw
    try dsimp only at hSw
    go_simp
    try with_reducible rfl
  try simp only [Act.put, List.setIfInBounds_toArray, List.set_cons_zero, List.set_cons_succ]
  refine wpAnyH_take (i := 7) (oi := { dst := some 82, op := Op.binOp BinOp.add 3 (Operand.tmp 81) (Operand.const (Value.int IntKind.i64 1)) 3, type := 3, pos := "law.go:78", after := #[{ on := 6, ground := Ground.data }], guard := none }) (v := ?_) rfl (by kernel_rfl) (by kernel_rfl) (by kernel_rfl) (fun _ _ _ h => h) (Or.inl ⟨by rfl, ?_⟩) (by assumption) ?_
  rotate_left
  · intro w' hSw
    try dsimp only at hSw
    go_simp
    try with_reducible rfl
  try simp only [Act.put, List.setIfInBounds_toArray, List.set_cons_zero, List.set_cons_succ]
  refine wpAnyH_take (i := 8) (oi := { dst := some 83, op := Op.slice 28 (Operand.tmp 80) (some (Operand.tmp 82)) none none, type := 28, pos := "law.go:78", after := #[{ on := 5, ground := Ground.data }, { on := 7, ground := Ground.data }], guard := none }) (v := ?_) rfl (by kernel_rfl) (by kernel_rfl) (by kernel_rfl) (fun _ _ _ h => h) (Or.inl ⟨by rfl, ?_⟩) (by assumption) ?_
  rotate_left
  · intro w' hSw
    try dsimp only at hSw
    go_simp
    try with_reducible rfl
  try simp only [Act.put, List.setIfInBounds_toArray, List.set_cons_zero, List.set_cons_succ]
  refine wpAnyH_ready (rs := [0]) (by kernel_rfl) (by simp) ?_
  refine AllReadyH.cons (o := { dst := some 75, op := Op.buildSlice 28 0 #[], type := 28, pos := "law.go:78", after := #[], guard := none }) rfl (fun K hK => ?_) ?_
  · go_simp
    refine hK.out _ _ (trivial) (fun hHeld => ?_)
    clear hK K
    try simp only [Act.put, List.setIfInBounds_toArray, List.set_cons_zero, List.set_cons_succ]
    refine wpAnyH_ready (rs := [4]) (by kernel_rfl) (by simp) ?_
    refine AllReadyH.cons (o := { dst := some 79, op := Op.call { callee := Callee.builtin Builtin.append, args := #[Operand.tmp 75, Operand.tmp 78], argTypes := #[28, 28] }, type := 28, pos := "law.go:78", after := #[{ on := 0, ground := Ground.data }, { on := 3, ground := Ground.data }], guard := none }) rfl (fun K hK => ?_) ?_
    · refine step_appv rfl (.tmp 75) (.tmp 78) 28 rfl 46 w11.heap.size 5 48 _ Tryd.underlying28 tok_info rfl (by omega) _ 0 _ [] rfl (OwnV.emptyAt (by first | exact heap_alloc_new w11 _ | exact heap_alloc_new w11.drew _) (Nat.le_refl _)) _ (jj) _ (rowT (T.take (jj))) rfl (KU1.out _ (HB11.out.trans (Below.mono (by first | exact (Below.refl _ _).drew.alloc (Nat.le_refl _) _ | exact ((Below.refl _ _).alloc (Nat.le_refl _) _).drew) HB11.out.size))) (rowT_one _) (by unfold maxLen; omega) (by omega) (by simp) ?_
      intro ax cx wa hox _ hbx _
      rw [Nat.zero_add, List.nil_append] at hox
      rw [Nat.zero_add]
      have HOxwa := Lib.hid hox
      have HBwa : Hid (Below w11.heap.size w11 wa) := Lib.hid (Below.trans (by first | exact (Below.refl _ _).drew.alloc (Nat.le_refl _) _ | exact ((Below.refl _ _).alloc (Nat.le_refl _) _).drew) hbx)
      clear hox hbx
      refine hK.out _ _ (trivial) (fun hHeld => ?_)
      clear hK K
      try simp only [Act.put, List.setIfInBounds_toArray, List.set_cons_zero, List.set_cons_succ]
      refine wpAnyH_ready (rs := [9]) (by kernel_rfl) (by simp) ?_
      refine AllReadyH.cons (o := { dst := some 84, op := Op.call { callee := Callee.builtin Builtin.append, args := #[Operand.tmp 79, Operand.tmp 83], argTypes := #[28, 28] }, type := 28, pos := "law.go:78", after := #[{ on := 4, ground := Ground.data }, { on := 8, ground := Ground.data }, { on := 4, ground := Ground.chain }], guard := none }) rfl (fun K hK => ?_) ?_
      · refine step_appv rfl (.tmp 79) (.tmp 83) 28 rfl 46 w11.heap.size 5 48 _ Tryd.underlying28 tok_info rfl (by omega) _ (jj) _ (rowT (T.take (jj))) rfl HOxwa.out _ (m1) _ (rowT (T.drop (jj + 1))) rfl (KF1.out _ (HB11.out.trans (HBwa.out.mono HB11.out.size))) (rowT_one _) (by unfold maxLen; have := HM1.out; have := HM2.out; omega) (by have := HM1.out; have := HM2.out; omega) HBwa.out.size ?_
        intro ay cy wb hoy _ hby _
        rw [show jj + m1 = 7 from HM1.out] at hoy ⊢
        have HOwb : Hid (OwnT w11.heap.size 46 wb ay 7 cy (T.take (jj) ++ T.drop (jj + 1))) := Lib.hid (by unfold OwnT; rw [rowT_append]; exact hoy)
        have HBwb : Hid (Below w11.heap.size w11 wb) := Lib.hid (HBwa.out.trans hby)
        have HBYwb : Hid (Below w5.heap.size w5 wb) := Lib.hid (HB11.out.trans (HBwb.out.mono HB11.out.size))
        clear hoy hby
        refine hK.out _ _ (trivial) (fun hHeld => ?_)
        clear hK K
        try simp only [Act.put, List.setIfInBounds_toArray, List.set_cons_zero, List.set_cons_succ]
        refine wpAnyH_take (i := 10) (oi := { dst := some 20, op := Op.assign (Operand.tmp 84), type := 28, pos := "law.go:78", after := #[{ on := 9, ground := Ground.data }, { on := 9, ground := Ground.chain }, { on := 0, ground := Ground.phase }, { on := 1, ground := Ground.phase }, { on := 2, ground := Ground.phase }, { on := 3, ground := Ground.phase }, { on := 4, ground := Ground.phase }, { on := 5, ground := Ground.phase }, { on := 6, ground := Ground.phase }, { on := 7, ground := Ground.phase }, { on := 8, ground := Ground.phase }, { on := 9, ground := Ground.phase }], guard := none }) (v := ?_) rfl (by kernel_rfl) (by kernel_rfl) (by kernel_rfl) (fun _ _ _ h => h) (Or.inl ⟨by rfl, ?_⟩) (by assumption) ?_
        rotate_left
        · intro w' hSw
          try dsimp only at hSw
          go_simp
          try with_reducible rfl
        try simp only [Act.put, List.setIfInBounds_toArray, List.set_cons_zero, List.set_cons_succ]
        refine wpAnyH_done (by kernel_rfl) ?_ _
        refine NoPanic.normal ?_
        cases hodd : bits .and .u8 (ww : Int) 1 == 1 with
        | false =>
          go_wp2_with (refine build_run rfl 37 #[(3, .tmp 99)] rfl (.agg #[.int .i64 0, .int .i64 0, .int .i64 0, .slice ay 7 cy]) (by kernel_rfl) ?_)
          refine (KO.out wb ay 7 cy (T.take jj ++ T.drop (jj + 1)) ⟨0, [], 0, 0, 0, 0⟩ 20 (HB5.out.trans (HBYwb.out.mono HB5.out.size)) HOwb.out.ts (by decide) (fun t ht => by
            rcases List.mem_append.1 ht with h | h
            · exact List.mem_of_mem_take h
            · exact List.mem_of_mem_drop h) (HD.out jj HKK.out).1).mono ?_
          rintro e wz ⟨rfl, hbz⟩
          have HBZ : Hid (Below w5.heap.size w5 wz) := Lib.hid (HBYwb.out.trans (hbz.mono HBYwb.out.size))
          have HBW : Hid (Below w11.heap.size w11 wz) := Lib.hid (HBwb.out.trans (hbz.mono HBwb.out.size))
          have KC : Hid (∀ ob : Obj, DB (wz.alloc ob) A ⟨3, [], 0, 0, G, H⟩ ∧ DB (wz.alloc ob) A' ⟨4, [], 0, 0, 0, 0⟩ ∧ DB (wz.alloc ob) A'' ⟨5, [], 0, 0, 0, 0⟩) := Lib.hid fun ob => ⟨(HAa11.out.below HBW.out).below (below_new wz ob), (HAb11.out.below HBW.out).below (below_new wz ob), (HA11.out.below HBW.out).below (below_new wz ob)⟩
          have x0 := fun ob => (DB.cells (KC.out ob).1).1
          have x1 := fun ob => (DB.cells (KC.out ob).1).2.1
          have x2 := fun ob => (DB.cells (KC.out ob).1).2.2.1
          have x3 := fun ob => (DB.cells (KC.out ob).1).2.2.2.1
          have x4 := fun ob => (DB.cells (KC.out ob).1).2.2.2.2.1
          have x5 := fun ob => (DB.cells (KC.out ob).1).2.2.2.2.2
          have y0 := fun ob => (DB.cells (KC.out ob).2.1).1
          have y1 := fun ob => (DB.cells (KC.out ob).2.1).2.1
          have y2 := fun ob => (DB.cells (KC.out ob).2.1).2.2.1
          have y3 := fun ob => (DB.cells (KC.out ob).2.1).2.2.2.1
          have y4 := fun ob => (DB.cells (KC.out ob).2.1).2.2.2.2.1
          have y5 := fun ob => (DB.cells (KC.out ob).2.1).2.2.2.2.2
          have z0 := fun ob => (DB.cells (KC.out ob).2.2).1
          have z1 := fun ob => (DB.cells (KC.out ob).2.2).2.1
          have z2 := fun ob => (DB.cells (KC.out ob).2.2).2.2.1
          have z3 := fun ob => (DB.cells (KC.out ob).2.2).2.2.2.1
          have z4 := fun ob => (DB.cells (KC.out ob).2.2).2.2.2.2.1
          have z5 := fun ob => (DB.cells (KC.out ob).2.2).2.2.2.2.2
          dsimp only at x0 x1 x2 x3 x4 x5 y0 y1 y2 y3 y4 y5 z0 z1 z2 z3 z4 z5
          rw [hs0] at x1 y1 z1
          have HBE : Hid (Below w.heap.size w wz) := Lib.hid (HB5.out.trans (HBZ.out.mono HB5.out.size))
          clear hbz
          go_wp2
          go_ret
          exact ⟨rfl, HBE.out.alloc HBE.out.size _⟩
        | true =>
          go_wp2_with fail
          refine wp_region_noPanic ?_
          refine wp_region_held_drew (S := fun _ => True) (by kernel_rfl) (trivial) (fun hHeld => ?_)
          refine wpAnyH_take (i := 1) (oi := { dst := some 89, op := Op.move (Operand.tmp 12), type := 28, pos := "law.go:80", after := #[], guard := none }) (v := ?_) rfl (by kernel_rfl) (by kernel_rfl) (by kernel_rfl) (fun _ _ _ h => h) (Or.inl ⟨by rfl, ?_⟩) (by assumption) ?_
          rotate_left
          · intro w' hSw
            try dsimp only at hSw
            go_simp
            try with_reducible rfl
          try simp only [Act.put, List.setIfInBounds_toArray, List.set_cons_zero, List.set_cons_succ]
          refine wpAnyH_take (i := 2) (oi := { dst := some 90, op := Op.move (Operand.tmp 19), type := 3, pos := "law.go:80", after := #[], guard := none }) (v := ?_) rfl (by kernel_rfl) (by kernel_rfl) (by kernel_rfl) (fun _ _ _ h => h) (Or.inl ⟨by rfl, ?_⟩) (by assumption) ?_
          rotate_left
          · intro w' hSw
            try dsimp only at hSw
            go_simp
            try with_reducible rfl
          try simp only [Act.put, List.setIfInBounds_toArray, List.set_cons_zero, List.set_cons_succ]
          refine wpAnyH_take (i := 3) (oi := { dst := some 91, op := Op.binOp BinOp.add 3 (Operand.tmp 90) (Operand.const (Value.int IntKind.i64 1)) 3, type := 3, pos := "law.go:80", after := #[{ on := 2, ground := Ground.data }], guard := none }) (v := ?_) rfl (by kernel_rfl) (by kernel_rfl) (by kernel_rfl) (fun _ _ _ h => h) (Or.inl ⟨by rfl, ?_⟩) (by assumption) ?_
          rotate_left
          · intro w' hSw
            try dsimp only at hSw
            go_simp
            try with_reducible rfl
          try simp only [Act.put, List.setIfInBounds_toArray, List.set_cons_zero, List.set_cons_succ]
          refine wpAnyH_take (i := 4) (oi := { dst := some 92, op := Op.slice 28 (Operand.tmp 89) none (some (Operand.tmp 91)) none, type := 28, pos := "law.go:80", after := #[{ on := 1, ground := Ground.data }, { on := 3, ground := Ground.data }], guard := none }) (v := ?_) rfl (by kernel_rfl) (by kernel_rfl) (by kernel_rfl) (fun _ _ _ h => h) (Or.inl ⟨by rfl, ?_⟩) (by assumption) ?_
          rotate_left
          · intro w' hSw
            try dsimp only at hSw
            go_simp
            try with_reducible rfl
          try simp only [Act.put, List.setIfInBounds_toArray, List.set_cons_zero, List.set_cons_succ]
          refine wpAnyH_take (i := 6) (oi := { dst := some 94, op := Op.move (Operand.tmp 12), type := 28, pos := "law.go:80", after := #[], guard := none }) (v := ?_) rfl (by kernel_rfl) (by kernel_rfl) (by kernel_rfl) (fun _ _ _ h => h) (Or.inl ⟨by rfl, ?_⟩) (by assumption) ?_
          rotate_left
          · intro w' hSw
            try dsimp only at hSw
            go_simp
            try with_reducible rfl
          try simp only [Act.put, List.setIfInBounds_toArray, List.set_cons_zero, List.set_cons_succ]
          refine wpAnyH_take (i := 7) (oi := { dst := some 95, op := Op.move (Operand.tmp 19), type := 3, pos := "law.go:80", after := #[], guard := none }) (v := ?_) rfl (by kernel_rfl) (by kernel_rfl) (by kernel_rfl) (fun _ _ _ h => h) (Or.inl ⟨by rfl, ?_⟩) (by assumption) ?_
          rotate_left
          · intro w' hSw
            try dsimp only at hSw
            go_simp
            try with_reducible rfl
          try simp only [Act.put, List.setIfInBounds_toArray, List.set_cons_zero, List.set_cons_succ]
          refine wpAnyH_take (i := 8) (oi := { dst := some 96, op := Op.slice 28 (Operand.tmp 94) (some (Operand.tmp 95)) none none, type := 28, pos := "law.go:80", after := #[{ on := 6, ground := Ground.data }, { on := 7, ground := Ground.data }], guard := none }) (v := ?_) rfl (by kernel_rfl) (by kernel_rfl) (by kernel_rfl) (fun _ _ _ h => h) (Or.inl ⟨by rfl, ?_⟩) (by assumption) ?_
          rotate_left
          · intro w' hSw
            try dsimp only at hSw
            go_simp
            try with_reducible rfl
          try simp only [Act.put, List.setIfInBounds_toArray, List.set_cons_zero, List.set_cons_succ]
          refine wpAnyH_ready (rs := [0]) (by kernel_rfl) (by simp) ?_
          refine AllReadyH.cons (o := { dst := some 88, op := Op.buildSlice 28 0 #[], type := 28, pos := "law.go:80", after := #[], guard := none }) rfl (fun K hK => ?_) ?_
          · go_simp
            refine hK.out _ _ (trivial) (fun hHeld => ?_)
            clear hK K
            try simp only [Act.put, List.setIfInBounds_toArray, List.set_cons_zero, List.set_cons_succ]
            refine wpAnyH_ready (rs := [5]) (by kernel_rfl) (by simp) ?_
            refine AllReadyH.cons (o := { dst := some 93, op := Op.call { callee := Callee.builtin Builtin.append, args := #[Operand.tmp 88, Operand.tmp 92], argTypes := #[28, 28] }, type := 28, pos := "law.go:80", after := #[{ on := 0, ground := Ground.data }, { on := 4, ground := Ground.data }], guard := none }) rfl (fun K hK => ?_) ?_
            · refine step_appv rfl (.tmp 88) (.tmp 92) 28 rfl 46 wb.heap.size 5 48 _ Tryd.underlying28 tok_info rfl (by omega) _ 0 _ [] rfl (OwnV.emptyAt (by first | exact heap_alloc_new wb _ | exact heap_alloc_new wb.drew _) (Nat.le_refl _)) _ (jj + 1) _ (rowT (T.take (jj + 1))) rfl (KU2.out _ (HBYwb.out.trans (Below.mono (by first | exact (Below.refl _ _).drew.alloc (Nat.le_refl _) _ | exact ((Below.refl _ _).alloc (Nat.le_refl _) _).drew) HBYwb.out.size))) (rowT_one _) (by unfold maxLen; omega) (by omega) (by simp) ?_
              intro ax cx wc hox _ hbx _
              rw [Nat.zero_add, List.nil_append] at hox
              rw [Nat.zero_add]
              have HOxwc := Lib.hid hox
              have HBwc : Hid (Below wb.heap.size wb wc) := Lib.hid (Below.trans (by first | exact (Below.refl _ _).drew.alloc (Nat.le_refl _) _ | exact ((Below.refl _ _).alloc (Nat.le_refl _) _).drew) hbx)
              clear hox hbx
              refine hK.out _ _ (trivial) (fun hHeld => ?_)
              clear hK K
              try simp only [Act.put, List.setIfInBounds_toArray, List.set_cons_zero, List.set_cons_succ]
              refine wpAnyH_ready (rs := [9]) (by kernel_rfl) (by simp) ?_
              refine AllReadyH.cons (o := { dst := some 97, op := Op.call { callee := Callee.builtin Builtin.append, args := #[Operand.tmp 93, Operand.tmp 96], argTypes := #[28, 28] }, type := 28, pos := "law.go:80", after := #[{ on := 5, ground := Ground.data }, { on := 8, ground := Ground.data }, { on := 5, ground := Ground.chain }], guard := none }) rfl (fun K hK => ?_) ?_
              · refine step_appv rfl (.tmp 93) (.tmp 96) 28 rfl 46 wb.heap.size 5 48 _ Tryd.underlying28 tok_info rfl (by omega) _ (jj + 1) _ (rowT (T.take (jj + 1))) rfl HOxwc.out _ (m2) _ (rowT (T.drop (jj))) rfl (KF2.out _ (HBYwb.out.trans (HBwc.out.mono HBYwb.out.size))) (rowT_one _) (by unfold maxLen; have := HM1.out; have := HM2.out; omega) (by have := HM1.out; have := HM2.out; omega) HBwc.out.size ?_
                intro ay cy wd hoy _ hby _
                rw [show jj + 1 + m2 = 9 from HM2.out] at hoy ⊢
                have HOwd : Hid (OwnT wb.heap.size 46 wd ay 9 cy (T.take (jj + 1) ++ T.drop (jj))) := Lib.hid (by unfold OwnT; rw [rowT_append]; exact hoy)
                have HBwd : Hid (Below wb.heap.size wb wd) := Lib.hid (HBwc.out.trans hby)
                have HBYwd : Hid (Below w5.heap.size w5 wd) := Lib.hid (HBYwb.out.trans (HBwd.out.mono HBYwb.out.size))
                clear hoy hby
                refine hK.out _ _ (trivial) (fun hHeld => ?_)
                clear hK K
                try simp only [Act.put, List.setIfInBounds_toArray, List.set_cons_zero, List.set_cons_succ]
                refine wpAnyH_take (i := 10) (oi := { dst := some 20, op := Op.assign (Operand.tmp 97), type := 28, pos := "law.go:80", after := #[{ on := 9, ground := Ground.data }, { on := 9, ground := Ground.chain }, { on := 0, ground := Ground.phase }, { on := 1, ground := Ground.phase }, { on := 2, ground := Ground.phase }, { on := 3, ground := Ground.phase }, { on := 4, ground := Ground.phase }, { on := 5, ground := Ground.phase }, { on := 6, ground := Ground.phase }, { on := 7, ground := Ground.phase }, { on := 8, ground := Ground.phase }, { on := 9, ground := Ground.phase }], guard := none }) (v := ?_) rfl (by kernel_rfl) (by kernel_rfl) (by kernel_rfl) (fun _ _ _ h => h) (Or.inl ⟨by rfl, ?_⟩) (by assumption) ?_
                rotate_left
                · intro w' hSw
                  try dsimp only at hSw
                  go_simp
                  try with_reducible rfl
                try simp only [Act.put, List.setIfInBounds_toArray, List.set_cons_zero, List.set_cons_succ]
                refine wpAnyH_done (by kernel_rfl) ?_ _
                refine NoPanic.normal ?_
                have HBQwd : Hid (Below w11.heap.size w11 wd) := Lib.hid (HBwb.out.trans (HBwd.out.mono HBwb.out.size))
                go_wp2_with (refine build_run rfl 37 #[(3, .tmp 99)] rfl (.agg #[.int .i64 0, .int .i64 0, .int .i64 0, .slice ay 9 cy]) (by kernel_rfl) ?_)
                refine (KO.out wd ay 9 cy (T.take (jj + 1) ++ T.drop jj) ⟨0, [], 0, 0, 0, 0⟩ 20 (HB5.out.trans (HBYwd.out.mono HB5.out.size)) HOwd.out.ts (by decide) (fun t ht => by
                  rcases List.mem_append.1 ht with h | h
                  · exact List.mem_of_mem_take h
                  · exact List.mem_of_mem_drop h) (HD.out jj HKK.out).2).mono ?_
                rintro e wz ⟨rfl, hbz⟩
                have HBZ : Hid (Below w5.heap.size w5 wz) := Lib.hid (HBYwd.out.trans (hbz.mono HBYwd.out.size))
                have HBW : Hid (Below w11.heap.size w11 wz) := Lib.hid (HBQwd.out.trans (hbz.mono HBQwd.out.size))
                have KC : Hid (∀ ob : Obj, DB (wz.alloc ob) A ⟨3, [], 0, 0, G, H⟩ ∧ DB (wz.alloc ob) A' ⟨4, [], 0, 0, 0, 0⟩ ∧ DB (wz.alloc ob) A'' ⟨5, [], 0, 0, 0, 0⟩) := Lib.hid fun ob => ⟨(HAa11.out.below HBW.out).below (below_new wz ob), (HAb11.out.below HBW.out).below (below_new wz ob), (HA11.out.below HBW.out).below (below_new wz ob)⟩
                have x0 := fun ob => (DB.cells (KC.out ob).1).1
                have x1 := fun ob => (DB.cells (KC.out ob).1).2.1
                have x2 := fun ob => (DB.cells (KC.out ob).1).2.2.1
                have x3 := fun ob => (DB.cells (KC.out ob).1).2.2.2.1
                have x4 := fun ob => (DB.cells (KC.out ob).1).2.2.2.2.1
                have x5 := fun ob => (DB.cells (KC.out ob).1).2.2.2.2.2
                have y0 := fun ob => (DB.cells (KC.out ob).2.1).1
                have y1 := fun ob => (DB.cells (KC.out ob).2.1).2.1
                have y2 := fun ob => (DB.cells (KC.out ob).2.1).2.2.1
                have y3 := fun ob => (DB.cells (KC.out ob).2.1).2.2.2.1
                have y4 := fun ob => (DB.cells (KC.out ob).2.1).2.2.2.2.1
                have y5 := fun ob => (DB.cells (KC.out ob).2.1).2.2.2.2.2
                have z0 := fun ob => (DB.cells (KC.out ob).2.2).1
                have z1 := fun ob => (DB.cells (KC.out ob).2.2).2.1
                have z2 := fun ob => (DB.cells (KC.out ob).2.2).2.2.1
                have z3 := fun ob => (DB.cells (KC.out ob).2.2).2.2.2.1
                have z4 := fun ob => (DB.cells (KC.out ob).2.2).2.2.2.2.1
                have z5 := fun ob => (DB.cells (KC.out ob).2.2).2.2.2.2.2
                dsimp only at x0 x1 x2 x3 x4 x5 y0 y1 y2 y3 y4 y5 z0 z1 z2 z3 z4 z5
                rw [hs0] at x1 y1 z1
                have HBE : Hid (Below w.heap.size w wz) := Lib.hid (HB5.out.trans (HBZ.out.mono HB5.out.size))
                clear hbz
                go_wp2
                go_ret
                exact ⟨rfl, HBE.out.alloc HBE.out.size _⟩
              · exact AllReadyH.nil
            · exact AllReadyH.nil
          · exact AllReadyH.nil
      · exact AllReadyH.nil
    · exact AllReadyH.nil
  · exact AllReadyH.nil

end Go.Proofs.YtjkjbgekpkhpfaaDoor
