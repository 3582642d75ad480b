/- DeclOpers. -/
import Derived.Test.YtjkjbgekpkhpfaaGreatDoorCp
import Derived.Deep.DeepCutAuto
import Derived.Laws.Concat
namespace Go.Proofs.YtjkjbgekpkhpfaaGreatDoor
open Go.RowKit

/-- A directive stored into a block that was just made. -/
theorem run_store_dc (W : World) (X : Nat) (d : DC) (h : DB W X d0) : (storeCells ⟨X, 0, none⟩ [.int .i64 d.k, .string (mk d.p), .int .i64 d.g, .int .i64 d.a, .int .i64 d.G, .int .i64 d.H]).run Tryz.prog W = .ok () (W.setRow X d.cs) := by
  have hst := run_storeCells_at Tryz.prog X 0 53 d.cs.toList 0 d0.cs W h (by simp [DC.cs]) (fun v hv => by
    have := DC.one d
    rw [Array.all_eq_true_iff_forall_mem] at this
    exact this v (by simpa using hv))
  simpa [DC.cs] using hst
theorem dc_put {B X : Nat} {w0 w : World} {d : DC} (hx : DB w X d0) (hb : Below B w0 w) (hB : B ≤ X) : DB (w.setRow X d.cs) X d ∧ Below B w0 (w.setRow X d.cs) :=
  ⟨setRow_heap w X _ _ _ _ hx, hb.trans (below_row w X _ hB)⟩

theorem szle {a b : ByteArray} {m n : Nat} (ha : a.size ≤ m) (hb : b.size ≤ n) : (a ++ b).size ≤ m + n := by rw [ByteArray.size_append]; omega
theorem sadd {a b : ByteArray} {m n : Nat} (ha : a.size ≤ m) (hb : b.size ≤ n) (hm : m + n ≤ 100000) (w : World) : (Op.stringOp .add a b).run Tryz.prog w = .ok (.string (a ++ b)) w := run_string_add_sum w a b (by omega)
theorem nb_lenC (p : Nm) : (nb p).length = p.length := List.length_map ..

set_option maxRecDepth 100000 in
set_option maxHeartbeats 16000000 in
theorem declOpers_any (p0 : Nm) (g0 a0 : Int) (w : World) (hsz : p0.length ≤ 140737488355328) (ht : Tab w) (hk : TabK w) (hp : Pow w) :
    Calls Tryz.prog 4 #[.agg #[.string (mk p0), .int .i64 g0, .int .i64 a0]] w fun e w' => e = .returned (.bool true) ∧ Below w.heap.size w w' := by
  obtain ⟨B, hB⟩ : ∃ B, B = w.heap.size := ⟨_, rfl⟩
  obtain ⟨w1, hw1⟩ : ∃ w1, w1 = w.alloc (.cells #[.string (mk p0), .int .i64 g0, .int .i64 a0] 28) := ⟨_, rfl⟩
  have HX1 : Hid (w1.heap[B]? = some (.cells #[.string (mk p0), .int .i64 g0, .int .i64 a0] 28 (0, 0))) := Lib.hid (by rw [hw1, hB]; exact heap_alloc_new w _)
  have HB1 : Hid (Below w.heap.size w w1) := Lib.hid (by rw [hw1]; exact below_new w _)
  have HT := Lib.hid ht
  have HK := Lib.hid hk
  have HPW := Lib.hid hp
  -- the operator that is made
  have hk16 := fitQ_lt p0
  obtain ⟨hg1, hg9⟩ := fitG_rng g0
  obtain ⟨ha0, ha2⟩ := fitA_rng p0 g0 a0
  have hmay := fit_may p0 g0 a0
  have hpp := pat_plain _ hk16
  have hpl := pat_len _ hk16
  have HFIT : Hid (∀ w', Calls Tryz.prog 23 #[.agg #[.string (mk p0), .int .i64 g0, .int .i64 a0]] w' fun e w'' => e = .returned (.agg #[.string (mk (pat (fitQ p0))), .int .i64 (fitG g0), .int .i64 (fitA p0 g0 a0)]) ∧ Below w'.heap.size w' w'') := Lib.hid fun w' => fit_any p0 g0 a0 w' hsz
  obtain ⟨p, hpe⟩ : ∃ p, p = pat (fitQ p0) := ⟨_, rfl⟩
  obtain ⟨n, hne⟩ := Int.eq_ofNat_of_zero_le (show 0 ≤ fitG g0 by omega)
  obtain ⟨s, hse⟩ := Int.eq_ofNat_of_zero_le ha0
  rw [← hpe, hne, hse] at HFIT hmay
  rw [← hpe] at hpp hpl
  rw [hne] at hg1 hg9
  rw [hse] at ha2
  have hn9 : n ≤ 9 := by omega
  have hn1 : 1 ≤ n := by omega
  have hs2 : s ≤ 2 := by omega
  have hsay := say_op hn9 hn1 hs2 hpp.1 hmay
  have hok := okT_plain hpp.1
  have hput := ptOk_yes hok.1
  have HSAY := Lib.hid hsay
  have HN : Hid (n ≤ 2147483647) := Lib.hid (by omega)
  have HQL : Hid ((putL (nb p)).length ≤ 30) := Lib.hid hpp.2
  have HPT := Lib.hid hput
  have HPL : Hid (p.length ≤ 20) := Lib.hid hpl
  have HBB := Lib.hid hB
  obtain ⟨⟨z0, z1, z2⟩, _⟩ := three HX1.out
  clear ht hk hp hk16 hg1 hg9 ha0 ha2 hmay hpp hpl hpe hne hse hsay hok hput
  go_enter Tryz.func4, Tryz.ntmps4
  go_wp2_with fail
  rw [← hw1, ← hB]
  clear hw1 hB z0 z1 z2
  refine (showd_any w1 (HT.out.keep HB1.out) (HK.out.keep HB1.out)).mono ?_
  rintro e w2 ⟨rfl, hb2⟩
  have HB2 : Hid (Below w.heap.size w w2) := Lib.hid (HB1.out.trans (hb2.mono HB1.out.size))
  obtain ⟨⟨z0, z1, z2⟩, _⟩ := three ((hb2.block B (Array.getElem?_eq_some_iff.1 HX1.out).1).trans HX1.out)
  clear hb2
  go_wp2_with fail
  clear z0 z1 z2
  refine (HFIT.out w2).mono ?_
  rintro e w3 ⟨rfl, hb3⟩
  have HB3 : Hid (Below w.heap.size w w3) := Lib.hid (HB2.out.trans (hb3.mono HB2.out.size))
  clear hb3
  obtain ⟨sp, hsp⟩ : ∃ sp, sp = mk p := ⟨_, rfl⟩
  have HSP := Lib.hid hsp
  rw [← hsp]
  clear hsp
  obtain ⟨w4, hw4⟩ : ∃ w4, w4 = w3.alloc (.cells #[.string sp, .int .i64 n, .int .i64 s] 28) := ⟨_, rfl⟩
  obtain ⟨w5, hw5⟩ : ∃ w5, w5 = w4.alloc (.cells #[.string { data := #[110, 111, 110] }, .string { data := #[108, 101, 102, 116] }, .string { data := #[114, 105, 103, 104, 116] }] 47) := ⟨_, rfl⟩
  obtain ⟨O, hO⟩ : ∃ O, O = w3.heap.size := ⟨_, rfl⟩
  obtain ⟨W, hW⟩ : ∃ W, W = O + 1 := ⟨_, rfl⟩
  have hs4 : w4.heap.size = W := by rw [hw4, hW, hO]; simp
  have hO4 : w4.heap[O]? = some (.cells #[.string sp, .int .i64 n, .int .i64 s] 28 (0, 0)) := by rw [hw4, hO]; exact heap_alloc_new w3 _
  have HO5 : Hid (w5.heap[O]? = some (.cells #[.string sp, .int .i64 n, .int .i64 s] 28 (0, 0))) := Lib.hid (by rw [hw5]; exact ((below_new w4 _).block O (Array.getElem?_eq_some_iff.1 hO4).1).trans hO4)
  have HW5 : Hid (w5.heap[W]? = some (.cells #[.string { data := #[110, 111, 110] }, .string { data := #[108, 101, 102, 116] }, .string { data := #[114, 105, 103, 104, 116] }] 47 (0, 0))) := Lib.hid (by rw [hw5, ← hs4]; exact heap_alloc_new w4 _)
  have HB5 : Hid (Below w.heap.size w w5) := Lib.hid (by rw [hw5, hw4]; exact (HB3.out.alloc HB3.out.size _).alloc (by have := HB3.out.size; simp; omega) _)
  have KW : Hid (∀ w', Below w5.heap.size w5 w' → ((w'.cell? ⟨O, 0, none⟩ = some (.string sp) ∧ w'.cell? ⟨O, 1, none⟩ = some (.int .i64 n) ∧ w'.cell? ⟨O, 2, none⟩ = some (.int .i64 s)) ∧ w'.cell? ⟨W, s, none⟩ = some (.string (mk (wdN s)))) ∧ Below w.heap.size w w') := Lib.hid fun w' hb =>
    ⟨⟨(three ((hb.block O (Array.getElem?_eq_some_iff.1 HO5.out).1).trans HO5.out)).1, wd_cell ((hb.block W (Array.getElem?_eq_some_iff.1 HW5.out).1).trans HW5.out) hs2⟩, HB5.out.trans (hb.mono HB5.out.size)⟩
  obtain ⟨⟨⟨z0, z1, z2⟩, _⟩, _⟩ := KW.out w5 (Below.refl _ _)
  clear hO4
  go_wp2_with fail
  rw [← hw4, ← hw5, ← hO, ← hW]
  clear hw4 hw5 hO hW hs4 z0 z1 z2
  obtain ⟨n6, hn6⟩ : ∃ m, m = (digL n).length := ⟨_, rfl⟩
  have hputd := put_any n w5 HN.out (HPW.out.keep HB5.out)
  unfold PutPost at hputd
  rw [← hn6] at hputd
  have HN6 := Lib.hid hn6
  clear hn6
  refine hputd.mono ?_
  clear hputd
  rintro e w6 ⟨a6, c6, rfl, ho6, hb6⟩
  have HB6 : Hid (Below w5.heap.size w5 w6) := Lib.hid hb6
  have HO6 := Lib.hid ho6.bs
  have hl6 := digL_le n HN.out
  rw [← HN6.out] at hl6
  obtain ⟨⟨⟨z0, z1, z2⟩, _⟩, _⟩ := KW.out w6 hb6
  obtain ⟨q, C, w7, hcv, hbs, hb7⟩ := conv_str w6 sp (nb p) (by rw [HSP.out]; exact mk_bstrC p) (nb_rng' p) (by unfold nb; rw [List.length_map]; have := HPL.out; omega)
  have HB7 : Hid (Below w5.heap.size w5 w7) := Lib.hid (hb6.trans (hb7.mono hb6.size))
  have hlp : (nb p).length ≤ 20 := by unfold nb; rw [List.length_map]; exact HPL.out
  obtain ⟨m, hm⟩ : ∃ m, m = (nb p).length := ⟨_, rfl⟩
  rw [← hm] at hcv hbs hlp
  have HBS := Lib.hid hbs
  have HO7 : Hid (Bs w7 a6 n6 c6 (digL n)) := Lib.hid (HO6.out.below hb7)
  clear ho6 hb6 hbs hb7 hm
  go_wp2_with fail
  clear hcv z0 z1 z2
  refine (qput_any _ _ _ (nb p) w7 HBS.out (HT.out.keep (KW.out w7 HB7.out).2) (by omega)).mono ?_
  rw [HPT.out.1, HPT.out.2]
  rintro e w8 ⟨a8, c8, rfl, ho8, hb8⟩
  have HB8 : Hid (Below w5.heap.size w5 w8) := Lib.hid (HB7.out.trans (hb8.mono HB7.out.size))
  have HO8 : Hid (Bs w8 a6 n6 c6 (digL n)) := Lib.hid (HO7.out.below hb8)
  have hq30 := HQL.out
  have HQ8 := Lib.hid ho8.bs
  obtain ⟨n8, hn8⟩ : ∃ m, m = (putL (nb p)).length := ⟨_, rfl⟩
  rw [← hn8] at HQ8 hq30 ⊢
  -- what is put together, wherever the walk has come
  have hsN := bstr_size (digL n)
  have hsQ := bstr_size (putL (nb p))
  have hcA := cop n (wdN s) (nb p)
  have hcB := cdr (wdN s) (nb p)
  have hwl := wd_len s
  have hLA : (tOp n (wdN s) (nb p)).length ≤ 200 := by
    have h1 := digL_le n HN.out
    have h2 := HQL.out
    simp [tOp, nb_lenC]
    omega
  have hLB : (tDr (wdN s) (nb p)).length ≤ 200 := by
    have h1 := digL_le 0 (by decide)
    have h2 := HQL.out
    simp [tDr, nb_lenC]
    omega
  have hws := mk_size (wdN s)
  obtain ⟨sN, hN⟩ : ∃ x, x = bstr (digL n) := ⟨_, rfl⟩
  obtain ⟨sQ, hQ⟩ : ∃ x, x = bstr (putL (nb p)) := ⟨_, rfl⟩
  obtain ⟨sW, hWd⟩ : ∃ x, x = mk (wdN s) := ⟨_, rfl⟩
  have KS : Hid (∀ w', Below w8.heap.size w8 w' → (convert 48 9 (.slice a6 n6 c6)).run Tryz.prog w' = .ok (.string sN) w' ∧ (convert 48 9 (.slice a8 n8 c8)).run Tryz.prog w' = .ok (.string sQ) w' ∧ w'.cell? ⟨O, 2, none⟩ = some (.int .i64 s) ∧ w'.cell? ⟨W, s, none⟩ = some (.string sW)) := Lib.hid fun w' hb => by
    have h1 := (HO8.out.below hb).str (P := Tryz.prog) 48 9 5 Tryz.underlying48 Tryz.underlying5 Tryz.underlying9
    have h2 := (HQ8.out.below hb).str (P := Tryz.prog) 48 9 5 Tryz.underlying48 Tryz.underlying5 Tryz.underlying9
    have h3 := KW.out w' (HB8.out.trans (hb.mono HB8.out.size))
    rw [hN, hQ, hWd]
    exact ⟨h1, h2, h3.1.1.2.2, h3.1.2⟩
  rw [← hN] at hsN hcA
  rw [← hQ] at hsQ hcA hcB
  rw [← hWd] at hws hcA hcB
  rw [← HN6.out] at hsN
  rw [← hn8] at hsQ
  have HOF : Hid (∀ (S : ByteArray) (l : List Int) (d : DC) (e : Int) (w' : World), S = bstr l → Rg l → S.size ≤ 200 → decV (kl l) = (d, e) → Below w8.heap.size w8 w' → Calls Tryz.prog 26 #[.string S] w' fun r w'' => r = .returned (.tuple #[.agg #[.int .i64 d.k, .string (mk d.p), .int .i64 d.g, .int .i64 d.a, .int .i64 d.G, .int .i64 d.H], .int .i64 e]) ∧ Below w'.heap.size w' w'') := Lib.hid fun S l d e w' h1 h2 h3 h4 h5 => by
    have hb := (KW.out w' (HB8.out.trans (h5.mono HB8.out.size))).2
    have hl : sb S = l := by rw [h1, sb_bstr h2]
    have := ofc_any S w' (HT.out.keep hb) (HK.out.keep hb) (by rw [hl]; rw [h1, bstr_size] at h3; omega)
    rw [hl, h4] at this
    exact this
  obtain ⟨cA, hcA'⟩ : ∃ c : Array Value, c = #[.int .i64 1, .string sp, .int .i64 n, .int .i64 s, .int .i64 0, .int .i64 0] := ⟨_, rfl⟩
  obtain ⟨cB, hcB'⟩ : ∃ c : Array Value, c = #[.int .i64 2, .string sp, .int .i64 0, .int .i64 0, .int .i64 0, .int .i64 0] := ⟨_, rfl⟩
  have HCA := Lib.hid hcA'
  have HCB := Lib.hid hcB'
  have KA : Hid (∀ w', Below w8.heap.size w8 w' → Calls Tryz.prog 26 #[.string ({ data := #[58, 45, 32, 111, 112, 40] } ++ sN ++ { data := #[44, 32] } ++ sW ++ { data := #[44, 32] } ++ sQ ++ { data := #[41, 46] })] w' fun r w'' => r = .returned (.tuple #[.agg cA, .int .i64 0]) ∧ Below w'.heap.size w' w'') := Lib.hid fun w' hb => by
    rw [HCA.out, HSP.out]
    exact HOF.out _ _ _ _ w' hcA HSAY.out.2.1 (by rw [hcA, bstr_size]; exact hLA) HSAY.out.1 hb
  have KB : Hid (∀ w', Below w8.heap.size w8 w' → Calls Tryz.prog 26 #[.string ({ data := #[58, 45, 111, 112, 40, 48, 44] } ++ sW ++ { data := #[44] } ++ sQ ++ { data := #[41, 32, 46] })] w' fun r w'' => r = .returned (.tuple #[.agg cB, .int .i64 0]) ∧ Below w'.heap.size w' w'') := Lib.hid fun w' hb => by
    rw [HCB.out, HSP.out]
    exact HOF.out _ _ _ _ w' hcB HSAY.out.2.2.2 (by rw [hcB, bstr_size]; exact hLB) HSAY.out.2.2.1 hb
  have zN : sN.size ≤ 10 := by rw [hsN]; exact hl6
  have zW : sW.size ≤ 5 := by rw [hws]; exact hwl
  have zQ : sQ.size ≤ 30 := by rw [hsQ]; exact hq30
  have hA1 := sadd (m := 6) (n := 10) (show ({ data := #[58, 45, 32, 111, 112, 40] } : ByteArray).size ≤ 6 by decide) zN (by decide)
  have zA1 := szle (m := 6) (n := 10) (show ({ data := #[58, 45, 32, 111, 112, 40] } : ByteArray).size ≤ 6 by decide) zN
  have hA2 := sadd (m := 16) (n := 2) zA1 (show ({ data := #[44, 32] } : ByteArray).size ≤ 2 by decide) (by decide)
  have zA2 := szle (m := 16) (n := 2) zA1 (show ({ data := #[44, 32] } : ByteArray).size ≤ 2 by decide)
  have hA3 := sadd (m := 18) (n := 5) zA2 zW (by decide)
  have zA3 := szle (m := 18) (n := 5) zA2 zW
  have hA4 := sadd (m := 23) (n := 2) zA3 (show ({ data := #[44, 32] } : ByteArray).size ≤ 2 by decide) (by decide)
  have zA4 := szle (m := 23) (n := 2) zA3 (show ({ data := #[44, 32] } : ByteArray).size ≤ 2 by decide)
  have hA5 := sadd (m := 25) (n := 30) zA4 zQ (by decide)
  have zA5 := szle (m := 25) (n := 30) zA4 zQ
  have hA6 := sadd (m := 55) (n := 2) zA5 (show ({ data := #[41, 46] } : ByteArray).size ≤ 2 by decide) (by decide)
  have zA6 := szle (m := 55) (n := 2) zA5 (show ({ data := #[41, 46] } : ByteArray).size ≤ 2 by decide)
  clear zA1 zA2 zA3 zA4 zA5 zA6
  have hB1 := sadd (m := 7) (n := 5) (show ({ data := #[58, 45, 111, 112, 40, 48, 44] } : ByteArray).size ≤ 7 by decide) zW (by decide)
  have zB1 := szle (m := 7) (n := 5) (show ({ data := #[58, 45, 111, 112, 40, 48, 44] } : ByteArray).size ≤ 7 by decide) zW
  have hB2 := sadd (m := 12) (n := 1) zB1 (show ({ data := #[44] } : ByteArray).size ≤ 1 by decide) (by decide)
  have zB2 := szle (m := 12) (n := 1) zB1 (show ({ data := #[44] } : ByteArray).size ≤ 1 by decide)
  have hB3 := sadd (m := 13) (n := 30) zB2 zQ (by decide)
  have zB3 := szle (m := 13) (n := 30) zB2 zQ
  have hB4 := sadd (m := 43) (n := 3) zB3 (show ({ data := #[41, 32, 46] } : ByteArray).size ≤ 3 by decide) (by decide)
  have zB4 := szle (m := 43) (n := 3) zB3 (show ({ data := #[41, 32, 46] } : ByteArray).size ≤ 3 by decide)
  clear zB1 zB2 zB3 zB4
  clear zN zW zQ
  have htm : Int.tmod (s : Int) 3 = (s : Int) := by rw [Int.tmod_eq_emod_of_nonneg (by omega)]; omega
  have hem : (s : Int) % 3 = (s : Int) := by omega
  have hsl : (0 : Int) ≤ (s : Int) := Int.natCast_nonneg _
  have hs3 : (s : Int) < 3 := by omega
  clear ho8 hb8 hcA hcB hN hQ hWd hn8 hcA' hcB'
  have hst : ∀ (X : Nat) (V : World), DB V X d0 → (storeCells ⟨X, 0, none⟩ cA.toList).run Tryz.prog V = .ok () (V.setRow X cA) := fun X V h => by
    rw [HCA.out, HSP.out]
    exact run_store_dc V X ⟨1, p, n, s, 0, 0⟩ h
  have hsz6 : cA.size = 6 := by rw [HCA.out]; rfl
  have hnew : ∀ V : World, DB (V.alloc (.cells #[.int .i64 0, .string { data := #[] }, .int .i64 0, .int .i64 0, .int .i64 0, .int .i64 0] 53)) V.heap.size d0 := fun V => DB.new V
  go_wp2_with fail
  go_cut [10, 11] (fun u v wx => ∃ X, u = .pointer (some ⟨X, 0, none⟩) ∧ v = .int .i64 0 ∧ Hid (wx.heap[X]? = some (.cells cA 53 (0, 0))) ∧ Hid (Below w8.heap.size w8 wx))
  case first =>
    go_region_held3 (fun w' => (convert 48 9 (.slice a6 n6 c6)).run Tryz.prog w' = .ok (.string sN) w' ∧ (convert 48 9 (.slice a8 n8 c8)).run Tryz.prog w' = .ok (.string sQ) w' ∧ w'.cell? ⟨O, 2, none⟩ = some (.int .i64 s) ∧ w'.cell? ⟨W, s, none⟩ = some (.string sW))
      (first
        | exact KS.out _ (HV1.out.trans (below_row _ _ _ HV1.out.size))
        | exact KS.out _ (HV1.out.trans (below_row _ _ _ (Nat.le_refl _)))
        | exact KS.out _ ((HV1.out.alloc HV1.out.size _).trans (below_row _ _ _ HV1.out.size))
        | exact KS.out _ HV1.out
        | exact KS.out _ (HV1.out.alloc HV1.out.size _)
        | exact KS.out _ ((Below.refl _ _).drew.alloc (Nat.le_refl _) _)
        | exact KS.out _ (Below.refl _ _).drew)
      (first | (go_at_call 26; (refine (KA.out _ (by first | exact (Below.refl _ _).drew | exact (Below.refl _ _).drew.alloc (Nat.le_refl _) _)).mono ?_); rintro e v1 ⟨rfl, hb⟩; (try have hx : DB v1 w8.heap.size d0 := (hnew w8.drew).below hb); have HV1 : Hid (Below w8.heap.size w8 v1) := Lib.hid (by first | exact (Below.refl _ _).drew.trans hb | exact ((Below.refl _ _).drew.alloc (Nat.le_refl _) _).trans (hb.mono (by simp))); clear hb))
    all_goals
      go_wp2
      go_meet
      first
        | exact ⟨_, rfl, rfl, Lib.hid (setRow_heap v1 _ _ _ _ _ hx), Lib.hid (HV1.out.trans (below_row v1 _ _ (Nat.le_refl _)))⟩
        | exact ⟨_, rfl, rfl, Lib.hid (setRow_heap _ _ _ _ _ _ (hnew v1)), Lib.hid ((HV1.out.alloc HV1.out.size _).trans (below_row _ _ _ HV1.out.size))⟩
        | exact ⟨_, rfl, rfl, Lib.hid (heap_alloc_new v1 _), Lib.hid (HV1.out.alloc HV1.out.size _)⟩
  case rest =>
    obtain ⟨X1, rfl, rfl, HX1c, HBc⟩ := hcut
    clear hst hnew hsz6
    obtain ⟨w9, hw9⟩ : ∃ w9, w9 = wc := ⟨_, rfl⟩
    rw [← hw9] at HX1c HBc ⊢
    clear hw9
    have KS9 := Lib.hid fun w' (hb : Below w9.heap.size w9 w') => KS.out w' (HBc.out.trans (hb.mono HBc.out.size))
    have KB9 := Lib.hid fun w' (hb : Below w9.heap.size w9 w') => KB.out w' (HBc.out.trans (hb.mono HBc.out.size))
    have hst : ∀ (X : Nat) (V : World), DB V X d0 → (storeCells ⟨X, 0, none⟩ cB.toList).run Tryz.prog V = .ok () (V.setRow X cB) := fun X V h => by
      rw [HCB.out, HSP.out]
      exact run_store_dc V X ⟨2, p, 0, 0, 0, 0⟩ h
    have hsz6 : cB.size = 6 := by rw [HCB.out]; rfl
    have hnew : ∀ V : World, DB (V.alloc (.cells #[.int .i64 0, .string { data := #[] }, .int .i64 0, .int .i64 0, .int .i64 0, .int .i64 0] 53)) V.heap.size d0 := fun V => DB.new V
    go_wp2_with fail
    go_cut [12, 13] (fun u v wx => ∃ X, u = .pointer (some ⟨X, 0, none⟩) ∧ v = .int .i64 0 ∧ Hid (wx.heap[X]? = some (.cells cB 53 (0, 0))) ∧ Hid (Below w9.heap.size w9 wx))
    case first =>
      go_region_held3 (fun w' => (convert 48 9 (.slice a6 n6 c6)).run Tryz.prog w' = .ok (.string sN) w' ∧ (convert 48 9 (.slice a8 n8 c8)).run Tryz.prog w' = .ok (.string sQ) w' ∧ w'.cell? ⟨O, 2, none⟩ = some (.int .i64 s) ∧ w'.cell? ⟨W, s, none⟩ = some (.string sW))
        (first
          | exact KS9.out _ (HV1.out.trans (below_row _ _ _ HV1.out.size))
          | exact KS9.out _ (HV1.out.trans (below_row _ _ _ (Nat.le_refl _)))
          | exact KS9.out _ ((HV1.out.alloc HV1.out.size _).trans (below_row _ _ _ HV1.out.size))
          | exact KS9.out _ HV1.out
          | exact KS9.out _ (HV1.out.alloc HV1.out.size _)
          | exact KS9.out _ ((Below.refl _ _).drew.alloc (Nat.le_refl _) _)
          | exact KS9.out _ (Below.refl _ _).drew)
        (first | (go_at_call 26; (refine (KB9.out _ (by first | exact (Below.refl _ _).drew | exact (Below.refl _ _).drew.alloc (Nat.le_refl _) _)).mono ?_); rintro e v1 ⟨rfl, hb⟩; (try have hx : DB v1 w9.heap.size d0 := (hnew w9.drew).below hb); have HV1 : Hid (Below w9.heap.size w9 v1) := Lib.hid (by first | exact (Below.refl _ _).drew.trans hb | exact ((Below.refl _ _).drew.alloc (Nat.le_refl _) _).trans (hb.mono (by simp))); clear hb))
      all_goals
        go_wp2
        go_meet
        first
          | exact ⟨_, rfl, rfl, Lib.hid (setRow_heap v1 _ _ _ _ _ hx), Lib.hid (HV1.out.trans (below_row v1 _ _ (Nat.le_refl _)))⟩
          | exact ⟨_, rfl, rfl, Lib.hid (setRow_heap _ _ _ _ _ _ (hnew v1)), Lib.hid ((HV1.out.alloc HV1.out.size _).trans (below_row _ _ _ HV1.out.size))⟩
          | exact ⟨_, rfl, rfl, Lib.hid (heap_alloc_new v1 _), Lib.hid (HV1.out.alloc HV1.out.size _)⟩
    case rest =>
      obtain ⟨X2, rfl, rfl, HX2c, HBd⟩ := hcut
      clear hst hnew hsz6
      obtain ⟨wz, hwz⟩ : ∃ wz, wz = wc := ⟨_, rfl⟩
      rw [← hwz] at HX2c HBd ⊢
      clear hwz
      have hX1 : wz.heap[X1]? = some (.cells #[.int .i64 1, .string sp, .int .i64 n, .int .i64 s, .int .i64 0, .int .i64 0] 53 (0, 0)) := by rw [← HCA.out]; exact (HBd.out.block X1 (Array.getElem?_eq_some_iff.1 HX1c.out).1).trans HX1c.out
      have hX2 : wz.heap[X2]? = some (.cells #[.int .i64 2, .string sp, .int .i64 0, .int .i64 0, .int .i64 0, .int .i64 0] 53 (0, 0)) := by rw [← HCB.out]; exact HX2c.out
      have HBZ : Hid (Below w8.heap.size w8 wz) := Lib.hid (HBc.out.trans (HBd.out.mono HBc.out.size))
      have HKZ := Lib.hid (KW.out wz (HB8.out.trans (HBZ.out.mono HB8.out.size)))
      obtain ⟨⟨⟨z0, z1, z2⟩, _⟩, _⟩ := HKZ.out
      have x0 := cell_of_row wz X1 0 _ _ _ hX1
      have x1 := cell_of_row wz X1 1 _ _ _ hX1
      have x2 := cell_of_row wz X1 2 _ _ _ hX1
      have x3 := cell_of_row wz X1 3 _ _ _ hX1
      have x4 := cell_of_row wz X1 4 _ _ _ hX1
      have x5 := cell_of_row wz X1 5 _ _ _ hX1
      have y0 := cell_of_row wz X2 0 _ _ _ hX2
      have y1 := cell_of_row wz X2 1 _ _ _ hX2
      have y2 := cell_of_row wz X2 2 _ _ _ hX2
      have y3 := cell_of_row wz X2 3 _ _ _ hX2
      have y4 := cell_of_row wz X2 4 _ _ _ hX2
      have y5 := cell_of_row wz X2 5 _ _ _ hX2
      have he1 : ∀ w, (Op.equalIn 10000 53 (.agg #[.int .i64 1, .string sp, .int .i64 n, .int .i64 s, .int .i64 0, .int .i64 0]) (.agg #[.int .i64 1, .string sp, .int .i64 n, .int .i64 s, .int .i64 0, .int .i64 0])).run Tryz.prog w = .ok true w := fun w => by rw [HSP.out]; exact eq_dc ⟨1, p, n, s, 0, 0⟩ w
      have he2 : ∀ w, (Op.equalIn 10000 53 (.agg #[.int .i64 2, .string sp, .int .i64 0, .int .i64 0, .int .i64 0, .int .i64 0]) (.agg #[.int .i64 2, .string sp, .int .i64 0, .int .i64 0, .int .i64 0, .int .i64 0])).run Tryz.prog w = .ok true w := fun w => by rw [HSP.out]; exact eq_dc ⟨2, p, 0, 0, 0, 0⟩ w
      clear hX1 hX2
      go_wp2
      go_ret
      exact ⟨rfl, HKZ.out.2⟩

end Go.Proofs.YtjkjbgekpkhpfaaGreatDoor
