/- The document's examples of directives, as the laws ask for them. -/
import Derived.Test.YtjkjbgekpkhpfaaGreatDoorCi
namespace Go.Proofs.YtjkjbgekpkhpfaaGreatDoor
open Go.RowKit

/-- What a text says, its directive spelled out. -/
theorem of_lit {p : Nm} {d : DC} {e : Int} (h : decV (kl (nb p)) = (d, e)) (hp : p.length ≤ 10000) (w : World) (ht : Tab w) (hk : TabK w) :
    Calls Tryz.prog 26 #[.string (mk p)] w fun r w' => r = .returned (.tuple #[.agg #[.int .i64 d.k, .string (mk d.p), .int .i64 d.g, .int .i64 d.a, .int .i64 d.G, .int .i64 d.H], .int .i64 e]) ∧ Below w.heap.size w w' := by
  have hs : sb (mk p) = nb p := by unfold sb nb; rw [mk_toList]
  have := ofc_any (mk p) w ht hk (by rw [hs]; unfold nb; rw [List.length_map]; exact hp)
  rw [hs, h] at this
  exact this

set_option maxRecDepth 20000 in
set_option maxHeartbeats 4000000 in
theorem showd_any (w : World) (ht : Tab w) (hk : TabK w) :
    Calls Tryz.prog 22 #[] w fun e w' => e = .returned (.bool true) ∧ Below w.heap.size w w' := by
  have KA : Hid (∀ w', Tab w' → TabK w' → Calls Tryz.prog 26 #[.string (mk exA)] w' fun r w'' => r = .returned (.tuple #[.agg #[.int .i64 1, .string (mk [95, 43, 95]), .int .i64 3, .int .i64 1, .int .i64 0, .int .i64 0], .int .i64 0]) ∧ Below w'.heap.size w' w'') := Lib.hid fun w' h1 h2 => of_lit dec_a (by decide) w' h1 h2
  have KB : Hid (∀ w', Tab w' → TabK w' → Calls Tryz.prog 26 #[.string (mk exB)] w' fun r w'' => r = .returned (.tuple #[.agg #[.int .i64 2, .string (mk exP), .int .i64 0, .int .i64 0, .int .i64 0, .int .i64 0], .int .i64 0]) ∧ Below w'.heap.size w' w'') := Lib.hid fun w' h1 h2 => of_lit dec_b (by decide) w' h1 h2
  have HT := Lib.hid ht
  have HK := Lib.hid hk
  have he1 : ∀ w, (Op.equalIn 10000 53 (.agg #[.int .i64 1, .string (mk [95, 43, 95]), .int .i64 3, .int .i64 1, .int .i64 0, .int .i64 0]) (.agg #[.int .i64 1, .string { data := #[95, 43, 95] }, .int .i64 3, .int .i64 1, .int .i64 0, .int .i64 0])).run Tryz.prog w = .ok true w := fun w => eq_dc ⟨1, [95, 43, 95], 3, 1, 0, 0⟩ w
  have he2 : ∀ w, (Op.equalIn 10000 53 (.agg #[.int .i64 2, .string (mk exP), .int .i64 0, .int .i64 0, .int .i64 0, .int .i64 0]) (.agg #[.int .i64 2, .string { data := #[105, 102, 95, 116, 104, 101, 110, 95] }, .int .i64 0, .int .i64 0, .int .i64 0, .int .i64 0])).run Tryz.prog w = .ok true w := fun w => eq_dc ⟨2, exP, 0, 0, 0, 0⟩ w
  obtain ⟨s1, hs1⟩ : ∃ s, s = mk [95, 43, 95] := ⟨_, rfl⟩
  obtain ⟨s2, hs2⟩ : ∃ s, s = mk exP := ⟨_, rfl⟩
  rw [← hs1] at KA he1
  rw [← hs2] at KB he2
  clear ht hk hs1 hs2
  go_enter Tryz.func22, Tryz.ntmps22
  go_wp2_with fail
  refine (KA.out w HT.out HK.out).mono ?_
  rintro e w1 ⟨rfl, hb1⟩
  have HB1 : Hid (Below w.heap.size w w1) := Lib.hid hb1
  obtain ⟨w2, hw2⟩ : ∃ w2, w2 = w1.alloc (.cells #[.int .i64 1, .string s1, .int .i64 3, .int .i64 1, .int .i64 0, .int .i64 0] 53) := ⟨_, rfl⟩
  obtain ⟨A, hA⟩ : ∃ A, A = w1.heap.size := ⟨_, rfl⟩
  have HB2 : Hid (Below w.heap.size w w2) := Lib.hid (by rw [hw2]; exact hb1.alloc hb1.size _)
  have HA2 : Hid (w2.heap[A]? = some (.cells #[.int .i64 1, .string s1, .int .i64 3, .int .i64 1, .int .i64 0, .int .i64 0] 53 (0, 0))) := Lib.hid (by rw [hw2, hA]; exact heap_alloc_new w1 _)
  clear hb1
  go_wp2_with fail
  rw [← hw2, ← hA]
  clear hw2 hA
  refine (KB.out w2 (HT.out.keep HB2.out) (HK.out.keep HB2.out)).mono ?_
  rintro e w3 ⟨rfl, hb3⟩
  have HB3 : Hid (Below w.heap.size w w3) := Lib.hid (HB2.out.trans (hb3.mono HB2.out.size))
  obtain ⟨w4, hw4⟩ : ∃ w4, w4 = w3.alloc (.cells #[.int .i64 2, .string s2, .int .i64 0, .int .i64 0, .int .i64 0, .int .i64 0] 53) := ⟨_, rfl⟩
  have hA3 : w3.heap[A]? = some (.cells #[.int .i64 1, .string s1, .int .i64 3, .int .i64 1, .int .i64 0, .int .i64 0] 53 (0, 0)) := (hb3.block A (Array.getElem?_eq_some_iff.1 HA2.out).1).trans HA2.out
  have hA4 : ∀ ob : Obj, (w3.alloc ob).heap[A]? = some (.cells #[.int .i64 1, .string s1, .int .i64 3, .int .i64 1, .int .i64 0, .int .i64 0] 53 (0, 0)) := fun ob => ((below_new w3 ob).block A (Array.getElem?_eq_some_iff.1 hA3).1).trans hA3
  have x0 := fun ob => cell_of_row (w3.alloc ob) A 0 _ _ _ (hA4 ob)
  have x1 := fun ob => cell_of_row (w3.alloc ob) A 1 _ _ _ (hA4 ob)
  have x2 := fun ob => cell_of_row (w3.alloc ob) A 2 _ _ _ (hA4 ob)
  have x3 := fun ob => cell_of_row (w3.alloc ob) A 3 _ _ _ (hA4 ob)
  have x4 := fun ob => cell_of_row (w3.alloc ob) A 4 _ _ _ (hA4 ob)
  have x5 := fun ob => cell_of_row (w3.alloc ob) A 5 _ _ _ (hA4 ob)
  have HB4 : Hid (Below w.heap.size w w4) := Lib.hid (by rw [hw4]; exact HB3.out.alloc HB3.out.size _)
  clear hb3 hA3 hA4
  have hsz4 : w4.heap.size = w3.heap.size + 1 := by rw [hw4]; simp
  have hcv := Joins.run_convert_bytes_const_at (P := Tryz.prog) (w3.alloc (.cells #[.int .i64 2, .string s2, .int .i64 0, .int .i64 0, .int .i64 0, .int .i64 0] 53)) 48 5 #[.int .u8 58, .int .u8 45, .int .u8 32, .int .u8 120] 4 4 (w3.heap.size + 1) (by simp) Tryz.underlying48 Tryz.underlying5
  have HX : Hid (∀ w', Tab w' → ∀ a n, Bs w' a n n (nb [58, 45, 32, 120]) → n = 4 → Calls Tryz.prog 43 #[.slice a n n] w' fun e w'' => ∃ b' , e = .returned (.slice b' 2 2) ∧ (∃ L : List TK, RowT w'.heap.size 96 w'' b' 2 2 L ∧ (tat L 0).k = 2 ∧ (tat L 0).s.toList = [58, 45]) ∧ Below w'.heap.size w' w'') := Lib.hid fun w' h1 a n h2 h3 => by
    subst h3
    obtain ⟨L, hL⟩ : ∃ L, L = toks (nb [58, 45, 32, 120]) := ⟨_, rfl⟩
    have hkl : L.map kt = [(2, [58, 45]), (1, [120])] := by rw [hL, kl_toks, kl_x]
    have hlen : L.length = 2 := by have := congrArg List.length hkl; simpa using this
    have h0 := kat_kt (L := L) (k := 0) (by omega)
    rw [hkl] at h0
    have h5 := all_any a 4 4 _ w' h2 h1 (by decide)
    rw [← hL, hlen] at h5
    refine h5.mono ?_
    rintro e w'' ⟨b', rfl, hr, hb⟩
    exact ⟨b', rfl, ⟨L, hr, (congrArg Prod.fst h0).symm, (congrArg Prod.snd h0).symm⟩, hb⟩
  go_wp2_with fail
  rw [← hw4]
  have hbs : Bs (w4.alloc (.cells #[.int .u8 58, .int .u8 45, .int .u8 32, .int .u8 120] 5 (4, 5))) (some ⟨w4.heap.size, 0, none⟩) 4 4 (nb [58, 45, 32, 120]) := Bs.lit w4 5 (mk := (4, 5)) (l := nb [58, 45, 32, 120]) (cs := #[.int .u8 58, .int .u8 45, .int .u8 32, .int .u8 120]) rfl (nb_rng' _) rfl rfl (by decide)
  rw [hsz4] at hbs
  obtain ⟨w5, hw5⟩ : ∃ w5, w5 = w4.alloc (.cells #[.int .u8 58, .int .u8 45, .int .u8 32, .int .u8 120] 5 (4, 5)) := ⟨_, rfl⟩
  have HB5 : Hid (Below w.heap.size w w5) := Lib.hid (by rw [hw5]; exact HB4.out.alloc HB4.out.size _)
  rw [← hw5] at hbs ⊢
  have HBS := Lib.hid hbs
  clear hw4 hw5 hsz4 hbs x0 x1 x2 x3 x4 x5 he1 he2 hcv
  refine (HX.out w5 (HT.out.keep HB5.out) _ _ HBS.out rfl).mono ?_
  rintro e w6 ⟨b', rfl, ⟨L, hr, hk0, hs0⟩, hb6⟩
  obtain ⟨g, cur, rfl, _⟩ := hr.own (by decide)
  have HTS := Lib.hid hr.ts
  have HKS := Lib.hid (And.intro hk0 hs0)
  have HB6 : Hid (Below w.heap.size w w6) := Lib.hid (HB5.out.trans (hb6.mono HB5.out.size))
  clear hr hk0 hs0 hb6
  go_wp2_with (refine build_run rfl 80 #[(3, .tmp 34)] rfl (.agg #[.int .i64 0, .int .i64 0, .int .i64 0, .slice (some ⟨g, 0, none⟩) 2 2]) (by kernel_rfl) ?_)
  refine (isd_any g 0 2 2 L 0 0 0 w6 HTS.out (by decide) HKS.out).mono ?_
  rintro e w7 ⟨rfl, hb7⟩
  have HB7 : Hid (Below w.heap.size w w7) := Lib.hid (HB6.out.trans (hb7.mono HB6.out.size))
  clear hb7
  go_wp2
  go_ret
  exact ⟨rfl, HB7.out⟩

end Go.Proofs.YtjkjbgekpkhpfaaGreatDoor
