/- Contracts of decl.operator, decl.Of, decl.Is (laid by genCf.py over XCf.start.txt: Of's regions that draw). -/
import Derived.Test.YtjkjbgekpkhpfaaGreatDoorCe
namespace Go.Proofs.YtjkjbgekpkhpfaaGreatDoor
open Go.RowKit

theorem frm_len (a q : Nm) : (frmV a q).1.length ≤ q.length + 2 := by
  unfold frmV
  split
  · simp
  · split
    · simp
    · split
      · simp
      · unfold simV
        cases hk : kdF a with
        | none => simp
        | some v =>
          obtain ⟨l, r, s⟩ := v
          dsimp only
          split
          · simp
          · have h1 := hol_len l
            have h2 := hol_len r
            simp only [List.length_append]
            omega

set_option maxRecDepth 20000 in
set_option maxHeartbeats 4000000 in
theorem oper_any (n : Int) (a q : Nm) (w : World) (ht : Tab w) (hk : TabK w) (hq : q.length ≤ 100000) :
    Calls Tryz.prog 65 #[.int .i64 n, .string (mk a), .string (mk q)] w fun e w' => e = .returned (dclV (oprV n a q)) ∧ Below w.heap.size w w' := by
  obtain ⟨w1, hw1⟩ : ∃ w1, w1 = w.alloc (.cells #[.int .i64 0, .string { data := #[] }, .int .i64 0, .int .i64 0, .int .i64 0, .int .i64 0] 53) := ⟨_, rfl⟩
  obtain ⟨B, hB⟩ : ∃ B, B = w.heap.size := ⟨_, rfl⟩
  have HB1 : Hid (Below w.heap.size w w1) := Lib.hid (by rw [hw1]; exact below_new w _)
  have HD1 : Hid (DB w1 B d0) := Lib.hid (by rw [hw1, hB]; exact DB.new w)
  have HT : Hid (Tab w) := Lib.hid ht
  have HK1 : Hid (TabK w1) := Lib.hid (hk.keep HB1.out)
  have HBB : Hid (w.heap.size ≤ B) := Lib.hid (by rw [hB]; exact Nat.le_refl _)
  obtain ⟨p, s, e, hf⟩ : ∃ p s e, frmV a q = (p, s, e) := ⟨_, _, _, rfl⟩
  have HPL : Hid (p.length ≤ 1000000) := Lib.hid (by have := frm_len a q; rw [hf] at this; dsimp only at this; omega)
  have HF : Hid (∀ w', TabK w' → Calls Tryz.prog 81 #[.string (mk a), .string (mk q)] w' fun r w'' => r = .returned (.tuple #[.string (mk p), .int .i64 s, .int .i64 e]) ∧ Below w'.heap.size w' w'') := Lib.hid fun w' h => by have := form_any a q w' h (by omega); rw [hf] at this; exact this
  have HE : Hid (oprV n a q = if e ≠ 0 then (d0, e) else if n = 0 then (if (ofS p).isSome then (⟨2, p, 0, 0, 0, 0⟩, 0) else (d0, 23)) else if mayV p n s ≠ 0 then (d0, mayV p n s) else (⟨1, p, n, s, 0, 0⟩, 0)) := Lib.hid (by unfold oprV; rw [hf])
  clear ht hk hf hq
  go_enter Tryz.func65, Tryz.ntmps65
  go_wp2_with fail
  rw [← hw1, ← hB]
  clear hw1 hB
  refine (HF.out w1 HK1.out).mono ?_
  rintro r w2 ⟨rfl, hb2⟩
  have HD2 : Hid (DB w2 B d0) := Lib.hid (HD1.out.below hb2)
  have HB2 : Hid (Below w.heap.size w w2) := Lib.hid (HB1.out.trans (hb2.mono HB1.out.size))
  have HT2 : Hid (Tab w2) := Lib.hid (HT.out.keep HB2.out)
  clear hb2
  by_cases he : e = 0
  · subst he
    cases hn : n == 0 with
    | true =>
      obtain rfl : n = 0 := eq_of_beq hn
      have HE2 : Hid (oprV 0 a q = if (ofS p).isSome then (⟨2, p, 0, 0, 0, 0⟩, 0) else (d0, 23)) := Lib.hid (by rw [HE.out, if_neg (fun h => h rfl), if_pos rfl])
      obtain ⟨V, hV⟩ : ∃ V, V = oprV 0 a q := ⟨_, rfl⟩
      have HR : Hid (∀ w', Tab w' → Calls Tryz.prog 82 #[.string (mk p)] w' fun r w'' => r = .returned (dclV V) ∧ Below w'.heap.size w' w'') := Lib.hid fun w' h => by rw [hV, HE2.out]; exact ddrop_any p w' h HPL.out
      obtain ⟨dv, de⟩ := V
      have HVE := Lib.hid hV
      clear hV
      go_wp2_with fail
      refine (HR.out w2 HT2.out).mono ?_
      simp only [dclV]
      rintro r w3 ⟨rfl, hb3⟩
      have HD3 : Hid (DB w3 B d0) := Lib.hid (HD2.out.below hb3)
      have HB3 : Hid (Below w.heap.size w w3) := Lib.hid (HB2.out.trans (hb3.mono HB2.out.size))
      clear hb3
      go_wp2_with (refine store_decl rfl (.tmp 6) (.tmp 28) rfl B rfl dv rfl d0 HD3.out ?_; intro w4 hd4 ho4; have HD4 := Lib.hid hd4; have HB4 : Hid (Below w.heap.size w w4) := Lib.hid (HB3.out.trans (ho4 _ HBB.out)); clear hd4 ho4)
      exact bodyPost_ret (ret_decl rfl _ _ B dv rfl HD4.out) rfl ⟨by rw [← HVE.out]; rfl, HB4.out⟩
    | false =>
      have hn' := beq_eq_false_iff_ne.1 hn
      have HM : Hid (∀ w', Tab w' → Calls Tryz.prog 27 #[.agg #[.string (mk p), .int .i64 n, .int .i64 s]] w' fun r w'' => r = .returned (.int .i64 (mayV p n s)) ∧ Below w'.heap.size w' w'') := Lib.hid fun w' h => omay_any p n s w' h HPL.out
      have HE3 : Hid (oprV n a q = if mayV p n s ≠ 0 then (d0, mayV p n s) else (⟨1, p, n, s, 0, 0⟩, 0)) := Lib.hid (by rw [HE.out, if_neg (fun h => h rfl), if_neg hn'])
      obtain ⟨m, hm⟩ : ∃ m, m = mayV p n s := ⟨_, rfl⟩
      rw [← hm] at HM HE3
      clear hm hn'
      obtain ⟨w3, hw3⟩ : ∃ w3, w3 = w2.alloc (.cells #[.string (mk p), .int .i64 n, .int .i64 s] 28) := ⟨_, rfl⟩
      obtain ⟨D, hD⟩ : ∃ D, D = w2.heap.size := ⟨_, rfl⟩
      have ho3 : w3.heap[D]? = some (.cells #[.string (mk p), .int .i64 n, .int .i64 s] 28 (0, 0)) := by rw [hw3, hD]; exact heap_alloc_new w2 _
      have HO3 := Lib.hid ho3
      have HD3 : Hid (DB w3 B d0) := Lib.hid (by rw [hw3]; exact HD2.out.below (below_new w2 _))
      have HB3 : Hid (Below w.heap.size w w3) := Lib.hid (by rw [hw3]; exact HB2.out.alloc HB2.out.size _)
      have HT3 : Hid (Tab w3) := Lib.hid (HT.out.keep HB3.out)
      obtain ⟨⟨z0, z1, z2⟩, _⟩ := three ho3
      clear ho3
      go_wp2_with (refine build_run rfl 28 #[(0, .tmp 30), (1, .tmp 31), (2, .tmp 32)] rfl (.agg #[.string (mk p), .int .i64 n, .int .i64 s]) (by kernel_rfl) ?_)
      rw [← hw3, ← hD]
      clear hw3 hD
      refine (HM.out w3 HT3.out).mono ?_
      rintro r w4 ⟨rfl, hb4⟩
      have HD4 : Hid (DB w4 B d0) := Lib.hid (HD3.out.below hb4)
      have HB4 : Hid (Below w.heap.size w w4) := Lib.hid (HB3.out.trans (hb4.mono HB3.out.size))
      have ho4 : w4.heap[D]? = some (.cells #[.string (mk p), .int .i64 n, .int .i64 s] 28 (0, 0)) := (hb4.block D (Array.getElem?_eq_some_iff.1 HO3.out).1).trans HO3.out
      clear z0 z1 z2 hb4
      obtain ⟨⟨z0, z1, z2⟩, _⟩ := three ho4
      clear ho4
      by_cases hm0 : m = 0
      · subst hm0
        have HE4 : Hid (oprV n a q = (⟨1, p, n, s, 0, 0⟩, 0)) := Lib.hid (by rw [HE3.out, if_neg (fun h => h rfl)])
        go_wp2_with (first
          | (refine build_run rfl 53 #[(0, .const (.int .i64 1)), (1, .tmp 40)] rfl (DC.v ⟨1, p, n, s, 0, 0⟩) (by kernel_rfl) ?_)
          | (refine store_decl rfl (.tmp 6) (.tmp 41) rfl B rfl ⟨1, p, n, s, 0, 0⟩ rfl d0 HD4.out ?_; intro w5 hd5 ho5; have HD5 := Lib.hid hd5; have HB5 : Hid (Below w.heap.size w w5) := Lib.hid (HB4.out.trans (ho5 _ HBB.out)); clear hd5 ho5))
        all_goals exact bodyPost_ret (ret_decl rfl _ _ B ⟨1, p, n, s, 0, 0⟩ rfl HD5.out) rfl ⟨by rw [HE4.out]; rfl, HB5.out⟩
      · have HE4 : Hid (oprV n a q = (d0, m)) := Lib.hid (by rw [HE3.out, if_pos hm0])
        go_wp2_with (refine store_decl rfl (.tmp 6) (.tmp 38) rfl B rfl d0 rfl d0 HD4.out ?_; intro w5 hd5 ho5; have HD5 := Lib.hid hd5; have HB5 : Hid (Below w.heap.size w w5) := Lib.hid (HB4.out.trans (ho5 _ HBB.out)); clear hd5 ho5)
        all_goals exact bodyPost_ret (ret_decl rfl _ _ B d0 rfl HD5.out) rfl ⟨by rw [HE4.out]; rfl, HB5.out⟩
  · have HE2 : Hid (oprV n a q = (d0, e)) := Lib.hid (by rw [HE.out, if_pos he])
    go_wp2_with (refine store_decl rfl (.tmp 6) (.tmp 22) rfl B rfl d0 rfl d0 HD2.out ?_; intro w5 hd5 ho5; have HD5 := Lib.hid hd5; have HB5 : Hid (Below w.heap.size w w5) := Lib.hid (HB2.out.trans (ho5 _ HBB.out)); clear hd5 ho5)
    exact bodyPost_ret (ret_decl rfl _ _ B d0 rfl (by assumption)) rfl ⟨by rw [HE2.out]; rfl, HB5.out⟩

end Go.Proofs.YtjkjbgekpkhpfaaGreatDoor
