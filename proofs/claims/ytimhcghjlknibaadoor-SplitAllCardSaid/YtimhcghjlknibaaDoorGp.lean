/- The document's Names. -/
import Derived.Test.YtimhcghjlknibaaDoorME
import Derived.Deep.QuietTactic
import Derived.Deep.RegionHeld3
import Derived.BigQuiet
namespace Go.Proofs.YtimhcghjlknibaaDoor
open Go.RowKit Go.Sort

theorem enc_at {w : World} {base g n c p : Nat} {e : TypeId} {M : List Nm} (h : OwnV base e 1 w (some ⟨g, 0, none⟩) n c (M.map encStr)) (hp : p < n) {S : ByteArray} (hS : S.toList = at_ M p) : w.cell? ⟨g, p, none⟩ = some (.string S) := by
  have hl := h.bounds.1
  rw [List.length_map, Nat.mul_one] at hl
  have := h.vs.cells (by omega) (j := p) (by omega)
  rw [Nat.zero_add, List.getElem?_map] at this
  rw [this, ← enc_str S, hS]
  unfold at_
  rw [List.getD_eq_getElem?_getD, List.getElem?_eq_getElem (by omega)]
  rfl
theorem enc_one (M : List Nm) : ∀ u ∈ M.map encStr, u.oneCell' = true := by
  intro u hu
  obtain ⟨s, _, rfl⟩ := List.mem_map.1 hu
  rfl
/-- A block of another type stays. -/
theorem row_keep {w w' : World} {base k n c x : Nat} {a : Option Addr} {e e' : TypeId} {xs : List Value} {cs : Array Value} {mk : Nat × Nat} (ho : OwnV base e k w a n c xs) (hg : w.grownBy w' (Value.ownBlock (.slice a n c))) (hx : w.heap[x]? = some (.cells cs e' mk)) (he : e' ≠ e) : w'.heap[x]? = some (.cells cs e' mk) := by
  rw [hg.block x (Array.getElem?_eq_some_iff.1 hx).1 ?_]
  · exact hx
  · intro hh
    cases a with
    | none => simp [Value.ownBlock] at hh
    | some ad =>
      obtain ⟨g, cur, ha, _, _, hgg, _, _⟩ := ho.form (by simp)
      simp only [Option.some.injEq] at ha
      subst ha
      simp only [Value.ownBlock, Option.some.injEq] at hh
      subst hh
      rw [hx] at hgg
      simp only [Option.some.injEq, Obj.cells.injEq] at hgg
      exact he hgg.2.1
theorem own_ne {w : World} {base base' g n p c : Nat} {a : Option Addr} {e : TypeId} {k m : Nat} {xs : List Value} (h : OwnV base e k w a m c xs) (hg : g < base') (hb : base' < base) : (Value.slice a m c).ownBlock = none ∨ (Value.slice a m c).ownBlock ≠ (Value.slice (some ⟨g, 0, none⟩) n p).ownBlock := by
  cases hv : (Value.slice a m c).ownBlock with
  | none => exact Or.inl rfl
  | some x =>
    right
    have := World.ownsRow.lt h x hv
    simp only [Value.ownBlock]
    intro hh
    simp only [Option.some.injEq] at hh
    omega
theorem str_at (M : List Nm) (p : Nat) : ∃ S : ByteArray, S.toList = at_ M p := ⟨⟨(at_ M p).toArray⟩, by simp [ByteArray.toList_eq]⟩

set_option maxRecDepth 100000 in
set_option maxHeartbeats 8000000 in
theorem rnames_any (f t i : Int) (a : Option Addr) (len cap : Nat) (L : List TK) (w : World) (h : Ts w a len cap L) (hsz : len ≤ 1000000) :
    Calls Tryd.prog 11 #[.agg #[.int .i64 f, .int .i64 t, .int .i64 i, .slice a len cap]] w fun e w' => ∃ a' c', e = .returned (.slice a' (nmR (nms L)).length c') ∧ Vs 1 w' a' (nmR (nms L)).length c' ((nmR (nms L)).map encStr) ∧ Below w.heap.size w w' := by
  have hlc := h.lc
  have hcm := h.cm
  unfold maxLen at hcm
  have H := Lib.hid h
  have HL := Lib.hid h.hl
  have HO0 : Hid (OwnV (w.heap.size + 1) 9 1 ((w.alloc (.cells #[.int .i64 f, .int .i64 t, .int .i64 i, .slice a len cap] 25)).alloc (.cells #[] 9)) (some ⟨w.heap.size + 1, 0, none⟩) 0 0 []) :=
    Lib.hid (OwnV.emptyAt (by have := heap_alloc_new (w.alloc (.cells #[.int .i64 f, .int .i64 t, .int .i64 i, .slice a len cap] 25)) (.cells #[] 9); simpa using this) (Nat.le_refl _))
  have HB0 : Hid (Below w.heap.size w ((w.alloc (.cells #[.int .i64 f, .int .i64 t, .int .i64 i, .slice a len cap] 25)).alloc (.cells #[] 9))) := Lib.hid (((Below.refl _ _).alloc (Nat.le_refl _) _).alloc (by simp) _)
  clear h
  go_enter Tryd.func11, Tryd.ntmps11
  go_wp2
  go_loopw [3, 4] (fun x v wr => ∃ g n c k : Nat, ∃ M : List Nm, x = .slice (some ⟨g, 0, none⟩) n c ∧ v = .int .i64 k ∧ k ≤ len ∧ n ≤ k ∧ Hid (insA (nms (L.take k)) = M) ∧ Hid (OwnV (w.heap.size + 1) 9 1 wr (some ⟨g, 0, none⟩) n c (M.map encStr)) ∧ Hid (wr.cell? ⟨w.heap.size, 3, none⟩ = some (.slice a len cap)) ∧ w.heap.size < wr.heap.size ∧ Hid (Below w.heap.size w wr)) (fun _ v _ => len - (intOf v).toNat)
  case atStart => exact ⟨_, 0, 0, 0, [], rfl, rfl, by omega, by omega, Lib.hid (by simp [nms, insA]), HO0, Lib.hid (by simp), by simp; omega, HB0⟩
  case round =>
    obtain ⟨g, n, c, k, M, rfl, rfl, hk, hn, HM, HO, HX, hxs, HB⟩ := hrel
    rename World => wa
    have hx := HX.out
    by_cases hlt : k < len
    · have hb := H.out.below HB.out
      obtain ⟨b, off, rfl, _, _⟩ := hb.at_ (by omega)
      obtain ⟨c0, c1, c2, c3, c4⟩ := hb.at5 hlt
      have HS := Lib.hid (nms_snoc (L := L) (k := k) (by rw [HL.out]; exact hlt))
      obtain ⟨T, hT⟩ : ∃ T, T = tat L k := ⟨_, rfl⟩
      rw [← hT] at c0 c1 c2 c3 c4 HS
      clear hb hT
      obtain ⟨K, F, U, S, E⟩ := T
      simp only at c0 c1 c2 c3 c4
      obtain ⟨W, hW⟩ : ∃ W, W = wa.alloc (.cells #[.int .i64 K, .int .i64 F, .int .i64 U, .string S, .int .i64 E] 38) := ⟨_, rfl⟩
      have hgb := (HO.out.form (by simp)).choose_spec.choose_spec
      simp only [Option.some.injEq, Addr.mk.injEq, and_true] at hgb
      obtain ⟨hge, hgb1, hgb2, _⟩ := hgb
      rw [← hge] at hgb1 hgb2
      have HG := Lib.hid (And.intro hgb1 hgb2)
      clear hge hgb1 hgb2
      have HOW : Hid (OwnV (w.heap.size + 1) 9 1 W (some ⟨g, 0, none⟩) n c (M.map encStr)) := Lib.hid (hW ▸ HO.out.alloc _)
      have HSW : Hid (W.cell? ⟨wa.heap.size, 3, none⟩ = some (.string S)) := Lib.hid (by rw [hW]; simp)
      have HXW : Hid (W.cell? ⟨w.heap.size, 3, none⟩ = some (.slice (some ⟨b, off, none⟩) len cap)) := Lib.hid (by rw [hW]; exact (((Below.refl _ _).alloc (Nat.le_refl _) _).cell hxs).trans HX.out)
      have HTW : Hid (W.heap[wa.heap.size]? = some (.cells #[.int .i64 K, .int .i64 F, .int .i64 U, .string S, .int .i64 E] 38 (0, 0))) := Lib.hid (by rw [hW]; exact heap_alloc_new wa _)
      have HSZ : Hid (W.heap.size = wa.heap.size + 1) := Lib.hid (by rw [hW]; simp)
      have HBW : Hid (Below w.heap.size w W) := Lib.hid (by rw [hW]; exact HB.out.alloc HB.out.size _)
      have HWW : Hid (wa.alloc (.cells #[.int .i64 K, .int .i64 F, .int .i64 U, .string S, .int .i64 E] 38) = W) := Lib.hid hW.symm
      have HC := Lib.hid (HO.out.bounds)
      have HXS := Lib.hid hxs
      have hnc := HC.out.2.1
      have hcm3 := HC.out.2.2
      unfold maxLen at hcm3
      have hml : M.length = n := by have := HC.out.1; simpa using this
      have HML := Lib.hid hml
      clear hW hml
      cases h1 : K == 1 with
      | true =>
        have h1' : (K != 1) = false := by unfold bne; rw [h1]; rfl
        have HS1 : Hid (nms (L.take (k + 1)) = nms (L.take k) ++ [S.toList]) := Lib.hid (by rw [HS.out, show isN ⟨K, F, U, S, E⟩ = true by unfold isN; rw [h1]; rfl]; rfl)
        go_wp2
        go_loopw [6] (fun v wr => ∃ p : Nat, v = .int .i64 p ∧ p ≤ n ∧ Hid (∀ j, j < p → at_ M j < S.toList) ∧ Hid (Below W.heap.size W wr)) (fun v _ => n - (intOf v).toNat)
        case atStart => exact ⟨0, rfl, by omega, Lib.hid (fun j hj => by omega), Lib.hid (by rw [HWW.out]; exact Below.refl _ _)⟩
        case round =>
          obtain ⟨p, rfl, hp, HP, HBw⟩ := hrel
          rename World => wb
          have ht3 : wb.cell? ⟨wa.heap.size, 3, none⟩ = some (.string S) := (HBw.out.cell (by rw [HSZ.out]; simp)).trans HSW.out
          have hp0 : (0 : Int) ≤ (p : Int) := Int.natCast_nonneg _
          by_cases hpn : p < n
          · obtain ⟨S', hS'⟩ := str_at M p
            have hcell := enc_at (HOW.out.keep HBw.out (Nat.le_refl _)) hpn hS'
            have HS' := Lib.hid hS'
            have hd1 : decide ((p : Int) < (n : Int)) = true := by simp; omega
            have hp1 : (p : Int) < (n : Int) := by omega
            clear hS'
            cases hl : Op.bytesLess S'.toList S.toList with
            | true =>
              have HP' : Hid (∀ j, j < p + 1 → at_ M j < S.toList) := Lib.hid (fun j hj => by
                by_cases hjp : j < p
                · exact HP.out j hjp
                · have : j = p := by omega
                  subst this
                  rw [bytesLess_eq] at hl
                  rw [← HS'.out]; simpa using hl)
              go_wp2
              go_quiet (fail)
              go_wp2
              go_roundw
              case rel => exact ⟨p + 1, by go_num, by omega, HP', Lib.hid (below_drewN HBw.out _)⟩
              case measure => simp [intOf]; omega
            | false =>
              have hq1 : ((p : Int) == (n : Int)) = false := by simp; omega
              cases he : S'.toList == S.toList with
              | true =>
                have HE : Hid (insA (nms (L.take (k + 1))) = M) := Lib.hid (by
                  rw [HS1.out, insA_snoc, HM.out, ins_at M S.toList p (by rw [HML.out]; exact hp) HP.out (fun _ => by rw [← HS'.out]; rw [bytesLess_eq] at hl; simpa using hl), if_pos ⟨by rw [HML.out]; exact hpn, by rw [← HS'.out]; simpa using he⟩])
                go_wp2
                go_quiet (fail)
                go_wp2
                go_quiet (fail)
                go_wp2
                go_roundw
                case rel => exact ⟨_, n, _, k + 1, M, rfl, by go_num, by omega, by omega, HE, Lib.hid (HOW.out.keep (below_drewN HBw.out _) (Nat.le_refl _)), Lib.hid (((below_drewN HBw.out _).cell (by have h2 := HSZ.out; have h3 := HXS.out; show w.heap.size < _; omega)).trans HXW.out), by have h1 := HBw.out.size; have h2 := HSZ.out; have h3 := HXS.out; simp; omega, Lib.hid (HBW.out.trans ((below_drewN HBw.out _).mono (HBW.out.size)))⟩
                case measure => simp [intOf]; omega
              | false =>
                have HE : Hid (insA (nms (L.take (k + 1))) = M.take p ++ S.toList :: M.drop p) := Lib.hid (by
                  rw [HS1.out, insA_snoc, HM.out, ins_at M S.toList p (by rw [HML.out]; exact hp) HP.out (fun _ => by rw [← HS'.out]; rw [bytesLess_eq] at hl; simpa using hl), if_neg (fun hh => by have h2 := hh.2; rw [← HS'.out] at h2; rw [h2] at he; simp at he)])
                go_wp2
                go_quiet (fail)
                go_wp2
                go_quiet (fail)
                have hfrom : ∀ w, (Instr.slice 27 (.slice (some ⟨g, 0, none⟩) n c) (some (.int .i64 p)) none none).run Tryd.prog w = .ok (.slice (some ⟨g, if c = p then 0 else 0 + p * 1, none⟩) (n - p) (c - p)) w := fun w => run_l (n := n) (l := p) elem_strs Tryd.underlying27 str_info (by omega) w
                have hto : ∀ w, (Instr.slice 27 (.slice (some ⟨g, 0, none⟩) n c) none (some (.int .i64 p)) none).run Tryd.prog w = .ok (.slice (some ⟨g, 0, none⟩) p c) w := fun w => run_h (n := n) (h := p) elem_strs Tryd.underlying27 str_info (by omega) w
                have hf := (HOW.out.keep HBw.out (Nat.le_refl _)).vs.from (l := p) (by omega)
                rw [Nat.mul_one, ← List.map_drop] at hf
                rw [Nat.mul_one] at hfrom
                obtain ⟨o2, ho2⟩ : ∃ o2, o2 = if c = p then 0 else 0 + p := ⟨_, rfl⟩
                obtain ⟨n2, hn2⟩ : ∃ n2, n2 = n - p := ⟨_, rfl⟩
                obtain ⟨c2', hc2⟩ : ∃ c2, c2 = c - p := ⟨_, rfl⟩
                rw [← ho2, ← hn2, ← hc2] at hfrom hf
                have HF := Lib.hid hf
                have g1 : p + 1 + n2 ≤ k + 1 := by omega
                have g2 : n2 ≤ 1000000 := by omega
                have HBb : Hid (∀ q, Below wb.heap.size wb ((wb.drewN q).alloc (.cells #[] 9))) := Lib.hid fun q => (below_drewN (Below.refl _ _) q).alloc (by simp) _
                have HT3 := Lib.hid ht3
                have HWB : Hid (wa.heap.size < wb.heap.size) := Lib.hid (by have h1 := HBw.out.size; have h2 := HSZ.out; omega)
                clear ho2 hf hn2 hc2
                go_wp2_with (at_builtin; refine Hid.out ?_)
                refine Lib.hid ?_
                refine wpList_appv rfl (.tmp 62) (.tmp 65) 27 rfl 9 wb.heap.size 1 16 _ Tryd.underlying27 str_info rfl (by omega) _ _ _ [] rfl (OwnV.emptyAt (heap_alloc_new _ _) (by simp)) _ _ _ ((M.drop p).map encStr) rfl (HF.out.below (HBb.out _)) (enc_one _) (by unfold maxLen; omega) (by omega) (by simp) ?_
                intro a7 c7 w5 ho5 hg5 hb5 _
                rw [Nat.zero_add] at ho5 ⊢
                rw [List.nil_append] at ho5
                have HO7 := Lib.hid ho5
                have HB5 : Hid (Below wb.heap.size wb w5) := Lib.hid ((HBb.out _).trans hb5)
                have HO5 : Hid (OwnV (w.heap.size + 1) 9 1 w5 (some ⟨g, 0, none⟩) n c (M.map encStr)) := Lib.hid ((HOW.out.keep HBw.out (Nat.le_refl _)).keep HB5.out (Nat.le_refl _))
                have HX5 : Hid (w5.cell? ⟨w.heap.size, 3, none⟩ = some (.slice (some ⟨b, off, none⟩) len cap)) := Lib.hid ((HB5.out.cell (by have h2 := HWB.out; have h3 := HXS.out; show w.heap.size < _; omega)).trans ((HBw.out.cell (by have h2 := HSZ.out; have h3 := HXS.out; show w.heap.size < _; omega)).trans HXW.out))
                have HBW5 : Hid (Below w.heap.size w w5) := Lib.hid (HBW.out.trans ((HBw.out.mono HBW.out.size).trans (HB5.out.mono (Nat.le_trans HBW.out.size HBw.out.size))))
                have HTB5 : Hid (w5.heap[wa.heap.size]? = some (.cells #[.int .i64 K, .int .i64 F, .int .i64 U, .string S, .int .i64 E] 38 (0, 0))) := Lib.hid ((HB5.out.block _ HWB.out).trans ((HBw.out.block _ (by rw [HSZ.out]; omega)).trans HTW.out))
                have HT5 : Hid (w5.cell? ⟨wa.heap.size, 3, none⟩ = some (.string S)) := Lib.hid ((HB5.out.cell HWB.out).trans HT3.out)
                clear ho5 hg5 hb5
                go_wp2
                have hS : w5.cell? ⟨wa.heap.size, 3, none⟩ = some (.string S) := HT5.out
                go_region_held3 (fun w' => w'.cell? ⟨wa.heap.size, 3, none⟩ = some (.string S))
                  (first
                    | go_keep
                    | exact HT8.out
                    | exact HT9.out)
                  (first
                    | (refine step_appv rfl (.tmp 69) (.tmp 72) 27 rfl 9 (w.heap.size + 1) 1 16 _ Tryd.underlying27 str_info rfl (by omega) _ _ _ ((M.map encStr).take (p * 1)) rfl (((HO5.out.cut (by omega)).alloc _).drew) _ _ _ [.string S] rfl (Vs.lit (k := 1) (xs := [.string S]) _ _ rfl rfl rfl).drew (by simp; rfl) (by unfold maxLen; omega) (by omega) (by have h1 := HB5.out.size; have h2 := HWB.out; have h3 := HXS.out; simp; omega) ?_; intro a8 c8 w8 ho8 hg8 hb8 _; have HO8 := Lib.hid ho8; have HB8 : Hid (Below (w.heap.size + 1) w5 w8) := Lib.hid ((((Below.refl _ _).alloc (by have h1 := HB5.out.size; have h2 := HWB.out; have h3 := HXS.out; omega) _).drew).trans hb8); have HO78 : Hid (OwnV wb.heap.size 9 1 w8 a7 n2 c7 ((M.drop p).map encStr)) := Lib.hid (((HO7.out.alloc _).drew).other hg8 (own_ne HO7.out HG.out.2 HWB.out)); have HTB8 : Hid (w8.heap[wa.heap.size]? = some (.cells #[.int .i64 K, .int .i64 F, .int .i64 U, .string S, .int .i64 E] 38 (0, 0))) := Lib.hid (row_keep (((HO5.out.cut (m := p) (by omega)).alloc _).drew) hg8 (((((Below.refl w5.heap.size w5).alloc (Nat.le_refl _) _).drew).block _ (by have h1 := HB5.out.size; have h2 := HWB.out; omega)).trans HTB5.out) (by decide)); have HT8 : Hid (w8.cell? ⟨wa.heap.size, 3, none⟩ = some (.string S)) := Lib.hid (by rw [cell_of_row w8 wa.heap.size 3 _ _ _ HTB8.out]; rfl); clear ho8 hg8 hb8)
                    | (refine step_appv rfl (.tmp 73) (.tmp 74) 27 rfl 9 (w.heap.size + 1) 1 16 _ Tryd.underlying27 str_info rfl (by omega) _ _ _ _ rfl HO8.out _ _ _ ((M.drop p).map encStr) rfl HO78.out.vs (enc_one _) (by unfold maxLen; omega) (by omega) (by have h0 := HB8.out.size; have h1 := HB5.out.size; have h2 := HWB.out; have h3 := HXS.out; omega) ?_; intro a9 c9 w9 ho9 hg9 hb9 _; have HO9 := Lib.hid ho9; have HB9 : Hid (Below (w.heap.size + 1) w5 w9) := Lib.hid (HB8.out.trans hb9); have HT9 : Hid (w9.cell? ⟨wa.heap.size, 3, none⟩ = some (.string S)) := Lib.hid (by rw [cell_of_row w9 wa.heap.size 3 _ _ _ (row_keep HO8.out hg9 HTB8.out (by decide))]; rfl); clear ho9 hg9 hb9))
                clear hS
                obtain ⟨g9, cur9, rfl, _, _, _, _, _⟩ := HO9.out.form (HO9.out.some (by omega))
                have HO9' : Hid (OwnV (w.heap.size + 1) 9 1 w9 (some ⟨g9, 0, none⟩) (p + 1 + n2) c9 ((M.take p ++ S.toList :: M.drop p).map encStr)) := Lib.hid (by
                  have := HO9.out
                  rw [Nat.mul_one, ← List.map_take, ← enc_str S, ← List.map_singleton, ← List.map_append, ← List.map_append, List.append_assoc] at this
                  exact this)
                have HX9 : Hid (w9.cell? ⟨w.heap.size, 3, none⟩ = some (.slice (some ⟨b, off, none⟩) len cap)) := Lib.hid ((HB9.out.cell (by show w.heap.size < w.heap.size + 1; omega)).trans HX5.out)
                have hxs9 : w.heap.size < w9.heap.size := by have h0 := HB9.out.size; have h1 := HB5.out.size; have h2 := HWB.out; have h3 := HXS.out; omega
                have HBW9 : Hid (Below w.heap.size w w9) := Lib.hid (HBW5.out.trans (HB9.out.mono (by omega)))
                go_wp2
                go_roundw
                case rel => exact ⟨g9, p + 1 + n2, c9, k + 1, _, rfl, by go_num, by omega, g1, HE, HO9', HX9, hxs9, HBW9⟩
                case measure => simp [intOf]; omega

          · have hd1 : decide ((p : Int) < (n : Int)) = false := by simp; omega
            have hq1 : ((p : Int) == (n : Int)) = true := by simp; omega
            have HE : Hid (insA (nms (L.take (k + 1))) = M.take p ++ S.toList :: M.drop p) := Lib.hid (by
              rw [HS1.out, insA_snoc, HM.out, ins_at M S.toList p (by rw [HML.out]; exact hp) HP.out (fun hh => by rw [HML.out] at hh; omega), if_neg (fun hh => by have h2 := hh.1; rw [HML.out] at h2; omega)])
            go_wp2
            go_quiet (fail)
            go_wp2
            go_quiet (fail)
            have hfrom : ∀ w, (Instr.slice 27 (.slice (some ⟨g, 0, none⟩) n c) (some (.int .i64 p)) none none).run Tryd.prog w = .ok (.slice (some ⟨g, if c = p then 0 else 0 + p * 1, none⟩) (n - p) (c - p)) w := fun w => run_l (n := n) (l := p) elem_strs Tryd.underlying27 str_info (by omega) w
            have hto : ∀ w, (Instr.slice 27 (.slice (some ⟨g, 0, none⟩) n c) none (some (.int .i64 p)) none).run Tryd.prog w = .ok (.slice (some ⟨g, 0, none⟩) p c) w := fun w => run_h (n := n) (h := p) elem_strs Tryd.underlying27 str_info (by omega) w
            have hf := (HOW.out.keep HBw.out (Nat.le_refl _)).vs.from (l := p) (by omega)
            rw [Nat.mul_one, ← List.map_drop] at hf
            rw [Nat.mul_one] at hfrom
            obtain ⟨o2, ho2⟩ : ∃ o2, o2 = if c = p then 0 else 0 + p := ⟨_, rfl⟩
            obtain ⟨n2, hn2⟩ : ∃ n2, n2 = n - p := ⟨_, rfl⟩
            obtain ⟨c2', hc2⟩ : ∃ c2, c2 = c - p := ⟨_, rfl⟩
            rw [← ho2, ← hn2, ← hc2] at hfrom hf
            have HF := Lib.hid hf
            have g1 : p + 1 + n2 ≤ k + 1 := by omega
            have g2 : n2 ≤ 1000000 := by omega
            have HBb : Hid (∀ q, Below wb.heap.size wb ((wb.drewN q).alloc (.cells #[] 9))) := Lib.hid fun q => (below_drewN (Below.refl _ _) q).alloc (by simp) _
            have HT3 := Lib.hid ht3
            have HWB : Hid (wa.heap.size < wb.heap.size) := Lib.hid (by have h1 := HBw.out.size; have h2 := HSZ.out; omega)
            clear ho2 hf hn2 hc2
            go_wp2_with (at_builtin; refine Hid.out ?_)
            refine Lib.hid ?_
            refine wpList_appv rfl (.tmp 62) (.tmp 65) 27 rfl 9 wb.heap.size 1 16 _ Tryd.underlying27 str_info rfl (by omega) _ _ _ [] rfl (OwnV.emptyAt (heap_alloc_new _ _) (by simp)) _ _ _ ((M.drop p).map encStr) rfl (HF.out.below (HBb.out _)) (enc_one _) (by unfold maxLen; omega) (by omega) (by simp) ?_
            intro a7 c7 w5 ho5 hg5 hb5 _
            rw [Nat.zero_add] at ho5 ⊢
            rw [List.nil_append] at ho5
            have HO7 := Lib.hid ho5
            have HB5 : Hid (Below wb.heap.size wb w5) := Lib.hid ((HBb.out _).trans hb5)
            have HO5 : Hid (OwnV (w.heap.size + 1) 9 1 w5 (some ⟨g, 0, none⟩) n c (M.map encStr)) := Lib.hid ((HOW.out.keep HBw.out (Nat.le_refl _)).keep HB5.out (Nat.le_refl _))
            have HX5 : Hid (w5.cell? ⟨w.heap.size, 3, none⟩ = some (.slice (some ⟨b, off, none⟩) len cap)) := Lib.hid ((HB5.out.cell (by have h2 := HWB.out; have h3 := HXS.out; show w.heap.size < _; omega)).trans ((HBw.out.cell (by have h2 := HSZ.out; have h3 := HXS.out; show w.heap.size < _; omega)).trans HXW.out))
            have HBW5 : Hid (Below w.heap.size w w5) := Lib.hid (HBW.out.trans ((HBw.out.mono HBW.out.size).trans (HB5.out.mono (Nat.le_trans HBW.out.size HBw.out.size))))
            have HTB5 : Hid (w5.heap[wa.heap.size]? = some (.cells #[.int .i64 K, .int .i64 F, .int .i64 U, .string S, .int .i64 E] 38 (0, 0))) := Lib.hid ((HB5.out.block _ HWB.out).trans ((HBw.out.block _ (by rw [HSZ.out]; omega)).trans HTW.out))
            have HT5 : Hid (w5.cell? ⟨wa.heap.size, 3, none⟩ = some (.string S)) := Lib.hid ((HB5.out.cell HWB.out).trans HT3.out)
            clear ho5 hg5 hb5
            go_wp2
            have hS : w5.cell? ⟨wa.heap.size, 3, none⟩ = some (.string S) := HT5.out
            go_region_held3 (fun w' => w'.cell? ⟨wa.heap.size, 3, none⟩ = some (.string S))
              (first
                | go_keep
                | exact HT8.out
                | exact HT9.out)
              (first
                | (refine step_appv rfl (.tmp 69) (.tmp 72) 27 rfl 9 (w.heap.size + 1) 1 16 _ Tryd.underlying27 str_info rfl (by omega) _ _ _ ((M.map encStr).take (p * 1)) rfl (((HO5.out.cut (by omega)).alloc _).drew) _ _ _ [.string S] rfl (Vs.lit (k := 1) (xs := [.string S]) _ _ rfl rfl rfl).drew (by simp; rfl) (by unfold maxLen; omega) (by omega) (by have h1 := HB5.out.size; have h2 := HWB.out; have h3 := HXS.out; simp; omega) ?_; intro a8 c8 w8 ho8 hg8 hb8 _; have HO8 := Lib.hid ho8; have HB8 : Hid (Below (w.heap.size + 1) w5 w8) := Lib.hid ((((Below.refl _ _).alloc (by have h1 := HB5.out.size; have h2 := HWB.out; have h3 := HXS.out; omega) _).drew).trans hb8); have HO78 : Hid (OwnV wb.heap.size 9 1 w8 a7 n2 c7 ((M.drop p).map encStr)) := Lib.hid (((HO7.out.alloc _).drew).other hg8 (own_ne HO7.out HG.out.2 HWB.out)); have HTB8 : Hid (w8.heap[wa.heap.size]? = some (.cells #[.int .i64 K, .int .i64 F, .int .i64 U, .string S, .int .i64 E] 38 (0, 0))) := Lib.hid (row_keep (((HO5.out.cut (m := p) (by omega)).alloc _).drew) hg8 (((((Below.refl w5.heap.size w5).alloc (Nat.le_refl _) _).drew).block _ (by have h1 := HB5.out.size; have h2 := HWB.out; omega)).trans HTB5.out) (by decide)); have HT8 : Hid (w8.cell? ⟨wa.heap.size, 3, none⟩ = some (.string S)) := Lib.hid (by rw [cell_of_row w8 wa.heap.size 3 _ _ _ HTB8.out]; rfl); clear ho8 hg8 hb8)
                | (refine step_appv rfl (.tmp 73) (.tmp 74) 27 rfl 9 (w.heap.size + 1) 1 16 _ Tryd.underlying27 str_info rfl (by omega) _ _ _ _ rfl HO8.out _ _ _ ((M.drop p).map encStr) rfl HO78.out.vs (enc_one _) (by unfold maxLen; omega) (by omega) (by have h0 := HB8.out.size; have h1 := HB5.out.size; have h2 := HWB.out; have h3 := HXS.out; omega) ?_; intro a9 c9 w9 ho9 hg9 hb9 _; have HO9 := Lib.hid ho9; have HB9 : Hid (Below (w.heap.size + 1) w5 w9) := Lib.hid (HB8.out.trans hb9); have HT9 : Hid (w9.cell? ⟨wa.heap.size, 3, none⟩ = some (.string S)) := Lib.hid (by rw [cell_of_row w9 wa.heap.size 3 _ _ _ (row_keep HO8.out hg9 HTB8.out (by decide))]; rfl); clear ho9 hg9 hb9))
            clear hS
            obtain ⟨g9, cur9, rfl, _, _, _, _, _⟩ := HO9.out.form (HO9.out.some (by omega))
            have HO9' : Hid (OwnV (w.heap.size + 1) 9 1 w9 (some ⟨g9, 0, none⟩) (p + 1 + n2) c9 ((M.take p ++ S.toList :: M.drop p).map encStr)) := Lib.hid (by
              have := HO9.out
              rw [Nat.mul_one, ← List.map_take, ← enc_str S, ← List.map_singleton, ← List.map_append, ← List.map_append, List.append_assoc] at this
              exact this)
            have HX9 : Hid (w9.cell? ⟨w.heap.size, 3, none⟩ = some (.slice (some ⟨b, off, none⟩) len cap)) := Lib.hid ((HB9.out.cell (by show w.heap.size < w.heap.size + 1; omega)).trans HX5.out)
            have hxs9 : w.heap.size < w9.heap.size := by have h0 := HB9.out.size; have h1 := HB5.out.size; have h2 := HWB.out; have h3 := HXS.out; omega
            have HBW9 : Hid (Below w.heap.size w w9) := Lib.hid (HBW5.out.trans (HB9.out.mono (by omega)))
            go_wp2
            go_roundw
            case rel => exact ⟨g9, p + 1 + n2, c9, k + 1, _, rfl, by go_num, by omega, g1, HE, HO9', HX9, hxs9, HBW9⟩
            case measure => simp [intOf]; omega
      | false =>
        have h1' : (K != 1) = true := by unfold bne; rw [h1]; rfl
        cases h2 : K == 2 with
        | true =>
          have h2' : (K != 2) = false := by unfold bne; rw [h2]; rfl
          have HS1 : Hid (nms (L.take (k + 1)) = nms (L.take k) ++ [S.toList]) := Lib.hid (by rw [HS.out, show isN ⟨K, F, U, S, E⟩ = true by unfold isN; rw [h1, h2]; rfl]; rfl)
          go_wp2
          go_loopw [6] (fun v wr => ∃ p : Nat, v = .int .i64 p ∧ p ≤ n ∧ Hid (∀ j, j < p → at_ M j < S.toList) ∧ Hid (Below W.heap.size W wr)) (fun v _ => n - (intOf v).toNat)
          case atStart => exact ⟨0, rfl, by omega, Lib.hid (fun j hj => by omega), Lib.hid (by rw [HWW.out]; exact Below.refl _ _)⟩
          case round =>
            obtain ⟨p, rfl, hp, HP, HBw⟩ := hrel
            rename World => wb
            have ht3 : wb.cell? ⟨wa.heap.size, 3, none⟩ = some (.string S) := (HBw.out.cell (by rw [HSZ.out]; simp)).trans HSW.out
            have hp0 : (0 : Int) ≤ (p : Int) := Int.natCast_nonneg _
            by_cases hpn : p < n
            · obtain ⟨S', hS'⟩ := str_at M p
              have hcell := enc_at (HOW.out.keep HBw.out (Nat.le_refl _)) hpn hS'
              have HS' := Lib.hid hS'
              have hd1 : decide ((p : Int) < (n : Int)) = true := by simp; omega
              have hp1 : (p : Int) < (n : Int) := by omega
              clear hS'
              cases hl : Op.bytesLess S'.toList S.toList with
              | true =>
                have HP' : Hid (∀ j, j < p + 1 → at_ M j < S.toList) := Lib.hid (fun j hj => by
                  by_cases hjp : j < p
                  · exact HP.out j hjp
                  · have : j = p := by omega
                    subst this
                    rw [bytesLess_eq] at hl
                    rw [← HS'.out]; simpa using hl)
                go_wp2
                go_quiet (fail)
                go_wp2
                go_roundw
                case rel => exact ⟨p + 1, by go_num, by omega, HP', Lib.hid (below_drewN HBw.out _)⟩
                case measure => simp [intOf]; omega
              | false =>
                have hq1 : ((p : Int) == (n : Int)) = false := by simp; omega
                cases he : S'.toList == S.toList with
                | true =>
                  have HE : Hid (insA (nms (L.take (k + 1))) = M) := Lib.hid (by
                    rw [HS1.out, insA_snoc, HM.out, ins_at M S.toList p (by rw [HML.out]; exact hp) HP.out (fun _ => by rw [← HS'.out]; rw [bytesLess_eq] at hl; simpa using hl), if_pos ⟨by rw [HML.out]; exact hpn, by rw [← HS'.out]; simpa using he⟩])
                  go_wp2
                  go_quiet (fail)
                  go_wp2
                  go_quiet (fail)
                  go_wp2
                  go_roundw
                  case rel => exact ⟨_, n, _, k + 1, M, rfl, by go_num, by omega, by omega, HE, Lib.hid (HOW.out.keep (below_drewN HBw.out _) (Nat.le_refl _)), Lib.hid (((below_drewN HBw.out _).cell (by have h2 := HSZ.out; have h3 := HXS.out; show w.heap.size < _; omega)).trans HXW.out), by have h1 := HBw.out.size; have h2 := HSZ.out; have h3 := HXS.out; simp; omega, Lib.hid (HBW.out.trans ((below_drewN HBw.out _).mono (HBW.out.size)))⟩
                  case measure => simp [intOf]; omega
                | false =>
                  have HE : Hid (insA (nms (L.take (k + 1))) = M.take p ++ S.toList :: M.drop p) := Lib.hid (by
                    rw [HS1.out, insA_snoc, HM.out, ins_at M S.toList p (by rw [HML.out]; exact hp) HP.out (fun _ => by rw [← HS'.out]; rw [bytesLess_eq] at hl; simpa using hl), if_neg (fun hh => by have h2 := hh.2; rw [← HS'.out] at h2; rw [h2] at he; simp at he)])
                  go_wp2
                  go_quiet (fail)
                  go_wp2
                  go_quiet (fail)
                  have hfrom : ∀ w, (Instr.slice 27 (.slice (some ⟨g, 0, none⟩) n c) (some (.int .i64 p)) none none).run Tryd.prog w = .ok (.slice (some ⟨g, if c = p then 0 else 0 + p * 1, none⟩) (n - p) (c - p)) w := fun w => run_l (n := n) (l := p) elem_strs Tryd.underlying27 str_info (by omega) w
                  have hto : ∀ w, (Instr.slice 27 (.slice (some ⟨g, 0, none⟩) n c) none (some (.int .i64 p)) none).run Tryd.prog w = .ok (.slice (some ⟨g, 0, none⟩) p c) w := fun w => run_h (n := n) (h := p) elem_strs Tryd.underlying27 str_info (by omega) w
                  have hf := (HOW.out.keep HBw.out (Nat.le_refl _)).vs.from (l := p) (by omega)
                  rw [Nat.mul_one, ← List.map_drop] at hf
                  rw [Nat.mul_one] at hfrom
                  obtain ⟨o2, ho2⟩ : ∃ o2, o2 = if c = p then 0 else 0 + p := ⟨_, rfl⟩
                  obtain ⟨n2, hn2⟩ : ∃ n2, n2 = n - p := ⟨_, rfl⟩
                  obtain ⟨c2', hc2⟩ : ∃ c2, c2 = c - p := ⟨_, rfl⟩
                  rw [← ho2, ← hn2, ← hc2] at hfrom hf
                  have HF := Lib.hid hf
                  have g1 : p + 1 + n2 ≤ k + 1 := by omega
                  have g2 : n2 ≤ 1000000 := by omega
                  have HBb : Hid (∀ q, Below wb.heap.size wb ((wb.drewN q).alloc (.cells #[] 9))) := Lib.hid fun q => (below_drewN (Below.refl _ _) q).alloc (by simp) _
                  have HT3 := Lib.hid ht3
                  have HWB : Hid (wa.heap.size < wb.heap.size) := Lib.hid (by have h1 := HBw.out.size; have h2 := HSZ.out; omega)
                  clear ho2 hf hn2 hc2
                  go_wp2_with (at_builtin; refine Hid.out ?_)
                  refine Lib.hid ?_
                  refine wpList_appv rfl (.tmp 62) (.tmp 65) 27 rfl 9 wb.heap.size 1 16 _ Tryd.underlying27 str_info rfl (by omega) _ _ _ [] rfl (OwnV.emptyAt (heap_alloc_new _ _) (by simp)) _ _ _ ((M.drop p).map encStr) rfl (HF.out.below (HBb.out _)) (enc_one _) (by unfold maxLen; omega) (by omega) (by simp) ?_
                  intro a7 c7 w5 ho5 hg5 hb5 _
                  rw [Nat.zero_add] at ho5 ⊢
                  rw [List.nil_append] at ho5
                  have HO7 := Lib.hid ho5
                  have HB5 : Hid (Below wb.heap.size wb w5) := Lib.hid ((HBb.out _).trans hb5)
                  have HO5 : Hid (OwnV (w.heap.size + 1) 9 1 w5 (some ⟨g, 0, none⟩) n c (M.map encStr)) := Lib.hid ((HOW.out.keep HBw.out (Nat.le_refl _)).keep HB5.out (Nat.le_refl _))
                  have HX5 : Hid (w5.cell? ⟨w.heap.size, 3, none⟩ = some (.slice (some ⟨b, off, none⟩) len cap)) := Lib.hid ((HB5.out.cell (by have h2 := HWB.out; have h3 := HXS.out; show w.heap.size < _; omega)).trans ((HBw.out.cell (by have h2 := HSZ.out; have h3 := HXS.out; show w.heap.size < _; omega)).trans HXW.out))
                  have HBW5 : Hid (Below w.heap.size w w5) := Lib.hid (HBW.out.trans ((HBw.out.mono HBW.out.size).trans (HB5.out.mono (Nat.le_trans HBW.out.size HBw.out.size))))
                  have HTB5 : Hid (w5.heap[wa.heap.size]? = some (.cells #[.int .i64 K, .int .i64 F, .int .i64 U, .string S, .int .i64 E] 38 (0, 0))) := Lib.hid ((HB5.out.block _ HWB.out).trans ((HBw.out.block _ (by rw [HSZ.out]; omega)).trans HTW.out))
                  have HT5 : Hid (w5.cell? ⟨wa.heap.size, 3, none⟩ = some (.string S)) := Lib.hid ((HB5.out.cell HWB.out).trans HT3.out)
                  clear ho5 hg5 hb5
                  go_wp2
                  have hS : w5.cell? ⟨wa.heap.size, 3, none⟩ = some (.string S) := HT5.out
                  go_region_held3 (fun w' => w'.cell? ⟨wa.heap.size, 3, none⟩ = some (.string S))
                    (first
                      | go_keep
                      | exact HT8.out
                      | exact HT9.out)
                    (first
                      | (refine step_appv rfl (.tmp 69) (.tmp 72) 27 rfl 9 (w.heap.size + 1) 1 16 _ Tryd.underlying27 str_info rfl (by omega) _ _ _ ((M.map encStr).take (p * 1)) rfl (((HO5.out.cut (by omega)).alloc _).drew) _ _ _ [.string S] rfl (Vs.lit (k := 1) (xs := [.string S]) _ _ rfl rfl rfl).drew (by simp; rfl) (by unfold maxLen; omega) (by omega) (by have h1 := HB5.out.size; have h2 := HWB.out; have h3 := HXS.out; simp; omega) ?_; intro a8 c8 w8 ho8 hg8 hb8 _; have HO8 := Lib.hid ho8; have HB8 : Hid (Below (w.heap.size + 1) w5 w8) := Lib.hid ((((Below.refl _ _).alloc (by have h1 := HB5.out.size; have h2 := HWB.out; have h3 := HXS.out; omega) _).drew).trans hb8); have HO78 : Hid (OwnV wb.heap.size 9 1 w8 a7 n2 c7 ((M.drop p).map encStr)) := Lib.hid (((HO7.out.alloc _).drew).other hg8 (own_ne HO7.out HG.out.2 HWB.out)); have HTB8 : Hid (w8.heap[wa.heap.size]? = some (.cells #[.int .i64 K, .int .i64 F, .int .i64 U, .string S, .int .i64 E] 38 (0, 0))) := Lib.hid (row_keep (((HO5.out.cut (m := p) (by omega)).alloc _).drew) hg8 (((((Below.refl w5.heap.size w5).alloc (Nat.le_refl _) _).drew).block _ (by have h1 := HB5.out.size; have h2 := HWB.out; omega)).trans HTB5.out) (by decide)); have HT8 : Hid (w8.cell? ⟨wa.heap.size, 3, none⟩ = some (.string S)) := Lib.hid (by rw [cell_of_row w8 wa.heap.size 3 _ _ _ HTB8.out]; rfl); clear ho8 hg8 hb8)
                      | (refine step_appv rfl (.tmp 73) (.tmp 74) 27 rfl 9 (w.heap.size + 1) 1 16 _ Tryd.underlying27 str_info rfl (by omega) _ _ _ _ rfl HO8.out _ _ _ ((M.drop p).map encStr) rfl HO78.out.vs (enc_one _) (by unfold maxLen; omega) (by omega) (by have h0 := HB8.out.size; have h1 := HB5.out.size; have h2 := HWB.out; have h3 := HXS.out; omega) ?_; intro a9 c9 w9 ho9 hg9 hb9 _; have HO9 := Lib.hid ho9; have HB9 : Hid (Below (w.heap.size + 1) w5 w9) := Lib.hid (HB8.out.trans hb9); have HT9 : Hid (w9.cell? ⟨wa.heap.size, 3, none⟩ = some (.string S)) := Lib.hid (by rw [cell_of_row w9 wa.heap.size 3 _ _ _ (row_keep HO8.out hg9 HTB8.out (by decide))]; rfl); clear ho9 hg9 hb9))
                  clear hS
                  obtain ⟨g9, cur9, rfl, _, _, _, _, _⟩ := HO9.out.form (HO9.out.some (by omega))
                  have HO9' : Hid (OwnV (w.heap.size + 1) 9 1 w9 (some ⟨g9, 0, none⟩) (p + 1 + n2) c9 ((M.take p ++ S.toList :: M.drop p).map encStr)) := Lib.hid (by
                    have := HO9.out
                    rw [Nat.mul_one, ← List.map_take, ← enc_str S, ← List.map_singleton, ← List.map_append, ← List.map_append, List.append_assoc] at this
                    exact this)
                  have HX9 : Hid (w9.cell? ⟨w.heap.size, 3, none⟩ = some (.slice (some ⟨b, off, none⟩) len cap)) := Lib.hid ((HB9.out.cell (by show w.heap.size < w.heap.size + 1; omega)).trans HX5.out)
                  have hxs9 : w.heap.size < w9.heap.size := by have h0 := HB9.out.size; have h1 := HB5.out.size; have h2 := HWB.out; have h3 := HXS.out; omega
                  have HBW9 : Hid (Below w.heap.size w w9) := Lib.hid (HBW5.out.trans (HB9.out.mono (by omega)))
                  go_wp2
                  go_roundw
                  case rel => exact ⟨g9, p + 1 + n2, c9, k + 1, _, rfl, by go_num, by omega, g1, HE, HO9', HX9, hxs9, HBW9⟩
                  case measure => simp [intOf]; omega

            · have hd1 : decide ((p : Int) < (n : Int)) = false := by simp; omega
              have hq1 : ((p : Int) == (n : Int)) = true := by simp; omega
              have HE : Hid (insA (nms (L.take (k + 1))) = M.take p ++ S.toList :: M.drop p) := Lib.hid (by
                rw [HS1.out, insA_snoc, HM.out, ins_at M S.toList p (by rw [HML.out]; exact hp) HP.out (fun hh => by rw [HML.out] at hh; omega), if_neg (fun hh => by have h2 := hh.1; rw [HML.out] at h2; omega)])
              go_wp2
              go_quiet (fail)
              go_wp2
              go_quiet (fail)
              have hfrom : ∀ w, (Instr.slice 27 (.slice (some ⟨g, 0, none⟩) n c) (some (.int .i64 p)) none none).run Tryd.prog w = .ok (.slice (some ⟨g, if c = p then 0 else 0 + p * 1, none⟩) (n - p) (c - p)) w := fun w => run_l (n := n) (l := p) elem_strs Tryd.underlying27 str_info (by omega) w
              have hto : ∀ w, (Instr.slice 27 (.slice (some ⟨g, 0, none⟩) n c) none (some (.int .i64 p)) none).run Tryd.prog w = .ok (.slice (some ⟨g, 0, none⟩) p c) w := fun w => run_h (n := n) (h := p) elem_strs Tryd.underlying27 str_info (by omega) w
              have hf := (HOW.out.keep HBw.out (Nat.le_refl _)).vs.from (l := p) (by omega)
              rw [Nat.mul_one, ← List.map_drop] at hf
              rw [Nat.mul_one] at hfrom
              obtain ⟨o2, ho2⟩ : ∃ o2, o2 = if c = p then 0 else 0 + p := ⟨_, rfl⟩
              obtain ⟨n2, hn2⟩ : ∃ n2, n2 = n - p := ⟨_, rfl⟩
              obtain ⟨c2', hc2⟩ : ∃ c2, c2 = c - p := ⟨_, rfl⟩
              rw [← ho2, ← hn2, ← hc2] at hfrom hf
              have HF := Lib.hid hf
              have g1 : p + 1 + n2 ≤ k + 1 := by omega
              have g2 : n2 ≤ 1000000 := by omega
              have HBb : Hid (∀ q, Below wb.heap.size wb ((wb.drewN q).alloc (.cells #[] 9))) := Lib.hid fun q => (below_drewN (Below.refl _ _) q).alloc (by simp) _
              have HT3 := Lib.hid ht3
              have HWB : Hid (wa.heap.size < wb.heap.size) := Lib.hid (by have h1 := HBw.out.size; have h2 := HSZ.out; omega)
              clear ho2 hf hn2 hc2
              go_wp2_with (at_builtin; refine Hid.out ?_)
              refine Lib.hid ?_
              refine wpList_appv rfl (.tmp 62) (.tmp 65) 27 rfl 9 wb.heap.size 1 16 _ Tryd.underlying27 str_info rfl (by omega) _ _ _ [] rfl (OwnV.emptyAt (heap_alloc_new _ _) (by simp)) _ _ _ ((M.drop p).map encStr) rfl (HF.out.below (HBb.out _)) (enc_one _) (by unfold maxLen; omega) (by omega) (by simp) ?_
              intro a7 c7 w5 ho5 hg5 hb5 _
              rw [Nat.zero_add] at ho5 ⊢
              rw [List.nil_append] at ho5
              have HO7 := Lib.hid ho5
              have HB5 : Hid (Below wb.heap.size wb w5) := Lib.hid ((HBb.out _).trans hb5)
              have HO5 : Hid (OwnV (w.heap.size + 1) 9 1 w5 (some ⟨g, 0, none⟩) n c (M.map encStr)) := Lib.hid ((HOW.out.keep HBw.out (Nat.le_refl _)).keep HB5.out (Nat.le_refl _))
              have HX5 : Hid (w5.cell? ⟨w.heap.size, 3, none⟩ = some (.slice (some ⟨b, off, none⟩) len cap)) := Lib.hid ((HB5.out.cell (by have h2 := HWB.out; have h3 := HXS.out; show w.heap.size < _; omega)).trans ((HBw.out.cell (by have h2 := HSZ.out; have h3 := HXS.out; show w.heap.size < _; omega)).trans HXW.out))
              have HBW5 : Hid (Below w.heap.size w w5) := Lib.hid (HBW.out.trans ((HBw.out.mono HBW.out.size).trans (HB5.out.mono (Nat.le_trans HBW.out.size HBw.out.size))))
              have HTB5 : Hid (w5.heap[wa.heap.size]? = some (.cells #[.int .i64 K, .int .i64 F, .int .i64 U, .string S, .int .i64 E] 38 (0, 0))) := Lib.hid ((HB5.out.block _ HWB.out).trans ((HBw.out.block _ (by rw [HSZ.out]; omega)).trans HTW.out))
              have HT5 : Hid (w5.cell? ⟨wa.heap.size, 3, none⟩ = some (.string S)) := Lib.hid ((HB5.out.cell HWB.out).trans HT3.out)
              clear ho5 hg5 hb5
              go_wp2
              have hS : w5.cell? ⟨wa.heap.size, 3, none⟩ = some (.string S) := HT5.out
              go_region_held3 (fun w' => w'.cell? ⟨wa.heap.size, 3, none⟩ = some (.string S))
                (first
                  | go_keep
                  | exact HT8.out
                  | exact HT9.out)
                (first
                  | (refine step_appv rfl (.tmp 69) (.tmp 72) 27 rfl 9 (w.heap.size + 1) 1 16 _ Tryd.underlying27 str_info rfl (by omega) _ _ _ ((M.map encStr).take (p * 1)) rfl (((HO5.out.cut (by omega)).alloc _).drew) _ _ _ [.string S] rfl (Vs.lit (k := 1) (xs := [.string S]) _ _ rfl rfl rfl).drew (by simp; rfl) (by unfold maxLen; omega) (by omega) (by have h1 := HB5.out.size; have h2 := HWB.out; have h3 := HXS.out; simp; omega) ?_; intro a8 c8 w8 ho8 hg8 hb8 _; have HO8 := Lib.hid ho8; have HB8 : Hid (Below (w.heap.size + 1) w5 w8) := Lib.hid ((((Below.refl _ _).alloc (by have h1 := HB5.out.size; have h2 := HWB.out; have h3 := HXS.out; omega) _).drew).trans hb8); have HO78 : Hid (OwnV wb.heap.size 9 1 w8 a7 n2 c7 ((M.drop p).map encStr)) := Lib.hid (((HO7.out.alloc _).drew).other hg8 (own_ne HO7.out HG.out.2 HWB.out)); have HTB8 : Hid (w8.heap[wa.heap.size]? = some (.cells #[.int .i64 K, .int .i64 F, .int .i64 U, .string S, .int .i64 E] 38 (0, 0))) := Lib.hid (row_keep (((HO5.out.cut (m := p) (by omega)).alloc _).drew) hg8 (((((Below.refl w5.heap.size w5).alloc (Nat.le_refl _) _).drew).block _ (by have h1 := HB5.out.size; have h2 := HWB.out; omega)).trans HTB5.out) (by decide)); have HT8 : Hid (w8.cell? ⟨wa.heap.size, 3, none⟩ = some (.string S)) := Lib.hid (by rw [cell_of_row w8 wa.heap.size 3 _ _ _ HTB8.out]; rfl); clear ho8 hg8 hb8)
                  | (refine step_appv rfl (.tmp 73) (.tmp 74) 27 rfl 9 (w.heap.size + 1) 1 16 _ Tryd.underlying27 str_info rfl (by omega) _ _ _ _ rfl HO8.out _ _ _ ((M.drop p).map encStr) rfl HO78.out.vs (enc_one _) (by unfold maxLen; omega) (by omega) (by have h0 := HB8.out.size; have h1 := HB5.out.size; have h2 := HWB.out; have h3 := HXS.out; omega) ?_; intro a9 c9 w9 ho9 hg9 hb9 _; have HO9 := Lib.hid ho9; have HB9 : Hid (Below (w.heap.size + 1) w5 w9) := Lib.hid (HB8.out.trans hb9); have HT9 : Hid (w9.cell? ⟨wa.heap.size, 3, none⟩ = some (.string S)) := Lib.hid (by rw [cell_of_row w9 wa.heap.size 3 _ _ _ (row_keep HO8.out hg9 HTB8.out (by decide))]; rfl); clear ho9 hg9 hb9))
              clear hS
              obtain ⟨g9, cur9, rfl, _, _, _, _, _⟩ := HO9.out.form (HO9.out.some (by omega))
              have HO9' : Hid (OwnV (w.heap.size + 1) 9 1 w9 (some ⟨g9, 0, none⟩) (p + 1 + n2) c9 ((M.take p ++ S.toList :: M.drop p).map encStr)) := Lib.hid (by
                have := HO9.out
                rw [Nat.mul_one, ← List.map_take, ← enc_str S, ← List.map_singleton, ← List.map_append, ← List.map_append, List.append_assoc] at this
                exact this)
              have HX9 : Hid (w9.cell? ⟨w.heap.size, 3, none⟩ = some (.slice (some ⟨b, off, none⟩) len cap)) := Lib.hid ((HB9.out.cell (by show w.heap.size < w.heap.size + 1; omega)).trans HX5.out)
              have hxs9 : w.heap.size < w9.heap.size := by have h0 := HB9.out.size; have h1 := HB5.out.size; have h2 := HWB.out; have h3 := HXS.out; omega
              have HBW9 : Hid (Below w.heap.size w w9) := Lib.hid (HBW5.out.trans (HB9.out.mono (by omega)))
              go_wp2
              go_roundw
              case rel => exact ⟨g9, p + 1 + n2, c9, k + 1, _, rfl, by go_num, by omega, g1, HE, HO9', HX9, hxs9, HBW9⟩
              case measure => simp [intOf]; omega
        | false =>
          have h2' : (K != 2) = true := by unfold bne; rw [h2]; rfl
          cases h6 : K == 6 with
          | true =>
            have h6' : (K != 6) = false := by unfold bne; rw [h6]; rfl
            have HS1 : Hid (nms (L.take (k + 1)) = nms (L.take k) ++ [S.toList]) := Lib.hid (by rw [HS.out, show isN ⟨K, F, U, S, E⟩ = true by unfold isN; rw [h1, h2, h6]; rfl]; rfl)
            go_wp2
            go_loopw [6] (fun v wr => ∃ p : Nat, v = .int .i64 p ∧ p ≤ n ∧ Hid (∀ j, j < p → at_ M j < S.toList) ∧ Hid (Below W.heap.size W wr)) (fun v _ => n - (intOf v).toNat)
            case atStart => exact ⟨0, rfl, by omega, Lib.hid (fun j hj => by omega), Lib.hid (by rw [HWW.out]; exact Below.refl _ _)⟩
            case round =>
              obtain ⟨p, rfl, hp, HP, HBw⟩ := hrel
              rename World => wb
              have ht3 : wb.cell? ⟨wa.heap.size, 3, none⟩ = some (.string S) := (HBw.out.cell (by rw [HSZ.out]; simp)).trans HSW.out
              have hp0 : (0 : Int) ≤ (p : Int) := Int.natCast_nonneg _
              by_cases hpn : p < n
              · obtain ⟨S', hS'⟩ := str_at M p
                have hcell := enc_at (HOW.out.keep HBw.out (Nat.le_refl _)) hpn hS'
                have HS' := Lib.hid hS'
                have hd1 : decide ((p : Int) < (n : Int)) = true := by simp; omega
                have hp1 : (p : Int) < (n : Int) := by omega
                clear hS'
                cases hl : Op.bytesLess S'.toList S.toList with
                | true =>
                  have HP' : Hid (∀ j, j < p + 1 → at_ M j < S.toList) := Lib.hid (fun j hj => by
                    by_cases hjp : j < p
                    · exact HP.out j hjp
                    · have : j = p := by omega
                      subst this
                      rw [bytesLess_eq] at hl
                      rw [← HS'.out]; simpa using hl)
                  go_wp2
                  go_quiet (fail)
                  go_wp2
                  go_roundw
                  case rel => exact ⟨p + 1, by go_num, by omega, HP', Lib.hid (below_drewN HBw.out _)⟩
                  case measure => simp [intOf]; omega
                | false =>
                  have hq1 : ((p : Int) == (n : Int)) = false := by simp; omega
                  cases he : S'.toList == S.toList with
                  | true =>
                    have HE : Hid (insA (nms (L.take (k + 1))) = M) := Lib.hid (by
                      rw [HS1.out, insA_snoc, HM.out, ins_at M S.toList p (by rw [HML.out]; exact hp) HP.out (fun _ => by rw [← HS'.out]; rw [bytesLess_eq] at hl; simpa using hl), if_pos ⟨by rw [HML.out]; exact hpn, by rw [← HS'.out]; simpa using he⟩])
                    go_wp2
                    go_quiet (fail)
                    go_wp2
                    go_quiet (fail)
                    go_wp2
                    go_roundw
                    case rel => exact ⟨_, n, _, k + 1, M, rfl, by go_num, by omega, by omega, HE, Lib.hid (HOW.out.keep (below_drewN HBw.out _) (Nat.le_refl _)), Lib.hid (((below_drewN HBw.out _).cell (by have h2 := HSZ.out; have h3 := HXS.out; show w.heap.size < _; omega)).trans HXW.out), by have h1 := HBw.out.size; have h2 := HSZ.out; have h3 := HXS.out; simp; omega, Lib.hid (HBW.out.trans ((below_drewN HBw.out _).mono (HBW.out.size)))⟩
                    case measure => simp [intOf]; omega
                  | false =>
                    have HE : Hid (insA (nms (L.take (k + 1))) = M.take p ++ S.toList :: M.drop p) := Lib.hid (by
                      rw [HS1.out, insA_snoc, HM.out, ins_at M S.toList p (by rw [HML.out]; exact hp) HP.out (fun _ => by rw [← HS'.out]; rw [bytesLess_eq] at hl; simpa using hl), if_neg (fun hh => by have h2 := hh.2; rw [← HS'.out] at h2; rw [h2] at he; simp at he)])
                    go_wp2
                    go_quiet (fail)
                    go_wp2
                    go_quiet (fail)
                    have hfrom : ∀ w, (Instr.slice 27 (.slice (some ⟨g, 0, none⟩) n c) (some (.int .i64 p)) none none).run Tryd.prog w = .ok (.slice (some ⟨g, if c = p then 0 else 0 + p * 1, none⟩) (n - p) (c - p)) w := fun w => run_l (n := n) (l := p) elem_strs Tryd.underlying27 str_info (by omega) w
                    have hto : ∀ w, (Instr.slice 27 (.slice (some ⟨g, 0, none⟩) n c) none (some (.int .i64 p)) none).run Tryd.prog w = .ok (.slice (some ⟨g, 0, none⟩) p c) w := fun w => run_h (n := n) (h := p) elem_strs Tryd.underlying27 str_info (by omega) w
                    have hf := (HOW.out.keep HBw.out (Nat.le_refl _)).vs.from (l := p) (by omega)
                    rw [Nat.mul_one, ← List.map_drop] at hf
                    rw [Nat.mul_one] at hfrom
                    obtain ⟨o2, ho2⟩ : ∃ o2, o2 = if c = p then 0 else 0 + p := ⟨_, rfl⟩
                    obtain ⟨n2, hn2⟩ : ∃ n2, n2 = n - p := ⟨_, rfl⟩
                    obtain ⟨c2', hc2⟩ : ∃ c2, c2 = c - p := ⟨_, rfl⟩
                    rw [← ho2, ← hn2, ← hc2] at hfrom hf
                    have HF := Lib.hid hf
                    have g1 : p + 1 + n2 ≤ k + 1 := by omega
                    have g2 : n2 ≤ 1000000 := by omega
                    have HBb : Hid (∀ q, Below wb.heap.size wb ((wb.drewN q).alloc (.cells #[] 9))) := Lib.hid fun q => (below_drewN (Below.refl _ _) q).alloc (by simp) _
                    have HT3 := Lib.hid ht3
                    have HWB : Hid (wa.heap.size < wb.heap.size) := Lib.hid (by have h1 := HBw.out.size; have h2 := HSZ.out; omega)
                    clear ho2 hf hn2 hc2
                    go_wp2_with (at_builtin; refine Hid.out ?_)
                    refine Lib.hid ?_
                    refine wpList_appv rfl (.tmp 62) (.tmp 65) 27 rfl 9 wb.heap.size 1 16 _ Tryd.underlying27 str_info rfl (by omega) _ _ _ [] rfl (OwnV.emptyAt (heap_alloc_new _ _) (by simp)) _ _ _ ((M.drop p).map encStr) rfl (HF.out.below (HBb.out _)) (enc_one _) (by unfold maxLen; omega) (by omega) (by simp) ?_
                    intro a7 c7 w5 ho5 hg5 hb5 _
                    rw [Nat.zero_add] at ho5 ⊢
                    rw [List.nil_append] at ho5
                    have HO7 := Lib.hid ho5
                    have HB5 : Hid (Below wb.heap.size wb w5) := Lib.hid ((HBb.out _).trans hb5)
                    have HO5 : Hid (OwnV (w.heap.size + 1) 9 1 w5 (some ⟨g, 0, none⟩) n c (M.map encStr)) := Lib.hid ((HOW.out.keep HBw.out (Nat.le_refl _)).keep HB5.out (Nat.le_refl _))
                    have HX5 : Hid (w5.cell? ⟨w.heap.size, 3, none⟩ = some (.slice (some ⟨b, off, none⟩) len cap)) := Lib.hid ((HB5.out.cell (by have h2 := HWB.out; have h3 := HXS.out; show w.heap.size < _; omega)).trans ((HBw.out.cell (by have h2 := HSZ.out; have h3 := HXS.out; show w.heap.size < _; omega)).trans HXW.out))
                    have HBW5 : Hid (Below w.heap.size w w5) := Lib.hid (HBW.out.trans ((HBw.out.mono HBW.out.size).trans (HB5.out.mono (Nat.le_trans HBW.out.size HBw.out.size))))
                    have HTB5 : Hid (w5.heap[wa.heap.size]? = some (.cells #[.int .i64 K, .int .i64 F, .int .i64 U, .string S, .int .i64 E] 38 (0, 0))) := Lib.hid ((HB5.out.block _ HWB.out).trans ((HBw.out.block _ (by rw [HSZ.out]; omega)).trans HTW.out))
                    have HT5 : Hid (w5.cell? ⟨wa.heap.size, 3, none⟩ = some (.string S)) := Lib.hid ((HB5.out.cell HWB.out).trans HT3.out)
                    clear ho5 hg5 hb5
                    go_wp2
                    have hS : w5.cell? ⟨wa.heap.size, 3, none⟩ = some (.string S) := HT5.out
                    go_region_held3 (fun w' => w'.cell? ⟨wa.heap.size, 3, none⟩ = some (.string S))
                      (first
                        | go_keep
                        | exact HT8.out
                        | exact HT9.out)
                      (first
                        | (refine step_appv rfl (.tmp 69) (.tmp 72) 27 rfl 9 (w.heap.size + 1) 1 16 _ Tryd.underlying27 str_info rfl (by omega) _ _ _ ((M.map encStr).take (p * 1)) rfl (((HO5.out.cut (by omega)).alloc _).drew) _ _ _ [.string S] rfl (Vs.lit (k := 1) (xs := [.string S]) _ _ rfl rfl rfl).drew (by simp; rfl) (by unfold maxLen; omega) (by omega) (by have h1 := HB5.out.size; have h2 := HWB.out; have h3 := HXS.out; simp; omega) ?_; intro a8 c8 w8 ho8 hg8 hb8 _; have HO8 := Lib.hid ho8; have HB8 : Hid (Below (w.heap.size + 1) w5 w8) := Lib.hid ((((Below.refl _ _).alloc (by have h1 := HB5.out.size; have h2 := HWB.out; have h3 := HXS.out; omega) _).drew).trans hb8); have HO78 : Hid (OwnV wb.heap.size 9 1 w8 a7 n2 c7 ((M.drop p).map encStr)) := Lib.hid (((HO7.out.alloc _).drew).other hg8 (own_ne HO7.out HG.out.2 HWB.out)); have HTB8 : Hid (w8.heap[wa.heap.size]? = some (.cells #[.int .i64 K, .int .i64 F, .int .i64 U, .string S, .int .i64 E] 38 (0, 0))) := Lib.hid (row_keep (((HO5.out.cut (m := p) (by omega)).alloc _).drew) hg8 (((((Below.refl w5.heap.size w5).alloc (Nat.le_refl _) _).drew).block _ (by have h1 := HB5.out.size; have h2 := HWB.out; omega)).trans HTB5.out) (by decide)); have HT8 : Hid (w8.cell? ⟨wa.heap.size, 3, none⟩ = some (.string S)) := Lib.hid (by rw [cell_of_row w8 wa.heap.size 3 _ _ _ HTB8.out]; rfl); clear ho8 hg8 hb8)
                        | (refine step_appv rfl (.tmp 73) (.tmp 74) 27 rfl 9 (w.heap.size + 1) 1 16 _ Tryd.underlying27 str_info rfl (by omega) _ _ _ _ rfl HO8.out _ _ _ ((M.drop p).map encStr) rfl HO78.out.vs (enc_one _) (by unfold maxLen; omega) (by omega) (by have h0 := HB8.out.size; have h1 := HB5.out.size; have h2 := HWB.out; have h3 := HXS.out; omega) ?_; intro a9 c9 w9 ho9 hg9 hb9 _; have HO9 := Lib.hid ho9; have HB9 : Hid (Below (w.heap.size + 1) w5 w9) := Lib.hid (HB8.out.trans hb9); have HT9 : Hid (w9.cell? ⟨wa.heap.size, 3, none⟩ = some (.string S)) := Lib.hid (by rw [cell_of_row w9 wa.heap.size 3 _ _ _ (row_keep HO8.out hg9 HTB8.out (by decide))]; rfl); clear ho9 hg9 hb9))
                    clear hS
                    obtain ⟨g9, cur9, rfl, _, _, _, _, _⟩ := HO9.out.form (HO9.out.some (by omega))
                    have HO9' : Hid (OwnV (w.heap.size + 1) 9 1 w9 (some ⟨g9, 0, none⟩) (p + 1 + n2) c9 ((M.take p ++ S.toList :: M.drop p).map encStr)) := Lib.hid (by
                      have := HO9.out
                      rw [Nat.mul_one, ← List.map_take, ← enc_str S, ← List.map_singleton, ← List.map_append, ← List.map_append, List.append_assoc] at this
                      exact this)
                    have HX9 : Hid (w9.cell? ⟨w.heap.size, 3, none⟩ = some (.slice (some ⟨b, off, none⟩) len cap)) := Lib.hid ((HB9.out.cell (by show w.heap.size < w.heap.size + 1; omega)).trans HX5.out)
                    have hxs9 : w.heap.size < w9.heap.size := by have h0 := HB9.out.size; have h1 := HB5.out.size; have h2 := HWB.out; have h3 := HXS.out; omega
                    have HBW9 : Hid (Below w.heap.size w w9) := Lib.hid (HBW5.out.trans (HB9.out.mono (by omega)))
                    go_wp2
                    go_roundw
                    case rel => exact ⟨g9, p + 1 + n2, c9, k + 1, _, rfl, by go_num, by omega, g1, HE, HO9', HX9, hxs9, HBW9⟩
                    case measure => simp [intOf]; omega

              · have hd1 : decide ((p : Int) < (n : Int)) = false := by simp; omega
                have hq1 : ((p : Int) == (n : Int)) = true := by simp; omega
                have HE : Hid (insA (nms (L.take (k + 1))) = M.take p ++ S.toList :: M.drop p) := Lib.hid (by
                  rw [HS1.out, insA_snoc, HM.out, ins_at M S.toList p (by rw [HML.out]; exact hp) HP.out (fun hh => by rw [HML.out] at hh; omega), if_neg (fun hh => by have h2 := hh.1; rw [HML.out] at h2; omega)])
                go_wp2
                go_quiet (fail)
                go_wp2
                go_quiet (fail)
                have hfrom : ∀ w, (Instr.slice 27 (.slice (some ⟨g, 0, none⟩) n c) (some (.int .i64 p)) none none).run Tryd.prog w = .ok (.slice (some ⟨g, if c = p then 0 else 0 + p * 1, none⟩) (n - p) (c - p)) w := fun w => run_l (n := n) (l := p) elem_strs Tryd.underlying27 str_info (by omega) w
                have hto : ∀ w, (Instr.slice 27 (.slice (some ⟨g, 0, none⟩) n c) none (some (.int .i64 p)) none).run Tryd.prog w = .ok (.slice (some ⟨g, 0, none⟩) p c) w := fun w => run_h (n := n) (h := p) elem_strs Tryd.underlying27 str_info (by omega) w
                have hf := (HOW.out.keep HBw.out (Nat.le_refl _)).vs.from (l := p) (by omega)
                rw [Nat.mul_one, ← List.map_drop] at hf
                rw [Nat.mul_one] at hfrom
                obtain ⟨o2, ho2⟩ : ∃ o2, o2 = if c = p then 0 else 0 + p := ⟨_, rfl⟩
                obtain ⟨n2, hn2⟩ : ∃ n2, n2 = n - p := ⟨_, rfl⟩
                obtain ⟨c2', hc2⟩ : ∃ c2, c2 = c - p := ⟨_, rfl⟩
                rw [← ho2, ← hn2, ← hc2] at hfrom hf
                have HF := Lib.hid hf
                have g1 : p + 1 + n2 ≤ k + 1 := by omega
                have g2 : n2 ≤ 1000000 := by omega
                have HBb : Hid (∀ q, Below wb.heap.size wb ((wb.drewN q).alloc (.cells #[] 9))) := Lib.hid fun q => (below_drewN (Below.refl _ _) q).alloc (by simp) _
                have HT3 := Lib.hid ht3
                have HWB : Hid (wa.heap.size < wb.heap.size) := Lib.hid (by have h1 := HBw.out.size; have h2 := HSZ.out; omega)
                clear ho2 hf hn2 hc2
                go_wp2_with (at_builtin; refine Hid.out ?_)
                refine Lib.hid ?_
                refine wpList_appv rfl (.tmp 62) (.tmp 65) 27 rfl 9 wb.heap.size 1 16 _ Tryd.underlying27 str_info rfl (by omega) _ _ _ [] rfl (OwnV.emptyAt (heap_alloc_new _ _) (by simp)) _ _ _ ((M.drop p).map encStr) rfl (HF.out.below (HBb.out _)) (enc_one _) (by unfold maxLen; omega) (by omega) (by simp) ?_
                intro a7 c7 w5 ho5 hg5 hb5 _
                rw [Nat.zero_add] at ho5 ⊢
                rw [List.nil_append] at ho5
                have HO7 := Lib.hid ho5
                have HB5 : Hid (Below wb.heap.size wb w5) := Lib.hid ((HBb.out _).trans hb5)
                have HO5 : Hid (OwnV (w.heap.size + 1) 9 1 w5 (some ⟨g, 0, none⟩) n c (M.map encStr)) := Lib.hid ((HOW.out.keep HBw.out (Nat.le_refl _)).keep HB5.out (Nat.le_refl _))
                have HX5 : Hid (w5.cell? ⟨w.heap.size, 3, none⟩ = some (.slice (some ⟨b, off, none⟩) len cap)) := Lib.hid ((HB5.out.cell (by have h2 := HWB.out; have h3 := HXS.out; show w.heap.size < _; omega)).trans ((HBw.out.cell (by have h2 := HSZ.out; have h3 := HXS.out; show w.heap.size < _; omega)).trans HXW.out))
                have HBW5 : Hid (Below w.heap.size w w5) := Lib.hid (HBW.out.trans ((HBw.out.mono HBW.out.size).trans (HB5.out.mono (Nat.le_trans HBW.out.size HBw.out.size))))
                have HTB5 : Hid (w5.heap[wa.heap.size]? = some (.cells #[.int .i64 K, .int .i64 F, .int .i64 U, .string S, .int .i64 E] 38 (0, 0))) := Lib.hid ((HB5.out.block _ HWB.out).trans ((HBw.out.block _ (by rw [HSZ.out]; omega)).trans HTW.out))
                have HT5 : Hid (w5.cell? ⟨wa.heap.size, 3, none⟩ = some (.string S)) := Lib.hid ((HB5.out.cell HWB.out).trans HT3.out)
                clear ho5 hg5 hb5
                go_wp2
                have hS : w5.cell? ⟨wa.heap.size, 3, none⟩ = some (.string S) := HT5.out
                go_region_held3 (fun w' => w'.cell? ⟨wa.heap.size, 3, none⟩ = some (.string S))
                  (first
                    | go_keep
                    | exact HT8.out
                    | exact HT9.out)
                  (first
                    | (refine step_appv rfl (.tmp 69) (.tmp 72) 27 rfl 9 (w.heap.size + 1) 1 16 _ Tryd.underlying27 str_info rfl (by omega) _ _ _ ((M.map encStr).take (p * 1)) rfl (((HO5.out.cut (by omega)).alloc _).drew) _ _ _ [.string S] rfl (Vs.lit (k := 1) (xs := [.string S]) _ _ rfl rfl rfl).drew (by simp; rfl) (by unfold maxLen; omega) (by omega) (by have h1 := HB5.out.size; have h2 := HWB.out; have h3 := HXS.out; simp; omega) ?_; intro a8 c8 w8 ho8 hg8 hb8 _; have HO8 := Lib.hid ho8; have HB8 : Hid (Below (w.heap.size + 1) w5 w8) := Lib.hid ((((Below.refl _ _).alloc (by have h1 := HB5.out.size; have h2 := HWB.out; have h3 := HXS.out; omega) _).drew).trans hb8); have HO78 : Hid (OwnV wb.heap.size 9 1 w8 a7 n2 c7 ((M.drop p).map encStr)) := Lib.hid (((HO7.out.alloc _).drew).other hg8 (own_ne HO7.out HG.out.2 HWB.out)); have HTB8 : Hid (w8.heap[wa.heap.size]? = some (.cells #[.int .i64 K, .int .i64 F, .int .i64 U, .string S, .int .i64 E] 38 (0, 0))) := Lib.hid (row_keep (((HO5.out.cut (m := p) (by omega)).alloc _).drew) hg8 (((((Below.refl w5.heap.size w5).alloc (Nat.le_refl _) _).drew).block _ (by have h1 := HB5.out.size; have h2 := HWB.out; omega)).trans HTB5.out) (by decide)); have HT8 : Hid (w8.cell? ⟨wa.heap.size, 3, none⟩ = some (.string S)) := Lib.hid (by rw [cell_of_row w8 wa.heap.size 3 _ _ _ HTB8.out]; rfl); clear ho8 hg8 hb8)
                    | (refine step_appv rfl (.tmp 73) (.tmp 74) 27 rfl 9 (w.heap.size + 1) 1 16 _ Tryd.underlying27 str_info rfl (by omega) _ _ _ _ rfl HO8.out _ _ _ ((M.drop p).map encStr) rfl HO78.out.vs (enc_one _) (by unfold maxLen; omega) (by omega) (by have h0 := HB8.out.size; have h1 := HB5.out.size; have h2 := HWB.out; have h3 := HXS.out; omega) ?_; intro a9 c9 w9 ho9 hg9 hb9 _; have HO9 := Lib.hid ho9; have HB9 : Hid (Below (w.heap.size + 1) w5 w9) := Lib.hid (HB8.out.trans hb9); have HT9 : Hid (w9.cell? ⟨wa.heap.size, 3, none⟩ = some (.string S)) := Lib.hid (by rw [cell_of_row w9 wa.heap.size 3 _ _ _ (row_keep HO8.out hg9 HTB8.out (by decide))]; rfl); clear ho9 hg9 hb9))
                clear hS
                obtain ⟨g9, cur9, rfl, _, _, _, _, _⟩ := HO9.out.form (HO9.out.some (by omega))
                have HO9' : Hid (OwnV (w.heap.size + 1) 9 1 w9 (some ⟨g9, 0, none⟩) (p + 1 + n2) c9 ((M.take p ++ S.toList :: M.drop p).map encStr)) := Lib.hid (by
                  have := HO9.out
                  rw [Nat.mul_one, ← List.map_take, ← enc_str S, ← List.map_singleton, ← List.map_append, ← List.map_append, List.append_assoc] at this
                  exact this)
                have HX9 : Hid (w9.cell? ⟨w.heap.size, 3, none⟩ = some (.slice (some ⟨b, off, none⟩) len cap)) := Lib.hid ((HB9.out.cell (by show w.heap.size < w.heap.size + 1; omega)).trans HX5.out)
                have hxs9 : w.heap.size < w9.heap.size := by have h0 := HB9.out.size; have h1 := HB5.out.size; have h2 := HWB.out; have h3 := HXS.out; omega
                have HBW9 : Hid (Below w.heap.size w w9) := Lib.hid (HBW5.out.trans (HB9.out.mono (by omega)))
                go_wp2
                go_roundw
                case rel => exact ⟨g9, p + 1 + n2, c9, k + 1, _, rfl, by go_num, by omega, g1, HE, HO9', HX9, hxs9, HBW9⟩
                case measure => simp [intOf]; omega
          | false =>
            have h6' : (K != 6) = true := by unfold bne; rw [h6]; rfl
            have HE : Hid (insA (nms (L.take (k + 1))) = M) := Lib.hid (by
              rw [HS.out, show isN ⟨K, F, U, S, E⟩ = false by unfold isN; simp only [h1, h2, h6, Bool.or_self]]; simpa using HM.out)
            go_wp2
            rw [HWW.out]
            go_roundw
            case rel => exact ⟨_, n, _, k + 1, M, rfl, by go_num, by omega, by omega, HE, HOW, HXW, by rw [HSZ.out]; have h3 := HXS.out; omega, HBW⟩
            case measure => simp [intOf]; omega
    · have hkl : k = len := by omega
      have HE : Hid (M = nmR (nms L)) := Lib.hid (by rw [← HM.out, List.take_of_length_le (by rw [HL.out]; omega), insA_nmR])
      have hml : M.length = n := by have := HO.out.bounds.1; simpa using this
      have HML := Lib.hid hml
      clear hml
      go_wp2
      go_ret
      rw [← HE.out, HML.out]
      exact ⟨_, _, rfl, HO.out.vs, HB.out⟩

end Go.Proofs.YtimhcghjlknibaaDoor
