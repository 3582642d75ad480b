/- Texts laid one behind the other. -/
import Derived.Test.YtimhcghjlknibaaDoorMC
import Derived.Test.YtimhcghjlknibaaDoorMB
import Derived.Deep.RegionHeld3
import Derived.Deep.QuietTactic
import Derived.BigQuiet

/- Contracts of package split's smallest functions; slices.IndexFunc, slices.Clone at tokens; cut. -/
namespace Go.Proofs.YtimhcghjlknibaaDoor
open Go.RowKit

def isN (t : TK) : Bool := t.k == 1 || (t.k == 2 || t.k == 6)

def aggT (t : TK) : Value := .agg #[.int .i64 t.k, .int .i64 t.f, .int .i64 t.t, .string t.s, .int .i64 t.e]

set_option maxRecDepth 20000 in
theorem name1_any (t : TK) (w : World) :
    Calls Tryd.prog 23 #[.agg #[.int .i64 t.k, .int .i64 t.f, .int .i64 t.t, .string t.s, .int .i64 t.e]] w fun e w' => e = .returned (.bool (isN t)) ∧ Below w.heap.size w w' := by
  obtain ⟨k, f, t, s, e⟩ := t
  unfold isN
  simp only
  have HW : Hid (Below w.heap.size w (w.alloc (.cells #[.int .i64 k, .int .i64 f, .int .i64 t, .string s, .int .i64 e] 38))) := Lib.hid ((Below.refl _ _).alloc (Nat.le_refl _) _)
  cases h1 : k == 1 with
  | true =>
    go_enter Tryd.func23, Tryd.ntmps23
    go_wp2
    go_ret
    exact ⟨rfl, HW.out⟩
  | false =>
    cases h2 : k == 2 with
    | true =>
      go_enter Tryd.func23, Tryd.ntmps23
      go_wp2
      go_ret
      exact ⟨rfl, HW.out⟩
    | false =>
      cases h3 : k == 6 with
      | true =>
        go_enter Tryd.func23, Tryd.ntmps23
        go_wp2
        go_ret
        exact ⟨rfl, HW.out⟩
      | false =>
        go_enter Tryd.func23, Tryd.ntmps23
        go_wp2
        go_ret
        exact ⟨rfl, HW.out⟩

set_option maxRecDepth 20000 in
theorem ends1_any (t : TK) (w : World) :
    Calls Tryd.prog 27 #[.agg #[.int .i64 t.k, .int .i64 t.f, .int .i64 t.t, .string t.s, .int .i64 t.e]] w fun e w' => e = .returned (.bool (t.k == 7)) ∧ Below w.heap.size w w' := by
  obtain ⟨k, f, t, s, e⟩ := t
  simp only
  have HW : Hid (Below w.heap.size w (w.alloc (.cells #[.int .i64 k, .int .i64 f, .int .i64 t, .string s, .int .i64 e] 38))) := Lib.hid ((Below.refl _ _).alloc (Nat.le_refl _) _)
  go_enter Tryd.func27, Tryd.ntmps27
  go_wp2
  go_ret
  exact ⟨rfl, HW.out⟩

set_option maxRecDepth 20000 in
theorem solo1_any (t : TK) (b : ByteArray) (w : World) :
    Calls Tryd.prog 29 #[.agg #[.int .i64 t.k, .int .i64 t.f, .int .i64 t.t, .string t.s, .int .i64 t.e], .string b] w fun e w' => e = .returned (.bool (t.k == 6 && t.s.toList == b.toList)) ∧ Below w.heap.size w w' := by
  obtain ⟨k, f, t, s, e⟩ := t
  simp only
  have HW : Hid (Below w.heap.size w (w.alloc (.cells #[.int .i64 k, .int .i64 f, .int .i64 t, .string s, .int .i64 e] 38))) := Lib.hid ((Below.refl _ _).alloc (Nat.le_refl _) _)
  cases h1 : k == 6 with
  | false =>
    go_enter Tryd.func29, Tryd.ntmps29
    go_wp2
    go_ret
    exact ⟨rfl, HW.out⟩
  | true =>
    cases h2 : s.toList == b.toList with
    | false =>
      go_enter Tryd.func29, Tryd.ntmps29
      go_wp2
      go_ret
      exact ⟨rfl, HW.out⟩
    | true =>
      go_enter Tryd.func29, Tryd.ntmps29
      go_wp2
      go_ret
      exact ⟨rfl, HW.out⟩

set_option maxRecDepth 20000 in
set_option maxHeartbeats 1000000 in
theorem index_any (a : Option Addr) (len cap : Nat) (L : List TK) (w : World) (h : Ts w a len cap L) :
    Calls Tryd.prog 34 #[.slice a len cap, .func (.func 27) #[] #[]] w fun e w' => (e = .returned (.int .i64 (-1)) ∧ hdN L = len ∨ ∃ k : Nat, e = .returned (.int .i64 k) ∧ k < len ∧ hdN L = k + 1) ∧ Below w.heap.size w w' := by
  have hcm := h.cm
  have hlc := h.lc
  unfold maxLen at hcm
  have H := Lib.hid h
  have HL := Lib.hid h.hl
  clear h
  go_enter Tryd.func34, Tryd.ntmps34
  go_wp2
  go_loopw [8] (fun i wr => ∃ k : Nat, i = .int .i64 k ∧ k ≤ len ∧ Hid (∀ j, j < k → (tat L j).k ≠ 7) ∧ Hid (Below w.heap.size w wr)) (fun i _ => len - (intOf i).toNat)
  case atStart => exact ⟨0, rfl, by omega, Lib.hid (fun j hj => by omega), Lib.hid (Below.refl _ _)⟩
  case round =>
    obtain ⟨k, rfl, hk, HM, HB⟩ := hrel
    by_cases hlt : k < len
    · have hb := H.out.below HB.out
      obtain ⟨b, off, rfl, _, _⟩ := hb.at_ (by omega)
      obtain ⟨c0, c1, c2, c3, c4⟩ := hb.at5 hlt
      obtain ⟨T, hT⟩ : ∃ T, T = tat L k := ⟨_, rfl⟩
      rw [← hT] at c0 c1 c2 c3 c4
      have HTU := Lib.hid hT
      clear hb hT
      go_wp2_with fail
      refine (ends1_any T _).mono ?_
      rintro e w1 ⟨rfl, hb1⟩
      have HW1 : Hid (Below w.heap.size w w1) := Lib.hid (HB.out.trans (hb1.mono HB.out.size))
      clear hb1
      cases hq : T.k == 7 with
      | true =>
        have HF : Hid (hdN L = k + 1) := Lib.hid (hdN_at (by rw [HL.out]; exact hlt) (by rw [← HTU.out]; simpa using hq) HM.out)
        clear hq
        go_wp2
        go_ret
        exact ⟨Or.inr ⟨k, rfl, hlt, HF.out⟩, HW1.out⟩
      | false =>
        have HF : Hid (∀ j, j < k + 1 → (tat L j).k ≠ 7) := Lib.hid (fun j hj => by
          by_cases hjk : j < k
          · exact HM.out j hjk
          · have : j = k := by omega
            subst this
            rw [← HTU.out]
            simpa using hq)
        clear hq
        go_wp2
        go_roundw
        case rel => exact ⟨k + 1, by go_num, by omega, HF, HW1⟩
        case measure => simp [intOf]; omega
    · have hkl : k = len := by omega
      have HF : Hid (hdN L = len) := Lib.hid (by rw [hdN_none (by rw [HL.out, ← hkl]; exact HM.out), HL.out])
      go_wp2
      go_ret
      exact ⟨Or.inl ⟨rfl, HF.out⟩, HB.out⟩

set_option maxRecDepth 20000 in
set_option maxHeartbeats 1000000 in
theorem clone_any (b off len cap : Nat) (L : List TK) (w : World) (h : Ts w (some ⟨b, off, none⟩) len cap L) (hsz : len ≤ 1000000) :
    Calls Tryd.prog 35 #[.slice (some ⟨b, off, none⟩) len cap] w fun e w' => ∃ a' c', e = .returned (.slice a' len c') ∧ RowT w.heap.size 38 w' a' len c' L ∧ Below w.heap.size w w' := by
  have hcm := h.cm
  have hlc := h.lc
  unfold maxLen at hcm
  have H := Lib.hid h
  have hnn : (binOp .eql 23 (.slice (some ⟨b, off, none⟩) len cap) (.slice none 0 0)).run Tryd.prog w = .ok (.bool false) w := by
    unfold binOp
    simp [run_equal_slice_nil w 23 38 (some ⟨b, off, none⟩) len cap Tryd.underlying23]
  clear h
  go_enter Tryd.func35, Tryd.ntmps35
  go_wp2_with (at_builtin; refine Hid.out ?_)
  refine Lib.hid ?_
  refine wpList_appT rfl (.tmp 5) (.tmp 6) rfl w.heap.size _ _ _ [] rfl (OwnT.emptyAt (heap_alloc_new w _) (Nat.le_refl _)) _ _ _ L rfl (H.out.alloc _) (by omega) (by simp) ?_
  intro a2 c2 w2 ho2 hg2 hb2
  rw [Nat.zero_add] at ho2 ⊢
  have HO2 := Lib.hid ho2
  have HB2 : Hid (Below w.heap.size w w2) := Lib.hid (((Below.refl _ _).alloc (Nat.le_refl _) _).trans hb2)
  clear ho2 hg2 hb2
  go_wp2
  go_ret
  exact ⟨_, _, rfl, HO2.out.row, HB2.out⟩

end Go.Proofs.YtimhcghjlknibaaDoor

/- Contract of package split's cut. -/
namespace Go.Proofs.YtimhcghjlknibaaDoor
open Go.RowKit

def slen : Value → Nat
  | .slice _ n _ => n
  | _ => 0

theorem RowT.mono {base base' : Nat} {e : TypeId} {w : World} {a : Option Addr} {len cap : Nat} {L : List TK} (h : RowT base e w a len cap L) (hb : base' ≤ base) : RowT base' e w a len cap L :=
  ⟨h.hl, h.lc, h.cm, fun h0 => by
    obtain ⟨g, cur, ha, hg0, hg, ht⟩ := h.own h0
    exact ⟨g, cur, ha, Nat.le_trans hb hg0, hg, ht⟩⟩
/-- A row of another type grew. -/
theorem RowT.past {base base' k : Nat} {e e' : TypeId} {w w' : World} {a a5 : Option Addr} {len cap n5 c5 : Nat} {L : List TK} {xs : List Value} (h : RowT base e w a len cap L) (ho : OwnV base' e' k w a5 n5 c5 xs) (he : e ≠ e')
    (hg : w.grownBy w' (Value.ownBlock (.slice a5 n5 c5))) : RowT base e w' a len cap L :=
  ⟨h.hl, h.lc, h.cm, fun h0 => by
    obtain ⟨g, cur, ha, hg0, hgg, ht⟩ := h.own h0
    refine ⟨g, cur, ha, hg0, ?_, ht⟩
    rw [hg.block g (Array.getElem?_eq_some_iff.1 hgg).1 ?_]
    · exact hgg
    · intro hh
      cases a5 with
      | none => simp [Value.ownBlock] at hh
      | some a5 =>
        obtain ⟨g', cur', ha', _, _, hgg', _, _⟩ := ho.form (by simp)
        simp only [Option.some.injEq] at ha'
        subst ha'
        simp only [Value.ownBlock, Option.some.injEq] at hh
        subst hh
        rw [hgg] at hgg'
        simp only [Option.some.injEq, Obj.cells.injEq] at hgg'
        exact he hgg'.2.1⟩
/-- A slice of tokens that lies in a row of the call's own. -/
def SV.own (base : Nat) (w : World) (s : SV) : Prop := RowT base 38 w s.a s.n s.c s.L

set_option maxRecDepth 100000 in
set_option maxHeartbeats 4000000 in
theorem cut_any (a : Option Addr) (len cap : Nat) (L : List TK) (w : World) (h : Ts w a len cap L) (hsz : len ≤ 1000000) :
    Calls Tryd.prog 26 #[.slice a len cap, .func (.func 27) #[] #[]] w fun e w' => ∃ a', ∃ n' c' : Nat, ∃ V : List SV, e = .returned (.slice a' n' c') ∧ Vs 1 w' a' n' c' (V.map SV.v) ∧ V.map SV.L = pcs L ∧ (∀ s ∈ V, s.own w.heap.size w') ∧ n' ≤ len ∧ Below w.heap.size w w' := by
  have H := Lib.hid h
  clear h
  go_enter Tryd.func26, Tryd.ntmps26
  go_wp2
  go_loopw [0, 5] (fun x v wr => ∃ a0, ∃ n0 c0 : Nat, ∃ a5, ∃ n5 c5 : Nat, x = .slice a0 n0 c0 ∧ v = .slice a5 n5 c5 ∧ n0 + n5 ≤ len ∧ (∃ R, ∃ D : List SV, Hid (Ts w a0 n0 c0 R) ∧ Hid (OwnV w.heap.size 23 1 wr a5 n5 c5 (D.map SV.v)) ∧ Hid (∀ s ∈ D, s.own w.heap.size wr) ∧ Hid (D.map SV.L ++ pcs R = pcs L)) ∧ Hid (Below w.heap.size w wr)) (fun x _ _ => slen x)
  case atStart => exact ⟨_, _, _, _, _, _, rfl, rfl, by omega, ⟨L, [], H, Lib.hid OwnV.none0, Lib.hid (by simp), Lib.hid rfl⟩, Lib.hid (Below.refl _ _)⟩
  case round =>
    obtain ⟨a0, n0, c0, a5, n5, c5, rfl, rfl, hn, ⟨R, D, HR, HO, HD, HE⟩, HB⟩ := hrel
    have hlc := HR.out.lc
    have hcm := HR.out.cm
    unfold maxLen at hcm
    have HL := Lib.hid HR.out.hl
    by_cases h0 : 0 < n0
    · obtain ⟨b, off, rfl, hbl, _⟩ := HR.out.at_ h0
      have HP := Lib.hid (pcs_cons (L := R) (by rw [HL.out]; exact h0))
      have h1 := hdN_pos (L := R) (by rw [HL.out]; exact h0)
      have h2 := hdN_le R
      rw [HL.out] at h2
      go_wp2_with fail
      refine (index_any _ _ _ R _ (HR.out.below HB.out)).mono ?_
      rintro e w1 ⟨hres, hb1⟩
      have HO1 := Lib.hid (HO.out.keep hb1 (Nat.le_refl _))
      have HD1 : Hid (∀ s ∈ D, s.own w.heap.size w1) := Lib.hid fun s hs => RowT.keep (HD.out s hs) hb1 (Nat.le_refl _)
      have HB1 : Hid (Below w.heap.size w w1) := Lib.hid (HB.out.trans (hb1.mono HB.out.size))
      clear hb1
      rcases hres with ⟨rfl, hN⟩ | ⟨k, rfl, hkl, hN⟩
      · have HN := Lib.hid hN
        rw [hN] at h1 h2
        clear hN
        have hto : ∀ w, (Instr.slice 23 (.slice (some ⟨b, off, none⟩) n0 c0) none (some (.int .i64 n0)) none).run Tryd.prog w = .ok (.slice (some ⟨b, off, none⟩) (n0) c0) w := fun w => run_h (n := n0) (h := n0) elem_toks Tryd.underlying23 tok_info (by omega) w
        have hfrom : ∀ w, (Instr.slice 23 (.slice (some ⟨b, off, none⟩) n0 c0) (some (.int .i64 n0)) none none).run Tryd.prog w = .ok (.slice (some ⟨b, if c0 = n0 then off else off + (n0) * 5, none⟩) (n0 - (n0)) (c0 - (n0))) w := fun w => run_l (n := n0) (l := n0) elem_toks Tryd.underlying23 tok_info (by omega) w
        have hf := HR.out.from (l := n0) (by omega)
        obtain ⟨o2, ho2⟩ : ∃ o2, o2 = if c0 = n0 then off else off + (n0) * 5 := ⟨_, rfl⟩
        obtain ⟨n2, hn2⟩ : ∃ n2, n2 = n0 - (n0) := ⟨_, rfl⟩
        obtain ⟨c2', hc2⟩ : ∃ c2, c2 = c0 - (n0) := ⟨_, rfl⟩
        rw [← ho2, ← hn2, ← hc2] at hfrom hf
        have HF := Lib.hid hf
        have g1 : n2 + (n5 + 1) ≤ len := by omega
        have g2 : n2 < n0 := by omega
        clear ho2 hf hn2 hc2
        go_wp2_with fail
        refine (clone_any b off (n0) c0 (R.take (n0)) _ ((HR.out.to (by omega)).below HB1.out) (by omega)).mono ?_
        rintro e w2 ⟨a2, c2, rfl, ht2, hb2⟩
        have HT2 : Hid (RowT w.heap.size 38 w2 a2 (n0) c2 (R.take (n0))) := Lib.hid (ht2.mono HB1.out.size)
        have HO2 := Lib.hid (HO1.out.keep hb2 (Nat.le_refl _))
        have HD2 : Hid (∀ s ∈ D, s.own w.heap.size w2) := Lib.hid fun s hs => RowT.keep (HD1.out s hs) hb2 (Nat.le_refl _)
        have HB2 : Hid (Below w.heap.size w w2) := Lib.hid (HB1.out.trans (hb2.mono HB1.out.size))
        clear hb2 ht2
        go_wp2_with (at_builtin; refine Hid.out ?_)
        refine Lib.hid ?_
        refine wpList_appv rfl (.tmp 18) (.tmp 23) 50 rfl 23 w.heap.size 1 24 _ Tryd.underlying50 toks_info rfl (by omega) _ _ _ (D.map SV.v) rfl (HO2.out.alloc _) _ _ _ [SV.v ⟨a2, n0, c2, R.take (n0)⟩] rfl (Vs.lit (k := 1) (xs := [SV.v ⟨a2, n0, c2, R.take (n0)⟩]) _ _ rfl rfl rfl) (by simp [SV.v]; rfl) (by unfold maxLen; omega) (by omega) (by have := HB2.out.size; simp; omega) ?_
        intro a3 c3 w3 ho3 hg3 hb3 _
        have HO3 : Hid (OwnV w.heap.size 23 1 w3 a3 (n5 + 1) c3 ((D ++ [(⟨a2, n0, c2, R.take (n0)⟩ : SV)]).map SV.v)) := Lib.hid (by rw [List.map_append]; exact ho3)
        have HD3 : Hid (∀ s ∈ D ++ [(⟨a2, n0, c2, R.take (n0)⟩ : SV)], SV.own w.heap.size w3 s) := Lib.hid fun s hs => by
          have key : ∀ t : SV, t.own w.heap.size w2 → t.own w.heap.size w3 := fun t ht =>
            RowT.past (RowT.keep ht ((Below.refl _ _).alloc (Nat.le_refl _) _) (Nat.le_refl _)) (HO2.out.alloc _) (by decide) hg3
          rcases List.mem_append.1 hs with hs | hs
          · exact key s (HD2.out s hs)
          · rw [List.mem_singleton.1 hs]; exact key _ HT2.out
        have HB3 : Hid (Below w.heap.size w w3) := Lib.hid ((HB2.out.alloc HB2.out.size _).trans hb3)
        have HE3 : Hid ((D ++ [(⟨a2, n0, c2, R.take (n0)⟩ : SV)]).map SV.L ++ pcs (R.drop (n0)) = pcs L) := Lib.hid (by
          rw [← HE.out, HP.out, HN.out, List.map_append, List.append_assoc]; rfl)
        clear ho3 hg3 hb3
        go_wp2
        go_roundw
        case rel => exact ⟨_, _, _, _, _, _, rfl, rfl, g1, ⟨_, _, HF, HO3, HD3, HE3⟩, HB3⟩
        case measure => simp [slen]; omega
      · have HN := Lib.hid hN
        rw [hN] at h1 h2
        clear hN
        have hto : ∀ w, (Instr.slice 23 (.slice (some ⟨b, off, none⟩) n0 c0) none (some (.int .i64 ((k : Int) + 1))) none).run Tryd.prog w = .ok (.slice (some ⟨b, off, none⟩) (k + 1) c0) w := fun w => run_h (n := n0) (h := k + 1) elem_toks Tryd.underlying23 tok_info (by omega) w
        have hfrom : ∀ w, (Instr.slice 23 (.slice (some ⟨b, off, none⟩) n0 c0) (some (.int .i64 ((k : Int) + 1))) none none).run Tryd.prog w = .ok (.slice (some ⟨b, if c0 = k + 1 then off else off + (k + 1) * 5, none⟩) (n0 - (k + 1)) (c0 - (k + 1))) w := fun w => run_l (n := n0) (l := k + 1) elem_toks Tryd.underlying23 tok_info (by omega) w
        have hf := HR.out.from (l := k + 1) (by omega)
        obtain ⟨o2, ho2⟩ : ∃ o2, o2 = if c0 = k + 1 then off else off + (k + 1) * 5 := ⟨_, rfl⟩
        obtain ⟨n2, hn2⟩ : ∃ n2, n2 = n0 - (k + 1) := ⟨_, rfl⟩
        obtain ⟨c2', hc2⟩ : ∃ c2, c2 = c0 - (k + 1) := ⟨_, rfl⟩
        rw [← ho2, ← hn2, ← hc2] at hfrom hf
        have HF := Lib.hid hf
        have g1 : n2 + (n5 + 1) ≤ len := by omega
        have g2 : n2 < n0 := by omega
        clear ho2 hf hn2 hc2
        go_wp2_with fail
        refine (clone_any b off (k + 1) c0 (R.take (k + 1)) _ ((HR.out.to (by omega)).below HB1.out) (by omega)).mono ?_
        rintro e w2 ⟨a2, c2, rfl, ht2, hb2⟩
        have HT2 : Hid (RowT w.heap.size 38 w2 a2 (k + 1) c2 (R.take (k + 1))) := Lib.hid (ht2.mono HB1.out.size)
        have HO2 := Lib.hid (HO1.out.keep hb2 (Nat.le_refl _))
        have HD2 : Hid (∀ s ∈ D, s.own w.heap.size w2) := Lib.hid fun s hs => RowT.keep (HD1.out s hs) hb2 (Nat.le_refl _)
        have HB2 : Hid (Below w.heap.size w w2) := Lib.hid (HB1.out.trans (hb2.mono HB1.out.size))
        clear hb2 ht2
        go_wp2_with (at_builtin; refine Hid.out ?_)
        refine Lib.hid ?_
        refine wpList_appv rfl (.tmp 18) (.tmp 23) 50 rfl 23 w.heap.size 1 24 _ Tryd.underlying50 toks_info rfl (by omega) _ _ _ (D.map SV.v) rfl (HO2.out.alloc _) _ _ _ [SV.v ⟨a2, k + 1, c2, R.take (k + 1)⟩] rfl (Vs.lit (k := 1) (xs := [SV.v ⟨a2, k + 1, c2, R.take (k + 1)⟩]) _ _ rfl rfl rfl) (by simp [SV.v]; rfl) (by unfold maxLen; omega) (by omega) (by have := HB2.out.size; simp; omega) ?_
        intro a3 c3 w3 ho3 hg3 hb3 _
        have HO3 : Hid (OwnV w.heap.size 23 1 w3 a3 (n5 + 1) c3 ((D ++ [(⟨a2, k + 1, c2, R.take (k + 1)⟩ : SV)]).map SV.v)) := Lib.hid (by rw [List.map_append]; exact ho3)
        have HD3 : Hid (∀ s ∈ D ++ [(⟨a2, k + 1, c2, R.take (k + 1)⟩ : SV)], SV.own w.heap.size w3 s) := Lib.hid fun s hs => by
          have key : ∀ t : SV, t.own w.heap.size w2 → t.own w.heap.size w3 := fun t ht =>
            RowT.past (RowT.keep ht ((Below.refl _ _).alloc (Nat.le_refl _) _) (Nat.le_refl _)) (HO2.out.alloc _) (by decide) hg3
          rcases List.mem_append.1 hs with hs | hs
          · exact key s (HD2.out s hs)
          · rw [List.mem_singleton.1 hs]; exact key _ HT2.out
        have HB3 : Hid (Below w.heap.size w w3) := Lib.hid ((HB2.out.alloc HB2.out.size _).trans hb3)
        have HE3 : Hid ((D ++ [(⟨a2, k + 1, c2, R.take (k + 1)⟩ : SV)]).map SV.L ++ pcs (R.drop (k + 1)) = pcs L) := Lib.hid (by
          rw [← HE.out, HP.out, HN.out, List.map_append, List.append_assoc]; rfl)
        clear ho3 hg3 hb3
        go_wp2
        go_roundw
        case rel => exact ⟨_, _, _, _, _, _, rfl, rfl, g1, ⟨_, _, HF, HO3, HD3, HE3⟩, HB3⟩
        case measure => simp [slen]; omega
    · have hz : n0 = 0 := by omega
      subst hz
      have HE' : Hid (D.map SV.L = pcs L) := Lib.hid (by rw [← HE.out, List.eq_nil_of_length_eq_zero HL.out, pcs_nil, List.append_nil])
      go_wp2
      go_ret
      exact ⟨_, _, _, D, rfl, HO.out.vs, HE'.out, HD.out, by omega, HB.out⟩

end Go.Proofs.YtimhcghjlknibaaDoor

/- Contract of package split's Pieces. -/
namespace Go.Proofs.YtimhcghjlknibaaDoor
open Go.RowKit

theorem take_flat_len {A B : List (List TK)} {k : Nat} {p : List TK} (h : A = B.take k) (hp : B[k]? = some p) : (B.take (k + 1)).flatten.length = A.flatten.length + p.length ∧ pk 0 (B.take (k + 1)) = pk 0 A ++ [pkOf A.flatten.length p] := by
  subst h
  rw [List.take_add_one, hp]
  refine ⟨by simp, ?_⟩
  have := pk_snoc (B.take k) p 0
  rw [Nat.zero_add] at this
  exact this

theorem toks_length {l : List Int} (hr : ∀ x ∈ l, 0 ≤ x ∧ x ≤ 255) : (toks l).length ≤ l.length := (toks_fl hr).2

set_option maxRecDepth 100000 in
set_option maxHeartbeats 4000000 in
theorem pieces_any (a : Option Addr) (len cap : Nat) (l : List Int) (w : World) (h : Bs w a len cap l) (ht : Tab w) (hsz : len ≤ 1000000) :
    Calls Tryd.prog 13 #[.slice a len cap] w fun e w' => ∃ a', ∃ n' c' : Nat, ∃ V : List PV, e = .returned (.slice a' n' c') ∧ Ps w' a' n' c' V ∧ V.map PV.k = pieces l ∧ Below w.heap.size w w' := by
  have H := Lib.hid h
  have HT := Lib.hid ht
  have hTL := toks_length h.rng
  rw [h.hl] at hTL
  obtain ⟨T, hT⟩ : ∃ T, T = toks l := ⟨_, rfl⟩
  rw [← hT] at hTL
  have HTT := Lib.hid hT
  clear h ht hT
  go_enter Tryd.func13, Tryd.ntmps13
  go_wp2_with fail
  refine (all_any _ _ _ l _ H.out HT.out hsz).mono ?_
  rw [← HTT.out]
  rintro e w1 ⟨a1, rfl, hr1, hb1⟩
  have HR1 := Lib.hid hr1
  have HB1 := Lib.hid hb1
  clear hr1 hb1
  go_wp2_with fail
  refine (cut_any _ _ _ T _ HR1.out.ts (by omega)).mono ?_
  rintro e w2 ⟨a9, n9, c9, V, rfl, hv2, hm2, ho2, hn9, hb2⟩
  have HB2 : Hid (Below w.heap.size w w2) := Lib.hid (HB1.out.trans (hb2.mono HB1.out.size))
  have HV2 := Lib.hid hv2
  have HM2 := Lib.hid hm2
  have HO2 : Hid (∀ s ∈ V, s.own w1.heap.size w2) := Lib.hid ho2
  have hVl : V.length = n9 := by have := hv2.hl; simpa using this
  have hlc9 := hv2.lc
  have hcm9 := hv2.cm
  unfold maxLen at hcm9
  have HVl := Lib.hid hVl
  have HPl : Hid ((pcs T).length = n9) := Lib.hid (by rw [← hm2, List.length_map, hVl])
  have HFl : Hid (∀ k, ((pcs T).take k).flatten.length ≤ T.length) := Lib.hid fun k => by
    have h1 := congrArg List.length (pcs_flat T)
    have h2 : ((pcs T).take k).flatten.length + ((pcs T).drop k).flatten.length = (pcs T).flatten.length := by
      rw [← List.length_append, ← List.flatten_append, List.take_append_drop]
    omega
  clear hv2 hm2 ho2 hb2 hVl
  go_wp2
  go_loopw [3, 4, 11] (fun v f i wr => ∃ a3, ∃ c3 k k4 : Nat, v = .slice a3 k c3 ∧ f = .int .i64 k4 ∧ i = .int .i64 k ∧ k ≤ n9 ∧ k4 ≤ len ∧ Hid (k4 = ((pcs T).take k).flatten.length) ∧ (∃ D : List PV, Hid (OwnV w2.heap.size 25 4 wr a3 k c3 (rowP D)) ∧ Hid (∀ p ∈ D, p.s.ok w2) ∧ Hid (D.map PV.k = pk 0 ((pcs T).take k))) ∧ Hid (Below w2.heap.size w2 wr)) (fun _ _ i _ => n9 - (intOf i).toNat)
  case atStart => exact ⟨_, _, 0, 0, rfl, rfl, rfl, by omega, by omega, Lib.hid (by simp), ⟨[], Lib.hid OwnV.none0, Lib.hid (by simp), Lib.hid (by simp [pk])⟩, Lib.hid (Below.refl _ _)⟩
  case round =>
    obtain ⟨a3, c3, k, k4, rfl, rfl, rfl, hk, hk4, HK, ⟨D, HO, HD, HE⟩, HB⟩ := hrel
    by_cases hlt : k < n9
    · have hsm := sat_mem (V := V) (j := k) (by rw [HVl.out]; exact hlt)
      obtain ⟨s, hs⟩ : ∃ s, s = sat V k := ⟨_, rfl⟩
      rw [← hs] at hsm
      have hso : s.own w1.heap.size w2 := HO2.out s hsm
      have hgs : V[k]? = some s := by
        rw [hs]; unfold sat
        rw [List.getD_eq_getElem?_getD, List.getElem?_eq_getElem (by rw [HVl.out]; exact hlt)]; rfl
      have hps : (pcs T)[k]? = some s.L := by rw [← HM2.out, List.getElem?_map, hgs]; rfl
      have hcl := pcs_cl T s.L (List.mem_of_getElem? hps)
      have hvr := HV2.out.below HB.out
      obtain ⟨b9, o9, rfl, hx1, hx2⟩ := hvr.at_ (by omega)
      clear hx1 hx2
      have hc9 := hvr.cells (by omega) (j := k) (by omega)
      rw [List.getElem?_map, hgs] at hc9
      obtain ⟨a8, n8, c8, L8⟩ := s
      simp only [SV.v, Option.map_some] at hc9
      have hso : RowT w1.heap.size 38 w2 a8 n8 c8 L8 := hso
      simp only at hps hcl
      have hl8 := hso.hl
      have hp8 := hcl.pos
      obtain ⟨m, rfl⟩ : ∃ m, n8 = m + 1 := ⟨n8 - 1, by omega⟩
      obtain ⟨g8, cur8, rfl, hg8, hh8, _⟩ := hso.own (by omega)
      have hh8 : g8 < w2.heap.size := (Array.getElem?_eq_some_iff.1 hh8).1
      have hlc8 := hso.lc
      have hcm8 := hso.cm
      unfold maxLen at hcm8
      obtain ⟨_, c1, _, _, _⟩ := hso.ts.at5 (k := 0) (by omega)
      obtain ⟨_, _, d2, _, _⟩ := hso.ts.at5 (k := m) (by omega)
      simp only [Nat.zero_mul, Nat.zero_add] at c1 d2
      obtain ⟨F, hF⟩ : ∃ F, F = (tat L8 0).f := ⟨_, rfl⟩
      obtain ⟨U, hU⟩ : ∃ U, U = (tat L8 m).t := ⟨_, rfl⟩
      rw [← hF] at c1
      rw [← hU] at d2
      have hfl := take_flat_len (A := (pcs T).take k) rfl hps
      rw [← HK.out] at hfl
      have hkk := HFl.out (k + 1)
      rw [hfl.1, hl8] at hkk
      have HPK : Hid (pkOf k4 L8 = ⟨F, U, k4, L8⟩) := Lib.hid (by unfold pkOf; rw [hF, hU, hl8, Nat.add_sub_cancel])
      have HFL := Lib.hid hfl
      have HL8 := Lib.hid hl8
      have HSO : Hid (Ts w2 (some ⟨g8, 0, none⟩) (m + 1) c8 L8) := Lib.hid hso.ts
      have HC1 := Lib.hid (And.intro c1 d2)
      have HH8 := Lib.hid hh8
      have hw1 : IntKind.i64.wrap (m : Int) = (m : Int) := IntWalk.i64_in _ (by omega)
      have hw2 : (0 : Int) ≤ (m : Int) := Int.natCast_nonneg _
      have hw3 : (m : Int) < (m : Int) + 1 := by omega
      clear hfl hF hU hps hcl hso hs hsm hvr hgs hl8 hp8 hg8 hh8 c1 d2
      go_wp2
      have hS : wr.cell? ⟨g8, 1, none⟩ = some (.int .i64 F) ∧ wr.cell? ⟨g8, m * 5 + 2, none⟩ = some (.int .i64 U) := ⟨(HB.out.cell HH8.out).trans HC1.out.1, (HB.out.cell HH8.out).trans HC1.out.2⟩
      go_region_held3 (fun w' => w'.cell? ⟨g8, 1, none⟩ = some (.int .i64 F) ∧ w'.cell? ⟨g8, m * 5 + 2, none⟩ = some (.int .i64 U))
        (first
          | go_keep
          | exact ⟨(HB4.out.cell HH8.out).trans HC1.out.1, (HB4.out.cell HH8.out).trans HC1.out.2⟩)
        (first
          | (refine step_appv rfl (.tmp 15) (.tmp 30) 31 rfl 25 w2.heap.size 4 48 _ Tryd.underlying31 piece_info rfl (by omega) _ _ _ (rowP D) rfl ((HO.out.alloc _).drew) _ _ _ (rowP [⟨F, U, k4, ⟨some ⟨g8, 0, none⟩, m + 1, c8, L8⟩⟩]) rfl (Vs.lit (k := 4) (xs := rowP [⟨F, U, k4, ⟨some ⟨g8, 0, none⟩, m + 1, c8, L8⟩⟩]) _ _ rfl rfl rfl).drew (rowP_one _) (by unfold maxLen; omega) (by omega) (by have := HB.out.size; simp; omega) ?_; intro a4 c4 w4 ho4 hg4 hb4 _; rw [← rowP_append] at ho4; have HO4 := Lib.hid ho4; have HB4 : Hid (Below w2.heap.size w2 w4) := Lib.hid ((HB.out.alloc HB.out.size _).drew.trans hb4); clear ho4 hg4 hb4))
      clear hS
      have HD4 : Hid (∀ p ∈ D ++ [(⟨F, U, k4, ⟨some ⟨g8, 0, none⟩, m + 1, c8, L8⟩⟩ : PV)], p.s.ok w2) := Lib.hid fun p hp => by
        rcases List.mem_append.1 hp with hp | hp
        · exact HD.out p hp
        · rw [List.mem_singleton.1 hp]; exact HSO.out
      have HE4 : Hid ((D ++ [(⟨F, U, k4, ⟨some ⟨g8, 0, none⟩, m + 1, c8, L8⟩⟩ : PV)]).map PV.k = pk 0 ((pcs T).take (k + 1))) := Lib.hid (by
        rw [HFL.out.2, ← HE.out, HPK.out, List.map_append]; rfl)
      have HK4 : Hid (k4 + (m + 1) = ((pcs T).take (k + 1)).flatten.length) := Lib.hid (by rw [HFL.out.1, HL8.out])
      have hsum : k4 + (m + 1) ≤ len := by omega
      go_wp2
      go_roundw
      case rel => exact ⟨_, _, k + 1, k4 + (m + 1), rfl, by go_num, by go_num, by omega, hsum, HK4, ⟨_, HO4, HD4, HE4⟩, HB4⟩
      case measure => simp [intOf]; omega
    · have hkl : k = n9 := by omega
      have HE' : Hid (D.map PV.k = pieces l) := Lib.hid (by rw [HE.out, List.take_of_length_le (by rw [HPl.out]; omega)]; unfold pieces; rw [← HTT.out])
      go_wp2
      go_ret
      exact ⟨_, _, _, D, rfl, ⟨HO.out.vs, fun p hp => Ts.below (HD.out p hp) HB.out⟩, HE'.out, HB2.out.trans (HB.out.mono HB2.out.size)⟩

end Go.Proofs.YtimhcghjlknibaaDoor

/- Contracts of Nest, the program's and the document's. -/
namespace Go.Proofs.YtimhcghjlknibaaDoor
open Go.RowKit

theorem lit40 : ({ data := #[40] } : ByteArray).toList = [40] := by decide +kernel
theorem lit41 : ({ data := #[41] } : ByteArray).toList = [41] := by decide +kernel

set_option maxRecDepth 100000 in
set_option maxHeartbeats 4000000 in
theorem nest_any (f t i : Int) (a : Option Addr) (len cap : Nat) (L : List TK) (w : World) (h : Ts w a len cap L) (hsz : len ≤ 1000000) :
    Calls Tryd.prog 16 #[.agg #[.int .i64 f, .int .i64 t, .int .i64 i, .slice a len cap]] w fun e w' => e = .returned (.int .i64 (nst 0 0 L : Nat)) ∧ Below w.heap.size w w' := by
  have hlc := h.lc
  have hcm := h.cm
  unfold maxLen at hcm
  have H := Lib.hid h
  have HL := Lib.hid h.hl
  clear h
  go_enter Tryd.func16, Tryd.ntmps16
  go_wp2
  go_loopw [3, 4, 10] (fun x y v wr => ∃ o m k : Nat, x = .int .i64 o ∧ y = .int .i64 m ∧ v = .int .i64 k ∧ k ≤ len ∧ o ≤ m ∧ m ≤ k ∧ Hid (nst o m (L.drop k) = nst 0 0 L) ∧ Hid (Below w.heap.size w wr)) (fun _ _ v _ => len - (intOf v).toNat)
  case atStart => exact ⟨0, 0, 0, rfl, rfl, rfl, by omega, by omega, by omega, Lib.hid rfl, Lib.hid ((Below.refl _ _).alloc (Nat.le_refl _) _)⟩
  case round =>
    obtain ⟨o, m, k, rfl, rfl, rfl, hk, hom, hmk, HM, HB⟩ := hrel
    by_cases hlt : k < len
    · have hb := H.out.below HB.out
      obtain ⟨b, off, rfl, _, _⟩ := hb.at_ (by omega)
      obtain ⟨c0, c1, c2, c3, c4⟩ := hb.at5 hlt
      have HS : Hid (L.drop k = tat L k :: L.drop (k + 1)) := Lib.hid (tat_drop (by rw [HL.out]; exact hlt))
      obtain ⟨T, hT⟩ : ∃ T, T = tat L k := ⟨_, rfl⟩
      rw [← hT] at c0 c1 c2 c3 c4
      have HN : Hid (nst o m (T :: L.drop (k + 1)) = nst 0 0 L) := Lib.hid (by rw [← HM.out, HS.out, hT])
      clear hb hT
      go_wp2_with fail
      refine (solo1_any T _ _).mono ?_
      rw [lit40]
      rintro e w1 ⟨rfl, hb1⟩
      have HB1 : Hid (Below w.heap.size w w1) := Lib.hid ((HB.out.alloc HB.out.size _).trans (hb1.mono (Nat.le_trans HB.out.size (by simp))))
      have e0 : w1.cell? ⟨wr.heap.size, 0, none⟩ = some (.int .i64 T.k) := (hb1.cell (by simp)).trans (by simp)
      have e1 : w1.cell? ⟨wr.heap.size, 1, none⟩ = some (.int .i64 T.f) := (hb1.cell (by simp)).trans (by simp)
      have e2 : w1.cell? ⟨wr.heap.size, 2, none⟩ = some (.int .i64 T.t) := (hb1.cell (by simp)).trans (by simp)
      have e3 : w1.cell? ⟨wr.heap.size, 3, none⟩ = some (.string T.s) := (hb1.cell (by simp)).trans (by simp)
      have e4 : w1.cell? ⟨wr.heap.size, 4, none⟩ = some (.int .i64 T.e) := (hb1.cell (by simp)).trans (by simp)
      clear hb1
      cases hq : (T.k == 6 && T.s.toList == [40]) with
      | true =>
        have HF : Hid (nst (o + 1) (max m (o + 1)) (L.drop (k + 1)) = nst 0 0 L) := Lib.hid (by rw [← HN.out, nst_open hq])
        clear hq
        go_wp2
        go_roundw
        case rel => exact ⟨o + 1, max m (o + 1), k + 1, by go_num, by go_num, by go_num, by omega, by omega, by omega, HF, HB1⟩
        case measure => simp [intOf]; omega
      | false =>
        have HQ := Lib.hid hq
        clear hq
        go_wp2_with fail
        refine (solo1_any T _ _).mono ?_
        rw [lit41]
        rintro e w2 ⟨rfl, hb2⟩
        have HB2 : Hid (Below w.heap.size w w2) := Lib.hid (HB1.out.trans (hb2.mono HB1.out.size))
        clear hb2
        cases hq2 : (T.k == 6 && T.s.toList == [41]) with
        | true =>
          by_cases ho : 0 < o
          · have HF : Hid (nst (o - 1) m (L.drop (k + 1)) = nst 0 0 L) := Lib.hid (by rw [← HN.out, nst_shut hq2 ho])
            clear hq2
            go_wp2
            go_roundw
            case rel => exact ⟨o - 1, m, k + 1, by go_num, rfl, by go_num, by omega, by omega, by omega, HF, HB2⟩
            case measure => simp [intOf]; omega
          · have HF : Hid (nst o m (L.drop (k + 1)) = nst 0 0 L) := Lib.hid (by rw [← HN.out, nst_else HQ.out (by rw [decide_eq_false ho, Bool.and_false])])
            have ho0 : o = 0 := by omega
            subst ho0
            clear hq2
            go_wp2
            go_roundw
            case rel => exact ⟨0, m, k + 1, rfl, rfl, by go_num, by omega, by omega, by omega, HF, HB2⟩
            case measure => simp [intOf]; omega
        | false =>
          have HF : Hid (nst o m (L.drop (k + 1)) = nst 0 0 L) := Lib.hid (by rw [← HN.out, nst_else HQ.out (by rw [show isC T = false from hq2, Bool.false_and])])
          clear hq2
          go_wp2
          go_roundw
          case rel => exact ⟨o, m, k + 1, rfl, rfl, by go_num, by omega, by omega, by omega, HF, HB2⟩
          case measure => simp [intOf]; omega
    · have hkl : k = len := by omega
      have HE : Hid (m = nst 0 0 L) := Lib.hid (by rw [← HM.out, List.drop_eq_nil_iff.2 (by rw [HL.out]; omega)]; rfl)
      go_wp2
      go_ret
      exact ⟨by rw [← HE.out]; rfl, HB.out⟩

set_option maxRecDepth 100000 in
set_option maxHeartbeats 4000000 in
theorem rnest_any (f t i : Int) (a : Option Addr) (len cap : Nat) (L : List TK) (w : World) (h : Ts w a len cap L) (hsz : len ≤ 1000000) :
    Calls Tryd.prog 17 #[.agg #[.int .i64 f, .int .i64 t, .int .i64 i, .slice a len cap]] w fun e w' => e = .returned (.int .i64 (nst 0 0 L : Nat)) ∧ Below w.heap.size w w' := by
  have hlc := h.lc
  have hcm := h.cm
  unfold maxLen at hcm
  have H := Lib.hid h
  have HL := Lib.hid h.hl
  clear h
  go_enter Tryd.func17, Tryd.ntmps17
  go_wp2
  go_loopw [3, 4, 5] (fun x y v wr => ∃ o m k : Nat, x = .int .i64 o ∧ y = .int .i64 m ∧ v = .int .i64 k ∧ k ≤ len ∧ o ≤ m ∧ m ≤ k ∧ Hid (nst o m (L.drop k) = nst 0 0 L) ∧ Hid (wr.cell? ⟨w.heap.size, 3, none⟩ = some (.slice a len cap)) ∧ w.heap.size < wr.heap.size ∧ Hid (Below w.heap.size w wr)) (fun _ _ v _ => len - (intOf v).toNat)
  case atStart => exact ⟨0, 0, 0, rfl, rfl, rfl, by omega, by omega, by omega, Lib.hid rfl, Lib.hid (by simp), by simp, Lib.hid ((Below.refl _ _).alloc (Nat.le_refl _) _)⟩
  case round =>
    obtain ⟨o, m, k, rfl, rfl, rfl, hk, hom, hmk, HM, HX, hxs, HB⟩ := hrel
    have hx := HX.out
    by_cases hlt : k < len
    · have hb := H.out.below HB.out
      obtain ⟨b, off, rfl, _, _⟩ := hb.at_ (by omega)
      obtain ⟨c0, c1, c2, c3, c4⟩ := hb.at5 hlt
      have HS : Hid (L.drop k = tat L k :: L.drop (k + 1)) := Lib.hid (tat_drop (by rw [HL.out]; exact hlt))
      obtain ⟨T, hT⟩ : ∃ T, T = tat L k := ⟨_, rfl⟩
      rw [← hT] at c0 c1 c2 c3 c4
      have HN : Hid (nst o m (T :: L.drop (k + 1)) = nst 0 0 L) := Lib.hid (by rw [← HM.out, HS.out, hT])
      clear hb hT
      obtain ⟨K, F, U, S, E⟩ := T
      simp only at c0 c1 c2 c3 c4
      have HB1 : Hid (Below w.heap.size w (wr.alloc (.cells #[.int .i64 K, .int .i64 F, .int .i64 U, .string S, .int .i64 E] 38))) := Lib.hid (HB.out.alloc HB.out.size _)
      have HX1 : Hid ((wr.alloc (.cells #[.int .i64 K, .int .i64 F, .int .i64 U, .string S, .int .i64 E] 38)).cell? ⟨w.heap.size, 3, none⟩ = some (.slice (some ⟨b, off, none⟩) len cap)) := Lib.hid ((((Below.refl _ _).alloc (Nat.le_refl _) _).cell hxs).trans HX.out)
      have hxs1 : w.heap.size < (wr.alloc (.cells #[.int .i64 K, .int .i64 F, .int .i64 U, .string S, .int .i64 E] 38)).heap.size := by simp; omega
      cases h6 : K == 6 with
      | false =>
        have HF : Hid (nst (o) (m) (L.drop (k + 1)) = nst 0 0 L) := Lib.hid (by rw [← HN.out, nst_else (show isO _ = false by unfold isO; rw [h6, Bool.false_and]) (by rw [show isC _ = false by unfold isC; rw [h6, Bool.false_and]]; rfl)])
        go_wp2
        go_roundw
        case rel => exact ⟨o, m, k + 1, by go_num, by go_num, by go_num, by omega, by omega, by omega, HF, HX1, hxs1, HB1⟩
        case measure => simp [intOf]; omega
      | true =>
        cases hO : S.toList == [40] with
        | true =>
          have hC : (S.toList == [41]) = false := by
            simp only [beq_iff_eq] at hO; rw [hO]; rfl
          have hC' : ¬ S.toList = [41] := by simpa using hC
          by_cases hmo : m < o + 1
          · have hmx : max m (o + 1) = o + 1 := by omega
            have HMX := Lib.hid hmx
            clear hmx
            have HF : Hid (nst (o + 1) (o + 1) (L.drop (k + 1)) = nst 0 0 L) := Lib.hid (by rw [← HN.out, nst_open (show isO _ = true by unfold isO; rw [h6, hO]; rfl), HMX.out])
            go_wp2
            go_roundw
            case rel => exact ⟨o + 1, o + 1, k + 1, by go_num, by go_num, by go_num, by omega, by omega, by omega, HF, HX1, hxs1, HB1⟩
            case measure => simp [intOf]; omega
          · have hmx : max m (o + 1) = m := by omega
            have HMX := Lib.hid hmx
            clear hmx
            have HF : Hid (nst (o + 1) (m) (L.drop (k + 1)) = nst 0 0 L) := Lib.hid (by rw [← HN.out, nst_open (show isO _ = true by unfold isO; rw [h6, hO]; rfl), HMX.out])
            go_wp2
            go_roundw
            case rel => exact ⟨o + 1, m, k + 1, by go_num, by go_num, by go_num, by omega, by omega, by omega, HF, HX1, hxs1, HB1⟩
            case measure => simp [intOf]; omega
        | false =>
          cases hC : S.toList == [41] with
          | true =>
            have hC' : S.toList = [41] := by simpa using hC
            by_cases ho : 0 < o
            · have ho' := ho
              have HF : Hid (nst (o - 1) (m) (L.drop (k + 1)) = nst 0 0 L) := Lib.hid (by rw [← HN.out, nst_shut (show isC _ = true by unfold isC; rw [h6, hC]; rfl) ho])
              go_wp2
              go_roundw
              case rel => exact ⟨o - 1, m, k + 1, by go_num, by go_num, by go_num, by omega, by omega, by omega, HF, HX1, hxs1, HB1⟩
              case measure => simp [intOf]; omega
            · have ho0 : o = 0 := by omega
              subst ho0
              have HF : Hid (nst (0) (m) (L.drop (k + 1)) = nst 0 0 L) := Lib.hid (by rw [← HN.out, nst_else (show isO _ = false by unfold isO; rw [h6, hO]; rfl) (by rw [decide_eq_false ho, Bool.and_false])])
              go_wp2
              go_roundw
              case rel => exact ⟨0, m, k + 1, by go_num, by go_num, by go_num, by omega, by omega, by omega, HF, HX1, hxs1, HB1⟩
              case measure => simp [intOf]; omega
          | false =>
            have hC' : ¬ S.toList = [41] := by simpa using hC
            have HF : Hid (nst (o) (m) (L.drop (k + 1)) = nst 0 0 L) := Lib.hid (by rw [← HN.out, nst_else (show isO _ = false by unfold isO; rw [h6, hO]; rfl) (by rw [show isC _ = false by unfold isC; rw [h6, hC]; rfl, Bool.false_and])])
            go_wp2
            go_roundw
            case rel => exact ⟨o, m, k + 1, by go_num, by go_num, by go_num, by omega, by omega, by omega, HF, HX1, hxs1, HB1⟩
            case measure => simp [intOf]; omega
    · have hkl : k = len := by omega
      have HE : Hid (m = nst 0 0 L) := Lib.hid (by rw [← HM.out, List.drop_eq_nil_iff.2 (by rw [HL.out]; omega)]; rfl)
      go_wp2
      go_ret
      exact ⟨by rw [← HE.out]; rfl, HB.out⟩

end Go.Proofs.YtimhcghjlknibaaDoor
