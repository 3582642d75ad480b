/- Texts laid one behind the other. -/
import Derived.Test.YtjkjbgekpkhpfaaGreatDoorMF
import Derived.Test.YtjkjbgekpkhpfaaGreatDoorMD
import Derived.BigQuiet
import Derived.Test.YtjkjbgekpkhpfaaGreatDoorMC

/- Contracts of strings.Index and strings.Contains at one underscore, and of package oper's Simple. -/
namespace Go.Proofs.YtjkjbgekpkhpfaaGreatDoor
open Go.RowKit

theorem sindex_any (p : Nm) (w : World) :
    Calls Tryz.prog 135 #[.string (mk p), .string ⟨#[95]⟩] w fun e w' => e = .returned (.int .i64 (Lib.indexByte p 95)) ∧ w = w' := by
  have HI : Hid (∀ w, Calls Tryz.prog 126 #[.string (mk p), .string ⟨#[95]⟩] w fun e w' => e = .returned (.int .i64 (Lib.indexByte p 95)) ∧ w = w') := Lib.hid fun w => index_any p w
  obtain ⟨z, hz⟩ : ∃ z, z = Lib.indexByte p 95 := ⟨_, rfl⟩
  rw [← hz] at HI ⊢
  clear hz
  go_enter Tryz.func135, Tryz.ntmps135
  go_wp2_with fail
  refine (HI.out w).mono ?_
  rintro e w' ⟨rfl, rfl⟩
  go_wp2
  go_ret
  exact ⟨rfl, rfl⟩

theorem ix_has (p : Nm) : decide (0 ≤ Lib.indexByte p 95) = p.contains 95 := by
  by_cases h : (95 : UInt8) ∈ p
  · rw [ix_yes p h, List.contains_iff_mem.2 h]
    exact decide_eq_true (Int.natCast_nonneg _)
  · rw [ix_no p h, show p.contains 95 = false from by simpa using h]
    rfl

theorem contains_any (p : Nm) (w : World) :
    Calls Tryz.prog 124 #[.string (mk p), .string ⟨#[95]⟩] w fun e w' => e = .returned (.bool (p.contains 95)) ∧ w = w' := by
  have HI : Hid (∀ w, Calls Tryz.prog 135 #[.string (mk p), .string ⟨#[95]⟩] w fun e w' => e = .returned (.int .i64 (Lib.indexByte p 95)) ∧ w = w') := Lib.hid fun w => sindex_any p w
  have hd := ix_has p
  obtain ⟨z, hz⟩ : ∃ z, z = Lib.indexByte p 95 := ⟨_, rfl⟩
  rw [← hz] at HI hd
  rw [← hd]
  clear hz hd
  go_enter Tryz.func124, Tryz.ntmps124
  go_wp2_with fail
  refine (HI.out w).mono ?_
  rintro e w' ⟨rfl, rfl⟩
  go_wp2
  go_ret
  exact ⟨by go_num, rfl⟩

/-! ### The table of kinds -/

/-- A row of the table. -/
def kRow (i : Nat) : List Value := [.string (mk (kd i).1), .string (mk (hol (kd i).2.1)), .string (mk (hol (kd i).2.2.1)), .int .i64 (kd i).2.2.2]
def kCells : List Value := ((List.range 7).map kRow).flatten
theorem kCells_eq : cellsFor Tryz.prog 3 168 (Rows.laid_tmesis_oper_kinds (H := Unit)) = some kCells := by kernel_rfl
theorem kg0 : Tryz.prog.globalNamed "tmesis/oper.kinds" = some 2 := by kernel_rfl
theorem kgt0 : (Tryz.prog.globals[2]?).map (·.type) = some 168 := by kernel_rfl
/-- The table of kinds is in its place. -/
def TabK (w : World) : Prop := ∃ t fr, w.heap[2]? = some (.cells kCells.toArray t fr)
theorem tabK_of_laid {W : World} {rest : List (String × DataW Unit)} (h : laidMet Tryz.prog (("tmesis/oper.kinds", Rows.laid_tmesis_oper_kinds) :: rest) W) : TabK W := by
  have hv := laid_cells kg0 kgt0 kCells_eq h
  unfold World.var? at hv
  rw [kg0, Option.bind_some] at hv
  split at hv
  · rename_i cs t fr hh
    exact ⟨t, fr, by rw [hh, Option.some.inj hv]⟩
  · cases hv
theorem TabK.keep {w w' : World} (h : TabK w) (hb : Below w.heap.size w w') : TabK w' := by
  obtain ⟨t, fr, h⟩ := h
  exact ⟨t, fr, (hb.block _ (Array.getElem?_eq_some_iff.1 h).1).trans h⟩
theorem k_under : (Tryz.prog.info? 168).map (·.size) = some kCells.toArray.size := by kernel_rfl
theorem kIx (w : World) (i : Nat) (h : i < 7) : (Instr.index 168 (.agg kCells.toArray) (.int .i64 i)).run Tryz.prog w = .ok (.agg #[.string (mk (kd i).1), .string (mk (hol (kd i).2.1)), .string (mk (hol (kd i).2.2.1)), .int .i64 (kd i).2.2.2]) w := by
  obtain rfl | rfl | rfl | rfl | rfl | rfl | rfl : i = 0 ∨ i = 1 ∨ i = 2 ∨ i = 3 ∨ i = 4 ∨ i = 5 ∨ i = 6 := by omega
  all_goals kernel_rfl
theorem four {w : World} {q : Nat} {x y z u : Value} {e : TypeId} (h : w.heap[q]? = some (.cells #[x, y, z, u] e (0, 0))) :
    w.cell? ⟨q, 0, none⟩ = some x ∧ w.cell? ⟨q, 1, none⟩ = some y ∧ w.cell? ⟨q, 2, none⟩ = some z ∧ w.cell? ⟨q, 3, none⟩ = some u :=
  ⟨cell_of_row w q 0 _ e _ h, cell_of_row w q 1 _ e _ h, cell_of_row w q 2 _ e _ h, cell_of_row w q 3 _ e _ h⟩

end Go.Proofs.YtjkjbgekpkhpfaaGreatDoor

/- Contract of package oper's Simple. -/
namespace Go.Proofs.YtjkjbgekpkhpfaaGreatDoor
open Go.RowKit

/-- Three results as one value. -/
def simT (x : Nm × Int × Int) : Value := .tuple #[.string (mk x.1), .int .i64 x.2.1, .int .i64 x.2.2]

set_option maxRecDepth 20000 in
set_option maxHeartbeats 4000000 in
theorem simple_any (k n : Nm) (w : World) (ht : TabK w) (hn : n.length ≤ 1000000) :
    Calls Tryz.prog 104 #[.string (mk k), .string (mk n)] w fun e w' => e = .returned (simT (simV k n)) ∧ Below w.heap.size w w' := by
  have hns := mk_size n
  obtain ⟨m, hm⟩ : ∃ m, m = n.length := ⟨_, rfl⟩
  rw [← hm] at hns hn
  clear hm
  have HBAD : Hid (∀ i, i < 7 → ((kd i).1 == k) = true → (n == [] || n.contains 95) = true → simV k n = ([], 0, 23)) := Lib.hid fun i hi h1 h2 => simV_bad hi h1 h2
  have HGOOD : Hid (∀ i, i < 7 → ((kd i).1 == k) = true → (n == [] || n.contains 95) = false → simV k n = (hol (kd i).2.1 ++ n ++ hol (kd i).2.2.1, (kd i).2.2.2, 0)) := Lib.hid fun i hi h1 h2 => simV_good hi h1 h2
  have HNONE : Hid ((∀ i, i < 7 → ((kd i).1 == k) = false) → simV k n = ([], 0, 22)) := Lib.hid fun h => simV_type h n
  have HIX := Lib.hid kIx
  obtain ⟨V, hV⟩ : ∃ V, V = simV k n := ⟨_, rfl⟩
  obtain ⟨gt, gfr, hgb⟩ := ht
  have HG := Lib.hid hgb
  obtain ⟨F, hF⟩ : ∃ F, F = kd := ⟨_, rfl⟩
  rw [← hV] at HBAD HGOOD HNONE
  rw [← hF] at HBAD HGOOD HNONE HIX
  rw [← hV]
  clear hV hF hgb
  go_enter Tryz.func104, Tryz.ntmps104
  go_wp2_with (refine wpList_load_row rfl 168 (.global 2) rfl 2 rfl gt kCells.toArray gfr _ HG.out Tryz.underlying168 rfl k_under ?_)
  go_loopw [10] (fun v wr => ∃ i : Nat, v = .int .i64 i ∧ i ≤ 7 ∧ Hid (∀ j, j < i → ((F j).1 == k) = false) ∧ Hid (Below w.heap.size w wr)) (fun v _ => 7 - (intOf v).toNat)
  case atStart => exact ⟨0, rfl, by omega, Lib.hid (fun j h => absurd h (Nat.not_lt_zero _)), Lib.hid (Below.refl _ _)⟩
  case round =>
    obtain ⟨i, rfl, hi, HM, HB⟩ := hrel
    by_cases h7 : i < 7
    · have hlt : (i : Int) < 7 := by omega
      have hx : (Instr.index 168 (.agg kCells.toArray) (.int .i64 i)).run Tryz.prog wr = .ok (.agg #[.string (mk (F i).1), .string (mk (hol (F i).2.1)), .string (mk (hol (F i).2.2.1)), .int .i64 (F i).2.2.2]) wr := HIX.out wr i h7
      obtain ⟨kk, hkk⟩ : ∃ x, x = (F i).1 := ⟨_, rfl⟩
      obtain ⟨ka, hka⟩ : ∃ x, x = (F i).2.1 := ⟨_, rfl⟩
      obtain ⟨kb, hkb⟩ : ∃ x, x = (F i).2.2.1 := ⟨_, rfl⟩
      obtain ⟨kc, hkc⟩ : ∃ x, x = (F i).2.2.2 := ⟨_, rfl⟩
      rw [← hkk, ← hka, ← hkb, ← hkc] at hx
      have HK := Lib.hid (And.intro hkk (And.intro hka (And.intro hkb hkc)))
      clear hkk hka hkb hkc
      have HW : Hid (Below w.heap.size w (wr.alloc (.cells #[.string (mk kk), .string (mk (hol ka)), .string (mk (hol kb)), .int .i64 kc] 167))) := Lib.hid (HB.out.alloc HB.out.size _)
      have hf := four (heap_alloc_new wr (.cells #[.string (mk kk), .string (mk (hol ka)), .string (mk (hol kb)), .int .i64 kc] 167))
      have hsa : (mk (hol ka)).size ≤ 1 := by rw [mk_size]; cases ka <;> simp [hol]
      have hsb : (mk (hol kb)).size ≤ 1 := by rw [mk_size]; cases kb <;> simp [hol]
      obtain ⟨wA, hwA⟩ : ∃ wA, wA = wr.alloc (.cells #[.string (mk kk), .string (mk (hol ka)), .string (mk (hol kb)), .int .i64 kc] 167) := ⟨_, rfl⟩
      have HWA := Lib.hid hwA
      have HF := Lib.hid hf
      rw [← hwA] at HF HW
      clear hf hwA
      cases hq : ((mk kk).toList == (mk k).toList) with
      | false =>
        have HQ : Hid ((kk == k) = false) := Lib.hid (by rw [mk_toList, mk_toList] at hq; exact hq)
        go_wp2
        go_roundw
        case rel => exact ⟨i + 1, by go_num, by omega, Lib.hid (fun j hj => by
          rcases Nat.lt_succ_iff_lt_or_eq.1 hj with h | rfl
          · exact HM.out j h
          · rw [← HK.out.1]; exact HQ.out), by rw [← HWA.out]; exact HW⟩
        case measure => simp [intOf]; omega
      | true =>
        have HQ : Hid (((F i).1 == k) = true) := Lib.hid (by rw [mk_toList, mk_toList] at hq; rw [← HK.out.1]; exact hq)
        by_cases hn0 : (mk n).toList = []
        · have HE : Hid (V = ([], 0, 23)) := Lib.hid (HBAD.out i h7 HQ.out (by rw [mk_toList] at hn0; rw [hn0]; rfl))
          go_wp2
          go_ret3
          exact ⟨by rw [HE.out]; rfl, by rw [← HWA.out]; exact HW.out⟩
        · have HN : Hid ((n == []) = false) := Lib.hid (by rw [mk_toList] at hn0; exact beq_eq_false_iff_ne.2 hn0)
          go_wp2_with fail
          rw [← HWA.out]
          refine (contains_any n wA).mono ?_
          clear hq
          have hem : (mk n).toList.isEmpty = false := by cases he : (mk n).toList with | nil => exact absurd he hn0 | cons c r => rfl
          obtain ⟨f0, f1, f2, f3⟩ := HF.out
          cases hc : n.contains 95 with
          | true =>
            have HE : Hid (V = ([], 0, 23)) := Lib.hid (HBAD.out i h7 HQ.out (by rw [hc, Bool.or_true]))
            clear hc
            rintro e w' ⟨rfl, rfl⟩
            go_wp2
            go_ret3
            exact ⟨by rw [HE.out]; rfl, HW.out⟩
          | false =>
            have HE : Hid (V = (hol ka ++ n ++ hol kb, kc, 0)) := Lib.hid (by
              rw [HK.out.2.1, HK.out.2.2.1, HK.out.2.2.2]
              exact HGOOD.out i h7 HQ.out (by rw [hc, HN.out]; rfl))
            clear hc
            rintro e w' ⟨rfl, rfl⟩
            go_wp2
            go_quiet (fail)
            go_wp2
            go_ret3
            exact ⟨by rw [HE.out, mk_app, mk_app]; rfl, by first | exact HW.out | exact below_drewN HW _⟩
    · have hge : ¬ (i : Int) < 7 := by omega
      have HE : Hid (V = ([], 0, 22)) := Lib.hid (HNONE.out fun j hj => HM.out j (by omega))
      go_wp2
      go_ret3
      exact ⟨by rw [HE.out]; rfl, HB.out⟩

end Go.Proofs.YtjkjbgekpkhpfaaGreatDoor
