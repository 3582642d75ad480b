/- Texts laid one behind the other. -/
import Derived.Test.YtcegbmhnbmfnnaaGreatDoorMK
import Derived.Laws.StructEq

/- Operators and entries compared. -/
namespace Go.Proofs.YtcegbmhnbmfnnaaGreatDoor
open Go.RowKit

theorem eq_oper (n : Nat) (s s' : ByteArray) (g g' a a' : Int) (w : World) :
    (Op.equalIn (n + 2) 28 (.agg #[.string s, .int .i64 g, .int .i64 a]) (.agg #[.string s', .int .i64 g', .int .i64 a'])).run Tryz.prog w = .ok ((s.toList == s'.toList) && ((g == g') && (a == a'))) w := by
  have hu : Tryz.prog.underlying 28 = some (.struct (Tryz.prog.fieldsOf 28)) := by
    unfold Program.fieldsOf
    rw [Tryz.underlying28]
  rw [run_equalIn_struct w (n + 1) 28 _ _ hu (by kernel_rfl)]
  unfold Program.fieldsOf
  rw [Tryz.underlying28]
  have p0 : ∀ w (b c : Value) (q : ByteArray), (part 9 #[.string q, b, c] 0).run Tryz.prog w = .ok (.string q) w := fun _ _ _ _ => by kernel_rfl
  have p1 : ∀ w (b c : Value) (q : ByteArray), (part 3 #[.string q, b, c] 1).run Tryz.prog w = .ok b w := fun _ _ _ _ => by kernel_rfl
  have p2 : ∀ w (b c : Value) (q : ByteArray), (part 3 #[.string q, b, c] 2).run Tryz.prog w = .ok c w := fun _ _ _ _ => by kernel_rfl
  have e1 : ∀ w (a b : Int), (Op.equalIn (n + 1) 3 (.int .i64 a) (.int .i64 b)).run Tryz.prog w = .ok (a == b) w := fun w a b => run_equalIn_int w n _ _ _ a b Tryz.underlying3
  have e3 : ∀ w (a b : ByteArray), (Op.equalIn (n + 1) 9 (.string a) (.string b)).run Tryz.prog w = .ok (a.toList == b.toList) w := fun w a b => run_equalIn_string w n _ a b Tryz.underlying9
  simp only [Op.eqFields, Sem.run_bind, Sem.run_ite, p0, p1, p2, e1, e3, Result.andThen_ok, Sem.run_pure, ne_eq, String.reduceEq, not_false_eq_true, if_true]
  cases (s.toList == s'.toList) <;> cases g == g' <;> cases a == a' <;> rfl
/-- Two operators compared. -/
theorem eq_op (n : Nat) (o o' : OP) (w : World) :
    (Op.equalIn (n + 2) 28 (.agg #[.string (mk o.1), .int .i64 o.2.1, .int .i64 o.2.2]) (.agg #[.string (mk o'.1), .int .i64 o'.2.1, .int .i64 o'.2.2])).run Tryz.prog w = .ok (decide (o = o')) w := by
  rw [eq_oper, mk_toList, mk_toList]
  congr 1
  obtain ⟨p, g, a⟩ := o
  obtain ⟨p', g', a'⟩ := o'
  rw [Bool.eq_iff_iff, decide_eq_true_eq]
  simp [Prod.ext_iff]
theorem eq_en (x y : EN) (w : World) :
    (Op.equalIn 10000 64 (.agg #[.string (mk x.1.1), .int .i64 x.1.2.1, .int .i64 x.1.2.2, .int .i64 x.2]) (.agg #[.string (mk y.1.1), .int .i64 y.1.2.1, .int .i64 y.1.2.2, .int .i64 y.2])).run Tryz.prog w = .ok (decide (x = y)) w := by
  have hu : Tryz.prog.underlying 64 = some (.struct (Tryz.prog.fieldsOf 64)) := by
    unfold Program.fieldsOf
    rw [Tryz.underlying64]
  rw [run_equalIn_struct w 9999 64 _ _ hu (by kernel_rfl)]
  unfold Program.fieldsOf
  rw [Tryz.underlying64]
  have p0 : ∀ w (b c d : Value) (q : ByteArray), (part 28 #[.string q, b, c, d] 0).run Tryz.prog w = .ok (.agg #[.string q, b, c]) w := fun _ _ _ _ _ => by kernel_rfl
  have p1 : ∀ w (b c : Value) (d : Int) (q : ByteArray), (part 3 #[.string q, b, c, .int .i64 d] 3).run Tryz.prog w = .ok (.int .i64 d) w := fun _ _ _ _ _ => by kernel_rfl
  have e1 : ∀ w (a b : Int), (Op.equalIn 9999 3 (.int .i64 a) (.int .i64 b)).run Tryz.prog w = .ok (a == b) w := fun w a b => run_equalIn_int w 9998 _ _ _ a b Tryz.underlying3
  have e0 := fun w => eq_op 9997 x.1 y.1 w
  simp only [Op.eqFields, Sem.run_bind, Sem.run_ite, p0, p1, e0, e1, Result.andThen_ok, Sem.run_pure, ne_eq, String.reduceEq, not_false_eq_true, if_true]
  obtain ⟨o, r⟩ := x
  obtain ⟨o', r'⟩ := y
  dsimp only
  by_cases h1 : o = o'
  · subst h1
    by_cases h2 : r = r'
    · subst h2; simp
    · have h3 : ¬ ((o, r) = (o, r')) := fun e => h2 (by simpa using e)
      simp [h2]
  · simp [h1]

theorem en_ext {A B : List EN} {n : Nat} (hA : A.length = n) (hB : B.length = n) (h : ∀ j, j < n → enA A j = enA B j) : A = B := by
  apply List.ext_getElem (by omega)
  intro j h1 h2
  rw [← enA_eq h1, ← enA_eq h2]
  exact h j (by omega)

end Go.Proofs.YtcegbmhnbmfnnaaGreatDoor

/- The document's has, Row, Entry, SameEntry (Entry's region laid by genAh.py over XAh.start.txt). -/
namespace Go.Proofs.YtcegbmhnbmfnnaaGreatDoor
open Go.RowKit

set_option maxRecDepth 20000 in
set_option maxHeartbeats 4000000 in
theorem rhas_any (p : Nm) (g a : Int) (x : Nm) (w : World) (hsz : p.length ≤ 200) :
    Calls Tryz.prog 39 #[.agg #[.string (mk p), .int .i64 g, .int .i64 a], .string (mk x)] w fun e w' => e = .returned (.bool ((prt p).contains x)) ∧ Below w.heap.size w w' := by
  obtain ⟨B, hB⟩ : ∃ B, B = w.heap.size := ⟨_, rfl⟩
  obtain ⟨w1, hw1⟩ : ∃ w1, w1 = w.alloc (.cells #[.string (mk p), .int .i64 g, .int .i64 a] 28) := ⟨_, rfl⟩
  have HX1 : Hid (w1.heap[B]? = some (.cells #[.string (mk p), .int .i64 g, .int .i64 a] 28 (0, 0))) := Lib.hid (by rw [hw1, hB]; exact heap_alloc_new w _)
  have HB1 : Hid (Below w.heap.size w w1) := Lib.hid (by rw [hw1]; exact (Below.refl _ _).alloc (Nat.le_refl _) _)
  have HOF : Hid (∀ w, Calls Tryz.prog 22 #[.string (mk p)] w fun e w' => ∃ a n c, e = .returned (shV a n c (ofR p)) ∧ Ss w' a n c (prt p) ∧ Below w.heap.size w w') := Lib.hid fun w => srof_any p w hsz
  obtain ⟨⟨x0, x1, x2⟩, _⟩ := three HX1.out
  have HPL := Lib.hid (prt_len p)
  obtain ⟨s, l, r, k, hR⟩ : ∃ P l r k, ofR p = (⟨P, l, r⟩, k) := ⟨_, _, _, _, rfl⟩
  have HP : Hid (prt p = s) := Lib.hid (by unfold prt; rw [hR])
  have HK : Hid (k ≠ 0 → s = []) := Lib.hid (fun h => by
    unfold ofR at hR
    cases hO : ofS p with
    | none => rw [hO] at hR; simp only [Prod.mk.injEq, SH.mk.injEq] at hR; exact hR.1.1.symm
    | some x => rw [hO] at hR; simp only [Prod.mk.injEq] at hR; exact absurd hR.2.symm h)
  rw [hR] at HOF
  simp only [shV] at HOF
  obtain ⟨P, hP⟩ : ∃ P, P = prt p := ⟨_, rfl⟩
  rw [← hP] at HOF HP HPL ⊢
  have hxl := mk_toList x
  clear hR hP
  go_enter Tryz.func39, Tryz.ntmps39
  go_wp2_with fail
  rw [← hw1, ← hB]
  clear hw1 hB
  refine (HOF.out w1).mono ?_
  rintro e w2 ⟨sa, sn, sc, rfl, hs, hb2⟩
  obtain ⟨w3, hw3⟩ : ∃ w3, w3 = w2.alloc (.cells #[.slice sa sn sc, .bool l, .bool r] 49) := ⟨_, rfl⟩
  obtain ⟨D, hD⟩ : ∃ D, D = w2.heap.size := ⟨_, rfl⟩
  have HS := Lib.hid (hs.below ((Below.refl _ w2).alloc (Nat.le_refl _) (.cells #[.slice sa sn sc, .bool l, .bool r] 49)))
  have HB2 : Hid (Below w.heap.size w w3) := Lib.hid (by rw [hw3]; exact (HB1.out.trans (hb2.mono HB1.out.size)).alloc (by have := HB1.out.size; have := hb2.size; omega) _)
  have hz3 : w3.heap[D]? = some (.cells #[.slice sa sn sc, .bool l, .bool r] 49 (0, 0)) := by rw [hw3, hD]; exact heap_alloc_new w2 _
  obtain ⟨⟨z0, z1, z2⟩, _⟩ := three hz3
  rw [← hw3] at HS
  have HLN := Lib.hid (Ss.len hs)
  have hsn : sn ≤ 4 := by have := HLN.out; have := HPL.out; omega
  clear hs hb2 x0 x1 x2 hz3
  by_cases hk : k = 0
  · subst hk
    go_wp2
    rw [← hw3, ← hD]
    clear hw3 hD
    go_loopw [7] (fun v wr => ∃ j : Nat, v = .int .i64 j ∧ j ≤ sn ∧ Hid (∀ i, i < j → pt P i ≠ x) ∧ wr = w3) (fun v _ => sn - (intOf v).toNat)
    case atStart => exact ⟨0, rfl, by omega, Lib.hid fun i hi => by omega, rfl⟩
    case round =>
      obtain ⟨j, rfl, hj, HN, rfl⟩ := hrel
      by_cases hlt : j < sn
      · obtain ⟨b, o, rfl, _, hc⟩ := HS.out.at_ (by omega)
        clear hc
        have c0 := Ss.str HS.out hlt
        obtain ⟨q, hq⟩ : ∃ q, q = pt P j := ⟨_, rfl⟩
        have hp := mk_toList q
        rw [← hq] at c0
        have HQ := Lib.hid hq
        clear hq
        cases he : (q == x) with
        | true =>
          have HE := Lib.hid he
          have HC : Hid (P.contains x = true) := Lib.hid (by rw [List.contains_iff_mem, ← eq_of_beq HE.out, HQ.out]; exact pt_mem (by rw [HLN.out]; exact hlt))
          go_wp2
          go_ret
          exact ⟨by rw [HC.out]; rfl, HB2.out⟩
        | false =>
          have HN1 : Hid (∀ i, i < j + 1 → pt P i ≠ x) := Lib.hid fun i hi => by
            by_cases hij : i = j
            · subst hij; rw [← HQ.out]; exact beq_eq_false_iff_ne.1 he
            · exact HN.out i (by omega)
          go_wp2
          go_roundw
          case rel => exact ⟨j + 1, by go_num, by omega, HN1, trivial⟩
          case measure => simp [intOf]; omega
      · have HC : Hid (P.contains x = false) := Lib.hid (by
          cases hh : P.contains x with
          | false => rfl
          | true =>
            obtain ⟨i, hi, e⟩ := List.mem_iff_getElem.1 (List.contains_iff_mem.1 hh)
            refine absurd ?_ (HN.out i (by rw [HLN.out] at hi; omega))
            unfold pt; rw [← e]; simp [List.getD, hi])
        go_wp2
        go_ret
        exact ⟨by rw [HC.out]; rfl, HB2.out⟩
  · have HN := Lib.hid (HK.out hk)
    rw [hw3] at HB2
    have HC : Hid (P.contains x = false) := Lib.hid (by rw [HP.out, HN.out]; rfl)
    go_wp2
    go_ret
    exact ⟨by rw [HC.out]; rfl, HB2.out⟩

set_option maxRecDepth 20000 in
theorem rrow_any (a : Option Addr) (n c : Nat) (z : List Int) (hz : z.length = 10) (g : Int) (w : World) :
    Calls Tryz.prog 40 #[.agg (ev a n c z), .int .i64 g] w fun e w' => e = .returned (.int .i64 (rowV z g)) ∧ w' = w.alloc (.cells (ev a n c z) 26) := by
  by_cases h0 : g < 0
  · have HE : Hid (rowV z g = 0) := Lib.hid (if_neg (by omega))
    go_enter Tryz.func40, Tryz.ntmps40
    go_wp2
    go_ret
    exact ⟨by rw [HE.out]; rfl, rfl⟩
  by_cases h1 : 10 ≤ g
  · have HE : Hid (rowV z g = 0) := Lib.hid (if_neg (by omega))
    go_enter Tryz.func40, Tryz.ntmps40
    go_wp2
    go_ret
    exact ⟨by rw [HE.out]; rfl, rfl⟩
  · obtain ⟨k, rfl⟩ : ∃ k : Nat, g = (k : Int) := ⟨g.toNat, by omega⟩
    have HE : Hid (rowV z (k : Int) = bt z k) := Lib.hid (if_pos ⟨by omega, by omega⟩)
    have hk : k < 10 := by omega
    have hc := (EB.new w a n c z).cj hz hk
    go_enter Tryz.func40, Tryz.ntmps40
    go_wp2
    go_ret
    exact ⟨by rw [HE.out]; rfl, rfl⟩

theorem re_of {w : World} {B : Nat} {a : Option Addr} {n c : Nat} {z : List Int} {b off k : Nat} {p : Nm} {g s : Int} (h : EB w B a n c z)
    (h2 : w.cell? ⟨b, off + k * 3, none⟩ = some (.string (mk p)) ∧ w.cell? ⟨b, off + k * 3 + 1, none⟩ = some (.int .i64 g) ∧ w.cell? ⟨b, off + k * 3 + 2, none⟩ = some (.int .i64 s)) :
    EB w B a n c z ∧ w.cell? ⟨B, 0, none⟩ = some (.slice a n c) ∧ w.cell? ⟨b, off + k * 3, none⟩ = some (.string (mk p)) ∧ w.cell? ⟨b, off + k * 3 + 1, none⟩ = some (.int .i64 g) ∧ w.cell? ⟨b, off + k * 3 + 2, none⟩ = some (.int .i64 s) := ⟨h, h.c0, h2⟩

set_option maxRecDepth 20000 in
set_option maxHeartbeats 4000000 in
theorem rentry_any (a : Option Addr) (n c : Nat) (L : List OP) (z : List Int) (x : Nm) (w : World) (h : OpS w a n c L) (hz : z.length = 10) (hn : n ≤ 1000000) (hp : ∀ o ∈ L, o.1.length ≤ 200) :
    Calls Tryz.prog 25 #[.agg (ev a n c z), .string (mk x)] w fun e w' => ∃ a' c', e = .returned (.slice a' (entL L z x).length c') ∧ Ens w' a' (entL L z x).length c' (entL L z x) ∧ Below w.heap.size w w' := by
  have hlc := h.lc
  have hcm := h.cm
  unfold maxLen at hcm
  obtain ⟨B, hB⟩ : ∃ B, B = w.heap.size := ⟨_, rfl⟩
  obtain ⟨w0, hw0⟩ : ∃ w0, w0 = w.alloc (.cells (ev a n c z) 26) := ⟨_, rfl⟩
  obtain ⟨w1, hw1⟩ : ∃ w1, w1 = w0.alloc (.cells #[] 64) := ⟨_, rfl⟩
  obtain ⟨E, hE⟩ : ∃ E, E = B + 1 := ⟨_, rfl⟩
  have hs0 : w0.heap.size = E := by rw [hw0, hE, hB]; simp
  have HB00 : Hid (Below B w w0) := Lib.hid (by rw [hw0, hB]; exact below_alloc w _)
  have H00 : Hid (OpS w0 a n c L) := Lib.hid (h.below (by rw [← hB]; exact HB00.out))
  have HE0 : Hid (EB w0 B a n c z) := Lib.hid (by rw [hw0, hB]; exact EB.new w a n c z)
  have HE1 : Hid (EB w1 B a n c z) := Lib.hid (by rw [hw1]; exact HE0.out.alloc _)
  have HO1 : Hid (OwnV w0.heap.size 64 4 w1 (some ⟨E, 0, none⟩) 0 0 (cE (entL (L.take 0) z x))) := Lib.hid (by rw [hw1, ← hs0]; exact OwnV.emptyAt (heap_alloc_new w0 _) (Nat.le_refl _))
  have HB01 : Hid (Below w0.heap.size w0 w1) := Lib.hid (by rw [hw1]; exact below_alloc w0 _)
  have HL := Lib.hid (OpS.len h)
  have HZ := Lib.hid hz
  have HP := Lib.hid hp
  have HBB := Lib.hid hB
  have hS : B < w0.heap.size := HE0.out.lt
  have HS := Lib.hid hS
  have e0 := HE1.out.c0
  clear h hz hp hS
  go_enter Tryz.func25, Tryz.ntmps25
  go_wp2
  rw [← hw0, ← hw1, ← hB, ← hE]
  clear hw0 hw1 hB hE e0 hs0
  go_loopw [5, 6] (fun u v wr => ∃ a3, ∃ m q k : Nat, u = .slice a3 m q ∧ v = .int .i64 k ∧ k ≤ n ∧ Hid ((entL (L.take k) z x).length = m) ∧ Hid (OwnV w0.heap.size 64 4 wr a3 m q (cE (entL (L.take k) z x))) ∧ Hid (Below w0.heap.size w0 wr)) (fun _ v _ => n - (intOf v).toNat)
  case atStart => exact ⟨_, 0, 0, 0, rfl, rfl, by omega, Lib.hid rfl, HO1, HB01⟩
  case round =>
    obtain ⟨a3, m, q, k, rfl, rfl, hk, HM, HO, HB⟩ := hrel
    have e0 := (HE0.out.below HB.out).c0
    by_cases hlt : k < n
    · have hs := H00.out.below HB.out
      obtain ⟨b, off, rfl, _, hc⟩ := hs.at_ (by omega)
      clear hc hs
      have KA : Hid (∀ w', Below w0.heap.size w0 w' → w'.cell? ⟨b, off + k * 3, none⟩ = some (.string (mk (opA L k).1)) ∧ w'.cell? ⟨b, off + k * 3 + 1, none⟩ = some (.int .i64 (opA L k).2.1) ∧ w'.cell? ⟨b, off + k * 3 + 2, none⟩ = some (.int .i64 (opA L k).2.2)) := Lib.hid fun w' hb => OpS.at3 (H00.out.below hb) hlt
      have HSN := Lib.hid (entL_snoc (L := L) (k := k) (by rw [HL.out]; exact hlt) z x)
      have HML : Hid (m ≤ k) := Lib.hid (by rw [← HM.out]; exact Nat.le_trans (entL_len ..) (by rw [List.length_take]; omega))
      obtain ⟨o, ho⟩ : ∃ o, o = opA L k := ⟨_, rfl⟩
      have HPo : Hid (o.1.length ≤ 200) := Lib.hid (by rw [ho]; exact HP.out _ (opA_mem (by rw [HL.out]; exact hlt)))
      rw [← ho] at KA HSN
      clear ho
      obtain ⟨p, g, s⟩ := o
      dsimp only at KA
      obtain ⟨c0, c1, c2⟩ := KA.out wr HB.out
      have hlt' : (k : Int) < (n : Int) := by omega
      go_wp2_with fail
      refine (rhas_any p g s x wr HPo.out).mono ?_
      rintro e w2 ⟨rfl, hb2⟩
      have HB2 := Lib.hid (HB.out.trans (hb2.mono HB.out.size))
      have HO2 : Hid (OwnV w0.heap.size 64 4 w2 a3 m q (cE (entL (L.take k) z x))) := Lib.hid (HO.out.keep hb2 (Nat.le_refl _))
      clear hb2 c0 c1 c2 e0
      cases hh : (prt p).contains x with
      | false =>
        have HN : Hid (entL (L.take (k + 1)) z x = entL (L.take k) z x) := Lib.hid (by rw [HSN.out, if_neg (by unfold hasP; rw [hh]; decide), List.append_nil])
        go_wp2
        go_roundw
        case rel => exact ⟨a3, m, q, k + 1, rfl, by go_num, by omega, by rw [HN.out]; exact HM, by rw [HN.out]; exact HO2, HB2⟩
        case measure => simp [intOf]; omega
      | true =>
        have HN : Hid (entL (L.take (k + 1)) z x = entL (L.take k) z x ++ [((p, g, s), rowV z g)]) := Lib.hid (by rw [HSN.out, if_pos (by unfold hasP; exact hh)])
        clear hh
        go_wp2_with fail
        -- the region (laid by genAh.py)
        refine wp_region_noPanic ?_
        refine wp_region_held_drew (S := fun w' => EB w' B (some ⟨b, off, none⟩) n c z ∧ w'.cell? ⟨B, 0, none⟩ = some (.slice (some ⟨b, off, none⟩) n c) ∧ w'.cell? ⟨b, off + k * 3, none⟩ = some (.string (mk p)) ∧ w'.cell? ⟨b, off + k * 3 + 1, none⟩ = some (.int .i64 g) ∧ w'.cell? ⟨b, off + k * 3 + 2, none⟩ = some (.int .i64 s)) (by kernel_rfl) (re_of (HE0.out.below HB2.out.drew) (KA.out _ HB2.out.drew)) (fun hHeld => ?_)
        refine wpAnyH_take (i := 0) (oi := { dst := some 22, op := Op.move (Operand.tmp 5), type := 43, pos := "ref.go:80", after := #[], guard := none }) (v := ?_) rfl (by kernel_rfl) (by kernel_rfl) (by kernel_rfl) (fun _ _ _ h => h) (Or.inl ⟨by rfl, ?_⟩) (by assumption) ?_
        rotate_left
        · intro w' hSw
          try dsimp only at hSw
          go_simp
          try with_reducible rfl
        try simp only [Act.put, List.setIfInBounds_toArray, List.set_cons_zero, List.set_cons_succ]
        refine wpAnyH_take (i := 1) (oi := { dst := some 23, op := Op.fieldAddr 26 (Operand.tmp 2) 0, type := 0, pos := "ref.go:80", after := #[], guard := none }) (v := ?_) rfl (by kernel_rfl) (by kernel_rfl) (by kernel_rfl) (fun _ _ _ h => h) (Or.inl ⟨by rfl, ?_⟩) (by assumption) ?_
        rotate_left
        · intro w' hSw
          try dsimp only at hSw
          go_simp
          try with_reducible rfl
        try simp only [Act.put, List.setIfInBounds_toArray, List.set_cons_zero, List.set_cons_succ]
        refine wpAnyH_take (i := 2) (oi := { dst := some 24, op := Op.load 22 (Operand.tmp 23), type := 22, pos := "ref.go:80", after := #[{ on := 1, ground := Ground.data }], guard := none }) (v := ?_) rfl (by kernel_rfl) (by kernel_rfl) (by kernel_rfl) (fun _ _ _ h => h) (Or.inl ⟨by rfl, ?_⟩) (by assumption) ?_
        rotate_left
        · intro w' hSw
          try dsimp only at hSw
          go_simp
          try with_reducible rfl
        try simp only [Act.put, List.setIfInBounds_toArray, List.set_cons_zero, List.set_cons_succ]
        refine wpAnyH_take (i := 3) (oi := { dst := some 25, op := Op.move (Operand.tmp 6), type := 3, pos := "ref.go:80", after := #[], guard := none }) (v := ?_) rfl (by kernel_rfl) (by kernel_rfl) (by kernel_rfl) (fun _ _ _ h => h) (Or.inl ⟨by rfl, ?_⟩) (by assumption) ?_
        rotate_left
        · intro w' hSw
          try dsimp only at hSw
          go_simp
          try with_reducible rfl
        try simp only [Act.put, List.setIfInBounds_toArray, List.set_cons_zero, List.set_cons_succ]
        refine wpAnyH_take (i := 4) (oi := { dst := some 26, op := Op.indexAddr 22 (Operand.tmp 24) (Operand.tmp 25), type := 0, pos := "ref.go:80", after := #[{ on := 2, ground := Ground.data }, { on := 3, ground := Ground.data }], guard := none }) (v := ?_) rfl (by kernel_rfl) (by kernel_rfl) (by kernel_rfl) (fun _ _ _ h => h) (Or.inl ⟨by rfl, ?_⟩) (by assumption) ?_
        rotate_left
        · intro w' hSw
          try dsimp only at hSw
          go_simp
          try with_reducible rfl
        try simp only [Act.put, List.setIfInBounds_toArray, List.set_cons_zero, List.set_cons_succ]
        refine wpAnyH_take (i := 5) (oi := { dst := some 27, op := Op.load 28 (Operand.tmp 26), type := 28, pos := "ref.go:80", after := #[{ on := 4, ground := Ground.data }], guard := none }) (v := ?_) rfl (by kernel_rfl) (by kernel_rfl) (by kernel_rfl) (fun _ _ _ h => h) (Or.inl ⟨by rfl, ?_⟩) (by assumption) ?_
        rotate_left
        · intro w' hSw
          try dsimp only at hSw
          go_simp
          try with_reducible rfl
        try simp only [Act.put, List.setIfInBounds_toArray, List.set_cons_zero, List.set_cons_succ]
        refine take_env (i := 6) (oi := { dst := some 28, op := Op.load 26 (Operand.tmp 2), type := 26, pos := "ref.go:80", after := #[], guard := none }) (Operand.tmp 2) rfl (by kernel_rfl) (by kernel_rfl) (by kernel_rfl) _ _ _ (z) (fun _ _ _ h => h) (by rfl) rfl (B) rfl (HZ.out) (fun _ h => h.1) (by assumption) ?_
        try simp only [Act.put, List.setIfInBounds_toArray, List.set_cons_zero, List.set_cons_succ]
        refine wpAnyH_take (i := 7) (oi := { dst := some 29, op := Op.fieldAddr 26 (Operand.tmp 2) 0, type := 0, pos := "ref.go:80", after := #[], guard := none }) (v := ?_) rfl (by kernel_rfl) (by kernel_rfl) (by kernel_rfl) (fun _ _ _ h => h) (Or.inl ⟨by rfl, ?_⟩) (by assumption) ?_
        rotate_left
        · intro w' hSw
          try dsimp only at hSw
          go_simp
          try with_reducible rfl
        try simp only [Act.put, List.setIfInBounds_toArray, List.set_cons_zero, List.set_cons_succ]
        refine wpAnyH_take (i := 8) (oi := { dst := some 30, op := Op.load 22 (Operand.tmp 29), type := 22, pos := "ref.go:80", after := #[{ on := 7, ground := Ground.data }], guard := none }) (v := ?_) rfl (by kernel_rfl) (by kernel_rfl) (by kernel_rfl) (fun _ _ _ h => h) (Or.inl ⟨by rfl, ?_⟩) (by assumption) ?_
        rotate_left
        · intro w' hSw
          try dsimp only at hSw
          go_simp
          try with_reducible rfl
        try simp only [Act.put, List.setIfInBounds_toArray, List.set_cons_zero, List.set_cons_succ]
        refine wpAnyH_take (i := 9) (oi := { dst := some 31, op := Op.move (Operand.tmp 6), type := 3, pos := "ref.go:80", after := #[], guard := none }) (v := ?_) rfl (by kernel_rfl) (by kernel_rfl) (by kernel_rfl) (fun _ _ _ h => h) (Or.inl ⟨by rfl, ?_⟩) (by assumption) ?_
        rotate_left
        · intro w' hSw
          try dsimp only at hSw
          go_simp
          try with_reducible rfl
        try simp only [Act.put, List.setIfInBounds_toArray, List.set_cons_zero, List.set_cons_succ]
        refine wpAnyH_take (i := 10) (oi := { dst := some 32, op := Op.indexAddr 22 (Operand.tmp 30) (Operand.tmp 31), type := 0, pos := "ref.go:80", after := #[{ on := 8, ground := Ground.data }, { on := 9, ground := Ground.data }], guard := none }) (v := ?_) rfl (by kernel_rfl) (by kernel_rfl) (by kernel_rfl) (fun _ _ _ h => h) (Or.inl ⟨by rfl, ?_⟩) (by assumption) ?_
        rotate_left
        · intro w' hSw
          try dsimp only at hSw
          go_simp
          try with_reducible rfl
        try simp only [Act.put, List.setIfInBounds_toArray, List.set_cons_zero, List.set_cons_succ]
        refine wpAnyH_take (i := 11) (oi := { dst := some 33, op := Op.fieldAddr 28 (Operand.tmp 32) 1, type := 0, pos := "ref.go:80", after := #[{ on := 10, ground := Ground.data }], guard := none }) (v := ?_) rfl (by kernel_rfl) (by kernel_rfl) (by kernel_rfl) (fun _ _ _ h => h) (Or.inl ⟨by rfl, ?_⟩) (by assumption) ?_
        rotate_left
        · intro w' hSw
          try dsimp only at hSw
          go_simp
          try with_reducible rfl
        try simp only [Act.put, List.setIfInBounds_toArray, List.set_cons_zero, List.set_cons_succ]
        refine wpAnyH_take (i := 12) (oi := { dst := some 34, op := Op.load 3 (Operand.tmp 33), type := 3, pos := "ref.go:80", after := #[{ on := 11, ground := Ground.data }], guard := none }) (v := ?_) rfl (by kernel_rfl) (by kernel_rfl) (by kernel_rfl) (fun _ _ _ h => h) (Or.inl ⟨by rfl, ?_⟩) (by assumption) ?_
        rotate_left
        · intro w' hSw
          try dsimp only at hSw
          go_simp
          try with_reducible rfl
        try simp only [Act.put, List.setIfInBounds_toArray, List.set_cons_zero, List.set_cons_succ]
        refine wpAnyH_ready (rs := [13]) (by kernel_rfl) (by simp) ?_
        refine AllReadyH.cons (o := { dst := some 35, op := Op.call { callee := Callee.value (Operand.func 40), args := #[Operand.tmp 28, Operand.tmp 34], argTypes := #[26, 3] }, type := 3, pos := "ref.go:80", after := #[{ on := 6, ground := Ground.data }, { on := 12, ground := Ground.data }], guard := none }) rfl (fun K hK => ?_) ?_
        · go_simp
          (go_at_call 40; (with_reducible refine (rrow_any _ _ _ z HZ.out g _).mono ?_); rintro e w4 ⟨rfl, hw4⟩)
          have hb4 : Below w2.heap.size w2 w4 := by rw [hw4]; exact (Below.refl _ _).drew.alloc (by simp) _
          have HB4 := Lib.hid (HB2.out.trans (hb4.mono HB2.out.size))
          have HO4 : Hid (OwnV w0.heap.size 64 4 w4 a3 m q (cE (entL (L.take k) z x))) := Lib.hid (HO2.out.keep hb4 (Nat.le_refl _))
          clear hb4 hw4
          refine hK.out _ _ (re_of (HE0.out.below HB4.out) (KA.out _ HB4.out)) (fun hHeld => ?_)
          clear hK K
          try simp only [Act.put, List.setIfInBounds_toArray, List.set_cons_zero, List.set_cons_succ]
          refine wpAnyH_take (i := 14) (oi := { dst := some 36, op := Op.build 64 #[(0, Operand.tmp 27), (1, Operand.tmp 35)], type := 64, pos := "ref.go:80", after := #[{ on := 5, ground := Ground.data }, { on := 13, ground := Ground.data }], guard := none }) (v := ?_) rfl (by kernel_rfl) (by kernel_rfl) (by kernel_rfl) (fun _ _ _ h => h) (Or.inl ⟨by rfl, ?_⟩) (by assumption) ?_
          rotate_left
          · intro w' hSw
            try dsimp only at hSw
            go_simp
            try with_reducible rfl
          try simp only [Act.put, List.setIfInBounds_toArray, List.set_cons_zero, List.set_cons_succ]
          refine wpAnyH_ready (rs := [15]) (by kernel_rfl) (by simp) ?_
          refine AllReadyH.cons (o := { dst := some 37, op := Op.buildSlice 43 1 #[(0, Operand.tmp 36)], type := 43, pos := "ref.go:80", after := #[{ on := 14, ground := Ground.data }], guard := none }) rfl (fun K hK => ?_) ?_
          · go_simp
            have HB5 := Lib.hid (HB4.out.alloc HB4.out.size (.cells #[.string (mk p), .int .i64 g, .int .i64 s, .int .i64 (rowV z g)] 64))
            refine hK.out _ _ (re_of (HE0.out.below HB5.out) (KA.out _ HB5.out)) (fun hHeld => ?_)
            clear hK K
            try simp only [Act.put, List.setIfInBounds_toArray, List.set_cons_zero, List.set_cons_succ]
            refine wpAnyH_ready (rs := [16]) (by kernel_rfl) (by simp) ?_
            refine AllReadyH.cons (o := { dst := some 38, op := Op.call { callee := Callee.builtin Builtin.append, args := #[Operand.tmp 22, Operand.tmp 37], argTypes := #[43, 43] }, type := 43, pos := "ref.go:80", after := #[{ on := 0, ground := Ground.data }, { on := 15, ground := Ground.data }, { on := 13, ground := Ground.chain }], guard := none }) rfl (fun K hK => ?_) ?_
            · refine step_appv rfl (.tmp 22) (.tmp 37) 43 rfl 64 w0.heap.size 4 40 _ Tryz.underlying43 en_info rfl (by omega) _ m _ (cE (entL (L.take k) z x)) rfl (HO4.out.alloc _) _ 1 _ (cE [((p, g, s), rowV z g)]) rfl (Vs.lit (k := 4) (xs := cE [((p, g, s), rowV z g)]) _ _ rfl rfl rfl) (cE_one _) (by unfold maxLen; have := HML.out; omega) (by have := HML.out; omega) HB5.out.size ?_
              intro a6 c6 w6 ho6 hg6 hb6 _
              have HO5 := Lib.hid ho6
              have HB6 := Lib.hid (HB5.out.trans hb6)
              clear ho6 hg6 hb6
              refine hK.out _ _ (re_of (HE0.out.below HB6.out) (KA.out _ HB6.out)) (fun hHeld => ?_)
              clear hK K
              try simp only [Act.put, List.setIfInBounds_toArray, List.set_cons_zero, List.set_cons_succ]
              refine wpAnyH_take (i := 17) (oi := { dst := some 5, op := Op.assign (Operand.tmp 38), type := 43, pos := "ref.go:80", after := #[{ on := 16, ground := Ground.data }, { on := 16, ground := Ground.chain }, { on := 0, ground := Ground.phase }, { on := 1, ground := Ground.phase }, { on := 2, ground := Ground.phase }, { on := 3, ground := Ground.phase }, { on := 4, ground := Ground.phase }, { on := 5, ground := Ground.phase }, { on := 6, ground := Ground.phase }, { on := 7, ground := Ground.phase }, { on := 8, ground := Ground.phase }, { on := 9, ground := Ground.phase }, { on := 10, ground := Ground.phase }, { on := 11, ground := Ground.phase }, { on := 12, ground := Ground.phase }, { on := 13, ground := Ground.phase }, { on := 14, ground := Ground.phase }, { on := 15, ground := Ground.phase }, { on := 16, ground := Ground.phase }], guard := none }) (v := ?_) rfl (by kernel_rfl) (by kernel_rfl) (by kernel_rfl) (fun _ _ _ h => h) (Or.inl ⟨by rfl, ?_⟩) (by assumption) ?_
              rotate_left
              · intro w' hSw
                try dsimp only at hSw
                go_simp
                try with_reducible rfl
              try simp only [Act.put, List.setIfInBounds_toArray, List.set_cons_zero, List.set_cons_succ]
              refine wpAnyH_done (by kernel_rfl) ?_ _
              refine NoPanic.normal ?_
              have HN6 : Hid ((entL (L.take (k + 1)) z x).length = m + 1) := Lib.hid (by rw [HN.out, List.length_append, HM.out]; rfl)
              have HO6 : Hid (OwnV w0.heap.size 64 4 w6 a6 (m + 1) c6 (cE (entL (L.take (k + 1)) z x))) := Lib.hid (by rw [HN.out, cE_app]; exact HO5.out)
              go_wp2
              go_roundw
              case rel => exact ⟨_, m + 1, _, k + 1, rfl, by go_num, by omega, HN6, HO6, HB6⟩
              case measure => simp [intOf]; omega
            · exact AllReadyH.nil
          · exact AllReadyH.nil
        · exact AllReadyH.nil
        -- behind it
    · have HA : Hid (L.take k = L) := Lib.hid (List.take_of_length_le (by rw [HL.out]; omega))
      rw [HA.out] at HM HO
      have HBE : Hid (Below w.heap.size w wr) := Lib.hid (by rw [← HBB.out]; exact HB00.out.trans (HB.out.mono (Nat.le_of_lt HS.out)))
      go_wp2
      go_ret
      refine ⟨_, _, by rw [HM.out]; rfl, ?_, HBE.out⟩
      rw [HM.out]; exact HO.out.vs

end Go.Proofs.YtcegbmhnbmfnnaaGreatDoor
