/- Contracts of package decl: covers, fits, value, form, drop, operator, Is. -/
import Derived.Test.YtjkjbgekpkhpfaaGreatDoorCm
import Derived.Test.YtjkjbgekpkhpfaaGreatDoorMK
import Derived.Test.YtjkjbgekpkhpfaaGreatDoorML
import Derived.Test.YtjkjbgekpkhpfaaGreatDoorMF
import Derived.Test.YtjkjbgekpkhpfaaGreatDoorM4
import Derived.Test.YtjkjbgekpkhpfaaGreatDoorM9
import Derived.Deep.RegionHeld3
import Derived.Deep.DeepCutAuto
namespace Go.Proofs.YtjkjbgekpkhpfaaGreatDoor
open Go.RowKit

/-! ### A directive in a block of its own -/

def DC.cs (d : DC) : Array Value := #[.int .i64 d.k, .string (Go.Proofs.YtjkjbgekpkhpfaaGreatDoor.mk d.p), .int .i64 d.g, .int .i64 d.a, .int .i64 d.G, .int .i64 d.H]
def DB (w : World) (b : Nat) (d : DC) : Prop := w.heap[b]? = some (.cells d.cs 53 (0, 0))
theorem DB.below {w w' : World} {b : Nat} {d : DC} (h : DB w b d) (hb : Below w.heap.size w w') : DB w' b d := (hb.block b (Array.getElem?_eq_some_iff.1 h).1).trans h
theorem DB.new (w : World) : DB (w.alloc (.cells #[.int .i64 0, .string { data := #[] }, .int .i64 0, .int .i64 0, .int .i64 0, .int .i64 0] 53)) w.heap.size d0 := heap_alloc_new w _
theorem decl_info : (Tryz.prog.info? 53).map (·.size) = some 6 := by kernel_rfl
theorem DC.one (d : DC) : d.cs.all (·.oneCell') = true := by simp [DC.cs, Value.oneCell']
theorem below_row (w : World) (g : Nat) (cs : Array Value) {B : Nat} (hB : B ≤ g) : Below B w (w.setRow g cs) := ⟨rfl, rfl, rfl, by simp, fun k hk => setRow_other w g k cs (by omega)⟩
theorem store_decl {ops : Array Oper} {rest : List Oper} {o : Oper} {A : Act} {w : World} {Q : Exit → Act → World → Prop} (hgd : o.guard = none) (x y : Operand) (ho : o.op = .store 53 x y)
    (b : Nat) (hx : A.eval x = .pointer (some ⟨b, 0, none⟩)) (d' : DC) (hy : A.eval y = d'.v) (d : DC) (h : DB w b d)
    (k : ∀ w', DB w' b d' → (∀ B, B ≤ b → Below B w w') → wpList Tryz.prog ops Q rest (A.put o.dst undef) w') : wpList Tryz.prog ops Q (o :: rest) A w :=
  wpList_store_row hgd 53 x y ho b d'.cs hx hy _ _ h decl_info rfl (DC.one d') (k _ (setRow_heap w b _ _ _ _ h) (fun _ hB => below_row w b _ hB))
theorem step_store_decl {ops : Array Oper} {o : Oper} {A : Act} {w : World} {K : Act → World → Prop} {Q : Exit → Act → World → Prop} {E : Prop} (hgd : o.guard = none) (x y : Operand) (ho : o.op = .store 53 x y)
    (b : Nat) (hx : A.eval x = .pointer (some ⟨b, 0, none⟩)) (d' : DC) (hy : A.eval y = d'.v) (d : DC) (h : DB w b d)
    (k : ∀ w', DB w' b d' → (∀ B, B ≤ b → Below B w w') → (∀ i, i ≠ b → w'.heap[i]? = w.heap[i]?) → K (A.put o.dst undef) w') : if Region.wanted o (yielded ops A.tmps) = true then o.wp Tryz.prog A w K Q else E := by
  rw [if_pos (show Region.wanted o (yielded ops A.tmps) = true by simp [Region.wanted, hgd])]
  exact wp_store_row 53 x y ho b d'.cs hx hy _ _ h decl_info rfl (DC.one d') (k _ (setRow_heap w b _ _ _ _ h) (fun _ hB => below_row w b _ hB) fun i hi => setRow_other w b i _ hi)
theorem ret_decl {fn : Func} {p u : Tmp} (h : fn.results = #[.cell p 53, .tmp u]) (tmps : Array Value) (w : World) (b : Nat) (d : DC)
    (hp : tmps.getD p undef = .pointer (some ⟨b, 0, none⟩)) (hg : DB w b d) : (results fn tmps).run Tryz.prog w = .ok (.tuple #[d.v, tmps.getD u undef]) w :=
  results_pair h tmps w b _ _ _ _ hp hg Tryz.underlying53 rfl decl_info
theorem build_run {ops : Array Oper} {rest : List Oper} {o : Oper} {A : Act} {w : World} {Q : Exit → Act → World → Prop} (hgd : o.guard = none) (ty : TypeId) (ps : Array (Nat × Operand)) (_ho : o.op = .build ty ps) (v : Value)
    (hr : (execOp A.eval o).run Tryz.prog w = .ok (.value v) w) (k : wpList Tryz.prog ops Q rest (A.put o.dst v) w) : wpList Tryz.prog ops Q (o :: rest) A w :=
  wpList_plain hgd fun K hK => by
    unfold Oper.wp
    rw [hr]
    exact hK _ _ k
/-- What decl's functions answer. -/
def dclV (x : DC × Int) : Value := .tuple #[x.1.v, .int .i64 x.2]

/-! ### Tokens in blocks of their own -/

def T5 (w : World) (D : Nat) (t : TK) : Prop := w.heap[D]? = some (.cells #[.int .i64 t.k, .int .i64 t.f, .int .i64 t.t, .string t.s, .int .i64 t.e] 96 (0, 0))
theorem T5.below {w w' : World} {D : Nat} {t : TK} (h : T5 w D t) (hb : Below w.heap.size w w') : T5 w' D t := (hb.block D (Array.getElem?_eq_some_iff.1 h).1).trans h
theorem T5.cells {w : World} {D : Nat} {t : TK} (h : T5 w D t) : w.cell? ⟨D, 0, none⟩ = some (.int .i64 t.k) ∧ w.cell? ⟨D, 1, none⟩ = some (.int .i64 t.f) ∧ w.cell? ⟨D, 2, none⟩ = some (.int .i64 t.t) ∧ w.cell? ⟨D, 3, none⟩ = some (.string t.s) ∧ w.cell? ⟨D, 4, none⟩ = some (.int .i64 t.e) :=
  ⟨(cell_of_row w D 0 _ _ _ h).trans rfl, (cell_of_row w D 1 _ _ _ h).trans rfl, (cell_of_row w D 2 _ _ _ h).trans rfl, (cell_of_row w D 3 _ _ _ h).trans rfl, (cell_of_row w D 4 _ _ _ h).trans rfl⟩
theorem T5.new (w : World) (t : TK) : T5 (w.alloc (.cells #[.int .i64 t.k, .int .i64 t.f, .int .i64 t.t, .string t.s, .int .i64 t.e] 96)) w.heap.size t := heap_alloc_new w _
theorem Ts.drew {w : World} {a : Option Addr} {n c : Nat} {L : List TK} (h : Ts w a n c L) : Ts w.drew a n c L := h.below (Below.refl _ _).drew
theorem below_new (w : World) (o : Obj) : Below w.heap.size w (w.alloc o) := (Below.refl _ _).alloc (Nat.le_refl _) _

/-! ### What a letter, a word stands for -/

set_option maxRecDepth 20000 in
theorem covers_any (s : ByteArray) (k : Int) (w : World) :
    Calls Tryz.prog 103 #[.string s, .int .i64 k] w fun e w' => e = .returned (.bool (coverB s.toList k)) ∧ w = w' := by
  cases h1 : (s.toList == [78]) with
  | true =>
    have HE : Hid (coverB s.toList k = (k == 4)) := Lib.hid (by unfold coverB; rw [if_pos (eq_of_beq h1)])
    go_enter Tryz.func103, Tryz.ntmps103
    go_wp2
    go_ret
    exact ⟨by rw [HE.out]; rfl, rfl⟩
  | false =>
    have n1 := beq_eq_false_iff_ne.1 h1
    cases h2 : (s.toList == [81]) with
    | true =>
      have HE : Hid (coverB s.toList k = ((k == 2 || k == 5) || k == 1)) := Lib.hid (by unfold coverB; rw [if_neg n1, if_pos (eq_of_beq h2)])
      clear n1
      cases k2 : k == 2 with
      | true =>
        rw [k2] at HE
        go_enter Tryz.func103, Tryz.ntmps103
        go_wp2
        go_ret
        exact ⟨by rw [HE.out]; rfl, rfl⟩
      | false =>
        cases k5 : k == 5 with
        | true =>
          rw [k2, k5] at HE
          go_enter Tryz.func103, Tryz.ntmps103
          go_wp2
          go_ret
          exact ⟨by rw [HE.out]; rfl, rfl⟩
        | false =>
          rw [k2, k5] at HE
          go_enter Tryz.func103, Tryz.ntmps103
          go_wp2
          go_ret
          exact ⟨by rw [HE.out]; rfl, rfl⟩
    | false =>
      have n2 := beq_eq_false_iff_ne.1 h2
      cases h3 : (s.toList == [65]) with
      | true =>
        have HE : Hid (coverB s.toList k = (k == 1)) := Lib.hid (by unfold coverB; rw [if_neg n1, if_neg n2, if_pos (eq_of_beq h3)])
        clear n1 n2
        go_enter Tryz.func103, Tryz.ntmps103
        go_wp2
        go_ret
        exact ⟨by rw [HE.out]; rfl, rfl⟩
      | false =>
        have HE : Hid (coverB s.toList k = false) := Lib.hid (by unfold coverB; rw [if_neg n1, if_neg n2, if_neg (beq_eq_false_iff_ne.1 h3)])
        clear n1 n2
        go_enter Tryz.func103, Tryz.ntmps103
        go_wp2
        go_ret
        exact ⟨by rw [HE.out]; rfl, rfl⟩

set_option maxRecDepth 20000 in
theorem fits_any (t u : TK) (w : World) :
    Calls Tryz.prog 80 #[.agg #[.int .i64 t.k, .int .i64 t.f, .int .i64 t.t, .string t.s, .int .i64 t.e], .agg #[.int .i64 u.k, .int .i64 u.f, .int .i64 u.t, .string u.s, .int .i64 u.e]] w fun e w' => e = .returned (.bool (fitB (kt t) (kt u))) ∧ Below w.heap.size w w' := by
  obtain ⟨tk, tf, tt, ts, te⟩ := t
  obtain ⟨uk, uf, ut, us, ue⟩ := u
  simp only [kt]
  have HB : Hid (Below w.heap.size w ((w.alloc (.cells #[.int .i64 tk, .int .i64 tf, .int .i64 tt, .string ts, .int .i64 te] 96)).alloc (.cells #[.int .i64 uk, .int .i64 uf, .int .i64 ut, .string us, .int .i64 ue] 96))) := Lib.hid ((below_new w _).alloc (by simp) _)
  have HC : Hid (∀ w, Calls Tryz.prog 103 #[.string us, .int .i64 tk] w fun e w' => e = .returned (.bool (coverB us.toList tk)) ∧ w = w') := Lib.hid fun w => covers_any us tk w
  by_cases h3 : uk = 3
  · subst h3
    have HE : Hid (fitB (tk, ts.toList) (3, us.toList) = coverB us.toList tk) := Lib.hid (by unfold fitB; rw [if_pos rfl])
    go_enter Tryz.func80, Tryz.ntmps80
    go_wp2_with fail
    refine (HC.out _).mono ?_
    rintro e w' ⟨rfl, rfl⟩
    go_wp2
    go_ret
    exact ⟨by rw [HE.out]; rfl, HB.out⟩
  · by_cases h7 : uk = 7
    · subst h7
      have HE : Hid (fitB (tk, ts.toList) (7, us.toList) = (tk == 7)) := Lib.hid (by unfold fitB; rw [if_neg (by show ¬ (7 : Int) = 3; decide), if_pos rfl])
      clear HC
      go_enter Tryz.func80, Tryz.ntmps80
      go_wp2
      go_ret
      exact ⟨by rw [HE.out]; rfl, HB.out⟩
    · have HE : Hid (fitB (tk, ts.toList) (uk, us.toList) = (tk == uk && ts.toList == us.toList)) := Lib.hid (by unfold fitB; rw [if_neg h3, if_neg h7])
      clear HC
      cases hk : tk == uk with
      | true =>
        rw [hk] at HE
        go_enter Tryz.func80, Tryz.ntmps80
        go_wp2
        go_ret
        exact ⟨by rw [HE.out]; rfl, HB.out⟩
      | false =>
        rw [hk] at HE
        go_enter Tryz.func80, Tryz.ntmps80
        go_wp2
        go_ret
        exact ⟨by rw [HE.out]; rfl, HB.out⟩

set_option maxRecDepth 20000 in
theorem value_any (t : TK) (w : World) (ht : Tab w) (hl : t.s.toList.length ≤ 1000000) :
    Calls Tryz.prog 66 #[.agg #[.int .i64 t.k, .int .i64 t.f, .int .i64 t.t, .string t.s, .int .i64 t.e]] w fun e w' => e = .returned (.int .i64 (valV t.s.toList)) ∧ Below w.heap.size w w' := by
  obtain ⟨w1, hw1⟩ : ∃ w1, w1 = w.alloc (.cells #[.int .i64 t.k, .int .i64 t.f, .int .i64 t.t, .string t.s, .int .i64 t.e] 96) := ⟨_, rfl⟩
  obtain ⟨B, hB⟩ : ∃ B, B = w.heap.size := ⟨_, rfl⟩
  have HB1 : Hid (Below w.heap.size w w1) := Lib.hid (by rw [hw1]; exact below_new w _)
  have HT1 : Hid (Tab w1) := Lib.hid (ht.keep HB1.out)
  have h5 : T5 w1 B t := by rw [hw1, hB]; exact T5.new w t
  obtain ⟨x0, x1, x2, x3, x4⟩ := h5.cells
  obtain ⟨q, C, w2, hcv, hbs, hb2⟩ := conv_str w1 t.s (nb t.s.toList) (toList_inj (bstr_nb _).symm) (nb_rng' _) (by unfold nb; rw [List.length_map]; exact hl)
  obtain ⟨m, hm⟩ : ∃ m, m = (nb t.s.toList).length := ⟨_, rfl⟩
  have hval : dkN (nb t.s.toList) = valV t.s.toList := rfl
  obtain ⟨l, hll⟩ : ∃ l, l = nb t.s.toList := ⟨_, rfl⟩
  rw [← hm] at hcv hbs
  rw [← hll] at hbs hval
  have HBS := Lib.hid hbs
  have HV := Lib.hid hval
  have HB2 : Hid (Below w.heap.size w w2) := Lib.hid (HB1.out.trans (hb2.mono HB1.out.size))
  have HT2 : Hid (Tab w2) := Lib.hid (HT1.out.keep hb2)
  clear hl hm hll hbs hb2 hval h5 ht
  go_enter Tryz.func66, Tryz.ntmps66
  go_wp2_with fail
  rw [← hw1, ← hB]
  clear hw1 hB
  rw [hcv]
  simp only [Result.andThen]
  rw [Oper.upon_value]
  go_wp2_with fail
  refine (dtake_any _ _ _ l w2 HBS.out HT2.out).mono ?_
  unfold dkV
  rw [HV.out]
  rintro e w3 ⟨rfl, hb3⟩
  have HB3 : Hid (Below w.heap.size w w3) := Lib.hid (HB2.out.trans (hb3.mono HB2.out.size))
  clear hb3
  go_wp2
  go_ret
  exact ⟨rfl, HB3.out⟩

/-! ### What a word and a text make -/

set_option maxRecDepth 20000 in
theorem form_any (a q : Nm) (w : World) (ht : TabK w) (hq : q.length ≤ 1000000) :
    Calls Tryz.prog 81 #[.string (mk a), .string (mk q)] w fun e w' => e = .returned (simT (frmV a q)) ∧ Below w.heap.size w w' := by
  have HS : Hid (∀ w', TabK w' → Calls Tryz.prog 104 #[.string (mk a), .string (mk q)] w' fun e w'' => e = .returned (simT (simV a q)) ∧ Below w'.heap.size w' w'') := Lib.hid fun w' h => simple_any a q w' h hq
  have HT := Lib.hid ht
  clear ht
  cases h1 : ((mk a).toList == [108, 101, 102, 116]) with
  | true =>
    have HE : Hid (frmV a q = (q, 1, 0)) := Lib.hid (by have := eq_of_beq h1; rw [mk_toList] at this; unfold frmV; rw [if_pos this])
    clear HS
    go_enter Tryz.func81, Tryz.ntmps81
    go_wp2
    go_ret3
    exact ⟨by rw [HE.out]; rfl, Below.refl _ _⟩
  | false =>
    have n1 := beq_eq_false_iff_ne.1 h1
    rw [mk_toList] at n1
    cases h2 : ((mk a).toList == [114, 105, 103, 104, 116]) with
    | true =>
      have HE : Hid (frmV a q = (q, 2, 0)) := Lib.hid (by have := eq_of_beq h2; rw [mk_toList] at this; unfold frmV; rw [if_neg n1, if_pos this])
      clear HS n1
      go_enter Tryz.func81, Tryz.ntmps81
      go_wp2
      go_ret3
      exact ⟨by rw [HE.out]; rfl, Below.refl _ _⟩
    | false =>
      have n2 := beq_eq_false_iff_ne.1 h2
      rw [mk_toList] at n2
      cases h3 : ((mk a).toList == [110, 111, 110]) with
      | true =>
        have HE : Hid (frmV a q = (q, 0, 0)) := Lib.hid (by have := eq_of_beq h3; rw [mk_toList] at this; unfold frmV; rw [if_neg n1, if_neg n2, if_pos this])
        clear HS n1 n2
        go_enter Tryz.func81, Tryz.ntmps81
        go_wp2
        go_ret3
        exact ⟨by rw [HE.out]; rfl, Below.refl _ _⟩
      | false =>
        have HE : Hid (frmV a q = simV a q) := Lib.hid (by have n3 := beq_eq_false_iff_ne.1 h3; rw [mk_toList] at n3; unfold frmV; rw [if_neg n1, if_neg n2, if_neg n3])
        clear n1 n2
        go_enter Tryz.func81, Tryz.ntmps81
        go_wp2_with fail
        refine (HS.out _ HT.out).mono ?_
        unfold simT
        rintro e w1 ⟨rfl, hb1⟩
        have HB1 := Lib.hid hb1
        clear hb1
        go_wp2
        go_ret3
        exact ⟨by rw [HE.out]; rfl, HB1.out⟩

set_option maxRecDepth 20000 in
theorem ddrop_any (p : Nm) (w : World) (ht : Tab w) (hp : p.length ≤ 1000000) :
    Calls Tryz.prog 82 #[.string (mk p)] w fun e w' => e = .returned (dclV (if (ofS p).isSome then (⟨2, p, 0, 0, 0, 0⟩, 0) else (d0, 23))) ∧ Below w.heap.size w w' := by
  obtain ⟨w1, hw1⟩ : ∃ w1, w1 = w.alloc (.cells #[.int .i64 0, .string { data := #[] }, .int .i64 0, .int .i64 0, .int .i64 0, .int .i64 0] 53) := ⟨_, rfl⟩
  obtain ⟨B, hB⟩ : ∃ B, B = w.heap.size := ⟨_, rfl⟩
  have HB1 : Hid (Below w.heap.size w w1) := Lib.hid (by rw [hw1]; exact below_new w _)
  have HD1 : Hid (DB w1 B d0) := Lib.hid (by rw [hw1, hB]; exact DB.new w)
  have HT1 : Hid (Tab w1) := Lib.hid (ht.keep HB1.out)
  have HOF : Hid (∀ w, Tab w → Calls Tryz.prog 47 #[.string (mk p)] w fun e w' => ∃ a n c, e = .returned (shV a n c (ofR p)) ∧ Below w.heap.size w w') := Lib.hid fun w h => by
    refine (sof_any p w h hp).mono ?_
    rintro e w' ⟨a, n, c, h1, _, h2⟩
    exact ⟨a, n, c, h1, h2⟩
  have HBW := Lib.hid hB
  clear ht
  obtain ⟨s, l, r, k, hR⟩ : ∃ P l r k, ofR p = (⟨P, l, r⟩, k) := ⟨_, _, _, _, rfl⟩
  have HK : Hid (((ofS p).isSome = true → k = 0) ∧ ((ofS p).isSome = false → k = 23)) := Lib.hid (by
    unfold ofR at hR
    cases hO : ofS p with
    | none => rw [hO] at hR; simp only [Prod.mk.injEq] at hR; exact ⟨(fun h => by cases h), fun _ => hR.2.symm⟩
    | some x => rw [hO] at hR; simp only [Prod.mk.injEq] at hR; exact ⟨fun _ => hR.2.symm, (fun h => by cases h)⟩)
  rw [hR] at HOF
  simp only [shV] at HOF
  clear hR
  go_enter Tryz.func82, Tryz.ntmps82
  go_wp2_with fail
  rw [← hw1, ← hB]
  clear hw1 hB
  refine (HOF.out w1 HT1.out).mono ?_
  rintro e w2 ⟨sa, sn, sc, rfl, hb2⟩
  obtain ⟨w3, hw3⟩ : ∃ w3, w3 = w2.alloc (.cells #[.slice sa sn sc, .bool l, .bool r] 72) := ⟨_, rfl⟩
  have HB13 : Hid (Below w1.heap.size w1 w3) := Lib.hid (by rw [hw3]; exact hb2.alloc hb2.size _)
  have HD3 : Hid (DB w3 B d0) := Lib.hid (HD1.out.below HB13.out)
  have HB3 : Hid (Below w.heap.size w w3) := Lib.hid (HB1.out.trans (HB13.out.mono HB1.out.size))
  have HBB : Hid (w.heap.size ≤ B) := Lib.hid (by rw [HBW.out]; exact Nat.le_refl _)
  clear hb2
  cases ho : (ofS p).isSome with
  | true =>
    obtain rfl : k = 0 := HK.out.1 ho
    go_upto_region 2 with fail
    rw [← hw3]
    clear hw3
    go_wp2_with (first
      | (refine build_run rfl 28 #[(0, .tmp 15)] rfl (.agg #[.string (mk p), .int .i64 0, .int .i64 0]) (by kernel_rfl) ?_)
      | (refine build_run rfl 53 #[(0, .const (.int .i64 2)), (1, .tmp 16)] rfl (DC.v ⟨2, p, 0, 0, 0, 0⟩) (by kernel_rfl) ?_)
      | (refine store_decl rfl (.tmp 2) (.tmp 17) rfl B rfl ⟨2, p, 0, 0, 0, 0⟩ rfl d0 HD3.out ?_; intro w4 hd4 ho4; have HD4 := Lib.hid hd4; have HB4 : Hid (Below w.heap.size w w4) := Lib.hid (HB3.out.trans (ho4 _ HBB.out)); clear hd4 ho4))
    exact bodyPost_ret (ret_decl rfl _ _ B ⟨2, p, 0, 0, 0, 0⟩ rfl HD4.out) rfl ⟨rfl, HB4.out⟩
  | false =>
    obtain rfl : k = 23 := HK.out.2 ho
    go_upto_region 2 with fail
    rw [← hw3]
    clear hw3
    go_wp2_with (refine store_decl rfl (.tmp 2) (.tmp 13) rfl B rfl d0 rfl d0 HD3.out ?_; intro w4 hd4 ho4; have HD4 := Lib.hid hd4; have HB4 : Hid (Below w.heap.size w w4) := Lib.hid (HB3.out.trans (ho4 _ HBB.out)); clear hd4 ho4)
    all_goals exact bodyPost_ret (ret_decl rfl _ _ B d0 rfl HD4.out) rfl ⟨rfl, HB4.out⟩

end Go.Proofs.YtjkjbgekpkhpfaaGreatDoor
