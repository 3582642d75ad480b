/- ScopeRefuses (laid by genZr.py). -/
import Derived.Test.YtcpmpidpoelleaaDoorZj
import Derived.Test.YtcpmpidpoelleaaDoorZk
import Derived.Test.YtcpmpidpoelleaaDoorM1
import Derived.Test.YtcpmpidpoelleaaDoorMP
import Derived.Deep.DeepCutAuto
import Derived.Laws.BitsAllLaws
namespace Go.Proofs.YtcpmpidpoelleaaDoor
open Go.RowKit

/-- A number masked with 1023. -/
theorem mask10 (a : Int) : ∃ m : Nat, bits .and .i64 a 1023 = m ∧ m ≤ 1023 := by
  refine ⟨(BitVec.ofInt 64 a).toNat &&& 1023, ?_, Nat.and_le_right⟩
  show IntKind.i64.wrap ((BitVec.ofInt 64 a &&& BitVec.ofInt 64 1023).toNat : Int) = _
  rw [BitVec.toNat_and, show (BitVec.ofInt 64 1023).toNat = 1023 by decide]
  exact IntWalk.i64_in _ (by have : (BitVec.ofInt 64 a).toNat &&& 1023 ≤ 1023 := Nat.and_le_right; omega)
def dL (odd : Int) : List DV := [(1, ([97], 1, 0), 0, 0), (2, ([95, 43, 95], 0, 0), 0, 0), (3, ([], 0, 0), 2, 4), (5, ([], 0, 0), 0, 0), (odd, ([], 0, 0), 0, 0), (3, ([], 0, 0), 0, 4)]
def wL : List Int := [23, 2, 25, 26, 20, 21]
theorem may_a : mayV [97] 1 0 = 23 := by decide +kernel
theorem edge_24 : eE zS 2 4 = 25 := by decide +kernel
theorem edge_04 : eE zS 0 4 = 21 := by decide +kernel
theorem ref_one {odd : Int} (ho : odd < 0 ∨ 6 ≤ odd) : ∀ k, k < 6 → stpE scS (dvA (dL odd) k) = bt wL k
  | 0, _ => by
    show stpE scS (1, ([97], 1, 0), 0, 0) = 23
    unfold stpE
    rw [if_pos rfl]
    rw [(addE_bad (L := scS.e.1) (o := ([97], 1, 0)) (by rw [show mayV _ _ _ = 23 from may_a]; decide)).1]
    exact may_a
  | 1, _ => by
    show stpE scS (2, ([95, 43, 95], 0, 0), 0, 0) = 2
    unfold stpE
    rw [if_neg (show ¬ (2 : Int) = 1 by decide), if_pos rfl]
    rfl
  | 2, _ => by
    show stpE scS (3, ([], 0, 0), 2, 4) = 25
    unfold stpE
    rw [if_neg (show ¬ (3 : Int) = 1 by decide), if_neg (show ¬ (3 : Int) = 2 by decide), if_pos rfl]
    exact edge_24
  | 3, _ => (step_none (s := scS) (d := (5, ([], 0, 0), 0, 0)) rfl rfl).1
  | 4, _ => by
    show stpE scS (odd, ([], 0, 0), 0, 0) = 20
    unfold stpE
    dsimp only
    rw [if_neg (by omega), if_neg (by omega), if_neg (by omega), if_neg (by omega), if_neg (by omega)]
  | 5, _ => by
    show stpE scS (3, ([], 0, 0), 0, 4) = 21
    unfold stpE
    rw [if_neg (show ¬ (3 : Int) = 1 by decide), if_neg (show ¬ (3 : Int) = 2 by decide), if_pos rfl]
    exact edge_04
theorem wL_no : ∀ k, k < 6 → bt wL k ≠ 0 := by decide
theorem ref_two {odd : Int} (ho : odd < 0 ∨ 6 ≤ odd) {k : Nat} (hk : k < 6) : stpV scS (dvA (dL odd) k) = sc0 := by
  unfold stpV
  rw [ref_one ho k hk, if_neg (wL_no k hk)]
theorem dL_short (odd : Int) : ∀ k, k < 6 → (dvA (dL odd) k).2.1.1.length ≤ 3
  | 0, _ => by show ([97] : Nm).length ≤ 3; decide
  | 1, _ => by show ([95, 43, 95] : Nm).length ≤ 3; decide
  | 2, _ => by show ([] : Nm).length ≤ 3; decide
  | 3, _ => by show ([] : Nm).length ≤ 3; decide
  | 4, _ => by show ([] : Nm).length ≤ 3; decide
  | 5, _ => by show ([] : Nm).length ≤ 3; decide
theorem decl_range {w : World} {D off : Nat} {d : DV} (h : ∀ j, j < 6 → w.cell? ⟨D, off + j, none⟩ = (dvC d)[j]?) : w.rangeAt D off (dvC d) := fun j v hv => by
  have hj : j < 6 := (List.getElem?_eq_some_iff.1 hv).1
  rw [h j hj]; exact hv
theorem decl_info6 : (Tryd.prog.info? 35).map (·.size) = some 6 := by kernel_rfl
/-- In a region that draws: a directive of which S gives the cells may be read first. -/
theorem take_decl {md : Region.Mode} {ops : Array Oper} {Q : Exit → Act → World → Prop} {S : World → Prop} {fuel : Nat} {listed : Array Bool} {A : Act} {w : World} {i : Nat} {oi : Oper} (x : Operand) (hi : ops[i]? = some oi)
    (hs : Region.noSelect ops = true) (hf : Region.free md ops listed i = true) (hr : (Region.ready md ops listed).contains i = true) (d : DV)
    (hQ : ∀ c' a' w, Q (.panic c') (a'.put oi.dst (.agg (dA d))) w → Q (.panic c') a' w) (hw : Region.wanted oi (yielded ops A.tmps) = true) (ho : oi.op = .load 35 x) (D off : Nat) (hx : A.eval x = .pointer (some ⟨D, off, none⟩))
    (hS : ∀ w, S w → ∀ j, j < 6 → w.cell? ⟨D, off + j, none⟩ = (dvC d)[j]?) (h0 : S w)
    (k : wpAnyH Tryd.prog md ops Q S fuel (listed.setIfInBounds i true) (A.put oi.dst (.agg (dA d))) w) : wpAnyH Tryd.prog md ops Q S (fuel + 1) listed A w :=
  wpAnyH_take hi hs hf hr hQ (yieldsIf_load_mid hw 35 x ho D off hx (dvC d) _ (fun w h => decl_range (hS w h)) Tryd.underlying35 rfl decl_info6) h0 k
/-- The six directives' block. -/
def DD (w : World) (D : Nat) (odd : Int) : Prop := w.heap[D]? = some (.cells (cD (dL odd)).toArray 36 (0, 0))
theorem DD.below {w w' : World} {D : Nat} {odd : Int} (h : DD w D odd) (hb : Below w.heap.size w w') : DD w' D odd := (hb.block D (Array.getElem?_eq_some_iff.1 h).1).trans h
theorem DD.only {w w' : World} {D g : Nat} {odd : Int} (h : DD w D odd) (ho : Only g w w') (hne : D ≠ g) : DD w' D odd := (ho.block D hne).trans h
theorem DD.at {w : World} {D : Nat} {odd : Int} (h : DD w D odd) {k : Nat} (hk : k < 6) : ∀ j, j < 6 → w.cell? ⟨D, k * 6 + j, none⟩ = (dvC (dvA (dL odd) k))[j]? := fun j hj => by
  rw [cell_of_row w D (k * 6 + j) _ _ _ h, List.getElem?_toArray, cD_at (dL odd) k hk j hj, dvA_eq hk]
theorem dL_one (odd : Int) : (cD (dL odd)).toArray.all (·.oneCell') = true := by kernel_rfl
theorem decls_info : (Tryd.prog.info? 36).map (·.size) = some 36 := by kernel_rfl
def zD : Array Value := (cD [(0, ([], 0, 0), 0, 0), (0, ([], 0, 0), 0, 0), (0, ([], 0, 0), 0, 0), (0, ([], 0, 0), 0, 0), (0, ([], 0, 0), 0, 0), (0, ([], 0, 0), 0, 0)]).toArray
theorem build_decls {ops : Array Oper} {rest : List Oper} {o : Oper} {A : Act} {w : World} {Q : Exit → Act → World → Prop} (hgd : o.guard = none) (p0 p1 p2 p3 p4 p5 : Operand) (ho : o.op = .build 36 #[(0, p0), (1, p1), (2, p2), (3, p3), (4, p4), (5, p5)])
    (odd : Int) (h0 : A.eval p0 = .agg (dA (dvA (dL odd) 0))) (h1 : A.eval p1 = .agg (dA (dvA (dL odd) 1))) (h2 : A.eval p2 = .agg (dA (dvA (dL odd) 2))) (h3 : A.eval p3 = .agg (dA (dvA (dL odd) 3))) (h4 : A.eval p4 = .agg (dA (dvA (dL odd) 4))) (h5 : A.eval p5 = .agg (dA (dvA (dL odd) 5)))
    (k : wpList Tryd.prog ops Q rest (A.put o.dst (.agg (cD (dL odd)).toArray)) w) : wpList Tryd.prog ops Q (o :: rest) A w :=
  wpList_plain hgd fun K hK => by
    have hr : (Instr.build 36 #[(0, .agg (dA (dvA (dL odd) 0))), (1, .agg (dA (dvA (dL odd) 1))), (2, .agg (dA (dvA (dL odd) 2))), (3, .agg (dA (dvA (dL odd) 3))), (4, .agg (dA (dvA (dL odd) 4))), (5, .agg (dA (dvA (dL odd) 5)))]).run Tryd.prog w = .ok (.agg (cD (dL odd)).toArray) w := by kernel_rfl
    unfold Oper.wp execOp
    simp only [ho, List.map_toArray, List.map_cons, List.map_nil, h0, h1, h2, h3, h4, h5, hr, Sem.run_bind, Result.andThen_ok, Sem.run_pure]
    exact hK _ _ k
theorem store_decls {ops : Array Oper} {rest : List Oper} {o : Oper} {A : Act} {w : World} {Q : Exit → Act → World → Prop} (hgd : o.guard = none) (p q : Operand) (ho : o.op = .store 36 p q)
    (b : Nat) (hx : A.eval p = .pointer (some ⟨b, 0, none⟩)) (odd : Int) (hy : A.eval q = .agg (cD (dL odd)).toArray) (old : Array Value) (hold : old.size = 36) (h : w.heap[b]? = some (.cells old 36 (0, 0)))
    (k : ∀ w', DD w' b odd → Only b w w' → wpList Tryd.prog ops Q rest (A.put o.dst undef) w') : wpList Tryd.prog ops Q (o :: rest) A w :=
  wpList_store_row hgd 36 p q ho b _ hx hy _ _ h decls_info (by rw [hold]; rfl) (dL_one odd) (k _ (setRow_heap w b _ _ _ _ h) (Only.ofRow w b _))
/-- The six errors' block. -/
def WW (w : World) (D : Nat) : Prop := w.heap[D]? = some (.cells #[.int .i64 23, .int .i64 2, .int .i64 25, .int .i64 26, .int .i64 20, .int .i64 21] 38 (0, 0))
theorem WW.below {w w' : World} {D : Nat} (h : WW w D) (hb : Below w.heap.size w w') : WW w' D := (hb.block D (Array.getElem?_eq_some_iff.1 h).1).trans h
theorem wL_at : ∀ k, k < 6 → (#[Value.int .i64 23, .int .i64 2, .int .i64 25, .int .i64 26, .int .i64 20, .int .i64 21] : Array Value)[k]? = some (.int .i64 (bt wL k))
  | 0, _ => rfl
  | 1, _ => rfl
  | 2, _ => rfl
  | 3, _ => rfl
  | 4, _ => rfl
  | 5, _ => rfl
theorem WW.at {w : World} {D : Nat} (h : WW w D) {k : Nat} (hk : k < 6) : w.cell? ⟨D, k, none⟩ = some (.int .i64 (bt wL k)) := by
  rw [cell_of_row w D k _ _ _ h]
  exact wL_at k hk
theorem load_srows {ops : Array Oper} {rest : List Oper} {o : Oper} {A : Act} {w : World} {Q : Exit → Act → World → Prop} (hw : Region.wanted o (yielded ops A.tmps) = true) (p : Operand) (ho : o.op = .load 25 p)
    (b : Nat) (hx : A.eval p = .pointer (some ⟨b, 1, none⟩)) (x : XV) (hz : x.e.z.length = 10) (h : SB w b x)
    (k : wpList Tryd.prog ops Q rest (A.put o.dst (.agg (rv x.e.z))) w) : wpList Tryd.prog ops Q (o :: rest) A w :=
  wpList_step fun K hK => by
    rw [if_pos hw]
    exact wp_load_mid 25 p ho b 1 hx (rlz x.e.z) _ (fun j v hv => by
      have hj : j < 10 := by have := (List.getElem?_eq_some_iff.1 hv).1; rw [rl_len hz] at this; exact this
      rw [h.at hz (show 1 + j < 11 by omega)]
      simpa [ev, Nat.add_comm 1 j] using hv) Tryd.underlying25 rfl (by rw [rl_len hz]; exact info_rows) (hK _ _ k)

set_option maxRecDepth 20000 in
set_option maxHeartbeats 16000000 in
theorem scopeRefuses_any (a0 a1 : Int) (w : World) (ht : Tab w) (h0 : 0 ≤ a0 ∧ a0 ≤ 255) :
    Calls Tryd.prog 3 #[.int .u8 a0, .int .i64 a1] w fun e w' => e = .returned (.bool true) ∧ Below w.heap.size w w' := by
  have hnew : ∀ W : World, SB (W.alloc (.cells #[.slice none 0 0, .int .i64 0, .int .i64 0, .int .i64 0, .int .i64 0, .int .i64 0, .int .i64 0, .int .i64 0, .int .i64 0, .int .i64 0, .int .i64 0, .slice none 0 0] 30)) W.heap.size x0 := fun W => SB.new W x0
  obtain ⟨m, hm, hm1⟩ := mask10 a1
  obtain ⟨k, hk⟩ : ∃ k : Nat, Int.tmod a0 6 = (k : Int) := ⟨(Int.tmod a0 6).toNat, by rw [Int.tmod_eq_emod_of_nonneg h0.1]; omega⟩
  have hke : a0 % 6 = (k : Int) := by rw [← hk, Int.tmod_eq_emod_of_nonneg h0.1]
  have hk6 : k < 6 := by omega
  have hk6i : (k : Int) < 6 := by omega
  obtain ⟨h00, h01⟩ := h0
  have HT := Lib.hid ht
  clear ht
  obtain ⟨odd, ho, hod⟩ : ∃ odd : Int, (odd < 0 ∨ 6 ≤ odd) ∧ ((a1 < 0 ∧ odd = -1 - (m : Int)) ∨ (¬ a1 < 0 ∧ odd = 6 + (m : Int))) := by
    by_cases hn : a1 < 0
    · exact ⟨-1 - (m : Int), by omega, .inl ⟨hn, rfl⟩⟩
    · exact ⟨6 + (m : Int), by omega, .inr ⟨hn, rfl⟩⟩
  have HOD := Lib.hid ho
  go_enter Tryd.func3, Tryd.ntmps3
  go_wp2_with fail
  refine (lshown_any w HT.out).mono ?_
  rintro e w1 ⟨rfl, hb1⟩
  have HB1 : Hid (Below w.heap.size w w1) := Lib.hid hb1
  clear hb1
  go_wp2_with fail
  refine (sstart_any w1).mono ?_
  rintro e w2 ⟨rfl, hb2⟩
  have HB2 : Hid (Below w.heap.size w w2) := Lib.hid (HB1.out.trans (hb2.mono HB1.out.size))
  clear hb2
  obtain ⟨S, hS⟩ : ∃ S, S = w2.heap.size := ⟨_, rfl⟩
  rcases hod with ⟨hn, rfl⟩ | ⟨hn, rfl⟩
  · go_upto_region 9 with (first
      | (refine store_decls rfl (.tmp 8) (.tmp 32) rfl _ rfl (-1 - (m : Int)) rfl _ (by rfl) (heap_alloc_new w3 _) ?_; rw [← hD]; intro w4 hd4 hq4; have HD4 := Lib.hid hd4; have HB34 : Hid (Below w3.heap.size w3 w4) := Lib.hid ((below_alloc w3 _).trans (hq4.below (by rw [hD]; exact Nat.le_refl _))); obtain ⟨Wb, hWb⟩ : ∃ Wb, Wb = w4.heap.size := ⟨_, rfl⟩; clear hd4 hq4 hD)
      | (refine build_decls rfl (.tmp 24) (.tmp 26) (.tmp 27) (.tmp 28) (.tmp 30) (.tmp 31) rfl (-1 - (m : Int)) rfl rfl rfl rfl rfl rfl ?_)
      | (refine store_scope rfl (.tmp 6) (.tmp 14) rfl _ rfl xS rfl rfl x0 rfl (hnew w2) ?_; rw [← hS]; intro w3 he3 hq3; have HS3 := Lib.hid he3; have HB23 : Hid (Below w2.heap.size w2 w3) := Lib.hid ((below_alloc w2 _).trans (hq3.below (by rw [hS]; exact Nat.le_refl _))); obtain ⟨D, hD⟩ : ∃ D, D = w3.heap.size := ⟨_, rfl⟩; clear he3 hq3 hS))
    obtain ⟨w5, hw5⟩ : ∃ w5, w5 = w4.alloc (.cells #[.int .i64 23, .int .i64 2, .int .i64 25, .int .i64 26, .int .i64 20, .int .i64 21] 38) := ⟨_, rfl⟩
    rw [← hw5, ← hWb]
    have HW5 : Hid (WW w5 Wb) := Lib.hid (by rw [hw5, hWb]; exact heap_alloc_new w4 _)
    have HB45 : Hid (Below w4.heap.size w4 w5) := Lib.hid (by rw [hw5]; exact below_alloc w4 _)
    have HD5 := Lib.hid (HD4.out.below HB45.out)
    have HS5 := Lib.hid ((HS3.out.below HB34.out).below HB45.out)
    have HB5 : Hid (Below w.heap.size w w5) := Lib.hid (HB2.out.trans ((HB23.out.trans ((HB34.out.trans (HB45.out.mono HB34.out.size)).mono HB23.out.size)).mono HB2.out.size))
    have HT5 := Lib.hid (HT.out.keep HB5.out)
    clear hw5 hWb
    go_cut [11, 12] (fun u v wx => ∃ T y, u = .pointer (some ⟨T, 0, none⟩) ∧ v = .int .i64 (bt wL k) ∧ Hid (SB wx T y) ∧ Hid (y.own wx ∧ y.k = sc0) ∧ Hid (Below w5.heap.size w5 wx))
    case first =>
      have HKS : Hid (∀ w', Below w5.heap.size w5 w' → (fun w' => SB w' S xS ∧ DD w' D (-1 - (m : Int))) w') := Lib.hid fun w' hb => ⟨HS5.out.below hb, HD5.out.below hb⟩
      have HKO : Hid (∀ u v X, w5.heap.size ≤ X → (fun w' => SB w' S xS ∧ DD w' D (-1 - (m : Int))) u → Only X u v → (fun w' => SB w' S xS ∧ DD w' D (-1 - (m : Int))) v) := Lib.hid fun u v X hX h ho => ⟨h.1.only ho (by have := HS5.out.lt; omega), h.2.only ho (by have := (Array.getElem?_eq_some_iff.1 HD5.out).1; omega)⟩
      refine wp_region_noPanic ?_
      refine wp_region_held_drew (S := fun w' => SB w' S xS ∧ DD w' D (-1 - (m : Int))) (by kernel_rfl) (HKS.out _ (Below.refl _ _).drew) (fun hHeld => ?_)
      refine take_scope (i := 0) (oi := { dst := some 37, op := Op.load 30 (Operand.tmp 6), type := 30, pos := "more.go:26", after := #[], guard := none }) (Operand.tmp 6) rfl (by kernel_rfl) (by kernel_rfl) (by kernel_rfl) xS (fun _ _ _ h => h) (by rfl) rfl (S) (0) rfl rfl (fun w h j hj => by rw [Nat.zero_add, h.1.cj j]; unfold sv; rw [List.getElem?_toArray]) (by assumption) ?_
      try simp only [Act.put, List.setIfInBounds_toArray, List.set_cons_zero, List.set_cons_succ]
      refine wpAnyH_take (i := 1) (oi := { dst := some 38, op := Op.move (Operand.tmp 10), type := 5, pos := "more.go:26", after := #[], guard := none }) (v := ?_) rfl (by kernel_rfl) (by kernel_rfl) (by kernel_rfl) (fun _ _ _ h => h) (Or.inl ⟨by rfl, ?_⟩) (by assumption) ?_
      rotate_left
      · intro w' hSw
        try dsimp only at hSw
        go_simp
        try with_reducible rfl
      try simp only [Act.put, List.setIfInBounds_toArray, List.set_cons_zero, List.set_cons_succ]
      refine wpAnyH_take (i := 2) (oi := { dst := some 39, op := Op.indexAddr 36 (Operand.tmp 8) (Operand.tmp 38), type := 0, pos := "more.go:26", after := #[{ on := 1, ground := Ground.data }], guard := none }) (v := ?_) rfl (by kernel_rfl) (by kernel_rfl) (by kernel_rfl) (fun _ _ _ h => h) (Or.inl ⟨by rfl, ?_⟩) (by assumption) ?_
      rotate_left
      · intro w' hSw
        try dsimp only at hSw
        go_simp
        try with_reducible rfl
      try simp only [Act.put, List.setIfInBounds_toArray, List.set_cons_zero, List.set_cons_succ]
      refine take_decl (i := 3) (oi := { dst := some 40, op := Op.load 35 (Operand.tmp 39), type := 35, pos := "more.go:26", after := #[{ on := 2, ground := Ground.data }], guard := none }) (Operand.tmp 39) rfl (by kernel_rfl) (by kernel_rfl) (by kernel_rfl) (dvA (dL (-1 - (m : Int))) k) (fun _ _ _ h => h) (by rfl) rfl (D) (k * 6) rfl (fun w h => h.2.at hk6) (by assumption) ?_
      try simp only [Act.put, List.setIfInBounds_toArray, List.set_cons_zero, List.set_cons_succ]
      refine wpAnyH_ready (rs := [4, 8]) (by kernel_rfl) (by simp) ?_
      refine AllReadyH.cons (o := { dst := some 41, op := Op.call { callee := Callee.value (Operand.func 6), args := #[Operand.tmp 37, Operand.tmp 40], argTypes := #[30, 35] }, type := 39, pos := "more.go:26", after := #[{ on := 0, ground := Ground.data }, { on := 3, ground := Ground.data }], guard := none }) rfl (fun K hK => ?_) ?_
      · go_simp
        (go_at_call 6; (refine (sstep_any xS (dvA (dL (-1 - (m : Int))) k) _ (HT5.out.keep (Below.refl w5.heap.size w5).drew) (xS_own _).ok okS_start (by have := dL_short (-1 - (m : Int)) k hk6; omega)).mono ?_); rw [xS_k, ref_one HOD.out k hk6, ref_two HOD.out hk6]; rintro e v1 ⟨y1, rfl, ho1, hk1, hb1⟩)
        have HB1 : Hid (Below w5.heap.size w5 v1) := Lib.hid ((Below.refl w5.heap.size w5).drew.trans (hb1.mono (Below.refl w5.heap.size w5).drew.size))
        have HY1 := Lib.hid (And.intro ho1 hk1)
        clear ho1 hk1 hb1
        refine hK.out _ _ (HKS.out _ HB1.out) (fun hHeld => ?_)
        clear hK K
        try simp only [Act.put, List.setIfInBounds_toArray, List.set_cons_zero, List.set_cons_succ]
        refine wpAnyH_take (i := 5) (oi := { dst := some 36, op := Op.move (Operand.tmp 41), type := 39, pos := "more.go:26", after := #[{ on := 4, ground := Ground.data }], guard := none }) (v := ?_) rfl (by kernel_rfl) (by kernel_rfl) (by kernel_rfl) (fun _ _ _ h => h) (Or.inl ⟨by rfl, ?_⟩) (by assumption) ?_
        rotate_left
        · intro w' hSw
          try dsimp only at hSw
          go_simp
          try with_reducible rfl
        try simp only [Act.put, List.setIfInBounds_toArray, List.set_cons_zero, List.set_cons_succ]
        refine wpAnyH_take (i := 6) (oi := { dst := some 42, op := Op.extract (Operand.tmp 36) 0, type := 30, pos := "more.go:26", after := #[{ on := 5, ground := Ground.data }], guard := none }) (v := ?_) rfl (by kernel_rfl) (by kernel_rfl) (by kernel_rfl) (fun _ _ _ h => h) (Or.inl ⟨by rfl, ?_⟩) (by assumption) ?_
        rotate_left
        · intro w' hSw
          try dsimp only at hSw
          go_simp
          try with_reducible rfl
        try simp only [Act.put, List.setIfInBounds_toArray, List.set_cons_zero, List.set_cons_succ]
        refine wpAnyH_take (i := 7) (oi := { dst := some 43, op := Op.extract (Operand.tmp 36) 1, type := 37, pos := "more.go:26", after := #[{ on := 5, ground := Ground.data }, { on := 9, ground := Ground.gcOnly Departure.lateStores }], guard := none }) (v := ?_) rfl (by kernel_rfl) (by kernel_rfl) (by kernel_rfl) (fun _ _ _ h => h) (Or.inl ⟨by rfl, ?_⟩) (by assumption) ?_
        rotate_left
        · intro w' hSw
          try dsimp only at hSw
          go_simp
          try with_reducible rfl
        try simp only [Act.put, List.setIfInBounds_toArray, List.set_cons_zero, List.set_cons_succ]
        refine wpAnyH_ready (rs := [8]) (by kernel_rfl) (by simp) ?_
        refine AllReadyH.cons (o := { dst := some 11, op := Op.alloc 30, type := 0, pos := "more.go:26", after := #[], guard := none }) rfl (fun K hK => ?_) ?_
        · refine step_newS rfl rfl ?_
          intro v2 X2 hX2 hn2 hb2
          have HB2 : Hid (Below w5.heap.size w5 v2) := Lib.hid (HB1.out.trans (hb2.mono HB1.out.size))
          have HN2 := Lib.hid hn2
          have HG2 : Hid (w5.heap.size ≤ X2) := Lib.hid (by rw [hX2]; exact HB1.out.size)
          have HY2 := Lib.hid (And.intro (HY1.out.1.below hb2) HY1.out.2)
          clear hX2 hn2 hb2
          refine hK.out _ _ (HKS.out _ HB2.out) (fun hHeld => ?_)
          clear hK K
          try simp only [Act.put, List.setIfInBounds_toArray, List.set_cons_zero, List.set_cons_succ]
          refine wpAnyH_ready (rs := [9]) (by kernel_rfl) (by simp) ?_
          refine AllReadyH.cons (o := { dst := none, op := Op.store 30 (Operand.tmp 11) (Operand.tmp 42), type := 0, pos := "more.go:26", after := #[{ on := 8, ground := Ground.data }, { on := 6, ground := Ground.data }, { on := 4, ground := Ground.chain }, { on := 0, ground := Ground.phase }, { on := 1, ground := Ground.phase }, { on := 2, ground := Ground.phase }, { on := 3, ground := Ground.phase }, { on := 4, ground := Ground.phase }, { on := 5, ground := Ground.phase }, { on := 6, ground := Ground.phase }, { on := 7, ground := Ground.textOnly Departure.lateStores }, { on := 8, ground := Ground.phase }], guard := none }) rfl (fun K hK => ?_) ?_
          · refine step_store_scope rfl (.tmp 11) (.tmp 42) rfl X2 rfl y1 rfl HY2.out.1.z x0 rfl HN2.out ?_
            intro v3 hn3 hq3
            have HN3 := Lib.hid hn3
            have HQ3 := Lib.hid hq3
            clear hn3 hq3
            refine hK.out _ _ (HKO.out _ _ X2 HG2.out (HKS.out _ HB2.out) HQ3.out) (fun hHeld => ?_)
            clear hK K
            try simp only [Act.put]
            refine wpAnyH_take (i := 10) (oi := { dst := some 12, op := Op.assign (Operand.tmp 43), type := 37, pos := "more.go:26", after := #[{ on := 7, ground := Ground.data }, { on := 9, ground := Ground.chain }, { on := 0, ground := Ground.phase }, { on := 1, ground := Ground.phase }, { on := 2, ground := Ground.phase }, { on := 3, ground := Ground.phase }, { on := 4, ground := Ground.phase }, { on := 5, ground := Ground.phase }, { on := 6, ground := Ground.phase }, { on := 7, ground := Ground.phase }, { on := 8, ground := Ground.phase }, { on := 9, ground := Ground.phase }], guard := none }) (v := ?_) rfl (by kernel_rfl) (by kernel_rfl) (by kernel_rfl) (fun _ _ _ h => h) (Or.inl ⟨by rfl, ?_⟩) (by assumption) ?_
            rotate_left
            · intro w' hSw
              try dsimp only at hSw
              go_simp
              try with_reducible rfl
            try simp only [Act.put, List.setIfInBounds_toArray, List.set_cons_zero, List.set_cons_succ]
            refine wpAnyH_done (by kernel_rfl) ?_ _
            refine NoPanic.normal ?_
            go_wp2
            go_meet
            exact ⟨_, y1, rfl, rfl, HN3, Lib.hid ⟨HY2.out.1.kp (Kp.scope HN2.out HQ3.out), HY2.out.2⟩, Lib.hid (HB2.out.trans (HQ3.out.below HG2.out))⟩
          exact AllReadyH.nil
        exact AllReadyH.nil
      refine AllReadyH.cons (o := { dst := some 11, op := Op.alloc 30, type := 0, pos := "more.go:26", after := #[], guard := none }) rfl (fun K hK => ?_) ?_
      · refine step_newS rfl rfl ?_
        intro v4 X4 hX4 hn4 hb4
        have HB4 : Hid (Below w5.heap.size w5 v4) := Lib.hid ((Below.refl w5.heap.size w5).drew.trans (hb4.mono (Below.refl w5.heap.size w5).drew.size))
        have HN4 := Lib.hid hn4
        have HG4 : Hid (w5.heap.size ≤ X4) := Lib.hid (by rw [hX4]; exact (Below.refl w5.heap.size w5).drew.size)
        clear hX4 hn4 hb4
        refine hK.out _ _ (HKS.out _ HB4.out) (fun hHeld => ?_)
        clear hK K
        try simp only [Act.put, List.setIfInBounds_toArray, List.set_cons_zero, List.set_cons_succ]
        refine wpAnyH_ready (rs := [4]) (by kernel_rfl) (by simp) ?_
        refine AllReadyH.cons (o := { dst := some 41, op := Op.call { callee := Callee.value (Operand.func 6), args := #[Operand.tmp 37, Operand.tmp 40], argTypes := #[30, 35] }, type := 39, pos := "more.go:26", after := #[{ on := 0, ground := Ground.data }, { on := 3, ground := Ground.data }], guard := none }) rfl (fun K hK => ?_) ?_
        · go_simp
          (go_at_call 6; (refine (sstep_any xS (dvA (dL (-1 - (m : Int))) k) _ (HT5.out.keep HB4.out) (xS_own _).ok okS_start (by have := dL_short (-1 - (m : Int)) k hk6; omega)).mono ?_); rw [xS_k, ref_one HOD.out k hk6, ref_two HOD.out hk6]; rintro e v5 ⟨y5, rfl, ho5, hk5, hb5⟩)
          have HB5 : Hid (Below w5.heap.size w5 v5) := Lib.hid (HB4.out.trans (hb5.mono HB4.out.size))
          have HY5 := Lib.hid (And.intro ho5 hk5)
          have HN5 := Lib.hid (HN4.out.below hb5)
          clear ho5 hk5 hb5
          refine hK.out _ _ (HKS.out _ HB5.out) (fun hHeld => ?_)
          clear hK K
          try simp only [Act.put, List.setIfInBounds_toArray, List.set_cons_zero, List.set_cons_succ]
          refine wpAnyH_take (i := 5) (oi := { dst := some 36, op := Op.move (Operand.tmp 41), type := 39, pos := "more.go:26", after := #[{ on := 4, ground := Ground.data }], guard := none }) (v := ?_) rfl (by kernel_rfl) (by kernel_rfl) (by kernel_rfl) (fun _ _ _ h => h) (Or.inl ⟨by rfl, ?_⟩) (by assumption) ?_
          rotate_left
          · intro w' hSw
            try dsimp only at hSw
            go_simp
            try with_reducible rfl
          try simp only [Act.put, List.setIfInBounds_toArray, List.set_cons_zero, List.set_cons_succ]
          refine wpAnyH_take (i := 6) (oi := { dst := some 42, op := Op.extract (Operand.tmp 36) 0, type := 30, pos := "more.go:26", after := #[{ on := 5, ground := Ground.data }], guard := none }) (v := ?_) rfl (by kernel_rfl) (by kernel_rfl) (by kernel_rfl) (fun _ _ _ h => h) (Or.inl ⟨by rfl, ?_⟩) (by assumption) ?_
          rotate_left
          · intro w' hSw
            try dsimp only at hSw
            go_simp
            try with_reducible rfl
          try simp only [Act.put, List.setIfInBounds_toArray, List.set_cons_zero, List.set_cons_succ]
          refine wpAnyH_take (i := 7) (oi := { dst := some 43, op := Op.extract (Operand.tmp 36) 1, type := 37, pos := "more.go:26", after := #[{ on := 5, ground := Ground.data }, { on := 9, ground := Ground.gcOnly Departure.lateStores }], guard := none }) (v := ?_) rfl (by kernel_rfl) (by kernel_rfl) (by kernel_rfl) (fun _ _ _ h => h) (Or.inl ⟨by rfl, ?_⟩) (by assumption) ?_
          rotate_left
          · intro w' hSw
            try dsimp only at hSw
            go_simp
            try with_reducible rfl
          try simp only [Act.put, List.setIfInBounds_toArray, List.set_cons_zero, List.set_cons_succ]
          refine wpAnyH_ready (rs := [9]) (by kernel_rfl) (by simp) ?_
          refine AllReadyH.cons (o := { dst := none, op := Op.store 30 (Operand.tmp 11) (Operand.tmp 42), type := 0, pos := "more.go:26", after := #[{ on := 8, ground := Ground.data }, { on := 6, ground := Ground.data }, { on := 4, ground := Ground.chain }, { on := 0, ground := Ground.phase }, { on := 1, ground := Ground.phase }, { on := 2, ground := Ground.phase }, { on := 3, ground := Ground.phase }, { on := 4, ground := Ground.phase }, { on := 5, ground := Ground.phase }, { on := 6, ground := Ground.phase }, { on := 7, ground := Ground.textOnly Departure.lateStores }, { on := 8, ground := Ground.phase }], guard := none }) rfl (fun K hK => ?_) ?_
          · refine step_store_scope rfl (.tmp 11) (.tmp 42) rfl X4 rfl y5 rfl HY5.out.1.z x0 rfl HN5.out ?_
            intro v6 hn6 hq6
            have HN6 := Lib.hid hn6
            have HQ6 := Lib.hid hq6
            clear hn6 hq6
            refine hK.out _ _ (HKO.out _ _ X4 HG4.out (HKS.out _ HB5.out) HQ6.out) (fun hHeld => ?_)
            clear hK K
            try simp only [Act.put]
            refine wpAnyH_take (i := 10) (oi := { dst := some 12, op := Op.assign (Operand.tmp 43), type := 37, pos := "more.go:26", after := #[{ on := 7, ground := Ground.data }, { on := 9, ground := Ground.chain }, { on := 0, ground := Ground.phase }, { on := 1, ground := Ground.phase }, { on := 2, ground := Ground.phase }, { on := 3, ground := Ground.phase }, { on := 4, ground := Ground.phase }, { on := 5, ground := Ground.phase }, { on := 6, ground := Ground.phase }, { on := 7, ground := Ground.phase }, { on := 8, ground := Ground.phase }, { on := 9, ground := Ground.phase }], guard := none }) (v := ?_) rfl (by kernel_rfl) (by kernel_rfl) (by kernel_rfl) (fun _ _ _ h => h) (Or.inl ⟨by rfl, ?_⟩) (by assumption) ?_
            rotate_left
            · intro w' hSw
              try dsimp only at hSw
              go_simp
              try with_reducible rfl
            try simp only [Act.put, List.setIfInBounds_toArray, List.set_cons_zero, List.set_cons_succ]
            refine wpAnyH_done (by kernel_rfl) ?_ _
            refine NoPanic.normal ?_
            go_wp2
            go_meet
            exact ⟨_, y5, rfl, rfl, HN6, Lib.hid ⟨HY5.out.1.kp (Kp.scope HN5.out HQ6.out), HY5.out.2⟩, Lib.hid (HB5.out.trans (HQ6.out.below HG4.out))⟩
          exact AllReadyH.nil
        exact AllReadyH.nil
      exact AllReadyH.nil
    case rest =>
    obtain ⟨T, y, rfl, rfl, HTB, HY, HBX⟩ := hcut
    obtain ⟨wk, hwk⟩ : ∃ wk, wk = wc := ⟨_, rfl⟩
    rw [← hwk] at HTB HY HBX ⊢
    clear hwk
    have HZ : Hid (y.e.z.length = 10) := Lib.hid HY.out.1.z
    have HZZ : Hid (y.e.z = z0) := Lib.hid (congrArg (fun s : SC => s.e.2) HY.out.2)
    have L := XV.lens HY.out.1
    rw [HY.out.2] at L
    have c0 := HTB.out.c0 HZ.out
    have c11 := HTB.out.c11 HZ.out
    rw [show y.e.n = 0 from L.1] at c0
    rw [show y.n = 0 from L.2] at c11
    have cw := (HW5.out.below HBX.out).at hk6
    have heq : ∀ w, (Op.equalIn 10000 25 (.agg (rv z0)) (.agg #[.int .i64 0, .int .i64 0, .int .i64 0, .int .i64 0, .int .i64 0, .int .i64 0, .int .i64 0, .int .i64 0, .int .i64 0, .int .i64 0])).run Tryd.prog w = .ok true w := fun w => (eq_rows' z0 z0 rfl rfl w).trans (by simp)
    clear L
    go_wp2_with (refine load_srows rfl (.tmp 67) rfl T rfl y HZ.out HTB.out ?_; rw [HZZ.out])
    go_ret
    exact ⟨rfl, HB5.out.trans (HBX.out.mono HB5.out.size)⟩
  · go_upto_region 9 with (first
      | (refine store_decls rfl (.tmp 8) (.tmp 32) rfl _ rfl (6 + (m : Int)) rfl _ (by rfl) (heap_alloc_new w3 _) ?_; rw [← hD]; intro w4 hd4 hq4; have HD4 := Lib.hid hd4; have HB34 : Hid (Below w3.heap.size w3 w4) := Lib.hid ((below_alloc w3 _).trans (hq4.below (by rw [hD]; exact Nat.le_refl _))); obtain ⟨Wb, hWb⟩ : ∃ Wb, Wb = w4.heap.size := ⟨_, rfl⟩; clear hd4 hq4 hD)
      | (refine build_decls rfl (.tmp 24) (.tmp 26) (.tmp 27) (.tmp 28) (.tmp 30) (.tmp 31) rfl (6 + (m : Int)) rfl rfl rfl rfl rfl rfl ?_)
      | (refine store_scope rfl (.tmp 6) (.tmp 14) rfl _ rfl xS rfl rfl x0 rfl (hnew w2) ?_; rw [← hS]; intro w3 he3 hq3; have HS3 := Lib.hid he3; have HB23 : Hid (Below w2.heap.size w2 w3) := Lib.hid ((below_alloc w2 _).trans (hq3.below (by rw [hS]; exact Nat.le_refl _))); obtain ⟨D, hD⟩ : ∃ D, D = w3.heap.size := ⟨_, rfl⟩; clear he3 hq3 hS))
    obtain ⟨w5, hw5⟩ : ∃ w5, w5 = w4.alloc (.cells #[.int .i64 23, .int .i64 2, .int .i64 25, .int .i64 26, .int .i64 20, .int .i64 21] 38) := ⟨_, rfl⟩
    rw [← hw5, ← hWb]
    have HW5 : Hid (WW w5 Wb) := Lib.hid (by rw [hw5, hWb]; exact heap_alloc_new w4 _)
    have HB45 : Hid (Below w4.heap.size w4 w5) := Lib.hid (by rw [hw5]; exact below_alloc w4 _)
    have HD5 := Lib.hid (HD4.out.below HB45.out)
    have HS5 := Lib.hid ((HS3.out.below HB34.out).below HB45.out)
    have HB5 : Hid (Below w.heap.size w w5) := Lib.hid (HB2.out.trans ((HB23.out.trans ((HB34.out.trans (HB45.out.mono HB34.out.size)).mono HB23.out.size)).mono HB2.out.size))
    have HT5 := Lib.hid (HT.out.keep HB5.out)
    clear hw5 hWb
    go_cut [11, 12] (fun u v wx => ∃ T y, u = .pointer (some ⟨T, 0, none⟩) ∧ v = .int .i64 (bt wL k) ∧ Hid (SB wx T y) ∧ Hid (y.own wx ∧ y.k = sc0) ∧ Hid (Below w5.heap.size w5 wx))
    case first =>
      have HKS : Hid (∀ w', Below w5.heap.size w5 w' → (fun w' => SB w' S xS ∧ DD w' D (6 + (m : Int))) w') := Lib.hid fun w' hb => ⟨HS5.out.below hb, HD5.out.below hb⟩
      have HKO : Hid (∀ u v X, w5.heap.size ≤ X → (fun w' => SB w' S xS ∧ DD w' D (6 + (m : Int))) u → Only X u v → (fun w' => SB w' S xS ∧ DD w' D (6 + (m : Int))) v) := Lib.hid fun u v X hX h ho => ⟨h.1.only ho (by have := HS5.out.lt; omega), h.2.only ho (by have := (Array.getElem?_eq_some_iff.1 HD5.out).1; omega)⟩
      refine wp_region_noPanic ?_
      refine wp_region_held_drew (S := fun w' => SB w' S xS ∧ DD w' D (6 + (m : Int))) (by kernel_rfl) (HKS.out _ (Below.refl _ _).drew) (fun hHeld => ?_)
      refine take_scope (i := 0) (oi := { dst := some 37, op := Op.load 30 (Operand.tmp 6), type := 30, pos := "more.go:26", after := #[], guard := none }) (Operand.tmp 6) rfl (by kernel_rfl) (by kernel_rfl) (by kernel_rfl) xS (fun _ _ _ h => h) (by rfl) rfl (S) (0) rfl rfl (fun w h j hj => by rw [Nat.zero_add, h.1.cj j]; unfold sv; rw [List.getElem?_toArray]) (by assumption) ?_
      try simp only [Act.put, List.setIfInBounds_toArray, List.set_cons_zero, List.set_cons_succ]
      refine wpAnyH_take (i := 1) (oi := { dst := some 38, op := Op.move (Operand.tmp 10), type := 5, pos := "more.go:26", after := #[], guard := none }) (v := ?_) rfl (by kernel_rfl) (by kernel_rfl) (by kernel_rfl) (fun _ _ _ h => h) (Or.inl ⟨by rfl, ?_⟩) (by assumption) ?_
      rotate_left
      · intro w' hSw
        try dsimp only at hSw
        go_simp
        try with_reducible rfl
      try simp only [Act.put, List.setIfInBounds_toArray, List.set_cons_zero, List.set_cons_succ]
      refine wpAnyH_take (i := 2) (oi := { dst := some 39, op := Op.indexAddr 36 (Operand.tmp 8) (Operand.tmp 38), type := 0, pos := "more.go:26", after := #[{ on := 1, ground := Ground.data }], guard := none }) (v := ?_) rfl (by kernel_rfl) (by kernel_rfl) (by kernel_rfl) (fun _ _ _ h => h) (Or.inl ⟨by rfl, ?_⟩) (by assumption) ?_
      rotate_left
      · intro w' hSw
        try dsimp only at hSw
        go_simp
        try with_reducible rfl
      try simp only [Act.put, List.setIfInBounds_toArray, List.set_cons_zero, List.set_cons_succ]
      refine take_decl (i := 3) (oi := { dst := some 40, op := Op.load 35 (Operand.tmp 39), type := 35, pos := "more.go:26", after := #[{ on := 2, ground := Ground.data }], guard := none }) (Operand.tmp 39) rfl (by kernel_rfl) (by kernel_rfl) (by kernel_rfl) (dvA (dL (6 + (m : Int))) k) (fun _ _ _ h => h) (by rfl) rfl (D) (k * 6) rfl (fun w h => h.2.at hk6) (by assumption) ?_
      try simp only [Act.put, List.setIfInBounds_toArray, List.set_cons_zero, List.set_cons_succ]
      refine wpAnyH_ready (rs := [4, 8]) (by kernel_rfl) (by simp) ?_
      refine AllReadyH.cons (o := { dst := some 41, op := Op.call { callee := Callee.value (Operand.func 6), args := #[Operand.tmp 37, Operand.tmp 40], argTypes := #[30, 35] }, type := 39, pos := "more.go:26", after := #[{ on := 0, ground := Ground.data }, { on := 3, ground := Ground.data }], guard := none }) rfl (fun K hK => ?_) ?_
      · go_simp
        (go_at_call 6; (refine (sstep_any xS (dvA (dL (6 + (m : Int))) k) _ (HT5.out.keep (Below.refl w5.heap.size w5).drew) (xS_own _).ok okS_start (by have := dL_short (6 + (m : Int)) k hk6; omega)).mono ?_); rw [xS_k, ref_one HOD.out k hk6, ref_two HOD.out hk6]; rintro e v1 ⟨y1, rfl, ho1, hk1, hb1⟩)
        have HB1 : Hid (Below w5.heap.size w5 v1) := Lib.hid ((Below.refl w5.heap.size w5).drew.trans (hb1.mono (Below.refl w5.heap.size w5).drew.size))
        have HY1 := Lib.hid (And.intro ho1 hk1)
        clear ho1 hk1 hb1
        refine hK.out _ _ (HKS.out _ HB1.out) (fun hHeld => ?_)
        clear hK K
        try simp only [Act.put, List.setIfInBounds_toArray, List.set_cons_zero, List.set_cons_succ]
        refine wpAnyH_take (i := 5) (oi := { dst := some 36, op := Op.move (Operand.tmp 41), type := 39, pos := "more.go:26", after := #[{ on := 4, ground := Ground.data }], guard := none }) (v := ?_) rfl (by kernel_rfl) (by kernel_rfl) (by kernel_rfl) (fun _ _ _ h => h) (Or.inl ⟨by rfl, ?_⟩) (by assumption) ?_
        rotate_left
        · intro w' hSw
          try dsimp only at hSw
          go_simp
          try with_reducible rfl
        try simp only [Act.put, List.setIfInBounds_toArray, List.set_cons_zero, List.set_cons_succ]
        refine wpAnyH_take (i := 6) (oi := { dst := some 42, op := Op.extract (Operand.tmp 36) 0, type := 30, pos := "more.go:26", after := #[{ on := 5, ground := Ground.data }], guard := none }) (v := ?_) rfl (by kernel_rfl) (by kernel_rfl) (by kernel_rfl) (fun _ _ _ h => h) (Or.inl ⟨by rfl, ?_⟩) (by assumption) ?_
        rotate_left
        · intro w' hSw
          try dsimp only at hSw
          go_simp
          try with_reducible rfl
        try simp only [Act.put, List.setIfInBounds_toArray, List.set_cons_zero, List.set_cons_succ]
        refine wpAnyH_take (i := 7) (oi := { dst := some 43, op := Op.extract (Operand.tmp 36) 1, type := 37, pos := "more.go:26", after := #[{ on := 5, ground := Ground.data }, { on := 9, ground := Ground.gcOnly Departure.lateStores }], guard := none }) (v := ?_) rfl (by kernel_rfl) (by kernel_rfl) (by kernel_rfl) (fun _ _ _ h => h) (Or.inl ⟨by rfl, ?_⟩) (by assumption) ?_
        rotate_left
        · intro w' hSw
          try dsimp only at hSw
          go_simp
          try with_reducible rfl
        try simp only [Act.put, List.setIfInBounds_toArray, List.set_cons_zero, List.set_cons_succ]
        refine wpAnyH_ready (rs := [8]) (by kernel_rfl) (by simp) ?_
        refine AllReadyH.cons (o := { dst := some 11, op := Op.alloc 30, type := 0, pos := "more.go:26", after := #[], guard := none }) rfl (fun K hK => ?_) ?_
        · refine step_newS rfl rfl ?_
          intro v2 X2 hX2 hn2 hb2
          have HB2 : Hid (Below w5.heap.size w5 v2) := Lib.hid (HB1.out.trans (hb2.mono HB1.out.size))
          have HN2 := Lib.hid hn2
          have HG2 : Hid (w5.heap.size ≤ X2) := Lib.hid (by rw [hX2]; exact HB1.out.size)
          have HY2 := Lib.hid (And.intro (HY1.out.1.below hb2) HY1.out.2)
          clear hX2 hn2 hb2
          refine hK.out _ _ (HKS.out _ HB2.out) (fun hHeld => ?_)
          clear hK K
          try simp only [Act.put, List.setIfInBounds_toArray, List.set_cons_zero, List.set_cons_succ]
          refine wpAnyH_ready (rs := [9]) (by kernel_rfl) (by simp) ?_
          refine AllReadyH.cons (o := { dst := none, op := Op.store 30 (Operand.tmp 11) (Operand.tmp 42), type := 0, pos := "more.go:26", after := #[{ on := 8, ground := Ground.data }, { on := 6, ground := Ground.data }, { on := 4, ground := Ground.chain }, { on := 0, ground := Ground.phase }, { on := 1, ground := Ground.phase }, { on := 2, ground := Ground.phase }, { on := 3, ground := Ground.phase }, { on := 4, ground := Ground.phase }, { on := 5, ground := Ground.phase }, { on := 6, ground := Ground.phase }, { on := 7, ground := Ground.textOnly Departure.lateStores }, { on := 8, ground := Ground.phase }], guard := none }) rfl (fun K hK => ?_) ?_
          · refine step_store_scope rfl (.tmp 11) (.tmp 42) rfl X2 rfl y1 rfl HY2.out.1.z x0 rfl HN2.out ?_
            intro v3 hn3 hq3
            have HN3 := Lib.hid hn3
            have HQ3 := Lib.hid hq3
            clear hn3 hq3
            refine hK.out _ _ (HKO.out _ _ X2 HG2.out (HKS.out _ HB2.out) HQ3.out) (fun hHeld => ?_)
            clear hK K
            try simp only [Act.put]
            refine wpAnyH_take (i := 10) (oi := { dst := some 12, op := Op.assign (Operand.tmp 43), type := 37, pos := "more.go:26", after := #[{ on := 7, ground := Ground.data }, { on := 9, ground := Ground.chain }, { on := 0, ground := Ground.phase }, { on := 1, ground := Ground.phase }, { on := 2, ground := Ground.phase }, { on := 3, ground := Ground.phase }, { on := 4, ground := Ground.phase }, { on := 5, ground := Ground.phase }, { on := 6, ground := Ground.phase }, { on := 7, ground := Ground.phase }, { on := 8, ground := Ground.phase }, { on := 9, ground := Ground.phase }], guard := none }) (v := ?_) rfl (by kernel_rfl) (by kernel_rfl) (by kernel_rfl) (fun _ _ _ h => h) (Or.inl ⟨by rfl, ?_⟩) (by assumption) ?_
            rotate_left
            · intro w' hSw
              try dsimp only at hSw
              go_simp
              try with_reducible rfl
            try simp only [Act.put, List.setIfInBounds_toArray, List.set_cons_zero, List.set_cons_succ]
            refine wpAnyH_done (by kernel_rfl) ?_ _
            refine NoPanic.normal ?_
            go_wp2
            go_meet
            exact ⟨_, y1, rfl, rfl, HN3, Lib.hid ⟨HY2.out.1.kp (Kp.scope HN2.out HQ3.out), HY2.out.2⟩, Lib.hid (HB2.out.trans (HQ3.out.below HG2.out))⟩
          exact AllReadyH.nil
        exact AllReadyH.nil
      refine AllReadyH.cons (o := { dst := some 11, op := Op.alloc 30, type := 0, pos := "more.go:26", after := #[], guard := none }) rfl (fun K hK => ?_) ?_
      · refine step_newS rfl rfl ?_
        intro v4 X4 hX4 hn4 hb4
        have HB4 : Hid (Below w5.heap.size w5 v4) := Lib.hid ((Below.refl w5.heap.size w5).drew.trans (hb4.mono (Below.refl w5.heap.size w5).drew.size))
        have HN4 := Lib.hid hn4
        have HG4 : Hid (w5.heap.size ≤ X4) := Lib.hid (by rw [hX4]; exact (Below.refl w5.heap.size w5).drew.size)
        clear hX4 hn4 hb4
        refine hK.out _ _ (HKS.out _ HB4.out) (fun hHeld => ?_)
        clear hK K
        try simp only [Act.put, List.setIfInBounds_toArray, List.set_cons_zero, List.set_cons_succ]
        refine wpAnyH_ready (rs := [4]) (by kernel_rfl) (by simp) ?_
        refine AllReadyH.cons (o := { dst := some 41, op := Op.call { callee := Callee.value (Operand.func 6), args := #[Operand.tmp 37, Operand.tmp 40], argTypes := #[30, 35] }, type := 39, pos := "more.go:26", after := #[{ on := 0, ground := Ground.data }, { on := 3, ground := Ground.data }], guard := none }) rfl (fun K hK => ?_) ?_
        · go_simp
          (go_at_call 6; (refine (sstep_any xS (dvA (dL (6 + (m : Int))) k) _ (HT5.out.keep HB4.out) (xS_own _).ok okS_start (by have := dL_short (6 + (m : Int)) k hk6; omega)).mono ?_); rw [xS_k, ref_one HOD.out k hk6, ref_two HOD.out hk6]; rintro e v5 ⟨y5, rfl, ho5, hk5, hb5⟩)
          have HB5 : Hid (Below w5.heap.size w5 v5) := Lib.hid (HB4.out.trans (hb5.mono HB4.out.size))
          have HY5 := Lib.hid (And.intro ho5 hk5)
          have HN5 := Lib.hid (HN4.out.below hb5)
          clear ho5 hk5 hb5
          refine hK.out _ _ (HKS.out _ HB5.out) (fun hHeld => ?_)
          clear hK K
          try simp only [Act.put, List.setIfInBounds_toArray, List.set_cons_zero, List.set_cons_succ]
          refine wpAnyH_take (i := 5) (oi := { dst := some 36, op := Op.move (Operand.tmp 41), type := 39, pos := "more.go:26", after := #[{ on := 4, ground := Ground.data }], guard := none }) (v := ?_) rfl (by kernel_rfl) (by kernel_rfl) (by kernel_rfl) (fun _ _ _ h => h) (Or.inl ⟨by rfl, ?_⟩) (by assumption) ?_
          rotate_left
          · intro w' hSw
            try dsimp only at hSw
            go_simp
            try with_reducible rfl
          try simp only [Act.put, List.setIfInBounds_toArray, List.set_cons_zero, List.set_cons_succ]
          refine wpAnyH_take (i := 6) (oi := { dst := some 42, op := Op.extract (Operand.tmp 36) 0, type := 30, pos := "more.go:26", after := #[{ on := 5, ground := Ground.data }], guard := none }) (v := ?_) rfl (by kernel_rfl) (by kernel_rfl) (by kernel_rfl) (fun _ _ _ h => h) (Or.inl ⟨by rfl, ?_⟩) (by assumption) ?_
          rotate_left
          · intro w' hSw
            try dsimp only at hSw
            go_simp
            try with_reducible rfl
          try simp only [Act.put, List.setIfInBounds_toArray, List.set_cons_zero, List.set_cons_succ]
          refine wpAnyH_take (i := 7) (oi := { dst := some 43, op := Op.extract (Operand.tmp 36) 1, type := 37, pos := "more.go:26", after := #[{ on := 5, ground := Ground.data }, { on := 9, ground := Ground.gcOnly Departure.lateStores }], guard := none }) (v := ?_) rfl (by kernel_rfl) (by kernel_rfl) (by kernel_rfl) (fun _ _ _ h => h) (Or.inl ⟨by rfl, ?_⟩) (by assumption) ?_
          rotate_left
          · intro w' hSw
            try dsimp only at hSw
            go_simp
            try with_reducible rfl
          try simp only [Act.put, List.setIfInBounds_toArray, List.set_cons_zero, List.set_cons_succ]
          refine wpAnyH_ready (rs := [9]) (by kernel_rfl) (by simp) ?_
          refine AllReadyH.cons (o := { dst := none, op := Op.store 30 (Operand.tmp 11) (Operand.tmp 42), type := 0, pos := "more.go:26", after := #[{ on := 8, ground := Ground.data }, { on := 6, ground := Ground.data }, { on := 4, ground := Ground.chain }, { on := 0, ground := Ground.phase }, { on := 1, ground := Ground.phase }, { on := 2, ground := Ground.phase }, { on := 3, ground := Ground.phase }, { on := 4, ground := Ground.phase }, { on := 5, ground := Ground.phase }, { on := 6, ground := Ground.phase }, { on := 7, ground := Ground.textOnly Departure.lateStores }, { on := 8, ground := Ground.phase }], guard := none }) rfl (fun K hK => ?_) ?_
          · refine step_store_scope rfl (.tmp 11) (.tmp 42) rfl X4 rfl y5 rfl HY5.out.1.z x0 rfl HN5.out ?_
            intro v6 hn6 hq6
            have HN6 := Lib.hid hn6
            have HQ6 := Lib.hid hq6
            clear hn6 hq6
            refine hK.out _ _ (HKO.out _ _ X4 HG4.out (HKS.out _ HB5.out) HQ6.out) (fun hHeld => ?_)
            clear hK K
            try simp only [Act.put]
            refine wpAnyH_take (i := 10) (oi := { dst := some 12, op := Op.assign (Operand.tmp 43), type := 37, pos := "more.go:26", after := #[{ on := 7, ground := Ground.data }, { on := 9, ground := Ground.chain }, { on := 0, ground := Ground.phase }, { on := 1, ground := Ground.phase }, { on := 2, ground := Ground.phase }, { on := 3, ground := Ground.phase }, { on := 4, ground := Ground.phase }, { on := 5, ground := Ground.phase }, { on := 6, ground := Ground.phase }, { on := 7, ground := Ground.phase }, { on := 8, ground := Ground.phase }, { on := 9, ground := Ground.phase }], guard := none }) (v := ?_) rfl (by kernel_rfl) (by kernel_rfl) (by kernel_rfl) (fun _ _ _ h => h) (Or.inl ⟨by rfl, ?_⟩) (by assumption) ?_
            rotate_left
            · intro w' hSw
              try dsimp only at hSw
              go_simp
              try with_reducible rfl
            try simp only [Act.put, List.setIfInBounds_toArray, List.set_cons_zero, List.set_cons_succ]
            refine wpAnyH_done (by kernel_rfl) ?_ _
            refine NoPanic.normal ?_
            go_wp2
            go_meet
            exact ⟨_, y5, rfl, rfl, HN6, Lib.hid ⟨HY5.out.1.kp (Kp.scope HN5.out HQ6.out), HY5.out.2⟩, Lib.hid (HB5.out.trans (HQ6.out.below HG4.out))⟩
          exact AllReadyH.nil
        exact AllReadyH.nil
      exact AllReadyH.nil
    case rest =>
    obtain ⟨T, y, rfl, rfl, HTB, HY, HBX⟩ := hcut
    obtain ⟨wk, hwk⟩ : ∃ wk, wk = wc := ⟨_, rfl⟩
    rw [← hwk] at HTB HY HBX ⊢
    clear hwk
    have HZ : Hid (y.e.z.length = 10) := Lib.hid HY.out.1.z
    have HZZ : Hid (y.e.z = z0) := Lib.hid (congrArg (fun s : SC => s.e.2) HY.out.2)
    have L := XV.lens HY.out.1
    rw [HY.out.2] at L
    have c0 := HTB.out.c0 HZ.out
    have c11 := HTB.out.c11 HZ.out
    rw [show y.e.n = 0 from L.1] at c0
    rw [show y.n = 0 from L.2] at c11
    have cw := (HW5.out.below HBX.out).at hk6
    have heq : ∀ w, (Op.equalIn 10000 25 (.agg (rv z0)) (.agg #[.int .i64 0, .int .i64 0, .int .i64 0, .int .i64 0, .int .i64 0, .int .i64 0, .int .i64 0, .int .i64 0, .int .i64 0, .int .i64 0])).run Tryd.prog w = .ok true w := fun w => (eq_rows' z0 z0 rfl rfl w).trans (by simp)
    clear L
    go_wp2_with (refine load_srows rfl (.tmp 67) rfl T rfl y HZ.out HTB.out ?_; rw [HZZ.out])
    go_ret
    exact ⟨rfl, HB5.out.trans (HBX.out.mono HB5.out.size)⟩
end Go.Proofs.YtcpmpidpoelleaaDoor
