import Derived.Test.YtcjbhdgjcpnklaaGreatDoorRows
import Derived.Test.YtcjbhdgjcpnklaaGreatDoorChecked
import Derived.Deep.RegionLaw
import Derived.Laws.Rows
import Derived.Deep.MidRow
import Derived.Deep.RegionHeld3
import Derived.Deep.QuietTactic
import Derived.Laws.BitsAllLaws
import Derived.Laws.CopyOwn
import Derived.Lib.Hide
import Derived.Deep.OwnRows
import Derived.WalkKit
import Derived.IntWalk
import Derived.DeepKeys
import Derived.Test.YtcjbhdgjcpnklaaGreatDoorV22
import Derived.Test.YtcjbhdgjcpnklaaGreatDoorV01
namespace Go.Proofs.YtcjbhdgjcpnklaaGreatDoor
section
open Go.RowKit
def rlz (z : List Int) : List Value := z.map (Value.int .i64)
abbrev rv (z : List Int) : Array Value := (rlz z).toArray
theorem zH7 {z : List Int} (hz : z.length = 10) : (rlz z).length = 10 := by simp [rlz, hz]
theorem zBY {z : List Int} (hz : z.length = 10) : (rv z).size = 10 := by simp [rv, rlz, hz]
theorem zOP {z : List Int} (hz : z.length = 10) {j : Nat} (hj : j < 10) : (rv z)[j]? = some (.int .i64 (bt z j)) := by
 simp [rv, rlz, bt, List.getD, show j < z.length by omega]
theorem zPj (z : List Int) (j : Nat) (x : Int) : (rv z).setIfInBounds j (.int .i64 x) = rv (z.set j x) := by
 simp [rv, rlz, List.map_set]
theorem zKJ (z : List Int) : (rv z).all (·.oneCell') = true := by
 rw [Array.all_eq_true_iff_forall_mem]
 intro v hv
 simp only [rv, rlz, List.mem_toArray, List.mem_map] at hv
 obtain ⟨x, _, rfl⟩ := hv
 rfl
theorem zA1 : (Tryz.prog.info? 32).map (·.size) = some 10 := by kernel_rfl
def RB (w : World) (g : Nat) (z : List Int) : Prop := w.heap[g]? = some (.cells (rv z) 32 (0, 0))
theorem RB.cell {w : World} {g : Nat} {z : List Int} (h : RB w g z) (hz : z.length = 10) {j : Nat} (hj : j < 10) : w.cell? ⟨g, j, none⟩ = some (.int .i64 (bt z j)) :=
 (cell_of_row w g j _ _ _ h).trans (zOP hz hj)
theorem RB.frozen {w : World} {g : Nat} {z : List Int} (h : RB w g z) (j : Nat) : w.frozen? ⟨g, j, none⟩ = false := frozen_of_row w g j _ _ h
theorem RB.set {w : World} {g : Nat} {z : List Int} (h : RB w g z) (j : Nat) (x : Int) : RB (w.setCell ⟨g, j, none⟩ (.int .i64 x)) g (z.set j x) := by
 have := heap_setCell_same w g j _ _ (.int .i64 x) h
 rw [zPj] at this; exact this
theorem RB.row {w : World} {g : Nat} {z : List Int} (h : RB w g z) (z' : List Int) : RB (w.setRow g (rv z')) g z' := setRow_heap w g _ _ _ _ h
theorem RB.keep {w w' : World} {g B : Nat} {z : List Int} (h : RB w g z) (hb : Below B w w') (hg : g < B) : RB w' g z := (hb.block g hg).trans h
theorem RB.lt {w : World} {g : Nat} {z : List Int} (h : RB w g z) : g < w.heap.size := (Array.getElem?_eq_some_iff.1 h).1
theorem RB.drew {w : World} {g : Nat} {z : List Int} (h : RB w g z) : RB w.drew g z := h
theorem RB.range {w : World} {g : Nat} {z : List Int} (h : RB w g z) : w.rangeAt g 0 (rlz z) := fun j v hv => by
 rw [Nat.zero_add, cell_of_row w g j _ _ _ h]; simpa using hv
theorem RB.there {w : World} {g : Nat} {z : List Int} (h : RB w g z) (hz : z.length = 10) : w.there g 0 10 := fun j hj => by
 rw [Nat.zero_add]; exact ⟨by rw [h.cell hz hj]; rfl, h.frozen j⟩
theorem RB.new (w : World) (z : List Int) : RB (w.alloc (.cells (rv z) 32)) w.heap.size z := heap_alloc_new w _
theorem RB.alloc {w : World} {g : Nat} {z : List Int} (h : RB w g z) (o : Obj) : RB (w.alloc o) g z := (Below.heap_alloc w o g h.lt).trans h
structure Only (g : Nat) (w w' : World) : Prop where
 os : w'.os = w.os
 tape : w'.tape = w.tape
 output : w'.output = w.output
 size : w'.heap.size = w.heap.size
 block : ∀ k, k ≠ g → w'.heap[k]? = w.heap[k]?
theorem Only.below {g B : Nat} {w w' : World} (h : Only g w w') (hB : B ≤ g) : Below B w w' := ⟨h.os, h.tape, h.output, by rw [h.size]; exact Nat.le_refl _, fun k hk => h.block k (by omega)⟩
theorem Only.rows {g k : Nat} {w w' : World} {z : List Int} (h : Only g w w') (hk : k ≠ g) (hz : RB w k z) : RB w' k z := (h.block k hk).trans hz
theorem Only.ofCell (w : World) (g j : Nat) (v : Value) : Only g w (w.setCell ⟨g, j, none⟩ v) := ⟨rfl, rfl, rfl, by simp [World.setCell], fun k hk => heap_setCell_other w _ k v hk⟩
theorem Only.ofRow (w : World) (g : Nat) (cs : Array Value) : Only g w (w.setRow g cs) := ⟨rfl, rfl, rfl, by simp, fun k hk => setRow_other w g k cs hk⟩
theorem Only.trans {g : Nat} {a b c : World} (h : Only g a b) (k : Only g b c) : Only g a c := ⟨k.os.trans h.os, k.tape.trans h.tape, k.output.trans h.output, k.size.trans h.size, fun i hi => (k.block i hi).trans (h.block i hi)⟩
theorem zAi {ops : Array Oper} {rest : List Oper} {o : Oper} {a : Act} {w : World} {Q : Exit → Act → World → Prop} (hw : Region.wanted o (yielded ops a.tmps) = true) (x : Operand) (ho : o.op = .load 32 x)
  (g : Nat) (hx : a.eval x = .pointer (some ⟨g, 0, none⟩)) (z : List Int) (hz : z.length = 10) (h : RB w g z)
  (k : wpList Tryz.prog ops Q rest (a.put o.dst (.agg (rv z))) w) : wpList Tryz.prog ops Q (o :: rest) a w :=
 wpList_step fun K hK => by
  rw [if_pos hw]
  exact wp_load_row 32 x ho g hx _ _ _ _ h Tryz.underlying32 rfl (by rw [zBY hz]; exact zA1) (hK _ _ k)
theorem zAW {ops : Array Oper} {rest : List Oper} {o : Oper} {a : Act} {w : World} {Q : Exit → Act → World → Prop} (hgd : o.guard = none) (x y : Operand) (ho : o.op = .store 32 x y)
  (g : Nat) (hx : a.eval x = .pointer (some ⟨g, 0, none⟩)) (z' : List Int) (hy : a.eval y = .agg (rv z')) (hz' : z'.length = 10) (z : List Int) (hz : z.length = 10) (h : RB w g z)
  (k : ∀ w', RB w' g z' → Only g w w' → wpList Tryz.prog ops Q rest (a.put o.dst undef) w') : wpList Tryz.prog ops Q (o :: rest) a w :=
 wpList_store_row hgd 32 x y ho g _ hx hy _ _ h (by rw [zBY hz']; exact zA1) (by rw [zBY hz, zBY hz']) (zKJ z') (k _ (h.row z') (Only.ofRow w g _))
theorem zFR {fn : Func} {p : Tmp} (h : fn.results = #[.cell p 32]) (tmps : Array Value) (w : World) (g : Nat) (z : List Int) (hz : z.length = 10)
  (hp : tmps.getD p undef = .pointer (some ⟨g, 0, none⟩)) (hg : RB w g z) : (results fn tmps).run Tryz.prog w = .ok (.agg (rv z)) w :=
 results_cell_row h tmps w g _ _ _ _ hp hg Tryz.underlying32 rfl (by rw [zBY hz]; exact zA1)
theorem zBy {fn : Func} {p u : Tmp} (h : fn.results = #[.cell p 32, .tmp u]) (tmps : Array Value) (w : World) (g : Nat) (z : List Int) (hz : z.length = 10)
  (hp : tmps.getD p undef = .pointer (some ⟨g, 0, none⟩)) (hg : RB w g z) : (results fn tmps).run Tryz.prog w = .ok (.tuple #[.agg (rv z), tmps.getD u undef]) w := by
 rw [results_cell_tmp h, hp]
 simp [asAddr, Result.andThen, run_loadVar_row w g _ 32 _ _ _ hg Tryz.underlying32 rfl (by rw [zBY hz]; exact zA1)]
theorem zD4 {md : Region.Mode} {ops : Array Oper} {Q : Exit → Act → World → Prop} {S : World → Prop} {fuel : Nat} {listed : Array Bool} {a : Act} {w : World} {i : Nat} {oi : Oper} (x : Operand) (hi : ops[i]? = some oi)
  (hs : Region.noSelect ops = true) (hf : Region.free md ops listed i = true) (hr : (Region.ready md ops listed).contains i = true) (z : List Int)
  (hQ : ∀ c a w, Q (.panic c) (a.put oi.dst (.agg (rv z))) w → Q (.panic c) a w) (hw : Region.wanted oi (yielded ops a.tmps) = true) (ho : oi.op = .load 32 x) (g : Nat) (hx : a.eval x = .pointer (some ⟨g, 0, none⟩))
  (hz : z.length = 10) (hS : ∀ w, S w → RB w g z) (h0 : S w)
  (k : wpAnyH Tryz.prog md ops Q S fuel (listed.setIfInBounds i true) (a.put oi.dst (.agg (rv z))) w) : wpAnyH Tryz.prog md ops Q S (fuel + 1) listed a w :=
 wpAnyH_take hi hs hf hr hQ (yieldsIf_load_mid hw 32 x ho g 0 hx (rlz z) _ (fun w h => (hS w h).range) Tryz.underlying32 rfl (by rw [zH7 hz]; exact zA1)) h0 k
theorem zEf {ops : Array Oper} {o : Oper} {a : Act} {w : World} {K : Act → World → Prop} {Q : Exit → Act → World → Prop} {E : Prop} (hgd : o.guard = none) (x : Operand) (ho : o.op = .load 32 x)
  (g : Nat) (hx : a.eval x = .pointer (some ⟨g, 0, none⟩)) (z : List Int) (hz : z.length = 10) (h : RB w g z) (k : K (a.put o.dst (.agg (rv z))) w) : if Region.wanted o (yielded ops a.tmps) = true then o.wp Tryz.prog a w K Q else E := by
 rw [if_pos (show Region.wanted o (yielded ops a.tmps) = true by simp [Region.wanted, hgd])]
 exact wp_load_row 32 x ho g hx _ _ _ _ h Tryz.underlying32 rfl (by rw [zBY hz]; exact zA1) k
theorem zD5 {ops : Array Oper} {o : Oper} {a : Act} {w : World} {K : Act → World → Prop} {Q : Exit → Act → World → Prop} {E : Prop} (hgd : o.guard = none) (x y : Operand) (ho : o.op = .store 32 x y)
  (g : Nat) (hx : a.eval x = .pointer (some ⟨g, 0, none⟩)) (z' : List Int) (hy : a.eval y = .agg (rv z')) (hz' : z'.length = 10) (z : List Int) (hz : z.length = 10) (h : RB w g z)
  (k : ∀ w', RB w' g z' → Only g w w' → K (a.put o.dst undef) w') : if Region.wanted o (yielded ops a.tmps) = true then o.wp Tryz.prog a w K Q else E := by
 rw [if_pos (show Region.wanted o (yielded ops a.tmps) = true by simp [Region.wanted, hgd])]
 exact wp_store_row 32 x y ho g _ hx hy _ _ h (by rw [zBY hz']; exact zA1) (by rw [zBY hz, zBY hz']) (zKJ z') (k _ (h.row z') (Only.ofRow w g _))
def z0 : List Int := [0, 0, 0, 0, 0, 0, 0, 0, 0, 0]
theorem zAF : z0.length = 10 := rfl
theorem zDa (w : World) (z : List Int) {w0 : World} (h : (w.alloc (.cells (rv z) 32)).alloc (.cells #[.int .i64 0, .int .i64 0, .int .i64 0, .int .i64 0, .int .i64 0, .int .i64 0, .int .i64 0, .int .i64 0, .int .i64 0, .int .i64 0] 32) = w0) :
  Below w.heap.size w w0 ∧ RB w0 w.heap.size z ∧ RB w0 (w.heap.size + 1) z0 ∧ w0.heap.size = w.heap.size + 2 := by
 subst h
 refine ⟨((Below.refl _ _).alloc (Nat.le_refl _) _).alloc (by simp) _, (RB.new w z).alloc _, ?_, by simp⟩
 have := RB.new (w.alloc (.cells (rv z) 32)) z0
 rw [show (w.alloc (.cells (rv z) 32)).heap.size = w.heap.size + 1 from by simp] at this
 exact this
end
section
open Go.RowKit
set_option maxRecDepth 20000 in
theorem zH8 (z : List Int) (hz : z.length = 10) (g : Nat) (hg : g < 10) (b : Int) (w : World) :
  Calls Tryz.prog 89 #[.agg (rv z), .int .i64 g, .int .i64 b] w fun e w' => e = .returned (.agg (rv (z.set g (bits .or .i64 (bt z g) b)))) ∧ Below w.heap.size w w' := by
 obtain ⟨w0, hw0⟩ : ∃ w0, (w.alloc (.cells (rv z) 32)).alloc (.cells #[.int .i64 0, .int .i64 0, .int .i64 0, .int .i64 0, .int .i64 0, .int .i64 0, .int .i64 0, .int .i64 0, .int .i64 0, .int .i64 0] 32) = w0 := ⟨_, rfl⟩
 obtain ⟨hb0, hr, hr1, _⟩ := zDa w z hw0
 obtain ⟨G, hG⟩ : ∃ G, w.heap.size = G := ⟨_, rfl⟩
 rw [hG] at hr hr1 hb0 ⊢
 have HR := hid hr
 have HR1 := hid hr1
 have HB := hid hb0
 have hc := hr.cell hz hg
 have hf := hr.frozen g
 have HZ := hid hz
 clear hr hr1 hb0 hz
 go_enter Tryz.func89, Tryz.ntmps89
 go_wp2_with (first
  | (refine zAi rfl (.tmp 3) rfl G rfl (z.set g (bits .or .i64 (bt z g) b)) (by simp [HZ.out]) (HR.out.set g _) ?_)
  | (refine zAW rfl (.tmp 6) (.tmp 13) rfl (G + 1) rfl (z.set g (bits .or .i64 (bt z g) b)) rfl (by simp [HZ.out]) z0 zAF ((Only.ofCell w0 G g _).rows (by omega) HR1.out) ?_; intro w2 hr2 ho2; have HR2 := hid hr2; have HO2 := hid ho2; clear hr2 ho2))
 have HB2 : Below G w w2 := (HB.out.setCell (p := ⟨G, g, none⟩) (Nat.le_refl _) _).trans (HO2.out.below (by omega))
 exact bodyPost_ret (zFR rfl _ _ (G + 1) _ (by simp [HZ.out]) rfl HR2.out) rfl ⟨rfl, HB2⟩
end
section
open Go.RowKit
def I64 (a : Int) : Prop := -9223372036854775808 ≤ a ∧ a ≤ 9223372036854775807
def tb (a : Int) (k : Nat) : Bool := (BitVec.ofInt 64 a).getLsbD k
theorem zH9 (op : BinOp) (a b : Int) (v : BitVec 64) (h : bits op .i64 a b = IntKind.i64.wrap (v.toNat : Int)) : I64 (bits op .i64 a b) ∧ ∀ k, tb (bits op .i64 a b) k = v.getLsbD k := by
 have hv := v.isLt
 have e := IntKind.wrap_i64 (v.toNat : Int)
 rw [h]
 refine ⟨by unfold I64; rw [e]; omega, fun k => ?_⟩
 unfold tb
 congr 1
 apply BitVec.eq_of_toNat_eq
 rw [BitVec.toNat_ofInt, e]
 omega
theorem zIA (a b : Int) : I64 (bits .or .i64 a b) := (zH9 .or a b _ rfl).1
theorem tb_or (a b : Int) (k : Nat) : tb (bits .or .i64 a b) k = (tb a k || tb b k) := by
 rw [(zH9 .or a b (BitVec.ofInt 64 a ||| BitVec.ofInt 64 b) rfl).2, BitVec.getLsbD_or]; rfl
theorem zNc (a : Int) {k : Nat} (h : 64 ≤ k) : tb a k = false := BitVec.getLsbD_of_ge _ _ h
theorem zKK {a b : Int} (ha : I64 a) (hb : I64 b) (h : ∀ k, k < 64 → tb a k = tb b k) : a = b := by
 have e : BitVec.ofInt 64 a = BitVec.ofInt 64 b := BitVec.eq_of_getLsbD_eq fun k hk => h k hk
 have e2 := congrArg BitVec.toNat e
 rw [BitVec.toNat_ofInt, BitVec.toNat_ofInt] at e2
 unfold I64 at ha hb
 omega
theorem zPk : ∀ h, h < 10 → ∀ k, k < 64 → tb (2 ^ h) k = decide (k = h) := by decide +kernel
theorem tb_pow' {h : Nat} (hh : h < 10) (k : Nat) : tb (2 ^ h) k = decide (k = h) := by
 by_cases hk : k < 64
 ·exact zPk h hh k hk
 ·rw [zNc _ (by omega), decide_eq_false (by omega)]
theorem zFS : ∀ h, h < 10 → IntKind.i64.wrap (2 ^ h) = 2 ^ h := by decide +kernel
theorem zOQ {a : Int} (ha : I64 a) {h : Nat} (hh : h < 10) : bits .or .i64 a (2 ^ h) = a ↔ tb a h = true := by
 refine ⟨fun e => ?_, fun e => ?_⟩
 ·have := tb_or a (2 ^ h) h
  rw [e, tb_pow' hh, decide_eq_true rfl, Bool.or_true] at this
  exact this
 ·refine zKK (zIA _ _) ha fun k _ => ?_
  rw [tb_or, tb_pow' hh]
  by_cases hk : k = h
  ·subst hk; rw [e]; rfl
  ·rw [decide_eq_false hk, Bool.or_false]
theorem zOR (a : Int) {h : Nat} (hh : h < 10) : bits .and .i64 (a / 2 ^ h) 1 = 1 ↔ tb a h = true := by
 have e1 : tb a h = decide (a / 2 ^ h % 2 = 1) := by
  unfold tb
  rw [BitVec.getLsbD, Nat.testBit_eq_decide_div_mod_eq, BitVec.toNat_ofInt]
  congr 1
  obtain rfl | rfl | rfl | rfl | rfl | rfl | rfl | rfl | rfl | rfl : h = 0 ∨ h = 1 ∨ h = 2 ∨ h = 3 ∨ h = 4 ∨ h = 5 ∨ h = 6 ∨ h = 7 ∨ h = 8 ∨ h = 9 := by omega
  all_goals (apply propext; simp only [Int.reducePow, Nat.reducePow]; omega)
 have e2 : bits .and .i64 (a / 2 ^ h) 1 = a / 2 ^ h % 2 := by
  generalize a / 2 ^ h = q
  show IntKind.i64.wrap ((BitVec.ofInt 64 q &&& BitVec.ofInt 64 1).toNat : Int) = _
  have : (BitVec.ofInt 64 q &&& BitVec.ofInt 64 1).toNat = (q % 2).toNat := by
   rw [BitVec.toNat_and, BitVec.toNat_ofInt, show (BitVec.ofInt 64 1).toNat = 1 from rfl, Nat.and_one_is_mod]
   omega
  rw [this, IntKind.wrap_i64]
  omega
 rw [e1, e2, decide_eq_true_eq]
theorem or_order (x p y : Int) : bits .or .i64 x (bits .or .i64 p y) = bits .or .i64 (bits .or .i64 x y) p := by
 refine zKK (zIA _ _) (zIA _ _) fun k _ => ?_
 rw [tb_or, tb_or, tb_or, tb_or]
 cases tb x k <;> cases tb p k <;> cases tb y k <;> rfl
def T (z : List Int) (g h : Nat) : Bool := tb (bt z g) h
def eRow (z : List Int) (g h i : Nat) : Int := if i = g ∨ T z i g = true then bits .or .i64 (bt z i) (bits .or .i64 (2 ^ h) (bt z h)) else bt z i
def eTo (z : List Int) (g h n : Nat) : List Int := (List.range 10).map fun i => if i < n then eRow z g h i else bt z i
def eR (z : List Int) (g h : Nat) : List Int := eTo z g h 10
theorem zA6 (z : List Int) (g h n : Nat) : (eTo z g h n).length = 10 := by simp [eTo]
theorem zCk (z : List Int) (g h n : Nat) {i : Nat} (hi : i < 10) : bt (eTo z g h n) i = if i < n then eRow z g h i else bt z i := by
 simp [eTo, bt, List.getD, hi]
theorem zEu {a b : List Int} (ha : a.length = 10) (hb : b.length = 10) (h : ∀ i, i < 10 → bt a i = bt b i) : a = b := by
 apply List.ext_getElem (by omega)
 intro i h1 h2
 have := h i (by omega)
 simpa [bt, List.getD, h1, h2] using this
theorem bt_set' {z : List Int} (hz : z.length = 10) (j k : Nat) (x : Int) (hk : k < 10) : bt (z.set k x) j = if j = k then x else bt z j := by
 unfold bt
 by_cases h : j = k
 ·subst h; simp [List.getD, hz, hk]
 ·rw [if_neg h]; simp [List.getD, List.getElem?_set_ne (fun e => h e.symm)]
theorem zMK {z : List Int} (hz : z.length = 10) (g h : Nat) : eTo z g h 0 = z :=
 zEu (zA6 ..) hz fun i hi => by rw [zCk _ _ _ _ hi, if_neg (by omega)]
theorem zOS {z : List Int} {g h n : Nat} (hn : n < 10) (hc : n = g ∨ T z n g = true) : (eTo z g h n).set n (bits .or .i64 (bt (eTo z g h n) n) (bits .or .i64 (2 ^ h) (bt z h))) = eTo z g h (n + 1) := by
 refine zEu (by simp [zA6]) (zA6 ..) fun i hi => ?_
 rw [bt_set' (zA6 ..) _ _ _ hn, zCk _ _ _ _ hi, zCk _ _ _ _ hi, zCk _ _ _ _ hn]
 by_cases hin : i = n
 ·subst hin; rw [if_pos rfl, if_neg (by omega), if_pos (by omega), eRow, if_pos hc]
 ·rw [if_neg hin]
  by_cases h2 : i < n
  ·rw [if_pos h2, if_pos (by omega)]
  ·rw [if_neg h2, if_neg (by omega)]
theorem eTo_yes' {z : List Int} {g h n : Nat} (hn : n < 10) (hc : n = g ∨ T z n g = true) : (eTo z g h n).set n (bits .or .i64 (bits .or .i64 (bt z n) (bt z h)) (2 ^ h)) = eTo z g h (n + 1) := by
 rw [← zOS hn hc, or_order, zCk _ _ _ _ hn, if_neg (by omega)]
theorem zPl {z : List Int} {g h n : Nat} (hn : n < 10) (hc : ¬ (n = g ∨ T z n g = true)) : eTo z g h (n + 1) = eTo z g h n := by
 refine zEu (zA6 ..) (zA6 ..) fun i hi => ?_
 rw [zCk _ _ _ _ hi, zCk _ _ _ _ hi]
 by_cases hin : i = n
 ·subst hin; rw [if_pos (by omega), if_neg (by omega), eRow, if_neg hc]
 ·by_cases h2 : i < n
  ·rw [if_pos h2, if_pos (by omega)]
  ·rw [if_neg h2, if_neg (by omega)]
def lad (a b : Nat) : Prop := 1 ≤ b ∧ b < a ∧ a ≤ 5
def stp (E : List (Nat × Nat)) (a b : Nat) : Prop := lad a b ∨ (a, b) ∈ E
def Ld (E : List (Nat × Nat)) : Nat → Nat → Prop := Relation.TransGen (stp E)
theorem Ld.trans {E : List (Nat × Nat)} {a b c : Nat} (h : Ld E a b) (k : Ld E b c) : Ld E a c := Relation.TransGen.trans h k
theorem Ld.mono {E F : List (Nat × Nat)} (hs : ∀ p ∈ E, p ∈ F) {a b : Nat} (h : Ld E a b) : Ld F a b := by
 have hst : ∀ {x y}, stp E x y → stp F x y := fun hxy => hxy.imp id (hs _)
 induction h with
 | single h => exact .single (hst h)
 | tail _ h ih => exact .tail ih (hst h)
def inG (p : Nat × Nat) : Prop := 1 ≤ p.1 ∧ p.1 ≤ 9 ∧ 1 ≤ p.2 ∧ p.2 ≤ 9
theorem zNd {E : List (Nat × Nat)} (hE : ∀ p ∈ E, inG p) {a b : Nat} (h : stp E a b) : inG (a, b) := by
 rcases h with h | h
 ·obtain ⟨h1, h2, h3⟩ := h; exact ⟨by show 1 ≤ a; omega, by show a ≤ 9; omega, h1, by show b ≤ 9; omega⟩
 ·exact hE _ h
theorem Ld.inG {E : List (Nat × Nat)} (hE : ∀ p ∈ E, inG p) {a b : Nat} (h : Ld E a b) : inG (a, b) := by
 induction h with
 | single h => exact zNd hE h
 | tail _ h ih => have := zNd hE h; exact ⟨ih.1, ih.2.1, this.2.2⟩
theorem Ld.ladder {a b : Nat} (h : Ld [] a b) : lad a b := by
 have hst : ∀ {x y}, stp [] x y → lad x y := fun h => h.elim id (fun h => by simp at h)
 induction h with
 | single h => exact hst h
 | tail _ h ih =>
  have := hst h
  unfold lad at *
  omega
theorem Ld.more {E : List (Nat × Nat)} {g h a b : Nat} : Ld (E ++ [(g, h)]) a b ↔ Ld E a b ∨ ((a = g ∨ Ld E a g) ∧ (b = h ∨ Ld E h b)) := by
 have hm : ∀ {x y}, Ld E x y → Ld (E ++ [(g, h)]) x y := fun hxy => hxy.mono (fun p hp => List.mem_append_left _ hp)
 have hs : Ld (E ++ [(g, h)]) g h := .single (.inr (by simp))
 have split : ∀ {x y}, stp (E ++ [(g, h)]) x y → stp E x y ∨ (x = g ∧ y = h) := fun hxy => by
  rcases hxy with h1 | h1
  ·exact .inl (.inl h1)
  ·rcases List.mem_append.1 h1 with h2 | h2
   ·exact .inl (.inr h2)
   ·simp only [List.mem_cons, Prod.mk.injEq, List.not_mem_nil, or_false] at h2; exact .inr h2
 refine ⟨fun hab => ?_, fun hab => ?_⟩
 ·induction hab with
  | single h1 =>
   rcases split h1 with h2 | ⟨rfl, rfl⟩
   ·exact .inl (.single h2)
   ·exact .inr ⟨.inl rfl, .inl rfl⟩
  | tail _ h1 ih =>
   rcases split h1 with h2 | ⟨rfl, rfl⟩
   ·rcases ih with h3 | ⟨h3, h4⟩
    ·exact .inl (h3.tail h2)
    ·refine .inr ⟨h3, .inr ?_⟩
     rcases h4 with rfl | h4
     ·exact .single h2
     ·exact h4.tail h2
   ·refine .inr ⟨?_, .inl rfl⟩
    rcases ih with h3 | ⟨h3, _⟩
    ·exact .inr h3
    ·exact h3
 ·rcases hab with h1 | ⟨h1, h2⟩
  ·exact hm h1
  ·have h3 : Ld (E ++ [(g, h)]) a h := by
    rcases h1 with rfl | h1
    ·exact hs
    ·exact (hm h1).trans hs
   rcases h2 with rfl | h2
   ·exact h3
   ·exact h3.trans (hm h2)
structure Inv (z : List Int) (E : List (Nat × Nat)) : Prop where
 len : z.length = 10
 rng : ∀ i, i < 10 → I64 (bt z i)
 edg : ∀ p ∈ E, inG p
 iff : ∀ i k, i < 10 → (tb (bt z i) k = true ↔ Ld E i k)
 acy : ∀ i, ¬ Ld E i i
def zS : List Int := [0, 0, 2, 6, 14, 30, 0, 0, 0, 0]
theorem zOT : ∀ i, i < 10 → ∀ k, k < 64 → tb (bt zS i) k = decide (1 ≤ k ∧ k < i ∧ i ≤ 5) := by decide +kernel
theorem zS_rng : ∀ i, i < 10 → -9223372036854775808 ≤ bt zS i ∧ bt zS i ≤ 9223372036854775807 := by decide +kernel
theorem inv_start : Inv zS [] := by
 refine ⟨rfl, zS_rng, by simp, fun i k hi => ?_, fun i h => ?_⟩
 ·by_cases hk : k < 64
  ·rw [zOT i hi k hk, decide_eq_true_eq]
   exact ⟨fun h => .single (.inl h), fun h => h.ladder⟩
  ·rw [zNc _ (by omega)]
   refine ⟨fun h => by simp at h, fun h => ?_⟩
   have := h.ladder
   unfold lad at this
   omega
 ·have := h.ladder
  unfold lad at this
  omega
theorem zIB {z : List Int} (hr : ∀ i, i < 10 → I64 (bt z i)) (g h : Nat) {i : Nat} (hi : i < 10) : I64 (eRow z g h i) := by
 unfold eRow
 split
 ·exact zIA _ _
 ·exact hr i hi
theorem zML (z : List Int) (g : Nat) {h : Nat} (hh : h < 10) (i k : Nat) : tb (eRow z g h i) k = true ↔ (tb (bt z i) k = true ∨ ((i = g ∨ T z i g = true) ∧ (k = h ∨ tb (bt z h) k = true))) := by
 unfold eRow
 split
 ·rename_i hc
  rw [tb_or, tb_or, tb_pow' hh, Bool.or_eq_true, Bool.or_eq_true, decide_eq_true_eq]
  exact ⟨fun h => h.imp id (fun h => ⟨hc, h⟩), fun h => h.imp id (fun h => h.2)⟩
 ·rename_i hc
  exact ⟨.inl, fun h => h.elim id (fun h => absurd h.1 hc)⟩
theorem Inv.edge {z : List Int} {E : List (Nat × Nat)} (H : Inv z E) {g h : Nat} (hi : inG (g, h)) (hne : g ≠ h) (ht : T z h g = false) : Inv (eR z g h) (E ++ [(g, h)]) := by
 obtain ⟨g1, g2, h1, h2⟩ := hi
 simp only at g1 g2 h1 h2
 have hb : ∀ i, i < 10 → bt (eR z g h) i = eRow z g h i := fun i hi => by rw [eR, zCk _ _ _ _ hi, if_pos hi]
 have hng : ¬ Ld E h g := fun hl => by rw [← H.iff h g (by omega)] at hl; unfold T at ht; rw [ht] at hl; cases hl
 refine ⟨zA6 .., fun i hi => by rw [hb i hi]; exact zIB H.rng g h hi, fun p hp => ?_, fun i k hi => ?_, fun i hl => ?_⟩
 ·rcases List.mem_append.1 hp with hp | hp
  ·exact H.edg p hp
  ·simp only [List.mem_cons, List.not_mem_nil, or_false] at hp; subst hp; exact ⟨g1, g2, h1, h2⟩
 ·rw [hb i hi, zML z g (by omega), Ld.more, T, H.iff i k hi, H.iff i g hi, H.iff h k (by omega)]
 ·rw [Ld.more] at hl
  rcases hl with hl | ⟨hl, hl2⟩
  ·exact H.acy i hl
  ·rcases hl with rfl | hl
   ·rcases hl2 with rfl | hl2
    ·exact hne rfl
    ·exact hng hl2
   ·rcases hl2 with rfl | hl2
    ·exact hng hl
    ·exact hng (hl2.trans hl)
theorem Inv.ext {z z' : List Int} {E E' : List (Nat × Nat)} (H : Inv z E) (H' : Inv z' E') (h : ∀ a b, Ld E a b ↔ Ld E' a b) : z = z' :=
 zEu H.len H'.len fun i hi => zKK (H.rng i hi) (H'.rng i hi) fun k _ => by
  rw [Bool.eq_iff_iff, H.iff i k hi, H'.iff i k hi]; exact h i k
theorem Inv.T {z : List Int} {E : List (Nat × Nat)} (H : Inv z E) {g h : Nat} (hg : g < 10) : T z g h = true ↔ Ld E g h := H.iff g h hg
end
section
open Go.RowKit
theorem zIC (z z' : List Int) (hz : z.length = 10) (hz' : z'.length = 10) (w : World) : ∀ is : List Nat, (∀ i ∈ is, i < 10) →
  (Op.eqItems 9999 3 1 (rv z) (rv z') is).run Tryz.prog w = .ok (is.all fun i => bt z i == bt z' i) w
 | [], _ => by simp [Op.eqItems]
 | i :: is, h => by
  have hi : i < 10 := h i (by simp)
  have p1 : (part 3 (rv z) (i * 1)).run Tryz.prog w = .ok (.int .i64 (bt z i)) w := run_part_plain w (by kernel_rfl) (by rw [Nat.mul_one]; exact zOP hz hi)
  have p2 : (part 3 (rv z') (i * 1)).run Tryz.prog w = .ok (.int .i64 (bt z' i)) w := run_part_plain w (by kernel_rfl) (by rw [Nat.mul_one]; exact zOP hz' hi)
  have p3 : (Op.equalIn 9999 3 (.int .i64 (bt z i)) (.int .i64 (bt z' i))).run Tryz.prog w = .ok (bt z i == bt z' i) w := run_equalIn_int w 9998 _ _ _ _ _ Tryz.underlying3
  have ih := zIC z z' hz hz' w is (fun j hj => h j (by simp [hj]))
  simp only [Op.eqItems, Sem.run_bind, p1, p2, p3, Result.andThen_ok, List.all_cons]
  cases (bt z i == bt z' i)
  ·simp
  ·simpa using ih
set_option maxRecDepth 20000 in
theorem zOU (z z' : List Int) (hz : z.length = 10) (hz' : z'.length = 10) (w : World) : (Op.equalIn 10000 32 (.agg (rv z)) (.agg (rv z'))).run Tryz.prog w = .ok (decide (z = z')) w := by
 obtain ⟨i, hi⟩ : ∃ i, Tryz.prog.info? 3 = some i := Option.isSome_iff_exists.1 (by kernel_rfl)
 rw [show (10000 : Nat) = 9999 + 1 from rfl, run_equalIn_array w 9999 _ _ Tryz.underlying32 hi, show Tryz.prog.cellsOf 3 = 1 by kernel_rfl, zIC z z' hz hz' w _ (by simp)]
 congr 1
 rw [Bool.eq_iff_iff, List.all_eq_true, decide_eq_true_eq]
 refine ⟨fun h => zEu hz hz' fun i hi => by simpa using h i (by simpa using hi), fun h i _ => by rw [h]; simp⟩
def inB (lo : Int) (zs : List Int) : Bool := zs.all fun z => decide (lo ≤ z) && decide (z ≤ 9)
theorem zMM {lo : Int} {zs : List Int} {k : Nat} (h : k < zs.length) : inB lo (zs.drop k) = (decide (lo ≤ zs.getD k 0) && decide (zs.getD k 0 ≤ 9) && inB lo (zs.drop (k + 1))) := by
 unfold inB
 rw [List.drop_eq_getElem_cons h, List.all_cons, List.getD_eq_getElem?_getD, List.getElem?_eq_getElem h]
 rfl
set_option maxRecDepth 20000 in
theorem zI8 (lo : Int) (b n c : Nat) (zs : List Int) (w : World) (hz : zs.length = n) (hn : n ≤ 1000) (hc : ∀ j, j < n → w.cell? ⟨b, j, none⟩ = some (.int .i64 (zs.getD j 0))) :
  Calls Tryz.prog 151 #[.int .i64 lo, .slice (some ⟨b, 0, none⟩) n c] w fun e w' => e = .returned (.bool (inB lo zs)) ∧ w = w' := by
 have HC := hid hc
 have HZ := hid hz
 clear hc hz
 go_enter Tryz.func151, Tryz.ntmps151
 go_wp2
 go_loop [9] (fun i => ∃ k : Nat, i = .int .i64 k ∧ k ≤ n ∧ Hid (inB lo (zs.drop k) = inB lo zs)) (fun i => n - (intOf i).toNat)
 case atStart => exact ⟨0, rfl, by omega, hid (by simp)⟩
 case round =>
  obtain ⟨k, rfl, hk, HM⟩ := hrel
  by_cases hlt : k < n
  ·have hck := HC.out k hlt
   have HD := hid (zMM (lo := lo) (zs := zs) (k := k) (by rw [HZ.out]; exact hlt))
   obtain ⟨z, hzz⟩ : ∃ z, zs.getD k 0 = z := ⟨_, rfl⟩
   rw [hzz] at hck HD
   clear hzz
   by_cases h0 : z < lo
   ·have HF : Hid (inB lo zs = false) := hid (by rw [← HM.out, HD.out, decide_eq_false (show ¬ lo ≤ z by omega)]; rfl)
    go_wp2
    go_ret
    exact ⟨by rw [HF.out]; rfl, rfl⟩
   ·by_cases h1 : (10 : Int) ≤ z
    ·have HF : Hid (inB lo zs = false) := hid (by rw [← HM.out, HD.out, decide_eq_false (show ¬ z ≤ 9 by omega), Bool.and_false]; rfl)
     go_wp2
     go_ret
     exact ⟨by rw [HF.out]; rfl, rfl⟩
    ·have HM2 : Hid (inB lo (zs.drop (k + 1)) = inB lo zs) := hid (by rw [← HM.out, HD.out, decide_eq_true (show lo ≤ z by omega), decide_eq_true (show z ≤ 9 by omega)]; rfl)
     go_wp2
     go_round
     case rel => exact ⟨k + 1, by go_num, by omega, HM2⟩
     case measure => simp [intOf]; omega
  ·have HF : Hid (inB lo zs = true) := hid (by rw [← HM.out, List.drop_eq_nil_iff.2 (by rw [HZ.out]; omega)]; rfl)
   go_wp2
   go_ret
   exact ⟨by rw [HF.out]; rfl, rfl⟩
theorem zEv (lo g h : Int) (b : Nat) (w : World) (hb : w.heap[b]? = some (.cells #[.int .i64 g, .int .i64 h] 3 (0, 0))) : Calls Tryz.prog 151 #[.int .i64 lo, .slice (some ⟨b, 0, none⟩) 2 2] w fun e w' => e = .returned (.bool (inB lo [g, h])) ∧ w = w' :=
 zI8 lo b 2 2 [g, h] w rfl (by omega) (fun j hj => by
  rw [cell_of_row _ b j _ _ _ hb]
  obtain rfl | rfl : j = 0 ∨ j = 1 := by omega
  ·rfl
  ·rfl)
end
end Go.Proofs.YtcjbhdgjcpnklaaGreatDoor
