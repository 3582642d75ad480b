/- Proved here: Rows.FitsAllCardSaid: what may stand in a hole, which token is a part, and which may stand alone, in any rows and env, right or not, is as the document says. It holds for every input of the parameters types; what the listed package-level variables hold when the call begins is tied to the text of the program (pruned to the packages that the law loads). -/
import Derived.Test.YtcegbmhnbmfnnaaGreatDoorRows
import Derived.Test.YtcegbmhnbmfnnaaGreatDoorYv
import Derived.Test.YtcegbmhnbmfnnaaGreatDoorYp
import Derived.Test.YtcegbmhnbmfnnaaGreatDoorYr
import Derived.Test.YtcegbmhnbmfnnaaGreatDoorM1
import Derived.LaidMore
import Derived.Stop.Joined
import Derived.MakeChecks
import Derived.SevenTiedAt
import Derived.Test.YtcegbmhnbmfnnaaGreatDoorTie
import Derived.Test.YtcegbmhnbmfnnaaGreatDoorCards
import Derived.WalkKit
import Derived.ProofKit
import Derived.OpenShut
import Derived.ShutString
import Derived.ChangeOld
import Derived.Below
namespace Go.Proofs.YtcegbmhnbmfnnaaGreatDoor.fitsAll
open Go.ChangeShapes Go.WideShapes Go.ChangeAt Go.RowKit
open Go.ChangeMaps (open_string shut_string)
set_option linter.unusedVariables false

theorem own : ownKnob Tryz.prog.godebug = none := by kernel_rfl
theorem laidOut : laidOutB Tryz.prog = true := by kernel_rfl

/-- WHAT THE WALK IS TOLD OF A SLICE OF INTEGERS THAT CAME IN: it is nil; or it leads to a row of 'cap' cells, the numbers 'zs' (the first 'len' are its elements, the rest its spare room), each fitting its kind. -/
def IsRow (k : IntKind) (w : World) (a : Option Addr) (len cap : Nat) (zs : List Int) : Prop :=
  (a = none ∧ len = 0 ∧ cap = 0 ∧ zs = []) ∨
  ∃ x, a = some x ∧ len ≤ cap ∧ cap ≤ maxLen ∧ zs.length = cap ∧ (∀ i, i < zs.length → w.cell? (x.add i) = some (.int k (zs.getD i 0))) ∧ ∀ n ∈ zs, (Lit.int k n).wf = true

/-! ### STEP 1: THE WALK: the Go text returns true, AND WRITES NOTHING THAT WAS THERE: 'Below w.heap.size w w'' (Derived/Below.lean: '.refl', '.alloc', '.drew', '.setCell' at a new block, '.trans'). Open each 'IsRow' by 'rcases' AHEAD of 'go_enter'; part every test ahead of the walk. -/
theorem walk (e0 : EA) (e1 : PR) (e2 : TA) (w : World) (hL : laidMetH Tryz.prog Rows.fitsAllRow.laid w) (w0 : (e0.z.length = 10 ∧ (∀ i, i < 10 → I64 (bt e0.z i)) ∧ OpS w e0.a e0.n e0.c e0.L) ∧ ∀ o ∈ e0.L, o.1.length ≤ reachBytes) (w1 : e1.o.s.size ≤ reachBytes ∧ e1.k.s.size ≤ reachBytes) (w2 : e2.s.size ≤ reachBytes) :
    Calls Tryz.prog 3 #[.agg (ev e0.a e0.n e0.c e0.z), .agg #[.string e1.o.s, .int .i64 e1.o.g, .int .i64 e1.o.a, .string e1.k.s, .int .i64 e1.k.g, .int .i64 e1.k.a, .bool e1.r], .agg #[.int .i64 e2.k, .int .i64 e2.f, .int .i64 e2.t, .string e2.s, .int .i64 e2.e]] w fun e w' => e = .returned (.bool true) ∧ Below w.heap.size w w' := by
  rw [MakeChecks.laidMetH_plain _ _ _ (by kernel_rfl)] at hL
  have hs : ∀ s : ByteArray, s.size ≤ reachBytes → s.data.toList.length ≤ 140737488355328 := fun s hx => by
    have : s.data.toList.length ≤ reachBytes := by rw [Array.length_toList]; exact hx
    exact Nat.le_trans this (by decide)
  have := fitsAll_any e0.a e0.n e0.c e0.L e0.z e1.o.s.data.toList e1.o.g e1.o.a e1.k.s.data.toList e1.k.g e1.k.a e1.r e2.k e2.f e2.t e2.s.data.toList e2.e w (tab_of_laid hL) w0.1.2.2 w0.1.1 w0.1.2.1 (fun o ho => Nat.le_trans (w0.2 o ho) (by decide)) (hs _ w1.1) (hs _ w1.2) (hs _ w2)
  rw [mk_data, mk_data, mk_data] at this
  exact this

/-! ### THE ROW's STEP: WRITTEN OUT: LEAVE IT -/
theorem door_met (os : Os) (args : Array Value) : laidMetH Tryz.prog Rows.fitsAllRow.laid ((World.doorLaid Tryz.prog 22 os).forCall (fun _ _ => 0) ⟨#[], args, []⟩).memory :=
  laidMetH_of_parts3 (fuel := 8) (laidMet_of_run' 8 (by kernel_rfl) (by kernel_rfl)) (by kernel_rfl) (by kernel_rfl)

set_option maxRecDepth 100000 in
theorem lifted (os : Os) (started : os.Started) (H : Type) (enc : TypeId × Value → H) :
    ReturnsInHanded {} Tryz.checked os 3 .any (fun w args => (Rows.fitsAllSpec.pre enc Tryz.prog Tryz.f3 [] false w args ∧ laidMetH Tryz.prog Rows.fitsAllRow.laid w) ∧ sizedMet enc Tryz.prog Tryz.f3 (OpenSpec.ofChange Rows.fitsAllSpec) false w args) (Rows.fitsAllSpec.post enc Tryz.prog Tryz.f3 false true false false) := by
  refine returnsInHanded_of_change_and (C := Tryz.checked) (X := fun w _ => laidMetH Tryz.prog Rows.fitsAllRow.laid w) (fun _ _ _ hh h => h.of_heap hh) own started (by kernel_rfl) Tryz.func3
    (ChangeSpec.witness_shaped (enc := enc) (C := Tryz.checked) (os := os) (X := fun w _ => laidMetH Tryz.prog Rows.fitsAllRow.laid w) false (World.doorLaid Tryz.prog 22 os) #[.agg #[.slice none 0 0, .int .i64 0, .int .i64 0, .int .i64 0, .int .i64 0, .int .i64 0, .int .i64 0, .int .i64 0, .int .i64 0, .int .i64 0, .int .i64 0], .agg #[.string ByteArray.empty, .int .i64 0, .int .i64 0, .string ByteArray.empty, .int .i64 0, .int .i64 0, .bool false], .agg #[.int .i64 0, .int .i64 0, .int .i64 0, .string ByteArray.empty, .int .i64 0]] 8 rfl (World.shaped_of_RefB (by kernel_rfl) (by kernel_rfl)) (by kernel_rfl) (by kernel_rfl) (by kernel_rfl) (door_met os _)) ?_
  intro W base args ds gs before hval0 hW _ hsz0 hL _
  have hval : ∀ (j : Nat) t v, Tryz.f3.params[j]? = some t → args[j]? = some v → Value.okWide Tryz.prog W .any base t v := hval0
  have hW' := hW
  obtain ⟨p, q, hA0, hV, rfl, hfz, hnd⟩ := hW
  have hA : DataW.TrodAll enc Tryz.prog W 0 (fun _ => true) true Tryz.f3.params.toList args.toList ds p := hA0
  rw [Tryz.params3] at hA hval
  obtain ⟨v0, vs0, d0, ds0, p0, q0, hargs, rfl, rfl, h0, r0⟩ := trodAll_cons hA
  obtain ⟨v1, vs1, d1, ds1, p1, q1, rfl, rfl, rfl, h1, r1⟩ := trodAll_cons r0
  obtain ⟨v2, vs2, d2, ds2, p2, q2, rfl, rfl, rfl, h2, r2⟩ := trodAll_cons r1
  obtain ⟨rfl, rfl, rfl⟩ := trodAll_nil r2
  obtain rfl : args = #[v0, v1, v2] := by cases args; simp_all
  obtain ⟨rfl, rfl⟩ := trodVars_none hV
  have k0 := h0
  have lt0 : ∀ x ∈ p0, x.block < W.heap.size := by obtain ⟨m, hm⟩ := k0; exact DataW.trod_lt m _ _ _ hm
  obtain ⟨e0, rfl, q0, y0⟩ := open_env (hval 0 26 v0 rfl rfl) h0
  have w0 := And.intro q0 (y0 (weight_of hsz0 (j := 0) (by kernel_rfl) rfl))
  have k1 := h1
  have lt1 : ∀ x ∈ p1, x.block < W.heap.size := by obtain ⟨m, hm⟩ := k1; exact DataW.trod_lt m _ _ _ hm
  obtain ⟨e1, rfl, rfl⟩ := open_pairw (hval 1 30 v1 rfl rfl) h1
  have w1 := pair_size (e := e1) hsz0 (j := 1) (by kernel_rfl) rfl
  have k2 := h2
  have lt2 : ∀ x ∈ p2, x.block < W.heap.size := by obtain ⟨m, hm⟩ := k2; exact DataW.trod_lt m _ _ _ hm
  obtain ⟨e2, rfl, rfl⟩ := open_token (hval 2 33 v2 rfl rfl) h2
  have w2 : e2.s.size ≤ reachBytes := token_size hsz0 (j := 2) (by kernel_rfl) rfl
  clear hA0 hval0
  refine (walk e0 e1 e2 W hL w0 w1 w2).mono fun e W' ⟨he, bel⟩ => ?_
  subst he
  exact ⟨_, rfl, _, _, _, [], _, [], hW', trodAll_mk1 (shut_bool Tryz.underlying4 _), (trodAll_cons_mk (Below.trod laidOut (by kernel_rfl) (of_decide_eq_true (by kernel_rfl)) k0 bel lt0) (trodAll_cons_mk (Below.trod laidOut (by kernel_rfl) (of_decide_eq_true (by kernel_rfl)) k1 bel lt1) (trodAll_cons_mk (Below.trod laidOut (by kernel_rfl) (of_decide_eq_true (by kernel_rfl)) k2 bel lt2) trodAll_mk0))), rfl, bel.frame _, fun h => by cases h⟩

theorem over : Rows.fitsAllRow.holds Tryz.pinned (OpenSpec.ofChange Rows.fitsAllSpec) :=
  OpenClaim.holds_of_wide 3 Tryz.f3 rfl rfl rfl rfl rfl rfl rfl ⟨rfl, rfl, rfl, rfl, rfl⟩ rfl rfl rfl rfl rfl (by kernel_rfl) Tryz.func3 (by kernel_rfl)
    (of_decide_eq_true (by kernel_rfl)) (by unfold Func.isWrapper; first | (rw [if_pos (by decide +kernel)]; kernel_rfl) | (rw [if_neg (by decide +kernel)]; exact ⟨rfl, rfl⟩))
    (fun os started H enc _ => lifted os started H enc)

/-- ████ THE STATEMENT: THE TIED CARD ████ -/
theorem proved : Rows.FitsAllCardSaid :=
  Claim7.holds_tied_plain_at .later [] [.data] true (true, "a587f92e8703594914b3ff03b26f5084fdcb9d9c8573b72fb5bf2018f170f69d") false
    over (fun _ h => by cases h) (by kernel_rfl) (fun _ h => by cases h) fitsAll_row_tie rfl ⟨rfl, rfl⟩ (by kernel_rfl) rfl
    (fun f fn hf hfn => by
      obtain rfl : f = 3 := Option.some.inj ((show Tryz.prog.funcNamed Rows.fitsAllRow.func = some 3 by kernel_rfl).symm.trans hf) |>.symm
      obtain rfl : fn = Tryz.f3 := (Option.some.inj (Tryz.func3.symm.trans hfn)).symm
      exact ⟨by kernel_rfl, fun j t ht => by
        rw [Tryz.params3] at ht
        have hm : t ∈ [26, 30, 33] := by simpa using Array.mem_of_getElem? ht
        have hall : ([26, 30, 33].all fun u => !Tryz.prog.wantsStandIn u) = true := by kernel_rfl
        exact (show Tryz.prog.wantsStandIn t = false by simpa using List.all_eq_true.1 hall t hm)⟩)
    (by kernel_rfl)
#print axioms proved
end Go.Proofs.YtcegbmhnbmfnnaaGreatDoor.fitsAll
