/- The parts of sync.Once's slow road: the lock, the two calls that doSlow defers; Deep's closure. -/
import Derived.Test.YtkpdehbffankkaaNi
import Derived.Test.YtkpdehbffankkaaNf
import Derived.Tactics
import Derived.Tactics2
import Derived.Defers
import Derived.Laws.Pointers
import Derived.Laws.LoneSync
import Derived.RegionTactic
import Derived.RegionCalls
import Derived.ChangeAlike
import Derived.Laws.NewBlocks
namespace Go.Proofs.Ytkpdehbffankkaa
open Go.RowKit

theorem o_disable (w : World) : (callFunc 49 #[]).run Try.prog w = .ok (.value (.tuple #[])) w := run_call_mark0 Try.func49 (by kernel_rfl) (by kernel_rfl) (by kernel_rfl) .disable (by kernel_rfl) w
theorem o_enable (w : World) : (callFunc 51 #[]).run Try.prog w = .ok (.value (.tuple #[])) w := run_call_mark0 Try.func51 (by kernel_rfl) (by kernel_rfl) (by kernel_rfl) .enable (by kernel_rfl) w
theorem o_acquire (a : Addr) (w : World) : (callFunc 52 #[.pointer (some a)]).run Try.prog w = .ok (.value (.tuple #[])) w := run_call_marked Try.func52 (by kernel_rfl) (by kernel_rfl) (by kernel_rfl) .acquire (by kernel_rfl) a w
theorem o_release (a : Addr) (w : World) : (callFunc 54 #[.pointer (some a)]).run Try.prog w = .ok (.value (.tuple #[])) w := run_call_marked Try.func54 (by kernel_rfl) (by kernel_rfl) (by kernel_rfl) .releaseMerge (by kernel_rfl) a w

theorem store_deferred (a : Addr) (x : Value) (u : FrameMode) (w : World) (hc : w.cell? a = some x) (hz : w.frozen? a = false) :
    CallsD Try.prog 44 #[.pointer (some a), .bool true] u w fun e u' w' => u' = u ∧ (e = .returned (.tuple #[]) ∧ w' = w.drew.setCell a (.int .u32 1)) := by
  have hc' : w.drew.cell? a = some x := by go_simp
  have hz' : w.drew.frozen? a = false := by go_simp
  have hst := run_call_store (P := Try.prog) Try.func47 (by kernel_rfl) (by kernel_rfl) (by kernel_rfl) (by kernel_rfl) (k := .u32) (y := 1) hc' hz'
  go_enter_d Try.func44, Try.ntmps44
  go_wp2
  go_region_calls
  all_goals (go_end0; exact ⟨rfl, rfl⟩)

set_option maxRecDepth 100000 in
theorem unlock_deferred (a : Addr) (u : FrameMode) (w : World) (hc : w.cell? a = some (.int .i32 1)) (hz : w.frozen? a = false) :
    CallsD Try.prog 43 #[.pointer (some a)] u w fun e u' w' => u' = u ∧ (e = .returned (.tuple #[]) ∧ w' = w.setCell a (.int .i32 0)) := by
  have hd := o_disable
  have he := o_enable
  have hr := o_release
  have hadd := run_call_add (P := Try.prog) Try.func55 (by kernel_rfl) (by kernel_rfl) (by kernel_rfl) .i32 (by kernel_rfl) (y := -1) (s := 0) hc hz (by simp [go_sem]; rfl)
  have hcv := run_convert_to_unsafe (P := Try.prog) (src := 105) (dst := 59) Try.underlying105 Try.underlying59 (by kernel_rfl) hc
  go_enter_d Try.func43, Try.ntmps43
  go_wp2
  go_end0
  go_wp2
  go_end0
  exact ⟨rfl, rfl⟩

set_option maxRecDepth 100000 in
theorem lock_free (a : Addr) (w : World) (hc : w.cell? a = some (.int .i32 0)) (hz : w.frozen? a = false) :
    Calls Try.prog 42 #[.pointer (some a)] w fun e w' => e = .returned (.tuple #[]) ∧ w' = w.setCell a (.int .i32 1) := by
  have hd := o_disable
  have he := o_enable
  have ha := o_acquire
  have hcas := run_call_cas_hit (P := Try.prog) Try.func50 (by kernel_rfl) (by kernel_rfl) (by kernel_rfl) .i32 (by kernel_rfl) (y := 1) hc hz
  have hc' : (w.setCell a (.int .i32 1)).cell? a = some (.int .i32 1) := World.cell?_setCell_same w a _ hc
  have hcv := run_convert_to_unsafe (P := Try.prog) (src := 105) (dst := 59) Try.underlying105 Try.underlying59 (by kernel_rfl) hc'
  go_enter Try.func42, Try.ntmps42
  go_wp2
  first | go_end0 | (simp only [Exit.inBlock, Exit.then]; refine bodyPost_ret (results_none rfl _ _ _) rfl ?_) | refine bodyPost_ret (results_none rfl _ _ _) rfl ?_
  go_wp2
  go_end0
  exact ⟨rfl, rfl⟩

variable {w : World} {b : Nat} {t : PT} {e : Nat} {sv : Value} {dn dp : Int}

/-- Deep's closure: the depth is laid. -/
theorem clo_any (pl : Addr) (hpb : ¬ b = pl.block) (x6 : Value) (hpl : w.cell? pl = some (.pointer (some ⟨b, 0, none⟩))) (c0 : w.cell? ⟨b, 0, none⟩ = some t.v) (c6 : w.cell? ⟨b, 6, none⟩ = some x6) (z6 : w.frozen? ⟨b, 6, none⟩ = false) (hok : t.ok w) (hd : t.d ≤ 100) :
    Calls Try.prog 33 #[.pointer (some pl)] w fun r w' => r = .returned (.tuple #[]) ∧ ∃ w1, w1.heap = w.heap ∧ Below w.heap.size w w1 ∧ w' = w1.setCell ⟨b, 6, none⟩ (.int .i64 t.d) := by
  have KS := Lib.hid (fun w' (hh : w'.heap = w.heap) => steps_any t w' (PT.ok.kt (by intro k c x m h1 _; rw [hh]; exact h1) t hok) hd)
  have F1 : ∀ {w' : World}, w'.heap = w.heap → w'.cell? pl = some (.pointer (some ⟨b, 0, none⟩)) ∧ w'.cell? ⟨b, 0, none⟩ = some t.v := fun hh => by simp only [World.cell?, hh]; exact ⟨hpl, c0⟩
  have F2 : ∀ {w' : World}, w'.heap = w.heap → w'.cell? ⟨b, 6, none⟩ = some x6 ∧ w'.frozen? ⟨b, 6, none⟩ = false := fun hh => by simp only [World.cell?, World.frozen?, hh]; exact ⟨c6, z6⟩
  obtain ⟨D, hD⟩ : ∃ D, t.d = D := ⟨_, rfl⟩
  rw [hD] at KS ⊢
  clear hok hd hD
  go_enter Try.func33, Try.ntmps33
  go_wp2
  go_region_held3 (fun w' => w'.cell? pl = some (.pointer (some ⟨b, 0, none⟩)) ∧ w'.cell? ⟨b, 0, none⟩ = some t.v) (first | go_keep | exact F1 h1 | exact ⟨g1, g2⟩) (first | (go_at_call 34; (with_reducible refine (KS.out _ ?_).mono ?_); (rfl); rintro r w1 ⟨rfl, hb, h1⟩; have q6 := (F2 h1).1; have y6 := (F2 h1).2; have g1 : (w1.setCell ⟨b, 6, none⟩ (.int .i64 D)).cell? pl = some (.pointer (some ⟨b, 0, none⟩)) := (World.cell?_setCell_other _ ⟨b, 6, none⟩ pl _ (fun h => hpb (by rw [← h]))).trans (F1 h1).1; have g2 : (w1.setCell ⟨b, 6, none⟩ (.int .i64 D)).cell? ⟨b, 0, none⟩ = some t.v := (World.cell?_setCell_other _ ⟨b, 6, none⟩ ⟨b, 0, none⟩ _ (by simp)).trans (F1 h1).2))
  have HB := Lib.hid ((Below.refl w.heap.size w).drew.trans hb)
  have H1 : Hid (w1.heap = w.heap) := Lib.hid h1
  clear hb h1
  go_end0
  exact ⟨rfl, w1, H1.out, HB.out, rfl⟩

end Go.Proofs.Ytkpdehbffankkaa
