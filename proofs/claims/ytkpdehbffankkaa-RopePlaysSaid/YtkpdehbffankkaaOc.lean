/- Contract of package rope's Deep. -/
import Derived.Test.YtkpdehbffankkaaOb
namespace Go.Proofs.Ytkpdehbffankkaa
open Go.RowKit

theorem kt_gb {w w' : World} {b : Nat} {c : Array Value} {m : Nat × Nat} (hblk : w.heap[b]? = some (.cells c 73 m)) (hg : w.grownBy w' (some b)) : PT.Kt w w' := by
  intro k c' x m' h1 h2
  refine (hg.block k (Array.getElem?_eq_some_iff.1 h1).1 ?_).trans h1
  intro hk
  simp only [Option.some.injEq] at hk
  subst hk
  have := h1.symm.trans hblk
  simp only [Option.some.injEq, Obj.cells.injEq] at this
  rcases h2 with h2 | h2 <;> (rw [h2] at this; exact absurd this.2.1 (by decide))

theorem cell_blk {w : World} {b j : Nat} {c : Array Value} {e : TypeId} {m : Nat × Nat} {v : Value} (h : w.heap[b]? = some (.cells c e m)) (hj : c[j]? = some v) : w.cell? ⟨b, j, none⟩ = some v := by
  simp [World.cell?, h, hj]
theorem frozen_blk {w : World} {b j : Nat} {c : Array Value} {e : TypeId} (h : w.heap[b]? = some (.cells c e (0, 0))) : w.frozen? ⟨b, j, none⟩ = false := by
  simp [World.frozen?, h]

variable {w : World} {b : Nat} {t : PT} {e : Nat} {sv : Value} {dn dp : Int}

def ropeM (t : PT) (e : Nat) (sv : Value) (dn ms dp : Int) : Array Value := #[t.v, .int .i64 e, sv, .int .u32 dn, .int .i32 ms, .int .u32 0, .int .i64 dp]

set_option maxRecDepth 100000 in
set_option maxHeartbeats 1600000 in
theorem slow_any (pl : Addr) (hpb : ¬ b = pl.block) (h : RP w b t e sv 0 dp) (hp : w.cell? pl = some (.pointer (some ⟨b, 0, none⟩))) :
    Calls Try.prog 40 #[.pointer (some ⟨b, 3, none⟩), .func (.func 33) #[] #[.pointer (some pl)]] w fun r w' => r = .returned (.tuple #[]) ∧ w.grownBy w' (some b) ∧ w'.heap[b]? = some (.cells (ropeC t e sv 1 t.d) 73 (0, 0)) := by
  have hd : t.d ≤ 100 := by have := h.dle; have := h.e9; omega
  have LK := Lib.hid (lock_free ⟨b, 4, none⟩ w h.c4 (h.fz 4))
  obtain ⟨wa, hwa⟩ : ∃ wa, w.setCell ⟨b, 4, none⟩ (.int .i32 1) = wa := ⟨_, rfl⟩
  have ga : w.grownBy wa (some b) := by rw [← hwa]; exact gb_set w b 4 _
  have ba : wa.heap[b]? = some (.cells (ropeM t e sv 0 1 dp) 73 (0, 0)) := by rw [← hwa]; exact blk_set _ h.blk
  have pa : wa.cell? pl = some (.pointer (some ⟨b, 0, none⟩)) := by rw [← hwa]; exact (World.cell?_setCell_other _ ⟨b, 4, none⟩ pl _ (fun h => hpb (by rw [← h]))).trans hp
  have oa : t.ok wa := h.okt.kt (h.ktg ga)
  have hl := run_call_load (P := Try.prog) Try.func41 (by kernel_rfl) (by kernel_rfl) (by kernel_rfl) .u32 (by kernel_rfl) (w := wa) (a := ⟨b, 3, none⟩) (x := 0) (cell_blk ba rfl)
  have hnot : ∀ (x : Bool) (w : World), (Op.unary .not (.bool x)).run Try.prog w = .ok (.bool (!x)) w := fun _ _ => rfl
  have KC := Lib.hid (clo_any (b := b) (t := t) pl hpb (.int .i64 dp) pa (cell_blk ba rfl) (cell_blk ba rfl) (frozen_blk ba) oa hd)
  rw [hwa] at LK
  have GA := Lib.hid ga
  have BA := Lib.hid ba
  clear h hp pa oa hwa ga ba hd
  go_enter_defers Try.func40, Try.ntmps40
  go_wp2_with (first | (go_at_call 42; refine LK.out.mono ?_; rintro r w' ⟨rfl, rfl⟩) | (go_at_call 39; go_in) | (go_at_call 33; refine KC.out.mono ?_; rintro r w2 ⟨rfl, w1, hh, hb, rfl⟩))
  have b2 := blk_set (j := 6) (.int .i64 t.d) (show w1.heap[b]? = _ from by rw [hh]; exact BA.out)
  have g2 := gb_trans GA.out (gb_trans (gb_below hb) (gb_set w1 b 6 (.int .i64 t.d)))
  obtain ⟨w2, hw2⟩ : ∃ w2, w1.setCell ⟨b, 6, none⟩ (.int .i64 t.d) = w2 := ⟨_, rfl⟩
  rw [hw2] at b2 g2 ⊢
  clear hb hh hw2
  -- the door: two deferred calls, the last laid first
  refine leaves_cons (f := 44) (args := #[.pointer (some ⟨b, 3, none⟩), .bool true]) (by simp) (by simp [go_sem]) ?_
  refine (store_deferred ⟨b, 3, none⟩ (.int .u32 0) .returning _ (cell_blk b2 rfl) (frozen_blk b2)).mono ?_
  rintro r u' w3' ⟨rfl, rfl, rfl⟩
  have b3 := blk_set (w := w2.drew) (j := 3) (.int .u32 1) b2
  have g3 := gb_trans g2 (gb_trans (gb_below (Below.refl _ _).drew) (gb_set w2.drew b 3 (.int .u32 1)))
  obtain ⟨w3, hw3⟩ : ∃ w3, w2.drew.setCell ⟨b, 3, none⟩ (.int .u32 1) = w3 := ⟨_, rfl⟩
  rw [hw3] at b3 g3 ⊢
  clear hw3 b2 g2
  refine leaves_cons (f := 43) (args := #[.pointer (some ⟨b, 4, none⟩)]) (by simp [settle]) (by simp [go_sem]) ?_
  refine (unlock_deferred ⟨b, 4, none⟩ _ _ (cell_blk b3 rfl) (frozen_blk b3)).mono ?_
  rintro r u' w4' ⟨rfl, rfl, rfl⟩
  have b4 := blk_set (j := 4) (.int .i32 0) b3
  have g4 := gb_trans g3 (gb_set w3 b 4 (.int .i32 0))
  obtain ⟨w4, hw4⟩ : ∃ w4, w3.setCell ⟨b, 4, none⟩ (.int .i32 0) = w4 := ⟨_, rfl⟩
  rw [hw4] at b4 g4 ⊢
  have hb4 : w4.heap[b]? = some (.cells (ropeC t e sv 1 t.d) 73 (0, 0)) := b4
  have HB4 := Lib.hid hb4
  have HG4 := Lib.hid g4
  clear b4 g4 hw4 b3 g3 hb4
  simp only [Leaves, settle, results, Try.results40]
  exact ⟨.tuple #[], by simp, rfl, HG4.out, HB4.out⟩

theorem do_first (pl : Addr) (hpb : ¬ b = pl.block) (h : RP w b t e sv 0 dp) (hp : w.cell? pl = some (.pointer (some ⟨b, 0, none⟩))) :
    Calls Try.prog 32 #[.pointer (some ⟨b, 3, none⟩), .func (.func 33) #[] #[.pointer (some pl)]] w fun r w' => r = .returned (.tuple #[]) ∧ w.grownBy w' (some b) ∧ w'.heap[b]? = some (.cells (ropeC t e sv 1 t.d) 73 (0, 0)) := by
  have hl := run_call_load (P := Try.prog) Try.func41 (by kernel_rfl) (by kernel_rfl) (by kernel_rfl) .u32 (by kernel_rfl) h.c3
  have hnot : ∀ (x : Bool) (w : World), (Op.unary .not (.bool x)).run Try.prog w = .ok (.bool (!x)) w := fun _ _ => rfl
  have KS := Lib.hid (slow_any pl hpb h hp)
  clear h hp
  go_enter Try.func32, Try.ntmps32
  go_wp2_with (first | (go_at_call 40; refine KS.out.mono ?_; rintro r w1 ⟨rfl, hg, hb⟩; have HG := Lib.hid hg; have HB := Lib.hid hb; clear hg hb) | (go_at_call 39; go_in))
  go_end0
  exact ⟨rfl, HG.out, HB.out⟩

theorem do_done (fv : Value) (h : RP w b t e sv 1 dp) :
    Calls Try.prog 32 #[.pointer (some ⟨b, 3, none⟩), fv] w fun r w' => r = .returned (.tuple #[]) ∧ w = w' := by
  have hl := run_call_load (P := Try.prog) Try.func41 (by kernel_rfl) (by kernel_rfl) (by kernel_rfl) .u32 (by kernel_rfl) h.c3
  have hnot : ∀ (x : Bool) (w : World), (Op.unary .not (.bool x)).run Try.prog w = .ok (.bool (!x)) w := fun _ _ => rfl
  clear h
  go_enter Try.func32, Try.ntmps32
  go_wp2
  go_end0
  exact ⟨rfl, rfl⟩

/-- How deep a rope is: worked out once. -/
theorem deep_any (h : RP w b t e sv dn dp) :
    Calls Try.prog 21 #[.pointer (some ⟨b, 0, none⟩)] w fun r w' => r = .returned (.int .i64 t.d) ∧ RP w' b t e sv 1 t.d ∧ w.grownBy w' (some b) := by
  have hmf : ∀ (fn : Fn) (first cap : Array Value) (w : World), (Instr.makeFunc fn first cap).run Try.prog w = .ok (.func fn first cap) w := fun _ _ _ _ => rfl
  have hlt := h.lt
  obtain ⟨w0, hw0⟩ : ∃ w0, w.alloc (.cells #[.pointer (some ⟨b, 0, none⟩)] 26) = w0 := ⟨_, rfl⟩
  have hb0 : Below w.heap.size w w0 := by rw [← hw0]; exact (Below.refl _ _).alloc (Nat.le_refl _) _
  have hp0 : w0.heap[w.heap.size]? = some (.cells #[.pointer (some ⟨b, 0, none⟩)] 26 (0, 0)) := by rw [← hw0]; exact heapAt4 w _
  have HR := Lib.hid (h.below hb0)
  obtain ⟨G, hG⟩ : ∃ G, w.heap.size = G := ⟨_, rfl⟩
  rw [hG] at hp0 hlt
  have hgb : G ≠ b := by omega
  have HB0 := Lib.hid (gb_below (b := b) hb0)
  have HP0 := Lib.hid hp0
  have hpl0 : w0.cell? ⟨G, 0, none⟩ = some (.pointer (some ⟨b, 0, none⟩)) := cell_blk hp0 rfl
  have hpb : ¬ b = (⟨G, 0, none⟩ : Addr).block := fun hh => hgb hh.symm
  rcases h.done with rfl | ⟨rfl, rfl⟩
  · have KD := Lib.hid (do_first ⟨G, 0, none⟩ hpb HR.out hpl0)
    clear h hb0 hp0
    go_enter Try.func21, Try.ntmps21
    go_wp2_with (first | (go_at_call 32; refine KD.out.mono ?_; rintro r w1 ⟨rfl, hg, hb⟩; have hpl1 : w1.cell? ⟨G, 0, none⟩ = some (.pointer (some ⟨b, 0, none⟩)) := cell_blk (gb_block hg HP0.out hgb) rfl; have h6 : w1.cell? ⟨b, 6, none⟩ = some (.int .i64 t.d) := cell_blk hb rfl; have HG := Lib.hid hg; have HB := Lib.hid hb; clear hg hb))
    go_ret
    have hk := HR.out.ktg HG.out
    exact ⟨rfl, ⟨HB.out, HR.out.okt.kt hk, HR.out.e9, HR.out.dle, HR.out.len, HR.out.spot.kt hk, .inr ⟨rfl, rfl⟩⟩, gb_trans HB0.out HG.out⟩
  · have h6 := HR.out.c6
    clear h hb0 hp0
    go_enter Try.func21, Try.ntmps21
    go_wp2_with (first | (go_at_call 32; refine (do_done _ HR.out).mono ?_; rintro r w1 ⟨rfl, rfl⟩))
    go_ret
    exact ⟨rfl, HR.out, HB0.out⟩

end Go.Proofs.Ytkpdehbffankkaa
