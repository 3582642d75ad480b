/- An env stored in a region that draws its order. -/
import Derived.Test.YtjkjbgekpkhpfaaGreatDoorAa
namespace Go.Proofs.YtjkjbgekpkhpfaaGreatDoor
open Go.RowKit

/-- An env stored into a block that was just made, as the region's own step has it. -/
theorem run_store_env (w : World) (b : Nat) (h : EB w b none 0 0 z0) (a' : Option Addr) (n' c' : Nat) (z' : List Int) (hz' : z'.length = 10) : (storeCells ⟨b, 0, none⟩ (ev a' n' c' z').toList).run Tryz.prog w = .ok () (w.setRow b (ev a' n' c' z')) := by
  have hst := run_storeCells_at Tryz.prog b 0 26 (ev a' n' c' z').toList 0 (ev none 0 0 z0) w h (by simp [ev_size hz', ev_size z0_len]) (fun v hv => by
    have := ev_one a' n' c' z'
    rw [Array.all_eq_true_iff_forall_mem] at this
    exact this v (by simpa using hv))
  have e : (ev none 0 0 z0).toList.drop (ev a' n' c' z').size = [] := List.drop_of_length_le (by simp [ev_size hz', ev_size z0_len])
  simpa [e] using hst

/-- Operators of the call's own are not in an env's block. -/
theorem ownO_env {base X : Nat} {w w' : World} {a a' : Option Addr} {n c n' c' : Nat} {z : List Int} {L : List OP} (h : OwnO base w a n c L) (hx : EB w X a' n' c' z) (ho : Only X w w') : OwnO base w' a n c L := by
  refine ⟨h.1, h.2.imp id ?_⟩
  rintro ⟨g, cp, cur, hv, hg, hb, r⟩
  refine ⟨g, cp, cur, hv, hg, (ho.block g fun e => ?_).trans hb, r⟩
  subst e
  unfold EB at hx
  rw [hb] at hx
  simp only [Option.some.injEq, Obj.cells.injEq] at hx
  exact absurd hx.2.1 (by decide)
/-- What stands behind: the env in its block, its operators, all else below it as it was. -/
theorem env_put {B X : Nat} {w0 w : World} {n' c' n c : Nat} {a a' : Option Addr} {z : List Int} {L : List OP} (hx : EB w X none 0 0 z0) (h : OwnO 0 w a n c L) (hb : Below B w0 w) (hB : B ≤ X) : EB (w.setRow X (ev a' n' c' z)) X a' n' c' z ∧ OwnO 0 (w.setRow X (ev a' n' c' z)) a n c L ∧ Below B w0 (w.setRow X (ev a' n' c' z)) :=
  ⟨hx.row a' n' c' z, ownO_env h hx (Only.ofRow w X _), hb.trans ((Only.ofRow w X _).below hB)⟩

/-- The eleven cells, one by one. -/
theorem env_cells {w : World} {E : Nat} {a : Option Addr} {n c : Nat} {y0 y1 y2 y3 y4 y5 y6 y7 y8 y9 : Int} (h : EB w E a n c [y0, y1, y2, y3, y4, y5, y6, y7, y8, y9]) : w.cell? ⟨E, 0, none⟩ = some (.slice a n c) ∧ w.cell? ⟨E, 1, none⟩ = some (.int .i64 y0) ∧ w.cell? ⟨E, 2, none⟩ = some (.int .i64 y1) ∧ w.cell? ⟨E, 3, none⟩ = some (.int .i64 y2) ∧ w.cell? ⟨E, 4, none⟩ = some (.int .i64 y3) ∧ w.cell? ⟨E, 5, none⟩ = some (.int .i64 y4) ∧ w.cell? ⟨E, 6, none⟩ = some (.int .i64 y5) ∧ w.cell? ⟨E, 7, none⟩ = some (.int .i64 y6) ∧ w.cell? ⟨E, 8, none⟩ = some (.int .i64 y7) ∧ w.cell? ⟨E, 9, none⟩ = some (.int .i64 y8) ∧ w.cell? ⟨E, 10, none⟩ = some (.int .i64 y9) := by
  have hc : ∀ j : Nat, w.cell? ⟨E, j, none⟩ = (ev a n c [y0, y1, y2, y3, y4, y5, y6, y7, y8, y9])[j]? := fun j => cell_of_row w E j _ _ _ h
  exact ⟨hc 0, hc 1, hc 2, hc 3, hc 4, hc 5, hc 6, hc 7, hc 8, hc 9, hc 10⟩

end Go.Proofs.YtjkjbgekpkhpfaaGreatDoor
