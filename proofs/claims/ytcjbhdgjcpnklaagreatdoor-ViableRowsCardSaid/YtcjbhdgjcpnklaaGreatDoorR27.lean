import Derived.WalkKit
import Derived.WideShapes
namespace Go.Proofs.YtcjbhdgjcpnklaaGreatDoor
open Go.RowKit
theorem zQo {P : Program} {w : World} {r : Reach} {b0 : Nat} {t e : TypeId} {v : Value} {n : Nat} (hu : (match P.underlying t with | some (.array _ _) => true | _ => false) = true)
  (hc : P.cellsOf t = n) (hts : P.cellTypes P.depth t = some (List.replicate n e)) (he : P.underlying e = some (.int .u8)) (hn : 0 < n) (h : Value.okWide P w r b0 t v) :
  ∃ zs : List Int, v = .agg (zs.map (Value.int .u8)).toArray ∧ zs.length = n ∧ ∀ x ∈ zs, 0 ≤ x ∧ x ≤ 255 := by
 have h' : ∃ cs, v = .agg cs ∧ cs.size = P.cellsOf t ∧ Row.okWide P w r b0 t cs := by
  unfold Value.okWide at h
  cases ht : P.underlying t with
  | none => rw [ht] at hu; simp at hu
  | some T =>
   rw [ht] at hu h
   cases T with
   | array a b => exact h
   | _ => simp at hu
 obtain ⟨cs, rfl, hsz, ts, h1, _, h3⟩ := h'
 rw [hc] at hsz
 rw [hts] at h1
 obtain rfl := Option.some.inj h1
 have hcell : ∀ i (hi : i < cs.size), ∃ x : Int, cs[i] = .int .u8 x ∧ 0 ≤ x ∧ x ≤ 255 := by
  intro i hi
  obtain ⟨u, hu', hv⟩ := h3 i cs[i] (by simp [hi])
  rw [List.length_replicate, List.getElem?_replicate, if_pos (Nat.mod_lt _ hn)] at hu'
  obtain rfl := Option.some.inj hu'
  unfold Cell.okWide at hv
  rw [he] at hv
  unfold Cell.ok at hv
  rw [he] at hv
  cases hx : cs[i] with
  | int k x =>
   rw [hx] at hv
   simp at hv
   obtain ⟨rfl, hv⟩ := hv
   have h1 : IntKind.u8.min = 0 := rfl
   have h2 : IntKind.u8.max = 255 := rfl
   unfold IntKind.has at hv
   rw [h1, h2] at hv
   exact ⟨x, rfl, hv⟩
  | _ => rw [hx] at hv; simp at hv
 refine ⟨cs.toList.map fun c => (match c with | .int _ x => x | _ => 0), ?_, by simpa using hsz, ?_⟩
 ·congr 1
  apply Array.ext
  ·simp
  ·intro i h1 h2
   obtain ⟨x, hx, _⟩ := hcell i h1
   simp [hx]
 ·intro x hx
  obtain ⟨c, hc', rfl⟩ := List.mem_map.1 hx
  obtain ⟨i, hi, rfl⟩ := List.getElem_of_mem hc'
  obtain ⟨y, hy, hr⟩ := hcell i (by simpa using hi)
  rw [Array.getElem_toList, hy]
  exact hr
end Go.Proofs.YtcjbhdgjcpnklaaGreatDoor
