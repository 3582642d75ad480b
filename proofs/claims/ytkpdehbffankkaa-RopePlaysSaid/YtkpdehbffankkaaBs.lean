/- Append of a string's bytes onto a row of the call's own, at a step of a region that draws, too. -/
import Derived.Test.YtkpdehbffankkaaBy
import Derived.Lib.AppendStr
namespace Go.Proofs.Ytkpdehbffankkaa
open Go.RowKit

theorem wp_app_str {P : Program} {w : World} {o : Oper} {a : Act} {K : Act → World → Prop} {Q : Exit → Act → World → Prop} (s x : Operand) (t u : TypeId)
    (ho : o.op = .call { callee := .builtin .append, args := #[s, x], argTypes := #[t, u] })
    (e base : Nat) (ht : P.underlying t = some (.slice e)) (hu : P.underlying u = some .string) (hinf : (P.info? e).map (fun i => (i.zero, i.size, i.bytes)) = some (some (.int .u8 0), 1, 1))
    (sa : Option Addr) (n c : Nat) (l : List Int) (hs : a.eval s = .slice sa n c) (hown : OwnB base e w sa n c l) (hsa : sa ≠ none)
    (b : ByteArray) (k : List Int) (hx : a.eval x = .string b) (hk : Lib.strCells b = k.map (Value.int .u8)) (hkr : ∀ x ∈ k, 0 ≤ x ∧ x ≤ 255)
    (hbig : n + k.length ≤ 140737488355328) (hbase : base ≤ w.heap.size)
    (h : ∀ g c' w', OwnB base e w' (some ⟨g, 0, none⟩) (n + k.length) c' (l ++ k) → w.grownBy w' (Value.ownBlock (.slice sa n c)) → Below base w w' → K (a.put o.dst (.slice (some ⟨g, 0, none⟩) (n + k.length) c')) w') : o.wp P a w K Q := by
  obtain ⟨i, hi, hz, hsz, hby⟩ := info_parts hinf
  have hsize : b.size = k.length := by rw [← Lib.strCells_length, hk, List.length_map]
  have hlt : n + b.size ≤ maxLen := by unfold maxLen; omega
  obtain ⟨v', w', hr, h2, h3, h4⟩ := Lib.run_append_own_string (P := P) w base t u o.type e i ht hu hi hz hsz hby _ n _ hown.1 b hlt (by omega) hbase
  unfold Oper.wp execOp
  simp only [ho, resolve, invoke, builtin, Sem.run_bind, Sem.run_pure, Result.andThen_ok, List.map_toArray, List.map_cons, List.map_nil, hs, hx, hr]
  rw [hk, ← List.map_append, hsize] at h2
  have hbe : Below base w w' := (Below.refl base w).grown h3 hbase fun k hk => (hown.1.lt k hk).1
  have hrng : ∀ x ∈ l ++ k, 0 ≤ x ∧ x ≤ 255 := by
    intro x hx
    rcases List.mem_append.1 hx with h | h
    · exact hown.2 x h
    · exact hkr x h
  rcases h2.2 with ⟨rfl, hn0⟩ | ⟨g, cp, cur, rfl, r⟩
  · have := (h4.1 rfl).1
    rw [Value.slice.injEq] at this
    exact absurd this.1 hsa
  · exact h _ _ w' ⟨h2, hrng⟩ h3 hbe

theorem step_app_str {P : Program} {w : World} {ops : Array Oper} {o : Oper} {a : Act} {K : Act → World → Prop} {Q : Exit → Act → World → Prop} {E : Prop} (hgd : o.guard = none) (s x : Operand) (t u : TypeId)
    (ho : o.op = .call { callee := .builtin .append, args := #[s, x], argTypes := #[t, u] })
    (e base : Nat) (ht : P.underlying t = some (.slice e)) (hu : P.underlying u = some .string) (hinf : (P.info? e).map (fun i => (i.zero, i.size, i.bytes)) = some (some (.int .u8 0), 1, 1))
    (sa : Option Addr) (n c : Nat) (l : List Int) (hs : a.eval s = .slice sa n c) (hown : OwnB base e w sa n c l) (hsa : sa ≠ none)
    (b : ByteArray) (k : List Int) (hx : a.eval x = .string b) (hk : Lib.strCells b = k.map (Value.int .u8)) (hkr : ∀ x ∈ k, 0 ≤ x ∧ x ≤ 255)
    (hbig : n + k.length ≤ 140737488355328) (hbase : base ≤ w.heap.size)
    (h : ∀ g c' w', OwnB base e w' (some ⟨g, 0, none⟩) (n + k.length) c' (l ++ k) → w.grownBy w' (Value.ownBlock (.slice sa n c)) → Below base w w' → K (a.put o.dst (.slice (some ⟨g, 0, none⟩) (n + k.length) c')) w') :
    if Region.wanted o (yielded ops a.tmps) = true then o.wp P a w K Q else E := by
  rw [if_pos (show Region.wanted o (yielded ops a.tmps) = true by simp [Region.wanted, hgd])]
  exact wp_app_str s x t u ho e base ht hu hinf sa n c l hs hown hsa b k hx hk hkr hbig hbase h

theorem wpList_app_str {P : Program} {ops : Array Oper} {rest : List Oper} {w : World} {o : Oper} {a : Act} {Q : Exit → Act → World → Prop} (hw : Region.wanted o (yielded ops a.tmps) = true) (s x : Operand) (t u : TypeId)
    (ho : o.op = .call { callee := .builtin .append, args := #[s, x], argTypes := #[t, u] })
    (e base : Nat) (ht : P.underlying t = some (.slice e)) (hu : P.underlying u = some .string) (hinf : (P.info? e).map (fun i => (i.zero, i.size, i.bytes)) = some (some (.int .u8 0), 1, 1))
    (sa : Option Addr) (n c : Nat) (l : List Int) (hs : a.eval s = .slice sa n c) (hown : OwnB base e w sa n c l) (hsa : sa ≠ none)
    (b : ByteArray) (k : List Int) (hx : a.eval x = .string b) (hk : Lib.strCells b = k.map (Value.int .u8)) (hkr : ∀ x ∈ k, 0 ≤ x ∧ x ≤ 255)
    (hbig : n + k.length ≤ 140737488355328) (hbase : base ≤ w.heap.size)
    (h : ∀ g c' w', OwnB base e w' (some ⟨g, 0, none⟩) (n + k.length) c' (l ++ k) → w.grownBy w' (Value.ownBlock (.slice sa n c)) → Below base w w' → wpList P ops Q rest (a.put o.dst (.slice (some ⟨g, 0, none⟩) (n + k.length) c')) w') : wpList P ops Q (o :: rest) a w :=
  wpList_step fun K hK => by
    rw [if_pos hw]
    exact wp_app_str s x t u ho e base ht hu hinf sa n c l hs hown hsa b k hx hk hkr hbig hbase fun g c' w' h1 h2 h3 => hK _ _ (h g c' w' h1 h2 h3)

end Go.Proofs.Ytkpdehbffankkaa
