import Derived.Laws.StructEq
import Derived.Lib.SmallJoins
import Derived.Test.YtcjbhdgjcpnklaaGreatDoorV22
import Derived.Test.YtcjbhdgjcpnklaaGreatDoorV04
import Derived.Test.YtcjbhdgjcpnklaaGreatDoorV06
namespace Go.Proofs.YtcjbhdgjcpnklaaGreatDoor
section
open Go.RowKit
structure TV (g : Nat) (cs : Array Value) (w : World) : Prop where
 lt : g < w.heap.size
 c : ∀ i, w.cell? ⟨g, i, none⟩ = cs[i]?
 z : ∀ i, w.frozen? ⟨g, i, none⟩ = false
theorem zNQ (w : World) (cs : Array Value) (e : TypeId) : TV w.heap.size cs (w.alloc (.cells cs e)) := ⟨by simp, fun i => cell_of_row _ _ _ _ _ _ (heap_alloc_new w _), fun i => frozen_of_row _ _ _ _ _ (heap_alloc_new w _)⟩
theorem TV.keep {g : Nat} {cs : Array Value} {w w' : World} (h : TV g cs w) (hb : Below w.heap.size w w') : TV g cs w' :=
 ⟨Nat.lt_of_lt_of_le h.lt hb.size, fun i => (hb.cell (p := ⟨g, i, none⟩) h.lt).trans (h.c i), fun i => (hb.frozen (p := ⟨g, i, none⟩) h.lt).trans (h.z i)⟩
end
section
open Go.RowKit
def xk : Option (Nat × TR) → Int | none => 0 | some (_, t) => t.k
def xt : Option (Nat × TR) → Nat | none => 0 | some (f, t) => f + t.n
def xs : Option (Nat × TR) → List Int | none => [] | some (_, t) => t.t
theorem zHp : nxV none = .tuple #[.agg #[.int .i64 0, .int .i64 0, .int .i64 0, .string ⟨#[]⟩, .int .i64 0], .bool false] := rfl
theorem zHq (f : Nat) (t : TR) : nxV (some (f, t)) = .tuple #[.agg #[.int .i64 t.k, .int .i64 f, .int .i64 (f + t.n : Nat), .string (bstr t.t), .int .i64 t.e], .bool true] := rfl
theorem zOA {l : List Int} {k f : Nat} {t : TR} (hk : k ≤ l.length) (hr : ∀ x ∈ l, 0 ≤ x ∧ x ≤ 255) (h : nx l k = some (f, t)) :
  f = k + (sk (l.drop k)).1 ∧ f < l.length ∧ TG (l.drop f) t := by
 obtain ⟨n, z, hs, hn, hz⟩ := zG2 l k hk
 by_cases h0 : z = 0
 ·subst h0
  by_cases he : k + n = l.length
  ·rw [zCC hs he] at h; cases h
  ·rw [zG1 hs he] at h
   simp only [Option.some.injEq, Prod.mk.injEq] at h
   obtain ⟨rfl, rfl⟩ := h
   exact ⟨by rw [hs], by omega, zCZ (by rw [List.length_drop]; omega) fun x hx => hr x (List.drop_subset _ _ hx)⟩
 ·have h1 := hz h0
  rw [zJn hs h0] at h
  simp only [Option.some.injEq, Prod.mk.injEq] at h
  obtain ⟨rfl, rfl⟩ := h
  refine ⟨by rw [hs], h1.1, ⟨by show 1 ≤ l.length - (k + n); omega, by show l.length - (k + n) ≤ _; rw [List.length_drop]; omega, by simp, by simp, ?_, fun _ => rfl, fun hh => absurd rfl hh⟩⟩
  simpa using h0
end
section
open Go.RowKit
end
section
open Go.RowKit
end
section
open Go.RowKit
theorem zJt (l : List Int) : (bstr l).size = l.length := by simp [bstr, ByteArray.size]
theorem zHr (w : World) (s : ByteArray) (l : List Int) (hs : s = bstr l) (hr : ∀ x ∈ l, 0 ≤ x ∧ x ≤ 255) (hl : l.length ≤ 1000000) :
  ∃ g C W', (convert 9 59 (.string s)).run Tryz.prog w = .ok (.slice (some ⟨g, 0, none⟩) l.length C) W' ∧ Bs W' (some ⟨g, 0, none⟩) l.length C l ∧ Below w.heap.size w W' := by
 have h := run_bytes_of_string (P := Tryz.prog) w 9 59 5 s Tryz.underlying9 Tryz.underlying59 Tryz.underlying5
 have hz : s.size = l.length := by rw [hs, zJt]
 have hc1 := grownCap_ge w s.size 0 5
 have hc2 := grownCap_le_maxLen w s.size 0 5 (by unfold maxLen; omega)
 rw [hz] at hc1 hc2 h
 refine ⟨_, _, _, h, ⟨rfl, hc1, hc2, hr, fun h0 => ⟨_, 0, rfl, by simp, fun j hj => ?_⟩⟩, ((Below.refl _ _).drew).alloc (Nat.le_refl _) _⟩
 have hn := cell_of_row (w.drew.alloc (.cells (bytesRow s (grownCap w l.length 0 5)) 5 ((bytesRow s (grownCap w l.length 0 5)).size, (bytesRow s (grownCap w l.length 0 5)).size + 1))) w.heap.size (0 + j) _ 5 _ (heap_alloc_new w.drew _)
 rw [hn]
 rw [bytesRow_at s _ (0 + j) (show 0 + j < s.size from by omega)]
 subst hs
 simp only [Nat.zero_add, bstr, List.getElem_toArray, List.getElem_map]
 rw [zFA (hr _ (List.getElem_mem hj))]
 simp [bt, List.getD, hj]
end
section
open Go.RowKit
structure TK where
 k : Int
 f : Int
 t : Int
 s : ByteArray
 e : Int
def tkOf (p : Nat × TR) : TK := ⟨p.2.k, p.1, (p.1 + p.2.n : Nat), bstr p.2.t, p.2.e⟩
def lxF : Nat → List Int → Nat → List (Nat × TR)
 | 0, _, _ => []
 | f + 1, l, k => match nx l k with
  | none => []
  | some (p, t) => (p, t) :: lxF f l (p + t.n)
def lx (l : List Int) (k : Nat) : List (Nat × TR) := lxF (l.length - k) l k
theorem zHs {l : List Int} {k f : Nat} {t : TR} (hk : k ≤ l.length) (hr : ∀ x ∈ l, 0 ≤ x ∧ x ≤ 255) (h : nx l k = some (f, t)) :
  k ≤ f ∧ 1 ≤ t.n ∧ f + t.n ≤ l.length := by
 obtain ⟨h1, h2, h3⟩ := zOA hk hr h
 have h4 := h3.n1
 have h5 := h3.nl
 rw [List.length_drop] at h5
 exact ⟨by omega, h4, by omega⟩
theorem zJu {l : List Int} : nx l l.length = none := by
 refine zCC (n := 0) ?_ (by omega)
 rw [List.drop_length]; rfl
theorem zHt {l : List Int} (hr : ∀ x ∈ l, 0 ≤ x ∧ x ≤ 255) : ∀ (f g : Nat) (k : Nat), k ≤ l.length → l.length - k ≤ f → l.length - k ≤ g → lxF f l k = lxF g l k
 | 0, 0, _, _, _, _ => rfl
 | 0, g + 1, k, hk, h, _ => by
  have : k = l.length := by omega
  subst this
  rw [lxF, lxF, zJu]
 | f + 1, 0, k, hk, _, h => by
  have : k = l.length := by omega
  subst this
  rw [lxF, lxF, zJu]
 | f + 1, g + 1, k, hk, h, h' => by
  rw [lxF, lxF]
  cases hn : nx l k with
  | none => rfl
  | some p =>
   obtain ⟨q, t⟩ := p
   obtain ⟨h1, h2, h3⟩ := zHs hk hr hn
   show (q, t) :: _ = (q, t) :: _
   rw [zHt hr f g (q + t.n) h3 (by omega) (by omega)]
theorem zJv {l : List Int} {k : Nat} (h : nx l k = none) : lx l k = [] := by
 unfold lx
 cases hf : l.length - k with
 | zero => rfl
 | succ f => rw [lxF, h]
theorem zJw {l : List Int} {k f : Nat} {t : TR} (hk : k ≤ l.length) (hr : ∀ x ∈ l, 0 ≤ x ∧ x ≤ 255) (h : nx l k = some (f, t)) : lx l k = (f, t) :: lx l (f + t.n) := by
 obtain ⟨h1, h2, h3⟩ := zHs hk hr h
 unfold lx
 obtain ⟨g, hg⟩ : ∃ g, l.length - k = g + 1 := ⟨l.length - k - 1, by omega⟩
 rw [hg, lxF, h]
 show (f, t) :: _ = (f, t) :: _
 rw [zHt hr g (l.length - (f + t.n)) (f + t.n) h3 (by omega) (Nat.le_refl _)]
end
section
open Go.RowKit
end
section
open Go.RowKit
def sb (s : ByteArray) : List Int := s.toList.map fun b => (b.toNat : Int)
theorem zNR (s : ByteArray) : ∀ x ∈ sb s, 0 ≤ x ∧ x ≤ 255 := by
 intro x hx
 obtain ⟨b, _, rfl⟩ := List.mem_map.1 hx
 have := b.toNat_lt
 omega
theorem toList_inj {s t : ByteArray} (h : s.toList = t.toList) : s = t := by
 rw [ByteArray.toList_eq, ByteArray.toList_eq] at h
 apply ByteArray.ext
 exact Array.toList_inj.1 h
theorem zJx (s : ByteArray) : bstr (sb s) = s := by
 apply toList_inj
 rw [zA4, sb, List.map_map]
 have : (fun b : UInt8 => UInt8.ofNat ((b.toNat : Int)).toNat) = id := by funext b; simp
 show s.toList.map (fun b : UInt8 => UInt8.ofNat ((b.toNat : Int)).toNat) = _
 rw [this, List.map_id]
def toks (l : List Int) : List TK := (lx l 0).map tkOf
def kt (t : TK) : Int × List UInt8 := (t.k, t.s.toList)
end
section
open Go.RowKit
def cellsT (t : TK) : List Value := [.int .i64 t.k, .int .i64 t.f, .int .i64 t.t, .string t.s, .int .i64 t.e]
def rowT : List TK → List Value
 | [] => []
 | t :: L => cellsT t ++ rowT L
def tat (L : List TK) (j : Nat) : TK := L.getD j ⟨0, 0, 0, ⟨#[]⟩, 0⟩
theorem zBs : ∀ L : List TK, (rowT L).length = L.length * 5
 | [] => rfl
 | t :: L => by rw [rowT, List.length_append, zBs L, List.length_cons]; simp [cellsT]; omega
theorem zDx : ∀ A B : List TK, rowT (A ++ B) = rowT A ++ rowT B
 | [], B => rfl
 | a :: A, B => by rw [List.cons_append, rowT, rowT, zDx A B, List.append_assoc]
theorem zG3 : ∀ (L : List TK) (j i : Nat), i < 5 → j < L.length → (rowT L)[j * 5 + i]? = (cellsT (tat L j))[i]?
 | [], j, i, _, h => by simp at h
 | t :: L, 0, i, hi, _ => by
  rw [rowT, Nat.zero_mul, Nat.zero_add, List.getElem?_append_left (by simpa [cellsT] using hi)]; rfl
 | t :: L, j + 1, i, hi, h => by
  rw [rowT, List.getElem?_append_right (by simp [cellsT]; omega), show (j + 1) * 5 + i - (cellsT t).length = j * 5 + i by simp [cellsT]; omega,
   zG3 L j i hi (by simpa using h)]
  rfl
theorem zL0 (L : List TK) : ∀ u ∈ rowT L, u.oneCell' = true := by
 induction L with
 | nil => simp [rowT]
 | cons t L ih =>
  intro u hu
  rw [rowT] at hu
  rcases List.mem_append.1 hu with hu | hu
  ·simp only [cellsT, List.mem_cons, List.not_mem_nil, or_false] at hu
   rcases hu with rfl | rfl | rfl | rfl | rfl <;> rfl
  ·exact ih u hu
theorem zHu {L : List TK} {j : Nat} (h : j < L.length) : L.take (j + 1) = L.take j ++ [tat L j] := by
 rw [List.take_add_one]; unfold tat; simp [List.getD, h]
structure Ts (w : World) (a : Option Addr) (len cap : Nat) (L : List TK) : Prop where
 hl : L.length = len
 lc : len ≤ cap
 cm : cap ≤ maxLen
 at_ : 0 < len → ∃ b off, a = some ⟨b, off, none⟩ ∧ b < w.heap.size ∧ ∀ j, j < len → ∀ i, i < 5 → w.cell? ⟨b, off + (j * 5 + i), none⟩ = (cellsT (tat L j))[i]?
theorem Ts.keep {w w' : World} {a : Option Addr} {len cap : Nat} {L : List TK} (h : Ts w a len cap L) (hs : w.heap.size ≤ w'.heap.size)
  (hk : ∀ x, x.block < w.heap.size → w'.cell? x = w.cell? x) : Ts w' a len cap L :=
 ⟨h.hl, h.lc, h.cm, fun h0 => by
  obtain ⟨b, off, ha, hb, hc⟩ := h.at_ h0
  exact ⟨b, off, ha, by omega, fun j hj i hi => (hk _ hb).trans (hc j hj i hi)⟩⟩
theorem Ts.below {w w' : World} {a : Option Addr} {len cap : Nat} {L : List TK} (h : Ts w a len cap L) (hb : Below w.heap.size w w') : Ts w' a len cap L :=
 h.keep hb.size fun _ hx => hb.cell hx
theorem Ts.alloc {w : World} {a : Option Addr} {len cap : Nat} {L : List TK} (h : Ts w a len cap L) (o : Obj) : Ts (w.alloc o) a len cap L := h.below ((Below.refl _ _).alloc (Nat.le_refl _) o)
theorem Ts.nil (w : World) (a : Option Addr) (cap : Nat) (h : cap ≤ maxLen) : Ts w a 0 cap [] := ⟨rfl, Nat.zero_le _, h, fun h => by omega⟩
theorem Ts.cells {w : World} {b off len cap : Nat} {L : List TK} (h : Ts w (some ⟨b, off, none⟩) len cap L) {j : Nat} (hj : j < len) (i : Nat) (hi : i < 5) :
  w.cell? ⟨b, off + (j * 5 + i), none⟩ = (cellsT (tat L j))[i]? := by
 obtain ⟨b', off', ha, _, hc⟩ := h.at_ (by omega)
 simp only [Option.some.injEq, Addr.mk.injEq] at ha
 obtain ⟨rfl, rfl, _⟩ := ha
 exact hc j hj i hi
theorem Ts.at5 {w : World} {b off len cap : Nat} {L : List TK} (h : Ts w (some ⟨b, off, none⟩) len cap L) {k : Nat} (hk : k < len) :
  w.cell? ⟨b, off + k * 5, none⟩ = some (.int .i64 (tat L k).k) ∧ w.cell? ⟨b, off + k * 5 + 1, none⟩ = some (.int .i64 (tat L k).f) ∧ w.cell? ⟨b, off + k * 5 + 2, none⟩ = some (.int .i64 (tat L k).t) ∧
  w.cell? ⟨b, off + k * 5 + 3, none⟩ = some (.string (tat L k).s) ∧ w.cell? ⟨b, off + k * 5 + 4, none⟩ = some (.int .i64 (tat L k).e) :=
 ⟨h.cells hk 0 (by omega), h.cells hk 1 (by omega), h.cells hk 2 (by omega), h.cells hk 3 (by omega), h.cells hk 4 (by omega)⟩
structure RowT (base : Nat) (e : TypeId) (w : World) (a : Option Addr) (len cap : Nat) (L : List TK) : Prop where
 hl : L.length = len
 lc : len ≤ cap
 cm : cap ≤ maxLen
 own : 0 < len → ∃ g cur, a = some ⟨g, 0, none⟩ ∧ base ≤ g ∧ w.heap[g]? = some (.cells cur e (0, 0)) ∧ cur.toList.take (len * 5) = rowT L
def OwnT (base : Nat) (e : TypeId) (w : World) (a : Option Addr) (len cap : Nat) (L : List TK) : Prop := w.ownsRow base e 5 (.slice a len cap) len (rowT L)
theorem OwnT.row {base : Nat} {e : TypeId} {w : World} {a : Option Addr} {len cap : Nat} {L : List TK} (h : OwnT base e w a len cap L) : RowT base e w a len cap L := by
 obtain ⟨hl, h1⟩ := h
 rw [zBs] at hl
 rcases h1 with ⟨hv, hn⟩ | ⟨g, cp, cur, hv, hb, hg, hnc, hcm, hcs, htake⟩
 ·simp only [Value.slice.injEq] at hv
  obtain ⟨rfl, rfl, rfl⟩ := hv
  exact ⟨by omega, Nat.le_refl _, Nat.zero_le _, fun h => by omega⟩
 ·simp only [Value.slice.injEq, true_and] at hv
  obtain ⟨rfl, rfl⟩ := hv
  exact ⟨by omega, hnc, hcm, fun _ => ⟨g, cur, rfl, hb, hg, htake⟩⟩
theorem RowT.ts {base : Nat} {e : TypeId} {w : World} {a : Option Addr} {len cap : Nat} {L : List TK} (h : RowT base e w a len cap L) : Ts w a len cap L :=
 ⟨h.hl, h.lc, h.cm, fun h0 => by
  obtain ⟨g, cur, ha, hb, hg, ht⟩ := h.own h0
  refine ⟨g, 0, ha, (Array.getElem?_eq_some_iff.1 hg).1, fun j hj i hi => ?_⟩
  rw [cell_of_row w g (0 + (j * 5 + i)) cur e (0, 0) hg, Nat.zero_add, ← zG3 L j i hi (by rw [h.hl]; exact hj), ← ht, List.getElem?_take, if_pos (by omega)]
  simp⟩
theorem OwnT.ts {base : Nat} {e : TypeId} {w : World} {a : Option Addr} {len cap : Nat} {L : List TK} (h : OwnT base e w a len cap L) : Ts w a len cap L := h.row.ts
theorem OwnT.none0 {base : Nat} {e : TypeId} {w : World} : OwnT base e w none 0 0 [] := ⟨rfl, .inl ⟨rfl, rfl⟩⟩
theorem OwnT.keep {base B : Nat} {e : TypeId} {w w' : World} {a : Option Addr} {len cap : Nat} {L : List TK} (h : OwnT base e w a len cap L) (hb : Below B w w') (hB : w.heap.size ≤ B) : OwnT base e w' a len cap L :=
 World.ownsRow.kept h (row := none) ⟨hb.os, hb.tape, hb.output, hb.size, fun j hj _ => hb.block j (by omega)⟩ (by cases hv : (Value.slice a len cap).ownBlock <;> simp)
theorem OwnT.alloc {base : Nat} {e : TypeId} {w : World} {a : Option Addr} {len cap : Nat} {L : List TK} (h : OwnT base e w a len cap L) (o : Obj) : OwnT base e (w.alloc o) a len cap L := World.ownsRow.alloc h o
theorem RowT.keep {base B : Nat} {e : TypeId} {w w' : World} {a : Option Addr} {len cap : Nat} {L : List TK} (h : RowT base e w a len cap L) (hb : Below B w w') (hB : w.heap.size ≤ B) : RowT base e w' a len cap L :=
 ⟨h.hl, h.lc, h.cm, fun h0 => by
  obtain ⟨g, cur, ha, hg0, hg, ht⟩ := h.own h0
  exact ⟨g, cur, ha, hg0, (hb.block g (by have := (Array.getElem?_eq_some_iff.1 hg).1; omega)).trans hg, ht⟩⟩
theorem RowT.cut {base : Nat} {e : TypeId} {w : World} {a : Option Addr} {len cap : Nat} {L : List TK} (h : RowT base e w a len cap L) : RowT base e w a len len L :=
 ⟨h.hl, Nat.le_refl _, Nat.le_trans h.lc h.cm, h.own⟩
theorem OwnT.emptyAt {base X : Nat} {e : TypeId} {w : World} (h : w.heap[X]? = some (.cells #[] e (0, 0))) (hb : base ≤ X) : OwnT base e w (some ⟨X, 0, none⟩) 0 0 [] :=
 ⟨by simp [rowT], .inr ⟨X, 0, #[], rfl, hb, h, Nat.le_refl _, Nat.zero_le _, rfl, by simp [rowT]⟩⟩
theorem Ts.one (w : World) (e : TypeId) {mk : Nat × Nat} (t : TK) {cs : Array Value} (hc : cs = (cellsT t).toArray) {g : Nat} (hg : g = w.heap.size) : Ts (w.alloc (.cells cs e mk)) (some ⟨g, 0, none⟩) 1 1 [t] := by
 subst hc; subst hg
 refine ⟨rfl, Nat.le_refl _, by decide, fun _ => ⟨w.heap.size, 0, rfl, by simp, fun j hj i hi => ?_⟩⟩
 obtain rfl : j = 0 := by omega
 rw [cell_of_row (w.alloc (.cells (cellsT t).toArray e mk)) w.heap.size (0 + (0 * 5 + i)) _ e mk (heap_alloc_new w _)]
 simp [tat]
theorem zL1 : (Tryz.prog.info? 51).map (fun i => (i.zero, i.size, i.bytes)) = some (some (.agg #[.int .i64 0, .int .i64 0, .int .i64 0, .string { data := #[] }, .int .i64 0]), 5, 48) := by kernel_rfl
theorem Ts.news {w : World} {a : Option Addr} {len cap : Nat} {L : List TK} (h : Ts w a len cap L) : ∀ b off, a = some ⟨b, off, none⟩ → 0 < len → ∀ j u, (rowT L)[j]? = some u → w.cell? ((⟨b, off, none⟩ : Addr).add j) = some u := by
 intro b off ha h0 j u hj
 subst ha
 have hjl : j < L.length * 5 := by
  rw [← zBs]
  exact (List.getElem?_eq_some_iff.1 hj).1
 have := h.hl
 have h1 := h.cells (j := j / 5) (by omega) (j % 5) (by omega)
 rw [show j / 5 * 5 + j % 5 = j by omega, ← zG3 L (j / 5) (j % 5) (by omega) (by omega), show j / 5 * 5 + j % 5 = j by omega, hj] at h1
 rw [zAe]
 exact h1
theorem zJy {w : World} {o : Oper} {a : Act} {K : Act → World → Prop} {Q : Exit → Act → World → Prop} (s x : Operand)
  (ho : o.op = .call { callee := .builtin .append, args := #[s, x], argTypes := #[23, 23] })
  (base : Nat) (sa : Option Addr) (n c : Nat) (L : List TK) (hs : a.eval s = .slice sa n c) (hown : OwnT base 51 w sa n c L)
  (xa : Option Addr) (m d : Nat) (M : List TK) (hx : a.eval x = .slice xa m d) (hb : Ts w xa m d M)
  (hbig : n + m ≤ 1000000000000) (hbase : base ≤ w.heap.size)
  (h : ∀ a' c' w', OwnT base 51 w' a' (n + m) c' (L ++ M) → w.grownBy w' (Value.ownBlock (.slice sa n c)) → Below base w w' → K (a.put o.dst (.slice a' (n + m) c')) w') : o.wp Tryz.prog a w K Q := by
 obtain ⟨i, hi, hz, hsz, hby⟩ := info_parts zL1
 have ht := Tryz.underlying23
 have hlt : n + m ≤ maxLen := by unfold maxLen; omega
 have fin : ∀ v' w', w'.ownsRow base 51 5 v' (n + m) (rowT L ++ rowT M) → w.grownBy w' (Value.ownBlock (.slice sa n c)) → K (a.put o.dst v') w' := by
  intro v' w' ho' hg
  rw [← zDx] at ho'
  have hbe : Below base w w' := (Below.refl base w).grown hg hbase fun k hk => (World.ownsRow.lt hown k hk).1
  rcases ho'.2 with ⟨rfl, hn0⟩ | ⟨g, cp, cur, rfl, r⟩
  ·have hh := h none 0 w' (by rw [hn0]; rw [hn0] at ho'; exact ho') hg hbe
   rw [hn0] at hh; exact hh
  ·exact h _ _ w' ho' hg hbe
 by_cases h0 : 0 < m
 ·obtain ⟨b, off, rfl, _, _⟩ := hb.at_ h0
  exact wp_append_own w s x 23 ho base 51 i _ 5 48 ht hi hz hsz hby rfl (by omega) _ _ _ hs hown ⟨b, off, none⟩ m d (rowT M) hx (by rw [zBs, hb.hl])
   (hb.news b off rfl h0) (zL0 M) hlt (by omega) hbase (fun v' w' h1 h2 _ => fin v' w' h1 h2)
 ·have hm0 : m = 0 := by omega
  subst hm0
  have hk0 : M = [] := List.eq_nil_of_length_eq_zero hb.hl
  subst hk0
  cases xa with
  | some ad => exact wp_append_own w s x 23 ho base 51 i _ 5 48 ht hi hz hsz hby rfl (by omega) _ _ _ hs hown ad 0 d [] hx rfl (by simp) (by simp) hlt (by omega) hbase (fun v' w' h1 h2 _ => fin v' w' (by simpa [rowT] using h1) h2)
  | none =>
   have hr : (Builtin.append_ #[23, 23] o.type #[.slice sa n c, .slice none 0 d]).run Tryz.prog w = .ok (.slice sa n c) w := by
    rcases hown.2 with ⟨hv, hn⟩ | ⟨g, cp, cur, hv, _, _, hnc, _⟩
    ·simp only [Value.slice.injEq] at hv
     obtain ⟨rfl, rfl, rfl⟩ := hv
     simp [Builtin.append_, run_underlying ht, sizeOf, typeInfo, hi, Builtin.lenOf, Builtin.firstCells]
    ·simp only [Value.slice.injEq, true_and] at hv
     obtain ⟨rfl, rfl⟩ := hv
     simp [Builtin.append_, run_underlying ht, sizeOf, typeInfo, hi, Builtin.lenOf, Builtin.firstCells, hnc, storeCells]
   unfold Oper.wp execOp
   simp only [ho, resolve, invoke, builtin, Sem.run_bind, Sem.run_pure, Result.andThen_ok, List.map_toArray, List.map_cons, List.map_nil, hs, hx, hr]
   exact fin _ w (by rw [show rowT [] = [] from rfl, List.append_nil]; exact hown) ⟨rfl, rfl, rfl, Nat.le_refl _, fun _ _ _ => rfl⟩
theorem zBt {ops : Array Oper} {rest : List Oper} {w : World} {o : Oper} {a : Act} {Q : Exit → Act → World → Prop} (hw : Region.wanted o (yielded ops a.tmps) = true) (s x : Operand)
  (ho : o.op = .call { callee := .builtin .append, args := #[s, x], argTypes := #[23, 23] })
  (base : Nat) (sa : Option Addr) (n c : Nat) (L : List TK) (hs : a.eval s = .slice sa n c) (hown : OwnT base 51 w sa n c L)
  (xa : Option Addr) (m d : Nat) (M : List TK) (hx : a.eval x = .slice xa m d) (hb : Ts w xa m d M)
  (hbig : n + m ≤ 1000000000000) (hbase : base ≤ w.heap.size)
  (h : ∀ a' c' w', OwnT base 51 w' a' (n + m) c' (L ++ M) → w.grownBy w' (Value.ownBlock (.slice sa n c)) → Below base w w' → wpList Tryz.prog ops Q rest (a.put o.dst (.slice a' (n + m) c')) w') : wpList Tryz.prog ops Q (o :: rest) a w :=
 wpList_step fun K hK => by
  rw [if_pos hw]
  exact zJy s x ho base sa n c L hs hown xa m d M hx hb hbig hbase fun a' c' w' h1 h2 h3 => hK _ _ (h a' c' w' h1 h2 h3)
end
end Go.Proofs.YtcjbhdgjcpnklaaGreatDoor
