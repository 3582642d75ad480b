import Derived.Test.YtcjbhdgjcpnklaaGreatDoorV22
import Derived.Test.YtcjbhdgjcpnklaaGreatDoorV07
import Derived.Test.YtcjbhdgjcpnklaaGreatDoorV08
namespace Go.Proofs.YtcjbhdgjcpnklaaGreatDoor
section
open Go.RowKit
theorem zEr {a : Option Addr} {n n' c c' : Nat} (h1 : n = n') (h2 : c = c') : Ending.returned (.slice a n c) = .returned (.slice a n' c') := by rw [h1, h2]
set_option maxRecDepth 20000 in
theorem zI5 (a : Option Addr) (len cap : Nat) (w : World) (hl : len ≤ cap) :
  Calls Tryz.prog 51 #[.slice a len cap] w fun e w' => e = .returned (.slice a len len) ∧ w = w' := by
 go_enter Tryz.func51, Tryz.ntmps51
 go_wp2
 go_ret
 exact ⟨rfl, rfl⟩
theorem zEs {w w' : World} {g g0 : Nat} {sa : Option Addr} {n c base : Nat} {L : List TK} {e : TypeId} (hr : OwnT base e w sa n c L) (hg : w.heap.size ≤ g) {w1 : World} (h1 : g < w1.heap.size)
  (h : w1.grownBy w' (Value.ownBlock (.slice sa n c))) (i : Nat) (hg0 : g0 = g) : w'.cell? ⟨g0, i, none⟩ = w1.cell? ⟨g, i, none⟩ := by
 subst hg0
 refine World.cell?_of_block (h.block g0 h1 ?_)
 intro hh
 have := World.ownsRow.lt hr g0 hh.symm
 omega
set_option maxRecDepth 20000 in
set_option maxHeartbeats 1000000 in
theorem zDA (a : Option Addr) (len cap : Nat) (l : List Int) (w : World) (h : Bs w a len cap l) (ht : Tab w) (hsz : len ≤ 1000000) :
  Calls Tryz.prog 24 #[.slice a len cap] w fun e w' => ∃ a', e = .returned (.slice a' (toks l).length (toks l).length) ∧ RowT w.heap.size 51 w' a' (toks l).length (toks l).length (toks l) ∧ Below w.heap.size w w' := by
 have H := hid h
 have HT := hid ht
 have HR := hid h.rng
 have HL := hid h.hl
 clear h ht
 go_enter Tryz.func24, Tryz.ntmps24
 go_wp2
 go_loopw [3, 4] (fun v i wr => ∃ a1 c1, ∃ k n : Nat, v = .slice a1 n c1 ∧ i = .int .i64 k ∧ k ≤ len ∧ n ≤ k ∧ (∃ D, Hid (OwnT w.heap.size 51 wr a1 n c1 D) ∧ Hid (D ++ (lx l k).map tkOf = toks l)) ∧ Hid (Below w.heap.size w wr)) (fun _ i _ => len - (intOf i).toNat)
 case atStart => exact ⟨_, _, 0, 0, rfl, rfl, by omega, by omega, ⟨[], hid OwnT.none0, hid rfl⟩, hid (Below.refl _ _)⟩
 case round =>
  obtain ⟨a1, c1, k, n, rfl, rfl, hk, hn, ⟨D, HO, HD⟩, HB⟩ := hrel
  have hlc := HO.out.row.lc
  have hcm := HO.out.row.cm
  unfold maxLen at hcm
  go_wp2_with fail
  refine (zLz _ _ _ l k _ (H.out.below HB.out) (HT.out.keep HB.out) hsz hk).mono ?_
  cases hx : nx l k with
  | none =>
   rw [zHp]
   rintro e w1 ⟨rfl, hb1⟩
   have HO1 := hid (HO.out.keep hb1 (Nat.le_refl _))
   have HB1 : Hid (Below w.heap.size w w1) := hid (HB.out.trans (hb1.mono HB.out.size))
   have HD1 : Hid (D = toks l) := hid (by rw [← HD.out, zJv hx, List.map_nil, List.append_nil])
   clear hb1 hx
   go_wp2_with fail
   refine (zI5 a1 n c1 _ hlc).mono ?_
   rintro e w' ⟨rfl, rfl⟩
   go_wp2
   go_ret
   have hl := HO1.out.row.hl
   rw [HD1.out] at hl
   have hr := HO1.out.row.cut
   rw [HD1.out] at hr
   exact ⟨a1, zEr hl.symm hl.symm, by rw [hl]; exact hr.keep ((Below.refl _ _).alloc (Nat.le_refl _) _) (Nat.le_refl _), HB1.out.alloc HB1.out.size _⟩
  | some ft =>
   obtain ⟨f, t⟩ := ft
   obtain ⟨g1, g2, g3⟩ := zHs (by rw [HL.out]; exact hk) HR.out hx
   rw [HL.out] at g3
   rw [zHq]
   rintro e w1 ⟨rfl, hb1⟩
   have HO1 := hid (HO.out.keep hb1 (Nat.le_refl _))
   have HB1 : Hid (Below w.heap.size w w1) := hid (HB.out.trans (hb1.mono HB.out.size))
   have HX := hid hx
   clear hb1 hx
   go_wp2_with (at_builtin; refine Hid.out ?_)
   refine hid ?_
   refine zBt rfl (.tmp 17) (.tmp 19) rfl w.heap.size _ _ _ D rfl ((HO1.out.alloc _).alloc _) _ _ _ [tkOf (f, t)] rfl (Ts.one _ _ (tkOf (f, t)) (by simp [cellsT, tkOf]) (by simp)) (by omega) (by have := HB1.out.size; simp; omega) ?_
   intro a2 c2 w2 ho2 hg2 hb2
   have HO2 := hid ho2
   have HB2 : Hid (Below w.heap.size w w2) := hid ((((HB1.out.alloc HB1.out.size _).alloc (Nat.le_trans HB1.out.size (by simp)) _)).trans hb2)
   have q2 := (zEs HO1.out (Nat.le_refl _) (by simp; omega) hg2 2 rfl).trans (((zNQ w1 _ 51).keep ((Below.refl _ _).alloc (Nat.le_refl _) _)).c 2)
   simp only [List.getElem?_toArray, List.getElem?_cons_zero, List.getElem?_cons_succ] at q2
   have hlt : w1.heap.size < w2.heap.size := Nat.lt_of_lt_of_le (by simp; omega) hg2.size
   clear ho2 hg2 hb2
   go_wp2
   go_roundw
   case rel => exact ⟨_, _, f + t.n, n + 1, rfl, rfl, g3, by omega, ⟨_, HO2, hid (by rw [← HD.out, zJw (by rw [HL.out]; exact hk) HR.out HX.out, List.map_cons, List.append_assoc]; rfl)⟩, HB2⟩
   case measure => simp [intOf]; omega
end
section
open Go.RowKit
set_option maxRecDepth 20000 in
set_option maxHeartbeats 1000000 in
theorem zL3 (a : Option Addr) (len cap : Nat) (l : List Int) (w : World) (h : Bs w a len cap l) (hsz : len ≤ 1000000) :
  Calls Tryz.prog 183 #[.slice a len cap] w fun e w' => ∃ a' c', e = .returned (.slice a' (toks l).length c') ∧ RowT w.heap.size 51 w' a' (toks l).length c' (toks l) ∧ Below w.heap.size w w' := by
 have H := hid h
 have HR := hid h.rng
 have HL := hid h.hl
 clear h
 go_enter Tryz.func183, Tryz.ntmps183
 go_wp2
 go_loopw [3, 4] (fun v i wr => ∃ a1 c1, ∃ k n : Nat, v = .slice a1 n c1 ∧ i = .int .i64 k ∧ k ≤ len ∧ n ≤ k ∧ (∃ D, Hid (OwnT w.heap.size 51 wr a1 n c1 D) ∧ Hid (D ++ (lx l k).map tkOf = toks l)) ∧ Hid (Below w.heap.size w wr)) (fun _ i _ => len - (intOf i).toNat)
 case atStart => exact ⟨_, _, 0, 0, rfl, rfl, by omega, by omega, ⟨[], hid (OwnT.emptyAt (heap_alloc_new w _) (Nat.le_refl _)), hid rfl⟩, hid ((Below.refl _ _).alloc (Nat.le_refl _) _)⟩
 case round =>
  obtain ⟨a1, c1, k, n, rfl, rfl, hk, hn, ⟨D, HO, HD⟩, HB⟩ := hrel
  have hlc := HO.out.row.lc
  have hcm := HO.out.row.cm
  unfold maxLen at hcm
  go_wp2_with fail
  refine (zJz _ _ _ l k _ (H.out.below HB.out) hsz hk).mono ?_
  cases hx : nx l k with
  | none =>
   rw [zHp]
   rintro e w1 ⟨rfl, hb1⟩
   have HO1 := hid (HO.out.keep hb1 (Nat.le_refl _))
   have HB1 : Hid (Below w.heap.size w w1) := hid (HB.out.trans (hb1.mono HB.out.size))
   have HD1 : Hid (D = toks l) := hid (by rw [← HD.out, zJv hx, List.map_nil, List.append_nil])
   clear hb1 hx
   go_wp2
   go_ret
   have hl := HO1.out.row.hl
   rw [HD1.out] at hl
   have hr := HO1.out.row
   rw [HD1.out] at hr
   exact ⟨a1, c1, zEr hl.symm rfl, by rw [hl]; exact hr.keep ((Below.refl _ _).alloc (Nat.le_refl _) _) (Nat.le_refl _), HB1.out.alloc HB1.out.size _⟩
  | some ft =>
   obtain ⟨f, t⟩ := ft
   obtain ⟨g1, g2, g3⟩ := zHs (by rw [HL.out]; exact hk) HR.out hx
   rw [HL.out] at g3
   rw [zHq]
   rintro e w1 ⟨rfl, hb1⟩
   have HO1 := hid (HO.out.keep hb1 (Nat.le_refl _))
   have HB1 : Hid (Below w.heap.size w w1) := hid (HB.out.trans (hb1.mono HB.out.size))
   have HX := hid hx
   clear hb1 hx
   go_wp2_with (at_builtin; refine Hid.out ?_)
   refine hid ?_
   refine zBt rfl (.tmp 17) (.tmp 19) rfl w.heap.size _ _ _ D rfl ((HO1.out.alloc _).alloc _) _ _ _ [tkOf (f, t)] rfl (Ts.one _ _ (tkOf (f, t)) (by simp [cellsT, tkOf]) (by simp)) (by omega) (by have := HB1.out.size; simp; omega) ?_
   intro a2 c2 w2 ho2 hg2 hb2
   have HO2 := hid ho2
   have HB2 : Hid (Below w.heap.size w w2) := hid ((((HB1.out.alloc HB1.out.size _).alloc (Nat.le_trans HB1.out.size (by simp)) _)).trans hb2)
   have q2 := (zEs HO1.out (Nat.le_refl _) (by simp; omega) hg2 2 rfl).trans (((zNQ w1 _ 51).keep ((Below.refl _ _).alloc (Nat.le_refl _) _)).c 2)
   simp only [List.getElem?_toArray, List.getElem?_cons_zero, List.getElem?_cons_succ] at q2
   have hlt : w1.heap.size < w2.heap.size := Nat.lt_of_lt_of_le (by simp; omega) hg2.size
   clear ho2 hg2 hb2
   go_wp2
   go_roundw
   case rel => exact ⟨_, _, f + t.n, n + 1, rfl, rfl, g3, by omega, ⟨_, HO2, hid (by rw [← HD.out, zJw (by rw [HL.out]; exact hk) HR.out HX.out, List.map_cons, List.append_assoc]; rfl)⟩, HB2⟩
   case measure => simp [intOf]; omega
theorem zL4 (a : Option Addr) (len cap : Nat) (l : List Int) (w : World) (h : Bs w a len cap l) (hsz : len ≤ 1000000) :
  Calls Tryz.prog 183 #[.slice a len cap] w fun e w' => ∃ a' c', e = .returned (.slice a' (toks l).length c') ∧ Ts w' a' (toks l).length c' (toks l) ∧ Below w.heap.size w w' :=
 (zL3 a len cap l w h hsz).mono fun _ _ ⟨a', c', h1, h2, h3⟩ => ⟨a', c', h1, h2.ts, h3⟩
end
section
open Go.RowKit
structure Vs (k : Nat) (w : World) (a : Option Addr) (len cap : Nat) (xs : List Value) : Prop where
 hl : xs.length = len * k
 lc : len ≤ cap
 cm : cap ≤ maxLen
 at_ : 0 < len → ∃ b off, a = some ⟨b, off, none⟩ ∧ b < w.heap.size ∧ ∀ j, j < len * k → w.cell? ⟨b, off + j, none⟩ = xs[j]?
theorem Vs.keep {k : Nat} {w w' : World} {a : Option Addr} {len cap : Nat} {xs : List Value} (h : Vs k w a len cap xs) (hs : w.heap.size ≤ w'.heap.size)
  (hk : ∀ x, x.block < w.heap.size → w'.cell? x = w.cell? x) : Vs k w' a len cap xs :=
 ⟨h.hl, h.lc, h.cm, fun h0 => by
  obtain ⟨b, off, ha, hb, hc⟩ := h.at_ h0
  exact ⟨b, off, ha, by omega, fun j hj => (hk _ hb).trans (hc j hj)⟩⟩
theorem Vs.below {k : Nat} {w w' : World} {a : Option Addr} {len cap : Nat} {xs : List Value} (h : Vs k w a len cap xs) (hb : Below w.heap.size w w') : Vs k w' a len cap xs :=
 h.keep hb.size fun _ hx => hb.cell hx
theorem Vs.nil (k : Nat) (w : World) (a : Option Addr) (cap : Nat) (h : cap ≤ maxLen) : Vs k w a 0 cap [] := ⟨by simp, Nat.zero_le _, h, fun h => by omega⟩
theorem Vs.cells {k : Nat} {w : World} {b off len cap : Nat} {xs : List Value} (h : Vs k w (some ⟨b, off, none⟩) len cap xs) (h0 : 0 < len) {j : Nat} (hj : j < len * k) : w.cell? ⟨b, off + j, none⟩ = xs[j]? := by
 obtain ⟨b', off', ha, _, hc⟩ := h.at_ h0
 simp only [Option.some.injEq, Addr.mk.injEq] at ha
 obtain ⟨rfl, rfl, _⟩ := ha
 exact hc j hj
def OwnV (base : Nat) (e : TypeId) (k : Nat) (w : World) (a : Option Addr) (len cap : Nat) (xs : List Value) : Prop := w.ownsRow base e k (.slice a len cap) len xs
theorem OwnV.bounds {base : Nat} {e : TypeId} {k : Nat} {w : World} {a : Option Addr} {len cap : Nat} {xs : List Value} (h : OwnV base e k w a len cap xs) : xs.length = len * k ∧ len ≤ cap ∧ cap ≤ maxLen := by
 obtain ⟨hl, h1⟩ := h
 rcases h1 with ⟨hv, hn⟩ | ⟨g, cp, cur, hv, hb, hg, hnc, hcm, hcs, htake⟩
 ·simp only [Value.slice.injEq] at hv
  obtain ⟨rfl, rfl, rfl⟩ := hv
  exact ⟨hl, Nat.le_refl _, Nat.zero_le _⟩
 ·simp only [Value.slice.injEq, true_and] at hv
  obtain ⟨rfl, rfl⟩ := hv
  exact ⟨hl, hnc, hcm⟩
theorem OwnV.form {base : Nat} {e : TypeId} {k : Nat} {w : World} {a : Option Addr} {len cap : Nat} {xs : List Value} (h : OwnV base e k w a len cap xs) (ha : a ≠ none) :
  ∃ g cur, a = some ⟨g, 0, none⟩ ∧ base ≤ g ∧ g < w.heap.size ∧ w.heap[g]? = some (.cells cur e (0, 0)) ∧ cur.size = cap * k ∧ cur.toList.take (len * k) = xs := by
 rcases h.2 with ⟨hv, hn⟩ | ⟨g, cp, cur, hv, hb, hg, hnc, hcm, hcs, htake⟩
 ·simp only [Value.slice.injEq] at hv
  exact absurd hv.1 ha
 ·simp only [Value.slice.injEq, true_and] at hv
  obtain ⟨rfl, rfl⟩ := hv
  exact ⟨g, cur, rfl, hb, (Array.getElem?_eq_some_iff.1 hg).1, hg, hcs, htake⟩
theorem OwnV.some {base : Nat} {e : TypeId} {k : Nat} {w : World} {a : Option Addr} {len cap : Nat} {xs : List Value} (h : OwnV base e k w a len cap xs) (h0 : 0 < len) : a ≠ none := by
 rcases h.2 with ⟨hv, hn⟩ | ⟨g, cp, cur, hv, _⟩
 ·omega
 ·simp only [Value.slice.injEq, true_and] at hv
  rw [hv.1]; simp
theorem OwnV.vs {base : Nat} {e : TypeId} {k : Nat} {w : World} {a : Option Addr} {len cap : Nat} {xs : List Value} (h : OwnV base e k w a len cap xs) : Vs k w a len cap xs :=
 ⟨h.bounds.1, h.bounds.2.1, h.bounds.2.2, fun h0 => by
  obtain ⟨g, cur, ha, _, hlt, hg, _, ht⟩ := h.form (h.some h0)
  refine ⟨g, 0, ha, hlt, fun j hj => ?_⟩
  rw [cell_of_row w g (0 + j) cur e (0, 0) hg, Nat.zero_add, ← ht, List.getElem?_take, if_pos hj]
  simp⟩
theorem OwnV.none0 {base : Nat} {e : TypeId} {k : Nat} {w : World} : OwnV base e k w none 0 0 [] := ⟨by simp, .inl ⟨rfl, rfl⟩⟩
theorem OwnV.keep {base B : Nat} {e : TypeId} {k : Nat} {w w' : World} {a : Option Addr} {len cap : Nat} {xs : List Value} (h : OwnV base e k w a len cap xs) (hb : Below B w w') (hB : w.heap.size ≤ B) : OwnV base e k w' a len cap xs :=
 World.ownsRow.kept h (row := none) ⟨hb.os, hb.tape, hb.output, hb.size, fun j hj _ => hb.block j (by omega)⟩ (by cases hv : (Value.slice a len cap).ownBlock <;> simp)
theorem OwnV.alloc {base : Nat} {e : TypeId} {k : Nat} {w : World} {a : Option Addr} {len cap : Nat} {xs : List Value} (h : OwnV base e k w a len cap xs) (o : Obj) : OwnV base e k (w.alloc o) a len cap xs := World.ownsRow.alloc h o
theorem OwnV.other {base : Nat} {e : TypeId} {k : Nat} {w w' : World} {a : Option Addr} {len cap : Nat} {xs : List Value} {row : Option Nat} (h : OwnV base e k w a len cap xs) (hg : w.grownBy w' row) (hne : (Value.slice a len cap).ownBlock = none ∨ (Value.slice a len cap).ownBlock ≠ row) : OwnV base e k w' a len cap xs :=
 World.ownsRow.kept h hg hne
theorem OwnV.emptyAt {base X k : Nat} {e : TypeId} {w : World} (h : w.heap[X]? = .some (.cells #[] e (0, 0))) (hb : base ≤ X) : OwnV base e k w (.some ⟨X, 0, none⟩) 0 0 [] :=
 ⟨by simp, .inr ⟨X, 0, #[], rfl, hb, h, Nat.le_refl _, Nat.zero_le _, by simp, by simp⟩⟩
theorem OwnV.cut {base : Nat} {e : TypeId} {k : Nat} {w : World} {g len cap m : Nat} {xs : List Value} (h : OwnV base e k w (.some ⟨g, 0, none⟩) len cap xs) (hm : m ≤ len) : OwnV base e k w (.some ⟨g, 0, none⟩) m cap (xs.take (m * k)) := by
 have hb := h.bounds
 obtain ⟨g', cur, ha, hbg, _, hg, hcs, ht⟩ := h.form (by simp)
 simp only [Option.some.injEq, Addr.mk.injEq, and_true] at ha
 subst ha
 have hmk : m * k ≤ len * k := Nat.mul_le_mul_right _ hm
 refine ⟨by rw [List.length_take, hb.1]; omega, .inr ⟨g, cap, cur, rfl, hbg, hg, by omega, hb.2.2, hcs, ?_⟩⟩
 rw [← ht, List.take_take, Nat.min_eq_left hmk]
theorem Vs.lit {k : Nat} (w : World) (e : TypeId) {mk : Nat × Nat} {xs : List Value} {cs : Array Value} (hc : cs = xs.toArray) (hk : xs.length = k) {g : Nat} (hg : g = w.heap.size) : Vs k (w.alloc (.cells cs e mk)) (some ⟨g, 0, none⟩) 1 1 xs := by
 subst hc; subst hg
 refine ⟨by rw [hk, Nat.one_mul], Nat.le_refl _, by decide, fun _ => ⟨w.heap.size, 0, rfl, by simp, fun j hj => ?_⟩⟩
 rw [cell_of_row (w.alloc (.cells xs.toArray e mk)) w.heap.size (0 + j) _ e mk (heap_alloc_new w _)]
 simp
theorem Vs.drew {k : Nat} {w : World} {a : Option Addr} {len cap : Nat} {xs : List Value} (h : Vs k w a len cap xs) : Vs k w.drew a len cap xs := h.below (Below.refl _ _).drew
theorem OwnV.drew {base : Nat} {e : TypeId} {k : Nat} {w : World} {a : Option Addr} {len cap : Nat} {xs : List Value} (h : OwnV base e k w a len cap xs) : OwnV base e k w.drew a len cap xs := h.keep (Below.refl _ _).drew (Nat.le_refl _)
theorem Vs.news {k : Nat} {w : World} {a : Option Addr} {len cap : Nat} {xs : List Value} (h : Vs k w a len cap xs) : ∀ b off, a = some ⟨b, off, none⟩ → 0 < len → ∀ j u, xs[j]? = some u → w.cell? ((⟨b, off, none⟩ : Addr).add j) = some u := by
 intro b off ha h0 j u hj
 subst ha
 have := (List.getElem?_eq_some_iff.1 hj).1
 rw [zAe, h.cells h0 (by rw [← h.hl]; exact this), hj]
theorem zJ0 {P : Program} {w : World} {o : Oper} {a : Act} {K : Act → World → Prop} {Q : Exit → Act → World → Prop} (s x : Operand) (t : TypeId)
  (ho : o.op = .call { callee := .builtin .append, args := #[s, x], argTypes := #[t, t] })
  (e base k by_ : Nat) (z : Value) (ht : P.underlying t = some (.slice e)) (hinf : (P.info? e).map (fun i => (i.zero, i.size, i.bytes)) = some (some z, k, by_)) (hzk : z.cells.size = k) (hk : 0 < k)
  (sa : Option Addr) (n c : Nat) (xs : List Value) (hs : a.eval s = .slice sa n c) (hown : OwnV base e k w sa n c xs)
  (xa : Option Addr) (m d : Nat) (ys : List Value) (hx : a.eval x = .slice xa m d) (hb : Vs k w xa m d ys) (h1 : ∀ u ∈ ys, u.oneCell' = true)
  (hbig : n + m ≤ maxLen) (hbytes : (n + m) * by_ ≤ 140737488355328) (hbase : base ≤ w.heap.size)
  (h : ∀ a' c' w', OwnV base e k w' a' (n + m) c' (xs ++ ys) → w.grownBy w' (Value.ownBlock (.slice sa n c)) → Below base w w' → (sa ≠ none → a' ≠ none) → K (a.put o.dst (.slice a' (n + m) c')) w') : o.wp P a w K Q := by
 obtain ⟨i, hi, hz, hsz, hby⟩ := info_parts hinf
 have fin : ∀ v' w', w'.ownsRow base e k v' (n + m) (xs ++ ys) → w.grownBy w' (Value.ownBlock (.slice sa n c)) → (v' = .slice none 0 0 → sa = none) → K (a.put o.dst v') w' := by
  intro v' w' ho' hg hnn
  have hbe : Below base w w' := (Below.refl base w).grown hg hbase fun k hk => (World.ownsRow.lt hown k hk).1
  rcases ho'.2 with ⟨rfl, hn0⟩ | ⟨g, cp, cur, rfl, r⟩
  ·have hh := h none 0 w' (by rw [hn0]; rw [hn0] at ho'; exact ho') hg hbe (fun hsa => absurd (hnn rfl) hsa)
   rw [hn0] at hh; exact hh
  ·exact h _ _ w' ho' hg hbe (by simp)
 by_cases h0 : 0 < m
 ·obtain ⟨b, off, rfl, _, _⟩ := hb.at_ h0
  exact wp_append_own w s x t ho base e i _ k by_ ht hi hz hsz hby hzk hk _ _ _ hs hown ⟨b, off, none⟩ m d ys hx hb.hl
   (hb.news b off rfl h0) h1 hbig hbytes hbase (fun v' w' h1 h2 h3 => fin v' w' h1 h2 fun hv => by have := (h3.1 hv).1; simp only [Value.slice.injEq] at this; exact this.1)
 ·have hm0 : m = 0 := by omega
  subst hm0
  have hk0 : ys = [] := List.eq_nil_of_length_eq_zero (by rw [hb.hl, Nat.zero_mul])
  subst hk0
  cases xa with
  | some ad => exact wp_append_own w s x t ho base e i _ k by_ ht hi hz hsz hby hzk hk _ _ _ hs hown ad 0 d [] hx (by simp) (by simp) (by simp) hbig hbytes hbase (fun v' w' h1 h2 h3 => fin v' w' (by simpa using h1) h2 fun hv => by have := (h3.1 hv).1; simp only [Value.slice.injEq] at this; exact this.1)
  | none =>
   have hr : (Builtin.append_ #[t, t] o.type #[.slice sa n c, .slice none 0 d]).run P w = .ok (.slice sa n c) w := by
    rcases hown.2 with ⟨hv, hn⟩ | ⟨g, cp, cur, hv, _, _, hnc, _⟩
    ·simp only [Value.slice.injEq] at hv
     obtain ⟨rfl, rfl, rfl⟩ := hv
     simp [Builtin.append_, run_underlying ht, sizeOf, typeInfo, hi, Builtin.lenOf, Builtin.firstCells]
    ·simp only [Value.slice.injEq, true_and] at hv
     obtain ⟨rfl, rfl⟩ := hv
     simp [Builtin.append_, run_underlying ht, sizeOf, typeInfo, hi, Builtin.lenOf, Builtin.firstCells, hnc, storeCells]
   unfold Oper.wp execOp
   simp only [ho, resolve, invoke, builtin, Sem.run_bind, Sem.run_pure, Result.andThen_ok, List.map_toArray, List.map_cons, List.map_nil, hs, hx, hr]
   exact fin _ w (by rw [List.append_nil]; exact hown) ⟨rfl, rfl, rfl, Nat.le_refl _, fun _ _ _ => rfl⟩ (by simp only [Value.slice.injEq]; exact fun hv => hv.1)
theorem zAL {P : Program} {ops : Array Oper} {rest : List Oper} {w : World} {o : Oper} {a : Act} {Q : Exit → Act → World → Prop} (hw : Region.wanted o (yielded ops a.tmps) = true) (s x : Operand) (t : TypeId)
  (ho : o.op = .call { callee := .builtin .append, args := #[s, x], argTypes := #[t, t] })
  (e base k by_ : Nat) (z : Value) (ht : P.underlying t = some (.slice e)) (hinf : (P.info? e).map (fun i => (i.zero, i.size, i.bytes)) = some (some z, k, by_)) (hzk : z.cells.size = k) (hk : 0 < k)
  (sa : Option Addr) (n c : Nat) (xs : List Value) (hs : a.eval s = .slice sa n c) (hown : OwnV base e k w sa n c xs)
  (xa : Option Addr) (m d : Nat) (ys : List Value) (hx : a.eval x = .slice xa m d) (hb : Vs k w xa m d ys) (h1 : ∀ u ∈ ys, u.oneCell' = true)
  (hbig : n + m ≤ maxLen) (hbytes : (n + m) * by_ ≤ 140737488355328) (hbase : base ≤ w.heap.size)
  (h : ∀ a' c' w', OwnV base e k w' a' (n + m) c' (xs ++ ys) → w.grownBy w' (Value.ownBlock (.slice sa n c)) → Below base w w' → (sa ≠ none → a' ≠ none) → wpList P ops Q rest (a.put o.dst (.slice a' (n + m) c')) w') : wpList P ops Q (o :: rest) a w :=
 wpList_step fun K hK => by
  rw [if_pos hw]
  exact zJ0 s x t ho e base k by_ z ht hinf hzk hk sa n c xs hs hown xa m d ys hx hb h1 hbig hbytes hbase fun a' c' w' h1 h2 h3 h4 => hK _ _ (h a' c' w' h1 h2 h3 h4)
theorem zAH {P : Program} {w : World} {ops : Array Oper} {o : Oper} {a : Act} {K : Act → World → Prop} {Q : Exit → Act → World → Prop} {E : Prop} (hgd : o.guard = none) (s x : Operand) (t : TypeId)
  (ho : o.op = .call { callee := .builtin .append, args := #[s, x], argTypes := #[t, t] })
  (e base k by_ : Nat) (z : Value) (ht : P.underlying t = some (.slice e)) (hinf : (P.info? e).map (fun i => (i.zero, i.size, i.bytes)) = some (some z, k, by_)) (hzk : z.cells.size = k) (hk : 0 < k)
  (sa : Option Addr) (n c : Nat) (xs : List Value) (hs : a.eval s = .slice sa n c) (hown : OwnV base e k w sa n c xs)
  (xa : Option Addr) (m d : Nat) (ys : List Value) (hx : a.eval x = .slice xa m d) (hb : Vs k w xa m d ys) (h1 : ∀ u ∈ ys, u.oneCell' = true)
  (hbig : n + m ≤ maxLen) (hbytes : (n + m) * by_ ≤ 140737488355328) (hbase : base ≤ w.heap.size)
  (h : ∀ a' c' w', OwnV base e k w' a' (n + m) c' (xs ++ ys) → w.grownBy w' (Value.ownBlock (.slice sa n c)) → Below base w w' → (sa ≠ none → a' ≠ none) → K (a.put o.dst (.slice a' (n + m) c')) w') :
  if Region.wanted o (yielded ops a.tmps) = true then o.wp P a w K Q else E := by
 rw [if_pos (show Region.wanted o (yielded ops a.tmps) = true by simp [Region.wanted, hgd])]
 exact zJ0 s x t ho e base k by_ z ht hinf hzk hk sa n c xs hs hown xa m d ys hx hb h1 hbig hbytes hbase h
theorem Ts.vs {w : World} {a : Option Addr} {len cap : Nat} {L : List TK} (h : Ts w a len cap L) : Vs 5 w a len cap (rowT L) :=
 ⟨by rw [zBs, h.hl], h.lc, h.cm, fun h0 => by
  obtain ⟨b, off, rfl, hb, _⟩ := h.at_ h0
  refine ⟨b, off, rfl, hb, fun j hj => ?_⟩
  have hjr : j < (rowT L).length := by rw [zBs, h.hl]; exact hj
  have := h.news b off rfl h0 j _ (List.getElem?_eq_getElem hjr)
  rw [zAe] at this
  rw [this, List.getElem?_eq_getElem hjr]⟩
end
section
open Go.RowKit
section
variable {P : Program} {t e : TypeId} {z : Value} {s by_ : Nat} (he : P.elem t = e) (hu : P.underlying t = some (.slice e)) (hinf : (P.info? e).map (fun i => (i.zero, i.size, i.bytes)) = some (some z, s, by_))
include he hu hinf
theorem zFK {g off n c l : Nat} (hl : l ≤ n) (w : World) : (Instr.slice t (.slice (some ⟨g, off, none⟩) n c) (some (.int .i64 l)) none none).run P w = .ok (.slice (some ⟨g, if c = l then off else off + l * s, none⟩) (n - l) (c - l)) w := by
 obtain ⟨i, hi, hz, hs, hby⟩ := info_parts hinf
 have := run_slice_l (P := P) w t (some ⟨g, off, none⟩) n c (by rw [he]; exact hu) .i64 l (by omega) (by omega)
 rw [this, he, Int.toNat_natCast]
 by_cases h0 : c = l
 ·simp [sizeOf, typeInfo, hi, hs, Result.andThen, sliced, h0]
 ·simp [sizeOf, typeInfo, hi, hs, Result.andThen, sliced, h0, zAe]
theorem zL5 {g off n c h : Nat} (hh : h ≤ c) (w : World) : (Instr.slice t (.slice (some ⟨g, off, none⟩) n c) none (some (.int .i64 h)) none).run P w = .ok (.slice (some ⟨g, off, none⟩) h c) w := by
 obtain ⟨i, hi, hz, hs, hby⟩ := info_parts hinf
 have := run_slice_h (P := P) w t (some ⟨g, off, none⟩) n c (by rw [he]; exact hu) .i64 h (by omega) (by omega)
 rw [this, he, Int.toNat_natCast]
 by_cases h0 : c = 0
 ·simp [sizeOf, typeInfo, hi, hs, Result.andThen, sliced, h0]
 ·simp [sizeOf, typeInfo, hi, hs, Result.andThen, sliced, zAe]
end
theorem Vs.sub {k : Nat} {w : World} {g off n c l h : Nat} {xs : List Value} (hv : Vs k w (some ⟨g, off, none⟩) n c xs) (hl : l ≤ h) (hh : h ≤ n) : Vs k w (some ⟨g, if c = l then off else off + l * k, none⟩) (h - l) (c - l) ((xs.take (h * k)).drop (l * k)) := by
 have h1 := hv.hl
 have h2 := hv.lc
 have h3 := hv.cm
 have hmk : h * k ≤ n * k := Nat.mul_le_mul_right _ hh
 have hlk : l * k ≤ h * k := Nat.mul_le_mul_right _ hl
 refine ⟨by rw [List.length_drop, List.length_take, h1, Nat.min_eq_left hmk, Nat.sub_mul], by omega, by omega, fun h0 => ?_⟩
 obtain ⟨b, o, ha, hb, hc⟩ := hv.at_ (by omega)
 simp only [Option.some.injEq, Addr.mk.injEq] at ha
 obtain ⟨rfl, rfl, _⟩ := ha
 rw [if_neg (by omega)]
 refine ⟨g, off + l * k, rfl, hb, fun j hj => ?_⟩
 rw [Nat.sub_mul] at hj
 rw [List.getElem?_drop, List.getElem?_take, if_pos (by omega), ← hc (l * k + j) (by omega), Nat.add_assoc]
theorem Vs.from {k : Nat} {w : World} {g off n c l : Nat} {xs : List Value} (hv : Vs k w (some ⟨g, off, none⟩) n c xs) (hl : l ≤ n) : Vs k w (some ⟨g, if c = l then off else off + l * k, none⟩) (n - l) (c - l) (xs.drop (l * k)) := by
 have := hv.sub hl (Nat.le_refl n)
 rwa [List.take_of_length_le (by rw [hv.hl]; exact Nat.le_refl _)] at this
theorem Vs.upto {k : Nat} {w : World} {g off n c h : Nat} {xs : List Value} (hv : Vs k w (some ⟨g, off, none⟩) n c xs) (hh : h ≤ n) : Vs k w (some ⟨g, off, none⟩) h c (xs.take (h * k)) := by
 have := hv.sub (l := 0) (h := h) (Nat.zero_le _) hh
 by_cases h0 : c = 0
 ·rw [if_pos h0, Nat.sub_zero, Nat.sub_zero, Nat.zero_mul, List.drop_zero] at this; exact this
 ·rw [if_neg h0, Nat.sub_zero, Nat.sub_zero, Nat.zero_mul, List.drop_zero, Nat.add_zero] at this; exact this
theorem zL6 {base : Nat} {e : TypeId} {w : World} {g len cap : Nat} {xs : List Value} (h : OwnV base e 1 w (some ⟨g, 0, none⟩) len cap xs) (j : Nat) (v : Value) :
  OwnV base e 1 (w.setCell ⟨g, j, none⟩ v) (some ⟨g, 0, none⟩) len cap (xs.set j v) := (World.ownsRow.stored h j v).1
theorem zDB {base X : Nat} {e : TypeId} {w : World} {v : Value} (h : w.heap[X]? = .some (.cells #[v] e (0, 0))) (hb : base ≤ X) : OwnV base e 1 w (.some ⟨X, 0, none⟩) 1 1 [v] :=
 ⟨by simp, .inr ⟨X, 1, #[v], rfl, hb, h, Nat.le_refl _, by decide, by simp, by simp⟩⟩
theorem zDy : Tryz.prog.elem 26 = 9 := by kernel_rfl
end
end Go.Proofs.YtcjbhdgjcpnklaaGreatDoor
