import Derived.Test.YtcjbhdgjcpnklaaGreatDoorV07
import Derived.Test.YtcjbhdgjcpnklaaGreatDoorV09
import Derived.Test.YtcjbhdgjcpnklaaGreatDoorV10
import Derived.Lib.SlicesCompact
import Derived.Sort.KeysCollected
import Derived.Sort.Walk0
import Derived.Lib.RowBridge
import Derived.Test.YtcjbhdgjcpnklaaGreatDoorV01
import Derived.Sort.OwnSorted
import Derived.Lib.OwnBridge
import Derived.Test.YtcjbhdgjcpnklaaGreatDoorN01
namespace Go.Proofs.YtcjbhdgjcpnklaaGreatDoor
section
open Go.RowKit
structure PK where
 f : Int
 t : Int
 i : Int
 L : List TK
end
section
open Go.RowKit
theorem Ts.sub {w : World} {g off n c l h : Nat} {L : List TK} (hv : Ts w (some ⟨g, off, none⟩) n c L) (hl : l ≤ h) (hh : h ≤ n) : Ts w (some ⟨g, if c = l then off else off + l * 5, none⟩) (h - l) (c - l) ((L.take h).drop l) := by
 have h1 := hv.hl
 have h2 := hv.lc
 have h3 := hv.cm
 refine ⟨by rw [List.length_drop, List.length_take, h1, Nat.min_eq_left hh], by omega, by omega, fun h0 => ?_⟩
 obtain ⟨b, o, ha, hb, hc⟩ := hv.at_ (by omega)
 simp only [Option.some.injEq, Addr.mk.injEq] at ha
 obtain ⟨rfl, rfl, _⟩ := ha
 rw [if_neg (by omega)]
 refine ⟨g, off + l * 5, rfl, hb, fun j hj i hi => ?_⟩
 have e : tat ((L.take h).drop l) j = tat L (l + j) := by
  unfold tat; simp [List.getD, show l + j < h by omega]
 rw [e, ← hc (l + j) (by omega) i hi, show off + l * 5 + (j * 5 + i) = off + ((l + j) * 5 + i) by omega]
theorem Ts.to {w : World} {g off n c h : Nat} {L : List TK} (hv : Ts w (some ⟨g, off, none⟩) n c L) (hh : h ≤ n) : Ts w (some ⟨g, off, none⟩) h c (L.take h) := by
 have := hv.sub (l := 0) (h := h) (Nat.zero_le _) hh
 by_cases h0 : c = 0
 ·rw [if_pos h0, Nat.sub_zero, Nat.sub_zero, List.drop_zero] at this; exact this
 ·rw [if_neg h0, Nat.sub_zero, Nat.sub_zero, List.drop_zero, Nat.zero_mul, Nat.add_zero] at this; exact this
theorem Ts.from {w : World} {g off n c l : Nat} {L : List TK} (hv : Ts w (some ⟨g, off, none⟩) n c L) (hl : l ≤ n) : Ts w (some ⟨g, if c = l then off else off + l * 5, none⟩) (n - l) (c - l) (L.drop l) := by
 have := hv.sub hl (Nat.le_refl n)
 rwa [List.take_of_length_le (by rw [hv.hl]; exact Nat.le_refl _)] at this
structure SVc where
 a : Option Addr
 n : Nat
 c : Nat
 L : List TK
def SVc.v (s : SVc) : Value := .slice s.a s.n s.c
def SVc.ok (w : World) (s : SVc) : Prop := Ts w s.a s.n s.c s.L
structure PV where
 f : Int
 t : Int
 i : Int
 s : SVc
def cellsP (p : PV) : List Value := [.int .i64 p.f, .int .i64 p.t, .int .i64 p.i, .slice p.s.a p.s.n p.s.c]
def rowP : List PV → List Value
 | [] => []
 | p :: V => cellsP p ++ rowP V
def PV.k (p : PV) : PK := ⟨p.f, p.t, p.i, p.s.L⟩
def pvat (V : List PV) (j : Nat) : PV := V.getD j ⟨0, 0, 0, none, 0, 0, []⟩
theorem zIv : ∀ V : List PV, (rowP V).length = V.length * 4
 | [] => rfl
 | p :: V => by rw [rowP, List.length_append, zIv V, List.length_cons]; simp [cellsP]; omega
theorem zLf : ∀ (V : List PV) (j i : Nat), i < 4 → j < V.length → (rowP V)[j * 4 + i]? = (cellsP (pvat V j))[i]?
 | [], j, i, _, h => by simp at h
 | p :: V, 0, i, hi, _ => by
  rw [rowP, Nat.zero_mul, Nat.zero_add, List.getElem?_append_left (by simpa [cellsP] using hi)]; rfl
 | p :: V, j + 1, i, hi, h => by
  rw [rowP, List.getElem?_append_right (by simp [cellsP]; omega), show (j + 1) * 4 + i - (cellsP p).length = j * 4 + i by simp [cellsP]; omega,
   zLf V j i hi (by simpa using h)]
  rfl
structure Ps (w : World) (a : Option Addr) (len cap : Nat) (V : List PV) : Prop where
 row : Vs 4 w a len cap (rowP V)
 ok : ∀ p ∈ V, p.s.ok w
theorem Ps.hl {w : World} {a : Option Addr} {len cap : Nat} {V : List PV} (h : Ps w a len cap V) : V.length = len := by
 have := h.row.hl
 rw [zIv] at this
 omega
theorem Ps.below {w w' : World} {a : Option Addr} {len cap : Nat} {V : List PV} (h : Ps w a len cap V) (hb : Below w.heap.size w w') : Ps w' a len cap V :=
 ⟨h.row.below hb, fun p hp => Ts.below (h.ok p hp) hb⟩
theorem Ps.at4 {w : World} {b off len cap : Nat} {V : List PV} (h : Ps w (some ⟨b, off, none⟩) len cap V) {k : Nat} (hk : k < len) :
  w.cell? ⟨b, off + k * 4, none⟩ = some (.int .i64 (pvat V k).f) ∧ w.cell? ⟨b, off + k * 4 + 1, none⟩ = some (.int .i64 (pvat V k).t) ∧ w.cell? ⟨b, off + k * 4 + 2, none⟩ = some (.int .i64 (pvat V k).i) ∧
  w.cell? ⟨b, off + k * 4 + 3, none⟩ = some (.slice (pvat V k).s.a (pvat V k).s.n (pvat V k).s.c) := by
 have hl := h.hl
 have key : ∀ i, i < 4 → w.cell? ⟨b, off + (k * 4 + i), none⟩ = (cellsP (pvat V k))[i]? := fun i hi => by
  rw [h.row.cells (by omega) (by omega), zLf V k i hi (by omega)]
 exact ⟨key 0 (by omega), key 1 (by omega), key 2 (by omega), key 3 (by omega)⟩
theorem Ps.form {w : World} {a : Option Addr} {len cap : Nat} {V : List PV} (h : Ps w a len cap V) (h0 : 0 < len) : ∃ b off, a = some ⟨b, off, none⟩ ∧ b < w.heap.size := by
 obtain ⟨b, off, ha, hb, _⟩ := h.row.at_ h0
 exact ⟨b, off, ha, hb⟩
end
section
open Go.RowKit
def isN (t : TK) : Bool := t.k == 1 || (t.k == 2 || t.k == 6)
set_option maxRecDepth 20000 in
theorem zLg (t : TK) (w : World) :
  Calls Tryz.prog 26 #[.agg #[.int .i64 t.k, .int .i64 t.f, .int .i64 t.t, .string t.s, .int .i64 t.e]] w fun e w' => e = .returned (.bool (isN t)) ∧ Below w.heap.size w w' := by
 obtain ⟨k, f, t, s, e⟩ := t
 unfold isN
 simp only
 have HW : Hid (Below w.heap.size w (w.alloc (.cells #[.int .i64 k, .int .i64 f, .int .i64 t, .string s, .int .i64 e] 51))) := hid ((Below.refl _ _).alloc (Nat.le_refl _) _)
 cases h1 : k == 1 with
 | true =>
  go_enter Tryz.func26, Tryz.ntmps26
  go_wp2
  go_ret
  exact ⟨rfl, HW.out⟩
 | false =>
  cases h2 : k == 2 with
  | true =>
   go_enter Tryz.func26, Tryz.ntmps26
   go_wp2
   go_ret
   exact ⟨rfl, HW.out⟩
  | false =>
   cases h3 : k == 6 with
   | true =>
    go_enter Tryz.func26, Tryz.ntmps26
    go_wp2
    go_ret
    exact ⟨rfl, HW.out⟩
   | false =>
    go_enter Tryz.func26, Tryz.ntmps26
    go_wp2
    go_ret
    exact ⟨rfl, HW.out⟩
end
section
open Go.RowKit
theorem le_of_lt {x y : Nm} (h : x < y) : x ≤ y := fun h1 => by
 rcases List.le_total x y with h2 | h2
 ·exact h2 h1
 ·exact h2 h
theorem zIw (d : Array Nm) : ∀ (m : Nat) (x : Nm), x ∈ Lib.compactUpTo d m ↔ ∃ j, j < m ∧ d[j]! = x
 | 0, x => by simp [Lib.compactUpTo]
 | m + 1, x => by
  rw [Lib.compactUpTo_succ, List.mem_append, zIw d m x]
  constructor
  ·rintro (⟨j, hj, he⟩ | h)
   ·exact ⟨j, by omega, he⟩
   ·split at h
    ·rw [List.mem_singleton.1 h]; exact ⟨m, by omega, rfl⟩
    ·cases h
  ·rintro ⟨j, hj, he⟩
   by_cases hjm : j < m
   ·exact Or.inl ⟨j, hjm, he⟩
   ·have : j = m := by omega
    subst this
    cases hk : Lib.keeps d j with
    | true => right; rw [if_pos rfl, he]; exact List.mem_singleton.2 rfl
    | false =>
     left
     unfold Lib.keeps at hk
     simp only [decide_eq_false_iff_not, not_or, Decidable.not_not] at hk
     exact ⟨j - 1, by omega, by rw [← hk.2, he]⟩
def nms (L : List TK) : List Nm := (L.filter isN).map fun t => t.s.toList
def nmR (S : List Nm) : List Nm := Lib.compact (S.mergeSort fun x y => decide (x ≤ y))
theorem zPI (S : List Nm) (x : Nm) : x ∈ nmR S ↔ x ∈ S := by
 unfold nmR Lib.compact
 rw [zIw]
 rw [← List.mem_mergeSort (le := fun x y => decide (x ≤ y)) (a := x) (l := S)]
 constructor
 ·rintro ⟨j, hj, rfl⟩
  rw [getElem!_pos _ j (by simpa using hj)]
  simp
 ·intro h
  obtain ⟨j, hj, rfl⟩ := List.getElem_of_mem h
  exact ⟨j, hj, by rw [getElem!_pos _ j (by simpa using hj)]; simp⟩
def at_ (M : List Nm) (j : Nat) : Nm := M.getD j []
theorem zM9 {L : List TK} {k : Nat} (h : k < L.length) : nms (L.take (k + 1)) = nms (L.take k) ++ (if isN (tat L k) then [(tat L k).s.toList] else []) := by
 unfold nms
 rw [zHu h, List.filter_append, List.map_append]
 congr 1
 cases hn : isN (tat L k) with
 | true => simp [hn]
 | false => simp [hn]
theorem zPJ (L : List TK) : (nms L).length ≤ L.length := by unfold nms; rw [List.length_map]; exact List.length_filter_le _ _
theorem zHW (S : List Nm) : (nmR S).length ≤ S.length := by
 unfold nmR
 have := Lib.compact_length_le (S.mergeSort fun x y => decide (x ≤ y))
 rw [List.length_mergeSort] at this
 exact this
end
section
open Go.RowKit Go.Sort
theorem zPK (s : ByteArray) : encStr s.toList = .string s := by
 simp [encStr, ByteArray.toList_eq]
theorem zJV {base : Nat} {w0 w1 : World} {g cap n nn q : Nat} {os : Array Obj} {ss : List Nm} (hown : OwnV base 9 1 w1 (some ⟨g, 0, none⟩) n cap (ss.map encStr)) (hbel : Below base w0 w1) (hb1 : base ≤ w1.heap.size) (hlen : ss.length = n) :
  OwnV base 9 1 (putRow encStr (Sort.ahead (grow (putRow encStr (Sort.ahead w1 nn) g 0 (ss.mergeSort fun x y => decide (x ≤ y)).toArray) os) q) g 0 (nmR ss ++ List.replicate (n - (nmR ss).length) []).toArray) (some ⟨g, 0, none⟩) (nmR ss).length cap ((nmR ss).map encStr) ∧
  Below base w0 (putRow encStr (Sort.ahead (grow (putRow encStr (Sort.ahead w1 nn) g 0 (ss.mergeSort fun x y => decide (x ≤ y)).toArray) os) q) g 0 (nmR ss ++ List.replicate (n - (nmR ss).length) []).toArray) := by
 have hl2 : (ss.mergeSort fun x y => decide (x ≤ y)).length = ss.length := List.length_mergeSort ss
 have hle := zHW ss
 subst hlen
 rcases hown.2 with ⟨h0, _⟩ | ⟨g', cap', cur, hv, hbase, hb, h1, h2, h3, h4⟩
 ·cases h0
 cases hv
 have hs := ownsRow_sorted (n := nn) (os := os) (ts := ss.mergeSort fun x y => decide (x ≤ y)) hl2 hbase hb h1 h2 h3
 have hc := Lib.ownsRow_putRow (q := q) (k := (nmR ss).length) (ys := nmR ss ++ List.replicate (ss.length - (nmR ss).length) []) hs (by simp; omega) (by omega)
 rw [List.take_left] at hc
 exact ⟨hc, Lib.below_putRow (hbel.grown (grownBy_sorted _) hb1 (fun j hj => by cases hj; exact hbase)) hbase⟩
set_option maxRecDepth 100000 in
set_option maxHeartbeats 4000000 in
theorem zLh (f t i : Int) (a : Option Addr) (len cap : Nat) (L : List TK) (w : World) (h : Ts w a len cap L) (hsz : len ≤ 1000000) :
  Calls Tryz.prog 12 #[.agg #[.int .i64 f, .int .i64 t, .int .i64 i, .slice a len cap]] w fun e w' => ∃ a' c', e = .returned (.slice a' (nmR (nms L)).length c') ∧ Vs 1 w' a' (nmR (nms L)).length c' ((nmR (nms L)).map encStr) ∧ Below w.heap.size w w' := by
 have hlc := h.lc
 have hcm := h.cm
 unfold maxLen at hcm
 have H := hid h
 have HL := hid h.hl
 clear h
 go_enter Tryz.func12, Tryz.ntmps12
 go_wp2
 go_loopw [3, 9] (fun x v wr => ∃ a3, ∃ n c k : Nat, x = .slice a3 n c ∧ v = .int .i64 k ∧ k ≤ len ∧ n ≤ k ∧ Hid ((nms (L.take k)).length = n) ∧ Hid (OwnV w.heap.size 9 1 wr a3 n c ((nms (L.take k)).map encStr)) ∧ Hid (Below w.heap.size w wr)) (fun _ v _ => len - (intOf v).toNat)
 case atStart => exact ⟨_, 0, 0, 0, rfl, rfl, by omega, by omega, hid (by simp [nms]), hid (by simpa [nms] using OwnV.none0), hid ((Below.refl _ _).alloc (Nat.le_refl _) _)⟩
 case round =>
  obtain ⟨a3, n, c, k, rfl, rfl, hk, hn, HN, HO, HB⟩ := hrel
  by_cases hlt : k < len
  ·have hb := H.out.below HB.out
   obtain ⟨b, off, rfl, _, _⟩ := hb.at_ (by omega)
   obtain ⟨c0, c1, c2, c3, c4⟩ := hb.at5 hlt
   have HS := hid (zM9 (L := L) (k := k) (by rw [HL.out]; exact hlt))
   obtain ⟨T, hT⟩ : ∃ T, T = tat L k := ⟨_, rfl⟩
   rw [← hT] at c0 c1 c2 c3 c4 HS
   clear hb hT
   go_wp2_with fail
   refine (zLg T _).mono ?_
   rintro e w1 ⟨rfl, hb1⟩
   have HB1 : Hid (Below w.heap.size w w1) := hid ((HB.out.alloc HB.out.size _).trans (hb1.mono (Nat.le_trans HB.out.size (by simp))))
   have e3 : w1.cell? ⟨wr.heap.size, 3, none⟩ = some (.string T.s) := (hb1.cell (by simp)).trans (by simp)
   have HO1 : Hid (OwnV w.heap.size 9 1 w1 a3 n c ((nms (L.take k)).map encStr)) := hid ((HO.out.alloc _).keep hb1 (Nat.le_refl _))
   clear hb1
   cases hq : isN T with
   | true =>
    have HS1 : Hid (nms (L.take (k + 1)) = nms (L.take k) ++ [T.s.toList]) := hid (by rw [HS.out, hq]; rfl)
    clear hq
    go_wp2_with (at_builtin; refine Hid.out ?_)
    refine hid ?_
    refine zAL rfl (.tmp 15) (.tmp 18) 26 rfl 9 w.heap.size 1 16 _ Tryz.underlying26 zBw rfl (by omega) _ _ _ ((nms (L.take k)).map encStr) rfl (HO1.out.alloc _) _ _ _ [.string T.s] rfl (Vs.lit (k := 1) (xs := [.string T.s]) _ _ rfl rfl rfl) (by simp; rfl) (by unfold maxLen; omega) (by omega) (by have := HB1.out.size; simp; omega) ?_
    intro a4 c4' w4 ho4 hg4 hb4 _
    have HO4 : Hid (OwnV w.heap.size 9 1 w4 a4 (n + 1) c4' ((nms (L.take (k + 1))).map encStr)) := hid (by rw [HS1.out, List.map_append, List.map_singleton, zPK]; exact ho4)
    have HB4 : Hid (Below w.heap.size w w4) := hid ((HB1.out.alloc HB1.out.size _).trans hb4)
    have HN4 : Hid ((nms (L.take (k + 1))).length = n + 1) := hid (by rw [HS1.out, List.length_append, HN.out]; rfl)
    clear ho4 hg4 hb4
    go_wp2
    go_roundw
    case rel => exact ⟨_, n + 1, _, k + 1, rfl, by go_num, by omega, by omega, HN4, HO4, HB4⟩
    case measure => simp [intOf]; omega
   | false =>
    have HS1 : Hid (nms (L.take (k + 1)) = nms (L.take k)) := hid (by rw [HS.out, hq]; simp)
    clear hq
    go_wp2
    go_roundw
    case rel => exact ⟨_, n, _, k + 1, rfl, by go_num, by omega, by omega, hid (by rw [HS1.out, HN.out]), hid (by rw [HS1.out]; exact HO1.out), HB1⟩
    case measure => simp [intOf]; omega
  ·have hkl : k = len := by omega
   have htk : L.take k = L := List.take_of_length_le (by rw [HL.out]; omega)
   rw [htk] at HN HO
   obtain ⟨S, hS⟩ : ∃ S, S = nms L := ⟨_, rfl⟩
   rw [← hS] at HN HO
   have HSL := hid hS
   have HC := HO.out.bounds
   have hm := HC.2.2
   unfold maxLen at hm
   clear hS htk
   by_cases h0 : 0 < n
   ·obtain ⟨g, cur, rfl, hbg, hgl, _, _, _⟩ := HO.out.form (HO.out.some h0)
    obtain ⟨g', cap', hv, _, _, _, _, hlen, hH⟩ := Lib.holds_of_ownsRow (show wr.ownsRow w.heap.size 9 1 _ n (S.map encStr) from HO.out) (by simp)
    simp only [Value.slice.injEq, Option.some.injEq, Addr.mk.injEq, and_true, true_and] at hv
    obtain ⟨rfl, rfl⟩ := hv
    have HSO := hid (Tryz.slices_Sort_string g 0 c S wr hH hgl (by omega))
    rw [hlen] at HSO
    have hl2 : (S.mergeSort fun x y => decide (x ≤ y)).length = n := by rw [List.length_mergeSort]; exact hlen
    have HH := hid hH
    have HX := hid (And.intro hbg hgl)
    have HLN := hid hlen
    have HL2 := hid hl2
    have hcl := HC.2.1
    clear hH hbg hgl hlen hl2
    go_wp2_with fail
    refine HSO.out.mono ?_
    rintro e w2 ⟨rfl, nn, os, rfl⟩
    have hH2 : Holds encStr (grow (putRow encStr (Sort.ahead wr nn) g 0 (S.mergeSort fun x y => decide (x ≤ y)).toArray) os) g 0 (S.mergeSort fun x y => decide (x ≤ y)).toArray :=
     holds_grow encStr _ os g 0 _ (by simpa [putRow, mapBlock, Sort.ahead] using HX.out.2) (holds_putRow encStr _ g 0 _ _ (holds_ahead encStr wr nn g 0 _ HH.out) (by simp))
    have hcomp := Tryz.slices_Compact_string g 0 c (S.mergeSort fun x y => decide (x ≤ y)) _ hH2 (by rw [HL2.out]; omega) (by rw [HL2.out]; exact hcl)
    rw [HL2.out] at hcomp
    have HCO := hid hcomp
    have HLE := hid (fun q => zJV (q := q) (w0 := w) (base := w.heap.size) (nn := nn) (os := os) HO.out HB.out HB.out.size HLN.out)
    clear hH2 hcomp
    go_wp2_with fail
    refine HCO.out.mono ?_
    rintro e w3 ⟨rfl, q, rfl⟩
    go_wp2
    go_ret
    rw [← HSL.out]
    exact ⟨_, _, rfl, (HLE.out q).1.vs, (HLE.out q).2⟩
   ·have hz : n = 0 := by omega
    subst hz
    have hS0 : S = [] := List.eq_nil_of_length_eq_zero HN.out
    subst hS0
    have hr0 : nmR [] = [] := List.eq_nil_of_length_eq_zero (by have := zHW []; simpa using this)
    go_wp2_with fail
    refine (Tryz.slices_Sort_string_none a3 c _).mono ?_
    rintro e w2 ⟨rfl, rfl⟩
    go_wp2_with fail
    refine (Tryz.slices_Compact_string_empty a3 c _).mono ?_
    rintro e w2 ⟨rfl, rfl⟩
    go_wp2
    go_ret
    rw [← HSL.out, hr0]
    exact ⟨_, _, rfl, Vs.nil _ _ _ _ HC.2.2, HB.out⟩
end
end Go.Proofs.YtcjbhdgjcpnklaaGreatDoor
