/- Texts laid one behind the other. -/
import Derived.Test.YtimhcghjlknibaaDoorMD
import Derived.Lib.SlicesCompact
import Derived.Sort.KeysCollected
import Derived.Sort.Walk0
import Derived.Lib.RowBridge
import Derived.Test.YtimhcghjlknibaaDoorSh
import Derived.Sort.OwnSorted
import Derived.Lib.OwnBridge

/- The plain mathematics of layer 10's names: sorted and compacted, or put in one by one: the same rising list. No walk here. -/
namespace Go.Proofs.YtimhcghjlknibaaDoor
open Go.RowKit

abbrev Nm := List UInt8

theorem lt_of_ne {x y : Nm} (h : x ≤ y) (hn : x ≠ y) : x < y := by
  apply Decidable.byContradiction
  intro h1
  exact hn (List.le_antisymm h h1)
theorem le_of_lt {x y : Nm} (h : x < y) : x ≤ y := fun h1 => by
  rcases List.le_total x y with h2 | h2
  · exact h2 h1
  · exact h2 h
theorem lt_irr (x : Nm) : ¬ x < x := fun h => le_of_lt h h
theorem lt_le {x y z : Nm} (h : x < y) (h1 : y ≤ z) : x < z := by
  refine lt_of_ne (List.le_trans (le_of_lt h) h1) fun e => ?_
  subst e
  exact h1 h
theorem lt_tr {x y z : Nm} (h : x < y) (h1 : y < z) : x < z := lt_le h (le_of_lt h1)
theorem ne_of_lt {x y : Nm} (h : x < y) : x ≠ y := fun e => by subst e; exact lt_irr _ h

/-- Rising, each once. -/
def Ris (M : List Nm) : Prop := M.Pairwise (· < ·)

theorem ris_ext {A B : List Nm} (ha : Ris A) (hb : Ris B) (h : ∀ x, x ∈ A ↔ x ∈ B) : A = B := by
  have na : A.Nodup := ha.imp fun h => ne_of_lt h
  have nb : B.Nodup := hb.imp fun h => ne_of_lt h
  have hp : A.Perm B := (List.perm_ext_iff_of_nodup na nb).2 h
  exact List.Perm.eq_of_pairwise (le := fun a b => a ≤ b) (fun a b _ _ h1 h2 => List.le_antisymm h1 h2) (ha.imp fun h => le_of_lt h) (hb.imp fun h => le_of_lt h) hp

/-! ### Sorted and compacted -/

theorem comp_mem (d : Array Nm) : ∀ (m : Nat) (x : Nm), x ∈ Lib.compactUpTo d m ↔ ∃ j, j < m ∧ d[j]! = x
  | 0, x => by simp [Lib.compactUpTo]
  | m + 1, x => by
    rw [Lib.compactUpTo_succ, List.mem_append, comp_mem d m x]
    constructor
    · rintro (⟨j, hj, he⟩ | h)
      · exact ⟨j, by omega, he⟩
      · split at h
        · rw [List.mem_singleton.1 h]; exact ⟨m, by omega, rfl⟩
        · cases h
    · rintro ⟨j, hj, he⟩
      by_cases hjm : j < m
      · exact Or.inl ⟨j, hjm, he⟩
      · have : j = m := by omega
        subst this
        cases hk : Lib.keeps d j with
        | true => right; rw [if_pos rfl, he]; exact List.mem_singleton.2 rfl
        | false =>
          left
          unfold Lib.keeps at hk
          simp only [decide_eq_false_iff_not, not_or, Decidable.not_not] at hk
          exact ⟨j - 1, by omega, by rw [← hk.2, he]⟩
theorem comp_ris (d : Array Nm) (hs : ∀ i j, i ≤ j → j < d.size → d[i]! ≤ d[j]!) : ∀ m, m ≤ d.size → Ris (Lib.compactUpTo d m)
  | 0, _ => by simp [Lib.compactUpTo, Ris]
  | m + 1, hm => by
    rw [Lib.compactUpTo_succ]
    refine List.pairwise_append.2 ⟨comp_ris d hs m (by omega), ?_, ?_⟩
    · split
      · exact List.pairwise_singleton _ _
      · exact List.Pairwise.nil
    · intro x hx y hy
      obtain ⟨j, hj, rfl⟩ := (comp_mem d m x).1 hx
      cases hk : Lib.keeps d m with
      | false => rw [hk] at hy; cases hy
      | true =>
        rw [hk, if_pos rfl, List.mem_singleton] at hy
        subst hy
        unfold Lib.keeps at hk
        simp only [decide_eq_true_eq] at hk
        rcases hk with hk | hk
        · omega
        · have h1 := hs j (m - 1) (by omega) (by omega)
          have h2 := hs (m - 1) m (by omega) (by omega)
          by_cases he : d[j]! = d[m - 1]!
          · rw [he]; exact lt_of_ne h2 fun e => hk e.symm
          · exact lt_le (lt_of_ne h1 he) h2

/-- The names, in their order. -/
def nms (L : List TK) : List Nm := (L.filter isN).map fun t => t.s.toList
/-- What is told of them. -/
def nmR (S : List Nm) : List Nm := Lib.compact (S.mergeSort fun x y => decide (x ≤ y))

theorem sort_pw (S : List Nm) : (S.mergeSort fun x y => decide (x ≤ y)).Pairwise (· ≤ ·) := by
  have tr : ∀ a b c : Nm, decide (a ≤ b) = true → decide (b ≤ c) = true → decide (a ≤ c) = true := fun a b c h1 h2 => by
    simp only [decide_eq_true_eq] at *; exact List.le_trans h1 h2
  have to : ∀ a b : Nm, (decide (a ≤ b) || decide (b ≤ a)) = true := fun a b => by
    simp only [Bool.or_eq_true, decide_eq_true_eq]; exact List.le_total a b
  exact (List.pairwise_mergeSort tr to S).imp fun h => by simpa using h
theorem nmR_ris (S : List Nm) : Ris (nmR S) := by
  have hp := sort_pw S
  refine comp_ris _ (fun i j hij hj => ?_) _ (by simp)
  have hj' : j < (S.mergeSort fun x y => decide (x ≤ y)).length := by simpa using hj
  rw [getElem!_pos _ i (by omega), getElem!_pos _ j hj]
  by_cases h : i = j
  · subst h; exact List.le_refl _
  · exact List.pairwise_iff_getElem.1 hp i j (by omega) hj' (by omega)
theorem nmR_mem (S : List Nm) (x : Nm) : x ∈ nmR S ↔ x ∈ S := by
  unfold nmR Lib.compact
  rw [comp_mem]
  rw [← List.mem_mergeSort (le := fun x y => decide (x ≤ y)) (a := x) (l := S)]
  constructor
  · rintro ⟨j, hj, rfl⟩
    rw [getElem!_pos _ j (by simpa using hj)]
    simp
  · intro h
    obtain ⟨j, hj, rfl⟩ := List.getElem_of_mem h
    exact ⟨j, hj, by rw [getElem!_pos _ j (by simpa using hj)]; simp⟩

/-! ### Put in one by one -/

def insN : List Nm → Nm → List Nm
  | [], x => [x]
  | y :: M, x => if y < x then y :: insN M x else if y = x then y :: M else x :: y :: M
def at_ (M : List Nm) (j : Nat) : Nm := M.getD j []
theorem ins_mem : ∀ (M : List Nm) (x z : Nm), z ∈ insN M x ↔ z = x ∨ z ∈ M
  | [], x, z => by simp [insN]
  | y :: M, x, z => by
    rw [insN]
    split
    · simp only [List.mem_cons, ins_mem M x z]
      constructor
      · rintro (h | h | h) <;> simp [h]
      · rintro (h | h | h) <;> simp [h]
    · split
      · rename_i h
        subst h
        simp
      · simp
theorem ins_ris : ∀ (M : List Nm) (x : Nm), Ris M → Ris (insN M x)
  | [], x, _ => List.pairwise_singleton _ _
  | y :: M, x, h => by
    have h1 := List.pairwise_cons.1 h
    rw [insN]
    split
    · rename_i hy
      refine List.pairwise_cons.2 ⟨fun z hz => ?_, ins_ris M x h1.2⟩
      rcases (ins_mem M x z).1 hz with rfl | hz
      · exact hy
      · exact h1.1 z hz
    · split
      · exact h
      · rename_i hy hne
        have hxy : x < y := lt_of_ne hy fun e => hne e.symm
        refine List.pairwise_cons.2 ⟨fun z hz => ?_, h⟩
        rcases List.mem_cons.1 hz with rfl | hz
        · exact hxy
        · exact lt_tr hxy (h1.1 z hz)
/-- By the place that it belongs to. -/
theorem ins_at : ∀ (M : List Nm) (x : Nm) (p : Nat), p ≤ M.length → (∀ j, j < p → at_ M j < x) → (p < M.length → ¬ at_ M p < x) → insN M x = if p < M.length ∧ at_ M p = x then M else M.take p ++ x :: M.drop p
  | [], x, p, hp, _, _ => by
    have : p = 0 := by simpa using hp
    subst this
    simp [insN]
  | y :: M, x, 0, _, _, h => by
    have h0 : ¬ y < x := h (by simp)
    rw [insN, if_neg h0]
    by_cases he : y = x
    · rw [if_pos he, if_pos ⟨by simp, he⟩]
    · rw [if_neg he, if_neg (fun hh => he hh.2)]; rfl
  | y :: M, x, p + 1, hp, hlt, h => by
    have h0 : y < x := hlt 0 (by omega)
    have ih := ins_at M x p (by simpa using hp) (fun j hj => hlt (j + 1) (by omega)) (fun hp' => h (by simpa using hp'))
    rw [insN, if_pos h0, ih]
    have e : at_ (y :: M) (p + 1) = at_ M p := rfl
    by_cases hc : p < M.length ∧ at_ M p = x
    · rw [if_pos hc, if_pos ⟨by simpa using hc.1, by rw [e]; exact hc.2⟩]
    · rw [if_neg hc, if_neg (fun hh => hc ⟨by simpa using hh.1, by rw [← e]; exact hh.2⟩)]; rfl

def insA (S : List Nm) : List Nm := S.foldl insN []
theorem insA_snoc (S : List Nm) (x : Nm) : insA (S ++ [x]) = insN (insA S) x := by unfold insA; rw [List.foldl_append]; rfl
theorem fold_ok : ∀ (S M : List Nm), Ris M → Ris (S.foldl insN M) ∧ ∀ z, z ∈ S.foldl insN M ↔ z ∈ M ∨ z ∈ S
  | [], M, h => ⟨h, fun z => by simp⟩
  | x :: S, M, h => by
    obtain ⟨h1, h2⟩ := fold_ok S (insN M x) (ins_ris M x h)
    refine ⟨h1, fun z => ?_⟩
    rw [List.foldl_cons, h2 z, ins_mem, List.mem_cons]
    constructor
    · rintro ((h | h) | h) <;> simp [h]
    · rintro (h | h | h) <;> simp [h]
/-- The one and the other are the same. -/
theorem insA_nmR (S : List Nm) : insA S = nmR S := by
  obtain ⟨h1, h2⟩ := fold_ok S [] List.Pairwise.nil
  refine ris_ext h1 (nmR_ris S) fun x => ?_
  show x ∈ S.foldl insN [] ↔ _
  rw [h2, nmR_mem]; simp

theorem nms_snoc {L : List TK} {k : Nat} (h : k < L.length) : nms (L.take (k + 1)) = nms (L.take k) ++ (if isN (tat L k) then [(tat L k).s.toList] else []) := by
  unfold nms
  rw [tat_take h, List.filter_append, List.map_append]
  congr 1
  cases hn : isN (tat L k) with
  | true => simp [hn]
  | false => simp [hn]
theorem nms_len (L : List TK) : (nms L).length ≤ L.length := by unfold nms; rw [List.length_map]; exact List.length_filter_le _ _
theorem nmR_len (S : List Nm) : (nmR S).length ≤ S.length := by
  unfold nmR
  have := Lib.compact_length_le (S.mergeSort fun x y => decide (x ≤ y))
  rw [List.length_mergeSort] at this
  exact this

end Go.Proofs.YtimhcghjlknibaaDoor

/- Contract of package split's Names. -/
namespace Go.Proofs.YtimhcghjlknibaaDoor
open Go.RowKit Go.Sort

theorem enc_str (s : ByteArray) : encStr s.toList = .string s := by
  simp [encStr, ByteArray.toList_eq]

theorem ret_slice3 {a : Option Addr} {n n' c : Nat} (h1 : n = n') : Ending.returned (.slice a n c) = .returned (.slice a n' c) := by rw [h1]

/-- From what the two contracts leave to the row of the sorted, compacted names. -/
theorem names_left {base : Nat} {w0 w1 : World} {g cap n nn q : Nat} {os : Array Obj} {ss : List Nm} (hown : OwnV base 9 1 w1 (some ⟨g, 0, none⟩) n cap (ss.map encStr)) (hbel : Below base w0 w1) (hb1 : base ≤ w1.heap.size) (hlen : ss.length = n) :
    OwnV base 9 1 (putRow encStr (Sort.ahead (grow (putRow encStr (Sort.ahead w1 nn) g 0 (ss.mergeSort fun x y => decide (x ≤ y)).toArray) os) q) g 0 (nmR ss ++ List.replicate (n - (nmR ss).length) []).toArray) (some ⟨g, 0, none⟩) (nmR ss).length cap ((nmR ss).map encStr) ∧
    Below base w0 (putRow encStr (Sort.ahead (grow (putRow encStr (Sort.ahead w1 nn) g 0 (ss.mergeSort fun x y => decide (x ≤ y)).toArray) os) q) g 0 (nmR ss ++ List.replicate (n - (nmR ss).length) []).toArray) := by
  have hl2 : (ss.mergeSort fun x y => decide (x ≤ y)).length = ss.length := List.length_mergeSort ss
  have hle := nmR_len ss
  subst hlen
  rcases hown.2 with ⟨h0, _⟩ | ⟨g', cap', cur, hv, hbase, hb, h1, h2, h3, h4⟩
  · cases h0
  cases hv
  have hs := ownsRow_sorted (n := nn) (os := os) (ts := ss.mergeSort fun x y => decide (x ≤ y)) hl2 hbase hb h1 h2 h3
  have hc := Lib.ownsRow_putRow (q := q) (k := (nmR ss).length) (ys := nmR ss ++ List.replicate (ss.length - (nmR ss).length) []) hs (by simp; omega) (by omega)
  rw [List.take_left] at hc
  exact ⟨hc, Lib.below_putRow (hbel.grown (grownBy_sorted _) hb1 (fun j hj => by cases hj; exact hbase)) hbase⟩

set_option maxRecDepth 100000 in
set_option maxHeartbeats 4000000 in
theorem names_any (f t i : Int) (a : Option Addr) (len cap : Nat) (L : List TK) (w : World) (h : Ts w a len cap L) (hsz : len ≤ 1000000) :
    Calls Tryd.prog 9 #[.agg #[.int .i64 f, .int .i64 t, .int .i64 i, .slice a len cap]] w fun e w' => ∃ a' c', e = .returned (.slice a' (nmR (nms L)).length c') ∧ Vs 1 w' a' (nmR (nms L)).length c' ((nmR (nms L)).map encStr) ∧ Below w.heap.size w w' := by
  have hlc := h.lc
  have hcm := h.cm
  unfold maxLen at hcm
  have H := Lib.hid h
  have HL := Lib.hid h.hl
  clear h
  go_enter Tryd.func9, Tryd.ntmps9
  go_wp2
  go_loopw [3, 9] (fun x v wr => ∃ a3, ∃ n c k : Nat, x = .slice a3 n c ∧ v = .int .i64 k ∧ k ≤ len ∧ n ≤ k ∧ Hid ((nms (L.take k)).length = n) ∧ Hid (OwnV w.heap.size 9 1 wr a3 n c ((nms (L.take k)).map encStr)) ∧ Hid (Below w.heap.size w wr)) (fun _ v _ => len - (intOf v).toNat)
  case atStart => exact ⟨_, 0, 0, 0, rfl, rfl, by omega, by omega, Lib.hid (by simp [nms]), Lib.hid (by simpa [nms] using OwnV.none0), Lib.hid ((Below.refl _ _).alloc (Nat.le_refl _) _)⟩
  case round =>
    obtain ⟨a3, n, c, k, rfl, rfl, hk, hn, HN, HO, HB⟩ := hrel
    by_cases hlt : k < len
    · have hb := H.out.below HB.out
      obtain ⟨b, off, rfl, _, _⟩ := hb.at_ (by omega)
      obtain ⟨c0, c1, c2, c3, c4⟩ := hb.at5 hlt
      have HS := Lib.hid (nms_snoc (L := L) (k := k) (by rw [HL.out]; exact hlt))
      obtain ⟨T, hT⟩ : ∃ T, T = tat L k := ⟨_, rfl⟩
      rw [← hT] at c0 c1 c2 c3 c4 HS
      clear hb hT
      go_wp2_with fail
      refine (name1_any T _).mono ?_
      rintro e w1 ⟨rfl, hb1⟩
      have HB1 : Hid (Below w.heap.size w w1) := Lib.hid ((HB.out.alloc HB.out.size _).trans (hb1.mono (Nat.le_trans HB.out.size (by simp))))
      have e3 : w1.cell? ⟨wr.heap.size, 3, none⟩ = some (.string T.s) := (hb1.cell (by simp)).trans (by simp)
      have HO1 : Hid (OwnV w.heap.size 9 1 w1 a3 n c ((nms (L.take k)).map encStr)) := Lib.hid ((HO.out.alloc _).keep hb1 (Nat.le_refl _))
      clear hb1
      cases hq : isN T with
      | true =>
        have HS1 : Hid (nms (L.take (k + 1)) = nms (L.take k) ++ [T.s.toList]) := Lib.hid (by rw [HS.out, hq]; rfl)
        clear hq
        go_wp2_with (at_builtin; refine Hid.out ?_)
        refine Lib.hid ?_
        refine wpList_appv rfl (.tmp 15) (.tmp 18) 27 rfl 9 w.heap.size 1 16 _ Tryd.underlying27 str_info rfl (by omega) _ _ _ ((nms (L.take k)).map encStr) rfl (HO1.out.alloc _) _ _ _ [.string T.s] rfl (Vs.lit (k := 1) (xs := [.string T.s]) _ _ rfl rfl rfl) (by simp; rfl) (by unfold maxLen; omega) (by omega) (by have := HB1.out.size; simp; omega) ?_
        intro a4 c4' w4 ho4 hg4 hb4 _
        have HO4 : Hid (OwnV w.heap.size 9 1 w4 a4 (n + 1) c4' ((nms (L.take (k + 1))).map encStr)) := Lib.hid (by rw [HS1.out, List.map_append, List.map_singleton, enc_str]; exact ho4)
        have HB4 : Hid (Below w.heap.size w w4) := Lib.hid ((HB1.out.alloc HB1.out.size _).trans hb4)
        have HN4 : Hid ((nms (L.take (k + 1))).length = n + 1) := Lib.hid (by rw [HS1.out, List.length_append, HN.out]; rfl)
        clear ho4 hg4 hb4
        go_wp2
        go_roundw
        case rel => exact ⟨_, n + 1, _, k + 1, rfl, by go_num, by omega, by omega, HN4, HO4, HB4⟩
        case measure => simp [intOf]; omega
      | false =>
        have HS1 : Hid (nms (L.take (k + 1)) = nms (L.take k)) := Lib.hid (by rw [HS.out, hq]; simp)
        clear hq
        go_wp2
        go_roundw
        case rel => exact ⟨_, n, _, k + 1, rfl, by go_num, by omega, by omega, Lib.hid (by rw [HS1.out, HN.out]), Lib.hid (by rw [HS1.out]; exact HO1.out), HB1⟩
        case measure => simp [intOf]; omega
    · have hkl : k = len := by omega
      have htk : L.take k = L := List.take_of_length_le (by rw [HL.out]; omega)
      rw [htk] at HN HO
      obtain ⟨S, hS⟩ : ∃ S, S = nms L := ⟨_, rfl⟩
      rw [← hS] at HN HO
      have HSL := Lib.hid hS
      have HC := HO.out.bounds
      have hm := HC.2.2
      unfold maxLen at hm
      clear hS htk
      by_cases h0 : 0 < n
      · obtain ⟨g, cur, rfl, hbg, hgl, _, _, _⟩ := HO.out.form (HO.out.some h0)
        obtain ⟨g', cap', hv, _, _, _, _, hlen, hH⟩ := Lib.holds_of_ownsRow (show wr.ownsRow w.heap.size 9 1 _ n (S.map encStr) from HO.out) (by simp)
        simp only [Value.slice.injEq, Option.some.injEq, Addr.mk.injEq, and_true, true_and] at hv
        obtain ⟨rfl, rfl⟩ := hv
        have HSO := Lib.hid (Tryd.slices_Sort_string g 0 c S wr hH hgl (by omega))
        rw [hlen] at HSO
        have hl2 : (S.mergeSort fun x y => decide (x ≤ y)).length = n := by rw [List.length_mergeSort]; exact hlen
        have HH := Lib.hid hH
        have HX := Lib.hid (And.intro hbg hgl)
        have HLN := Lib.hid hlen
        have HL2 := Lib.hid hl2
        have hcl := HC.2.1
        clear hH hbg hgl hlen hl2
        go_wp2_with fail
        refine HSO.out.mono ?_
        rintro e w2 ⟨rfl, nn, os, rfl⟩
        have hH2 : Holds encStr (grow (putRow encStr (Sort.ahead wr nn) g 0 (S.mergeSort fun x y => decide (x ≤ y)).toArray) os) g 0 (S.mergeSort fun x y => decide (x ≤ y)).toArray :=
          holds_grow encStr _ os g 0 _ (by simpa [putRow, mapBlock, Sort.ahead] using HX.out.2) (holds_putRow encStr _ g 0 _ _ (holds_ahead encStr wr nn g 0 _ HH.out) (by simp))
        have hcomp := Tryd.slices_Compact_string g 0 c (S.mergeSort fun x y => decide (x ≤ y)) _ hH2 (by rw [HL2.out]; omega) (by rw [HL2.out]; exact hcl)
        rw [HL2.out] at hcomp
        have HCO := Lib.hid hcomp
        have HLE := Lib.hid (fun q => names_left (q := q) (w0 := w) (base := w.heap.size) (nn := nn) (os := os) HO.out HB.out HB.out.size HLN.out)
        clear hH2 hcomp
        go_wp2_with fail
        refine HCO.out.mono ?_
        rintro e w3 ⟨rfl, q, rfl⟩
        go_wp2
        go_ret
        rw [← HSL.out]
        exact ⟨_, _, rfl, (HLE.out q).1.vs, (HLE.out q).2⟩
      · have hz : n = 0 := by omega
        subst hz
        have hS0 : S = [] := List.eq_nil_of_length_eq_zero HN.out
        subst hS0
        have hr0 : nmR [] = [] := List.eq_nil_of_length_eq_zero (by have := nmR_len []; simpa using this)
        go_wp2_with fail
        refine (Tryd.slices_Sort_string_none a3 c _).mono ?_
        rintro e w2 ⟨rfl, rfl⟩
        go_wp2_with fail
        refine (Tryd.slices_Compact_string_empty a3 c _).mono ?_
        rintro e w2 ⟨rfl, rfl⟩
        go_wp2
        go_ret
        rw [← HSL.out, hr0]
        exact ⟨_, _, rfl, Vs.nil _ _ _ _ HC.2.2, HB.out⟩

end Go.Proofs.YtimhcghjlknibaaDoor
