/- Contracts: bytes.IndexByte at a newline, package layout's line and begins, the document's own pair. -/
import Derived.Test.YtecabgmkoknbgaaDoorLm
import Derived.Test.YtecabgmkoknbgaaDoorM1
import Derived.Lib.BytesEntry
import Derived.Laws.Externs
namespace Go.Proofs.YtecabgmkoknbgaaDoor
open Go.RowKit

def idxV (l : List Int) : Int := if lineL l < l.length then (lineL l : Int) else -1

theorem lineL_idx : ∀ l : List Int, (∀ x ∈ l, 0 ≤ x ∧ x ≤ 255) → Lib.indexByte (Lib.bytesOf l) 10 = idxV l
  | [], _ => rfl
  | c :: r, h => by
    have ih := lineL_idx r (fun x hx => h x (by simp [hx]))
    have hc := h c (by simp)
    have hle := lineL_le r
    rw [show Lib.bytesOf (c :: r) = UInt8.ofNat c.toNat :: Lib.bytesOf r from rfl, Lib.indexByte, ih]
    have hlen : (c :: r).length = r.length + 1 := rfl
    by_cases h10 : c = 10
    · subst h10; rfl
    · have hne : (UInt8.ofNat c.toNat == 10) = false := by
        simp only [beq_eq_false_iff_ne, ne_eq]
        intro he
        have := congrArg UInt8.toNat he
        rw [UInt8.toNat_ofNat'] at this
        simp at this
        omega
      have e1 : lineL (c :: r) = 1 + lineL r := by simp [lineL, h10]
      have hv : idxV (c :: r) = if 1 + lineL r < r.length + 1 then ((1 + lineL r : Nat) : Int) else -1 := by simp only [idxV, e1, hlen]
      rw [hv, if_neg (by rw [hne]; decide)]
      by_cases hl : lineL r < r.length
      · rw [show idxV r = (lineL r : Int) from if_pos hl, if_pos (show 1 + lineL r < r.length + 1 by omega), if_neg (by simp)]; omega
      · rw [show idxV r = -1 from if_neg hl, if_neg (show ¬ 1 + lineL r < r.length + 1 by omega)]; rfl

set_option maxRecDepth 100000 in
theorem idx_any (b off len cap : Nat) (l : List Int) (w : World) (h : Bs w (some ⟨b, off, none⟩) len cap l) (h0 : 0 < len) :
    Calls Tryd.prog 55 #[.slice (some ⟨b, off, none⟩) len cap, .int .u8 10] w fun e w' => e = .returned (.int .i64 (idxV l)) ∧ w = w' := by
  have hc : ∀ i, i < len → w.cell? ⟨b, off + i, none⟩ = some (.int .u8 (l.getD i 0)) := by
    obtain ⟨b', off', hab, _, hc⟩ := h.at_ h0
    simp only [Option.some.injEq, Addr.mk.injEq] at hab
    obtain ⟨rfl, rfl, _⟩ := hab
    exact hc
  have HI := Lib.hid (lineL_idx l h.rng)
  have hl := h.hl
  have HR := Lib.hid (Lib.run_indexByteSlice (P := Tryd.prog) w b off len cap l hl hc 10)
  clear hc h
  go_enter Tryd.func55, Tryd.ntmps55
  go_wp2
  rw [run_callFunc_extern Tryd.func67 (by kernel_rfl) (by kernel_rfl) (by kernel_rfl) (e := Extern.BytealgIndexByte.indexByte) (by kernel_rfl), HR.out]
  simp only [Result.andThen]
  rw [Oper.upon_value]
  go_wp2
  go_ret
  exact ⟨ret_int HI.out, rfl⟩

theorem line_any (b off len cap : Nat) (l : List Int) (w : World) (h : Bs w (some ⟨b, off, none⟩) len cap l) (h0 : 0 < len) :
    Calls Tryd.prog 39 #[.slice (some ⟨b, off, none⟩) len cap] w fun e w' => e = .returned (.int .i64 (lineL l)) ∧ w = w' := by
  have hm := h.lt
  unfold maxLen at hm
  have hl := h.hl
  have hle := lineL_le l
  have H := Lib.hid h
  clear h
  obtain ⟨n, hn⟩ : ∃ n, n = lineL l := ⟨_, rfl⟩
  by_cases hlt : lineL l < l.length
  · have HV : Hid (idxV l = n) := Lib.hid (by rw [idxV, if_pos hlt, hn])
    rw [← hn]
    clear hlt hn hle
    go_enter Tryd.func39, Tryd.ntmps39
    go_wp2_with (first | (go_at_call 55; refine (idx_any _ _ _ _ l _ H.out h0).mono ?_; rintro e w' ⟨rfl, rfl⟩; rw [HV.out]))
    go_ret
    exact ⟨rfl, rfl⟩
  · have HV : Hid (idxV l = -1) := Lib.hid (by rw [idxV, if_neg hlt])
    have hnl : n = len := by omega
    rw [← hn, hnl]
    clear hlt hn hle
    go_enter Tryd.func39, Tryd.ntmps39
    go_wp2_with (first | (go_at_call 55; refine (idx_any _ _ _ _ l _ H.out h0).mono ?_; rintro e w' ⟨rfl, rfl⟩; rw [HV.out]))
    go_ret
    exact ⟨rfl, rfl⟩

theorem bstr_two {l : List Int} (h : ∀ x ∈ l, 0 ≤ x ∧ x ≤ 255) (hl : l.length = 2) (p q : UInt8) : ((bstr l).toList == [p, q]) = (bt l 0 == (p.toNat : Int) && bt l 1 == (q.toNat : Int)) := by
  match l, hl with
  | [x, y], _ =>
    have hx := h x (by simp)
    have hy := h y (by simp)
    have ex : UInt8.ofNat x.toNat = p ↔ x = (p.toNat : Int) := by
      constructor
      · intro he; rw [← he, UInt8.toNat_ofNat']; omega
      · intro he; rw [he]; simp
    have ey : UInt8.ofNat y.toNat = q ↔ y = (q.toNat : Int) := by
      constructor
      · intro he; rw [← he, UInt8.toNat_ofNat']; omega
      · intro he; rw [he]; simp
    rw [Bool.eq_iff_iff]
    rw [bstr_toList]
    simp [bt, List.getD, ex, ey]

theorem begins_any (a : Option Addr) (len cap : Nat) (l : List Int) (p q : UInt8) (w : World) (h : Bs w a len cap l) :
    Calls Tryd.prog 40 #[.slice a len cap, .string { data := #[p, q] }] w fun e w' => e = .returned (.bool (pre2 p.toNat q.toNat l)) ∧ w = w' := by
  have hm := h.lt
  unfold maxLen at hm
  have hl := h.hl
  have hlc := h.lc
  have hcm := h.cm
  unfold maxLen at hcm
  have H := Lib.hid h
  by_cases h2 : 2 ≤ len
  · have hb := h.take h2 (Nat.le_trans h2 hlc) h.cm
    have HB : Hid (pre2 p.toNat q.toNat l = ((bstr (l.take 2)).toList == [p, q])) := Lib.hid (by
      rw [bstr_two hb.rng hb.hl, bt_take _ _ _ (by omega), bt_take _ _ _ (by omega), pre2, hl, decide_eq_true h2, Bool.true_and])
    have k1 := hb.str (P := Tryd.prog) 22 9 5 Tryd.underlying22 Tryd.underlying5 Tryd.underlying9
    obtain ⟨b, off, rfl, hbl, hc⟩ := h.at_ (by omega)
    clear h hc hb
    rw [HB.out]
    clear HB
    go_enter Tryd.func40, Tryd.ntmps40
    go_wp2
    go_ret
    exact ⟨rfl, rfl⟩
  · have HB : Hid (pre2 p.toNat q.toNat l = false) := Lib.hid (by rw [pre2, hl, decide_eq_false h2, Bool.false_and])
    clear h
    rw [HB.out]
    clear HB
    go_enter Tryd.func40, Tryd.ntmps40
    go_wp2
    go_ret
    exact ⟨rfl, rfl⟩

/-- The document's own: at a place. -/
theorem pair_any (a : Option Addr) (len cap : Nat) (l : List Int) (k : Nat) (p q : UInt8) (w : World) (h : Bs w a len cap l) (hk : k ≤ len) (hsz : len ≤ 1000000) :
    Calls Tryd.prog 44 #[.slice a len cap, .int .i64 k, .string { data := #[p, q] }] w fun e w' => e = .returned (.bool (pre2 p.toNat q.toNat (l.drop k))) ∧ w = w' := by
  have hm := h.lt
  unfold maxLen at hm
  have hl := h.hl
  have hlc := h.lc
  have hcm := h.cm
  unfold maxLen at hcm
  have H := Lib.hid h
  by_cases h2 : k + 2 ≤ len
  · obtain ⟨b, off, rfl, hbl, hc⟩ := h.at_ (by omega)
    have hd := h.drop hk
    have hb := hd.take (k := 2) (c' := cap - k) (by omega) (by omega) hd.cm
    have HB : Hid (pre2 p.toNat q.toNat (l.drop k) = ((bstr ((l.drop k).take 2)).toList == [p, q])) := Lib.hid (by
      rw [bstr_two hb.rng hb.hl, bt_take _ _ _ (by omega), bt_take _ _ _ (by omega), pre2, hd.hl, decide_eq_true (by omega), Bool.true_and])
    have k1 := hb.str (P := Tryd.prog) 22 9 5 Tryd.underlying22 Tryd.underlying5 Tryd.underlying9
    clear h hc hb hd
    rw [HB.out]
    clear HB
    go_enter Tryd.func44, Tryd.ntmps44
    go_wp2
    go_ret
    exact ⟨rfl, rfl⟩
  · have HB : Hid (pre2 p.toNat q.toNat (l.drop k) = false) := Lib.hid (by rw [pre2, List.length_drop, hl, decide_eq_false (by omega), Bool.false_and])
    clear h
    have h3 : ¬ ((k : Int) + 2 ≤ len) := by omega
    rw [HB.out]
    clear HB
    go_enter Tryd.func44, Tryd.ntmps44
    go_wp2
    go_ret
    exact ⟨rfl, rfl⟩

end Go.Proofs.YtecabgmkoknbgaaDoor
