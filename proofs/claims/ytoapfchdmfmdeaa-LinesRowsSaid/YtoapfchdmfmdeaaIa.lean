/- Contracts of the library at a newline: bytes.IndexByte, bytes.Index, bytes.Cut, bytes.Count, bytes.LastIndex. -/
import Derived.Test.YtoapfchdmfmdeaaIm
import Derived.Test.YtoapfchdmfmdeaaBy
import Derived.Test.YtoapfchdmfmdeaaRt
import Derived.Lib.BytesEntry
import Derived.Laws.Externs
import Derived.Lib.SmallJoins
namespace Go.Proofs.Ytoapfchdmfmdeaa
open Go.RowKit

def idxV (l : List Int) : Int := if lineL l < l.length then (lineL l : Int) else -1

theorem u8_ten {c : Int} (h : 0 ≤ c ∧ c ≤ 255) : (UInt8.ofNat c.toNat == 10) = decide (c = 10) := by
  rw [Bool.eq_iff_iff, decide_eq_true_eq, beq_iff_eq]
  constructor
  · intro he
    have := congrArg UInt8.toNat he
    rw [UInt8.toNat_ofNat'] at this
    simp at this
    omega
  · rintro rfl; rfl

theorem lineL_idx : ∀ l : List Int, (∀ x ∈ l, 0 ≤ x ∧ x ≤ 255) → Lib.indexByte (Lib.bytesOf l) 10 = idxV l
  | [], _ => rfl
  | c :: r, h => by
    have ih := lineL_idx r (fun x hx => h x (by simp [hx]))
    have hc := h c (by simp)
    have hle := lineL_le r
    rw [show Lib.bytesOf (c :: r) = UInt8.ofNat c.toNat :: Lib.bytesOf r from rfl, Lib.indexByte, ih, u8_ten hc]
    have hlen : (c :: r).length = r.length + 1 := rfl
    by_cases h10 : c = 10
    · subst h10; rfl
    · have e1 : lineL (c :: r) = 1 + lineL r := by simp [lineL, h10]
      have hv : idxV (c :: r) = if 1 + lineL r < r.length + 1 then ((1 + lineL r : Nat) : Int) else -1 := by simp only [idxV, e1, hlen]
      rw [hv, decide_eq_false h10, if_neg (by decide)]
      by_cases hl : lineL r < r.length
      · rw [show idxV r = (lineL r : Int) from if_pos hl, if_pos (show 1 + lineL r < r.length + 1 by omega), if_neg (by simp)]; omega
      · rw [show idxV r = -1 from if_neg hl, if_neg (show ¬ 1 + lineL r < r.length + 1 by omega)]; rfl

theorem ln_count : ∀ l : List Int, (∀ x ∈ l, 0 ≤ x ∧ x ≤ 255) → Lib.countByte (Lib.bytesOf l) 10 = ln l l.length
  | [], _ => rfl
  | c :: r, h => by
    have ih := ln_count r (fun x hx => h x (by simp [hx]))
    have hc := h c (by simp)
    have h1 := ln_inr [c] r r.length
    rw [show [c] ++ r = c :: r from rfl, show [c].length + r.length = (c :: r).length from by simp; omega] at h1
    rw [show Lib.bytesOf (c :: r) = UInt8.ofNat c.toNat :: Lib.bytesOf r from rfl, h1, ← ih]
    unfold Lib.countByte
    rw [List.count_cons, u8_ten hc]
    show _ = ln [c] (0 + 1) + _
    rw [ln_succ, show bt [c] 0 = c from rfl, show ln [c] 0 = 0 from rfl]
    by_cases h10 : c = 10
    · simp [h10]; omega
    · simp [h10]

/-- What the entries read off a slice that holds the bytes l. -/
theorem run_bytes {P : Program} {w : World} {a : Option Addr} {len cap : Nat} {l : List Int} (h : Bs w a len cap l) :
    (Extern.Bytes.bytesOf (.slice a len cap)).run P w = .ok ⟨(Lib.bytesOf l).toArray⟩ w := by
  have h0 : l.length = len := h.hl
  have he : ∀ x : Array UInt8, (⟨ByteArray.empty.data ++ x⟩ : ByteArray) = ⟨x⟩ := fun x => by
    apply ByteArray.ext
    show (#[] : Array UInt8) ++ x = x
    simp
  by_cases hp : 0 < len
  · obtain ⟨b, off, rfl, _, hc⟩ := h.at_ hp
    have hl := Lib.run_loadBytesX (P := P) w l ⟨b, off, none⟩ .empty (fun j x hj => by
      have hjl : j < l.length := (List.getElem?_eq_some_iff.1 hj).1
      rw [addr_add, hc j (by omega)]
      unfold bt
      rw [List.getD_eq_getElem?_getD, hj]
      rfl)
    rw [h0, he] at hl
    exact hl
  · have hz : len = 0 := by omega
    subst hz
    obtain rfl := List.eq_nil_of_length_eq_zero h0
    cases a with
    | none => rfl
    | some x => rfl

theorem run_idx {P : Program} {w : World} {a : Option Addr} {len cap : Nat} {l : List Int} (h : Bs w a len cap l) :
    (Extern.BytealgIndexByte.indexByte #[.slice a len cap, .int .u8 10]).run P w = .ok (.int .i64 (idxV l)) w := by
  have hs := Lib.run_indexByteString (P := P) ⟨(Lib.bytesOf l).toArray⟩ 10 w
  rw [show (10 : Int).toNat.toUInt8 = 10 from rfl, show (⟨(Lib.bytesOf l).toArray⟩ : ByteArray).data.toList = Lib.bytesOf l from rfl, lineL_idx l h.rng] at hs
  have hl := run_bytes (P := P) h
  change Sem.run P (do
    let b ← Extern.Bytes.bytesOf (.slice a len cap)
    let c ← Extern.Bytes.asByte (.int .u8 10)
    match (List.range b.size).find? fun i => b[i]! == c with
    | some i => pure (goInt i)
    | none => pure (goInt (-1))) w = _
  change Sem.run P (do
    let b ← Extern.Bytes.bytesOf (.string ⟨(Lib.bytesOf l).toArray⟩)
    let c ← Extern.Bytes.asByte (.int .u8 10)
    match (List.range b.size).find? fun i => b[i]! == c with
    | some i => pure (goInt i)
    | none => pure (goInt (-1))) w = _ at hs
  rw [Sem.run_bind, hl]
  exact hs

theorem run_cnt {P : Program} {w : World} {a : Option Addr} {len cap : Nat} {l : List Int} (h : Bs w a len cap l) :
    (Extern.BytealgCount.count #[.slice a len cap, .int .u8 10]).run P w = .ok (.int .i64 (ln l len)) w := by
  have hs := Lib.run_countString (P := P) ⟨(Lib.bytesOf l).toArray⟩ 10 w
  rw [show (10 : Int).toNat.toUInt8 = 10 from rfl, show (⟨(Lib.bytesOf l).toArray⟩ : ByteArray).data.toList = Lib.bytesOf l from rfl, ln_count l h.rng, h.hl] at hs
  have hl := run_bytes (P := P) h
  change Sem.run P (do
    let b ← Extern.Bytes.bytesOf (.slice a len cap)
    let c' ← Extern.Bytes.asByte (.int .u8 10)
    pure (goInt (b.foldl (fun n x => if x == c' then n + 1 else n) (0 : Nat)))) w = _
  change Sem.run P (do
    let b ← Extern.Bytes.bytesOf (.string ⟨(Lib.bytesOf l).toArray⟩)
    let c' ← Extern.Bytes.asByte (.int .u8 10)
    pure (goInt (b.foldl (fun n x => if x == c' then n + 1 else n) (0 : Nat)))) w = _ at hs
  rw [Sem.run_bind, hl]
  exact hs

set_option maxRecDepth 100000 in
theorem idx_any (a : Option Addr) (len cap : Nat) (l : List Int) (w : World) (h : Bs w a len cap l) :
    Calls Try.prog 26 #[.slice a len cap, .int .u8 10] w fun e w' => e = .returned (.int .i64 (idxV l)) ∧ w = w' := by
  have HR := Lib.hid (run_idx (P := Try.prog) h)
  clear h
  go_enter Try.func26, Try.ntmps26
  go_wp2
  rw [run_callFunc_extern Try.func31 (by kernel_rfl) (by kernel_rfl) (by kernel_rfl) (e := Extern.BytealgIndexByte.indexByte) (by kernel_rfl), HR.out]
  simp only [Result.andThen]
  rw [Oper.upon_value]
  go_wp2
  go_ret
  exact ⟨rfl, rfl⟩

set_option maxRecDepth 100000 in
/-- bytes.Index at a newline. -/
theorem bidx_any (a : Option Addr) (len cap : Nat) (l : List Int) (sa : Option Addr) (sc : Nat) (w : World) (h : Bs w a len cap l) (hs : Bs w sa 1 sc [10]) :
    Calls Try.prog 22 #[.slice a len cap, .slice sa 1 sc] w fun e w' => e = .returned (.int .i64 (idxV l)) ∧ w = w' := by
  have H := Lib.hid h
  obtain ⟨b, off, rfl, _, hc⟩ := hs.at_ (by omega)
  have h0 := hc 0 (by omega)
  rw [show bt [10] 0 = 10 from rfl, Nat.add_zero] at h0
  obtain ⟨v, hv⟩ : ∃ v, v = idxV l := ⟨_, rfl⟩
  have HI := Lib.hid (idx_any _ _ _ _ _ h)
  rw [← hv] at HI ⊢
  clear h hs hc hv
  go_enter Try.func22, Try.ntmps22
  go_wp2_with (first | (go_at_call 26; refine HI.out.mono ?_; rintro e w' ⟨rfl, rfl⟩))
  go_ret
  exact ⟨rfl, rfl⟩

set_option maxRecDepth 100000 in
/-- bytes.Count of newlines. -/
theorem bcnt_any (a : Option Addr) (len cap : Nat) (l : List Int) (sa : Option Addr) (sc : Nat) (w : World) (h : Bs w a len cap l) (hs : Bs w sa 1 sc [10]) :
    Calls Try.prog 18 #[.slice a len cap, .slice sa 1 sc] w fun e w' => e = .returned (.int .i64 (ln l len)) ∧ w = w' := by
  obtain ⟨b, off, rfl, _, hc⟩ := hs.at_ (by omega)
  have h0 := hc 0 (by omega)
  rw [show bt [10] 0 = 10 from rfl, Nat.add_zero] at h0
  have HR := Lib.hid (run_cnt (P := Try.prog) h)
  obtain ⟨v, hv⟩ : ∃ v, v = ln l len := ⟨_, rfl⟩
  rw [← hv] at HR ⊢
  clear h hs hc hv
  go_enter Try.func18, Try.ntmps18
  go_wp2
  rw [run_callFunc_extern Try.func24 (by kernel_rfl) (by kernel_rfl) (by kernel_rfl) (e := Extern.BytealgCount.count) (by kernel_rfl), HR.out]
  simp only [Result.andThen]
  rw [Oper.upon_value]
  go_wp2
  go_ret
  exact ⟨rfl, rfl⟩

end Go.Proofs.Ytoapfchdmfmdeaa
