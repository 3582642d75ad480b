/- A slice of bytes turned to a string. -/
import Derived.Test.YtkpdehbffankkaaUb
import Derived.Laws.IdiomStrings
namespace Go.Proofs.Ytkpdehbffankkaa
open Go.RowKit

/-- The string of some bytes. -/
def bstr (l : List Int) : ByteArray := ⟨(l.map fun x => UInt8.ofNat x.toNat).toArray⟩

theorem u8_back {x : Int} (h : 0 ≤ x ∧ x ≤ 255) : ((UInt8.ofNat x.toNat).toNat : Int) = x := by
  rw [UInt8.toNat_ofNat']; omega

theorem Bs.str {P : Program} {w : World} {a : Option Addr} {len cap : Nat} {l : List Int} (h : Bs w a len cap l) (src dst e : TypeId)
    (hs : P.underlying src = some (.slice e)) (he : P.underlying e = some (.int .u8)) (hd : P.underlying dst = some .string) :
    (convert src dst (.slice a len cap)).run P w = .ok (.string (bstr l)) w := by
  have hl := h.hl
  by_cases h0 : 0 < len
  · obtain ⟨b, off, rfl, _, hc⟩ := h.at_ h0
    have := run_convert_bytes_back (P := P) w src dst e ⟨b, off, none⟩ cap (l.map fun x => UInt8.ofNat x.toNat) hs he hd (fun j hj => by
      have hj' : j < l.length := by simpa using hj
      rw [addr_add, hc j (by omega)]
      simp only [List.getElem_map]
      rw [u8_back (h.rng _ (List.getElem_mem hj'))]
      simp [bt, List.getD, hj'])
    rw [List.length_map, hl] at this
    exact this
  · have hlen : len = 0 := by omega
    subst hlen
    have hl0 : l = [] := List.eq_nil_of_length_eq_zero hl
    subst hl0
    rw [run_convert_bytes_string w src dst e a 0 cap hs he hd]
    cases a with
    | none => simp [Conv.bytesToString, bstr]; rfl
    | some b => simp [Conv.bytesToString, loadCells, loadCellsFrom, bstr]; rfl

theorem bstr_toList (l : List Int) : (bstr l).toList = l.map fun x => UInt8.ofNat x.toNat := by
  rw [ByteArray.toList_eq]; simp [bstr]

theorem bstr_inj {l k : List Int} (hl : ∀ x ∈ l, 0 ≤ x ∧ x ≤ 255) (hk : ∀ x ∈ k, 0 ≤ x ∧ x ≤ 255) (h : (bstr l).toList = (bstr k).toList) : l = k := by
  rw [bstr_toList, bstr_toList] at h
  have : ∀ (l k : List Int), (∀ x ∈ l, 0 ≤ x ∧ x ≤ 255) → (∀ x ∈ k, 0 ≤ x ∧ x ≤ 255) → (l.map fun x => UInt8.ofNat x.toNat) = (k.map fun x => UInt8.ofNat x.toNat) → l = k := by
    intro l
    induction l with
    | nil => intro k _ _ h; cases k with | nil => rfl | cons => simp at h
    | cons a l ih =>
      intro k h1 h2 h
      cases k with
      | nil => simp at h
      | cons b k =>
        simp only [List.map_cons, List.cons.injEq] at h
        have ea : ((UInt8.ofNat a.toNat).toNat : Int) = a := u8_back (h1 a (by simp))
        have eb : ((UInt8.ofNat b.toNat).toNat : Int) = b := u8_back (h2 b (by simp))
        rw [h.1] at ea
        rw [show a = b by omega, ih k (fun x hx => h1 x (by simp [hx])) (fun x hx => h2 x (by simp [hx])) h.2]
  exact this l k hl hk h

end Go.Proofs.Ytkpdehbffankkaa
