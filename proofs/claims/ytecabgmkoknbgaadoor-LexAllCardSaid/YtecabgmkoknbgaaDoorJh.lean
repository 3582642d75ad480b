/- Layer 7's statements' own few and short, and the document's example at their head. -/
import Derived.Test.YtecabgmkoknbgaaDoorJe
namespace Go.Proofs.YtecabgmkoknbgaaDoor
open Go.RowKit

theorem few_any (a : Option Addr) (len cap : Nat) (l : List Int) (w : World) (h : Bs w a len cap l) :
    Calls Tryd.prog 15 #[.slice a len cap] w fun e w' => e = .returned (.slice a (min len 200) cap) ∧ w = w' := by
  have hm := h.lt
  have hlc := h.lc
  have hcm := h.cm
  unfold maxLen at hm hcm
  clear h
  go_enter Tryd.func15, Tryd.ntmps15
  go_wp2
  all_goals
    go_ret
    exact ⟨ret_slice (by omega) rfl, rfl⟩

theorem few_bs {w : World} {a : Option Addr} {len cap : Nat} {l : List Int} (h : Bs w a len cap l) : Bs w a (min len 200) cap (l.take 200) := by
  have h1 := h.lc
  have h2 := h.cm
  have h3 := h.take (k := min len 200) (c' := cap) (Nat.min_le_left _ _) (by omega) h2
  rwa [show l.take (min len 200) = l.take 200 from by
    rw [← h.hl, Nat.min_comm, ← List.take_take, List.take_length]] at h3

def ex7 : List Int := [88, 61, 49, 46]
def out7 : List Int := [88, 32, 61, 32, 49, 32, 46, 10]
theorem lx_ex7 : lx ex7 0 = [(0, ⟨3, 1, [88], 0⟩), (1, ⟨2, 1, [61], 0⟩), (2, ⟨4, 1, [49], 0⟩), (3, ⟨7, 1, [46], 0⟩)] := by decide +kernel
theorem toks_ex7 : toks ex7 = [⟨3, 0, 1, bstr [88], 0⟩, ⟨2, 1, 2, bstr [61], 0⟩, ⟨4, 2, 3, bstr [49], 0⟩, ⟨7, 3, 4, bstr [46], 0⟩] := by
  unfold toks; rw [lx_ex7]; rfl
theorem jb_ex7 : jb (toks ex7) = out7 := by
  rw [toks_ex7]
  simp only [jb]
  rw [sb_bstr (l := [88]) (by decide), sb_bstr (l := [61]) (by decide), sb_bstr (l := [49]) (by decide), sb_bstr (l := [46]) (by decide)]
  decide
theorem ok_ex7 : jOk (toks ex7) = true := by
  refine jOk_good _ fun t ht => ?_
  have h := ((toks_fl (l := ex7) (by decide)).1 t ht).1
  have hk : t.k ≠ 8 ∧ t.k ≠ 2 ∨ t = ⟨2, 1, 2, bstr [61], 0⟩ := by
    rw [toks_ex7] at ht
    simp only [List.mem_cons, List.not_mem_nil, or_false] at ht
    rcases ht with rfl | rfl | rfl | rfl
    · exact Or.inl ⟨by decide, by decide⟩
    · exact Or.inr rfl
    · exact Or.inl ⟨by decide, by decide⟩
    · exact Or.inl ⟨by decide, by decide⟩
  rcases h with h | h | h
  · rcases hk with hk | rfl
    · exact absurd h hk.1
    · exact absurd h (by decide)
  · rcases hk with hk | rfl
    · exact absurd h.1 hk.2
    · have := h.2
      rw [show ((⟨2, 1, 2, bstr [61], 0⟩ : TK).s) = bstr [61] from rfl, sb_bstr (by decide)] at this
      exact absurd this (by decide)
  · exact h
theorem jnT_ex7 : jnT (toks ex7) = out7 := by unfold jnT; rw [ok_ex7, if_pos rfl, jb_ex7]
theorem jnE_ex7 : jnE (toks ex7) = 0 := by unfold jnE; rw [ok_ex7, if_pos rfl]
theorem wsz_ex7 : wsz (toks ex7) ≤ 400000 := by
  refine Nat.le_trans (toks_wsz (by decide)) (by decide)
theorem len_ex7 : (toks ex7).length = 4 := by rw [toks_ex7]; rfl

set_option maxRecDepth 20000 in
set_option maxHeartbeats 1000000 in
theorem shown_any (w : World) (ht : Tab w) :
    Calls Tryd.prog 9 #[] w fun e w' => e = .returned (.bool true) ∧ Below w.heap.size w w' := by
  have kc := Joins.run_convert_bytes_const_at (P := Tryd.prog) w 22 5 #[.int .u8 88, .int .u8 61, .int .u8 49, .int .u8 46] 4 4 w.heap.size rfl Tryd.underlying22 Tryd.underlying5
  have hb0 : Below w.heap.size w (w.alloc (.cells #[.int .u8 88, .int .u8 61, .int .u8 49, .int .u8 46] 5 (4, 5))) := (Below.refl _ _).alloc (Nat.le_refl _) _
  have HL1 : Hid (Bs (w.alloc (.cells #[.int .u8 88, .int .u8 61, .int .u8 49, .int .u8 46] 5 (4, 5))) (some ⟨w.heap.size, 0, none⟩) 4 4 ex7) := Lib.hid (Bs.lit w 5 (by simp [ex7]) (by simp [ex7]) rfl rfl (by decide))
  have HT := Lib.hid ht
  have HB0 := Lib.hid hb0
  clear ht hb0
  go_enter Tryd.func9, Tryd.ntmps9
  go_wp2_with fail
  refine (all_any _ _ _ ex7 _ HL1.out (HT.out.keep HB0.out) (by decide)).mono ?_
  rw [len_ex7]
  rintro e w1 ⟨a1, rfl, hr1, hb1⟩
  have HR1 := Lib.hid hr1.ts
  have HW1 : Hid (Below w.heap.size w w1) := Lib.hid (HB0.out.trans (hb1.mono HB0.out.size))
  clear hr1 hb1 kc
  go_wp2_with fail
  refine (join_any _ _ _ (toks ex7) _ HR1.out (HT.out.keep HW1.out) wsz_ex7).mono ?_
  rw [jnT_ex7, jnE_ex7]
  rintro e w2 ⟨a2, c2, rfl, hx2, hb2⟩
  have ks : ∀ q : World, Bs q a2 8 c2 out7 → (convert 22 9 (.slice a2 8 c2)).run Tryd.prog q = .ok (.string ⟨#[88, 32, 61, 32, 49, 32, 46, 10]⟩) q := fun q hq => hq.str 22 9 5 Tryd.underlying22 Tryd.underlying5 Tryd.underlying9
  have ks := ks w2 hx2
  have HW2 : Hid (Below w.heap.size w w2) := Lib.hid (HW1.out.trans (hb2.mono HW1.out.size))
  clear hx2 hb2
  rw [show out7.length = 8 from rfl]
  go_wp2
  go_ret
  exact ⟨rfl, HW2.out⟩

end Go.Proofs.YtecabgmkoknbgaaDoor
