/- Contract of package rope's Replace, an edit that may be. -/
import Derived.Test.YtkpdehbffankkaaNo
namespace Go.Proofs.Ytkpdehbffankkaa
open Go.RowKit

variable {w : World} {b : Nat} {t : PT} {e : Nat} {sv : Value} {dn dp : Int}

theorem concatR (a0 a1 a2 : Option Addr) (n0 n1 n2 c0 c1 c2 : Nat) (l0 l1 l2 : List Int) (w2 : World) (b0 : Bs w2 a0 n0 c0 l0) (b1 : Bs w2 a1 n1 c1 l1) (b2 : Bs w2 a2 n2 c2 l2) (hsz : n0 + n1 + n2 ≤ 20000000) :
    Calls Try.prog 23 #[.slice (some ⟨w2.heap.size, 0, none⟩) 3 3] (w2.alloc (.cells #[.slice a0 n0 c0, .slice a1 n1 c1, .slice a2 n2 c2] 22)) fun e w' => ∃ a c, e = .returned (.slice a (n0 + n1 + n2) c) ∧ OwnB w2.heap.size 5 w' a (n0 + n1 + n2) c (l0 ++ l1 ++ l2) ∧ Below w2.heap.size w2 w' := by
  refine (concat3 w2.heap.size a0 a1 a2 n0 n1 n2 c0 c1 c2 l0 l1 l2 _ (by simp) (by simp) (by simp) (b0.alloc _) (b1.alloc _) (b2.alloc _) hsz).mono ?_
  rintro e w' ⟨a, c, rfl, h1, h2⟩
  have hle : w2.heap.size ≤ (w2.alloc (.cells #[.slice a0 n0 c0, .slice a1 n1 c1, .slice a2 n2 c2] 22)).heap.size := by simp
  refine ⟨a, c, rfl, ⟨⟨h1.1.1, ?_⟩, h1.2⟩, ((Below.refl _ _).alloc (Nat.le_refl _) _).trans (h2.mono hle)⟩
  rcases h1.1.2 with h3 | ⟨g, cp, cur, h3, h4, h5⟩
  · exact .inl h3
  · exact .inr ⟨g, cp, cur, h3, Nat.le_trans hle h4, h5⟩

theorem own_take {base : Nat} {E : TypeId} {w : World} {a : Option Addr} {c k : Nat} {L : List Int} (h : OwnB base E w a (0 + (k - 0)) c ([] ++ sub L 0 k)) : OwnB base E w a k c (L.take k) := by
  simpa [sub] using h
theorem own_drop {base : Nat} {E : TypeId} {w : World} {a : Option Addr} {c q N : Nat} {L : List Int} (hN : L.length = N) (h : OwnB base E w a (0 + (N - q)) c ([] ++ sub L q N)) : OwnB base E w a (N - q) c (L.drop q) := by
  rw [← hN] at h ⊢
  simpa [sub] using h

theorem nat0 : ((0 : Nat) : Int) = 0 := rfl

set_option maxRecDepth 40000 in
set_option maxHeartbeats 1000000 in
theorem rep_new (k d : Nat) (a : Option Addr) (n c : Nat) (l : List Int) (h : RP w b t e sv dn dp) (hb : Bs w a n c l) (hkd : k + d ≤ t.l.length) (hbig : t.l.length - d + n ≤ 2048) (he : e = 9) :
    Calls Try.prog 13 #[.pointer (some ⟨b, 0, none⟩), .int .i64 k, .int .i64 d, .slice a n c] w fun r w' => ∃ g t' e', r = .returned (.tuple #[.pointer (some ⟨g, 0, none⟩), .int .i64 0]) ∧ RP w' g t' e' (.pointer none) 0 0 ∧ t'.l = t.l.take k ++ l ++ t.l.drop (k + d) ∧ w.heap.size ≤ g ∧ Below w.heap.size w w' := by
  have hlen := h.len
  have KL := Lib.hid (len_any h)
  have c0 := h.c0
  have c1 := h.c1
  have hb0 := h.lt
  have HR := Lib.hid h
  have HKD := Lib.hid hkd
  obtain ⟨N, hN⟩ : ∃ N, t.l.length = N := ⟨_, rfl⟩
  rw [hN] at KL hkd hbig hlen
  have HN := Lib.hid hN
  have hd0 : decide ((k : Int) < 0) = false := by simp
  have hd1 : decide ((d : Int) < 0) = false := by simp
  have hd2 : decide ((k : Int) > (N : Int)) = false := by simp; omega
  have w1 : IntKind.i64.wrap ((N : Int) - (k : Int)) = (N : Int) - (k : Int) := by rw [IntKind.wrap_i64]; omega
  have hd3 : decide ((d : Int) > (N : Int) - (k : Int)) = false := by simp; omega
  have w2 : IntKind.i64.wrap ((N : Int) - (d : Int)) = (N : Int) - (d : Int) := by rw [IntKind.wrap_i64]; omega
  have w3 : IntKind.i64.wrap ((N : Int) - (d : Int) + (n : Int)) = (N : Int) - (d : Int) + (n : Int) := by rw [IntKind.wrap_i64]; omega
  have hd4 : decide ((N : Int) - (d : Int) + (n : Int) > 2048) = false := by simp; omega
  have w4 : IntKind.i64.wrap ((k : Int) + (d : Int)) = (k : Int) + (d : Int) := by rw [IntKind.wrap_i64]; omega
  have hnl := hb.hl
  have HB := Lib.hid hb
  subst he
  have he9 : (((9 : Nat) : Int) == 9) = true := rfl
  have IA := Lib.hid (fun w' (hw : Below w.heap.size w w') => add_any t 0 k none 0 0 [] w.heap.size w' (PT.ok.below hw t HR.out.okt) (Nat.zero_le _) (by have := HKD.out; omega) (by rw [HN.out]; omega) hw.size OwnB.none0)
  have IB := Lib.hid (fun w' (hw : Below w.heap.size w w') => add_any t (k + d) N none 0 0 [] w'.heap.size w' (PT.ok.below hw t HR.out.okt) hkd (by rw [HN.out]; exact Nat.le_refl _) (by rw [HN.out]; omega) (Nat.le_refl _) OwnB.none0)
  have IL := Lib.hid (fun w' (hw : Below w.heap.size w w') => len_any (HR.out.below hw))
  rw [nat0] at IA
  rw [Int.natCast_add] at IB
  rw [HN.out] at IL
  clear h hN hb
  go_enter Try.func13, Try.ntmps13
  go_wp2_with (first | (go_at_call 20; refine KL.out.mono ?_; rintro r w' ⟨rfl, rfl⟩))
  go_region_held3 (fun w' => w'.cell? ⟨b, 0, none⟩ = some t.v) (first | go_keep | exact (((Below.refl _ _).drew.trans x4).cell hb0).trans c0 | exact ((((Below.refl _ _).drew.trans x4).trans (y4.mono ((Below.refl _ _).drew.trans x4).size)).cell hb0).trans c0 | exact (HZ.out.cell hb0).trans c0 | exact (HU.out.cell hb0).trans c0) (first | (go_at_call 20; (with_reducible refine (IL.out _ ?_).mono ?_); (exact (Below.refl _ _).drew.trans x4); rintro r w' ⟨rfl, rfl⟩) | (go_at_call 24; (with_reducible refine (IA.out _ ?_).mono ?_); (exact (Below.refl _ _).drew); rintro r w1 ⟨a1, c1', rfl, x1, x4, _⟩) | (go_at_call 24; (with_reducible refine (IB.out _ ?_).mono ?_); (exact (Below.refl _ _).drew.trans x4); rintro r w2 ⟨a2, c2', rfl, y1, y4, _⟩) | (go_at_call 10; (with_reducible refine (new_any _ _ _ _ _ z1.bs ?_).mono ?_); (omega); rintro r w4 ⟨g, t', rfl, u1, u2, u3, u4⟩; have HU : Hid (Below w.heap.size w w4) := Lib.hid (HZ.out.trans (u4.mono HZ.out.size))) | (go_at_call 23; (have HX : Hid (Below w.heap.size w w1) := Lib.hid ((Below.refl _ _).drew.trans x4)); (have HY : Hid (Below w.heap.size w w2) := Lib.hid (HX.out.trans (y4.mono HX.out.size))); (with_reducible refine (concatR _ _ _ _ _ _ _ _ _ (t.l.take k) l (t.l.drop (k + d)) w2 ?_ ?_ ?_ ?_).mono ?_); (exact ((own_take x1).keep y4 (Nat.le_refl _)).bs); (exact HB.out.below HY.out); (exact (own_drop HN.out y1).bs); (omega); rintro r w3 ⟨a3, c3, rfl, z1, z4⟩; have HZ : Hid (Below w.heap.size w w3) := Lib.hid (HY.out.trans (z4.mono HY.out.size))))
  have U1 := Lib.hid u1
  clear x4 y4 z4 u4 u1 x1 y1 z1
  go_wp2
  exact bodyPost_ret (v := .tuple #[.pointer (some ⟨g, 0, none⟩), .int .i64 0]) (by simp [results, Try.results13, go_sem]) rfl ⟨g, t', 0, rfl, U1.out, u2, Nat.le_trans HZ.out.size u3, HU.out⟩

end Go.Proofs.Ytkpdehbffankkaa
