/- The texts of DeclWords, token by token. No walk here. -/
import Derived.Test.YtjkjbgekpkhpfaaDoorCh
namespace Go.Proofs.YtjkjbgekpkhpfaaDoor
open Go.RowKit

/-- A word that begins with two of z. -/
def ZZ (N : Nm) : Prop := lowN N ∧ ∃ r, N = 122 :: 122 :: r
theorem low_snocC {N : Nm} (h : lowN N) {u : Nat} (hu : u ≤ 25) : lowN (N ++ [UInt8.ofNat (97 + u)]) := by
  refine ⟨by simp, fun c hc => ?_⟩
  rcases List.mem_append.1 hc with h1 | h1
  · exact h.2 c h1
  · rw [List.mem_singleton.1 h1, UInt8.toNat_ofNat']
    omega
theorem zz_0 : ZZ [122, 122] := ⟨⟨by simp, by decide⟩, [], rfl⟩
theorem zz_snoc {N : Nm} (h : ZZ N) {u : Nat} (hu : u ≤ 25) : ZZ (N ++ [UInt8.ofNat (97 + u)]) := by
  obtain ⟨r, hr⟩ := h.2
  exact ⟨low_snocC h.1 hu, r ++ [UInt8.ofNat (97 + u)], by rw [hr]; rfl⟩
theorem bstr_oneC (u : Nat) : bstr [97 + (u : Int)] = mk [UInt8.ofNat (97 + u)] := by
  unfold bstr
  rw [List.map_singleton, show (97 + (u : Int)).toNat = 97 + u from by omega]
  rfl
theorem mk_bstr (N : Nm) : mk N = bstr (nb N) := toList_inj (by rw [mk_toList, bstr_nb])

def pT : Nm := [95, 43, 95]
theorem pT_ok : okT (nb pT) ∧ Rg (nb pT) := okT_plain (by decide +kernel)
def tW0 (N : Nm) : List Int := 58 :: 45 :: 32 :: (nb N ++ [46])
def tW1 (N : Nm) : List Int := 58 :: 45 :: 32 :: (nb N ++ 40 :: (digL 3 ++ 44 :: 32 :: (digL 4 ++ [41, 46])))
def tW2 (N : Nm) : List Int := 58 :: 45 :: 32 :: (nb [111, 112] ++ 40 :: (nb N ++ 44 :: 32 :: (nb [108, 101, 102, 116] ++ 44 :: 32 :: (putL (nb pT) ++ [41, 46]))))
def tW4 (N : Nm) : List Int := 58 :: 45 :: 32 :: (nb [111, 112] ++ 40 :: (digL 3 ++ 44 :: 32 :: (nb [108, 101, 102, 116] ++ 44 :: 32 :: (putL (nb pT) ++ 44 :: 32 :: (nb N ++ [41, 46])))))
def tW5 (N : Nm) : List Int := 58 :: 45 :: 32 :: (nb [111, 112] ++ 40 :: (digL 3 ++ 44 :: 32 :: (nb N ++ 44 :: 32 :: 43 :: [41, 46])))
def tW3 : Nm := [58, 45, 32, 101, 100, 103, 101, 32, 51, 44, 32, 52, 46]
theorem rg1 : Rg [46] := by decide
theorem s43 : (bstr [43]).toList = [43] := by rw [bstr_toList]; rfl

theorem kl_w0 {N : Nm} (h : lowN N) : kl (tW0 N) = [(2, [58, 45]), (1, N), (7, [46])] ∧ Rg (tW0 N) := by
  have r0 := rga (nb_rng' N) rg1
  refine ⟨?_, rgc (by decide) (rgc (by decide) (rgc (by decide) r0))⟩
  unfold tW0
  rw [kl_mark (by decide) (rgc (by decide) r0), kl_lay (by decide) (by decide) r0, kl_word h (by decide) (by decide) rg1, kl_end]
theorem kl_w1 {N : Nm} (h : lowN N) : kl (tW1 N) = [(2, [58, 45]), (1, N), (6, [40]), (4, dgN 3), (6, [44]), (4, dgN 4), (6, [41]), (7, [46])] ∧ Rg (tW1 N) := by
  have r4 := rga (digL_rng 4) rg2
  have r3 : Rg (44 :: 32 :: (digL 4 ++ [41, 46])) := rgc (by decide) (rgc (by decide) r4)
  have r1 : Rg (40 :: (digL 3 ++ 44 :: 32 :: (digL 4 ++ [41, 46]))) := rgc (by decide) (rga (digL_rng 3) r3)
  have r0 := rga (nb_rng' N) r1
  refine ⟨?_, rgc (by decide) (rgc (by decide) (rgc (by decide) r0))⟩
  unfold tW1
  rw [kl_mark (by decide) (rgc (by decide) r0), kl_lay (by decide) (by decide) r0, kl_word h (by decide) (by decide) r1, kl_solo (by decide) (by decide) r1, kl_num 3 (by decide) (by decide) r3, kl_solo (by decide) (by decide) r3,
    kl_lay (by decide) (by decide) r4, kl_num 4 (by decide) (by decide) rg2, kl_close, s40, s44]
  rfl
theorem kl_w2 {N : Nm} (h : lowN N) : kl (tW2 N) = [(2, [58, 45]), (1, [111, 112]), (6, [40]), (1, N), (6, [44]), (1, [108, 101, 102, 116]), (6, [44]), (5, pT), (6, [41]), (7, [46])] ∧ Rg (tW2 N) := by
  have r6 := rga (putL_rng pT_ok.1 pT_ok.2) rg2
  have r5 : Rg (44 :: 32 :: (putL (nb pT) ++ [41, 46])) := rgc (by decide) (rgc (by decide) r6)
  have r4 := rga (nb_rng' [108, 101, 102, 116]) r5
  have r3 : Rg (44 :: 32 :: (nb [108, 101, 102, 116] ++ 44 :: 32 :: (putL (nb pT) ++ [41, 46]))) := rgc (by decide) (rgc (by decide) r4)
  have r2 := rga (nb_rng' N) r3
  have r1 : Rg (40 :: (nb N ++ 44 :: 32 :: (nb [108, 101, 102, 116] ++ 44 :: 32 :: (putL (nb pT) ++ [41, 46])))) := rgc (by decide) r2
  have r0 := rga (nb_rng' [111, 112]) r1
  refine ⟨?_, rgc (by decide) (rgc (by decide) (rgc (by decide) r0))⟩
  unfold tW2
  rw [kl_mark (by decide) (rgc (by decide) r0), kl_lay (by decide) (by decide) r0, kl_word low_op (by decide) (by decide) r1, kl_solo (by decide) (by decide) r1, kl_word h (by decide) (by decide) r3, kl_solo (by decide) (by decide) r3,
    kl_lay (by decide) (by decide) r4, kl_word low_left (by decide) (by decide) r5, kl_solo (by decide) (by decide) r5, kl_lay (by decide) (by decide) r6, kl_quo pT_ok.1 pT_ok.2 (by decide) rg2, kl_close, s40, s44, bstr_nb]
theorem kl_w4 {N : Nm} (h : lowN N) : kl (tW4 N) = [(2, [58, 45]), (1, [111, 112]), (6, [40]), (4, dgN 3), (6, [44]), (1, [108, 101, 102, 116]), (6, [44]), (5, pT), (6, [44]), (1, N), (6, [41]), (7, [46])] ∧ Rg (tW4 N) := by
  have r8 := rga (nb_rng' N) rg2
  have r7 : Rg (44 :: 32 :: (nb N ++ [41, 46])) := rgc (by decide) (rgc (by decide) r8)
  have r6 := rga (putL_rng pT_ok.1 pT_ok.2) r7
  have r5 : Rg (44 :: 32 :: (putL (nb pT) ++ 44 :: 32 :: (nb N ++ [41, 46]))) := rgc (by decide) (rgc (by decide) r6)
  have r4 := rga (nb_rng' [108, 101, 102, 116]) r5
  have r3 : Rg (44 :: 32 :: (nb [108, 101, 102, 116] ++ 44 :: 32 :: (putL (nb pT) ++ 44 :: 32 :: (nb N ++ [41, 46])))) := rgc (by decide) (rgc (by decide) r4)
  have r1 : Rg (40 :: (digL 3 ++ 44 :: 32 :: (nb [108, 101, 102, 116] ++ 44 :: 32 :: (putL (nb pT) ++ 44 :: 32 :: (nb N ++ [41, 46]))))) := rgc (by decide) (rga (digL_rng 3) r3)
  have r0 := rga (nb_rng' [111, 112]) r1
  refine ⟨?_, rgc (by decide) (rgc (by decide) (rgc (by decide) r0))⟩
  unfold tW4
  rw [kl_mark (by decide) (rgc (by decide) r0), kl_lay (by decide) (by decide) r0, kl_word low_op (by decide) (by decide) r1, kl_solo (by decide) (by decide) r1, kl_num 3 (by decide) (by decide) r3, kl_solo (by decide) (by decide) r3,
    kl_lay (by decide) (by decide) r4, kl_word low_left (by decide) (by decide) r5, kl_solo (by decide) (by decide) r5, kl_lay (by decide) (by decide) r6, kl_quo pT_ok.1 pT_ok.2 (by show (44 : Int) ≠ 39; decide) r7, kl_solo (by decide) (by decide) r7,
    kl_lay (by decide) (by decide) r8, kl_word h (by decide) (by decide) rg2, kl_close, s40, s44, bstr_nb]
  rfl
theorem kl_w5 {N : Nm} (h : lowN N) : kl (tW5 N) = [(2, [58, 45]), (1, [111, 112]), (6, [40]), (4, dgN 3), (6, [44]), (1, N), (6, [44]), (2, [43]), (6, [41]), (7, [46])] ∧ Rg (tW5 N) := by
  have r6 : Rg (43 :: [41, 46]) := by decide
  have r5 : Rg (44 :: 32 :: 43 :: [41, 46]) := by decide
  have r4 := rga (nb_rng' N) r5
  have r3 : Rg (44 :: 32 :: (nb N ++ 44 :: 32 :: 43 :: [41, 46])) := rgc (by decide) (rgc (by decide) r4)
  have r1 : Rg (40 :: (digL 3 ++ 44 :: 32 :: (nb N ++ 44 :: 32 :: 43 :: [41, 46]))) := rgc (by decide) (rga (digL_rng 3) r3)
  have r0 := rga (nb_rng' [111, 112]) r1
  refine ⟨?_, rgc (by decide) (rgc (by decide) (rgc (by decide) r0))⟩
  unfold tW5
  rw [kl_mark (by decide) (rgc (by decide) r0), kl_lay (by decide) (by decide) r0, kl_word low_op (by decide) (by decide) r1, kl_solo (by decide) (by decide) r1, kl_num 3 (by decide) (by decide) r3, kl_solo (by decide) (by decide) r3,
    kl_lay (by decide) (by decide) r4, kl_word h (by decide) (by decide) r5, kl_solo (by decide) (by decide) r5, kl_lay (by decide) (by decide) r6, kl_sym (by decide) (by decide) (by decide) r6, kl_close, s40, s44, s43]
  rfl
theorem kl_w3 : kl (nb tW3) = [(2, [58, 45]), (1, [101, 100, 103, 101]), (4, [51]), (6, [44]), (4, [52]), (7, [46])] := by decide +kernel

/-- What is none of the four. -/
theorem dec_w {N : Nm} (h : ZZ N) : decV (kl (tW0 N)) = (d0, 20) ∧ decV (kl (tW1 N)) = (d0, 20) ∧ decV (kl (tW2 N)) = (d0, 20) ∧ decV (kl (nb tW3)) = (d0, 20) ∧ decV (kl (tW4 N)) = (d0, 20) := by
  obtain ⟨hl, r, hr⟩ := h
  rw [(kl_w0 hl).1, (kl_w1 hl).1, (kl_w2 hl).1, kl_w3, (kl_w4 hl).1]
  subst hr
  exact ⟨rfl, rfl, rfl, rfl, rfl⟩
/-- A word that is no kind. -/
theorem dec_w5 {N : Nm} (h : ZZ N) : decV (kl (tW5 N)) = (d0, 22) := by
  obtain ⟨hl, r, hr⟩ := h
  rw [(kl_w5 hl).1]
  have h1 : rowB [(2, [58, 45]), (1, [111, 112]), (6, [40]), (4, dgN 3), (6, [44]), (1, N), (6, [44]), (2, [43]), (6, [41]), (7, [46])] opR = true := rfl
  unfold decV
  rw [h1, if_pos rfl]
  show oprV (valV (dgN 3)) N [43] = _
  have hf : frmV N [43] = ([], 0, 22) := by
    subst hr
    have : frmV (122 :: 122 :: r) [43] = simV (122 :: 122 :: r) [43] := rfl
    rw [this]
    refine simV_type (fun i hi => ?_) _
    obtain rfl | rfl | rfl | rfl | rfl | rfl | rfl : i = 0 ∨ i = 1 ∨ i = 2 ∨ i = 3 ∨ i = 4 ∨ i = 5 ∨ i = 6 := by omega
    all_goals rfl
  unfold oprV
  rw [hf]
  rfl

/-! ### As the law puts them together -/

theorem nb_app (p q : Nm) : nb (p ++ q) = nb p ++ nb q := List.map_append
theorem lit3 (p q N : Nm) : (ByteArray.mk p.toArray ++ mk N ++ ByteArray.mk q.toArray) = bstr (nb p ++ (nb N ++ nb q)) := by
  rw [show ByteArray.mk p.toArray = mk p from rfl, show ByteArray.mk q.toArray = mk q from rfl, mk_bstr, mk_bstr, mk_bstr, bstr_append, bstr_append, List.append_assoc]
theorem cw0 (N : Nm) : ({ data := #[58, 45, 32] } : ByteArray) ++ mk N ++ { data := #[46] } = bstr (tW0 N) := lit3 [58, 45, 32] [46] N
theorem cw1 (N : Nm) : ({ data := #[58, 45, 32] } : ByteArray) ++ mk N ++ { data := #[40, 51, 44, 32, 52, 41, 46] } = bstr (tW1 N) := by
  refine (lit3 [58, 45, 32] [40, 51, 44, 32, 52, 41, 46] N).trans ?_
  unfold tW1
  rw [digL_small (by decide), digL_small (by decide)]
  rfl
theorem cw2 (N : Nm) : ({ data := #[58, 45, 32, 111, 112, 40] } : ByteArray) ++ mk N ++ { data := #[44, 32, 108, 101, 102, 116, 44, 32, 39, 95, 43, 95, 39, 41, 46] } = bstr (tW2 N) := by
  refine (lit3 [58, 45, 32, 111, 112, 40] [44, 32, 108, 101, 102, 116, 44, 32, 39, 95, 43, 95, 39, 41, 46] N).trans ?_
  have : nb [44, 32, 108, 101, 102, 116, 44, 32, 39, 95, 43, 95, 39, 41, 46] = 44 :: 32 :: (nb [108, 101, 102, 116] ++ 44 :: 32 :: (putL (nb pT) ++ [41, 46])) := by decide +kernel
  rw [this]
  rfl
theorem cw4 (N : Nm) : ({ data := #[58, 45, 32, 111, 112, 40, 51, 44, 32, 108, 101, 102, 116, 44, 32, 39, 95, 43, 95, 39, 44, 32] } : ByteArray) ++ mk N ++ { data := #[41, 46] } = bstr (tW4 N) := by
  refine (lit3 [58, 45, 32, 111, 112, 40, 51, 44, 32, 108, 101, 102, 116, 44, 32, 39, 95, 43, 95, 39, 44, 32] [41, 46] N).trans ?_
  have : nb [58, 45, 32, 111, 112, 40, 51, 44, 32, 108, 101, 102, 116, 44, 32, 39, 95, 43, 95, 39, 44, 32] = 58 :: 45 :: 32 :: (nb [111, 112] ++ 40 :: ([51] ++ 44 :: 32 :: (nb [108, 101, 102, 116] ++ 44 :: 32 :: (putL (nb pT) ++ [44, 32])))) := by decide +kernel
  rw [this]
  unfold tW4
  rw [digL_small (by decide)]
  simp [nb]
theorem cw5 (N : Nm) : ({ data := #[58, 45, 32, 111, 112, 40, 51, 44, 32] } : ByteArray) ++ mk N ++ { data := #[44, 32, 43, 41, 46] } = bstr (tW5 N) := by
  refine (lit3 [58, 45, 32, 111, 112, 40, 51, 44, 32] [44, 32, 43, 41, 46] N).trans ?_
  unfold tW5
  rw [digL_small (by decide)]
  rfl
theorem cw3 : ({ data := #[58, 45, 32, 101, 100, 103, 101, 32, 51, 44, 32, 52, 46] } : ByteArray) = bstr (nb tW3) := mk_bstr tW3

end Go.Proofs.YtjkjbgekpkhpfaaDoor
