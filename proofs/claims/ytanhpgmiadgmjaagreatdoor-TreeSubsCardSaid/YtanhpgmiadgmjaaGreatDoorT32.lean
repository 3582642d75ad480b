import Derived.Test.YtanhpgmiadgmjaaGreatDoorT28
namespace Go.Proofs.YtanhpgmiadgmjaaGreatDoor
open Go.RowKit
theorem end_neg {T : List ND} {i : Int} (h : i < 0) : endV T i = -1 := if_pos h
theorem end_nat (T : List ND) (k : Nat) : endV T k = match skp (T.drop k) 1 with | some n => (k : Int) + n | none => -1 := by
 unfold endV
 rw [if_neg (by omega), Int.toNat_natCast]
 rfl
def dueV (T : List ND) (k d : Nat) : Int := match skp (T.drop k) d with | some n => (k : Int) + n | none => -1
theorem due_zero (T : List ND) (k : Nat) : dueV T k 0 = k := by unfold dueV; rw [skp_zero]; simp
theorem due_past {T : List ND} {k d : Nat} (hk : T.length ≤ k) (hd : 0 < d) : dueV T k d = -1 := by
 obtain ⟨d', rfl⟩ : ∃ d', d = d' + 1 := ⟨d - 1, by omega⟩
 unfold dueV
 rw [List.drop_eq_nil_of_le hk, skp_nil]
theorem due_many {T : List ND} {k d : Nat} (hk : k < T.length) (hd : 0 < d) (h : (T.length : Int) - k - 1 < (nA T k).c) : dueV T k d = -1 := by
 obtain ⟨d', rfl⟩ : ∃ d', d = d' + 1 := ⟨d - 1, by omega⟩
 unfold dueV
 rw [nA_drop hk, skp_cons]
 cases hs : skp (T.drop (k + 1)) ((nA T k).c.toNat + d') with
 | none => rfl
 | some m =>
  have h1 := skp_ge _ _ _ hs
  have h2 := skp_le _ _ _ hs
  rw [List.length_drop] at h2
  omega
theorem due_next {T : List ND} {k d : Nat} (hk : k < T.length) (hd : 0 < d) : dueV T k d = dueV T (k + 1) ((nA T k).c.toNat + (d - 1)) := by
 obtain ⟨d', rfl⟩ : ∃ d', d = d' + 1 := ⟨d - 1, by omega⟩
 unfold dueV
 rw [nA_drop hk, skp_cons, Nat.add_sub_cancel]
 cases skp (T.drop (k + 1)) ((nA T k).c.toNat + d') with
 | none => rfl
 | some m => show (k : Int) + ((m + 1 : Nat) : Int) = ((k + 1 : Nat) : Int) + m; omega
set_option maxRecDepth 20000 in
set_option maxHeartbeats 4000000 in
theorem tend_any (a : Option Addr) (n c : Nat) (T : List ND) (i : Int) (w : World) (h : NdS w a n c T) (hn : n ≤ 1000000) (hi : -9223372036854775808 ≤ i ∧ i ≤ 9223372036854775807) :
  Calls Tryz.prog 20 #[.slice a n c, .int .i64 i] w fun e w' => e = .returned (.int .i64 (endV T i)) ∧ w = w' := by
 have HL := hid (NdS.len h)
 have H := hid h
 clear h
 go_enter Tryz.func20, Tryz.ntmps20
 by_cases h0 : i < 0
 ·go_wp2
  go_ret
  exact ⟨by rw [end_neg h0]; rfl, rfl⟩
 ·obtain ⟨q, rfl⟩ : ∃ q : Nat, i = q := ⟨i.toNat, by omega⟩
  have HV : Hid (endV T q = dueV T q 1) := hid (end_nat T q)
  obtain ⟨V, hV⟩ : ∃ V, V = endV T q := ⟨_, rfl⟩
  rw [← hV] at HV ⊢
  clear hV h0
  go_wp2
  go_loopw [1, 5] (fun u v wr => ∃ k d : Nat, u = .int .i64 k ∧ v = .int .i64 d ∧ (k ≤ n ∨ d = 1) ∧ d ≤ 1000000 * k + 1 ∧ Hid (V = dueV T k d) ∧ wr = w) (fun u _ _ => n + 1 - (intOf u).toNat)
  case atStart => exact ⟨q, 1, rfl, rfl, .inr rfl, by omega, HV, rfl⟩
  case round =>
   obtain ⟨k, d, rfl, rfl, hk, hd, HV', rfl⟩ := hrel
   by_cases hd0 : 0 < d
   ·have hdI : (0 : Int) < (d : Int) := by omega
    by_cases hlt : k < n
    ·have hkI : (k : Int) < (n : Int) := by omega
     obtain ⟨b, o, rfl, _, hc⟩ := H.out.at_ (by omega)
     clear hc
     have c4 := (NdS.at5 H.out hlt).2.2.2.2
     obtain ⟨x, hx⟩ : ∃ x, x = (nA T k).c := ⟨_, rfl⟩
     have HX := hid hx
     rw [← hx] at c4
     clear hx
     by_cases hbig : (n : Int) - k - 1 < x
     ·go_wp2
      go_ret
      exact ⟨by rw [HV'.out, due_many (by rw [HL.out]; exact hlt) hd0 (by rw [HL.out, ← HX.out]; exact hbig)]; rfl, rfl⟩
     ·obtain ⟨m, hm⟩ : ∃ m : Nat, m = x.toNat := ⟨_, rfl⟩
      have hmx : max x 0 = (m : Int) := by omega
      have hmn : m ≤ n := by omega
      have HV2 : Hid (V = dueV T (k + 1) (m + (d - 1))) := hid (by rw [HV'.out, due_next (by rw [HL.out]; exact hlt) hd0, hm, HX.out])
      clear hm
      go_wp2
      go_roundw
      case rel => exact ⟨k + 1, m + (d - 1), by go_num, by go_num, .inl (by omega), by omega, HV2, trivial⟩
      case measure => simp [intOf]; omega
    ·go_wp2
     go_ret
     exact ⟨by rw [HV'.out, due_past (by rw [HL.out]; omega) hd0]; rfl, rfl⟩
   ·obtain rfl : d = 0 := by omega
    go_wp2
    go_ret
    exact ⟨by rw [HV'.out, due_zero]; rfl, rfl⟩
theorem pl_snoc : ∀ (k : Nat) (l : List ND) (p q : Nat), skp l k = some p → plN (k + 1) l q = plN k l q ++ [((q + p : Nat) : Int)]
 | 0, l, p, q, h => by
  rw [skp_zero] at h
  cases h
  show (q : Int) :: (match skp l 1 with | some n => plN 0 (l.drop n) (q + n) | none => []) = [((q + 0 : Nat) : Int)]
  cases skp l 1 <;> rfl
 | k + 1, l, p, q, h => by
  obtain ⟨n1, n2, h1, h2, rfl⟩ := skp_one h
  rw [pl_succ h1, pl_succ h1, pl_snoc k _ _ _ h2, List.cons_append, Nat.add_assoc]
theorem end_node {T : List ND} {i : Nat} (hi : i < T.length) : endV T i = match skp (T.drop (i + 1)) (nA T i).c.toNat with | some p => ((i + 1 + p : Nat) : Int) | none => -1 := by
 rw [end_nat, nA_drop hi, show 1 = 0 + 1 from rfl, skp_cons, Nat.add_zero]
 cases skp (T.drop (i + 1)) (nA T i).c.toNat with
 | none => rfl
 | some p => show (i : Int) + ((p + 1 : Nat) : Int) = ((i + 1 + p : Nat) : Int); omega
theorem end_past {T : List ND} {i : Nat} (hi : T.length ≤ i) : endV T i = -1 := by
 rw [end_nat, List.drop_eq_nil_of_le hi]; rfl
theorem skp_next {l : List ND} {k m p P : Nat} (h : skp l m = some P) (hk : k < m) (hp : skp l k = some p) : ∃ q, skp (l.drop p) 1 = some q ∧ skp l (k + 1) = some (p + q) := by
 obtain ⟨r, rfl⟩ : ∃ r, m = k + 1 + r := ⟨m - (k + 1), by omega⟩
 rw [skp_add] at h
 cases h1 : skp l (k + 1) with
 | none => rw [h1] at h; cases h
 | some P1 =>
  rw [skp_add, hp] at h1
  obtain ⟨q, hq, e⟩ := Option.map_eq_some_iff.1 h1
  exact ⟨q, hq, by rw [← e]⟩
theorem int_info : (Tryz.prog.info? 3).map (fun i => (i.zero, i.size, i.bytes)) = some (some (.int .i64 0), 1, 8) := by kernel_rfl
def iV (K : List Int) : List Value := K.map (Value.int .i64)
theorem kid_neg {T : List ND} {i : Int} (h : endV T i < 0) : kidV T i = [] := if_pos h
theorem kid_pos {T : List ND} {i : Nat} (h : ¬ endV T i < 0) : kidV T i = plN (nA T i).c.toNat (T.drop (i + 1)) (i + 1) := by
 unfold kidV
 rw [if_neg h, Int.toNat_natCast]
theorem kid_skp {T : List ND} {i : Nat} (h : ¬ endV T i < 0) : i < T.length ∧ ∃ P, skp (T.drop (i + 1)) (nA T i).c.toNat = some P ∧ i + 1 + P ≤ T.length := by
 have hi : i < T.length := by
  by_cases hi : i < T.length
  ·exact hi
  ·rw [end_past (by omega)] at h; exact absurd (by decide) h
 rw [end_node hi] at h
 cases hs : skp (T.drop (i + 1)) (nA T i).c.toNat with
 | none => rw [hs] at h; exact absurd (show (-1 : Int) < 0 by decide) h
 | some P =>
  have := skp_le _ _ _ hs
  rw [List.length_drop] at this
  exact ⟨hi, P, rfl, by omega⟩
set_option maxRecDepth 20000 in
set_option maxHeartbeats 4000000 in
theorem tkids_any (a : Option Addr) (n c : Nat) (T : List ND) (i : Int) (w : World) (h : NdS w a n c T) (hn : n ≤ 1000000) (hi : -9223372036854775808 ≤ i ∧ i ≤ 9223372036854775807) :
  Calls Tryz.prog 37 #[.slice a n c, .int .i64 i] w fun e w' => ∃ a' c', e = .returned (.slice a' (kidV T i).length c') ∧ Vs 1 w' a' (kidV T i).length c' (iV (kidV T i)) ∧ Below w.heap.size w w' := by
 have HL := hid (NdS.len h)
 have H := hid h
 have HE : Hid (∀ (j : Int) (w' : World), Below w.heap.size w w' → -9223372036854775808 ≤ j ∧ j ≤ 9223372036854775807 → Calls Tryz.prog 20 #[.slice a n c, .int .i64 j] w' fun e w'' => e = .returned (.int .i64 (endV T j)) ∧ w' = w'') := hid fun j w' hb hj => tend_any a n c T j w' (h.below hb) hn hj
 clear h
 obtain ⟨V, hV⟩ : ∃ V, V = endV T i := ⟨_, rfl⟩
 have HV := hid hV
 have HE0 : Hid (Calls Tryz.prog 20 #[.slice a n c, .int .i64 i] w fun e w'' => e = .returned (.int .i64 V) ∧ w = w'') := hid (by rw [hV]; exact HE.out i w (Below.refl _ _) hi)
 clear hV
 go_enter Tryz.func37, Tryz.ntmps37
 go_wp2_with fail
 refine HE0.out.mono ?_
 rintro e w1 ⟨rfl, rfl⟩
 by_cases hneg : V < 0
 ·go_wp2
  go_ret
  have hk : kidV T i = [] := kid_neg (by rw [← HV.out]; exact hneg)
  rw [hk]
  exact ⟨none, 0, rfl, Vs.nil _ _ _ _ (Nat.zero_le _), Below.refl _ _⟩
 ·have hi0 : 0 ≤ i := by
   by_cases hi : 0 ≤ i
   ·exact hi
   ·rw [HV.out, end_neg (by omega)] at hneg; exact absurd (by decide) hneg
  obtain ⟨q, rfl⟩ : ∃ q : Nat, i = q := ⟨i.toNat, by omega⟩
  have hE : ¬ endV T q < 0 := by rw [← HV.out]; exact hneg
  obtain ⟨hqT, P, hP, hPl⟩ := kid_skp hE
  have hqn : q < n := by rw [← HL.out]; exact hqT
  have hPn : q + 1 + P ≤ n := by rw [← HL.out]; exact hPl
  have hge := skp_ge _ _ _ hP
  have HK : Hid (kidV T q = plN (nA T q).c.toNat (T.drop (q + 1)) (q + 1) ∧ (kidV T q).length = (nA T q).c.toNat) := hid ⟨kid_pos hE, by rw [kid_pos hE, pl_len _ _ _ _ hP]⟩
  obtain ⟨m, hm⟩ : ∃ m, m = (nA T q).c.toNat := ⟨_, rfl⟩
  rw [← hm] at hP HK hge
  have HP := hid hP
  obtain ⟨x, hx⟩ : ∃ x, x = (nA T q).c := ⟨_, rfl⟩
  have hmx : ∀ k : Nat, ((k : Int) < x ↔ k < m) := fun k => by rw [hm, ← hx]; omega
  have HX := hid hx
  have HMX := hid hmx
  clear hm hx hP hPl hqT hE hmx hi0 HV HE0
  obtain ⟨W, hW⟩ : ∃ W, W = w := ⟨_, rfl⟩
  have HW := hid hW
  clear hW
  go_wp2
  go_loopw [5, 6] (fun u v wr => ∃ (k p : Nat) (a' : Option Addr) (c' : Nat), u = .slice a' k c' ∧ v = .int .i64 ((q + 1 + p : Nat) : Int) ∧ k ≤ m ∧ Hid (skp (T.drop (q + 1)) k = some p) ∧ Hid (OwnV w.heap.size 3 1 wr a' k c' (iV (plN k (T.drop (q + 1)) (q + 1)))) ∧ Hid (Below w.heap.size w wr)) (fun u _ _ => m - (match u with | .slice _ k _ => k | _ => 0))
  case atStart => exact ⟨0, 0, none, 0, rfl, by go_num, by omega, hid (skp_zero _), hid OwnV.none0, hid (Below.refl _ _)⟩
  case round =>
   obtain ⟨k, p, a', c', rfl, rfl, hk, HS, HO, HB⟩ := hrel
   have hb := H.out.below HB.out
   obtain ⟨b, o, rfl, _, hc⟩ := hb.at_ (by omega)
   clear hc
   have c4 := (NdS.at5 hb hqn).2.2.2.2
   rw [← HX.out] at c4
   clear hb
   by_cases hlt : k < m
   ·have hxk := (HMX.out k).2 hlt
    obtain ⟨r, hr1, hr2⟩ := skp_next HP.out hlt HS.out
    have hpr : q + 1 + p + r ≤ n := by
     have := skp_le _ _ _ hr2
     rw [List.length_drop, HL.out] at this
     omega
    have HR2 := hid hr2
    have HEV : Hid (endV T ((q + 1 + p : Nat) : Int) = ((q + 1 + (p + r) : Nat) : Int)) := hid (by
     rw [end_nat, ← List.drop_drop, hr1]
     show ((q + 1 + p : Nat) : Int) + (r : Int) = _
     omega)
    have HSN : Hid (iV (plN (k + 1) (T.drop (q + 1)) (q + 1)) = iV (plN k (T.drop (q + 1)) (q + 1)) ++ [.int .i64 ((q + 1 + p : Nat) : Int)]) := hid (by rw [pl_snoc _ _ _ _ HS.out]; simp [iV])
    clear hr1 hr2
    have hkb : k + 1 ≤ 1000000 := by omega
    obtain ⟨pp, hpp⟩ : ∃ pp : Nat, pp = q + 1 + p := ⟨_, rfl⟩
    have HPP := hid hpp
    have hppn : pp ≤ 1000000 := by omega
    rw [← hpp] at HSN HEV ⊢
    clear hpp
    go_wp2_with (at_builtin; refine wpList_appv rfl (.tmp 24) (.tmp 26) 71 rfl 3 w.heap.size 1 8 _ Tryz.underlying71 int_info rfl (by omega) _ _ _ (iV (plN k (T.drop (q + 1)) (q + 1))) rfl (HO.out.alloc _) _ _ _ [.int .i64 (pp : Int)] rfl (Vs.lit (k := 1) (xs := [.int .i64 (pp : Int)]) _ _ rfl rfl rfl) (by simp; rfl) (by unfold maxLen; omega) (by omega) (by have := HB.out.size; simp; omega) ?_; intro a5 c5 w5 hO5 hG5 hb5 _; have HO5 := hid hO5; have HB5 : Hid (Below w.heap.size w w5) := hid ((HB.out.alloc HB.out.size _).trans hb5); clear hO5 hG5 hb5)
    refine (HE.out _ w5 HB5.out (by omega)).mono ?_
    rintro e w6 ⟨rfl, rfl⟩
    rw [HEV.out]
    clear HEV
    go_wp2
    go_roundw
    case rel => exact ⟨k + 1, p + r, a5, c5, rfl, rfl, by omega, HR2, (by rw [HSN.out]; exact HO5), HB5⟩
    case measure =>
     show m - (k + 1) < m - k
     omega
   ·have hxk : ¬ (k : Int) < x := fun h => hlt ((HMX.out k).1 h)
    obtain rfl : k = m := by omega
    go_wp2
    go_ret
    refine ⟨a', c', by rw [HK.out.2]; rfl, ?_, HB.out⟩
    rw [HK.out.2, HK.out.1]
    exact HO.out.vs
end Go.Proofs.YtanhpgmiadgmjaaGreatDoor
