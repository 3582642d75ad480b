import Derived.Test.YtanhpgmiadgmjaaGreatDoorT26
namespace Go.Proofs.YtanhpgmiadgmjaaGreatDoor
open Go.RowKit
theorem kid_lt {L : List OP} {z : List Int} {tok : List TK} : ∀ (m : Nat) (l : List ND), (∀ i, i < l.length → nodeS L z tok (l.drop i) = true) → ∀ c ∈ kidN m l, c.f < c.t
 | 0, l, _, c, hc => by cases hc
 | m + 1, [], _, c, hc => by cases hc
 | m + 1, u :: l, hl, c, hc => by
  unfold kidN at hc
  rcases List.mem_cons.1 hc with rfl | hc
  ·exact (span_of (hl 0 (by simp))).2.1
  ·split at hc
   ·rename_i q hq
    refine kid_lt (L := L) (z := z) (tok := tok) m _ (fun i hi => ?_) c hc
    rw [List.drop_drop]
    exact hl _ (by rw [List.length_drop] at hi; omega)
   ·cases hc
theorem tkn_sub {tok : List TK} {d T a : Int} (h0 : 0 ≤ d) (h1 : d ≤ a) (h2 : a < T) : tkn ((tok.drop d.toNat).take (T - d).toNat) (a - d) = tkn tok a := by
 unfold tkn tat
 simp only [List.getD, List.getElem?_take, List.getElem?_drop]
 rw [if_pos (by omega), show d.toNat + (a - d).toNat = a.toNat by omega]
theorem it_sub {L : List OP} {z : List Int} {tok : List TK} {o : OP} {to_ d T : Int} (h0 : 0 ≤ d) (hT : to_ ≤ T) : ∀ (I : List Nm) (first : Bool) (a : Int) (K : List ND), itB L z tok o to_ I first a K = true → (∀ c ∈ K, c.f < c.t) → d ≤ a →
  itB L z ((tok.drop d.toNat).take (T - d).toNat) o (to_ - d) I first (a - d) (K.map (ND.sh d)) = true
 | [], first, a, K, h, hk, hd => by
  unfold itB at h ⊢
  rw [Bool.and_eq_true, beq_iff_eq, List.isEmpty_iff] at h
  obtain ⟨rfl, rfl⟩ := h
  simp
 | x :: r, first, a, K, h, hk, hd => by
  unfold itB at h ⊢
  by_cases hx : x ≠ []
  ·rw [if_pos hx] at h ⊢
   simp only [Bool.and_eq_true, decide_eq_true_eq] at h ⊢
   have ih := it_sub h0 hT r false (a + 1) K h.2.2 hk (by omega)
   rw [tkn_sub h0 hd (by omega), show a - d + 1 = a + 1 - d by omega]
   exact ⟨⟨by omega, by omega⟩, h.2.1, ih⟩
  ·rw [if_neg hx] at h ⊢
   cases K with
   | nil => cases h
   | cons c K' =>
    simp only [Bool.and_eq_true, beq_iff_eq] at h
    have hc := hk c (List.mem_cons_self ..)
    have ih := it_sub h0 hT r false c.t K' h.2.2.2 (fun y hy => hk y (List.mem_cons_of_mem _ hy)) (by omega)
    simp only [List.map_cons, Bool.and_eq_true, beq_iff_eq]
    exact ⟨by show c.f - d = a - d; omega, h.2.1, h.2.2.1, ih⟩
theorem node_sub {L : List OP} {z : List Int} {tok : List TK} {x : ND} {l : List ND} {d T : Int} {n r : Nat} (h : nodeS L z tok (x :: l) = true) (h0 : 0 ≤ d) (hd : d ≤ x.f) (hT : x.t ≤ T) (hTl : T ≤ tok.length) (hn : skp (x :: l) 1 = some n) (hr : n ≤ r) (hk : ∀ c ∈ kidN x.c.toNat l, c.f < c.t) :
  nodeS L z ((tok.drop d.toNat).take (T - d).toNat) (((x :: l).take r).map (ND.sh d)) = true := by
 have hn' := hn
 rw [show 1 = 0 + 1 from rfl, skp_cons, Nat.add_zero] at hn'
 obtain ⟨p, hp, rfl⟩ := Option.map_eq_some_iff.1 hn'
 obtain ⟨r', rfl⟩ : ∃ r', r = r' + 1 := ⟨r - 1, by omega⟩
 have hs := span_of h
 have hkid : kidN x.c.toNat ((l.take r').map (ND.sh d)) = (kidN x.c.toNat l).map (ND.sh d) := by rw [kid_map, kid_take _ _ _ hp _ (by omega)]
 rw [List.take_succ_cons, List.map_cons]
 unfold nodeS at h ⊢
 rw [Bool.and_eq_true] at h ⊢
 have hlen : ((tok.drop d.toNat).take (T - d).toNat).length = (T - d).toNat := by rw [List.length_take, List.length_drop]; omega
 refine ⟨?_, ?_⟩
 ·unfold spanB
  simp only [Bool.and_eq_true, decide_eq_true_eq]
  rw [hlen]
  exact ⟨by show 0 ≤ x.f - d; omega, by show x.f - d < x.t - d; omega, by show x.t - d ≤ _; omega⟩
 ·have h2 := h.2
  show (if x.k = 1 then _ else _) = true
  by_cases k1 : x.k = 1
  ·rw [if_pos k1] at h2 ⊢
   unfold leafNB at h2 ⊢
   simp only [Bool.and_eq_true, beq_iff_eq] at h2 ⊢
   show x.c = 0 ∧ x.t - d = x.f - d + 1 ∧ leafB (tkn _ (x.f - d)).k (freeB L z (txN (tkn _ (x.f - d)))) = true ∧ txN (tkn _ (x.f - d)) = x.n
   rw [tkn_sub h0 hd (by omega)]
   exact ⟨h2.1, by omega, h2.2.2⟩
  ·rw [if_neg k1] at h2 ⊢
   by_cases k2 : x.k = 2
   ·rw [if_pos k2] at h2
    show (if x.k = 2 then _ else _) = true
    rw [if_pos k2]
    unfold parenB at h2 ⊢
    simp only [Bool.and_eq_true, beq_iff_eq, decide_eq_true_eq] at h2 ⊢
    obtain ⟨c1, c2, c3, c4, c5, c6, c7, h3⟩ := h2
    show x.c = 1 ∧ x.n = [] ∧ x.f - d + 3 ≤ x.t - d ∧ (tkn _ (x.f - d)).k = 6 ∧ txN (tkn _ (x.f - d)) = [40] ∧ (tkn _ (x.t - d - 1)).k = 6 ∧ txN (tkn _ (x.t - d - 1)) = [41] ∧ _
    rw [tkn_sub h0 hd (by omega), show x.t - d - 1 = (x.t - 1) - d by omega, tkn_sub h0 (by omega) (by omega)]
    refine ⟨c1, c2, by omega, c4, c5, c6, c7, ?_⟩
    cases l with
    | nil => cases h3
    | cons y l =>
     rw [c1] at hp
     have hpp := skp_pos (l := y :: l) (m := 0) hp
     obtain ⟨r'', rfl⟩ : ∃ r'', r' = r'' + 1 := ⟨r' - 1, by omega⟩
     rw [List.take_succ_cons, List.map_cons]
     simp only [Bool.and_eq_true, beq_iff_eq] at h3 ⊢
     exact ⟨by show y.f - d = x.f - d + 1; omega, by show y.t - d = x.t - d - 1; omega⟩
   ·rw [if_neg k2] at h2
    show (if x.k = 2 then _ else _) = true
    rw [if_neg k2]
    by_cases k3 : x.k = 3
    ·rw [if_pos k3] at h2
     show (if x.k = 3 then _ else _) = true
     rw [if_pos k3]
     rw [Bool.and_eq_true] at h2 ⊢
     refine ⟨h2.1, ?_⟩
     have h3 := h2.2
     unfold operB at h3 ⊢
     show (match findO L x.n with | none => false | some o => match ofS o.1 with | none => false | some s => itB L z _ o (x.t - d) (itemsL s) true (x.f - d) (kidN x.c.toNat ((l.take r').map (ND.sh d)))) = true
     rw [hkid]
     split at h3
     ·cases h3
     ·rename_i o ho
      split at h3
      ·cases h3
      ·rename_i s hs2
       simp only [ho, hs2]
       exact it_sub h0 hT _ _ _ _ h3 hk hd
    ·rw [if_neg k3] at h2; cases h2
theorem right_sub {L : List OP} {z : List Int} {tok : List TK} {t : List ND} (h : rightB L z tok t = true) {i : Nat} {x : ND} (hx : t[i]? = some x) :
  ∃ n, skp (t.drop i) 1 = some n ∧ 0 < n ∧ i + n ≤ t.length ∧ 0 ≤ x.f ∧ x.f < x.t ∧ x.t ≤ tok.length ∧ rightB L z ((tok.drop x.f.toNat).take (x.t - x.f).toNat) (((t.drop i).take n).map (ND.sh x.f)) = true := by
 obtain ⟨h1, h2, h3⟩ := rightB_iff.1 h
 have hi : i < t.length := (List.getElem?_eq_some_iff.1 hx).1
 obtain ⟨n, hn⟩ := skp_node t 1 h1 i hi
 have hnp := skp_pos (m := 0) hn
 have hnl := skp_le _ _ _ hn
 rw [List.length_drop] at hnl
 have hd : t.drop i = x :: t.drop (i + 1) := by
  rw [List.drop_eq_getElem_cons hi]
  congr 1
  exact (List.getElem?_eq_some_iff.1 hx).2
 have hxs := span_of (by have := h3 i hi; rw [hd] at this; exact this)
 refine ⟨n, hn, hnp, by omega, hxs.1, hxs.2.1, hxs.2.2, rightB_iff.2 ⟨?_, ?_, ?_⟩⟩
 ·rw [skp_map, skp_take _ _ _ hn n (Nat.le_refl _), List.length_map, List.length_take, List.length_drop, Nat.min_eq_left (by omega)]
 ·obtain ⟨n', rfl⟩ : ∃ n', n = n' + 1 := ⟨n - 1, by omega⟩
  rw [hd, List.take_succ_cons, List.map_cons]
  unfold headB
  rw [Bool.and_eq_true, beq_iff_eq, beq_iff_eq, List.length_take, List.length_drop]
  exact ⟨by show x.f - x.f = 0; omega, by show x.t - x.f = _; omega⟩
 ·intro j hj
  rw [List.length_map, List.length_take, List.length_drop, Nat.min_eq_left (by omega)] at hj
  have hij : i + j < t.length := by omega
  obtain ⟨y, hy⟩ : ∃ y, t[i + j]? = some y := ⟨t[i + j], List.getElem?_eq_getElem hij⟩
  have hdj : t.drop (i + j) = y :: t.drop (i + j + 1) := by
   rw [List.drop_eq_getElem_cons hij]
   congr 1
   exact (List.getElem?_eq_some_iff.1 hy).2
  have hnode := h3 (i + j) hij
  obtain ⟨r, hr, hr1, hr2⟩ := nest (t.drop i) 1 n hn (fun k hk => by rw [List.drop_drop]; exact h3 _ (by rw [List.length_drop] at hk; omega)) j y hj (by rw [List.getElem?_drop]; exact hy)
  have hrx : r = x := by
   rw [hd] at hr hn
   rw [kid_succ hn] at hr
   rcases List.mem_cons.1 hr with h | h
   ·exact h
   ·cases h
  subst hrx
  have hl : ((t.drop i).take n).length = n := by rw [List.length_take, List.length_drop]; omega
  obtain ⟨m, hm⟩ := skp_node ((t.drop i).take n) 1 (by rw [hl]; exact skp_take _ _ _ hn n (Nat.le_refl _)) j (by omega)
  have hml := skp_le _ _ _ hm
  rw [List.length_drop, hl] at hml
  have hm2 : skp (t.drop (i + j)) 1 = some m := by
   have e : t.drop (i + j) = ((t.drop i).take n).drop j ++ (t.drop (i + j)).drop (n - j) := by
    rw [List.drop_take, List.drop_drop, List.take_append_drop]
   rw [e]
   exact skp_app _ _ _ hm _
  rw [← List.map_drop, List.drop_take, List.drop_drop, hdj]
  rw [hdj] at hnode hm2
  refine node_sub hnode hxs.1 hr1 hr2 hxs.2.2 hm2 hml (kid_lt (L := L) (z := z) (tok := tok) _ _ fun k hk => ?_)
  rw [List.drop_drop]
  exact h3 _ (by rw [List.length_drop] at hk; omega)
def bareN (x : ND) : ND := ⟨x.k, x.n, 0, 0, x.c⟩
def bareL (t : List ND) : List ND := (t.filter fun x => x.k != 2).map bareN
theorem bare_yes {x : ND} (h : x.k ≠ 2) (l : List ND) : bareL (x :: l) = bareN x :: bareL l := by
 unfold bareL; rw [List.filter_cons_of_pos (by simpa using h), List.map_cons]
theorem bare_no {x : ND} (h : x.k = 2) (l : List ND) : bareL (x :: l) = bareL l := by
 unfold bareL; rw [List.filter_cons_of_neg (by simp [h])]
end Go.Proofs.YtanhpgmiadgmjaaGreatDoor
