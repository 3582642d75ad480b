/- UtfJoins: sequences behind sequences, and bytes that are no sequence behind them; the append of a walk. -/
import Derived.Test.YtbcphmjlifmeiaaUc
namespace Go.Proofs.Ytbcphmjlifmeiaa
open Go.RowKit

theorem bt_append_left (x y : List Int) (j : Nat) (h : j < x.length) : bt (x ++ y) j = bt x j := by
  unfold bt; simp [List.getD, List.getElem?_append_left h]
theorem bt_append_right (x y : List Int) (j : Nat) (h : x.length ≤ j) : bt (x ++ y) j = bt y (j - x.length) := by
  unfold bt; simp [List.getD, List.getElem?_append_right h]

theorem okSeq_append {x : List Int} (y : List Int) (h : okSeq x = true) : okSeq (x ++ y) = true ∧ takeN (x ++ y) = takeN x := by
  obtain ⟨h1, h2, h3, h4⟩ := (okSeq_iff x).1 h
  have hpos : 0 < x.length := by omega
  have hb : bt (x ++ y) 0 = bt x 0 := bt_append_left x y 0 hpos
  have ho : okSeq (x ++ y) = true := (okSeq_iff _).2 ⟨by simp [h1], by rw [hb]; exact h2, by rw [hb, List.length_append]; omega, fun j hj => by
    rw [hb] at hj
    have := h4 j hj
    rw [hb, bt_append_left x y (j + 1) (by omega)]
    exact this⟩
  refine ⟨ho, ?_⟩
  unfold takeN
  rw [ho, h, hb]
  simp [h1]

theorem valid_append (x y : List Int) (h : valid x = true) : valid (x ++ y) = valid y ∧ count (x ++ y) = count x + count y := by
  induction hn : x.length using Nat.strongRecOn generalizing x with
  | _ n ih =>
    by_cases hx : x = []
    · subst hx; simp [count_nil]
    · rw [valid_step hx] at h
      simp only [Bool.and_eq_true] at h
      obtain ⟨ho, ht⟩ := okSeq_append y h.1
      have h1 := takeN_pos hx
      have h2 := takeN_le x
      have hd : (x ++ y).drop (takeN x) = x.drop (takeN x) ++ y := List.drop_append_of_le_length h2
      have := ih (x.drop (takeN x)).length (by simp; omega) _ h.2 rfl
      have hxy : x ++ y ≠ [] := by simp [hx]
      rw [valid_step hxy, count_step hxy, ho, ht, hd, this.1, this.2, count_step hx]
      exact ⟨by simp, by omega⟩

/-- No bytes that end with FF are sequences. -/
theorem valid_ff (x : List Int) : valid (x ++ [255]) = false := by
  induction hn : x.length using Nat.strongRecOn generalizing x with
  | _ n ih =>
    have hz : x ++ [255] ≠ [] := by simp
    rw [valid_step hz]
    cases ho : okSeq (x ++ [255]) with
    | false => rfl
    | true =>
      obtain ⟨h1, h2, h3, h4⟩ := (okSeq_iff _).1 ho
      have ht : takeN (x ++ [255]) = lenOf (bt (x ++ [255]) 0) := by unfold takeN; simp [ho]
      by_cases hle : takeN (x ++ [255]) ≤ x.length
      · have hp := takeN_pos hz
        rw [List.drop_append_of_le_length hle, ih (x.drop (takeN (x ++ [255]))).length (by simp; omega) _ rfl]
        rfl
      · exfalso
        simp at h3
        have hl : lenOf (bt (x ++ [255]) 0) = x.length + 1 := by omega
        by_cases hx : x = []
        · subst hx; revert hl; decide
        · have hxl : 0 < x.length := by cases x with | nil => contradiction | cons => simp
          have hg := (h4 (x.length - 1) (by omega)).2
          rw [show x.length - 1 + 1 = x.length from by omega, bt_append_right x [255] x.length (Nat.le_refl _)] at hg
          have : highAt (bt (x ++ [255]) 0) (x.length - 1) ≤ 191 := by
            unfold highAt hiOf; (repeat' split) <;> omega
          rw [Nat.sub_self, show bt [255] 0 = 255 from rfl] at hg
          omega

theorem valid_c3 (x : List Int) (h : valid x = true) : valid (x ++ [195]) = false := by
  rw [(valid_append x [195] h).1, valid_step (by simp), show okSeq [195] = false from by decide]; rfl

/-- 'append' in a walk, guarded or not. -/
theorem wpList_app {P : Program} {ops : Array Oper} {rest : List Oper} {w : World} {o : Oper} {a : Act} {Q : Exit → Act → World → Prop} (hw : Region.wanted o (yielded ops a.tmps) = true) (s x : Operand) (t : TypeId)
    (ho : o.op = .call { callee := .builtin .append, args := #[s, x], argTypes := #[t, t] })
    (e base : Nat) (ht : P.underlying t = some (.slice e)) (hinf : (P.info? e).map (fun i => (i.zero, i.size, i.bytes)) = some (some (.int .u8 0), 1, 1))
    (sa : Option Addr) (n c : Nat) (l : List Int) (hs : a.eval s = .slice sa n c) (hown : OwnB base e w sa n c l)
    (xa : Option Addr) (m d : Nat) (k : List Int) (hx : a.eval x = .slice xa m d) (hb : Bs w xa m d k)
    (hbig : n + m ≤ 140737488355328) (hbase : base ≤ w.heap.size)
    (h : ∀ a' c' w', OwnB base e w' a' (n + m) c' (l ++ k) → Below base w w' → wpList P ops Q rest (a.put o.dst (.slice a' (n + m) c')) w') : wpList P ops Q (o :: rest) a w :=
  wpList_step fun K hK => by
    rw [if_pos hw]
    exact wp_app s x t ho e base ht hinf sa n c l hs hown xa m d k hx hb hbig hbase fun a' c' w' h1 h2 => hK _ _ (h a' c' w' h1 h2)

theorem info5 : (Try.prog.info? 5).map (fun i => (i.zero, i.size, i.bytes)) = some (some (.int .u8 0), 1, 1) := by kernel_rfl

theorem Bs.alloc {w : World} {a : Option Addr} {len cap : Nat} {l : List Int} (h : Bs w a len cap l) (o : Obj) : Bs (w.alloc o) a len cap l := h.below ((Below.refl _ _).alloc (Nat.le_refl _) o)
theorem OwnB.alloc {base : Nat} {e : TypeId} {w : World} {a : Option Addr} {len cap : Nat} {l : List Int} (h : OwnB base e w a len cap l) (o : Obj) : OwnB base e (w.alloc o) a len cap l := ⟨h.1.alloc o, h.2⟩

set_option maxHeartbeats 1000000 in
theorem joins_any (a a' : Option Addr) (len len' cap cap' : Nat) (l0 l0' : List Int) (w : World) (h0 : Bs w a len cap l0) (h0' : Bs w a' len' cap' l0') :
    Calls Try.prog 5 #[.slice a len cap, .slice a' len' cap'] w fun e w' => e = .returned (.bool true) ∧ Below w.heap.size w w' := by
  have H0 := Lib.hid h0
  have H0' := Lib.hid h0'
  clear h0 h0'
  go_enter Try.func5, Try.ntmps5
  go_wp2_with fail
  refine (shown_any _).mono ?_
  rintro e w1 ⟨rfl, hb1⟩
  have HB1 := Lib.hid hb1
  clear hb1
  go_wp2_with fail
  refine (few_any _ _ _ _ _ (H0.out.below HB1.out)).mono ?_
  rintro e w' ⟨rfl, rfl⟩
  go_wp2_with fail
  refine (few_any _ _ _ _ _ (H0'.out.below HB1.out)).mono ?_
  rintro e w' ⟨rfl, rfl⟩
  have h := few_bs H0.out
  have h' := few_bs H0'.out
  have hn2 : min len 200 ≤ 200 := Nat.min_le_right _ _
  have hn2' : min len' 200 ≤ 200 := Nat.min_le_right _ _
  clear H0 H0'
  generalize min len 200 = n at *
  generalize l0.take 200 = l at *
  generalize min len' 200 = n' at *
  generalize l0'.take 200 = l' at *
  have hcl : count l ≤ 200 := by have := count_le l; have := h.hl; omega
  have hcl' : count l' ≤ 200 := by have := count_le l'; have := h'.hl; omega
  have H := Lib.hid h
  have H' := Lib.hid h'
  clear h h'
  cases hv : valid l with
  | false =>
    have HV := Lib.hid hv
    have HF := Lib.hid (valid_ff l)
    clear hv
    go_wp2_with (first
      | (at_builtin; refine wpList_app rfl (.tmp 14) (.tmp 15) 22 rfl 5 w.heap.size Try.underlying22 info5 _ _ _ [] rfl (OwnB.made HB1.out.size) _ _ _ l rfl ((H.out.below HB1.out).alloc _) (by omega) (by have := HB1.out.size; simp; omega) ?_; intro a1 c1 w2 ho1 hb1; simp only [Nat.zero_add, List.nil_append] at ho1; have HO1 := Lib.hid ho1; have HB2 := Lib.hid ((HB1.out.alloc HB1.out.size _).trans hb1); clear ho1 hb1)
      | (at_builtin; refine wpList_app rfl (.tmp 16) (.tmp 17) 22 rfl 5 w.heap.size Try.underlying22 info5 _ _ _ l rfl HO1.out _ _ _ l' rfl (H'.out.below HB2.out) (by omega) HB2.out.size ?_; intro a2 c2 w3 ho2 hb2; have HO2 := Lib.hid ho2; have HB3 := Lib.hid (HB2.out.trans hb2); clear ho2 hb2)
      | (go_at_call 12; with_reducible refine (valid_any _ _ _ l _ (H.out.below HB3.out)).mono ?_; rintro e w' ⟨rfl, rfl⟩; rw [HV.out])
      | (at_builtin; refine wpList_app rfl (.tmp 24) (.tmp 25) 22 rfl 5 w.heap.size Try.underlying22 info5 _ _ _ [] rfl (OwnB.made HB3.out.size) _ _ _ l rfl ((H.out.below HB3.out).alloc _) (by omega) (by have := HB3.out.size; simp; omega) ?_; intro a4 c4 w4 ho4 hb4; simp only [Nat.zero_add, List.nil_append] at ho4; have HO4 := Lib.hid ho4; have HB4 := Lib.hid ((HB3.out.alloc HB3.out.size _).trans hb4); clear ho4 hb4)
      | (at_builtin; refine wpList_app rfl (.tmp 26) (.tmp 27) 22 rfl 5 w.heap.size Try.underlying22 info5 _ _ _ l rfl (HO4.out.alloc _) _ _ _ [255] rfl (Bs.lit _ 5 (by simp) (by simp) rfl rfl (by decide)) (by omega) (by have := HB4.out.size; simp; omega) ?_; intro a5 c5 w5 ho5 hb5; have HO5 := Lib.hid ho5; have HB5 := Lib.hid ((HB4.out.alloc HB4.out.size _).trans hb5); clear ho5 hb5)
      | (go_at_call 12; with_reducible refine (valid_any _ _ _ (l ++ [255]) _ HO5.out.bs).mono ?_; rintro e w' ⟨rfl, rfl⟩; rw [HF.out]))
    go_ret
    exact ⟨rfl, HB5.out⟩
  | true =>
    have HV := Lib.hid hv
    have HA := Lib.hid (valid_append l l' hv)
    have HC3 := Lib.hid (valid_c3 l hv)
    have HF := Lib.hid (valid_ff l)
    clear hv
    go_wp2_with (first
      | (at_builtin; refine wpList_app rfl (.tmp 14) (.tmp 15) 22 rfl 5 w.heap.size Try.underlying22 info5 _ _ _ [] rfl (OwnB.made HB1.out.size) _ _ _ l rfl ((H.out.below HB1.out).alloc _) (by omega) (by have := HB1.out.size; simp; omega) ?_; intro a1 c1 w2 ho1 hb1; simp only [Nat.zero_add, List.nil_append] at ho1; have HO1 := Lib.hid ho1; have HB2 := Lib.hid ((HB1.out.alloc HB1.out.size _).trans hb1); clear ho1 hb1)
      | (at_builtin; refine wpList_app rfl (.tmp 16) (.tmp 17) 22 rfl 5 w.heap.size Try.underlying22 info5 _ _ _ l rfl HO1.out _ _ _ l' rfl (H'.out.below HB2.out) (by omega) HB2.out.size ?_; intro a2 c2 w3 ho2 hb2; have HO2 := Lib.hid ho2; have HB3 := Lib.hid (HB2.out.trans hb2); clear ho2 hb2)
      | (go_at_call 12; with_reducible refine (valid_any _ _ _ l _ (H.out.below HB3.out)).mono ?_; rintro e w' ⟨rfl, rfl⟩; rw [HV.out])
      | (go_at_call 12; with_reducible refine (valid_any _ _ _ (l ++ l') _ HO2.out.bs).mono ?_; rintro e w' ⟨rfl, rfl⟩; rw [HA.out.1])
      | (go_at_call 12; with_reducible refine (valid_any _ _ _ l' _ (H'.out.below HB3.out)).mono ?_; rintro e w' ⟨rfl, rfl⟩)
      | (go_at_call 14; with_reducible refine (count_any _ _ _ (l ++ l') _ HO2.out.bs).mono ?_; rintro e w' ⟨rfl, rfl⟩; rw [HA.out.2])
      | (go_at_call 14; with_reducible refine (count_any _ _ _ l _ (H.out.below HB3.out)).mono ?_; rintro e w' ⟨rfl, rfl⟩)
      | (go_at_call 14; with_reducible refine (count_any _ _ _ l' _ (H'.out.below HB3.out)).mono ?_; rintro e w' ⟨rfl, rfl⟩)
      | (at_builtin; refine wpList_app rfl (.tmp 51) (.tmp 52) 22 rfl 5 w.heap.size Try.underlying22 info5 _ _ _ [] rfl (OwnB.made HB3.out.size) _ _ _ l rfl ((H.out.below HB3.out).alloc _) (by omega) (by have := HB3.out.size; simp; omega) ?_; intro a4 c4 w4 ho4 hb4; simp only [Nat.zero_add, List.nil_append] at ho4; have HO4 := Lib.hid ho4; have HB4 := Lib.hid ((HB3.out.alloc HB3.out.size _).trans hb4); clear ho4 hb4)
      | (at_builtin; refine wpList_app rfl (.tmp 53) (.tmp 54) 22 rfl 5 w.heap.size Try.underlying22 info5 _ _ _ l rfl (HO4.out.alloc _) _ _ _ [255] rfl (Bs.lit _ 5 (by simp) (by simp) rfl rfl (by decide)) (by omega) (by have := HB4.out.size; simp; omega) ?_; intro a5 c5 w5 ho5 hb5; have HO5 := Lib.hid ho5; have HB5 := Lib.hid ((HB4.out.alloc HB4.out.size _).trans hb5); clear ho5 hb5)
      | (go_at_call 12; with_reducible refine (valid_any _ _ _ (l ++ [255]) _ HO5.out.bs).mono ?_; rintro e w' ⟨rfl, rfl⟩; rw [HF.out])
      | (at_builtin; refine wpList_app rfl (.tmp 60) (.tmp 61) 22 rfl 5 w.heap.size Try.underlying22 info5 _ _ _ [] rfl (OwnB.made HB5.out.size) _ _ _ l rfl ((H.out.below HB5.out).alloc _) (by omega) (by have := HB5.out.size; simp; omega) ?_; intro a6 c6 w6 ho6 hb6; simp only [Nat.zero_add, List.nil_append] at ho6; have HO6 := Lib.hid ho6; have HB6 := Lib.hid ((HB5.out.alloc HB5.out.size _).trans hb6); clear ho6 hb6)
      | (at_builtin; refine wpList_app rfl (.tmp 62) (.tmp 63) 22 rfl 5 w.heap.size Try.underlying22 info5 _ _ _ l rfl (HO6.out.alloc _) _ _ _ [195] rfl (Bs.lit _ 5 (by simp) (by simp) rfl rfl (by decide)) (by omega) (by have := HB6.out.size; simp; omega) ?_; intro a7 c7 w7 ho7 hb7; have HO7 := Lib.hid ho7; have HB7 := Lib.hid ((HB6.out.alloc HB6.out.size _).trans hb7); clear ho7 hb7)
      | (go_at_call 12; with_reducible refine (valid_any _ _ _ (l ++ [195]) _ HO7.out.bs).mono ?_; rintro e w' ⟨rfl, rfl⟩; rw [HC3.out]))
    go_ret
    exact ⟨rfl, HB7.out⟩

end Go.Proofs.Ytbcphmjlifmeiaa
