/- Contract of package lex's Join. -/
import Derived.Test.YtecabgmkoknbgaaDoorJd
namespace Go.Proofs.YtecabgmkoknbgaaDoor
open Go.RowKit

/-- 'append(s, x...)', s a row of the call's own, x whatever slice of bytes: a row of the call's own, with the bytes of both; below 'base' all is as it was. -/
theorem wp_appg {P : Program} {w : World} {o : Oper} {a : Act} {K : Act → World → Prop} {Q : Exit → Act → World → Prop} (s x : Operand) (t : TypeId)
    (ho : o.op = .call { callee := .builtin .append, args := #[s, x], argTypes := #[t, t] })
    (e base : Nat) (ht : P.underlying t = some (.slice e)) (hinf : (P.info? e).map (fun i => (i.zero, i.size, i.bytes)) = some (some (.int .u8 0), 1, 1))
    (sa : Option Addr) (n c : Nat) (l : List Int) (hs : a.eval s = .slice sa n c) (hown : OwnB base e w sa n c l)
    (xa : Option Addr) (m d : Nat) (k : List Int) (hx : a.eval x = .slice xa m d) (hb : Bs w xa m d k)
    (hbig : n + m ≤ 140737488355328) (hbase : base ≤ w.heap.size)
    (h : ∀ a' c' w', OwnB base e w' a' (n + m) c' (l ++ k) → w.grownBy w' (Value.ownBlock (.slice sa n c)) → Below base w w' → K (a.put o.dst (.slice a' (n + m) c')) w') : o.wp P a w K Q := by
  obtain ⟨i, hi, hz, hsz, hby⟩ := info_parts hinf
  have hlt : n + m ≤ maxLen := by unfold maxLen; omega
  have hrng : ∀ x ∈ l ++ k, 0 ≤ x ∧ x ≤ 255 := by
    intro x hx
    rcases List.mem_append.1 hx with h | h
    · exact hown.2 x h
    · exact hb.rng x h
  have fin : ∀ v' w', w'.ownsRow base e 1 v' (n + m) (l.map (Value.int .u8) ++ k.map (Value.int .u8)) → w.grownBy w' (Value.ownBlock (.slice sa n c)) → K (a.put o.dst v') w' := by
    intro v' w' ho' hg
    rw [← List.map_append] at ho'
    have hbe : Below base w w' := (Below.refl base w).grown hg hbase fun k hk => (hown.1.lt k hk).1
    rcases ho'.2 with ⟨rfl, hn0⟩ | ⟨g, cp, cur, rfl, r⟩
    · have hh := h none 0 w' (by rw [hn0]; rw [hn0] at ho'; exact ⟨ho', hrng⟩) hg hbe
      rw [hn0] at hh; exact hh
    · exact h _ _ w' ⟨ho', hrng⟩ hg hbe
  by_cases h0 : 0 < m
  · obtain ⟨b, off, rfl, _, _⟩ := hb.at_ h0
    exact wp_append_own w s x t ho base e i (.int .u8 0) 1 1 ht hi hz hsz hby rfl (by omega) _ _ _ hs hown.1 ⟨b, off, none⟩ m d (k.map (Value.int .u8)) hx (by simp [hb.hl])
      (hb.news b off rfl h0) (fun u hu => by obtain ⟨z, _, rfl⟩ := List.mem_map.1 hu; rfl) hlt (by omega) hbase (fun v' w' h1 h2 _ => fin v' w' h1 h2)
  · have hm0 : m = 0 := by omega
    subst hm0
    have hk0 : k = [] := List.eq_nil_of_length_eq_zero hb.hl
    subst hk0
    cases xa with
    | some ad => exact wp_append_own w s x t ho base e i (.int .u8 0) 1 1 ht hi hz hsz hby rfl (by omega) _ _ _ hs hown.1 ad 0 d [] hx rfl (by simp) (by simp) hlt (by omega) hbase (fun v' w' h1 h2 _ => fin v' w' (by simpa using h1) h2)
    | none =>
      have hr : (Builtin.append_ #[t, t] o.type #[.slice sa n c, .slice none 0 d]).run P w = .ok (.slice sa n c) w := by
        rcases hown.1.2 with ⟨hv, hn⟩ | ⟨g, cp, cur, hv, _, _, hnc, _⟩
        · simp only [Value.slice.injEq] at hv
          obtain ⟨rfl, rfl, rfl⟩ := hv
          simp [Builtin.append_, run_underlying ht, sizeOf, typeInfo, hi, Builtin.lenOf, Builtin.firstCells]
        · simp only [Value.slice.injEq, true_and] at hv
          obtain ⟨rfl, rfl⟩ := hv
          simp [Builtin.append_, run_underlying ht, sizeOf, typeInfo, hi, Builtin.lenOf, Builtin.firstCells, hnc, storeCells]
      unfold Oper.wp execOp
      simp only [ho, resolve, invoke, builtin, Sem.run_bind, Sem.run_pure, Result.andThen_ok, List.map_toArray, List.map_cons, List.map_nil, hs, hx, hr]
      exact fin _ w (by simpa using hown.1) ⟨rfl, rfl, rfl, Nat.le_refl _, fun _ _ _ => rfl⟩

/-- 'append' in a walk, guarded or not. -/
theorem wpList_appg {P : Program} {ops : Array Oper} {rest : List Oper} {w : World} {o : Oper} {a : Act} {Q : Exit → Act → World → Prop} (hw : Region.wanted o (yielded ops a.tmps) = true) (s x : Operand) (t : TypeId)
    (ho : o.op = .call { callee := .builtin .append, args := #[s, x], argTypes := #[t, t] })
    (e base : Nat) (ht : P.underlying t = some (.slice e)) (hinf : (P.info? e).map (fun i => (i.zero, i.size, i.bytes)) = some (some (.int .u8 0), 1, 1))
    (sa : Option Addr) (n c : Nat) (l : List Int) (hs : a.eval s = .slice sa n c) (hown : OwnB base e w sa n c l)
    (xa : Option Addr) (m d : Nat) (k : List Int) (hx : a.eval x = .slice xa m d) (hb : Bs w xa m d k)
    (hbig : n + m ≤ 140737488355328) (hbase : base ≤ w.heap.size)
    (h : ∀ a' c' w', OwnB base e w' a' (n + m) c' (l ++ k) → w.grownBy w' (Value.ownBlock (.slice sa n c)) → Below base w w' → wpList P ops Q rest (a.put o.dst (.slice a' (n + m) c')) w') : wpList P ops Q (o :: rest) a w :=
  wpList_step fun K hK => by
    rw [if_pos hw]
    exact wp_appg s x t ho e base ht hinf sa n c l hs hown xa m d k hx hb hbig hbase fun a' c' w' h1 h2 h3 => hK _ _ (h a' c' w' h1 h2 h3)

/-- Another block is left alone by an append. -/
theorem cell_grownB {w w' : World} {g g0 : Nat} {sa : Option Addr} {n c base : Nat} {L : List Int} {e : TypeId} (hr : OwnB base e w sa n c L) (hg : w.heap.size ≤ g) {w1 : World} (h1 : g < w1.heap.size)
    (h : w1.grownBy w' (Value.ownBlock (.slice sa n c))) (i : Nat) (hg0 : g0 = g) : w'.cell? ⟨g0, i, none⟩ = w1.cell? ⟨g, i, none⟩ := by
  subst hg0
  refine World.cell?_of_block (h.block g0 h1 ?_)
  intro hh
  have := World.ownsRow.lt hr.1 g0 hh.symm
  omega

theorem jb_snoc {L : List TK} {k : Nat} (h : k < L.length) : jb (L.take (k + 1)) = jb (L.take k) ++ wrT (tat L k).k (sb (tat L k).s) ++ [sepT (tat L k).k] := by
  rw [tat_take h, jb_append, jb, jb]; simp
theorem jp_at {L : List TK} {k : Nat} (h : k < L.length) : jp (L.take (k + 1)) = (jp (L.take k) && decide (wrE (tat L k).k (sb (tat L k).s) = 0)) := by
  rw [tat_take h, jp_append, jp, jp, Bool.and_true]
theorem jp_take {L : List TK} {k : Nat} (h : jp (L.take k) = false) : jp L = false := by
  rw [← List.take_append_drop k L, jp_append, h, Bool.false_and]
theorem wsz_snoc {L : List TK} {k : Nat} (h : k < L.length) : wsz (L.take (k + 1)) = wsz (L.take k) + (2 * (sb (tat L k).s).length + 3) := by
  rw [tat_take h, wsz_append, wsz, wsz]
theorem wsz_take (L : List TK) (k : Nat) : wsz (L.take k) ≤ wsz L := by
  conv => rhs; rw [← List.take_append_drop k L, wsz_append]
  omega

set_option maxRecDepth 20000 in
set_option maxHeartbeats 2000000 in
theorem join_any (a : Option Addr) (len cap : Nat) (L : List TK) (w : World) (h : Ts w a len cap L) (ht : Tab w) (hsz : wsz L ≤ 400000) :
    Calls Tryd.prog 10 #[.slice a len cap] w fun e w' => ∃ a' c', e = .returned (.tuple #[.slice a' (jnT L).length c', .int .i64 (jnE L)]) ∧ Bs w' a' (jnT L).length c' (jnT L) ∧ Below w.heap.size w w' := by
  have hcm := h.cm
  have hlc := h.lc
  unfold maxLen at hcm
  have H := Lib.hid h
  have HT := Lib.hid ht
  have HL := Lib.hid h.hl
  have hlen := Nat.le_trans (wsz_len L) hsz
  rw [HL.out] at hlen
  have HSZ := Lib.hid hsz
  clear h ht hsz
  go_enter Tryd.func10, Tryd.ntmps10
  go_wp2
  go_loopw [4, 11] (fun v i wr => ∃ a1 c1, ∃ k n : Nat, v = .slice a1 n c1 ∧ i = .int .i64 k ∧ k ≤ len ∧ n ≤ 400000 ∧ Hid (OwnB w.heap.size 5 wr a1 n c1 (jb (L.take k))) ∧ Hid (jp (L.take k) = true) ∧ Hid (n ≤ wsz (L.take k)) ∧ Hid (Below w.heap.size w wr)) (fun _ i _ => len - (intOf i).toNat)
  case atStart => exact ⟨_, _, 0, 0, rfl, rfl, by omega, by omega, Lib.hid OwnB.none0, Lib.hid rfl, Lib.hid (Nat.zero_le _), Lib.hid (Below.refl _ _)⟩
  case round =>
    obtain ⟨a1, c1, k, n, rfl, rfl, hk, hn, HO, HP, HN, HB⟩ := hrel
    have hlc1 := HO.out.bs.lc
    have hcm1 := HO.out.bs.cm
    unfold maxLen at hcm1
    by_cases hlt : k < len
    · have hb := H.out.below HB.out
      obtain ⟨b, off, rfl, _, _⟩ := hb.at_ (by omega)
      obtain ⟨d0, d1, d2, d3, d4⟩ := hb.at5 hlt
      have hkL : k < L.length := by rw [HL.out]; exact hlt
      have hS := jb_snoc hkL
      have hPA := jp_at hkL
      have hW := wsz_snoc hkL
      have hW2 := wsz_take L (k + 1)
      obtain ⟨T, hT⟩ : ∃ T, T = tat L k := ⟨_, rfl⟩
      rw [← hT] at d0 d1 d2 d3 d4 hS hPA hW
      have HS := Lib.hid hS
      have HPA := Lib.hid hPA
      have HW := Lib.hid (And.intro hW hW2)
      clear hb hT hS hPA hW hW2 hkL
      have hts : (sb T.s).length ≤ 400000 := by have := HW.out.1; have := HW.out.2; have := HSZ.out; omega
      go_wp2_with fail
      refine (written_any T _ (HT.out.keep (HB.out.alloc HB.out.size _)) hts).mono ?_
      rintro e w1 ⟨a2, c2, rfl, hx1, hb1⟩
      have HX := Lib.hid hx1
      have hc1 := past_alloc hb1
      have HB1 : Hid (Below w.heap.size w w1) := Lib.hid (HB.out.trans (hc1.mono HB.out.size))
      have HO1 := Lib.hid (HO.out.keep hc1 (Nat.le_refl _))
      have HV1 : Hid (TV wr.heap.size _ w1) := Lib.hid ((tv_new wr _ 34).keep hb1)
      obtain ⟨m, hm⟩ : ∃ m, m = (wrT T.k (sb T.s)).length := ⟨_, rfl⟩
      have hmle := wrT_len T.k (sb T.s)
      rw [← hm] at hmle
      rw [← hm] at HX
      have HM := Lib.hid hm
      rw [← hm]
      have hbig : n + m + 1 ≤ 400000 := by have := HW.out.1; have := HW.out.2; have := HSZ.out; have := HN.out; omega
      have hgs : wr.heap.size < w1.heap.size := HV1.out.lt
      have HGS : Hid (wr.heap.size ≤ w1.heap.size) := Lib.hid (by omega)
      clear hx1 hb1 hc1 hm hmle
      by_cases hE : wrE T.k (sb T.s) = 0
      · rw [hE]
        have HP1 : Hid (jp (L.take (k + 1)) = true) := Lib.hid (by rw [HPA.out, HP.out, hE]; rfl)
        clear hE hts
        go_wp2_with (at_builtin; refine Hid.out ?_)
        refine Lib.hid ?_
        refine wpList_appg rfl (.tmp 22) (.tmp 23) 22 rfl 5 w.heap.size Tryd.underlying22 info5 _ _ _ _ rfl HO1.out _ _ _ (wrT T.k (sb T.s)) rfl HX.out (by omega) HB1.out.size ?_
        intro a3 c3 w2 ho2 hg2 hb2
        have HO2 := Lib.hid ho2
        have HB2 : Hid (Below w.heap.size w w2) := Lib.hid (HB1.out.trans hb2)
        have q0 := (cell_grownB HO.out (Nat.le_refl _) HV1.out.lt hg2 0 rfl).trans (HV1.out.c 0)
        have q1 := (cell_grownB HO.out (Nat.le_refl _) HV1.out.lt hg2 1 rfl).trans (HV1.out.c 1)
        have q2 := (cell_grownB HO.out (Nat.le_refl _) HV1.out.lt hg2 2 rfl).trans (HV1.out.c 2)
        have q3 := (cell_grownB HO.out (Nat.le_refl _) HV1.out.lt hg2 3 rfl).trans (HV1.out.c 3)
        have q4 := (cell_grownB HO.out (Nat.le_refl _) HV1.out.lt hg2 4 rfl).trans (HV1.out.c 4)
        simp only [List.getElem?_toArray, List.getElem?_cons_zero, List.getElem?_cons_succ] at q0 q1 q2 q3 q4
        have hlt2 : wr.heap.size < w2.heap.size := Nat.lt_of_lt_of_le HV1.out.lt hg2.size
        clear ho2 hg2 hb2
        go_wp2_with fail
        refine (behind_any T _).mono ?_
        rintro e w3 ⟨rfl, hb3⟩
        have HO3 := Lib.hid (HO2.out.keep hb3 (Nat.le_refl _))
        have HB3 : Hid (Below w.heap.size w w3) := Lib.hid (HB2.out.trans (hb3.mono HB2.out.size))
        clear hb3 q0 q1 q2 q3 q4 hlt2
        go_wp2_with (at_builtin; refine Hid.out ?_)
        refine Lib.hid ?_
        refine wpList_appg rfl (.tmp 25) (.tmp 28) 22 rfl 5 w.heap.size Tryd.underlying22 info5 _ _ _ _ rfl (HO3.out.alloc _) _ _ _ [sepT T.k] rfl (Bs.lit _ 5 (by simp) (by simpa using sepT_rng T.k) rfl rfl (by decide)) (by omega) (by have := HB3.out.size; simp; omega) ?_
        intro a4 c4 w4 ho4 hg4 hb4
        have HO4 : Hid (OwnB w.heap.size 5 w4 a4 (n + m + 1) c4 (jb (L.take (k + 1)))) := Lib.hid (by rw [HS.out]; exact ho4)
        have HB4 : Hid (Below w.heap.size w w4) := Lib.hid ((HB3.out.alloc HB3.out.size _).trans hb4)
        have HN4 : Hid (n + m + 1 ≤ wsz (L.take (k + 1))) := Lib.hid (by have := jb_len (L.take (k + 1)); rw [HO4.out.bs.hl] at this; exact this)
        clear ho4 hg4 hb4
        go_wp2
        go_roundw
        case rel => exact ⟨_, _, k + 1, n + m + 1, rfl, by go_num, by omega, hbig, HO4, HP1, HN4, HB4⟩
        case measure => simp [intOf]; omega
      · have hEb : (wrE T.k (sb T.s) != 0) = true := by simpa using hE
        have HJ : Hid (jOk L = false) := Lib.hid (by
          unfold jOk
          rw [jp_take (k := k + 1) (by rw [HPA.out, HP.out, decide_eq_false hE]; rfl), Bool.false_and])
        clear hE hts
        go_wp2
        go_ret2
        exact ⟨none, 0, by unfold jnT jnE; rw [HJ.out]; rfl, by unfold jnT; rw [HJ.out]; exact Bs.nil _ _ _ (by decide), HB1.out⟩
    · have hkl : k = len := by omega
      have HTK : Hid (L.take k = L) := Lib.hid (List.take_of_length_le (by rw [HL.out]; omega))
      rw [HTK.out] at HO HP
      have HJ : Hid (jOk L = alike (toks (jb L)) L) := Lib.hid (by unfold jOk; rw [HP.out, Bool.true_and])
      have HJL : Hid ((jb L).length = n) := Lib.hid HO.out.bs.hl
      go_wp2_with fail
      refine (all_any _ _ _ (jb L) _ HO.out.bs (HT.out.keep HB.out) (by omega)).mono ?_
      rintro e w1 ⟨a2, rfl, hr1, hb1⟩
      have HR := Lib.hid hr1.ts
      have HO1 := Lib.hid (HO.out.keep hb1 (Nat.le_refl _))
      have HB1 : Hid (Below w.heap.size w w1) := Lib.hid (HB.out.trans (hb1.mono HB.out.size))
      clear hr1 hb1
      obtain ⟨m, hm⟩ : ∃ m, m = (toks (jb L)).length := ⟨_, rfl⟩
      rw [← hm] at HR ⊢
      clear hm
      go_wp2_with fail
      refine (equal_any _ _ _ (toks (jb L)) _ _ _ L _ HR.out (H.out.below HB1.out)).mono ?_
      rintro e w2 ⟨rfl, hb2⟩
      have HO2 := Lib.hid (HO1.out.keep hb2 (Nat.le_refl _))
      have HB2 : Hid (Below w.heap.size w w2) := Lib.hid (HB1.out.trans (hb2.mono HB1.out.size))
      clear hb2
      cases hq : alike (toks (jb L)) L with
      | false =>
        have HF : Hid (jOk L = false) := Lib.hid (HJ.out.trans hq)
        clear hq
        go_wp2
        go_ret2
        exact ⟨none, 0, by unfold jnT jnE; rw [HF.out]; rfl, by unfold jnT; rw [HF.out]; exact Bs.nil _ _ _ (by decide), HB2.out⟩
      | true =>
        have HF : Hid (jOk L = true) := Lib.hid (HJ.out.trans hq)
        clear hq
        go_wp2_with fail
        refine (aloneB_any a1 n c1 _ hlc1).mono ?_
        rintro e w' ⟨rfl, rfl⟩
        have HT2 : Hid (Bs w2 a1 n n (jb L)) := Lib.hid ⟨HJL.out, Nat.le_refl _, Nat.le_trans HO.out.bs.lc HO.out.bs.cm, HO2.out.bs.rng, HO2.out.bs.at_⟩
        go_wp2
        go_ret2
        exact ⟨a1, n, by unfold jnT jnE; rw [HF.out, if_pos rfl, if_pos rfl, HJL.out]; rfl, by unfold jnT; rw [HF.out, if_pos rfl, HJL.out]; exact HT2.out, HB2.out⟩

end Go.Proofs.YtecabgmkoknbgaaDoor
