/- Contract of package rope's add. -/
import Derived.Test.YtkpdehbffankkaaNb
namespace Go.Proofs.Ytkpdehbffankkaa
open Go.RowKit

/-- 'append(s, x...)', s a row of the call's own or nil, x a string. -/
theorem wp_app_strg {P : Program} {w : World} {o : Oper} {a : Act} {K : Act → World → Prop} {Q : Exit → Act → World → Prop} (s x : Operand) (t u : TypeId)
    (ho : o.op = .call { callee := .builtin .append, args := #[s, x], argTypes := #[t, u] })
    (e base : Nat) (ht : P.underlying t = some (.slice e)) (hu : P.underlying u = some .string) (hinf : (P.info? e).map (fun i => (i.zero, i.size, i.bytes)) = some (some (.int .u8 0), 1, 1))
    (sa : Option Addr) (n c : Nat) (l : List Int) (hs : a.eval s = .slice sa n c) (hown : OwnB base e w sa n c l)
    (b : ByteArray) (k : List Int) (hx : a.eval x = .string b) (hk : Lib.strCells b = k.map (Value.int .u8)) (hkr : ∀ x ∈ k, 0 ≤ x ∧ x ≤ 255)
    (hbig : n + k.length ≤ 140737488355328) (hbase : base ≤ w.heap.size)
    (h : ∀ a' c' w', OwnB base e w' a' (n + k.length) c' (l ++ k) → w.grownBy w' (Value.ownBlock (.slice sa n c)) → Below base w w' → K (a.put o.dst (.slice a' (n + k.length) c')) w') : o.wp P a w K Q := by
  obtain ⟨i, hi, hz, hsz, hby⟩ := info_parts hinf
  have hsize : b.size = k.length := by rw [← Lib.strCells_length, hk, List.length_map]
  have hlt : n + b.size ≤ maxLen := by unfold maxLen; omega
  obtain ⟨v', w', hr, h2, h3, h4⟩ := Lib.run_append_own_string (P := P) w base t u o.type e i ht hu hi hz hsz hby _ n _ hown.1 b hlt (by omega) hbase
  unfold Oper.wp execOp
  simp only [ho, resolve, invoke, builtin, Sem.run_bind, Sem.run_pure, Result.andThen_ok, List.map_toArray, List.map_cons, List.map_nil, hs, hx, hr]
  rw [hk, ← List.map_append, hsize] at h2
  have hbe : Below base w w' := (Below.refl base w).grown h3 hbase fun k hk => (hown.1.lt k hk).1
  have hrng : ∀ x ∈ l ++ k, 0 ≤ x ∧ x ≤ 255 := by
    intro x hx
    rcases List.mem_append.1 hx with h | h
    · exact hown.2 x h
    · exact hkr x h
  rcases h2.2 with ⟨rfl, hn0⟩ | ⟨g, cp, cur, rfl, r⟩
  · have hh := h none 0 w' ⟨by rw [hn0]; rw [hn0] at h2; exact h2, hrng⟩ h3 hbe
    rw [hn0] at hh; exact hh
  · exact h _ _ w' ⟨h2, hrng⟩ h3 hbe

theorem step_app_strg {P : Program} {w : World} {ops : Array Oper} {o : Oper} {a : Act} {K : Act → World → Prop} {Q : Exit → Act → World → Prop} {E : Prop} (hgd : o.guard = none) (s x : Operand) (t u : TypeId)
    (ho : o.op = .call { callee := .builtin .append, args := #[s, x], argTypes := #[t, u] })
    (e base : Nat) (ht : P.underlying t = some (.slice e)) (hu : P.underlying u = some .string) (hinf : (P.info? e).map (fun i => (i.zero, i.size, i.bytes)) = some (some (.int .u8 0), 1, 1))
    (sa : Option Addr) (n c : Nat) (l : List Int) (hs : a.eval s = .slice sa n c) (hown : OwnB base e w sa n c l)
    (b : ByteArray) (k : List Int) (hx : a.eval x = .string b) (hk : Lib.strCells b = k.map (Value.int .u8)) (hkr : ∀ x ∈ k, 0 ≤ x ∧ x ≤ 255)
    (hbig : n + k.length ≤ 140737488355328) (hbase : base ≤ w.heap.size)
    (h : ∀ a' c' w', OwnB base e w' a' (n + k.length) c' (l ++ k) → w.grownBy w' (Value.ownBlock (.slice sa n c)) → Below base w w' → K (a.put o.dst (.slice a' (n + k.length) c')) w') :
    if Region.wanted o (yielded ops a.tmps) = true then o.wp P a w K Q else E := by
  rw [if_pos (show Region.wanted o (yielded ops a.tmps) = true by simp [Region.wanted, hgd])]
  exact wp_app_strg s x t u ho e base ht hu hinf sa n c l hs hown b k hx hk hkr hbig hbase h

theorem wpList_app_strg {P : Program} {ops : Array Oper} {rest : List Oper} {w : World} {o : Oper} {a : Act} {Q : Exit → Act → World → Prop} (hw : Region.wanted o (yielded ops a.tmps) = true) (s x : Operand) (t u : TypeId)
    (ho : o.op = .call { callee := .builtin .append, args := #[s, x], argTypes := #[t, u] })
    (e base : Nat) (ht : P.underlying t = some (.slice e)) (hu : P.underlying u = some .string) (hinf : (P.info? e).map (fun i => (i.zero, i.size, i.bytes)) = some (some (.int .u8 0), 1, 1))
    (sa : Option Addr) (n c : Nat) (l : List Int) (hs : a.eval s = .slice sa n c) (hown : OwnB base e w sa n c l)
    (b : ByteArray) (k : List Int) (hx : a.eval x = .string b) (hk : Lib.strCells b = k.map (Value.int .u8)) (hkr : ∀ x ∈ k, 0 ≤ x ∧ x ≤ 255)
    (hbig : n + k.length ≤ 140737488355328) (hbase : base ≤ w.heap.size)
    (h : ∀ a' c' w', OwnB base e w' a' (n + k.length) c' (l ++ k) → w.grownBy w' (Value.ownBlock (.slice sa n c)) → Below base w w' → wpList P ops Q rest (a.put o.dst (.slice a' (n + k.length) c')) w') : wpList P ops Q (o :: rest) a w :=
  wpList_step fun K hK => by
    rw [if_pos hw]
    exact wp_app_strg s x t u ho e base ht hu hinf sa n c l hs hown b k hx hk hkr hbig hbase fun a' c' w' h1 h2 h3 => hK _ _ (h a' c' w' h1 h2 h3)

/-- A string's cells. -/
theorem strCells_bstr (l : List Int) (h : ∀ x ∈ l, 0 ≤ x ∧ x ≤ 255) : Lib.strCells (bstr l) = l.map (Value.int .u8) := by
  unfold Lib.strCells bstr
  rw [List.map_map]
  apply List.map_congr_left
  intro x hx
  simp only [Function.comp]
  rw [u8_back (h x hx)]

theorem run_sub (w : World) (l : List Int) (f t : Nat) (hft : f ≤ t) (ht : t ≤ l.length) :
    (Instr.slice 9 (.string (bstr l)) (some (.int .i64 f)) (some (.int .i64 t)) none).run Try.prog w = .ok (.string (bstr ((l.take t).drop f))) w := by
  have := run_slice_string (P := Try.prog) w 9 (bstr l) .i64 .i64 f t Try.underlying9 (by omega) (by omega) (by rw [PT.bstr_size]; omega)
  rw [this, Int.toNat_natCast, Int.toNat_natCast, bstr_sub]

/-- Some of the bytes. -/
def sub (l : List Int) (f t : Nat) : List Int := (l.take t).drop f

theorem sub_len {l : List Int} {f t : Nat} (ht : t ≤ l.length) : (sub l f t).length = t - f := by
  unfold sub; rw [List.length_drop, List.length_take]; omega
theorem sub_rng {l : List Int} {f t : Nat} (h : ∀ x ∈ l, 0 ≤ x ∧ x ≤ 255) : ∀ x ∈ sub l f t, 0 ≤ x ∧ x ≤ 255 :=
  fun x hx => h x (List.take_subset _ _ (List.drop_subset _ _ hx))
theorem sub_none {l : List Int} {f t : Nat} (h : t ≤ f) : sub l f t = [] := by
  unfold sub; rw [List.drop_eq_nil_iff, List.length_take]; omega
theorem sub_append (x y : List Int) (f t : Nat) : sub (x ++ y) f t = sub x (min f x.length) (min t x.length) ++ sub y (f - x.length) (t - x.length) := by
  unfold sub
  rw [List.take_append, List.drop_append]
  by_cases h : f ≤ x.length
  · rw [Nat.min_eq_left h]
    by_cases h2 : t ≤ x.length
    · rw [Nat.min_eq_left h2]
      simp [show t - x.length = 0 from by omega]
    · rw [Nat.min_eq_right (by omega : x.length ≤ t), List.take_of_length_le (l := x) (by omega), List.take_of_length_le (l := x) (Nat.le_refl _)]
  · rw [Nat.min_eq_right (by omega : x.length ≤ f)]
    by_cases h2 : t ≤ x.length
    · rw [Nat.min_eq_left h2]
      simp [show t - x.length = 0 from by omega]
      omega
    · rw [Nat.min_eq_right (by omega : x.length ≤ t), List.take_of_length_le (l := x) (by omega), List.take_of_length_le (l := x) (Nat.le_refl _)]
      simp
      omega

set_option maxRecDepth 20000 in
theorem add_any : ∀ (t : PT) (f k : Nat) (sa : Option Addr) (n c : Nat) (L : List Int) (base : Nat) (w : World), t.ok w → f ≤ k → k ≤ t.l.length → n + t.l.length ≤ 4000000 → base ≤ w.heap.size → OwnB base 5 w sa n c L →
    Calls Try.prog 24 #[.slice sa n c, t.v, .int .i64 f, .int .i64 k] w fun e w' => ∃ a' c', e = .returned (.slice a' (n + (k - f)) c') ∧ OwnB base 5 w' a' (n + (k - f)) c' (L ++ sub t.l f k) ∧ Below base w w' ∧ PT.Kt w w' := by
  intro t
  induction t with
  | nil =>
    intro f k sa n c L base w _ hfk hk _ _ ho
    have hk0 : k = 0 := by simpa [PT.l] using hk
    subst hk0
    obtain rfl : f = 0 := by omega
    have HO := Lib.hid ho
    clear ho
    rw [show PT.nil.v = .pointer none from rfl]
    go_enter Try.func24, Try.ntmps24
    go_wp2
    go_ret
    exact ⟨sa, c, rfl, by rw [sub_none (Nat.le_refl _), List.append_nil]; exact HO.out, Below.refl _ _, PT.Kt.refl _⟩
  | leaf b l =>
    intro f k sa n c L base w h hfk hk hb hba ho
    obtain ⟨c0, c1, _, _⟩ := PT.leaf_cells h
    rw [show (PT.leaf b l).v = .pointer (some ⟨b, 0, none⟩) from rfl]
    by_cases hlt : f < k
    · have hd : decide ((f : Int) ≥ (k : Int)) = false := by simp; omega
      have ks : ∀ w, (Instr.slice 9 (.string (bstr l)) (some (.int .i64 f)) (some (.int .i64 k)) none).run Try.prog w = .ok (.string (bstr (sub l f k))) w := fun w => run_sub w l f k hfk hk
      have hsl : (sub l f k).length = k - f := sub_len hk
      have HS := Lib.hid (strCells_bstr (sub l f k) (sub_rng h.2))
      have HR := Lib.hid (sub_rng (f := f) (t := k) h.2)
      have HO := Lib.hid ho
      have hk' : n + l.length ≤ 4000000 := hb
      have hk2 : k ≤ l.length := hk
      have HSL := Lib.hid hsl
      clear h ho hb hk hsl
      go_enter Try.func24, Try.ntmps24
      go_wp2_with (first | (go_at_call 36; go_in) | (at_builtin; refine wpList_app_strg rfl (.tmp 18) (.tmp 25) 22 9 rfl 5 base Try.underlying22 Try.underlying9 info5 sa n c L rfl HO.out (bstr (sub l f k)) (sub l f k) rfl HS.out HR.out (by rw [HSL.out]; omega) hba ?_; intro a' c' w1 h1 h2 h3; have HG : Hid (PT.Kt w w1) := Lib.hid (PT.Kt.grown HO.out h2); have H1 := Lib.hid h1; have H3 := Lib.hid h3; clear h1 h2 h3; rw [HSL.out] at H1 ⊢))
      go_ret
      exact ⟨a', c', rfl, H1.out, H3.out, HG.out⟩
    · obtain rfl : f = k := by omega
      have hd : decide ((f : Int) ≥ (f : Int)) = true := by simp
      have HO := Lib.hid ho
      clear ho h
      go_enter Try.func24, Try.ntmps24
      go_wp2
      go_ret
      exact ⟨sa, c, by rw [Nat.sub_self]; rfl, by rw [sub_none (Nat.le_refl _), List.append_nil, Nat.sub_self]; exact HO.out, Below.refl _ _, PT.Kt.refl _⟩
  | node b x y ihx ihy =>
    intro f k sa n c L base w h hfk hk hb hba ho
    obtain ⟨c0, c1, c2, _⟩ := PT.node_cells h
    obtain ⟨bx, hbx, cx⟩ := v_addr h.2.2.1 h.2.1
    have hlk : n + (x.l.length + y.l.length) ≤ 4000000 := by rw [← List.length_append]; exact hb
    have hkk : k ≤ x.l.length + y.l.length := by rw [← List.length_append]; exact hk
    have HX := Lib.hid h.2.2.1
    have HY := Lib.hid h.2.2.2
    have HO := Lib.hid ho
    have ihx' := ihx (min f x.l.length) (min k x.l.length) sa n c L base w h.2.2.1 (by omega) (by omega) (by omega) hba ho
    rw [show (PT.node b x y).v = .pointer (some ⟨b, 0, none⟩) from rfl]
    by_cases hlt : f < k
    · have hd : decide ((f : Int) ≥ (k : Int)) = false := by simp; omega
      have hsub : sub (PT.node b x y).l f k = _ := sub_append x.l y.l f k
      have HS := Lib.hid hsub
      rw [hbx] at c1 ihx'
      have hb1 : b < w.heap.size := World.block_lt_of_cell? w _ c1
      have HN := Lib.hid h
      clear h hk hb hsub ihx ho
      obtain ⟨p, hp⟩ : ∃ p, x.l.length = p := ⟨_, rfl⟩
      obtain ⟨q, hq⟩ : ∃ q, y.l.length = q := ⟨_, rfl⟩
      rw [hp] at cx ihx' HS
      rw [hp, hq] at hlk hkk
      have HP := Lib.hid hp
      have HQ := Lib.hid hq
      clear hp hq hbx
      obtain ⟨f1, hf1⟩ : ∃ f1, min f p = f1 := ⟨_, rfl⟩
      obtain ⟨k1, hk1⟩ : ∃ k1, min k p = k1 := ⟨_, rfl⟩
      obtain ⟨f2, hf2⟩ : ∃ f2, f - p = f2 := ⟨_, rfl⟩
      obtain ⟨k2, hk2⟩ : ∃ k2, k - p = k2 := ⟨_, rfl⟩
      have m1 : min (f : Int) (p : Int) = (f1 : Int) := by omega
      have m2 : min (k : Int) (p : Int) = (k1 : Int) := by omega
      have m3 : max ((f : Int) - (p : Int)) 0 = (f2 : Int) := by omega
      have m4 : max ((k : Int) - (p : Int)) 0 = (k2 : Int) := by omega
      have w1 : IntKind.i64.wrap ((f : Int) - (p : Int)) = (f : Int) - (p : Int) := by rw [IntKind.wrap_i64]; omega
      have w2 : IntKind.i64.wrap ((k : Int) - (p : Int)) = (k : Int) - (p : Int) := by rw [IntKind.wrap_i64]; omega
      have e1 : n + (k1 - f1) + (k2 - f2) = n + (k - f) := by omega
      have b1 : n + (k1 - f1) + q ≤ 4000000 := by omega
      have b2 : f2 ≤ k2 := by omega
      have b3 : k2 ≤ q := by omega
      rw [hf1, hk1] at ihx' HS
      rw [hf2, hk2] at HS
      have IX := Lib.hid ihx'
      have IY := Lib.hid ihy
      have E1 := Lib.hid e1
      clear ihx' ihy hf1 hk1 hf2 hk2 e1
      go_enter Try.func24, Try.ntmps24
      go_wp2_with (first | (go_at_call 36; go_in))
      refine IX.out.mono ?_
      rintro e w1 ⟨a1, c1', rfl, ho1, hbw1, hk1⟩
      have c2' : w1.cell? ⟨b, 2, none⟩ = some y.v := (PT.node_cells (PT.ok.kt hk1 _ HN.out)).2.2.1
      have HB1 := Lib.hid hbw1
      have HK1 := Lib.hid hk1
      have HO1 := Lib.hid ho1
      clear hbw1 hk1 ho1
      go_wp2_with fail
      refine (IY.out f2 k2 a1 _ c1' _ base w1 (PT.ok.kt HK1.out y HY.out) b2 (by rw [HQ.out]; exact b3) (by rw [HQ.out]; exact b1) (Nat.le_trans hba HB1.out.size) HO1.out).mono ?_
      rintro e w2 ⟨a2, c2'', rfl, ho2, hbw2, hk2⟩
      rw [E1.out] at ho2 ⊢
      have HO2 : Hid (OwnB base _ w2 a2 _ c2'' (L ++ sub (PT.node b x y).l f k)) := Lib.hid (by rw [HS.out, ← List.append_assoc]; exact ho2)
      have HB2 := Lib.hid (HB1.out.trans hbw2)
      have HK2 := Lib.hid (HK1.out.trans hk2)
      clear ho2 hbw2 hk2
      go_wp2
      go_ret
      exact ⟨a2, c2'', rfl, HO2.out, HB2.out, HK2.out⟩
    · obtain rfl : f = k := by omega
      have hd : decide ((f : Int) ≥ (f : Int)) = true := by simp
      clear ho h ihx' ihx ihy
      go_enter Try.func24, Try.ntmps24
      go_wp2
      go_ret
      exact ⟨sa, c, by rw [Nat.sub_self]; rfl, by rw [sub_none (Nat.le_refl _), List.append_nil, Nat.sub_self]; exact HO.out, Below.refl _ _, PT.Kt.refl _⟩

end Go.Proofs.Ytkpdehbffankkaa
