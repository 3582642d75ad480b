/- Texts laid one behind the other. -/
import Derived.Test.YtjkjbgekpkhpfaaGreatDoorM4
import Derived.Lib.ItoaNum
import Derived.Lib.ItoaMem
import Derived.Shelf.Strconv.AppendIntPublic10
import Derived.Test.YtjkjbgekpkhpfaaGreatDoorSh
import Derived.Test.YtjkjbgekpkhpfaaGreatDoorM1
import Derived.Lib.Hide
import Derived.Below
import Derived.Stop.LaidErr
import Derived.Test.YtjkjbgekpkhpfaaGreatDoorM5

/- The plain mathematics of layer 3: a number's digits. No walk here. -/
namespace Go.Proofs.YtjkjbgekpkhpfaaGreatDoor
open Go.RowKit

/-- A number's digits, as bytes. -/
def digL (n : Nat) : List Int := (Lib.decDigits n).map fun b => (b.toNat : Int)

theorem digL_small {n : Nat} (h : n < 10) : digL n = [48 + (n : Int)] := by
  unfold digL
  rw [Lib.decDigits_one h]
  simp only [List.map_cons, List.map_nil, UInt8.toNat_ofNat']
  congr 1
  omega

theorem digL_big {n : Nat} (h : ¬ n < 10) : digL n = digL (n / 10) ++ [48 + ((n % 10 : Nat) : Int)] := by
  unfold digL
  rw [Lib.decDigits, dif_neg h]
  simp only [List.map_append, List.map_cons, List.map_nil, UInt8.toNat_ofNat']
  congr 2
  omega

theorem digL_cells (n : Nat) : (digL n).map (Value.int .u8) = Lib.byteCells (Lib.decDigits n) := by
  unfold digL Lib.byteCells; rw [List.map_map]; rfl

theorem digL_digs : ∀ n : Nat, digs (digL n) := by
  intro n
  induction n using Nat.strongRecOn with
  | ind n ih =>
    intro x hx
    by_cases h : n < 10
    · rw [digL_small h] at hx; simp at hx; omega
    · rw [digL_big h] at hx
      simp only [List.mem_append, List.mem_singleton] at hx
      rcases hx with hx | hx
      · exact ih (n / 10) (by omega) x hx
      · omega

theorem digL_rng (n : Nat) : ∀ x ∈ digL n, 0 ≤ x ∧ x ≤ 255 := fun x hx => by have := digL_digs n x hx; omega

theorem digL_len (n : Nat) : (digL n).length = (Lib.decDigits n).length := by unfold digL; simp

theorem digL_pos (n : Nat) : 0 < (digL n).length := by
  by_cases h : n < 10
  · rw [digL_small h]; simp
  · rw [digL_big h]; simp

theorem digL_le (n : Nat) (h : n ≤ 2147483647) : (digL n).length ≤ 10 := by
  suffices ∀ k n : Nat, n < 10 ^ (k + 1) → (digL n).length ≤ k + 1 from this 9 n (by omega)
  intro k
  induction k with
  | zero => intro n hn; rw [digL_small (by omega)]; simp
  | succ k ih =>
    intro n hn
    by_cases h : n < 10
    · rw [digL_small h]; simp
    · rw [digL_big h]
      have := ih (n / 10) (by rw [Nat.div_lt_iff_lt_mul (by omega)]; rw [Nat.pow_succ] at hn; exact hn)
      simp; omega

theorem numL_digL : ∀ n : Nat, numL (digL n) = n := by
  intro n
  induction n using Nat.strongRecOn with
  | ind n ih =>
    by_cases h : n < 10
    · rw [digL_small h]; show 0 * 10 + (48 + (n : Int) - 48) = n; omega
    · rw [digL_big h, numL_snoc, ih (n / 10) (by omega)]; omega

end Go.Proofs.YtjkjbgekpkhpfaaGreatDoor

/- Contract of package digits' Put. -/
namespace Go.Proofs.YtjkjbgekpkhpfaaGreatDoor
open Go.RowKit

/-- The library's table of powers is in its place. -/
def Pow (w : World) : Prop := Lib.TabIs Tryz.prog w "internal/strconv.uint64pow10" .u64 Lib.pow10Tab

theorem Pow.keep {w w' : World} (h : Pow w) (hb : Below w.heap.size w w') : Pow w' := Lib.tabBelow_of_tabIs h w' hb

theorem powCells : cellsFor Tryz.prog 3 161 (Rows.laid_internal_strconv_uint64pow10 (H := Unit)) = some (Lib.pow10Tab.map fun z => Value.int .u64 z) := by kernel_rfl
theorem powNum : Tryz.prog.globalNamed "internal/strconv.uint64pow10" = some 1 := by kernel_rfl
theorem powTyp : (Tryz.prog.globals[1]?).map (·.type) = some 161 := by kernel_rfl

theorem pow_of_laid {W : World} {rest : List (String × DataW Unit)} (h : laidMet Tryz.prog (("internal/strconv.uint64pow10", Rows.laid_internal_strconv_uint64pow10) :: rest) W) : Pow W :=
  laid_cells powNum powTyp powCells h

/-- digits.Put's answer at a number that it takes. -/
def PutPost (n : Nat) (w : World) (e : Ending) (w' : World) : Prop :=
  ∃ a c, e = .returned (.tuple #[.slice a (digL n).length c, .int .i64 0]) ∧ OwnB w.heap.size 5 w' a (digL n).length c (digL n) ∧ Below w.heap.size w w'

set_option maxHeartbeats 400000 in
theorem put_any (n : Nat) (w : World) (h : n ≤ 2147483647) (hp : Pow w) :
    Calls Tryz.prog 24 #[.int .i64 n] w (PutPost n w) := by
  have hT := Lib.tabBelow_of_tabIs hp
  have hlen := digL_le n h
  have HT := Lib.hid hT
  clear hT hp
  go_enter Tryz.func24, Tryz.ntmps24
  go_wp2_with (go_at_call 44; refine (Tryz.strconv_AppendInt_10 w.heap.size 0 n (by omega) (by omega) (.slice none 0 0) [] w (World.ownsRow_nil _ _ _ _) (Nat.le_refl _) (by omega) HT.out).mono ?_; rintro e w1 ⟨v1, rfl, hown1, hnx1, -⟩; refine Hid.out ?_)
  refine Lib.hid ?_
  have e0 : Lib.itoa (n : Int) = Lib.decDigits n := Lib.itoa_nonneg n
  rw [Nat.zero_add, List.nil_append, e0, ← digL_cells, ← digL_len] at hown1
  have hO : ∃ a c, v1 = .slice a (digL n).length c ∧ OwnB w.heap.size 5 w1 a (digL n).length c (digL n) := by
    rcases hown1.2 with ⟨hv, h0⟩ | ⟨g, cp, cur, hv, r⟩
    · have := digL_pos n; omega
    · subst hv; exact ⟨_, _, rfl, hown1, digL_rng n⟩
  obtain ⟨a, c, rfl, hO⟩ := hO
  have HO := Lib.hid hO
  have HB := Lib.hid hnx1
  clear hown1 e0 hO hnx1
  go_wp2
  exact bodyPost_ret (v := .tuple #[.slice a (digL n).length c, .int .i64 0]) (by simp [results, Tryz.results24, go_sem]) rfl ⟨a, c, rfl, HO.out, HB.out⟩

theorem put_bad (n : Int) (w : World) (h : n < 0 ∨ 2147483647 < n) :
    Calls Tryz.prog 24 #[.int .i64 n] w fun e w' => e = .returned (.tuple #[.slice none 0 0, .int .i64 1]) ∧ w = w' := by
  rcases h with h | h
  · go_enter Tryz.func24, Tryz.ntmps24
    go_wp2
    exact bodyPost_ret (v := .tuple #[.slice none 0 0, .int .i64 1]) (by simp [results, Tryz.results24, go_sem]) rfl ⟨rfl, rfl⟩
  · have h' : ¬ n < 0 := by omega
    go_enter Tryz.func24, Tryz.ntmps24
    go_wp2
    exact bodyPost_ret (v := .tuple #[.slice none 0 0, .int .i64 1]) (by simp [results, Tryz.results24, go_sem]) rfl ⟨rfl, rfl⟩

end Go.Proofs.YtjkjbgekpkhpfaaGreatDoor

/- Contract of package quote's Put. -/
namespace Go.Proofs.YtjkjbgekpkhpfaaGreatDoor
open Go.RowKit

set_option maxRecDepth 20000 in
set_option maxHeartbeats 2000000 in
theorem qput_any (a : Option Addr) (len cap : Nat) (l : List Int) (w : World) (h : Bs w a len cap l) (ht : Tab w) (hsz : len ≤ 400000) :
    Calls Tryz.prog 25 #[.slice a len cap] w fun e w' => ∃ a' c', e = .returned (.tuple #[.slice a' (ptT l).length c', .int .i64 (ptE l)]) ∧ OwnB w.heap.size 5 w' a' (ptT l).length c' (ptT l) ∧ Below w.heap.size w w' := by
  have hlc := h.lc
  have hcm := h.cm
  unfold maxLen at hcm
  have H := Lib.hid h
  have HT := Lib.hid ht
  have HR := Lib.hid h.rng
  have HL := Lib.hid h.hl
  clear h ht
  have HO0 : Hid (OwnB w.heap.size 5 (w.alloc (.cells #[.int .u8 39] 5)) (some ⟨w.heap.size, 0, none⟩) 1 1 (39 :: escL (l.take 0))) := Lib.hid (OwnB.lit w 5 _ (Nat.le_refl _) rfl (by simp [escL_nil]) rfl rfl (by decide))
  have HB0 : Hid (Below w.heap.size w (w.alloc (.cells #[.int .u8 39] 5))) := Lib.hid ((Below.refl _ _).alloc (Nat.le_refl _) _)
  go_enter Tryz.func25, Tryz.ntmps25
  go_wp2
  go_loopw [4, 13] (fun v i wr => ∃ a1 c1, ∃ n k : Nat, v = .slice a1 n c1 ∧ i = .int .i64 k ∧ k ≤ len ∧ n ≤ 1 + 2 * k ∧ Hid (OwnB w.heap.size 5 wr a1 n c1 (39 :: escL (l.take k))) ∧ Hid (Below w.heap.size w wr)) (fun _ i _ => len - (intOf i).toNat)
  case atStart => exact ⟨some ⟨w.heap.size, 0, none⟩, 1, 1, 0, rfl, rfl, by omega, by omega, HO0, HB0⟩
  case round =>
    obtain ⟨a1, c1, n, k, rfl, rfl, hk, hn, HO, HB⟩ := hrel
    clear HB0 HO0
    rename World => wa
    by_cases hlt : k < len
    · have hwa := H.out.below HB.out
      obtain ⟨b, off, rfl, _, hc⟩ := hwa.at_ (by omega)
      have hcs := hc k hlt
      have HS := Lib.hid (escL_snoc l k (by rw [HL.out]; exact hlt))
      have hrng := bt_rng HR.out k
      have hr0 := hrng.1
      have hr1 := hrng.2
      clear hwa hrng hc
      by_cases h1 : bt l k = 39
      · have HE : Hid (esc (bt l k) = [bt l k, bt l k]) := Lib.hid (by unfold esc; rw [if_pos (Or.inl h1)])
        have e1 : (bt l k == 39) = true := by simpa using h1
        clear h1
        go_wp2_with (at_builtin; refine Hid.out ?_)
        refine Lib.hid ?_
        refine wpList_app rfl (.tmp 25) (.tmp 28) 48 rfl 5 w.heap.size Tryz.underlying48 info5 _ _ _ _ rfl (HO.out.alloc _) _ _ _ [bt l k, bt l k] rfl (Bs.lit _ 5 (by simp) (by simp; omega) rfl rfl (by decide)) (by omega) (by have := HB.out.size; simp; omega) ?_
        intro a2 c2 w4 ho4 hb4
        have HO4 : Hid (OwnB w.heap.size 5 w4 a2 (n + 2) c2 (39 :: escL (l.take (k + 1)))) := Lib.hid (by rw [HS.out, HE.out]; exact ho4)
        have HB4 := Lib.hid ((HB.out.alloc HB.out.size _).trans hb4)
        clear ho4 hb4
        go_wp2
        go_roundw
        case rel => exact ⟨_, _, n + 2, k + 1, rfl, by go_num, by omega, by omega, HO4, HB4⟩
        case measure => simp [intOf]; omega
      · have e1 : (bt l k == 39) = false := by simpa using h1
        by_cases h2 : bt l k = 92
        · have HE : Hid (esc (bt l k) = [bt l k, bt l k]) := Lib.hid (by unfold esc; rw [if_pos (Or.inr h2)])
          have e2 : (bt l k == 92) = true := by simpa using h2
          clear h1 h2
          go_wp2_with (at_builtin; refine Hid.out ?_)
          refine Lib.hid ?_
          refine wpList_app rfl (.tmp 25) (.tmp 28) 48 rfl 5 w.heap.size Tryz.underlying48 info5 _ _ _ _ rfl (HO.out.alloc _) _ _ _ [bt l k, bt l k] rfl (Bs.lit _ 5 (by simp) (by simp; omega) rfl rfl (by decide)) (by omega) (by have := HB.out.size; simp; omega) ?_
          intro a2 c2 w4 ho4 hb4
          have HO4 : Hid (OwnB w.heap.size 5 w4 a2 (n + 2) c2 (39 :: escL (l.take (k + 1)))) := Lib.hid (by rw [HS.out, HE.out]; exact ho4)
          have HB4 := Lib.hid ((HB.out.alloc HB.out.size _).trans hb4)
          clear ho4 hb4
          go_wp2
          go_roundw
          case rel => exact ⟨_, _, n + 2, k + 1, rfl, by go_num, by omega, by omega, HO4, HB4⟩
          case measure => simp [intOf]; omega
        · have e2 : (bt l k == 92) = false := by simpa using h2
          by_cases h3 : bt l k = 10
          · have HE : Hid (esc (bt l k) = [92, 110]) := Lib.hid (by unfold esc; rw [if_neg (by omega), if_pos h3])
            have e3 : (bt l k == 10) = true := by simpa using h3
            clear h1 h2 h3
            go_wp2_with (at_builtin; refine Hid.out ?_)
            refine Lib.hid ?_
            refine wpList_app rfl (.tmp 32) (.tmp 33) 48 rfl 5 w.heap.size Tryz.underlying48 info5 _ _ _ _ rfl (HO.out.alloc _) _ _ _ [92, 110] rfl (Bs.lit _ 5 (by simp) (by simp) rfl rfl (by decide)) (by omega) (by have := HB.out.size; simp; omega) ?_
            intro a2 c2 w4 ho4 hb4
            have HO4 : Hid (OwnB w.heap.size 5 w4 a2 (n + 2) c2 (39 :: escL (l.take (k + 1)))) := Lib.hid (by rw [HS.out, HE.out]; exact ho4)
            have HB4 := Lib.hid ((HB.out.alloc HB.out.size _).trans hb4)
            clear ho4 hb4
            go_wp2
            go_roundw
            case rel => exact ⟨_, _, n + 2, k + 1, rfl, by go_num, by omega, by omega, HO4, HB4⟩
            case measure => simp [intOf]; omega
          · have e3 : (bt l k == 10) = false := by simpa using h3
            have HE : Hid (esc (bt l k) = [bt l k]) := Lib.hid (by unfold esc; rw [if_neg (by omega), if_neg h3])
            clear h1 h2 h3
            go_wp2_with (at_builtin; refine Hid.out ?_)
            refine Lib.hid ?_
            refine wpList_app rfl (.tmp 18) (.tmp 20) 48 rfl 5 w.heap.size Tryz.underlying48 info5 _ _ _ _ rfl (HO.out.alloc _) _ _ _ [bt l k] rfl (Bs.lit _ 5 (by simp) (by simp; omega) rfl rfl (by decide)) (by omega) (by have := HB.out.size; simp; omega) ?_
            intro a2 c2 w4 ho4 hb4
            have HO4 : Hid (OwnB w.heap.size 5 w4 a2 (n + 1) c2 (39 :: escL (l.take (k + 1)))) := Lib.hid (by rw [HS.out, HE.out]; exact ho4)
            have HB4 := Lib.hid ((HB.out.alloc HB.out.size _).trans hb4)
            clear ho4 hb4
            go_wp2
            go_roundw
            case rel => exact ⟨_, _, n + 1, k + 1, rfl, by go_num, by omega, by omega, HO4, HB4⟩
            case measure => simp [intOf]; omega
    · have hkl : k = len := by omega
      have HF : Hid (l.take k = l) := Lib.hid (by rw [List.take_of_length_le (by rw [HL.out]; omega)])
      rw [HF.out] at HO
      have HLE : Hid ((putL l).length = n + 1) := Lib.hid (by have := HO.out.bs.hl; unfold putL; simp at this ⊢; omega)
      clear hlt
      go_wp2_with (at_builtin; refine Hid.out ?_)
      refine Lib.hid ?_
      refine wpList_app rfl (.tmp 36) (.tmp 37) 48 rfl 5 w.heap.size Tryz.underlying48 info5 _ _ _ (39 :: escL l) rfl (HO.out.alloc _) _ _ _ [39] rfl (Bs.lit _ 5 (by simp) (by simp) rfl rfl (by decide)) (by omega) (by have := HB.out.size; simp; omega) ?_
      intro a2 c2 w4 ho4 hb4
      have HO4 : Hid (OwnB w.heap.size 5 w4 a2 (n + 1) c2 (putL l)) := Lib.hid ho4
      have HB4 := Lib.hid ((HB.out.alloc HB.out.size _).trans hb4)
      clear ho4 hb4
      go_wp2_with fail
      refine (qtake_any _ _ _ _ _ HO4.out.bs (HT.out.keep HB4.out) (by omega)).mono ?_
      rintro e w5 ⟨a3, c3, rfl, _, hb5⟩
      have HO5 := Lib.hid (HO4.out.keep hb5 (Nat.le_refl _))
      have HB5 : Hid (Below w.heap.size w w5) := Lib.hid (HB4.out.trans (hb5.mono HB4.out.size))
      clear hb5
      by_cases hok : (tk (putL l)).e = 0
      · have HV : Hid (ptT l = putL l ∧ ptE l = 0) := Lib.hid (by unfold ptT ptE ptOk; rw [hok]; exact ⟨rfl, rfl⟩)
        go_wp2
        go_ret2
        exact ⟨a2, c2, by rw [HV.out.1, HV.out.2, HLE.out]; rfl, by rw [HV.out.1, HLE.out]; exact HO5.out, HB5.out⟩
      · have HV : Hid (ptT l = [] ∧ ptE l = 1) := Lib.hid (by unfold ptT ptE ptOk; simp [hok])
        have heq : ((tk (putL l)).e == 0) = false := by simpa using hok
        clear hok
        go_wp2
        go_ret2
        exact ⟨none, 0, by rw [HV.out.1, HV.out.2]; rfl, by rw [HV.out.1]; exact OwnB.none0, HB5.out⟩

end Go.Proofs.YtjkjbgekpkhpfaaGreatDoor
