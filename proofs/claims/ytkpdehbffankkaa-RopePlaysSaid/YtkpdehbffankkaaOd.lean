/- RopeGrows' walk. -/
import Derived.Test.YtkpdehbffankkaaOc
import Derived.Test.YtkpdehbffankkaaNz
namespace Go.Proofs.Ytkpdehbffankkaa
open Go.RowKit

/-- A slice of uint16. -/
structure Us (w : World) (a : Option Addr) (len cap : Nat) (l : List Int) : Prop where
  hl : l.length = len
  lc : len ≤ cap
  cm : cap ≤ maxLen
  rng : ∀ x ∈ l, 0 ≤ x ∧ x ≤ 65535
  at_ : 0 < len → ∃ b off, a = some ⟨b, off, none⟩ ∧ b < w.heap.size ∧ ∀ j, j < len → w.cell? ⟨b, off + j, none⟩ = some (.int .u16 (bt l j))

theorem us_of_row {w : World} {a : Option Addr} {len cap : Nat} {zs : List Int}
    (h : (a = none ∧ len = 0 ∧ cap = 0 ∧ zs = []) ∨ ∃ x, a = some x ∧ len ≤ cap ∧ cap ≤ maxLen ∧ zs.length = cap ∧ (∀ i, i < zs.length → w.cell? (x.add i) = some (.int .u16 (zs.getD i 0))) ∧ ∀ n ∈ zs, (Lit.int .u16 n).wf = true) :
    Us w a len cap (zs.take len) := by
  rcases h with ⟨rfl, rfl, rfl, rfl⟩ | ⟨x, rfl, hl, hm, hz, hcell, hwz⟩
  · exact ⟨rfl, Nat.le_refl _, Nat.zero_le _, by simp, fun h => absurd h (by omega)⟩
  · refine ⟨by rw [List.length_take]; omega, hl, hm, fun y hy => ?_, fun h0 => ?_⟩
    · obtain ⟨z, rfl, hz⟩ := u16_nat (hwz y (List.take_subset _ _ hy))
      omega
    · obtain ⟨b, off, spot⟩ := x
      have h1 := hcell 0 (by omega)
      have hspot : spot = none := by simpa [Addr.add] using World.cell?_spot h1
      subst hspot
      refine ⟨b, off, rfl, ?_, fun j hj => ?_⟩
      · have := World.block_lt_of_cell? w _ h1
        simpa [Addr.add] using this
      · rw [bt_take _ _ _ hj, ← addr_add]; exact hcell j (by omega)

/-- A rope is as it was while another one is asked. -/
theorem RP.other {w w' : World} {b b' : Nat} {t t' : PT} {e e' : Nat} {sv sv' : Value} {dn dp dn' dp' : Int} (h : RP w b t e sv dn dp) (h' : RP w b' t' e' sv' dn' dp') (hg : w.grownBy w' (some b')) (hn : b ≠ b') : RP w' b t e sv dn dp :=
  h.kt (h'.ktg hg) (hg.block b h.lt (by simp [hn]))

theorem bt_ins {L : List Int} {k : Nat} {c : Int} (h : k ≤ L.length) : bt (ins L k [c]) k = c := by
  unfold ins
  rw [List.append_assoc, bt_append_right _ _ _ (by rw [List.length_take]; omega), List.length_take, Nat.min_eq_left h, Nat.sub_self]
  rfl

set_option maxRecDepth 100000 in
set_option maxHeartbeats 4000000 in
theorem grows_any (a : Option Addr) (len cap : Nat) (l : List Int) (w : World) (h : Us w a len cap l) :
    Calls Try.prog 5 #[.slice a len cap] w fun e w' => e = .returned (.bool true) ∧ Below w.heap.size w w' := by
  have H := Lib.hid h
  have hlm : len ≤ 9223372036854775807 := by have := h.lc; have := h.cm; unfold maxLen at this; omega
  clear h
  go_enter Try.func5, Try.ntmps5
  go_wp2_with fail
  refine (shown_any w).mono ?_
  rintro e w1 ⟨rfl, hb1⟩
  have HW1 := Lib.hid hb1
  clear hb1
  go_wp2_with fail
  refine (new_any none 0 0 [] w1 (Bs.nil _ _ _ (Nat.zero_le _)) (Nat.zero_le _)).mono ?_
  rintro e w2 ⟨g, t, rfl, h1, h2, h3, h4⟩
  have HW2 := Lib.hid (HW1.out.trans (h4.mono HW1.out.size))
  have HR := Lib.hid h1
  have HL := Lib.hid (show t.l.length = 0 by rw [h2]; rfl)
  have HGE := Lib.hid (Nat.le_trans HW1.out.size h3)
  clear h1 h2 h3 h4
  go_wp2
  go_loopw [4, 6] (fun v iv wr => ∃ (i g : Nat) (t : PT) (e : Nat) (sv : Value) (dn dp : Int), v = .pointer (some ⟨g, 0, none⟩) ∧ iv = .int .i64 i ∧ i ≤ len ∧ i ≤ 2048 ∧ Hid (RP wr g t e sv dn dp) ∧ Hid (t.l.length = i) ∧ Hid (w.heap.size ≤ g) ∧ Hid (Below w.heap.size w wr)) (fun _ iv _ => len - (intOf iv).toNat)
  case atStart => exact ⟨0, g, t, 0, _, _, _, rfl, rfl, by omega, by omega, HR, HL, HGE, HW2⟩
  case round =>
    clear HR HL HGE HW2 HW1
    obtain ⟨i, g, t, e, sv, dn, dp, rfl, rfl, hi, hi2, HR, HL, HGE, HW⟩ := hrel
    by_cases hlt : i < len
    · by_cases hlt2 : i < 2048
      · have hd1 : decide ((i : Int) < (len : Int)) = true := by simp; omega
        have hd2 : decide ((i : Int) < 2048) = true := by simp; omega
        obtain ⟨bl, off, rfl, hbl, hc⟩ := H.out.at_ (by omega)
        have hx := H.out.rng (l[i]'(by rw [H.out.hl]; exact hlt)) (List.getElem_mem _)
        have hxb : bt l i = l[i]'(by rw [H.out.hl]; exact hlt) := by simp [bt, List.getD, show i < l.length from by rw [H.out.hl]; exact hlt]
        rw [← hxb] at hx
        have hci0 := (HW.out.cell (p := ⟨bl, off + i, none⟩) hbl).trans (hc i hlt)
        obtain ⟨X, hX⟩ := Int.eq_ofNat_of_zero_le hx.1
        rw [hX] at hx hci0
        have hbw : bl < wr.heap.size := Nat.lt_of_lt_of_le hbl HW.out.size
        have hF : ∀ {w' : World}, Below wr.heap.size wr w' → w'.cell? ⟨bl, off + i, none⟩ = some (.int .u16 X) := fun hb => (hb.cell (p := ⟨bl, off + i, none⟩) hbw).trans hci0
        have y0 := wrap_nat X (by omega)
        obtain ⟨k, hk, hk2⟩ := tmod_nat (X : Int) i (by omega)
        have b1 := wrap_nat (i + 1) (by omega)
        rw [Int.natCast_add, show ((1 : Nat) : Int) = 1 from rfl] at b1
        have z0 : ¬ ((i : Int) + 1 = 0) := by omega
        obtain ⟨c, hcc⟩ : ∃ c, c = i % 256 := ⟨_, rfl⟩
        have hc8 : IntKind.u8.wrap (i : Int) = (c : Int) := by rw [IntKind.wrap_u8, hcc]; omega
        have hcr : (0 : Int) ≤ (c : Int) ∧ (c : Int) ≤ 255 := by omega
        have KL := Lib.hid (fun w' (hb : Below wr.heap.size wr w') => len_any (HR.out.below hb))
        rw [HL.out] at KL
        have KR := Lib.hid (fun w' g1 (hb : Below wr.heap.size wr w') (hg1 : w'.heap[g1]? = some (.cells #[.int .u8 (c : Int)] 5 (0, 0))) => rep_any k 0 (some ⟨g1, 0, none⟩) 1 1 [(c : Int)] (HR.out.below hb) (Bs.oneAt hg1 hcr) (by rw [HL.out]; omega) (by rw [HL.out]; omega))
        rw [nat0] at KR
        have HCR := Lib.hid hcr
        clear hX hxb hx hc hcc hcr
        go_wp2_with fail
        go_region_held3 (fun w' => w'.cell? ⟨bl, off + i, none⟩ = some (.int .u16 X)) (first | go_keep | exact hF ((Below.refl _ _).drew.alloc (Nat.le_refl _) _) | exact hF ((Below.refl _ _).alloc (Nat.le_refl _) _).drew | exact hF HQ.out) (first | (go_at_call 20; (with_reducible refine (KL.out _ ?_).mono ?_); (first | exact (Below.refl _ _).drew | exact (Below.refl _ _).drew.alloc (Nat.le_refl _) _ | exact ((Below.refl _ _).alloc (Nat.le_refl _) _).drew); rintro r w' ⟨rfl, rfl⟩) | (go_at_call 13; (with_reducible refine (KR.out _ _ ?_ ?_).mono ?_); (first | exact (Below.refl _ _).drew.alloc (Nat.le_refl _) _ | exact ((Below.refl _ _).alloc (Nat.le_refl _) _).drew); (first | exact heapAt1 _ _ | exact heapAt4 _ _); rintro r w3 ⟨g2, t2, e2, rfl, h1, h2, h3, h4⟩; have HQ : Hid (Below wr.heap.size wr w3) := Lib.hid ((((Below.refl _ _).alloc (Nat.le_refl _) _).drew).trans (h4.mono (by simp)))))
        all_goals
          have HR2 := Lib.hid h1
          have HL2 := Lib.hid (show t2.l = ins t.l k [(c : Int)] from h2)
          have HN2 : Hid (t2.l.length = i + 1) := Lib.hid (by rw [HL2.out, ins_length (by rw [HL.out]; exact hk), HL.out]; rfl)
          have hne : g ≠ g2 := by have := HR.out.lt; simp at h3; omega
          have HG2 : Hid (w.heap.size ≤ g2) := Lib.hid (by have := HW.out.size; simp at h3; omega)
          have HW3 := Lib.hid (HW.out.trans (HQ.out.mono HW.out.size))
          have HGW : Hid (wr.heap.size ≤ g2) := Lib.hid (by simp at h3; omega)
          have HR3 := Lib.hid (HR.out.below HQ.out)
          clear h1 h2 h3 h4 KR KL
          obtain ⟨D, hD⟩ : ∃ D, t2.d = D := ⟨_, rfl⟩
          have hD1 : 1 ≤ D := by rw [← hD]; exact t2.d_pos
          have hD2 : D ≤ 24 := by have := HR2.out.dle; have := HR2.out.e9; omega
          have hdd1 : decide ((D : Int) > 24) = false := by simp; omega
          have hdd2 : decide ((D : Int) < 1) = false := by simp; omega
          have KD := deep_any HR2.out
          rw [hD] at KD
          go_wp2_with fail
          refine KD.mono ?_
          rintro r w4 ⟨rfl, hr4, hg4⟩
          have HR4 := Lib.hid (HR3.out.other HR2.out hg4 hne)
          have HS4 := Lib.hid hr4
          have HB4 := Lib.hid (bs_gb hg4 (B := w.heap.size) HG2.out HW3.out.size)
          have HF4 := Lib.hid (bs_gb hg4 (B := wr.heap.size) (by have := HQ.out.size; exact HGW.out) HQ.out.size)
          clear KD hr4 hg4
          have KD := deep_any HS4.out
          rw [hD] at KD
          go_wp2_with fail
          refine KD.mono ?_
          rintro r w5 ⟨rfl, hr5, hg5⟩
          have HR5 := Lib.hid (HR4.out.other HS4.out hg5 hne)
          have HS5 := Lib.hid hr5
          have HB5 := Lib.hid (HB4.out.trans (bs_gb hg5 (B := w.heap.size) HG2.out (Nat.le_trans HW3.out.size HB4.out.size)))
          have HF5 := Lib.hid (HQ.out.trans (HF4.out.trans (bs_gb hg5 (B := wr.heap.size) HGW.out (Nat.le_trans HQ.out.size HF4.out.size))))
          clear KD hr5 hg5
          have KL2 := len_any HS5.out
          rw [HN2.out, Int.natCast_add, show ((1 : Nat) : Int) = 1 from rfl] at KL2
          have HKL2 := Lib.hid KL2
          clear KL2
          have hci5 := hF HF5.out
          have KL := Lib.hid (fun w' (hb : Below w5.heap.size w5 w') => len_any (HR5.out.below hb))
          rw [HL.out] at KL
          have KA := Lib.hid (fun w' (hb : Below w5.heap.size w5 w') => at_any k (HS5.out.below hb) (by rw [HN2.out]; omega))
          rw [HL2.out, bt_ins (by rw [HL.out]; exact hk)] at KA
          have HNE := Lib.hid hne
          clear hne
          go_wp2_with (first | (go_at_call 20; (with_reducible refine HKL2.out.mono ?_); rintro r w' ⟨rfl, rfl⟩))
          go_region_held3 (fun w' => w'.cell? ⟨bl, off + i, none⟩ = some (.int .u16 X)) (first | go_keep | exact hF HQ6.out) (first | (go_at_call 20; (with_reducible refine (KL.out _ ?_).mono ?_); (exact (Below.refl _ _).drew); rintro r w' ⟨rfl, rfl⟩) | (go_at_call 18; (with_reducible refine (KA.out _ ?_).mono ?_); (exact (Below.refl _ _).drew); rintro r w6 ⟨rfl, ⟨sv6, h6⟩, hg6⟩; have HQ6 : Hid (Below wr.heap.size wr w6) := Lib.hid ((HF5.out.drew).trans (bs_gb hg6 HGW.out HF5.out.size))))
          have HS6 := Lib.hid h6
          have HB6 := Lib.hid ((HW3.out.trans HB5.out).drew.trans (bs_gb hg6 (B := w.heap.size) HG2.out (Nat.le_trans HW3.out.size HB5.out.size)))
          clear h6 hg6 KL KA
          go_wp2
          go_roundw
          case rel => exact ⟨i + 1, g2, t2, e2, sv6, _, _, rfl, by go_num, by omega, by omega, HS6, HN2, HG2, HB6⟩
          case measure => simp [intOf]; omega
      · have hd1 : decide ((i : Int) < (len : Int)) = true := by simp; omega
        have hd2 : decide ((i : Int) < 2048) = false := by simp; omega
        go_wp2
        go_ret
        exact ⟨rfl, HW.out⟩
    · have hd1 : decide ((i : Int) < (len : Int)) = false := by simp; omega
      go_wp2
      go_ret
      exact ⟨rfl, HW.out⟩

end Go.Proofs.Ytkpdehbffankkaa
