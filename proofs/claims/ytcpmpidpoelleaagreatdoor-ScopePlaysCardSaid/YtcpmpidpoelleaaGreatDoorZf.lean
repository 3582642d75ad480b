/- scope.owned. -/
import Derived.Test.YtcpmpidpoelleaaGreatDoorZe
namespace Go.Proofs.YtcpmpidpoelleaaGreatDoor
open Go.RowKit

/-- A row of n envs of the call's own in block G, so far i of them those of V, each with operators of its own. -/
def OwP (w : World) (G : Nat) (V : List AV) (n i : Nat) : Prop := ∃ (V' : List AV) (Z : List Value), w.heap[G]? = some (.cells (rowA V' ++ Z).toArray 28 (0, 0)) ∧ V'.length = i ∧ Z.length = (n - i) * 11 ∧ (∀ y ∈ V', y.own w) ∧ V'.map AV.k = (V.take i).map AV.k
section
variable {w w' : World} {G n i : Nat} {V : List AV}
theorem AV.own.below {x : AV} (h : x.own w) (hb : Below w.heap.size w w') : x.own w' := ⟨h.1.keep hb (Nat.le_refl _), h.2⟩
theorem OwP.below (h : OwP w G V n i) (hb : Below w.heap.size w w') : OwP w' G V n i := by
  obtain ⟨V', Z, hg, h1, h2, h3, h4⟩ := h
  exact ⟨V', Z, (hb.block G (Array.getElem?_eq_some_iff.1 hg).1).trans hg, h1, h2, fun y hy => (h3 y hy).below hb, h4⟩
theorem OwP.only {b : Nat} {a : Option Addr} {m c : Nat} {z : List Int} (h : OwP w G V n i) (hb : EB w b a m c z) (hne : b ≠ G) (ho : Only b w w') : OwP w' G V n i := by
  obtain ⟨V', Z, hg, h1, h2, h3, h4⟩ := h
  exact ⟨V', Z, (ho.block G (Ne.symm hne)).trans hg, h1, h2, fun y hy => ⟨(h3 y hy).1.only_t hb (by decide) ho, (h3 y hy).2⟩, h4⟩
theorem rowA_size {V' : List AV} (h : ∀ y ∈ V', y.own w) : (rowA V').length = V'.length * 11 := rowA_len V' fun x hx => (h x hx).2
/-- One more is stored. -/
theorem OwP.store (h : OwP w G V n i) (hi : i < n) (hV : i < V.length) (y : AV) (hy : y.own w) (hk : y.k = (avA V i).k) : ∃ cur : List Value, w.heap[G]? = some (.cells cur.toArray 28 (0, 0)) ∧ i * 11 + 11 ≤ cur.length ∧ ∀ w', w'.heap[G]? = some (.cells (splice cur (i * 11) (ev y.a y.n y.c y.z).toList).toArray 28 (0, 0)) → Only G w w' → OwP w' G V n (i + 1) := by
  obtain ⟨V', Z, hg, h1, h2, h3, h4⟩ := h
  have hl : (rowA V').length = i * 11 := by rw [rowA_size h3, h1]
  have hn : (n - i) * 11 = (n - (i + 1)) * 11 + 11 := by omega
  refine ⟨rowA V' ++ Z, hg, by rw [List.length_append, hl, h2]; omega, fun w' hg' ho => ⟨V' ++ [y], Z.drop 11, ?_, by simp [h1], by rw [List.length_drop, h2]; omega, ?_, ?_⟩⟩
  · rw [hg']
    congr 3
    unfold splice
    rw [List.take_left' hl, ev_list hy.2, rowA_app, List.append_assoc, List.drop_append, List.drop_of_length_le (by omega), List.nil_append, hl, show i * 11 + 11 - i * 11 = 11 by omega]
    simp [rowA]
  · intro u hu
    rcases List.mem_append.1 hu with hu | hu
    · exact ⟨(h3 u hu).1.only_t hg (by decide) ho, (h3 u hu).2⟩
    · rw [List.mem_singleton.1 hu]
      exact ⟨hy.1.only_t hg (by decide) ho, hy.2⟩
  · have ht : V.take (i + 1) = V.take i ++ [avA V i] := by rw [List.take_add_one, avA_eq hV]; simp [hV]
    rw [ht, List.map_append, List.map_append, h4, List.map_cons, List.map_cons, hk, List.map_nil]
/-- All are stored. -/
theorem OwP.done (h : OwP w G V n n) (hV : V.length = n) (hn : n ≤ 1000000) {base : Nat} (hb : base ≤ G) : ∃ V', OwnV base 28 11 w (some ⟨G, 0, none⟩) n n (rowA V') ∧ (∀ y ∈ V', y.own w) ∧ V'.map AV.k = V.map AV.k := by
  obtain ⟨V', Z, hg, h1, h2, h3, h4⟩ := h
  have hz : Z = [] := List.eq_nil_of_length_eq_zero (by rw [h2]; omega)
  subst hz
  rw [List.append_nil] at hg
  have hl : (rowA V').length = n * 11 := by rw [rowA_size h3, h1]
  refine ⟨V', ⟨hl, .inr ⟨G, n, (rowA V').toArray, rfl, hb, hg, Nat.le_refl _, by unfold maxLen; omega, by simpa using hl, ?_⟩⟩, h3, ?_⟩
  · show (rowA V').toArray.toList.take (n * 11) = _
    exact List.take_of_length_le (by simp; omega)
  · rw [h4, List.take_of_length_le (by omega)]
end

set_option maxRecDepth 20000 in
set_option maxHeartbeats 8000000 in
theorem owned_any (a : Option Addr) (n c : Nat) (V : List AV) (w : World) (h : Sk w a n c V) (hn : n ≤ 1000000) (hV : ∀ x ∈ V, x.n ≤ 1000000) :
    Calls Tryz.prog 20 #[.slice a n c] w fun e w' => ∃ a' c' V', e = .returned (.slice a' n c') ∧ OwnV w.heap.size 28 11 w' a' n c' (rowA V') ∧ (∀ y ∈ V', y.own w') ∧ V'.map AV.k = V.map AV.k ∧ Below w.heap.size w w' := by
  obtain ⟨B, hB⟩ : ∃ B, B = w.heap.size := ⟨_, rfl⟩
  have HH := Lib.hid h
  have HL := Lib.hid h.len
  have HV := Lib.hid hV
  have HN := Lib.hid hn
  have HBB := Lib.hid hB
  have hcm := h.row.cm
  unfold maxLen at hcm
  clear h hV
  go_enter Tryz.func20, Tryz.ntmps20
  go_wp2_with (refine wpList_makek rfl (.tmp 7) (.tmp 7) 29 rfl 28 11 104 _ Tryz.underlying29 envs_info n rfl rfl (by omega) (by omega) ?_; rw [← hB]; clear hB; intro cur w1 hg1 hl1 hb1 hs1)
  have HP1 : Hid (OwP w1 B V n 0) := Lib.hid ⟨[], cur, by rw [hg1]; rfl, rfl, by rw [hl1]; rfl, (fun y hy => by cases hy), rfl⟩
  have HB1 : Hid (Below B w w1) := Lib.hid hb1
  have HS1 : Hid (w1.heap.size = B + 1) := Lib.hid hs1
  clear hg1 hl1 hb1 hs1 cur
  go_loopw [11] (fun v wr => ∃ i : Nat, v = .int .i64 i ∧ i ≤ n ∧ Hid (OwP wr B V n i) ∧ Hid (Below B w wr) ∧ Hid (B < wr.heap.size)) (fun v _ => n - (intOf v).toNat)
  case atStart => exact ⟨0, rfl, Nat.zero_le _, HP1, HB1, Lib.hid (by rw [HS1.out]; omega)⟩
  case round =>
    clear HP1 HB1 HS1
    obtain ⟨i, rfl, hi, HP, HB, HS⟩ := hrel
    by_cases hlt : i < n
    · have hlt' : (i : Int) < (n : Int) := by omega
      have HSk : Hid (Sk wr a n c V) := Lib.hid (HH.out.below (HBB.out ▸ HB.out))
      obtain ⟨b, off, rfl, _, _⟩ := HSk.out.row.at_ (by omega)
      have HAT : Hid (∀ j, j < 11 → wr.cell? ⟨b, off + i * 11 + j, none⟩ = (ev (avA V i).a (avA V i).n (avA V i).c (avA V i).z)[j]?) := Lib.hid fun j hj => HSk.out.at hlt hj
      have HM : Hid (avA V i ∈ V) := Lib.hid (avA_mem (by rw [HL.out]; exact hlt))
      have HOK := Lib.hid (HSk.out.ok _ HM.out)
      have HNX : Hid ((avA V i).n ≤ 1000000) := Lib.hid (HV.out _ HM.out)
      have HKX : Hid (∀ y : AV, y.k = (avA V i).k → y.k = (avA V i).k) := Lib.hid fun _ h => h
      obtain ⟨X, hX⟩ : ∃ X, X = avA V i := ⟨_, rfl⟩
      rw [← hX] at HAT HOK HNX
      have HXX := Lib.hid hX
      clear hX HM HKX
      obtain ⟨xa, xn, xc, xL, xz⟩ := X
      have HZX : Hid (xz.length = 10) := Lib.hid HOK.out.2
      have hnew : EB (wr.alloc (.cells #[.slice none 0 0, .int .i64 0, .int .i64 0, .int .i64 0, .int .i64 0, .int .i64 0, .int .i64 0, .int .i64 0, .int .i64 0, .int .i64 0, .int .i64 0] 28)) wr.heap.size none 0 0 z0 := EB.new wr none 0 0 z0
      obtain ⟨E, hE⟩ : ∃ E, E = wr.heap.size := ⟨_, rfl⟩
      have HEB : Hid (B < E) := Lib.hid (by rw [hE]; exact HS.out)
      go_wp2_with (first
        | (refine load_env rfl (.tmp 5) rfl E rfl xa xn xc xz HZX.out HE2.out ?_)
        | (refine store_env rfl (.tmp 5) (.tmp 15) rfl _ rfl xa xn xc xz rfl HZX.out none 0 0 z0 z0_len hnew ?_; rw [← hE]; intro w2 he2 ho2; have HE2 := Lib.hid he2; have HB2 : Hid (Below wr.heap.size wr w2) := Lib.hid ((below_alloc wr _).trans (ho2.below (by rw [hE]; exact Nat.le_refl _))); clear he2 ho2 hE hnew)
        | (refine load_aenv rfl (.tmp 14) rfl b (off + i * 11) rfl xa xn xc xz HZX.out HAT.out ?_))
      have HO2 : Hid (OpS w2 xa xn xc xL) := Lib.hid (Vs.below HOK.out.1 HB2.out)
      refine (own_any xa xn xc xL xz w2 HO2.out HZX.out HNX.out).mono ?_
      rintro e w3 ⟨a3, c3, rfl, ho3, hb3⟩
      have HO3 := Lib.hid ho3
      have HB3 : Hid (Below wr.heap.size wr w3) := Lib.hid (HB2.out.trans (hb3.mono HB2.out.size))
      have HP3 : Hid (OwP w3 B V n i) := Lib.hid (HP.out.below HB3.out)
      have HYO : Hid (AV.own w3 ⟨a3, xn, c3, xL, xz⟩) := Lib.hid ⟨ho3.weak (Nat.zero_le _), HZX.out⟩
      obtain ⟨cur, hcg, hcl, hcs⟩ := HP3.out.store hlt (by rw [HL.out]; exact hlt) ⟨a3, xn, c3, xL, xz⟩ HYO.out (by rw [← HXX.out]; rfl)
      have HCG := Lib.hid hcg
      have HCL := Lib.hid hcl
      have HCS := Lib.hid hcs
      clear ho3 hb3 hcg hcl hcs
      go_wp2_with (refine wpList_store_at rfl 28 28 (.tmp 20) (.tmp 19) rfl B (i * 11) cur (ev a3 xn c3 xz).toList (by go_num) rfl (by rw [ev_list HZX.out]; exact env_info) HCG.out (by rw [ev_list HZX.out]; exact HCL.out) (fun v hv => by have := ev_one a3 xn c3 xz; rw [Array.all_eq_true_iff_forall_mem] at this; exact this v (by simpa using hv)) ?_; intro w4 hg4 ho4; have HG4 := Lib.hid hg4; have HO4 := Lib.hid ho4; clear hg4 ho4)
      have HP4 : Hid (OwP w4 B V n (i + 1)) := Lib.hid (HCS.out w4 HG4.out HO4.out)
      have HB4 : Hid (Below B w w4) := Lib.hid ((HB.out.trans (HB3.out.mono (Nat.le_of_lt HS.out))).trans (HO4.out.below (Nat.le_refl _)))
      have HS4 : Hid (B < w4.heap.size) := Lib.hid (by rw [HO4.out.size]; exact Nat.lt_of_lt_of_le HS.out HB3.out.size)
      go_wp2
      go_roundw
      case rel => exact ⟨i + 1, by go_num, by omega, HP4, HB4, HS4⟩
      case measure => simp [intOf]; omega
    · have hlt' : ¬ (i : Int) < (n : Int) := by omega
      have hin : i = n := by omega
      have HD : Hid (OwP wr B V n n) := Lib.hid (by have := HP.out; rw [hin] at this; exact this)
      clear hin HP
      go_wp2
      go_ret
      obtain ⟨V', h1, h2, h3⟩ := HD.out.done HL.out HN.out (base := w.heap.size) (by rw [← HBB.out]; exact Nat.le_refl _)
      exact ⟨_, _, rfl, V', h1, h2, h3, by rw [← HBB.out]; exact HB.out⟩

end Go.Proofs.YtcpmpidpoelleaaGreatDoor
