/- DeclWords. -/
import Derived.Test.YtjkjbgekpkhpfaaDoorCj
import Derived.Test.YtjkjbgekpkhpfaaDoorCl
namespace Go.Proofs.YtjkjbgekpkhpfaaDoor
open Go.RowKit

/-- One of the five texts. -/
def frS (N : Nm) (k : Nat) : ByteArray := if k = 0 then { data := #[58, 45, 32] } ++ mk N ++ { data := #[46] } else if k = 1 then { data := #[58, 45, 32] } ++ mk N ++ { data := #[40, 51, 44, 32, 52, 41, 46] } else if k = 2 then { data := #[58, 45, 32, 111, 112, 40] } ++ mk N ++ { data := #[44, 32, 108, 101, 102, 116, 44, 32, 39, 95, 43, 95, 39, 41, 46] } else if k = 3 then { data := #[58, 45, 32, 101, 100, 103, 101, 32, 51, 44, 32, 52, 46] } else { data := #[58, 45, 32, 111, 112, 40, 51, 44, 32, 108, 101, 102, 116, 44, 32, 39, 95, 43, 95, 39, 44, 32] } ++ mk N ++ { data := #[41, 46] }
theorem fr_cell {w : World} {b : Nat} {N : Nm} {t : TypeId} (h : w.heap[b]? = some (.cells #[.string ({ data := #[58, 45, 32] } ++ mk N ++ { data := #[46] }), .string ({ data := #[58, 45, 32] } ++ mk N ++ { data := #[40, 51, 44, 32, 52, 41, 46] }), .string ({ data := #[58, 45, 32, 111, 112, 40] } ++ mk N ++ { data := #[44, 32, 108, 101, 102, 116, 44, 32, 39, 95, 43, 95, 39, 41, 46] }), .string { data := #[58, 45, 32, 101, 100, 103, 101, 32, 51, 44, 32, 52, 46] }, .string ({ data := #[58, 45, 32, 111, 112, 40, 51, 44, 32, 108, 101, 102, 116, 44, 32, 39, 95, 43, 95, 39, 44, 32] } ++ mk N ++ { data := #[41, 46] })] t (0, 0))) {k : Nat} (hk : k < 5) : w.cell? ⟨b, k, none⟩ = some (.string (frS N k)) := by
  rw [cell_of_row w b k _ _ _ h]
  obtain rfl | rfl | rfl | rfl | rfl : k = 0 ∨ k = 1 ∨ k = 2 ∨ k = 3 ∨ k = 4 := by omega
  all_goals rfl
theorem nb_len (p : Nm) : (nb p).length = p.length := List.length_map ..
/-- What one of them says. -/
theorem fr_all {N : Nm} (h : ZZ N) (hl : N.length ≤ 20) {k : Nat} (hk : k < 5) : ∃ l, frS N k = bstr l ∧ Rg l ∧ l.length ≤ 60 ∧ decV (kl l) = (d0, 20) ∧ (kat (kl l) 0 = (2, [58, 45]) ∧ 0 < (kl l).length) := by
  have hd := dec_w h
  have h3 := digL_le 3 (by decide)
  have h4 := digL_le 4 (by decide)
  have hq : (putL (nb pT)).length = 5 := by decide +kernel
  obtain rfl | rfl | rfl | rfl | rfl : k = 0 ∨ k = 1 ∨ k = 2 ∨ k = 3 ∨ k = 4 := by omega
  · exact ⟨tW0 N, cw0 N, (kl_w0 h.1).2, by simp [tW0, nb_len]; omega, hd.1, by rw [(kl_w0 h.1).1]; exact ⟨rfl, by simp⟩⟩
  · exact ⟨tW1 N, cw1 N, (kl_w1 h.1).2, by simp [tW1, nb_len]; omega, hd.2.1, by rw [(kl_w1 h.1).1]; exact ⟨rfl, by simp⟩⟩
  · exact ⟨tW2 N, cw2 N, (kl_w2 h.1).2, by simp [tW2, nb_len, hq]; omega, hd.2.2.1, by rw [(kl_w2 h.1).1]; exact ⟨rfl, by simp⟩⟩
  · exact ⟨nb tW3, cw3, nb_rng' _, by decide, hd.2.2.2.1, by rw [kl_w3]; exact ⟨rfl, by simp⟩⟩
  · exact ⟨tW4 N, cw4 N, (kl_w4 h.1).2, by simp [tW4, nb_len, hq]; omega, hd.2.2.2.2, by rw [(kl_w4 h.1).1]; exact ⟨rfl, by simp⟩⟩

set_option maxRecDepth 100000 in
set_option maxHeartbeats 16000000 in
theorem declWords_any (a : Option Addr) (len cap : Nat) (l : List Int) (ww : Nat) (w : World) (hs : Bs w a len cap l) (hw : ww ≤ 255) (ht : Tab w) (hk : TabK w) :
    Calls Tryd.prog 4 #[.slice a len cap, .int .u8 ww] w fun e w' => e = .returned (.bool true) ∧ Below w.heap.size w w' := by
  have HT := Lib.hid ht
  have HK := Lib.hid hk
  have HS := Lib.hid hs
  have hlm := hs.lt
  unfold maxLen at hlm
  clear ht hk hs
  obtain ⟨κ, hκ⟩ : ∃ κ, κ = ww % 5 := ⟨_, rfl⟩
  have hκ5 : κ < 5 := by omega
  have htm : Int.tmod (ww : Int) 5 = (κ : Int) := by rw [Int.tmod_eq_emod_of_nonneg (by omega)]; omega
  have hem : (ww : Int) % 5 = (κ : Int) := by omega
  clear hκ
  go_enter Tryd.func4, Tryd.ntmps4
  go_wp2_with fail
  refine (showd_any w HT.out HK.out).mono ?_
  rintro e w1 ⟨rfl, hb1⟩
  have HB1 := Lib.hid hb1
  clear hb1
  go_wp2_with fail
  go_loopw [6, 7] (fun v6 v7 wr => ∃ (i : Nat) (N : Nm), v7 = .int .i64 i ∧ v6 = .string (mk N) ∧ i ≤ 6 ∧ Hid (N.length = i + 2 ∧ ZZ N) ∧ Hid (Below w.heap.size w wr)) (fun _ v _ => 6 - (intOf v).toNat)
  case atStart => exact ⟨0, [122, 122], rfl, rfl, by omega, Lib.hid ⟨rfl, zz_0⟩, HB1⟩
  case round =>
    obtain ⟨i, N, rfl, rfl, hi, HN, HB⟩ := hrel
    have hnz := mk_size N
    rw [HN.out.1] at hnz
    by_cases hlt : i < len ∧ i < 6
    · have hlt1 : (i : Int) < (len : Int) := by omega
      have hlt2 : (i : Int) < 6 := by omega
      have hS := HS.out.below HB.out
      have hrg := bt_rng hS.rng i
      obtain ⟨bl, off, rfl, _, hcl⟩ := hS.at_ (by omega)
      have hci := hcl i hlt.1
      obtain ⟨u, hu⟩ : ∃ u : Nat, Int.tmod (bt l i) 26 = (u : Int) := ⟨(bt l i).toNat % 26, by rw [Int.tmod_eq_emod_of_nonneg hrg.1]; omega⟩
      have hu25 : u ≤ 25 := by rw [Int.tmod_eq_emod_of_nonneg hrg.1] at hu; omega
      obtain ⟨v, hv⟩ : ∃ v : Int, v = bt l i := ⟨_, rfl⟩
      rw [← hv] at hci hu hrg
      clear hv hcl hS
      have hconv := (Bs.lit wr 5 (mk := (0, 0)) (n := 1) (g := wr.heap.size) (l := [97 + (u : Int)]) (cs := #[.int .u8 (97 + (u : Int))]) rfl (fun z hz => by rw [List.mem_singleton.1 hz]; omega) rfl rfl (show 1 ≤ maxLen by decide)).str (P := Tryd.prog) 24 9 5 Tryd.underlying24 Tryd.underlying5 Tryd.underlying9
      rw [bstr_oneC] at hconv
      have HLW : Hid (ZZ (N ++ [UInt8.ofNat (97 + u)])) := Lib.hid (zz_snoc HN.out.2 hu25)
      obtain ⟨c8, hc8⟩ : ∃ c, c = UInt8.ofNat (97 + u) := ⟨_, rfl⟩
      rw [← hc8] at hconv HLW
      clear hc8
      have hm1 : (mk [c8]).size = 1 := mk_size [c8]
      have happ : mk N ++ mk [c8] = mk (N ++ [c8]) := toList_inj (by rw [mk_toList, ByteArray.toList_eq]; simp [mk])
      go_wp2
      go_roundw
      case rel => exact ⟨i + 1, N ++ [c8], by go_num, by first | rfl | rw [happ], by omega, Lib.hid ⟨by rw [List.length_append, HN.out.1]; rfl, HLW.out⟩, Lib.hid (HB.out.alloc HB.out.size _)⟩
      case measure => simp [intOf]; omega
    · have hlt' : ¬ ((i : Int) < (len : Int) ∧ (i : Int) < 6) := by omega
      have HZ := Lib.hid HN.out.2
      have HNL : Hid (N.length ≤ 20) := Lib.hid (by have := HN.out.1; omega)
      have hsz := mk_size N
      obtain ⟨l1, hf1, hr1, hl1, hd1, hi1⟩ := fr_all HZ.out HNL.out hκ5
      have hw5 := dec_w5 HZ.out
      have hr5 := (kl_w5 HZ.out.1).2
      have hc5 := cw5 N
      obtain ⟨S, hS⟩ : ∃ S, S = frS N κ := ⟨_, rfl⟩
      have hcell : (wr.alloc (.cells #[.string ({ data := #[58, 45, 32] } ++ mk N ++ { data := #[46] }), .string ({ data := #[58, 45, 32] } ++ mk N ++ { data := #[40, 51, 44, 32, 52, 41, 46] }), .string ({ data := #[58, 45, 32, 111, 112, 40] } ++ mk N ++ { data := #[44, 32, 108, 101, 102, 116, 44, 32, 39, 95, 43, 95, 39, 41, 46] }), .string { data := #[58, 45, 32, 101, 100, 103, 101, 32, 51, 44, 32, 52, 46] }, .string ({ data := #[58, 45, 32, 111, 112, 40, 51, 44, 32, 108, 101, 102, 116, 44, 32, 39, 95, 43, 95, 39, 44, 32] } ++ mk N ++ { data := #[41, 46] })] 41)).cell? ⟨wr.heap.size, κ, none⟩ = some (.string S) := by rw [hS]; exact fr_cell (heap_alloc_new wr _) hκ5
      rw [← hS] at hf1
      obtain ⟨q, C, w4, hcv, hbs, hb4⟩ := conv_str (wr.alloc (.cells #[.string ({ data := #[58, 45, 32] } ++ mk N ++ { data := #[46] }), .string ({ data := #[58, 45, 32] } ++ mk N ++ { data := #[40, 51, 44, 32, 52, 41, 46] }), .string ({ data := #[58, 45, 32, 111, 112, 40] } ++ mk N ++ { data := #[44, 32, 108, 101, 102, 116, 44, 32, 39, 95, 43, 95, 39, 41, 46] }), .string { data := #[58, 45, 32, 101, 100, 103, 101, 32, 51, 44, 32, 52, 46] }, .string ({ data := #[58, 45, 32, 111, 112, 40, 51, 44, 32, 108, 101, 102, 116, 44, 32, 39, 95, 43, 95, 39, 44, 32] } ++ mk N ++ { data := #[41, 46] })] 41)) S l1 hf1 hr1 (by omega)
      have HB4 : Hid (Below w.heap.size w w4) := Lib.hid ((HB.out.alloc HB.out.size _).trans (hb4.mono (by have := HB.out.size; simp; omega)))
      have HBS := Lib.hid hbs
      obtain ⟨m, hm⟩ : ∃ m, m = l1.length := ⟨_, rfl⟩
      rw [← hm] at hcv HBS hl1
      obtain ⟨hfl, hTn⟩ := toks_fl hr1
      obtain ⟨T, hT⟩ : ∃ T, T = toks l1 := ⟨_, rfl⟩
      have hTk : T.map kt = kl l1 := by rw [hT, kl_toks]
      have HDT : Hid (decV (T.map kt) = (⟨0, [], 0, 0, 0, 0⟩, 20)) := Lib.hid (by rw [hTk]; exact hd1)
      have hTl : 0 < T.length := by have := congrArg List.length hTk; rw [List.length_map] at this; rw [this]; exact hi1.2
      have HT0 : Hid ((tat T 0).k = 2 ∧ (tat T 0).s.toList = [58, 45]) := Lib.hid (by
        have h0 := kat_kt (L := T) (k := 0) hTl
        rw [hTk, hi1.1] at h0
        exact ⟨(congrArg Prod.fst h0).symm, (congrArg Prod.snd h0).symm⟩)
      have HTX : Hid (∀ t ∈ T, t.s.toList.length ≤ 100000) := Lib.hid fun t ht => by
        rw [hT] at ht
        have h1 := (hfl t ht).2
        unfold sb at h1
        rw [List.length_map] at h1
        omega
      obtain ⟨k, hk⟩ : ∃ k, k = T.length := ⟨_, rfl⟩
      have HKL : Hid (0 < k ∧ k ≤ 60) := Lib.hid (by rw [hk, hT]; rw [hT] at hTl; exact ⟨hTl, by omega⟩)
      have HALL : Hid (Calls Tryd.prog 7 #[.slice (some ⟨q, 0, none⟩) m C] w4 fun e w' => ∃ g, e = .returned (.slice (some ⟨g, 0, none⟩) k k) ∧ Ts w' (some ⟨g, 0, none⟩) k k T ∧ Below w4.heap.size w4 w') := Lib.hid (by
        refine (all_any _ _ _ l1 w4 HBS.out (HT.out.keep HB4.out) (by omega)).mono ?_
        rw [← hT, ← hk]
        rintro e w' ⟨a', rfl, hr, hb⟩
        obtain ⟨g, cur, rfl, _⟩ := hr.own HKL.out.1
        exact ⟨g, rfl, hr.ts, hb⟩)
      have KO : Hid (∀ (w' : World) (g : Nat), Below w.heap.size w w' → Ts w' (some ⟨g, 0, none⟩) k k T → Calls Tryd.prog 8 #[.agg #[.int .i64 0, .int .i64 0, .int .i64 0, .slice (some ⟨g, 0, none⟩) k k]] w' fun r w'' => r = .returned (.tuple #[.agg #[.int .i64 0, .string { data := #[] }, .int .i64 0, .int .i64 0, .int .i64 0, .int .i64 0], .int .i64 20]) ∧ Below w'.heap.size w' w'') := Lib.hid fun w' g hb h1 => by
        have := dof_any (some ⟨g, 0, none⟩) k k T 0 0 0 w' h1 (HT.out.keep hb) (HK.out.keep hb) (by have := HKL.out; omega) HTX.out
        rw [HDT.out] at this
        exact this
      have hs5 : sb ({ data := #[58, 45, 32, 111, 112, 40, 51, 44, 32] } ++ mk N ++ { data := #[44, 32, 43, 41, 46] }) = tW5 N := by rw [hc5, sb_bstr hr5]
      have KX : Hid (∀ w', Below w.heap.size w w' → Calls Tryd.prog 9 #[.string ({ data := #[58, 45, 32, 111, 112, 40, 51, 44, 32] } ++ mk N ++ { data := #[44, 32, 43, 41, 46] })] w' fun r w'' => r = .returned (.tuple #[.agg #[.int .i64 0, .string { data := #[] }, .int .i64 0, .int .i64 0, .int .i64 0, .int .i64 0], .int .i64 22]) ∧ Below w'.heap.size w' w'') := Lib.hid fun w' hb => by
        have := ofc_any ({ data := #[58, 45, 32, 111, 112, 40, 51, 44, 32] } ++ mk N ++ { data := #[44, 32, 43, 41, 46] }) w' (HT.out.keep hb) (HK.out.keep hb) (by
          rw [hs5]
          have h3 := digL_le 3 (by decide)
          have h9 := HNL.out
          simp [tW5, nb_len]
          omega)
        rw [hs5, hw5] at this
        exact this
      have he0 : ∀ w, (Op.equalIn 10000 33 (.agg #[.int .i64 0, .string { data := #[] }, .int .i64 0, .int .i64 0, .int .i64 0, .int .i64 0]) (.agg #[.int .i64 0, .string { data := #[] }, .int .i64 0, .int .i64 0, .int .i64 0, .int .i64 0])).run Tryd.prog w = .ok true w := fun w => eq_dc d0 w
      clear hf1 hr1 hl1 hd1 hi1 hbs hb4 hfl hTn hT hTk hTl hk hw5 hr5 hc5 hs5 hS hm
      have HDEC : Hid (i < len → ¬ i < 6) := Lib.hid fun h1 h2 => hlt ⟨h1, h2⟩
      by_cases hll : i < len
      · have h6 : ¬ (i : Int) < 6 := by have := HDEC.out hll; omega
        have hll' : (i : Int) < (len : Int) := by omega
        clear hlt hlt'
        go_wp2_with fail
        refine HALL.out.mono ?_
        rintro e w5 ⟨g, rfl, ht5, hb5⟩
        have HB5 : Hid (Below w.heap.size w w5) := Lib.hid (HB4.out.trans (hb5.mono HB4.out.size))
        have HT5 := Lib.hid ht5
        clear ht5 hb5 hcv hcell
        obtain ⟨w6, hw6⟩ : ∃ w6, w6 = w5.alloc (.cells #[.int .i64 0, .int .i64 0, .int .i64 0, .slice (some ⟨g, 0, none⟩) k k] 37) := ⟨_, rfl⟩
        obtain ⟨B, hB⟩ : ∃ B, B = w5.heap.size := ⟨_, rfl⟩
        have HP6 : Hid (w6.heap[B]? = some (.cells #[.int .i64 0, .int .i64 0, .int .i64 0, .slice (some ⟨g, 0, none⟩) k k] 37 (0, 0))) := Lib.hid (by rw [hw6, hB]; exact heap_alloc_new w5 _)
        have HB6 : Hid (Below w.heap.size w w6) := Lib.hid (by rw [hw6]; exact HB5.out.alloc HB5.out.size _)
        have HT6 : Hid (Ts w6 (some ⟨g, 0, none⟩) k k T) := Lib.hid (by rw [hw6]; exact HT5.out.alloc _)
        go_wp2_with (refine build_run rfl 37 #[(3, .tmp 53)] rfl (.agg #[.int .i64 0, .int .i64 0, .int .i64 0, .slice (some ⟨g, 0, none⟩) k k]) (by kernel_rfl) ?_)
        rw [← hw6, ← hB]
        clear hw6 hB
        refine (KO.out w6 g HB6.out HT6.out).mono ?_
        rintro e w7 ⟨rfl, hb7⟩
        have HB7 : Hid (Below w.heap.size w w7) := Lib.hid (HB6.out.trans (hb7.mono HB6.out.size))
        have HT7 : Hid (Ts w7 (some ⟨g, 0, none⟩) k k T) := Lib.hid (HT6.out.below hb7)
        have HP7 : Hid (w7.heap[B]? = some (.cells #[.int .i64 0, .int .i64 0, .int .i64 0, .slice (some ⟨g, 0, none⟩) k k] 37 (0, 0))) := Lib.hid ((hb7.block B (Array.getElem?_eq_some_iff.1 HP6.out).1).trans HP6.out)
        obtain ⟨w8, hw8⟩ : ∃ w8, w8 = w7.alloc (.cells #[.int .i64 0, .string { data := #[] }, .int .i64 0, .int .i64 0, .int .i64 0, .int .i64 0] 33) := ⟨_, rfl⟩
        obtain ⟨A, hA⟩ : ∃ A, A = w7.heap.size := ⟨_, rfl⟩
        have HB8 : Hid (Below w.heap.size w w8) := Lib.hid (by rw [hw8]; exact HB7.out.alloc HB7.out.size _)
        have HA8 : Hid (DB w8 A d0) := Lib.hid (by rw [hw8, hA]; exact DB.new w7)
        have HT8 : Hid (Ts w8 (some ⟨g, 0, none⟩) k k T) := Lib.hid (by rw [hw8]; exact HT7.out.alloc _)
        have HP8 : Hid (w8.heap[B]? = some (.cells #[.int .i64 0, .int .i64 0, .int .i64 0, .slice (some ⟨g, 0, none⟩) k k] 37 (0, 0))) := Lib.hid (by rw [hw8]; exact ((below_new w7 _).block B (Array.getElem?_eq_some_iff.1 HP7.out).1).trans HP7.out)
        clear hb7
        go_wp2_with fail
        rw [← hw8, ← hA]
        clear hw8 hA
        refine (KX.out w8 HB8.out).mono ?_
        rintro e w9 ⟨rfl, hb9⟩
        have HB9 : Hid (Below w.heap.size w w9) := Lib.hid (HB8.out.trans (hb9.mono HB8.out.size))
        have HA9 : Hid (DB w9 A d0) := Lib.hid (HA8.out.below hb9)
        have HT9 : Hid (Ts w9 (some ⟨g, 0, none⟩) k k T) := Lib.hid (HT8.out.below hb9)
        have HP9 : Hid (w9.heap[B]? = some (.cells #[.int .i64 0, .int .i64 0, .int .i64 0, .slice (some ⟨g, 0, none⟩) k k] 37 (0, 0))) := Lib.hid ((hb9.block B (Array.getElem?_eq_some_iff.1 HP8.out).1).trans HP8.out)
        obtain ⟨w10, hw10⟩ : ∃ w10, w10 = w9.alloc (.cells #[.int .i64 0, .string { data := #[] }, .int .i64 0, .int .i64 0, .int .i64 0, .int .i64 0] 33) := ⟨_, rfl⟩
        obtain ⟨A', hA'⟩ : ∃ A, A = w9.heap.size := ⟨_, rfl⟩
        have HB10 : Hid (Below w.heap.size w w10) := Lib.hid (by rw [hw10]; exact HB9.out.alloc HB9.out.size _)
        have HA10 : Hid (DB w10 A' d0) := Lib.hid (by rw [hw10, hA']; exact DB.new w9)
        have HAb10 : Hid (DB w10 A d0) := Lib.hid (by rw [hw10]; exact HA9.out.below (below_new w9 _))
        have HT10 : Hid (Ts w10 (some ⟨g, 0, none⟩) k k T) := Lib.hid (by rw [hw10]; exact HT9.out.alloc _)
        have hP : ∀ ob : Obj, (w9.alloc ob).heap[B]? = some (.cells #[.int .i64 0, .int .i64 0, .int .i64 0, .slice (some ⟨g, 0, none⟩) k k] 37 (0, 0)) := fun ob => ((below_new w9 ob).block B (Array.getElem?_eq_some_iff.1 HP9.out).1).trans HP9.out
        have p0 := fun ob => cell_of_row _ B 0 _ _ _ (hP ob)
        have p1 := fun ob => cell_of_row _ B 1 _ _ _ (hP ob)
        have p2 := fun ob => cell_of_row _ B 2 _ _ _ (hP ob)
        have p3 := fun ob => cell_of_row _ B 3 _ _ _ (hP ob)
        clear hb9 hP
        go_wp2_with fail
        rw [← hw10, ← hA']
        clear hw10 hA' p0 p1 p2 p3
        refine (isd_any g 0 k k T 0 0 0 w10 HT10.out HKL.out.1 HT0.out).mono ?_
        rintro e w11 ⟨rfl, hb11⟩
        have HB11 : Hid (Below w.heap.size w w11) := Lib.hid (HB10.out.trans (hb11.mono HB10.out.size))
        have hZ : ∀ (X : Nat), DB w11 X d0 → w11.heap[X]? = some (.cells #[.int .i64 0, .string { data := #[] }, .int .i64 0, .int .i64 0, .int .i64 0, .int .i64 0] 33 (0, 0)) := fun _ h => h
        have hA11 := hZ A (HAb10.out.below hb11)
        have hA12 := hZ A' (HA10.out.below hb11)
        have x0 := cell_of_row _ A 0 _ _ _ hA11
        have x1 := cell_of_row _ A 1 _ _ _ hA11
        have x2 := cell_of_row _ A 2 _ _ _ hA11
        have x3 := cell_of_row _ A 3 _ _ _ hA11
        have x4 := cell_of_row _ A 4 _ _ _ hA11
        have x5 := cell_of_row _ A 5 _ _ _ hA11
        have y0 := cell_of_row _ A' 0 _ _ _ hA12
        have y1 := cell_of_row _ A' 1 _ _ _ hA12
        have y2 := cell_of_row _ A' 2 _ _ _ hA12
        have y3 := cell_of_row _ A' 3 _ _ _ hA12
        have y4 := cell_of_row _ A' 4 _ _ _ hA12
        have y5 := cell_of_row _ A' 5 _ _ _ hA12
        clear hb11 hZ hA11 hA12
        go_wp2
        go_ret
        exact ⟨rfl, HB11.out⟩
      · have hll' : ¬ (i : Int) < (len : Int) := by omega
        clear hlt hlt'
        go_wp2_with fail
        refine HALL.out.mono ?_
        rintro e w5 ⟨g, rfl, ht5, hb5⟩
        have HB5 : Hid (Below w.heap.size w w5) := Lib.hid (HB4.out.trans (hb5.mono HB4.out.size))
        have HT5 := Lib.hid ht5
        clear ht5 hb5 hcv hcell
        obtain ⟨w6, hw6⟩ : ∃ w6, w6 = w5.alloc (.cells #[.int .i64 0, .int .i64 0, .int .i64 0, .slice (some ⟨g, 0, none⟩) k k] 37) := ⟨_, rfl⟩
        obtain ⟨B, hB⟩ : ∃ B, B = w5.heap.size := ⟨_, rfl⟩
        have HP6 : Hid (w6.heap[B]? = some (.cells #[.int .i64 0, .int .i64 0, .int .i64 0, .slice (some ⟨g, 0, none⟩) k k] 37 (0, 0))) := Lib.hid (by rw [hw6, hB]; exact heap_alloc_new w5 _)
        have HB6 : Hid (Below w.heap.size w w6) := Lib.hid (by rw [hw6]; exact HB5.out.alloc HB5.out.size _)
        have HT6 : Hid (Ts w6 (some ⟨g, 0, none⟩) k k T) := Lib.hid (by rw [hw6]; exact HT5.out.alloc _)
        go_wp2_with (refine build_run rfl 37 #[(3, .tmp 53)] rfl (.agg #[.int .i64 0, .int .i64 0, .int .i64 0, .slice (some ⟨g, 0, none⟩) k k]) (by kernel_rfl) ?_)
        rw [← hw6, ← hB]
        clear hw6 hB
        refine (KO.out w6 g HB6.out HT6.out).mono ?_
        rintro e w7 ⟨rfl, hb7⟩
        have HB7 : Hid (Below w.heap.size w w7) := Lib.hid (HB6.out.trans (hb7.mono HB6.out.size))
        have HT7 : Hid (Ts w7 (some ⟨g, 0, none⟩) k k T) := Lib.hid (HT6.out.below hb7)
        have HP7 : Hid (w7.heap[B]? = some (.cells #[.int .i64 0, .int .i64 0, .int .i64 0, .slice (some ⟨g, 0, none⟩) k k] 37 (0, 0))) := Lib.hid ((hb7.block B (Array.getElem?_eq_some_iff.1 HP6.out).1).trans HP6.out)
        obtain ⟨w8, hw8⟩ : ∃ w8, w8 = w7.alloc (.cells #[.int .i64 0, .string { data := #[] }, .int .i64 0, .int .i64 0, .int .i64 0, .int .i64 0] 33) := ⟨_, rfl⟩
        obtain ⟨A, hA⟩ : ∃ A, A = w7.heap.size := ⟨_, rfl⟩
        have HB8 : Hid (Below w.heap.size w w8) := Lib.hid (by rw [hw8]; exact HB7.out.alloc HB7.out.size _)
        have HA8 : Hid (DB w8 A d0) := Lib.hid (by rw [hw8, hA]; exact DB.new w7)
        have HT8 : Hid (Ts w8 (some ⟨g, 0, none⟩) k k T) := Lib.hid (by rw [hw8]; exact HT7.out.alloc _)
        have HP8 : Hid (w8.heap[B]? = some (.cells #[.int .i64 0, .int .i64 0, .int .i64 0, .slice (some ⟨g, 0, none⟩) k k] 37 (0, 0))) := Lib.hid (by rw [hw8]; exact ((below_new w7 _).block B (Array.getElem?_eq_some_iff.1 HP7.out).1).trans HP7.out)
        clear hb7
        go_wp2_with fail
        rw [← hw8, ← hA]
        clear hw8 hA
        refine (KX.out w8 HB8.out).mono ?_
        rintro e w9 ⟨rfl, hb9⟩
        have HB9 : Hid (Below w.heap.size w w9) := Lib.hid (HB8.out.trans (hb9.mono HB8.out.size))
        have HA9 : Hid (DB w9 A d0) := Lib.hid (HA8.out.below hb9)
        have HT9 : Hid (Ts w9 (some ⟨g, 0, none⟩) k k T) := Lib.hid (HT8.out.below hb9)
        have HP9 : Hid (w9.heap[B]? = some (.cells #[.int .i64 0, .int .i64 0, .int .i64 0, .slice (some ⟨g, 0, none⟩) k k] 37 (0, 0))) := Lib.hid ((hb9.block B (Array.getElem?_eq_some_iff.1 HP8.out).1).trans HP8.out)
        obtain ⟨w10, hw10⟩ : ∃ w10, w10 = w9.alloc (.cells #[.int .i64 0, .string { data := #[] }, .int .i64 0, .int .i64 0, .int .i64 0, .int .i64 0] 33) := ⟨_, rfl⟩
        obtain ⟨A', hA'⟩ : ∃ A, A = w9.heap.size := ⟨_, rfl⟩
        have HB10 : Hid (Below w.heap.size w w10) := Lib.hid (by rw [hw10]; exact HB9.out.alloc HB9.out.size _)
        have HA10 : Hid (DB w10 A' d0) := Lib.hid (by rw [hw10, hA']; exact DB.new w9)
        have HAb10 : Hid (DB w10 A d0) := Lib.hid (by rw [hw10]; exact HA9.out.below (below_new w9 _))
        have HT10 : Hid (Ts w10 (some ⟨g, 0, none⟩) k k T) := Lib.hid (by rw [hw10]; exact HT9.out.alloc _)
        have hP : ∀ ob : Obj, (w9.alloc ob).heap[B]? = some (.cells #[.int .i64 0, .int .i64 0, .int .i64 0, .slice (some ⟨g, 0, none⟩) k k] 37 (0, 0)) := fun ob => ((below_new w9 ob).block B (Array.getElem?_eq_some_iff.1 HP9.out).1).trans HP9.out
        have p0 := fun ob => cell_of_row _ B 0 _ _ _ (hP ob)
        have p1 := fun ob => cell_of_row _ B 1 _ _ _ (hP ob)
        have p2 := fun ob => cell_of_row _ B 2 _ _ _ (hP ob)
        have p3 := fun ob => cell_of_row _ B 3 _ _ _ (hP ob)
        clear hb9 hP
        go_wp2_with fail
        rw [← hw10, ← hA']
        clear hw10 hA' p0 p1 p2 p3
        refine (isd_any g 0 k k T 0 0 0 w10 HT10.out HKL.out.1 HT0.out).mono ?_
        rintro e w11 ⟨rfl, hb11⟩
        have HB11 : Hid (Below w.heap.size w w11) := Lib.hid (HB10.out.trans (hb11.mono HB10.out.size))
        have hZ : ∀ (X : Nat), DB w11 X d0 → w11.heap[X]? = some (.cells #[.int .i64 0, .string { data := #[] }, .int .i64 0, .int .i64 0, .int .i64 0, .int .i64 0] 33 (0, 0)) := fun _ h => h
        have hA11 := hZ A (HAb10.out.below hb11)
        have hA12 := hZ A' (HA10.out.below hb11)
        have x0 := cell_of_row _ A 0 _ _ _ hA11
        have x1 := cell_of_row _ A 1 _ _ _ hA11
        have x2 := cell_of_row _ A 2 _ _ _ hA11
        have x3 := cell_of_row _ A 3 _ _ _ hA11
        have x4 := cell_of_row _ A 4 _ _ _ hA11
        have x5 := cell_of_row _ A 5 _ _ _ hA11
        have y0 := cell_of_row _ A' 0 _ _ _ hA12
        have y1 := cell_of_row _ A' 1 _ _ _ hA12
        have y2 := cell_of_row _ A' 2 _ _ _ hA12
        have y3 := cell_of_row _ A' 3 _ _ _ hA12
        have y4 := cell_of_row _ A' 4 _ _ _ hA12
        have y5 := cell_of_row _ A' 5 _ _ _ hA12
        clear hb11 hZ hA11 hA12
        go_wp2
        go_ret
        exact ⟨rfl, HB11.out⟩

end Go.Proofs.YtjkjbgekpkhpfaaDoor
