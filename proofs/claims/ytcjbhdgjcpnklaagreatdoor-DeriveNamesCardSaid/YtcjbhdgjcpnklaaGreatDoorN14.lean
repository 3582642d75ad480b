import Derived.Test.YtcjbhdgjcpnklaaGreatDoorV07
import Derived.Test.YtcjbhdgjcpnklaaGreatDoorN07
import Derived.Test.YtcjbhdgjcpnklaaGreatDoorN12
namespace Go.Proofs.YtcjbhdgjcpnklaaGreatDoor
section
open Go.RowKit
theorem zRB : (Tryz.prog.info? 125).map (fun i => (i.zero, i.size, i.bytes)) = some (some (.agg #[.nilFunc, .slice none 0 0]), 2, 32) := by kernel_rfl
theorem zSh : Tryz.prog.elem 117 = 125 := by kernel_rfl
theorem StS.from {w : World} {b off n c i : Nat} {S : List Sd} (h : StS w (some ⟨b, off, none⟩) n c S) (hi : i ≤ n) : StS w (some ⟨b, if c = i then off else off + i * 2, none⟩) (n - i) (c - i) (S.drop i) := by
 have hl := h.hl
 have hc := h.lc
 have hm := h.cm
 refine ⟨by rw [List.length_drop, hl], by omega, by omega, fun h0 => ?_⟩
 obtain ⟨b', off', ha, hb, hcs⟩ := h.at_ (by omega)
 simp only [Option.some.injEq, Addr.mk.injEq, and_true] at ha
 obtain ⟨rfl, rfl⟩ := ha
 rw [if_neg (by omega)]
 refine ⟨b, off + i * 2, rfl, hb, fun j hj => ?_⟩
 rw [List.length_drop] at hj
 obtain ⟨fv, kv, h1, h2, h3⟩ := hcs (i + j) (by omega)
 refine ⟨fv, kv, ?_, ?_, ?_⟩
 ·rw [show off + i * 2 + j * 2 = off + (i + j) * 2 by omega]; exact h1
 ·rw [show off + i * 2 + j * 2 + 1 = off + (i + j) * 2 + 1 by omega]; exact h2
 ·rw [List.getElem_drop]; exact h3
theorem zSi {b off n c i : Nat} (hi : i ≤ n) (hm : n ≤ 1000000) (w : World) : (Instr.slice 117 (.slice (some ⟨b, off, none⟩) n c) (some (.int .i64 i)) none none).run Tryz.prog w = .ok (.slice (some ⟨b, if c = i then off else off + i * 2, none⟩) (n - i) (c - i)) w := by
 have _ := hm
 exact zFK zSh Tryz.underlying117 zRB hi w
set_option maxRecDepth 20000 in
theorem zRR (y : TK) (X : Nat) (x : Nm) (w : World) (h : C1 w X 9 (.string (mk x))) :
  Calls Tryz.prog 111 #[.agg #[.int .i64 y.k, .int .i64 y.f, .int .i64 y.t, .string (mk (txN y)), .int .i64 y.e], .pointer (some ⟨X, 0, none⟩)] w fun e w' => e = .returned (.bool ((Sd.pt x).ok y)) ∧ Below w.heap.size w w' := by
 obtain ⟨B, hB⟩ : ∃ B, B = w.heap.size := ⟨_, rfl⟩
 obtain ⟨w1, hw1⟩ : ∃ w1, w1 = w.alloc (.cells #[.int .i64 y.k, .int .i64 y.f, .int .i64 y.t, .string (mk (txN y)), .int .i64 y.e] 51) := ⟨_, rfl⟩
 have HT : Hid (Bk w1 B 51 #[.int .i64 y.k, .int .i64 y.f, .int .i64 y.t, .string (mk (txN y)), .int .i64 y.e]) := hid (by rw [hw1, hB]; exact Bk.new w _ _)
 have HB1 : Hid (Below w.heap.size w w1) := hid (by rw [hw1]; exact zAA w _)
 have x0 : w1.cell? ⟨X, 0, none⟩ = some (.string (mk x)) := (h.below HB1.out).cell
 go_enter Tryz.func111, Tryz.ntmps111
 go_upto_region 1 with fail
 rw [← hw1, ← hB]
 clear hw1 hB h
 go_wp2_with (refine zA2 zBJ rfl (.tmp 2) rfl B rfl #[.int .i64 y.k, .int .i64 y.f, .int .i64 y.t, .string (mk (txN y)), .int .i64 y.e] rfl HT.out ?_)
 refine (zKj y.k y.f y.t (txN y) y.e x w1).mono ?_
 rintro e w2 ⟨rfl, hb2⟩
 have HB2 : Hid (Below w.heap.size w w2) := hid (HB1.out.trans (hb2.mono HB1.out.size))
 clear hb2
 go_wp2
 go_ret
 exact ⟨rfl, HB2.out⟩
set_option maxRecDepth 20000 in
theorem zSI (y : TK) (X : Nat) (x : Nm) (w : World) (h : T5 w X 6 0 0 x 0) :
  Calls Tryz.prog 109 #[.agg #[.int .i64 y.k, .int .i64 y.f, .int .i64 y.t, .string (mk (txN y)), .int .i64 y.e], .pointer (some ⟨X, 0, none⟩)] w fun e w' => e = .returned (.bool ((Sd.br x).ok y)) ∧ Below w.heap.size w w' := by
 obtain ⟨B, hB⟩ : ∃ B, B = w.heap.size := ⟨_, rfl⟩
 obtain ⟨w1, hw1⟩ : ∃ w1, w1 = w.alloc (.cells #[.int .i64 y.k, .int .i64 y.f, .int .i64 y.t, .string (mk (txN y)), .int .i64 y.e] 51) := ⟨_, rfl⟩
 have HT : Hid (Bk w1 B 51 #[.int .i64 y.k, .int .i64 y.f, .int .i64 y.t, .string (mk (txN y)), .int .i64 y.e]) := hid (by rw [hw1, hB]; exact Bk.new w _ _)
 have HB1 : Hid (Below w.heap.size w w1) := hid (by rw [hw1]; exact zAA w _)
 have HX : Hid (Bk w1 X 51 #[.int .i64 6, .int .i64 0, .int .i64 0, .string (mk x), .int .i64 0]) := hid (h.below HB1.out)
 have y0 : w1.cell? ⟨B, 0, none⟩ = some (.int .i64 y.k) := HT.out.cell 0
 have y3 : w1.cell? ⟨B, 3, none⟩ = some (.string (mk (txN y))) := HT.out.cell 3
 obtain ⟨q, hq⟩ : ∃ q, q = (Sd.br x).ok y := ⟨_, rfl⟩
 have HQ : Hid (q = (y.k == 6 && txN y == x)) := hid hq
 rw [← hq]
 clear hq
 go_enter Tryz.func109, Tryz.ntmps109
 go_upto_region 1 with fail
 rw [← hw1, ← hB]
 clear hw1 hB h
 go_wp2_with (refine zA2 zBJ rfl (.tmp 1) rfl X rfl #[.int .i64 6, .int .i64 0, .int .i64 0, .string (mk x), .int .i64 0] rfl HX.out ?_)
 all_goals
  go_ret
  exact ⟨by rw [HQ.out]; simp_all [mk_toList], HB1.out⟩
end
section
open Go.RowKit
set_option maxRecDepth 100000 in
set_option maxHeartbeats 16000000 in
theorem zSj (x : SR) (hx : SOk x) (N : Nat) (HK0 : KidC x N) (HR0 : RestC x N) (f i a b : Nat) (w : World) (s : Sit w x) (hf : f < x.F.length) (hi : i ≤ (fA x.F f).S.length) (hab : a ≤ b) (hb : b ≤ x.tn) (hN : 3 * (b - a) + rk i ≤ N) :
  Calls Tryz.prog 115 #[.agg (srA x), .agg (glA f i a b)] w (RecP x w (DS x.L x.z x.tok x.F ((fA x.F f).S.drop i) a b)) := by
 have hfn : x.F.length = x.fn := s.fm.hl
 have ht6 := hx.tn
 have hf6 := hx.fn
 obtain ⟨B, hB⟩ : ∃ B, B = w.heap.size := ⟨_, rfl⟩
 obtain ⟨w1, hw1⟩ : ∃ w1, w1 = w.alloc (.cells (srA x) 78) := ⟨_, rfl⟩
 obtain ⟨w2, hw2⟩ : ∃ w2, w2 = w1.alloc (.cells (glA f i a b) 132) := ⟨_, rfl⟩
 obtain ⟨w3, hw3⟩ : ∃ w3, w3 = w2.alloc (.cells (fdA 0 none 0 0) 80) := ⟨_, rfl⟩
 have s1 : w1.heap.size = B + 1 := by rw [hw1, hB]; simp
 have s2 : w2.heap.size = B + 1 + 1 := by rw [hw2]; simp [s1]
 have HX3 : Hid (Bk w3 B 78 (srA x)) := hid (by rw [hw3, hw2, hw1, hB]; exact ((Bk.new w _ _).alloc _).alloc _)
 have HG3 : Hid (Bk w3 (B + 1) 132 (glA f i a b)) := hid (by rw [hw3, hw2, ← s1]; exact (Bk.new w1 _ _).alloc _)
 have HR3 : Hid (Bk w3 (B + 1 + 1) 80 (fdA 0 none 0 0)) := hid (by rw [hw3, ← s2]; exact Bk.new w2 _ _)
 have HB3 : Hid (Below B w w3) := hid (by rw [hw3, hw2, hw1, hB]; exact ((zAA w _).alloc (by simp) _).alloc (by simp; omega) _)
 have HBB := hid hB
 have HBW : Hid (Below w.heap.size w w3) := hid (by rw [← HBB.out]; exact HB3.out)
 have HS3 : Hid (Sit w3 x) := hid (s.below HBW.out)
 obtain ⟨fb, fo, hfa, _, hfm⟩ := HS3.out.fm.at_ (by omega)
 obtain ⟨sa, sc, hc9, hst⟩ := hfm f (by omega)
 have c8 := hc9 8 (by omega)
 rw [show (fmA (fA x.F f) sa (fA x.F f).S.length sc)[8]? = some (.slice sa (fA x.F f).S.length sc) from rfl] at c8
 have h2 := hx.g.two f hf
 obtain ⟨sb, so, rfl, _, _⟩ := hst.at_ (by omega)
 have hst2 := hst.from hi
 have hcut := zSi (b := sb) (off := so) (c := sc) hi (hx.st f (by omega))
 obtain ⟨sl, hsl⟩ : ∃ sl, sl = (fA x.F f).S.length := ⟨_, rfl⟩
 obtain ⟨m, hm⟩ : ∃ m, m = sl - i := ⟨_, rfl⟩
 obtain ⟨so', hso⟩ : ∃ q, q = (if sc = i then so else so + i * 2) := ⟨_, rfl⟩
 obtain ⟨c', hc'⟩ : ∃ q, q = sc - i := ⟨_, rfl⟩
 rw [← hsl, ← hm, ← hso, ← hc'] at hst2 hcut
 rw [← hsl] at c8
 have HST := hid hst2
 have hil : (i : Int) ≤ (sl : Int) := by omega
 have hi0 : (0 : Int) ≤ (i : Int) := Int.natCast_nonneg _
 have hltf : (f : Int) < (x.fn : Int) := by omega
 have hf0 : (0 : Int) ≤ (f : Int) := Int.natCast_nonneg _
 have HK1' : Hid (∀ w', Below w3.heap.size w3 w' → w'.cell? ⟨B, 12, none⟩ = some (.slice (some ⟨fb, fo, none⟩) x.fn x.fc) ∧ w'.cell? ⟨B + 1, 0, none⟩ = some (.int .i64 (f : Int)) ∧ w'.cell? ⟨B + 1, 1, none⟩ = some (.int .i64 (i : Int)) ∧ w'.cell? ⟨fb, fo + f * 9 + 8, none⟩ = some (.slice (some ⟨sb, so, none⟩) sl sc)) := hid fun w' hb' => by
  refine ⟨?_, (HG3.out.below hb').cell 0, (HG3.out.below hb').cell 1, (hb'.cell (World.block_lt_of_cell? w3 ⟨fb, fo + f * 9 + 8, none⟩ c8)).trans c8⟩
  rw [(HX3.out.below hb').cell, (zRi hx.z).2.1, hfa]
 have HS := hid s
 have hz : fdA 0 none 0 0 = #[.int .i64 0, .slice none 0 0] := rfl
 rw [hz] at hw3
 obtain ⟨G, hG⟩ : ∃ G, G = glA f i a b := ⟨_, rfl⟩
 have HGG := hid hG
 rw [← hG] at hw2 ⊢
 have HOK := hid hx
 have HF := hid hf
 have HFN := hid hfn
 have HNN := hid hN
 have HK1 := hid HK0
 have HR1 := hid HR0
 clear s hx hf hfn hN hz hG HK0 HR0 hfa hfm hc9 hst c8 h2 hst2 hsl hm hso hc' hi
 go_enter Tryz.func115, Tryz.ntmps115
 go_upto_region 1 with fail
 rw [← hw1]
 try rw [← hw2]
 try rw [← hw3]
 rw [← hB]
 try rw [s1]
 try rw [s2]
 clear hw1 hw2 hw3 s1 s2 hB
 refine wp_region_noPanic ?_
 refine wp_region_held_drew (S := fun w' => w'.cell? ⟨B, 12, none⟩ = some (.slice (some ⟨fb, fo, none⟩) x.fn x.fc) ∧ w'.cell? ⟨B + 1, 0, none⟩ = some (.int .i64 (f : Int)) ∧ w'.cell? ⟨B + 1, 1, none⟩ = some (.int .i64 (i : Int)) ∧ w'.cell? ⟨fb, fo + f * 9 + 8, none⟩ = some (.slice (some ⟨sb, so, none⟩) sl sc)) (by kernel_rfl) (HK1'.out _ (Below.refl _ _).drew) (fun hHeld => ?_)
 refine zG 0 rfl ?_
 try simp only [Act.put, aS, aZ, aC]
 refine zG 1 rfl ?_
 try simp only [Act.put, aS, aZ, aC]
 refine zG 2 rfl ?_
 try simp only [Act.put, aS, aZ, aC]
 refine zG 3 rfl ?_
 try simp only [Act.put, aS, aZ, aC]
 refine zG 4 rfl ?_
 try simp only [Act.put, aS, aZ, aC]
 refine zG 5 rfl ?_
 try simp only [Act.put, aS, aZ, aC]
 refine zG 6 rfl ?_
 try simp only [Act.put, aS, aZ, aC]
 refine zG 7 rfl ?_
 try simp only [Act.put, aS, aZ, aC]
 refine zG 8 rfl ?_
 try simp only [Act.put, aS, aZ, aC]
 refine zG 9 rfl ?_
 try simp only [Act.put, aS, aZ, aC]
 refine zG 10 rfl ?_
 try simp only [Act.put, aS, aZ, aC]
 refine wpAnyH_done (by kernel_rfl) ?_ _
 refine NoPanic.normal ?_
 clear hcut hil hi0 hltf hf0
 obtain ⟨w4, hw4⟩ : ∃ w4, w4 = w3.drew := ⟨_, rfl⟩
 have HB4 : Hid (Below w3.heap.size w3 w4) := hid (by rw [hw4]; exact (Below.refl _ _).drew)
 rw [← hw4]
 clear hw4
 have HX4 := hid (HX3.out.below HB4.out)
 have HG4 := hid (HG3.out.below HB4.out)
 have HR4 := hid (HR3.out.below HB4.out)
 have HS4 : Hid (Sit w4 x) := hid (HS3.out.below HB4.out)
 have HT4 := hid (HST.out.kx (Kx.of HB4.out) HS3.out.mi.isMap)
 have HKX4 : Hid (Kx x.M w w4) := hid ((Kx.of HBW.out).bl HB4.out)
 have g2 : w4.cell? ⟨B + 1, 2, none⟩ = some (.int .i64 (a : Int)) := HG4.out.cell 2
 have g3 : w4.cell? ⟨B + 1, 3, none⟩ = some (.int .i64 (b : Int)) := HG4.out.cell 3
 obtain ⟨T, hT⟩ : ∃ T, T = (fA x.F f).S.drop i := ⟨_, rfl⟩
 have HT : Hid ((fA x.F f).S.drop i = T) := hid hT.symm
 rw [HT.out] at HT4
 clear hT
 cases T with
 | nil =>
  have hm0 : m = 0 := HT4.out.hl.symm
  have hm0I : ((m : Int) == 0) = true := by simp [hm0]
  clear hm0
  by_cases he : a = b
  ·have heI : ((a : Int) == (b : Int)) = true := by simp [he]
   have HC : Hid (Cn (DS x.L x.z x.tok x.F ((fA x.F f).S.drop i) a b) 1 []) := hid (by rw [HT.out]; exact zR5 (1, []) (by rw [if_pos he]))
   clear he
   go_wp2_with fail
   refine (zQ5 none 0 0 w4).mono ?_
   rintro e w5 ⟨rfl, hb5⟩
   have HB5 := hid hb5
   have HR5 := hid (HR4.out.below hb5)
   clear hb5 g2 g3
   go_wp2_with (refine zAn zQc rfl (.tmp 4) (.tmp 27) rfl (B + 1 + 1) rfl (fdA 1 none 0 0) rfl rfl (zQe ..) (fdA 0 none 0 0) rfl HR5.out ?_; intro wz hz hoz; have HZ := hid hz; have HOZ := hid hoz; clear hz hoz)
   refine bodyPost_ret (zNr zQc rfl _ _ (B + 1 + 1) (fdA 1 none 0 0) rfl rfl HZ.out) rfl ⟨(1, []), ⟨none, 0, rfl, zQl _⟩, HC.out, (HS4.out.mi.below HB5.out).found HR5.out HOZ.out, (HKX4.out.bl HB5.out).put HOZ.out (by have := HBB.out; omega)⟩
  ·have heI : ((a : Int) == (b : Int)) = false := by simp; omega
   have HCZ : Hid (Cn (DS x.L x.z x.tok x.F ((fA x.F f).S.drop i) a b) 0 []) := hid (by rw [HT.out]; exact zR5 (0, []) (by rw [if_neg he]))
   clear he
   go_wp2_with (refine zAn zQc rfl (.tmp 4) (.tmp 39) rfl (B + 1 + 1) rfl (fdA 0 none 0 0) rfl rfl (zQe ..) (fdA 0 none 0 0) rfl HR4.out ?_; intro wz hz hoz; have HZ := hid hz; have HOZ := hid hoz; clear hz hoz)
   refine bodyPost_ret (zNr zQc rfl _ _ (B + 1 + 1) (fdA 0 none 0 0) rfl rfl HZ.out) rfl ⟨(0, []), ⟨none, 0, rfl, zQl _⟩, HCZ.out, HS4.out.mi.found HR4.out HOZ.out, HKX4.out.put HOZ.out (by have := HBB.out; omega)⟩
 | cons sd r =>
  have hm1 : m = r.length + 1 := HT4.out.hl.symm
  have hm0I : ((m : Int) == 0) = false := by simp; omega
  by_cases he : a = b
  ·have heI : ((a : Int) == (b : Int)) = true := by simp [he]
   have HCZ : Hid (Cn (DS x.L x.z x.tok x.F ((fA x.F f).S.drop i) a b) 0 []) := hid (by rw [HT.out]; exact zSG (by simp) (by omega))
   clear he hm1
   go_wp2_with (refine zAn zQc rfl (.tmp 4) (.tmp 39) rfl (B + 1 + 1) rfl (fdA 0 none 0 0) rfl rfl (zQe ..) (fdA 0 none 0 0) rfl HR4.out ?_; intro wz hz hoz; have HZ := hid hz; have HOZ := hid hoz; clear hz hoz)
   refine bodyPost_ret (zNr zQc rfl _ _ (B + 1 + 1) (fdA 0 none 0 0) rfl rfl HZ.out) rfl ⟨(0, []), ⟨none, 0, rfl, zQl _⟩, HCZ.out, HS4.out.mi.found HR4.out HOZ.out, HKX4.out.put HOZ.out (by have := HBB.out; omega)⟩
  ·have heI : ((a : Int) == (b : Int)) = false := by simp; omega
   have hlt : a < b := by omega
   have hmpos : 0 < m := by omega
   have HIL : Hid (i < (fA x.F f).S.length) := hid (by
    apply Nat.lt_of_not_le; intro h; have := HT.out; rw [List.drop_eq_nil_of_le h] at this; cases this)
   have hi6 : i ≤ 1000000 := by have := HIL.out; have := HOK.out.st f (by have := HF.out; have := HFN.out; omega); omega
   have HDR : Hid ((fA x.F f).S.drop (i + 1) = r) := hid (by
    have := congrArg List.tail HT.out
    rwa [List.tail_drop] at this)
   obtain ⟨sb0, so0, e0, hsblt, hst⟩ := HT4.out.at_ (by omega)
   simp only [Option.some.injEq, Addr.mk.injEq, and_true] at e0
   obtain ⟨rfl, rfl⟩ := e0
   obtain ⟨fv, kv, k0, k1, hsd⟩ := hst 0 (by simp)
   rw [Nat.zero_mul, Nat.add_zero] at k0 k1
   have HSB : Hid (sb ≠ B + 1 + 1) := hid fun h => by
    have h1 := HR4.out.cell so'
    have h2 := HR4.out.cell (so' + 1)
    rw [← h, k0] at h1
    rw [← h, k1] at h2
    unfold fdA at h1 h2
    match so', h1, h2 with
    | 0, h1, h2 =>
     have h3 : fv = .int .i64 0 := by injection h1
     have h4 := hsd
     rw [h3] at h4
     rw [List.getElem_cons_zero] at h4
     cases sd with
     | br p => obtain ⟨X, h5, _⟩ := h4; cases h5
     | pt p => obtain ⟨X, h5, _⟩ := h4; cases h5
     | ho K => cases h4.1
    | 1, h1, h2 => cases h2
    | so' + 2, h1, h2 => cases h1
   rw [List.getElem_cons_zero] at hsd
   clear hst hsblt he hm1
   cases sd with
   | ho K =>
    obtain ⟨rfl, ka, kc, rfl, hvk⟩ := hsd
    have HVK := hid hvk
    have HFI : Hid (∀ u, Below w4.heap.size w4 u → Calls Tryz.prog 149 #[.agg (srA x), .agg (glA f i a b), .slice ka K.length kc] u (RecP x u (DS x.L x.z x.tok x.F (.ho K :: r) a b))) := hid fun u hu => zSe x HOK.out N HK1.out HR1.out f i a b K r ka kc u (HS4.out.below hu) HF.out HT.out hlt hb HNN.out (HVK.out.below hu)
    have HK7 : Hid (∀ w', Below w4.heap.size w4 w' → Bk w' B 78 (srA x) ∧ Bk w' (B + 1) 132 (glA f i a b) ∧ w'.cell? ⟨sb, so' + 1, none⟩ = some (.slice ka K.length kc)) := hid fun w' hb' =>
     ⟨HX4.out.below hb', HG4.out.below hb', (hb'.cell (World.block_lt_of_cell? w4 ⟨sb, so' + 1, none⟩ k1)).trans k1⟩
    clear hvk k1
    have hnf : ∀ w' : World, (binOp .eql 63 .nilFunc .nilFunc).run Tryz.prog w' = .ok (.bool true) w' := fun w' => by kernel_rfl
    go_upto_region 7 with fail
    clear hnf
    refine wp_region_noPanic ?_
    refine wp_region_held_drew (S := fun w' => Bk w' B 78 (srA x) ∧ Bk w' (B + 1) 132 (glA f i a b) ∧ w'.cell? ⟨sb, so' + 1, none⟩ = some (.slice ka K.length kc)) (by kernel_rfl) (HK7.out _ (Below.refl _ _).drew) (fun hHeld => ?_)
    refine zT 0 (v := .agg (srA x)) rfl (fun w0 h0 => zBc zQf (.tmp 2) B rfl (srA x) (zQj HOK.out.z) h0.1) ?_
    try simp only [Act.put, aS, aZ, aC]
    refine zT 1 (v := .agg (glA f i a b)) rfl (fun w0 h0 => zBc zRA (.tmp 3) (B + 1) rfl (glA f i a b) rfl h0.2.1) ?_
    try simp only [Act.put, aS, aZ, aC]
    refine zG 2 rfl ?_
    try simp only [Act.put, aS, aZ, aC]
    refine zG 3 rfl ?_
    try simp only [Act.put, aS, aZ, aC]
    refine zG 4 rfl ?_
    try simp only [Act.put, aS, aZ, aC]
    refine zG 5 rfl ?_
    try simp only [Act.put, aS, aZ, aC]
    refine zR [6] ?_
    refine hDo rfl (fun K hK => ?_) ?_
    ·go_simp
     (go_at_call 149; (with_reducible refine (HFI.out _ (Below.refl _ _).drew).mono ?_); rintro e9 w9 ⟨⟨mv, lv⟩, ⟨nv, cv, rfl, hnv⟩, hcv, hmi, hkx⟩)
     dsimp only at hnv hcv ⊢
     have HKD : Hid (Kx x.M w4 w9) := hid ((Kx.of (Below.refl _ _).drew).trans hkx)
     have HR9 := hid (HR4.out.kx HKD.out HS4.out.mi.isMap)
     have HN9 := hid hnv
     have HC9 := hid hcv
     have HM9 := hid hmi
     have HKX9 := hid (HKX4.out.trans HKD.out)
     clear hnv hcv hmi hkx
     refine hK.out _ _ (⟨HX4.out.kx HKD.out HS4.out.mi.isMap, HG4.out.kx HKD.out HS4.out.mi.isMap, HKD.out.cell HS4.out.mi.isMap (HK7.out _ (Below.refl _ _)).2.2⟩) (fun hHeld => ?_)
     clear hK K
     try simp only [Act.put, aS, aZ, aC]
     refine zR [7] ?_
     refine hDo rfl (fun K hK => ?_) ?_
     ·refine zQd zQc rfl (.tmp 4) (.tmp 52) rfl (B + 1 + 1) rfl (fdA mv nv lv.length cv) rfl rfl (zQe ..) (fdA 0 none 0 0) rfl HR9.out ?_
      intro wz hz hoz
      have HZ := hid hz
      have HOZ := hid hoz
      clear hz hoz
      refine hK.out _ _ (⟨(HX4.out.kx HKD.out HS4.out.mi.isMap).only HOZ.out (by omega), (HG4.out.kx HKD.out HS4.out.mi.isMap).only HOZ.out (by omega), (World.cell?_of_block (HOZ.out.block _ HSB.out)).trans (HKD.out.cell HS4.out.mi.isMap (HK7.out _ (Below.refl _ _)).2.2)⟩) (fun hHeld => ?_)
      clear hK K
      try simp only [Act.put]
      refine wpAnyH_done (by kernel_rfl) ?_ _
      refine NoPanic.normal ?_
      go_wp2
      refine bodyPost_ret (zNr zQc rfl _ _ (B + 1 + 1) (fdA mv nv lv.length cv) rfl rfl HZ.out) rfl ⟨(mv, lv), ⟨nv, cv, rfl, HN9.out.fnd HR9.out HOZ.out⟩, by rw [HT.out]; exact HC9.out, HM9.out.found HR9.out HOZ.out, HKX9.out.put HOZ.out (by have := HBB.out; omega)⟩
     ·exact AllReadyH.nil
    ·exact AllReadyH.nil
   | br p =>
    have hfv := hsd
    obtain ⟨X, rfl, hX, qa, qn, qc, rfl⟩ := hfv
    have HXX := hid hX
    clear hsd hX
    obtain ⟨tb, to_, hta, c0, c1, c2, c3, c4⟩ := zIa HS4.out.tk (show a < x.tn by omega)
    obtain ⟨y, hy⟩ : ∃ y, y = tat x.tok a := ⟨_, rfl⟩
    rw [← hy] at c0 c1 c2 c3 c4
    have HY := hid hy
    have hltI : (a : Int) < (x.tn : Int) := by omega
    have ha0 : (0 : Int) ≤ (a : Int) := Int.natCast_nonneg _
    obtain ⟨d, hd⟩ : ∃ d, d = Sd.ok (Sd.br p) y := ⟨_, rfl⟩
    have KT : Hid (∀ w', Below w4.heap.size w4 w' → Calls Tryz.prog 109 #[.agg #[.int .i64 y.k, .int .i64 y.f, .int .i64 y.t, .string (mk (txN y)), .int .i64 y.e], .pointer (some ⟨X, 0, none⟩)] w' fun e w'' => e = .returned (.bool d) ∧ Below w'.heap.size w' w'') := hid fun w' hb' => by
     rw [hd]
     exact zSI y X p w' (HXX.out.below hb')
    have HK8 : Hid (∀ w', Below w4.heap.size w4 w' → w'.cell? ⟨sb, so', none⟩ = some (.func (.func 109) #[] #[.pointer (some ⟨X, 0, none⟩)]) ∧ w'.cell? ⟨B, 11, none⟩ = some (.slice (some ⟨tb, to_, none⟩) x.tn x.tc) ∧ w'.cell? ⟨B + 1, 2, none⟩ = some (.int .i64 (a : Int)) ∧ w'.cell? ⟨tb, to_ + a * 5, none⟩ = some (.int .i64 y.k) ∧ w'.cell? ⟨tb, to_ + a * 5 + 1, none⟩ = some (.int .i64 y.f) ∧ w'.cell? ⟨tb, to_ + a * 5 + 2, none⟩ = some (.int .i64 y.t) ∧ w'.cell? ⟨tb, to_ + a * 5 + 3, none⟩ = some (.string (mk (txN y))) ∧ w'.cell? ⟨tb, to_ + a * 5 + 4, none⟩ = some (.int .i64 y.e)) := hid fun w' hb' => by
     have hlt : tb < w4.heap.size := World.block_lt_of_cell? w4 ⟨tb, to_ + a * 5, none⟩ c0
     refine ⟨(hb'.cell (World.block_lt_of_cell? w4 ⟨sb, so', none⟩ k0)).trans k0, ?_, (HG4.out.below hb').cell 2, (hb'.cell hlt).trans c0, (hb'.cell hlt).trans c1, (hb'.cell hlt).trans c2, (hb'.cell hlt).trans c3, (hb'.cell hlt).trans c4⟩
     rw [(HX4.out.below hb').cell, (zRi HOK.out.z).1, hta]
    have HD : Hid (d = Sd.ok (Sd.br p) (tat x.tok a)) := hid (by rw [hd, hy])
    obtain ⟨nm, hnm⟩ : ∃ q, q = txN y := ⟨_, rfl⟩
    rw [← hnm] at HK8 KT
    clear hy hd hnm c0 c1 c2 c3 c4 hta k1
    have hnf : ∀ w' : World, (binOp .eql 63 (.func (.func 109) #[] #[.pointer (some ⟨X, 0, none⟩)]) .nilFunc).run Tryz.prog w' = .ok (.bool false) w' := fun w' => by kernel_rfl
    go_upto_region 8 with fail
    clear hnf
    refine wp_region_noPanic ?_
    refine wp_region_held_drew (S := fun w' => w'.cell? ⟨sb, so', none⟩ = some (.func (.func 109) #[] #[.pointer (some ⟨X, 0, none⟩)]) ∧ w'.cell? ⟨B, 11, none⟩ = some (.slice (some ⟨tb, to_, none⟩) x.tn x.tc) ∧ w'.cell? ⟨B + 1, 2, none⟩ = some (.int .i64 (a : Int)) ∧ w'.cell? ⟨tb, to_ + a * 5, none⟩ = some (.int .i64 y.k) ∧ w'.cell? ⟨tb, to_ + a * 5 + 1, none⟩ = some (.int .i64 y.f) ∧ w'.cell? ⟨tb, to_ + a * 5 + 2, none⟩ = some (.int .i64 y.t) ∧ w'.cell? ⟨tb, to_ + a * 5 + 3, none⟩ = some (.string (mk nm)) ∧ w'.cell? ⟨tb, to_ + a * 5 + 4, none⟩ = some (.int .i64 y.e)) (by kernel_rfl) (HK8.out _ (Below.refl _ _).drew) (fun hHeld => ?_)
    refine zG 0 rfl ?_
    try simp only [Act.put, aS, aZ, aC]
    refine zG 1 rfl ?_
    try simp only [Act.put, aS, aZ, aC]
    refine zG 2 rfl ?_
    try simp only [Act.put, aS, aZ, aC]
    refine zG 3 rfl ?_
    try simp only [Act.put, aS, aZ, aC]
    refine zG 4 rfl ?_
    try simp only [Act.put, aS, aZ, aC]
    refine zG 5 rfl ?_
    try simp only [Act.put, aS, aZ, aC]
    refine zG 6 rfl ?_
    try simp only [Act.put, aS, aZ, aC]
    refine zG 7 rfl ?_
    try simp only [Act.put, aS, aZ, aC]
    refine zG 8 rfl ?_
    try simp only [Act.put, aS, aZ, aC]
    refine zG 9 rfl ?_
    try simp only [Act.put, aS, aZ, aC]
    refine zR [10] ?_
    refine hDo rfl (fun K hK => ?_) ?_
    ·go_simp
     (go_at_call 109; (with_reducible refine (KT.out _ (Below.refl _ _).drew).mono ?_); rintro e w9 ⟨rfl, hb9⟩)
     have HB9 : Hid (Below w4.heap.size w4 w9) := hid ((Below.refl _ _).drew.trans hb9)
     clear hb9
     refine hK.out _ _ (HK8.out _ HB9.out) (fun hHeld => ?_)
     clear hK K
     try simp only [Act.put, aS, aZ, aC]
     refine zG 11 rfl ?_
     try simp only [Act.put, aS, aZ, aC]
     refine wpAnyH_done (by kernel_rfl) ?_ _
     refine NoPanic.normal ?_
     have HR9 := hid (HR4.out.below HB9.out)
     have HM9 := hid (HS4.out.mi.below HB9.out)
     have HKX9 := hid (HKX4.out.bl HB9.out)
     cases d with
     | false =>
      have HCZ : Hid (Cn (DS x.L x.z x.tok x.F ((fA x.F f).S.drop i) a b) 0 []) := hid (by rw [HT.out]; exact zRO (fun K h => by cases h) HD.out.symm)
      clear k0 hltI ha0
      go_wp2_with (refine zAn zQc rfl (.tmp 4) (.tmp 78) rfl (B + 1 + 1) rfl (fdA 0 none 0 0) rfl rfl (zQe ..) (fdA 0 none 0 0) rfl HR9.out ?_; intro wz hz hoz; have HZ := hid hz; have HOZ := hid hoz; clear hz hoz)
      refine bodyPost_ret (zNr zQc rfl _ _ (B + 1 + 1) (fdA 0 none 0 0) rfl rfl HZ.out) rfl ⟨(0, []), ⟨none, 0, rfl, zQl _⟩, HCZ.out, HM9.out.found HR9.out HOZ.out, HKX9.out.put HOZ.out (by have := HBB.out; omega)⟩
     | true =>
      have HX9 := hid (HX4.out.below HB9.out)
      have HG9 := hid (HG4.out.below HB9.out)
      have g0 : w9.cell? ⟨B + 1, 0, none⟩ = some (.int .i64 (f : Int)) := HG9.out.cell 0
      have g1 : w9.cell? ⟨B + 1, 1, none⟩ = some (.int .i64 (i : Int)) := HG9.out.cell 1
      have g2 : w9.cell? ⟨B + 1, 2, none⟩ = some (.int .i64 (a : Int)) := HG9.out.cell 2
      have g3 : w9.cell? ⟨B + 1, 3, none⟩ = some (.int .i64 (b : Int)) := HG9.out.cell 3
      have hwi : IntKind.i64.wrap ((i : Int) + 1) = (i : Int) + 1 := IntWalk.i64_in _ (by omega)
      have hwa : IntKind.i64.wrap ((a : Int) + 1) = (a : Int) + 1 := IntWalk.i64_in _ (by omega)
      have hcr := HR1.out f (i + 1) (a + 1) b w9 HF.out (by have := HIL.out; omega) (by omega) hb (by have := HNN.out; unfold rk at this ⊢; rw [if_neg (Nat.succ_ne_zero _)]; split at this <;> omega) (HS4.out.below HB9.out)
      rw [HDR.out] at hcr
      unfold glA at hcr
      rw [show ((i + 1 : Nat) : Int) = (i : Int) + 1 by omega, show ((a + 1 : Nat) : Int) = (a : Int) + 1 by omega] at hcr
      have HCR := hid hcr
      clear hcr k0 hltI ha0
      go_wp2_with (refine zA2 zQf rfl (.tmp 2) rfl B rfl (srA x) (zQj HOK.out.z) HX9.out ?_)
      refine HCR.out.mono ?_
      rintro e' w10 ⟨⟨mv, lv⟩, ⟨nv, cv, rfl, hnv⟩, hcv, hmi, hkx⟩
      dsimp only at hnv hcv ⊢
      have HR10 := hid (HR9.out.kx hkx HM9.out.isMap)
      have HN10 := hid hnv
      have HM10 := hid hmi
      have HKX10 := hid (HKX9.out.trans hkx)
      have HC10 : Hid (Cn (DS x.L x.z x.tok x.F ((fA x.F f).S.drop i) a b) mv lv) := hid (by rw [HT.out]; exact zRN (fun K h => by cases h) hlt HD.out.symm hcv)
      clear g0 g1 g2 g3 hnv hcv hmi hkx
      go_wp2_with (refine zAn zQc rfl (.tmp 4) (.tmp 77) rfl (B + 1 + 1) rfl (fdA mv nv lv.length cv) rfl rfl (zQe ..) (fdA 0 none 0 0) rfl HR10.out ?_; intro wz hz hoz; have HZ := hid hz; have HOZ := hid hoz; clear hz hoz)
      refine bodyPost_ret (zNr zQc rfl _ _ (B + 1 + 1) (fdA mv nv lv.length cv) rfl rfl HZ.out) rfl ⟨(mv, lv), ⟨nv, cv, rfl, HN10.out.fnd HR10.out HOZ.out⟩, HC10.out, HM10.out.found HR10.out HOZ.out, HKX10.out.put HOZ.out (by have := HBB.out; omega)⟩
    ·exact AllReadyH.nil
   | pt p =>
    have hfv := hsd
    obtain ⟨X, rfl, hX, qa, qn, qc, rfl⟩ := hfv
    have HXX := hid hX
    clear hsd hX
    obtain ⟨tb, to_, hta, c0, c1, c2, c3, c4⟩ := zIa HS4.out.tk (show a < x.tn by omega)
    obtain ⟨y, hy⟩ : ∃ y, y = tat x.tok a := ⟨_, rfl⟩
    rw [← hy] at c0 c1 c2 c3 c4
    have HY := hid hy
    have hltI : (a : Int) < (x.tn : Int) := by omega
    have ha0 : (0 : Int) ≤ (a : Int) := Int.natCast_nonneg _
    obtain ⟨d, hd⟩ : ∃ d, d = Sd.ok (Sd.pt p) y := ⟨_, rfl⟩
    have KT : Hid (∀ w', Below w4.heap.size w4 w' → Calls Tryz.prog 111 #[.agg #[.int .i64 y.k, .int .i64 y.f, .int .i64 y.t, .string (mk (txN y)), .int .i64 y.e], .pointer (some ⟨X, 0, none⟩)] w' fun e w'' => e = .returned (.bool d) ∧ Below w'.heap.size w' w'') := hid fun w' hb' => by
     rw [hd]
     exact zRR y X p w' (HXX.out.below hb')
    have HK8 : Hid (∀ w', Below w4.heap.size w4 w' → w'.cell? ⟨sb, so', none⟩ = some (.func (.func 111) #[] #[.pointer (some ⟨X, 0, none⟩)]) ∧ w'.cell? ⟨B, 11, none⟩ = some (.slice (some ⟨tb, to_, none⟩) x.tn x.tc) ∧ w'.cell? ⟨B + 1, 2, none⟩ = some (.int .i64 (a : Int)) ∧ w'.cell? ⟨tb, to_ + a * 5, none⟩ = some (.int .i64 y.k) ∧ w'.cell? ⟨tb, to_ + a * 5 + 1, none⟩ = some (.int .i64 y.f) ∧ w'.cell? ⟨tb, to_ + a * 5 + 2, none⟩ = some (.int .i64 y.t) ∧ w'.cell? ⟨tb, to_ + a * 5 + 3, none⟩ = some (.string (mk (txN y))) ∧ w'.cell? ⟨tb, to_ + a * 5 + 4, none⟩ = some (.int .i64 y.e)) := hid fun w' hb' => by
     have hlt : tb < w4.heap.size := World.block_lt_of_cell? w4 ⟨tb, to_ + a * 5, none⟩ c0
     refine ⟨(hb'.cell (World.block_lt_of_cell? w4 ⟨sb, so', none⟩ k0)).trans k0, ?_, (HG4.out.below hb').cell 2, (hb'.cell hlt).trans c0, (hb'.cell hlt).trans c1, (hb'.cell hlt).trans c2, (hb'.cell hlt).trans c3, (hb'.cell hlt).trans c4⟩
     rw [(HX4.out.below hb').cell, (zRi HOK.out.z).1, hta]
    have HD : Hid (d = Sd.ok (Sd.pt p) (tat x.tok a)) := hid (by rw [hd, hy])
    obtain ⟨nm, hnm⟩ : ∃ q, q = txN y := ⟨_, rfl⟩
    rw [← hnm] at HK8 KT
    clear hy hd hnm c0 c1 c2 c3 c4 hta k1
    have hnf : ∀ w' : World, (binOp .eql 63 (.func (.func 111) #[] #[.pointer (some ⟨X, 0, none⟩)]) .nilFunc).run Tryz.prog w' = .ok (.bool false) w' := fun w' => by kernel_rfl
    go_upto_region 8 with fail
    clear hnf
    refine wp_region_noPanic ?_
    refine wp_region_held_drew (S := fun w' => w'.cell? ⟨sb, so', none⟩ = some (.func (.func 111) #[] #[.pointer (some ⟨X, 0, none⟩)]) ∧ w'.cell? ⟨B, 11, none⟩ = some (.slice (some ⟨tb, to_, none⟩) x.tn x.tc) ∧ w'.cell? ⟨B + 1, 2, none⟩ = some (.int .i64 (a : Int)) ∧ w'.cell? ⟨tb, to_ + a * 5, none⟩ = some (.int .i64 y.k) ∧ w'.cell? ⟨tb, to_ + a * 5 + 1, none⟩ = some (.int .i64 y.f) ∧ w'.cell? ⟨tb, to_ + a * 5 + 2, none⟩ = some (.int .i64 y.t) ∧ w'.cell? ⟨tb, to_ + a * 5 + 3, none⟩ = some (.string (mk nm)) ∧ w'.cell? ⟨tb, to_ + a * 5 + 4, none⟩ = some (.int .i64 y.e)) (by kernel_rfl) (HK8.out _ (Below.refl _ _).drew) (fun hHeld => ?_)
    refine zG 0 rfl ?_
    try simp only [Act.put, aS, aZ, aC]
    refine zG 1 rfl ?_
    try simp only [Act.put, aS, aZ, aC]
    refine zG 2 rfl ?_
    try simp only [Act.put, aS, aZ, aC]
    refine zG 3 rfl ?_
    try simp only [Act.put, aS, aZ, aC]
    refine zG 4 rfl ?_
    try simp only [Act.put, aS, aZ, aC]
    refine zG 5 rfl ?_
    try simp only [Act.put, aS, aZ, aC]
    refine zG 6 rfl ?_
    try simp only [Act.put, aS, aZ, aC]
    refine zG 7 rfl ?_
    try simp only [Act.put, aS, aZ, aC]
    refine zG 8 rfl ?_
    try simp only [Act.put, aS, aZ, aC]
    refine zG 9 rfl ?_
    try simp only [Act.put, aS, aZ, aC]
    refine zR [10] ?_
    refine hDo rfl (fun K hK => ?_) ?_
    ·go_simp
     (go_at_call 111; (with_reducible refine (KT.out _ (Below.refl _ _).drew).mono ?_); rintro e w9 ⟨rfl, hb9⟩)
     have HB9 : Hid (Below w4.heap.size w4 w9) := hid ((Below.refl _ _).drew.trans hb9)
     clear hb9
     refine hK.out _ _ (HK8.out _ HB9.out) (fun hHeld => ?_)
     clear hK K
     try simp only [Act.put, aS, aZ, aC]
     refine zG 11 rfl ?_
     try simp only [Act.put, aS, aZ, aC]
     refine wpAnyH_done (by kernel_rfl) ?_ _
     refine NoPanic.normal ?_
     have HR9 := hid (HR4.out.below HB9.out)
     have HM9 := hid (HS4.out.mi.below HB9.out)
     have HKX9 := hid (HKX4.out.bl HB9.out)
     cases d with
     | false =>
      have HCZ : Hid (Cn (DS x.L x.z x.tok x.F ((fA x.F f).S.drop i) a b) 0 []) := hid (by rw [HT.out]; exact zRO (fun K h => by cases h) HD.out.symm)
      clear k0 hltI ha0
      go_wp2_with (refine zAn zQc rfl (.tmp 4) (.tmp 78) rfl (B + 1 + 1) rfl (fdA 0 none 0 0) rfl rfl (zQe ..) (fdA 0 none 0 0) rfl HR9.out ?_; intro wz hz hoz; have HZ := hid hz; have HOZ := hid hoz; clear hz hoz)
      refine bodyPost_ret (zNr zQc rfl _ _ (B + 1 + 1) (fdA 0 none 0 0) rfl rfl HZ.out) rfl ⟨(0, []), ⟨none, 0, rfl, zQl _⟩, HCZ.out, HM9.out.found HR9.out HOZ.out, HKX9.out.put HOZ.out (by have := HBB.out; omega)⟩
     | true =>
      have HX9 := hid (HX4.out.below HB9.out)
      have HG9 := hid (HG4.out.below HB9.out)
      have g0 : w9.cell? ⟨B + 1, 0, none⟩ = some (.int .i64 (f : Int)) := HG9.out.cell 0
      have g1 : w9.cell? ⟨B + 1, 1, none⟩ = some (.int .i64 (i : Int)) := HG9.out.cell 1
      have g2 : w9.cell? ⟨B + 1, 2, none⟩ = some (.int .i64 (a : Int)) := HG9.out.cell 2
      have g3 : w9.cell? ⟨B + 1, 3, none⟩ = some (.int .i64 (b : Int)) := HG9.out.cell 3
      have hwi : IntKind.i64.wrap ((i : Int) + 1) = (i : Int) + 1 := IntWalk.i64_in _ (by omega)
      have hwa : IntKind.i64.wrap ((a : Int) + 1) = (a : Int) + 1 := IntWalk.i64_in _ (by omega)
      have hcr := HR1.out f (i + 1) (a + 1) b w9 HF.out (by have := HIL.out; omega) (by omega) hb (by have := HNN.out; unfold rk at this ⊢; rw [if_neg (Nat.succ_ne_zero _)]; split at this <;> omega) (HS4.out.below HB9.out)
      rw [HDR.out] at hcr
      unfold glA at hcr
      rw [show ((i + 1 : Nat) : Int) = (i : Int) + 1 by omega, show ((a + 1 : Nat) : Int) = (a : Int) + 1 by omega] at hcr
      have HCR := hid hcr
      clear hcr k0 hltI ha0
      go_wp2_with (refine zA2 zQf rfl (.tmp 2) rfl B rfl (srA x) (zQj HOK.out.z) HX9.out ?_)
      refine HCR.out.mono ?_
      rintro e' w10 ⟨⟨mv, lv⟩, ⟨nv, cv, rfl, hnv⟩, hcv, hmi, hkx⟩
      dsimp only at hnv hcv ⊢
      have HR10 := hid (HR9.out.kx hkx HM9.out.isMap)
      have HN10 := hid hnv
      have HM10 := hid hmi
      have HKX10 := hid (HKX9.out.trans hkx)
      have HC10 : Hid (Cn (DS x.L x.z x.tok x.F ((fA x.F f).S.drop i) a b) mv lv) := hid (by rw [HT.out]; exact zRN (fun K h => by cases h) hlt HD.out.symm hcv)
      clear g0 g1 g2 g3 hnv hcv hmi hkx
      go_wp2_with (refine zAn zQc rfl (.tmp 4) (.tmp 77) rfl (B + 1 + 1) rfl (fdA mv nv lv.length cv) rfl rfl (zQe ..) (fdA 0 none 0 0) rfl HR10.out ?_; intro wz hz hoz; have HZ := hid hz; have HOZ := hid hoz; clear hz hoz)
      refine bodyPost_ret (zNr zQc rfl _ _ (B + 1 + 1) (fdA mv nv lv.length cv) rfl rfl HZ.out) rfl ⟨(mv, lv), ⟨nv, cv, rfl, HN10.out.fnd HR10.out HOZ.out⟩, HC10.out, HM10.out.found HR10.out HOZ.out, HKX10.out.put HOZ.out (by have := HBB.out; omega)⟩
    ·exact AllReadyH.nil
end
end Go.Proofs.YtcjbhdgjcpnklaaGreatDoor
