import Derived.Laws.ResultCell
import Derived.Laws.Rows
import Derived.Deep.Slices
import Derived.Test.YtcjbhdgjcpnklaaGreatDoorV22
import Derived.Test.YtcjbhdgjcpnklaaGreatDoorV14
import Derived.Test.YtcjbhdgjcpnklaaGreatDoorV18
import Derived.Test.YtcjbhdgjcpnklaaGreatDoorV19
namespace Go.Proofs.YtcjbhdgjcpnklaaGreatDoor
section
open Go.RowKit
theorem zMU {w : World} {b : Nat} (h : w.heap[b]? = some (.cells #[.string ⟨#[95, 43, 95]⟩, .string ⟨#[95, 42, 95]⟩, .string ⟨#[95, 45, 95]⟩, .string ⟨#[45, 95]⟩, .string ⟨#[95, 33]⟩, .string ⟨#[105, 102, 95, 116, 104, 101, 110, 95]⟩, .string ⟨#[105, 102, 95, 116, 104, 101, 110, 95, 101, 108, 115, 101, 95]⟩, .string ⟨#[91, 95, 93]⟩, .string ⟨#[123, 95, 124, 95, 125]⟩, .string ⟨#[95, 63, 95, 58, 95]⟩, .string ⟨#[110, 111, 116, 95]⟩, .string ⟨#[95, 105, 115, 95]⟩, .string ⟨#[108, 101, 116, 95, 61, 95, 105, 110, 95]⟩, .string ⟨#[95, 61, 62, 95]⟩, .string ⟨#[95, 59, 95]⟩, .string ⟨#[60, 60, 95, 62, 62]⟩] 111 (0, 0))) (q : Nat) (hq : q < 16) : w.cell? ⟨b, q, none⟩ = some (.string (mk (pat q))) := by
 rw [cell_of_row w b q _ _ _ h]
 obtain rfl | rfl | rfl | rfl | rfl | rfl | rfl | rfl | rfl | rfl | rfl | rfl | rfl | rfl | rfl | rfl : q = 0 ∨ q = 1 ∨ q = 2 ∨ q = 3 ∨ q = 4 ∨ q = 5 ∨ q = 6 ∨ q = 7 ∨ q = 8 ∨ q = 9 ∨ q = 10 ∨ q = 11 ∨ q = 12 ∨ q = 13 ∨ q = 14 ∨ q = 15 := by omega
 all_goals rfl
theorem zFa (g : Int) (k : Int) (hk : 0 < k) : -k < Int.tmod g k ∧ Int.tmod g k < k := by
 have h1 := Int.tmod_lt_of_pos g hk
 have h2 := Int.lt_tmod_of_pos g hk
 exact ⟨h2, h1⟩
def sumU (p : Nm) : Nat → Nat
 | 0 => 0
 | k + 1 => sumU p k + (p.getD k 0).toNat
def fitQ (p : Nm) : Nat := sumU p p.length % 16
def fitG (g : Int) : Int := 1 + Int.tmod (Int.tmod g 9 + 9) 9
def fitA (p : Nm) (g a : Int) : Int := if mayV (pat (fitQ p)) (fitG g) (Int.tmod (Int.tmod a 3 + 3) 3) = 0 then Int.tmod (Int.tmod a 3 + 3) 3 else 0
theorem zKZ (p : Nm) : fitQ p < 16 := Nat.mod_lt _ (by decide)
theorem zMV (g : Int) : 1 ≤ fitG g ∧ fitG g ≤ 9 := by
 have := zFa g 9 (by decide)
 unfold fitG
 rw [Int.tmod_eq_emod_of_nonneg (a := Int.tmod g 9 + 9) (by omega)]
 omega
theorem zOZ (p : Nm) (g a : Int) : mayV (pat (fitQ p)) (fitG g) (fitA p g a) = 0 := by
 unfold fitA
 split
 ·assumption
 ·obtain ⟨s, hs⟩ := zNb (zKZ p)
  rw [zBg hs (zMV g), zFQ]
  rfl
theorem zGR : (Tryz.prog.info? 38).map (·.size) = some 3 := by kernel_rfl
set_option maxRecDepth 20000 in
set_option maxHeartbeats 8000000 in
set_option maxRecDepth 20000 in
theorem zOa (p : Nm) (g a : Int) (w : World) (hsz : p.length ≤ 140737488355328) :
  Calls Tryz.prog 30 #[.agg #[.string (mk p), .int .i64 g, .int .i64 a]] w fun e w' => e = .returned (.agg #[.string (mk (pat (fitQ p))), .int .i64 (fitG g), .int .i64 (fitA p g a)]) ∧ Below w.heap.size w w' := by
 have hms := mk_size p
 have HIX : Hid (∀ (w : World) (j : Nat), j < p.length → (Instr.index 9 (.string (mk p)) (.int .i64 j)).run Tryz.prog w = .ok (.int .u8 (ub p j)) w) := hid fun w j h => zH2 w p j h
 obtain ⟨m, hm⟩ : ∃ m, m = p.length := ⟨_, rfl⟩
 have HFQ : Hid (fitQ p = sumU p m % 16) := hid (by rw [hm]; rfl)
 rw [← hm] at hms hsz HIX
 clear hm
 obtain ⟨B, hB⟩ : ∃ B, B = w.heap.size := ⟨_, rfl⟩
 obtain ⟨w1, hw1⟩ : ∃ w1, w1 = w.alloc (.cells #[.string (mk p), .int .i64 g, .int .i64 a] 38) := ⟨_, rfl⟩
 obtain ⟨w2, hw2⟩ : ∃ w2, w2 = w1.alloc (.cells #[.string ⟨#[]⟩, .int .i64 0, .int .i64 0] 38) := ⟨_, rfl⟩
 obtain ⟨w3, hw3⟩ : ∃ w3, w3 = w2.alloc (.cells #[.string ⟨#[95, 43, 95]⟩, .string ⟨#[95, 42, 95]⟩, .string ⟨#[95, 45, 95]⟩, .string ⟨#[45, 95]⟩, .string ⟨#[95, 33]⟩, .string ⟨#[105, 102, 95, 116, 104, 101, 110, 95]⟩, .string ⟨#[105, 102, 95, 116, 104, 101, 110, 95, 101, 108, 115, 101, 95]⟩, .string ⟨#[91, 95, 93]⟩, .string ⟨#[123, 95, 124, 95, 125]⟩, .string ⟨#[95, 63, 95, 58, 95]⟩, .string ⟨#[110, 111, 116, 95]⟩, .string ⟨#[95, 105, 115, 95]⟩, .string ⟨#[108, 101, 116, 95, 61, 95, 105, 110, 95]⟩, .string ⟨#[95, 61, 62, 95]⟩, .string ⟨#[95, 59, 95]⟩, .string ⟨#[60, 60, 95, 62, 62]⟩] 111) := ⟨_, rfl⟩
 go_enter Tryz.func30, Tryz.ntmps30
 have HX : Hid (w3.heap[B]? = some (.cells #[.string (mk p), .int .i64 g, .int .i64 a] 38 (0, 0)) ∧ w3.heap[B + 1]? = some (.cells #[.string ⟨#[]⟩, .int .i64 0, .int .i64 0] 38 (0, 0)) ∧ w3.heap[B + 1 + 1]? = some (.cells #[.string ⟨#[95, 43, 95]⟩, .string ⟨#[95, 42, 95]⟩, .string ⟨#[95, 45, 95]⟩, .string ⟨#[45, 95]⟩, .string ⟨#[95, 33]⟩, .string ⟨#[105, 102, 95, 116, 104, 101, 110, 95]⟩, .string ⟨#[105, 102, 95, 116, 104, 101, 110, 95, 101, 108, 115, 101, 95]⟩, .string ⟨#[91, 95, 93]⟩, .string ⟨#[123, 95, 124, 95, 125]⟩, .string ⟨#[95, 63, 95, 58, 95]⟩, .string ⟨#[110, 111, 116, 95]⟩, .string ⟨#[95, 105, 115, 95]⟩, .string ⟨#[108, 101, 116, 95, 61, 95, 105, 110, 95]⟩, .string ⟨#[95, 61, 62, 95]⟩, .string ⟨#[95, 59, 95]⟩, .string ⟨#[60, 60, 95, 62, 62]⟩] 111 (0, 0)) ∧ w3.heap.size = B + 1 + 1 + 1 ∧ B = w.heap.size ∧ Below w.heap.size w w3) := hid (by
  have s1 : w1.heap.size = B + 1 := by rw [hw1, hB]; simp
  have s2 : w2.heap.size = B + 1 + 1 := by rw [hw2]; simp [s1]
  have b1 : Below B w w1 := by rw [hw1, hB]; exact (Below.refl _ _).alloc (Nat.le_refl _) _
  have b2 : Below (B + 1) w1 w2 := by rw [hw2, ← s1]; exact (Below.refl _ _).alloc (Nat.le_refl _) _
  have b3 : Below (B + 1 + 1) w2 w3 := by rw [hw3, ← s2]; exact (Below.refl _ _).alloc (Nat.le_refl _) _
  have h1 : w1.heap[B]? = some (.cells #[.string (mk p), .int .i64 g, .int .i64 a] 38 (0, 0)) := by rw [hw1, hB]; exact heap_alloc_new w _
  have h2 : w2.heap[B + 1]? = some (.cells #[.string ⟨#[]⟩, .int .i64 0, .int .i64 0] 38 (0, 0)) := by rw [hw2, ← s1]; exact heap_alloc_new w1 _
  have h3 : w3.heap[B + 1 + 1]? = some (.cells #[.string ⟨#[95, 43, 95]⟩, .string ⟨#[95, 42, 95]⟩, .string ⟨#[95, 45, 95]⟩, .string ⟨#[45, 95]⟩, .string ⟨#[95, 33]⟩, .string ⟨#[105, 102, 95, 116, 104, 101, 110, 95]⟩, .string ⟨#[105, 102, 95, 116, 104, 101, 110, 95, 101, 108, 115, 101, 95]⟩, .string ⟨#[91, 95, 93]⟩, .string ⟨#[123, 95, 124, 95, 125]⟩, .string ⟨#[95, 63, 95, 58, 95]⟩, .string ⟨#[110, 111, 116, 95]⟩, .string ⟨#[95, 105, 115, 95]⟩, .string ⟨#[108, 101, 116, 95, 61, 95, 105, 110, 95]⟩, .string ⟨#[95, 61, 62, 95]⟩, .string ⟨#[95, 59, 95]⟩, .string ⟨#[60, 60, 95, 62, 62]⟩] 111 (0, 0)) := by rw [hw3, ← s2]; exact heap_alloc_new w2 _
  exact ⟨(b3.block B (by omega)).trans ((b2.block B (by omega)).trans h1), (b3.block (B + 1) (by omega)).trans h2, h3, by rw [hw3]; simp [s2], hB, by rw [← hB]; exact b1.trans ((b2.mono (by omega)).trans (b3.mono (by omega)))⟩)
 go_wp2
 rw [← hw1, ← hw2, ← hw3, ← hB]
 clear hw1 hw2 hw3 hB w1 w2
 go_loopw [4, 5] (fun v4 v5 wr => ∃ i z : Nat, v5 = .int .i64 i ∧ v4 = .int .i64 z ∧ i ≤ m ∧ z ≤ 255 * i ∧ Hid (z = sumU p i) ∧ wr = w3) (fun _ v _ => m - (intOf v).toNat)
 case atStart => exact ⟨0, 0, rfl, rfl, by omega, by omega, hid rfl, rfl⟩
 case round =>
  obtain ⟨i, z, rfl, rfl, hi, hz, HSM, rfl⟩ := hrel
  obtain ⟨x0, x1, x2⟩ := (three HX.out.1).1
  by_cases hlt : i < m
  ·have hlt' : (i : Int) < (m : Int) := by omega
   have hx := HIX.out wr i hlt
   obtain ⟨u, hun⟩ : ∃ u, u = (p.getD i 0).toNat := ⟨_, rfl⟩
   have hu255 : u ≤ 255 := by have := (p.getD i 0).toNat_lt; omega
   have hu : ub p i = (u : Int) := by rw [hun]; rfl
   rw [hu] at hx
   have HUN := hid hun
   clear hu hun
   go_wp2
   go_roundw
   case rel => exact ⟨i + 1, z + u, by go_num, by go_num, by omega, by omega, hid (by rw [HSM.out, HUN.out]; rfl), trivial⟩
   case measure => simp [intOf]; omega
  ·have hlt' : ¬ (i : Int) < (m : Int) := by omega
   obtain ⟨q, hq⟩ : ∃ q, q = z % 16 := ⟨_, rfl⟩
   have hq16 : q < 16 := by omega
   have hzq : Int.tmod (z : Int) 16 = (q : Int) := by rw [Int.tmod_eq_emod_of_nonneg (Int.natCast_nonneg _)]; omega
   have hqi : (0 : Int) ≤ (q : Int) ∧ (q : Int) < 16 := by omega
   have hqc := zMU HX.out.2.2.1 q hq16
   obtain ⟨g1, hg1⟩ : ∃ x, Int.tmod g 9 = x := ⟨_, rfl⟩
   have hgr := zFa g 9 (by decide)
   rw [hg1] at hgr
   have hgw : IntKind.i64.wrap (g1 + 9) = g1 + 9 := IntWalk.i64_in _ (by omega)
   obtain ⟨g2, hg2⟩ : ∃ x, Int.tmod (g1 + 9) 9 = x := ⟨_, rfl⟩
   have hg2r : 0 ≤ g2 ∧ g2 ≤ 8 := by rw [← hg2, Int.tmod_eq_emod_of_nonneg (by omega)]; omega
   have hgw2 : IntKind.i64.wrap (1 + g2) = 1 + g2 := IntWalk.i64_in _ (by omega)
   obtain ⟨a1, ha1⟩ : ∃ x, Int.tmod a 3 = x := ⟨_, rfl⟩
   have har := zFa a 3 (by decide)
   rw [ha1] at har
   have haw : IntKind.i64.wrap (a1 + 3) = a1 + 3 := IntWalk.i64_in _ (by omega)
   obtain ⟨a2, ha2⟩ : ∃ x, Int.tmod (a1 + 3) 3 = x := ⟨_, rfl⟩
   have ha2r : 0 ≤ a2 ∧ a2 ≤ 2 := by rw [← ha2, Int.tmod_eq_emod_of_nonneg (by omega)]; omega
   have HQE : Hid (fitQ p = q) := hid (by rw [HFQ.out, hq, HSM.out, show i = m by omega])
   have HGE : Hid (fitG g = 1 + g2) := hid (by unfold fitG; rw [hg1, hg2])
   have HAE : Hid (fitA p g a = if mayV (pat q) (1 + g2) a2 = 0 then a2 else 0) := hid (by unfold fitA; rw [HQE.out, HGE.out, ha1, ha2])
   clear hq
   have hbz : Below wr.heap.size wr (wr.alloc (.cells #[.string ⟨#[]⟩, .int .i64 0, .int .i64 0] 38)) := (Below.refl _ _).alloc (Nat.le_refl _) _
   obtain ⟨⟨y0, y1, y2⟩, _⟩ := three (cells3 HX.out.1 hbz)
   have hqz := (hbz.cell (p := ⟨B + 1 + 1, q, none⟩) (by have := HX.out.2.2.2.1; show B + 1 + 1 < wr.heap.size; omega)).trans hqc
   obtain ⟨⟨n0, n1, n2⟩, f0, f1, f2⟩ := three (heap_alloc_new wr (.cells #[.string ⟨#[]⟩, .int .i64 0, .int .i64 0] 38))
   clear hbz
   go_wp2_with fail
   go_region
   have HD : Hid ((wr.alloc (.cells #[.string (mk (pat q)), .int .i64 (1 + g2), .int .i64 a2] 38)).drew.heap[wr.heap.size]? = some (.cells #[.string (mk (pat q)), .int .i64 (1 + g2), .int .i64 a2] 38 (0, 0))) := hid (heap_alloc_new wr _)
   have HBZ : Hid (Below wr.heap.size wr (wr.alloc (.cells #[.string (mk (pat q)), .int .i64 (1 + g2), .int .i64 a2] 38)).drew) := hid (((Below.refl _ _).alloc (Nat.le_refl _) _).drew)
   obtain ⟨wE, hwE⟩ : ∃ wE, wE = (wr.alloc (.cells #[.string (mk (pat q)), .int .i64 (1 + g2), .int .i64 a2] 38)).drew := ⟨_, rfl⟩
   obtain ⟨D, hD⟩ : ∃ D, D = wr.heap.size := ⟨_, rfl⟩
   rw [← hwE, ← hD] at HD
   rw [← hwE] at HBZ
   rw [← hwE, ← hD]
   have HDB : Hid (B + 1 < D) := hid (by have := HX.out.2.2.2.1; omega)
   have HR5 := hid (cells3 HX.out.2.1 HBZ.out)
   have HB5 : Hid (Below w.heap.size w wE) := hid (HX.out.2.2.2.2.2.trans (HBZ.out.mono HX.out.2.2.2.2.2.size))
   have HBW := hid HX.out.2.2.2.2.1
   clear hwE hD y0 y1 y2 n0 n1 n2 f0 f1 f2 hqz x0 x1 x2 hqc HX HBZ HIX
   obtain ⟨⟨d0, d1, d2⟩, _⟩ := three HD.out
   obtain ⟨s, hs⟩ := zNb hq16
   have HM := hid (fun a => zBg hs (g := 1 + g2) (by omega) a)
   go_wp2_with fail
   refine (zGH (pat q) (1 + g2) a2 wE (by have := zKH q hq16; omega)).mono ?_
   rw [HM.out a2]
   clear d0 d1 d2
   rintro e w6 ⟨rfl, hb6⟩
   have HD6 := hid (cells3 HD.out hb6)
   have HR6 := hid (cells3 HR5.out hb6)
   have HB6 : Hid (Below w.heap.size w w6) := hid (HB5.out.trans (hb6.mono HB5.out.size))
   clear hb6
   obtain ⟨⟨d0, d1, d2⟩, e0, e1, e2⟩ := three HD6.out
   obtain ⟨⟨r0, r1, r2⟩, k0, k1, k2⟩ := three HR6.out
   cases hd : sdB s a2 with
   | true =>
    have HE : Hid (mayV (pat q) (1 + g2) a2 = 0) := hid (by rw [HM.out a2, hd]; rfl)
    have HF := hid (zAO (x' := .string (mk (pat q))) (y' := .int .i64 (1 + g2)) (z' := .int .i64 a2) HR6.out)
    have HG := hid (zAV w6 (B + 1) (.string (mk (pat q))) (.int .i64 (1 + g2)) (.int .i64 a2))
    go_wp2
    refine bodyPost_ret (results_cell_row rfl _ _ (B + 1) 38 #[.string (mk (pat q)), .int .i64 (1 + g2), .int .i64 a2] (0, 0) _ rfl HF.out Tryz.underlying38 rfl zGR) rfl ⟨by rw [HQE.out, HGE.out, HAE.out, if_pos HE.out], HB6.out.trans (zBD HG.out (by rw [HBW.out]; omega) HB6.out.size)⟩
   | false =>
    have HD7 : Hid ((w6.setCell ⟨D, 2, none⟩ (.int .i64 0)).heap[D]? = some (.cells #[.string (mk (pat q)), .int .i64 (1 + g2), .int .i64 0] 38 (0, 0))) := hid (by rw [zCD _ HD6.out]; rfl)
    have HG7 := hid (zB6 w6 D 2 (.int .i64 0))
    have HR7 := hid (zBx HG7.out HR6.out (by have := HDB.out; omega))
    obtain ⟨⟨dd0, dd1, dd2⟩, _⟩ := three HD7.out
    obtain ⟨⟨rr0, rr1, rr2⟩, kk0, kk1, kk2⟩ := three HR7.out
    have HF := hid (zAO (x' := .string (mk (pat q))) (y' := .int .i64 (1 + g2)) (z' := .int .i64 0) HR7.out)
    have HG := hid (zAV (w6.setCell ⟨D, 2, none⟩ (.int .i64 0)) (B + 1) (.string (mk (pat q))) (.int .i64 (1 + g2)) (.int .i64 0))
    go_wp2
    refine bodyPost_ret (results_cell_row rfl _ _ (B + 1) 38 #[.string (mk (pat q)), .int .i64 (1 + g2), .int .i64 0] (0, 0) _ rfl HF.out Tryz.underlying38 rfl zGR) rfl ⟨by rw [HQE.out, HGE.out, HAE.out, if_neg (by rw [HM.out a2, hd]; decide)], ?_⟩
    have h7 : Below w.heap.size w (w6.setCell ⟨D, 2, none⟩ (.int .i64 0)) := HB6.out.trans (zBD HG7.out (by have := HDB.out; have := HBW.out; omega) HB6.out.size)
    exact h7.trans (zBD HG.out (by rw [HBW.out]; omega) h7.size)
end
section
open Go.RowKit Go.ChangeShapes Go.WideShapes Go.ChangeAt
def OA.op (e : OA) : OP := (e.s.data.toList, e.g, e.a)
theorem zOb (s : ByteArray) : mk s.data.toList = s := by unfold mk; rw [Array.toArray_toList]
theorem zEF {H : Type} {P : Program} {e : TypeId} {n : Nat} : ∀ {l : List (DataW H)} {d : DataW H}, d ∈ l → n ∈ d.weights P e → n ∈ DataW.weightsAll P e l
 | x :: l, d, h, hn => by
  unfold DataW.weightsAll
  rw [List.mem_append]
  rcases List.mem_cons.1 h with rfl | h
  ·exact .inl hn
  ·exact .inr (zEF h hn)
section
variable {H : Type} {enc : TypeId × Value → H} {w : World} {base : Nat} {held : Bool}
theorem zCo {ts : List TypeId} {ds : List (DataW H)} (h : (DataW.weightsEach Tryz.prog ts ds).all (· ≤ reachBytes) = true) {j : Nat} {t : TypeId} {d : DataW H} (ht : ts[j]? = some t) (hd : ds[j]? = some d) : ∀ n ∈ d.weights Tryz.prog t, n ≤ reachBytes := fun n hn =>
 of_decide_eq_true (List.all_eq_true.1 h _ (DataW.weights_mem_each ht hd n hn))
end
end
section
def fitO (o : OP) : OP := (pat (fitQ o.1), fitG o.2.1, fitA o.1 o.2.1 o.2.2)
theorem zCp (o : OP) : mayV (fitO o).1 (fitO o).2.1 (fitO o).2.2 = 0 ∧ (fitO o).1.length ≤ 20 := ⟨zOZ o.1 o.2.1 o.2.2, zKH _ (zKZ o.1)⟩
end
end Go.Proofs.YtcjbhdgjcpnklaaGreatDoor
