import Derived.Lib.Bytealg
import Derived.BigQuiet
import Derived.Deep.QuietTactic
import Derived.Test.YtcjbhdgjcpnklaaGreatDoorV22
import Derived.Test.YtcjbhdgjcpnklaaGreatDoorV01
import Derived.Test.YtcjbhdgjcpnklaaGreatDoorV09
import Derived.Test.YtcjbhdgjcpnklaaGreatDoorV10
namespace Go.Proofs.YtcjbhdgjcpnklaaGreatDoor
section
open Go.RowKit
set_option maxRecDepth 20000 in
theorem zJ8 (k : Int) (w : World) : Calls Tryz.prog 176 #[.int .i64 k] w fun e w' => e = .returned (.bool (kdB k)) ∧ w = w' := by
 unfold kdB
 cases h1 : k == 1 with
 | true =>
  go_enter Tryz.func176, Tryz.ntmps176
  go_wp2
  go_ret
  exact ⟨rfl, rfl⟩
 | false =>
  cases h2 : k == 2 with
  | true =>
   go_enter Tryz.func176, Tryz.ntmps176
   go_wp2
   go_ret
   exact ⟨rfl, rfl⟩
  | false =>
   cases h6 : k == 6 with
   | true =>
    go_enter Tryz.func176, Tryz.ntmps176
    go_wp2
    go_ret
    exact ⟨rfl, rfl⟩
   | false =>
    go_enter Tryz.func176, Tryz.ntmps176
    go_wp2
    go_ret
    exact ⟨rfl, rfl⟩
theorem zAd {p : Nm} (h : bar p = true) : stB p = false := by unfold stB; rw [h]; rfl
theorem zH0 {p : Nm} (h : bar p = false) : stB p = oneB p := by unfold stB; rw [h]; rfl
theorem zGF {p : Nm} (h : (toks (nb p)).length ≠ 1) : oneB p = false := by
 unfold oneB
 split
 ·rename_i t ht; rw [ht] at h; exact absurd rfl h
 ·rfl
theorem zJ9 {p : Nm} {t : TK} (h : toks (nb p) = [t]) : oneB p = (t.s.toList == p && kdB t.k) := by
 unfold oneB; rw [h]
theorem zH1 {p : Nm} (h1 : (p == [40]) = false) (h2 : (p == [41]) = false) (h3 : (p == [44]) = false) (h4 : (p == [46]) = false) (h5 : (p == [58, 45]) = false) : bar p = false := by
 unfold bar; rw [h1, h2, h3, h4, h5]; rfl
set_option maxRecDepth 20000 in
set_option maxHeartbeats 4000000 in
theorem zCQ (S : ByteArray) (w : World) (ht : Tab w) (hsz : S.size ≤ 100000) :
  Calls Tryz.prog 161 #[.string S] w fun e w' => e = .returned (.bool (stB S.toList)) ∧ Below w.heap.size w w' := by
 cases h1 : S.toList == [40] with
 | true =>
  have hb := zAd (p := S.toList) (by unfold bar; rw [h1]; rfl)
  go_enter Tryz.func161, Tryz.ntmps161
  go_wp2
  go_ret
  exact ⟨by rw [hb]; rfl, Below.refl _ _⟩
 | false =>
 cases h2 : S.toList == [41] with
 | true =>
  have hb := zAd (p := S.toList) (by unfold bar; rw [h2]; simp)
  go_enter Tryz.func161, Tryz.ntmps161
  go_wp2
  go_ret
  exact ⟨by rw [hb]; rfl, Below.refl _ _⟩
 | false =>
 cases h3 : S.toList == [44] with
 | true =>
  have hb := zAd (p := S.toList) (by unfold bar; rw [h3]; simp)
  go_enter Tryz.func161, Tryz.ntmps161
  go_wp2
  go_ret
  exact ⟨by rw [hb]; rfl, Below.refl _ _⟩
 | false =>
 cases h4 : S.toList == [46] with
 | true =>
  have hb := zAd (p := S.toList) (by unfold bar; rw [h4]; simp)
  go_enter Tryz.func161, Tryz.ntmps161
  go_wp2
  go_ret
  exact ⟨by rw [hb]; rfl, Below.refl _ _⟩
 | false =>
 cases h5 : S.toList == [58, 45] with
 | true =>
  have hb := zAd (p := S.toList) (by unfold bar; rw [h5]; simp)
  go_enter Tryz.func161, Tryz.ntmps161
  go_wp2
  go_ret
  exact ⟨by rw [hb]; rfl, Below.refl _ _⟩
 | false =>
 have HB := hid (zH0 (zH1 h1 h2 h3 h4 h5))
 have hl : (sb S).length = S.size := by rw [zG5]; simp [sb]
 obtain ⟨n, hn⟩ : ∃ n, n = (sb S).length := ⟨_, rfl⟩
 obtain ⟨g, C, W1, hrun, hbs, hbel⟩ := zHr w S (sb S) (zJx S).symm (zNR S) (by omega)
 rw [← hn] at hrun hbs
 have hn1 : n ≤ 100000 := by omega
 have HBS := hid hbs
 have HW1 := hid hbel
 have HT := hid ht
 have HN := hid hn
 clear hl hn hbs hbel ht
 go_enter Tryz.func161, Tryz.ntmps161
 go_wp2_with fail
 refine (zDA _ n C (sb S) _ HBS.out (HT.out.keep HW1.out) (by omega)).mono ?_
 rintro e w2 ⟨a', rfl, hr, hb2⟩
 have HW2 : Hid (Below w.heap.size w w2) := hid (HW1.out.trans (hb2.mono HW1.out.size))
 obtain ⟨L, hL⟩ : ∃ L, L = toks (sb S) := ⟨_, rfl⟩
 rw [← hL] at hr ⊢
 have HL := hid hL
 have hts := hr.ts
 clear hrun hb2 hr hL
 by_cases h0 : L.length = 1
 ·obtain ⟨t, rfl⟩ : ∃ t, L = [t] := by
   match L, h0 with
   | [t], _ => exact ⟨t, rfl⟩
  have HE : Hid (stB S.toList = (t.s.toList == S.toList && kdB t.k)) := hid (by rw [HB.out]; exact zJ9 HL.out.symm)
  obtain ⟨d, o, rfl, _, hx⟩ := hts.at_ (by simp)
  clear hx
  obtain ⟨c0, c1, c2, c3, c4⟩ := hts.at5 (k := 0) (by simp)
  simp only [tat, List.getD_cons_zero, Nat.zero_mul, Nat.add_zero] at c0 c1 c2 c3 c4
  obtain ⟨k, f, u, s, e⟩ := t
  simp only at c0 c1 c2 c3 c4 HE
  clear hts h0
  cases hq : s.toList == S.toList with
  | true =>
   go_wp2_with fail
   refine (zJ8 k _).mono ?_
   rintro e w3 ⟨rfl, rfl⟩
   go_wp2
   go_ret
   exact ⟨by rw [HE.out, hq]; rfl, HW2.out⟩
  | false =>
   go_wp2
   go_ret
   exact ⟨by rw [HE.out, hq]; rfl, HW2.out⟩
 ·have HE : Hid (stB S.toList = false) := hid (by rw [HB.out]; exact zGF (by rw [← zQC, ← HL.out]; exact h0))
  go_wp2
  go_ret
  exact ⟨by rw [HE.out]; rfl, HW2.out⟩
end
section
open Go.RowKit
def ub (p : Nm) (k : Nat) : Int := ((p.getD k 0).toNat : Int)
theorem mk_ext (p : Nm) (i j : Nat) : (mk p).extract i j = mk ((p.take j).drop i) := by
 apply ByteArray.ext
 rw [ByteArray.data_extract]
 simp only [mk]
 apply Array.ext'
 simp [List.extract_eq_take_drop, List.drop_take]
theorem zH2 (w : World) (p : Nm) (k : Nat) (hk : k < p.length) : (Instr.index 9 (.string (mk p)) (.int .i64 k)).run Tryz.prog w = .ok (.int .u8 (ub p k)) w := by
 rw [run_index_string w 9 (mk p) .i64 k Tryz.underlying9, dif_pos ⟨by omega, by rw [mk_size]; omega⟩]
 congr 2
 unfold ub
 simp only [ByteArray.getElem_eq_getElem_data]
 simp [mk, List.getD, hk]
theorem zNU (w : World) (p : Nm) (k : Nat) (hk : k ≤ p.length) : (Instr.slice 9 (.string (mk p)) none (some (.int .i64 k)) none).run Tryz.prog w = .ok (.string (mk (p.take k))) w := by
 have := run_slice_string_h w 9 (mk p) Tryz.underlying9 .i64 k (by omega) (by rw [mk_size]; omega)
 rw [this, Int.toNat_natCast, mk_ext, List.drop_zero]
theorem zNV (w : World) (p : Nm) (k : Nat) (hk : k ≤ p.length) : (Instr.slice 9 (.string (mk p)) (some (.int .i64 k)) none none).run Tryz.prog w = .ok (.string (mk (p.drop k))) w := by
 have := run_slice_string_l w 9 (mk p) Tryz.underlying9 .i64 k (by omega) (by rw [mk_size]; omega)
 rw [this, Int.toNat_natCast, mk_ext, mk_size, List.take_length]
theorem zOE (w : World) (p : Nm) (f t : Nat) (hft : f ≤ t) (ht : t ≤ p.length) : (Instr.slice 9 (.string (mk p)) (some (.int .i64 f)) (some (.int .i64 t)) none).run Tryz.prog w = .ok (.string (mk ((p.take t).drop f))) w := by
 have := run_slice_string (P := Tryz.prog) w 9 (mk p) .i64 .i64 f t Tryz.underlying9 (by omega) (by omega) (by rw [mk_size]; omega)
 rw [this, Int.toNat_natCast, Int.toNat_natCast, mk_ext]
theorem zDX {b : Nat} {w w' : World} (h : Below w.heap.size w w') : w.grownBy w' (some b) := ⟨h.os, h.tape, h.output, h.size, fun k hk _ => h.block k hk⟩
theorem zCR {b : Nat} {w w' w'' : World} (h : w.grownBy w' (some b)) (g : w'.grownBy w'' (some b)) : w.grownBy w'' (some b) :=
 ⟨g.os.trans h.os, g.tape.trans h.tape, g.output.trans h.output, Nat.le_trans h.size g.size, fun k hk hn => (g.block k (Nat.lt_of_lt_of_le hk h.size) hn).trans (h.block k hk hn)⟩
theorem zB6 (w : World) (b j : Nat) (v : Value) : w.grownBy (w.setCell ⟨b, j, none⟩ v) (some b) :=
 ⟨rfl, rfl, rfl, by simp [World.setCell], fun k _ hn => Below.heap_setCell w ⟨b, j, none⟩ v k (fun h => hn (by rw [h]))⟩
theorem zCD {w : World} {b j : Nat} {c : Array Value} {e : TypeId} {m : Nat × Nat} (v : Value) (h : w.heap[b]? = some (.cells c e m)) :
  (w.setCell ⟨b, j, none⟩ v).heap[b]? = some (.cells (c.setIfInBounds j v) e m) := by
 simp [World.setCell, Array.getElem?_modify, h]
theorem zBx {b : Nat} {w w' : World} (h : w.grownBy w' (some b)) {k : Nat} {o : Obj} (ho : w.heap[k]? = some o) (hk : k ≠ b) : w'.heap[k]? = some o :=
 (h.block k (Array.getElem?_eq_some_iff.1 ho).1 (fun hh => hk (by simpa using hh))).trans ho
theorem zBD {B b : Nat} {w w' : World} (h : w.grownBy w' (some b)) (hb : B ≤ b) (hB : B ≤ w.heap.size) : Below B w w' :=
 (Below.refl B w).grown h hB fun k hk => by simp at hk; omega
def RS (w : World) (g : Nat) (p : Nm) : Prop := w.heap[g]? = some (.cells #[.string (mk p)] 9 (0, 0))
theorem RS.cell {w : World} {g : Nat} {p : Nm} (h : RS w g p) : w.cell? ⟨g, 0, none⟩ = some (.string (mk p)) := by unfold RS at h; simp [World.cell?, h]
theorem RS.fz {w : World} {g : Nat} {p : Nm} (h : RS w g p) : w.frozen? ⟨g, 0, none⟩ = false := by unfold RS at h; simp [World.frozen?, h]
theorem RS.lt {w : World} {g : Nat} {p : Nm} (h : RS w g p) : g < w.heap.size := (Array.getElem?_eq_some_iff.1 h).1
theorem RS.set {w : World} {g : Nat} {p : Nm} (h : RS w g p) (q : Nm) : RS (w.setCell ⟨g, 0, none⟩ (.string (mk q))) g q := by
 unfold RS at *
 rw [zCD _ h]; simp
theorem RS.below {w w' : World} {g : Nat} {p : Nm} (h : RS w g p) (hb : Below w.heap.size w w') : RS w' g p := (hb.block g h.lt).trans h
def mB (p : Nm) : Bool := p.head? == some 95
def mL (p : Nm) : Nm := if mB p then p.tail else p
theorem zNW (p : Nm) : Lib.hasPrefix p [95] = mB p := by
 unfold Lib.hasPrefix mB
 cases p with
 | nil => rfl
 | cons c p => simp only [List.isPrefixOf, Bool.and_true, List.head?_cons]; rw [show ((95 : UInt8) == c) = (c == 95) from BEq.comm]; rfl
theorem zPb (p : Nm) : Lib.trimPrefix p [95] = mL p := by
 unfold Lib.trimPrefix mL
 rw [zNW]
 split
 ·cases p <;> rfl
 ·rfl
set_option maxRecDepth 20000 in
theorem zH3 (g : Nat) (p : Nm) (w : World) (h : RS w g p) :
  Calls Tryz.prog 156 #[.pointer (some ⟨g, 0, none⟩)] w fun e w' => e = .returned (.bool (mB p)) ∧ RS w' g (mL p) ∧ w.grownBy w' (some g) := by
 have c0 := h.cell
 have hf := h.fz
 have H := hid h
 have hb := zNW p
 have hl := zPb p
 clear h
 go_enter Tryz.func156, Tryz.ntmps156
 go_wp2_with fail
 refine (Tryz.strings_CutPrefix (mk p) ⟨#[95]⟩ _).mono ?_
 rw [show (mk p).data.toList = p from rfl, show (⟨#[95]⟩ : ByteArray).data.toList = [95] from rfl, hb, hl, show (⟨(mL p).toArray⟩ : ByteArray) = mk (mL p) from rfl]
 rintro e w' ⟨rfl, rfl⟩
 go_wp2
 go_ret
 exact ⟨rfl, H.out.set _, zB6 _ _ _ _⟩
theorem zPc : ∀ p : Nm, (95 : UInt8) ∉ p → Lib.indexByte p 95 = -1
 | [], _ => rfl
 | c :: p, h => by
  have hc : (c == 95) = false := by simpa using fun e : c = 95 => h (by simp [e])
  rw [Lib.indexByte, hc, zPc p fun e => h (List.mem_cons_of_mem _ e)]; rfl
theorem zNX : ∀ p : Nm, (95 : UInt8) ∈ p → Lib.indexByte p 95 = ((hd p).length : Int)
 | [], h => by cases h
 | c :: p, h => by
  by_cases hc : c = 95
  ·subst hc; rfl
  ·have ih := zNX p (by rcases List.mem_cons.1 h with e | e; exact absurd e.symm hc; exact e)
   rw [Lib.indexByte, show (c == 95) = false by simpa using hc, zQB hc, ih]
   have : (((hd p).length : Int) == -1) = false := by rw [beq_eq_false_iff_ne]; omega
   rw [this, List.length_cons]
   simp
theorem zQI (p : Nm) : (hd p).length ≤ p.length := by
 have := congrArg List.length (zG4 p)
 rw [List.length_append] at this
 omega
theorem zOF (p : Nm) : p.take (hd p).length = hd p := by
 have : (hd p ++ tl p).take (hd p).length = hd p := List.take_left
 rwa [zG4] at this
theorem zOG (p : Nm) : p.drop (hd p).length = tl p := by
 have : (hd p ++ tl p).drop (hd p).length = tl p := List.drop_left
 rwa [zG4] at this
theorem zQJ {p : Nm} (h : (95 : UInt8) ∈ p) : (hd p).length + 1 ≤ p.length := by
 have h1 := zG4 p
 have h2 := congrArg List.length h1
 rw [List.length_append] at h2
 cases ht : tl p with
 | nil => rw [ht, List.append_nil] at h1; have := zPW p; rw [h1] at this; exact absurd h this
 | cons c r => rw [ht, List.length_cons] at h2; omega
theorem zQK (p : Nm) : (([95] : List UInt8) == (mk p).toList) = (p == [95]) := by
 rw [mk_toList, BEq.comm]
theorem zQZ (w : World) : (Instr.index 9 (.string ⟨#[95]⟩) (.int .i64 0)).run Tryz.prog w = .ok (.int .u8 95) w := zH2 w [95] 0 (by decide)
set_option maxRecDepth 100000 in
set_option maxHeartbeats 4000000 in
theorem zGG (p : Nm) (w : World) :
  Calls Tryz.prog 185 #[.string (mk p), .string ⟨#[95]⟩] w fun e w' => e = .returned (.int .i64 (Lib.indexByte p 95)) ∧ w = w' := by
 obtain ⟨z, hz⟩ : ∃ z, z = Lib.indexByte p 95 := ⟨_, rfl⟩
 have HZ := hid hz
 have hu := zQK p
 rw [← hz]
 clear hz
 cases hp : p == [95] with
 | true =>
  rw [hp] at hu
  have HE : Hid (z = 0) := hid (by rw [HZ.out, eq_of_beq hp]; rfl)
  go_enter Tryz.func185, Tryz.ntmps185
  go_wp2
  go_ret
  exact ⟨by rw [HE.out]; rfl, rfl⟩
 | false =>
  rw [hp] at hu
  have hix := zQZ w
  go_enter Tryz.func185, Tryz.ntmps185
  go_wp2_with fail
  refine (Tryz.stringslite_IndexByte (mk p) 95 _).mono ?_
  rw [show (mk p).data.toList = p from rfl, show ((95 : Int).toNat.toUInt8) = 95 from rfl, ← HZ.out]
  rintro e w' ⟨rfl, rfl⟩
  go_wp2
  go_ret
  exact ⟨rfl, rfl⟩
set_option maxRecDepth 20000 in
set_option maxHeartbeats 2000000 in
theorem zMA (p : Nm) (w : World) (hsz : p.length ≤ 1000000) :
  Calls Tryz.prog 174 #[.string (mk p), .string ⟨#[95]⟩] w fun e w' => ∃ s f, e = .returned (.tuple #[.string (mk (hd p)), s, f]) ∧ Below w.heap.size w w' := by
 by_cases h : (95 : UInt8) ∈ p
 ·have hx := zNX p h
  have hle := zQJ h
  obtain ⟨m, hm⟩ : ∃ m, m = (hd p).length := ⟨_, rfl⟩
  have hs1 : ∀ w, (Instr.slice 9 (.string (mk p)) none (some (.int .i64 m)) none).run Tryz.prog w = .ok (.string (mk (hd p))) w := fun w => by
   rw [zNU w p m (by omega), hm, zOF]
  have hs2 : ∀ w, (Instr.slice 9 (.string (mk p)) (some (.int .i64 ((m : Int) + 1))) none none).run Tryz.prog w = .ok (.string (mk (p.drop (m + 1)))) w := fun w => by
   have := zNV w p (m + 1) (by omega)
   rwa [Int.natCast_add] at this
  rw [← hm] at hx
  have hm0 : (0 : Int) ≤ (m : Int) := Int.natCast_nonneg _
  have hm1 : (m : Int) ≤ 1000000 := by omega
  have hw : IntKind.i64.wrap ((m : Int) + 1) = (m : Int) + 1 := IntWalk.i64_in _ (by omega)
  obtain ⟨q, hq⟩ : ∃ q, q = hd p := ⟨_, rfl⟩
  rw [← hq] at hs1 ⊢
  clear hm hle hq
  go_enter Tryz.func174, Tryz.ntmps174
  go_wp2_with fail
  refine (zGG p _).mono ?_
  rw [hx]
  rintro e w' ⟨rfl, rfl⟩
  go_wp2
  go_quiet (fail)
  go_wp2
  go_ret3
  exact ⟨_, _, rfl, below_drewN (Below.refl _ _) _⟩
 ·have hx := zPc p h
  have hh := (zHv h).1
  go_enter Tryz.func174, Tryz.ntmps174
  go_wp2_with fail
  refine (zGG p _).mono ?_
  rw [hx]
  rintro e w' ⟨rfl, rfl⟩
  go_wp2
  go_ret3
  exact ⟨_, _, by rw [hh]; rfl, Below.refl _ _⟩
theorem zOH (p : Nm) (w : World) (hsz : p.length ≤ 1000000) :
  Calls Tryz.prog 159 #[.string (mk p), .string ⟨#[95]⟩] w fun e w' => ∃ s f, e = .returned (.tuple #[.string (mk (hd p)), s, f]) ∧ Below w.heap.size w w' := by
 go_enter Tryz.func159, Tryz.ntmps159
 go_wp2_with fail
 refine (zMA p _ hsz).mono ?_
 rintro e w' ⟨s, f, rfl, hb⟩
 go_wp2
 go_ret3
 exact ⟨s, f, rfl, hb⟩
theorem zKA (p : Nm) (w : World) (hsz : p.length ≤ 1000000) :
  Calls Tryz.prog 160 #[.string (mk p)] w fun e w' => e = .returned (.string (mk p)) ∧ Below w.heap.size w w' := by
 go_enter Tryz.func160, Tryz.ntmps160
 go_wp2_with fail
 refine (Tryz.stringslite_Clone (mk p) _ (by rw [mk_size]; omega)).mono ?_
 rintro e w' ⟨rfl, hb⟩
 go_wp2
 go_ret
 exact ⟨rfl, hb⟩
set_option maxRecDepth 20000 in
theorem zH4 (g : Nat) (p : Nm) (w : World) (h : RS w g p) (hsz : p.length ≤ 1000000) :
  Calls Tryz.prog 158 #[.pointer (some ⟨g, 0, none⟩)] w fun e w' => e = .returned (.string (mk (hd p))) ∧ RS w' g (tl p) ∧ w.grownBy w' (some g) := by
 have c0 := h.cell
 have H := hid h
 have hle := zQI p
 obtain ⟨m, hm⟩ : ∃ m, m = (hd p).length := ⟨_, rfl⟩
 have hs1 : ∀ w, (Instr.slice 9 (.string (mk p)) (some (.int .i64 m)) none none).run Tryz.prog w = .ok (.string (mk (tl p))) w := fun w => by
  rw [zNV w p m (by omega), hm, zOG]
 have hms : (mk (hd p)).size = m := by rw [mk_size, hm]
 obtain ⟨q, hq⟩ : ∃ q, q = hd p := ⟨_, rfl⟩
 have hql : q.length ≤ 1000000 := by rw [hq]; omega
 have HC := hid (zOH p · hsz)
 rw [← hq] at hms HC ⊢
 clear h hm hq
 go_enter Tryz.func158, Tryz.ntmps158
 go_wp2_with fail
 refine (HC.out _).mono ?_
 rintro e w1 ⟨s, f, rfl, hb1⟩
 have HR1 := hid (H.out.below hb1)
 have HB1 := hid hb1
 have c0 := HR1.out.cell
 have hf := HR1.out.fz
 clear hb1
 go_wp2_with fail
 refine (zKA q _ hql).mono ?_
 rintro e w2 ⟨rfl, hb2⟩
 go_wp2
 go_ret
 refine ⟨rfl, ?_, ?_⟩
 ·refine RS.below (w := w1.setCell ⟨g, 0, none⟩ (.string (mk (tl p)))) (HR1.out.set _) hb2
 ·exact zCR (zDX HB1.out) (zCR (zB6 _ _ _ _) (zDX hb2))
end
end Go.Proofs.YtcjbhdgjcpnklaaGreatDoor
