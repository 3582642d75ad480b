import Derived.Maps.Keyed
import Derived.Carry
import Derived.Deep.RegionHeld3
import Derived.Test.YtcjbhdgjcpnklaaGreatDoorV22
import Derived.Test.YtcjbhdgjcpnklaaGreatDoorV01
import Derived.Test.YtcjbhdgjcpnklaaGreatDoorV02
import Derived.Test.YtcjbhdgjcpnklaaGreatDoorV03
import Derived.Test.YtcjbhdgjcpnklaaGreatDoorV04
import Derived.Test.YtcjbhdgjcpnklaaGreatDoorV05
namespace Go.Proofs.YtcjbhdgjcpnklaaGreatDoor
section
open Go.RowKit
def nmB (l : List Int) : Bool := okSeq l && (decide (1 < takeN l) || nameB (bt l 0))
def nmF : Nat → List Int → Nat
 | 0, _ => 0
 | f + 1, l => if nmB l then takeN l + nmF f (l.drop (takeN l)) else 0
def nmL (l : List Int) : Nat := nmF l.length l
theorem zDt : nmB [] = false := by decide
theorem zNO {l : List Int} (h : nmB l = true) : okSeq l = true ∧ l ≠ [] := by
 unfold nmB at h
 have h1 : okSeq l = true := by
  cases ho : okSeq l <;> simp_all
 exact ⟨h1, ((zAp l).1 h1).1⟩
theorem zHl : ∀ (f g : Nat) (l : List Int), l.length ≤ f → l.length ≤ g → nmF f l = nmF g l
 | 0, 0, _, _, _ => rfl
 | 0, g + 1, l, h, _ => by
  have : l = [] := List.eq_nil_of_length_eq_zero (by omega)
  subst this; simp [nmF, zDt]
 | f + 1, 0, l, _, h => by
  have : l = [] := List.eq_nil_of_length_eq_zero (by omega)
  subst this; simp [nmF, zDt]
 | f + 1, g + 1, l, h, h' => by
  rw [nmF, nmF]
  split
  ·rename_i hb
   have h1 := zAy (zNO hb).2
   rw [zHl f g (l.drop (takeN l)) (by simp; omega) (by simp; omega)]
  ·rfl
theorem zHm (l : List Int) : nmL l = if nmB l then takeN l + nmL (l.drop (takeN l)) else 0 := by
 by_cases h0 : l = []
 ·subst h0; simp [nmL, nmF, zDt]
 ·have hp := List.length_pos_iff.2 h0
  have h1 := zAy h0
  unfold nmL
  obtain ⟨f, hf⟩ : ∃ f, l.length = f + 1 := ⟨l.length - 1, by omega⟩
  rw [hf, nmF, zHl f (l.drop (takeN l)).length _ (by simp; omega) (by simp)]
theorem zNP : ∀ (f : Nat) (l : List Int), nmF f l ≤ l.length
 | 0, _ => Nat.zero_le _
 | f + 1, l => by
  rw [nmF]; split
  ·have h1 := zCK l
   have h2 := zNP f (l.drop (takeN l))
   simp at h2; omega
  ·omega
theorem zEo (l : List Int) : nmL l ≤ l.length := zNP _ _
theorem zF8 {l : List Int} (h : nmB l = false) : nmL l = 0 := by rw [zHm, h]; rfl
theorem zGx {l : List Int} (h : nmB l = true) : nmL l = takeN l + nmL (l.drop (takeN l)) := by rw [zHm, h]; rfl
theorem zFE {l : List Int} (h : nmB l = true) : 0 < nmL l := by have := zAy (zNO h).2; rw [zGx h]; omega
theorem zGy : ∀ n : Nat, n < 256 → (cls n ≠ 9 → n < 128) ∧ (cls n = 9 → 128 ≤ n) ∧ (0 ≤ cls n ∧ cls n ≤ 9) ∧ (nameB n = true ↔ (cls n = 2 ∨ cls n = 3 ∨ cls n = 4)) := by decide +kernel
theorem zGz {c : Int} (h0 : 0 ≤ c) (h1 : c ≤ 255) : 0 ≤ cls c ∧ cls c ≤ 9 := by
 have := (zGy c.toNat (by omega)).2.2.1; rwa [Int.toNat_of_nonneg h0] at this
theorem zN9 {c : Int} (h0 : 0 ≤ c) (h1 : c ≤ 255) (h : cls c ≠ 9) : c < 128 := by
 have := (zGy c.toNat (by omega)).1; rw [Int.toNat_of_nonneg h0] at this; have := this h; omega
theorem zLv {c : Int} (h0 : 0 ≤ c) (h1 : c ≤ 255) (h : cls c = 9) : 128 ≤ c := by
 have := (zGy c.toNat (by omega)).2.1; rw [Int.toNat_of_nonneg h0] at this; have := this h; omega
theorem zF9 {c : Int} : nameB c = true ↔ (cls c = 2 ∨ cls c = 3 ∨ cls c = 4) := by unfold nameB; simp
theorem zFF {c : Int} (h : cls c = 2 ∨ cls c = 3 ∨ cls c = 4) : nameB c = true := zF9.2 h
theorem zCP {l : List Int} (h0 : l ≠ []) (hr : ∀ x ∈ l, 0 ≤ x ∧ x ≤ 255) (h : nameB (bt l 0) = true) : nmB l = true ∧ takeN l = 1 := by
 have hb := zAI hr 0
 have hc := zF9.1 h
 have hl : bt l 0 < 128 := zN9 hb.1 hb.2 (by omega)
 have := zJe h0 (by omega)
 exact ⟨by unfold nmB; rw [this.1, h]; simp, this.2⟩
theorem zFG {l : List Int} (h1 : okSeq l = true) (h2 : takeN l ≠ 1) : nmB l = true := by
 have := zAy ((zAp l).1 h1).1
 unfold nmB; rw [h1, decide_eq_true (by omega : 1 < takeN l)]; rfl
theorem zG0 {l : List Int} (h : okSeq l = false) : nmB l = false := by unfold nmB; rw [h]; rfl
theorem zJm {l : List Int} (h2 : takeN l = 1) (h : nameB (bt l 0) = false) : nmB l = false := by unfold nmB; rw [h2, h]; simp
structure TR where
 k : Int
 n : Nat
 t : List Int
 e : Int
 deriving DecidableEq
def endT (l : List Int) : Bool := decide (runL 5 l = 1) && (decide (bt l 0 = 46) && (decide (l.length = 1) || (decide (cls (bt l 1) = 1) || decide (cls (bt l 1) = 8))))
def nameT (k : Int) (l : List Int) : TR := ⟨k, nmL l, l.take (nmL l), 0⟩
def highT (l : List Int) : TR := if nmL l = 0 then ⟨8, 1, [], 10⟩ else nameT 1 l
def symT (l : List Int) : TR := ⟨if endT l then 7 else 2, runL 5 l, l.take (runL 5 l), 0⟩
def numT (l : List Int) : TR := if dkE l = 0 then ⟨4, dkK l, l.take (dkK l), 0⟩ else ⟨8, dkK l, [], dkE l⟩
def quoT (l : List Int) : TR := if (tk l).e = 0 then ⟨5, (tk l).n, (tk l).t, 0⟩ else ⟨8, (tk l).n, [], (tk l).e⟩
def firstT (l : List Int) : TR :=
 if cls (bt l 0) = 2 then nameT 1 l else if cls (bt l 0) = 3 then nameT 3 l else if cls (bt l 0) = 9 then highT l else if cls (bt l 0) = 5 then symT l
 else if cls (bt l 0) = 4 then numT l else if cls (bt l 0) = 7 then quoT l else if cls (bt l 0) = 6 then ⟨6, 1, l.take 1, 0⟩ else ⟨8, 1, [], 11⟩
theorem firstT2 {l : List Int} (h : cls (bt l 0) = 2) : firstT l = nameT 1 l := by unfold firstT; rw [if_pos h]
theorem firstT3 {l : List Int} (h : cls (bt l 0) = 3) : firstT l = nameT 3 l := by unfold firstT; rw [if_neg (by omega), if_pos h]
theorem firstT9 {l : List Int} (h : cls (bt l 0) = 9) : firstT l = highT l := by unfold firstT; rw [if_neg (by omega), if_neg (by omega), if_pos h]
theorem firstT5 {l : List Int} (h : cls (bt l 0) = 5) : firstT l = symT l := by unfold firstT; rw [if_neg (by omega), if_neg (by omega), if_neg (by omega), if_pos h]
theorem firstT4 {l : List Int} (h : cls (bt l 0) = 4) : firstT l = numT l := by unfold firstT; rw [if_neg (by omega), if_neg (by omega), if_neg (by omega), if_neg (by omega), if_pos h]
theorem firstT7 {l : List Int} (h : cls (bt l 0) = 7) : firstT l = quoT l := by unfold firstT; rw [if_neg (by omega), if_neg (by omega), if_neg (by omega), if_neg (by omega), if_neg (by omega), if_pos h]
theorem firstT6 {l : List Int} (h : cls (bt l 0) = 6) : firstT l = ⟨6, 1, l.take 1, 0⟩ := by unfold firstT; rw [if_neg (by omega), if_neg (by omega), if_neg (by omega), if_neg (by omega), if_neg (by omega), if_neg (by omega), if_pos h]
theorem firstT0 {l : List Int} (h : cls (bt l 0) = 0 ∨ cls (bt l 0) = 1 ∨ cls (bt l 0) = 8) : firstT l = ⟨8, 1, [], 11⟩ := by unfold firstT; rw [if_neg (by omega), if_neg (by omega), if_neg (by omega), if_neg (by omega), if_neg (by omega), if_neg (by omega), if_neg (by omega)]
def nx (l : List Int) (k : Nat) : Option (Nat × TR) :=
 if (sk (l.drop k)).2 ≠ 0 then some (k + (sk (l.drop k)).1, ⟨8, l.length - (k + (sk (l.drop k)).1), [], (sk (l.drop k)).2⟩)
 else if k + (sk (l.drop k)).1 = l.length then none
 else some (k + (sk (l.drop k)).1, firstT (l.drop (k + (sk (l.drop k)).1)))
end
section
open Go.RowKit
theorem zPU (r : List Int) : (qs r).n ≤ r.length ∧ ((qs r).e = 0 → 1 ≤ (qs r).n ∧ bt r ((qs r).n - 1) = 39) := by
 induction hn : r.length using Nat.strongRecOn generalizing r with
 | _ n ih =>
  by_cases h : qE r = -1
  ·have h1 := zNJ h
   have h2 := zPQ h
   have h3 := ih (r.drop (qN r)).length (by rw [List.length_drop]; omega) _ rfl
   rw [zPR h]
   rw [List.length_drop] at h3
   simp only
   refine ⟨by omega, fun h0 => ?_⟩
   have h4 := h3.2 h0
   refine ⟨by omega, ?_⟩
   have h5 := h4.2
   rw [zAB] at h5
   rw [← h5]; congr 1; omega
  ·by_cases h0 : qE r = 0
   ·rw [zPS h0]
    have hne : r ≠ [] := by intro hn'; subst hn'; rw [zPP] at h0; omega
    have hp : 1 ≤ r.length := List.length_pos_iff.2 hne
    refine ⟨by simp only; omega, fun _ => ⟨Nat.le_refl _, ?_⟩⟩
    show bt r 0 = 39
    unfold qE at h0
    by_cases h39 : bt r 0 = 39
    ·exact h39
    ·exfalso
     revert h0
     repeat' split
     all_goals first | omega | (intro h; omega) | contradiction
   ·rw [zNK rfl h h0]
    exact ⟨Nat.zero_le _, fun hh => absurd hh h0⟩
theorem zPV {l : List Int} : (tk l).n ≤ l.length := by
 unfold tk
 split
 ·rename_i h
  have h1 := zDo (l := l) (j := 0) (by omega)
  have := (zPU (l.drop 1)).1
  rw [List.length_drop] at this
  simp only
  omega
 ·simp
theorem cls7 : ∀ n : Nat, n < 256 → (cls n = 7 ↔ n = 39) := by decide +kernel
theorem cls7' {c : Int} (h0 : 0 ≤ c) (h1 : c ≤ 255) : cls c = 7 ↔ c = 39 := by
 have := cls7 c.toNat (by omega)
 rw [Int.toNat_of_nonneg h0] at this
 rw [this]; omega
theorem zFH {n : Int} {l : List Int} (h0 : 0 < l.length) (h : cls (bt l 0) = n) : 1 ≤ runL n l := by
 have := zCA (n := n) h0
 apply Nat.pos_of_ne_zero
 intro hz
 exact absurd h (this.1 hz)
structure TG (l : List Int) (t : TR) : Prop where
 n1 : 1 ≤ t.n
 nl : t.n ≤ l.length
 k1 : 1 ≤ t.k
 k8 : t.k ≤ 8
 e0 : t.e = 0 ↔ t.k ≠ 8
 bad : t.k = 8 → t.t = []
 says : t.k ≠ 8 → t.k ≠ 5 → t.t = l.take t.n
theorem zC8 {l : List Int} (k : Int) (hk : k = 1 ∨ k = 3) (h : 0 < nmL l) : TG l (nameT k l) := by
 refine ⟨h, zEo l, ?_, ?_, ?_, ?_, fun _ _ => rfl⟩
 all_goals simp [nameT]; omega
theorem zCZ {l : List Int} (h0 : 0 < l.length) (hr : ∀ x ∈ l, 0 ≤ x ∧ x ≤ 255) : TG l (firstT l) := by
 have hb := zAI hr 0
 have hc := zGz hb.1 hb.2
 have hne : l ≠ [] := by intro hn; subst hn; simp at h0
 obtain hk | hk | hk | hk | hk | hk | hk | hk : cls (bt l 0) = 2 ∨ cls (bt l 0) = 3 ∨ cls (bt l 0) = 9 ∨ cls (bt l 0) = 5 ∨ cls (bt l 0) = 4 ∨ cls (bt l 0) = 7 ∨ cls (bt l 0) = 6 ∨ (cls (bt l 0) = 0 ∨ cls (bt l 0) = 1 ∨ cls (bt l 0) = 8) := by omega
 ·rw [firstT2 hk]
  exact zC8 1 (Or.inl rfl) (zFE (zCP hne hr (zFF (Or.inl hk))).1)
 ·rw [firstT3 hk]
  exact zC8 3 (Or.inr rfl) (zFE (zCP hne hr (zFF (Or.inr (Or.inl hk)))).1)
 ·rw [firstT9 hk]
  unfold highT
  split
  ·exact ⟨Nat.le_refl _, h0, by simp, by simp, by simp, fun _ => rfl, fun h => absurd rfl h⟩
  ·exact zC8 1 (Or.inl rfl) (by omega)
 ·rw [firstT5 hk]
  refine ⟨zFH h0 hk, zAz 5 l, ?_, ?_, ?_, ?_, fun _ _ => rfl⟩
  all_goals simp only [symT]; split <;> simp
 ·rw [firstT4 hk]
  have hp := zFH h0 hk
  have hl := zAz 4 l
  unfold numT
  split
  ·exact ⟨hp, hl, by simp, by simp, by simp, by simp, fun _ _ => rfl⟩
  ·rename_i he
   exact ⟨hp, hl, by simp, by simp, by simpa using he, fun _ => rfl, fun h => absurd rfl h⟩
 ·rw [firstT7 hk]
  have h39 := (cls7' hb.1 hb.2).1 hk
  have hp : 1 ≤ (tk l).n := by unfold tk; rw [if_pos h39]; simp only; omega
  have hl := zPV (l := l)
  unfold quoT
  split
  ·exact ⟨hp, hl, by simp, by simp, by simp, by simp, fun _ h => absurd rfl h⟩
  ·rename_i he
   exact ⟨hp, hl, by simp, by simp, by simpa using he, fun _ => rfl, fun h => absurd rfl h⟩
 ·rw [firstT6 hk]
  exact ⟨Nat.le_refl _, h0, by simp, by simp, by simp, by simp, fun _ _ => rfl⟩
 ·rw [firstT0 hk]
  exact ⟨Nat.le_refl _, h0, by simp, by simp, by simp, fun _ => rfl, fun h => absurd rfl h⟩
theorem zJn {l : List Int} {k n : Nat} {z : Int} (h : sk (l.drop k) = (n, z)) (hz : z ≠ 0) : nx l k = some (k + n, ⟨8, l.length - (k + n), [], z⟩) := by
 unfold nx; rw [h, if_pos hz]
theorem zCC {l : List Int} {k n : Nat} (h : sk (l.drop k) = (n, 0)) (hn : k + n = l.length) : nx l k = none := by
 unfold nx; rw [h, if_neg (by simp), if_pos hn]
theorem zG1 {l : List Int} {k n : Nat} (h : sk (l.drop k) = (n, 0)) (hn : k + n ≠ l.length) : nx l k = some (k + n, firstT (l.drop (k + n))) := by
 unfold nx; rw [h, if_neg (by simp), if_neg hn]
theorem zG2 (l : List Int) (k : Nat) (hk : k ≤ l.length) : ∃ n z, sk (l.drop k) = (n, z) ∧ k + n ≤ l.length ∧ (z ≠ 0 → k + n < l.length ∧ z = 14) := by
 obtain ⟨h1, _, h3⟩ := zN8 (l.drop k)
 refine ⟨(sk (l.drop k)).1, (sk (l.drop k)).2, rfl, by rw [List.length_drop] at h1; omega, fun hz => ?_⟩
 rcases h3 with ⟨h, p⟩ | ⟨h, _⟩
 ·have := (zBP p).1
  simp only [List.length_drop] at this
  exact ⟨by omega, h⟩
 ·exact absurd h hz
end
section
open Go.RowKit Go.ChangeMaps
theorem zFI : (Tryz.prog.info? 51).map (·.size) = some 5 := by kernel_rfl
def tok0 : Array Value := #[.int .i64 0, .int .i64 0, .int .i64 0, .string { data := #[] }, .int .i64 0]
abbrev wTok (w : World) : World := w.alloc (.cells #[.int .i64 0, .int .i64 0, .int .i64 0, .string { data := #[] }, .int .i64 0] 51)
structure TC (g : Nat) (w : World) : Prop where
 lt : g < w.heap.size
 c : ∀ i, w.cell? ⟨g, i, none⟩ = tok0[i]?
 z : ∀ i, w.frozen? ⟨g, i, none⟩ = false
theorem zAE (w : World) : Below w.heap.size w (wTok w) := (Below.refl _ _).alloc (Nat.le_refl _) _
theorem zAR (w : World) : TC w.heap.size (wTok w) := ⟨by simp [wTok], fun i => cell_of_row _ _ _ _ _ _ (heap_alloc_new w _), fun i => frozen_of_row _ _ _ _ _ (heap_alloc_new w _)⟩
theorem TC.keep {g : Nat} {w w' : World} (h : TC g w) (hb : Below w.heap.size w w') : TC g w' :=
 ⟨Nat.lt_of_lt_of_le h.lt hb.size, fun i => (hb.cell (p := ⟨g, i, none⟩) h.lt).trans (h.c i), fun i => (hb.frozen (p := ⟨g, i, none⟩) h.lt).trans (h.z i)⟩
theorem TC.q0 {g : Nat} {w : World} (h : TC g w) : w.cell? ⟨g, 0, none⟩ = some (.int .i64 0) := h.c 0
theorem TC.q1 {g : Nat} {w : World} (h : TC g w) : w.cell? ⟨g, 1, none⟩ = some (.int .i64 0) := h.c 1
theorem TC.q2 {g : Nat} {w : World} (h : TC g w) : w.cell? ⟨g, 2, none⟩ = some (.int .i64 0) := h.c 2
theorem TC.q3 {g : Nat} {w : World} (h : TC g w) : w.cell? ⟨g, 3, none⟩ = some (.string { data := #[] }) := h.c 3
theorem TC.q4 {g : Nat} {w : World} (h : TC g w) : w.cell? ⟨g, 4, none⟩ = some (.int .i64 0) := h.c 4
theorem zAC {B g : Nat} {w w' : World} (h : Below B w w') (hg : B ≤ g) (v0 v1 v2 v3 v4 : Value) :
  Below B w (((((w'.setCell ⟨g, 0, none⟩ v0).setCell ⟨g, 1, none⟩ v1).setCell ⟨g, 2, none⟩ v2).setCell ⟨g, 3, none⟩ v3).setCell ⟨g, 4, none⟩ v4) :=
 ((((h.setCell hg _).setCell hg _).setCell hg _).setCell hg _).setCell hg _
theorem zDu (n e : Int) (w : World) :
  Calls Tryz.prog 92 #[.int .i64 n, .int .i64 e] w fun r w' => r = .returned (.agg #[.int .i64 8, .int .i64 0, .int .i64 n, .string ⟨#[]⟩, .int .i64 e]) ∧ Below w.heap.size w w' := by
 go_enter Tryz.func92, Tryz.ntmps92
 go_wp2
 exact bodyPost_ret (results_cell_row rfl _ _ w.heap.size 51 _ _ _ rfl (heap_alloc_new w _) Tryz.underlying51 rfl zFI) rfl ⟨rfl, (Below.refl _ _).alloc (Nat.le_refl _) _⟩
theorem zA0 (k : Int) (a : Option Addr) (len cap : Nat) (l : List Int) (w : World) (h : Bs w a len cap l) :
  Calls Tryz.prog 179 #[.int .i64 k, .slice a len cap] w fun r w' => r = .returned (.agg #[.int .i64 k, .int .i64 0, .int .i64 len, .string (bstr l), .int .i64 0]) ∧ Below w.heap.size w w' := by
 have hs := (h.below (zAE w)).str (P := Tryz.prog) 59 9 5 Tryz.underlying59 Tryz.underlying5 Tryz.underlying9
 have hm := h.lt
 unfold maxLen at hm
 clear h
 go_enter Tryz.func179, Tryz.ntmps179
 go_wp2
 exact bodyPost_ret (results_cell_row rfl _ _ w.heap.size 51 _ _ _ rfl (heap_alloc_new w _) Tryz.underlying51 rfl zFI) rfl ⟨rfl, (Below.refl _ _).alloc (Nat.le_refl _) _⟩
theorem zJo (k c : Int) (f t n : Nat) (s : ByteArray) (w : World) (hf : f + n ≤ 4000000000) (ht : t + n ≤ 4000000000) :
  Calls Tryz.prog 91 #[.agg #[.int .i64 k, .int .i64 f, .int .i64 t, .string s, .int .i64 c], .int .i64 n] w fun r w' => r = .returned (.agg #[.int .i64 k, .int .i64 (f + n : Nat), .int .i64 (t + n : Nat), .string s, .int .i64 c]) ∧ Below w.heap.size w w' := by
 go_enter Tryz.func91, Tryz.ntmps91
 go_wp2
 refine bodyPost_ret (results_cell_row rfl _ _ (w.heap.size + 1) 51 #[.int .i64 k, .int .i64 ((f : Int) + n), .int .i64 ((t : Int) + n), .string s, .int .i64 c] (0, 0) _ rfl ?_ Tryz.underlying51 rfl zFI) rfl ⟨?_, ((Below.refl _ _).alloc (Nat.le_refl _) _).alloc (by simp) _⟩
 ·have := heap_alloc_new (w.alloc (.cells #[.int .i64 k, .int .i64 ((f : Int) + n), .int .i64 ((t : Int) + n), .string s, .int .i64 c] 51)) (.cells #[.int .i64 k, .int .i64 ((f : Int) + n), .int .i64 ((t : Int) + n), .string s, .int .i64 c] 51)
  rw [show (w.alloc (.cells #[.int .i64 k, .int .i64 ((f : Int) + n), .int .i64 ((t : Int) + n), .string s, .int .i64 c] 51)).heap.size = w.heap.size + 1 from by simp] at this
  exact this
 ·simp
def scanEs : Array MapEntry := #[⟨.int .i64 2, .func (.func 164) #[] #[], 0⟩, ⟨.int .i64 9, .func (.func 164) #[] #[], 1⟩, ⟨.int .i64 3, .func (.func 165) #[] #[], 2⟩, ⟨.int .i64 5, .func (.func 166) #[] #[], 3⟩,
 ⟨.int .i64 4, .func (.func 167) #[] #[], 4⟩, ⟨.int .i64 7, .func (.func 168) #[] #[], 5⟩, ⟨.int .i64 6, .func (.func 169) #[] #[], 6⟩]
theorem map_set (w : World) (o o' : Obj) : setBlock (w.alloc o) w.heap.size o' = w.alloc o' := by
 have : (w.heap.push o).setIfInBounds w.heap.size o' = w.heap.push o' := by
  apply Array.ext (by simp)
  intro i h1 h2
  rw [Array.getElem_setIfInBounds (by simpa using h1)]
  by_cases hi : w.heap.size = i
  ·subst hi; simp
  ·rw [if_neg hi, Array.getElem_push_lt (by simp at h1; omega), Array.getElem_push_lt (by simp at h1; omega)]
 show { (w.alloc o) with heap := (w.heap.push o).setIfInBounds w.heap.size o' } = w.alloc o'
 rw [this]
 rfl
theorem zCa (w : World) (es : Array MapEntry) (clock : Nat) (k : Int) (v : Value) (hn : Instr.findNow (.int .i64) (.int .i64 k) es.toList 0 = some none) :
  (Instr.mapUpdate 209 (.map (some w.heap.size)) (.int .i64 k) v).run Tryz.prog (w.alloc (.map es clock)) = .ok () (w.alloc (.map (es.push ⟨.int .i64 k, v, clock⟩) (clock + 1))) := by
 have hb : (w.alloc (.map es clock)).heap[w.heap.size]? = some (.map es clock) := heap_alloc_new w _
 have hk : (Instr.findKey 3 (.int .i64 k) es.toList).run Tryz.prog (w.alloc (.map es clock)) = .ok none (w.alloc (.map es clock)) := by
  simp [Instr.findKey, run_underlying Tryz.underlying3, hn]
 have hz := map_set w (.map es clock) (.map (es.push ⟨.int .i64 k, v, clock⟩) (clock + 1))
 unfold setBlock at hz
 simp [Instr.mapUpdate, run_underlying Tryz.underlying209, MapKept.run_getObj_map hb, MapKept.run_checkKey Tryz.underlying3 (k := .int .i64 k) rfl false 9999, hk, MapKept.run_setObj_map _ hb, Result.andThen]
 exact hz
theorem zJp (w : World) :
  Calls Tryz.prog 137 #[] w fun r w' => r = .returned (.map (some w.heap.size)) ∧ w' = w.alloc (.map scanEs 7) := by
 have hmm := @run_makeMap Tryz.prog
 have i0 := zCa w #[] 0 2 (.func (.func 164) #[] #[]) (by rfl)
 have i1 := zCa w #[⟨.int .i64 2, .func (.func 164) #[] #[], 0⟩] 1 9 (.func (.func 164) #[] #[]) (by rfl)
 have i2 := zCa w #[⟨.int .i64 2, .func (.func 164) #[] #[], 0⟩, ⟨.int .i64 9, .func (.func 164) #[] #[], 1⟩] 2 3 (.func (.func 165) #[] #[]) (by rfl)
 have i3 := zCa w #[⟨.int .i64 2, .func (.func 164) #[] #[], 0⟩, ⟨.int .i64 9, .func (.func 164) #[] #[], 1⟩, ⟨.int .i64 3, .func (.func 165) #[] #[], 2⟩] 3 5 (.func (.func 166) #[] #[]) (by rfl)
 have i4 := zCa w #[⟨.int .i64 2, .func (.func 164) #[] #[], 0⟩, ⟨.int .i64 9, .func (.func 164) #[] #[], 1⟩, ⟨.int .i64 3, .func (.func 165) #[] #[], 2⟩, ⟨.int .i64 5, .func (.func 166) #[] #[], 3⟩] 4 4 (.func (.func 167) #[] #[]) (by rfl)
 have i5 := zCa w #[⟨.int .i64 2, .func (.func 164) #[] #[], 0⟩, ⟨.int .i64 9, .func (.func 164) #[] #[], 1⟩, ⟨.int .i64 3, .func (.func 165) #[] #[], 2⟩, ⟨.int .i64 5, .func (.func 166) #[] #[], 3⟩, ⟨.int .i64 4, .func (.func 167) #[] #[], 4⟩] 5 7 (.func (.func 168) #[] #[]) (by rfl)
 have i6 := zCa w #[⟨.int .i64 2, .func (.func 164) #[] #[], 0⟩, ⟨.int .i64 9, .func (.func 164) #[] #[], 1⟩, ⟨.int .i64 3, .func (.func 165) #[] #[], 2⟩, ⟨.int .i64 5, .func (.func 166) #[] #[], 3⟩, ⟨.int .i64 4, .func (.func 167) #[] #[], 4⟩, ⟨.int .i64 7, .func (.func 168) #[] #[], 5⟩] 6 6 (.func (.func 169) #[] #[]) (by rfl)
 simp only [List.push_toArray, List.nil_append, List.cons_append, Nat.zero_add, Nat.reduceAdd] at i0 i1 i2 i3 i4 i5 i6
 go_enter Tryz.func137, Tryz.ntmps137
 go_wp2
 go_ret
 exact ⟨rfl, rfl⟩
def scanV (c : Int) : Value := match c with
 | 2 => .func (.func 164) #[] #[]
 | 9 => .func (.func 164) #[] #[]
 | 3 => .func (.func 165) #[] #[]
 | 5 => .func (.func 166) #[] #[]
 | 4 => .func (.func 167) #[] #[]
 | 7 => .func (.func 168) #[] #[]
 | 6 => .func (.func 169) #[] #[]
 | _ => .nilFunc
def scanB (c : Int) : Bool := match c with
 | 0 => false
 | 1 => false
 | 8 => false
 | _ => true
theorem zHn (M : Nat) (c : Int) (hc : 0 ≤ c ∧ c ≤ 9) (w : World) (hb : w.heap[M]? = some (.map scanEs 7)) :
  (Instr.lookup 209 (.map (some M)) (.int .i64 c) true).run Tryz.prog w = .ok (.tuple #[scanV c, .bool (scanB c)]) w := by
 have hk : (Instr.findKey 3 (.int .i64 c) scanEs.toList).run Tryz.prog w = .ok (if scanB c then some (([2, 9, 3, 5, 4, 7, 6] : List Int).idxOf c, scanV c) else none) w := by
  obtain rfl | rfl | rfl | rfl | rfl | rfl | rfl | rfl | rfl | rfl : c = 0 ∨ c = 1 ∨ c = 2 ∨ c = 3 ∨ c = 4 ∨ c = 5 ∨ c = 6 ∨ c = 7 ∨ c = 8 ∨ c = 9 := by omega
  all_goals
   simp [Instr.findKey, run_underlying Tryz.underlying3, scanEs, Instr.findNow, Instr.sameNow, scanB, scanV]
   try rfl
 have he : scanEs.isEmpty = false := rfl
 by_cases hs : scanB c = true
 ·rw [hs, if_pos rfl] at hk
  simp [Instr.lookup, run_underlying Tryz.underlying209, MapKept.run_getObj_map hb, MapKept.run_checkKey Tryz.underlying3 (k := .int .i64 c) rfl, he, hk, hs, Result.andThen]
 ·have hs' : scanB c = false := by simpa using hs
  have hv : scanV c = .nilFunc := by
   obtain rfl | rfl | rfl | rfl | rfl | rfl | rfl | rfl | rfl | rfl : c = 0 ∨ c = 1 ∨ c = 2 ∨ c = 3 ∨ c = 4 ∨ c = 5 ∨ c = 6 ∨ c = 7 ∨ c = 8 ∨ c = 9 := by omega
   all_goals first | rfl | (exact absurd rfl hs)
  have hz : (zeroValue 207).run Tryz.prog w = .ok .nilFunc w := by kernel_rfl
  rw [hs', if_neg (by simp)] at hk
  simp [Instr.lookup, run_underlying Tryz.underlying209, MapKept.run_getObj_map hb, MapKept.run_checkKey Tryz.underlying3 (k := .int .i64 c) rfl, he, hk, hs', hv, hz, Result.andThen]
end
section
open Go.RowKit
set_option maxRecDepth 20000 in
theorem zDv (a : Option Addr) (len cap : Nat) (l : List Int) (w : World) (h : Bs w a len cap l) (ht : Tab w) :
  Calls Tryz.prog 178 #[.slice a len cap] w fun e w' => e = .returned (.int .i64 (nmL l)) ∧ Below w.heap.size w w' := by
 have hm := h.cm
 have hlc := h.lc
 unfold maxLen at hm
 have H := hid h
 have HT := hid ht
 clear h ht
 go_enter Tryz.func178, Tryz.ntmps178
 go_wp2
 go_loopw [3] (fun i wr => ∃ k : Nat, i = .int .i64 k ∧ k ≤ len ∧ Hid (k + nmL (l.drop k) = nmL l) ∧ Hid (Below w.heap.size w wr)) (fun i _ => len - (intOf i).toNat)
 case atStart => exact ⟨0, rfl, by omega, hid (by simp), hid (Below.refl _ _)⟩
 case round =>
  obtain ⟨k, rfl, hk, HM, HB⟩ := hrel
  by_cases hlt : k < len
  ·have hb := H.out.below HB.out
   have hkc : k < cap := by omega
   have h0 := (zAI hb.rng k).1
   have h1 := (zAI hb.rng k).2
   obtain ⟨b, off, rfl, _, hc⟩ := hb.at_ (by omega)
   have hck := hc k hlt
   have HD := hid (hb.drop (k := k) (by omega))
   have HTT := hid (HT.out.keep HB.out)
   have hne : l.drop k ≠ [] := fun hn => by have := congrArg List.length hn; rw [List.length_drop, hb.hl] at this; simp at this; omega
   have hbt : bt (l.drop k) 0 = bt l k := by rw [zAB, Nat.add_zero]
   have HRD := hid HD.out.rng
   have hll := hb.hl
   have htle := zCK (l.drop k)
   rw [List.length_drop, hll] at htle
   have htp := zAy hne
   have HST : Hid (nmB (l.drop k) = true → (k + takeN (l.drop k)) + nmL (l.drop (k + takeN (l.drop k))) = nmL l) := hid (fun hy => by rw [← HM.out, zGx hy, List.drop_drop]; omega)
   have HNO : Hid (nmB (l.drop k) = false → nmL l = k) := hid (fun hn => by rw [← HM.out, zF8 hn]; rfl)
   have HNE := hid hne
   have HBT := hid hbt
   clear hb hc hll hne hbt
   cases ho : okSeq (l.drop k) with
   | false =>
    have HF : Hid (nmL l = k) := hid (HNO.out (zG0 ho))
    go_wp2_with (first | (go_at_call 186; refine (zCM _ _ _ _ _ HD.out).mono ?_; rw [ho]; rintro e w' ⟨rfl, rfl⟩))
    go_ret
    exact ⟨by rw [HF.out]; rfl, HB.out⟩
   | true =>
    have HO := hid ho
    clear ho
    by_cases h1t : takeN (l.drop k) = 1
    ·cases hnb : nameB (bt l k) with
     | false =>
      have HF : Hid (nmL l = k) := hid (HNO.out (zJm h1t (by rw [HBT.out]; exact hnb)))
      have HNB := hid hnb
      have H1T := hid h1t
      clear hnb h1t htle htp
      go_wp2_with (first | (go_at_call 186; refine (zCM _ _ _ _ _ HD.out).mono ?_; rw [HO.out, H1T.out]; rintro e w' ⟨rfl, rfl⟩) | (go_at_call 187; refine (zHX _ _ HTT.out h0 h1).mono ?_; rw [HNB.out]; rintro e w' ⟨rfl, hb2⟩; have HB2 := hid hb2; clear hb2))
      go_ret
      exact ⟨by rw [HF.out]; rfl, HB.out.trans (HB2.out.mono HB.out.size)⟩
     | true =>
      have HF : Hid ((k + 1) + nmL (l.drop (k + 1)) = nmL l) := hid (by have := HST.out (zCP HNE.out HRD.out (by rw [HBT.out]; exact hnb)).1; rwa [h1t] at this)
      have HNB := hid hnb
      have H1T := hid h1t
      clear hnb h1t htle htp
      go_wp2_with (first | (go_at_call 186; refine (zCM _ _ _ _ _ HD.out).mono ?_; rw [HO.out, H1T.out]; rintro e w' ⟨rfl, rfl⟩) | (go_at_call 187; refine (zHX _ _ HTT.out h0 h1).mono ?_; rw [HNB.out]; rintro e w' ⟨rfl, hb2⟩; have HB2 := hid hb2; clear hb2))
      go_roundw
      case rel => exact ⟨k + 1, by go_num, by omega, HF, hid (HB.out.trans (HB2.out.mono HB.out.size))⟩
      case measure => simp [intOf]; omega
    ·have HF : Hid ((k + takeN (l.drop k)) + nmL (l.drop (k + takeN (l.drop k))) = nmL l) := hid (HST.out (zFG HO.out h1t))
     have h4 := zDk (l.drop k)
     obtain ⟨m, hmm⟩ : ∃ m, m = takeN (l.drop k) := ⟨_, rfl⟩
     rw [← hmm] at HF h1t h4 htle htp
     have HMM := hid hmm
     clear hmm
     have hm1 : ((m : Int) == 1) = false := by simp; omega
     go_wp2_with (first | (go_at_call 186; refine (zCM _ _ _ _ _ HD.out).mono ?_; rw [HO.out, ← HMM.out]; rintro e w' ⟨rfl, rfl⟩))
     go_roundw
     case rel => exact ⟨k + m, by go_num, by omega, HF, HB⟩
     case measure => simp [intOf]; omega
  ·have HF : Hid (nmL l = k) := hid (by rw [← HM.out, List.drop_eq_nil_iff.2 (by have := H.out.hl; omega), zF8 zDt]; rfl)
   go_wp2
   go_ret
   exact ⟨by rw [HF.out]; rfl, HB.out⟩
def apartB (l : List Int) : Bool := decide (l.length = 0) || (decide (cls (bt l 0) = 1) || decide (cls (bt l 0) = 8))
set_option maxRecDepth 20000 in
theorem zCf (a : Option Addr) (len cap : Nat) (l : List Int) (w : World) (h : Bs w a len cap l) (ht : Tab w) :
  Calls Tryz.prog 180 #[.slice a len cap] w fun e w' => e = .returned (.bool (apartB l)) ∧ Below w.heap.size w w' := by
 have hm := h.cm
 have hlc := h.lc
 unfold maxLen at hm
 have hl := h.hl
 have HT := hid ht
 clear ht
 by_cases h0 : 0 < len
 ·have r0 := (zAI h.rng 0).1
  have r1 := (zAI h.rng 0).2
  obtain ⟨b, off, rfl, _, hc⟩ := h.at_ h0
  have hck := hc 0 h0
  rw [Nat.add_zero] at hck
  have HF : Hid (apartB l = (decide (cls (bt l 0) = 1) || decide (cls (bt l 0) = 8))) := hid (by unfold apartB; rw [decide_eq_false (by omega)]; rfl)
  clear h hc hl
  by_cases e1 : cls (bt l 0) = 1
  ·have HF : Hid (apartB l = true) := hid (by rw [HF.out, e1]; rfl)
   have HE := hid e1
   clear e1
   go_enter Tryz.func180, Tryz.ntmps180
   go_wp2_with (first | (go_at_call 138; refine (zDM _ _ HT.out r0 r1).mono ?_; rw [HE.out]; rintro e w' ⟨rfl, hb2⟩; have HB2 := hid hb2; clear hb2))
   go_ret
   exact ⟨by rw [HF.out]; rfl, HB2.out⟩
  ·by_cases e8 : cls (bt l 0) = 8
   ·have HF : Hid (apartB l = true) := hid (by rw [HF.out, e8]; rfl)
    have HE := hid e8
    clear e1 e8
    go_enter Tryz.func180, Tryz.ntmps180
    go_wp2_with (first | (go_at_call 138; refine (zDM _ _ HT.out r0 r1).mono ?_; rw [HE.out]; rintro e w' ⟨rfl, hb2⟩; have HB2 := hid hb2; clear hb2))
    go_ret
    exact ⟨by rw [HF.out]; rfl, HB2.out⟩
   ·have HF : Hid (apartB l = false) := hid (by rw [HF.out, decide_eq_false e1, decide_eq_false e8]; rfl)
    obtain ⟨c, hcc⟩ : ∃ c, c = cls (bt l 0) := ⟨_, rfl⟩
    rw [← hcc] at e1 e8
    have HE := hid hcc
    clear hcc
    go_enter Tryz.func180, Tryz.ntmps180
    go_wp2_with (first | (go_at_call 138; refine (zDM _ _ HT.out r0 r1).mono ?_; rw [← HE.out]; rintro e w' ⟨rfl, hb2⟩; have HB2 := hid hb2; clear hb2))
    go_ret
    exact ⟨by rw [HF.out]; rfl, HB2.out⟩
 ·have : len = 0 := by omega
  subst this
  have HF : Hid (apartB l = true) := hid (by unfold apartB; rw [decide_eq_true hl]; rfl)
  clear h hl
  go_enter Tryz.func180, Tryz.ntmps180
  go_wp2
  go_ret
  exact ⟨by rw [HF.out]; rfl, Below.refl _ _⟩
end
section
open Go.RowKit
def tkv (t : TR) : Value := .agg #[.int .i64 t.k, .int .i64 0, .int .i64 t.n, .string (bstr t.t), .int .i64 t.e]
theorem zLw (a : Option Addr) (len cap : Nat) (l : List Int) (w : World) (h : Bs w a len cap l) (ht : Tab w) (h0 : 0 < len) :
  Calls Tryz.prog 169 #[.slice a len cap] w fun r w' => r = .returned (tkv (⟨6, 1, l.take 1, 0⟩)) ∧ Below w.heap.size w w' := by
 have hlc := h.lc
 have hcm := h.cm
 have hl := h.hl
 unfold maxLen at hcm
 have HMC := hid h.cm
 have HW0 := hid (zAE w)
 have HC0 := hid (zAR w)
 have H := hid h
 have HT := hid ht
 clear h ht
 have hc1 : 1 ≤ cap := by omega
 go_enter Tryz.func169, Tryz.ntmps169
 go_wp2_with fail
 refine (zA0 6 _ _ _ (l.take 1) _ ((H.out.below HW0.out).take (k := 1) (by omega) hc1 HMC.out)).mono ?_
 rintro e w1 ⟨rfl, hb1⟩
 have HW1 : Hid (Below w.heap.size w w1) := hid (HW0.out.trans (hb1.mono HW0.out.size))
 have HC1 : Hid (TC w.heap.size w1) := hid (HC0.out.keep hb1)
 clear hb1
 have q0 := HC1.out.q0
 have q1 := HC1.out.q1
 have q2 := HC1.out.q2
 have q3 := HC1.out.q3
 have q4 := HC1.out.q4
 have z0 := HC1.out.z 0
 have z1 := HC1.out.z 1
 have z2 := HC1.out.z 2
 have z3 := HC1.out.z 3
 have z4 := HC1.out.z 4
 have hlt := HC1.out.lt
 go_wp2
 exact bodyPost_ret (v := .agg #[.int .i64 6, .int .i64 0, .int .i64 (1 : Nat), .string (bstr (l.take 1)), .int .i64 0]) (by simp [results, Tryz.results169, go_sem, q0, q1, q2, q3, q4]) rfl ⟨rfl, zAC HW1.out (Nat.le_refl _) _ _ _ _ _⟩
theorem zGA (a : Option Addr) (len cap : Nat) (l : List Int) (w : World) (h : Bs w a len cap l) (ht : Tab w) :
  Calls Tryz.prog 165 #[.slice a len cap] w fun r w' => r = .returned (tkv (nameT 3 l)) ∧ Below w.heap.size w w' := by
 have hlc := h.lc
 have hcm := h.cm
 have hl := h.hl
 unfold maxLen at hcm
 have HMC := hid h.cm
 have HW0 := hid (zAE w)
 have HC0 := hid (zAR w)
 have H := hid h
 have HT := hid ht
 clear h ht
 have hn := zEo l
 have hnc : nmL l ≤ cap := by omega
 go_enter Tryz.func165, Tryz.ntmps165
 go_wp2_with fail
 refine (zDv _ _ _ l _ (H.out.below HW0.out) (HT.out.keep HW0.out)).mono ?_
 rintro e w1 ⟨rfl, hb1⟩
 have HW1 : Hid (Below w.heap.size w w1) := hid (HW0.out.trans (hb1.mono HW0.out.size))
 have HC1 : Hid (TC w.heap.size w1) := hid (HC0.out.keep hb1)
 clear hb1
 go_wp2_with fail
 refine (zA0 3 _ _ _ (l.take (nmL l)) _ ((H.out.below HW1.out).take (k := nmL l) (by omega) hnc HMC.out)).mono ?_
 rintro e w2 ⟨rfl, hb2⟩
 have HW2 : Hid (Below w.heap.size w w2) := hid (HW1.out.trans (hb2.mono HW1.out.size))
 have HC2 : Hid (TC w.heap.size w2) := hid (HC1.out.keep hb2)
 clear hb2
 have q0 := HC2.out.q0
 have q1 := HC2.out.q1
 have q2 := HC2.out.q2
 have q3 := HC2.out.q3
 have q4 := HC2.out.q4
 have z0 := HC2.out.z 0
 have z1 := HC2.out.z 1
 have z2 := HC2.out.z 2
 have z3 := HC2.out.z 3
 have z4 := HC2.out.z 4
 have hlt := HC2.out.lt
 go_wp2
 exact bodyPost_ret (v := .agg #[.int .i64 3, .int .i64 0, .int .i64 (nmL l : Nat), .string (bstr (l.take (nmL l))), .int .i64 0]) (by simp [results, Tryz.results165, go_sem, q0, q1, q2, q3, q4]) rfl ⟨rfl, zAC HW2.out (Nat.le_refl _) _ _ _ _ _⟩
theorem zHo (a : Option Addr) (len cap : Nat) (l : List Int) (w : World) (h : Bs w a len cap l) (ht : Tab w) :
  Calls Tryz.prog 164 #[.slice a len cap] w fun r w' => r = .returned (tkv (highT l)) ∧ Below w.heap.size w w' := by
 cases hz : decide (nmL l = 0) with
 | true =>
  have hz0 : nmL l = 0 := by simpa using hz
  clear hz
  have hlc := h.lc
  have hcm := h.cm
  have hl := h.hl
  unfold maxLen at hcm
  have HMC := hid h.cm
  have HW0 := hid (zAE w)
  have HC0 := hid (zAR w)
  have H := hid h
  have HT := hid ht
  clear h ht
  go_enter Tryz.func164, Tryz.ntmps164
  go_wp2_with fail
  refine (zDv _ _ _ l _ (H.out.below HW0.out) (HT.out.keep HW0.out)).mono ?_
  rw [hz0]
  rintro e w1 ⟨rfl, hb1⟩
  have HW1 : Hid (Below w.heap.size w w1) := hid (HW0.out.trans (hb1.mono HW0.out.size))
  have HC1 : Hid (TC w.heap.size w1) := hid (HC0.out.keep hb1)
  clear hb1
  go_wp2_with fail
  refine (zDu 1 10 _).mono ?_
  rintro e w2 ⟨rfl, hb2⟩
  have HW2 : Hid (Below w.heap.size w w2) := hid (HW1.out.trans (hb2.mono HW1.out.size))
  have HC2 : Hid (TC w.heap.size w2) := hid (HC1.out.keep hb2)
  clear hb2
  have q0 := HC2.out.q0
  have q1 := HC2.out.q1
  have q2 := HC2.out.q2
  have q3 := HC2.out.q3
  have q4 := HC2.out.q4
  have z0 := HC2.out.z 0
  have z1 := HC2.out.z 1
  have z2 := HC2.out.z 2
  have z3 := HC2.out.z 3
  have z4 := HC2.out.z 4
  have hlt := HC2.out.lt
  go_wp2
  exact bodyPost_ret (v := .agg #[.int .i64 8, .int .i64 0, .int .i64 1, .string ⟨#[]⟩, .int .i64 10]) (by simp [results, Tryz.results164, go_sem, q0, q1, q2, q3, q4]) rfl ⟨by rw [highT, if_pos hz0]; rfl, zAC HW2.out (Nat.le_refl _) _ _ _ _ _⟩
 | false =>
  have hz0 : ¬ nmL l = 0 := by simpa using hz
  have hzb : ((nmL l : Int) == 0) = false := by simp; omega
  clear hz
  have hlc := h.lc
  have hcm := h.cm
  have hl := h.hl
  unfold maxLen at hcm
  have HMC := hid h.cm
  have HW0 := hid (zAE w)
  have HC0 := hid (zAR w)
  have H := hid h
  have HT := hid ht
  clear h ht
  have hn := zEo l
  have hnc : nmL l ≤ cap := by omega
  go_enter Tryz.func164, Tryz.ntmps164
  go_wp2_with fail
  refine (zDv _ _ _ l _ (H.out.below HW0.out) (HT.out.keep HW0.out)).mono ?_
  rintro e w1 ⟨rfl, hb1⟩
  have HW1 : Hid (Below w.heap.size w w1) := hid (HW0.out.trans (hb1.mono HW0.out.size))
  have HC1 : Hid (TC w.heap.size w1) := hid (HC0.out.keep hb1)
  clear hb1
  go_wp2_with fail
  refine (zA0 1 _ _ _ (l.take (nmL l)) _ ((H.out.below HW1.out).take (k := nmL l) (by omega) hnc HMC.out)).mono ?_
  rintro e w2 ⟨rfl, hb2⟩
  have HW2 : Hid (Below w.heap.size w w2) := hid (HW1.out.trans (hb2.mono HW1.out.size))
  have HC2 : Hid (TC w.heap.size w2) := hid (HC1.out.keep hb2)
  clear hb2
  have q0 := HC2.out.q0
  have q1 := HC2.out.q1
  have q2 := HC2.out.q2
  have q3 := HC2.out.q3
  have q4 := HC2.out.q4
  have z0 := HC2.out.z 0
  have z1 := HC2.out.z 1
  have z2 := HC2.out.z 2
  have z3 := HC2.out.z 3
  have z4 := HC2.out.z 4
  have hlt := HC2.out.lt
  go_wp2
  exact bodyPost_ret (v := .agg #[.int .i64 1, .int .i64 0, .int .i64 (nmL l : Nat), .string (bstr (l.take (nmL l))), .int .i64 0]) (by simp [results, Tryz.results164, go_sem, q0, q1, q2, q3, q4]) rfl ⟨by rw [highT, if_neg hz0]; rfl, zAC HW2.out (Nat.le_refl _) _ _ _ _ _⟩
theorem zI2 (a : Option Addr) (len cap : Nat) (l : List Int) (w : World) (h : Bs w a len cap l) (ht : Tab w) :
  Calls Tryz.prog 167 #[.slice a len cap] w fun r w' => r = .returned (tkv (numT l)) ∧ Below w.heap.size w w' := by
 have hk := zAz 4 l
 by_cases hz : dkE l = 0
 ·have hlc := h.lc
  have hcm := h.cm
  have hl := h.hl
  unfold maxLen at hcm
  have HMC := hid h.cm
  have HW0 := hid (zAE w)
  have HC0 := hid (zAR w)
  have H := hid h
  have HT := hid ht
  clear h ht
  have hkc : dkK l ≤ cap := by unfold dkK; omega
  have hkl : dkK l ≤ len := by unfold dkK; omega
  go_enter Tryz.func167, Tryz.ntmps167
  go_wp2_with fail
  refine (zFz _ _ _ l _ (H.out.below HW0.out) (HT.out.keep HW0.out)).mono ?_
  rintro e w1 ⟨rfl, hb1⟩
  have HW1 : Hid (Below w.heap.size w w1) := hid (HW0.out.trans (hb1.mono HW0.out.size))
  have HC1 : Hid (TC w.heap.size w1) := hid (HC0.out.keep hb1)
  clear hb1
  unfold dkV
  rw [hz]
  go_wp2_with fail
  refine (zA0 4 _ _ _ (l.take (dkK l)) _ ((H.out.below HW1.out).take hkl hkc HMC.out)).mono ?_
  rintro e w2 ⟨rfl, hb2⟩
  have HW2 : Hid (Below w.heap.size w w2) := hid (HW1.out.trans (hb2.mono HW1.out.size))
  have HC2 : Hid (TC w.heap.size w2) := hid (HC1.out.keep hb2)
  clear hb2
  have q0 := HC2.out.q0
  have q1 := HC2.out.q1
  have q2 := HC2.out.q2
  have q3 := HC2.out.q3
  have q4 := HC2.out.q4
  have z0 := HC2.out.z 0
  have z1 := HC2.out.z 1
  have z2 := HC2.out.z 2
  have z3 := HC2.out.z 3
  have z4 := HC2.out.z 4
  have hlt := HC2.out.lt
  go_wp2
  exact bodyPost_ret (v := .agg #[.int .i64 4, .int .i64 0, .int .i64 (dkK l : Nat), .string (bstr (l.take (dkK l))), .int .i64 0]) (by simp [results, Tryz.results167, go_sem, q0, q1, q2, q3, q4]) rfl ⟨by rw [numT, if_pos hz]; rfl, zAC HW2.out (Nat.le_refl _) _ _ _ _ _⟩
 ·have hlc := h.lc
  have hcm := h.cm
  have hl := h.hl
  unfold maxLen at hcm
  have HMC := hid h.cm
  have HW0 := hid (zAE w)
  have HC0 := hid (zAR w)
  have H := hid h
  have HT := hid ht
  clear h ht
  go_enter Tryz.func167, Tryz.ntmps167
  go_wp2_with fail
  refine (zFz _ _ _ l _ (H.out.below HW0.out) (HT.out.keep HW0.out)).mono ?_
  rintro e w1 ⟨rfl, hb1⟩
  have HW1 : Hid (Below w.heap.size w w1) := hid (HW0.out.trans (hb1.mono HW0.out.size))
  have HC1 : Hid (TC w.heap.size w1) := hid (HC0.out.keep hb1)
  clear hb1
  unfold dkV
  have hzb : (dkE l != 0) = true := by simpa using hz
  go_wp2_with fail
  refine (zDu (dkK l) (dkE l) _).mono ?_
  rintro e w2 ⟨rfl, hb2⟩
  have HW2 : Hid (Below w.heap.size w w2) := hid (HW1.out.trans (hb2.mono HW1.out.size))
  have HC2 : Hid (TC w.heap.size w2) := hid (HC1.out.keep hb2)
  clear hb2
  have q0 := HC2.out.q0
  have q1 := HC2.out.q1
  have q2 := HC2.out.q2
  have q3 := HC2.out.q3
  have q4 := HC2.out.q4
  have z0 := HC2.out.z 0
  have z1 := HC2.out.z 1
  have z2 := HC2.out.z 2
  have z3 := HC2.out.z 3
  have z4 := HC2.out.z 4
  have hlt := HC2.out.lt
  go_wp2
  exact bodyPost_ret (v := .agg #[.int .i64 8, .int .i64 0, .int .i64 (dkK l : Nat), .string ⟨#[]⟩, .int .i64 (dkE l)]) (by simp [results, Tryz.results167, go_sem, q0, q1, q2, q3, q4]) rfl ⟨by rw [numT, if_neg hz]; rfl, zAC HW2.out (Nat.le_refl _) _ _ _ _ _⟩
theorem zLx (a : Option Addr) (len cap : Nat) (l : List Int) (w : World) (h : Bs w a len cap l) (ht : Tab w) (hsz : len ≤ 1000000) :
  Calls Tryz.prog 168 #[.slice a len cap] w fun r w' => r = .returned (tkv (quoT l)) ∧ Below w.heap.size w w' := by
 by_cases hz : (tk l).e = 0
 ·have hlc := h.lc
  have hcm := h.cm
  have hl := h.hl
  unfold maxLen at hcm
  have HMC := hid h.cm
  have HW0 := hid (zAE w)
  have HC0 := hid (zAR w)
  have H := hid h
  have HT := hid ht
  clear h ht
  go_enter Tryz.func168, Tryz.ntmps168
  go_wp2_with fail
  refine (zF0 _ _ _ l _ (H.out.below HW0.out) (HT.out.keep HW0.out) hsz).mono ?_
  rintro e w1 ⟨a', c', rfl, ho1, hb1⟩
  have HW1 : Hid (Below w.heap.size w w1) := hid (HW0.out.trans (hb1.mono HW0.out.size))
  have HC1 : Hid (TC w.heap.size w1) := hid (HC0.out.keep hb1)
  clear hb1
  rw [hz]
  have kc := ho1.bs.str (P := Tryz.prog) 59 9 5 Tryz.underlying59 Tryz.underlying5 Tryz.underlying9
  clear ho1
  have q0 := HC1.out.q0
  have q1 := HC1.out.q1
  have q2 := HC1.out.q2
  have q3 := HC1.out.q3
  have q4 := HC1.out.q4
  have z0 := HC1.out.z 0
  have z1 := HC1.out.z 1
  have z2 := HC1.out.z 2
  have z3 := HC1.out.z 3
  have z4 := HC1.out.z 4
  have hlt := HC1.out.lt
  go_wp2
  exact bodyPost_ret (v := .agg #[.int .i64 5, .int .i64 0, .int .i64 ((tk l).n : Nat), .string (bstr (tk l).t), .int .i64 0]) (by simp [results, Tryz.results168, go_sem, q0, q1, q2, q3, q4]) rfl ⟨by rw [quoT, if_pos hz]; rfl, zAC HW1.out (Nat.le_refl _) _ _ _ _ _⟩
 ·have hlc := h.lc
  have hcm := h.cm
  have hl := h.hl
  unfold maxLen at hcm
  have HMC := hid h.cm
  have HW0 := hid (zAE w)
  have HC0 := hid (zAR w)
  have H := hid h
  have HT := hid ht
  clear h ht
  go_enter Tryz.func168, Tryz.ntmps168
  go_wp2_with fail
  refine (zF0 _ _ _ l _ (H.out.below HW0.out) (HT.out.keep HW0.out) hsz).mono ?_
  rintro e w1 ⟨a', c', rfl, ho1, hb1⟩
  have HW1 : Hid (Below w.heap.size w w1) := hid (HW0.out.trans (hb1.mono HW0.out.size))
  have HC1 : Hid (TC w.heap.size w1) := hid (HC0.out.keep hb1)
  clear hb1
  clear ho1
  have hzb : ((tk l).e != 0) = true := by simpa using hz
  go_wp2_with fail
  refine (zDu (tk l).n (tk l).e _).mono ?_
  rintro e w2 ⟨rfl, hb2⟩
  have HW2 : Hid (Below w.heap.size w w2) := hid (HW1.out.trans (hb2.mono HW1.out.size))
  have HC2 : Hid (TC w.heap.size w2) := hid (HC1.out.keep hb2)
  clear hb2
  have q0 := HC2.out.q0
  have q1 := HC2.out.q1
  have q2 := HC2.out.q2
  have q3 := HC2.out.q3
  have q4 := HC2.out.q4
  have z0 := HC2.out.z 0
  have z1 := HC2.out.z 1
  have z2 := HC2.out.z 2
  have z3 := HC2.out.z 3
  have z4 := HC2.out.z 4
  have hlt := HC2.out.lt
  go_wp2
  exact bodyPost_ret (v := .agg #[.int .i64 8, .int .i64 0, .int .i64 ((tk l).n : Nat), .string ⟨#[]⟩, .int .i64 (tk l).e]) (by simp [results, Tryz.results168, go_sem, q0, q1, q2, q3, q4]) rfl ⟨by rw [quoT, if_neg hz]; rfl, zAC HW2.out (Nat.le_refl _) _ _ _ _ _⟩
theorem zDw {l : List Int} (h : ∀ x ∈ l, 0 ≤ x ∧ x ≤ 255) : ((bstr l).toList == [46]) = decide (l = [46]) := by
 by_cases e : l = [46]
 ·subst e; rw [zA4]; decide
 ·rw [decide_eq_false e, beq_eq_false_iff_ne]
  intro hn
  apply e
  refine zLp h (by simp) ?_
  rw [hn, zA4]; decide
theorem zCg {l : List Int} {n : Nat} (hn : 1 ≤ n) (hl : n ≤ l.length) : l.take n = [46] ↔ (n = 1 ∧ bt l 0 = 46) := by
 cases l with
 | nil => simp at hl; omega
 | cons c r =>
  obtain ⟨m, rfl⟩ : ∃ m, n = m + 1 := ⟨n - 1, by omega⟩
  simp only [List.take_succ_cons, List.cons.injEq, zLs]
  constructor
  ·rintro ⟨h1, h2⟩
   refine ⟨?_, h1⟩
   have := congrArg List.length h2
   simp at hl
   rw [List.length_take, Nat.min_eq_left (by omega)] at this
   simp at this
   omega
  ·rintro ⟨h1, h2⟩
   obtain rfl : m = 0 := by omega
   exact ⟨h2, rfl⟩
theorem zEp {l : List Int} (h1 : runL 5 l = 1) (h2 : bt l 0 = 46) (h0 : 0 < l.length) : endT l = apartB (l.drop 1) := by
 unfold endT apartB
 rw [h1, h2, List.length_drop, zAB]
 simp
 congr 1
 exact decide_eq_decide.2 (by omega)
theorem zJq {l : List Int} (h : ¬ (runL 5 l = 1 ∧ bt l 0 = 46)) : endT l = false := by
 unfold endT
 by_cases h1 : runL 5 l = 1
 ·rw [decide_eq_false (fun h2 => h ⟨h1, h2⟩ : ¬ bt l 0 = 46)]; simp
 ·rw [decide_eq_false h1]; rfl
set_option maxHeartbeats 1000000 in
theorem zI3 (a : Option Addr) (len cap : Nat) (l : List Int) (w : World) (h : Bs w a len cap l) (ht : Tab w) (h0 : 0 < len) (h5 : cls (bt l 0) = 5) :
  Calls Tryz.prog 166 #[.slice a len cap] w fun r w' => r = .returned (tkv (symT l)) ∧ Below w.heap.size w w' := by
 have hrn := zAz 5 l
 have hrp : 1 ≤ runL 5 l := by
  have := zCA (n := 5) (l := l) (by have := h.hl; omega)
  apply Nat.pos_of_ne_zero
  intro hz
  exact absurd h5 (this.1 hz)
 have hll := h.hl
 clear h5
 by_cases hd : runL 5 l = 1 ∧ bt l 0 = 46
 ·cases hap : apartB (l.drop 1) with
  | true =>
   have HE : Hid (endT l = true) := hid (by rw [zEp hd.1 hd.2 (by omega)]; exact hap)
   by_cases hcap : 1 < cap
   ·obtain ⟨b, off, rfl, _, _⟩ := h.at_ h0
    have hlc := h.lc
    have hcm := h.cm
    have hl := h.hl
    unfold maxLen at hcm
    have HMC := hid h.cm
    have HW0 := hid (zAE w)
    have HC0 := hid (zAR w)
    have H := hid h
    have HT := hid ht
    clear h ht
    obtain ⟨hd1, hd2⟩ := hd
    have hnc : 1 ≤ cap := by omega
    go_enter Tryz.func166, Tryz.ntmps166
    go_wp2_with fail
    refine (zAa _ _ _ l 5 _ (H.out.below HW0.out) (HT.out.keep HW0.out)).mono ?_
    rintro e w1 ⟨rfl, hb1⟩
    have HW1 : Hid (Below w.heap.size w w1) := hid (HW0.out.trans (hb1.mono HW0.out.size))
    have HC1 : Hid (TC w.heap.size w1) := hid (HC0.out.keep hb1)
    clear hb1
    rw [hd1]
    have kc := ((H.out.below HW1.out).take (k := 1) (c' := cap) (by omega) (by omega) HMC.out).str (P := Tryz.prog) 59 9 5 Tryz.underlying59 Tryz.underlying5 Tryz.underlying9
    have kd : ((bstr (l.take 1)).toList == [46]) = true := by
     rw [zDw (fun x hx => H.out.rng x (List.take_subset _ _ hx))]
     exact decide_eq_true ((zCg (by omega) (by omega)).2 ⟨rfl, hd2⟩)
    go_wp2_with fail
    refine (zCf _ _ _ (l.drop 1) _ ((H.out.below HW1.out).drop (k := 1) (by omega)) (HT.out.keep HW1.out)).mono ?_
    rw [hap]
    rintro e w2 ⟨rfl, hb2⟩
    have HW2 : Hid (Below w.heap.size w w2) := hid (HW1.out.trans (hb2.mono HW1.out.size))
    have HC2 : Hid (TC w.heap.size w2) := hid (HC1.out.keep hb2)
    clear hb2
    go_wp2_with fail
    refine (zA0 7 _ _ _ (l.take 1) _ ((H.out.below HW2.out).take (k := 1) (by omega) hnc HMC.out)).mono ?_
    rintro e w3 ⟨rfl, hb3⟩
    have HW3 : Hid (Below w.heap.size w w3) := hid (HW2.out.trans (hb3.mono HW2.out.size))
    have HC3 : Hid (TC w.heap.size w3) := hid (HC2.out.keep hb3)
    clear hb3
    have q0 := HC3.out.q0
    have q1 := HC3.out.q1
    have q2 := HC3.out.q2
    have q3 := HC3.out.q3
    have q4 := HC3.out.q4
    have z0 := HC3.out.z 0
    have z1 := HC3.out.z 1
    have z2 := HC3.out.z 2
    have z3 := HC3.out.z 3
    have z4 := HC3.out.z 4
    have hlt := HC3.out.lt
    go_wp2
    exact bodyPost_ret (v := .agg #[.int .i64 7, .int .i64 0, .int .i64 (1 : Nat), .string (bstr (l.take 1)), .int .i64 0]) (by simp [results, Tryz.results166, go_sem, q0, q1, q2, q3, q4]) rfl ⟨by rw [symT, hd1, HE.out]; rfl, zAC HW3.out (Nat.le_refl _) _ _ _ _ _⟩
   ·obtain ⟨b, off, rfl, _, _⟩ := h.at_ h0
    have hlc := h.lc
    have hc1 : cap = 1 := by omega
    have hl1 : len = 1 := by have := h.lc; omega
    subst hc1
    subst hl1
    have HDR : Hid (l.drop 1 = []) := hid (List.drop_eq_nil_iff.2 (by omega))
    have hlc := h.lc
    have hcm := h.cm
    have hl := h.hl
    unfold maxLen at hcm
    have HMC := hid h.cm
    have HW0 := hid (zAE w)
    have HC0 := hid (zAR w)
    have H := hid h
    have HT := hid ht
    clear h ht
    obtain ⟨hd1, hd2⟩ := hd
    have hnc : 1 ≤ 1 := by omega
    go_enter Tryz.func166, Tryz.ntmps166
    go_wp2_with fail
    refine (zAa _ _ _ l 5 _ (H.out.below HW0.out) (HT.out.keep HW0.out)).mono ?_
    rintro e w1 ⟨rfl, hb1⟩
    have HW1 : Hid (Below w.heap.size w w1) := hid (HW0.out.trans (hb1.mono HW0.out.size))
    have HC1 : Hid (TC w.heap.size w1) := hid (HC0.out.keep hb1)
    clear hb1
    rw [hd1]
    have kc := ((H.out.below HW1.out).take (k := 1) (c' := 1) (by omega) (by omega) HMC.out).str (P := Tryz.prog) 59 9 5 Tryz.underlying59 Tryz.underlying5 Tryz.underlying9
    have kd : ((bstr (l.take 1)).toList == [46]) = true := by
     rw [zDw (fun x hx => H.out.rng x (List.take_subset _ _ hx))]
     exact decide_eq_true ((zCg (by omega) (by omega)).2 ⟨rfl, hd2⟩)
    go_wp2_with fail
    refine (zCf _ _ _ (l.drop 1) _ (HDR.out ▸ Bs.nil w1 (some ⟨b, off, none⟩) 0 (by decide)) (HT.out.keep HW1.out)).mono ?_
    rw [hap]
    rintro e w2 ⟨rfl, hb2⟩
    have HW2 : Hid (Below w.heap.size w w2) := hid (HW1.out.trans (hb2.mono HW1.out.size))
    have HC2 : Hid (TC w.heap.size w2) := hid (HC1.out.keep hb2)
    clear hb2
    go_wp2_with fail
    refine (zA0 7 _ _ _ (l.take 1) _ ((H.out.below HW2.out).take (k := 1) (by omega) hnc HMC.out)).mono ?_
    rintro e w3 ⟨rfl, hb3⟩
    have HW3 : Hid (Below w.heap.size w w3) := hid (HW2.out.trans (hb3.mono HW2.out.size))
    have HC3 : Hid (TC w.heap.size w3) := hid (HC2.out.keep hb3)
    clear hb3
    have q0 := HC3.out.q0
    have q1 := HC3.out.q1
    have q2 := HC3.out.q2
    have q3 := HC3.out.q3
    have q4 := HC3.out.q4
    have z0 := HC3.out.z 0
    have z1 := HC3.out.z 1
    have z2 := HC3.out.z 2
    have z3 := HC3.out.z 3
    have z4 := HC3.out.z 4
    have hlt := HC3.out.lt
    go_wp2
    exact bodyPost_ret (v := .agg #[.int .i64 7, .int .i64 0, .int .i64 (1 : Nat), .string (bstr (l.take 1)), .int .i64 0]) (by simp [results, Tryz.results166, go_sem, q0, q1, q2, q3, q4]) rfl ⟨by rw [symT, hd1, HE.out]; rfl, zAC HW3.out (Nat.le_refl _) _ _ _ _ _⟩
  | false =>
   have HE : Hid (endT l = false) := hid (by rw [zEp hd.1 hd.2 (by omega)]; exact hap)
   by_cases hcap : 1 < cap
   ·obtain ⟨b, off, rfl, _, _⟩ := h.at_ h0
    have hlc := h.lc
    have hcm := h.cm
    have hl := h.hl
    unfold maxLen at hcm
    have HMC := hid h.cm
    have HW0 := hid (zAE w)
    have HC0 := hid (zAR w)
    have H := hid h
    have HT := hid ht
    clear h ht
    obtain ⟨hd1, hd2⟩ := hd
    have hnc : 1 ≤ cap := by omega
    go_enter Tryz.func166, Tryz.ntmps166
    go_wp2_with fail
    refine (zAa _ _ _ l 5 _ (H.out.below HW0.out) (HT.out.keep HW0.out)).mono ?_
    rintro e w1 ⟨rfl, hb1⟩
    have HW1 : Hid (Below w.heap.size w w1) := hid (HW0.out.trans (hb1.mono HW0.out.size))
    have HC1 : Hid (TC w.heap.size w1) := hid (HC0.out.keep hb1)
    clear hb1
    rw [hd1]
    have kc := ((H.out.below HW1.out).take (k := 1) (c' := cap) (by omega) (by omega) HMC.out).str (P := Tryz.prog) 59 9 5 Tryz.underlying59 Tryz.underlying5 Tryz.underlying9
    have kd : ((bstr (l.take 1)).toList == [46]) = true := by
     rw [zDw (fun x hx => H.out.rng x (List.take_subset _ _ hx))]
     exact decide_eq_true ((zCg (by omega) (by omega)).2 ⟨rfl, hd2⟩)
    go_wp2_with fail
    refine (zCf _ _ _ (l.drop 1) _ ((H.out.below HW1.out).drop (k := 1) (by omega)) (HT.out.keep HW1.out)).mono ?_
    rw [hap]
    rintro e w2 ⟨rfl, hb2⟩
    have HW2 : Hid (Below w.heap.size w w2) := hid (HW1.out.trans (hb2.mono HW1.out.size))
    have HC2 : Hid (TC w.heap.size w2) := hid (HC1.out.keep hb2)
    clear hb2
    go_wp2_with fail
    refine (zA0 2 _ _ _ (l.take 1) _ ((H.out.below HW2.out).take (k := 1) (by omega) hnc HMC.out)).mono ?_
    rintro e w3 ⟨rfl, hb3⟩
    have HW3 : Hid (Below w.heap.size w w3) := hid (HW2.out.trans (hb3.mono HW2.out.size))
    have HC3 : Hid (TC w.heap.size w3) := hid (HC2.out.keep hb3)
    clear hb3
    have q0 := HC3.out.q0
    have q1 := HC3.out.q1
    have q2 := HC3.out.q2
    have q3 := HC3.out.q3
    have q4 := HC3.out.q4
    have z0 := HC3.out.z 0
    have z1 := HC3.out.z 1
    have z2 := HC3.out.z 2
    have z3 := HC3.out.z 3
    have z4 := HC3.out.z 4
    have hlt := HC3.out.lt
    go_wp2
    exact bodyPost_ret (v := .agg #[.int .i64 2, .int .i64 0, .int .i64 (1 : Nat), .string (bstr (l.take 1)), .int .i64 0]) (by simp [results, Tryz.results166, go_sem, q0, q1, q2, q3, q4]) rfl ⟨by rw [symT, hd1, HE.out]; rfl, zAC HW3.out (Nat.le_refl _) _ _ _ _ _⟩
   ·obtain ⟨b, off, rfl, _, _⟩ := h.at_ h0
    have hlc := h.lc
    have hc1 : cap = 1 := by omega
    have hl1 : len = 1 := by have := h.lc; omega
    subst hc1
    subst hl1
    have HDR : Hid (l.drop 1 = []) := hid (List.drop_eq_nil_iff.2 (by omega))
    have hlc := h.lc
    have hcm := h.cm
    have hl := h.hl
    unfold maxLen at hcm
    have HMC := hid h.cm
    have HW0 := hid (zAE w)
    have HC0 := hid (zAR w)
    have H := hid h
    have HT := hid ht
    clear h ht
    obtain ⟨hd1, hd2⟩ := hd
    have hnc : 1 ≤ 1 := by omega
    go_enter Tryz.func166, Tryz.ntmps166
    go_wp2_with fail
    refine (zAa _ _ _ l 5 _ (H.out.below HW0.out) (HT.out.keep HW0.out)).mono ?_
    rintro e w1 ⟨rfl, hb1⟩
    have HW1 : Hid (Below w.heap.size w w1) := hid (HW0.out.trans (hb1.mono HW0.out.size))
    have HC1 : Hid (TC w.heap.size w1) := hid (HC0.out.keep hb1)
    clear hb1
    rw [hd1]
    have kc := ((H.out.below HW1.out).take (k := 1) (c' := 1) (by omega) (by omega) HMC.out).str (P := Tryz.prog) 59 9 5 Tryz.underlying59 Tryz.underlying5 Tryz.underlying9
    have kd : ((bstr (l.take 1)).toList == [46]) = true := by
     rw [zDw (fun x hx => H.out.rng x (List.take_subset _ _ hx))]
     exact decide_eq_true ((zCg (by omega) (by omega)).2 ⟨rfl, hd2⟩)
    go_wp2_with fail
    refine (zCf _ _ _ (l.drop 1) _ (HDR.out ▸ Bs.nil w1 (some ⟨b, off, none⟩) 0 (by decide)) (HT.out.keep HW1.out)).mono ?_
    rw [hap]
    rintro e w2 ⟨rfl, hb2⟩
    have HW2 : Hid (Below w.heap.size w w2) := hid (HW1.out.trans (hb2.mono HW1.out.size))
    have HC2 : Hid (TC w.heap.size w2) := hid (HC1.out.keep hb2)
    clear hb2
    go_wp2_with fail
    refine (zA0 2 _ _ _ (l.take 1) _ ((H.out.below HW2.out).take (k := 1) (by omega) hnc HMC.out)).mono ?_
    rintro e w3 ⟨rfl, hb3⟩
    have HW3 : Hid (Below w.heap.size w w3) := hid (HW2.out.trans (hb3.mono HW2.out.size))
    have HC3 : Hid (TC w.heap.size w3) := hid (HC2.out.keep hb3)
    clear hb3
    have q0 := HC3.out.q0
    have q1 := HC3.out.q1
    have q2 := HC3.out.q2
    have q3 := HC3.out.q3
    have q4 := HC3.out.q4
    have z0 := HC3.out.z 0
    have z1 := HC3.out.z 1
    have z2 := HC3.out.z 2
    have z3 := HC3.out.z 3
    have z4 := HC3.out.z 4
    have hlt := HC3.out.lt
    go_wp2
    exact bodyPost_ret (v := .agg #[.int .i64 2, .int .i64 0, .int .i64 (1 : Nat), .string (bstr (l.take 1)), .int .i64 0]) (by simp [results, Tryz.results166, go_sem, q0, q1, q2, q3, q4]) rfl ⟨by rw [symT, hd1, HE.out]; rfl, zAC HW3.out (Nat.le_refl _) _ _ _ _ _⟩
 ·have HE : Hid (endT l = false) := hid (zJq hd)
  have hkd : (decide (l.take (runL 5 l) = [46])) = false := decide_eq_false (fun hx => hd ((zCg hrp hrn).1 hx))
  clear hd
  have hlc := h.lc
  have hcm := h.cm
  have hl := h.hl
  unfold maxLen at hcm
  have HMC := hid h.cm
  have HW0 := hid (zAE w)
  have HC0 := hid (zAR w)
  have H := hid h
  have HT := hid ht
  clear h ht
  obtain ⟨n, hn⟩ : ∃ n, n = runL 5 l := ⟨_, rfl⟩
  rw [← hn] at hrn hrp hkd
  have hnc : n ≤ cap := by omega
  have HN := hid hn
  clear hn
  go_enter Tryz.func166, Tryz.ntmps166
  go_wp2_with fail
  refine (zAa _ _ _ l 5 _ (H.out.below HW0.out) (HT.out.keep HW0.out)).mono ?_
  rintro e w1 ⟨rfl, hb1⟩
  have HW1 : Hid (Below w.heap.size w w1) := hid (HW0.out.trans (hb1.mono HW0.out.size))
  have HC1 : Hid (TC w.heap.size w1) := hid (HC0.out.keep hb1)
  clear hb1
  rw [← HN.out]
  have kc := ((H.out.below HW1.out).take (k := n) (c' := cap) (by omega) (by omega) HMC.out).str (P := Tryz.prog) 59 9 5 Tryz.underlying59 Tryz.underlying5 Tryz.underlying9
  have kd : ((bstr (l.take n)).toList == [46]) = false := by
   rw [zDw (fun x hx => H.out.rng x (List.take_subset _ _ hx))]
   exact hkd
  go_wp2_with fail
  refine (zA0 2 _ _ _ (l.take n) _ ((H.out.below HW1.out).take (k := n) (by omega) hnc HMC.out)).mono ?_
  rintro e w2 ⟨rfl, hb2⟩
  have HW2 : Hid (Below w.heap.size w w2) := hid (HW1.out.trans (hb2.mono HW1.out.size))
  have HC2 : Hid (TC w.heap.size w2) := hid (HC1.out.keep hb2)
  clear hb2
  have q0 := HC2.out.q0
  have q1 := HC2.out.q1
  have q2 := HC2.out.q2
  have q3 := HC2.out.q3
  have q4 := HC2.out.q4
  have z0 := HC2.out.z 0
  have z1 := HC2.out.z 1
  have z2 := HC2.out.z 2
  have z3 := HC2.out.z 3
  have z4 := HC2.out.z 4
  have hlt := HC2.out.lt
  go_wp2
  exact bodyPost_ret (v := .agg #[.int .i64 2, .int .i64 0, .int .i64 (n : Nat), .string (bstr (l.take n)), .int .i64 0]) (by simp [results, Tryz.results166, go_sem, q0, q1, q2, q3, q4]) rfl ⟨by rw [symT, ← HN.out, HE.out]; rfl, zAC HW2.out (Nat.le_refl _) _ _ _ _ _⟩
end
section
open Go.RowKit
theorem zJr (w : World) :
  Calls Tryz.prog 137 #[] w fun r w' => ∃ M, r = .returned (.map (some M)) ∧ Below w.heap.size w w' ∧ M < w'.heap.size ∧ w'.heap[M]? = some (.map scanEs 7) :=
 (zJp w).mono fun _ _ h => ⟨_, h.1, h.2 ▸ ⟨(Below.refl _ _).alloc (Nat.le_refl _) _, by simp, heap_alloc_new w _⟩⟩
set_option maxRecDepth 20000 in
set_option maxHeartbeats 1000000 in
theorem zBr (a : Option Addr) (len cap : Nat) (l : List Int) (w : World) (h : Bs w a len cap l) (ht : Tab w) (h0 : 0 < len) (k : Int) (hk : cls (bt l 0) = k) (hkr : 0 ≤ k ∧ k ≤ 9)
  (F : Nat) (hfs : F = 164 ∨ F = 165 ∨ F = 166 ∨ F = 167 ∨ F = 168 ∨ F = 169) (hv : scanV k = .func (.func F) #[] #[]) (hs : scanB k = true) (t : TR)
  (hF : ∀ w1, Below w.heap.size w w1 → Calls Tryz.prog F #[.slice a len cap] w1 fun r w' => r = .returned (tkv t) ∧ Below w1.heap.size w1 w') :
  Calls Tryz.prog 93 #[.slice a len cap] w fun r w' => r = .returned (tkv t) ∧ Below w.heap.size w w' := by
 have hlc := h.lc
 have hcm := h.cm
 have hl := h.hl
 unfold maxLen at hcm
 have r0 := (zAI h.rng 0).1
 have r1 := (zAI h.rng 0).2
 have HW0 := hid (zAE w)
 have HC0 := hid (zAR w)
 have H := hid h
 have HT := hid ht
 obtain ⟨b, off, rfl, hbl, hc⟩ := h.at_ h0
 have HCK : Hid (w.cell? ⟨b, off, none⟩ = some (.int .u8 (bt l 0))) := hid (hc 0 h0)
 have HK := hid hk
 have HKR := hid hkr
 have HV := hid hv
 have HS := hid hs
 have HFS := hid hfs
 have HFF := hid hF
 clear h ht hc hk hv hs hkr hfs hF
 go_enter Tryz.func93, Tryz.ntmps93
 go_wp2
 have hX : (wTok w).cell? ⟨b, off, none⟩ = some (.int .u8 (bt l 0)) := (HW0.out.cell hbl).trans HCK.out
 go_region_held3 (fun w' => w'.cell? ⟨b, off, none⟩ = some (.int .u8 (bt l 0)))
  (first
   | exact (HW2.out.cell hbl).trans HCK.out
   | exact (HW1.out.cell hbl).trans HCK.out
   | go_keep)
  (first
   | (go_at_call 137; refine (zJr _).mono ?_; rintro e w1 ⟨M, rfl, hb1, hM1, hM2⟩; have HW1 : Hid (Below w.heap.size w w1) := hid (HW0.out.drew.trans (hb1.mono HW0.out.size)); have HC1 : Hid (TC w.heap.size w1) := hid (HC0.out.keep ((Below.refl _ _).drew.trans hb1)); have HM1 := hid hM1; have HM2 := hid hM2; clear hb1 hM1 hM2)
   | (go_at_call 138; refine (zDM _ _ (HT.out.keep HW1.out) r0 r1).mono ?_; rw [HK.out]; rintro e w2 ⟨rfl, hb2⟩; have HW2 : Hid (Below w.heap.size w w2) := hid (HW1.out.trans (hb2.mono HW1.out.size)); have HC2 : Hid (TC w.heap.size w2) := hid (HC1.out.keep hb2); have hlk := zHn M k HKR.out w2 ((hb2.block M HM1.out).trans HM2.out); rw [HV.out, HS.out] at hlk; clear hb2))
 go_wp2_with fail
 rcases HFS.out with rfl | rfl | rfl | rfl | rfl | rfl
 all_goals
  go_wp2_with fail
  refine (HFF.out w2 HW2.out).mono ?_
  rintro e w3 ⟨rfl, hb3⟩
  have HW3 : Hid (Below w.heap.size w w3) := hid (HW2.out.trans (hb3.mono HW2.out.size))
  have HC3 : Hid (TC w.heap.size w3) := hid (HC2.out.keep hb3)
  clear hb3
  unfold tkv
  have q0 := HC3.out.q0
  have q1 := HC3.out.q1
  have q2 := HC3.out.q2
  have q3 := HC3.out.q3
  have q4 := HC3.out.q4
  have z0 := HC3.out.z 0
  have z1 := HC3.out.z 1
  have z2 := HC3.out.z 2
  have z3 := HC3.out.z 3
  have z4 := HC3.out.z 4
  have hlt := HC3.out.lt
  go_wp2
  exact bodyPost_ret (v := .agg #[.int .i64 t.k, .int .i64 0, .int .i64 t.n, .string (bstr t.t), .int .i64 t.e]) (by simp [results, Tryz.results93, go_sem, q0, q1, q2, q3, q4]) rfl ⟨rfl, zAC HW3.out (Nat.le_refl _) _ _ _ _ _⟩
set_option maxHeartbeats 1000000 in
theorem zLy (a : Option Addr) (len cap : Nat) (l : List Int) (w : World) (h : Bs w a len cap l) (ht : Tab w) (h0 : 0 < len) (k : Int) (hk : cls (bt l 0) = k) (hkr : 0 ≤ k ∧ k ≤ 9)
  (hv : scanV k = .nilFunc) (hs : scanB k = false) :
  Calls Tryz.prog 93 #[.slice a len cap] w fun r w' => r = .returned (tkv ⟨8, 1, [], 11⟩) ∧ Below w.heap.size w w' := by
 have hlc := h.lc
 have hcm := h.cm
 have hl := h.hl
 unfold maxLen at hcm
 have r0 := (zAI h.rng 0).1
 have r1 := (zAI h.rng 0).2
 have HW0 := hid (zAE w)
 have HC0 := hid (zAR w)
 have H := hid h
 have HT := hid ht
 obtain ⟨b, off, rfl, hbl, hc⟩ := h.at_ h0
 have HCK : Hid (w.cell? ⟨b, off, none⟩ = some (.int .u8 (bt l 0))) := hid (hc 0 h0)
 have HK := hid hk
 have HKR := hid hkr
 have HV := hid hv
 have HS := hid hs
 clear h ht hc hk hv hs hkr
 go_enter Tryz.func93, Tryz.ntmps93
 go_wp2
 have hX : (wTok w).cell? ⟨b, off, none⟩ = some (.int .u8 (bt l 0)) := (HW0.out.cell hbl).trans HCK.out
 go_region_held3 (fun w' => w'.cell? ⟨b, off, none⟩ = some (.int .u8 (bt l 0)))
  (first
   | exact (HW2.out.cell hbl).trans HCK.out
   | exact (HW1.out.cell hbl).trans HCK.out
   | go_keep)
  (first
   | (go_at_call 137; refine (zJr _).mono ?_; rintro e w1 ⟨M, rfl, hb1, hM1, hM2⟩; have HW1 : Hid (Below w.heap.size w w1) := hid (HW0.out.drew.trans (hb1.mono HW0.out.size)); have HC1 : Hid (TC w.heap.size w1) := hid (HC0.out.keep ((Below.refl _ _).drew.trans hb1)); have HM1 := hid hM1; have HM2 := hid hM2; clear hb1 hM1 hM2)
   | (go_at_call 138; refine (zDM _ _ (HT.out.keep HW1.out) r0 r1).mono ?_; rw [HK.out]; rintro e w2 ⟨rfl, hb2⟩; have HW2 : Hid (Below w.heap.size w w2) := hid (HW1.out.trans (hb2.mono HW1.out.size)); have HC2 : Hid (TC w.heap.size w2) := hid (HC1.out.keep hb2); have hlk := zHn M k HKR.out w2 ((hb2.block M HM1.out).trans HM2.out); rw [HV.out, HS.out] at hlk; clear hb2))
 go_wp2_with fail
 refine (zDu 1 11 _).mono ?_
 rintro e w3 ⟨rfl, hb3⟩
 have HW3 : Hid (Below w.heap.size w w3) := hid (HW2.out.trans (hb3.mono HW2.out.size))
 have HC3 : Hid (TC w.heap.size w3) := hid (HC2.out.keep hb3)
 clear hb3
 have q0 := HC3.out.q0
 have q1 := HC3.out.q1
 have q2 := HC3.out.q2
 have q3 := HC3.out.q3
 have q4 := HC3.out.q4
 have z0 := HC3.out.z 0
 have z1 := HC3.out.z 1
 have z2 := HC3.out.z 2
 have z3 := HC3.out.z 3
 have z4 := HC3.out.z 4
 have hlt := HC3.out.lt
 go_wp2
 exact bodyPost_ret (v := .agg #[.int .i64 8, .int .i64 0, .int .i64 1, .string ⟨#[]⟩, .int .i64 11]) (by simp [results, Tryz.results93, go_sem, q0, q1, q2, q3, q4]) rfl ⟨rfl, zAC HW3.out (Nat.le_refl _) _ _ _ _ _⟩
theorem zJs (a : Option Addr) (len cap : Nat) (l : List Int) (w : World) (h : Bs w a len cap l) (ht : Tab w) (h0 : 0 < len) (hsz : len ≤ 1000000) :
  Calls Tryz.prog 93 #[.slice a len cap] w fun r w' => r = .returned (tkv (firstT l)) ∧ Below w.heap.size w w' := by
 have hr := zGz (zAI h.rng 0).1 (zAI h.rng 0).2
 obtain hk | hk | hk | hk | hk | hk | hk | hk | hk | hk : cls (bt l 0) = 2 ∨ cls (bt l 0) = 3 ∨ cls (bt l 0) = 9 ∨ cls (bt l 0) = 5 ∨ cls (bt l 0) = 4 ∨ cls (bt l 0) = 7 ∨ cls (bt l 0) = 6 ∨ cls (bt l 0) = 0 ∨ cls (bt l 0) = 1 ∨ cls (bt l 0) = 8 := by omega
 ·have hn : highT l = nameT 1 l := by
   unfold highT
   have h1 := zCP (l := l) (fun hn => by have := congrArg List.length hn; rw [h.hl] at this; simp at this; omega) h.rng (zFF (Or.inl hk))
   have := zFE h1.1
   rw [if_neg (by omega)]
  rw [firstT2 hk, ← hn]
  exact zBr a len cap l w h ht h0 2 hk (by omega) 164 (by simp) rfl rfl _ fun w1 hb => zHo a len cap l w1 (h.below hb) (ht.keep hb)
 ·rw [firstT3 hk]
  exact zBr a len cap l w h ht h0 3 hk (by omega) 165 (by simp) rfl rfl _ fun w1 hb => zGA a len cap l w1 (h.below hb) (ht.keep hb)
 ·rw [firstT9 hk]
  exact zBr a len cap l w h ht h0 9 hk (by omega) 164 (by simp) rfl rfl _ fun w1 hb => zHo a len cap l w1 (h.below hb) (ht.keep hb)
 ·rw [firstT5 hk]
  exact zBr a len cap l w h ht h0 5 hk (by omega) 166 (by simp) rfl rfl _ fun w1 hb => zI3 a len cap l w1 (h.below hb) (ht.keep hb) h0 hk
 ·rw [firstT4 hk]
  exact zBr a len cap l w h ht h0 4 hk (by omega) 167 (by simp) rfl rfl _ fun w1 hb => zI2 a len cap l w1 (h.below hb) (ht.keep hb)
 ·rw [firstT7 hk]
  exact zBr a len cap l w h ht h0 7 hk (by omega) 168 (by simp) rfl rfl _ fun w1 hb => zLx a len cap l w1 (h.below hb) (ht.keep hb) hsz
 ·rw [firstT6 hk]
  exact zBr a len cap l w h ht h0 6 hk (by omega) 169 (by simp) rfl rfl _ fun w1 hb => zLw a len cap l w1 (h.below hb) (ht.keep hb) h0
 all_goals
  rw [firstT0 (by omega)]
  exact zLy a len cap l w h ht h0 _ hk (by omega) rfl rfl
end
section
open Go.RowKit
def nxV : Option (Nat × TR) → Value
 | none => .tuple #[.agg #[.int .i64 0, .int .i64 0, .int .i64 0, .string ⟨#[]⟩, .int .i64 0], .bool false]
 | some (f, t) => .tuple #[.agg #[.int .i64 t.k, .int .i64 f, .int .i64 (f + t.n : Nat), .string (bstr t.t), .int .i64 t.e], .bool true]
theorem zFJ {k f t e k' f' t' e' : Int} {s s' : ByteArray} (h1 : k = k') (h2 : f = f') (h3 : t = t') (h4 : s = s') (h5 : e = e') :
  Ending.returned (.tuple #[.agg #[.int .i64 k, .int .i64 f, .int .i64 t, .string s, .int .i64 e], .bool true]) = .returned (.tuple #[.agg #[.int .i64 k', .int .i64 f', .int .i64 t', .string s', .int .i64 e'], .bool true]) := by
 rw [h1, h2, h3, h4, h5]
theorem zEq (k c : Int) (t n : Nat) (s : ByteArray) (w : World) (hn : n ≤ 2000000000) (ht : t ≤ 2000000000) :
  Calls Tryz.prog 91 #[.agg #[.int .i64 k, .int .i64 0, .int .i64 t, .string s, .int .i64 c], .int .i64 n] w fun r w' => r = .returned (.agg #[.int .i64 k, .int .i64 n, .int .i64 (t + n : Nat), .string s, .int .i64 c]) ∧ Below w.heap.size w w' := by
 have := zJo k c 0 t n s w (by omega) (by omega)
 rw [Nat.zero_add] at this
 exact this
set_option maxHeartbeats 1000000 in
set_option maxRecDepth 20000 in
theorem zLz (a : Option Addr) (len cap : Nat) (l : List Int) (k : Nat) (w : World) (h : Bs w a len cap l) (ht : Tab w) (hsz : len ≤ 1000000) (hk : k ≤ len) :
  Calls Tryz.prog 50 #[.slice a len cap, .int .i64 k] w fun r w' => r = .returned (nxV (nx l k)) ∧ Below w.heap.size w w' := by
 have hlc := h.lc
 have hcm := h.cm
 have hl := h.hl
 unfold maxLen at hcm
 have HMC := hid h.cm
 obtain ⟨n, z, hs, hn, hz⟩ := zG2 l k (by omega)
 rw [hl] at hn hz
 have HW0 := hid (zAE w)
 have HC0 := hid (zAR w)
 have H := hid h
 have HT := hid ht
 have HS := hid hs
 have hA : decide ((k : Int) < 0) = false := decide_eq_false (by omega)
 have hB : decide ((len : Int) < k) = false := decide_eq_false (by omega)
 by_cases h0 : 0 < len
 ·obtain ⟨b, off, rfl, _, _⟩ := h.at_ h0
  by_cases hkl : k < len
  ·by_cases hze : z = 0
   ·subst hze
    by_cases he : k + n < len
    ·have HX : Hid (nx l k = some (k + n, firstT (l.drop (k + n)))) := hid (zG1 hs (by omega))
     have HG := hid (zCZ (l := l.drop (k + n)) (by rw [List.length_drop]; omega) (fun x hx => h.rng x (List.drop_subset _ _ hx)))
     have hg1 := HG.out.nl
     rw [List.length_drop, hl] at hg1
     obtain ⟨t, hte⟩ : ∃ t, t = firstT (l.drop (k + n)) := ⟨_, rfl⟩
     have HTE := hid hte
     rw [← hte] at HX hg1
     clear h ht hs hte hl hz
     go_enter Tryz.func50, Tryz.ntmps50
     go_wp2_with fail
     refine (zBQ _ _ _ (l.drop k) _ ((H.out.below HW0.out).drop (k := k) (by omega)) (HT.out.keep HW0.out) (by omega)).mono ?_
     rw [HS.out]
     rintro e w1 ⟨rfl, hb1⟩
     have HW1 : Hid (Below w.heap.size w w1) := hid (HW0.out.trans (hb1.mono HW0.out.size))
     have HC1 : Hid (TC w.heap.size w1) := hid (HC0.out.keep hb1)
     clear hb1
     go_wp2_with fail
     refine (zJs _ _ _ (l.drop (k + n)) _ ((H.out.below HW1.out).drop (k := k + n) (by omega)) (HT.out.keep HW1.out) (by omega) (by omega)).mono ?_
     rw [← HTE.out]
     unfold tkv
     rintro e w2 ⟨rfl, hb2⟩
     have HW2 : Hid (Below w.heap.size w w2) := hid (HW1.out.trans (hb2.mono HW1.out.size))
     have HC2 : Hid (TC w.heap.size w2) := hid (HC1.out.keep hb2)
     clear hb2
     go_wp2_with fail
     refine (zEq _ _ t.n (k + n) _ _ (by omega) (by omega)).mono ?_
     rintro e w3 ⟨rfl, hb3⟩
     have HW3 : Hid (Below w.heap.size w w3) := hid (HW2.out.trans (hb3.mono HW2.out.size))
     have HC3 : Hid (TC w.heap.size w3) := hid (HC2.out.keep hb3)
     clear hb3
     have q0 := HC3.out.q0
     have q1 := HC3.out.q1
     have q2 := HC3.out.q2
     have q3 := HC3.out.q3
     have q4 := HC3.out.q4
     have z0 := HC3.out.z 0
     have z1 := HC3.out.z 1
     have z2 := HC3.out.z 2
     have z3 := HC3.out.z 3
     have z4 := HC3.out.z 4
     have hlt := HC3.out.lt
     go_wp2
     exact bodyPost_ret (v := .tuple #[.agg #[.int .i64 t.k, .int .i64 (k + n : Nat), .int .i64 (t.n + (k + n) : Nat), .string (bstr t.t), .int .i64 t.e], .bool true]) (by simp [results, Tryz.results50, go_sem, q0, q1, q2, q3, q4] <;> omega) rfl ⟨by rw [HX.out]; exact zFJ rfl rfl (by omega) rfl rfl, zAC HW3.out (Nat.le_refl _) _ _ _ _ _⟩
    ·have HX : Hid (nx l k = none) := hid (zCC hs (by omega))
     have hee : k + n = len := by omega
     by_cases hcap : k + n < cap
     ·clear h ht hs hl hz he
      go_enter Tryz.func50, Tryz.ntmps50
      go_wp2_with fail
      refine (zBQ _ _ _ (l.drop k) _ ((H.out.below HW0.out).drop (k := k) (by omega)) (HT.out.keep HW0.out) (by omega)).mono ?_
      rw [HS.out]
      rintro e w1 ⟨rfl, hb1⟩
      have HW1 : Hid (Below w.heap.size w w1) := hid (HW0.out.trans (hb1.mono HW0.out.size))
      have HC1 : Hid (TC w.heap.size w1) := hid (HC0.out.keep hb1)
      clear hb1
      have q0 := HC1.out.q0
      have q1 := HC1.out.q1
      have q2 := HC1.out.q2
      have q3 := HC1.out.q3
      have q4 := HC1.out.q4
      have z0 := HC1.out.z 0
      have z1 := HC1.out.z 1
      have z2 := HC1.out.z 2
      have z3 := HC1.out.z 3
      have z4 := HC1.out.z 4
      have hlt := HC1.out.lt
      go_wp2
      exact bodyPost_ret (v := .tuple #[.agg #[.int .i64 0, .int .i64 0, .int .i64 0, .string ⟨#[]⟩, .int .i64 0], .bool false]) (by simp [results, Tryz.results50, go_sem, q0, q1, q2, q3, q4]) rfl ⟨by rw [HX.out]; rfl, zAC HW1.out (Nat.le_refl _) _ _ _ _ _⟩
     ·have hcc : cap ≤ k + n := by omega
      clear h ht hs hl hz he hcap
      go_enter Tryz.func50, Tryz.ntmps50
      go_wp2_with fail
      refine (zBQ _ _ _ (l.drop k) _ ((H.out.below HW0.out).drop (k := k) (by omega)) (HT.out.keep HW0.out) (by omega)).mono ?_
      rw [HS.out]
      rintro e w1 ⟨rfl, hb1⟩
      have HW1 : Hid (Below w.heap.size w w1) := hid (HW0.out.trans (hb1.mono HW0.out.size))
      have HC1 : Hid (TC w.heap.size w1) := hid (HC0.out.keep hb1)
      clear hb1
      have q0 := HC1.out.q0
      have q1 := HC1.out.q1
      have q2 := HC1.out.q2
      have q3 := HC1.out.q3
      have q4 := HC1.out.q4
      have z0 := HC1.out.z 0
      have z1 := HC1.out.z 1
      have z2 := HC1.out.z 2
      have z3 := HC1.out.z 3
      have z4 := HC1.out.z 4
      have hlt := HC1.out.lt
      go_wp2
      exact bodyPost_ret (v := .tuple #[.agg #[.int .i64 0, .int .i64 0, .int .i64 0, .string ⟨#[]⟩, .int .i64 0], .bool false]) (by simp [results, Tryz.results50, go_sem, q0, q1, q2, q3, q4]) rfl ⟨by rw [HX.out]; rfl, zAC HW1.out (Nat.le_refl _) _ _ _ _ _⟩
   ·obtain ⟨hz1, hz2⟩ := hz hze
    have HX : Hid (nx l k = some (k + n, ⟨8, l.length - (k + n), [], z⟩)) := hid (zJn hs hze)
    rw [hl] at HX
    have hzb : (z != 0) = true := by simpa using hze
    clear h ht hs hl hz hze hz2
    go_enter Tryz.func50, Tryz.ntmps50
    go_wp2_with fail
    refine (zBQ _ _ _ (l.drop k) _ ((H.out.below HW0.out).drop (k := k) (by omega)) (HT.out.keep HW0.out) (by omega)).mono ?_
    rw [HS.out]
    rintro e w1 ⟨rfl, hb1⟩
    have HW1 : Hid (Below w.heap.size w w1) := hid (HW0.out.trans (hb1.mono HW0.out.size))
    have HC1 : Hid (TC w.heap.size w1) := hid (HC0.out.keep hb1)
    clear hb1
    go_wp2_with fail
    refine (zDu _ _ _).mono ?_
    rintro e w2 ⟨rfl, hb2⟩
    have HW2 : Hid (Below w.heap.size w w2) := hid (HW1.out.trans (hb2.mono HW1.out.size))
    have HC2 : Hid (TC w.heap.size w2) := hid (HC1.out.keep hb2)
    clear hb2
    go_wp2_with fail
    refine (zEq _ _ (len - (k + n)) (k + n) _ _ (by omega) (by omega)).mono ?_
    rintro e w3 ⟨rfl, hb3⟩
    have HW3 : Hid (Below w.heap.size w w3) := hid (HW2.out.trans (hb3.mono HW2.out.size))
    have HC3 : Hid (TC w.heap.size w3) := hid (HC2.out.keep hb3)
    clear hb3
    have q0 := HC3.out.q0
    have q1 := HC3.out.q1
    have q2 := HC3.out.q2
    have q3 := HC3.out.q3
    have q4 := HC3.out.q4
    have z0 := HC3.out.z 0
    have z1 := HC3.out.z 1
    have z2 := HC3.out.z 2
    have z3 := HC3.out.z 3
    have z4 := HC3.out.z 4
    have hlt := HC3.out.lt
    go_wp2
    exact bodyPost_ret (v := .tuple #[.agg #[.int .i64 8, .int .i64 (k + n : Nat), .int .i64 (len - (k + n) + (k + n) : Nat), .string ⟨#[]⟩, .int .i64 z], .bool true]) (by simp [results, Tryz.results50, go_sem, q0, q1, q2, q3, q4] <;> omega) rfl ⟨by rw [HX.out]; exact zFJ rfl rfl (by simp; omega) rfl rfl, zAC HW3.out (Nat.le_refl _) _ _ _ _ _⟩
  ·have hkk : k = len := by omega
   subst hkk
   have HDN : Hid (l.drop k = []) := hid (List.drop_eq_nil_iff.2 (by omega))
   have hnz : n = 0 ∧ z = 0 := by
    rw [HDN.out, zEl] at hs
    injection hs with h1 h2
    exact ⟨h1.symm, h2.symm⟩
   obtain ⟨rfl, rfl⟩ := hnz
   have HX : Hid (nx l k = none) := hid (zCC hs (by omega))
   by_cases hcap : k < cap
   ·clear h ht hs hl hz
    go_enter Tryz.func50, Tryz.ntmps50
    go_wp2_with fail
    refine (zBQ _ _ _ (l.drop k) _ (HDN.out ▸ Bs.nil _ (some ⟨b, off + k, none⟩) (cap - k) (by unfold maxLen; omega)) (HT.out.keep HW0.out) (by omega)).mono ?_
    rw [HS.out]
    rintro e w1 ⟨rfl, hb1⟩
    have HW1 : Hid (Below w.heap.size w w1) := hid (HW0.out.trans (hb1.mono HW0.out.size))
    have HC1 : Hid (TC w.heap.size w1) := hid (HC0.out.keep hb1)
    clear hb1
    have q0 := HC1.out.q0
    have q1 := HC1.out.q1
    have q2 := HC1.out.q2
    have q3 := HC1.out.q3
    have q4 := HC1.out.q4
    have z0 := HC1.out.z 0
    have z1 := HC1.out.z 1
    have z2 := HC1.out.z 2
    have z3 := HC1.out.z 3
    have z4 := HC1.out.z 4
    have hlt := HC1.out.lt
    go_wp2
    exact bodyPost_ret (v := .tuple #[.agg #[.int .i64 0, .int .i64 0, .int .i64 0, .string ⟨#[]⟩, .int .i64 0], .bool false]) (by simp [results, Tryz.results50, go_sem, q0, q1, q2, q3, q4]) rfl ⟨by rw [HX.out]; rfl, zAC HW1.out (Nat.le_refl _) _ _ _ _ _⟩
   ·have hcc : cap ≤ k := by omega
    clear h ht hs hl hz hcap
    go_enter Tryz.func50, Tryz.ntmps50
    go_wp2_with fail
    refine (zBQ _ _ _ (l.drop k) _ (HDN.out ▸ Bs.nil _ (some ⟨b, off, none⟩) 0 (by decide)) (HT.out.keep HW0.out) (by omega)).mono ?_
    rw [HS.out]
    rintro e w1 ⟨rfl, hb1⟩
    have HW1 : Hid (Below w.heap.size w w1) := hid (HW0.out.trans (hb1.mono HW0.out.size))
    have HC1 : Hid (TC w.heap.size w1) := hid (HC0.out.keep hb1)
    clear hb1
    have q0 := HC1.out.q0
    have q1 := HC1.out.q1
    have q2 := HC1.out.q2
    have q3 := HC1.out.q3
    have q4 := HC1.out.q4
    have z0 := HC1.out.z 0
    have z1 := HC1.out.z 1
    have z2 := HC1.out.z 2
    have z3 := HC1.out.z 3
    have z4 := HC1.out.z 4
    have hlt := HC1.out.lt
    go_wp2
    exact bodyPost_ret (v := .tuple #[.agg #[.int .i64 0, .int .i64 0, .int .i64 0, .string ⟨#[]⟩, .int .i64 0], .bool false]) (by simp [results, Tryz.results50, go_sem, q0, q1, q2, q3, q4]) rfl ⟨by rw [HX.out]; rfl, zAC HW1.out (Nat.le_refl _) _ _ _ _ _⟩
 ·have hlen : len = 0 := by omega
  subst hlen
  obtain rfl : k = 0 := by omega
  have HDN : Hid (l.drop 0 = []) := hid (by rw [List.drop_zero]; exact List.eq_nil_of_length_eq_zero hl)
  have hnz : n = 0 ∧ z = 0 := by
   rw [HDN.out, zEl] at hs
   injection hs with h1 h2
   exact ⟨h1.symm, h2.symm⟩
  obtain ⟨rfl, rfl⟩ := hnz
  have HX : Hid (nx l 0 = none) := hid (zCC hs (by omega))
  clear h ht hs hl hz
  go_enter Tryz.func50, Tryz.ntmps50
  go_wp2_with fail
  refine (zBQ _ _ _ (l.drop 0) _ (HDN.out ▸ Bs.nil _ a cap HMC.out) (HT.out.keep HW0.out) (by omega)).mono ?_
  rw [HS.out]
  rintro e w1 ⟨rfl, hb1⟩
  have HW1 : Hid (Below w.heap.size w w1) := hid (HW0.out.trans (hb1.mono HW0.out.size))
  have HC1 : Hid (TC w.heap.size w1) := hid (HC0.out.keep hb1)
  clear hb1
  have q0 := HC1.out.q0
  have q1 := HC1.out.q1
  have q2 := HC1.out.q2
  have q3 := HC1.out.q3
  have q4 := HC1.out.q4
  have z0 := HC1.out.z 0
  have z1 := HC1.out.z 1
  have z2 := HC1.out.z 2
  have z3 := HC1.out.z 3
  have z4 := HC1.out.z 4
  have hlt := HC1.out.lt
  go_wp2
  exact bodyPost_ret (v := .tuple #[.agg #[.int .i64 0, .int .i64 0, .int .i64 0, .string ⟨#[]⟩, .int .i64 0], .bool false]) (by simp [results, Tryz.results50, go_sem, q0, q1, q2, q3, q4]) rfl ⟨by rw [HX.out]; rfl, zAC HW1.out (Nat.le_refl _) _ _ _ _ _⟩
end
end Go.Proofs.YtcjbhdgjcpnklaaGreatDoor
