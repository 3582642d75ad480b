/- Tokens joined: the bytes, and what they are lexed to; no walk here. -/
import Derived.Test.YtecabgmkoknbgaaDoorJn
namespace Go.Proofs.YtecabgmkoknbgaaDoor
open Go.RowKit

/-- The numbers of a string's bytes. -/
def sb (s : ByteArray) : List Int := s.toList.map fun b => (b.toNat : Int)

theorem sb_rng (s : ByteArray) : ∀ x ∈ sb s, 0 ≤ x ∧ x ≤ 255 := by
  intro x hx
  obtain ⟨b, _, rfl⟩ := List.mem_map.1 hx
  have := b.toNat_lt
  omega
theorem toList_inj {s t : ByteArray} (h : s.toList = t.toList) : s = t := by
  rw [ByteArray.toList_eq, ByteArray.toList_eq] at h
  apply ByteArray.ext
  exact Array.toList_inj.1 h
theorem bstr_sb (s : ByteArray) : bstr (sb s) = s := by
  apply toList_inj
  rw [bstr_toList, sb, List.map_map]
  have : (fun b : UInt8 => UInt8.ofNat ((b.toNat : Int)).toNat) = id := by funext b; simp
  show s.toList.map (fun b : UInt8 => UInt8.ofNat ((b.toNat : Int)).toNat) = _
  rw [this, List.map_id]
theorem sb_bstr {l : List Int} (h : ∀ x ∈ l, 0 ≤ x ∧ x ≤ 255) : sb (bstr l) = l := by
  unfold sb
  rw [bstr_toList, List.map_map]
  have : l.map (fun x => x) = l := List.map_id' l
  conv => rhs; rw [← this]
  exact List.map_congr_left fun x hx => u8_back (h x hx)

/-- The tokens' bytes. -/
def jb : List TK → List Int
  | [] => []
  | t :: L => wrT t.k (sb t.s) ++ sepT t.k :: jb L
/-- All of them may be written. -/
def jp : List TK → Bool
  | [] => true
  | t :: L => decide (wrE t.k (sb t.s) = 0) && jp L
/-- Of the same kinds and texts, and none bad. -/
def alike : List TK → List TK → Bool
  | [], [] => true
  | a :: A, b :: B => (a.k == b.k && (a.s.toList == b.s.toList && a.k != 8)) && alike A B
  | _, _ => false
/-- All tokens. -/
def toks (l : List Int) : List TK := (lx l 0).map tkOf
def jOk (L : List TK) : Bool := jp L && alike (toks (jb L)) L
/-- What Join tells. -/
def jnT (L : List TK) : List Int := if jOk L then jb L else []
def jnE (L : List TK) : Int := if jOk L then 0 else 1

def kt (t : TK) : Int × List UInt8 := (t.k, t.s.toList)

theorem alike_iff : ∀ A B : List TK, alike A B = true ↔ A.map kt = B.map kt ∧ ∀ a ∈ A, a.k ≠ 8
  | [], [] => by simp [alike]
  | [], b :: B => by simp [alike]
  | a :: A, [] => by simp [alike]
  | a :: A, b :: B => by
    simp only [alike, Bool.and_eq_true, alike_iff A B, List.map_cons, List.cons.injEq, List.mem_cons, beq_iff_eq, bne_iff_ne, kt, Prod.mk.injEq]
    constructor
    · rintro ⟨⟨h1, h2, h3⟩, h4, h5⟩
      exact ⟨⟨⟨h1, h2⟩, h4⟩, fun x hx => by rcases hx with rfl | hx; exact h3; exact h5 x hx⟩
    · rintro ⟨⟨⟨h1, h2⟩, h4⟩, h5⟩
      exact ⟨⟨h1, h2, h5 a (Or.inl rfl)⟩, h4, fun x hx => h5 x (Or.inr hx)⟩

theorem kt_s {t u : TK} (h : kt t = kt u) : t.k = u.k ∧ sb t.s = sb u.s := by
  unfold kt at h
  rw [Prod.mk.injEq] at h
  exact ⟨h.1, by unfold sb; rw [h.2]⟩

/-- The bytes hang on kinds and texts alone. -/
theorem jb_same : ∀ {A B : List TK}, A.map kt = B.map kt → jb A = jb B ∧ jp A = jp B
  | [], [], _ => ⟨rfl, rfl⟩
  | [], _ :: _, h => by simp at h
  | _ :: _, [], h => by simp at h
  | a :: A, b :: B, h => by
    rw [List.map_cons, List.map_cons, List.cons.injEq] at h
    obtain ⟨h1, h2⟩ := kt_s h.1
    obtain ⟨h3, h4⟩ := jb_same h.2
    unfold jb jp
    rw [h1, h2, h3, h4]
    exact ⟨rfl, rfl⟩
theorem jOk_same {A B : List TK} (h : A.map kt = B.map kt) : jOk A = jOk B := by
  obtain ⟨h1, h2⟩ := jb_same h
  unfold jOk
  rw [h1, h2]
  congr 1
  rw [Bool.eq_iff_iff, alike_iff, alike_iff, h]

theorem jb_append : ∀ A B : List TK, jb (A ++ B) = jb A ++ jb B
  | [], B => rfl
  | a :: A, B => by rw [List.cons_append, jb, jb, jb_append A B]; simp
theorem jp_append : ∀ A B : List TK, jp (A ++ B) = (jp A && jp B)
  | [], B => by simp [jp]
  | a :: A, B => by rw [List.cons_append, jp, jp, jp_append A B, Bool.and_assoc]

theorem wrT_rng (k : Int) {s : List Int} (h : ∀ x ∈ s, 0 ≤ x ∧ x ≤ 255) : ∀ x ∈ wrT k s, 0 ≤ x ∧ x ≤ 255 := by
  unfold wrT
  split
  · by_cases ho : okT s
    · rw [(ptOk_yes ho).1]
      unfold putL
      exact rng_app (X := [39]) (by decide) (rng_app (escL_rng h) (by decide))
    · rw [(ptOk_no ho).1]; simp
  · exact h
theorem wrT_len (k : Int) (s : List Int) : (wrT k s).length ≤ 2 * s.length + 2 := by
  unfold wrT
  split
  · by_cases ho : okT s
    · rw [(ptOk_yes ho).1, putL_len]
      have := escL_len s
      omega
    · rw [(ptOk_no ho).1]; simp
  · omega
theorem jb_rng : ∀ L : List TK, ∀ x ∈ jb L, 0 ≤ x ∧ x ≤ 255
  | [] => by simp [jb]
  | t :: L => by
    rw [jb]
    exact rng_app (wrT_rng _ (sb_rng _)) (rng_app (X := [sepT t.k]) (by simpa using sepT_rng t.k) (jb_rng L))

/-- How many bytes that may be, at most. -/
def wsz : List TK → Nat
  | [] => 0
  | t :: L => (2 * (sb t.s).length + 3) + wsz L
theorem jb_len : ∀ L : List TK, (jb L).length ≤ wsz L
  | [] => Nat.le_refl _
  | t :: L => by
    have h1 := wrT_len t.k (sb t.s)
    have h2 := jb_len L
    rw [jb, wsz, List.length_append, List.length_cons]
    omega
theorem wsz_append : ∀ A B : List TK, wsz (A ++ B) = wsz A + wsz B
  | [], B => by simp [wsz]
  | a :: A, B => by rw [List.cons_append, wsz, wsz, wsz_append A B]; omega
theorem wsz_len : ∀ L : List TK, L.length ≤ wsz L
  | [] => Nat.le_refl _
  | t :: L => by have := wsz_len L; rw [wsz, List.length_cons]; omega
theorem wsz_le (n : Nat) : ∀ L : List TK, (∀ t ∈ L, (sb t.s).length ≤ n) → wsz L ≤ L.length * (2 * n + 3)
  | [], _ => by simp [wsz]
  | t :: L, h => by
    have h1 := wsz_le n L fun x hx => h x (List.mem_cons_of_mem _ hx)
    have h2 := h t (List.mem_cons_self ..)
    rw [wsz, List.length_cons, Nat.add_mul]
    omega
theorem wsz_mem : ∀ (L : List TK) (t : TK), t ∈ L → 2 * (sb t.s).length + 3 ≤ wsz L
  | [], _, h => by cases h
  | u :: L, t, h => by
    rw [wsz]
    rcases List.mem_cons.1 h with rfl | h
    · omega
    · have := wsz_mem L t h; omega
theorem wsz_same : ∀ {A B : List TK}, A.map kt = B.map kt → wsz A = wsz B
  | [], [], _ => rfl
  | [], _ :: _, h => by simp at h
  | _ :: _, [], h => by simp at h
  | a :: A, b :: B, h => by
    rw [List.map_cons, List.map_cons, List.cons.injEq] at h
    rw [wsz, wsz, (kt_s h.1).2, wsz_same h.2]

/-- What a token is, that any bytes are lexed to. -/
structure LT (l : List Int) (p : Nat × TR) : Prop where
  lim : p.1 + p.2.n ≤ l.length
  n1 : 1 ≤ p.2.n
  rng : ∀ x ∈ p.2.t, 0 ≤ x ∧ x ≤ 255
  len : p.2.t.length ≤ p.2.n
  st : p.2.k ≠ 8 → ¬ (p.2.k = 2 ∧ p.2.t = [46]) → St p.2.k p.2.t

theorem lx_all {l : List Int} (hr : ∀ x ∈ l, 0 ≤ x ∧ x ≤ 255) : ∀ k, k ≤ l.length → (∀ p ∈ lx l k, LT l p) ∧ (lx l k).length ≤ l.length - k := by
  refine by_end fun k hk ih => ?_
  cases hn : nx l k with
  | none => rw [lx_none hn]; exact ⟨by simp, Nat.zero_le _⟩
  | some p =>
    obtain ⟨f, t⟩ := p
    obtain ⟨h1, h2, h3⟩ := nx_lim hk hr hn
    obtain ⟨i1, i2⟩ := ih (f + t.n) (by omega) h3
    obtain ⟨t1, t2⟩ := nx_text hk hr hn
    rw [lx_some hk hr hn]
    refine ⟨fun q hq => ?_, by rw [List.length_cons]; omega⟩
    rcases List.mem_cons.1 hq with rfl | hq
    · exact ⟨h3, h2, t1, t2, st_of hk hr hn⟩
    · exact i1 q hq

/-- A token of a row that is lexed as it was. -/
def Sg (t : TK) : Prop := St t.k (sb t.s)
/-- Or it is bad, or a dot that would come to be an end. -/
def FL (t : TK) : Prop := t.k = 8 ∨ (t.k = 2 ∧ sb t.s = [46]) ∨ Sg t

theorem toks_fl {l : List Int} (hr : ∀ x ∈ l, 0 ≤ x ∧ x ≤ 255) : (∀ t ∈ toks l, FL t ∧ (sb t.s).length ≤ l.length) ∧ (toks l).length ≤ l.length := by
  obtain ⟨h1, h2⟩ := lx_all hr 0 (Nat.zero_le _)
  refine ⟨fun t ht => ?_, by unfold toks; rw [List.length_map]; omega⟩
  obtain ⟨p, hp, rfl⟩ := List.mem_map.1 ht
  have h := h1 p hp
  have hs : sb (tkOf p).s = p.2.t := sb_bstr h.rng
  refine ⟨?_, by rw [hs]; have := h.len; have := h.lim; omega⟩
  unfold FL Sg
  rw [hs]
  by_cases h8 : p.2.k = 8
  · exact Or.inl h8
  · by_cases hd : p.2.k = 2 ∧ p.2.t = [46]
    · exact Or.inr (Or.inl hd)
    · exact Or.inr (Or.inr (h.st h8 hd))

theorem toks_wsz {l : List Int} (hr : ∀ x ∈ l, 0 ≤ x ∧ x ≤ 255) : wsz (toks l) ≤ l.length * (2 * l.length + 3) := by
  obtain ⟨h1, h2⟩ := toks_fl hr
  exact Nat.le_trans (wsz_le l.length _ fun t ht => (h1 t ht).2) (Nat.mul_le_mul_right _ h2)

def ktP (p : Nat × TR) : Int × List UInt8 := kt (tkOf p)
theorem kt_toks (l : List Int) : (toks l).map kt = (lx l 0).map ktP := by unfold toks; rw [List.map_map]; rfl
theorem ktP_shf (n : Nat) (L : List (Nat × TR)) : (L.map (shf n)).map ktP = L.map ktP := by rw [List.map_map]; rfl

/-- A blank ahead matters to nothing. -/
theorem lx_lay {d : Int} (hd : 0 ≤ d ∧ d ≤ 255) (hc : cls d = 1) {R : List Int} (hr : ∀ x ∈ R, 0 ≤ x ∧ x ≤ 255) : (lx (d :: R) 0).map ktP = (lx R 0).map ktP := by
  have hA : ∀ x ∈ d :: R, 0 ≤ x ∧ x ≤ 255 := rng_app (X := [d]) (by simpa using hd) hr
  rw [lx_same (l := d :: R) (k := 0) (j := 1) (Nat.zero_le _) (by simp) hA (nx_lay (by simp) (by rw [bt_cons0]; exact hc))]
  have := lx_app [d] R hA 0 (Nat.zero_le _)
  rw [show lx (d :: R) 1 = _ from this, ktP_shf]

/-- What was joined is lexed as it was. -/
theorem lx_jb : ∀ (L : List TK) (Y : List Int), (∀ x ∈ Y, 0 ≤ x ∧ x ≤ 255) → (∀ t ∈ L, Sg t) → (lx (jb L ++ Y) 0).map ktP = L.map kt ++ (lx Y 0).map ktP
  | [], Y, _, _ => rfl
  | t :: L, Y, hy, h => by
    have hs := h t (List.mem_cons_self ..)
    have ih := lx_jb L Y hy fun x hx => h x (List.mem_cons_of_mem _ hx)
    have hR : ∀ x ∈ jb L ++ Y, 0 ≤ x ∧ x ≤ 255 := rng_app (jb_rng L) hy
    have hS : ∀ x ∈ sepT t.k :: (jb L ++ Y), 0 ≤ x ∧ x ≤ 255 := rng_app (X := [sepT t.k]) (by simpa using sepT_rng t.k) hR
    have hA : ∀ x ∈ wrT t.k (sb t.s) ++ sepT t.k :: (jb L ++ Y), 0 ≤ x ∧ x ≤ 255 := rng_app (wrT_rng _ (sb_rng _)) hS
    rw [jb, show wrT t.k (sb t.s) ++ sepT t.k :: jb L ++ Y = wrT t.k (sb t.s) ++ sepT t.k :: (jb L ++ Y) by simp]
    rw [lx_some (Nat.zero_le _) hA (hs.nx _), List.map_cons, List.map_cons]
    have h1 := lx_app (wrT t.k (sb t.s)) (sepT t.k :: (jb L ++ Y)) hA 0 (Nat.zero_le _)
    rw [Nat.add_zero] at h1
    show _ :: (lx _ (0 + (wrT t.k (sb t.s)).length)).map ktP = _
    rw [Nat.zero_add, h1, ktP_shf, lx_lay (sepT_rng _) (sepT_lay _) hR, ih]
    rw [show ktP (0, ⟨t.k, (wrT t.k (sb t.s)).length, sb t.s, 0⟩) = kt t by unfold ktP kt tkOf; rw [bstr_sb]]
    rfl

theorem jp_good : ∀ L : List TK, (∀ t ∈ L, Sg t) → jp L = true
  | [], _ => rfl
  | t :: L, h => by
    rw [jp, jp_good L fun x hx => h x (List.mem_cons_of_mem _ hx), decide_eq_true (h t (List.mem_cons_self ..)).e]; rfl

theorem kt_jb (L : List TK) (h : ∀ t ∈ L, Sg t) : (toks (jb L)).map kt = L.map kt := by
  have := lx_jb L [] (by simp) h
  rw [List.append_nil, show lx [] 0 = [] from rfl, List.map_nil, List.append_nil] at this
  rw [kt_toks, this]

theorem kt_k8 {A B : List TK} (h : A.map kt = B.map kt) (hb : ∀ b ∈ B, b.k ≠ 8) : ∀ a ∈ A, a.k ≠ 8 := by
  intro a ha
  have : kt a ∈ B.map kt := h ▸ List.mem_map_of_mem ha
  obtain ⟨b, hb', he⟩ := List.mem_map.1 this
  rw [← (kt_s he).1]; exact hb b hb'

theorem jOk_good (L : List TK) (h : ∀ t ∈ L, Sg t) : jOk L = true := by
  unfold jOk
  rw [jp_good L h, Bool.true_and, alike_iff]
  exact ⟨kt_jb L h, kt_k8 (kt_jb L h) fun b hb => (h b hb).k8⟩

/-- The first one that is not lexed as it was. -/
theorem first_bad : ∀ L : List TK, (∀ t ∈ L, FL t) → (∀ t ∈ L, Sg t) ∨ ∃ G b R, L = G ++ b :: R ∧ (∀ t ∈ G, Sg t) ∧ (b.k = 8 ∨ (b.k = 2 ∧ sb b.s = [46]))
  | [], _ => Or.inl (by simp)
  | t :: L, h => by
    have ht := h t (List.mem_cons_self ..)
    rcases ht with ht | ht | ht
    · exact Or.inr ⟨[], t, L, rfl, by simp, Or.inl ht⟩
    · exact Or.inr ⟨[], t, L, rfl, by simp, Or.inr ht⟩
    · rcases first_bad L fun x hx => h x (List.mem_cons_of_mem _ hx) with h1 | ⟨G, b, R, rfl, h2, h3⟩
      · exact Or.inl fun x hx => by rcases List.mem_cons.1 hx with rfl | hx; exact ht; exact h1 x hx
      · exact Or.inr ⟨t :: G, b, R, rfl, fun x hx => by rcases List.mem_cons.1 hx with rfl | hx; exact ht; exact h2 x hx, h3⟩

theorem jOk_bad (G R : List TK) (b : TK) (h : ∀ t ∈ G, Sg t) (hb : b.k = 8 ∨ (b.k = 2 ∧ sb b.s = [46])) : jOk (G ++ b :: R) = false := by
  unfold jOk
  cases ha : alike (toks (jb (G ++ b :: R))) (G ++ b :: R) with
  | false => rw [Bool.and_false]
  | true =>
    exfalso
    obtain ⟨h1, h2⟩ := (alike_iff _ _).1 ha
    rcases hb with hb | ⟨hb, hs⟩
    · have : ∃ a ∈ toks (jb (G ++ b :: R)), kt a = kt b := by
        have hm : kt b ∈ (toks (jb (G ++ b :: R))).map kt := by rw [h1]; exact List.mem_map_of_mem (by simp)
        obtain ⟨a, h3, h4⟩ := List.mem_map.1 hm
        exact ⟨a, h3, h4⟩
      obtain ⟨a, h3, h4⟩ := this
      exact h2 a h3 ((kt_s h4).1.trans hb)
    · have hY : jb (G ++ b :: R) = jb G ++ ([46] ++ 32 :: jb R) := by
        rw [jb_append, jb, hb, hs]; rfl
      have hr : ∀ x ∈ [46] ++ 32 :: jb R, 0 ≤ x ∧ x ≤ 255 := rng_app (by decide) (rng_app (X := [32]) (by decide) (jb_rng R))
      rw [kt_toks, hY, lx_jb G _ hr h, List.map_append, List.map_cons] at h1
      have h3 := List.append_cancel_left h1
      have hn : runL 5 ([46] ++ 32 :: jb R) = 1 := runL_all 5 [46] (32 :: jb R) (by decide) (runL_sp (Or.inl rfl) (by decide) _)
      have he : endT ([46] ++ 32 :: jb R) = true := by
        unfold endT
        rw [hn]
        simp only [Bool.and_eq_true, Bool.or_eq_true, decide_eq_true_eq]
        exact ⟨trivial, rfl, Or.inr (Or.inl (by rw [show bt ([46] ++ 32 :: jb R) 1 = 32 from rfl]; decide))⟩
      have h4 := here0 (W := [46]) (d := 32) (Y := jb R) (by decide) (by decide) (by decide) (fun h => absurd h (by decide))
      rw [firstT5 (l := [46] ++ 32 :: jb R) (by rw [show bt ([46] ++ 32 :: jb R) 0 = 46 from rfl]; decide), symT, he, hn] at h4
      rw [lx_some (Nat.zero_le _) hr h4, List.map_cons, List.cons.injEq] at h3
      have h5 := congrArg Prod.fst h3.1
      rw [show (kt b).1 = b.k from rfl, hb] at h5
      exact absurd (show (7 : Int) = 2 from h5) (by decide)

end Go.Proofs.YtecabgmkoknbgaaDoor
