import Derived.Test.YtcjbhdgjcpnklaaGreatDoorN16
namespace Go.Proofs.YtcjbhdgjcpnklaaGreatDoor
section
open Go.RowKit
theorem OwnV.only_ne {base k : Nat} {e : TypeId} {w w' : World} {g g' n c : Nat} {xs : List Value} (h : OwnV base e k w (.some ⟨g, 0, none⟩) n c xs) (ho : Only g' w w') (hne : g ≠ g') : OwnV base e k w' (.some ⟨g, 0, none⟩) n c xs := by
 refine ⟨h.1, h.2.imp id ?_⟩
 rintro ⟨q, cp, cur, hv, hq, hb, r⟩
 have hv' := hv
 simp only [Value.slice.injEq, Option.some.injEq, Addr.mk.injEq, and_true, true_and] at hv'
 obtain ⟨rfl, _⟩ := hv'
 exact ⟨g, cp, cur, hv, hq, (ho.block g hne).trans hb, r⟩
theorem OwnV.lt0 {base k : Nat} {e : TypeId} {w : World} {g n c : Nat} {xs : List Value} (h : OwnV base e k w (.some ⟨g, 0, none⟩) n c xs) : g < w.heap.size ∧ base ≤ g := by
 obtain ⟨g', cur, ha, hb, hlt, _⟩ := h.form (by simp)
 simp only [Option.some.injEq, Addr.mk.injEq, and_true] at ha
 subst ha
 exact ⟨hlt, hb⟩
theorem StO.kt {P : TypeId → Prop} (hP : PT P) (hs : ¬ P 125) {w w' : World} {a : Option Addr} {c : Nat} {S : List Sd} {vs : List VV} (h : StO w a c S vs) (hk : Kt P w w') : StO w' a c S vs := ⟨h.hl, h.own.kt hs hk, fun j hj => (h.st j hj).kt hP hk⟩
theorem Bk.kt {P : TypeId → Prop} {w w' : World} {b : Nat} {t : TypeId} {cs : Array Value} (h : Bk w b t cs) (ht : ¬ P t) (hk : Kt P w w') : Bk w' b t cs := hk.row b _ _ h ht
theorem Kt.sub {P P' : TypeId → Prop} {w w' : World} (h : Kt P w w') (hp : ∀ t, P t → P' t) : Kt P' w w' := ⟨h.size, fun b cs t hb ht => h.row b cs t hb fun e => ht (hp t e)⟩
def tO (t : TypeId) : Prop := t = 119
theorem zQV : PT tO := ⟨by unfold tO; decide, by unfold tO; decide, by unfold tO; decide⟩
theorem zES {gs : List GC} {x : GC} {i : Nat} (h : i < gs.length) : gA (gs ++ [x]) i = gA gs i := by unfold gA; simp [List.getD, List.getElem?_append_left h]
theorem zFk (gs : List GC) (x : GC) : gA (gs ++ [x]) gs.length = x := by unfold gA; simp [List.getD]
theorem zOw {F : List FD} {x : FD} {i : Nat} (h : i < F.length) : fA (F ++ [x]) i = fA F i := by unfold fA; simp [List.getD, List.getElem?_append_left h]
theorem zOx (F : List FD) (x : FD) : fA (F ++ [x]) F.length = x := by unfold fA; simp [List.getD]
structure FmB (B : Nat) (w : World) (a : Option Addr) (n c : Nat) (F : List FD) (gs : List GC) : Prop where
 fo : FmO w a n c F gs
 ob : OwnV B 119 9 w a n c (cF F gs)
 ge : ∀ i, i < n → B ≤ (gA gs i).1
theorem FmB.below {B : Nat} {w w' : World} {a : Option Addr} {n c : Nat} {F : List FD} {gs : List GC} (h : FmB B w a n c F gs) (hb : Below w.heap.size w w') : FmB B w' a n c F gs := ⟨h.fo.below hb, h.ob.keep hb (Nat.le_refl _), h.ge⟩
theorem FmB.snoc {B : Nat} {w w' : World} {a a' : Option Addr} {n c c' : Nat} {F : List FD} {gs : List GC} (h : FmB B w a n c F gs) {f : FD} {g gc : Nat} {vs : List VV} (hs : StO w (some ⟨g, 0, none⟩) gc f.S vs) (hg : ∀ i, i < n → (gA gs i).1 < g) (hB : B ≤ g) (hk : Kt tO w w')
  (ho : OwnV B 119 9 w' a' (n + 1) c' (cF F gs ++ fmL f (g, gc))) : FmB B w' a' (n + 1) c' (F ++ [f]) (gs ++ [(g, gc)]) := by
 have e1 : cF (F ++ [f]) (gs ++ [(g, gc)]) = cF F gs ++ fmL f (g, gc) := by
  rw [zNs F gs _ _ (by rw [h.fo.hn, h.fo.hl])]
  show cF F gs ++ (fmL f (g, gc) ++ []) = _
  rw [List.append_nil]
 have hgl := h.fo.hl
 have hfl := h.fo.hn
 refine ⟨⟨by rw [List.length_append, h.fo.hn]; rfl, by rw [List.length_append, h.fo.hl]; rfl, by rw [e1]; exact ho.weaken (Nat.zero_le _), fun i j hi hj e => ?_, fun i hi => ?_⟩, by rw [e1]; exact ho, fun i hi => ?_⟩
 ·by_cases h1 : i < n
  ·rw [zES (by omega)] at e
   by_cases h2 : j < n
   ·rw [zES (by omega)] at e
    exact h.fo.nd i j h1 h2 e
   ·obtain rfl : j = gs.length := by omega
    rw [zFk] at e
    have := hg i h1
    dsimp only at e
    omega
  ·obtain rfl : i = gs.length := by omega
   rw [zFk] at e
   by_cases h2 : j < n
   ·rw [zES (by omega)] at e
    have := hg j h2
    dsimp only at e
    omega
   ·omega
 ·by_cases h1 : i < n
  ·rw [zES (by omega), zOw (by omega)]
   obtain ⟨vs, hv⟩ := h.fo.st i h1
   exact ⟨vs, hv.kt zQV (by unfold tO; decide) hk⟩
  ·obtain rfl : i = n := by omega
   have e2 : gA (gs ++ [(g, gc)]) i = (g, gc) := by rw [← hgl]; exact zFk _ _
   have e3 : fA (F ++ [f]) i = f := by rw [← hfl]; exact zOx _ _
   rw [e2, e3]
   exact ⟨vs, hs.kt zQV (by unfold tO; decide) hk⟩
 ·by_cases h1 : i < n
  ·rw [zES (by omega)]; exact h.ge i h1
  ·obtain rfl : i = n := by omega
   have e2 : gA (gs ++ [(g, gc)]) i = (g, gc) := by rw [← hgl]; exact zFk _ _
   rw [e2]; exact hB
def halfS (S : List Sd) (j : Nat) : List Sd := S.take j ++ (S.drop j).map rawS
theorem halfS_len (S : List Sd) (j : Nat) : (halfS S j).length = S.length := by
 unfold halfS
 rw [List.length_append, List.length_take, List.length_map, List.length_drop]
 omega
theorem zQ2 {S : List Sd} {j q : Nat} (hq : q < S.length) : sA (halfS S j) q = if q < j then sA S q else rawS (sA S q) := by
 rw [zRd (by rw [halfS_len]; exact hq), zRd hq]
 unfold halfS
 split
 ·rename_i h
  rw [List.getElem_append_left (by rw [List.length_take]; omega), List.getElem_take]
 ·rename_i h
  rw [List.getElem_append_right (by rw [List.length_take]; omega), List.getElem_map, List.getElem_drop]
  congr 2
  rw [List.length_take]
  omega
theorem zRV (S : List Sd) : halfS S 0 = S.map rawS := by unfold halfS; simp
theorem zSp {S : List Sd} {j : Nat} (h : S.length ≤ j) : halfS S j = S := by unfold halfS; rw [List.take_of_length_le h, List.drop_eq_nil_of_le h]; simp
theorem zUD {S T : List Sd} (hl : S.length = T.length) (h : ∀ q, q < S.length → sA S q = sA T q) : S = T := List.ext_getElem hl fun i h1 h2 => by
 have := h i h1
 rwa [zRd h1, zRd h2] at this
theorem zTG {S : List Sd} {j : Nat} (hj : j < S.length) (h : ∀ K, sA S j ≠ .ho K) : halfS S j = halfS S (j + 1) := by
 refine zUD (by rw [halfS_len, halfS_len]) fun q hq => ?_
 rw [halfS_len] at hq
 rw [zQ2 hq, zQ2 hq]
 by_cases h1 : q < j
 ·rw [if_pos h1, if_pos (by omega)]
 ·rw [if_neg h1]
  by_cases h2 : q = j
  ·subst h2
   rw [if_pos (by omega)]
   cases hs : sA S q with
   | br x => rfl
   | pt x => rfl
   | ho K => exact absurd hs (h K)
  ·rw [if_neg (by omega)]
def mixA (FF : List FD) (t j i : Nat) : FD := if i < t then fA FF i else if i = t then ⟨(fA FF i).k, (fA FF i).n, (fA FF i).c, (fA FF i).o, halfS (fA FF i).S j⟩ else rawF (fA FF i)
def mixL (FF : List FD) (t j : Nat) : List FD := (List.range FF.length).map (mixA FF t j)
theorem zQk (FF : List FD) (t j : Nat) : (mixL FF t j).length = FF.length := by unfold mixL; rw [List.length_map, List.length_range]
theorem zQp {FF : List FD} {t j i : Nat} (h : i < FF.length) : fA (mixL FF t j) i = mixA FF t j i := by
 rw [zQP (by rw [zQk]; exact h)]
 unfold mixL
 rw [List.getElem_map, List.getElem_range]
theorem zSC {F G : List FD} (hl : F.length = G.length) (h : ∀ q, q < F.length → fA F q = fA G q) : F = G := List.ext_getElem hl fun i h1 h2 => by
 have := h i h1
 rwa [zQP h1, zQP h2] at this
theorem zTH (FF : List FD) : mixL FF 0 0 = FF.map rawF := by
 refine zSC (by rw [zQk, List.length_map]) fun q hq => ?_
 rw [zQk] at hq
 rw [zQp hq, zQP (by rw [List.length_map]; exact hq), List.getElem_map]
 unfold mixA
 rw [if_neg (by omega), ← zQP hq]
 split
 ·unfold rawF; rw [zRV]
 ·rfl
theorem zTr {FF : List FD} {t j : Nat} (h : (fA FF t).S.length ≤ j) : mixL FF t j = mixL FF (t + 1) 0 := by
 refine zSC (by rw [zQk, zQk]) fun q hq => ?_
 rw [zQk] at hq
 rw [zQp hq, zQp hq]
 unfold mixA
 by_cases h1 : q < t
 ·rw [if_pos h1, if_pos (by omega)]
 ·rw [if_neg h1]
  by_cases h2 : q = t
  ·subst h2
   rw [if_pos rfl, if_pos (by omega), zSp h]
  ·rw [if_neg h2, if_neg (by omega)]
   by_cases h3 : q = t + 1
   ·rw [if_pos h3, zRV]; rfl
   ·rw [if_neg h3]
theorem zTs {FF : List FD} {t : Nat} (h : FF.length ≤ t) : mixL FF t 0 = FF := by
 refine zSC (zQk ..) fun q hq => ?_
 rw [zQk] at hq
 rw [zQp hq]
 unfold mixA
 rw [if_pos (by omega)]
theorem zTT {FF : List FD} {t j : Nat} (hj : j < (fA FF t).S.length) (h : ∀ K, sA (fA FF t).S j ≠ .ho K) : mixL FF t j = mixL FF t (j + 1) := by
 refine zSC (by rw [zQk, zQk]) fun q hq => ?_
 rw [zQk] at hq
 rw [zQp hq, zQp hq]
 unfold mixA
 by_cases h1 : q < t
 ·rw [if_pos h1, if_pos h1]
 ·rw [if_neg h1, if_neg h1]
  by_cases h2 : q = t
  ·subst h2
   rw [if_pos rfl, if_pos rfl, zTG hj h]
  ·rw [if_neg h2, if_neg h2]
theorem zRn (FF : List FD) (t j i : Nat) : (mixA FF t j i).k = (fA FF i).k ∧ (mixA FF t j i).n = (fA FF i).n ∧ (mixA FF t j i).c = (fA FF i).c ∧ (mixA FF t j i).o = (fA FF i).o ∧ (mixA FF t j i).S.length = (fA FF i).S.length := by
 unfold mixA
 split
 ·exact ⟨rfl, rfl, rfl, rfl, rfl⟩
 ·split
  ·exact ⟨rfl, rfl, rfl, rfl, halfS_len ..⟩
  ·exact ⟨rfl, rfl, rfl, rfl, by unfold rawF; simp⟩
theorem zRo (FF : List FD) (t j t' j' : Nat) (gs : List GC) : cF (mixL FF t j) gs = cF (mixL FF t' j') gs := by
 refine zSf _ _ _ ?_
 unfold mixL
 rw [List.map_map, List.map_map]
 refine List.map_congr_left fun i _ => ?_
 obtain ⟨a1, a2, a3, a4, a5⟩ := zRn FF t j i
 obtain ⟨b1, b2, b3, b4, b5⟩ := zRn FF t' j' i
 simp only [Function.comp, a1, a2, a3, a4, a5, b1, b2, b3, b4, b5]
theorem zTI {z : List Int} {FF : List FD} {t j : Nat} (f : FD) (i : Nat) : kidsV z (mixL FF t j) f i = kidsV z FF f i := by
 unfold kidsV
 rw [zQk]
 split
 ·rfl
 ·refine List.filter_congr fun q hq => ?_
  have hq' := List.mem_range.1 hq
  unfold mayK
  rw [zQp hq']
  obtain ⟨a1, a2, a3, a4, a5⟩ := zRn FF t j q
  rw [a1, a4]
theorem FmB.fill {B : Nat} {w w' : World} {a : Option Addr} {n c : Nat} {FF : List FD} {gs : List GC} {t j : Nat} (h : FmB B w a n c (mixL FF t j) gs) (ht : t < n) (hj : j < (fA FF t).S.length) {K : List Nat} (hs : sA (fA FF t).S j = .ho K) {vs : List VV}
  (hv : StO w (some ⟨(gA gs t).1, 0, none⟩) (gA gs t).2 (halfS (fA FF t).S j) vs) {ka : Option Addr} {kc : Nat} (hk : OwnV 0 3 1 w ka K.length kc (intsK K))
  (ho : Only (gA gs t).1 w w') (hkt : Kt tS w w') (hown : OwnV 0 125 2 w' (some ⟨(gA gs t).1, 0, none⟩) (fA FF t).S.length (gA gs t).2 (cV (vs.set j (.nilFunc, .slice ka K.length kc)))) : FmB B w' a n c (mixL FF t (j + 1)) gs := by
 have hn : FF.length = n := by rw [← h.fo.hn, zQk]
 have hf : ¬ tS 119 := by unfold tS; decide
 refine ⟨⟨by rw [zQk, hn], h.fo.hl, by rw [zRo FF t (j + 1) t j]; exact h.fo.own.kt hf hkt, h.fo.nd, fun i hi => ?_⟩, by rw [zRo FF t (j + 1) t j]; exact h.ob.kt hf hkt, h.ge⟩
 rw [zQp (by rw [hn]; exact hi)]
 by_cases hit : i = t
 ·subst hit
  have e : (mixA FF i (j + 1) i).S = halfS (fA FF i).S (j + 1) := by unfold mixA; rw [if_neg (by omega), if_pos rfl]
  rw [e]
  have hl := hv.hl
  rw [halfS_len] at hl
  refine ⟨vs.set j (.nilFunc, .slice ka K.length kc), by rw [List.length_set, hl, halfS_len], by rw [halfS_len]; exact hown, fun q hq => ?_⟩
  rw [halfS_len] at hq
  rw [zQ2 hq]
  by_cases hqj : q = j
  ·subst hqj
   rw [if_pos (by omega), hs]
   have e2 : vA (vs.set q (.nilFunc, .slice ka K.length kc)) q = (.nilFunc, .slice ka K.length kc) := by unfold vA; simp [List.getD, hl, hq]
   rw [e2]
   exact ⟨rfl, ka, kc, rfl, hk.kt (by unfold tS; decide) hkt⟩
  ·have h1 := hv.st q (by rw [halfS_len]; exact hq)
   rw [zQ2 hq] at h1
   have e2 : vA (vs.set j (.nilFunc, .slice ka K.length kc)) q = vA vs q := by unfold vA; simp [List.getD, List.getElem?_set_ne (show j ≠ q by omega)]
   have e3 : (if q < j + 1 then sA (fA FF i).S q else rawS (sA (fA FF i).S q)) = (if q < j then sA (fA FF i).S q else rawS (sA (fA FF i).S q)) := by
    by_cases h3 : q < j
    ·rw [if_pos h3, if_pos (by omega)]
    ·rw [if_neg h3, if_neg (by omega)]
   rw [e2, e3]
   exact h1.kt zQb hkt
 ·obtain ⟨us, hu⟩ := h.fo.st i hi
  rw [zQp (by rw [hn]; exact hi)] at hu
  have e : mixA FF t (j + 1) i = mixA FF t j i := by unfold mixA; rw [if_neg hit, if_neg hit]
  rw [e]
  exact ⟨us, hu.hl, hu.own.only_ne ho fun e => hit (h.fo.nd i t hi ht e), fun q hq => (hu.st q hq).kt zQb hkt⟩
theorem zRp (z : List Int) (O : List OP) (o : OP) : ∀ (I : List Nm) (first : Bool), (stepsF z O o I first).map rawS = I.map rw_
 | [], _ => rfl
 | x :: r, first => by
  rw [stepsF, List.map_cons, List.map_cons, zRp z O o r false]
  congr 1
  unfold rw_
  split <;> rfl
theorem zSD {o : OP} {s : SH} (h : ofS o.1 = some s) : shR o = (itemsL s).map rw_ := by
 unfold shR
 rw [zAl h]
 exact zSl fun p hp => ((zAc h).2 p hp).1
theorem zUE (z : List Int) (O : List OP) {o : OP} {s : SH} (h : ofS o.1 = some s) : rawF (opF z O o) = opS o (shR o) := by
 unfold rawF opF opS
 dsimp only
 rw [zRp, zA8 h, zSD h, zRS]
def opR (o : OP) : FD := opS o (shR o)
theorem zTU (z : List Int) (L : List OP) (tok : List TK) : (FF z (FO L tok)).map rawF = fB0 :: (FO L tok).map opR := by
 unfold FF
 rw [List.map_cons, List.map_map]
 congr 1
 refine List.map_congr_left fun o ho => ?_
 obtain ⟨_, s, hs⟩ := zQ9 ho
 exact zUE z _ hs
theorem zSq (tok : List TK) : ∀ P : List Nm, (mid P).all (thS tok) = P.all fun p => tok.any fun t => partB t.k (txN t) p
 | [] => rfl
 | [p] => rfl
 | p :: q :: P => by
  show ((tok.any fun t => partB t.k (txN t) p) && (true && (mid (q :: P)).all (thS tok))) = _
  rw [zSq tok (q :: P)]
  rfl
theorem hoL_all (tok : List TK) (b : Bool) : (hoL b).all (thS tok) = true := by cases b <;> rfl
theorem zRD (tok : List TK) (o : OP) : thereB tok o = (okO o && (shR o).all (thS tok)) := by
 unfold thereB okO shR
 cases h : ofS o.1 with
 | none => rw [zAZ h]; rfl
 | some s =>
  rw [zAl h]
  show _ = (true && (shS s).all (thS tok))
  unfold shS
  rw [List.all_append, List.all_append, hoL_all, hoL_all, zSq]
  simp
theorem zTV : ∀ (P : List Nm), ∀ s ∈ mid P, ∀ x, s ≠ .br x
 | [], s, h, x => by cases h
 | [p], s, h, x => by
  rw [List.mem_singleton.1 h]; intro e; cases e
 | p :: q :: P, s, h, x => by
  rcases List.mem_cons.1 h with rfl | h
  ·intro e; cases e
  ·rcases List.mem_cons.1 h with rfl | h
   ·intro e; cases e
   ·exact zTV (q :: P) s h x
theorem zTW (b : Bool) : ∀ s ∈ hoL b, ∀ x, s ≠ .br x := by
 intro s h x
 cases b with
 | false => cases h
 | true => rw [List.mem_singleton.1 h]; intro e; cases e
theorem zUF (o : OP) : ∀ j, j < (shR o).length → ∀ x, sA (shR o) j ≠ .br x := fun j hj x => by
 rw [zRd hj]
 have hm : (shR o)[j] ∈ shR o := List.getElem_mem _
 have hm2 : (shR o)[j] ∈ hoL (ofR o.1).1.l ++ mid (ofR o.1).1.P ++ hoL (ofR o.1).1.r := hm
 rcases List.mem_append.1 hm2 with h | h
 ·rcases List.mem_append.1 h with h | h
  ·exact zTW _ _ h x
  ·exact zTV _ _ h x
 ·exact zTW _ _ h x
theorem zSr (o : OP) : (shR o).length ≤ 10 := by
 unfold shR shS
 rw [List.length_append, List.length_append]
 have h1 := zRe (ofR o.1).1.l
 have h2 := zRe (ofR o.1).1.r
 have h3 := zRy (ofR o.1).1.P
 have h4 : (ofR o.1).1.P.length ≤ 4 := by
  cases hs : ofS o.1 with
  | none => rw [zAZ hs]; exact Nat.zero_le _
  | some sh =>
   rw [zAl hs]
   obtain ⟨_, _, hm, _⟩ := zCh hs
   refine Nat.le_of_not_lt fun hc => ?_
   rw [zFN hc] at hm
   cases hm
 omega
theorem zRW {z : List Int} {O : List OP} {o : OP} {K : List Nat} {L : Nat} : ∀ (I : List Nm) (first : Bool) (j : Nat), j < I.length → sA (stepsF z O o I first) j = .ho K → (first = true → I.length = L ∧ 2 ≤ L) →
  K = if ¬ (first = true ∧ j = 0) ∧ j + 1 < I.length then List.range (O.length + 1) else endsK z O o (!(first && decide (j = 0)))
 | x :: r, first, 0, _, h, hf => by
  have h' : sA (stepsF z O o (x :: r) first) 0 = if x = [] then .ho (if (first || r.isEmpty) = true then endsK z O o (!first) else List.range (O.length + 1)) else .pt x := rfl
  rw [h'] at h
  split at h
  ·cases h
   cases first with
   | true => simp
   | false =>
    cases r with
    | nil => simp
    | cons y r => simp
  ·cases h
 | x :: r, first, j + 1, hj, h, hf => by
  have hj' : j < r.length := by simpa using hj
  have h' : sA (stepsF z O o r false) j = .ho K := h
  have := zRW (L := L) r false j hj' h' (fun e => by cases e)
  rw [this]
  simp
theorem zTt {z : List Int} {O : List OP} (hO : ∀ o ∈ O, ∃ s, ofS o.1 = some s) {t j : Nat} (ht : t < (FF z O).length) (hj : j < (fA (FF z O) t).S.length) {K : List Nat} (h : sA (fA (FF z O) t).S j = .ho K) : K = kidsV z (FF z O) (fA (FF z O) t) j := by
 rw [zQo] at ht
 cases t with
 | zero =>
  rw [zQv] at h hj ⊢
  match j, hj, h with
  | 0, _, h => cases h
  | 1, _, h =>
   have h' : Sd.ho (List.range (O.length + 1)) = .ho K := h
   cases h'
   unfold kidsV
   rw [zQo, if_pos ⟨by omega, Nat.lt_succ_self 2⟩]
  | 2, _, h => cases h
  | j + 3, hj, _ =>
   have hl : (brF (O.length + 1)).S.length = 3 := rfl
   omega
 | succ t =>
  have htl : t < O.length := by omega
  rw [zQh z O htl] at h hj ⊢
  obtain ⟨o, ho⟩ : ∃ o, o = opA O t := ⟨_, rfl⟩
  rw [← ho] at h hj ⊢
  obtain ⟨s, hs⟩ := hO o (by rw [ho]; exact zBZ htl)
  have hI : (opF z O o).S = stepsF z O o (itemsL s) true := by unfold opF; dsimp only; rw [zA8 hs]
  rw [hI] at h hj
  rw [zQ1] at hj
  have h2 := (zBl hs).1
  have hk := zRW (L := (itemsL s).length) _ _ _ hj h fun _ => ⟨rfl, h2⟩
  have hends : ∀ rt, endsK z O o rt = (List.range (O.length + 1)).filter (mayK z (FF z O) o rt) := fun rt => by
   unfold endsK
   refine List.filter_congr fun q hq => ?_
   have hq' := List.mem_range.1 hq
   unfold mayK
   cases q with
   | zero => rfl
   | succ q =>
    rw [zQh z O (by omega)]
    show (false || fitsB z o (opA O q) rt) = (((3 : Int) != 3) || fitsB z o (opA O q) rt)
    rfl
  rw [hk]
  unfold kidsV
  rw [zQo, hI, zQ1]
  by_cases h0 : j = 0
  ·subst h0
   rw [if_neg (by simp), if_neg (by omega), hends]
   rfl
  ·by_cases h1 : j + 1 < (itemsL s).length
   ·rw [if_pos ⟨by simp [h0], h1⟩, if_pos ⟨by omega, h1⟩]
   ·rw [if_neg (by simp; omega), if_neg (by omega), hends]
    have e1 : (!(true && decide (j = 0))) = true := by simp [h0]
    have e2 : decide (0 < j) = true := by simp; omega
    rw [e1, e2]
    rfl
end
section
open Go.RowKit
theorem zSs : (Tryz.prog.info? 119).map (fun i => (i.zero, i.size, i.bytes)) = some (some (.agg fmZ), 9, 104) := by kernel_rfl
theorem zSt : (Tryz.prog.info? 82).map (·.size) = some 1 := by kernel_rfl
def opZ : Array Value := #[.string ⟨#[]⟩, .int .i64 0, .int .i64 0]
def keptO (L : List OP) (tok : List TK) (k : Nat) : List OP := (L.take k).filter (thereB tok)
theorem zRE {L : List OP} {tok : List TK} {k : Nat} (h : k < L.length) : keptO L tok (k + 1) = keptO L tok k ++ (if thereB tok (opA L k) = true then [opA L k] else []) := by
 unfold keptO
 rw [zIG h, List.filter_append]
 congr 1
 by_cases h1 : thereB tok (opA L k) = true
 ·rw [if_pos h1, List.filter_cons_of_pos h1]; rfl
 ·rw [if_neg h1, List.filter_cons_of_neg h1]; rfl
def rawK (L : List OP) (tok : List TK) (k : Nat) : List FD := fB0 :: (keptO L tok k).map opR
theorem zRF {ops : Array Oper} {rest : List Oper} {o : Oper} {A : Act} {w : World} {Q : Exit → Act → World → Prop} (hgd : o.guard = none) (p : Operand) (ho : o.op = .buildSlice 74 1 #[(0, p)]) (f : FD) (a : Option Addr) (n c : Nat) (hx : A.eval p = .agg (fmA f a n c))
  (k : ∀ w' g, g = w.heap.size → w'.heap[g]? = some (.cells (fmA f a n c) 119 (0, 0)) → Below w.heap.size w w' → wpList Tryz.prog ops Q rest (A.put o.dst (.slice (some ⟨g, 0, none⟩) 1 1)) w') : wpList Tryz.prog ops Q (o :: rest) A w :=
 wpList_plain hgd fun K hK => by
  have h := k (w.alloc (.cells (fmA f a n c) 119)) w.heap.size rfl (heap_alloc_new w _) (zAA w _)
  have hr : (Instr.buildSlice 74 1 #[(0, .agg (fmA f a n c))]).run Tryz.prog w = .ok (.slice (some ⟨w.heap.size, 0, none⟩) 1 1) (w.alloc (.cells (fmA f a n c) 119)) := by kernel_rfl
  unfold Oper.wp execOp
  simp only [ho, List.map_toArray, List.map_cons, List.map_nil, hx, hr, Sem.run_bind, Result.andThen_ok, Sem.run_pure]
  exact hK _ _ h
theorem zTu {w : World} {g : Nat} {f : FD} {a : Option Addr} {n c : Nat} (h : w.heap[g]? = some (.cells (fmA f a n c) 119 (0, 0))) : Vs 9 w (some ⟨g, 0, none⟩) 1 1 (fmA f a n c).toList :=
 ⟨rfl, Nat.le_refl _, by decide, fun _ => ⟨g, 0, rfl, (Array.getElem?_eq_some_iff.1 h).1, fun j hj => by rw [cell_of_row w g (0 + j) _ _ _ h, Nat.zero_add, Array.getElem?_toList]⟩⟩
theorem zTv {o : OP} (h : okO o = true) : 0 < (shR o).length := by
 unfold okO at h
 cases hs : ofS o.1 with
 | none => rw [zAZ hs] at h; cases h
 | some s =>
  rw [zSD hs, List.length_map]
  have := (zBl hs).1
  omega
theorem zSE (z : List Int) (L : List OP) (tok : List TK) {t : Nat} (ht : t < (FF z (FO L tok)).length) : (fA (FF z (FO L tok)) t).S.length ≤ 1000 := by
 have h : (fA ((FF z (FO L tok)).map rawF) t).S.length = (fA (fB0 :: (FO L tok).map opR) t).S.length := by rw [zTU z L tok]
 have e1 : fA ((FF z (FO L tok)).map rawF) t = rawF (fA (FF z (FO L tok)) t) := by
  rw [zQP (by rw [List.length_map]; exact ht), List.getElem_map, zQP ht]
 rw [e1] at h
 have e2 : (rawF (fA (FF z (FO L tok)) t)).S.length = (fA (FF z (FO L tok)) t).S.length := by unfold rawF; simp
 rw [e2] at h
 rw [h]
 rw [zQo] at ht
 cases t with
 | zero => exact (by decide : rawB.length ≤ 1000)
 | succ t =>
  have e3 : fA (fB0 :: (FO L tok).map opR) (t + 1) = opR (opA (FO L tok) t) := by
   rw [zQP (by simp; omega), zBh (by omega)]
   simp
  rw [e3]
  exact Nat.le_trans (zSr _) (by decide)
set_option maxRecDepth 100000 in
set_option maxHeartbeats 32000000 in
theorem zSu (a : Option Addr) (n c : Nat) (L : List OP) (z : List Int) (ta : Option Addr) (tn tc : Nat) (tok : List TK) (w : World) (ht : Tab w) (ho : OpS w a n c L) (htk : Ts w ta tn tc tok) (hz : z.length = 10) (hr : ∀ i, i < 10 → I64 (bt z i)) (hn : n ≤ 100000) (hnm : ∀ o ∈ L, o.1.length ≤ 1000000) :
  Calls Tryz.prog 36 #[.agg (ev a n c z), .slice ta tn tc] w fun e w' => ∃ fa fn fc gs, e = .returned (.slice fa fn fc) ∧ FmO w' fa fn fc (FF z (FO L tok)) gs ∧ Below w.heap.size w w' := by
 obtain ⟨B, hB⟩ : ∃ B, B = w.heap.size := ⟨_, rfl⟩
 obtain ⟨w1, hw1⟩ : ∃ w1, w1 = w.alloc (.cells (ev a n c z) 34) := ⟨_, rfl⟩
 have HE1 : Hid (EB w1 B a n c z) := hid (by rw [hw1, hB]; exact EB.new w a n c z)
 have HBW : Hid (Below w.heap.size w w1) := hid (by rw [hw1]; exact zAA w _)
 have HBN : Hid (B < w1.heap.size) := hid HE1.out.lt
 have HT1 : Hid (Tab w1) := hid (ht.keep HBW.out)
 have HO1 : Hid (OpS w1 a n c L) := hid (ho.below HBW.out)
 have HTK : Hid (Ts w1 ta tn tc tok) := hid (htk.below HBW.out)
 have HZ := hid hz
 have HR10 := hid hr
 have HNL := hid hnm
 have hLn : L.length = n := OpS.len ho
 have HLN := hid hLn
 have HER : Hid (∀ w', Below w1.heap.size w1 w' → ∀ q, q < 10 → w'.cell? ⟨B, 1 + q, none⟩ = (rv z)[q]?) := hid fun w' hb' q hq => by
  have h1 := (HE1.out.below hb').range
  have hl : q < (rlz z).length := by rw [zH7 hz]; exact hq
  rw [h1 q _ (List.getElem?_eq_getElem hl)]
  unfold rv
  rw [List.getElem?_toArray, List.getElem?_eq_getElem hl]
 obtain ⟨FX, hFX⟩ : ∃ FX, FX = FF z (FO L tok) := ⟨_, rfl⟩
 have HRAW : Hid (mixL FX 0 0 = rawK L tok n) := hid (by
  rw [zTH, hFX, zTU]
  unfold rawK keptO FO
  rw [List.take_of_length_le (by omega)])
 have HNM : Hid (∀ t, t < FX.length → (fA FX t).o.1.length ≤ 1000000) := hid fun t ht' => by
  rw [hFX] at ht' ⊢
  rw [zQo] at ht'
  cases t with
  | zero => exact Nat.zero_le _
  | succ t =>
   rw [zQh z _ (by omega)]
   exact hnm _ (zQ9 (zBZ (by omega))).1
 have HSX : Hid (∀ t, t < FX.length → (fA FX t).S.length ≤ 1000) := hid fun t ht' => by
  rw [hFX] at ht' ⊢
  exact zSE z L tok ht'
 have HKV : Hid (∀ t j, t < FX.length → j < (fA FX t).S.length → ∀ K, sA (fA FX t).S j = .ho K → K = kidsV z FX (fA FX t) j) := hid fun t j h1 h2 K h3 => by
  rw [hFX] at h1 h2 h3 ⊢
  exact zTt (fun o ho => (zQ9 ho).2) h1 h2 h3
 rw [← hFX]
 have x0 : w1.cell? ⟨B, 0, none⟩ = some (.slice a n c) := HE1.out.c0
 clear ht ho htk hz hr hnm hLn hFX
 go_enter Tryz.func36, Tryz.ntmps36
 go_upto_region 1 with fail
 rw [← hw1, ← hB]
 clear hw1 hB
 go_wp2_with fail
 refine (zRm w1).mono ?_
 rintro e w2 ⟨G, vsB, rfl, hst, hG, hb2⟩
 have HST0 := hid hst
 have HG := hid hG
 have HB2 := hid hb2
 have x0 : w2.cell? ⟨B, 0, none⟩ = some (.slice a n c) := (HE1.out.below hb2).c0
 clear hst hG hb2
 go_upto_region 2 with (refine zRF rfl (.tmp 14) rfl fB0 (some ⟨G, 0, none⟩) 3 3 rfl ?_; intro w3 A0 hA0 hb3 hbl3; have HA0 := hid hA0; have HR3 := hid hb3; have HB3 : Hid (Below w2.heap.size w2 w3) := hid hbl3; clear hA0 hb3 hbl3)
 have HF3 : Hid (FmB w1.heap.size w3 (some ⟨A0, 0, none⟩) 1 1 (rawK L tok 0) [(G, 3)]) := hid (by
  have e : rawK L tok 0 = [fB0] := by unfold rawK keptO; rw [List.take_zero]; rfl
  have ec : cF [fB0] [(G, 3)] = (fmA fB0 (some ⟨G, 0, none⟩) 3 3).toList := by
   show fmL fB0 (G, 3) ++ [] = _
   rw [List.append_nil]; rfl
  have hown : OwnV w1.heap.size 119 9 w3 (some ⟨A0, 0, none⟩) 1 1 (cF [fB0] [(G, 3)]) := by
   rw [ec]
   exact ⟨rfl, .inr ⟨A0, 1, _, rfl, by rw [HA0.out]; exact HB2.out.size, HR3.out, Nat.le_refl _, by decide, rfl, rfl⟩⟩
  rw [e]
  refine ⟨⟨rfl, rfl, hown.weaken (Nat.zero_le _), fun i j hi hj _ => by omega, fun i hi => ?_⟩, hown, fun i hi => ?_⟩
  ·obtain rfl : i = 0 := by omega
   exact ⟨vsB, HST0.out.below HB3.out⟩
  ·obtain rfl : i = 0 := by omega
   exact HG.out)
 have HW3 : Hid (Below w1.heap.size w1 w3) := hid (HB2.out.trans (HB3.out.mono HB2.out.size))
 have x0 : w3.cell? ⟨B, 0, none⟩ = some (.slice a n c) := (HE1.out.below HW3.out).c0
 clear HST0 HG HB2 HR3 HB3 HA0
 go_wp2
 clear x0
 go_loopw [5, 19] (fun u v wr => ∃ a' n' c' gs, ∃ k : Nat, u = .slice a' n' c' ∧ v = .int .i64 (k : Int) ∧ k ≤ n ∧ n' ≤ k + 1 ∧ Hid (FmB w1.heap.size wr a' n' c' (rawK L tok k) gs) ∧ Hid (Below w1.heap.size w1 wr)) (fun _ v _ => n - (intOf v).toNat)
 case atStart => exact ⟨_, 1, 1, _, 0, rfl, rfl, Nat.zero_le _, Nat.le_refl _, HF3, HW3⟩
 case round =>
  obtain ⟨a', n', c', gs, k, rfl, rfl, hk, hn', HF, HB⟩ := hrel
  by_cases hlt : k < n
  ·have hltI : (k : Int) < (n : Int) := by omega
   have hk0 : (0 : Int) ≤ (k : Int) := Int.natCast_nonneg _
   have hos := HO1.out.below HB.out
   obtain ⟨b, off, rfl, _, hc⟩ := hos.at_ (by omega)
   clear hc
   obtain ⟨c0, c1, c2⟩ := OpS.at3 hos hlt
   obtain ⟨o, hoe⟩ : ∃ o, o = opA L k := ⟨_, rfl⟩
   rw [← hoe] at c0 c1 c2
   have HOE := hid hoe
   have HPL : Hid (o.1.length ≤ 1000000) := hid (by rw [hoe]; exact HNL.out _ (zBZ (by rw [HLN.out]; exact hlt)))
   clear hos hoe
   obtain ⟨p, g, s⟩ := o
   dsimp only at c0 c1 c2
   obtain ⟨D, hD⟩ : ∃ D, D = wr.heap.size := ⟨_, rfl⟩
   have HDD := hid hD
   clear hD
   go_wp2_with (first
    | (refine zA2 zBd rfl (.tmp 7) rfl D rfl #[.string (mk p), .int .i64 g, .int .i64 s] rfl H4.out ?_)
    | (refine zAn zBd rfl (.tmp 7) (.tmp 22) rfl D (by rw [HDD.out]; rfl) #[.string (mk p), .int .i64 g, .int .i64 s] rfl rfl (by kernel_rfl) opZ rfl (by rw [HDD.out]; exact Bk.new wr _ opZ) ?_; rw [← HDD.out]; intro w4 h4 ho4; have HB4 : Hid (Below wr.heap.size wr w4) := hid ((zAA wr _).trans (ho4.below (by rw [HDD.out]; exact Nat.le_refl _))); have H4 := hid h4; clear h4 ho4 c0 c1 c2))
   refine (operator_any' (p, g, s) w4 (HT1.out.keep (HB.out.trans (HB4.out.mono HB.out.size))) HPL.out).mono ?_
   rintro e w5 ⟨F, a5, c5, v5, rfl, hop, hF5, hb5⟩
   obtain ⟨o, hoe⟩ : ∃ o : OP, o = (p, g, s) := ⟨_, rfl⟩
   rw [← hoe] at hop ⊢
   have HOO : Hid (o = opA L k) := hid (by rw [hoe]; exact HOE.out)
   have HOP := hid hop
   have HFG : Hid (w4.heap.size ≤ F) := hid hF5
   have HB5 : Hid (Below wr.heap.size wr w5) := hid (HB4.out.trans (hb5.mono HB4.out.size))
   obtain ⟨ok, hok⟩ : ∃ ok, ok = okO o := ⟨_, rfl⟩
   have HOK := hid hok
   rw [← hok]
   obtain ⟨E, hE⟩ : ∃ E, E = w5.heap.size := ⟨_, rfl⟩
   have HEE := hid hE
   obtain ⟨m, hm⟩ : ∃ m, m = (shR o).length := ⟨_, rfl⟩
   have HM := hid hm
   rw [← hm]
   clear hop hF5 hb5 hok hE hm hoe H4
   go_upto_region 6 with (refine zAn zQi rfl (.tmp 8) (.tmp 26) rfl E (by rw [HEE.out]; rfl) (fmA (opS o (shR o)) a5 m c5) rfl rfl (zQq ..) fmZ rfl (by rw [HEE.out]; exact Bk.new w5 _ fmZ) ?_; rw [← HEE.out]; intro w6 h6 ho6; have HB56 : Hid (Below w5.heap.size w5 w6) := hid ((zAA w5 _).trans (ho6.below (by rw [HEE.out]; exact Nat.le_refl _))); have H6 := hid h6; clear h6 ho6)
   try simp only [Act.put]
   have HB6 : Hid (Below wr.heap.size wr w6) := hid (HB5.out.trans (HB56.out.mono HB5.out.size))
   have HOP6 := hid (HOP.out.below HB56.out)
   cases ok with
   | false =>
    have HNO : Hid (rawK L tok (k + 1) = rawK L tok k) := hid (by
     unfold rawK
     rw [zRE (by rw [HLN.out]; exact hlt), if_neg (by rw [zRD, ← HOO.out, ← HOK.out]; simp), List.append_nil])
    go_wp2
    go_roundw
    case rel => exact ⟨a', n', c', gs, k + 1, rfl, by go_num, by omega, by omega, hid (by rw [HNO.out]; exact HF.out.below HB6.out), hid (HB.out.trans (HB6.out.mono HB.out.size))⟩
    case measure => simp [intOf]; omega
   | true =>
    obtain ⟨q, hq⟩ : ∃ q, q = (shR o).all (thS tok) := ⟨_, rfl⟩
    have HQ := hid hq
    have KT : Hid (Calls Tryz.prog 62 #[.agg (fmA (opS o (shR o)) a5 m c5), .slice ta tn tc] w6 fun e w' => e = .returned (.bool q) ∧ Below w6.heap.size w6 w') := hid (by
     have h := zSo (opS o (shR o)) a5 c5 v5 ta tn tc tok w6 HOP6.out.sto (HTK.out.below (HB.out.trans (HB6.out.mono HB.out.size))) (Nat.le_trans (zSr o) (by decide)) (zUF o)
     rw [hq, HM.out]
     exact h)
    clear hq
    go_wp2_with (refine zA2 zQi rfl (.tmp 8) rfl E rfl (fmA (opS o (shR o)) a5 m c5) rfl H6.out ?_)
    refine KT.out.mono ?_
    rintro e w7 ⟨rfl, hb7⟩
    have HB7 : Hid (Below wr.heap.size wr w7) := hid (HB6.out.trans (hb7.mono HB6.out.size))
    have HOP7 := hid (HOP6.out.below hb7)
    have H7 := hid (H6.out.below hb7)
    clear hb7 KT
    cases q with
    | false =>
     have HNO : Hid (rawK L tok (k + 1) = rawK L tok k) := hid (by
      unfold rawK
      rw [zRE (by rw [HLN.out]; exact hlt), if_neg (by rw [zRD, ← HOO.out, ← HOK.out, ← HQ.out]; simp), List.append_nil])
     go_wp2
     go_roundw
     case rel => exact ⟨a', n', c', gs, k + 1, rfl, by go_num, by omega, by omega, hid (by rw [HNO.out]; exact HF.out.below HB7.out), hid (HB.out.trans (HB7.out.mono HB.out.size))⟩
     case measure => simp [intOf]; omega
    | true =>
     have HYES : Hid (rawK L tok (k + 1) = rawK L tok k ++ [opR o]) := hid (by
      unfold rawK
      rw [zRE (by rw [HLN.out]; exact hlt), if_pos (by rw [zRD, ← HOO.out, ← HOK.out, ← HQ.out]; rfl), List.map_append, ← HOO.out]; rfl)
     have hpos : 0 < (shR o).length := zTv HOK.out.symm
     obtain ⟨g5, cur, ha5, hge5, _⟩ := HOP7.out.own.form (HOP7.out.own.some hpos)
     subst ha5
     have HG5 : Hid (F ≤ g5) := hid hge5
     clear hge5 hpos
     have HF7 : Hid (FmB w1.heap.size w7 a' n' c' (rawK L tok k) gs) := hid (HF.out.below HB7.out)
     have HLT : Hid (∀ i, i < n' → (gA gs i).1 < g5) := hid fun i hi => by
      obtain ⟨vs, hv⟩ := HF.out.fo.st i hi
      have h1 := hv.own.lt0.1
      have h2 := HB4.out.size
      have h3 := HFG.out
      have h4 := HG5.out
      omega
     have HGE5 : Hid (w1.heap.size ≤ g5) := hid (by
      have h1 := HB.out.size
      have h2 := HB4.out.size
      have h3 := HFG.out
      have h4 := HG5.out
      omega)
     go_wp2_with (first
      | (at_builtin; refine zAL rfl (.tmp 34) (.tmp 36) 74 rfl 119 w1.heap.size 9 104 _ Tryz.underlying74 zSs rfl (by omega) _ _ _ (cF (rawK L tok k) gs) rfl HF8.out.ob _ _ _ (fmA (opS o (shR o)) (some ⟨g5, 0, none⟩) m c5).toList rfl (zTu H8.out) (fun u hu => zTB (opR o) (g5, c5) u (by rw [HM.out] at hu; exact hu)) (by unfold maxLen; omega) (by omega) (by have h1 := HB.out.size; have h2 := HB8.out.size; omega) ?_; intro a9 c9 w9 hO9 hG9 hb9 _; have HO9 := hid hO9; have HB9 : Hid (Below w1.heap.size w1 w9) := hid ((HB.out.trans (HB8.out.mono HB.out.size)).trans hb9); have HK9 : Hid (Kt tO w8 w9) := hid (Kt.grown HF8.out.ob rfl hG9); clear hO9 hG9 hb9)
      | (refine zA2 zQi rfl (.tmp 8) rfl E rfl (fmA (opS o (shR o)) (some ⟨g5, 0, none⟩) m c5) rfl H7.out ?_)
      | (refine zRF rfl (.tmp 35) rfl (opS o (shR o)) (some ⟨g5, 0, none⟩) m c5 rfl ?_; intro w8 A8 _ hb8 hbl8; have H8 := hid hb8; have HB8 : Hid (Below wr.heap.size wr w8) := hid (HB7.out.trans (hbl8.mono HB7.out.size)); have HF8 : Hid (FmB w1.heap.size w8 a' n' c' (rawK L tok k) gs) := hid (HF7.out.below hbl8); have HOP8 := hid (HOP7.out.below hbl8); clear hb8 hbl8))
     have HF9 : Hid (FmB w1.heap.size w9 a9 (n' + 1) c9 (rawK L tok (k + 1)) (gs ++ [(g5, c5)])) := hid (by
      rw [HYES.out]
      refine HF8.out.snoc (f := opR o) (g := g5) (gc := c5) (vs := v5) HOP8.out.sto HLT.out HGE5.out HK9.out ?_
      have h := HO9.out
      rw [HM.out] at h
      exact h)
     go_roundw
     case rel => exact ⟨a9, n' + 1, c9, _, k + 1, rfl, by go_num, by omega, by omega, HF9, HB9⟩
     case measure => simp [intOf]; omega
  ·obtain rfl : k = n := by omega
   obtain ⟨a1, ha1⟩ : ∃ x, x = a' := ⟨_, rfl⟩
   obtain ⟨n1, hn1⟩ : ∃ x, x = n' := ⟨_, rfl⟩
   obtain ⟨c1, hc1⟩ : ∃ x, x = c' := ⟨_, rfl⟩
   rw [← ha1, ← hn1, ← hc1] at HF ⊢
   rw [← hn1] at hn'
   clear ha1 hn1 hc1
   have HF1 : Hid (FmB w1.heap.size wr a1 n1 c1 (mixL FX 0 0) gs) := hid (by rw [HRAW.out]; exact HF.out)
   have HW1 : Hid (Below w1.heap.size w1 wr) := HB
   have HFL : Hid (FX.length = n1) := hid (by rw [← HF1.out.fo.hn, zQk])
   have HST : Hid (∀ t, t < n1 → (fA FX t).S.length ≤ 1000) := hid fun t ht => HSX.out t (by rw [HFL.out]; exact ht)
   clear HF HB
   go_wp2
   go_loopw [41] (fun v wr => ∃ t : Nat, v = .int .i64 (t : Int) ∧ t ≤ n1 ∧ Hid (FmB w1.heap.size wr a1 n1 c1 (mixL FX t 0) gs) ∧ Hid (Below w1.heap.size w1 wr)) (fun v _ => n1 - (intOf v).toNat)
   case atStart => exact ⟨0, rfl, Nat.zero_le _, HF1, HW1⟩
   case round =>
    rename World => wr
    obtain ⟨t, rfl, htn, HF, HB⟩ := hrel
    by_cases hlt : t < n1
    ·have hltI : (t : Int) < (n1 : Int) := by omega
     have ht0 : (0 : Int) ≤ (t : Int) := Int.natCast_nonneg _
     have htF : t < FX.length := by rw [HFL.out]; exact hlt
     obtain ⟨b, o, rfl, _, hc⟩ := HF.out.fo.own.vs.at_ (by omega)
     clear hc
     have hcs := HF.out.fo.cells hlt
     rw [zQp htF] at hcs
     obtain ⟨g, hg⟩ : ∃ g, g = gA gs t := ⟨_, rfl⟩
     rw [← hg] at hcs
     have HGE := hid hg
     obtain ⟨g0, gc⟩ := g
     obtain ⟨m, hm⟩ : ∃ m, m = (fA FX t).S.length := ⟨_, rfl⟩
     have HM := hid hm
     have hm10 : m ≤ 1000 := by rw [hm]; exact HST.out t hlt
     obtain ⟨VF, hvf⟩ : ∃ VF, VF = fmA (fA FX t) (some ⟨g0, 0, none⟩) m gc := ⟨_, rfl⟩
     have HVF : Hid (VF = fmA (fA FX t) (some ⟨g0, 0, none⟩) m gc) := hid hvf
     have HCS : Hid (∀ j, j < 9 → wr.cell? ⟨b, o + t * 9 + j, none⟩ = VF[j]?) := hid (fun j hj => by
      obtain ⟨e1, e2, e3, e4, e5⟩ := zRn FX t 0 t
      rw [hcs j hj, hvf]
      unfold fmA
      rw [e1, e2, e3, e4, e5, hm])
     obtain ⟨D, hD⟩ : ∃ D, D = wr.heap.size := ⟨_, rfl⟩
     have HDD := hid hD
     have HTF := hid htF
     clear hcs hg hm hvf hD htF
     go_upto_region 12 with (first
      | (refine zCI zQi rfl (.tmp 43) rfl b (o + t * 9) rfl VF (by rw [HVF.out]; rfl) HCS.out ?_)
      | (refine zAn zQi rfl (.tmp 11) (.tmp 44) rfl D (by rw [HDD.out]; rfl) VF rfl (by rw [HVF.out]; rfl) (by rw [HVF.out]; exact zQq ..) fmZ rfl (by rw [HDD.out]; exact Bk.new wr _ fmZ) ?_; rw [← HDD.out]; intro w4 h4 ho4; have HB4 : Hid (Below wr.heap.size wr w4) := hid ((zAA wr _).trans (ho4.below (by rw [HDD.out]; exact Nat.le_refl _))); have H4 : Hid (Bk w4 D 119 VF) := hid h4; clear h4 ho4))
     try simp only [Act.put]
     have d8 : w4.cell? ⟨D, 8, none⟩ = some (.slice (some ⟨g0, 0, none⟩) m gc) := by rw [H4.out.cell, HVF.out]; rfl
     have HF4 : Hid (FmB w1.heap.size w4 (some ⟨b, o, none⟩) n1 c1 (mixL FX t 0) gs) := hid (HF.out.below HB4.out)
     have HW4 : Hid (Below w1.heap.size w1 w4) := hid (HB.out.trans (HB4.out.mono HB.out.size))
     go_wp2
     clear d8
     go_loopw [48] (fun v wq => ∃ j : Nat, v = .int .i64 (j : Int) ∧ j ≤ m ∧ Hid (FmB w1.heap.size wq (some ⟨b, o, none⟩) n1 c1 (mixL FX t j) gs) ∧ Hid (Bk wq D 119 VF) ∧ Hid (Below w1.heap.size w1 wq)) (fun v _ => m - (intOf v).toNat)
     case atStart => exact ⟨0, rfl, Nat.zero_le _, HF4, H4, HW4⟩
     case round =>
      rename World => wq
      obtain ⟨j, rfl, hj, HFq, HDq, HBq⟩ := hrel
      by_cases hjl : j < m
      ·have hjI : (j : Int) < (m : Int) := by omega
       have hj0 : (0 : Int) ≤ (j : Int) := Int.natCast_nonneg _
       have hjS : j < (fA FX t).S.length := by rw [← HM.out]; exact hjl
       obtain ⟨vs, hv⟩ := HFq.out.fo.st t hlt
       rw [zQp HTF.out, ← HGE.out] at hv
       have e1 : (mixA FX t j t).S = halfS (fA FX t).S j := by unfold mixA; rw [if_neg (by omega), if_pos rfl]
       rw [e1] at hv
       dsimp only at hv
       have hvl : vs.length = m := by rw [hv.hl, halfS_len, HM.out]
       have hjv : j < vs.length := by omega
       have hcv := zTn vs j hjv
       rw [← zTo hjv] at hcv
       have k0 : wq.cell? ⟨g0, j * 2, none⟩ = some (vA vs j).1 := by
        have h1 := hv.own.vs.cells (by rw [halfS_len]; omega) (j := j * 2) (by rw [halfS_len]; omega)
        rw [Nat.zero_add] at h1
        exact h1.trans hcv.1
       have k1 : wq.cell? ⟨g0, j * 2 + 1, none⟩ = some (vA vs j).2 := by
        have h1 := hv.own.vs.cells (by rw [halfS_len]; omega) (j := j * 2 + 1) (by rw [halfS_len]; omega)
        rw [Nat.zero_add] at h1
        exact h1.trans hcv.2
       have hsd := hv.st j (by rw [halfS_len]; exact hjS)
       rw [zQ2 hjS, if_neg (by omega)] at hsd
       obtain ⟨p, hp⟩ : ∃ p, p = vA vs j := ⟨_, rfl⟩
       rw [← hp] at k0 k1 hsd
       obtain ⟨fv, kv⟩ := p
       dsimp only at k0 k1
       have HVS := hid hv
       have HPE := hid hp
       have HVL := hid hvl
       have HJS := hid hjS
       obtain ⟨E, hE⟩ : ∃ E, E = wq.heap.size := ⟨_, rfl⟩
       have HEE := hid hE
       obtain ⟨sd, hsdd⟩ : ∃ sd, sd = sA (fA FX t).S j := ⟨_, rfl⟩
       have HSD : Hid (sA (fA FX t).S j = sd) := hid hsdd.symm
       rw [← hsdd] at hsd
       clear hv hcv hp hvl e1 hE hsdd hjS hjv
       cases sd with
       | br x =>
        obtain ⟨N, rfl, _, rfl⟩ := hsd
        have hnf : ∀ w' : World, (binOp .eql 63 (.func (.func 109) #[] #[.pointer (some ⟨N, 0, none⟩)]) .nilFunc).run Tryz.prog w' = .ok (.bool false) w' := fun w' => by kernel_rfl
        have HFn : Hid (FmB w1.heap.size wq (some ⟨b, o, none⟩) n1 c1 (mixL FX t (j + 1)) gs) := hid (by have h := HFq.out; rw [zTT HJS.out (fun K => by rw [HSD.out]; intro e; cases e)] at h; exact h)
        go_wp2_with (refine zAn zQw rfl (.tmp 13) (.tmp 52) rfl E (by rw [HEE.out]; rfl) #[.func (.func 109) #[] #[.pointer (some ⟨N, 0, none⟩)], .slice none 0 0] rfl rfl (by kernel_rfl) sdZ rfl (by rw [HEE.out]; exact Bk.new wq _ sdZ) ?_; rw [← HEE.out]; intro w6 h6 ho6; have HB6 : Hid (Below wq.heap.size wq w6) := hid ((zAA wq _).trans (ho6.below (by rw [HEE.out]; exact Nat.le_refl _))); have d0 : w6.cell? ⟨E, 0, none⟩ = some (.func (.func 109) #[] #[.pointer (some ⟨N, 0, none⟩)]) := h6.cell 0; clear h6 ho6)
        go_roundw
        case rel => exact ⟨j + 1, by go_num, by omega, hid (HFn.out.below HB6.out), hid (HDq.out.below HB6.out), hid (HBq.out.trans (HB6.out.mono HBq.out.size))⟩
        case measure => simp [intOf]; omega
       | pt x =>
        obtain ⟨N, rfl, _, rfl⟩ := hsd
        have hnf : ∀ w' : World, (binOp .eql 63 (.func (.func 111) #[] #[.pointer (some ⟨N, 0, none⟩)]) .nilFunc).run Tryz.prog w' = .ok (.bool false) w' := fun w' => by kernel_rfl
        have HFn : Hid (FmB w1.heap.size wq (some ⟨b, o, none⟩) n1 c1 (mixL FX t (j + 1)) gs) := hid (by have h := HFq.out; rw [zTT HJS.out (fun K => by rw [HSD.out]; intro e; cases e)] at h; exact h)
        go_wp2_with (refine zAn zQw rfl (.tmp 13) (.tmp 52) rfl E (by rw [HEE.out]; rfl) #[.func (.func 111) #[] #[.pointer (some ⟨N, 0, none⟩)], .slice none 0 0] rfl rfl (by kernel_rfl) sdZ rfl (by rw [HEE.out]; exact Bk.new wq _ sdZ) ?_; rw [← HEE.out]; intro w6 h6 ho6; have HB6 : Hid (Below wq.heap.size wq w6) := hid ((zAA wq _).trans (ho6.below (by rw [HEE.out]; exact Nat.le_refl _))); have d0 : w6.cell? ⟨E, 0, none⟩ = some (.func (.func 111) #[] #[.pointer (some ⟨N, 0, none⟩)]) := h6.cell 0; clear h6 ho6)
        go_roundw
        case rel => exact ⟨j + 1, by go_num, by omega, hid (HFn.out.below HB6.out), hid (HDq.out.below HB6.out), hid (HBq.out.trans (HB6.out.mono HBq.out.size))⟩
        case measure => simp [intOf]; omega
       | ho KL =>
        obtain ⟨rfl, ka0, kc0, rfl, _⟩ := hsd
        have hnf : ∀ w' : World, (binOp .eql 63 .nilFunc .nilFunc).run Tryz.prog w' = .ok (.bool true) w' := fun w' => by kernel_rfl
        go_upto_region 16 with (refine zAn zQw rfl (.tmp 13) (.tmp 52) rfl E (by rw [HEE.out]; rfl) #[.nilFunc, .slice ka0 ([] : List Nat).length kc0] rfl rfl (by kernel_rfl) sdZ rfl (by rw [HEE.out]; exact Bk.new wq _ sdZ) ?_; rw [← HEE.out]; intro w6 h6 ho6; have HB6 : Hid (Below wq.heap.size wq w6) := hid ((zAA wq _).trans (ho6.below (by rw [HEE.out]; exact Nat.le_refl _))); have d0 : w6.cell? ⟨E, 0, none⟩ = some .nilFunc := h6.cell 0; clear h6 ho6)
        clear d0 k0 k1 hnf
        have HF6 : Hid (FmB w1.heap.size w6 (some ⟨b, o, none⟩) n1 c1 (mixL FX t j) gs) := hid (HFq.out.below HB6.out)
        have HV6 : Hid (StO w6 (some ⟨g0, 0, none⟩) gc (halfS (fA FX t).S j) vs) := hid (HVS.out.below HB6.out)
        have HD6 : Hid (Bk w6 D 119 VF) := hid (HDq.out.below HB6.out)
        have HW6 : Hid (Below w1.heap.size w1 w6) := hid (HBq.out.trans (HB6.out.mono HBq.out.size))
        have HKS : Hid (∀ w', Below w6.heap.size w6 w' → w'.cell? ⟨D, 8, none⟩ = some (.slice (some ⟨g0, 0, none⟩) m gc) ∧ Bk w' D 119 VF ∧ ∀ q, q < 10 → w'.cell? ⟨B, 1 + q, none⟩ = (rv z)[q]?) := hid fun w' hb' => by
         refine ⟨?_, HD6.out.below hb', fun q hq => ?_⟩
         ·rw [(HD6.out.below hb').cell, HVF.out]; rfl
         ·exact HER.out w' (HW6.out.trans (hb'.mono HW6.out.size)) q hq
        have KK : Hid (∀ w', Below w6.heap.size w6 w' → Calls Tryz.prog 63 #[.agg (rv z), .slice (some ⟨b, o, none⟩) n1 c1, .agg VF, .int .i64 (j : Int)] w' fun e w'' => ∃ ra rc, e = .returned (.slice ra KL.length rc) ∧ OwnV w'.heap.size 3 1 w'' ra KL.length rc (intsK KL) ∧ Below w'.heap.size w' w'') := hid fun w' hb' => by
         have hkv : KL = kidsV z (mixL FX t j) (fA FX t) j := by
          rw [zTI]
          exact HKV.out t j HTF.out HJS.out KL HSD.out
         have hc := zTD z HZ.out HR10.out (some ⟨b, o, none⟩) n1 c1 (mixL FX t j) gs (fA FX t) (some ⟨g0, 0, none⟩) gc j w' (HT1.out.keep (HW6.out.trans (hb'.mono HW6.out.size))) (HF6.out.below hb').fo (by omega) HJS.out (by rw [← HM.out]; omega) (HNM.out t HTF.out) (fun q hq => by
          rw [zQp (by rw [HFL.out]; exact hq)]
          obtain ⟨_, _, _, a4, _⟩ := zRn FX t j q
          rw [a4]
          exact HNM.out q (by rw [HFL.out]; exact hq))
         rw [← HM.out, ← HVF.out] at hc
         refine hc.mono ?_
         rintro e w'' ⟨ra, KL', rc, rfl, hK, h1, h2⟩
         rw [← hkv] at hK
         subst hK
         exact ⟨ra, rc, rfl, h1, h2⟩
        refine wp_region_noPanic ?_
        refine wp_region_held_drew (S := fun w' => w'.cell? ⟨D, 8, none⟩ = some (.slice (some ⟨g0, 0, none⟩) m gc) ∧ Bk w' D 119 VF ∧ ∀ q, q < 10 → w'.cell? ⟨B, 1 + q, none⟩ = (rv z)[q]?) (by kernel_rfl) (HKS.out _ (Below.refl _ _).drew) (fun hHeld => ?_)
        refine zG 0 rfl ?_
        try simp only [Act.put, aS, aZ, aC]
        refine zG 1 rfl ?_
        try simp only [Act.put, aS, aZ, aC]
        refine zG 2 rfl ?_
        try simp only [Act.put, aS, aZ, aC]
        refine zG 3 rfl ?_
        try simp only [Act.put, aS, aZ, aC]
        refine zT 4 (v := .agg (rv z)) rfl (fun w0 h0 => zEQ zRx (.tmp 59) B 1 rfl (rv z) (zBY HZ.out) h0.2.2) ?_
        try simp only [Act.put, aS, aZ, aC]
        refine zG 5 rfl ?_
        try simp only [Act.put, aS, aZ, aC]
        refine zT 6 (v := .agg VF) rfl (fun w0 h0 => zBc zQi (.tmp 11) D rfl VF (by rw [HVF.out]; rfl) h0.2.1) ?_
        try simp only [Act.put, aS, aZ, aC]
        refine zG 7 rfl ?_
        try simp only [Act.put, aS, aZ, aC]
        refine zR [8] ?_
        refine hDo rfl (fun K hK => ?_) ?_
        ·go_simp
         (go_at_call 63; (with_reducible refine (KK.out _ (Below.refl _ _).drew).mono ?_); rintro e9 w9 ⟨ra, rc, rfl, hk9, hb9⟩)
         have HB9 : Hid (Below w6.heap.size w6 w9) := hid ((Below.refl _ _).drew.trans hb9)
         have HK9 := hid hk9
         have HV9 : Hid (StO w9 (some ⟨g0, 0, none⟩) gc (halfS (fA FX t).S j) vs) := hid (HV6.out.below HB9.out)
         have HO9 : Hid (OwnV 0 125 2 w9 (some ⟨g0, 0, none⟩) m gc (cV vs)) := hid (by have h := HV9.out.own; rw [halfS_len, ← HM.out] at h; exact h)
         clear hk9 hb9
         refine hK.out _ _ (HKS.out _ HB9.out) (fun hHeld => ?_)
         clear hK K
         try simp only [Act.put, aS, aZ, aC]
         refine zG 9 rfl ?_
         try simp only [Act.put, aS, aZ, aC]
         refine zG 10 rfl ?_
         try simp only [Act.put, aS, aZ, aC]
         refine zR [11] ?_
         refine hDo rfl (fun K hK => ?_) ?_
         ·refine zBS rfl 82 zSt (.tmp 66) (.tmp 64) rfl 0 2 125 g0 m gc (cV vs) HO9.out (j * 2 + 1) (by omega) (.slice ra KL.length rc) rfl rfl rfl rfl ?_
          intro w10 h10 ho10 hk10 _
          have H10 := hid h10
          have HO10 := hid ho10
          have HK10 : Hid (Kt tS w9 w10) := hid hk10
          have HGB : Hid (w1.heap.size ≤ g0) := hid (by have h := HF6.out.ge t hlt; rw [← HGE.out] at h; exact h)
          have HD10 : Hid (Bk w10 D 119 VF) := hid ((HD6.out.below HB9.out).kt (by unfold tS; decide) HK10.out)
          have HW10 : Hid (Below w1.heap.size w1 w10) := hid ((HW6.out.trans (HB9.out.mono HW6.out.size)).trans (HO10.out.below HGB.out))
          clear h10 ho10 hk10
          refine hK.out _ _ (⟨by rw [HD10.out.cell, HVF.out]; rfl, HD10.out, fun q hq => HER.out _ HW10.out q hq⟩) (fun hHeld => ?_)
          clear hK K
          try simp only [Act.put]
          refine wpAnyH_done (by kernel_rfl) ?_ _
          refine NoPanic.normal ?_
          have HFn : Hid (FmB w1.heap.size w10 (some ⟨b, o, none⟩) n1 c1 (mixL FX t (j + 1)) gs) := hid (by
           have hg1 : (gA gs t).1 = g0 := by rw [← HGE.out]
           have hg2 : (gA gs t).2 = gc := by rw [← HGE.out]
           refine (HF6.out.below HB9.out).fill hlt HJS.out HSD.out (vs := vs) (by rw [hg1, hg2]; exact HV9.out) (HK9.out.weaken (Nat.zero_le _)) (by rw [hg1]; exact HO10.out) HK10.out ?_
           rw [hg1, hg2, ← HM.out]
           have h := H10.out
           have hjv : j < vs.length := by rw [HVL.out]; exact hjl
           rw [zTS vs j _ hjv, ← zTo hjv, ← HPE.out] at h
           exact h)
          go_wp2
          go_roundw
          case rel => exact ⟨j + 1, by go_num, by omega, HFn, HD10, HW10⟩
          case measure => simp [intOf]; omega
         ·exact AllReadyH.nil
        ·exact AllReadyH.nil
      ·obtain rfl : j = m := by omega
       have HFn : Hid (FmB w1.heap.size wq (some ⟨b, o, none⟩) n1 c1 (mixL FX (t + 1) 0) gs) := hid (by have h := HFq.out; rw [zTr (by rw [← HM.out]; exact Nat.le_refl _)] at h; exact h)
       go_wp2
       go_roundw
       case rel => exact ⟨t + 1, by go_num, by omega, HFn, HBq⟩
       case measure => simp [intOf]; omega
    ·obtain rfl : t = n1 := by omega
     go_wp2
     go_ret
     refine ⟨a1, t, c1, gs, rfl, ?_, HBW.out.trans (HB.out.mono HBW.out.size)⟩
     have h := HF.out.fo
     rw [zTs (by rw [HFL.out]; exact Nat.le_refl _)] at h
     exact h
end
end Go.Proofs.YtcjbhdgjcpnklaaGreatDoor
