import Derived.Test.YtcjbhdgjcpnklaaGreatDoorR11
import Derived.Test.YtcjbhdgjcpnklaaGreatDoorR12
namespace Go.Proofs.YtcjbhdgjcpnklaaGreatDoor
section
open Go.RowKit
end
section
open Go.RowKit
theorem T5.zero (w : World) : T5 (w.alloc (.cells #[.int .i64 0, .int .i64 0, .int .i64 0, .string ⟨#[]⟩, .int .i64 0] 51)) w.heap.size 0 0 0 [] 0 := heap_alloc_new w _
end
section
open Go.RowKit
theorem zEc {ops : Array Oper} {o : Oper} {A : Act} {w : World} {K : Act → World → Prop} {Q : Exit → Act → World → Prop} {E : Prop} (hgd : o.guard = none) (x : Operand) (ho : o.op = .buildSlice 23 1 #[(0, x)]) (k f t : Int) (s : Nm) (e : Int) (hx : A.eval x = .agg #[.int .i64 k, .int .i64 f, .int .i64 t, .string (mk s), .int .i64 e])
  (kk : ∀ w' g, g = w.heap.size → T5 w' g k f t s e → Below w.heap.size w w' → K (A.put o.dst (.slice (some ⟨g, 0, none⟩) 1 1)) w') : if Region.wanted o (yielded ops A.tmps) = true then o.wp Tryz.prog A w K Q else E := by
 rw [if_pos (show Region.wanted o (yielded ops A.tmps) = true by simp [Region.wanted, hgd])]
 have h := kk _ w.heap.size rfl (T5.new w k f t s e) (zAA w _)
 have hr : (Instr.buildSlice 23 1 #[(0, .agg #[.int .i64 k, .int .i64 f, .int .i64 t, .string (mk s), .int .i64 e])]).run Tryz.prog w = .ok (.slice (some ⟨w.heap.size, 0, none⟩) 1 1) (w.alloc (.cells #[.int .i64 k, .int .i64 f, .int .i64 t, .string (mk s), .int .i64 e] 51)) := by kernel_rfl
 unfold Oper.wp execOp
 simp only [ho, List.map_toArray, List.map_cons, List.map_nil, hx, hr, Sem.run_bind, Result.andThen_ok, Sem.run_pure]
 exact h
theorem T5.own {base g : Nat} {w : World} {k f t : Int} {s : Nm} {e : Int} (h : T5 w g k f t s e) (hb : base ≤ g) : OwnT base 51 w (some ⟨g, 0, none⟩) 1 1 [⟨k, f, t, mk s, e⟩] :=
 ⟨by rw [zBs]; rfl, .inr ⟨g, 1, _, rfl, hb, h, Nat.le_refl _, by unfold maxLen; omega, rfl, rfl⟩⟩
theorem zBU {ops : Array Oper} {w : World} {o : Oper} {a : Act} {K : Act → World → Prop} {Q : Exit → Act → World → Prop} {E : Prop} (hgd : o.guard = none) (s x : Operand)
  (ho : o.op = .call { callee := .builtin .append, args := #[s, x], argTypes := #[23, 23] })
  (base : Nat) (sa : Option Addr) (n c : Nat) (L : List TK) (hs : a.eval s = .slice sa n c) (hown : OwnT base 51 w sa n c L)
  (xa : Option Addr) (m d : Nat) (M : List TK) (hx : a.eval x = .slice xa m d) (hb : Ts w xa m d M)
  (hbig : n + m ≤ 1000000000000) (hbase : base ≤ w.heap.size)
  (h : ∀ a' c' w', OwnT base 51 w' a' (n + m) c' (L ++ M) → w.grownBy w' (Value.ownBlock (.slice sa n c)) → Below base w w' → K (a.put o.dst (.slice a' (n + m) c')) w') : if Region.wanted o (yielded ops a.tmps) = true then o.wp Tryz.prog a w K Q else E := by
 rw [if_pos (show Region.wanted o (yielded ops a.tmps) = true by simp [Region.wanted, hgd])]
 exact zJy s x ho base sa n c L hs hown xa m d M hx hb hbig hbase h
theorem T5.grown {w w' : World} {b g : Nat} {n c : Nat} {k f t : Int} {s : Nm} {e : Int} (h : T5 w b k f t s e) (hg : w.grownBy w' (Value.ownBlock (.slice (some ⟨g, 0, none⟩) n c))) (hne : b ≠ g) : T5 w' b k f t s e :=
 (hg.block b (Array.getElem?_eq_some_iff.1 h).1 (fun e => by simp only [Value.ownBlock, Option.some.injEq] at e; omega)).trans h
end
end Go.Proofs.YtcjbhdgjcpnklaaGreatDoor
