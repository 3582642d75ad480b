import Derived.Deep.RegionHeld3
import Derived.Deep.QuietTactic
import Derived.BigQuiet
import Derived.Test.YtcjbhdgjcpnklaaGreatDoorN05
namespace Go.Proofs.YtcjbhdgjcpnklaaGreatDoor
open Go.RowKit
theorem But.weak {m X Y : Nat} {w w' : World} (h : But m X X w w') : But m X Y w w' := ⟨h.b, fun g hg h1 _ => h.s g hg h1 h1⟩
structure Jo (tok : List TK) (x : ND) (V : Bool) (la : Option Addr) (ln lc : Nat) (ba bn bl bk m : Nat) (I : List Nm) (w1 : World) : Prop where
 j : ∃ (at_ : Nat) (K' : List ND) (ka' : Option Addr) (kc' : Nat), C1 w1 ba 3 (.int .i64 (at_ : Int)) ∧ at_ ≤ ln ∧ C1 w1 bk 42 (.slice ka' K'.length kc') ∧ NdS w1 ka' K'.length kc' K' ∧ K'.length = holN I ∧ (∀ c ∈ K', goodN tok c) ∧ alB tok x.t I at_ K' = V
 n : N5 w1 bn x
 l : C1 w1 bl 23 (.slice la ln lc)
 t : Ts w1 la ln lc tok
 s : m ≤ w1.heap.size
section
variable {tok : List TK} {x : ND} {V : Bool} {la : Option Addr} {ln lc ba bn bl bk m : Nat}
theorem Jo.below {I : List Nm} {w1 w' : World} (h : Jo tok x V la ln lc ba bn bl bk m I w1) (hb : Below w1.heap.size w1 w') : Jo tok x V la ln lc ba bn bl bk m I w' := by
 obtain ⟨at_, K', ka', kc', h1, h2, h3, h4, h5, h6, h7⟩ := h.j
 exact ⟨⟨at_, K', ka', kc', h1.below hb, h2, h3.below hb, h4.below hb, h5, h6, h7⟩, h.n.below hb, h.l.below hb, h.t.below hb, Nat.le_trans h.s hb.size⟩
end
end Go.Proofs.YtcjbhdgjcpnklaaGreatDoor
