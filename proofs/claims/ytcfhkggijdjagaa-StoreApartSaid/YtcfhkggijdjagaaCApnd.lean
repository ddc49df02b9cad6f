/-
  Appending a list of versions to a row of the call's own, for walks: what is asked lies in structures, so that nothing is laid open where the law doesn't fit.
-/
import Derived.Test.YtcfhkggijdjagaaCPutv
namespace Go.Proofs.Ytcfhkggijdjagaa
open Go.RowKit Go.Sort

structure OwV (base : Nat) (v : Value) (L : List Ve) (B : Nat) (vx : Value) (X : List Ve) (w : World) : Prop where
  own : VsOwn base v L w
  new : VsAt B vx X w
  size : base ≤ w.heap.size
  len : L.length + X.length ≤ 1048576

theorem wpList_append_ow {ops : Array Oper} {rest : List Oper} {o : Oper} {a : Act} {Q : Exit → Act → World → Prop} {w : World} {base B : Nat} {L X : List Ve} {v vx : Value} (H : OwV base v L B vx X w) (s x : Operand) (ho : o.op = .call { callee := .builtin .append, args := #[s, x], argTypes := #[55, 55] })
    (hw : Region.wanted o (yielded ops a.tmps) = true) (hs : a.eval s = v) (hx : a.eval x = vx)
    (h : ∀ v' w', VsOwn base v' (L ++ X) w' → w.grownBy w' v.ownBlock → wpList Try.prog ops Q rest (a.put o.dst v') w') : wpList Try.prog ops Q (o :: rest) a w :=
  wpList_append_vs hw s x ho base B L X v vx hs hx H.own H.new H.size H.len h
end Go.Proofs.Ytcfhkggijdjagaa
