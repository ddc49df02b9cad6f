/-
  maps.Values of the book's map: an iterator that tells each verdict once.
-/
import Derived.RangeFuncNested
import Derived.RangeFuncBound
import Derived.RangeFuncCalls
import Derived.RangeFuncLeaves
import Derived.Shelf.Abstract
import Derived.Shelf.AbstractIn
import Derived.Shelf.RegionOpen
import Derived.WalkKit
import Derived.OwnWalkIn
import Derived.TacticsInMore
import Derived.LoopNIn
import Derived.LoopIn
import Derived.Test.YtkadaoebehgkbaaRe
namespace Go.Proofs.Ytkadaoebehgkbaa
open Go.RowKit Go.Shelf

set_option maxRecDepth 100000 in
set_option maxHeartbeats 1600000 in
theorem vals39 (F : Fence) (n : Nat) (h39 : F.fn 39) (hro : F.round = none) (hn : 1 ≤ n) (l Bm b : Nat) (m : Bk) (J Jx : Bk → World → Prop)
    (hY : ∀ pre x W, J pre W → pre.length < m.length → YieldAt F (n - 1) Try.prog l #[vdV x] W fun e W' => (e = .returned (.bool true) ∧ J (pre ++ [x]) W' ∧ KeepsWalks W W') ∨ (e = .returned (.bool false) ∧ Jx (pre ++ [x]) W'))
    (W : World) (hJ : AbidesFrom W.heap.size J) (hm : W.cell? ⟨Bm, 0, none⟩ = some (.map (some b))) (hown : Gv.At kd vdV b m W) (h0 : J [] W) :
    CallsIn F n Try.prog 39 #[.func (.yield l) #[] #[], .pointer (some ⟨Bm, 0, none⟩)] W fun e W' => (∃ v, e = .returned v) ∧ ((∃ xs, xs.Perm m ∧ J xs W') ∨ (∃ pre, True ∧ Jx pre W')) := by
  obtain ⟨w0, hrun, hr0, hg0, hs0⟩ := Gv.run_range Try.underlying55 hown
  have H0 : Hid (Gv.Rg kd vdV b W.heap.size m m w0 ∧ J [] w0) := ⟨hr0, hJ [] W w0 none h0 hg0 (fun r e => by cases e)⟩
  clear hr0 hg0 hs0 hown h0
  refine callsIn_of_wp Try.func39 rfl h39 ?_ hro
  simp only [Try.ntmps39, List.size_toArray, List.length_cons, List.length_nil, Nat.reduceAdd, Nat.reduceSub, Array.replicate_succ, Array.replicate_zero, List.push_toArray, List.append_toArray, List.nil_append, List.cons_append]
  gi_wp2
  gi_loopw [7] (fun _ wr => ∃ pre left : Bk, Gv.Rg kd vdV b W.heap.size m left wr ∧ (pre ++ left).Perm m ∧ J pre wr) (fun _ wr => wr.rangeLeft b W.heap.size)
  case atStart => exact ⟨[], m, H0.out.1, by simp, H0.out.2⟩
  case round =>
    obtain ⟨pre, left, hrg, hpm, hJs⟩ := hrel
    have HX : Hid (Gv.Rg kd vdV b W.heap.size m left wr ∧ (pre ++ left).Perm m ∧ J pre wr) := ⟨hrg, hpm, hJs⟩
    rcases hrg.next 0 with ⟨rfl, hn'⟩ | ⟨L1, x, L2, w1, rfl, hn', hr1, hg1, hs1, hen⟩
    · have hnx : ∀ ty, (Instr.next (.pointer (some ⟨W.heap.size, 0, none⟩)) false ty).run Try.prog wr = .ok (.tuple #[.bool false]) wr := fun _ => hn'
      clear hrg hpm hJs hn'
      gi_wp2
      go_end0
      exact ⟨⟨_, rfl⟩, .inl ⟨pre, by have := HX.out.2.1; simpa using this, HX.out.2.2⟩⟩
    · have hnx : ∀ ty, (Instr.next (.pointer (some ⟨W.heap.size, 0, none⟩)) false ty).run Try.prog wr = .ok (.tuple #[.bool true, .agg #[.int .u32 x.c, .int .u32 x.n], .agg #[.int .u32 x.c, .int .u32 x.n, .int .u64 x.sp, .int .u32 x.sl, .int .u64 x.ap, .int .u32 x.al, .int .u8 x.pt, .bool x.dn]]) w1 := fun _ => hn'
      have hent : (Instr.entry (.pointer (some ⟨W.heap.size, 0, none⟩))).run Try.prog w1 = .ok (.tuple #[.agg #[.int .u32 x.c, .int .u32 x.n], .agg #[.int .u32 x.c, .int .u32 x.n, .int .u64 x.sp, .int .u32 x.sl, .int .u64 x.ap, .int .u32 x.al, .int .u8 x.pt, .bool x.dn]]) w1 := hen
      have hJ1 : J pre w1 := hJ pre wr w1 (some W.heap.size) hJs hg1 (fun r e => by cases e; exact ⟨Nat.le_refl _, hrg.walk⟩)
      have hJ2 : J pre (w1.alloc (.cells #[.int .u32 x.c, .int .u32 x.n, .int .u64 x.sp, .int .u32 x.sl, .int .u64 x.ap, .int .u32 x.al, .int .u8 x.pt, .bool x.dn] 37)) := hJ pre w1 _ none hJ1 (World.grownBy_alloc w1 _ none) (fun r e => by cases e)
      have hlen : pre.length < m.length := by
        have := hpm.length_eq
        simp only [List.length_append, List.length_cons] at this
        omega
      have HR2 : Hid (Gv.Rg kd vdV b W.heap.size m (L1 ++ L2) (w1.alloc (.cells #[.int .u32 x.c, .int .u32 x.n, .int .u64 x.sp, .int .u32 x.sl, .int .u64 x.ap, .int .u32 x.al, .int .u8 x.pt, .bool x.dn] 37))) := hr1.on (al _)
      have HP : Hid ((pre ++ [x] ++ (L1 ++ L2)).Perm m ∧ (L1 ++ L2).length < (L1 ++ x :: L2).length) := by
        refine ⟨List.Perm.trans ?_ hpm, by simp⟩
        rw [List.append_assoc, List.singleton_append]
        exact List.Perm.append_left pre List.perm_middle.symm
      obtain ⟨fn, tmps, assign, body, hy, hR⟩ := hY pre x _ hJ2 hlen
      dsimp only [vdV] at hy
      clear hrg hpm hJs hn' hen hr1 hg1 hs1 hJ1 hJ2 hlen
      gi_wp2
      refine hR.mono ?_
      rintro e W3 (⟨rfl, hJ3, hk3⟩ | ⟨rfl, hJx3⟩)
      · have H3 : Hid (Gv.Rg kd vdV b W.heap.size m (L1 ++ L2) W3) := HR2.out.walks hk3
        gi_wp2
        go_roundw
        case rel => exact ⟨pre ++ [x], L1 ++ L2, H3.out, HP.out.1, hJ3⟩
        case measure => rw [H3.out.left_eq, HX.out.1.left_eq]; exact HP.out.2
      · gi_wp2
        refine bodyPost_ret (results_none rfl _ _ _) rfl ?_
        exact ⟨⟨_, rfl⟩, .inr ⟨pre ++ [x], trivial, hJx3⟩⟩

theorem vals_stops (F : Fence) (n : Nat) (h39 : F.fn 39) (hro : F.round = none) (hn : 1 ≤ n) (Bm b : Nat) (m : Bk) (w : World) (hBm : Bm < w.heap.size) (hm : w.cell? ⟨Bm, 0, none⟩ = some (.map (some b))) (hown : Gv.At kd vdV b m w) :
    SeqStopsK F n Try.prog 39 #[.pointer (some ⟨Bm, 0, none⟩)] (fun x : Vd => #[vdV x]) KeepsWalks (fun xs => xs.Perm m) (fun _ => True) m.length w := fun l J Jx W hW hJ _ hY h0 =>
  vals39 F n h39 hro hn l Bm b m J Jx hY W hJ ((hW.cell (p := ⟨Bm, 0, none⟩) hBm).trans hm) (hown.on hW) h0

set_option maxHeartbeats 400000 in
theorem values32 (F : Fence) (n : Nat) (h32 : F.fn 32) (hro : F.round = none) (mb : Option Nat) (w : World) :
    CallsIn F n Try.prog 32 #[.map mb] w fun e w' => e = .returned (.func (.func 39) #[] #[.pointer (some ⟨w.heap.size, 0, none⟩)]) ∧ w' = w.alloc (.cells #[.map mb] 55) := by
  refine callsIn_of_wp Try.func32 rfl h32 ?_ hro
  simp only [Try.ntmps32, List.size_toArray, List.length_cons, List.length_nil, Nat.reduceAdd, Nat.reduceSub, Array.replicate_succ, Array.replicate_zero, List.push_toArray, List.append_toArray, List.nil_append, List.cons_append]
  gi_wp2
  go_ret
  exact ⟨rfl, rfl⟩
end Go.Proofs.Ytkadaoebehgkbaa
