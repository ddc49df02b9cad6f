import Derived.Test.YtkdkgdollmmcnaaGreatWan
set_option maxHeartbeats 4000000
set_option maxRecDepth 100000
set_option linter.unusedVariables false
set_option linter.unusedSimpArgs false
namespace Go.Proofs.YtkdkgdollmmcnaaGreat
open Go.RowKit Go.Sort Go.Shelf
variable {M N : Nat → Prop} {W w : World} {f f' : Fo} {X X' : Ss} {Lo Lm : List Bo}
theorem Cx.bc (h : Cx M N w f X Lo Lm W) {b i : Nat} {cs : Array Value} {ty : TypeId} {v : Value} (hp : (b, cs, ty) ∈ Lo := by (repeat (first | exact List.Mem.head _ | refine List.Mem.tail _ ?_))) (e : cs[i]? = some v := by rfl) : W.cell? ⟨b, i, none⟩ = some v := block_cell (h.bx hp) e
theorem sr {ops : Array Oper} {rest : List Oper} {o : Oper} {a : Act} {Q : Exit → Act → World → Prop} {x y : Operand} {b : Nat} {cs : Array Value} {r : Rs} {vp : Value} (h : Cx M N w f X Lo ((b, cs, 41) :: Lm) W) (k : wpList Tryz.prog ops Q rest (a.put o.dst undef) (W.setRow b (rsc r vp).toArray)) (hgd : o.guard = none := by rfl) (ho : o.op = .store 41 x y := by rfl) (hx : a.eval x = .pointer (some ⟨b, 0, none⟩) := by rfl) (hy : a.eval y = .agg (rsc r vp).toArray := by rfl) (hold : cs.size = 11 := by rfl) (hv : vp.oneCell' = true := by rfl) : wpList Tryz.prog ops Q (o :: rest) a W :=
 wpList_store_row hgd 41 _ _ ho b _ hx hy 41 _ (h.bm mc) (by kernel_rfl) hold (rsc_all _ _ hv) k
theorem bj {fn : Func} {R : Ending → World → Prop} {a : Act} {p : Tmp} {b : Nat} {cs cs' : Array Value} (h : Cx M N w f X Lo ((b, cs, 41) :: Lm) W) (hR : R (.returned (.agg cs')) (W.setRow b cs')) (hf : fn.results = #[.cell p 41] := by rfl) (hp : a.tmps.getD p undef = .pointer (some ⟨b, 0, none⟩) := by rfl) (hs : cs'.size = 11 := by rfl) (hd : a.defers = [] := by rfl) : bodyPost Tryz.prog fn R .ret a (W.setRow b cs') :=
 bodyPost_ret (res11 hf hp hs (setRow_at (h.bm mc))) hd hR
theorem ej {b : Nat} {cs cs' : Array Value} {f0 : Fo} {X0 : Ss} {r : Rs} {E : Ending} (h : Cx (f0.In X0.act) N w f' X' Lo [(b, cs, 41)] W) (g : f'.sb = f0.sb ∧ Bd f' X') (e : E = .returned (rsV r) := by rfl) : Got f0 N X0 w X' r E (W.setRow b cs') :=
 ⟨e, _, (h.poke (setRow_kept _ _ _) (setRow_at (h.bm mc)) nb).to, g.1, g.2⟩
theorem fc {A : Nat → Prop} {b : Nat} {cs : Array Value} {ty : TypeId} {l : List Bo} (h : Fx A w b cs ty) (r : ∀ p ∈ l, Fx A w p.1 p.2.1 p.2.2) : ∀ p ∈ (b, cs, ty) :: l, Fx A w p.1 p.2.1 p.2.2 := fun p hp => by
 rcases List.mem_cons.1 hp with rfl | e
 ·exact h
 ·exact r p e
theorem nq {c1 c2 : Array Value} {t1 t2 : TypeId} (h : Cx M N w f X Lo [] w) (e : (w.alloc (.cells c1 t1)).alloc (.cells c2 t2) = W) : Hid (Cx M N w f X ((w.heap.size, c1, t1) :: Lo) [(w.heap.size + 1, c2, t2)] W) := by
 have h0 := (h.new c1 t1).newm c2 t2
 simp only [size_al] at h0
 rw [e] at h0
 exact h0
end Go.Proofs.YtkdkgdollmmcnaaGreat
