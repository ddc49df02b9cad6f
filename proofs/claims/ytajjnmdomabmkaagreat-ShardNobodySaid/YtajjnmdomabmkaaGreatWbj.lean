import Derived.Laws.Rows
import Derived.Test.YtajjnmdomabmkaaGreatWbi
set_option maxHeartbeats 4000000
set_option maxRecDepth 100000
set_option linter.unusedVariables false
namespace Go.Proofs.YtajjnmdomabmkaaGreat
open Go.RowKit
variable {SA : Nat → Nat → (Nat → Prop) → Sto.Sk → World → Prop} {TA : Nat → Nat → (Nat → Prop) → Lat.Tb → World → Prop} {BA : Nat → Nat → (Nat → Prop) → Ver.Bk → World → Prop}
variable {f : Fp} {M : Nat → Prop} {X : Sd} {a : Int} {g : Nat} {D : Drm.Dr} {w W W' : World} {Lo : List (Nat × Obj)}
def Bz (w W : World) : Prop := Below w.heap.size w W
theorem Bz.dr (h : Bz w W) : Bz w W.drew := Below.drew h
theorem Bz.al (h : Bz w W) (o : Obj) : Bz w (W.alloc o) := Below.alloc h (Below.size h) o
theorem Bz.st (h : Bz w W) {b : Nat} (hb : w.heap.size ≤ b) (o : Nat) (v : Value) : Bz w (W.setCell ⟨b, o, none⟩ v) := Below.setCell (p := ⟨b, o, none⟩) h hb v
theorem Bz.on (h : Bz w W) (hb : Below W.heap.size W W') : Bz w W' := Below.trans h (hb.mono (Below.size h))
theorem two_set {b : Nat} {ty : TypeId} {x0 x1 u v : Value} (h : W.heap[b]? = some (.cells #[x0, x1] ty (0, 0))) : ((W.setCell ⟨b, 0, none⟩ u).setCell ⟨b, 1, none⟩ v).cell? ⟨b, 0, none⟩ = some u ∧ ((W.setCell ⟨b, 0, none⟩ u).setCell ⟨b, 1, none⟩ v).cell? ⟨b, 1, none⟩ = some v := by
 have h1 := Drm.blk_setCell (k := 0) (u := u) h
 have h2 := Drm.blk_setCell (k := 1) (u := v) h1
 exact ⟨Drm.blk_cell h2 rfl, Drm.blk_cell h2 rfl⟩
theorem two_zero {b : Nat} {ty : TypeId} {x0 x1 : Value} (h : W.heap[b]? = some (.cells #[x0, x1] ty (0, 0))) : W.cell? ⟨b, 0, none⟩ = some x0 ∧ W.cell? ⟨b, 1, none⟩ = some x1 ∧ W.frozen? ⟨b, 0, none⟩ = false ∧ W.frozen? ⟨b, 1, none⟩ = false := ⟨Drm.blk_cell h rfl, Drm.blk_cell h rfl, Drm.blk_free h, Drm.blk_free h⟩
theorem two_new (u v : Value) (ty : TypeId) : (W.alloc (.cells #[u, v] ty)).cell? ⟨W.heap.size, 0, none⟩ = some u ∧ (W.alloc (.cells #[u, v] ty)).cell? ⟨W.heap.size, 1, none⟩ = some v := ⟨Drm.blk_cell (heap_alloc_new W _) rfl, Drm.blk_cell (heap_alloc_new W _) rfl⟩
structure XOk (X : Sd) : Prop where
 s : Ts X.sp X.sl
 n : Ts X.np X.nl
 b : Ts X.bp X.bl
 t : Ver.RgT (holdF X.T)
 i : ∀ x ∈ X.T, Ts x.2.sp x.2.sl ∧ Ts x.2.mp x.2.ml
 k : ∀ v ∈ X.K, Ver.RgV v
theorem merge_ts {p l fp q m : Int} (h1 : Ts p l) (h2 : Ts q m) : Ts (Clk.mergeF p l fp q m).1 (Clk.mergeF p l fp q m).2.1 := by
 have z : Ts 0 0 := ⟨⟨by decide, by decide⟩, by decide, by decide⟩
 unfold Clk.mergeF
 repeat' split
 all_goals first | exact z | (unfold Clk.maxF; split; exact h2; exact h1)
theorem hear195 (E : Env SA TA BA) (ph p l : Int) (h : ShAt SA TA BA f M X a g D w) (ht : X.wt < 9000) (hX : XOk X) (hph : 0 ≤ ph) (hp : Ts p l) :
  Calls Tryz.prog 195 #[.pointer (some ⟨f.sb, 0, none⟩), .int .u64 ph, .agg #[.int .u64 p, .int .u32 l]] w fun r w' => r = .returned (.int .i64 (hearF ph p l X a D).1) ∧ ShTo SA TA BA f M w (hearF ph p l X a D).2.1 a g (hearF ph p l X a D).2.2 w' := by
 obtain ⟨Lo, hLo⟩ : ∃ Lo : List (Nat × Obj), Lo = [(w.heap.size, .cells #[.int .u64 p, .int .u32 l] 32)] := ⟨_, rfl⟩
 have H1 : Hid (Cx SA TA BA f M w X a g D Lo (w.alloc (.cells #[.int .u64 p, .int .u32 l] 32))) := by
  rw [hLo]
  exact (Cx.start h).new E _ 32 (by decide)
 have CM : Hid (∀ W, Calls Tryz.prog 268 #[.agg #[.int .u64 X.np, .int .u32 X.nl], .int .u64 ph, .agg #[.int .u64 p, .int .u32 l]] W fun e w' => e = .returned (.tuple #[.agg #[.int .u64 (Clk.mergeF X.np X.nl ph p l).1, .int .u32 (Clk.mergeF X.np X.nl ph p l).2.1], .int .i64 (Clk.mergeF X.np X.nl ph p l).2.2]) ∧ Below W.heap.size W w') := fun W => Clk.merge11 X.np X.nl ph p l W hX.n.1.1 hX.n.2.1 hph hp.1.1 hp.2.1 (by have := hp.1.2; omega)
 have CV : Hid (∀ W, Cx SA TA BA f M w X a g D Lo W → Calls Tryz.prog 197 #[.pointer (some ⟨f.sb, 0, none⟩), .agg #[.int .u64 (Clk.mergeF X.np X.nl ph p l).1, .int .u32 (Clk.mergeF X.np X.nl ph p l).2.1]] W fun r w' => r = .returned (.int .i64 (advF (Clk.mergeF X.np X.nl ph p l).1 (Clk.mergeF X.np X.nl ph p l).2.1 X a D).1) ∧ Cx SA TA BA f M w (advF (Clk.mergeF X.np X.nl ph p l).1 (Clk.mergeF X.np X.nl ph p l).2.1 X a D).2.1 a g (advF (Clk.mergeF X.np X.nl ph p l).1 (Clk.mergeF X.np X.nl ph p l).2.1 X a D).2.2 Lo w') := fun W hW => hW.calls fun M' hM => advance197 E _ _ hM ht hX.t (merge_ts hX.n hp)
 have SO : Hid (∀ W, Cx SA TA BA f M w X a g D Lo W → W.cell? ⟨w.heap.size, 0, none⟩ = some (.int .u64 p) ∧ W.cell? ⟨w.heap.size, 1, none⟩ = some (.int .u32 l) ∧ W.cell? ⟨f.sb, 7, none⟩ = some (.int .u64 X.np) ∧ W.cell? ⟨f.sb, 8, none⟩ = some (.int .u32 X.nl)) := fun W hW => by
  subst hLo
  exact ⟨hW.has.cell (.head _) rfl, hW.has.cell (.head _) rfl, hW.nums.2.2.1, hW.nums.2.2.2.1⟩
 have ON : Hid (∀ W W', Cx SA TA BA f M w X a g D Lo W → Bz W W' → Cx SA TA BA f M w X a g D Lo W') := fun W W' hW hb => hW.on E hb
 have HN : Hid (hearF ph p l X a D = if (Clk.mergeF X.np X.nl ph p l).2.2 ≠ 0 then ((Clk.mergeF X.np X.nl ph p l).2.2, X, D) else advF (Clk.mergeF X.np X.nl ph p l).1 (Clk.mergeF X.np X.nl ph p l).2.1 X a D) := rfl
 generalize hearF ph p l X a D = Y at *
 generalize Clk.mergeF X.np X.nl ph p l = mg at *
 obtain ⟨m1, m2, er⟩ := mg
 dsimp only at CM CV HN
 generalize advF m1 m2 X a D = Z at *
 obtain ⟨z, X2, D2⟩ := Z
 dsimp only at CV
 clear h hLo ht hX hph hp E
 obtain ⟨W1, hW1⟩ : ∃ W1, w.alloc (.cells #[.int .u64 p, .int .u32 l] 32) = W1 := ⟨_, rfl⟩
 rw [hW1] at H1
 have HL : Hid (W1.heap.size ≤ W1.heap.size) := Nat.le_refl _
 have SB : Hid (∀ W, Bz W1 W → W.cell? ⟨w.heap.size, 0, none⟩ = some (.int .u64 p) ∧ W.cell? ⟨w.heap.size, 1, none⟩ = some (.int .u32 l) ∧ W.cell? ⟨f.sb, 7, none⟩ = some (.int .u64 X.np) ∧ W.cell? ⟨f.sb, 8, none⟩ = some (.int .u32 X.nl) ∧ Bz W1 W) := fun W hW => by
  obtain ⟨a1, a2, a3, a4⟩ := SO.out _ (ON.out _ _ H1.out hW)
  exact ⟨a1, a2, a3, a4, hW⟩
 have HZ : Hid (Bz W1 W1) := Below.refl _ _
 obtain ⟨x0, x1, n7, n8⟩ := SO.out _ H1.out
 go_enter Tryz.func195, Tryz.ntmps195
 go_wp2_with fail
 clear hW1
 go_cut [7, 8] (fun s7 s8 wc => ∃ vb, s7 = .pointer (some ⟨vb, 0, none⟩) ∧ s8 = .int .i64 er ∧ wc.cell? ⟨vb, 0, none⟩ = some (.int .u64 m1) ∧ wc.cell? ⟨vb, 1, none⟩ = some (.int .u32 m2) ∧ Bz W1 wc)
 case first =>
  go_region_held3 (fun W => W.cell? ⟨w.heap.size, 0, none⟩ = some (.int .u64 p) ∧ W.cell? ⟨w.heap.size, 1, none⟩ = some (.int .u32 l) ∧ W.cell? ⟨f.sb, 7, none⟩ = some (.int .u64 X.np) ∧ W.cell? ⟨f.sb, 8, none⟩ = some (.int .u32 X.nl) ∧ Bz W1 W)
   ((with_reducible refine SB.out _ ?_; with_reducible repeat (first | exact HZ.out | exact H2.out.1 | refine Bz.dr ?_ | refine Bz.al ?_ _ | refine Bz.st ?_ HL.out _ _ | refine Bz.st ?_ H2.out.2.1 _ _)))
   (first
   | (go_at_call 268; refine (CM.out _).mono ?_; rintro e w2 ⟨rfl, hb2⟩; have H2 : Hid (Bz W1 w2 ∧ W1.heap.size ≤ w2.heap.size ∧ True) := ⟨(by refine Bz.on ?_ hb2; with_reducible repeat (first | exact HZ.out | refine Bz.dr ?_ | refine Bz.al ?_ _)), Nat.le_trans (by simp) hb2.size, trivial⟩; first | ((with_reducible have Y3 := Sto.zero_box hb2); obtain ⟨y0, y1, g0, g1⟩ := two_zero Y3; have Y4 : Hid _ := Y3; clear Y3 hb2) | clear hb2))
  all_goals
   go_wp2_with fail
   go_meet
   first
   | exact ⟨_, rfl, rfl, (two_new _ _ _).1, (two_new _ _ _).2, Bz.al H2.out.1 _⟩
   | exact ⟨_, rfl, rfl, (two_set Y4.out).1, (two_set Y4.out).2, Bz.st (Bz.st H2.out.1 HL.out _ _) HL.out _ _⟩
 case rest =>
  obtain ⟨vb, rfl, rfl, v0, v1, hb⟩ := hcut
  have H2 : Hid (Cx SA TA BA f M w X a g D Lo wc) := ON.out _ _ H1.out hb
  clear hb H1 HZ HL SB x0 x1 n7 n8 CM SO
  by_cases h0 : er = 0
  ·subst h0
   have HN2 : Hid (Y = (z, X2, D2)) := by
    show _ = _
    rw [HN.out, if_neg (by decide)]
   clear HN
   go_wp2_with fail
   refine (CV.out _ H2.out).mono ?_
   rintro e w3 ⟨rfl, hq⟩
   have H3 : Hid _ := hq
   clear hq CV H2 v0 v1
   go_wp2_with fail
   go_ret
   rw [HN2.out]
   exact ⟨rfl, H3.out.to⟩
  ·have h0' : (er != 0) = true := by simp [h0]
   have HN2 : Hid (Y = (er, X, D)) := by
    show _ = _
    rw [HN.out, if_pos h0]
   clear HN h0
   go_wp2_with fail
   go_ret
   rw [HN2.out]
   exact ⟨rfl, H2.out.to⟩
end Go.Proofs.YtajjnmdomabmkaaGreat
namespace Go.Proofs.YtajjnmdomabmkaaGreat
open Go.RowKit
variable {SA : Nat → Nat → (Nat → Prop) → Sto.Sk → World → Prop} {TA : Nat → Nat → (Nat → Prop) → Lat.Tb → World → Prop} {BA : Nat → Nat → (Nat → Prop) → Ver.Bk → World → Prop}
variable {f : Fp} {M : Nat → Prop} {X : Sd} {a : Int} {g : Nat} {D : Drm.Dr} {w W W' : World} {Lo : List (Nat × Obj)}
def rpV (r : Rp) (sv : Value) : Value := .agg #[.int .i64 r.k, .int .i64 r.err, .bool r.found, .string (bs r.val), sv, .int .u32 r.c, .int .u32 r.n, .int .u64 r.sp, .int .u32 r.sl, .int .u64 r.ap, .int .u32 r.al, .string (bs r.prim), .int .u64 r.np, .int .u32 r.nl]
theorem info43 : (Tryz.prog.info? 43).map (·.size) = some 14 := by kernel_rfl
theorem info146 : (Tryz.prog.info? 146).map (·.size) = some 10 := by kernel_rfl
theorem res14 {fn : Func} {p : Tmp} (hf : fn.results = #[.cell p 43]) {tmps : Array Value} {b : Nat} (hp : tmps.getD p undef = .pointer (some ⟨b, 0, none⟩)) {vs : Array Value} (hs : vs.size = 14) (h : W.heap[b]? = some (.cells vs 43 (0, 0))) : (results fn tmps).run Tryz.prog W = .ok (.agg vs) W :=
 results_cell_row hf tmps W b 43 vs (0, 0) _ hp h Tryz.underlying43 rfl (by rw [hs]; exact info43)
theorem res14t {fn : Func} {p u : Tmp} (hf : fn.results = #[.cell p 43, .tmp u]) {tmps : Array Value} {b : Nat} (hp : tmps.getD p undef = .pointer (some ⟨b, 0, none⟩)) {vs : Array Value} (hs : vs.size = 14) (h : W.heap[b]? = some (.cells vs 43 (0, 0))) : (results fn tmps).run Tryz.prog W = .ok (.tuple #[.agg vs, tmps.getD u undef]) W := by
 rw [results_cell_tmp hf, hp]
 simp [asAddr, Result.andThen, run_loadVar_row W b 43 43 vs (0, 0) _ h Tryz.underlying43 rfl (by rw [hs]; exact info43)]
theorem res10t {fn : Func} {p u : Tmp} (hf : fn.results = #[.cell p 146, .tmp u]) {tmps : Array Value} {b : Nat} (hp : tmps.getD p undef = .pointer (some ⟨b, 0, none⟩)) {vs : Array Value} (hs : vs.size = 10) (h : W.heap[b]? = some (.cells vs 146 (0, 0))) : (results fn tmps).run Tryz.prog W = .ok (.tuple #[.agg vs, tmps.getD u undef]) W := by
 rw [results_cell_tmp hf, hp]
 simp [asAddr, Result.andThen, run_loadVar_row W b 146 146 vs (0, 0) _ h Tryz.underlying146 rfl (by rw [hs]; exact info146)]
theorem set10 {b : Nat} {ty : TypeId} {x0 x1 x2 x3 x4 x5 x6 x7 x8 x9 v0 v1 v2 v3 v4 v5 v6 v7 v8 v9 : Value} (h : W.heap[b]? = some (.cells #[x0, x1, x2, x3, x4, x5, x6, x7, x8, x9] ty (0, 0))) : ((((((((((W.setCell ⟨b, 0, none⟩ v0).setCell ⟨b, 1, none⟩ v1).setCell ⟨b, 2, none⟩ v2).setCell ⟨b, 3, none⟩ v3).setCell ⟨b, 4, none⟩ v4).setCell ⟨b, 5, none⟩ v5).setCell ⟨b, 6, none⟩ v6).setCell ⟨b, 7, none⟩ v7).setCell ⟨b, 8, none⟩ v8).setCell ⟨b, 9, none⟩ v9).heap[b]? = some (.cells #[v0, v1, v2, v3, v4, v5, v6, v7, v8, v9] ty (0, 0)) := by
 have h0 : (W.setCell ⟨b, 0, none⟩ v0).heap[b]? = some (.cells #[v0, x1, x2, x3, x4, x5, x6, x7, x8, x9] ty (0, 0)) := Drm.blk_setCell h
 generalize W.setCell ⟨b, 0, none⟩ v0 = W0 at *
 have h1 : (W0.setCell ⟨b, 1, none⟩ v1).heap[b]? = some (.cells #[v0, v1, x2, x3, x4, x5, x6, x7, x8, x9] ty (0, 0)) := Drm.blk_setCell h0
 generalize W0.setCell ⟨b, 1, none⟩ v1 = W1 at *
 have h2 : (W1.setCell ⟨b, 2, none⟩ v2).heap[b]? = some (.cells #[v0, v1, v2, x3, x4, x5, x6, x7, x8, x9] ty (0, 0)) := Drm.blk_setCell h1
 generalize W1.setCell ⟨b, 2, none⟩ v2 = W2 at *
 have h3 : (W2.setCell ⟨b, 3, none⟩ v3).heap[b]? = some (.cells #[v0, v1, v2, v3, x4, x5, x6, x7, x8, x9] ty (0, 0)) := Drm.blk_setCell h2
 generalize W2.setCell ⟨b, 3, none⟩ v3 = W3 at *
 have h4 : (W3.setCell ⟨b, 4, none⟩ v4).heap[b]? = some (.cells #[v0, v1, v2, v3, v4, x5, x6, x7, x8, x9] ty (0, 0)) := Drm.blk_setCell h3
 generalize W3.setCell ⟨b, 4, none⟩ v4 = W4 at *
 have h5 : (W4.setCell ⟨b, 5, none⟩ v5).heap[b]? = some (.cells #[v0, v1, v2, v3, v4, v5, x6, x7, x8, x9] ty (0, 0)) := Drm.blk_setCell h4
 generalize W4.setCell ⟨b, 5, none⟩ v5 = W5 at *
 have h6 : (W5.setCell ⟨b, 6, none⟩ v6).heap[b]? = some (.cells #[v0, v1, v2, v3, v4, v5, v6, x7, x8, x9] ty (0, 0)) := Drm.blk_setCell h5
 generalize W5.setCell ⟨b, 6, none⟩ v6 = W6 at *
 have h7 : (W6.setCell ⟨b, 7, none⟩ v7).heap[b]? = some (.cells #[v0, v1, v2, v3, v4, v5, v6, v7, x8, x9] ty (0, 0)) := Drm.blk_setCell h6
 generalize W6.setCell ⟨b, 7, none⟩ v7 = W7 at *
 have h8 : (W7.setCell ⟨b, 8, none⟩ v8).heap[b]? = some (.cells #[v0, v1, v2, v3, v4, v5, v6, v7, v8, x9] ty (0, 0)) := Drm.blk_setCell h7
 generalize W7.setCell ⟨b, 8, none⟩ v8 = W8 at *
 have h9 : (W8.setCell ⟨b, 9, none⟩ v9).heap[b]? = some (.cells #[v0, v1, v2, v3, v4, v5, v6, v7, v8, v9] ty (0, 0)) := Drm.blk_setCell h8
 exact h9
theorem bz10 {b : Nat} {v0 v1 v2 v3 v4 v5 v6 v7 v8 v9 : Value} (h : Bz w W) (hb : w.heap.size ≤ b) : Bz w ((((((((((W.setCell ⟨b, 0, none⟩ v0).setCell ⟨b, 1, none⟩ v1).setCell ⟨b, 2, none⟩ v2).setCell ⟨b, 3, none⟩ v3).setCell ⟨b, 4, none⟩ v4).setCell ⟨b, 5, none⟩ v5).setCell ⟨b, 6, none⟩ v6).setCell ⟨b, 7, none⟩ v7).setCell ⟨b, 8, none⟩ v8).setCell ⟨b, 9, none⟩ v9) := by
 refine Bz.st ?_ hb _ _
 refine Bz.st ?_ hb _ _
 refine Bz.st ?_ hb _ _
 refine Bz.st ?_ hb _ _
 refine Bz.st ?_ hb _ _
 refine Bz.st ?_ hb _ _
 refine Bz.st ?_ hb _ _
 refine Bz.st ?_ hb _ _
 refine Bz.st ?_ hb _ _
 refine Bz.st ?_ hb _ _
 exact h
theorem free10 {b : Nat} {ty : TypeId} {x0 x1 x2 x3 x4 x5 x6 x7 x8 x9 : Value} (h : W.heap[b]? = some (.cells #[x0, x1, x2, x3, x4, x5, x6, x7, x8, x9] ty (0, 0))) : W.cell? ⟨b, 0, none⟩ = some x0 ∧ W.cell? ⟨b, 1, none⟩ = some x1 ∧ W.cell? ⟨b, 2, none⟩ = some x2 ∧ W.cell? ⟨b, 3, none⟩ = some x3 ∧ W.cell? ⟨b, 4, none⟩ = some x4 ∧ W.cell? ⟨b, 5, none⟩ = some x5 ∧ W.cell? ⟨b, 6, none⟩ = some x6 ∧ W.cell? ⟨b, 7, none⟩ = some x7 ∧ W.cell? ⟨b, 8, none⟩ = some x8 ∧ W.cell? ⟨b, 9, none⟩ = some x9 ∧ W.frozen? ⟨b, 0, none⟩ = false ∧ W.frozen? ⟨b, 1, none⟩ = false ∧ W.frozen? ⟨b, 2, none⟩ = false ∧ W.frozen? ⟨b, 3, none⟩ = false ∧ W.frozen? ⟨b, 4, none⟩ = false ∧ W.frozen? ⟨b, 5, none⟩ = false ∧ W.frozen? ⟨b, 6, none⟩ = false ∧ W.frozen? ⟨b, 7, none⟩ = false ∧ W.frozen? ⟨b, 8, none⟩ = false ∧ W.frozen? ⟨b, 9, none⟩ = false :=
 ⟨Drm.blk_cell h rfl, Drm.blk_cell h rfl, Drm.blk_cell h rfl, Drm.blk_cell h rfl, Drm.blk_cell h rfl, Drm.blk_cell h rfl, Drm.blk_cell h rfl, Drm.blk_cell h rfl, Drm.blk_cell h rfl, Drm.blk_cell h rfl, Drm.blk_free h, Drm.blk_free h, Drm.blk_free h, Drm.blk_free h, Drm.blk_free h, Drm.blk_free h, Drm.blk_free h, Drm.blk_free h, Drm.blk_free h, Drm.blk_free h⟩
theorem set14 {b : Nat} {ty : TypeId} {x0 x1 x2 x3 x4 x5 x6 x7 x8 x9 x10 x11 x12 x13 v0 v1 v2 v3 v4 v5 v6 v7 v8 v9 v10 v11 v12 v13 : Value} (h : W.heap[b]? = some (.cells #[x0, x1, x2, x3, x4, x5, x6, x7, x8, x9, x10, x11, x12, x13] ty (0, 0))) : ((((((((((((((W.setCell ⟨b, 0, none⟩ v0).setCell ⟨b, 1, none⟩ v1).setCell ⟨b, 2, none⟩ v2).setCell ⟨b, 3, none⟩ v3).setCell ⟨b, 4, none⟩ v4).setCell ⟨b, 5, none⟩ v5).setCell ⟨b, 6, none⟩ v6).setCell ⟨b, 7, none⟩ v7).setCell ⟨b, 8, none⟩ v8).setCell ⟨b, 9, none⟩ v9).setCell ⟨b, 10, none⟩ v10).setCell ⟨b, 11, none⟩ v11).setCell ⟨b, 12, none⟩ v12).setCell ⟨b, 13, none⟩ v13).heap[b]? = some (.cells #[v0, v1, v2, v3, v4, v5, v6, v7, v8, v9, v10, v11, v12, v13] ty (0, 0)) := by
 have h0 : (W.setCell ⟨b, 0, none⟩ v0).heap[b]? = some (.cells #[v0, x1, x2, x3, x4, x5, x6, x7, x8, x9, x10, x11, x12, x13] ty (0, 0)) := Drm.blk_setCell h
 generalize W.setCell ⟨b, 0, none⟩ v0 = W0 at *
 have h1 : (W0.setCell ⟨b, 1, none⟩ v1).heap[b]? = some (.cells #[v0, v1, x2, x3, x4, x5, x6, x7, x8, x9, x10, x11, x12, x13] ty (0, 0)) := Drm.blk_setCell h0
 generalize W0.setCell ⟨b, 1, none⟩ v1 = W1 at *
 have h2 : (W1.setCell ⟨b, 2, none⟩ v2).heap[b]? = some (.cells #[v0, v1, v2, x3, x4, x5, x6, x7, x8, x9, x10, x11, x12, x13] ty (0, 0)) := Drm.blk_setCell h1
 generalize W1.setCell ⟨b, 2, none⟩ v2 = W2 at *
 have h3 : (W2.setCell ⟨b, 3, none⟩ v3).heap[b]? = some (.cells #[v0, v1, v2, v3, x4, x5, x6, x7, x8, x9, x10, x11, x12, x13] ty (0, 0)) := Drm.blk_setCell h2
 generalize W2.setCell ⟨b, 3, none⟩ v3 = W3 at *
 have h4 : (W3.setCell ⟨b, 4, none⟩ v4).heap[b]? = some (.cells #[v0, v1, v2, v3, v4, x5, x6, x7, x8, x9, x10, x11, x12, x13] ty (0, 0)) := Drm.blk_setCell h3
 generalize W3.setCell ⟨b, 4, none⟩ v4 = W4 at *
 have h5 : (W4.setCell ⟨b, 5, none⟩ v5).heap[b]? = some (.cells #[v0, v1, v2, v3, v4, v5, x6, x7, x8, x9, x10, x11, x12, x13] ty (0, 0)) := Drm.blk_setCell h4
 generalize W4.setCell ⟨b, 5, none⟩ v5 = W5 at *
 have h6 : (W5.setCell ⟨b, 6, none⟩ v6).heap[b]? = some (.cells #[v0, v1, v2, v3, v4, v5, v6, x7, x8, x9, x10, x11, x12, x13] ty (0, 0)) := Drm.blk_setCell h5
 generalize W5.setCell ⟨b, 6, none⟩ v6 = W6 at *
 have h7 : (W6.setCell ⟨b, 7, none⟩ v7).heap[b]? = some (.cells #[v0, v1, v2, v3, v4, v5, v6, v7, x8, x9, x10, x11, x12, x13] ty (0, 0)) := Drm.blk_setCell h6
 generalize W6.setCell ⟨b, 7, none⟩ v7 = W7 at *
 have h8 : (W7.setCell ⟨b, 8, none⟩ v8).heap[b]? = some (.cells #[v0, v1, v2, v3, v4, v5, v6, v7, v8, x9, x10, x11, x12, x13] ty (0, 0)) := Drm.blk_setCell h7
 generalize W7.setCell ⟨b, 8, none⟩ v8 = W8 at *
 have h9 : (W8.setCell ⟨b, 9, none⟩ v9).heap[b]? = some (.cells #[v0, v1, v2, v3, v4, v5, v6, v7, v8, v9, x10, x11, x12, x13] ty (0, 0)) := Drm.blk_setCell h8
 generalize W8.setCell ⟨b, 9, none⟩ v9 = W9 at *
 have h10 : (W9.setCell ⟨b, 10, none⟩ v10).heap[b]? = some (.cells #[v0, v1, v2, v3, v4, v5, v6, v7, v8, v9, v10, x11, x12, x13] ty (0, 0)) := Drm.blk_setCell h9
 generalize W9.setCell ⟨b, 10, none⟩ v10 = W10 at *
 have h11 : (W10.setCell ⟨b, 11, none⟩ v11).heap[b]? = some (.cells #[v0, v1, v2, v3, v4, v5, v6, v7, v8, v9, v10, v11, x12, x13] ty (0, 0)) := Drm.blk_setCell h10
 generalize W10.setCell ⟨b, 11, none⟩ v11 = W11 at *
 have h12 : (W11.setCell ⟨b, 12, none⟩ v12).heap[b]? = some (.cells #[v0, v1, v2, v3, v4, v5, v6, v7, v8, v9, v10, v11, v12, x13] ty (0, 0)) := Drm.blk_setCell h11
 generalize W11.setCell ⟨b, 12, none⟩ v12 = W12 at *
 have h13 : (W12.setCell ⟨b, 13, none⟩ v13).heap[b]? = some (.cells #[v0, v1, v2, v3, v4, v5, v6, v7, v8, v9, v10, v11, v12, v13] ty (0, 0)) := Drm.blk_setCell h12
 exact h13
theorem bz14 {b : Nat} {v0 v1 v2 v3 v4 v5 v6 v7 v8 v9 v10 v11 v12 v13 : Value} (h : Bz w W) (hb : w.heap.size ≤ b) : Bz w ((((((((((((((W.setCell ⟨b, 0, none⟩ v0).setCell ⟨b, 1, none⟩ v1).setCell ⟨b, 2, none⟩ v2).setCell ⟨b, 3, none⟩ v3).setCell ⟨b, 4, none⟩ v4).setCell ⟨b, 5, none⟩ v5).setCell ⟨b, 6, none⟩ v6).setCell ⟨b, 7, none⟩ v7).setCell ⟨b, 8, none⟩ v8).setCell ⟨b, 9, none⟩ v9).setCell ⟨b, 10, none⟩ v10).setCell ⟨b, 11, none⟩ v11).setCell ⟨b, 12, none⟩ v12).setCell ⟨b, 13, none⟩ v13) := by
 refine Bz.st ?_ hb _ _
 refine Bz.st ?_ hb _ _
 refine Bz.st ?_ hb _ _
 refine Bz.st ?_ hb _ _
 refine Bz.st ?_ hb _ _
 refine Bz.st ?_ hb _ _
 refine Bz.st ?_ hb _ _
 refine Bz.st ?_ hb _ _
 refine Bz.st ?_ hb _ _
 refine Bz.st ?_ hb _ _
 refine Bz.st ?_ hb _ _
 refine Bz.st ?_ hb _ _
 refine Bz.st ?_ hb _ _
 refine Bz.st ?_ hb _ _
 exact h
theorem free14 {b : Nat} {ty : TypeId} {x0 x1 x2 x3 x4 x5 x6 x7 x8 x9 x10 x11 x12 x13 : Value} (h : W.heap[b]? = some (.cells #[x0, x1, x2, x3, x4, x5, x6, x7, x8, x9, x10, x11, x12, x13] ty (0, 0))) : W.cell? ⟨b, 0, none⟩ = some x0 ∧ W.cell? ⟨b, 1, none⟩ = some x1 ∧ W.cell? ⟨b, 2, none⟩ = some x2 ∧ W.cell? ⟨b, 3, none⟩ = some x3 ∧ W.cell? ⟨b, 4, none⟩ = some x4 ∧ W.cell? ⟨b, 5, none⟩ = some x5 ∧ W.cell? ⟨b, 6, none⟩ = some x6 ∧ W.cell? ⟨b, 7, none⟩ = some x7 ∧ W.cell? ⟨b, 8, none⟩ = some x8 ∧ W.cell? ⟨b, 9, none⟩ = some x9 ∧ W.cell? ⟨b, 10, none⟩ = some x10 ∧ W.cell? ⟨b, 11, none⟩ = some x11 ∧ W.cell? ⟨b, 12, none⟩ = some x12 ∧ W.cell? ⟨b, 13, none⟩ = some x13 ∧ W.frozen? ⟨b, 0, none⟩ = false ∧ W.frozen? ⟨b, 1, none⟩ = false ∧ W.frozen? ⟨b, 2, none⟩ = false ∧ W.frozen? ⟨b, 3, none⟩ = false ∧ W.frozen? ⟨b, 4, none⟩ = false ∧ W.frozen? ⟨b, 5, none⟩ = false ∧ W.frozen? ⟨b, 6, none⟩ = false ∧ W.frozen? ⟨b, 7, none⟩ = false ∧ W.frozen? ⟨b, 8, none⟩ = false ∧ W.frozen? ⟨b, 9, none⟩ = false ∧ W.frozen? ⟨b, 10, none⟩ = false ∧ W.frozen? ⟨b, 11, none⟩ = false ∧ W.frozen? ⟨b, 12, none⟩ = false ∧ W.frozen? ⟨b, 13, none⟩ = false :=
 ⟨Drm.blk_cell h rfl, Drm.blk_cell h rfl, Drm.blk_cell h rfl, Drm.blk_cell h rfl, Drm.blk_cell h rfl, Drm.blk_cell h rfl, Drm.blk_cell h rfl, Drm.blk_cell h rfl, Drm.blk_cell h rfl, Drm.blk_cell h rfl, Drm.blk_cell h rfl, Drm.blk_cell h rfl, Drm.blk_cell h rfl, Drm.blk_cell h rfl, Drm.blk_free h, Drm.blk_free h, Drm.blk_free h, Drm.blk_free h, Drm.blk_free h, Drm.blk_free h, Drm.blk_free h, Drm.blk_free h, Drm.blk_free h, Drm.blk_free h, Drm.blk_free h, Drm.blk_free h, Drm.blk_free h, Drm.blk_free h⟩
theorem size_al2 (w : World) {o : Obj} : (w.alloc o).heap.size = w.heap.size + 1 := by simp
theorem refused46 (e : Int) (w : World) : Calls Tryz.prog 46 #[.int .i64 e] w fun r w' => r = .returned (rpV (refR e) (.slice none 0 0)) ∧ Below w.heap.size w w' := by
 go_enter Tryz.func46, Tryz.ntmps46
 go_wp2_with fail
 refine bodyPost_ret (res14 rfl rfl rfl (heap_alloc_new w _)) rfl ?_
 exact ⟨rfl, (Below.refl _ _).alloc (Nat.le_refl _) _⟩
theorem said193 (k p l : Int) (w : World) : Calls Tryz.prog 193 #[.int .i64 k, .agg #[.int .u64 p, .int .u32 l]] w fun r w' => r = .returned (rpV (saidR k p l) (.slice none 0 0)) ∧ Below w.heap.size w w' := by
 have HB : Hid (Bz w (w.alloc (.cells #[.int .u64 p, .int .u32 l] 32))) := Bz.al (Below.refl _ _) _
 go_enter Tryz.func193, Tryz.ntmps193
 go_wp2_with fail
 refine bodyPost_ret (res14 rfl rfl rfl (by rw [← size_al2 w]; exact heap_alloc_new _ _)) rfl ?_
 exact ⟨rfl, HB.out.al _⟩
theorem locked263 (x : List UInt8 × Lat.Ii) (w : World) : Calls Tryz.prog 263 #[Lat.inV x] w fun r w' => r = .returned (rpV (lockR x.2) (.slice none 0 0)) ∧ Below w.heap.size w w' := by
 unfold Lat.inV
 have HB : Hid (∀ o, Bz w (w.alloc o)) := fun o => Bz.al (Below.refl _ _) _
 go_enter Tryz.func263, Tryz.ntmps263
 go_wp2_with fail
 refine bodyPost_ret (res14 rfl rfl rfl (by rw [← size_al2 w]; exact heap_alloc_new _ _)) rfl ?_
 exact ⟨rfl, (HB.out _).al _⟩
end Go.Proofs.YtajjnmdomabmkaaGreat
namespace Go.Proofs.YtajjnmdomabmkaaGreat
open Go.RowKit
variable {SA : Nat → Nat → (Nat → Prop) → Sto.Sk → World → Prop} {TA : Nat → Nat → (Nat → Prop) → Lat.Tb → World → Prop} {BA : Nat → Nat → (Nat → Prop) → Ver.Bk → World → Prop}
variable {f : Fp} {M : Nat → Prop} {X : Sd} {a : Int} {g : Nat} {D : Drm.Dr} {w W W' : World} {Lo : List (Nat × Obj)}
theorem Bo.nil (w : World) : Bo w [] w := ⟨(fun p hp => by simp at hp), Below.refl _ _⟩
theorem own192 (E : Env SA TA BA) (c n : Int) (h : ShAt SA TA BA f M X a g D w) (ht : X.wt < 9000) :
  Calls Tryz.prog 192 #[.pointer (some ⟨f.sb, 0, none⟩), .agg #[.int .u32 c, .int .u32 n]] w fun e w' => e = .returned (Lat.fsV (ownF c n X)) ∧ Below w.heap.size w w' := by
 have CB : Hid (∀ W, Bz w W → Calls Tryz.prog 101 #[.pointer (some ⟨f.la, 0, none⟩), .agg #[.int .u32 c, .int .u32 n]] W fun e w' => ∃ ao cap, e = .returned (.slice ao (Lat.byF c n X.T).length cap) ∧ Lat.IsAt w'.heap.size (.slice ao (Lat.byF c n X.T).length cap) (Lat.byF c n X.T) w' ∧ Below W.heap.size W w') := fun W hb => by
  obtain ⟨M9, h9, -⟩ := h.on E hb
  refine (sh_by E c n h9 (wt_T ht)).mono ?_
  rintro e w' ⟨v', rfl, hi, -, hb'⟩
  have hi' := hi
  obtain ⟨ao, cap, rfl, -⟩ := hi'
  exact ⟨ao, cap, rfl, hi, hb'⟩
 have HY : Hid (ownF c n X = (Lat.byF c n X.T).head?) := rfl
 generalize ownF c n X = Y at *
 generalize Lat.byF c n X.T = L at *
 have HS : Hid (w.cell? ⟨f.sb, 3, none⟩ = some (.pointer (some ⟨f.la, 0, none⟩))) := h.cells.2.2.2.1
 clear h ht E
 generalize f.sb = sb at *
 generalize f.la = la at *
 obtain ⟨b1, hb1⟩ : ∃ b1, b1 = w.heap.size + 1 := ⟨_, rfl⟩
 have H0 : Hid (Bo w [(b1, .cells #[.int .u32 0, .int .u32 0, .int .u64 0, .int .u32 0, .int .u64 0, .int .u32 0, .string ⟨#[]⟩, .string ⟨#[]⟩, .string ⟨#[]⟩, .bool false] 146), (w.heap.size, .cells #[.int .u32 c, .int .u32 n] 30)] ((w.alloc (.cells #[.int .u32 c, .int .u32 n] 30)).alloc (.cells #[.int .u32 0, .int .u32 0, .int .u64 0, .int .u32 0, .int .u64 0, .int .u32 0, .string ⟨#[]⟩, .string ⟨#[]⟩, .string ⟨#[]⟩, .bool false] 146))) := by
  show Bo _ _ _
  have h1 := ((Bo.nil w).new (.cells #[.int .u32 c, .int .u32 n] 30)).new (.cells #[.int .u32 0, .int .u32 0, .int .u64 0, .int .u32 0, .int .u64 0, .int .u32 0, .string ⟨#[]⟩, .string ⟨#[]⟩, .string ⟨#[]⟩, .bool false] 146)
  rw [size_al2] at h1
  rw [hb1]
  exact h1
 have HB1 : Hid (w.heap.size ≤ b1 ∧ b1 = w.heap.size + 1) := ⟨by omega, hb1⟩
 obtain ⟨W2, hW2⟩ : ∃ W2, (w.alloc (.cells #[.int .u32 c, .int .u32 n] 30)).alloc (.cells #[.int .u32 0, .int .u32 0, .int .u64 0, .int .u32 0, .int .u64 0, .int .u32 0, .string ⟨#[]⟩, .string ⟨#[]⟩, .string ⟨#[]⟩, .bool false] 146) = W2 := ⟨_, rfl⟩
 rw [hW2] at H0
 obtain ⟨Lo, hLo⟩ : ∃ Lo, Lo = [(b1, Obj.cells #[.int .u32 0, .int .u32 0, .int .u64 0, .int .u32 0, .int .u64 0, .int .u32 0, .string ⟨#[]⟩, .string ⟨#[]⟩, .string ⟨#[]⟩, .bool false] 146), (w.heap.size, .cells #[.int .u32 c, .int .u32 n] 30)] := ⟨_, rfl⟩
 rw [← hLo] at H0
 have SO : Hid (∀ W, Bo w Lo W → W.cell? ⟨sb, 3, none⟩ = some (.pointer (some ⟨la, 0, none⟩)) ∧ W.cell? ⟨w.heap.size, 0, none⟩ = some (.int .u32 c) ∧ W.cell? ⟨w.heap.size, 1, none⟩ = some (.int .u32 n) ∧ Hid (Bo w Lo W)) := fun W hW => by
  subst hLo
  exact ⟨(hW.bel.cell (p := ⟨sb, 3, none⟩) (World.block_lt_of_cell? _ _ HS.out)).trans HS.out, hW.has.cell (.tail _ (.head _)) rfl, hW.has.cell (.tail _ (.head _)) rfl, hW⟩
 have SP : Hid (∀ W, Bo w Lo W → W.heap[b1]? = some (.cells #[.int .u32 0, .int .u32 0, .int .u64 0, .int .u32 0, .int .u64 0, .int .u32 0, .string ⟨#[]⟩, .string ⟨#[]⟩, .string ⟨#[]⟩, .bool false] 146 (0, 0))) := fun W hW => by
  subst hLo
  exact hW.has _ (.head _)
 clear hLo HS
 go_enter Tryz.func192, Tryz.ntmps192
 go_wp2_with fail
 rw [← hb1]
 clear hW2 hb1
 go_region_held3 (fun W => W.cell? ⟨sb, 3, none⟩ = some (.pointer (some ⟨la, 0, none⟩)) ∧ W.cell? ⟨w.heap.size, 0, none⟩ = some (.int .u32 c) ∧ W.cell? ⟨w.heap.size, 1, none⟩ = some (.int .u32 n) ∧ Hid (Bo w Lo W))
  (first | exact SO.out _ H0.out | exact SO.out _ H0.out.drew | exact SO.out _ H1.out.1)
  (first
  | (go_at_call 101; refine (CB.out _ H0.out.drew.bel).mono ?_; rintro e w2 ⟨ao, cap, rfl, hi, hb⟩; have H1 : Hid (Bo w Lo w2 ∧ Lat.IsAt w2.heap.size (.slice ao L.length cap) L w2) := ⟨H0.out.drew.on hb, hi⟩; clear hi hb))
 rename_i hHeld
 clear hHeld
 have z := free10 (SP.out _ H1.out.1)
 obtain ⟨z0, z1, z2, z3, z4, z5, z6, z7, z8, z9, f0, f1, f2, f3, f4, f5, f6, f7, f8, f9⟩ := z
 cases L with
 | nil =>
  have hY : Y = none := HY.out
  subst hY
  clear HY
  simp only [List.length_nil] at *
  go_wp2_with fail
  refine bodyPost_ret (res10t rfl rfl rfl (set10 (SP.out _ H1.out.1))) rfl ?_
  exact ⟨rfl, bz10 H1.out.1.bel HB1.out.1⟩
 | cons x r =>
  have hY : Y = some x := HY.out
  subst hY
  clear HY
  obtain ⟨b, off, rfl, e0, e1, e2, e3, e4, e5, e6, e7, e8, e9⟩ := Lat.IsAt.el H1.out.2 (i := 0) (by simp)
  rw [show (x :: r).getD 0 Lat.di = x from rfl] at e0 e1 e2 e3 e4 e5 e6 e7 e8 e9
  simp only [Nat.zero_mul, Nat.add_zero] at e0 e1 e2 e3 e4 e5 e6 e7 e8 e9
  have hl : (((x :: r).length : Nat) : Int) = r.length + 1 := by simp
  have hl0 : ((((x :: r).length : Nat) : Int) == 0) = false := by rw [hl]; simp; omega
  have hl1 : (0 : Int) < ((x :: r).length : Nat) := by rw [hl]; omega
  generalize (x :: r).length = m at *
  clear hl
  go_wp2_with fail
  refine bodyPost_ret (res10t rfl rfl rfl (set10 (SP.out _ H1.out.1))) rfl ?_
  exact ⟨rfl, bz10 H1.out.1.bel HB1.out.1⟩
theorem new10 {v0 v1 v2 v3 v4 v5 v6 v7 v8 v9 : Value} : (W.alloc (.cells #[v0, v1, v2, v3, v4, v5, v6, v7, v8, v9] 146)).heap[W.heap.size]? = some (.cells #[v0, v1, v2, v3, v4, v5, v6, v7, v8, v9] 146 (0, 0)) := heap_alloc_new W _
theorem of_parts (k : List UInt8) (o : Option Lat.Ii) : ∃ q y z, Lat.ofV k o = .tuple #[Lat.inV (q, y), .bool z] ∧ z = o.isSome ∧ (∀ x, o = some x → y = x ∧ q = k) := by
 cases o with
 | none => exact ⟨_, _, _, rfl, rfl, fun x e => by cases e⟩
 | some x => exact ⟨_, _, _, rfl, rfl, fun x e => by injection e with e; exact ⟨e, rfl⟩⟩
theorem prim199 (E : Env SA TA BA) (x : List UInt8 × Lat.Ii) (h : ShAt SA TA BA f M X a g D w) (ht : X.wt < 9000) :
  Calls Tryz.prog 199 #[.pointer (some ⟨f.sb, 0, none⟩), Lat.inV x] w fun e w' => e = .returned (.bool (primF x.2 X)) ∧ Below w.heap.size w w' := by
 obtain ⟨k, x⟩ := x
 obtain ⟨q, y, z, hq, hz, hy⟩ := of_parts x.prim (getF x.prim X.T)
 have CO : Hid (∀ W, Bz w W → Calls Tryz.prog 212 #[.pointer (some ⟨f.la, 0, none⟩), .string (bs x.prim)] W fun e w' => e = .returned (.tuple #[.agg #[.int .u32 y.c, .int .u32 y.n, .int .u64 y.sp, .int .u32 y.sl, .int .u64 y.mp, .int .u32 y.ml, .string (bs y.prim), .string (bs q), .string (bs y.val), .bool y.dead], .bool z]) ∧ Below W.heap.size W w') := fun W hb => by
  obtain ⟨M9, h9, -⟩ := h.on E hb
  have := sh_iof E x.prim h9 (wt_T ht)
  rw [hq] at this
  exact this
 have HP : Hid (primF x X = (z && (y.c == x.c && y.n == x.n))) := by
  show primF x X = _
  unfold primF
  rw [hz]
  cases hg : getF x.prim X.T with
  | none => rfl
  | some u => rw [(hy u hg).1]; rfl
 have HS : Hid (w.cell? ⟨f.sb, 3, none⟩ = some (.pointer (some ⟨f.la, 0, none⟩))) := h.cells.2.2.2.1
 have eq30 : ∀ W, (binOp .eql 30 (.agg #[.int .u32 y.c, .int .u32 y.n]) (.agg #[.int .u32 x.c, .int .u32 x.n])).run Tryz.prog W = .ok (.bool (y.c == x.c && y.n == x.n)) W := fun W => Lat.run_eql32 _ _ _ _ W
 generalize (y.c == x.c && y.n == x.n) = r at *
 generalize primF x X = P at *
 unfold Lat.inV
 clear h ht E hq hz hy
 generalize f.sb = sb at *
 generalize f.la = la at *
 have H0 : Hid (Bo w [(w.heap.size, .cells #[.int .u32 x.c, .int .u32 x.n, .int .u64 x.sp, .int .u32 x.sl, .int .u64 x.mp, .int .u32 x.ml, .string (bs x.prim), .string (bs k), .string (bs x.val), .bool x.dead] 146)] (w.alloc (.cells #[.int .u32 x.c, .int .u32 x.n, .int .u64 x.sp, .int .u32 x.sl, .int .u64 x.mp, .int .u32 x.ml, .string (bs x.prim), .string (bs k), .string (bs x.val), .bool x.dead] 146))) := (Bo.nil w).new _
 obtain ⟨W1, hW1⟩ : ∃ W1, w.alloc (.cells #[.int .u32 x.c, .int .u32 x.n, .int .u64 x.sp, .int .u32 x.sl, .int .u64 x.mp, .int .u32 x.ml, .string (bs x.prim), .string (bs k), .string (bs x.val), .bool x.dead] 146) = W1 := ⟨_, rfl⟩
 rw [hW1] at H0
 have SB : Hid (∀ W, Bz W1 W → W.cell? ⟨sb, 3, none⟩ = some (.pointer (some ⟨la, 0, none⟩)) ∧ W.cell? ⟨w.heap.size, 6, none⟩ = some (.string (bs x.prim)) ∧ W.cell? ⟨w.heap.size, 0, none⟩ = some (.int .u32 x.c) ∧ W.cell? ⟨w.heap.size, 1, none⟩ = some (.int .u32 x.n) ∧ Bz W1 W) := fun W hW => by
  have h1 := H0.out.on hW
  exact ⟨(h1.bel.cell (p := ⟨sb, 3, none⟩) (World.block_lt_of_cell? _ _ HS.out)).trans HS.out, h1.has.cell (.head _) rfl, h1.has.cell (.head _) rfl, h1.has.cell (.head _) rfl, hW⟩
 have HZ : Hid (Bz W1 W1) := Below.refl _ _
 have HL : Hid (W1.heap.size ≤ W1.heap.size) := Nat.le_refl _
 have TB : Hid (∀ W, Bz W1 W → Bz w W) := fun W hW => (H0.out.on hW).bel
 clear H0 HS
 go_enter Tryz.func199, Tryz.ntmps199
 go_wp2_with fail
 clear hW1
 obtain ⟨s3, s6, -, -, -⟩ := SB.out _ HZ.out
 go_cut [5, 6] (fun s5 s6 wc => ∃ vb, s5 = .pointer (some ⟨vb, 0, none⟩) ∧ s6 = .bool z ∧ wc.heap[vb]? = some (.cells #[.int .u32 y.c, .int .u32 y.n, .int .u64 y.sp, .int .u32 y.sl, .int .u64 y.mp, .int .u32 y.ml, .string (bs y.prim), .string (bs q), .string (bs y.val), .bool y.dead] 146 (0, 0)) ∧ Bz W1 wc)
 case first =>
  go_region_held3 (fun W => W.cell? ⟨sb, 3, none⟩ = some (.pointer (some ⟨la, 0, none⟩)) ∧ W.cell? ⟨w.heap.size, 6, none⟩ = some (.string (bs x.prim)) ∧ W.cell? ⟨w.heap.size, 0, none⟩ = some (.int .u32 x.c) ∧ W.cell? ⟨w.heap.size, 1, none⟩ = some (.int .u32 x.n) ∧ Bz W1 W)
   ((with_reducible refine SB.out _ ?_; with_reducible repeat (first | exact HZ.out | exact H2.out.1 | refine Bz.dr ?_ | refine Bz.al ?_ _ | refine Bz.st ?_ HL.out _ _ | refine Bz.st ?_ H2.out.2 _ _)))
   (first
   | (go_at_call 212; refine (CO.out _ (TB.out _ (by with_reducible repeat (first | exact HZ.out | refine Bz.dr ?_ | refine Bz.al ?_ _)))).mono ?_; rintro e w2 ⟨rfl, hb2⟩; have H2 : Hid (Bz W1 w2 ∧ W1.heap.size ≤ w2.heap.size) := ⟨(by refine Bz.on ?_ hb2; with_reducible repeat (first | exact HZ.out | refine Bz.dr ?_ | refine Bz.al ?_ _)), Nat.le_trans (by simp) hb2.size⟩; first | ((with_reducible have Y3 := Sto.zero_box hb2); obtain ⟨y0, y1, y2, y3, y4, y5, y6, y7, y8, y9, g0, g1, g2, g3, g4, g5, g6, g7, g8, g9⟩ := free10 Y3; have Y4 : Hid _ := Y3; clear Y3 hb2) | clear hb2))
  all_goals
   go_wp2_with fail
   go_meet
   first
   | with_reducible exact ⟨_, rfl, rfl, new10, Bz.al H2.out.1 _⟩
   | with_reducible exact ⟨_, rfl, rfl, set10 Y4.out, bz10 H2.out.1 HL.out⟩
 case rest =>
  obtain ⟨vb, rfl, rfl, hob, hb⟩ := hcut
  have v0 := Drm.blk_cell (k := 0) (u := .int .u32 y.c) hob rfl
  have v1 := Drm.blk_cell (k := 1) (u := .int .u32 y.n) hob rfl
  clear hob
  obtain ⟨-, -, x0, x1, -⟩ := SB.out _ hb
  have HB : Hid (Bz w wc) := TB.out _ hb
  clear hb s3 s6 SB TB HZ HL CO
  cases z
  ·go_wp2_with fail
   go_ret
   rw [HP.out]
   exact ⟨rfl, HB.out⟩
  ·go_wp2_with fail
   go_ret
   rw [HP.out]
   exact ⟨rfl, HB.out⟩
end Go.Proofs.YtajjnmdomabmkaaGreat
