/-
  The program's Read.
-/
import Derived.Test.YtmldgfepnmencaaGb
import Derived.Deep.MidRow
namespace Go.Proofs.Ytmldgfepnmencaa
open Go.RowKit Go.Sort Go.Shelf

/-- A Reader of the call's own, the result's box, the letter's box. -/
structure Rv (T : Nat) (w : World) (rb c b : Nat) (zs cs : Array Value) (st : St) (W : World) : Prop where
  bel : Below w.heap.size w W
  rd : RdAt T rb st W
  x : W.heap[b]? = some (.cells cs 37 (0, 0))
  y : W.heap[c]? = some (.cells zs 37 (0, 0))
  nr : rb ≠ b
  nc : rb ≠ c
  nb : c ≠ b
  lr : w.heap.size ≤ rb
  lb : w.heap.size ≤ b
  lc : w.heap.size ≤ c
variable {T : Nat} {w W W' : World} {rb c b : Nat} {zs cs : Array Value} {st st' : St}
theorem Rv.go (h : Rv T w rb c b zs cs st W) (hr : RdAt T rb st' W') (hs : Sole rb W W') : Rv T w rb c b zs cs st' W' :=
  ⟨h.bel.trans (hs.below h.lr h.bel.size), hr, by rw [hs.block b (Array.getElem?_eq_some_iff.1 h.x).1 (fun e => h.nr e.symm)]; exact h.x, by rw [hs.block c (Array.getElem?_eq_some_iff.1 h.y).1 (fun e => h.nc e.symm)]; exact h.y, h.nr, h.nc, h.nb, h.lr, h.lb, h.lc⟩
theorem Rv.set (h : Rv T w rb c b zs cs st W) (j : Nat) (u : Value) : Rv T w rb c b zs (cs.setIfInBounds j u) st (W.setCell ⟨b, j, none⟩ u) :=
  ⟨h.bel.setCell h.lb u, h.rd.setOther (fun e => h.nr e.symm) _ _, block_set u h.x, by rw [Below.heap_setCell _ _ _ _ h.nb]; exact h.y, h.nr, h.nc, h.nb, h.lr, h.lb, h.lc⟩
theorem Rv.on (h : Rv T w rb c b zs cs st W) (hb : Below W.heap.size W W') : Rv T w rb c b zs cs st W' :=
  ⟨h.bel.trans (hb.mono h.bel.size), h.rd.on hb, by rw [hb.block b (Array.getElem?_eq_some_iff.1 h.x).1]; exact h.x, by rw [hb.block c (Array.getElem?_eq_some_iff.1 h.y).1]; exact h.y, h.nr, h.nc, h.nb, h.lr, h.lb, h.lc⟩
/-- Cells set one behind the other. -/
def setMany (cs : Array Value) : Nat → List Value → Array Value
  | _, [] => cs
  | o, v :: r => setMany (cs.setIfInBounds o v) (o + 1) r
theorem Rv.many (h : Rv T w rb c b zs cs st W) (o : Nat) (vs : List Value) : Rv T w rb c b zs (setMany cs o vs) st (W.setCells b o vs) := by
  induction vs generalizing cs o W with
  | nil => exact h
  | cons v r ih => exact ih (h.set o v) (o + 1)
theorem many_own {base e size : Nat} {v : Value} {n : Nat} {xs : List Value} (h : W.ownsRow base e size v n xs) (hb : b < base) (o : Nat) (vs : List Value) : (W.setCells b o vs).ownsRow base e size v n xs := by
  induction vs generalizing o W with
  | nil => exact h
  | cons u r ih => exact ih (set_own h hb o u) (o + 1)
theorem there_block (h : W.heap[b]? = some (.cells cs 37 (0, 0))) (o n : Nat) (hn : o + n ≤ cs.size) : W.there b o n := fun j hj => by
  refine ⟨?_, ?_⟩
  · rw [show W.cell? ⟨b, o + j, none⟩ = cs[o + j]? from by unfold World.cell?; rw [h]; rfl, Array.getElem?_eq_getElem (by omega)]
    rfl
  · exact block_frozen h _
theorem bel_row {B g : Nat} (h : Below B w W) (hs : B ≤ W.heap.size) (hg : B ≤ g) (ds : Array Value) : Below B w (W.setRow g ds) :=
  h.trans ((row_kept W g ds).below (by assumption) (fun k e => by omega))
theorem wpList_load_row_g {P : Program} {ops : Array Oper} {rest : List Oper} {o : Oper} {a : Act} {Q : Exit → Act → World → Prop} (hw : Region.wanted o (yielded ops a.tmps) = true) (ty : TypeId) (x : Operand) (ho : o.op = .load ty x)
    (g : Nat) (hx : a.eval x = .pointer (some ⟨g, 0, none⟩)) (t : TypeId) (cs : Array Value) (fr : Nat × Nat) (d : TypeDesc) (hg : W.heap[g]? = some (.cells cs t fr))
    (hu : P.underlying ty = some d) (hd : (match d with | .struct _ | .array _ _ => true | _ => false) = true) (hi : (P.info? ty).map (·.size) = some cs.size)
    (h : wpList P ops Q rest (a.put o.dst (.agg cs)) W) : wpList P ops Q (o :: rest) a W :=
  wpList_step fun K hK => by
    rw [if_pos hw]
    exact wp_load_row ty x ho g hx t cs fr d hg hu hd hi (hK _ _ h)
theorem results_two {fn : Func} {p q : Nat} {ty : TypeId} (h : fn.results = #[.cell p ty, .tmp q]) (tmps : Array Value) (w : World) (g : Nat) (cs : Array Value) (v : Value)
    (hp : tmps.getD p undef = .pointer (some ⟨g, 0, none⟩)) (hq : tmps.getD q undef = v) (hL : (loadVar ty ⟨g, 0, none⟩).run Try.prog w = .ok (.agg cs) w) :
    (results fn tmps).run Try.prog w = .ok (.tuple #[.agg cs, v]) w := by
  have hp' : tmps[p]?.getD undef = .pointer (some ⟨g, 0, none⟩) := by simpa using hp
  have hq' : tmps[q]?.getD undef = v := by simpa using hq
  simp [results, h, hp', hq', asAddr, hL]
/-- What Read answers: the letter of the bytes, or nothing and ErrForm. -/
structure RdPost (s : List UInt8) (w : World) (r : Ending) (w' : World) : Prop where
  bel : Below w.heap.size w w'
  no : readL s = none → r = .returned (.tuple #[.agg #[.int .u32 0, .int .u32 0, .int .u32 0, .bool false, .int .i64 0, .int .u32 0, .int .u32 0, .int .u64 0, .int .u32 0, .int .u64 0, .int .u32 0, .string ⟨#[]⟩, .string ⟨#[]⟩, .int .i64 0, .int .u8 0, .slice none 0 0, .slice none 0 0, .int .i64 0, .int .i64 0, .bool false, .string ⟨#[]⟩, .slice none 0 0, .int .u32 0, .int .u32 0, .int .u64 0, .int .u32 0, .int .u64 0, .int .u32 0, .string ⟨#[]⟩, .int .u64 0, .int .u32 0], .int .i64 2])
  yes : ∀ l, readL s = some l → ∃ (wa sa pa : Option Addr) (wc sc pc : Nat), r = .returned (.tuple #[.agg #[.int .u32 (l.cl : Int), .int .u32 (l.sh : Int), .int .u32 (l.sq : Int), .bool l.an, .int .i64 l.q.k, .int .u32 (l.q.c : Int), .int .u32 (l.q.n : Int), .int .u64 (l.q.sp : Int), .int .u32 (l.q.sl : Int), .int .u64 (l.q.ap : Int), .int .u32 (l.q.al : Int), .string (bs l.q.key), .string (bs l.q.to), .int .i64 l.q.lim, .int .u8 (l.q.pt : Int), .slice wa l.q.ws.length wc, .slice sa l.q.sk.length sc, .int .i64 l.r.k, .int .i64 l.r.er, .bool l.r.fd, .string (bs l.r.val), .slice pa l.r.ps.length pc, .int .u32 (l.r.c : Int), .int .u32 (l.r.n : Int), .int .u64 (l.r.sp : Int), .int .u32 (l.r.sl : Int), .int .u64 (l.r.ap : Int), .int .u32 (l.r.al : Int), .string (bs l.r.prim), .int .u64 (l.r.np : Int), .int .u32 (l.r.nl : Int)], .int .i64 0]) ∧ LAt w'.heap.size l (.slice wa l.q.ws.length wc) (.slice sa l.q.sk.length sc) (.slice pa l.r.ps.length pc) w'
set_option maxHeartbeats 6400000 in
set_option maxRecDepth 100000 in
theorem read10t (s : List UInt8) (w : World) (hl : s.length < 4611686018427387904) (han : (rdFlag (rdNum 4294967295 (rdNum 7 (rdNum 3 ⟨s, 0⟩).2).2).2).1 = true) :
    Calls Try.prog 10 #[.string (bs s)] w (RdPost s w) := by
  have HRG : Hid _ := raw_rg s
  have HRL : Hid (readL s = if rdEnd (rawL s).2 = 0 ∧ rightL (rawL s).1 = true then some (rawL s).1 else none) := rfl
  have hl0 : (St.mk s 0).l.length < 4611686018427387904 := hl
  have C0 : Hid (∀ rb W, RdAt 98 rb ⟨s, 0⟩ W → _) := fun rb W hW => num20 rb ⟨s, 0⟩ 3 W hW (by omega)
  have L0 := num_le63 3 _ hl0
  have D0 := (rdNum_le 3 ⟨s, 0⟩).1
  obtain ⟨⟨v0, t0⟩, h0⟩ : ∃ p, rdNum 3 ⟨s, 0⟩ = p := ⟨_, rfl⟩
  rw [h0] at C0 L0 han D0
  simp only at C0 L0 han D0
  have C1 : Hid (∀ rb W, RdAt 98 rb t0 W → _) := fun rb W hW => num20 rb t0 7 W hW (by omega)
  have L1 := num_le63 7 _ L0
  have D1 := (rdNum_le 7 t0).1
  obtain ⟨⟨v1, t1⟩, h1⟩ : ∃ p, rdNum 7 t0 = p := ⟨_, rfl⟩
  rw [h1] at C1 L1 han D1
  simp only at C1 L1 han D1
  have C2 : Hid (∀ rb W, RdAt 98 rb t1 W → _) := fun rb W hW => num20 rb t1 4294967295 W hW (by omega)
  have L2 := num_le63 4294967295 _ L1
  have D2 := (rdNum_le 4294967295 t1).1
  obtain ⟨⟨v2, t2⟩, h2⟩ : ∃ p, rdNum 4294967295 t1 = p := ⟨_, rfl⟩
  rw [h2] at C2 L2 han D2
  simp only at C2 L2 han D2
  have C3 : Hid (∀ rb W, RdAt 98 rb t2 W → _) := fun rb W hW => flag22 rb t2 W hW
  have L3 := flag_le63 _ L2
  obtain ⟨⟨v3, t3⟩, h3⟩ : ∃ p, rdFlag t2 = p := ⟨_, rfl⟩
  rw [h3] at C3 L3 han
  simp only at C3 L3 han
  subst han
  have C4 : Hid (∀ rb W, RdAt 98 rb t3 W → _) := fun rb W hW => reply31 rb t3 W hW L3
  obtain ⟨⟨x, tz⟩, h4⟩ : ∃ p, rawR t3 = p := ⟨_, rfl⟩
  rw [h4] at C4
  simp only at C4
  have HF : Hid (rawL s = (⟨v0, v1, v2, true, zQ, x⟩, tz)) := by
    show _ = _
    unfold rawL
    simp only [h0, h1, h2, h3, h4, if_true]
  rw [HF.out] at HRG HRL
  simp only at HRL
  clear h0 L0 h1 L1 h2 L2 h3 L3 h4 hl hl0
  obtain ⟨W0, hW0⟩ : ∃ W0, w.alloc (.cells #[.int .u32 0, .int .u32 0, .int .u32 0, .bool false, .int .i64 0, .int .u32 0, .int .u32 0, .int .u64 0, .int .u32 0, .int .u64 0, .int .u32 0, .string ⟨#[]⟩, .string ⟨#[]⟩, .int .i64 0, .int .u8 0, .slice none 0 0, .slice none 0 0, .int .i64 0, .int .i64 0, .bool false, .string ⟨#[]⟩, .slice none 0 0, .int .u32 0, .int .u32 0, .int .u64 0, .int .u32 0, .int .u64 0, .int .u32 0, .string ⟨#[]⟩, .int .u64 0, .int .u32 0] 37) = W0 := ⟨_, rfl⟩
  obtain ⟨c, hc⟩ : ∃ b, w.heap.size = b := ⟨_, rfl⟩
  have X0 : Hid (Below w.heap.size w W0 ∧ W0.heap[c]? = some (.cells #[.int .u32 0, .int .u32 0, .int .u32 0, .bool false, .int .i64 0, .int .u32 0, .int .u32 0, .int .u64 0, .int .u32 0, .int .u64 0, .int .u32 0, .string ⟨#[]⟩, .string ⟨#[]⟩, .int .i64 0, .int .u8 0, .slice none 0 0, .slice none 0 0, .int .i64 0, .int .i64 0, .bool false, .string ⟨#[]⟩, .slice none 0 0, .int .u32 0, .int .u32 0, .int .u64 0, .int .u32 0, .int .u64 0, .int .u32 0, .string ⟨#[]⟩, .int .u64 0, .int .u32 0] 37 (0, 0)) ∧ W0.heap.size = c + 1 ∧ w.heap.size ≤ c) := by
    rw [← hc, ← hW0]
    exact ⟨al _, heap_alloc_new w _, size_al _ _, Nat.le_refl _⟩
  go_enter Try.func10, Try.ntmps10
  go_wp2_with fail
  refine (new19 s _).mono ?_
  rintro e w1 ⟨rfl, hr, hb1⟩
  obtain ⟨rb, hrb⟩ : ∃ b, W0.heap.size = b := ⟨_, rfl⟩
  rw [hrb] at hr
  have X1 : Hid (Below w.heap.size w w1 ∧ w1.heap[c]? = some (.cells #[.int .u32 0, .int .u32 0, .int .u32 0, .bool false, .int .i64 0, .int .u32 0, .int .u32 0, .int .u64 0, .int .u32 0, .int .u64 0, .int .u32 0, .string ⟨#[]⟩, .string ⟨#[]⟩, .int .i64 0, .int .u8 0, .slice none 0 0, .slice none 0 0, .int .i64 0, .int .i64 0, .bool false, .string ⟨#[]⟩, .slice none 0 0, .int .u32 0, .int .u32 0, .int .u64 0, .int .u32 0, .int .u64 0, .int .u32 0, .string ⟨#[]⟩, .int .u64 0, .int .u32 0] 37 (0, 0)) ∧ RdAt 98 rb ⟨s, 0⟩ w1 ∧ rb = c + 1 ∧ w.heap.size ≤ c) := by
    obtain ⟨h1, h2, h3, h4⟩ := X0.out
    exact ⟨h1.trans (hb1.mono h1.size), by rw [hb1.block c (by omega)]; exact h2, hr, by omega, h4⟩
  rw [hrb]
  clear hr hb1 hW0 hc hrb X0
  obtain ⟨W2, hW2⟩ : ∃ W2, w1.alloc (.cells #[.int .u32 0, .int .u32 0, .int .u32 0, .bool false, .int .i64 0, .int .u32 0, .int .u32 0, .int .u64 0, .int .u32 0, .int .u64 0, .int .u32 0, .string ⟨#[]⟩, .string ⟨#[]⟩, .int .i64 0, .int .u8 0, .slice none 0 0, .slice none 0 0, .int .i64 0, .int .i64 0, .bool false, .string ⟨#[]⟩, .slice none 0 0, .int .u32 0, .int .u32 0, .int .u64 0, .int .u32 0, .int .u64 0, .int .u32 0, .string ⟨#[]⟩, .int .u64 0, .int .u32 0] 37) = W2 := ⟨_, rfl⟩
  obtain ⟨b, hb⟩ : ∃ b, w1.heap.size = b := ⟨_, rfl⟩
  have Y0 : Hid (Rv 98 w rb c b #[.int .u32 0, .int .u32 0, .int .u32 0, .bool false, .int .i64 0, .int .u32 0, .int .u32 0, .int .u64 0, .int .u32 0, .int .u64 0, .int .u32 0, .string ⟨#[]⟩, .string ⟨#[]⟩, .int .i64 0, .int .u8 0, .slice none 0 0, .slice none 0 0, .int .i64 0, .int .i64 0, .bool false, .string ⟨#[]⟩, .slice none 0 0, .int .u32 0, .int .u32 0, .int .u64 0, .int .u32 0, .int .u64 0, .int .u32 0, .string ⟨#[]⟩, .int .u64 0, .int .u32 0] #[.int .u32 0, .int .u32 0, .int .u32 0, .bool false, .int .i64 0, .int .u32 0, .int .u32 0, .int .u64 0, .int .u32 0, .int .u64 0, .int .u32 0, .string ⟨#[]⟩, .string ⟨#[]⟩, .int .i64 0, .int .u8 0, .slice none 0 0, .slice none 0 0, .int .i64 0, .int .i64 0, .bool false, .string ⟨#[]⟩, .slice none 0 0, .int .u32 0, .int .u32 0, .int .u64 0, .int .u32 0, .int .u64 0, .int .u32 0, .string ⟨#[]⟩, .int .u64 0, .int .u32 0] ⟨s, 0⟩ W2) := by
    obtain ⟨h1, h2, h3, h4, h5⟩ := X1.out
    have h6 := lt_of_block h3
    have h7 := lt_of_block h2
    have h8 := h1.size
    rw [← hW2, ← hb]
    exact ⟨h1.alloc h1.size _, h3.alloc _, heap_alloc_new w1 _, by rw [(al (W := w1) _).block c h7]; exact h2, by omega, by omega, by omega, by omega, by omega, by omega⟩
  clear X1
  go_wp2_with fail
  refine (C0.out rb _ Y0.out.rd).mono ?_
  rintro e x0 ⟨rfl, hr, hs⟩
  have X0 : Hid (Rv 98 w rb c b #[.int .u32 0, .int .u32 0, .int .u32 0, .bool false, .int .i64 0, .int .u32 0, .int .u32 0, .int .u64 0, .int .u32 0, .int .u64 0, .int .u32 0, .string ⟨#[]⟩, .string ⟨#[]⟩, .int .i64 0, .int .u8 0, .slice none 0 0, .slice none 0 0, .int .i64 0, .int .i64 0, .bool false, .string ⟨#[]⟩, .slice none 0 0, .int .u32 0, .int .u32 0, .int .u64 0, .int .u32 0, .int .u64 0, .int .u32 0, .string ⟨#[]⟩, .int .u64 0, .int .u32 0] #[.int .u32 0, .int .u32 0, .int .u32 0, .bool false, .int .i64 0, .int .u32 0, .int .u32 0, .int .u64 0, .int .u32 0, .int .u64 0, .int .u32 0, .string ⟨#[]⟩, .string ⟨#[]⟩, .int .i64 0, .int .u8 0, .slice none 0 0, .slice none 0 0, .int .i64 0, .int .i64 0, .bool false, .string ⟨#[]⟩, .slice none 0 0, .int .u32 0, .int .u32 0, .int .u64 0, .int .u32 0, .int .u64 0, .int .u32 0, .string ⟨#[]⟩, .int .u64 0, .int .u32 0] t0 x0) := Y0.out.go hr hs
  clear hr hs C0 Y0 hW2 hb
  have p0 : x0.cell? ⟨b, 0, none⟩ = some (.int .u32 0) := block_cell X0.out.x rfl
  have f0 : x0.frozen? ⟨b, 0, none⟩ = false := block_frozen X0.out.x 0
  obtain ⟨z0, hz0⟩ : ∃ z, x0.setCell ⟨b, 0, none⟩ (.int .u32 (v0 : Int)) = z := ⟨_, rfl⟩
  have Y1 : Hid (Rv 98 w rb c b #[.int .u32 0, .int .u32 0, .int .u32 0, .bool false, .int .i64 0, .int .u32 0, .int .u32 0, .int .u64 0, .int .u32 0, .int .u64 0, .int .u32 0, .string ⟨#[]⟩, .string ⟨#[]⟩, .int .i64 0, .int .u8 0, .slice none 0 0, .slice none 0 0, .int .i64 0, .int .i64 0, .bool false, .string ⟨#[]⟩, .slice none 0 0, .int .u32 0, .int .u32 0, .int .u64 0, .int .u32 0, .int .u64 0, .int .u32 0, .string ⟨#[]⟩, .int .u64 0, .int .u32 0] #[.int .u32 (v0 : Int), .int .u32 0, .int .u32 0, .bool false, .int .i64 0, .int .u32 0, .int .u32 0, .int .u64 0, .int .u32 0, .int .u64 0, .int .u32 0, .string ⟨#[]⟩, .string ⟨#[]⟩, .int .i64 0, .int .u8 0, .slice none 0 0, .slice none 0 0, .int .i64 0, .int .i64 0, .bool false, .string ⟨#[]⟩, .slice none 0 0, .int .u32 0, .int .u32 0, .int .u64 0, .int .u32 0, .int .u64 0, .int .u32 0, .string ⟨#[]⟩, .int .u64 0, .int .u32 0] t0 z0) := by rw [← hz0]; exact X0.out.set 0 (.int .u32 (v0 : Int))
  clear X0
  go_upto_region 4 with fail
  clear hz0 p0 f0
  go_wp2_with fail
  refine (C1.out rb _ Y1.out.rd).mono ?_
  rintro e x1 ⟨rfl, hr, hs⟩
  have X1 : Hid (Rv 98 w rb c b #[.int .u32 0, .int .u32 0, .int .u32 0, .bool false, .int .i64 0, .int .u32 0, .int .u32 0, .int .u64 0, .int .u32 0, .int .u64 0, .int .u32 0, .string ⟨#[]⟩, .string ⟨#[]⟩, .int .i64 0, .int .u8 0, .slice none 0 0, .slice none 0 0, .int .i64 0, .int .i64 0, .bool false, .string ⟨#[]⟩, .slice none 0 0, .int .u32 0, .int .u32 0, .int .u64 0, .int .u32 0, .int .u64 0, .int .u32 0, .string ⟨#[]⟩, .int .u64 0, .int .u32 0] #[.int .u32 (v0 : Int), .int .u32 0, .int .u32 0, .bool false, .int .i64 0, .int .u32 0, .int .u32 0, .int .u64 0, .int .u32 0, .int .u64 0, .int .u32 0, .string ⟨#[]⟩, .string ⟨#[]⟩, .int .i64 0, .int .u8 0, .slice none 0 0, .slice none 0 0, .int .i64 0, .int .i64 0, .bool false, .string ⟨#[]⟩, .slice none 0 0, .int .u32 0, .int .u32 0, .int .u64 0, .int .u32 0, .int .u64 0, .int .u32 0, .string ⟨#[]⟩, .int .u64 0, .int .u32 0] t1 x1) := Y1.out.go hr hs
  clear hr hs C1 Y1
  have p1 : x1.cell? ⟨b, 1, none⟩ = some (.int .u32 0) := block_cell X1.out.x rfl
  have f1 : x1.frozen? ⟨b, 1, none⟩ = false := block_frozen X1.out.x 1
  obtain ⟨z1, hz1⟩ : ∃ z, x1.setCell ⟨b, 1, none⟩ (.int .u32 (v1 : Int)) = z := ⟨_, rfl⟩
  have Y2 : Hid (Rv 98 w rb c b #[.int .u32 0, .int .u32 0, .int .u32 0, .bool false, .int .i64 0, .int .u32 0, .int .u32 0, .int .u64 0, .int .u32 0, .int .u64 0, .int .u32 0, .string ⟨#[]⟩, .string ⟨#[]⟩, .int .i64 0, .int .u8 0, .slice none 0 0, .slice none 0 0, .int .i64 0, .int .i64 0, .bool false, .string ⟨#[]⟩, .slice none 0 0, .int .u32 0, .int .u32 0, .int .u64 0, .int .u32 0, .int .u64 0, .int .u32 0, .string ⟨#[]⟩, .int .u64 0, .int .u32 0] #[.int .u32 (v0 : Int), .int .u32 (v1 : Int), .int .u32 0, .bool false, .int .i64 0, .int .u32 0, .int .u32 0, .int .u64 0, .int .u32 0, .int .u64 0, .int .u32 0, .string ⟨#[]⟩, .string ⟨#[]⟩, .int .i64 0, .int .u8 0, .slice none 0 0, .slice none 0 0, .int .i64 0, .int .i64 0, .bool false, .string ⟨#[]⟩, .slice none 0 0, .int .u32 0, .int .u32 0, .int .u64 0, .int .u32 0, .int .u64 0, .int .u32 0, .string ⟨#[]⟩, .int .u64 0, .int .u32 0] t1 z1) := by rw [← hz1]; exact X1.out.set 1 (.int .u32 (v1 : Int))
  clear X1
  go_upto_region 5 with fail
  clear hz1 p1 f1
  go_wp2_with fail
  refine (C2.out rb _ Y2.out.rd).mono ?_
  rintro e x2 ⟨rfl, hr, hs⟩
  have X2 : Hid (Rv 98 w rb c b #[.int .u32 0, .int .u32 0, .int .u32 0, .bool false, .int .i64 0, .int .u32 0, .int .u32 0, .int .u64 0, .int .u32 0, .int .u64 0, .int .u32 0, .string ⟨#[]⟩, .string ⟨#[]⟩, .int .i64 0, .int .u8 0, .slice none 0 0, .slice none 0 0, .int .i64 0, .int .i64 0, .bool false, .string ⟨#[]⟩, .slice none 0 0, .int .u32 0, .int .u32 0, .int .u64 0, .int .u32 0, .int .u64 0, .int .u32 0, .string ⟨#[]⟩, .int .u64 0, .int .u32 0] #[.int .u32 (v0 : Int), .int .u32 (v1 : Int), .int .u32 0, .bool false, .int .i64 0, .int .u32 0, .int .u32 0, .int .u64 0, .int .u32 0, .int .u64 0, .int .u32 0, .string ⟨#[]⟩, .string ⟨#[]⟩, .int .i64 0, .int .u8 0, .slice none 0 0, .slice none 0 0, .int .i64 0, .int .i64 0, .bool false, .string ⟨#[]⟩, .slice none 0 0, .int .u32 0, .int .u32 0, .int .u64 0, .int .u32 0, .int .u64 0, .int .u32 0, .string ⟨#[]⟩, .int .u64 0, .int .u32 0] t2 x2) := Y2.out.go hr hs
  clear hr hs C2 Y2
  have p2 : x2.cell? ⟨b, 2, none⟩ = some (.int .u32 0) := block_cell X2.out.x rfl
  have f2 : x2.frozen? ⟨b, 2, none⟩ = false := block_frozen X2.out.x 2
  obtain ⟨z2, hz2⟩ : ∃ z, x2.setCell ⟨b, 2, none⟩ (.int .u32 (v2 : Int)) = z := ⟨_, rfl⟩
  have Y3 : Hid (Rv 98 w rb c b #[.int .u32 0, .int .u32 0, .int .u32 0, .bool false, .int .i64 0, .int .u32 0, .int .u32 0, .int .u64 0, .int .u32 0, .int .u64 0, .int .u32 0, .string ⟨#[]⟩, .string ⟨#[]⟩, .int .i64 0, .int .u8 0, .slice none 0 0, .slice none 0 0, .int .i64 0, .int .i64 0, .bool false, .string ⟨#[]⟩, .slice none 0 0, .int .u32 0, .int .u32 0, .int .u64 0, .int .u32 0, .int .u64 0, .int .u32 0, .string ⟨#[]⟩, .int .u64 0, .int .u32 0] #[.int .u32 (v0 : Int), .int .u32 (v1 : Int), .int .u32 (v2 : Int), .bool false, .int .i64 0, .int .u32 0, .int .u32 0, .int .u64 0, .int .u32 0, .int .u64 0, .int .u32 0, .string ⟨#[]⟩, .string ⟨#[]⟩, .int .i64 0, .int .u8 0, .slice none 0 0, .slice none 0 0, .int .i64 0, .int .i64 0, .bool false, .string ⟨#[]⟩, .slice none 0 0, .int .u32 0, .int .u32 0, .int .u64 0, .int .u32 0, .int .u64 0, .int .u32 0, .string ⟨#[]⟩, .int .u64 0, .int .u32 0] t2 z2) := by rw [← hz2]; exact X2.out.set 2 (.int .u32 (v2 : Int))
  clear X2
  go_upto_region 6 with fail
  clear hz2 p2 f2
  go_wp2_with fail
  refine (C3.out rb _ Y3.out.rd).mono ?_
  rintro e x3 ⟨rfl, hr, hs⟩
  have X3 : Hid (Rv 98 w rb c b #[.int .u32 0, .int .u32 0, .int .u32 0, .bool false, .int .i64 0, .int .u32 0, .int .u32 0, .int .u64 0, .int .u32 0, .int .u64 0, .int .u32 0, .string ⟨#[]⟩, .string ⟨#[]⟩, .int .i64 0, .int .u8 0, .slice none 0 0, .slice none 0 0, .int .i64 0, .int .i64 0, .bool false, .string ⟨#[]⟩, .slice none 0 0, .int .u32 0, .int .u32 0, .int .u64 0, .int .u32 0, .int .u64 0, .int .u32 0, .string ⟨#[]⟩, .int .u64 0, .int .u32 0] #[.int .u32 (v0 : Int), .int .u32 (v1 : Int), .int .u32 (v2 : Int), .bool false, .int .i64 0, .int .u32 0, .int .u32 0, .int .u64 0, .int .u32 0, .int .u64 0, .int .u32 0, .string ⟨#[]⟩, .string ⟨#[]⟩, .int .i64 0, .int .u8 0, .slice none 0 0, .slice none 0 0, .int .i64 0, .int .i64 0, .bool false, .string ⟨#[]⟩, .slice none 0 0, .int .u32 0, .int .u32 0, .int .u64 0, .int .u32 0, .int .u64 0, .int .u32 0, .string ⟨#[]⟩, .int .u64 0, .int .u32 0] t3 x3) := Y3.out.go hr hs
  clear hr hs C3 Y3
  have p3 : x3.cell? ⟨b, 3, none⟩ = some (.bool false) := block_cell X3.out.x rfl
  have f3 : x3.frozen? ⟨b, 3, none⟩ = false := block_frozen X3.out.x 3
  obtain ⟨z3, hz3⟩ : ∃ z, x3.setCell ⟨b, 3, none⟩ (.bool true) = z := ⟨_, rfl⟩
  have Y4 : Hid (Rv 98 w rb c b #[.int .u32 0, .int .u32 0, .int .u32 0, .bool false, .int .i64 0, .int .u32 0, .int .u32 0, .int .u64 0, .int .u32 0, .int .u64 0, .int .u32 0, .string ⟨#[]⟩, .string ⟨#[]⟩, .int .i64 0, .int .u8 0, .slice none 0 0, .slice none 0 0, .int .i64 0, .int .i64 0, .bool false, .string ⟨#[]⟩, .slice none 0 0, .int .u32 0, .int .u32 0, .int .u64 0, .int .u32 0, .int .u64 0, .int .u32 0, .string ⟨#[]⟩, .int .u64 0, .int .u32 0] #[.int .u32 (v0 : Int), .int .u32 (v1 : Int), .int .u32 (v2 : Int), .bool true, .int .i64 0, .int .u32 0, .int .u32 0, .int .u64 0, .int .u32 0, .int .u64 0, .int .u32 0, .string ⟨#[]⟩, .string ⟨#[]⟩, .int .i64 0, .int .u8 0, .slice none 0 0, .slice none 0 0, .int .i64 0, .int .i64 0, .bool false, .string ⟨#[]⟩, .slice none 0 0, .int .u32 0, .int .u32 0, .int .u64 0, .int .u32 0, .int .u64 0, .int .u32 0, .string ⟨#[]⟩, .int .u64 0, .int .u32 0] t3 z3) := by rw [← hz3]; exact X3.out.set 3 (.bool true)
  clear X3
  go_upto_region 7 with fail
  clear hz3 p3 f3
  have p3 : z3.cell? ⟨b, 3, none⟩ = some (.bool true) := block_cell Y4.out.x rfl
  go_wp2_with fail
  refine (C4.out rb _ Y4.out.rd).mono ?_
  rintro e x4 ⟨pa, pc, rfl, ho, hr, hs⟩
  have X4 : Hid (Rv 98 w rb c b #[.int .u32 0, .int .u32 0, .int .u32 0, .bool false, .int .i64 0, .int .u32 0, .int .u32 0, .int .u64 0, .int .u32 0, .int .u64 0, .int .u32 0, .string ⟨#[]⟩, .string ⟨#[]⟩, .int .i64 0, .int .u8 0, .slice none 0 0, .slice none 0 0, .int .i64 0, .int .i64 0, .bool false, .string ⟨#[]⟩, .slice none 0 0, .int .u32 0, .int .u32 0, .int .u64 0, .int .u32 0, .int .u64 0, .int .u32 0, .string ⟨#[]⟩, .int .u64 0, .int .u32 0] #[.int .u32 (v0 : Int), .int .u32 (v1 : Int), .int .u32 (v2 : Int), .bool true, .int .i64 0, .int .u32 0, .int .u32 0, .int .u64 0, .int .u32 0, .int .u64 0, .int .u32 0, .string ⟨#[]⟩, .string ⟨#[]⟩, .int .i64 0, .int .u8 0, .slice none 0 0, .slice none 0 0, .int .i64 0, .int .i64 0, .bool false, .string ⟨#[]⟩, .slice none 0 0, .int .u32 0, .int .u32 0, .int .u64 0, .int .u32 0, .int .u64 0, .int .u32 0, .string ⟨#[]⟩, .int .u64 0, .int .u32 0] tz x4) := Y4.out.go hr hs
  have hbz := (Array.getElem?_eq_some_iff.1 Y4.out.x).1
  have hcz := (Array.getElem?_eq_some_iff.1 Y4.out.y).1
  obtain ⟨B, hB⟩ : ∃ B, z3.heap.size = B := ⟨_, rfl⟩
  rw [hB] at ho hbz hcz
  have O4 : Hid ((x4.ownsRow B 67 2 (.slice pa x.ps.length pc) x.ps.length (rowC prc x.ps)) ∧ b < B ∧ c < B) := ⟨ho, hbz, hcz⟩
  clear hr hs C4 Y4 ho hbz hcz hB p3
  obtain ⟨z4, hz4⟩ : ∃ z, x4.setCells b 17 (#[.int .i64 x.k, .int .i64 x.er, .bool x.fd, .string (bs x.val), .slice pa x.ps.length pc, .int .u32 (x.c : Int), .int .u32 (x.n : Int), .int .u64 (x.sp : Int), .int .u32 (x.sl : Int), .int .u64 (x.ap : Int), .int .u32 (x.al : Int), .string (bs x.prim), .int .u64 (x.np : Int), .int .u32 (x.nl : Int)] : Array Value).toList = z := ⟨_, rfl⟩
  have Y5 : Hid (Rv 98 w rb c b #[.int .u32 0, .int .u32 0, .int .u32 0, .bool false, .int .i64 0, .int .u32 0, .int .u32 0, .int .u64 0, .int .u32 0, .int .u64 0, .int .u32 0, .string ⟨#[]⟩, .string ⟨#[]⟩, .int .i64 0, .int .u8 0, .slice none 0 0, .slice none 0 0, .int .i64 0, .int .i64 0, .bool false, .string ⟨#[]⟩, .slice none 0 0, .int .u32 0, .int .u32 0, .int .u64 0, .int .u32 0, .int .u64 0, .int .u32 0, .string ⟨#[]⟩, .int .u64 0, .int .u32 0] #[.int .u32 (v0 : Int), .int .u32 (v1 : Int), .int .u32 (v2 : Int), .bool true, .int .i64 0, .int .u32 0, .int .u32 0, .int .u64 0, .int .u32 0, .int .u64 0, .int .u32 0, .string ⟨#[]⟩, .string ⟨#[]⟩, .int .i64 0, .int .u8 0, .slice none 0 0, .slice none 0 0, .int .i64 x.k, .int .i64 x.er, .bool x.fd, .string (bs x.val), .slice pa x.ps.length pc, .int .u32 (x.c : Int), .int .u32 (x.n : Int), .int .u64 (x.sp : Int), .int .u32 (x.sl : Int), .int .u64 (x.ap : Int), .int .u32 (x.al : Int), .string (bs x.prim), .int .u64 (x.np : Int), .int .u32 (x.nl : Int)] tz z4) := by
    have h := X4.out.many 17 (#[.int .i64 x.k, .int .i64 x.er, .bool x.fd, .string (bs x.val), .slice pa x.ps.length pc, .int .u32 (x.c : Int), .int .u32 (x.n : Int), .int .u64 (x.sp : Int), .int .u32 (x.sl : Int), .int .u64 (x.ap : Int), .int .u32 (x.al : Int), .string (bs x.prim), .int .u64 (x.np : Int), .int .u32 (x.nl : Int)] : Array Value).toList
    rw [show setMany #[.int .u32 (v0 : Int), .int .u32 (v1 : Int), .int .u32 (v2 : Int), .bool true, .int .i64 0, .int .u32 0, .int .u32 0, .int .u64 0, .int .u32 0, .int .u64 0, .int .u32 0, .string ⟨#[]⟩, .string ⟨#[]⟩, .int .i64 0, .int .u8 0, .slice none 0 0, .slice none 0 0, .int .i64 0, .int .i64 0, .bool false, .string ⟨#[]⟩, .slice none 0 0, .int .u32 0, .int .u32 0, .int .u64 0, .int .u32 0, .int .u64 0, .int .u32 0, .string ⟨#[]⟩, .int .u64 0, .int .u32 0] 17 (#[.int .i64 x.k, .int .i64 x.er, .bool x.fd, .string (bs x.val), .slice pa x.ps.length pc, .int .u32 (x.c : Int), .int .u32 (x.n : Int), .int .u64 (x.sp : Int), .int .u32 (x.sl : Int), .int .u64 (x.ap : Int), .int .u32 (x.al : Int), .string (bs x.prim), .int .u64 (x.np : Int), .int .u32 (x.nl : Int)] : Array Value).toList = #[.int .u32 (v0 : Int), .int .u32 (v1 : Int), .int .u32 (v2 : Int), .bool true, .int .i64 0, .int .u32 0, .int .u32 0, .int .u64 0, .int .u32 0, .int .u64 0, .int .u32 0, .string ⟨#[]⟩, .string ⟨#[]⟩, .int .i64 0, .int .u8 0, .slice none 0 0, .slice none 0 0, .int .i64 x.k, .int .i64 x.er, .bool x.fd, .string (bs x.val), .slice pa x.ps.length pc, .int .u32 (x.c : Int), .int .u32 (x.n : Int), .int .u64 (x.sp : Int), .int .u32 (x.sl : Int), .int .u64 (x.ap : Int), .int .u32 (x.al : Int), .string (bs x.prim), .int .u64 (x.np : Int), .int .u32 (x.nl : Int)] from by kernel_rfl, hz4] at h
    exact h
  have O5 : Hid ((z4.ownsRow B 67 2 (.slice pa x.ps.length pc) x.ps.length (rowC prc x.ps)) ∧ c < B) := by
    rw [← hz4]
    exact ⟨many_own O4.out.1 O4.out.2.1 _ _, O4.out.2.2⟩
  go_wp2_with (refine wpList_store_mid rfl 35 _ _ rfl b 17 #[.int .i64 x.k, .int .i64 x.er, .bool x.fd, .string (bs x.val), .slice pa x.ps.length pc, .int .u32 (x.c : Int), .int .u32 (x.n : Int), .int .u64 (x.sp : Int), .int .u32 (x.sl : Int), .int .u64 (x.ap : Int), .int .u32 (x.al : Int), .string (bs x.prim), .int .u64 (x.np : Int), .int .u32 (x.nl : Int)] rfl rfl (there_block X4.out.x 17 14 (by simp)) (by kernel_rfl) (by simp [Value.oneCell']) ?_; rewrite [hz4])
  clear hz4 X4 O4
  refine (end25 rb tz _ Y5.out.rd).mono ?_
  rintro e w5 ⟨rfl, rfl⟩
  have HLA : Hid (LAt z4.heap.size ⟨v0, v1, v2, true, zQ, x⟩ (.slice none 0 0) (.slice none 0 0) (.slice pa x.ps.length pc) z4) := ⟨qat_nil _ _, rw_own O5.out.1⟩
  have CR : Hid (∀ W, Below z4.heap.size z4 W → Calls Try.prog 9 #[.agg #[.int .u32 (v0 : Int), .int .u32 (v1 : Int), .int .u32 (v2 : Int), .bool true, .int .i64 0, .int .u32 0, .int .u32 0, .int .u64 0, .int .u32 0, .int .u64 0, .int .u32 0, .string ⟨#[]⟩, .string ⟨#[]⟩, .int .i64 0, .int .u8 0, .slice none 0 0, .slice none 0 0, .int .i64 x.k, .int .i64 x.er, .bool x.fd, .string (bs x.val), .slice pa x.ps.length pc, .int .u32 (x.c : Int), .int .u32 (x.n : Int), .int .u64 (x.sp : Int), .int .u32 (x.sl : Int), .int .u64 (x.ap : Int), .int .u32 (x.al : Int), .string (bs x.prim), .int .u64 (x.np : Int), .int .u32 (x.nl : Int)]] W fun e w' => e = .returned (.bool (rightL ⟨v0, v1, v2, true, zQ, x⟩)) ∧ Below W.heap.size W w') := fun W hW => right9 ⟨v0, v1, v2, true, zQ, x⟩ none none pa 0 0 pc W (HLA.out.up hW)
  obtain ⟨ne, hne⟩ : ∃ n, rdEnd tz = n := ⟨_, rfl⟩
  obtain ⟨rt, hrt⟩ : ∃ r, rightL ⟨v0, v1, v2, true, zQ, x⟩ = r := ⟨_, rfl⟩
  rw [hne] at HRL ⊢
  rw [hrt] at HRL CR
  clear hne hrt
  by_cases h0 : ne = 0
  rotate_left
  · have h0' : ((ne : Int) != 0) = true := by simp; omega
    have HN : Hid (readL s = none) := by show _ = _; rw [HRL.out, if_neg (by omega)]
    go_wp2_with (refine wpList_store_row rfl 37 _ _ rfl c #[.int .u32 0, .int .u32 0, .int .u32 0, .bool false, .int .i64 0, .int .u32 0, .int .u32 0, .int .u64 0, .int .u32 0, .int .u64 0, .int .u32 0, .string ⟨#[]⟩, .string ⟨#[]⟩, .int .i64 0, .int .u8 0, .slice none 0 0, .slice none 0 0, .int .i64 0, .int .i64 0, .bool false, .string ⟨#[]⟩, .slice none 0 0, .int .u32 0, .int .u32 0, .int .u64 0, .int .u32 0, .int .u64 0, .int .u32 0, .string ⟨#[]⟩, .int .u64 0, .int .u32 0] rfl rfl 37 _ Y5.out.y (by kernel_rfl) rfl (by simp [Value.oneCell']) ?_)
    (try simp only [Exit.inBlock, Exit.then])
    refine bodyPost_ret (results_two rfl _ _ c _ _ rfl rfl (run_loadVar_row _ _ 37 37 _ (0, 0) _ (setRow_heap _ c _ _ 37 (0, 0) Y5.out.y) Try.underlying37 rfl (by kernel_rfl))) rfl ?_
    exact ⟨bel_row Y5.out.bel Y5.out.bel.size Y5.out.lc _, fun _ => rfl, fun l h => by rw [HN.out] at h; cases h⟩
  have h0' : ((ne : Int) != 0) = false := by simp; omega
  go_wp2_with (refine wpList_load_row_g rfl 37 _ rfl b rfl 37 _ (0, 0) _ Y5.out.x Try.underlying37 rfl (by kernel_rfl) ?_)
  refine (CR.out _ (Below.refl _ _)).mono ?_
  rintro e w6 ⟨rfl, hb6⟩
  have Y6 : Hid (Rv 98 w rb c b #[.int .u32 0, .int .u32 0, .int .u32 0, .bool false, .int .i64 0, .int .u32 0, .int .u32 0, .int .u64 0, .int .u32 0, .int .u64 0, .int .u32 0, .string ⟨#[]⟩, .string ⟨#[]⟩, .int .i64 0, .int .u8 0, .slice none 0 0, .slice none 0 0, .int .i64 0, .int .i64 0, .bool false, .string ⟨#[]⟩, .slice none 0 0, .int .u32 0, .int .u32 0, .int .u64 0, .int .u32 0, .int .u64 0, .int .u32 0, .string ⟨#[]⟩, .int .u64 0, .int .u32 0] #[.int .u32 (v0 : Int), .int .u32 (v1 : Int), .int .u32 (v2 : Int), .bool true, .int .i64 0, .int .u32 0, .int .u32 0, .int .u64 0, .int .u32 0, .int .u64 0, .int .u32 0, .string ⟨#[]⟩, .string ⟨#[]⟩, .int .i64 0, .int .u8 0, .slice none 0 0, .slice none 0 0, .int .i64 x.k, .int .i64 x.er, .bool x.fd, .string (bs x.val), .slice pa x.ps.length pc, .int .u32 (x.c : Int), .int .u32 (x.n : Int), .int .u64 (x.sp : Int), .int .u32 (x.sl : Int), .int .u64 (x.ap : Int), .int .u32 (x.al : Int), .string (bs x.prim), .int .u64 (x.np : Int), .int .u32 (x.nl : Int)] tz w6) := Y5.out.on hb6
  have O6 : Hid ((w6.ownsRow B 67 2 (.slice pa x.ps.length pc) x.ps.length (rowC prc x.ps)) ∧ c < B) := ⟨own_on O5.out.1 hb6, O5.out.2⟩
  clear hb6 CR Y5 HLA O5
  cases rt
  · have HN : Hid (readL s = none) := by show _ = _; rw [HRL.out, if_neg (by simp)]
    go_wp2_with (refine wpList_store_row rfl 37 _ _ rfl c #[.int .u32 0, .int .u32 0, .int .u32 0, .bool false, .int .i64 0, .int .u32 0, .int .u32 0, .int .u64 0, .int .u32 0, .int .u64 0, .int .u32 0, .string ⟨#[]⟩, .string ⟨#[]⟩, .int .i64 0, .int .u8 0, .slice none 0 0, .slice none 0 0, .int .i64 0, .int .i64 0, .bool false, .string ⟨#[]⟩, .slice none 0 0, .int .u32 0, .int .u32 0, .int .u64 0, .int .u32 0, .int .u64 0, .int .u32 0, .string ⟨#[]⟩, .int .u64 0, .int .u32 0] rfl rfl 37 _ Y6.out.y (by kernel_rfl) rfl (by simp [Value.oneCell']) ?_)
    (try simp only [Exit.inBlock, Exit.then])
    refine bodyPost_ret (results_two rfl _ _ c _ _ rfl rfl (run_loadVar_row _ _ 37 37 _ (0, 0) _ (setRow_heap _ c _ _ 37 (0, 0) Y6.out.y) Try.underlying37 rfl (by kernel_rfl))) rfl ?_
    exact ⟨bel_row Y6.out.bel Y6.out.bel.size Y6.out.lc _, fun _ => rfl, fun l h => by rw [HN.out] at h; cases h⟩
  have HN : Hid (readL s = some ⟨v0, v1, v2, true, zQ, x⟩) := by show _ = _; rw [HRL.out, if_pos ⟨h0, rfl⟩]
  clear HRL
  go_wp2_with (first
    | (refine wpList_load_row rfl 37 _ rfl b rfl 37 _ (0, 0) _ Y6.out.x Try.underlying37 rfl (by kernel_rfl) ?_)
    | (refine wpList_store_row rfl 37 _ _ rfl c #[.int .u32 (v0 : Int), .int .u32 (v1 : Int), .int .u32 (v2 : Int), .bool true, .int .i64 0, .int .u32 0, .int .u32 0, .int .u64 0, .int .u32 0, .int .u64 0, .int .u32 0, .string ⟨#[]⟩, .string ⟨#[]⟩, .int .i64 0, .int .u8 0, .slice none 0 0, .slice none 0 0, .int .i64 x.k, .int .i64 x.er, .bool x.fd, .string (bs x.val), .slice pa x.ps.length pc, .int .u32 (x.c : Int), .int .u32 (x.n : Int), .int .u64 (x.sp : Int), .int .u32 (x.sl : Int), .int .u64 (x.ap : Int), .int .u32 (x.al : Int), .string (bs x.prim), .int .u64 (x.np : Int), .int .u32 (x.nl : Int)] rfl rfl 37 _ Y6.out.y (by kernel_rfl) rfl (by simp [Value.oneCell']) ?_))
  (try simp only [Exit.inBlock, Exit.then])
  refine bodyPost_ret (results_two rfl _ _ c _ _ rfl rfl (run_loadVar_row _ _ 37 37 _ (0, 0) _ (setRow_heap _ c _ _ 37 (0, 0) Y6.out.y) Try.underlying37 rfl (by kernel_rfl))) rfl ?_
  refine ⟨bel_row Y6.out.bel Y6.out.bel.size Y6.out.lc _, fun h => (by rw [HN.out] at h; cases h), fun l h => ?_⟩
  rw [HN.out] at h
  injection h with h
  subst h
  exact ⟨none, none, pa, 0, 0, pc, rfl, ⟨qat_nil _ _, rw_own (row_own O6.out.1 O6.out.2 _)⟩⟩
set_option maxHeartbeats 6400000 in
set_option maxRecDepth 100000 in
theorem read10f (s : List UInt8) (w : World) (hl : s.length < 4611686018427387904) (han : (rdFlag (rdNum 4294967295 (rdNum 7 (rdNum 3 ⟨s, 0⟩).2).2).2).1 = false) :
    Calls Try.prog 10 #[.string (bs s)] w (RdPost s w) := by
  have HRG : Hid _ := raw_rg s
  have HRL : Hid (readL s = if rdEnd (rawL s).2 = 0 ∧ rightL (rawL s).1 = true then some (rawL s).1 else none) := rfl
  have hl0 : (St.mk s 0).l.length < 4611686018427387904 := hl
  have C0 : Hid (∀ rb W, RdAt 98 rb ⟨s, 0⟩ W → _) := fun rb W hW => num20 rb ⟨s, 0⟩ 3 W hW (by omega)
  have L0 := num_le63 3 _ hl0
  have D0 := (rdNum_le 3 ⟨s, 0⟩).1
  obtain ⟨⟨v0, t0⟩, h0⟩ : ∃ p, rdNum 3 ⟨s, 0⟩ = p := ⟨_, rfl⟩
  rw [h0] at C0 L0 han D0
  simp only at C0 L0 han D0
  have C1 : Hid (∀ rb W, RdAt 98 rb t0 W → _) := fun rb W hW => num20 rb t0 7 W hW (by omega)
  have L1 := num_le63 7 _ L0
  have D1 := (rdNum_le 7 t0).1
  obtain ⟨⟨v1, t1⟩, h1⟩ : ∃ p, rdNum 7 t0 = p := ⟨_, rfl⟩
  rw [h1] at C1 L1 han D1
  simp only at C1 L1 han D1
  have C2 : Hid (∀ rb W, RdAt 98 rb t1 W → _) := fun rb W hW => num20 rb t1 4294967295 W hW (by omega)
  have L2 := num_le63 4294967295 _ L1
  have D2 := (rdNum_le 4294967295 t1).1
  obtain ⟨⟨v2, t2⟩, h2⟩ : ∃ p, rdNum 4294967295 t1 = p := ⟨_, rfl⟩
  rw [h2] at C2 L2 han D2
  simp only at C2 L2 han D2
  have C3 : Hid (∀ rb W, RdAt 98 rb t2 W → _) := fun rb W hW => flag22 rb t2 W hW
  have L3 := flag_le63 _ L2
  obtain ⟨⟨v3, t3⟩, h3⟩ : ∃ p, rdFlag t2 = p := ⟨_, rfl⟩
  rw [h3] at C3 L3 han
  simp only at C3 L3 han
  subst han
  have C4 : Hid (∀ rb W, RdAt 98 rb t3 W → _) := fun rb W hW => ask32 rb t3 W hW L3
  obtain ⟨⟨x, tz⟩, h4⟩ : ∃ p, rawQ t3 = p := ⟨_, rfl⟩
  rw [h4] at C4
  simp only at C4
  have HF : Hid (rawL s = (⟨v0, v1, v2, false, x, zR⟩, tz)) := by
    show _ = _
    unfold rawL
    simp only [h0, h1, h2, h3, h4, Bool.false_eq_true, if_false]
  rw [HF.out] at HRG HRL
  simp only at HRL
  clear h0 L0 h1 L1 h2 L2 h3 L3 h4 hl hl0
  obtain ⟨W0, hW0⟩ : ∃ W0, w.alloc (.cells #[.int .u32 0, .int .u32 0, .int .u32 0, .bool false, .int .i64 0, .int .u32 0, .int .u32 0, .int .u64 0, .int .u32 0, .int .u64 0, .int .u32 0, .string ⟨#[]⟩, .string ⟨#[]⟩, .int .i64 0, .int .u8 0, .slice none 0 0, .slice none 0 0, .int .i64 0, .int .i64 0, .bool false, .string ⟨#[]⟩, .slice none 0 0, .int .u32 0, .int .u32 0, .int .u64 0, .int .u32 0, .int .u64 0, .int .u32 0, .string ⟨#[]⟩, .int .u64 0, .int .u32 0] 37) = W0 := ⟨_, rfl⟩
  obtain ⟨c, hc⟩ : ∃ b, w.heap.size = b := ⟨_, rfl⟩
  have X0 : Hid (Below w.heap.size w W0 ∧ W0.heap[c]? = some (.cells #[.int .u32 0, .int .u32 0, .int .u32 0, .bool false, .int .i64 0, .int .u32 0, .int .u32 0, .int .u64 0, .int .u32 0, .int .u64 0, .int .u32 0, .string ⟨#[]⟩, .string ⟨#[]⟩, .int .i64 0, .int .u8 0, .slice none 0 0, .slice none 0 0, .int .i64 0, .int .i64 0, .bool false, .string ⟨#[]⟩, .slice none 0 0, .int .u32 0, .int .u32 0, .int .u64 0, .int .u32 0, .int .u64 0, .int .u32 0, .string ⟨#[]⟩, .int .u64 0, .int .u32 0] 37 (0, 0)) ∧ W0.heap.size = c + 1 ∧ w.heap.size ≤ c) := by
    rw [← hc, ← hW0]
    exact ⟨al _, heap_alloc_new w _, size_al _ _, Nat.le_refl _⟩
  go_enter Try.func10, Try.ntmps10
  go_wp2_with fail
  refine (new19 s _).mono ?_
  rintro e w1 ⟨rfl, hr, hb1⟩
  obtain ⟨rb, hrb⟩ : ∃ b, W0.heap.size = b := ⟨_, rfl⟩
  rw [hrb] at hr
  have X1 : Hid (Below w.heap.size w w1 ∧ w1.heap[c]? = some (.cells #[.int .u32 0, .int .u32 0, .int .u32 0, .bool false, .int .i64 0, .int .u32 0, .int .u32 0, .int .u64 0, .int .u32 0, .int .u64 0, .int .u32 0, .string ⟨#[]⟩, .string ⟨#[]⟩, .int .i64 0, .int .u8 0, .slice none 0 0, .slice none 0 0, .int .i64 0, .int .i64 0, .bool false, .string ⟨#[]⟩, .slice none 0 0, .int .u32 0, .int .u32 0, .int .u64 0, .int .u32 0, .int .u64 0, .int .u32 0, .string ⟨#[]⟩, .int .u64 0, .int .u32 0] 37 (0, 0)) ∧ RdAt 98 rb ⟨s, 0⟩ w1 ∧ rb = c + 1 ∧ w.heap.size ≤ c) := by
    obtain ⟨h1, h2, h3, h4⟩ := X0.out
    exact ⟨h1.trans (hb1.mono h1.size), by rw [hb1.block c (by omega)]; exact h2, hr, by omega, h4⟩
  rw [hrb]
  clear hr hb1 hW0 hc hrb X0
  obtain ⟨W2, hW2⟩ : ∃ W2, w1.alloc (.cells #[.int .u32 0, .int .u32 0, .int .u32 0, .bool false, .int .i64 0, .int .u32 0, .int .u32 0, .int .u64 0, .int .u32 0, .int .u64 0, .int .u32 0, .string ⟨#[]⟩, .string ⟨#[]⟩, .int .i64 0, .int .u8 0, .slice none 0 0, .slice none 0 0, .int .i64 0, .int .i64 0, .bool false, .string ⟨#[]⟩, .slice none 0 0, .int .u32 0, .int .u32 0, .int .u64 0, .int .u32 0, .int .u64 0, .int .u32 0, .string ⟨#[]⟩, .int .u64 0, .int .u32 0] 37) = W2 := ⟨_, rfl⟩
  obtain ⟨b, hb⟩ : ∃ b, w1.heap.size = b := ⟨_, rfl⟩
  have Y0 : Hid (Rv 98 w rb c b #[.int .u32 0, .int .u32 0, .int .u32 0, .bool false, .int .i64 0, .int .u32 0, .int .u32 0, .int .u64 0, .int .u32 0, .int .u64 0, .int .u32 0, .string ⟨#[]⟩, .string ⟨#[]⟩, .int .i64 0, .int .u8 0, .slice none 0 0, .slice none 0 0, .int .i64 0, .int .i64 0, .bool false, .string ⟨#[]⟩, .slice none 0 0, .int .u32 0, .int .u32 0, .int .u64 0, .int .u32 0, .int .u64 0, .int .u32 0, .string ⟨#[]⟩, .int .u64 0, .int .u32 0] #[.int .u32 0, .int .u32 0, .int .u32 0, .bool false, .int .i64 0, .int .u32 0, .int .u32 0, .int .u64 0, .int .u32 0, .int .u64 0, .int .u32 0, .string ⟨#[]⟩, .string ⟨#[]⟩, .int .i64 0, .int .u8 0, .slice none 0 0, .slice none 0 0, .int .i64 0, .int .i64 0, .bool false, .string ⟨#[]⟩, .slice none 0 0, .int .u32 0, .int .u32 0, .int .u64 0, .int .u32 0, .int .u64 0, .int .u32 0, .string ⟨#[]⟩, .int .u64 0, .int .u32 0] ⟨s, 0⟩ W2) := by
    obtain ⟨h1, h2, h3, h4, h5⟩ := X1.out
    have h6 := lt_of_block h3
    have h7 := lt_of_block h2
    have h8 := h1.size
    rw [← hW2, ← hb]
    exact ⟨h1.alloc h1.size _, h3.alloc _, heap_alloc_new w1 _, by rw [(al (W := w1) _).block c h7]; exact h2, by omega, by omega, by omega, by omega, by omega, by omega⟩
  clear X1
  go_wp2_with fail
  refine (C0.out rb _ Y0.out.rd).mono ?_
  rintro e x0 ⟨rfl, hr, hs⟩
  have X0 : Hid (Rv 98 w rb c b #[.int .u32 0, .int .u32 0, .int .u32 0, .bool false, .int .i64 0, .int .u32 0, .int .u32 0, .int .u64 0, .int .u32 0, .int .u64 0, .int .u32 0, .string ⟨#[]⟩, .string ⟨#[]⟩, .int .i64 0, .int .u8 0, .slice none 0 0, .slice none 0 0, .int .i64 0, .int .i64 0, .bool false, .string ⟨#[]⟩, .slice none 0 0, .int .u32 0, .int .u32 0, .int .u64 0, .int .u32 0, .int .u64 0, .int .u32 0, .string ⟨#[]⟩, .int .u64 0, .int .u32 0] #[.int .u32 0, .int .u32 0, .int .u32 0, .bool false, .int .i64 0, .int .u32 0, .int .u32 0, .int .u64 0, .int .u32 0, .int .u64 0, .int .u32 0, .string ⟨#[]⟩, .string ⟨#[]⟩, .int .i64 0, .int .u8 0, .slice none 0 0, .slice none 0 0, .int .i64 0, .int .i64 0, .bool false, .string ⟨#[]⟩, .slice none 0 0, .int .u32 0, .int .u32 0, .int .u64 0, .int .u32 0, .int .u64 0, .int .u32 0, .string ⟨#[]⟩, .int .u64 0, .int .u32 0] t0 x0) := Y0.out.go hr hs
  clear hr hs C0 Y0 hW2 hb
  have p0 : x0.cell? ⟨b, 0, none⟩ = some (.int .u32 0) := block_cell X0.out.x rfl
  have f0 : x0.frozen? ⟨b, 0, none⟩ = false := block_frozen X0.out.x 0
  obtain ⟨z0, hz0⟩ : ∃ z, x0.setCell ⟨b, 0, none⟩ (.int .u32 (v0 : Int)) = z := ⟨_, rfl⟩
  have Y1 : Hid (Rv 98 w rb c b #[.int .u32 0, .int .u32 0, .int .u32 0, .bool false, .int .i64 0, .int .u32 0, .int .u32 0, .int .u64 0, .int .u32 0, .int .u64 0, .int .u32 0, .string ⟨#[]⟩, .string ⟨#[]⟩, .int .i64 0, .int .u8 0, .slice none 0 0, .slice none 0 0, .int .i64 0, .int .i64 0, .bool false, .string ⟨#[]⟩, .slice none 0 0, .int .u32 0, .int .u32 0, .int .u64 0, .int .u32 0, .int .u64 0, .int .u32 0, .string ⟨#[]⟩, .int .u64 0, .int .u32 0] #[.int .u32 (v0 : Int), .int .u32 0, .int .u32 0, .bool false, .int .i64 0, .int .u32 0, .int .u32 0, .int .u64 0, .int .u32 0, .int .u64 0, .int .u32 0, .string ⟨#[]⟩, .string ⟨#[]⟩, .int .i64 0, .int .u8 0, .slice none 0 0, .slice none 0 0, .int .i64 0, .int .i64 0, .bool false, .string ⟨#[]⟩, .slice none 0 0, .int .u32 0, .int .u32 0, .int .u64 0, .int .u32 0, .int .u64 0, .int .u32 0, .string ⟨#[]⟩, .int .u64 0, .int .u32 0] t0 z0) := by rw [← hz0]; exact X0.out.set 0 (.int .u32 (v0 : Int))
  clear X0
  go_upto_region 4 with fail
  clear hz0 p0 f0
  go_wp2_with fail
  refine (C1.out rb _ Y1.out.rd).mono ?_
  rintro e x1 ⟨rfl, hr, hs⟩
  have X1 : Hid (Rv 98 w rb c b #[.int .u32 0, .int .u32 0, .int .u32 0, .bool false, .int .i64 0, .int .u32 0, .int .u32 0, .int .u64 0, .int .u32 0, .int .u64 0, .int .u32 0, .string ⟨#[]⟩, .string ⟨#[]⟩, .int .i64 0, .int .u8 0, .slice none 0 0, .slice none 0 0, .int .i64 0, .int .i64 0, .bool false, .string ⟨#[]⟩, .slice none 0 0, .int .u32 0, .int .u32 0, .int .u64 0, .int .u32 0, .int .u64 0, .int .u32 0, .string ⟨#[]⟩, .int .u64 0, .int .u32 0] #[.int .u32 (v0 : Int), .int .u32 0, .int .u32 0, .bool false, .int .i64 0, .int .u32 0, .int .u32 0, .int .u64 0, .int .u32 0, .int .u64 0, .int .u32 0, .string ⟨#[]⟩, .string ⟨#[]⟩, .int .i64 0, .int .u8 0, .slice none 0 0, .slice none 0 0, .int .i64 0, .int .i64 0, .bool false, .string ⟨#[]⟩, .slice none 0 0, .int .u32 0, .int .u32 0, .int .u64 0, .int .u32 0, .int .u64 0, .int .u32 0, .string ⟨#[]⟩, .int .u64 0, .int .u32 0] t1 x1) := Y1.out.go hr hs
  clear hr hs C1 Y1
  have p1 : x1.cell? ⟨b, 1, none⟩ = some (.int .u32 0) := block_cell X1.out.x rfl
  have f1 : x1.frozen? ⟨b, 1, none⟩ = false := block_frozen X1.out.x 1
  obtain ⟨z1, hz1⟩ : ∃ z, x1.setCell ⟨b, 1, none⟩ (.int .u32 (v1 : Int)) = z := ⟨_, rfl⟩
  have Y2 : Hid (Rv 98 w rb c b #[.int .u32 0, .int .u32 0, .int .u32 0, .bool false, .int .i64 0, .int .u32 0, .int .u32 0, .int .u64 0, .int .u32 0, .int .u64 0, .int .u32 0, .string ⟨#[]⟩, .string ⟨#[]⟩, .int .i64 0, .int .u8 0, .slice none 0 0, .slice none 0 0, .int .i64 0, .int .i64 0, .bool false, .string ⟨#[]⟩, .slice none 0 0, .int .u32 0, .int .u32 0, .int .u64 0, .int .u32 0, .int .u64 0, .int .u32 0, .string ⟨#[]⟩, .int .u64 0, .int .u32 0] #[.int .u32 (v0 : Int), .int .u32 (v1 : Int), .int .u32 0, .bool false, .int .i64 0, .int .u32 0, .int .u32 0, .int .u64 0, .int .u32 0, .int .u64 0, .int .u32 0, .string ⟨#[]⟩, .string ⟨#[]⟩, .int .i64 0, .int .u8 0, .slice none 0 0, .slice none 0 0, .int .i64 0, .int .i64 0, .bool false, .string ⟨#[]⟩, .slice none 0 0, .int .u32 0, .int .u32 0, .int .u64 0, .int .u32 0, .int .u64 0, .int .u32 0, .string ⟨#[]⟩, .int .u64 0, .int .u32 0] t1 z1) := by rw [← hz1]; exact X1.out.set 1 (.int .u32 (v1 : Int))
  clear X1
  go_upto_region 5 with fail
  clear hz1 p1 f1
  go_wp2_with fail
  refine (C2.out rb _ Y2.out.rd).mono ?_
  rintro e x2 ⟨rfl, hr, hs⟩
  have X2 : Hid (Rv 98 w rb c b #[.int .u32 0, .int .u32 0, .int .u32 0, .bool false, .int .i64 0, .int .u32 0, .int .u32 0, .int .u64 0, .int .u32 0, .int .u64 0, .int .u32 0, .string ⟨#[]⟩, .string ⟨#[]⟩, .int .i64 0, .int .u8 0, .slice none 0 0, .slice none 0 0, .int .i64 0, .int .i64 0, .bool false, .string ⟨#[]⟩, .slice none 0 0, .int .u32 0, .int .u32 0, .int .u64 0, .int .u32 0, .int .u64 0, .int .u32 0, .string ⟨#[]⟩, .int .u64 0, .int .u32 0] #[.int .u32 (v0 : Int), .int .u32 (v1 : Int), .int .u32 0, .bool false, .int .i64 0, .int .u32 0, .int .u32 0, .int .u64 0, .int .u32 0, .int .u64 0, .int .u32 0, .string ⟨#[]⟩, .string ⟨#[]⟩, .int .i64 0, .int .u8 0, .slice none 0 0, .slice none 0 0, .int .i64 0, .int .i64 0, .bool false, .string ⟨#[]⟩, .slice none 0 0, .int .u32 0, .int .u32 0, .int .u64 0, .int .u32 0, .int .u64 0, .int .u32 0, .string ⟨#[]⟩, .int .u64 0, .int .u32 0] t2 x2) := Y2.out.go hr hs
  clear hr hs C2 Y2
  have p2 : x2.cell? ⟨b, 2, none⟩ = some (.int .u32 0) := block_cell X2.out.x rfl
  have f2 : x2.frozen? ⟨b, 2, none⟩ = false := block_frozen X2.out.x 2
  obtain ⟨z2, hz2⟩ : ∃ z, x2.setCell ⟨b, 2, none⟩ (.int .u32 (v2 : Int)) = z := ⟨_, rfl⟩
  have Y3 : Hid (Rv 98 w rb c b #[.int .u32 0, .int .u32 0, .int .u32 0, .bool false, .int .i64 0, .int .u32 0, .int .u32 0, .int .u64 0, .int .u32 0, .int .u64 0, .int .u32 0, .string ⟨#[]⟩, .string ⟨#[]⟩, .int .i64 0, .int .u8 0, .slice none 0 0, .slice none 0 0, .int .i64 0, .int .i64 0, .bool false, .string ⟨#[]⟩, .slice none 0 0, .int .u32 0, .int .u32 0, .int .u64 0, .int .u32 0, .int .u64 0, .int .u32 0, .string ⟨#[]⟩, .int .u64 0, .int .u32 0] #[.int .u32 (v0 : Int), .int .u32 (v1 : Int), .int .u32 (v2 : Int), .bool false, .int .i64 0, .int .u32 0, .int .u32 0, .int .u64 0, .int .u32 0, .int .u64 0, .int .u32 0, .string ⟨#[]⟩, .string ⟨#[]⟩, .int .i64 0, .int .u8 0, .slice none 0 0, .slice none 0 0, .int .i64 0, .int .i64 0, .bool false, .string ⟨#[]⟩, .slice none 0 0, .int .u32 0, .int .u32 0, .int .u64 0, .int .u32 0, .int .u64 0, .int .u32 0, .string ⟨#[]⟩, .int .u64 0, .int .u32 0] t2 z2) := by rw [← hz2]; exact X2.out.set 2 (.int .u32 (v2 : Int))
  clear X2
  go_upto_region 6 with fail
  clear hz2 p2 f2
  go_wp2_with fail
  refine (C3.out rb _ Y3.out.rd).mono ?_
  rintro e x3 ⟨rfl, hr, hs⟩
  have X3 : Hid (Rv 98 w rb c b #[.int .u32 0, .int .u32 0, .int .u32 0, .bool false, .int .i64 0, .int .u32 0, .int .u32 0, .int .u64 0, .int .u32 0, .int .u64 0, .int .u32 0, .string ⟨#[]⟩, .string ⟨#[]⟩, .int .i64 0, .int .u8 0, .slice none 0 0, .slice none 0 0, .int .i64 0, .int .i64 0, .bool false, .string ⟨#[]⟩, .slice none 0 0, .int .u32 0, .int .u32 0, .int .u64 0, .int .u32 0, .int .u64 0, .int .u32 0, .string ⟨#[]⟩, .int .u64 0, .int .u32 0] #[.int .u32 (v0 : Int), .int .u32 (v1 : Int), .int .u32 (v2 : Int), .bool false, .int .i64 0, .int .u32 0, .int .u32 0, .int .u64 0, .int .u32 0, .int .u64 0, .int .u32 0, .string ⟨#[]⟩, .string ⟨#[]⟩, .int .i64 0, .int .u8 0, .slice none 0 0, .slice none 0 0, .int .i64 0, .int .i64 0, .bool false, .string ⟨#[]⟩, .slice none 0 0, .int .u32 0, .int .u32 0, .int .u64 0, .int .u32 0, .int .u64 0, .int .u32 0, .string ⟨#[]⟩, .int .u64 0, .int .u32 0] t3 x3) := Y3.out.go hr hs
  clear hr hs C3 Y3
  have p3 : x3.cell? ⟨b, 3, none⟩ = some (.bool false) := block_cell X3.out.x rfl
  have f3 : x3.frozen? ⟨b, 3, none⟩ = false := block_frozen X3.out.x 3
  obtain ⟨z3, hz3⟩ : ∃ z, x3.setCell ⟨b, 3, none⟩ (.bool false) = z := ⟨_, rfl⟩
  have Y4 : Hid (Rv 98 w rb c b #[.int .u32 0, .int .u32 0, .int .u32 0, .bool false, .int .i64 0, .int .u32 0, .int .u32 0, .int .u64 0, .int .u32 0, .int .u64 0, .int .u32 0, .string ⟨#[]⟩, .string ⟨#[]⟩, .int .i64 0, .int .u8 0, .slice none 0 0, .slice none 0 0, .int .i64 0, .int .i64 0, .bool false, .string ⟨#[]⟩, .slice none 0 0, .int .u32 0, .int .u32 0, .int .u64 0, .int .u32 0, .int .u64 0, .int .u32 0, .string ⟨#[]⟩, .int .u64 0, .int .u32 0] #[.int .u32 (v0 : Int), .int .u32 (v1 : Int), .int .u32 (v2 : Int), .bool false, .int .i64 0, .int .u32 0, .int .u32 0, .int .u64 0, .int .u32 0, .int .u64 0, .int .u32 0, .string ⟨#[]⟩, .string ⟨#[]⟩, .int .i64 0, .int .u8 0, .slice none 0 0, .slice none 0 0, .int .i64 0, .int .i64 0, .bool false, .string ⟨#[]⟩, .slice none 0 0, .int .u32 0, .int .u32 0, .int .u64 0, .int .u32 0, .int .u64 0, .int .u32 0, .string ⟨#[]⟩, .int .u64 0, .int .u32 0] t3 z3) := by rw [← hz3]; exact X3.out.set 3 (.bool false)
  clear X3
  go_upto_region 7 with fail
  clear hz3 p3 f3
  have p3 : z3.cell? ⟨b, 3, none⟩ = some (.bool false) := block_cell Y4.out.x rfl
  go_wp2_with fail
  refine (C4.out rb _ Y4.out.rd).mono ?_
  rintro e x4 ⟨wa, wc, sa, sc, rfl, ho, ho2, hr, hs⟩
  have X4 : Hid (Rv 98 w rb c b #[.int .u32 0, .int .u32 0, .int .u32 0, .bool false, .int .i64 0, .int .u32 0, .int .u32 0, .int .u64 0, .int .u32 0, .int .u64 0, .int .u32 0, .string ⟨#[]⟩, .string ⟨#[]⟩, .int .i64 0, .int .u8 0, .slice none 0 0, .slice none 0 0, .int .i64 0, .int .i64 0, .bool false, .string ⟨#[]⟩, .slice none 0 0, .int .u32 0, .int .u32 0, .int .u64 0, .int .u32 0, .int .u64 0, .int .u32 0, .string ⟨#[]⟩, .int .u64 0, .int .u32 0] #[.int .u32 (v0 : Int), .int .u32 (v1 : Int), .int .u32 (v2 : Int), .bool false, .int .i64 0, .int .u32 0, .int .u32 0, .int .u64 0, .int .u32 0, .int .u64 0, .int .u32 0, .string ⟨#[]⟩, .string ⟨#[]⟩, .int .i64 0, .int .u8 0, .slice none 0 0, .slice none 0 0, .int .i64 0, .int .i64 0, .bool false, .string ⟨#[]⟩, .slice none 0 0, .int .u32 0, .int .u32 0, .int .u64 0, .int .u32 0, .int .u64 0, .int .u32 0, .string ⟨#[]⟩, .int .u64 0, .int .u32 0] tz x4) := Y4.out.go hr hs
  have hbz := (Array.getElem?_eq_some_iff.1 Y4.out.x).1
  have hcz := (Array.getElem?_eq_some_iff.1 Y4.out.y).1
  obtain ⟨B, hB⟩ : ∃ B, z3.heap.size = B := ⟨_, rfl⟩
  rw [hB] at ho hbz hcz ho2
  have O4 : Hid ((x4.ownsRow B 65 3 (.slice wa x.ws.length wc) x.ws.length (rowC wrc x.ws) ∧ x4.ownsRow B 24 2 (.slice sa x.sk.length sc) x.sk.length (rowC tnc x.sk)) ∧ b < B ∧ c < B) := ⟨⟨ho, ho2⟩, hbz, hcz⟩
  clear hr hs C4 Y4 ho hbz hcz hB p3 ho2
  obtain ⟨z4, hz4⟩ : ∃ z, x4.setCells b 4 (#[.int .i64 x.k, .int .u32 (x.c : Int), .int .u32 (x.n : Int), .int .u64 (x.sp : Int), .int .u32 (x.sl : Int), .int .u64 (x.ap : Int), .int .u32 (x.al : Int), .string (bs x.key), .string (bs x.to), .int .i64 x.lim, .int .u8 (x.pt : Int), .slice wa x.ws.length wc, .slice sa x.sk.length sc] : Array Value).toList = z := ⟨_, rfl⟩
  have Y5 : Hid (Rv 98 w rb c b #[.int .u32 0, .int .u32 0, .int .u32 0, .bool false, .int .i64 0, .int .u32 0, .int .u32 0, .int .u64 0, .int .u32 0, .int .u64 0, .int .u32 0, .string ⟨#[]⟩, .string ⟨#[]⟩, .int .i64 0, .int .u8 0, .slice none 0 0, .slice none 0 0, .int .i64 0, .int .i64 0, .bool false, .string ⟨#[]⟩, .slice none 0 0, .int .u32 0, .int .u32 0, .int .u64 0, .int .u32 0, .int .u64 0, .int .u32 0, .string ⟨#[]⟩, .int .u64 0, .int .u32 0] #[.int .u32 (v0 : Int), .int .u32 (v1 : Int), .int .u32 (v2 : Int), .bool false, .int .i64 x.k, .int .u32 (x.c : Int), .int .u32 (x.n : Int), .int .u64 (x.sp : Int), .int .u32 (x.sl : Int), .int .u64 (x.ap : Int), .int .u32 (x.al : Int), .string (bs x.key), .string (bs x.to), .int .i64 x.lim, .int .u8 (x.pt : Int), .slice wa x.ws.length wc, .slice sa x.sk.length sc, .int .i64 0, .int .i64 0, .bool false, .string ⟨#[]⟩, .slice none 0 0, .int .u32 0, .int .u32 0, .int .u64 0, .int .u32 0, .int .u64 0, .int .u32 0, .string ⟨#[]⟩, .int .u64 0, .int .u32 0] tz z4) := by
    have h := X4.out.many 4 (#[.int .i64 x.k, .int .u32 (x.c : Int), .int .u32 (x.n : Int), .int .u64 (x.sp : Int), .int .u32 (x.sl : Int), .int .u64 (x.ap : Int), .int .u32 (x.al : Int), .string (bs x.key), .string (bs x.to), .int .i64 x.lim, .int .u8 (x.pt : Int), .slice wa x.ws.length wc, .slice sa x.sk.length sc] : Array Value).toList
    rw [show setMany #[.int .u32 (v0 : Int), .int .u32 (v1 : Int), .int .u32 (v2 : Int), .bool false, .int .i64 0, .int .u32 0, .int .u32 0, .int .u64 0, .int .u32 0, .int .u64 0, .int .u32 0, .string ⟨#[]⟩, .string ⟨#[]⟩, .int .i64 0, .int .u8 0, .slice none 0 0, .slice none 0 0, .int .i64 0, .int .i64 0, .bool false, .string ⟨#[]⟩, .slice none 0 0, .int .u32 0, .int .u32 0, .int .u64 0, .int .u32 0, .int .u64 0, .int .u32 0, .string ⟨#[]⟩, .int .u64 0, .int .u32 0] 4 (#[.int .i64 x.k, .int .u32 (x.c : Int), .int .u32 (x.n : Int), .int .u64 (x.sp : Int), .int .u32 (x.sl : Int), .int .u64 (x.ap : Int), .int .u32 (x.al : Int), .string (bs x.key), .string (bs x.to), .int .i64 x.lim, .int .u8 (x.pt : Int), .slice wa x.ws.length wc, .slice sa x.sk.length sc] : Array Value).toList = #[.int .u32 (v0 : Int), .int .u32 (v1 : Int), .int .u32 (v2 : Int), .bool false, .int .i64 x.k, .int .u32 (x.c : Int), .int .u32 (x.n : Int), .int .u64 (x.sp : Int), .int .u32 (x.sl : Int), .int .u64 (x.ap : Int), .int .u32 (x.al : Int), .string (bs x.key), .string (bs x.to), .int .i64 x.lim, .int .u8 (x.pt : Int), .slice wa x.ws.length wc, .slice sa x.sk.length sc, .int .i64 0, .int .i64 0, .bool false, .string ⟨#[]⟩, .slice none 0 0, .int .u32 0, .int .u32 0, .int .u64 0, .int .u32 0, .int .u64 0, .int .u32 0, .string ⟨#[]⟩, .int .u64 0, .int .u32 0] from by kernel_rfl, hz4] at h
    exact h
  have O5 : Hid ((z4.ownsRow B 65 3 (.slice wa x.ws.length wc) x.ws.length (rowC wrc x.ws) ∧ z4.ownsRow B 24 2 (.slice sa x.sk.length sc) x.sk.length (rowC tnc x.sk)) ∧ c < B) := by
    rw [← hz4]
    exact ⟨⟨many_own O4.out.1.1 O4.out.2.1 _ _, many_own O4.out.1.2 O4.out.2.1 _ _⟩, O4.out.2.2⟩
  go_wp2_with (refine wpList_store_mid rfl 31 _ _ rfl b 4 #[.int .i64 x.k, .int .u32 (x.c : Int), .int .u32 (x.n : Int), .int .u64 (x.sp : Int), .int .u32 (x.sl : Int), .int .u64 (x.ap : Int), .int .u32 (x.al : Int), .string (bs x.key), .string (bs x.to), .int .i64 x.lim, .int .u8 (x.pt : Int), .slice wa x.ws.length wc, .slice sa x.sk.length sc] rfl rfl (there_block X4.out.x 4 13 (by simp)) (by kernel_rfl) (by simp [Value.oneCell']) ?_; rewrite [hz4])
  clear hz4 X4 O4
  refine (end25 rb tz _ Y5.out.rd).mono ?_
  rintro e w5 ⟨rfl, rfl⟩
  have HLA : Hid (LAt z4.heap.size ⟨v0, v1, v2, false, x, zR⟩ (.slice wa x.ws.length wc) (.slice sa x.sk.length sc) (.slice none 0 0) z4) := ⟨⟨rw_own O5.out.1.1, rw_own O5.out.1.2⟩, pat_nil _ _⟩
  have CR : Hid (∀ W, Below z4.heap.size z4 W → Calls Try.prog 9 #[.agg #[.int .u32 (v0 : Int), .int .u32 (v1 : Int), .int .u32 (v2 : Int), .bool false, .int .i64 x.k, .int .u32 (x.c : Int), .int .u32 (x.n : Int), .int .u64 (x.sp : Int), .int .u32 (x.sl : Int), .int .u64 (x.ap : Int), .int .u32 (x.al : Int), .string (bs x.key), .string (bs x.to), .int .i64 x.lim, .int .u8 (x.pt : Int), .slice wa x.ws.length wc, .slice sa x.sk.length sc, .int .i64 0, .int .i64 0, .bool false, .string ⟨#[]⟩, .slice none 0 0, .int .u32 0, .int .u32 0, .int .u64 0, .int .u32 0, .int .u64 0, .int .u32 0, .string ⟨#[]⟩, .int .u64 0, .int .u32 0]] W fun e w' => e = .returned (.bool (rightL ⟨v0, v1, v2, false, x, zR⟩)) ∧ Below W.heap.size W w') := fun W hW => right9 ⟨v0, v1, v2, false, x, zR⟩ wa sa none wc sc 0 W (HLA.out.up hW)
  obtain ⟨ne, hne⟩ : ∃ n, rdEnd tz = n := ⟨_, rfl⟩
  obtain ⟨rt, hrt⟩ : ∃ r, rightL ⟨v0, v1, v2, false, x, zR⟩ = r := ⟨_, rfl⟩
  rw [hne] at HRL ⊢
  rw [hrt] at HRL CR
  clear hne hrt
  by_cases h0 : ne = 0
  rotate_left
  · have h0' : ((ne : Int) != 0) = true := by simp; omega
    have HN : Hid (readL s = none) := by show _ = _; rw [HRL.out, if_neg (by omega)]
    go_wp2_with (refine wpList_store_row rfl 37 _ _ rfl c #[.int .u32 0, .int .u32 0, .int .u32 0, .bool false, .int .i64 0, .int .u32 0, .int .u32 0, .int .u64 0, .int .u32 0, .int .u64 0, .int .u32 0, .string ⟨#[]⟩, .string ⟨#[]⟩, .int .i64 0, .int .u8 0, .slice none 0 0, .slice none 0 0, .int .i64 0, .int .i64 0, .bool false, .string ⟨#[]⟩, .slice none 0 0, .int .u32 0, .int .u32 0, .int .u64 0, .int .u32 0, .int .u64 0, .int .u32 0, .string ⟨#[]⟩, .int .u64 0, .int .u32 0] rfl rfl 37 _ Y5.out.y (by kernel_rfl) rfl (by simp [Value.oneCell']) ?_)
    (try simp only [Exit.inBlock, Exit.then])
    refine bodyPost_ret (results_two rfl _ _ c _ _ rfl rfl (run_loadVar_row _ _ 37 37 _ (0, 0) _ (setRow_heap _ c _ _ 37 (0, 0) Y5.out.y) Try.underlying37 rfl (by kernel_rfl))) rfl ?_
    exact ⟨bel_row Y5.out.bel Y5.out.bel.size Y5.out.lc _, fun _ => rfl, fun l h => by rw [HN.out] at h; cases h⟩
  have h0' : ((ne : Int) != 0) = false := by simp; omega
  go_wp2_with (refine wpList_load_row_g rfl 37 _ rfl b rfl 37 _ (0, 0) _ Y5.out.x Try.underlying37 rfl (by kernel_rfl) ?_)
  refine (CR.out _ (Below.refl _ _)).mono ?_
  rintro e w6 ⟨rfl, hb6⟩
  have Y6 : Hid (Rv 98 w rb c b #[.int .u32 0, .int .u32 0, .int .u32 0, .bool false, .int .i64 0, .int .u32 0, .int .u32 0, .int .u64 0, .int .u32 0, .int .u64 0, .int .u32 0, .string ⟨#[]⟩, .string ⟨#[]⟩, .int .i64 0, .int .u8 0, .slice none 0 0, .slice none 0 0, .int .i64 0, .int .i64 0, .bool false, .string ⟨#[]⟩, .slice none 0 0, .int .u32 0, .int .u32 0, .int .u64 0, .int .u32 0, .int .u64 0, .int .u32 0, .string ⟨#[]⟩, .int .u64 0, .int .u32 0] #[.int .u32 (v0 : Int), .int .u32 (v1 : Int), .int .u32 (v2 : Int), .bool false, .int .i64 x.k, .int .u32 (x.c : Int), .int .u32 (x.n : Int), .int .u64 (x.sp : Int), .int .u32 (x.sl : Int), .int .u64 (x.ap : Int), .int .u32 (x.al : Int), .string (bs x.key), .string (bs x.to), .int .i64 x.lim, .int .u8 (x.pt : Int), .slice wa x.ws.length wc, .slice sa x.sk.length sc, .int .i64 0, .int .i64 0, .bool false, .string ⟨#[]⟩, .slice none 0 0, .int .u32 0, .int .u32 0, .int .u64 0, .int .u32 0, .int .u64 0, .int .u32 0, .string ⟨#[]⟩, .int .u64 0, .int .u32 0] tz w6) := Y5.out.on hb6
  have O6 : Hid ((w6.ownsRow B 65 3 (.slice wa x.ws.length wc) x.ws.length (rowC wrc x.ws) ∧ w6.ownsRow B 24 2 (.slice sa x.sk.length sc) x.sk.length (rowC tnc x.sk)) ∧ c < B) := ⟨⟨own_on O5.out.1.1 hb6, own_on O5.out.1.2 hb6⟩, O5.out.2⟩
  clear hb6 CR Y5 HLA O5
  cases rt
  · have HN : Hid (readL s = none) := by show _ = _; rw [HRL.out, if_neg (by simp)]
    go_wp2_with (refine wpList_store_row rfl 37 _ _ rfl c #[.int .u32 0, .int .u32 0, .int .u32 0, .bool false, .int .i64 0, .int .u32 0, .int .u32 0, .int .u64 0, .int .u32 0, .int .u64 0, .int .u32 0, .string ⟨#[]⟩, .string ⟨#[]⟩, .int .i64 0, .int .u8 0, .slice none 0 0, .slice none 0 0, .int .i64 0, .int .i64 0, .bool false, .string ⟨#[]⟩, .slice none 0 0, .int .u32 0, .int .u32 0, .int .u64 0, .int .u32 0, .int .u64 0, .int .u32 0, .string ⟨#[]⟩, .int .u64 0, .int .u32 0] rfl rfl 37 _ Y6.out.y (by kernel_rfl) rfl (by simp [Value.oneCell']) ?_)
    (try simp only [Exit.inBlock, Exit.then])
    refine bodyPost_ret (results_two rfl _ _ c _ _ rfl rfl (run_loadVar_row _ _ 37 37 _ (0, 0) _ (setRow_heap _ c _ _ 37 (0, 0) Y6.out.y) Try.underlying37 rfl (by kernel_rfl))) rfl ?_
    exact ⟨bel_row Y6.out.bel Y6.out.bel.size Y6.out.lc _, fun _ => rfl, fun l h => by rw [HN.out] at h; cases h⟩
  have HN : Hid (readL s = some ⟨v0, v1, v2, false, x, zR⟩) := by show _ = _; rw [HRL.out, if_pos ⟨h0, rfl⟩]
  clear HRL
  go_wp2_with (first
    | (refine wpList_load_row rfl 37 _ rfl b rfl 37 _ (0, 0) _ Y6.out.x Try.underlying37 rfl (by kernel_rfl) ?_)
    | (refine wpList_store_row rfl 37 _ _ rfl c #[.int .u32 (v0 : Int), .int .u32 (v1 : Int), .int .u32 (v2 : Int), .bool false, .int .i64 x.k, .int .u32 (x.c : Int), .int .u32 (x.n : Int), .int .u64 (x.sp : Int), .int .u32 (x.sl : Int), .int .u64 (x.ap : Int), .int .u32 (x.al : Int), .string (bs x.key), .string (bs x.to), .int .i64 x.lim, .int .u8 (x.pt : Int), .slice wa x.ws.length wc, .slice sa x.sk.length sc, .int .i64 0, .int .i64 0, .bool false, .string ⟨#[]⟩, .slice none 0 0, .int .u32 0, .int .u32 0, .int .u64 0, .int .u32 0, .int .u64 0, .int .u32 0, .string ⟨#[]⟩, .int .u64 0, .int .u32 0] rfl rfl 37 _ Y6.out.y (by kernel_rfl) rfl (by simp [Value.oneCell']) ?_))
  (try simp only [Exit.inBlock, Exit.then])
  refine bodyPost_ret (results_two rfl _ _ c _ _ rfl rfl (run_loadVar_row _ _ 37 37 _ (0, 0) _ (setRow_heap _ c _ _ 37 (0, 0) Y6.out.y) Try.underlying37 rfl (by kernel_rfl))) rfl ?_
  refine ⟨bel_row Y6.out.bel Y6.out.bel.size Y6.out.lc _, fun h => (by rw [HN.out] at h; cases h), fun l h => ?_⟩
  rw [HN.out] at h
  injection h with h
  subst h
  exact ⟨wa, sa, none, wc, sc, 0, rfl, ⟨⟨rw_own (row_own O6.out.1.1 O6.out.2 _), rw_own (row_own O6.out.1.2 O6.out.2 _)⟩, pat_nil _ _⟩⟩
theorem read10 (s : List UInt8) (w : World) (hl : s.length < 4611686018427387904) : Calls Try.prog 10 #[.string (bs s)] w (RdPost s w) := by
  cases h : (rdFlag (rdNum 4294967295 (rdNum 7 (rdNum 3 ⟨s, 0⟩).2).2).2).1 with
  | true => exact read10t s w hl h
  | false => exact read10f s w hl h
end Go.Proofs.Ytmldgfepnmencaa
