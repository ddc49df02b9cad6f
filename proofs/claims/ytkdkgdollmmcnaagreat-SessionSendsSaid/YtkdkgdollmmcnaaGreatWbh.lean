import Derived.Test.YtkdkgdollmmcnaaGreatWbg
set_option maxHeartbeats 4000000
set_option maxRecDepth 100000
set_option linter.unusedVariables false
set_option linter.unusedSimpArgs false
namespace Go.Proofs.YtkdkgdollmmcnaaGreat
open Go.RowKit Go.Sort Go.Shelf
variable {M M' G N : Nat → Prop} {W W' w : World} {f f' : Fo} {X X' : Ss}
theorem hear48 (cl : Nat) (x : Ax) (bl sh sq : Nat) (w : World) (h1 : w.cell? ⟨bl, 1, none⟩ = some (.int .u32 (sh : Int))) (h2 : w.cell? ⟨bl, 2, none⟩ = some (.int .u32 (sq : Int))) : Calls Tryz.prog 48 (#[.agg (axc cl x).toArray] ++ #[pz bl]) w fun e w' => e = .returned (.bool (x.a.sq == sq && x.a.sh == sh)) ∧ Below w.heap.size w w' := by
 obtain ⟨z, hz⟩ := xj (axc cl x).toArray
 have z1 : z[1]? = some (.int .u32 (x.a.sh : Int)) := by rw [← hz]; rfl
 have z2 : z[2]? = some (.int .u32 (x.a.sq : Int)) := by rw [← hz]; rfl
 rw [hz]
 have HX : Hid ((w.alloc (.cells z 99)).heap[w.heap.size]? = some (.cells z 99 (0, 0))) := heap_alloc_new w _
 have p1 : (w.alloc (.cells z 99)).cell? ⟨w.heap.size, 1, none⟩ = some (.int .u32 (x.a.sh : Int)) := block_cell HX.out z1
 have p2 : (w.alloc (.cells z 99)).cell? ⟨w.heap.size, 2, none⟩ = some (.int .u32 (x.a.sq : Int)) := block_cell HX.out z2
 have HB : Hid (Below w.heap.size w (w.alloc (.cells z 99))) := al _
 have hl : bl < w.heap.size := World.block_lt_of_cell? _ _ h1
 have e1 : ((x.a.sq : Int) == (sq : Int)) = (x.a.sq == sq) := by rw [Bool.eq_iff_iff]; simp only [beq_iff_eq]; omega
 have e2 : ((x.a.sh : Int) == (sh : Int)) = (x.a.sh == sh) := by rw [Bool.eq_iff_iff]; simp only [beq_iff_eq]; omega
 rw [← e1, ← e2]
 generalize (x.a.sh : Int) = a at *
 generalize (x.a.sq : Int) = b at *
 clear hz z1 z2 HX e1 e2
 show Calls Tryz.prog 48 #[.agg z, pz bl] w _
 cases hb : (b == (sq : Int))
 ·go_enter Tryz.func48, Tryz.ntmps48
  go_wp2_with fail
  go_ret
  exact ⟨rfl, HB.out⟩
 ·go_enter Tryz.func48, Tryz.ntmps48
  go_wp2_with fail
  go_ret
  exact ⟨rfl, HB.out⟩
theorem new8 (cl nsh : Nat) (hc : cl < 4) (hs : 1 ≤ nsh ∧ nsh ≤ 8) (w : World) : Calls Tryz.prog 8 #[iw (cl : Int), iw (nsh : Int)] w fun e w' => e = .returned (.tuple #[pz w.heap.size, iw 0]) ∧ Below w.heap.size w w' ∧ w'.heap[w.heap.size]? = some (.cells #[.int .u32 (cl : Int), iw (nsh : Int), .int .u64 0, .int .u32 0, .int .u32 0, .int .u32 0, .pointer none, .nilFunc, .slice none 0 0, .slice none 0 0] 77 (0, 0)) := by
 have a1 : ¬ (cl : Int) < 0 := by omega
 have a2 : ¬ (4 : Int) ≤ (cl : Int) := by omega
 have a3 : ¬ (nsh : Int) < 1 := by omega
 have a4 : ¬ (8 : Int) < (nsh : Int) := by omega
 have a5 : (cl : Int) < 4294967296 := by omega
 have HB : Hid (Below w.heap.size w (w.alloc (.cells #[.int .u32 (cl : Int), iw (nsh : Int), .int .u64 0, .int .u32 0, .int .u32 0, .int .u32 0, .pointer none, .nilFunc, .slice none 0 0, .slice none 0 0] 77))) := al _
 have HX : Hid ((w.alloc (.cells #[.int .u32 (cl : Int), iw (nsh : Int), .int .u64 0, .int .u32 0, .int .u32 0, .int .u32 0, .pointer none, .nilFunc, .slice none 0 0, .slice none 0 0] 77)).heap[w.heap.size]? = some (.cells #[.int .u32 (cl : Int), iw (nsh : Int), .int .u64 0, .int .u32 0, .int .u32 0, .int .u32 0, .pointer none, .nilFunc, .slice none 0 0, .slice none 0 0] 77 (0, 0))) := heap_alloc_new w _
 clear hc hs
 go_enter Tryz.func8, Tryz.ntmps8
 go_wp2_with fail
 go_ret2
 exact ⟨rfl, HB.out, HX.out⟩
theorem SC.fresh0 (cl nsh : Nat) (w : World) (h : W.heap[w.heap.size]? = some (.cells #[.int .u32 (cl : Int), iw (nsh : Int), .int .u64 0, .int .u32 0, .int .u32 0, .int .u32 0, .pointer none, .nilFunc, .slice none 0 0, .slice none 0 0] 77 (0, 0))) : SC ⟨w.heap.size, 0, .slice none 0 0, .slice none 0 0, .slice none 0 0, 0, 0, 0, 0, zO, 0, .slice none 0 0, [], fun _ => 0, fun _ => 0, [], []⟩ N (Ss.new cl nsh) W :=
 ⟨h, (fun e => by cases e), own_nil _ _ _ _, own_nil _ _ _ _, rfl, rfl, ⟨fun e => absurd rfl e, (fun e => by cases e), (fun e => by cases e), Nat.zero_le _⟩, (fun n e => by cases e), (fun n e => by cases e), (fun x e => by cases e), (fun x e => by cases e)⟩
theorem res_ps (k : Int) : (resF X k).ps = [] := by unfold resF; split <;> rfl
theorem stopF_ps (e : Int) : (stopF bt X e).2.ps = [] := by
 unfold stopF
 split
 ·exact res_ps 5
 ·show (badF (dropF X) e).ps = []
  exact res_ps 6
theorem lock_ps (a : Ak) (r : Rp) : (lockF bt X a r).2.ps = [] := by
 unfold lockF
 split
 ·exact stopF_ps 1
 ·rfl
theorem ans_get (u : Un f N X 9 w) (ho : X.op.k ≠ 0) (ht : X.op.k ≠ 6) (a : Ak) (ha : a.q.k = 1) (hsp : a.q.sp = X.sp ∧ a.q.sl = X.sl) (bs' bn bq bd : Nat) (hb : Bq (f.Ex N X.act) f w bs' bn bq bd a.sh a.q) (r : Rp) (vp : Value) :
  Calls Tryz.prog 117 #[.agg (rpc r vp).toArray, pz bs', pz bn, pz bq, pz bd] w (GotP f N X w (ansF bt X a r).1 (ansF bt X a r).2) := by
 have hk : 1 ≤ a.q.k ∧ a.q.k ≤ 3 := by omega
 by_cases h3 : r.k = 3
 ·have e : ansF bt X a r = lockF bt X a r := by unfold ansF; rw [if_pos h3]
  rw [e]
  exact (try117a u a.sh a.q hk bs' bn bq bd hb r vp ho (fun e => absurd e ht) (fun _ => hsp) a rfl rfl h3).mono fun e w' g => g.p (lock_ps a r)
 ·have hps : (ansF bt X a r).2.ps = [] := by
   unfold ansF
   rw [if_neg h3, ha]
   by_cases h1 : r.k = 1
   ·rw [if_pos ⟨rfl, h1⟩]
    exact res_ps 2
   ·rw [if_neg (fun e => h1 e.2), if_neg (fun e => absurd e.1 (by decide)), if_neg (fun e => absurd e.1 (by decide)), if_neg (fun e => absurd e.1 (by decide)), if_neg (fun e => absurd e.1 (by decide))]
    exact stopF_ps _
  refine try117b u a.sh a.q hk bs' bn bq bd hb r vp _ _ (fun fnum cp N' W u' hd _ => ?_) h3
  obtain ⟨b, hb', h1, -, -⟩ := hd
  have e := h1 ha
  injection e with e1 e2 e3
  injection e1 with e1
  subst e1
  subst e3
  exact (get81 u' b hb' r vp ho ht a ha h3).mono fun e w' g => g.p hps
theorem ans_lay (u : Un f N X 9 w) (ho : X.op.k = 6) (hs : X.stg = 1) (hl : 1 ≤ X.left ∧ X.left ≤ 8) (hne : X.ws ≠ []) (a : Ak) (ha : a.q.k = 3) (bs' bn bq bd : Nat) (hb : Bq (f.Ex N X.act) f w bs' bn bq bd a.sh a.q) (r : Rp) (vp : Value) :
  Calls Tryz.prog 117 #[.agg (rpc r vp).toArray, pz bs', pz bn, pz bq, pz bd] w (GotP f N X w (ansF bt X a r).1 (ansF bt X a r).2) := by
 have hk : 1 ≤ a.q.k ∧ a.q.k ≤ 3 := by omega
 by_cases h3 : r.k = 3
 ·have e : ansF bt X a r = lockF bt X a r := by unfold ansF; rw [if_pos h3]
  rw [e]
  exact (try117a u a.sh a.q hk bs' bn bq bd hb r vp (by rw [ho]; decide) (fun _ => hs) (fun e => absurd ha e) a rfl rfl h3).mono fun e w' g => g.p (lock_ps a r)
 ·have hps : (ansF bt X a r).2.ps = [] := by
   unfold ansF
   rw [if_neg h3, ha, if_neg (fun e => absurd e.1 (by decide)), if_neg (fun e => absurd e.1 (by decide))]
   split
   ·rfl
   ·split
    ·exact res_ps 5
    ·split
     ·exact res_ps 5
     ·exact stopF_ps _
  refine try117b u a.sh a.q hk bs' bn bq bd hb r vp _ _ (fun fnum cp N' W u' hd _ => ?_) h3
  obtain ⟨b, hb', -, -, h1⟩ := hd
  have e := h1 ha
  injection e with e1 e2 e3
  injection e1 with e1
  subst e1
  subst e3
  exact (com92 u' b hb' r vp ho hs hl hne a ha h3).mono fun e w' g => g.p hps
def Then (fv : Value) (rc : Array Value) (w : World) (Q : Ending → World → Prop) : Prop := ∃ fnum cp, fv = .func (.func fnum) #[] cp ∧ (∀ args w, (callFunc fnum args).run Tryz.prog w = .ok (.enter fnum args) w) ∧ Calls Tryz.prog fnum (#[.agg rc] ++ cp) w Q
theorem ent117 : ∀ args w, (callFunc 117 args).run Tryz.prog w = .ok (.enter 117 args) w := enters_of Tryz.func117 (by kernel_rfl) rfl
theorem ent148 : ∀ args w, (callFunc 148 args).run Tryz.prog w = .ok (.enter 148 args) w := enters_of Tryz.func148 (by kernel_rfl) rfl
theorem ent162 : ∀ args w, (callFunc 162 args).run Tryz.prog w = .ok (.enter 162 args) w := enters_of Tryz.func162 (by kernel_rfl) rfl
theorem ent134 : ∀ args w, (callFunc 134 args).run Tryz.prog w = .ok (.enter 134 args) w := enters_of Tryz.func134 (by kernel_rfl) rfl
theorem ent156 : ∀ args w, (callFunc 156 args).run Tryz.prog w = .ok (.enter 156 args) w := enters_of Tryz.func156 (by kernel_rfl) rfl
theorem then_get (u : Un f N X 9 w) (ho : X.op.k ≠ 0) (ht : X.op.k ≠ 6) (x : Ax) (hx : AkIs (f.Ex N X.act) f X w x) (hc : x.a.ch = false) (hst : x.a.st = 0) (ha : x.a.q.k = 1) (hsp : x.a.q.sp = X.sp ∧ x.a.q.sl = X.sl) (r : Rp) (vp : Value) : Then x.fv (rpc r vp).toArray w (GotP f N X w (ansF bt X x.a r).1 (ansF bt X x.a r).2) := by
 obtain ⟨bs', bn, bq, bd, h1, h2⟩ := hx.tr hc hst (by omega)
 exact ⟨117, _, h1, ent117, ans_get u ho ht x.a ha hsp bs' bn bq bd h2 r vp⟩
theorem then_lay (u : Un f N X 9 w) (ho : X.op.k = 6) (hs : X.stg = 1) (hl : 1 ≤ X.left ∧ X.left ≤ 8) (hne : X.ws ≠ []) (x : Ax) (hx : AkIs (f.Ex N X.act) f X w x) (hc : x.a.ch = false) (hst : x.a.st = 0) (ha : x.a.q.k = 3) (r : Rp) (vp : Value) : Then x.fv (rpc r vp).toArray w (GotP f N X w (ansF bt X x.a r).1 (ansF bt X x.a r).2) := by
 obtain ⟨bs', bn, bq, bd, h1, h2⟩ := hx.tr hc hst (by omega)
 exact ⟨117, _, h1, ent117, ans_lay u ho hs hl hne x.a ha bs' bn bq bd h2 r vp⟩
theorem push_ps (a : Ak) (r : Rp) : (pushF bt X a r).2.ps = [] := by
 unfold pushF
 split
 ·rfl
 ·split
  ·rfl
  ·split
   ·split
    ·exact res_ps 5
    ·split
     ·exact res_ps 6
     ·rfl
   ·exact stopF_ps _
theorem then_push (u : Un f N X 9 w) (ho : X.op.k ≠ 0) (x : Ax) (hx : AkIs (f.Ex N X.act) f X w x) (hc : x.a.ch = false) (hst : x.a.st = 1) (hm : x.a.hm < 4294967296) (hk : 1 ≤ x.a.was.k ∧ x.a.was.k ≤ 3) (ht3 : x.a.was.k = 3 → X.op.k = 6 ∧ X.stg = 1) (hn3 : x.a.was.k ≠ 3 → X.op.k ≠ 6) (r : Rp) (vp : Value) : Then x.fv (rpc r vp).toArray w (GotP f N X w (pushF bt X x.a r).1 (pushF bt X x.a r).2) := by
 obtain ⟨bs', bn, bq, bd, bw, bt', h1, h2, h3, h4⟩ := hx.pu hc hst
 exact ⟨148, _, h1, ent148, (push148 u x.a.hm hm x.a.was hk bs' bn bq bd bw bt' x.a.lk h2 h3 h4 r vp ho ht3 hn3 x.a rfl rfl rfl).mono fun e w' g => g.p (push_ps x.a r)⟩
theorem then_unl (u : Un f N X 9 w) (ho : X.op.k ≠ 0) (hs : X.op.k = 6 → X.stg = 1) (x : Ax) (hx : AkIs (f.Ex N X.act) f X w x) (hc : x.a.ch = false) (hst : x.a.st = 2) (hm : x.a.hm < 4294967296) (hk : 1 ≤ x.a.was.k ∧ x.a.was.k ≤ 3) (r : Rp) (vp : Value) : Then x.fv (rpc r vp).toArray w (GotP f N X w (if r.k = 0 then stopF bt X (wrongF r) else (askF X (akF x.a.hm x.a.was), zS)).1 (if r.k = 0 then stopF bt X (wrongF r) else (askF X (akF x.a.hm x.a.was), zS)).2) := by
 obtain ⟨bs', bn, bq, bd, h1, h2⟩ := hx.un hc hst
 refine ⟨162, _, h1, ent162, (unl162 u ho hs x.a.hm hm x.a.was hk bs' bn bq bd h2 r vp).mono fun e w' g => g.p ?_⟩
 split
 ·exact stopF_ps _
 ·rfl
theorem then_c0 (h : SC f N X w) (b : Bd f X) (x : Ax) (hx : AkIs (f.Ex N X.act) f X w x) (hc : x.a.ch = true) (hk : x.a.q.k ≠ 5) (r : Rp) (vp : Value) : Then x.fv (rpc r vp).toArray w (GotP f N X w X zS) :=
 ⟨134, #[], hx.c0 hc hk, ent134, (not134 (rpc r vp).toArray w).mono fun e w' ⟨h1, h2⟩ => Got.p ⟨h1, f, To.on h h2, rfl, b⟩ rfl⟩
theorem cnt_any (L : List Ak) (c n : Nat) (h : ∀ y ∈ L, y.ch = true → y.oc = c) : (L.any fun x => x.ch && x.oc == c && x.on == n && x.q.k == 5) = decide (cntA L n ≠ 0) := by
 rw [Bool.eq_iff_iff, decide_eq_true_iff, List.any_eq_true]
 unfold cntA
 constructor
 ·rintro ⟨y, hy, h1⟩
  simp only [Bool.and_eq_true, beq_iff_eq] at h1
  have hm : y ∈ L.filter fun a => a.ch && a.q.k == 5 && a.on == n := List.mem_filter.2 ⟨hy, by simp [h1.1.1.1, h1.2, h1.1.2]⟩
  intro e
  rw [List.length_eq_zero_iff] at e
  rw [e] at hm
  cases hm
 ·intro h0
  obtain ⟨y, hy⟩ := List.exists_mem_of_length_pos (Nat.pos_of_ne_zero h0)
  obtain ⟨h1, h2⟩ := List.mem_filter.1 hy
  simp only [Bool.and_eq_true, beq_iff_eq] at h2
  exact ⟨y, h1, by simp [h2.1.1, h2.1.2, h2.2, h y h1 h2.1.1]⟩
theorem then_c5 (h : SC f N X w) (hn : Nok N f X.act w) (rm : Room f X) (x : Ax) (hx : AkIs (f.Ex N X.act) f X w x) (hc : x.a.ch = true) (hk5 : x.a.q.k = 5) (hfi : x.a.fi < 4294967296) (hoc : x.a.oc = X.cl) (hos : ∀ y ∈ X.asks, y.ch = true → y.oc = X.cl)
  (hsc : X.op.k = 3 → f.ok = 1 ∧ f.lv = X.left ∧ f.oq = X.op) (hco : X.op.k = 6 → X.stg = 1 → f.ok = 2 ∧ f.lv = X.left) (hg : ∀ m ∈ f.gs, f.gv m = (cntA X.asks m : Int) + if m = x.a.on then 1 else 0) (hcnt : cntA X.asks x.a.on < 1048576) (r : Rp) (vp : Value) (hr0 : r.k ≠ 0) : Then x.fv (rpc r vp).toArray w (GotP f N X w (choreF X x.a r) zS) := by
 obtain ⟨bf, bs', bh, bt', g1, g2, g3, g4, g5, g6⟩ := hx.c5 hc hk5
 have hL : f.gv x.a.on = (cntA X.asks x.a.on : Int) + 1 := by rw [hg _ g1, if_pos rfl]
 have hbd : Bd { f with gv := fun m => if m = x.a.on then (cntA X.asks x.a.on : Int) else f.gv m } X := ⟨hsc, hco, fun m hm => by
  by_cases e : m = x.a.on
  ·subst e
   simp
  ·have := hg m hm
   rw [if_neg e] at this
   simp only [e, if_false]
   rw [this]
   omega⟩
 refine ⟨156, _, g2, ent156, ?_⟩
 unfold choreF
 rw [if_neg hr0]
 by_cases hz : (cntA X.asks x.a.on : Int) = 0 ∧ r.k = 9
 ·rw [if_neg (fun e => e.elim (fun e => e hk5) (fun e => e hz.2)), hoc, cnt_any X.asks X.cl x.a.on hos, if_neg (by simp; omega)]
  exact (suc156b h hn rm x.a.on X.cl x.a.fi hfi bf bs' bh bt' g1 g3 g4 g5 g6 r vp _ _ hL (by omega) (by omega) hbd hz.1 hz.2).mono fun e w' g => g.p rfl
 ·have e : (if x.a.q.k ≠ 5 ∨ r.k ≠ 9 then X else if (X.asks.any fun x_1 => x_1.ch && x_1.oc == x.a.oc && x_1.on == x.a.on && x_1.q.k == 5) = true then X else doneF X x.a.oc x.a.on x.a.fi) = X := by
   by_cases h9 : r.k = 9
   ·rw [if_neg (fun e => e.elim (fun e => e hk5) (fun e => e h9)), hoc, cnt_any X.asks X.cl x.a.on hos, if_pos (by simp; omega)]
   ·rw [if_pos (.inr h9)]
  rw [e]
  exact (suc156a h hn rm x.a.on X.cl x.a.fi hfi bf bs' bh bt' g1 g3 g4 g5 g6 r vp _ _ hL (by omega) (by omega) hbd hz).mono fun e w' g => g.p rfl
theorem rev157a (u : Un f N X 9 w) (b be : Nat) (er : Int) (hb : Fx (f.Ex N X.act) w b #[pz f.sb] 24) (he : Fx (f.Ex N X.act) w be #[iw er] 25) (r : Rp) (vp : Value) (hsu : ∀ N' W, Un f N' X 9 W → Calls Tryz.prog 139 #[pz f.sb, .agg #[uw r.ap, uu r.al]] W (Got f N' X W (commF bt X r.ap r.al).1 (commF bt X r.ap r.al).2)) (hr : r.k = 5) : Calls Tryz.prog 157 #[.agg (rpc r vp).toArray, pz b, pz be] w (Got f N X w (commF bt X r.ap r.al).1 (commF bt X r.ap r.al).2) := by
 obtain ⟨W1, hW1⟩ := xj ((w.alloc (.cells (rpc r vp).toArray 49)).alloc (.cells RZ 41))
 have X0 := nq (Cx.start u.sc u.nk (fc he (fc hb nb))) hW1
 have rb := X0.out.bx (b := w.heap.size) (cs := (rpc r vp).toArray) (ty := 49) (by simp)
 have k0 : W1.cell? ⟨w.heap.size, 0, none⟩ = some (iw r.k) := block_cell rb rfl
 have k9 : W1.cell? ⟨w.heap.size, 9, none⟩ = some (uw r.ap) := block_cell rb rfl
 have k10 : W1.cell? ⟨w.heap.size, 10, none⟩ = some (uu r.al) := block_cell rb rfl
 have c1 : W1.cell? ⟨b, 0, none⟩ = some (pz f.sb) := X0.out.bc
 have c2 : W1.cell? ⟨be, 0, none⟩ = some (iw er) := X0.out.bc
 have hr5 : (r.k == 5) = true := by rw [hr]; rfl
 have HC := gh (hsu _ _ (u.of X0.out)) X0.out
 clear u X0 hb he rb hr hsu
 go_enter Tryz.func157, Tryz.ntmps157
 go_wp2_with fail
 refine (HC.out (by trivial)).mono ?_
 clear k0 k9 k10 c1 c2 hW1
 rintro e w2 ⟨rfl, f', x2, hsb, hbd⟩
 have X2 : Hid _ := x2
 have HF : Hid _ := And.intro hsb hbd
 clear x2 hsb hbd HC
 unfold rsV
 go_wp2_with (refine sr X2.out ?_)
 refine bj X2.out ?_
 exact ej X2.out HF.out
theorem rev157b (u : Un f N X 9 w) (b be : Nat) (er : Int) (hb : Fx (f.Ex N X.act) w b #[pz f.sb] 24) (he : Fx (f.Ex N X.act) w be #[iw er] 25) (r : Rp) (vp : Value) (hr : r.k = 6) : Calls Tryz.prog 157 #[.agg (rpc r vp).toArray, pz b, pz be] w (Got f N X w (givenF bt X er).1 (givenF bt X er).2) := by
 obtain ⟨W1, hW1⟩ := xj ((w.alloc (.cells (rpc r vp).toArray 49)).alloc (.cells RZ 41))
 have X0 := nq (Cx.start u.sc u.nk (fc he (fc hb nb))) hW1
 have rb := X0.out.bx (b := w.heap.size) (cs := (rpc r vp).toArray) (ty := 49) (by simp)
 have k0 : W1.cell? ⟨w.heap.size, 0, none⟩ = some (iw r.k) := block_cell rb rfl
 have k9 : W1.cell? ⟨w.heap.size, 9, none⟩ = some (uw r.ap) := block_cell rb rfl
 have k10 : W1.cell? ⟨w.heap.size, 10, none⟩ = some (uu r.al) := block_cell rb rfl
 have c1 : W1.cell? ⟨b, 0, none⟩ = some (pz f.sb) := X0.out.bc
 have c2 : W1.cell? ⟨be, 0, none⟩ = some (iw er) := X0.out.bc
 have hr5 : (r.k == 5) = false := by rw [hr]; rfl
 have hr6 : (r.k == 6) = true := by rw [hr]; rfl
 have HC := gh (giveUp88 X0.out.sc X0.out.nok u.bd u.act u.ns u.ws (u.le (by decide)).rm er) X0.out
 clear u X0 hb he rb hr
 go_enter Tryz.func157, Tryz.ntmps157
 go_wp2_with fail
 refine (HC.out (by trivial)).mono ?_
 clear k0 k9 k10 c1 c2 hW1
 rintro e w2 ⟨rfl, f', x2, hsb, hbd⟩
 have X2 : Hid _ := x2
 have HF : Hid _ := And.intro hsb hbd
 clear x2 hsb hbd HC
 unfold rsV
 go_wp2_with (refine sr X2.out ?_)
 refine bj X2.out ?_
 exact ej X2.out HF.out
theorem rev157c (u : Un f N X 9 w) (b be : Nat) (er : Int) (hb : Fx (f.Ex N X.act) w b #[pz f.sb] 24) (he : Fx (f.Ex N X.act) w be #[iw er] 25) (r : Rp) (vp : Value) (hne : X.ws ≠ []) (hy : X.why = er) (hr5 : r.k ≠ 5) (hr6 : r.k ≠ 6) : Calls Tryz.prog 157 #[.agg (rpc r vp).toArray, pz b, pz be] w (Got f N X w (undoF bt X) zS) := by
 obtain ⟨W1, hW1⟩ := xj ((w.alloc (.cells (rpc r vp).toArray 49)).alloc (.cells RZ 41))
 have X0 := nq (Cx.start u.sc u.nk (fc he (fc hb nb))) hW1
 have rb := X0.out.bx (b := w.heap.size) (cs := (rpc r vp).toArray) (ty := 49) (by simp)
 have k0 : W1.cell? ⟨w.heap.size, 0, none⟩ = some (iw r.k) := block_cell rb rfl
 have k9 : W1.cell? ⟨w.heap.size, 9, none⟩ = some (uw r.ap) := block_cell rb rfl
 have k10 : W1.cell? ⟨w.heap.size, 10, none⟩ = some (uu r.al) := block_cell rb rfl
 have c1 : W1.cell? ⟨b, 0, none⟩ = some (pz f.sb) := X0.out.bc
 have c2 : W1.cell? ⟨be, 0, none⟩ = some (iw er) := X0.out.bc
 have h5b : (r.k == 5) = false := by simp [hr5]
 have h6b : (r.k == 6) = false := by simp [hr6]
 have HC := gh (revoke140 (u.of X0.out) hne er hy) X0.out
 clear u X0 hb he rb hr5 hr6 hne hy
 go_enter Tryz.func157, Tryz.ntmps157
 go_wp2_with fail
 refine (HC.out (by trivial)).mono ?_
 clear k0 k9 k10 c1 c2 hW1
 rintro e w2 ⟨rfl, f', x2, hsb, hbd⟩
 have X2 : Hid _ := x2
 have HF : Hid _ := And.intro hsb hbd
 clear x2 hsb hbd HC
 unfold rsV
 go_wp2_with (refine sr X2.out ?_)
 refine bj X2.out ?_
 exact ej X2.out HF.out
theorem rev157 (u : Un f N X 9 w) (b be : Nat) (er : Int) (hb : Fx (f.Ex N X.act) w b #[pz f.sb] 24) (he : Fx (f.Ex N X.act) w be #[iw er] 25) (r : Rp) (vp : Value) (hsu : ∀ N' W, Un f N' X 9 W → Calls Tryz.prog 139 #[pz f.sb, .agg #[uw r.ap, uu r.al]] W (Got f N' X W (commF bt X r.ap r.al).1 (commF bt X r.ap r.al).2)) (hne : X.ws ≠ []) (hy : X.why = er) (hs : X.stg ≠ 2) : Calls Tryz.prog 157 #[.agg (rpc r vp).toArray, pz b, pz be] w (Got f N X w (decF bt X r).1 (decF bt X r).2) := by
 unfold decF
 by_cases h5 : r.k = 5
 ·rw [if_pos h5]
  exact rev157a u b be er hb he r vp hsu h5
 ·rw [if_neg h5, if_neg (fun e => hs e.2)]
  by_cases h6 : r.k = 6
  ·rw [if_pos h6, hy]
   exact rev157b u b be er hb he r vp h6
  ·rw [if_neg h6, if_neg (fun e => hs e.2), if_neg hs]
   exact rev157c u b be er hb he r vp hne hy h5 h6
theorem dec138a (u : Un f N X 9 w) (b be p l : Nat) (hb : Fx (f.Ex N X.act) w b #[pz f.sb] 24) (he : Fx (f.Ex N X.act) w be #[uw p, uu l] 34) (r : Rp) (vp : Value) (hsu : ∀ N' W, Un f N' X 9 W → Calls Tryz.prog 139 #[pz f.sb, .agg #[uw r.ap, uu r.al]] W (Got f N' X W (commF bt X r.ap r.al).1 (commF bt X r.ap r.al).2)) (hr : r.k = 5) : Calls Tryz.prog 138 #[.agg (rpc r vp).toArray, pz b, pz be] w (Got f N X w (commF bt X r.ap r.al).1 (commF bt X r.ap r.al).2) := by
 obtain ⟨W1, hW1⟩ := xj ((w.alloc (.cells (rpc r vp).toArray 49)).alloc (.cells RZ 41))
 have X0 := nq (Cx.start u.sc u.nk (fc he (fc hb nb))) hW1
 have rb := X0.out.bx (b := w.heap.size) (cs := (rpc r vp).toArray) (ty := 49) (by simp)
 have k0 : W1.cell? ⟨w.heap.size, 0, none⟩ = some (iw r.k) := block_cell rb rfl
 have k9 : W1.cell? ⟨w.heap.size, 9, none⟩ = some (uw r.ap) := block_cell rb rfl
 have k10 : W1.cell? ⟨w.heap.size, 10, none⟩ = some (uu r.al) := block_cell rb rfl
 have c1 : W1.cell? ⟨b, 0, none⟩ = some (pz f.sb) := X0.out.bc
 have c2 : W1.cell? ⟨be, 0, none⟩ = some (uw p) := X0.out.bc
 have c3 : W1.cell? ⟨be, 1, none⟩ = some (uu l) := X0.out.bc
 have hr5 : (r.k == 5) = true := by rw [hr]; rfl
 have HC := gh (hsu _ _ (u.of X0.out)) X0.out
 clear u X0 hb he rb hr hsu
 go_enter Tryz.func138, Tryz.ntmps138
 go_wp2_with fail
 refine (HC.out (by trivial)).mono ?_
 clear k0 k9 k10 c1 c2 c3 hW1
 rintro e w2 ⟨rfl, f', x2, hsb, hbd⟩
 have X2 : Hid _ := x2
 have HF : Hid _ := And.intro hsb hbd
 clear x2 hsb hbd HC
 unfold rsV
 go_wp2_with (refine sr X2.out ?_)
 refine bj X2.out ?_
 exact ej X2.out HF.out
theorem dec138b (u : Un f N X 9 w) (b be p l : Nat) (hb : Fx (f.Ex N X.act) w b #[pz f.sb] 24) (he : Fx (f.Ex N X.act) w be #[uw p, uu l] 34) (r : Rp) (vp : Value) (hr : r.k = 6) : Calls Tryz.prog 138 #[.agg (rpc r vp).toArray, pz b, pz be] w (Got f N X w (givenF bt X 12).1 (givenF bt X 12).2) := by
 obtain ⟨W1, hW1⟩ := xj ((w.alloc (.cells (rpc r vp).toArray 49)).alloc (.cells RZ 41))
 have X0 := nq (Cx.start u.sc u.nk (fc he (fc hb nb))) hW1
 have rb := X0.out.bx (b := w.heap.size) (cs := (rpc r vp).toArray) (ty := 49) (by simp)
 have k0 : W1.cell? ⟨w.heap.size, 0, none⟩ = some (iw r.k) := block_cell rb rfl
 have k9 : W1.cell? ⟨w.heap.size, 9, none⟩ = some (uw r.ap) := block_cell rb rfl
 have k10 : W1.cell? ⟨w.heap.size, 10, none⟩ = some (uu r.al) := block_cell rb rfl
 have c1 : W1.cell? ⟨b, 0, none⟩ = some (pz f.sb) := X0.out.bc
 have c2 : W1.cell? ⟨be, 0, none⟩ = some (uw p) := X0.out.bc
 have c3 : W1.cell? ⟨be, 1, none⟩ = some (uu l) := X0.out.bc
 have hr5 : (r.k == 5) = false := by rw [hr]; rfl
 have hr7 : (r.k == 7) = false := by rw [hr]; rfl
 have hr6 : (r.k == 6) = true := by rw [hr]; rfl
 have HC := gh (giveUp88 X0.out.sc X0.out.nok u.bd u.act u.ns u.ws (u.le (by decide)).rm 12) X0.out
 clear u X0 hb he rb hr
 go_enter Tryz.func138, Tryz.ntmps138
 go_wp2_with fail
 refine (HC.out (by trivial)).mono ?_
 clear k0 k9 k10 c1 c2 c3 hW1
 rintro e w2 ⟨rfl, f', x2, hsb, hbd⟩
 have X2 : Hid _ := x2
 have HF : Hid _ := And.intro hsb hbd
 clear x2 hsb hbd HC
 unfold rsV
 go_wp2_with (refine sr X2.out ?_)
 refine bj X2.out ?_
 exact ej X2.out HF.out
theorem dec138c (u : Un f N X 9 w) (b be p l : Nat) (hb : Fx (f.Ex N X.act) w b #[pz f.sb] 24) (he : Fx (f.Ex N X.act) w be #[uw p, uu l] 34) (r : Rp) (vp : Value) (ho : X.op.k = 6) (hne : X.ws ≠ []) (mp ml : Nat) (hmp : (maxT (p, l) (r.ap, r.al)).1 = mp) (hml : (maxT (p, l) (r.ap, r.al)).2 = ml) (hr : r.k = 7) : Calls Tryz.prog 138 #[.agg (rpc r vp).toArray, pz b, pz be] w (Got f N X w (decideF bt { X with stg := 2, cp := mp, cll := ml }) zS) := by
 obtain ⟨W1, hW1⟩ := xj ((w.alloc (.cells (rpc r vp).toArray 49)).alloc (.cells RZ 41))
 have X0 := nq (Cx.start u.sc u.nk (fc he (fc hb nb))) hW1
 have rb := X0.out.bx (b := w.heap.size) (cs := (rpc r vp).toArray) (ty := 49) (by simp)
 have k0 : W1.cell? ⟨w.heap.size, 0, none⟩ = some (iw r.k) := block_cell rb rfl
 have k9 : W1.cell? ⟨w.heap.size, 9, none⟩ = some (uw r.ap) := block_cell rb rfl
 have k10 : W1.cell? ⟨w.heap.size, 10, none⟩ = some (uu r.al) := block_cell rb rfl
 have c1 : W1.cell? ⟨b, 0, none⟩ = some (pz f.sb) := X0.out.bc
 have c2 : W1.cell? ⟨be, 0, none⟩ = some (uw p) := X0.out.bc
 have c3 : W1.cell? ⟨be, 1, none⟩ = some (uu l) := X0.out.bc
 have hr5 : (r.k == 5) = false := by rw [hr]; rfl
 have hr7 : (r.k == 7) = true := by rw [hr]; rfl
 have HX : Hid (Cx (f.In X.act) N w f X ((w.heap.size, (rpc r vp).toArray, 49) :: [(be, #[uw p, uu l], 34), (b, #[pz f.sb], 24)]) [(w.heap.size + 1, RZ, 41)] W1.drew) := X0.out.drew
 have SN : Hid (∀ f' X' W, Cx (f.In X.act) N w f' X' ((w.heap.size, (rpc r vp).toArray, 49) :: [(be, #[uw p, uu l], 34), (b, #[pz f.sb], 24)]) [(w.heap.size + 1, RZ, 41)] W → W.cell? ⟨b, 0, none⟩ = some (pz f.sb) ∧ W.cell? ⟨be, 0, none⟩ = some (uw p) ∧ W.cell? ⟨be, 1, none⟩ = some (uu l) ∧ W.cell? ⟨w.heap.size, 9, none⟩ = some (uw r.ap) ∧ W.cell? ⟨w.heap.size, 10, none⟩ = some (uu r.al)) := fun f' X' W c => ⟨c.bc, c.bc, c.bc, c.bc, c.bc⟩
 have C49 : Hid (∀ W, Cx (f.In X.act) N w f X ((w.heap.size, (rpc r vp).toArray, 49) :: [(be, #[uw p, uu l], 34), (b, #[pz f.sb], 24)]) [(w.heap.size + 1, RZ, 41)] W → ∀ bk, W.heap[bk]? = some (.cells #[uw p, uu l, uw r.ap, uu r.al] 34 (0, 0)) → Calls Tryz.prog 49 #[.slice (some ⟨bk, 0, none⟩) 2 2] W fun e w' => e = .returned (.agg #[uw mp, uu ml]) ∧ Cx (f.In X.act) N w f X ((w.heap.size, (rpc r vp).toArray, 49) :: [(be, #[uw p, uu l], 34), (b, #[pz f.sb], 24)]) [(w.heap.size + 1, RZ, 41)] w') := fun W c bk hk => by
  have k := max49 p l r.ap r.al bk 34 W hk
  rw [hmp, hml] at k
  exact k.mono fun e w' ⟨h1, h2⟩ => ⟨h1, c.on h2⟩
 have C93 : Hid (∀ W, Cx (f.In X.act) N w f X ((w.heap.size, (rpc r vp).toArray, 49) :: [(be, #[uw p, uu l], 34), (b, #[pz f.sb], 24)]) [(w.heap.size + 1, RZ, 41)] W → Calls Tryz.prog 93 #[pz f.sb, .agg #[uw mp, uu ml]] W fun e w' => e = .returned (rsV zS) ∧ ∃ f', Cx (f.In X.act) N w f' (decideF bt { X with stg := 2, cp := mp, cll := ml }) ((w.heap.size, (rpc r vp).toArray, 49) :: [(be, #[uw p, uu l], 34), (b, #[pz f.sb], 24)]) [(w.heap.size + 1, RZ, 41)] w' ∧ f'.sb = f.sb ∧ Bd f' (decideF bt { X with stg := 2, cp := mp, cll := ml })) := fun W c => (decide93 (u.of c) ho hne mp ml).mono fun e w' g => Got.next (N0 := N) c g
 generalize decideF bt { X with stg := 2, cp := mp, cll := ml } = XR at *
 have HA : Hid (Cx (f.In X.act) N w f X ((w.heap.size, (rpc r vp).toArray, 49) :: [(be, #[uw p, uu l], 34), (b, #[pz f.sb], 24)]) [(w.heap.size + 1, RZ, 41)] ((W1.alloc (.cells #[uw p, uu l, uw r.ap, uu r.al] 34)).drew)) := (X0.out.on (al _)).drew
 have HN : Hid (((W1.alloc (.cells #[uw p, uu l, uw r.ap, uu r.al] 34)).drew).heap[W1.heap.size]? = some (.cells #[uw p, uu l, uw r.ap, uu r.al] 34 (0, 0))) := heap_alloc_new W1 _
 clear u hb he hr ho hne hmp hml X0 rb
 go_enter Tryz.func138, Tryz.ntmps138
 go_upto_region 5 with fail
 clear k0 k9 k10 c1 c2 c3
 refine wp_region_held_drew (S := (fun W => W.cell? ⟨b, 0, none⟩ = some (pz f.sb) ∧ W.cell? ⟨be, 0, none⟩ = some (uw p) ∧ W.cell? ⟨be, 1, none⟩ = some (uu l) ∧ W.cell? ⟨w.heap.size, 9, none⟩ = some (uw r.ap) ∧ W.cell? ⟨w.heap.size, 10, none⟩ = some (uu r.al))) (by kernel_rfl) (SN.out _ _ _ HX.out) (fun hHeld => ?_)
 refine tw 0 ?_
 refine tw 1 ?_
 refine tq 2 ?_
 refine tw 3 ?_
 refine rd 4 (fun K hK => ?_)
 go_simp
 refine kj hK (SN.out _ _ _ HA.out) (fun hHeld => ?_)
 clear hK K
 refine rd 5 (fun K hK => ?_)
 go_simp
 refine (C49.out _ HA.out _ HN.out).mono ?_
 rintro e w3 ⟨rfl, h3⟩
 have HY : Hid _ := h3
 clear h3 HX
 have HX := HY
 clear HY
 go_wp2_with fail
 refine kj hK (SN.out _ _ _ HX.out) (fun hHeld => ?_)
 clear hK K
 refine rd 6 (fun K hK => ?_)
 go_simp
 refine (C93.out _ HX.out).mono ?_
 rintro e w4 ⟨rfl, f', h3, hsb, hbd⟩
 have HF : Hid _ := And.intro hsb hbd
 have HY : Hid _ := h3
 clear h3 HX
 have HX := HY
 clear HY
 clear hsb hbd
 unfold rsV
 go_wp2_with fail
 refine kj hK (SN.out _ _ _ HX.out) (fun hHeld => ?_)
 clear hK K
 refine rd 7 (fun K hK => ?_)
 rw [if_pos (by rfl)]
 refine wp_store_row 41 _ _ rfl (w.heap.size + 1) _ rfl rfl 41 _ (HX.out.bm mc) (by kernel_rfl) rfl (rsc_all _ _ rfl) ?_
 have X5 : Hid _ := HX.out.poke (setRow_kept _ _ (rsc zS sy).toArray) (setRow_at (HX.out.bm mc)) nb
 refine kj hK ⟨X5.out.bc, X5.out.bc, X5.out.bc, X5.out.bc, X5.out.bc⟩ (fun hHeld => ?_)
 clear hK K
 refine wpAnyH_done (by kernel_rfl) ?_ _
 clear hHeld SN C49 C93 HA HN
 go_wp2_with fail
 refine bodyPost_ret (res11 rfl rfl rfl (X5.out.bm mc)) rfl ?_
 exact ⟨rfl, _, X5.out.to, HF.out.1, HF.out.2⟩
theorem dec138d (u : Un f N X 9 w) (b be p l : Nat) (hb : Fx (f.Ex N X.act) w b #[pz f.sb] 24) (he : Fx (f.Ex N X.act) w be #[uw p, uu l] 34) (r : Rp) (vp : Value) (ho : X.op.k = 6) (hs : X.stg = 2) (hne : X.ws ≠ []) (hc : ∀ a ∈ X.asks, a.ch = true) (hr5 : r.k ≠ 5) (hr6 : r.k ≠ 6) (hr7 : r.k ≠ 7) : Calls Tryz.prog 138 #[.agg (rpc r vp).toArray, pz b, pz be] w (Got f N X w (undoF bt { X with stg := 3, why := wrongF r }) zS) := by
 obtain ⟨W1, hW1⟩ := xj ((w.alloc (.cells (rpc r vp).toArray 49)).alloc (.cells RZ 41))
 have X0 := nq (Cx.start u.sc u.nk (fc he (fc hb nb))) hW1
 have rb := X0.out.bx (b := w.heap.size) (cs := (rpc r vp).toArray) (ty := 49) (by simp)
 have k0 : W1.cell? ⟨w.heap.size, 0, none⟩ = some (iw r.k) := block_cell rb rfl
 have k9 : W1.cell? ⟨w.heap.size, 9, none⟩ = some (uw r.ap) := block_cell rb rfl
 have k10 : W1.cell? ⟨w.heap.size, 10, none⟩ = some (uu r.al) := block_cell rb rfl
 have c1 : W1.cell? ⟨b, 0, none⟩ = some (pz f.sb) := X0.out.bc
 have c2 : W1.cell? ⟨be, 0, none⟩ = some (uw p) := X0.out.bc
 have c3 : W1.cell? ⟨be, 1, none⟩ = some (uu l) := X0.out.bc
 have HX : Hid (Cx (f.In X.act) N w f X ((w.heap.size, (rpc r vp).toArray, 49) :: [(be, #[uw p, uu l], 34), (b, #[pz f.sb], 24)]) [(w.heap.size + 1, RZ, 41)] W1.drew) := X0.out.drew
 have h5b : (r.k == 5) = false := by simp [hr5]
 have h6b : (r.k == 6) = false := by simp [hr6]
 have h7b : (r.k == 7) = false := by simp [hr7]
 have SN : Hid (∀ f' X' Lm W, Cx (f.In X.act) N w f' X' ((w.heap.size, (rpc r vp).toArray, 49) :: [(be, #[uw p, uu l], 34), (b, #[pz f.sb], 24)]) Lm W → W.cell? ⟨b, 0, none⟩ = some (pz f.sb) ∧ W.rangeAt w.heap.size 0 (rpc r vp)) := fun f' X' Lm W c => ⟨c.bc, range_box (n := 14) (c.bx (b := w.heap.size) (cs := (rpc r vp).toArray) (ty := 49) (by simp))⟩
 have C82 : Hid (∀ W, Cx (f.In X.act) N w f X ((w.heap.size, (rpc r vp).toArray, 49) :: [(be, #[uw p, uu l], 34), (b, #[pz f.sb], 24)]) [(w.heap.size + 1, RZ, 41)] W → Calls Tryz.prog 82 #[.agg (rpc r vp).toArray] W fun e w' => e = .returned (iw (wrongF r)) ∧ Cx (f.In X.act) N w f X ((w.heap.size, (rpc r vp).toArray, 49) :: [(be, #[uw p, uu l], 34), (b, #[pz f.sb], 24)]) [(w.heap.size + 1, RZ, 41)] w') := fun W c => (errorOf82 r vp W).mono fun e w' ⟨h1, h2⟩ => ⟨h1, c.on h2⟩
 have C140 : Hid (∀ W, Cx (f.In X.act) N w f X ((w.heap.size, (rpc r vp).toArray, 49) :: [(be, #[uw p, uu l], 34), (b, #[pz f.sb], 24)]) [(w.heap.size + 1, RZ, 41)] W → Calls Tryz.prog 140 #[pz f.sb, iw (wrongF r)] W fun e w' => e = .returned (rsV zS) ∧ ∃ f', Cx (f.In X.act) N w f' (undoF bt { X with stg := 3, why := wrongF r }) ((w.heap.size, (rpc r vp).toArray, 49) :: [(be, #[uw p, uu l], 34), (b, #[pz f.sb], 24)]) [(w.heap.size + 1, RZ, 41)] w' ∧ f'.sb = f.sb ∧ Bd f' (undoF bt { X with stg := 3, why := wrongF r })) := fun W c => by
  have c3 : Cx (f.In X.act) N w f { X with stg := 3, why := wrongF r } ((w.heap.size, (rpc r vp).toArray, 49) :: [(be, #[uw p, uu l], 34), (b, #[pz f.sb], 24)]) [(w.heap.size + 1, RZ, 41)] W := ⟨c.sc.why (wrongF r) ho hs hc, c.sub, c.kp, c.has, c.hasm, c.nl⟩
  have hb3 : Bd f { X with stg := 3, why := wrongF r } := ⟨fun e => absurd (ho.symm.trans e) (by decide), (fun _ e => by cases e), u.bd.gs⟩
  have u3 : Un f (Nm N [(w.heap.size + 1, RZ, 41)]) { X with stg := 3, why := wrongF r } 9 W := ⟨c3.sc, c3.nok, hb3, u.act, u.ns, u.ws, ⟨u.rm.sq, u.rm.la, u.rm.lo⟩⟩
  exact (revoke140 u3 hne (wrongF r) rfl).mono fun e w' g => Got.next (N0 := N) c3 g
 generalize undoF bt { X with stg := 3, why := wrongF r } = XR at *
 generalize wrongF r = er at *
 clear u hb he hr5 hr6 hr7 ho hs hne hc X0 rb
 go_enter Tryz.func138, Tryz.ntmps138
 go_upto_region 8 with fail
 clear k0 k9 k10 c1 c2 c3
 refine wp_region_held_drew (S := (fun W => W.cell? ⟨b, 0, none⟩ = some (pz f.sb) ∧ W.rangeAt w.heap.size 0 (rpc r vp))) (by kernel_rfl) (SN.out _ _ _ _ HX.out) (fun hHeld => ?_)
 refine tw 0 ?_
 refine tl 1 49 w.heap.size 0 (rpc r vp) (fun W hW => hW.2) Tryz.underlying49 ?_
 refine rd 2 (fun K hK => ?_)
 go_simp
 refine (C82.out _ HX.out).mono ?_
 rintro e w3 ⟨rfl, h3⟩
 have HY : Hid _ := h3
 clear h3 HX
 have HX := HY
 clear HY
 go_wp2_with fail
 refine kj hK (SN.out _ _ _ _ HX.out) (fun hHeld => ?_)
 clear hK K
 refine rd 3 (fun K hK => ?_)
 go_simp
 refine (C140.out _ HX.out).mono ?_
 rintro e w4 ⟨rfl, f', h3, hsb, hbd⟩
 have HF : Hid _ := And.intro hsb hbd
 have HY : Hid _ := h3
 clear h3 HX
 have HX := HY
 clear HY
 clear hsb hbd
 unfold rsV
 go_wp2_with fail
 refine kj hK (SN.out _ _ _ _ HX.out) (fun hHeld => ?_)
 clear hK K
 refine rd 4 (fun K hK => ?_)
 rw [if_pos (by rfl)]
 refine wp_store_row 41 _ _ rfl (w.heap.size + 1) _ rfl rfl 41 _ (HX.out.bm mc) (by kernel_rfl) rfl (rsc_all _ _ rfl) ?_
 have X5 : Hid _ := HX.out.poke (setRow_kept _ _ (rsc zS sy).toArray) (setRow_at (HX.out.bm mc)) nb
 refine kj hK (SN.out _ _ _ _ X5.out) (fun hHeld => ?_)
 clear hK K
 refine wpAnyH_done (by kernel_rfl) ?_ _
 clear hHeld SN C82 C140
 go_wp2_with fail
 refine bodyPost_ret (res11 rfl rfl rfl (X5.out.bm mc)) rfl ?_
 exact ⟨rfl, _, X5.out.to, HF.out.1, HF.out.2⟩
theorem dec138 (u : Un f N X 9 w) (b be p l : Nat) (hb : Fx (f.Ex N X.act) w b #[pz f.sb] 24) (he : Fx (f.Ex N X.act) w be #[uw p, uu l] 34) (r : Rp) (vp : Value) (hsu : ∀ N' W, Un f N' X 9 W → Calls Tryz.prog 139 #[pz f.sb, .agg #[uw r.ap, uu r.al]] W (Got f N' X W (commF bt X r.ap r.al).1 (commF bt X r.ap r.al).2)) (ho : X.op.k = 6) (hs : X.stg = 2) (hne : X.ws ≠ []) (hc : ∀ a ∈ X.asks, a.ch = true) (hp : X.cp = p ∧ X.cll = l) : Calls Tryz.prog 138 #[.agg (rpc r vp).toArray, pz b, pz be] w (Got f N X w (decF bt X r).1 (decF bt X r).2) := by
 unfold decF
 by_cases h5 : r.k = 5
 ·rw [if_pos h5]
  exact dec138a u b be p l hb he r vp hsu h5
 ·rw [if_neg h5]
  by_cases h6 : r.k = 6
  ·rw [if_pos ⟨h6, hs⟩]
   exact dec138b u b be p l hb he r vp h6
  ·rw [if_neg (fun e => h6 e.1), if_neg h6]
   by_cases h7 : r.k = 7
   ·rw [if_pos ⟨h7, hs⟩, hp.1, hp.2]
    have c := dec138c u b be p l hb he r vp ho hne _ _ rfl rfl h7
    rw [← hs] at c
    exact c
   ·rw [if_neg (fun e => h7 e.1), if_pos hs]
    exact dec138d u b be p l hb he r vp ho hs hne hc h5 h6 h7
end Go.Proofs.YtkdkgdollmmcnaaGreat
