import Derived.Test.YtkdkgdollmmcnaaGreatWbw
set_option maxHeartbeats 4000000
set_option maxRecDepth 100000
set_option linter.unusedVariables false
set_option linter.unusedSimpArgs false
namespace Go.Proofs.YtkdkgdollmmcnaaGreat
open Go.RowKit Go.Sort Go.Shelf
variable {W W' w : World} {fa fb fa' fb' : Fo} {Xa Xb Xa' Xb' X' : Ss} {Lb Lb' Ls : List Bo} {vS : Value} {S : List Lx} {Hd : List (Value × List Lx)} {Pd : List (Value × List Pr)}
def Nw2 (L : List Bo) (f : Fo) (act : Bool) (k : Nat) : Prop := (∃ p ∈ L, p.1 = k) ∨ f.In act k
structure Hr (M B : Nat → Prop) (vS : Value) (q : Value × List Lx) (W : World) : Prop where
 own : W.ownsRow 0 55 31 q.1 q.2.length (rowC lxc q.2)
 ne : ∀ g, q.1.ownBlock = some g → ¬ (M g ∨ vS.ownBlock = some g)
 el : ∀ x ∈ q.2, x.l.an = false ∧ x.l.r = zR ∧ x.vw.oneCell' = true ∧ x.vs.oneCell' = true ∧ QF (fun k => (M k ∨ vS.ownBlock = some k) ∨ B k) x.l.q x.vw x.vs W
theorem Hr.stay {G M M' B B' : Nat → Prop} {vS vS' : Value} {q : Value × List Lx} {W W' : World} (h : Hr M B vS q W) (hk : Kept G W W') (hg : ∀ g, q.1.ownBlock = some g → ¬ G g) (hG : ∀ k, G k → (M k ∨ vS.ownBlock = some k) ∨ B k) (hM : ∀ k, k < W.heap.size → M' k ∨ vS'.ownBlock = some k → M k ∨ vS.ownBlock = some k) (hB : ∀ k, k < W.heap.size → B' k → (M k ∨ vS.ownBlock = some k) ∨ B k) : Hr M' B' vS' q W' := by
 refine ⟨own_kept h.own hk hg, fun g e k => ?_, fun x hx => ⟨(h.el x hx).1, (h.el x hx).2.1, (h.el x hx).2.2.1, (h.el x hx).2.2.2.1, (h.el x hx).2.2.2.2.stay ⟨hk, hG, fun k hl e => e.elim (fun e => .inl (hM k hl e)) (hB k hl)⟩⟩⟩
 obtain ⟨c, hc⟩ := own_blk h.own e
 exact h.ne g e (hM g (lt_blk hc) k)
def Bs (L : List Bo) (k : Nat) : Prop := ∃ p ∈ L, p.1 = k
def Md (fa fb : Fo) (Xa Xb : Ss) (k : Nat) : Prop := fa.In Xa.act k ∨ fb.In Xb.act k
theorem RwF.sty {G M M' B B' : Nat → Prop} {vS vS' v : Value} {n : Nat} {cs : List Value} {W W' : World} (h : RwF (fun k => (M k ∨ vS.ownBlock = some k) ∨ B k) 2 v n cs W) (hk : Kept G W W') (hG : ∀ k, G k → (M k ∨ vS.ownBlock = some k) ∨ B k) (hM : ∀ k, k < W.heap.size → M' k ∨ vS'.ownBlock = some k → M k ∨ vS.ownBlock = some k) (hB : ∀ k, k < W.heap.size → B' k → (M k ∨ vS.ownBlock = some k) ∨ B k) : RwF (fun k => (M' k ∨ vS'.ownBlock = some k) ∨ B' k) 2 v n cs W' :=
 h.stay ⟨hk, hG, fun k hl e => e.elim (fun e => .inl (hM k hl e)) (hB k hl)⟩ (by decide)
structure Tx (w : World) (fa fb : Fo) (Xa Xb : Ss) (Lb Ls : List Bo) (vS : Value) (S : List Lx) (Hd : List (Value × List Lx)) (Pd : List (Value × List Pr)) (W : World) : Prop where
 a : SC fa (Nw2 (Lb ++ Ls) fb Xb.act) Xa W
 b : SC fb (Nw2 (Lb ++ Ls) fa Xa.act) Xb W
 sa : ∀ i, fa.In Xa.act i → w.heap.size ≤ i
 sb : ∀ i, fb.In Xb.act i → w.heap.size ≤ i
 dj : ∀ i, fa.In Xa.act i → ¬ fb.In Xb.act i
 bx : ∀ p ∈ Lb ++ Ls, W.heap[p.1]? = some (.cells p.2.1 p.2.2 (0, 0)) ∧ ¬ fa.In Xa.act p.1 ∧ ¬ fb.In Xb.act p.1 ∧ w.heap.size ≤ p.1
 kp : Below w.heap.size w W
 tb : ∀ p ∈ Lb, vS.ownBlock ≠ some p.1
 ts : ∀ p ∈ Ls, p.2.2 = 55
 own : W.ownsRow w.heap.size 55 31 vS S.length (rowC lxc S)
 ins : ∀ k, vS.ownBlock = some k → ∃ p ∈ Ls, p.1 = k
 hr : ∀ q ∈ Hd, Hr (Md fa fb Xa Xb) (Bs Lb) vS q W
 hp : ∀ q ∈ Pd, RwF (fun k => (Md fa fb Xa Xb k ∨ vS.ownBlock = some k) ∨ Bs Lb k) 2 q.1 q.2.length (rowC prc q.2) W
theorem Tx.swap (h : Tx w fa fb Xa Xb Lb Ls vS S Hd Pd W) : Tx w fb fa Xb Xa Lb Ls vS S Hd Pd W :=
 ⟨h.b, h.a, h.sb, h.sa, fun i e1 e2 => h.dj i e2 e1, fun p hp => ⟨(h.bx p hp).1, (h.bx p hp).2.2.1, (h.bx p hp).2.1, (h.bx p hp).2.2.2⟩, h.kp, h.tb, h.ts, h.own, h.ins, fun q hq => (h.hr q hq).stay (G := fun _ => False) (Kept.refl _ _) (fun g e k => k) (fun k e => e.elim) (fun k _ e => e.imp Or.symm id) (fun k _ e => .inr e), fun q hq => (h.hp q hq).sty (G := fun _ => False) (Kept.refl _ _) (fun k e => e.elim) (fun k _ e => e.imp Or.symm id) (fun k _ e => .inr e)⟩
theorem Tx.nok (h : Tx w fa fb Xa Xb Lb Ls vS S Hd Pd W) : Nok (Nw2 (Lb ++ Ls) fb Xb.act) fa Xa.act W := fun k e => by
 rcases e with ⟨p, hp, rfl⟩ | e
 ·exact ⟨lt_blk (h.bx p hp).1, (h.bx p hp).2.1⟩
 ·exact ⟨h.b.lt e, fun e2 => h.dj k e2 e⟩
theorem kept_below {B : Nat} {G : Nat → Prop} {w W W' : World} (h : Below B w W) (hB : B = w.heap.size) (hk : Kept G W W') (hG : ∀ k, G k → B ≤ k) : Below B w W' :=
 ⟨hk.os.trans h.os, hk.tape.trans h.tape, hk.output.trans h.output, Nat.le_trans h.size hk.size, fun j hj => by rw [hk.block j (Nat.lt_of_lt_of_le (hB ▸ hj) h.size) (fun e => by have := hG j e; omega)]; exact h.block j hj⟩
theorem Tx.next (h : Tx w fa fb Xa Xb Lb Ls vS S Hd Pd W) (t : To fa (Nw2 (Lb ++ Ls) fb Xb.act) Xa.act W fa' X' W') : Tx w fa' fb X' Xb Lb Ls vS S Hd Pd W' := by
 have hin : ∀ i, fa'.In X'.act i → ∀ o, W.heap[i]? = some o → fa.In Xa.act i := fun i e o ho => by
  rcases t.sub i e with e | e
  ·exact e
  ·exact absurd (lt_blk ho) (by omega)
 have hM : ∀ k, k < W.heap.size → Md fa' fb X' Xb k ∨ vS.ownBlock = some k → Md fa fb Xa Xb k ∨ vS.ownBlock = some k := fun k hl e => by
  rcases e with (e | e) | e
  ·rcases t.sub k e with e | e
   ·exact .inl (.inl e)
   ·omega
  ·exact .inl (.inr e)
  ·exact .inr e
 refine ⟨t.sc, h.b.mv t.kp (fun k e => ⟨.inr e, h.dj k e⟩) (fun k e => ?_), fun i e => ?_, h.sb, fun i e e2 => ?_, fun p hp => ⟨?_, fun e => (h.bx p hp).2.1 (hin _ e _ (h.bx p hp).1), (h.bx p hp).2.2⟩, kept_below h.kp rfl t.kp h.sa, h.tb, h.ts, own_kept h.own t.kp (fun k hv e => ?_), h.ins, fun q hq => (h.hr q hq).stay t.kp (fun g e k => (h.hr q hq).ne g e (.inl (.inl k))) (fun k e => .inl (.inl (.inl e))) hM (fun k _ e => .inr e), fun q hq => (h.hp q hq).sty t.kp (fun k e => .inl (.inl (.inl e))) hM (fun k _ e => .inr e)⟩
 ·rcases e with e | e
  ·exact .inl (.inl e)
  ·rcases t.sub k e with e | e
   ·exact .inl (.inr e)
   ·exact .inr e
 ·rcases t.sub i e with e | e
  ·exact h.sa i e
  ·exact Nat.le_trans h.kp.size e
 ·rcases t.sub i e with e | e
  ·exact h.dj i e e2
  ·exact absurd (h.b.lt e2) (by omega)
 ·rw [t.kp.block _ (lt_blk (h.bx p hp).1) (h.bx p hp).2.1]
  exact (h.bx p hp).1
 ·obtain ⟨p, hp, rfl⟩ := h.ins k hv
  exact (h.bx p (List.mem_append.2 (.inr hp))).2.1 e
theorem Tx.on (h : Tx w fa fb Xa Xb Lb Ls vS S Hd Pd W) (hb : Below W.heap.size W W') : Tx w fa fb Xa Xb Lb Ls vS S Hd Pd W' :=
 ⟨h.a.on hb, h.b.on hb, h.sa, h.sb, h.dj, fun p hp => ⟨by rw [hb.block _ (lt_blk (h.bx p hp).1)]; exact (h.bx p hp).1, (h.bx p hp).2⟩, h.kp.trans (hb.mono h.kp.size), h.tb, h.ts, own_on h.own hb, h.ins, fun q hq => (h.hr q hq).stay (Kept.of_below (F := fun _ => False) hb) (fun g e k => k) (fun k e => e.elim) (fun k _ e => e) (fun k _ e => .inr e), fun q hq => (h.hp q hq).sty (Kept.of_below (F := fun _ => False) hb) (fun k e => e.elim) (fun k _ e => e) (fun k _ e => .inr e)⟩
theorem Tx.mv {G : Nat → Prop} {Ls' : List Bo} {vS' : Value} {S' : List Lx} (h : Tx w fa fb Xa Xb Lb Ls vS S Hd Pd W) (hk : Kept G W W') (hG : ∀ k, G k → ∃ p ∈ Lb ++ Ls, p.1 = k) (hL : ∀ p ∈ Lb' ++ Ls', W'.heap[p.1]? = some (.cells p.2.1 p.2.2 (0, 0)) ∧ ((∃ q ∈ Lb ++ Ls, q.1 = p.1) ∨ W.heap.size ≤ p.1)) (h1 : ∀ p ∈ Lb', vS'.ownBlock ≠ some p.1) (h2 : ∀ p ∈ Ls', p.2.2 = 55) (ho : W'.ownsRow w.heap.size 55 31 vS' S'.length (rowC lxc S')) (hi : ∀ k, vS'.ownBlock = some k → ∃ p ∈ Ls', p.1 = k) (hh : ∀ q ∈ Hd, Hr (Md fa fb Xa Xb) (Bs Lb') vS' q W') (hp : ∀ q ∈ Pd, RwF (fun k => (Md fa fb Xa Xb k ∨ vS'.ownBlock = some k) ∨ Bs Lb' k) 2 q.1 q.2.length (rowC prc q.2) W') : Tx w fa fb Xa Xb Lb' Ls' vS' S' Hd Pd W' := by
 have hs : ∀ k, G k → w.heap.size ≤ k := fun k e => by
  obtain ⟨p, hp, rfl⟩ := hG k e
  exact (h.bx p hp).2.2.2
 have na : ∀ k, G k → ¬ fa.In Xa.act k := fun k e => by
  obtain ⟨p, hp, rfl⟩ := hG k e
  exact (h.bx p hp).2.1
 have nb : ∀ k, G k → ¬ fb.In Xb.act k := fun k e => by
  obtain ⟨p, hp, rfl⟩ := hG k e
  exact (h.bx p hp).2.2.1
 have hl : ∀ {f : Fo} {act : Bool} (k : Nat), Nw2 (Lb' ++ Ls') f act k → Nw2 (Lb ++ Ls) f act k ∨ W.heap.size ≤ k := fun {f act} k e => by
  rcases e with ⟨p, hp, rfl⟩ | e
  ·rcases (hL p hp).2 with ⟨q, hq, e⟩ | e
   ·exact .inl (.inl ⟨q, hq, e⟩)
   ·exact .inr e
  ·exact .inl (.inr e)
 refine ⟨h.a.mv hk (fun k e => ⟨.inl (hG k e), na k e⟩) hl, h.b.mv hk (fun k e => ⟨.inl (hG k e), nb k e⟩) hl, h.sa, h.sb, h.dj, fun p hp => ⟨(hL p hp).1, ?_⟩, kept_below h.kp rfl hk hs, h1, h2, ho, hi, hh, hp⟩
 rcases (hL p hp).2 with ⟨q, hq, e⟩ | e
 ·rw [← e]
  exact (h.bx q hq).2
 ·exact ⟨fun g => absurd (h.a.lt g) (by omega), fun g => absurd (h.b.lt g) (by omega), Nat.le_trans h.kp.size e⟩
theorem Tx.box (h : Tx w fa fb Xa Xb Lb Ls vS S Hd Pd W) (cs : Array Value) (ty : TypeId) : Tx w fa fb Xa Xb ((W.heap.size, cs, ty) :: Lb) Ls vS S Hd Pd (W.alloc (.cells cs ty)) := by
 refine h.mv (G := fun _ => False) (Kept.of_below (al _)) (fun k e => e.elim) (fun p hp => ?_) (fun p hp => ?_) h.ts (own_on h.own (al _)) h.ins (fun q hq => (h.hr q hq).stay (Kept.of_below (F := fun _ => False) (al _)) (fun g e k => k) (fun k e => e.elim) (fun k _ e => e) (fun k hl ⟨p, hp, e⟩ => by
  rcases List.mem_cons.1 hp with rfl | hp
  ·exact absurd (show W.heap.size = k from e) (by omega)
  ·exact .inr ⟨p, hp, e⟩)) (fun q hq => (h.hp q hq).sty (Kept.of_below (F := fun _ => False) (al _)) (fun k e => e.elim) (fun k _ e => e) (fun k hl ⟨p, hp, e⟩ => by
  rcases List.mem_cons.1 hp with rfl | hp
  ·exact absurd (show W.heap.size = k from e) (by omega)
  ·exact .inr ⟨p, hp, e⟩))
 ·rcases List.mem_cons.1 hp with rfl | hp
  ·exact ⟨heap_alloc_new W _, .inr (Nat.le_refl _)⟩
  ·exact ⟨by rw [(al (.cells cs ty)).block _ (lt_blk (h.bx p hp).1)]; exact (h.bx p hp).1, .inl ⟨p, hp, rfl⟩⟩
 ·rcases List.mem_cons.1 hp with rfl | hp
  ·intro e
   obtain ⟨q, hq, e2⟩ := h.ins _ e
   have := lt_blk (h.bx q (List.mem_append.2 (.inr hq))).1
   exact absurd (show q.1 = W.heap.size from e2) (by omega)
  ·exact h.tb p hp
theorem Tx.less (h : Tx w fa fb Xa Xb Lb Ls vS S Hd Pd W) (hL : ∀ p ∈ Lb', p ∈ Lb) : Tx w fa fb Xa Xb Lb' Ls vS S Hd Pd W :=
 h.mv (G := fun _ => False) (Kept.refl _ _) (fun k e => e.elim) (fun p hp => by
  rcases List.mem_append.1 hp with hp | hp
  ·have this : p ∈ Lb ++ Ls := List.mem_append.2 (.inl (hL p hp))
   exact ⟨(h.bx p this).1, .inl ⟨p, this, rfl⟩⟩
  ·have this : p ∈ Lb ++ Ls := List.mem_append.2 (.inr hp)
   exact ⟨(h.bx p this).1, .inl ⟨p, this, rfl⟩⟩) (fun p hp => h.tb p (hL p hp)) h.ts h.own h.ins (fun q hq => (h.hr q hq).stay (G := fun _ => False) (Kept.refl _ _) (fun g e k => k) (fun k e => e.elim) (fun k _ e => e) (fun k _ ⟨p, hp, e⟩ => .inr ⟨p, hL p hp, e⟩)) (fun q hq => (h.hp q hq).sty (G := fun _ => False) (Kept.refl _ _) (fun k e => e.elim) (fun k _ e => e) (fun k _ ⟨p, hp, e⟩ => .inr ⟨p, hL p hp, e⟩))
theorem Tx.bm (h : Tx w fa fb Xa Xb Lb Ls vS S Hd Pd W) {b : Nat} {cs : Array Value} {ty : TypeId} (hp : (b, cs, ty) ∈ Lb) : W.heap[b]? = some (.cells cs ty (0, 0)) := (h.bx _ (List.mem_append.2 (.inl hp))).1
theorem Tx.poke {b : Nat} (h : Tx w fa fb Xa Xb Lb Ls vS S Hd Pd W) (hb : ∃ p ∈ Lb, p.1 = b ∧ p.2.2 ≠ 55) (hk : Kept (fun k => k = b) W W') (hL : ∀ p ∈ Lb', W'.heap[p.1]? = some (.cells p.2.1 p.2.2 (0, 0)) ∧ ∃ q ∈ Lb, q.1 = p.1) (hB : ∀ k, Bs Lb' k → Bs Lb k) : Tx w fa fb Xa Xb Lb' Ls vS S Hd Pd W' := by
 obtain ⟨p0, hp0, rfl, ht⟩ := hb
 have hne : ∀ q ∈ Ls, q.1 ≠ p0.1 := fun q hq e => by
  have h1 := (h.bx q (List.mem_append.2 (.inr hq))).1
  have h2 := (h.bx p0 (List.mem_append.2 (.inl hp0))).1
  rw [e, h2] at h1
  injection h1 with h1
  injection h1 with _ h1 _
  exact ht (h1.trans (h.ts q hq))
 refine h.mv hk (fun k e => ⟨p0, List.mem_append.2 (.inl hp0), e.symm⟩) (fun p hp => ?_) (fun p hp => by obtain ⟨q, hq, e⟩ := (hL p hp).2; rw [← e]; exact h.tb q hq) h.ts (own_kept h.own hk (fun k hv e => ?_)) h.ins (fun q hq => ?_) (fun q hq => (h.hp q hq).sty hk (fun k e => .inr ⟨p0, hp0, e.symm⟩) (fun k _ e => e) (fun k _ e => .inr (hB k e)))
 ·rcases List.mem_append.1 hp with hp | hp
  ·obtain ⟨q, hq, e⟩ := (hL p hp).2
   exact ⟨(hL p hp).1, .inl ⟨q, List.mem_append.2 (.inl hq), e⟩⟩
  ·have this : p ∈ Lb ++ Ls := List.mem_append.2 (.inr hp)
   exact ⟨by rw [hk.block _ (lt_blk (h.bx p this).1) (hne p hp)]; exact (h.bx p this).1, .inl ⟨p, this, rfl⟩⟩
 ·obtain ⟨p, hp, rfl⟩ := h.ins k hv
  exact hne p hp e
 ·refine (h.hr q hq).stay hk (fun g e k => ?_) (fun k e => .inr ⟨p0, hp0, e.symm⟩) (fun k _ e => e) (fun k _ e => .inr (hB k e))
  obtain ⟨c, hc⟩ := own_blk (h.hr q hq).own e
  have h2 := (h.bx p0 (List.mem_append.2 (.inl hp0))).1
  rw [← k, hc] at h2
  injection h2 with h2
  injection h2 with _ h2 _
  exact ht h2.symm
theorem Tx.app {L : List Lx} {v' : Value} (h : Tx w fa fb Xa Xb Lb Ls vS S Hd Pd W) (ho : W'.ownsRow w.heap.size 55 31 v' (S.length + L.length) (rowC lxc S ++ rowC lxc L)) (hg : W.grownBy W' vS.ownBlock) (hat : v'.ownBlock = vS.ownBlock ∨ v'.ownBlock = some W.heap.size) : ∃ Ls', Tx w fa fb Xa Xb Lb Ls' v' (S ++ L) Hd Pd W' := by
 have hk := grown_kept hg
 have hne := h.tb
 have hbox : ∀ p ∈ Lb, W'.heap[p.1]? = some (.cells p.2.1 p.2.2 (0, 0)) := fun p hp => by
  have h1 := (h.bx p (List.mem_append.2 (.inl hp))).1
  rw [hk.block _ (lt_blk h1) (hne p hp)]
  exact h1
 have hGs : ∀ k, vS.ownBlock = some k → ∃ p ∈ Lb ++ Ls, p.1 = k := fun k e => by
  obtain ⟨q, hq, e2⟩ := h.ins _ e
  exact ⟨q, List.mem_append.2 (.inr hq), e2⟩
 have ho' : W'.ownsRow w.heap.size 55 31 v' (S ++ L).length (rowC lxc (S ++ L)) := by rw [List.length_append, rowC_append]; exact ho
 have hM : ∀ k, k < W.heap.size → Md fa fb Xa Xb k ∨ v'.ownBlock = some k → Md fa fb Xa Xb k ∨ vS.ownBlock = some k := fun k hl e => e.imp id fun e => by
  rcases hat with g | g
  ·exact g.symm.trans e
  ·rw [g] at e
   injection e with e
   omega
 have hh : ∀ q ∈ Hd, Hr (Md fa fb Xa Xb) (Bs Lb) v' q W' := fun q hq => (h.hr q hq).stay hk (fun g e k => (h.hr q hq).ne g e (.inr k)) (fun k e => .inl (.inr e)) hM (fun k _ e => .inr e)
 have hpp : ∀ q ∈ Pd, RwF (fun k => (Md fa fb Xa Xb k ∨ v'.ownBlock = some k) ∨ Bs Lb k) 2 q.1 q.2.length (rowC prc q.2) W' := fun q hq => (h.hp q hq).sty hk (fun k e => .inl (.inr e)) hM (fun k _ e => .inr e)
 have htb : ∀ p ∈ Lb, v'.ownBlock ≠ some p.1 := fun p hp e => by
  rcases hat with g | g
  ·exact h.tb p hp (g.symm.trans e)
  ·rw [g] at e
   injection e with e
   have := lt_blk (h.bx p (List.mem_append.2 (.inl hp))).1
   omega
 cases hv : v'.ownBlock with
 | none =>
  refine ⟨[], h.mv hk hGs (fun p hp => ?_) htb (fun p hp => by cases hp) ho' (fun k e => by rw [hv] at e; cases e) hh hpp⟩
  rw [List.append_nil] at hp
  exact ⟨hbox p hp, .inl ⟨p, List.mem_append.2 (.inl hp), rfl⟩⟩
 | some g =>
  obtain ⟨cur, hcur⟩ := own_blk ho' hv
  refine ⟨[(g, cur, 55)], h.mv hk hGs (fun p hp => ?_) htb (fun p hp => by rw [List.mem_singleton.1 hp]) ho' (fun k e => by rw [hv] at e; injection e with e; exact ⟨(g, cur, 55), List.mem_singleton.2 rfl, e⟩) hh hpp⟩
  rcases List.mem_append.1 hp with hp | hp
  ·exact ⟨hbox p hp, .inl ⟨p, List.mem_append.2 (.inl hp), rfl⟩⟩
  ·rw [List.mem_singleton.1 hp]
   refine ⟨hcur, ?_⟩
   rcases hat with e | e
   ·exact .inl (hGs g (by rw [← e]; exact hv))
   ·rw [hv] at e
    injection e with e
    exact .inr (Nat.le_of_eq e.symm)
end Go.Proofs.YtkdkgdollmmcnaaGreat
namespace Go.Proofs.YtkdkgdollmmcnaaGreat
open Go.RowKit Go.Sort Go.Shelf
variable {W W' w w1 : World} {fa fb : Fo} {Xa Xb : Ss} {Lb Lb' Ls : List Bo} {vS : Value} {S : List Lx} {Hd : List (Value × List Lx)} {Pd : List (Value × List Pr)} {pa pb ka kb : Nat}
theorem Tx.out {L : List Lx} (h : Tx w fa fb Xa Xb Lb Ls vS S Hd Pd W) (z : Oz (Nw2 (Lb ++ Ls) fb Xb.act) W fa Xa L W') : ∃ Ls', Tx w { fa with vo := sy, lo := [] } fb { Xa with out := [] } Xb Lb Ls' vS S ((fa.vo, L) :: Hd) Pd W' := by
 have hsub : ∀ i, ({ fa with vo := sy, lo := [] } : Fo).In Xa.act i → fa.In Xa.act i := fun i e => by
  rcases e with e | e | e | e | e | e
  ·exact .inl e
  ·exact .inr (.inl e)
  ·cases e
  ·exact .inr (.inr (.inr (.inl e)))
  ·exact .inr (.inr (.inr (.inr (.inl e))))
  ·exact .inr (.inr (.inr (.inr (.inr e))))
 have hkeep : ∀ p ∈ Lb ++ Ls, W'.heap[p.1]? = some (.cells p.2.1 p.2.2 (0, 0)) := fun p hp => by
  rw [z.kp.block _ (lt_blk (h.bx p hp).1) (h.bx p hp).2.1]
  exact (h.bx p hp).1
 have hown : W'.ownsRow w.heap.size 55 31 vS S.length (rowC lxc S) := own_kept h.own z.kp (fun k hv hin => by
  obtain ⟨p, hp, rfl⟩ := h.ins k hv
  exact (h.bx p (List.mem_append.2 (.inr hp))).2.1 hin)
 have hin : ∀ g, fa.vo.ownBlock = some g → fa.In Xa.act g := fun g hv => .inr (.inr (.inl hv))
 have hhr : ∀ q ∈ (fa.vo, L) :: Hd, Hr (Md { fa with vo := sy, lo := [] } fb { Xa with out := [] } Xb) (Bs Lb) vS q W' := fun q hq => by
  rcases List.mem_cons.1 hq with rfl | hq
  ·refine ⟨z.own, fun g hv k => ?_, fun x hx => ⟨(z.qf x hx).2.1, (z.qf x hx).2.2.1, (z.qf x hx).2.2.2.1, (z.qf x hx).2.2.2.2, (z.qf x hx).1.stay ⟨Kept.refl (fun _ => False) _, fun k e => e.elim, fun k _ e => ?_⟩⟩⟩
   ·rcases k with (k | k) | k
    ·exact z.ni g hv k
    ·exact h.dj g (hin g hv) k
    ·obtain ⟨p, hp, rfl⟩ := h.ins g k
     exact (h.bx p (List.mem_append.2 (.inr hp))).2.1 (hin _ hv)
   ·rcases e with ((e | e) | e) | ⟨p, hp, e⟩
    ·exact .inr e
    ·exact .inl (.inl (.inr e))
    ·obtain ⟨p, hp, e2⟩ := h.ins k e
     exact .inl (.inl (.inl ⟨p, List.mem_append.2 (.inr hp), e2⟩))
    ·exact .inl (.inl (.inl ⟨p, List.mem_append.2 (.inl hp), e⟩))
  ·exact (h.hr q hq).stay z.kp (fun g e k => (h.hr q hq).ne g e (.inl (.inl k))) (fun k e => .inl (.inl (.inl e))) (fun k _ e => e.imp (fun e => e.imp (hsub k) id) id) (fun k _ e => .inr e)
 have hpp : ∀ q ∈ Pd, RwF (fun k => (Md { fa with vo := sy, lo := [] } fb { Xa with out := [] } Xb k ∨ vS.ownBlock = some k) ∨ Bs Lb k) 2 q.1 q.2.length (rowC prc q.2) W' := fun q hq => (h.hp q hq).sty z.kp (fun k e => .inl (.inl (.inl e))) (fun k _ e => e.imp (fun e => e.imp (hsub k) id) id) (fun k _ e => .inr e)
 cases hv : fa.vo.ownBlock with
 | none =>
  refine ⟨Ls, z.sc.less (fun k e => .inl e), h.b.mv z.kp (fun k e => ⟨.inr e, h.dj k e⟩) (fun k e => .inl (e.imp id (hsub k))), fun i e => h.sa i (hsub i e), h.sb, fun i e => h.dj i (hsub i e), fun p hp => ⟨hkeep p hp, fun e => (h.bx p hp).2.1 (hsub _ e), (h.bx p hp).2.2⟩, kept_below h.kp rfl z.kp h.sa, h.tb, h.ts, hown, h.ins, hhr, hpp⟩
 | some g =>
  obtain ⟨cur, hcur⟩ := own_blk z.own hv
  have hmem : ∀ p, p ∈ Lb ++ (g, cur, 55) :: Ls → p ∈ Lb ++ Ls ∨ p = (g, cur, 55) := fun p hp => by
   rcases List.mem_append.1 hp with hp | hp
   ·exact .inl (List.mem_append.2 (.inl hp))
   ·rcases List.mem_cons.1 hp with rfl | hp
    ·exact .inr rfl
    ·exact .inl (List.mem_append.2 (.inr hp))
  refine ⟨(g, cur, 55) :: Ls, z.sc.less (fun k e => ?_), h.b.mv z.kp (fun k e => ⟨.inr e, h.dj k e⟩) (fun k e => ?_), fun i e => h.sa i (hsub i e), h.sb, fun i e => h.dj i (hsub i e), fun p hp => ?_, kept_below h.kp rfl z.kp h.sa, h.tb, fun p hp => ?_, hown, fun k hk => ?_, hhr, hpp⟩
  ·rcases e with ⟨p, hp, rfl⟩ | e
   ·rcases hmem p hp with hp | rfl
    ·exact .inl (.inl ⟨p, hp, rfl⟩)
    ·exact .inr hv
   ·exact .inl (.inr e)
  ·rcases e with ⟨p, hp, rfl⟩ | e
   ·rcases hmem p hp with hp | rfl
    ·exact .inl (.inl ⟨p, hp, rfl⟩)
    ·exact .inl (.inr (hin g hv))
   ·exact .inl (.inr (hsub k e))
  ·rcases hmem p hp with hp | rfl
   ·exact ⟨hkeep p hp, fun e => (h.bx p hp).2.1 (hsub _ e), (h.bx p hp).2.2⟩
   ·exact ⟨hcur, z.ni g hv, h.dj g (hin g hv), h.sa g (hin g hv)⟩
  ·rcases List.mem_cons.1 hp with rfl | hp
   ·rfl
   ·exact h.ts p hp
  ·obtain ⟨p, hp, e⟩ := h.ins k hk
   exact ⟨p, List.mem_cons_of_mem _ hp, e⟩
structure Duo (w : World) (pa pb : Nat) (Xa Xb : Ss) (ka kb : Nat) (Lb : List Bo) (vS : Value) (S : List Lx) (Hd : List (Value × List Lx)) (Pd : List (Value × List Pr)) (W : World) : Prop where
 ex : ∃ fa fb Ls, Tx w fa fb Xa Xb Lb Ls vS S Hd Pd W ∧ fa.sb = pa ∧ fb.sb = pb ∧ Ok fa Xa ka ∧ Ok fb Xb kb
theorem Duo.swap (h : Duo w pa pb Xa Xb ka kb Lb vS S Hd Pd W) : Duo w pb pa Xb Xa kb ka Lb vS S Hd Pd W := by
 obtain ⟨fa, fb, Ls, h1, h2, h3, h4, h5⟩ := h.ex
 exact ⟨fb, fa, Ls, h1.swap, h3, h2, h5, h4⟩
theorem Duo.do (h : Duo w pa pb Xa Xb ka kb Lb vS S Hd Pd W) (hk : ka ≤ 100000) (ho : Xa.out.length ≤ 100000) (ph : Nat) (op : Op) : Calls Tryz.prog 11 #[pz pa, uw ph, .agg #[iw op.k, sd op.key, sd op.val, sd op.to, iw op.lim]] W fun e w' => e = .returned (rsV (doF bt Xa ph op).2) ∧ Duo w pa pb (doF bt Xa ph op).1 Xb (ka + 9) kb Lb vS S Hd Pd w' := by
 obtain ⟨fa, fb, Ls, h1, rfl, h2, h3, h4⟩ := h.ex
 exact (do_ok hk h1.a h1.nok h3 (by rw [out_len h1.a]; exact ho) ph op).mono fun e w' ⟨g1, f', g2, g3, g4⟩ => ⟨g1, f', fb, Ls, h1.next g2, g3, h2, h3.do ph op g4, h4⟩
theorem Duo.give (h : Duo w pa pb Xa Xb ka kb Lb vS S Hd Pd W) (hk : ka ≤ 100000) (ho : Xa.out.length ≤ 100000) : Calls Tryz.prog 12 #[pz pa] W fun e w' => e = .returned (rsV (giveF bt Xa).2) ∧ Duo w pa pb (giveF bt Xa).1 Xb (ka + 9) kb Lb vS S Hd Pd w' := by
 obtain ⟨fa, fb, Ls, h1, rfl, h2, h3, h4⟩ := h.ex
 exact (give_ok hk h1.a h1.nok h3 (by rw [out_len h1.a]; exact ho)).mono fun e w' ⟨g1, f', g2, g3, g4⟩ => ⟨g1, f', fb, Ls, h1.next g2, g3, h2, h3.give g4, h4⟩
theorem Duo.again (h : Duo w pa pb Xa Xb ka kb Lb vS S Hd Pd W) (hk : ka ≤ 100000) (ho : Xa.out.length ≤ 100000) : Calls Tryz.prog 20 #[pz pa] W fun e w' => e = .returned (.tuple #[]) ∧ Duo w pa pb (againF Xa) Xb (ka + 9) kb Lb vS S Hd Pd w' := by
 obtain ⟨fa, fb, Ls, h1, rfl, h2, h3, h4⟩ := h.ex
 have hlen : Xa.asks.length = fa.la.length := by rw [h1.a.ea, List.length_map]
 have := h3.la
 exact (again20 h1.a h1.nok h3.bd (by rw [out_len h1.a]; omega)).mono fun e w' ⟨g1, vo, g2⟩ => ⟨g1, _, fb, Ls, h1.next g2, rfl, h2, h3.same _ rfl (h3.g.again).ou ⟨rfl, rfl, rfl, rfl, rfl⟩, h4⟩
theorem Duo.hear (h : Duo w pa pb Xa Xb ka kb Lb vS S Hd Pd W) (hk : ka ≤ 100000) (ho : Xa.out.length ≤ 100000) (l : Le) (vw vs vp : Value) (hl : LAt w.heap.size l vw vs vp W) : Calls Tryz.prog 17 #[pz pa, .agg (lfc l vw vs vp).toArray] W fun e w' => ∃ v', e = .returned (.agg (rsc (hearR Xa l).2 v').toArray) ∧ v'.oneCell' = true ∧ Duo w pa pb (hearR Xa l).1 Xb (ka + 9) kb Lb vS S Hd ((v', (hearR Xa l).2.ps) :: Pd) w' := by
 obtain ⟨fa, fb, Ls, h1, rfl, h2, h3, h4⟩ := h.ex
 have hM : ∀ j, fa.Ex (Nw2 (Lb ++ Ls) fb Xb.act) Xa.act j → w.heap.size ≤ j := fun j e => by
  rcases e with (⟨p, hp, rfl⟩ | e) | e
  ·exact (h1.bx p hp).2.2.2
  ·exact h1.sb j e
  ·exact h1.sa j e
 have hlf : LF (fa.Ex (Nw2 (Lb ++ Ls) fb Xb.act) Xa.act) l vw vs vp W := ⟨⟨rwf_arg hl.q.ws hM, rwf_arg hl.q.sk hM⟩, rwf_arg hl.r hM⟩
 refine (hear_ok2 hk h1.a h1.nok h3 (by rw [out_len h1.a]; exact ho) l vw vs vp hlf).mono fun e w' ⟨v', f', g1, g2, g3, g4, g5, g6⟩ => ⟨v', g1, g2, f', fb, Ls, ?_, g5, h2, h3.hear l g6, h4⟩
 have t := h1.next g4
 refine ⟨t.a, t.b, t.sa, t.sb, t.dj, t.bx, t.kp, t.tb, t.ts, t.own, t.ins, t.hr, fun q hq => ?_⟩
 rcases List.mem_cons.1 hq with rfl | hq
 ·refine g3.stay ⟨Kept.refl (fun _ => False) _, fun k e => e.elim, fun k _ e => ?_⟩ (by decide)
  rcases e with ((e | e) | e) | ⟨p, hp, e⟩
  ·exact .inr e
  ·exact .inl (.inr e)
  ·obtain ⟨p, hp, e2⟩ := t.ins k e
   exact .inl (.inl ⟨p, List.mem_append.2 (.inr hp), e2⟩)
  ·exact .inl (.inl ⟨p, List.mem_append.2 (.inl hp), e⟩)
 ·exact t.hp q hq
theorem Duo.out (h : Duo w pa pb Xa Xb ka kb Lb vS S Hd Pd W) : Calls Tryz.prog 13 #[pz pa] W fun e w' => ∃ (vo : Value) (L : List Lx), e = .returned vo ∧ L.map Lx.l = Xa.out ∧ Duo w pa pb { Xa with out := [] } Xb ka kb Lb vS S ((vo, L) :: Hd) Pd w' := by
 obtain ⟨fa, fb, Ls, h1, rfl, h2, h3, h4⟩ := h.ex
 refine (out13 h1.a h1.nok (fun x hx => ?_)).mono fun e w' ⟨g1, L, g2⟩ => ?_
 ·have hm : x.l ∈ Xa.out := by rw [h1.a.eo]; exact List.mem_map_of_mem hx
  have := (h3.g.ou _ hm).q.ok
  exact ⟨by have := this.wl; omega, by have := this.sk; omega⟩
 ·obtain ⟨Ls', g3⟩ := h1.out g2
  exact ⟨fa.vo, L, g1, g2.el, _, fb, Ls', g3, rfl, h2, h3.out _ _, h4⟩
theorem Duo.quiet (h : Duo w pa pb Xa Xb ka kb Lb vS S Hd Pd W) : Calls Tryz.prog 14 #[pz pa] W fun e w' => e = .returned (.bool (Xa.asks.length == 0)) ∧ Below W.heap.size W w' := by
 obtain ⟨fa, fb, Ls, h1, rfl, h2, h3, h4⟩ := h.ex
 exact quiet14 h1.a
theorem Duo.on (h : Duo w pa pb Xa Xb ka kb Lb vS S Hd Pd W) (hb : Below W.heap.size W W') : Duo w pa pb Xa Xb ka kb Lb vS S Hd Pd W' := by
 obtain ⟨fa, fb, Ls, h1, h2⟩ := h.ex
 exact ⟨fa, fb, Ls, h1.on hb, h2⟩
theorem Duo.box (h : Duo w pa pb Xa Xb ka kb Lb vS S Hd Pd W) (cs : Array Value) (ty : TypeId) : Duo w pa pb Xa Xb ka kb ((W.heap.size, cs, ty) :: Lb) vS S Hd Pd (W.alloc (.cells cs ty)) := by
 obtain ⟨fa, fb, Ls, h1, h2⟩ := h.ex
 exact ⟨fa, fb, Ls, h1.box cs ty, h2⟩
theorem Duo.less (h : Duo w pa pb Xa Xb ka kb Lb vS S Hd Pd W) (hL : ∀ p ∈ Lb', p ∈ Lb) : Duo w pa pb Xa Xb ka kb Lb' vS S Hd Pd W := by
 obtain ⟨fa, fb, Ls, h1, h2⟩ := h.ex
 exact ⟨fa, fb, Ls, h1.less hL, h2⟩
theorem Tx.drop {Hd' : List (Value × List Lx)} {Pd' : List (Value × List Pr)} (h : Tx w fa fb Xa Xb Lb Ls vS S Hd Pd W) (hH : ∀ q ∈ Hd', q ∈ Hd) (hP : ∀ q ∈ Pd', q ∈ Pd) : Tx w fa fb Xa Xb Lb Ls vS S Hd' Pd' W :=
 ⟨h.a, h.b, h.sa, h.sb, h.dj, h.bx, h.kp, h.tb, h.ts, h.own, h.ins, fun q hq => h.hr q (hH q hq), fun q hq => h.hp q (hP q hq)⟩
theorem Duo.drop {Hd' : List (Value × List Lx)} {Pd' : List (Value × List Pr)} (h : Duo w pa pb Xa Xb ka kb Lb vS S Hd Pd W) (hH : ∀ q ∈ Hd', q ∈ Hd) (hP : ∀ q ∈ Pd', q ∈ Pd) : Duo w pa pb Xa Xb ka kb Lb vS S Hd' Pd' W := by
 obtain ⟨fa, fb, Ls, h1, h2⟩ := h.ex
 exact ⟨fa, fb, Ls, h1.drop hH hP, h2⟩
theorem Duo.bm (h : Duo w pa pb Xa Xb ka kb Lb vS S Hd Pd W) {b : Nat} {cs : Array Value} {ty : TypeId} (hp : (b, cs, ty) ∈ Lb) : W.heap[b]? = some (.cells cs ty (0, 0)) := by
 obtain ⟨fa, fb, Ls, h1, h2⟩ := h.ex
 exact h1.bm hp
theorem Duo.poke {b : Nat} (h : Duo w pa pb Xa Xb ka kb Lb vS S Hd Pd W) (hb : ∃ p ∈ Lb, p.1 = b ∧ p.2.2 ≠ 55) (hk : Kept (fun k => k = b) W W') (hL : ∀ p ∈ Lb', W'.heap[p.1]? = some (.cells p.2.1 p.2.2 (0, 0)) ∧ ∃ q ∈ Lb, q.1 = p.1) : Duo w pa pb Xa Xb ka kb Lb' vS S Hd Pd W' := by
 obtain ⟨fa, fb, Ls, h1, h2⟩ := h.ex
 exact ⟨fa, fb, Ls, h1.poke hb hk hL (fun k ⟨p, hp, e⟩ => by
  obtain ⟨q, hq, e2⟩ := (hL p hp).2
  exact ⟨q, hq, e2.trans e⟩), h2⟩
theorem Duo.app {L : List Lx} {v' : Value} (h : Duo w pa pb Xa Xb ka kb Lb vS S Hd Pd W) (ho : W'.ownsRow w.heap.size 55 31 v' (S.length + L.length) (rowC lxc S ++ rowC lxc L)) (hg : W.grownBy W' vS.ownBlock) (hat : v'.ownBlock = vS.ownBlock ∨ v'.ownBlock = some W.heap.size) : Duo w pa pb Xa Xb ka kb Lb v' (S ++ L) Hd Pd W' := by
 obtain ⟨fa, fb, Ls, h1, h2⟩ := h.ex
 obtain ⟨Ls', h3⟩ := h1.app ho hg hat
 exact ⟨fa, fb, Ls', h3, h2⟩
theorem Duo.own (h : Duo w pa pb Xa Xb ka kb Lb vS S Hd Pd W) : W.ownsRow w.heap.size 55 31 vS S.length (rowC lxc S) := by
 obtain ⟨fa, fb, Ls, h1, h2⟩ := h.ex
 exact h1.own
theorem Duo.below (h : Duo w pa pb Xa Xb ka kb Lb vS S Hd Pd W) : Below w.heap.size w W := by
 obtain ⟨fa, fb, Ls, h1, h2⟩ := h.ex
 exact h1.kp
theorem Duo.gs (h : Duo w pa pb Xa Xb ka kb Lb vS S Hd Pd W) : Gs bt Xa ∧ Inc Xa ∧ Xa.asks.length ≤ ka := by
 obtain ⟨fa, fb, Ls, h1, -, -, h3, -⟩ := h.ex
 exact ⟨h3.g, h3.i, h3.la⟩
theorem Duo.le {ka' kb' : Nat} (h : Duo w pa pb Xa Xb ka kb Lb vS S Hd Pd W) (h1 : ka ≤ ka') (h2 : kb ≤ kb') : Duo w pa pb Xa Xb ka' kb' Lb vS S Hd Pd W := by
 obtain ⟨fa, fb, Ls, g1, g2, g3, g4, g5⟩ := h.ex
 exact ⟨fa, fb, Ls, g1, g2, g3, g4.le h1, g5.le h2⟩
theorem Duo.row (h : Duo w pa pb Xa Xb ka kb Lb vS S Hd Pd W) {q : Value × List Lx} (hq : q ∈ Hd) : W.ownsRow 0 55 31 q.1 q.2.length (rowC lxc q.2) ∧ ∀ x ∈ q.2, x.l.an = false ∧ x.l.r = zR ∧ x.vw.oneCell' = true ∧ x.vs.oneCell' = true ∧ QAt W.heap.size x.l.q x.vw x.vs W := by
 obtain ⟨fa, fb, Ls, h1, h2⟩ := h.ex
 have k := h1.hr q hq
 exact ⟨k.own, fun x hx => ⟨(k.el x hx).1, (k.el x hx).2.1, (k.el x hx).2.2.1, (k.el x hx).2.2.2.1, (k.el x hx).2.2.2.2.at⟩⟩
theorem Duo.prs (h : Duo w pa pb Xa Xb ka kb Lb vS S Hd Pd W) {q : Value × List Pr} (hq : q ∈ Pd) : PsAt W.heap.size q.1 q.2 W := by
 obtain ⟨fa, fb, Ls, h1, h2⟩ := h.ex
 exact (h1.hp q hq).rw (by decide)
theorem SC.freshN (cl nsh b : Nat) (N : Nat → Prop) (W : World) (h : W.heap[b]? = some (.cells #[uu cl, iw (nsh : Int), .int .u64 0, .int .u32 0, .int .u32 0, .int .u32 0, .pointer none, .nilFunc, sy, sy] 77 (0, 0))) : SC ⟨b, 0, sy, sy, sy, 0, 0, 0, 0, zO, 0, sy, [], fun _ => 0, fun _ => 0, [], []⟩ N (Ss.new cl nsh) W :=
 ⟨h, (fun e => by cases e), own_nil _ _ _ _, own_nil _ _ _ _, rfl, rfl, ⟨fun e => absurd rfl e, (fun e => by cases e), (fun e => by cases e), Nat.zero_le _⟩, (fun n e => by cases e), (fun n e => by cases e), (fun x e => by cases e), (fun x e => by cases e)⟩
theorem Duo.newp (h : Duo w pa pb Xa Xb ka kb Lb vS S Hd Pd W) : Duo w pa pb Xa Xb ka kb Lb vS S Hd ((sy, []) :: Pd) W := by
 obtain ⟨fa, fb, Ls, h1, h2⟩ := h.ex
 refine ⟨fa, fb, Ls, ⟨h1.a, h1.b, h1.sa, h1.sb, h1.dj, h1.bx, h1.kp, h1.tb, h1.ts, h1.own, h1.ins, h1.hr, fun q hq => ?_⟩, h2⟩
 rcases List.mem_cons.1 hq with rfl | hq
 ·exact RwF.nil _ _ _
 ·exact h1.hp q hq
theorem Duo.new (c n : Nat) (hc : c < 4) (hn : 1 ≤ n ∧ n ≤ 8) (hb : Below w.heap.size w w1) : Calls Tryz.prog 8 #[iw (c : Int), iw (n : Int)] w1 fun e w2 => e = .returned (.tuple #[pz w1.heap.size, iw 0]) ∧ Below w.heap.size w w2 ∧ Calls Tryz.prog 8 #[iw (c : Int), iw (n : Int)] w2 fun e w' => ∃ pb, e = .returned (.tuple #[pz pb, iw 0]) ∧ Duo w w1.heap.size pb (Ss.new c n) (Ss.new c n) 0 0 [] sy [] [] [] w' := by
 refine (new8 c n hc hn w1).mono fun e w2 ⟨h1, h2, h3⟩ => ⟨h1, hb.trans (h2.mono hb.size), ?_⟩
 refine (new8 c n hc hn w2).mono fun e w' ⟨g1, g2, g3⟩ => ⟨w2.heap.size, g1, ?_⟩
 have hs1 : w.heap.size ≤ w1.heap.size := hb.size
 have hs2 : w1.heap.size < w2.heap.size := lt_blk h3
 have hin : ∀ (b i : Nat), (⟨b, 0, sy, sy, sy, 0, 0, 0, 0, zO, 0, sy, [], fun _ => 0, fun _ => 0, [], []⟩ : Fo).In false i → i = b := fun b i e => by
  rcases e with e | e | e | ⟨e, -⟩ | ⟨e, -⟩ | ⟨n, e, -⟩
  ·exact e
  ·cases e
  ·cases e
  ·cases e
  ·exact absurd rfl e
  ·cases e
 have a1 : w'.heap[w1.heap.size]? = w2.heap[w1.heap.size]? := g2.block _ hs2
 have ha : ∀ N : Nat → Prop, SC ⟨w1.heap.size, 0, sy, sy, sy, 0, 0, 0, 0, zO, 0, sy, [], fun _ => 0, fun _ => 0, [], []⟩ N (Ss.new c n) w2 := fun N => SC.freshN c n w1.heap.size N w2 h3
 refine ⟨_, _, [], ⟨(ha _).on g2, SC.freshN c n w2.heap.size _ w' g3, fun i e => by rw [hin _ i e]; exact hs1, fun i e => by rw [hin _ i e]; omega, fun i e1 e2 => by rw [hin _ i e1] at e2; have := hin _ _ e2; omega, (fun p hp => by cases hp), (hb.trans (h2.mono hs1)).trans (g2.mono (by omega)), (fun p hp => by cases hp), (fun p hp => by cases hp), World.ownsRow_nil _ _ _ _, (fun j e => by cases e), (fun q hq => by cases hq), (fun q hq => by cases hq)⟩, rfl, rfl, Ok.new _ rfl hc hn, Ok.new _ rfl hc hn⟩
theorem Duo.set {l1 l2 : List Bo} {b : Nat} {c cs : Array Value} {ty : TypeId} (h : Duo w pa pb Xa Xb ka kb (l1 ++ (b, c, ty) :: l2) vS S Hd Pd W) (ht : ty ≠ 55) (h1 : ∀ p ∈ l1, p.1 ≠ b) (h2 : ∀ p ∈ l2, p.1 ≠ b) : Duo w pa pb Xa Xb ka kb (l1 ++ (b, cs, ty) :: l2) vS S Hd Pd (W.setRow b cs) := by
 have hk := setRow_kept W b cs
 have k0 : ∀ p ∈ l1 ++ (b, c, ty) :: l2, W.heap[p.1]? = some (.cells p.2.1 p.2.2 (0, 0)) := fun p hp => h.bm hp
 have hm : (b, c, ty) ∈ l1 ++ (b, c, ty) :: l2 := List.mem_append.2 (.inr mc)
 refine h.poke ⟨_, hm, rfl, ht⟩ hk (fun p hp => ?_)
 have old : ∀ p, p ∈ l1 ++ (b, c, ty) :: l2 → p.1 ≠ b → (W.setRow b cs).heap[p.1]? = some (.cells p.2.1 p.2.2 (0, 0)) ∧ ∃ q ∈ l1 ++ (b, c, ty) :: l2, q.1 = p.1 := fun p hp hn => ⟨by rw [hk.block _ (lt_blk (k0 p hp)) hn]; exact k0 p hp, p, hp, rfl⟩
 rcases List.mem_append.1 hp with hp | hp
 ·exact old p (List.mem_append.2 (.inl hp)) (h1 p hp)
 ·rcases List.mem_cons.1 hp with rfl | hp
  ·exact ⟨setRow_at (k0 _ hm), _, hm, rfl⟩
  ·exact old p (List.mem_append.2 (.inr (List.mem_cons_of_mem _ hp))) (h2 p hp)
theorem eql_pr (l : List Pr) : eqL eqP l l = true := (eqL_iff eqP_iff).2 rfl
theorem eql38 (p l : Int) (w : World) : (binOp .eql 38 (.agg #[.int .u32 p, .int .u32 l]) (.agg #[.int .u32 p, .int .u32 l])).run Tryz.prog w = .ok (.bool true) w := by simp [go_sem]
theorem eql34 (p l : Int) (w : World) : (binOp .eql 34 (.agg #[.int .u64 p, .int .u32 l]) (.agg #[.int .u64 p, .int .u32 l])).run Tryz.prog w = .ok (.bool true) w := by simp [go_sem]
theorem same23 (r : Rs) (pa ua : Option Addr) (pc uc : Nat) (w : World) (h1 : PsAt w.heap.size (.slice pa r.ps.length pc) r.ps w) (h2 : PsAt w.heap.size (.slice ua r.ps.length uc) r.ps w) : Calls Tryz.prog 23 #[.agg (rsc r (.slice pa r.ps.length pc)).toArray, .agg (rsc r (.slice ua r.ps.length uc)).toArray] w fun e w' => e = .returned (.bool true) ∧ Below w.heap.size w w' := by
 obtain ⟨W1, hW1⟩ := xj ((w.alloc (.cells (rsc r (.slice pa r.ps.length pc)).toArray 41)).alloc (.cells (rsc r (.slice ua r.ps.length uc)).toArray 41))
 have n0 : W1.heap[w.heap.size]? = some (.cells (rsc r (.slice pa r.ps.length pc)).toArray 41 (0, 0)) := by
  rw [← hW1, (al (W := w.alloc (.cells (rsc r (.slice pa r.ps.length pc)).toArray 41)) _).block _ (by rw [size_al]; omega)]
  exact heap_alloc_new w _
 have n1 : W1.heap[w.heap.size + 1]? = some (.cells (rsc r (.slice ua r.ps.length uc)).toArray 41 (0, 0)) := by
  have k := heap_alloc_new (w.alloc (.cells (rsc r (.slice pa r.ps.length pc)).toArray 41)) (.cells (rsc r (.slice ua r.ps.length uc)).toArray 41)
  rw [size_al, hW1] at k
  exact k
 have HB : Hid (Below w.heap.size w W1) := by rw [← hW1]; exact (al _).trans ((al (W := w.alloc (.cells (rsc r (.slice pa r.ps.length pc)).toArray 41)) _).mono (by rw [size_al]; omega))
 have C66 : Hid (1 = 1 → Calls Tryz.prog 66 #[.slice pa r.ps.length pc, .slice ua r.ps.length uc] W1 fun e w' => e = .returned (.bool true) ∧ Below w.heap.size w w') := fun _ => by
  have k := pairs68 r.ps r.ps pa ua pc uc W1 (RwAt.le (RwAt.on h1 HB.out) HB.out.size) (RwAt.le (RwAt.on h2 HB.out) HB.out.size)
  rw [eql_pr] at k
  exact k.mono fun e w' ⟨g1, g2⟩ => ⟨g1, HB.out.trans (g2.mono HB.out.size)⟩
 have a0 : W1.cell? ⟨w.heap.size, 0, none⟩ = some (iw r.k) := block_cell n0 rfl
 have a1 : W1.cell? ⟨w.heap.size, 1, none⟩ = some (iw r.er) := block_cell n0 rfl
 have a2 : W1.cell? ⟨w.heap.size, 2, none⟩ = some (uu r.c) := block_cell n0 rfl
 have a3 : W1.cell? ⟨w.heap.size, 3, none⟩ = some (uu r.n) := block_cell n0 rfl
 have a4 : W1.cell? ⟨w.heap.size, 4, none⟩ = some (uw r.sp) := block_cell n0 rfl
 have a5 : W1.cell? ⟨w.heap.size, 5, none⟩ = some (uu r.sl) := block_cell n0 rfl
 have a6 : W1.cell? ⟨w.heap.size, 6, none⟩ = some (uw r.ap) := block_cell n0 rfl
 have a7 : W1.cell? ⟨w.heap.size, 7, none⟩ = some (uu r.al) := block_cell n0 rfl
 have a8 : W1.cell? ⟨w.heap.size, 8, none⟩ = some (.bool r.fd) := block_cell n0 rfl
 have a9 : W1.cell? ⟨w.heap.size, 9, none⟩ = some (sd r.val) := block_cell n0 rfl
 have a10 : W1.cell? ⟨w.heap.size, 10, none⟩ = some (.slice pa r.ps.length pc) := block_cell n0 rfl
 have b0 : W1.cell? ⟨w.heap.size + 1, 0, none⟩ = some (iw r.k) := block_cell n1 rfl
 have b1 : W1.cell? ⟨w.heap.size + 1, 1, none⟩ = some (iw r.er) := block_cell n1 rfl
 have b2 : W1.cell? ⟨w.heap.size + 1, 2, none⟩ = some (uu r.c) := block_cell n1 rfl
 have b3 : W1.cell? ⟨w.heap.size + 1, 3, none⟩ = some (uu r.n) := block_cell n1 rfl
 have b4 : W1.cell? ⟨w.heap.size + 1, 4, none⟩ = some (uw r.sp) := block_cell n1 rfl
 have b5 : W1.cell? ⟨w.heap.size + 1, 5, none⟩ = some (uu r.sl) := block_cell n1 rfl
 have b6 : W1.cell? ⟨w.heap.size + 1, 6, none⟩ = some (uw r.ap) := block_cell n1 rfl
 have b7 : W1.cell? ⟨w.heap.size + 1, 7, none⟩ = some (uu r.al) := block_cell n1 rfl
 have b8 : W1.cell? ⟨w.heap.size + 1, 8, none⟩ = some (.bool r.fd) := block_cell n1 rfl
 have b9 : W1.cell? ⟨w.heap.size + 1, 9, none⟩ = some (sd r.val) := block_cell n1 rfl
 have b10 : W1.cell? ⟨w.heap.size + 1, 10, none⟩ = some (.slice ua r.ps.length uc) := block_cell n1 rfl
 have e38 := eql38 (r.c : Int) (r.n : Int)
 have e34 := eql34 (r.sp : Int) (r.sl : Int)
 have e34' := eql34 (r.ap : Int) (r.al : Int)
 have hfd : (r.fd == r.fd) = true := by simp
 clear h1 h2 n0 n1
 go_enter Tryz.func23, Tryz.ntmps23
 go_wp2_with fail
 refine (C66.out (by trivial)).mono ?_
 rintro e w' ⟨rfl, h⟩
 have F : Hid _ := h
 clear h C66 HB
 go_wp2_with fail
 go_ret
 exact ⟨rfl, F.out⟩
end Go.Proofs.YtkdkgdollmmcnaaGreat
