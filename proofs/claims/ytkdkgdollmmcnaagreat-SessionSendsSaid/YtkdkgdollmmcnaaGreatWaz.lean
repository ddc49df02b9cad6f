import Derived.Test.YtkdkgdollmmcnaaGreatWay
set_option maxHeartbeats 4000000
set_option maxRecDepth 100000
set_option linter.unusedVariables false
set_option linter.unusedSimpArgs false
namespace Go.Proofs.YtkdkgdollmmcnaaGreat
def leT (a b : Nat × Nat) : Prop := a.1 < b.1 ∨ a.1 = b.1 ∧ a.2 ≤ b.2
def ltT (a b : Nat × Nat) : Prop := a.1 < b.1 ∨ a.1 = b.1 ∧ a.2 < b.2
theorem leT.refl (a : Nat × Nat) : leT a a := .inr ⟨rfl, Nat.le_refl _⟩
theorem leT.trans {a b c : Nat × Nat} (h : leT a b) (g : leT b c) : leT a c := by unfold leT at *; omega
theorem ltT.le {a b : Nat × Nat} (h : ltT a b) : leT a b := by unfold leT; unfold ltT at h; omega
theorem max_l (a b : Nat × Nat) : leT a (maxT a b) := by
 unfold maxT
 split
 ·rename_i h; unfold leT; omega
 ·exact leT.refl a
theorem max_r (a b : Nat × Nat) : leT b (maxT a b) := by
 unfold maxT
 split
 ·exact leT.refl b
 ·rename_i h; unfold leT; omega
def nowF (s : Ss) : Nat × Nat := (s.np, s.nl)
def startF (s : Ss) : Nat × Nat := (s.sp, s.sl)
def St (s S : Ss) : Prop := nowF S = nowF s ∧ startF S = startF s ∧ S.n = s.n ∧ S.cl = s.cl ∧ S.nsh = s.nsh
theorem St.refl (s : Ss) : St s s := ⟨rfl, rfl, rfl, rfl, rfl⟩
theorem St.trans {a b c : Ss} (h : St a b) (g : St b c) : St a c := ⟨g.1.trans h.1, g.2.1.trans h.2.1, g.2.2.1.trans h.2.2.1, g.2.2.2.1.trans h.2.2.2.1, g.2.2.2.2.trans h.2.2.2.2⟩
theorem ask_st (s : Ss) (a : Ak) : St s (askF s a) := ⟨rfl, rfl, rfl, rfl, rfl⟩
theorem drop_st (s : Ss) : St s (dropF s) := ⟨rfl, rfl, rfl, rfl, rfl⟩
theorem scan_st (s0 : Ss) (o : Op) : ∀ m i s, St s (scanAsks s0 o m i s)
 | 0, _, s => St.refl s
 | m + 1, i, s => (ask_st s _).trans (scan_st s0 o m (i + 1) _)
theorem lay_st : ∀ l i s, St s (layAsks l i s)
 | [], _, s => St.refl s
 | p :: l, i, s => by
  unfold layAsks
  refine St.trans ?_ (lay_st l (i + 1) _)
  split
  ·exact St.refl s
  ·exact ⟨rfl, rfl, rfl, rfl, rfl⟩
theorem chores_st (q : Rq) (but : Option Nat) (h : Nat) : ∀ l i s, St s (choresF q but h l i s).1
 | [], _, s => St.refl s
 | p :: l, i, s => by
  unfold choresF
  split
  ·exact (ask_st s _).trans (chores_st q but h l (i + 1) _)
  ·exact chores_st q but h l (i + 1) s
def Cm (s : Ss) (r : Ss × Rs) : Prop := leT (nowF s) (nowF r.1) ∧ startF r.1 = startF s ∧ r.1.n = s.n ∧ r.1.cl = s.cl ∧ r.1.nsh = s.nsh ∧ (r.2.k = 4 → leT (r.2.ap, r.2.al) (nowF r.1))
theorem Cm.of {s : Ss} {r : Ss × Rs} (h : St s r.1) (hk : r.2.k ≠ 4) : Cm s r := ⟨by rw [h.1]; exact leT.refl _, h.2.1, h.2.2.1, h.2.2.2.1, h.2.2.2.2, fun e => absurd e hk⟩
theorem res_k (s : Ss) (k : Int) : (resF s k).k = k := by unfold resF; split <;> rfl
theorem fail_cm (s : Ss) (e : Int) : Cm s (failF s e) := Cm.of (drop_st s) (by show (resF _ 6).k ≠ 4; rw [res_k]; decide)
theorem given_cm (B : Bt) (s : Ss) (e : Int) : Cm s (givenF B s e) :=
 Cm.of ((drop_st s).trans ((chores_st _ _ _ _ _ _).trans ⟨rfl, rfl, rfl, rfl, rfl⟩)) (by show (resF s 5).k ≠ 4; rw [res_k]; decide)
theorem comm_cm (B : Bt) (s : Ss) (ap al : Nat) : Cm s (commF B s ap al) := by
 have hS : ∀ (r : Ss × Nat) (c n h : Nat), St r.1 (if r.2 = 0 then doneF r.1 c n h else r.1) := fun r c n h => by
  split
  ·exact ask_st _ _
  ·exact St.refl _
 have h1 : St { dropF s with np := (maxT (s.np, s.nl) (ap, al)).1, nl := (maxT (s.np, s.nl) (ap, al)).2 } (commF B s ap al).1 := by
  refine (chores_st { zQ with k := 5, c := s.cl, n := s.n, ap := ap, al := al } (some (homeF B s (priF s))) (homeF B s (priF s)) (B.parts s.ws s.nsh) 0 _).trans ((hS _ s.cl s.n (homeF B s (priF s))).trans ⟨rfl, rfl, rfl, rfl, rfl⟩)
 refine ⟨?_, h1.2.1, h1.2.2.1, h1.2.2.2.1, h1.2.2.2.2, fun _ => ?_⟩
 ·rw [h1.1]; exact max_l (s.np, s.nl) (ap, al)
 ·rw [h1.1]; exact max_r (s.np, s.nl) (ap, al)
theorem stop_cm (B : Bt) (s : Ss) (e : Int) : Cm s (stopF B s e) := by
 unfold stopF
 split
 ·exact given_cm B s e
 ·exact fail_cm s e
theorem zs_k : zS.k ≠ 4 := by decide
theorem lock_cm (B : Bt) (s : Ss) (a : Ak) (r : Rp) : Cm s (lockF B s a r) := by
 unfold lockF
 split
 ·exact stop_cm B s 1
 ·exact Cm.of (ask_st s _) zs_k
theorem push_cm (B : Bt) (s : Ss) (a : Ak) (r : Rp) : Cm s (pushF B s a r) := by
 unfold pushF
 split
 ·exact Cm.of (ask_st s _) zs_k
 split
 ·exact Cm.of (ask_st s _) zs_k
 split
 ·split
  ·exact given_cm B s 40
  split
  ·exact fail_cm s 3
  ·exact Cm.of (ask_st s _) zs_k
 ·exact stop_cm B s _
theorem ans_cm (B : Bt) (s : Ss) (a : Ak) (r : Rp) : Cm s (ansF B s a r) := by
 unfold ansF
 split
 ·exact lock_cm B s a r
 split
 ·exact Cm.of (drop_st s) (by show (resF s 2).k ≠ 4; rw [res_k]; decide)
 split
 ·dsimp only
  split
  ·exact Cm.of ⟨rfl, rfl, rfl, rfl, rfl⟩ zs_k
  ·refine Cm.of ⟨rfl, rfl, rfl, rfl, rfl⟩ ?_
   show (resF _ 3).k ≠ 4
   rw [res_k]; decide
 split
 ·dsimp only
  split
  ·exact Cm.of ⟨rfl, rfl, rfl, rfl, rfl⟩ zs_k
  ·exact Cm.of ⟨rfl, rfl, rfl, rfl, rfl⟩ zs_k
 split
 ·exact given_cm B s 40
 split
 ·exact given_cm B s 12
 ·exact stop_cm B s _
theorem dec_cm (B : Bt) (s : Ss) (r : Rp) : Cm s (decF B s r) := by
 unfold decF
 split
 ·exact comm_cm B s _ _
 split
 ·exact given_cm B s 12
 split
 ·exact given_cm B s _
 split
 ·exact Cm.of ⟨rfl, rfl, rfl, rfl, rfl⟩ zs_k
 ·split
  ·exact Cm.of ⟨rfl, rfl, rfl, rfl, rfl⟩ zs_k
  ·exact Cm.of ⟨rfl, rfl, rfl, rfl, rfl⟩ zs_k
theorem chore_st (s : Ss) (a : Ak) (r : Rp) : St s (choreF s a r) := by
 unfold choreF
 split
 ·exact ⟨rfl, rfl, rfl, rfl, rfl⟩
 split
 ·exact St.refl s
 split
 ·exact St.refl s
 ·exact ask_st s _
theorem hear_cm (B : Bt) (s : Ss) (l : Le) : Cm s (hearF B s l) := by
 have hN : Cm s (s, zS) := Cm.of (St.refl s) zs_k
 have hR : ∀ r, Cm (restF s l) r → Cm s r := fun r g => ⟨(max_l (s.np, s.nl) (l.r.np, l.r.nl)).trans g.1, g.2⟩
 unfold hearF
 split
 ·exact hN
 ·split
  ·exact hN
  ·dsimp only
   split
   ·exact hR _ (Cm.of (chore_st _ _ _) zs_k)
   split
   ·exact hR _ (push_cm B _ _ _)
   split
   ·split
    ·exact hR _ (stop_cm B _ _)
    ·exact hR _ (Cm.of (ask_st _ _) zs_k)
   split
   ·exact hR _ (ans_cm B _ _ _)
   ·exact hR _ (dec_cm B _ _)
theorem give_cm (B : Bt) (s : Ss) : Cm s (giveF B s) := by
 have hb : ∀ (s' : Ss) (k : Int) (h : k ≠ 4), (resF s' k).k ≠ 4 := fun s' k h => by rw [res_k]; exact h
 unfold giveF
 split
 ·exact Cm.of (St.refl s) (hb s 6 (by decide))
 split
 ·exact fail_cm s 42
 split
 ·exact given_cm B s 42
 ·exact Cm.of ⟨rfl, rfl, rfl, rfl, rfl⟩ (hb s 7 (by decide))
def Bt.Ticks (B : Bt) : Prop := ∀ p l f, (B.tick p l f).2.2 = 0 → ltT (p, l) ((B.tick p l f).1, (B.tick p l f).2.1)
theorem do_begin (B : Bt) (hB : B.Ticks) (s : Ss) (phys : Nat) (o : Op) (ho : o.k = 1) (hr : (doF B s phys o).2.k = 1) :
  ltT (nowF s) ((doF B s phys o).2.ap, (doF B s phys o).2.al) ∧ nowF (doF B s phys o).1 = ((doF B s phys o).2.ap, (doF B s phys o).2.al) ∧ startF (doF B s phys o).1 = ((doF B s phys o).2.ap, (doF B s phys o).2.al)
  ∧ (doF B s phys o).2.c = s.cl ∧ (doF B s phys o).2.n = s.n + 1 ∧ (doF B s phys o).2.sp = (doF B s phys o).2.ap ∧ (doF B s phys o).2.sl = (doF B s phys o).2.al ∧ (doF B s phys o).1.n = s.n + 1 ∧ (doF B s phys o).1.cl = s.cl ∧ (doF B s phys o).1.nsh = s.nsh := by
 have hbad : ∀ e, (badF s e).k ≠ 1 := fun e => by show (resF s 6).k ≠ 1; rw [res_k]; decide
 unfold doF at hr ⊢
 by_cases h1 : s.op.k ≠ 0
 ·rw [if_pos h1] at hr; exact absurd hr (hbad _)
 rw [if_neg h1, if_pos ho] at hr ⊢
 by_cases h2 : s.act = true
 ·rw [if_pos h2] at hr; exact absurd hr (hbad _)
 rw [if_neg h2] at hr ⊢
 by_cases h3 : (B.tick s.np s.nl phys).2.2 ≠ 0
 ·rw [if_pos h3] at hr; exact absurd hr (hbad _)
 rw [if_neg h3]
 have h4 := hB s.np s.nl phys (by omega)
 exact ⟨h4, rfl, rfl, rfl, rfl, rfl, rfl, rfl, rfl, rfl⟩
theorem do_cm (B : Bt) (s : Ss) (phys : Nat) (o : Op) (hs : leT (startF s) (nowF s)) (hr : ¬ (o.k = 1 ∧ (doF B s phys o).2.k = 1)) : Cm s (doF B s phys o) := by
 have hb : ∀ (k : Int) (h : k ≠ 4), (resF s k).k ≠ 4 := fun k h => by rw [res_k]; exact h
 have hbad : ∀ e, Cm s (s, badF s e) := fun e => Cm.of (St.refl s) (hb 6 (by decide))
 have hput : ∀ w, Cm s (putF B s w) := fun w => by
  unfold putF
  split
  ·exact hbad _
  split
  ·exact Cm.of ⟨rfl, rfl, rfl, rfl, rfl⟩ (hb 1 (by decide))
  split
  ·exact hbad _
  ·exact Cm.of ⟨rfl, rfl, rfl, rfl, rfl⟩ (hb 1 (by decide))
 unfold doF at hr ⊢
 by_cases h1 : s.op.k ≠ 0
 ·rw [if_pos h1]; exact hbad _
 rw [if_neg h1] at hr ⊢
 by_cases h2 : o.k = 1
 ·rw [if_pos h2] at hr ⊢
  by_cases h3 : s.act = true
  ·rw [if_pos h3]; exact hbad _
  rw [if_neg h3] at hr ⊢
  by_cases h4 : (B.tick s.np s.nl phys).2.2 ≠ 0
  ·rw [if_pos h4]; exact hbad _
  rw [if_neg h4] at hr
  exact absurd ⟨h2, rfl⟩ hr
 rw [if_neg h2]
 split
 ·exact hbad _
 split
 ·exact hput _
 split
 ·exact hput _
 split
 ·split
  ·exact hbad _
  split
  ·exact Cm.of (St.refl s) (hb 2 (by decide))
  ·exact Cm.of ⟨rfl, rfl, rfl, rfl, rfl⟩ zs_k
 split
 ·split
  ·exact hbad _
  ·exact Cm.of ((show St s _ from ⟨rfl, rfl, rfl, rfl, rfl⟩).trans (scan_st s o _ _ _)) zs_k
 split
 ·unfold commitF
  split
  ·exact ⟨leT.refl _, rfl, rfl, rfl, rfl, fun _ => hs⟩
  ·exact Cm.of ((show St s _ from ⟨rfl, rfl, rfl, rfl, rfl⟩).trans (lay_st _ _ _)) zs_k
 split
 ·exact Cm.of ⟨rfl, rfl, rfl, rfl, rfl⟩ (hb 1 (by decide))
 ·exact hbad _
def Sr (p l : Nat) : Prop := p ≤ 281474976710656 ∧ l ≤ 4095
theorem max_sr {p l p' l' : Nat} (h : Sr p l) (h' : Sr p' l') : Sr (maxT (p, l) (p', l')).1 (maxT (p, l) (p', l')).2 := by
 unfold maxT
 split
 ·exact h'
 ·exact h
structure Qg (B : Bt) (n sh : Nat) (q : Rq) : Prop where
 ok : OkQ q
 lt : sh < n
 home : q.k = 1 ∨ q.k = 4 ∨ q.k = 7 → B.home q.key n = some sh
 ws : ∀ w ∈ q.ws, B.home w.key n = some sh
structure Ag (B : Bt) (n : Nat) (a : Ak) : Prop where
 q : Qg B n a.sh a.q
 st : a.st ≠ 0 → Qg B n a.hm a.was ∧ a.was.k ≤ 3 ∧ Sr a.lk.sp a.lk.sl
 fi : a.ch = true → a.fi < n
 le : a.st ≤ 2
structure Lg (B : Bt) (c n : Nat) (l : Le) : Prop where
 an : l.an = false
 cl : l.cl = c
 r : l.r = zR
 q : Qg B n l.sh l.q
structure Bt.Good (B : Bt) : Prop where
 lt : ∀ {k n h}, B.home k n = some h → h < n
 plen : ∀ l n, (B.parts l n).length ≤ n
 pin : ∀ {l n i p}, (B.parts l n)[i]? = some p → p.length ≤ l.length ∧ ∀ w ∈ p, w ∈ l ∧ B.home w.key n = some i
 right : ∀ {w}, B.right w = true → w.key.length ≤ 32 ∧ w.val.length ≤ 256 ∧ ∀ n, 1 ≤ n → n ≤ 8 → (B.home w.key n).isSome = true
 key : ∀ {k}, B.key k = true → k.length ≤ 32 ∧ ∀ n, 1 ≤ n → n ≤ 8 → (B.home k n).isSome = true
 tick : ∀ p l f, (B.tick p l f).2.2 = 0 → Sr (B.tick p l f).1 (B.tick p l f).2.1
def Wants (a : Ak) : Prop := a.ch = false ∧ (a.q.k = 3 ∨ a.st ≠ 0 ∧ a.was.k = 3 ∨ a.st = 0 ∧ 3 < a.q.k)
structure Gs (B : Bt) (s : Ss) : Prop where
 n : 1 ≤ s.nsh ∧ s.nsh ≤ 8
 cl : s.cl < 4
 now : Sr s.np s.nl
 st : Sr s.sp s.sl
 c : Sr s.cp s.cll
 wl : s.ws.length ≤ 16
 ws : ∀ w ∈ s.ws, B.right w = true
 ak : ∀ a ∈ s.asks, Ag B s.nsh a
 no : s.op.k = 0 → ∀ a ∈ s.asks, a.ch = true
 wn : ∀ a ∈ s.asks, Wants a → s.ws ≠ []
 ou : ∀ l ∈ s.out, Lg B s.cl s.nsh l
theorem z_sr : Sr 0 0 := ⟨by decide, by decide⟩
theorem Gs.new (B : Bt) {c n : Nat} (hc : c < 4) (hn : 1 ≤ n ∧ n ≤ 8) : Gs B (Ss.new c n) :=
 ⟨hn, hc, z_sr, z_sr, z_sr, Nat.zero_le 16, fun _ h => (by cases h), fun _ h => (by cases h), fun _ _ h => (by cases h), fun _ h => (by cases h), fun _ h => (by cases h)⟩
theorem Gs.ask {B : Bt} {s : Ss} (h : Gs B s) (a : Ak) (ha : Ag B s.nsh a) (ho : s.op.k ≠ 0 ∨ a.ch = true) (hw : Wants a → s.ws ≠ []) : Gs B (askF s a) := by
 have hm : ∀ x ∈ (askF s a).asks, x ∈ s.asks ∨ x = { a with sq := s.sq + 1 } := fun x hx => by
  have hx' : x ∈ s.asks ++ [{ a with sq := s.sq + 1 }] := hx
  simpa [List.mem_append] using hx'
 refine ⟨h.n, h.cl, h.now, h.st, h.c, h.wl, h.ws, fun x hx => ?_, fun h0 x hx => ?_, fun x hx hq => ?_, fun l hl => ?_⟩
 ·rcases hm x hx with h1 | rfl
  ·exact h.ak x h1
  ·exact ⟨ha.q, ha.st, ha.fi, ha.le⟩
 ·rcases hm x hx with h1 | rfl
  ·exact h.no h0 x h1
  ·rcases ho with h1 | h1
   ·exact absurd h0 h1
   ·exact h1
 ·rcases hm x hx with h1 | rfl
  ·exact h.wn x h1 hq
  ·exact hw hq
 ·have hl' : l ∈ s.out ++ [letF s { a with sq := s.sq + 1 }] := hl
  rw [List.mem_append, List.mem_singleton] at hl'
  rcases hl' with h1 | rfl
  ·exact h.ou l h1
  ·exact ⟨rfl, rfl, rfl, ha.q⟩
theorem Gs.drop {B : Bt} {s : Ss} (h : Gs B s) : Gs B (dropF s) :=
 ⟨h.n, h.cl, h.now, h.st, h.c, h.wl, h.ws, fun x hx => h.ak x (List.mem_filter.1 hx).1, fun _ x hx => (List.mem_filter.1 hx).2, fun x hx hq => h.wn x (List.mem_filter.1 hx).1 hq, h.ou⟩
theorem okq_small {q : Rq} (kk ll : Int) (hkk : q.k = kk) (hk : 1 ≤ kk ∧ kk ≤ 9) (h1 : Sr q.sp q.sl) (h2 : Sr q.ap q.al) (h3 : q.key.length ≤ 32) (h4 : q.to.length ≤ 32) (hll : q.lim = ll) (h5 : 0 ≤ ll ∧ ll ≤ 32) (h6 : q.ws = []) (h7 : q.sk = []) : OkQ q :=
 ⟨fun x hx => (by rw [h6] at hx; cases hx), by rw [hkk]; exact hk, h1, h2, h3, h4, by rw [hll]; exact h5, by rw [h6]; exact Nat.zero_le _, by rw [h7]; exact Nat.zero_le _⟩
theorem nil_le : ([] : List UInt8).length ≤ 32 := Nat.zero_le _
theorem no_home {P : Prop} {k : Int} (kk : Int) (h : k = kk) (d : kk ≠ 1 ∧ kk ≠ 4 ∧ kk ≠ 7) : k = 1 ∨ k = 4 ∨ k = 7 → P := fun e => by
 subst h
 rcases e with e | e | e
 ·exact absurd e d.1
 ·exact absurd e d.2.1
 ·exact absurd e d.2.2
theorem qg_small {B : Bt} {n sh : Nat} {q : Rq} (ok : OkQ q) (h : sh < n) (hk : q.k = 1 ∨ q.k = 4 ∨ q.k = 7 → B.home q.key n = some sh) (hw : q.ws = []) : Qg B n sh q := ⟨ok, h, hk, fun w hx => by rw [hw] at hx; cases hx⟩
theorem ag_plain {B : Bt} {n sh : Nat} {q : Rq} (h : Qg B n sh q) : Ag B n (akF sh q) := ⟨h, fun h => absurd rfl h, fun h => (by cases h), Nat.zero_le _⟩
theorem Gs.scan {B : Bt} (s0 : Ss) (o : Op) (h0 : Sr s0.sp s0.sl) (hk : o.key.length ≤ 32) (ht : o.to.length ≤ 32) : ∀ m i s, i + m ≤ s.nsh → s.op.k ≠ 0 → Gs B s → Gs B (scanAsks s0 o m i s)
 | 0, _, s, _, _, h => h
 | m + 1, i, s, hi, ho, h => by
  refine Gs.scan s0 o h0 hk ht m (i + 1) _ (by show i + 1 + m ≤ s.nsh; omega) ho (h.ask _ (ag_plain (qg_small (okq_small 2 32 rfl (by decide) h0 z_sr hk ht rfl (by decide) rfl rfl) (by omega) (no_home 2 rfl (by decide)) rfl)) (.inl ho) fun hq => ?_)
  rcases hq.2 with h | h | h
  ·exact absurd h (by show ¬ (2 : Int) = 3; decide)
  ·exact absurd rfl h.1
  ·exact absurd h.2 (by show ¬ (3 : Int) < 2; decide)
theorem pri_mem {s : Ss} (h : s.ws ≠ []) : ∃ w ∈ s.ws, priF s = w.key := by
 unfold priF
 cases hw : s.ws with
 | nil => exact absurd hw h
 | cons w l => exact ⟨w, List.mem_cons_self, rfl⟩
theorem Gs.pri {B : Bt} (G : B.Good) {s : Ss} (h : Gs B s) (hw : s.ws ≠ []) : B.home (priF s) s.nsh = some (homeF B s (priF s)) ∧ (priF s).length ≤ 32 := by
 obtain ⟨w, hm, he⟩ := pri_mem hw
 obtain ⟨h1, h2, h3⟩ := G.right (h.ws w hm)
 have h4 := h3 s.nsh h.n.1 h.n.2
 rw [he]
 obtain ⟨v, hv⟩ := Option.isSome_iff_exists.1 h4
 exact ⟨by unfold homeF; rw [hv]; rfl, h1⟩
theorem Gs.pri_lt {B : Bt} (G : B.Good) {s : Ss} (h : Gs B s) : homeF B s (priF s) < s.nsh := by
 unfold homeF
 cases hv : B.home (priF s) s.nsh with
 | none => exact h.n.1
 | some v => exact G.lt hv
theorem Gs.decide {B : Bt} (G : B.Good) {s : Ss} (h : Gs B s) (ho : s.op.k ≠ 0) (hw : s.ws ≠ []) : Gs B (decideF B s) := by
 obtain ⟨h1, h2⟩ := h.pri G hw
 exact h.ask _ (ag_plain (qg_small (okq_small 4 0 rfl (by decide) h.st h.c h2 nil_le rfl (by decide) rfl rfl) (G.lt h1) (fun _ => h1) rfl)) (.inl ho) fun _ => hw
theorem Gs.undo {B : Bt} (G : B.Good) {s : Ss} (h : Gs B s) (ho : s.op.k ≠ 0) (hw : s.ws ≠ []) : Gs B (undoF B s) :=
 h.ask _ (ag_plain (qg_small (okq_small 6 0 rfl (by decide) h.st z_sr nil_le nil_le rfl (by decide) rfl rfl) (h.pri_lt G) (no_home 6 rfl (by decide)) rfl)) (.inl ho) fun _ => hw
variable {B : Bt} {s : Ss}
theorem drop_at {α : Type} {L l : List α} {p : α} {i : Nat} (h : L.drop i = p :: l) : L[i]? = some p ∧ L.drop (i + 1) = l := by
 refine ⟨?_, ?_⟩
 ·rw [← List.head?_drop, h]; rfl
 ·rw [← List.drop_drop, h]; rfl
theorem Gs.lay (G : B.Good) (W : List Wr) (n : Nat) (hW : ∀ w ∈ W, B.right w = true) (hl : W.length ≤ 16) : ∀ l i s, (B.parts W n).drop i = l → s.nsh = n → s.ws = W → W ≠ [] → s.op.k ≠ 0 → Gs B s → Gs B (layAsks l i s)
 | [], _, s, _, _, _, _, _, h => h
 | p :: l, i, s, hd, hn, hs, hne, ho, h => by
  obtain ⟨h1, h2⟩ := drop_at hd
  obtain ⟨h3, h4⟩ := G.pin h1
  have hi : i < n := Nat.lt_of_lt_of_le (List.getElem?_eq_some_iff.1 h1).1 (G.plen W n)
  unfold layAsks
  by_cases hp : p.isEmpty = true
  ·rw [if_pos hp]
   exact Gs.lay G W n hW hl l (i + 1) s h2 hn hs hne ho h
  ·rw [if_neg hp]
   have hk : (priF s).length ≤ 32 := (h.pri G (by rw [hs]; exact hne)).2
   have hA := h.ask (akF i { zQ with k := 3, c := s.cl, n := s.n, sp := s.sp, sl := s.sl, key := priF s, ws := p }) (ag_plain ⟨⟨fun x hx => ⟨(G.right (hW x (h4 x hx).1)).1, (G.right (hW x (h4 x hx).1)).2.1⟩, ⟨by show (1 : Int) ≤ 3; decide, by show (3 : Int) ≤ 9; decide⟩, h.st, z_sr, hk, nil_le, ⟨by show (0 : Int) ≤ 0; decide, by show (0 : Int) ≤ 32; decide⟩, Nat.le_trans h3 hl, Nat.zero_le _⟩, by rw [hn]; exact hi, no_home 3 rfl (by decide), fun w hw => by rw [hn]; exact (h4 w hw).2⟩) (.inl ho) (fun _ => by rw [hs]; exact hne)
   exact Gs.lay G W n hW hl l (i + 1) _ h2 hn hs hne ho ⟨hA.n, hA.cl, hA.now, hA.st, hA.c, hA.wl, hA.ws, hA.ak, hA.no, hA.wn, hA.ou⟩
theorem ag_chore {n sh fi c m : Nat} {q : Rq} (h : Qg B n sh q) (hf : fi < n) : Ag B n { akF sh q with ch := true, oc := c, on := m, fi := fi } := ⟨h, fun h => absurd rfl h, fun _ => hf, Nat.zero_le _⟩
theorem chore_wants {sh fi c m : Nat} {q : Rq} : ¬ Wants { akF sh q with ch := true, oc := c, on := m, fi := fi } := fun h => by cases h.1
theorem Gs.chores (G : B.Good) (W : List Wr) (n hm : Nat) (q : Rq) (but : Option Nat) (hq : OkQ q) (hqw : q.ws = []) (hk : ¬ (q.k = 1 ∨ q.k = 4 ∨ q.k = 7)) (hh : hm < n) : ∀ l i s, (B.parts W n).drop i = l → s.nsh = n → Gs B s → Gs B (choresF q but hm l i s).1
 | [], _, s, _, _, h => h
 | p :: l, i, s, hd, hn, h => by
  obtain ⟨h1, h2⟩ := drop_at hd
  have hi : i < n := Nat.lt_of_lt_of_le (List.getElem?_eq_some_iff.1 h1).1 (G.plen W n)
  unfold choresF
  split
  ·exact Gs.chores G W n hm q but hq hqw hk hh l (i + 1) _ h2 hn (h.ask _ (ag_chore (qg_small hq (by rw [hn]; exact hi) (fun e => absurd e hk) hqw) (by rw [hn]; exact hh)) (.inr rfl) (fun e => absurd e chore_wants))
  ·exact Gs.chores G W n hm q but hq hqw hk hh l (i + 1) s h2 hn h
theorem Gs.done (G : B.Good) (h : Gs B s) (c n hm : Nat) (hh : hm < s.nsh) : Gs B (doneF s c n hm) :=
 h.ask _ (ag_chore (fi := 0) (qg_small (okq_small 9 0 rfl (by decide) z_sr z_sr nil_le nil_le rfl (by decide) rfl rfl) hh (no_home 9 rfl (by decide)) rfl) h.n.1) (.inr rfl) (fun e => absurd e chore_wants)
theorem Gs.over (h : Gs B s) : Gs B { s with act := false } := ⟨h.n, h.cl, h.now, h.st, h.c, h.wl, h.ws, h.ak, h.no, h.wn, h.ou⟩
theorem Gs.fail (h : Gs B s) (e : Int) : Gs B (failF s e).1 := h.drop
theorem k_no {k kk : Int} (h : k = kk) (d : kk ≠ 1 ∧ kk ≠ 4 ∧ kk ≠ 7) : ¬ (k = 1 ∨ k = 4 ∨ k = 7) := fun e => no_home kk h d e
theorem Gs.given (G : B.Good) (h : Gs B s) (e : Int) : Gs B (givenF B s e).1 :=
 (Gs.chores G s.ws s.nsh (homeF B s (priF s)) { zQ with k := 6, c := s.cl, n := s.n, sp := s.sp, sl := s.sl } none (okq_small 6 0 rfl (by decide) h.st z_sr nil_le nil_le rfl (by decide) rfl rfl) rfl (k_no (kk := 6) rfl (by decide)) (h.pri_lt G) _ 0 (dropF s) List.drop_zero rfl h.drop).over
theorem Gs.stop (G : B.Good) (h : Gs B s) (e : Int) : Gs B (stopF B s e).1 := by
 unfold stopF
 split
 ·exact h.given G e
 ·exact h.fail e
theorem Gs.comm (G : B.Good) (h : Gs B s) (ap al : Nat) (ha : Sr ap al) : Gs B (commF B s ap al).1 := by
 have hd : Gs B { dropF s with np := (maxT (s.np, s.nl) (ap, al)).1, nl := (maxT (s.np, s.nl) (ap, al)).2 } := by
  have := h.drop
  exact ⟨this.n, this.cl, max_sr h.now ha, this.st, this.c, this.wl, this.ws, this.ak, this.no, this.wn, this.ou⟩
 have hc := Gs.chores G s.ws s.nsh (homeF B s (priF s)) { zQ with k := 5, c := s.cl, n := s.n, ap := ap, al := al } (some (homeF B s (priF s))) (okq_small 5 0 rfl (by decide) z_sr ha nil_le nil_le rfl (by decide) rfl rfl) rfl (k_no (kk := 5) rfl (by decide)) (h.pri_lt G) _ 0 { dropF s with np := (maxT (s.np, s.nl) (ap, al)).1, nl := (maxT (s.np, s.nl) (ap, al)).2 } List.drop_zero rfl hd
 have hst := (chores_st { zQ with k := 5, c := s.cl, n := s.n, ap := ap, al := al } (some (homeF B s (priF s))) (homeF B s (priF s)) (B.parts s.ws s.nsh) 0 { dropF s with np := (maxT (s.np, s.nl) (ap, al)).1, nl := (maxT (s.np, s.nl) (ap, al)).2 }).2.2.2.2
 have h2 : ∀ (r : Ss × Nat), Gs B r.1 → r.1.nsh = s.nsh → Gs B (if r.2 = 0 then doneF r.1 s.cl s.n (homeF B s (priF s)) else r.1) := fun r hr hn => by
  split
  ·exact hr.done G _ _ _ (by rw [hn]; exact h.pri_lt G)
  ·exact hr
 exact (h2 _ hc hst).over
theorem Gs.lock (G : B.Good) (h : Gs B s) (a : Ak) (r : Rp) (ha : Ag B s.nsh a) (hr : OkR r) (ho : s.op.k ≠ 0) (hk : a.q.k ≤ 3) (hw : a.q.k = 3 → s.ws ≠ []) : Gs B (lockF B s a r).1 := by
 unfold lockF
 split
 ·exact h.stop G 1
 ·rename_i hm he
  have hat : Sr (if a.q.k = 3 then 0 else s.sp) (if a.q.k = 3 then 0 else s.sl) := by
   split
   ·exact z_sr
   ·exact h.st
  refine h.ask _ ⟨qg_small (okq_small 7 0 rfl (by decide) hr.st hat hr.prim nil_le rfl (by decide) rfl rfl) (G.lt he) (fun _ => he) rfl, fun _ => ⟨ha.q, hk, hr.st⟩, fun e => (by cases e), (by show (1 : Nat) ≤ 2; decide)⟩ (.inl ho) fun e => hw ?_
  rcases e.2 with e | e | e
  ·exact absurd e (by show ¬ (7 : Int) = 3; decide)
  ·exact e.2
  ·exact absurd e.1 (by show ¬ (1 : Nat) = 0; decide)
theorem Gs.push (G : B.Good) (h : Gs B s) (a : Ak) (r : Rp) (ha : Ag B s.nsh a) (hs : a.st = 1) (hr : OkR r) (ho : s.op.k ≠ 0) (hw : a.was.k = 3 → s.ws ≠ []) : Gs B (pushF B s a r).1 := by
 obtain ⟨h1, h2, h3⟩ := ha.st (by rw [hs]; decide)
 have hwn : ∀ (q : Rq) (kk : Int), q.k = kk → kk ≠ 3 → Wants { akF a.hm q with st := 2, was := a.was, hm := a.hm } → s.ws ≠ [] := fun q kk hk hn e => by
  rcases e.2 with e | e | e
  ·have e' : q.k = 3 := e
   exact absurd (hk.symm.trans e') hn
  ·exact hw e.2
  ·exact absurd e.1 (by show ¬ (2 : Nat) = 0; decide)
 unfold pushF
 split
 ·exact h.ask _ ⟨qg_small (okq_small 5 0 rfl (by decide) z_sr hr.at_ nil_le nil_le rfl (by decide) rfl rfl) h1.lt (no_home 5 rfl (by decide)) rfl, fun _ => ⟨h1, h2, z_sr⟩, fun e => (by cases e), Nat.le_refl 2⟩ (.inl ho) (hwn _ 5 rfl (by decide))
 split
 ·exact h.ask _ ⟨qg_small (okq_small 6 0 rfl (by decide) h3 z_sr nil_le nil_le rfl (by decide) rfl rfl) h1.lt (no_home 6 rfl (by decide)) rfl, fun _ => ⟨h1, h2, z_sr⟩, fun e => (by cases e), Nat.le_refl 2⟩ (.inl ho) (hwn _ 6 rfl (by decide))
 split
 ·split
  ·exact h.given G 40
  split
  ·exact h.fail 3
  ·rename_i hn hk
   refine h.ask _ (ag_plain ⟨⟨h1.ok.ws, h1.ok.k, h1.ok.st, h1.ok.at_, h1.ok.key, h1.ok.to, h1.ok.lim, h1.ok.wl, ?_⟩, h1.lt, h1.home, h1.ws⟩) (.inl ho) fun e => ?_
   ·show (a.was.sk ++ [_]).length ≤ 16
    rw [List.length_append, List.length_singleton]
    omega
   ·rcases e.2 with e | e | e
    ·exact hw e
    ·exact absurd rfl e.1
    ·have e' : 3 < a.was.k := e.2
     omega
 ·exact h.stop G _
theorem Gs.ans (G : B.Good) (h : Gs B s) (a : Ak) (r : Rp) (ha : Ag B s.nsh a) (hr : OkR r) (ho : s.op.k ≠ 0) (hk : a.q.k ≤ 3) (hw : a.q.k = 3 → s.ws ≠ []) : Gs B (ansF B s a r).1 := by
 unfold ansF
 split
 ·exact h.lock G a r ha hr ho hk hw
 split
 ·exact h.drop
 split
 ·dsimp only
  split
  ·exact ⟨h.n, h.cl, h.now, h.st, h.c, h.wl, h.ws, h.ak, h.no, h.wn, h.ou⟩
  ·have : Gs B { s with ps := s.ps ++ r.ps, left := s.left - 1 } := ⟨h.n, h.cl, h.now, h.st, h.c, h.wl, h.ws, h.ak, h.no, h.wn, h.ou⟩
   exact this.drop
 split
 ·rename_i hq
  dsimp only
  split
  ·have : Gs B { s with cp := (maxT (s.cp, s.cll) (r.ap, r.al)).1, cll := (maxT (s.cp, s.cll) (r.ap, r.al)).2, left := s.left - 1, stg := 2 } := ⟨h.n, h.cl, h.now, h.st, max_sr h.c hr.at_, h.wl, h.ws, h.ak, h.no, h.wn, h.ou⟩
   exact this.decide G ho (hw hq.1)
  ·exact ⟨h.n, h.cl, h.now, h.st, max_sr h.c hr.at_, h.wl, h.ws, h.ak, h.no, h.wn, h.ou⟩
 split
 ·exact h.given G 40
 split
 ·exact h.given G 12
 ·exact h.stop G _
theorem Gs.dec (G : B.Good) (h : Gs B s) (r : Rp) (hr : OkR r) (ho : s.op.k ≠ 0) (hw : s.ws ≠ []) : Gs B (decF B s r).1 := by
 unfold decF
 split
 ·exact h.comm G _ _ hr.at_
 split
 ·exact h.given G 12
 split
 ·exact h.given G _
 split
 ·have : Gs B { s with cp := (maxT (s.cp, s.cll) (r.ap, r.al)).1, cll := (maxT (s.cp, s.cll) (r.ap, r.al)).2 } := ⟨h.n, h.cl, h.now, h.st, max_sr h.c hr.at_, h.wl, h.ws, h.ak, h.no, h.wn, h.ou⟩
  exact this.decide G ho hw
 ·split
  ·have : Gs B { s with stg := 3, why := wrongF r } := ⟨h.n, h.cl, h.now, h.st, h.c, h.wl, h.ws, h.ak, h.no, h.wn, h.ou⟩
   exact this.undo G ho hw
  ·exact h.undo G ho hw
theorem Gs.chore (G : B.Good) (h : Gs B s) (a : Ak) (r : Rp) (ha : Ag B s.nsh a) (hc : a.ch = true) : Gs B (choreF s a r) := by
 unfold choreF
 split
 ·have hm : ∀ x ∈ insA { a with rs := true } s.asks, x = { a with rs := true } ∨ x ∈ s.asks := fun x hx => (insA_mem _ _ _).1 hx
  refine ⟨h.n, h.cl, h.now, h.st, h.c, h.wl, h.ws, fun x hx => ?_, fun h0 x hx => ?_, fun x hx hq => ?_, h.ou⟩
  ·rcases hm x hx with rfl | h1
   ·exact ⟨ha.q, ha.st, ha.fi, ha.le⟩
   ·exact h.ak x h1
  ·rcases hm x hx with rfl | h1
   ·exact hc
   ·exact h.no h0 x h1
  ·rcases hm x hx with rfl | h1
   ·have e : a.ch = false := hq.1
    rw [hc] at e; cases e
   ·exact h.wn x h1 hq
 split
 ·exact h
 split
 ·exact h
 ·exact h.done G _ _ _ (ha.fi hc)
theorem Gs.hear (G : B.Good) (h : Gs B s) (l : Le) (hr : OkR l.r) : Gs B (hearF B s l).1 := by
 unfold hearF
 split
 ·exact h
 split
 ·exact h
 ·rename_i a ha
  have hm : a ∈ s.asks := List.mem_of_find?_eq_some ha
  have hg := h.ak a hm
  have hR : Gs B { s with asks := s.asks.filter (fun x => !isA l x), np := (maxT (s.np, s.nl) (l.r.np, l.r.nl)).1, nl := (maxT (s.np, s.nl) (l.r.np, l.r.nl)).2 } :=
   ⟨h.n, h.cl, max_sr h.now hr.nw, h.st, h.c, h.wl, h.ws, fun x hx => h.ak x (List.mem_filter.1 hx).1, fun h0 x hx => h.no h0 x (List.mem_filter.1 hx).1, fun x hx hq => h.wn x (List.mem_filter.1 hx).1 hq, h.ou⟩
  have ho : a.ch = false → s.op.k ≠ 0 := fun hc e => by have := h.no e a hm; rw [hc] at this; cases this
  dsimp only
  by_cases hc : a.ch = true
  ·rw [if_pos hc]
   exact hR.chore G a l.r hg hc
  rw [if_neg hc]
  have hc' : a.ch = false := by simpa using hc
  by_cases h1 : a.st = 1
  ·rw [if_pos h1]
   exact hR.push G a l.r hg h1 hr (ho hc') fun e => h.wn a hm ⟨hc', .inr (.inl ⟨by rw [h1]; decide, e⟩)⟩
  rw [if_neg h1]
  by_cases h2 : a.st = 2
  ·rw [if_pos h2]
   split
   ·exact hR.stop G _
   ·obtain ⟨g1, g2, -⟩ := hg.st (by rw [h2]; decide)
    refine hR.ask _ (ag_plain g1) (.inl (ho hc')) fun e => ?_
    rcases e.2 with e | e | e
    ·exact h.wn a hm ⟨hc', .inr (.inl ⟨by rw [h2]; decide, e⟩)⟩
    ·exact absurd rfl e.1
    ·have e' : 3 < a.was.k := e.2
     omega
  rw [if_neg h2]
  by_cases h3 : a.q.k ≤ 3
  ·rw [if_pos h3]
   exact hR.ans G a l.r hg hr (ho hc') h3 fun e => h.wn a hm ⟨hc', .inl e⟩
  ·rw [if_neg h3]
   have h0 : a.st = 0 := by have := hg.le; omega
   exact hR.dec G l.r hr (ho hc') (h.wn a hm ⟨hc', .inr (.inr ⟨h0, by omega⟩)⟩)
end Go.Proofs.YtkdkgdollmmcnaaGreat
