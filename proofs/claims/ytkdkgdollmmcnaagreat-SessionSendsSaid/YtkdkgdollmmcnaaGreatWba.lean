import Derived.Test.YtkdkgdollmmcnaaGreatWaz
set_option maxHeartbeats 4000000
set_option maxRecDepth 100000
set_option linter.unusedVariables false
set_option linter.unusedSimpArgs false
namespace Go.Proofs.YtkdkgdollmmcnaaGreat
def Ol (s S : Ss) : Prop := s.sq ≤ S.sq ∧ ∃ L : List Le, S.out = s.out ++ L ∧ (L.Pairwise fun a b => a.sq < b.sq) ∧ ∀ l ∈ L, s.sq < l.sq ∧ l.sq ≤ S.sq
theorem Ol.refl (s : Ss) : Ol s s := ⟨Nat.le_refl _, [], (List.append_nil _).symm, .nil, fun _ h => by cases h⟩
theorem Ol.same {s S : Ss} (h1 : S.out = s.out) (h2 : S.sq = s.sq) : Ol s S := ⟨by rw [h2]; exact Nat.le_refl _, [], by rw [h1, List.append_nil], .nil, fun _ h => by cases h⟩
theorem Ol.trans {a b c : Ss} (h : Ol a b) (g : Ol b c) : Ol a c := by
 obtain ⟨h0, L, h1, h2, h3⟩ := h
 obtain ⟨g0, K, g1, g2, g3⟩ := g
 refine ⟨Nat.le_trans h0 g0, L ++ K, by rw [g1, h1, List.append_assoc], ?_, fun l hl => ?_⟩
 ·rw [List.pairwise_append]
  refine ⟨h2, g2, fun x hx y hy => ?_⟩
  have := (h3 x hx).2
  have := (g3 y hy).1
  omega
 ·rw [List.mem_append] at hl
  rcases hl with hl | hl
  ·have := h3 l hl; omega
  ·have := g3 l hl; omega
theorem Ol.to {s S T : Ss} (h : Ol s S) (h1 : T.out = S.out) (h2 : T.sq = S.sq) : Ol s T := h.trans (Ol.same h1 h2)
theorem Ol.from {s S T : Ss} (h : Ol s S) (h1 : s.out = T.out) (h2 : s.sq = T.sq) : Ol T S := (Ol.same h1 h2).trans h
theorem ask_ol (s : Ss) (a : Ak) : Ol s (askF s a) :=
 ⟨Nat.le_succ _, [letF s { a with sq := s.sq + 1 }], rfl, List.pairwise_singleton _ _, fun l hl => by
  rw [List.mem_singleton] at hl
  subst hl
  exact ⟨Nat.lt_succ_self _, Nat.le_refl _⟩⟩
theorem drop_ol (s : Ss) : Ol s (dropF s) := Ol.same rfl rfl
theorem scan_ol (s0 : Ss) (o : Op) : ∀ m i s, Ol s (scanAsks s0 o m i s)
 | 0, _, s => Ol.refl s
 | m + 1, i, s => (ask_ol s _).trans (scan_ol s0 o m (i + 1) _)
theorem lay_ol : ∀ l i s, Ol s (layAsks l i s)
 | [], _, s => Ol.refl s
 | p :: l, i, s => by
  unfold layAsks
  refine Ol.trans ?_ (lay_ol l (i + 1) _)
  split
  ·exact Ol.refl s
  ·exact (ask_ol s _).to rfl rfl
theorem chores_ol (q : Rq) (but : Option Nat) (h : Nat) : ∀ l i s, Ol s (choresF q but h l i s).1
 | [], _, s => Ol.refl s
 | p :: l, i, s => by
  unfold choresF
  split
  ·exact (ask_ol s _).trans (chores_ol q but h l (i + 1) _)
  ·exact chores_ol q but h l (i + 1) s
theorem fail_ol (s : Ss) (e : Int) : Ol s (failF s e).1 := drop_ol s
theorem given_ol (B : Bt) (s : Ss) (e : Int) : Ol s (givenF B s e).1 := ((drop_ol s).trans (chores_ol _ _ _ _ _ _)).to rfl rfl
theorem done_ol (s : Ss) (c n h : Nat) : Ol s (doneF s c n h) := ask_ol s _
theorem comm_auxo (s : Ss) (c n h : Nat) (r : Ss × Nat) (hr : Ol s r.1) : Ol s (if r.2 = 0 then doneF r.1 c n h else r.1) := by
 split
 ·exact hr.trans (done_ol _ _ _ _)
 ·exact hr
theorem comm_ol (B : Bt) (s : Ss) (ap al : Nat) : Ol s (commF B s ap al).1 :=
 (comm_auxo s s.cl s.n (homeF B s (priF s)) _ (((drop_ol s).to (T := { dropF s with np := (maxT (s.np, s.nl) (ap, al)).1, nl := (maxT (s.np, s.nl) (ap, al)).2 }) rfl rfl).trans (chores_ol { zQ with k := 5, c := s.cl, n := s.n, ap := ap, al := al } (some (homeF B s (priF s))) (homeF B s (priF s)) (B.parts s.ws s.nsh) 0 _))).to rfl rfl
theorem stop_ol (B : Bt) (s : Ss) (e : Int) : Ol s (stopF B s e).1 := by
 unfold stopF
 split
 ·exact given_ol B s e
 ·exact fail_ol s e
theorem lock_ol (B : Bt) (s : Ss) (a : Ak) (r : Rp) : Ol s (lockF B s a r).1 := by
 unfold lockF
 split
 ·exact stop_ol B s 1
 ·exact ask_ol s _
theorem push_ol (B : Bt) (s : Ss) (a : Ak) (r : Rp) : Ol s (pushF B s a r).1 := by
 unfold pushF
 split
 ·exact ask_ol s _
 split
 ·exact ask_ol s _
 split
 ·split
  ·exact given_ol B s 40
  split
  ·exact fail_ol s 3
  ·exact ask_ol s _
 ·exact stop_ol B s _
theorem ans_ol (B : Bt) (s : Ss) (a : Ak) (r : Rp) : Ol s (ansF B s a r).1 := by
 unfold ansF
 split
 ·exact lock_ol B s a r
 split
 ·exact drop_ol s
 split
 ·dsimp only
  split
  ·exact Ol.same rfl rfl
  ·exact (Ol.same (S := { s with ps := s.ps ++ r.ps, left := s.left - 1 }) rfl rfl).trans (drop_ol _)
 split
 ·dsimp only
  split
  ·exact (ask_ol _ _).from rfl rfl
  ·exact Ol.same rfl rfl
 split
 ·exact given_ol B s 40
 split
 ·exact given_ol B s 12
 ·exact stop_ol B s _
theorem dec_ol (B : Bt) (s : Ss) (r : Rp) : Ol s (decF B s r).1 := by
 unfold decF
 split
 ·exact comm_ol B s _ _
 split
 ·exact given_ol B s 12
 split
 ·exact given_ol B s _
 split
 ·exact (ask_ol _ _).from rfl rfl
 ·split
  ·exact (ask_ol _ _).from rfl rfl
  ·exact ask_ol _ _
theorem do_ol (B : Bt) (s : Ss) (phys : Nat) (o : Op) : Ol s (doF B s phys o).1 := by
 have hput : ∀ w, Ol s (putF B s w).1 := fun w => by
  unfold putF
  split
  ·exact Ol.refl s
  split
  ·exact Ol.same rfl rfl
  split
  ·exact Ol.refl s
  ·exact Ol.same rfl rfl
 unfold doF
 split
 ·exact Ol.refl s
 split
 ·split
  ·exact Ol.refl s
  split
  ·exact Ol.refl s
  ·exact Ol.same rfl rfl
 split
 ·exact Ol.refl s
 split
 ·exact hput _
 split
 ·exact hput _
 split
 ·split
  ·exact Ol.refl s
  split
  ·exact Ol.refl s
  ·exact (ask_ol _ _).from rfl rfl
 split
 ·split
  ·exact Ol.refl s
  ·exact (scan_ol s o _ _ _).from rfl rfl
 split
 ·unfold commitF
  split
  ·exact Ol.same rfl rfl
  ·exact (lay_ol _ _ _).from rfl rfl
 split
 ·exact Ol.same rfl rfl
 ·exact Ol.refl s
theorem give_ol (B : Bt) (s : Ss) : Ol s (giveF B s).1 := by
 unfold giveF
 split
 ·exact Ol.refl s
 split
 ·exact fail_ol s 42
 split
 ·exact given_ol B s 42
 ·exact (drop_ol s).to rfl rfl
theorem chore_ol (s : Ss) (a : Ak) (r : Rp) : Ol s (choreF s a r) := by
 unfold choreF
 split
 ·exact Ol.same rfl rfl
 split
 ·exact Ol.refl s
 split
 ·exact Ol.refl s
 ·exact done_ol s _ _ _
theorem hear_ol (B : Bt) (s : Ss) (l : Le) : Ol s (hearF B s l).1 := by
 unfold hearF
 split
 ·exact Ol.refl s
 split
 ·exact Ol.refl s
 ·dsimp only
  split
  ·exact (chore_ol _ _ _).from rfl rfl
  split
  ·exact (push_ol B _ _ _).from rfl rfl
  split
  ·split
   ·exact (stop_ol B _ _).from rfl rfl
   ·exact (ask_ol _ _).from rfl rfl
  split
  ·exact (ans_ol B _ _ _).from rfl rfl
  ·exact (dec_ol B _ _).from rfl rfl
theorem map_mem {B : Bt} {s : Ss} (h : Gs B s) : ∀ l ∈ s.asks.map (letF s), Lg B s.cl s.nsh l := fun l hl => by
 obtain ⟨a, ha, rfl⟩ := List.mem_map.1 hl
 exact ⟨rfl, rfl, rfl, (h.ak a ha).q⟩
theorem Gs.again {B : Bt} {s : Ss} (h : Gs B s) : Gs B (againF s) :=
 ⟨h.n, h.cl, h.now, h.st, h.c, h.wl, h.ws, h.ak, h.no, h.wn, fun l hl => by
  have hl' : l ∈ s.out ++ s.asks.map (letF s) := hl
  rw [List.mem_append] at hl'
  rcases hl' with h1 | h1
  ·exact h.ou l h1
  ·exact map_mem h l h1⟩
theorem Gs.give {B : Bt} (G : B.Good) {s : Ss} (h : Gs B s) : Gs B (giveF B s).1 := by
 unfold giveF
 split
 ·exact h
 split
 ·exact h.fail 42
 split
 ·exact h.given G 42
 ·exact h.drop.over
theorem insW_mem (w : Wr) : ∀ (l : List Wr) (x : Wr), x ∈ insW w l → x = w ∨ x ∈ l
 | [], x, h => by simpa [insW] using h
 | y :: l, x, h => by
  unfold insW at h
  split at h
  ·rw [List.mem_cons] at h
   rcases h with h | h
   ·exact .inr (by rw [h]; exact List.mem_cons_self)
   ·rcases insW_mem w l x h with h | h
    ·exact .inl h
    ·exact .inr (List.mem_cons_of_mem _ h)
  ·rw [List.mem_cons] at h
   exact h
theorem insW_len (w : Wr) : ∀ (l : List Wr), (insW w l).length = l.length + 1
 | [] => rfl
 | y :: l => by
  unfold insW
  split
  ·rw [List.length_cons, insW_len w l, List.length_cons]
  ·rfl
theorem Gs.put {B : Bt} {s : Ss} (h : Gs B s) (h0 : s.op.k = 0) (w : Wr) : Gs B (putF B s w).1 := by
 have hno : ∀ a ∈ s.asks, ¬ Wants a := fun a ha hq => by
  have := h.no h0 a ha
  rw [hq.1] at this; cases this
 unfold putF
 split
 ·exact h
 rename_i hr
 have hr' : B.right w = true := by simpa using hr
 split
 ·refine ⟨h.n, h.cl, h.now, h.st, h.c, ?_, fun x hx => ?_, h.ak, h.no, fun a ha hq => absurd hq (hno a ha), h.ou⟩
  ·show (s.ws.map _).length ≤ 16
   rw [List.length_map]; exact h.wl
  ·obtain ⟨y, hy, rfl⟩ := List.mem_map.1 hx
   split
   ·exact hr'
   ·exact h.ws y hy
 split
 ·exact h
 ·rename_i hl
  refine ⟨h.n, h.cl, h.now, h.st, h.c, ?_, fun x hx => ?_, h.ak, h.no, fun a ha hq => absurd hq (hno a ha), h.ou⟩
  ·show (insW w s.ws).length ≤ 16
   rw [insW_len]; omega
  ·rcases insW_mem w s.ws x hx with rfl | h1
   ·exact hr'
   ·exact h.ws x h1
theorem Gs.do {B : Bt} (G : B.Good) {s : Ss} (h : Gs B s) (phys : Nat) (o : Op) : Gs B (doF B s phys o).1 := by
 unfold doF
 by_cases h0 : s.op.k ≠ 0
 ·rw [if_pos h0]; exact h
 rw [if_neg h0]
 have h0' : s.op.k = 0 := by omega
 have hno : ∀ a ∈ s.asks, ¬ Wants a := fun a ha hq => by
  have := h.no h0' a ha
  rw [hq.1] at this; cases this
 split
 ·split
  ·exact h
  split
  ·exact h
  ·rename_i ht
   have hs := G.tick s.np s.nl phys (by omega)
   exact ⟨h.n, h.cl, hs, hs, h.c, Nat.zero_le _, fun _ hx => (by cases hx), h.ak, h.no, fun a ha hq => absurd hq (hno a ha), h.ou⟩
 split
 ·exact h
 split
 ·exact h.put h0' _
 split
 ·exact h.put h0' _
 split
 ·rename_i ho
  split
  ·exact h
  rename_i hk
  have hk' : B.key o.key = true := by simpa using hk
  split
  ·exact h
  ·obtain ⟨g1, g2⟩ := G.key hk'
   obtain ⟨v, hv⟩ := Option.isSome_iff_exists.1 (g2 s.nsh h.n.1 h.n.2)
   have hh : homeF B s o.key = v := by unfold homeF; rw [hv]; rfl
   have hS : Gs B { s with op := o } := ⟨h.n, h.cl, h.now, h.st, h.c, h.wl, h.ws, h.ak, fun e => absurd (ho.symm.trans e) (by decide), h.wn, h.ou⟩
   refine hS.ask _ (ag_plain (qg_small (okq_small 1 0 rfl (by decide) h.st z_sr g1 nil_le rfl (by decide) rfl rfl) (by rw [hh]; exact G.lt hv) (fun _ => by rw [hh]; exact hv) rfl)) (.inl (by show o.k ≠ 0; rw [ho]; decide)) fun e => ?_
   rcases e.2 with e | e | e
   ·exact absurd e (by show ¬ (1 : Int) = 3; decide)
   ·exact absurd rfl e.1
   ·exact absurd e.2 (by show ¬ (3 : Int) < 1; decide)
 split
 ·rename_i ho
  split
  ·exact h
  ·rename_i hl
   refine Gs.scan s o h.st (by omega) (by omega) s.nsh 0 _ (by show 0 + s.nsh ≤ s.nsh; omega) (by show o.k ≠ 0; rw [ho]; decide) ?_
   exact ⟨h.n, h.cl, h.now, h.st, h.c, h.wl, h.ws, h.ak, fun e => absurd (ho.symm.trans e) (by decide), h.wn, h.ou⟩
 split
 ·rename_i ho
  unfold commitF
  split
  ·exact h.over
  ·rename_i hw
   have hne : s.ws ≠ [] := by intro e; rw [e] at hw; exact hw rfl
   refine Gs.lay G s.ws s.nsh h.ws h.wl _ 0 _ List.drop_zero rfl rfl hne (by show o.k ≠ 0; rw [ho]; decide) ?_
   exact ⟨h.n, h.cl, h.now, h.st, z_sr, h.wl, h.ws, h.ak, fun e => absurd (ho.symm.trans e) (by decide), h.wn, h.ou⟩
 split
 ·exact h.over
 ·exact h
theorem Lg.right {B : Bt} {c n : Nat} {l : Le} (h : Lg B c n l) (hc : c < 4) (hn : n ≤ 8) : rightL l = true := by
 rw [rightL_iff]
 exact ⟨by rw [h.cl]; exact hc, by have := h.q.lt; omega, .inr ⟨h.an, h.r, h.q.ok⟩⟩
def cntN (L : List Ak) : Nat := (L.filter fun a => !a.ch).length
def bsQ (a : Ak) : Rq := if a.st = 0 then a.q else a.was
def knd (s : Ss) : Int := if s.op.k = 2 then 1 else if s.op.k = 3 then 2 else if s.stg = 1 then 3 else if s.stg = 2 then 4 else 6
structure Awt (s : Ss) (a : Ak) : Prop where
 k : (bsQ a).k = knd s
 pl : 3 < knd s → a.st = 0
 sp : (bsQ a).k ≤ 3 → (bsQ a).sp = s.sp ∧ (bsQ a).sl = s.sl
 ap : (bsQ a).k = 4 → a.q.ap = s.cp ∧ a.q.al = s.cll
structure Cho (s : Ss) (a : Ak) : Prop where
 oc : a.oc = s.cl
 on : a.q.k = 5 → a.on ≤ s.n ∧ (s.act = true → a.on ≠ s.n)
structure Cns (d : Nat) (s : Ss) : Prop where
 op : s.op.k = 0 ∨ s.op.k = 2 ∨ s.op.k = 3 ∨ s.op.k = 6
 act : s.op.k ≠ 0 → s.act = true
 stg : s.op.k = 6 → s.stg = 1 ∨ s.stg = 2 ∨ s.stg = 3
 aw : ∀ a ∈ s.asks, a.ch = false → Awt s a
 left : s.op.k = 3 ∨ s.op.k = 6 ∧ s.stg = 1 → ((cntN s.asks + d : Nat) : Int) = s.left ∧ s.left ≤ 8
 one : s.op.k = 6 → s.stg ≠ 1 → cntN s.asks + d ≤ 1
 ch : ∀ a ∈ s.asks, a.ch = true → Cho s a
 so : s.ws.Pairwise fun x y => x.key < y.key
 ps : s.op.k = 3 → (s.ps.length : Int) + 32 * s.left ≤ 256 ∧ ∀ p ∈ s.ps, p.val.length ≤ 256
theorem Cns.idle {d : Nat} {s : Ss} (h0 : s.op.k = 0) (hc : ∀ a ∈ s.asks, a.ch = true ∧ Cho s a) (so : s.ws.Pairwise fun x y => x.key < y.key) : Cns d s :=
 ⟨.inl h0, fun e => absurd h0 e, fun e => absurd (h0.symm.trans e) (by decide), fun a ha e => (by rw [(hc a ha).1] at e; cases e), fun e => (by omega), fun e => absurd (h0.symm.trans e) (by decide), fun a ha _ => (hc a ha).2, so, fun e => absurd (h0.symm.trans e) (by decide)⟩
theorem cnt_snoc (L : List Ak) (a : Ak) : cntN (L ++ [a]) = cntN L + if a.ch then 0 else 1 := by
 unfold cntN
 rw [List.filter_append, List.length_append]
 cases h : a.ch <;> simp [h]
theorem cnt_none {L : List Ak} (h : cntN L = 0) : ∀ a ∈ L, a.ch = true := fun a ha => by
 unfold cntN at h
 cases hc : a.ch
 ·have : a ∈ L.filter fun a => !a.ch := List.mem_filter.2 ⟨ha, by simp [hc]⟩
  rw [List.length_eq_zero_iff] at h
  rw [h] at this
  cases this
 ·rfl
theorem cnt_all {L : List Ak} (h : ∀ a ∈ L, a.ch = true) : cntN L = 0 := by
 unfold cntN
 rw [List.length_eq_zero_iff, List.filter_eq_nil_iff]
 intro a ha
 simp [h a ha]
theorem Cns.ask {d : Nat} {s : Ss} (h : Cns (d + 1) s) (ho : s.op.k ≠ 0) (a : Ak) (hc : a.ch = false) (ha : Awt s a) : Cns d (askF s a) := by
 have e : cntN (askF s a).asks = cntN s.asks + 1 := by
  show cntN (s.asks ++ [{ a with sq := s.sq + 1 }]) = _
  rw [cnt_snoc]
  simp [hc]
 refine ⟨h.op, h.act, h.stg, fun x hx hq => ?_, fun k => ?_, fun k1 k2 => ?_, fun x hx hq => ?_, h.so, h.ps⟩
 ·have hx' : x ∈ s.asks ++ [{ a with sq := s.sq + 1 }] := hx
  rw [List.mem_append, List.mem_singleton] at hx'
  rcases hx' with h1 | rfl
  ·exact ⟨(h.aw x h1 hq).k, (h.aw x h1 hq).pl, (h.aw x h1 hq).sp, (h.aw x h1 hq).ap⟩
  ·exact ⟨ha.k, ha.pl, ha.sp, ha.ap⟩
 ·rw [e]
  have := h.left k
  have h2 : ((cntN s.asks + (d + 1) : Nat) : Int) = (askF s a).left := this.1
  exact ⟨by rw [← h2]; congr 1; omega, this.2⟩
 ·rw [e]
  have := h.one k1 k2
  omega
 ·have hx' : x ∈ s.asks ++ [{ a with sq := s.sq + 1 }] := hx
  rw [List.mem_append, List.mem_singleton] at hx'
  rcases hx' with h1 | rfl
  ·exact ⟨(h.ch x h1 hq).oc, (h.ch x h1 hq).on⟩
  ·rw [hc] at hq
   cases hq
theorem Cns.cho {d : Nat} {s : Ss} (h : Cns d s) (a : Ak) (hc : a.ch = true) (ha : Cho s a) : Cns d (askF s a) := by
 have e : cntN (askF s a).asks = cntN s.asks := by
  show cntN (s.asks ++ [{ a with sq := s.sq + 1 }]) = _
  rw [cnt_snoc]
  simp [hc]
 refine ⟨h.op, h.act, h.stg, fun x hx hq => ?_, fun k => ?_, fun k1 k2 => ?_, fun x hx hq => ?_, h.so, h.ps⟩
 ·have hx' : x ∈ s.asks ++ [{ a with sq := s.sq + 1 }] := hx
  rw [List.mem_append, List.mem_singleton] at hx'
  rcases hx' with h1 | rfl
  ·exact ⟨(h.aw x h1 hq).k, (h.aw x h1 hq).pl, (h.aw x h1 hq).sp, (h.aw x h1 hq).ap⟩
  ·rw [hc] at hq
   cases hq
 ·rw [e]
  exact h.left k
 ·rw [e]
  exact h.one k1 k2
 ·have hx' : x ∈ s.asks ++ [{ a with sq := s.sq + 1 }] := hx
  rw [List.mem_append, List.mem_singleton] at hx'
  rcases hx' with h1 | rfl
  ·exact ⟨(h.ch x h1 hq).oc, (h.ch x h1 hq).on⟩
  ·exact ⟨ha.oc, ha.on⟩
theorem Cns.drop {d e : Nat} {s : Ss} (h : Cns d s) : Cns e (dropF s) := Cns.idle rfl (fun a ha => by
 obtain ⟨h1, h2⟩ := List.mem_filter.1 ha
 exact ⟨h2, (h.ch a h1 h2).oc, (h.ch a h1 h2).on⟩) h.so
theorem chores_mem (q : Rq) (but : Option Nat) (h : Nat) : ∀ l i s a, a ∈ (choresF q but h l i s).1.asks → a ∈ s.asks ∨ (a.ch = true ∧ a.oc = s.cl ∧ a.on = s.n ∧ a.q = q)
 | [], _, s, a, ha => .inl ha
 | p :: l, i, s, a, ha => by
  unfold choresF at ha
  split at ha
  ·rcases chores_mem q but h l (i + 1) _ a ha with h1 | h1
   ·have h1' : a ∈ s.asks ++ [_] := h1
    rw [List.mem_append, List.mem_singleton] at h1'
    rcases h1' with h2 | rfl
    ·exact .inl h2
    ·exact .inr ⟨rfl, rfl, rfl, rfl⟩
   ·exact .inr h1
  ·exact chores_mem q but h l (i + 1) s a ha
theorem chores_keep (q : Rq) (but : Option Nat) (h : Nat) : ∀ l i s, (choresF q but h l i s).1.ws = s.ws ∧ (choresF q but h l i s).1.op = s.op ∧ (choresF q but h l i s).1.cl = s.cl ∧ (choresF q but h l i s).1.n = s.n
 | [], _, s => ⟨rfl, rfl, rfl, rfl⟩
 | p :: l, i, s => by
  unfold choresF
  split
  ·exact chores_keep q but h l (i + 1) _
  ·exact chores_keep q but h l (i + 1) s
theorem Cns.fail {d e : Nat} {s : Ss} (h : Cns d s) (er : Int) : Cns e (failF s er).1 := h.drop
theorem Cns.over {d e : Nat} {s : Ss} (h : Cns d s) : Cns e { dropF s with act := false } := Cns.idle rfl (fun a ha => by
 obtain ⟨h1, h2⟩ := List.mem_filter.1 ha
 exact ⟨h2, (h.ch a h1 h2).oc, fun k => ⟨((h.ch a h1 h2).on k).1, fun e => by cases e⟩⟩) h.so
theorem Cns.given {B : Bt} {d e : Nat} {s : Ss} (h : Cns d s) (er : Int) : Cns e (givenF B s er).1 := by
 obtain ⟨k1, k2, k3, k4⟩ := chores_keep { zQ with k := 6, c := s.cl, n := s.n, sp := s.sp, sl := s.sl } none (homeF B s (priF s)) (B.parts s.ws s.nsh) 0 (dropF s)
 refine Cns.idle (by show (choresF _ _ _ _ _ _).1.op.k = 0; rw [k2]; rfl) (fun a ha => ?_) (by show (choresF _ _ _ _ _ _).1.ws.Pairwise _; rw [k1]; exact h.so)
 have hcl : (givenF B s er).1.cl = s.cl := k3
 have hnn : (givenF B s er).1.n = s.n := k4
 rcases chores_mem _ _ _ _ _ _ a ha with h1 | ⟨h1, h2, h3, h4⟩
 ·obtain ⟨h5, h6⟩ := List.mem_filter.1 h1
  exact ⟨h6, by rw [hcl]; exact (h.ch a h5 h6).oc, fun k => ⟨by rw [hnn]; exact ((h.ch a h5 h6).on k).1, fun e => by cases e⟩⟩
 ·exact ⟨h1, by rw [hcl]; exact h2, fun k => by rw [h4] at k; exact absurd k (by show ¬ (6 : Int) = 5; decide)⟩
theorem Cns.comm {B : Bt} {d e : Nat} {s : Ss} (h : Cns d s) (ap al : Nat) : Cns e (commF B s ap al).1 := by
 obtain ⟨k1, k2, k3, k4⟩ := chores_keep { zQ with k := 5, c := s.cl, n := s.n, ap := ap, al := al } (some (homeF B s (priF s))) (homeF B s (priF s)) (B.parts s.ws s.nsh) 0 { dropF s with np := (maxT (s.np, s.nl) (ap, al)).1, nl := (maxT (s.np, s.nl) (ap, al)).2 }
 have hm := chores_mem { zQ with k := 5, c := s.cl, n := s.n, ap := ap, al := al } (some (homeF B s (priF s))) (homeF B s (priF s)) (B.parts s.ws s.nsh) 0 { dropF s with np := (maxT (s.np, s.nl) (ap, al)).1, nl := (maxT (s.np, s.nl) (ap, al)).2 }
 unfold commF
 dsimp only
 generalize choresF { zQ with k := 5, c := s.cl, n := s.n, ap := ap, al := al } (some (homeF B s (priF s))) (homeF B s (priF s)) (B.parts s.ws s.nsh) 0 { dropF s with np := (maxT (s.np, s.nl) (ap, al)).1, nl := (maxT (s.np, s.nl) (ap, al)).2 } = R at *
 have hR : ∀ a ∈ R.1.asks, a.ch = true ∧ a.oc = s.cl ∧ (a.q.k = 5 → a.on ≤ s.n) := fun a ha => by
  rcases hm a ha with h1 | ⟨h1, h2, h3, h4⟩
  ·obtain ⟨h5, h6⟩ := List.mem_filter.1 h1
   exact ⟨h6, (h.ch a h5 h6).oc, fun k => ((h.ch a h5 h6).on k).1⟩
  ·exact ⟨h1, h2, fun _ => by rw [h3]; exact Nat.le_refl _⟩
 have k2' : R.1.op.k = 0 := by rw [k2]; rfl
 have k1' : R.1.ws = s.ws := k1
 have k3' : R.1.cl = s.cl := k3
 have k4' : R.1.n = s.n := k4
 by_cases h0 : R.2 = 0
 ·rw [if_pos h0]
  refine Cns.idle k2' (fun a ha => ?_) (by show R.1.ws.Pairwise _; rw [k1']; exact h.so)
  have ha' : a ∈ R.1.asks ++ [_] := ha
  rw [List.mem_append, List.mem_singleton] at ha'
  rcases ha' with h1 | rfl
  ·exact ⟨(hR a h1).1, (hR a h1).2.1.trans k3'.symm, fun k => ⟨Nat.le_trans ((hR a h1).2.2 k) (Nat.le_of_eq k4'.symm), fun e => by cases e⟩⟩
  ·exact ⟨rfl, k3'.symm, fun k => absurd k (by show ¬ (9 : Int) = 5; decide)⟩
 ·rw [if_neg h0]
  refine Cns.idle k2' (fun a ha => ?_) (by show R.1.ws.Pairwise _; rw [k1']; exact h.so)
  have h1 : a ∈ R.1.asks := ha
  exact ⟨(hR a h1).1, (hR a h1).2.1.trans k3'.symm, fun k => ⟨Nat.le_trans ((hR a h1).2.2 k) (Nat.le_of_eq k4'.symm), fun e => by cases e⟩⟩
theorem Cns.stop {B : Bt} {d e : Nat} {s : Ss} (h : Cns d s) (er : Int) : Cns e (stopF B s er).1 := by
 unfold stopF
 split
 ·exact h.given er
 ·exact h.fail er
theorem knd_op {d : Nat} {s : Ss} (h : Cns d s) (ho : s.op.k ≠ 0) : (knd s = 1 ∧ s.op.k = 2) ∨ (knd s = 2 ∧ s.op.k = 3) ∨ (knd s = 3 ∧ s.op.k = 6 ∧ s.stg = 1) ∨ (knd s = 4 ∧ s.op.k = 6 ∧ s.stg = 2) ∨ (knd s = 6 ∧ s.op.k = 6 ∧ s.stg = 3) := by
 unfold knd
 rcases h.op with e | e | e | e
 ·exact absurd e ho
 ·rw [e]; simp
 ·rw [e]; simp
 ·rw [e]
  rcases h.stg e with g | g | g <;> rw [g] <;> simp
theorem bsQ_0 {a : Ak} (h : a.st = 0) : bsQ a = a.q := by unfold bsQ; rw [if_pos h]
theorem bsQ_1 {a : Ak} (h : a.st ≠ 0) : bsQ a = a.was := by unfold bsQ; rw [if_neg h]
theorem Cns.lock {B : Bt} {s : Ss} (h : Cns 1 s) (ho : s.op.k ≠ 0) (a : Ak) (r : Rp) (ha : Awt s a) (h0 : a.st = 0) (hk : a.q.k ≤ 3) : Cns 0 (lockF B s a r).1 := by
 have e := bsQ_0 h0
 unfold lockF
 split
 ·exact h.stop 1
 ·have k := ha.k
  have s1 := ha.sp
  rw [e] at k s1
  refine h.ask ho _ rfl ⟨k, fun g => absurd g (by rw [← k]; omega), s1, fun g => absurd (show a.q.k = 4 from g) (by omega)⟩
theorem Cns.push {B : Bt} {s : Ss} (h : Cns 1 s) (ho : s.op.k ≠ 0) (a : Ak) (r : Rp) (ha : Awt s a) (h1 : a.st = 1) (hk : a.was.k ≤ 3) : Cns 0 (pushF B s a r).1 := by
 have e := bsQ_1 (a := a) (by omega)
 have k := ha.k
 have s1 := ha.sp
 rw [e] at k s1
 have aw2 : ∀ (q : Rq), Awt s { akF a.hm q with st := 2, was := a.was, hm := a.hm } := fun q => ⟨k, fun g => absurd g (by rw [← k]; omega), s1, fun g => absurd (show a.was.k = 4 from g) (by omega)⟩
 unfold pushF
 split
 ·exact h.ask ho _ rfl (aw2 _)
 split
 ·exact h.ask ho _ rfl (aw2 _)
 split
 ·split
  ·exact h.given 40
  split
  ·exact h.fail 3
  ·exact h.ask ho _ rfl ⟨k, fun _ => rfl, s1, fun g => absurd (show a.was.k = 4 from g) (by omega)⟩
 ·exact h.stop _
theorem Cns.unl {B : Bt} {s : Ss} (h : Cns 1 s) (ho : s.op.k ≠ 0) (a : Ak) (ha : Awt s a) (h2 : a.st = 2) (hk : a.was.k ≤ 3) : Cns 0 (askF s (akF a.hm a.was)) := by
 have e := bsQ_1 (a := a) (by omega)
 have k := ha.k
 have s1 := ha.sp
 rw [e] at k s1
 exact h.ask ho _ rfl ⟨k, fun _ => rfl, s1, fun g => absurd (show a.was.k = 4 from g) (by omega)⟩
theorem Cns.decide {B : Bt} {s : Ss} (h : Cns 1 s) (ho : s.op.k = 6) (hs : s.stg = 2) : Cns 0 (decideF B s) :=
 h.ask (by rw [ho]; decide) _ rfl ⟨by show (4 : Int) = knd s; unfold knd; rw [ho, hs]; rfl, fun _ => rfl, fun g => absurd (show (4 : Int) ≤ 3 from g) (by decide), fun _ => ⟨rfl, rfl⟩⟩
theorem Cns.undo {B : Bt} {s : Ss} (h : Cns 1 s) (ho : s.op.k = 6) (hs : s.stg = 3) : Cns 0 (undoF B s) :=
 h.ask (by rw [ho]; decide) _ rfl ⟨by show (6 : Int) = knd s; unfold knd; rw [ho, hs]; rfl, fun _ => rfl, fun g => absurd (show (6 : Int) ≤ 3 from g) (by decide), fun g => absurd (show (6 : Int) = 4 from g) (by decide)⟩
theorem Cns.ans {B : Bt} {s : Ss} (h : Cns 1 s) (ho : s.op.k ≠ 0) (a : Ak) (r : Rp) (ha : Awt s a) (h0 : a.st = 0) (hk : a.q.k ≤ 3) (hr : OkR r) : Cns 0 (ansF B s a r).1 := by
 have e := bsQ_0 h0
 have k := ha.k
 rw [e] at k
 unfold ansF
 split
 ·exact h.lock ho a r ha h0 hk
 split
 ·exact h.drop
 split
 ·rename_i hq
  have h3 : s.op.k = 3 := by rcases knd_op h ho with g | g | g | g | g <;> omega
  have hl := h.left (.inl h3)
  have hp := h.ps h3
  have hC : Cns 0 { s with ps := s.ps ++ r.ps, left := s.left - 1 } := ⟨h.op, h.act, h.stg, fun x hx hc => ⟨(h.aw x hx hc).k, (h.aw x hx hc).pl, (h.aw x hx hc).sp, (h.aw x hx hc).ap⟩, fun _ => ⟨by show ((cntN s.asks + 0 : Nat) : Int) = s.left - 1; omega, by show s.left - 1 ≤ 8; omega⟩, fun e => absurd (h3.symm.trans e) (by decide), fun x hx hc => ⟨(h.ch x hx hc).oc, (h.ch x hx hc).on⟩, h.so, fun _ => ⟨by
    show ((s.ps ++ r.ps).length : Int) + 32 * (s.left - 1) ≤ 256
    rw [List.length_append]
    have := hr.pl
    omega, fun p hp' => by
    have hp2 : p ∈ s.ps ++ r.ps := hp'
    rw [List.mem_append] at hp2
    rcases hp2 with g | g
    ·exact hp.2 p g
    ·exact (hr.ps p g).2⟩⟩
  dsimp only
  split
  ·exact hC
  ·exact hC.drop
 split
 ·rename_i hq
  have h6 : s.op.k = 6 ∧ s.stg = 1 := by rcases knd_op h ho with g | g | g | g | g <;> omega
  have hl := h.left (.inr h6)
  dsimp only
  split
  ·rename_i hz
   have hz' : s.left - 1 = 0 := hz
   have hc0 : cntN s.asks = 0 := by omega
   have hC : Cns 1 { s with cp := (maxT (s.cp, s.cll) (r.ap, r.al)).1, cll := (maxT (s.cp, s.cll) (r.ap, r.al)).2, left := s.left - 1, stg := 2 } := ⟨h.op, h.act, fun _ => .inr (.inl rfl), fun x hx hc => (by rw [cnt_none hc0 x hx] at hc; cases hc), fun g => by
     rcases g with g | g
     ·exact absurd (h6.1.symm.trans g) (by decide)
     ·exact absurd g.2 (by show ¬ (2 = 1); decide), fun _ _ => by show cntN s.asks + 1 ≤ 1; omega, fun x hx hc => ⟨(h.ch x hx hc).oc, (h.ch x hx hc).on⟩, h.so, fun g => absurd (h6.1.symm.trans g) (by decide)⟩
   exact hC.decide h6.1 rfl
  ·exact ⟨h.op, h.act, h.stg, fun x hx hc => ⟨(h.aw x hx hc).k, (h.aw x hx hc).pl, (h.aw x hx hc).sp, fun g => by
     have := (h.aw x hx hc).k
     have hkk : knd s = 3 := by rcases knd_op h ho with g | g | g | g | g <;> omega
     omega⟩, fun _ => ⟨by show ((cntN s.asks + 0 : Nat) : Int) = s.left - 1; omega, by show s.left - 1 ≤ 8; omega⟩, fun _ g => absurd h6.2 g, fun x hx hc => ⟨(h.ch x hx hc).oc, (h.ch x hx hc).on⟩, h.so, fun g => absurd (h6.1.symm.trans g) (by decide)⟩
 split
 ·exact h.given 40
 split
 ·exact h.given 12
 ·exact h.stop _
theorem Cns.dec {B : Bt} {s : Ss} (h : Cns 1 s) (ho : s.op.k ≠ 0) (a : Ak) (r : Rp) (ha : Awt s a) (h0 : a.st = 0) (hk : ¬ a.q.k ≤ 3) : Cns 0 (decF B s r).1 := by
 have e := bsQ_0 h0
 have k := ha.k
 rw [e] at k
 have h6 : s.op.k = 6 ∧ (s.stg = 2 ∨ s.stg = 3) := by rcases knd_op h ho with g | g | g | g | g <;> omega
 have h1 := h.one h6.1 (by omega)
 have hc0 : ∀ x ∈ s.asks, x.ch = true := cnt_none (by omega)
 unfold decF
 split
 ·exact h.comm _ _
 split
 ·exact h.given 12
 split
 ·exact h.given _
 split
 ·rename_i hq
  have hC : Cns 1 { s with cp := (maxT (s.cp, s.cll) (r.ap, r.al)).1, cll := (maxT (s.cp, s.cll) (r.ap, r.al)).2 } := ⟨h.op, h.act, h.stg, fun x hx hc => (by rw [hc0 x hx] at hc; cases hc), h.left, h.one, fun x hx hc => ⟨(h.ch x hx hc).oc, (h.ch x hx hc).on⟩, h.so, h.ps⟩
  exact hC.decide h6.1 hq.2
 ·by_cases h2 : s.stg = 2
  ·rw [if_pos h2]
   have hC : Cns 1 { s with stg := 3, why := wrongF r } := ⟨h.op, h.act, fun _ => .inr (.inr rfl), fun x hx hc => (by rw [hc0 x hx] at hc; cases hc), fun g => by
     rcases g with g | g
     ·exact absurd (h6.1.symm.trans g) (by decide)
     ·exact absurd g.2 (by show ¬ (3 = 1); decide), fun _ _ => h1, fun x hx hc => ⟨(h.ch x hx hc).oc, (h.ch x hx hc).on⟩, h.so, h.ps⟩
   exact hC.undo h6.1 rfl
  ·rw [if_neg h2]
   exact h.undo h6.1 (by omega)
end Go.Proofs.YtkdkgdollmmcnaaGreat
