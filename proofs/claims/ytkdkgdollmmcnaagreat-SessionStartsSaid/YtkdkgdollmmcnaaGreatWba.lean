import Derived.Test.YtkdkgdollmmcnaaGreatWaz
set_option maxHeartbeats 4000000
set_option maxRecDepth 100000
set_option linter.unusedVariables false
set_option linter.unusedSimpArgs false
namespace Go.Proofs.YtkdkgdollmmcnaaGreat
def cntN (L : List Ak) : Nat := (L.filter fun a => !a.ch).length
def bsQ (a : Ak) : Rq := if a.st = 0 then a.q else a.was
def knd (s : Ss) : Int := if s.op.k = 2 then 1 else if s.op.k = 3 then 2 else if s.stg = 1 then 3 else if s.stg = 2 then 4 else 6
structure Awt (s : Ss) (a : Ak) : Prop where
 k : (bsQ a).k = knd s
 pl : 3 < knd s → a.st = 0
 sp : (bsQ a).k ≤ 3 → (bsQ a).sp = s.sp ∧ (bsQ a).sl = s.sl
 ap : (bsQ a).k = 4 → a.q.ap = s.cp ∧ a.q.al = s.cll
structure Cho (s : Ss) (a : Ak) : Prop where
 oc : a.oc = s.cl
 on : a.q.k = 5 → a.on ≤ s.n ∧ (s.act = true → a.on ≠ s.n)
structure Cns (d : Nat) (s : Ss) : Prop where
 op : s.op.k = 0 ∨ s.op.k = 2 ∨ s.op.k = 3 ∨ s.op.k = 6
 act : s.op.k ≠ 0 → s.act = true
 stg : s.op.k = 6 → s.stg = 1 ∨ s.stg = 2 ∨ s.stg = 3
 aw : ∀ a ∈ s.asks, a.ch = false → Awt s a
 left : s.op.k = 3 ∨ s.op.k = 6 ∧ s.stg = 1 → ((cntN s.asks + d : Nat) : Int) = s.left ∧ s.left ≤ 8
 one : s.op.k = 6 → s.stg ≠ 1 → cntN s.asks + d ≤ 1
 ch : ∀ a ∈ s.asks, a.ch = true → Cho s a
 so : s.ws.Pairwise fun x y => x.key < y.key
 ps : s.op.k = 3 → (s.ps.length : Int) + 32 * s.left ≤ 256 ∧ ∀ p ∈ s.ps, p.val.length ≤ 256
theorem Cns.idle {d : Nat} {s : Ss} (h0 : s.op.k = 0) (hc : ∀ a ∈ s.asks, a.ch = true ∧ Cho s a) (so : s.ws.Pairwise fun x y => x.key < y.key) : Cns d s :=
 ⟨.inl h0, fun e => absurd h0 e, fun e => absurd (h0.symm.trans e) (by decide), fun a ha e => (by rw [(hc a ha).1] at e; cases e), fun e => (by omega), fun e => absurd (h0.symm.trans e) (by decide), fun a ha _ => (hc a ha).2, so, fun e => absurd (h0.symm.trans e) (by decide)⟩
theorem cnt_snoc (L : List Ak) (a : Ak) : cntN (L ++ [a]) = cntN L + if a.ch then 0 else 1 := by
 unfold cntN
 rw [List.filter_append, List.length_append]
 cases h : a.ch <;> simp [h]
theorem cnt_none {L : List Ak} (h : cntN L = 0) : ∀ a ∈ L, a.ch = true := fun a ha => by
 unfold cntN at h
 cases hc : a.ch
 ·have : a ∈ L.filter fun a => !a.ch := List.mem_filter.2 ⟨ha, by simp [hc]⟩
  rw [List.length_eq_zero_iff] at h
  rw [h] at this
  cases this
 ·rfl
theorem cnt_all {L : List Ak} (h : ∀ a ∈ L, a.ch = true) : cntN L = 0 := by
 unfold cntN
 rw [List.length_eq_zero_iff, List.filter_eq_nil_iff]
 intro a ha
 simp [h a ha]
theorem Cns.ask {d : Nat} {s : Ss} (h : Cns (d + 1) s) (ho : s.op.k ≠ 0) (a : Ak) (hc : a.ch = false) (ha : Awt s a) : Cns d (askF s a) := by
 have e : cntN (askF s a).asks = cntN s.asks + 1 := by
  show cntN (s.asks ++ [{ a with sq := s.sq + 1 }]) = _
  rw [cnt_snoc]
  simp [hc]
 refine ⟨h.op, h.act, h.stg, fun x hx hq => ?_, fun k => ?_, fun k1 k2 => ?_, fun x hx hq => ?_, h.so, h.ps⟩
 ·have hx' : x ∈ s.asks ++ [{ a with sq := s.sq + 1 }] := hx
  rw [List.mem_append, List.mem_singleton] at hx'
  rcases hx' with h1 | rfl
  ·exact ⟨(h.aw x h1 hq).k, (h.aw x h1 hq).pl, (h.aw x h1 hq).sp, (h.aw x h1 hq).ap⟩
  ·exact ⟨ha.k, ha.pl, ha.sp, ha.ap⟩
 ·rw [e]
  have := h.left k
  have h2 : ((cntN s.asks + (d + 1) : Nat) : Int) = (askF s a).left := this.1
  exact ⟨by rw [← h2]; congr 1; omega, this.2⟩
 ·rw [e]
  have := h.one k1 k2
  omega
 ·have hx' : x ∈ s.asks ++ [{ a with sq := s.sq + 1 }] := hx
  rw [List.mem_append, List.mem_singleton] at hx'
  rcases hx' with h1 | rfl
  ·exact ⟨(h.ch x h1 hq).oc, (h.ch x h1 hq).on⟩
  ·rw [hc] at hq
   cases hq
theorem Cns.cho {d : Nat} {s : Ss} (h : Cns d s) (a : Ak) (hc : a.ch = true) (ha : Cho s a) : Cns d (askF s a) := by
 have e : cntN (askF s a).asks = cntN s.asks := by
  show cntN (s.asks ++ [{ a with sq := s.sq + 1 }]) = _
  rw [cnt_snoc]
  simp [hc]
 refine ⟨h.op, h.act, h.stg, fun x hx hq => ?_, fun k => ?_, fun k1 k2 => ?_, fun x hx hq => ?_, h.so, h.ps⟩
 ·have hx' : x ∈ s.asks ++ [{ a with sq := s.sq + 1 }] := hx
  rw [List.mem_append, List.mem_singleton] at hx'
  rcases hx' with h1 | rfl
  ·exact ⟨(h.aw x h1 hq).k, (h.aw x h1 hq).pl, (h.aw x h1 hq).sp, (h.aw x h1 hq).ap⟩
  ·rw [hc] at hq
   cases hq
 ·rw [e]
  exact h.left k
 ·rw [e]
  exact h.one k1 k2
 ·have hx' : x ∈ s.asks ++ [{ a with sq := s.sq + 1 }] := hx
  rw [List.mem_append, List.mem_singleton] at hx'
  rcases hx' with h1 | rfl
  ·exact ⟨(h.ch x h1 hq).oc, (h.ch x h1 hq).on⟩
  ·exact ⟨ha.oc, ha.on⟩
theorem Cns.drop {d e : Nat} {s : Ss} (h : Cns d s) : Cns e (dropF s) := Cns.idle rfl (fun a ha => by
 obtain ⟨h1, h2⟩ := List.mem_filter.1 ha
 exact ⟨h2, (h.ch a h1 h2).oc, (h.ch a h1 h2).on⟩) h.so
theorem chores_mem (q : Rq) (but : Option Nat) (h : Nat) : ∀ l i s a, a ∈ (choresF q but h l i s).1.asks → a ∈ s.asks ∨ (a.ch = true ∧ a.oc = s.cl ∧ a.on = s.n ∧ a.q = q)
 | [], _, s, a, ha => .inl ha
 | p :: l, i, s, a, ha => by
  unfold choresF at ha
  split at ha
  ·rcases chores_mem q but h l (i + 1) _ a ha with h1 | h1
   ·have h1' : a ∈ s.asks ++ [_] := h1
    rw [List.mem_append, List.mem_singleton] at h1'
    rcases h1' with h2 | rfl
    ·exact .inl h2
    ·exact .inr ⟨rfl, rfl, rfl, rfl⟩
   ·exact .inr h1
  ·exact chores_mem q but h l (i + 1) s a ha
theorem chores_keep (q : Rq) (but : Option Nat) (h : Nat) : ∀ l i s, (choresF q but h l i s).1.ws = s.ws ∧ (choresF q but h l i s).1.op = s.op ∧ (choresF q but h l i s).1.cl = s.cl ∧ (choresF q but h l i s).1.n = s.n
 | [], _, s => ⟨rfl, rfl, rfl, rfl⟩
 | p :: l, i, s => by
  unfold choresF
  split
  ·exact chores_keep q but h l (i + 1) _
  ·exact chores_keep q but h l (i + 1) s
theorem Cns.fail {d e : Nat} {s : Ss} (h : Cns d s) (er : Int) : Cns e (failF s er).1 := h.drop
theorem Cns.over {d e : Nat} {s : Ss} (h : Cns d s) : Cns e { dropF s with act := false } := Cns.idle rfl (fun a ha => by
 obtain ⟨h1, h2⟩ := List.mem_filter.1 ha
 exact ⟨h2, (h.ch a h1 h2).oc, fun k => ⟨((h.ch a h1 h2).on k).1, fun e => by cases e⟩⟩) h.so
theorem Cns.given {B : Bt} {d e : Nat} {s : Ss} (h : Cns d s) (er : Int) : Cns e (givenF B s er).1 := by
 obtain ⟨k1, k2, k3, k4⟩ := chores_keep { zQ with k := 6, c := s.cl, n := s.n, sp := s.sp, sl := s.sl } none (homeF B s (priF s)) (B.parts s.ws s.nsh) 0 (dropF s)
 refine Cns.idle (by show (choresF _ _ _ _ _ _).1.op.k = 0; rw [k2]; rfl) (fun a ha => ?_) (by show (choresF _ _ _ _ _ _).1.ws.Pairwise _; rw [k1]; exact h.so)
 have hcl : (givenF B s er).1.cl = s.cl := k3
 have hnn : (givenF B s er).1.n = s.n := k4
 rcases chores_mem _ _ _ _ _ _ a ha with h1 | ⟨h1, h2, h3, h4⟩
 ·obtain ⟨h5, h6⟩ := List.mem_filter.1 h1
  exact ⟨h6, by rw [hcl]; exact (h.ch a h5 h6).oc, fun k => ⟨by rw [hnn]; exact ((h.ch a h5 h6).on k).1, fun e => by cases e⟩⟩
 ·exact ⟨h1, by rw [hcl]; exact h2, fun k => by rw [h4] at k; exact absurd k (by show ¬ (6 : Int) = 5; decide)⟩
theorem Cns.comm {B : Bt} {d e : Nat} {s : Ss} (h : Cns d s) (ap al : Nat) : Cns e (commF B s ap al).1 := by
 obtain ⟨k1, k2, k3, k4⟩ := chores_keep { zQ with k := 5, c := s.cl, n := s.n, ap := ap, al := al } (some (homeF B s (priF s))) (homeF B s (priF s)) (B.parts s.ws s.nsh) 0 { dropF s with np := (maxT (s.np, s.nl) (ap, al)).1, nl := (maxT (s.np, s.nl) (ap, al)).2 }
 have hm := chores_mem { zQ with k := 5, c := s.cl, n := s.n, ap := ap, al := al } (some (homeF B s (priF s))) (homeF B s (priF s)) (B.parts s.ws s.nsh) 0 { dropF s with np := (maxT (s.np, s.nl) (ap, al)).1, nl := (maxT (s.np, s.nl) (ap, al)).2 }
 unfold commF
 dsimp only
 generalize choresF { zQ with k := 5, c := s.cl, n := s.n, ap := ap, al := al } (some (homeF B s (priF s))) (homeF B s (priF s)) (B.parts s.ws s.nsh) 0 { dropF s with np := (maxT (s.np, s.nl) (ap, al)).1, nl := (maxT (s.np, s.nl) (ap, al)).2 } = R at *
 have hR : ∀ a ∈ R.1.asks, a.ch = true ∧ a.oc = s.cl ∧ (a.q.k = 5 → a.on ≤ s.n) := fun a ha => by
  rcases hm a ha with h1 | ⟨h1, h2, h3, h4⟩
  ·obtain ⟨h5, h6⟩ := List.mem_filter.1 h1
   exact ⟨h6, (h.ch a h5 h6).oc, fun k => ((h.ch a h5 h6).on k).1⟩
  ·exact ⟨h1, h2, fun _ => by rw [h3]; exact Nat.le_refl _⟩
 have k2' : R.1.op.k = 0 := by rw [k2]; rfl
 have k1' : R.1.ws = s.ws := k1
 have k3' : R.1.cl = s.cl := k3
 have k4' : R.1.n = s.n := k4
 by_cases h0 : R.2 = 0
 ·rw [if_pos h0]
  refine Cns.idle k2' (fun a ha => ?_) (by show R.1.ws.Pairwise _; rw [k1']; exact h.so)
  have ha' : a ∈ R.1.asks ++ [_] := ha
  rw [List.mem_append, List.mem_singleton] at ha'
  rcases ha' with h1 | rfl
  ·exact ⟨(hR a h1).1, (hR a h1).2.1.trans k3'.symm, fun k => ⟨Nat.le_trans ((hR a h1).2.2 k) (Nat.le_of_eq k4'.symm), fun e => by cases e⟩⟩
  ·exact ⟨rfl, k3'.symm, fun k => absurd k (by show ¬ (9 : Int) = 5; decide)⟩
 ·rw [if_neg h0]
  refine Cns.idle k2' (fun a ha => ?_) (by show R.1.ws.Pairwise _; rw [k1']; exact h.so)
  have h1 : a ∈ R.1.asks := ha
  exact ⟨(hR a h1).1, (hR a h1).2.1.trans k3'.symm, fun k => ⟨Nat.le_trans ((hR a h1).2.2 k) (Nat.le_of_eq k4'.symm), fun e => by cases e⟩⟩
theorem Cns.stop {B : Bt} {d e : Nat} {s : Ss} (h : Cns d s) (er : Int) : Cns e (stopF B s er).1 := by
 unfold stopF
 split
 ·exact h.given er
 ·exact h.fail er
theorem knd_op {d : Nat} {s : Ss} (h : Cns d s) (ho : s.op.k ≠ 0) : (knd s = 1 ∧ s.op.k = 2) ∨ (knd s = 2 ∧ s.op.k = 3) ∨ (knd s = 3 ∧ s.op.k = 6 ∧ s.stg = 1) ∨ (knd s = 4 ∧ s.op.k = 6 ∧ s.stg = 2) ∨ (knd s = 6 ∧ s.op.k = 6 ∧ s.stg = 3) := by
 unfold knd
 rcases h.op with e | e | e | e
 ·exact absurd e ho
 ·rw [e]; simp
 ·rw [e]; simp
 ·rw [e]
  rcases h.stg e with g | g | g <;> rw [g] <;> simp
theorem bsQ_0 {a : Ak} (h : a.st = 0) : bsQ a = a.q := by unfold bsQ; rw [if_pos h]
theorem bsQ_1 {a : Ak} (h : a.st ≠ 0) : bsQ a = a.was := by unfold bsQ; rw [if_neg h]
theorem Cns.lock {B : Bt} {s : Ss} (h : Cns 1 s) (ho : s.op.k ≠ 0) (a : Ak) (r : Rp) (ha : Awt s a) (h0 : a.st = 0) (hk : a.q.k ≤ 3) : Cns 0 (lockF B s a r).1 := by
 have e := bsQ_0 h0
 unfold lockF
 split
 ·exact h.stop 1
 ·have k := ha.k
  have s1 := ha.sp
  rw [e] at k s1
  refine h.ask ho _ rfl ⟨k, fun g => absurd g (by rw [← k]; omega), s1, fun g => absurd (show a.q.k = 4 from g) (by omega)⟩
theorem Cns.push {B : Bt} {s : Ss} (h : Cns 1 s) (ho : s.op.k ≠ 0) (a : Ak) (r : Rp) (ha : Awt s a) (h1 : a.st = 1) (hk : a.was.k ≤ 3) : Cns 0 (pushF B s a r).1 := by
 have e := bsQ_1 (a := a) (by omega)
 have k := ha.k
 have s1 := ha.sp
 rw [e] at k s1
 have aw2 : ∀ (q : Rq), Awt s { akF a.hm q with st := 2, was := a.was, hm := a.hm } := fun q => ⟨k, fun g => absurd g (by rw [← k]; omega), s1, fun g => absurd (show a.was.k = 4 from g) (by omega)⟩
 unfold pushF
 split
 ·exact h.ask ho _ rfl (aw2 _)
 split
 ·exact h.ask ho _ rfl (aw2 _)
 split
 ·split
  ·exact h.given 40
  split
  ·exact h.fail 3
  ·exact h.ask ho _ rfl ⟨k, fun _ => rfl, s1, fun g => absurd (show a.was.k = 4 from g) (by omega)⟩
 ·exact h.stop _
theorem Cns.unl {B : Bt} {s : Ss} (h : Cns 1 s) (ho : s.op.k ≠ 0) (a : Ak) (ha : Awt s a) (h2 : a.st = 2) (hk : a.was.k ≤ 3) : Cns 0 (askF s (akF a.hm a.was)) := by
 have e := bsQ_1 (a := a) (by omega)
 have k := ha.k
 have s1 := ha.sp
 rw [e] at k s1
 exact h.ask ho _ rfl ⟨k, fun _ => rfl, s1, fun g => absurd (show a.was.k = 4 from g) (by omega)⟩
theorem Cns.decide {B : Bt} {s : Ss} (h : Cns 1 s) (ho : s.op.k = 6) (hs : s.stg = 2) : Cns 0 (decideF B s) :=
 h.ask (by rw [ho]; decide) _ rfl ⟨by show (4 : Int) = knd s; unfold knd; rw [ho, hs]; rfl, fun _ => rfl, fun g => absurd (show (4 : Int) ≤ 3 from g) (by decide), fun _ => ⟨rfl, rfl⟩⟩
theorem Cns.undo {B : Bt} {s : Ss} (h : Cns 1 s) (ho : s.op.k = 6) (hs : s.stg = 3) : Cns 0 (undoF B s) :=
 h.ask (by rw [ho]; decide) _ rfl ⟨by show (6 : Int) = knd s; unfold knd; rw [ho, hs]; rfl, fun _ => rfl, fun g => absurd (show (6 : Int) ≤ 3 from g) (by decide), fun g => absurd (show (6 : Int) = 4 from g) (by decide)⟩
theorem Cns.ans {B : Bt} {s : Ss} (h : Cns 1 s) (ho : s.op.k ≠ 0) (a : Ak) (r : Rp) (ha : Awt s a) (h0 : a.st = 0) (hk : a.q.k ≤ 3) (hr : OkR r) : Cns 0 (ansF B s a r).1 := by
 have e := bsQ_0 h0
 have k := ha.k
 rw [e] at k
 unfold ansF
 split
 ·exact h.lock ho a r ha h0 hk
 split
 ·exact h.drop
 split
 ·rename_i hq
  have h3 : s.op.k = 3 := by rcases knd_op h ho with g | g | g | g | g <;> omega
  have hl := h.left (.inl h3)
  have hp := h.ps h3
  have hC : Cns 0 { s with ps := s.ps ++ r.ps, left := s.left - 1 } := ⟨h.op, h.act, h.stg, fun x hx hc => ⟨(h.aw x hx hc).k, (h.aw x hx hc).pl, (h.aw x hx hc).sp, (h.aw x hx hc).ap⟩, fun _ => ⟨by show ((cntN s.asks + 0 : Nat) : Int) = s.left - 1; omega, by show s.left - 1 ≤ 8; omega⟩, fun e => absurd (h3.symm.trans e) (by decide), fun x hx hc => ⟨(h.ch x hx hc).oc, (h.ch x hx hc).on⟩, h.so, fun _ => ⟨by
    show ((s.ps ++ r.ps).length : Int) + 32 * (s.left - 1) ≤ 256
    rw [List.length_append]
    have := hr.pl
    omega, fun p hp' => by
    have hp2 : p ∈ s.ps ++ r.ps := hp'
    rw [List.mem_append] at hp2
    rcases hp2 with g | g
    ·exact hp.2 p g
    ·exact (hr.ps p g).2⟩⟩
  dsimp only
  split
  ·exact hC
  ·exact hC.drop
 split
 ·rename_i hq
  have h6 : s.op.k = 6 ∧ s.stg = 1 := by rcases knd_op h ho with g | g | g | g | g <;> omega
  have hl := h.left (.inr h6)
  dsimp only
  split
  ·rename_i hz
   have hz' : s.left - 1 = 0 := hz
   have hc0 : cntN s.asks = 0 := by omega
   have hC : Cns 1 { s with cp := (maxT (s.cp, s.cll) (r.ap, r.al)).1, cll := (maxT (s.cp, s.cll) (r.ap, r.al)).2, left := s.left - 1, stg := 2 } := ⟨h.op, h.act, fun _ => .inr (.inl rfl), fun x hx hc => (by rw [cnt_none hc0 x hx] at hc; cases hc), fun g => by
     rcases g with g | g
     ·exact absurd (h6.1.symm.trans g) (by decide)
     ·exact absurd g.2 (by show ¬ (2 = 1); decide), fun _ _ => by show cntN s.asks + 1 ≤ 1; omega, fun x hx hc => ⟨(h.ch x hx hc).oc, (h.ch x hx hc).on⟩, h.so, fun g => absurd (h6.1.symm.trans g) (by decide)⟩
   exact hC.decide h6.1 rfl
  ·exact ⟨h.op, h.act, h.stg, fun x hx hc => ⟨(h.aw x hx hc).k, (h.aw x hx hc).pl, (h.aw x hx hc).sp, fun g => by
     have := (h.aw x hx hc).k
     have hkk : knd s = 3 := by rcases knd_op h ho with g | g | g | g | g <;> omega
     omega⟩, fun _ => ⟨by show ((cntN s.asks + 0 : Nat) : Int) = s.left - 1; omega, by show s.left - 1 ≤ 8; omega⟩, fun _ g => absurd h6.2 g, fun x hx hc => ⟨(h.ch x hx hc).oc, (h.ch x hx hc).on⟩, h.so, fun g => absurd (h6.1.symm.trans g) (by decide)⟩
 split
 ·exact h.given 40
 split
 ·exact h.given 12
 ·exact h.stop _
theorem Cns.dec {B : Bt} {s : Ss} (h : Cns 1 s) (ho : s.op.k ≠ 0) (a : Ak) (r : Rp) (ha : Awt s a) (h0 : a.st = 0) (hk : ¬ a.q.k ≤ 3) : Cns 0 (decF B s r).1 := by
 have e := bsQ_0 h0
 have k := ha.k
 rw [e] at k
 have h6 : s.op.k = 6 ∧ (s.stg = 2 ∨ s.stg = 3) := by rcases knd_op h ho with g | g | g | g | g <;> omega
 have h1 := h.one h6.1 (by omega)
 have hc0 : ∀ x ∈ s.asks, x.ch = true := cnt_none (by omega)
 unfold decF
 split
 ·exact h.comm _ _
 split
 ·exact h.given 12
 split
 ·exact h.given _
 split
 ·rename_i hq
  have hC : Cns 1 { s with cp := (maxT (s.cp, s.cll) (r.ap, r.al)).1, cll := (maxT (s.cp, s.cll) (r.ap, r.al)).2 } := ⟨h.op, h.act, h.stg, fun x hx hc => (by rw [hc0 x hx] at hc; cases hc), h.left, h.one, fun x hx hc => ⟨(h.ch x hx hc).oc, (h.ch x hx hc).on⟩, h.so, h.ps⟩
  exact hC.decide h6.1 hq.2
 ·by_cases h2 : s.stg = 2
  ·rw [if_pos h2]
   have hC : Cns 1 { s with stg := 3, why := wrongF r } := ⟨h.op, h.act, fun _ => .inr (.inr rfl), fun x hx hc => (by rw [hc0 x hx] at hc; cases hc), fun g => by
     rcases g with g | g
     ·exact absurd (h6.1.symm.trans g) (by decide)
     ·exact absurd g.2 (by show ¬ (3 = 1); decide), fun _ _ => h1, fun x hx hc => ⟨(h.ch x hx hc).oc, (h.ch x hx hc).on⟩, h.so, h.ps⟩
   exact hC.undo h6.1 rfl
  ·rw [if_neg h2]
   exact h.undo h6.1 (by omega)
theorem pick_split {s : Ss} (hI : Inc s) {l : Le} {a : Ak} (h : pickA l s.asks = some a) : ∃ A C, s.asks = A ++ a :: C ∧ s.asks.filter (fun x => !isA l x) = A ++ C ∧ isA l a = true ∧ ∀ x ∈ A, isA l x = false := by
 obtain ⟨h1, A, C, h2, h3⟩ := List.find?_eq_some_iff_append.1 h
 have hA : ∀ x ∈ A, isA l x = false := fun x hx => by simpa using h3 x hx
 have hC : ∀ x ∈ C, isA l x = false := fun x hx => by
  have hp := hI.1
  rw [h2, List.pairwise_append, List.pairwise_cons] at hp
  have := hp.2.1.1 x hx
  simp only [isA, Bool.and_eq_true, beq_iff_eq] at h1
  simp only [isA, Bool.and_eq_false_iff, beq_eq_false_iff_ne]
  left
  omega
 refine ⟨A, C, h2, ?_, h1, hA⟩
 rw [h2, List.filter_append, List.filter_cons, h1]
 simp only [Bool.not_true, Bool.false_eq_true, if_false]
 rw [List.filter_eq_self.2 (fun x hx => by rw [hA x hx]; rfl), List.filter_eq_self.2 (fun x hx => by rw [hC x hx]; rfl)]
theorem cnt_mid (A C : List Ak) (a : Ak) : cntN (A ++ a :: C) = cntN (A ++ C) + if a.ch then 0 else 1 := by
 unfold cntN
 rw [List.filter_append, List.filter_append, List.filter_cons]
 cases h : a.ch <;> simp [h] <;> omega
theorem insA_at (a : Ak) : ∀ (A C : List Ak), (A ++ a :: C).Pairwise (fun x y => x.sq < y.sq) → ∀ b : Ak, b.sq = a.sq → insA b (A ++ C) = A ++ b :: C
 | [], [], _, b, _ => rfl
 | [], x :: C, h, b, e => by
  rw [List.nil_append, List.pairwise_cons] at h
  have := h.1 x mc
  show insA b (x :: C) = _
  unfold insA
  rw [if_neg (by omega)]
  rfl
 | x :: A, C, h, b, e => by
  rw [List.cons_append, List.pairwise_cons] at h
  have := h.1 a (by simp)
  show insA b (x :: (A ++ C)) = _
  unfold insA
  rw [if_pos (by omega), insA_at a A C h.2 b e]
  rfl
theorem Cns.hear {B : Bt} {s : Ss} (h : Cns 0 s) (hI : Inc s) (hG : Gs B s) (l : Le) (hr : OkR l.r) : Cns 0 (hearF B s l).1 := by
 unfold hearF
 split
 ·exact h
 split
 ·exact h
 ·rename_i a ha
  have hm : a ∈ s.asks := List.mem_of_find?_eq_some ha
  have hg := hG.ak a hm
  obtain ⟨A, C, e1, e2, e3, e4⟩ := pick_split hI ha
  rw [e2]
  have hmem : ∀ x, x ∈ A ++ C → x ∈ s.asks := fun x hx => by
   rw [e1, List.mem_append, List.mem_cons]
   rw [List.mem_append] at hx
   rcases hx with hx | hx
   ·exact .inl hx
   ·exact .inr (.inr hx)
  have hcnt := cnt_mid A C a
  rw [← e1] at hcnt
  have hR : ∀ d, cntN (A ++ C) + d = cntN s.asks → Cns d { s with asks := A ++ C, np := (maxT (s.np, s.nl) (l.r.np, l.r.nl)).1, nl := (maxT (s.np, s.nl) (l.r.np, l.r.nl)).2 } := fun d hd =>
   ⟨h.op, h.act, h.stg, fun x hx hc => ⟨(h.aw x (hmem x hx) hc).k, (h.aw x (hmem x hx) hc).pl, (h.aw x (hmem x hx) hc).sp, (h.aw x (hmem x hx) hc).ap⟩, fun g => by
    have := h.left g
    exact ⟨by show ((cntN (A ++ C) + d : Nat) : Int) = s.left; rw [hd]; simpa using this.1, this.2⟩, fun g1 g2 => by
    have := h.one g1 g2
    show cntN (A ++ C) + d ≤ 1
    omega, fun x hx hc => ⟨(h.ch x (hmem x hx) hc).oc, (h.ch x (hmem x hx) hc).on⟩, h.so, h.ps⟩
  dsimp only
  by_cases hc : a.ch = true
  ·rw [if_pos hc]
   have hR0 := hR 0 (by rw [hcnt, hc]; simp)
   have hch := h.ch a hm hc
   unfold choreF
   split
   ·have hp := hI.1
    rw [e1] at hp
    have e5 : insA { a with rs := true } (A ++ C) = A ++ { a with rs := true } :: C := insA_at a A C hp _ rfl
    have e6 : ∀ x ∈ A ++ { a with rs := true } :: C, x = { a with rs := true } ∨ x ∈ A ++ C := fun x hx => by
     rw [List.mem_append, List.mem_cons] at hx
     rw [List.mem_append]
     rcases hx with hx | hx | hx
     ·exact .inr (.inl hx)
     ·exact .inl hx
     ·exact .inr (.inr hx)
    have e7 : cntN (A ++ { a with rs := true } :: C) = cntN (A ++ C) := by rw [cnt_mid]; simp [hc]
    refine ⟨hR0.op, hR0.act, hR0.stg, fun x hx hq => ?_, fun g => ?_, fun g1 g2 => ?_, fun x hx hq => ?_, hR0.so, hR0.ps⟩
    ·have hx' : x ∈ insA { a with rs := true } (A ++ C) := hx
     rw [e5] at hx'
     rcases e6 x hx' with rfl | h1
     ·have hq' : a.ch = false := hq
      rw [hc] at hq'
      cases hq'
     ·exact ⟨(hR0.aw x h1 hq).k, (hR0.aw x h1 hq).pl, (hR0.aw x h1 hq).sp, (hR0.aw x h1 hq).ap⟩
    ·show ((cntN (insA { a with rs := true } (A ++ C)) + 0 : Nat) : Int) = s.left ∧ s.left ≤ 8
     rw [e5, e7]
     exact hR0.left g
    ·show cntN (insA { a with rs := true } (A ++ C)) + 0 ≤ 1
     rw [e5, e7]
     exact hR0.one g1 g2
    ·have hx' : x ∈ insA { a with rs := true } (A ++ C) := hx
     rw [e5] at hx'
     rcases e6 x hx' with rfl | h1
     ·exact ⟨hch.oc, hch.on⟩
     ·exact ⟨(hR0.ch x h1 hq).oc, (hR0.ch x h1 hq).on⟩
   split
   ·exact hR0
   split
   ·exact hR0
   ·refine hR0.cho _ rfl ⟨hch.oc, fun g => absurd g (by show ¬ (9 : Int) = 5; decide)⟩
  rw [if_neg hc]
  have hc' : a.ch = false := by simpa using hc
  have hR1 := hR 1 (by rw [hcnt, hc']; simp)
  have ho : s.op.k ≠ 0 := fun e => by have := hG.no e a hm; rw [hc'] at this; cases this
  have haw := h.aw a hm hc'
  have hA1 : Awt { s with asks := A ++ C, np := (maxT (s.np, s.nl) (l.r.np, l.r.nl)).1, nl := (maxT (s.np, s.nl) (l.r.np, l.r.nl)).2 } a := ⟨haw.k, haw.pl, haw.sp, haw.ap⟩
  by_cases h1 : a.st = 1
  ·rw [if_pos h1]
   exact hR1.push ho a l.r hA1 h1 (hg.st (by omega)).2.1
  rw [if_neg h1]
  by_cases h2 : a.st = 2
  ·rw [if_pos h2]
   split
   ·exact hR1.stop _
   ·exact hR1.unl (B := B) ho a hA1 h2 (hg.st (by omega)).2.1
  rw [if_neg h2]
  have h0 : a.st = 0 := by have := hg.le; omega
  by_cases h3 : a.q.k ≤ 3
  ·rw [if_pos h3]
   exact hR1.ans ho a l.r hA1 h0 h3 hr
  ·rw [if_neg h3]
   exact hR1.dec ho a l.r hA1 h0 h3
theorem Cns.give {B : Bt} {s : Ss} (h : Cns 0 s) : Cns 0 (giveF B s).1 := by
 unfold giveF
 split
 ·exact h
 split
 ·exact h.fail 42
 split
 ·exact h.given 42
 ·exact h.over
theorem Cns.same {d : Nat} {s S : Ss} (h : Cns d s) (o : List Le) (e : S = { s with out := o }) : Cns d S := by
 subst e
 exact ⟨h.op, h.act, h.stg, fun x hx hc => ⟨(h.aw x hx hc).k, (h.aw x hx hc).pl, (h.aw x hx hc).sp, (h.aw x hx hc).ap⟩, h.left, h.one, fun x hx hc => ⟨(h.ch x hx hc).oc, (h.ch x hx hc).on⟩, h.so, h.ps⟩
theorem Cns.new (c n : Nat) : Cns 0 (Ss.new c n) := Cns.idle rfl (fun a ha => by cases ha) .nil
theorem Cns.start {s : Ss} (hno : ∀ a ∈ s.asks, a.ch = true) (h : Cns 0 s) (ha : s.act = true) (S : Ss) (e1 : S.asks = s.asks) (e2 : S.act = s.act) (e3 : S.ws = s.ws) (e4 : S.cl = s.cl) (e5 : S.n = s.n) (ho : S.op.k = 2 ∨ S.op.k = 3 ∨ S.op.k = 6) (hs : S.op.k = 6 → S.stg = 1) (d : Nat) (hl : S.op.k = 3 ∨ S.op.k = 6 → (d : Int) = S.left ∧ S.left ≤ 8) (hp : S.op.k = 3 → S.ps = []) : Cns d S := by
 have c0 : cntN S.asks = 0 := by rw [e1]; exact cnt_all hno
 refine ⟨.inr ho, fun _ => by rw [e2]; exact ha, fun g => .inl (hs g), fun x hx hc => ?_, fun g => ?_, fun g1 g2 => absurd (hs g1) g2, fun x hx hc => ?_, by rw [e3]; exact h.so, fun g => ?_⟩
 ·rw [e1] at hx
  rw [hno x hx] at hc
  cases hc
 ·rw [c0, Nat.zero_add]
  exact hl (g.elim .inl (fun g => .inr g.1))
 ·rw [e1] at hx
  exact ⟨by rw [e4]; exact (h.ch x hx hc).oc, by rw [e5, e2]; exact (h.ch x hx hc).on⟩
 ·rw [hp g]
  have := (hl (.inl g)).2
  exact ⟨by simp only [List.length_nil]; omega, fun p hp => by cases hp⟩
theorem Cns.scan (s0 : Ss) (o : Op) : ∀ m i s, s.op.k = 3 → s.sp = s0.sp → s.sl = s0.sl → Cns m s → Cns 0 (scanAsks s0 o m i s)
 | 0, _, s, _, _, _, h => h
 | m + 1, i, s, h3, h1, h2, h => by
  unfold scanAsks
  refine Cns.scan s0 o m (i + 1) _ h3 h1 h2 (h.ask (by rw [h3]; decide) _ rfl ⟨?_, fun _ => rfl, fun _ => ⟨h1.symm, h2.symm⟩, fun g => absurd (show (2 : Int) = 4 from g) (by decide)⟩)
  show (2 : Int) = knd s
  unfold knd
  rw [h3]
  rfl
theorem Cns.lay : ∀ l i s, s.op.k = 6 → s.stg = 1 → s.left + (l.length : Int) ≤ 8 → Cns 0 s → Cns 0 (layAsks l i s)
 | [], _, s, _, _, _, h => h
 | p :: l, i, s, h6, h1, hl, h => by
  unfold layAsks
  have hl' : s.left + ((l.length : Int) + 1) ≤ 8 := by simpa using hl
  by_cases hp : p.isEmpty = true
  ·rw [if_pos hp]
   exact Cns.lay l (i + 1) s h6 h1 (by omega) h
  ·rw [if_neg hp]
   refine Cns.lay l (i + 1) _ h6 h1 (by show s.left + 1 + (l.length : Int) ≤ 8; omega) ?_
   have hk : (3 : Int) = knd s := by unfold knd; rw [h6, h1]; rfl
   have hC : Cns 1 { s with left := s.left + 1 } := ⟨h.op, h.act, h.stg, fun x hx hc => ⟨(h.aw x hx hc).k, (h.aw x hx hc).pl, (h.aw x hx hc).sp, (h.aw x hx hc).ap⟩, fun g => by
    have := h.left g
    exact ⟨by show ((cntN s.asks + 1 : Nat) : Int) = s.left + 1; omega, by show s.left + 1 ≤ 8; omega⟩, fun _ g => absurd h1 g, fun x hx hc => ⟨(h.ch x hx hc).oc, (h.ch x hx hc).on⟩, h.so, fun g => absurd (h6.symm.trans g) (by decide)⟩
   exact hC.ask (by rw [h6]; decide) _ rfl ⟨hk, fun _ => rfl, fun _ => ⟨rfl, rfl⟩, fun g => absurd (show (3 : Int) = 4 from g) (by decide)⟩
theorem key_tri (a b : List UInt8) (h1 : ¬ a < b) (h2 : a ≠ b) : b < a := by
 rcases Decidable.em (b < a) with h | h
 ·exact h
 ·exact absurd (List.le_antisymm (show a ≤ b from h) (show b ≤ a from h1)) h2
theorem ins_sorted (w : Wr) : ∀ (l : List Wr), (l.Pairwise fun x y => x.key < y.key) → (∀ x ∈ l, x.key ≠ w.key) → (insW w l).Pairwise fun x y => x.key < y.key
 | [], _, _ => List.pairwise_singleton _ _
 | y :: l, h, hn => by
  rw [List.pairwise_cons] at h
  unfold insW
  split
  ·rename_i hlt
   rw [List.pairwise_cons]
   refine ⟨fun x hx => ?_, ins_sorted w l h.2 fun x hx => hn x (List.mem_cons_of_mem _ hx)⟩
   rcases insW_mem w l x hx with rfl | h1
   ·exact hlt
   ·exact h.1 x h1
  ·rename_i hlt
   have hy := key_tri _ _ hlt (hn y mc)
   rw [List.pairwise_cons, List.pairwise_cons]
   refine ⟨fun x hx => ?_, h⟩
   rw [List.mem_cons] at hx
   rcases hx with rfl | hx
   ·exact hy
   ·exact List.lt_trans hy (h.1 x hx)
theorem Cns.put {B : Bt} {s : Ss} (h : Cns 0 s) (h0 : s.op.k = 0) (hno : ∀ a ∈ s.asks, a.ch = true) (w : Wr) : Cns 0 (putF B s w).1 := by
 have hi : ∀ ws', (ws'.Pairwise fun x y : Wr => x.key < y.key) → Cns 0 { s with ws := ws' } := fun ws' k => Cns.idle h0 (fun a ha => ⟨hno a ha, (h.ch a ha (hno a ha)).oc, (h.ch a ha (hno a ha)).on⟩) k
 unfold putF
 split
 ·exact h
 split
 ·refine hi _ ?_
  rw [List.pairwise_map]
  refine h.so.imp fun {a b} hab => ?_
  have e : ∀ x : Wr, (if x.key == w.key then w else x).key = x.key := fun x => by
   split
   ·rename_i g; exact (beq_iff_eq.1 g).symm
   ·rfl
  rw [e, e]
  exact hab
 rename_i hl
 split
 ·exact h
 ·refine hi _ (ins_sorted w s.ws h.so fun x hx e => hl ?_)
  unfold lookF
  rw [List.find?_isSome]
  exact ⟨x, hx, by simp [e]⟩
theorem Cns.do {B : Bt} (G : B.Good) {s : Ss} (h : Cns 0 s) (hG : Gs B s) (phys : Nat) (o : Op) : Cns 0 (doF B s phys o).1 := by
 unfold doF
 by_cases h0 : s.op.k ≠ 0
 ·rw [if_pos h0]; exact h
 rw [if_neg h0]
 have h0' : s.op.k = 0 := by omega
 have hno := hG.no h0'
 split
 ·split
  ·exact h
  split
  ·exact h
  ·rename_i hac _
   refine Cns.idle h0' (fun a ha => ⟨hno a ha, (h.ch a ha (hno a ha)).oc, fun k => ?_⟩) .nil
   have := ((h.ch a ha (hno a ha)).on k).1
   exact ⟨by show a.on ≤ s.n + 1; omega, fun _ => by show a.on ≠ s.n + 1; omega⟩
 split
 ·exact h
 rename_i hac
 have hact : s.act = true := by simpa using hac
 split
 ·exact h.put h0' hno _
 split
 ·exact h.put h0' hno _
 split
 ·rename_i ho
  split
  ·exact h
  split
  ·exact h
  ·have hC : Cns 1 { s with op := o } := Cns.start hno h hact { s with op := o } rfl rfl rfl rfl rfl (.inl ho) (fun g => absurd (ho.symm.trans g) (by decide)) 1 (fun g => by rcases g with g | g <;> exact absurd (ho.symm.trans g) (by decide)) (fun g => absurd (ho.symm.trans g) (by decide))
   refine hC.ask (by show o.k ≠ 0; rw [ho]; decide) _ rfl ⟨?_, fun _ => rfl, fun _ => ⟨rfl, rfl⟩, fun g => absurd (show (1 : Int) = 4 from g) (by decide)⟩
   show (1 : Int) = knd { s with op := o }
   unfold knd
   rw [if_pos ho]
 split
 ·rename_i ho
  split
  ·exact h
  ·exact Cns.scan s o s.nsh 0 _ ho rfl rfl (Cns.start hno h hact { s with op := o, ps := [], left := s.nsh } rfl rfl rfl rfl rfl (.inr (.inl ho)) (fun g => absurd (ho.symm.trans g) (by decide)) s.nsh (fun _ => ⟨rfl, by have := hG.n.2; show (s.nsh : Int) ≤ 8; omega⟩) (fun _ => rfl))
 split
 ·rename_i ho
  unfold commitF
  split
  ·refine Cns.idle h0' (fun a ha => ⟨hno a ha, (h.ch a ha (hno a ha)).oc, fun k => ⟨((h.ch a ha (hno a ha)).on k).1, fun e => by cases e⟩⟩) h.so
  ·refine Cns.lay _ 0 _ ho rfl ?_ (Cns.start hno h hact { s with op := o, stg := 1, cp := 0, cll := 0, left := 0 } rfl rfl rfl rfl rfl (.inr (.inr ho)) (fun _ => rfl) 0 (fun _ => ⟨rfl, by show (0 : Int) ≤ 8; decide⟩) (fun g => absurd (ho.symm.trans g) (by decide)))
   show (0 : Int) + ((B.parts s.ws s.nsh).length : Int) ≤ 8
   have h1 := G.plen s.ws s.nsh
   have h2 := hG.n.2
   omega
 split
 ·refine Cns.idle h0' (fun a ha => ⟨hno a ha, (h.ch a ha (hno a ha)).oc, fun k => ⟨((h.ch a ha (hno a ha)).on k).1, fun e => by cases e⟩⟩) h.so
 ·exact h
end Go.Proofs.YtkdkgdollmmcnaaGreat
