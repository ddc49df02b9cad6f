import Derived.Test.YtkdkgdollmmcnaaGreatWbb
set_option maxHeartbeats 4000000
set_option maxRecDepth 100000
set_option linter.unusedVariables false
set_option linter.unusedSimpArgs false
namespace Go.Proofs.YtkdkgdollmmcnaaGreat
theorem pick_split {s : Ss} (hI : Inc s) {l : Le} {a : Ak} (h : pickA l s.asks = some a) : ∃ A C, s.asks = A ++ a :: C ∧ s.asks.filter (fun x => !isA l x) = A ++ C ∧ isA l a = true ∧ ∀ x ∈ A, isA l x = false := by
 obtain ⟨h1, A, C, h2, h3⟩ := List.find?_eq_some_iff_append.1 h
 have hA : ∀ x ∈ A, isA l x = false := fun x hx => by simpa using h3 x hx
 have hC : ∀ x ∈ C, isA l x = false := fun x hx => by
  have hp := hI.1
  rw [h2, List.pairwise_append, List.pairwise_cons] at hp
  have := hp.2.1.1 x hx
  simp only [isA, Bool.and_eq_true, beq_iff_eq] at h1
  simp only [isA, Bool.and_eq_false_iff, beq_eq_false_iff_ne]
  left
  omega
 refine ⟨A, C, h2, ?_, h1, hA⟩
 rw [h2, List.filter_append, List.filter_cons, h1]
 simp only [Bool.not_true, Bool.false_eq_true, if_false]
 rw [List.filter_eq_self.2 (fun x hx => by rw [hA x hx]; rfl), List.filter_eq_self.2 (fun x hx => by rw [hC x hx]; rfl)]
theorem cnt_mid (A C : List Ak) (a : Ak) : cntN (A ++ a :: C) = cntN (A ++ C) + if a.ch then 0 else 1 := by
 unfold cntN
 rw [List.filter_append, List.filter_append, List.filter_cons]
 cases h : a.ch <;> simp [h] <;> omega
theorem insA_at (a : Ak) : ∀ (A C : List Ak), (A ++ a :: C).Pairwise (fun x y => x.sq < y.sq) → ∀ b : Ak, b.sq = a.sq → insA b (A ++ C) = A ++ b :: C
 | [], [], _, b, _ => rfl
 | [], x :: C, h, b, e => by
  rw [List.nil_append, List.pairwise_cons] at h
  have := h.1 x mc
  show insA b (x :: C) = _
  unfold insA
  rw [if_neg (by omega)]
  rfl
 | x :: A, C, h, b, e => by
  rw [List.cons_append, List.pairwise_cons] at h
  have := h.1 a (by simp)
  show insA b (x :: (A ++ C)) = _
  unfold insA
  rw [if_pos (by omega), insA_at a A C h.2 b e]
  rfl
theorem Cns.hear {B : Bt} {s : Ss} (h : Cns 0 s) (hI : Inc s) (hG : Gs B s) (l : Le) (hr : OkR l.r) : Cns 0 (hearF B s l).1 := by
 unfold hearF
 split
 ·exact h
 split
 ·exact h
 ·rename_i a ha
  have hm : a ∈ s.asks := List.mem_of_find?_eq_some ha
  have hg := hG.ak a hm
  obtain ⟨A, C, e1, e2, e3, e4⟩ := pick_split hI ha
  rw [e2]
  have hmem : ∀ x, x ∈ A ++ C → x ∈ s.asks := fun x hx => by
   rw [e1, List.mem_append, List.mem_cons]
   rw [List.mem_append] at hx
   rcases hx with hx | hx
   ·exact .inl hx
   ·exact .inr (.inr hx)
  have hcnt := cnt_mid A C a
  rw [← e1] at hcnt
  have hR : ∀ d, cntN (A ++ C) + d = cntN s.asks → Cns d { s with asks := A ++ C, np := (maxT (s.np, s.nl) (l.r.np, l.r.nl)).1, nl := (maxT (s.np, s.nl) (l.r.np, l.r.nl)).2 } := fun d hd =>
   ⟨h.op, h.act, h.stg, fun x hx hc => ⟨(h.aw x (hmem x hx) hc).k, (h.aw x (hmem x hx) hc).pl, (h.aw x (hmem x hx) hc).sp, (h.aw x (hmem x hx) hc).ap⟩, fun g => by
    have := h.left g
    exact ⟨by show ((cntN (A ++ C) + d : Nat) : Int) = s.left; rw [hd]; simpa using this.1, this.2⟩, fun g1 g2 => by
    have := h.one g1 g2
    show cntN (A ++ C) + d ≤ 1
    omega, fun x hx hc => ⟨(h.ch x (hmem x hx) hc).oc, (h.ch x (hmem x hx) hc).on⟩, h.so, h.ps⟩
  dsimp only
  by_cases hc : a.ch = true
  ·rw [if_pos hc]
   have hR0 := hR 0 (by rw [hcnt, hc]; simp)
   have hch := h.ch a hm hc
   unfold choreF
   split
   ·have hp := hI.1
    rw [e1] at hp
    have e5 : insA { a with rs := true } (A ++ C) = A ++ { a with rs := true } :: C := insA_at a A C hp _ rfl
    have e6 : ∀ x ∈ A ++ { a with rs := true } :: C, x = { a with rs := true } ∨ x ∈ A ++ C := fun x hx => by
     rw [List.mem_append, List.mem_cons] at hx
     rw [List.mem_append]
     rcases hx with hx | hx | hx
     ·exact .inr (.inl hx)
     ·exact .inl hx
     ·exact .inr (.inr hx)
    have e7 : cntN (A ++ { a with rs := true } :: C) = cntN (A ++ C) := by rw [cnt_mid]; simp [hc]
    refine ⟨hR0.op, hR0.act, hR0.stg, fun x hx hq => ?_, fun g => ?_, fun g1 g2 => ?_, fun x hx hq => ?_, hR0.so, hR0.ps⟩
    ·have hx' : x ∈ insA { a with rs := true } (A ++ C) := hx
     rw [e5] at hx'
     rcases e6 x hx' with rfl | h1
     ·have hq' : a.ch = false := hq
      rw [hc] at hq'
      cases hq'
     ·exact ⟨(hR0.aw x h1 hq).k, (hR0.aw x h1 hq).pl, (hR0.aw x h1 hq).sp, (hR0.aw x h1 hq).ap⟩
    ·show ((cntN (insA { a with rs := true } (A ++ C)) + 0 : Nat) : Int) = s.left ∧ s.left ≤ 8
     rw [e5, e7]
     exact hR0.left g
    ·show cntN (insA { a with rs := true } (A ++ C)) + 0 ≤ 1
     rw [e5, e7]
     exact hR0.one g1 g2
    ·have hx' : x ∈ insA { a with rs := true } (A ++ C) := hx
     rw [e5] at hx'
     rcases e6 x hx' with rfl | h1
     ·exact ⟨hch.oc, hch.on⟩
     ·exact ⟨(hR0.ch x h1 hq).oc, (hR0.ch x h1 hq).on⟩
   split
   ·exact hR0
   split
   ·exact hR0
   ·refine hR0.cho _ rfl ⟨hch.oc, fun g => absurd g (by show ¬ (9 : Int) = 5; decide)⟩
  rw [if_neg hc]
  have hc' : a.ch = false := by simpa using hc
  have hR1 := hR 1 (by rw [hcnt, hc']; simp)
  have ho : s.op.k ≠ 0 := fun e => by have := hG.no e a hm; rw [hc'] at this; cases this
  have haw := h.aw a hm hc'
  have hA1 : Awt { s with asks := A ++ C, np := (maxT (s.np, s.nl) (l.r.np, l.r.nl)).1, nl := (maxT (s.np, s.nl) (l.r.np, l.r.nl)).2 } a := ⟨haw.k, haw.pl, haw.sp, haw.ap⟩
  by_cases h1 : a.st = 1
  ·rw [if_pos h1]
   exact hR1.push ho a l.r hA1 h1 (hg.st (by omega)).2.1
  rw [if_neg h1]
  by_cases h2 : a.st = 2
  ·rw [if_pos h2]
   split
   ·exact hR1.stop _
   ·exact hR1.unl (B := B) ho a hA1 h2 (hg.st (by omega)).2.1
  rw [if_neg h2]
  have h0 : a.st = 0 := by have := hg.le; omega
  by_cases h3 : a.q.k ≤ 3
  ·rw [if_pos h3]
   exact hR1.ans ho a l.r hA1 h0 h3 hr
  ·rw [if_neg h3]
   exact hR1.dec ho a l.r hA1 h0 h3
theorem Cns.give {B : Bt} {s : Ss} (h : Cns 0 s) : Cns 0 (giveF B s).1 := by
 unfold giveF
 split
 ·exact h
 split
 ·exact h.fail 42
 split
 ·exact h.given 42
 ·exact h.over
theorem Cns.same {d : Nat} {s S : Ss} (h : Cns d s) (o : List Le) (e : S = { s with out := o }) : Cns d S := by
 subst e
 exact ⟨h.op, h.act, h.stg, fun x hx hc => ⟨(h.aw x hx hc).k, (h.aw x hx hc).pl, (h.aw x hx hc).sp, (h.aw x hx hc).ap⟩, h.left, h.one, fun x hx hc => ⟨(h.ch x hx hc).oc, (h.ch x hx hc).on⟩, h.so, h.ps⟩
theorem Cns.new (c n : Nat) : Cns 0 (Ss.new c n) := Cns.idle rfl (fun a ha => by cases ha) .nil
theorem Cns.start {s : Ss} (hno : ∀ a ∈ s.asks, a.ch = true) (h : Cns 0 s) (ha : s.act = true) (S : Ss) (e1 : S.asks = s.asks) (e2 : S.act = s.act) (e3 : S.ws = s.ws) (e4 : S.cl = s.cl) (e5 : S.n = s.n) (ho : S.op.k = 2 ∨ S.op.k = 3 ∨ S.op.k = 6) (hs : S.op.k = 6 → S.stg = 1) (d : Nat) (hl : S.op.k = 3 ∨ S.op.k = 6 → (d : Int) = S.left ∧ S.left ≤ 8) (hp : S.op.k = 3 → S.ps = []) : Cns d S := by
 have c0 : cntN S.asks = 0 := by rw [e1]; exact cnt_all hno
 refine ⟨.inr ho, fun _ => by rw [e2]; exact ha, fun g => .inl (hs g), fun x hx hc => ?_, fun g => ?_, fun g1 g2 => absurd (hs g1) g2, fun x hx hc => ?_, by rw [e3]; exact h.so, fun g => ?_⟩
 ·rw [e1] at hx
  rw [hno x hx] at hc
  cases hc
 ·rw [c0, Nat.zero_add]
  exact hl (g.elim .inl (fun g => .inr g.1))
 ·rw [e1] at hx
  exact ⟨by rw [e4]; exact (h.ch x hx hc).oc, by rw [e5, e2]; exact (h.ch x hx hc).on⟩
 ·rw [hp g]
  have := (hl (.inl g)).2
  exact ⟨by simp only [List.length_nil]; omega, fun p hp => by cases hp⟩
theorem Cns.scan (s0 : Ss) (o : Op) : ∀ m i s, s.op.k = 3 → s.sp = s0.sp → s.sl = s0.sl → Cns m s → Cns 0 (scanAsks s0 o m i s)
 | 0, _, s, _, _, _, h => h
 | m + 1, i, s, h3, h1, h2, h => by
  unfold scanAsks
  refine Cns.scan s0 o m (i + 1) _ h3 h1 h2 (h.ask (by rw [h3]; decide) _ rfl ⟨?_, fun _ => rfl, fun _ => ⟨h1.symm, h2.symm⟩, fun g => absurd (show (2 : Int) = 4 from g) (by decide)⟩)
  show (2 : Int) = knd s
  unfold knd
  rw [h3]
  rfl
theorem Cns.lay : ∀ l i s, s.op.k = 6 → s.stg = 1 → s.left + (l.length : Int) ≤ 8 → Cns 0 s → Cns 0 (layAsks l i s)
 | [], _, s, _, _, _, h => h
 | p :: l, i, s, h6, h1, hl, h => by
  unfold layAsks
  have hl' : s.left + ((l.length : Int) + 1) ≤ 8 := by simpa using hl
  by_cases hp : p.isEmpty = true
  ·rw [if_pos hp]
   exact Cns.lay l (i + 1) s h6 h1 (by omega) h
  ·rw [if_neg hp]
   refine Cns.lay l (i + 1) _ h6 h1 (by show s.left + 1 + (l.length : Int) ≤ 8; omega) ?_
   have hk : (3 : Int) = knd s := by unfold knd; rw [h6, h1]; rfl
   have hC : Cns 1 { s with left := s.left + 1 } := ⟨h.op, h.act, h.stg, fun x hx hc => ⟨(h.aw x hx hc).k, (h.aw x hx hc).pl, (h.aw x hx hc).sp, (h.aw x hx hc).ap⟩, fun g => by
    have := h.left g
    exact ⟨by show ((cntN s.asks + 1 : Nat) : Int) = s.left + 1; omega, by show s.left + 1 ≤ 8; omega⟩, fun _ g => absurd h1 g, fun x hx hc => ⟨(h.ch x hx hc).oc, (h.ch x hx hc).on⟩, h.so, fun g => absurd (h6.symm.trans g) (by decide)⟩
   exact hC.ask (by rw [h6]; decide) _ rfl ⟨hk, fun _ => rfl, fun _ => ⟨rfl, rfl⟩, fun g => absurd (show (3 : Int) = 4 from g) (by decide)⟩
theorem key_tri (a b : List UInt8) (h1 : ¬ a < b) (h2 : a ≠ b) : b < a := by
 rcases Decidable.em (b < a) with h | h
 ·exact h
 ·exact absurd (List.le_antisymm (show a ≤ b from h) (show b ≤ a from h1)) h2
theorem ins_sorted (w : Wr) : ∀ (l : List Wr), (l.Pairwise fun x y => x.key < y.key) → (∀ x ∈ l, x.key ≠ w.key) → (insW w l).Pairwise fun x y => x.key < y.key
 | [], _, _ => List.pairwise_singleton _ _
 | y :: l, h, hn => by
  rw [List.pairwise_cons] at h
  unfold insW
  split
  ·rename_i hlt
   rw [List.pairwise_cons]
   refine ⟨fun x hx => ?_, ins_sorted w l h.2 fun x hx => hn x (List.mem_cons_of_mem _ hx)⟩
   rcases insW_mem w l x hx with rfl | h1
   ·exact hlt
   ·exact h.1 x h1
  ·rename_i hlt
   have hy := key_tri _ _ hlt (hn y mc)
   rw [List.pairwise_cons, List.pairwise_cons]
   refine ⟨fun x hx => ?_, h⟩
   rw [List.mem_cons] at hx
   rcases hx with rfl | hx
   ·exact hy
   ·exact List.lt_trans hy (h.1 x hx)
theorem Cns.put {B : Bt} {s : Ss} (h : Cns 0 s) (h0 : s.op.k = 0) (hno : ∀ a ∈ s.asks, a.ch = true) (w : Wr) : Cns 0 (putF B s w).1 := by
 have hi : ∀ ws', (ws'.Pairwise fun x y : Wr => x.key < y.key) → Cns 0 { s with ws := ws' } := fun ws' k => Cns.idle h0 (fun a ha => ⟨hno a ha, (h.ch a ha (hno a ha)).oc, (h.ch a ha (hno a ha)).on⟩) k
 unfold putF
 split
 ·exact h
 split
 ·refine hi _ ?_
  rw [List.pairwise_map]
  refine h.so.imp fun {a b} hab => ?_
  have e : ∀ x : Wr, (if x.key == w.key then w else x).key = x.key := fun x => by
   split
   ·rename_i g; exact (beq_iff_eq.1 g).symm
   ·rfl
  rw [e, e]
  exact hab
 rename_i hl
 split
 ·exact h
 ·refine hi _ (ins_sorted w s.ws h.so fun x hx e => hl ?_)
  unfold lookF
  rw [List.find?_isSome]
  exact ⟨x, hx, by simp [e]⟩
theorem Cns.do {B : Bt} (G : B.Good) {s : Ss} (h : Cns 0 s) (hG : Gs B s) (phys : Nat) (o : Op) : Cns 0 (doF B s phys o).1 := by
 unfold doF
 by_cases h0 : s.op.k ≠ 0
 ·rw [if_pos h0]; exact h
 rw [if_neg h0]
 have h0' : s.op.k = 0 := by omega
 have hno := hG.no h0'
 split
 ·split
  ·exact h
  split
  ·exact h
  ·rename_i hac _
   refine Cns.idle h0' (fun a ha => ⟨hno a ha, (h.ch a ha (hno a ha)).oc, fun k => ?_⟩) .nil
   have := ((h.ch a ha (hno a ha)).on k).1
   exact ⟨by show a.on ≤ s.n + 1; omega, fun _ => by show a.on ≠ s.n + 1; omega⟩
 split
 ·exact h
 rename_i hac
 have hact : s.act = true := by simpa using hac
 split
 ·exact h.put h0' hno _
 split
 ·exact h.put h0' hno _
 split
 ·rename_i ho
  split
  ·exact h
  split
  ·exact h
  ·have hC : Cns 1 { s with op := o } := Cns.start hno h hact { s with op := o } rfl rfl rfl rfl rfl (.inl ho) (fun g => absurd (ho.symm.trans g) (by decide)) 1 (fun g => by rcases g with g | g <;> exact absurd (ho.symm.trans g) (by decide)) (fun g => absurd (ho.symm.trans g) (by decide))
   refine hC.ask (by show o.k ≠ 0; rw [ho]; decide) _ rfl ⟨?_, fun _ => rfl, fun _ => ⟨rfl, rfl⟩, fun g => absurd (show (1 : Int) = 4 from g) (by decide)⟩
   show (1 : Int) = knd { s with op := o }
   unfold knd
   rw [if_pos ho]
 split
 ·rename_i ho
  split
  ·exact h
  ·exact Cns.scan s o s.nsh 0 _ ho rfl rfl (Cns.start hno h hact { s with op := o, ps := [], left := s.nsh } rfl rfl rfl rfl rfl (.inr (.inl ho)) (fun g => absurd (ho.symm.trans g) (by decide)) s.nsh (fun _ => ⟨rfl, by have := hG.n.2; show (s.nsh : Int) ≤ 8; omega⟩) (fun _ => rfl))
 split
 ·rename_i ho
  unfold commitF
  split
  ·refine Cns.idle h0' (fun a ha => ⟨hno a ha, (h.ch a ha (hno a ha)).oc, fun k => ⟨((h.ch a ha (hno a ha)).on k).1, fun e => by cases e⟩⟩) h.so
  ·refine Cns.lay _ 0 _ ho rfl ?_ (Cns.start hno h hact { s with op := o, stg := 1, cp := 0, cll := 0, left := 0 } rfl rfl rfl rfl rfl (.inr (.inr ho)) (fun _ => rfl) 0 (fun _ => ⟨rfl, by show (0 : Int) ≤ 8; decide⟩) (fun g => absurd (ho.symm.trans g) (by decide)))
   show (0 : Int) + ((B.parts s.ws s.nsh).length : Int) ≤ 8
   have h1 := G.plen s.ws s.nsh
   have h2 := hG.n.2
   omega
 split
 ·refine Cns.idle h0' (fun a ha => ⟨hno a ha, (h.ch a ha (hno a ha)).oc, fun k => ⟨((h.ch a ha (hno a ha)).on k).1, fun e => by cases e⟩⟩) h.so
 ·exact h
structure Gw (k : Nat) (s S : Ss) : Prop where
 sq : S.sq ≤ s.sq + k
 la : S.asks.length ≤ s.asks.length + k
 lo : S.out.length ≤ s.out.length + k
theorem Gw.same {s S : Ss} (h1 : S.sq = s.sq) (h2 : S.asks.length ≤ s.asks.length) (h3 : S.out = s.out) : Gw 0 s S := ⟨by omega, by omega, by rw [h3]; omega⟩
theorem Gw.refl (s : Ss) : Gw 0 s s := Gw.same rfl (Nat.le_refl _) rfl
theorem Gw.trans {a b : Nat} {s S T : Ss} (h : Gw a s S) (g : Gw b S T) : Gw (a + b) s T := ⟨by have := h.sq; have := g.sq; omega, by have := h.la; have := g.la; omega, by have := h.lo; have := g.lo; omega⟩
theorem Gw.le {a b : Nat} {s S : Ss} (h : Gw a s S) (hab : a ≤ b) : Gw b s S := ⟨by have := h.sq; omega, by have := h.la; omega, by have := h.lo; omega⟩
theorem Gw.to {a : Nat} {s S T : Ss} (h : Gw a s S) (h1 : T.sq = S.sq) (h2 : T.asks = S.asks) (h3 : T.out = S.out) : Gw a s T := ⟨by rw [h1]; exact h.sq, by rw [h2]; exact h.la, by rw [h3]; exact h.lo⟩
theorem Gw.from {a : Nat} {s S T : Ss} (h : Gw a s S) (h1 : s.sq = T.sq) (h2 : s.asks = T.asks) (h3 : s.out = T.out) : Gw a T S := ⟨by rw [← h1]; exact h.sq, by rw [← h2]; exact h.la, by rw [← h3]; exact h.lo⟩
theorem ask_gw (s : Ss) (a : Ak) : Gw 1 s (askF s a) := ⟨Nat.le_refl _, by show (s.asks ++ [_]).length ≤ _; rw [List.length_append]; exact Nat.le_refl _, by show (s.out ++ [_]).length ≤ _; rw [List.length_append]; exact Nat.le_refl _⟩
theorem drop_gw (s : Ss) : Gw 0 s (dropF s) := Gw.same rfl (List.length_filter_le _ _) rfl
theorem Gw.s9 {s S : Ss} (h1 : S.sq = s.sq) (h2 : S.asks.length ≤ s.asks.length) (h3 : S.out = s.out) : Gw 9 s S := (Gw.same h1 h2 h3).le (by omega)
theorem Gw.a9 {s T : Ss} {a : Ak} (h1 : T.sq = s.sq) (h2 : T.asks = s.asks) (h3 : T.out = s.out) : Gw 9 s (askF T a) := ((ask_gw T a).from h1 h2 h3).le (by omega)
theorem scan_gw (s0 : Ss) (o : Op) : ∀ m i s, Gw m s (scanAsks s0 o m i s)
 | 0, _, s => Gw.refl s
 | m + 1, i, s => ((ask_gw s _).trans (scan_gw s0 o m (i + 1) _)).le (by omega)
theorem lay_gw : ∀ l i s, Gw l.length s (layAsks l i s)
 | [], _, s => Gw.refl s
 | p :: l, i, s => by
  unfold layAsks
  refine Gw.le (Gw.trans (a := 1) ?_ (lay_gw l (i + 1) _)) (by simp only [List.length_cons]; omega)
  split
  ·exact (Gw.refl s).le (by omega)
  ·exact (ask_gw s _).to rfl rfl rfl
theorem chores_gw (q : Rq) (but : Option Nat) (h : Nat) : ∀ l i s, Gw l.length s (choresF q but h l i s).1
 | [], _, s => Gw.refl s
 | p :: l, i, s => by
  unfold choresF
  split
  ·exact ((ask_gw s _).trans (chores_gw q but h l (i + 1) _)).le (by simp only [List.length_cons]; omega)
  ·exact (chores_gw q but h l (i + 1) s).le (by simp only [List.length_cons]; omega)
theorem given_gw (B : Bt) (s : Ss) (e : Int) : Gw (B.parts s.ws s.nsh).length s (givenF B s e).1 := by
 have h := (drop_gw s).trans (chores_gw { zQ with k := 6, c := s.cl, n := s.n, sp := s.sp, sl := s.sl } none (homeF B s (priF s)) (B.parts s.ws s.nsh) 0 (dropF s))
 rw [Nat.zero_add] at h
 exact h.to rfl rfl rfl
theorem comm_gw (B : Bt) (s : Ss) (ap al : Nat) : Gw ((B.parts s.ws s.nsh).length + 1) s (commF B s ap al).1 := by
 have hd : ∀ (R : Ss × Nat) (c n h : Nat) (k : Nat), Gw k s R.1 → Gw (k + 1) s { (if R.2 = 0 then doneF R.1 c n h else R.1) with act := false } := fun R c n h k g => by
  split
  ·exact (g.trans (ask_gw R.1 _)).to rfl rfl rfl
  ·exact Gw.le (a := k) (g.to rfl rfl rfl) (by omega)
 refine hd (choresF { zQ with k := 5, c := s.cl, n := s.n, ap := ap, al := al } (some (homeF B s (priF s))) (homeF B s (priF s)) (B.parts s.ws s.nsh) 0 { dropF s with np := (maxT (s.np, s.nl) (ap, al)).1, nl := (maxT (s.np, s.nl) (ap, al)).2 }) s.cl s.n (homeF B s (priF s)) _ ?_
 exact (((drop_gw s).to (T := { dropF s with np := (maxT (s.np, s.nl) (ap, al)).1, nl := (maxT (s.np, s.nl) (ap, al)).2 }) rfl rfl rfl).trans (chores_gw _ _ _ _ _ _)).le (by omega)
section
variable {B : Bt} {s : Ss}
theorem Gs.pl (G : B.Good) (h : Gs B s) : (B.parts s.ws s.nsh).length ≤ 8 := by
 have h1 := G.plen s.ws s.nsh
 have h2 := h.n.2
 omega
theorem stop_gw (hp : (B.parts s.ws s.nsh).length ≤ 8) (e : Int) : Gw 9 s (stopF B s e).1 := by
 unfold stopF
 split
 ·exact (given_gw B s e).le (by omega)
 ·exact (drop_gw s).le (by omega)
theorem push_gw (hp : (B.parts s.ws s.nsh).length ≤ 8) (a : Ak) (r : Rp) : Gw 9 s (pushF B s a r).1 := by
 unfold pushF
 split
 ·exact (ask_gw s _).le (by omega)
 split
 ·exact (ask_gw s _).le (by omega)
 split
 ·split
  ·exact (given_gw B s 40).le (by omega)
  split
  ·exact (drop_gw s).le (by omega)
  ·exact (ask_gw s _).le (by omega)
 ·exact stop_gw hp _
theorem ans_gw (hp : (B.parts s.ws s.nsh).length ≤ 8) (a : Ak) (r : Rp) : Gw 9 s (ansF B s a r).1 := by
 unfold ansF
 split
 ·unfold lockF
  split
  ·exact stop_gw hp 1
  ·exact (ask_gw s _).le (by omega)
 split
 ·exact (drop_gw s).le (by omega)
 split
 ·dsimp only
  split
  ·exact Gw.s9 rfl (Nat.le_refl _) rfl
  ·exact Gw.s9 rfl (List.length_filter_le _ _) rfl
 split
 ·dsimp only
  split
  ·exact Gw.a9 rfl rfl rfl
  ·exact Gw.s9 rfl (Nat.le_refl _) rfl
 split
 ·exact (given_gw B s 40).le (by omega)
 split
 ·exact (given_gw B s 12).le (by omega)
 ·exact stop_gw hp _
theorem dec_gw (hp : (B.parts s.ws s.nsh).length ≤ 8) (r : Rp) : Gw 9 s (decF B s r).1 := by
 unfold decF
 split
 ·exact (comm_gw B s _ _).le (by omega)
 split
 ·exact (given_gw B s _).le (by omega)
 split
 ·exact (given_gw B s _).le (by omega)
 split
 ·exact Gw.a9 rfl rfl rfl
 ·split
  ·exact Gw.a9 rfl rfl rfl
  ·exact (ask_gw _ _).le (by omega)
theorem insA_len (a : Ak) : ∀ l : List Ak, (insA a l).length = l.length + 1
 | [] => rfl
 | x :: l => by
  unfold insA
  split
  ·rw [List.length_cons, insA_len a l, List.length_cons]
  ·rfl
theorem chore_gw (a : Ak) (r : Rp) : Gw 9 s (choreF s a r) := by
 unfold choreF
 split
 ·exact ⟨by show s.sq ≤ s.sq + 9; omega, by show (insA _ s.asks).length ≤ _; rw [insA_len]; omega, by show s.out.length ≤ _; omega⟩
 split
 ·exact (Gw.refl s).le (by omega)
 split
 ·exact (Gw.refl s).le (by omega)
 ·exact (ask_gw s _).le (by omega)
theorem hear_gw (hp : (B.parts s.ws s.nsh).length ≤ 8) (l : Le) : Gw 9 s (hearF B s l).1 := by
 unfold hearF
 split
 ·exact (Gw.refl s).le (by omega)
 split
 ·exact (Gw.refl s).le (by omega)
 ·rename_i a ha
  dsimp only
  have h0 : Gw 0 s { s with asks := s.asks.filter (fun x => !isA l x), np := (maxT (s.np, s.nl) (l.r.np, l.r.nl)).1, nl := (maxT (s.np, s.nl) (l.r.np, l.r.nl)).2 } := Gw.same rfl (List.length_filter_le _ _) rfl
  have ht : ∀ {S : Ss}, Gw 9 { s with asks := s.asks.filter (fun x => !isA l x), np := (maxT (s.np, s.nl) (l.r.np, l.r.nl)).1, nl := (maxT (s.np, s.nl) (l.r.np, l.r.nl)).2 } S → Gw 9 s S := fun g => (h0.trans g).le (by omega)
  split
  ·exact ht (chore_gw a l.r)
  split
  ·exact ht (push_gw (s := restF s l) hp a l.r)
  split
  ·split
   ·exact ht (stop_gw (s := restF s l) hp _)
   ·exact ht ((ask_gw _ _).le (by omega))
  split
  ·exact ht (ans_gw (s := restF s l) hp a l.r)
  ·exact ht (dec_gw (s := restF s l) hp l.r)
theorem give_gw (hp : (B.parts s.ws s.nsh).length ≤ 8) : Gw 9 s (giveF B s).1 := by
 unfold giveF
 split
 ·exact (Gw.refl s).le (by omega)
 split
 ·exact (drop_gw s).le (by omega)
 split
 ·exact (given_gw B s 42).le (by omega)
 ·exact Gw.s9 rfl (List.length_filter_le _ _) rfl
theorem do_gw (hp : (B.parts s.ws s.nsh).length ≤ 8) (hn : s.nsh ≤ 8) (phys : Nat) (o : Op) : Gw 9 s (doF B s phys o).1 := by
 have hput : ∀ w, Gw 9 s (putF B s w).1 := fun w => by
  unfold putF
  split
  ·exact (Gw.refl s).le (by omega)
  split
  ·exact Gw.s9 rfl (Nat.le_refl _) rfl
  split
  ·exact (Gw.refl s).le (by omega)
  ·exact Gw.s9 rfl (Nat.le_refl _) rfl
 unfold doF
 split
 ·exact (Gw.refl s).le (by omega)
 split
 ·split
  ·exact (Gw.refl s).le (by omega)
  split
  ·exact (Gw.refl s).le (by omega)
  ·exact Gw.s9 rfl (Nat.le_refl _) rfl
 split
 ·exact (Gw.refl s).le (by omega)
 split
 ·exact hput _
 split
 ·exact hput _
 split
 ·split
  ·exact (Gw.refl s).le (by omega)
  split
  ·exact (Gw.refl s).le (by omega)
  ·exact Gw.a9 rfl rfl rfl
 split
 ·split
  ·exact (Gw.refl s).le (by omega)
  ·exact Gw.le (a := s.nsh) ((scan_gw s o _ _ _).from rfl rfl rfl) (by omega)
 split
 ·unfold commitF
  split
  ·exact Gw.s9 rfl (Nat.le_refl _) rfl
  ·exact Gw.le (a := (B.parts s.ws s.nsh).length) ((lay_gw _ _ _).from rfl rfl rfl) (by omega)
 split
 ·exact Gw.s9 rfl (Nat.le_refl _) rfl
 ·exact (Gw.refl s).le (by omega)
end
theorem do_n (B : Bt) (s : Ss) (phys : Nat) (o : Op) : (doF B s phys o).1.n ≤ s.n + 1 := by
 by_cases h : o.k = 1
 ·unfold doF
  split
  ·exact Nat.le_succ _
  split
  ·exact Nat.le_succ _
  split
  ·exact Nat.le_succ _
  ·exact Nat.le_refl _
 ·have hput : ∀ w, (putF B s w).1.n = s.n := fun w => by
   unfold putF
   split
   ·rfl
   split
   ·rfl
   split <;> rfl
  unfold doF
  split
  ·exact Nat.le_succ _
  split
  ·exact Nat.le_succ _
  split
  ·rw [hput]; exact Nat.le_succ _
  split
  ·rw [hput]; exact Nat.le_succ _
  split
  ·split
   ·exact Nat.le_succ _
   split
   ·exact Nat.le_succ _
   ·exact Nat.le_succ _
  split
  ·split
   ·exact Nat.le_succ _
   ·rw [(scan_st s o _ _ _).2.2.1]; exact Nat.le_succ _
  split
  ·unfold commitF
   split
   ·exact Nat.le_succ _
   ·rw [(lay_st _ _ _).2.2.1]; exact Nat.le_succ _
  split
  ·exact Nat.le_succ _
  ·exact Nat.le_succ _
theorem home_some {k : List UInt8} {n h : Nat} (e : bt.home k n = some h) : Pla.shardF k (n : Int) = ((h : Int), 0) ∧ h < n := by
 unfold bt at e
 dsimp only at e
 split at e
 ·rename_i h0
  injection e with e
  obtain ⟨h1, h2⟩ := Pla.shard_range k (n : Int) h0
  have : ((Pla.shardF k (n : Int)).1.toNat : Int) = (Pla.shardF k (n : Int)).1 := Int.toNat_of_nonneg h1
  subst e
  refine ⟨Prod.ext this.symm h0, by omega⟩
 ·cases e
theorem home_is {k : List UInt8} {n h : Nat} (e : Pla.shardF k (n : Int) = ((h : Int), 0)) : bt.home k n = some h := by
 unfold bt
 dsimp only
 rw [e]
 rfl
theorem home_key {k : List UInt8} (h : kOk k = true) (n : Nat) (h1 : 1 ≤ n) (h2 : n ≤ 8) : (bt.home k n).isSome = true := by
 unfold bt
 dsimp only
 rcases Pla.shard_code k (n : Int) with ⟨e, -⟩ | ⟨-, e⟩
 ·rw [if_pos e]; rfl
 ·exact absurd ⟨h, by omega, by omega⟩ e
theorem kOk_len {k : List UInt8} (h : kOk k = true) : k.length ≤ 32 := by
 unfold kOk at h
 simp only [Bool.and_eq_true, decide_eq_true_eq] at h
 exact h.2
theorem bt_good : bt.Good where
 lt := fun e => (home_some e).2
 plen := fun l n => by
  show (Pla.splitF l (n : Int)).length ≤ n
  unfold Pla.splitF
  split
  ·rw [List.length_map, List.length_range]; omega
  ·exact Nat.zero_le _
 pin := fun {l n i p} h => by
  have h' : (Pla.splitF l (n : Int))[i]? = some p := h
  unfold Pla.splitF at h'
  split at h'
  ·rw [List.getElem?_map, Option.map_eq_some_iff] at h'
   obtain ⟨k, hk, rfl⟩ := h'
   obtain ⟨hi, hk⟩ := List.getElem?_eq_some_iff.1 hk
   rw [List.getElem_range] at hk
   subst hk
   refine ⟨List.length_filter_le _ _, fun w hw => ?_⟩
   obtain ⟨h1, h2⟩ := List.mem_filter.1 hw
   exact ⟨h1, home_is (by simpa using h2)⟩
  ·cases h'
 right := fun {w} h => by
  have h' : wOk w = true := h
  unfold wOk at h'
  simp only [Bool.and_eq_true, decide_eq_true_eq] at h'
  exact ⟨kOk_len h'.1.1, h'.1.2, fun n h1 h2 => home_key h'.1.1 n h1 h2⟩
 key := fun {k} h => ⟨kOk_len h, fun n h1 h2 => home_key h n h1 h2⟩
 tick := fun p l f h => by
  have h0 : (Clk.tickF (p : Int) (l : Int) (f : Int)).2.2 = 0 := h
  show (Clk.tickF (p : Int) (l : Int) (f : Int)).1.toNat ≤ 281474976710656 ∧ (Clk.tickF (p : Int) (l : Int) (f : Int)).2.1.toNat ≤ 4095
  obtain ⟨⟨a, b, c⟩, ht⟩ : ∃ t, Clk.tickF (p : Int) (l : Int) (f : Int) = t := ⟨_, rfl⟩
  have e := Clk.tickF_ok p l f a b c ht (by omega) (by omega)
  rw [ht] at h0 ⊢
  dsimp only at h0 ⊢
  omega
theorem pri_part {X : Ss} (h : Gs bt X) (hne : X.ws ≠ []) : homeF bt X (priF X) ∈ partsN (bt.parts X.ws X.nsh) (bt.parts X.ws X.nsh).length := by
 obtain ⟨w, hw, hp⟩ := pri_mem hne
 obtain ⟨g1, -⟩ := h.pri bt_good hne
 obtain ⟨e1, e2⟩ := home_some g1
 have hlen : (bt.parts X.ws X.nsh).length = X.nsh := by
  show (Pla.splitF X.ws (X.nsh : Int)).length = X.nsh
  unfold Pla.splitF
  rw [if_pos (by have := h.n; omega), List.length_map, List.length_range]
  omega
 have hget : (bt.parts X.ws X.nsh).getD (homeF bt X (priF X)) [] = Pla.ownF X.ws (X.nsh : Int) ((homeF bt X (priF X) : Nat) : Int) := by
  show (Pla.splitF X.ws (X.nsh : Int)).getD (homeF bt X (priF X)) [] = _
  unfold Pla.splitF
  rw [if_pos (by have := h.n; omega)]
  rw [List.getD_eq_getElem?_getD, List.getElem?_map, List.getElem?_range (by omega)]
  rfl
 have hmem : w ∈ (bt.parts X.ws X.nsh).getD (homeF bt X (priF X)) [] := by
  rw [hget]
  refine List.mem_filter.2 ⟨hw, ?_⟩
  rw [← hp, e1]
  simp
 unfold partsN
 refine List.mem_filter.2 ⟨List.mem_range.2 (by omega), ?_⟩
 cases hL : (bt.parts X.ws X.nsh).getD (homeF bt X (priF X)) [] with
 | nil => rw [hL] at hmem; cases hmem
 | cons a l => rfl
end Go.Proofs.YtkdkgdollmmcnaaGreat
