import Derived.Test.YtkdkgdollmmcnaaGreatWba
set_option maxHeartbeats 4000000
set_option maxRecDepth 100000
set_option linter.unusedVariables false
set_option linter.unusedSimpArgs false
namespace Go.Proofs.YtkdkgdollmmcnaaGreat
def Sr (p l : Nat) : Prop := p ≤ 281474976710656 ∧ l ≤ 4095
theorem max_sr {p l p' l' : Nat} (h : Sr p l) (h' : Sr p' l') : Sr (maxT (p, l) (p', l')).1 (maxT (p, l) (p', l')).2 := by
 unfold maxT
 split
 ·exact h'
 ·exact h
structure Qg (B : Bt) (n sh : Nat) (q : Rq) : Prop where
 ok : OkQ q
 lt : sh < n
 home : q.k = 1 ∨ q.k = 4 ∨ q.k = 7 → B.home q.key n = some sh
 ws : ∀ w ∈ q.ws, B.home w.key n = some sh
structure Ag (B : Bt) (n : Nat) (a : Ak) : Prop where
 q : Qg B n a.sh a.q
 st : a.st ≠ 0 → Qg B n a.hm a.was ∧ a.was.k ≤ 3 ∧ Sr a.lk.sp a.lk.sl
 fi : a.ch = true → a.fi < n
 le : a.st ≤ 2
structure Lg (B : Bt) (c n : Nat) (l : Le) : Prop where
 an : l.an = false
 cl : l.cl = c
 r : l.r = zR
 q : Qg B n l.sh l.q
structure Bt.Good (B : Bt) : Prop where
 lt : ∀ {k n h}, B.home k n = some h → h < n
 plen : ∀ l n, (B.parts l n).length ≤ n
 pin : ∀ {l n i p}, (B.parts l n)[i]? = some p → p.length ≤ l.length ∧ ∀ w ∈ p, w ∈ l ∧ B.home w.key n = some i
 right : ∀ {w}, B.right w = true → w.key.length ≤ 32 ∧ w.val.length ≤ 256 ∧ ∀ n, 1 ≤ n → n ≤ 8 → (B.home w.key n).isSome = true
 key : ∀ {k}, B.key k = true → k.length ≤ 32 ∧ ∀ n, 1 ≤ n → n ≤ 8 → (B.home k n).isSome = true
 tick : ∀ p l f, (B.tick p l f).2.2 = 0 → Sr (B.tick p l f).1 (B.tick p l f).2.1
def Wants (a : Ak) : Prop := a.ch = false ∧ (a.q.k = 3 ∨ a.st ≠ 0 ∧ a.was.k = 3 ∨ a.st = 0 ∧ 3 < a.q.k)
structure Gs (B : Bt) (s : Ss) : Prop where
 n : 1 ≤ s.nsh ∧ s.nsh ≤ 8
 cl : s.cl < 4
 now : Sr s.np s.nl
 st : Sr s.sp s.sl
 c : Sr s.cp s.cll
 wl : s.ws.length ≤ 16
 ws : ∀ w ∈ s.ws, B.right w = true
 ak : ∀ a ∈ s.asks, Ag B s.nsh a
 no : s.op.k = 0 → ∀ a ∈ s.asks, a.ch = true
 wn : ∀ a ∈ s.asks, Wants a → s.ws ≠ []
 ou : ∀ l ∈ s.out, Lg B s.cl s.nsh l
theorem z_sr : Sr 0 0 := ⟨by decide, by decide⟩
theorem Gs.new (B : Bt) {c n : Nat} (hc : c < 4) (hn : 1 ≤ n ∧ n ≤ 8) : Gs B (Ss.new c n) :=
 ⟨hn, hc, z_sr, z_sr, z_sr, Nat.zero_le 16, fun _ h => (by cases h), fun _ h => (by cases h), fun _ _ h => (by cases h), fun _ h => (by cases h), fun _ h => (by cases h)⟩
theorem Gs.ask {B : Bt} {s : Ss} (h : Gs B s) (a : Ak) (ha : Ag B s.nsh a) (ho : s.op.k ≠ 0 ∨ a.ch = true) (hw : Wants a → s.ws ≠ []) : Gs B (askF s a) := by
 have hm : ∀ x ∈ (askF s a).asks, x ∈ s.asks ∨ x = { a with sq := s.sq + 1 } := fun x hx => by
  have hx' : x ∈ s.asks ++ [{ a with sq := s.sq + 1 }] := hx
  simpa [List.mem_append] using hx'
 refine ⟨h.n, h.cl, h.now, h.st, h.c, h.wl, h.ws, fun x hx => ?_, fun h0 x hx => ?_, fun x hx hq => ?_, fun l hl => ?_⟩
 ·rcases hm x hx with h1 | rfl
  ·exact h.ak x h1
  ·exact ⟨ha.q, ha.st, ha.fi, ha.le⟩
 ·rcases hm x hx with h1 | rfl
  ·exact h.no h0 x h1
  ·rcases ho with h1 | h1
   ·exact absurd h0 h1
   ·exact h1
 ·rcases hm x hx with h1 | rfl
  ·exact h.wn x h1 hq
  ·exact hw hq
 ·have hl' : l ∈ s.out ++ [letF s { a with sq := s.sq + 1 }] := hl
  rw [List.mem_append, List.mem_singleton] at hl'
  rcases hl' with h1 | rfl
  ·exact h.ou l h1
  ·exact ⟨rfl, rfl, rfl, ha.q⟩
theorem Gs.drop {B : Bt} {s : Ss} (h : Gs B s) : Gs B (dropF s) :=
 ⟨h.n, h.cl, h.now, h.st, h.c, h.wl, h.ws, fun x hx => h.ak x (List.mem_filter.1 hx).1, fun _ x hx => (List.mem_filter.1 hx).2, fun x hx hq => h.wn x (List.mem_filter.1 hx).1 hq, h.ou⟩
theorem okq_small {q : Rq} (kk ll : Int) (hkk : q.k = kk) (hk : 1 ≤ kk ∧ kk ≤ 9) (h1 : Sr q.sp q.sl) (h2 : Sr q.ap q.al) (h3 : q.key.length ≤ 32) (h4 : q.to.length ≤ 32) (hll : q.lim = ll) (h5 : 0 ≤ ll ∧ ll ≤ 32) (h6 : q.ws = []) (h7 : q.sk = []) : OkQ q :=
 ⟨fun x hx => (by rw [h6] at hx; cases hx), by rw [hkk]; exact hk, h1, h2, h3, h4, by rw [hll]; exact h5, by rw [h6]; exact Nat.zero_le _, by rw [h7]; exact Nat.zero_le _⟩
theorem nil_le : ([] : List UInt8).length ≤ 32 := Nat.zero_le _
theorem no_home {P : Prop} {k : Int} (kk : Int) (h : k = kk) (d : kk ≠ 1 ∧ kk ≠ 4 ∧ kk ≠ 7) : k = 1 ∨ k = 4 ∨ k = 7 → P := fun e => by
 subst h
 rcases e with e | e | e
 ·exact absurd e d.1
 ·exact absurd e d.2.1
 ·exact absurd e d.2.2
theorem qg_small {B : Bt} {n sh : Nat} {q : Rq} (ok : OkQ q) (h : sh < n) (hk : q.k = 1 ∨ q.k = 4 ∨ q.k = 7 → B.home q.key n = some sh) (hw : q.ws = []) : Qg B n sh q := ⟨ok, h, hk, fun w hx => by rw [hw] at hx; cases hx⟩
theorem ag_plain {B : Bt} {n sh : Nat} {q : Rq} (h : Qg B n sh q) : Ag B n (akF sh q) := ⟨h, fun h => absurd rfl h, fun h => (by cases h), Nat.zero_le _⟩
theorem Gs.scan {B : Bt} (s0 : Ss) (o : Op) (h0 : Sr s0.sp s0.sl) (hk : o.key.length ≤ 32) (ht : o.to.length ≤ 32) : ∀ m i s, i + m ≤ s.nsh → s.op.k ≠ 0 → Gs B s → Gs B (scanAsks s0 o m i s)
 | 0, _, s, _, _, h => h
 | m + 1, i, s, hi, ho, h => by
  refine Gs.scan s0 o h0 hk ht m (i + 1) _ (by show i + 1 + m ≤ s.nsh; omega) ho (h.ask _ (ag_plain (qg_small (okq_small 2 32 rfl (by decide) h0 z_sr hk ht rfl (by decide) rfl rfl) (by omega) (no_home 2 rfl (by decide)) rfl)) (.inl ho) fun hq => ?_)
  rcases hq.2 with h | h | h
  ·exact absurd h (by show ¬ (2 : Int) = 3; decide)
  ·exact absurd rfl h.1
  ·exact absurd h.2 (by show ¬ (3 : Int) < 2; decide)
theorem pri_mem {s : Ss} (h : s.ws ≠ []) : ∃ w ∈ s.ws, priF s = w.key := by
 unfold priF
 cases hw : s.ws with
 | nil => exact absurd hw h
 | cons w l => exact ⟨w, List.mem_cons_self, rfl⟩
theorem Gs.pri {B : Bt} (G : B.Good) {s : Ss} (h : Gs B s) (hw : s.ws ≠ []) : B.home (priF s) s.nsh = some (homeF B s (priF s)) ∧ (priF s).length ≤ 32 := by
 obtain ⟨w, hm, he⟩ := pri_mem hw
 obtain ⟨h1, h2, h3⟩ := G.right (h.ws w hm)
 have h4 := h3 s.nsh h.n.1 h.n.2
 rw [he]
 obtain ⟨v, hv⟩ := Option.isSome_iff_exists.1 h4
 exact ⟨by unfold homeF; rw [hv]; rfl, h1⟩
theorem Gs.pri_lt {B : Bt} (G : B.Good) {s : Ss} (h : Gs B s) : homeF B s (priF s) < s.nsh := by
 unfold homeF
 cases hv : B.home (priF s) s.nsh with
 | none => exact h.n.1
 | some v => exact G.lt hv
theorem Gs.decide {B : Bt} (G : B.Good) {s : Ss} (h : Gs B s) (ho : s.op.k ≠ 0) (hw : s.ws ≠ []) : Gs B (decideF B s) := by
 obtain ⟨h1, h2⟩ := h.pri G hw
 exact h.ask _ (ag_plain (qg_small (okq_small 4 0 rfl (by decide) h.st h.c h2 nil_le rfl (by decide) rfl rfl) (G.lt h1) (fun _ => h1) rfl)) (.inl ho) fun _ => hw
theorem Gs.undo {B : Bt} (G : B.Good) {s : Ss} (h : Gs B s) (ho : s.op.k ≠ 0) (hw : s.ws ≠ []) : Gs B (undoF B s) :=
 h.ask _ (ag_plain (qg_small (okq_small 6 0 rfl (by decide) h.st z_sr nil_le nil_le rfl (by decide) rfl rfl) (h.pri_lt G) (no_home 6 rfl (by decide)) rfl)) (.inl ho) fun _ => hw
variable {B : Bt} {s : Ss}
theorem drop_at {α : Type} {L l : List α} {p : α} {i : Nat} (h : L.drop i = p :: l) : L[i]? = some p ∧ L.drop (i + 1) = l := by
 refine ⟨?_, ?_⟩
 ·rw [← List.head?_drop, h]; rfl
 ·rw [← List.drop_drop, h]; rfl
theorem Gs.lay (G : B.Good) (W : List Wr) (n : Nat) (hW : ∀ w ∈ W, B.right w = true) (hl : W.length ≤ 16) : ∀ l i s, (B.parts W n).drop i = l → s.nsh = n → s.ws = W → W ≠ [] → s.op.k ≠ 0 → Gs B s → Gs B (layAsks l i s)
 | [], _, s, _, _, _, _, _, h => h
 | p :: l, i, s, hd, hn, hs, hne, ho, h => by
  obtain ⟨h1, h2⟩ := drop_at hd
  obtain ⟨h3, h4⟩ := G.pin h1
  have hi : i < n := Nat.lt_of_lt_of_le (List.getElem?_eq_some_iff.1 h1).1 (G.plen W n)
  unfold layAsks
  by_cases hp : p.isEmpty = true
  ·rw [if_pos hp]
   exact Gs.lay G W n hW hl l (i + 1) s h2 hn hs hne ho h
  ·rw [if_neg hp]
   have hk : (priF s).length ≤ 32 := (h.pri G (by rw [hs]; exact hne)).2
   have hA := h.ask (akF i { zQ with k := 3, c := s.cl, n := s.n, sp := s.sp, sl := s.sl, key := priF s, ws := p }) (ag_plain ⟨⟨fun x hx => ⟨(G.right (hW x (h4 x hx).1)).1, (G.right (hW x (h4 x hx).1)).2.1⟩, ⟨by show (1 : Int) ≤ 3; decide, by show (3 : Int) ≤ 9; decide⟩, h.st, z_sr, hk, nil_le, ⟨by show (0 : Int) ≤ 0; decide, by show (0 : Int) ≤ 32; decide⟩, Nat.le_trans h3 hl, Nat.zero_le _⟩, by rw [hn]; exact hi, no_home 3 rfl (by decide), fun w hw => by rw [hn]; exact (h4 w hw).2⟩) (.inl ho) (fun _ => by rw [hs]; exact hne)
   exact Gs.lay G W n hW hl l (i + 1) _ h2 hn hs hne ho ⟨hA.n, hA.cl, hA.now, hA.st, hA.c, hA.wl, hA.ws, hA.ak, hA.no, hA.wn, hA.ou⟩
theorem ag_chore {n sh fi c m : Nat} {q : Rq} (h : Qg B n sh q) (hf : fi < n) : Ag B n { akF sh q with ch := true, oc := c, on := m, fi := fi } := ⟨h, fun h => absurd rfl h, fun _ => hf, Nat.zero_le _⟩
theorem chore_wants {sh fi c m : Nat} {q : Rq} : ¬ Wants { akF sh q with ch := true, oc := c, on := m, fi := fi } := fun h => by cases h.1
theorem Gs.chores (G : B.Good) (W : List Wr) (n hm : Nat) (q : Rq) (but : Option Nat) (hq : OkQ q) (hqw : q.ws = []) (hk : ¬ (q.k = 1 ∨ q.k = 4 ∨ q.k = 7)) (hh : hm < n) : ∀ l i s, (B.parts W n).drop i = l → s.nsh = n → Gs B s → Gs B (choresF q but hm l i s).1
 | [], _, s, _, _, h => h
 | p :: l, i, s, hd, hn, h => by
  obtain ⟨h1, h2⟩ := drop_at hd
  have hi : i < n := Nat.lt_of_lt_of_le (List.getElem?_eq_some_iff.1 h1).1 (G.plen W n)
  unfold choresF
  split
  ·exact Gs.chores G W n hm q but hq hqw hk hh l (i + 1) _ h2 hn (h.ask _ (ag_chore (qg_small hq (by rw [hn]; exact hi) (fun e => absurd e hk) hqw) (by rw [hn]; exact hh)) (.inr rfl) (fun e => absurd e chore_wants))
  ·exact Gs.chores G W n hm q but hq hqw hk hh l (i + 1) s h2 hn h
theorem Gs.done (G : B.Good) (h : Gs B s) (c n hm : Nat) (hh : hm < s.nsh) : Gs B (doneF s c n hm) :=
 h.ask _ (ag_chore (fi := 0) (qg_small (okq_small 9 0 rfl (by decide) z_sr z_sr nil_le nil_le rfl (by decide) rfl rfl) hh (no_home 9 rfl (by decide)) rfl) h.n.1) (.inr rfl) (fun e => absurd e chore_wants)
theorem Gs.over (h : Gs B s) : Gs B { s with act := false } := ⟨h.n, h.cl, h.now, h.st, h.c, h.wl, h.ws, h.ak, h.no, h.wn, h.ou⟩
theorem Gs.fail (h : Gs B s) (e : Int) : Gs B (failF s e).1 := h.drop
theorem k_no {k kk : Int} (h : k = kk) (d : kk ≠ 1 ∧ kk ≠ 4 ∧ kk ≠ 7) : ¬ (k = 1 ∨ k = 4 ∨ k = 7) := fun e => no_home kk h d e
theorem Gs.given (G : B.Good) (h : Gs B s) (e : Int) : Gs B (givenF B s e).1 :=
 (Gs.chores G s.ws s.nsh (homeF B s (priF s)) { zQ with k := 6, c := s.cl, n := s.n, sp := s.sp, sl := s.sl } none (okq_small 6 0 rfl (by decide) h.st z_sr nil_le nil_le rfl (by decide) rfl rfl) rfl (k_no (kk := 6) rfl (by decide)) (h.pri_lt G) _ 0 (dropF s) List.drop_zero rfl h.drop).over
theorem Gs.stop (G : B.Good) (h : Gs B s) (e : Int) : Gs B (stopF B s e).1 := by
 unfold stopF
 split
 ·exact h.given G e
 ·exact h.fail e
theorem Gs.comm (G : B.Good) (h : Gs B s) (ap al : Nat) (ha : Sr ap al) : Gs B (commF B s ap al).1 := by
 have hd : Gs B { dropF s with np := (maxT (s.np, s.nl) (ap, al)).1, nl := (maxT (s.np, s.nl) (ap, al)).2 } := by
  have := h.drop
  exact ⟨this.n, this.cl, max_sr h.now ha, this.st, this.c, this.wl, this.ws, this.ak, this.no, this.wn, this.ou⟩
 have hc := Gs.chores G s.ws s.nsh (homeF B s (priF s)) { zQ with k := 5, c := s.cl, n := s.n, ap := ap, al := al } (some (homeF B s (priF s))) (okq_small 5 0 rfl (by decide) z_sr ha nil_le nil_le rfl (by decide) rfl rfl) rfl (k_no (kk := 5) rfl (by decide)) (h.pri_lt G) _ 0 { dropF s with np := (maxT (s.np, s.nl) (ap, al)).1, nl := (maxT (s.np, s.nl) (ap, al)).2 } List.drop_zero rfl hd
 have hst := (chores_st { zQ with k := 5, c := s.cl, n := s.n, ap := ap, al := al } (some (homeF B s (priF s))) (homeF B s (priF s)) (B.parts s.ws s.nsh) 0 { dropF s with np := (maxT (s.np, s.nl) (ap, al)).1, nl := (maxT (s.np, s.nl) (ap, al)).2 }).2.2.2.2
 have h2 : ∀ (r : Ss × Nat), Gs B r.1 → r.1.nsh = s.nsh → Gs B (if r.2 = 0 then doneF r.1 s.cl s.n (homeF B s (priF s)) else r.1) := fun r hr hn => by
  split
  ·exact hr.done G _ _ _ (by rw [hn]; exact h.pri_lt G)
  ·exact hr
 exact (h2 _ hc hst).over
theorem Gs.lock (G : B.Good) (h : Gs B s) (a : Ak) (r : Rp) (ha : Ag B s.nsh a) (hr : OkR r) (ho : s.op.k ≠ 0) (hk : a.q.k ≤ 3) (hw : a.q.k = 3 → s.ws ≠ []) : Gs B (lockF B s a r).1 := by
 unfold lockF
 split
 ·exact h.stop G 1
 ·rename_i hm he
  have hat : Sr (if a.q.k = 3 then 0 else s.sp) (if a.q.k = 3 then 0 else s.sl) := by
   split
   ·exact z_sr
   ·exact h.st
  refine h.ask _ ⟨qg_small (okq_small 7 0 rfl (by decide) hr.st hat hr.prim nil_le rfl (by decide) rfl rfl) (G.lt he) (fun _ => he) rfl, fun _ => ⟨ha.q, hk, hr.st⟩, fun e => (by cases e), (by show (1 : Nat) ≤ 2; decide)⟩ (.inl ho) fun e => hw ?_
  rcases e.2 with e | e | e
  ·exact absurd e (by show ¬ (7 : Int) = 3; decide)
  ·exact e.2
  ·exact absurd e.1 (by show ¬ (1 : Nat) = 0; decide)
theorem Gs.push (G : B.Good) (h : Gs B s) (a : Ak) (r : Rp) (ha : Ag B s.nsh a) (hs : a.st = 1) (hr : OkR r) (ho : s.op.k ≠ 0) (hw : a.was.k = 3 → s.ws ≠ []) : Gs B (pushF B s a r).1 := by
 obtain ⟨h1, h2, h3⟩ := ha.st (by rw [hs]; decide)
 have hwn : ∀ (q : Rq) (kk : Int), q.k = kk → kk ≠ 3 → Wants { akF a.hm q with st := 2, was := a.was, hm := a.hm } → s.ws ≠ [] := fun q kk hk hn e => by
  rcases e.2 with e | e | e
  ·have e' : q.k = 3 := e
   exact absurd (hk.symm.trans e') hn
  ·exact hw e.2
  ·exact absurd e.1 (by show ¬ (2 : Nat) = 0; decide)
 unfold pushF
 split
 ·exact h.ask _ ⟨qg_small (okq_small 5 0 rfl (by decide) z_sr hr.at_ nil_le nil_le rfl (by decide) rfl rfl) h1.lt (no_home 5 rfl (by decide)) rfl, fun _ => ⟨h1, h2, z_sr⟩, fun e => (by cases e), Nat.le_refl 2⟩ (.inl ho) (hwn _ 5 rfl (by decide))
 split
 ·exact h.ask _ ⟨qg_small (okq_small 6 0 rfl (by decide) h3 z_sr nil_le nil_le rfl (by decide) rfl rfl) h1.lt (no_home 6 rfl (by decide)) rfl, fun _ => ⟨h1, h2, z_sr⟩, fun e => (by cases e), Nat.le_refl 2⟩ (.inl ho) (hwn _ 6 rfl (by decide))
 split
 ·split
  ·exact h.given G 40
  split
  ·exact h.fail 3
  ·rename_i hn hk
   refine h.ask _ (ag_plain ⟨⟨h1.ok.ws, h1.ok.k, h1.ok.st, h1.ok.at_, h1.ok.key, h1.ok.to, h1.ok.lim, h1.ok.wl, ?_⟩, h1.lt, h1.home, h1.ws⟩) (.inl ho) fun e => ?_
   ·show (a.was.sk ++ [_]).length ≤ 16
    rw [List.length_append, List.length_singleton]
    omega
   ·rcases e.2 with e | e | e
    ·exact hw e
    ·exact absurd rfl e.1
    ·have e' : 3 < a.was.k := e.2
     omega
 ·exact h.stop G _
theorem Gs.ans (G : B.Good) (h : Gs B s) (a : Ak) (r : Rp) (ha : Ag B s.nsh a) (hr : OkR r) (ho : s.op.k ≠ 0) (hk : a.q.k ≤ 3) (hw : a.q.k = 3 → s.ws ≠ []) : Gs B (ansF B s a r).1 := by
 unfold ansF
 split
 ·exact h.lock G a r ha hr ho hk hw
 split
 ·exact h.drop
 split
 ·dsimp only
  split
  ·exact ⟨h.n, h.cl, h.now, h.st, h.c, h.wl, h.ws, h.ak, h.no, h.wn, h.ou⟩
  ·have : Gs B { s with ps := s.ps ++ r.ps, left := s.left - 1 } := ⟨h.n, h.cl, h.now, h.st, h.c, h.wl, h.ws, h.ak, h.no, h.wn, h.ou⟩
   exact this.drop
 split
 ·rename_i hq
  dsimp only
  split
  ·have : Gs B { s with cp := (maxT (s.cp, s.cll) (r.ap, r.al)).1, cll := (maxT (s.cp, s.cll) (r.ap, r.al)).2, left := s.left - 1, stg := 2 } := ⟨h.n, h.cl, h.now, h.st, max_sr h.c hr.at_, h.wl, h.ws, h.ak, h.no, h.wn, h.ou⟩
   exact this.decide G ho (hw hq.1)
  ·exact ⟨h.n, h.cl, h.now, h.st, max_sr h.c hr.at_, h.wl, h.ws, h.ak, h.no, h.wn, h.ou⟩
 split
 ·exact h.given G 40
 split
 ·exact h.given G 12
 ·exact h.stop G _
theorem Gs.dec (G : B.Good) (h : Gs B s) (r : Rp) (hr : OkR r) (ho : s.op.k ≠ 0) (hw : s.ws ≠ []) : Gs B (decF B s r).1 := by
 unfold decF
 split
 ·exact h.comm G _ _ hr.at_
 split
 ·exact h.given G 12
 split
 ·exact h.given G _
 split
 ·have : Gs B { s with cp := (maxT (s.cp, s.cll) (r.ap, r.al)).1, cll := (maxT (s.cp, s.cll) (r.ap, r.al)).2 } := ⟨h.n, h.cl, h.now, h.st, max_sr h.c hr.at_, h.wl, h.ws, h.ak, h.no, h.wn, h.ou⟩
  exact this.decide G ho hw
 ·split
  ·have : Gs B { s with stg := 3, why := wrongF r } := ⟨h.n, h.cl, h.now, h.st, h.c, h.wl, h.ws, h.ak, h.no, h.wn, h.ou⟩
   exact this.undo G ho hw
  ·exact h.undo G ho hw
theorem Gs.chore (G : B.Good) (h : Gs B s) (a : Ak) (r : Rp) (ha : Ag B s.nsh a) (hc : a.ch = true) : Gs B (choreF s a r) := by
 unfold choreF
 split
 ·have hm : ∀ x ∈ insA { a with rs := true } s.asks, x = { a with rs := true } ∨ x ∈ s.asks := fun x hx => (insA_mem _ _ _).1 hx
  refine ⟨h.n, h.cl, h.now, h.st, h.c, h.wl, h.ws, fun x hx => ?_, fun h0 x hx => ?_, fun x hx hq => ?_, h.ou⟩
  ·rcases hm x hx with rfl | h1
   ·exact ⟨ha.q, ha.st, ha.fi, ha.le⟩
   ·exact h.ak x h1
  ·rcases hm x hx with rfl | h1
   ·exact hc
   ·exact h.no h0 x h1
  ·rcases hm x hx with rfl | h1
   ·have e : a.ch = false := hq.1
    rw [hc] at e; cases e
   ·exact h.wn x h1 hq
 split
 ·exact h
 split
 ·exact h
 ·exact h.done G _ _ _ (ha.fi hc)
theorem Gs.hear (G : B.Good) (h : Gs B s) (l : Le) (hr : OkR l.r) : Gs B (hearF B s l).1 := by
 unfold hearF
 split
 ·exact h
 split
 ·exact h
 ·rename_i a ha
  have hm : a ∈ s.asks := List.mem_of_find?_eq_some ha
  have hg := h.ak a hm
  have hR : Gs B { s with asks := s.asks.filter (fun x => !isA l x), np := (maxT (s.np, s.nl) (l.r.np, l.r.nl)).1, nl := (maxT (s.np, s.nl) (l.r.np, l.r.nl)).2 } :=
   ⟨h.n, h.cl, max_sr h.now hr.nw, h.st, h.c, h.wl, h.ws, fun x hx => h.ak x (List.mem_filter.1 hx).1, fun h0 x hx => h.no h0 x (List.mem_filter.1 hx).1, fun x hx hq => h.wn x (List.mem_filter.1 hx).1 hq, h.ou⟩
  have ho : a.ch = false → s.op.k ≠ 0 := fun hc e => by have := h.no e a hm; rw [hc] at this; cases this
  dsimp only
  by_cases hc : a.ch = true
  ·rw [if_pos hc]
   exact hR.chore G a l.r hg hc
  rw [if_neg hc]
  have hc' : a.ch = false := by simpa using hc
  by_cases h1 : a.st = 1
  ·rw [if_pos h1]
   exact hR.push G a l.r hg h1 hr (ho hc') fun e => h.wn a hm ⟨hc', .inr (.inl ⟨by rw [h1]; decide, e⟩)⟩
  rw [if_neg h1]
  by_cases h2 : a.st = 2
  ·rw [if_pos h2]
   split
   ·exact hR.stop G _
   ·obtain ⟨g1, g2, -⟩ := hg.st (by rw [h2]; decide)
    refine hR.ask _ (ag_plain g1) (.inl (ho hc')) fun e => ?_
    rcases e.2 with e | e | e
    ·exact h.wn a hm ⟨hc', .inr (.inl ⟨by rw [h2]; decide, e⟩)⟩
    ·exact absurd rfl e.1
    ·have e' : 3 < a.was.k := e.2
     omega
  rw [if_neg h2]
  by_cases h3 : a.q.k ≤ 3
  ·rw [if_pos h3]
   exact hR.ans G a l.r hg hr (ho hc') h3 fun e => h.wn a hm ⟨hc', .inl e⟩
  ·rw [if_neg h3]
   have h0 : a.st = 0 := by have := hg.le; omega
   exact hR.dec G l.r hr (ho hc') (h.wn a hm ⟨hc', .inr (.inr ⟨h0, by omega⟩)⟩)
theorem map_mem {B : Bt} {s : Ss} (h : Gs B s) : ∀ l ∈ s.asks.map (letF s), Lg B s.cl s.nsh l := fun l hl => by
 obtain ⟨a, ha, rfl⟩ := List.mem_map.1 hl
 exact ⟨rfl, rfl, rfl, (h.ak a ha).q⟩
theorem Gs.again {B : Bt} {s : Ss} (h : Gs B s) : Gs B (againF s) :=
 ⟨h.n, h.cl, h.now, h.st, h.c, h.wl, h.ws, h.ak, h.no, h.wn, fun l hl => by
  have hl' : l ∈ s.out ++ s.asks.map (letF s) := hl
  rw [List.mem_append] at hl'
  rcases hl' with h1 | h1
  ·exact h.ou l h1
  ·exact map_mem h l h1⟩
theorem Gs.give {B : Bt} (G : B.Good) {s : Ss} (h : Gs B s) : Gs B (giveF B s).1 := by
 unfold giveF
 split
 ·exact h
 split
 ·exact h.fail 42
 split
 ·exact h.given G 42
 ·exact h.drop.over
theorem insW_mem (w : Wr) : ∀ (l : List Wr) (x : Wr), x ∈ insW w l → x = w ∨ x ∈ l
 | [], x, h => by simpa [insW] using h
 | y :: l, x, h => by
  unfold insW at h
  split at h
  ·rw [List.mem_cons] at h
   rcases h with h | h
   ·exact .inr (by rw [h]; exact List.mem_cons_self)
   ·rcases insW_mem w l x h with h | h
    ·exact .inl h
    ·exact .inr (List.mem_cons_of_mem _ h)
  ·rw [List.mem_cons] at h
   exact h
theorem insW_len (w : Wr) : ∀ (l : List Wr), (insW w l).length = l.length + 1
 | [] => rfl
 | y :: l => by
  unfold insW
  split
  ·rw [List.length_cons, insW_len w l, List.length_cons]
  ·rfl
theorem Gs.put {B : Bt} {s : Ss} (h : Gs B s) (h0 : s.op.k = 0) (w : Wr) : Gs B (putF B s w).1 := by
 have hno : ∀ a ∈ s.asks, ¬ Wants a := fun a ha hq => by
  have := h.no h0 a ha
  rw [hq.1] at this; cases this
 unfold putF
 split
 ·exact h
 rename_i hr
 have hr' : B.right w = true := by simpa using hr
 split
 ·refine ⟨h.n, h.cl, h.now, h.st, h.c, ?_, fun x hx => ?_, h.ak, h.no, fun a ha hq => absurd hq (hno a ha), h.ou⟩
  ·show (s.ws.map _).length ≤ 16
   rw [List.length_map]; exact h.wl
  ·obtain ⟨y, hy, rfl⟩ := List.mem_map.1 hx
   split
   ·exact hr'
   ·exact h.ws y hy
 split
 ·exact h
 ·rename_i hl
  refine ⟨h.n, h.cl, h.now, h.st, h.c, ?_, fun x hx => ?_, h.ak, h.no, fun a ha hq => absurd hq (hno a ha), h.ou⟩
  ·show (insW w s.ws).length ≤ 16
   rw [insW_len]; omega
  ·rcases insW_mem w s.ws x hx with rfl | h1
   ·exact hr'
   ·exact h.ws x h1
theorem Gs.do {B : Bt} (G : B.Good) {s : Ss} (h : Gs B s) (phys : Nat) (o : Op) : Gs B (doF B s phys o).1 := by
 unfold doF
 by_cases h0 : s.op.k ≠ 0
 ·rw [if_pos h0]; exact h
 rw [if_neg h0]
 have h0' : s.op.k = 0 := by omega
 have hno : ∀ a ∈ s.asks, ¬ Wants a := fun a ha hq => by
  have := h.no h0' a ha
  rw [hq.1] at this; cases this
 split
 ·split
  ·exact h
  split
  ·exact h
  ·rename_i ht
   have hs := G.tick s.np s.nl phys (by omega)
   exact ⟨h.n, h.cl, hs, hs, h.c, Nat.zero_le _, fun _ hx => (by cases hx), h.ak, h.no, fun a ha hq => absurd hq (hno a ha), h.ou⟩
 split
 ·exact h
 split
 ·exact h.put h0' _
 split
 ·exact h.put h0' _
 split
 ·rename_i ho
  split
  ·exact h
  rename_i hk
  have hk' : B.key o.key = true := by simpa using hk
  split
  ·exact h
  ·obtain ⟨g1, g2⟩ := G.key hk'
   obtain ⟨v, hv⟩ := Option.isSome_iff_exists.1 (g2 s.nsh h.n.1 h.n.2)
   have hh : homeF B s o.key = v := by unfold homeF; rw [hv]; rfl
   have hS : Gs B { s with op := o } := ⟨h.n, h.cl, h.now, h.st, h.c, h.wl, h.ws, h.ak, fun e => absurd (ho.symm.trans e) (by decide), h.wn, h.ou⟩
   refine hS.ask _ (ag_plain (qg_small (okq_small 1 0 rfl (by decide) h.st z_sr g1 nil_le rfl (by decide) rfl rfl) (by rw [hh]; exact G.lt hv) (fun _ => by rw [hh]; exact hv) rfl)) (.inl (by show o.k ≠ 0; rw [ho]; decide)) fun e => ?_
   rcases e.2 with e | e | e
   ·exact absurd e (by show ¬ (1 : Int) = 3; decide)
   ·exact absurd rfl e.1
   ·exact absurd e.2 (by show ¬ (3 : Int) < 1; decide)
 split
 ·rename_i ho
  split
  ·exact h
  ·rename_i hl
   refine Gs.scan s o h.st (by omega) (by omega) s.nsh 0 _ (by show 0 + s.nsh ≤ s.nsh; omega) (by show o.k ≠ 0; rw [ho]; decide) ?_
   exact ⟨h.n, h.cl, h.now, h.st, h.c, h.wl, h.ws, h.ak, fun e => absurd (ho.symm.trans e) (by decide), h.wn, h.ou⟩
 split
 ·rename_i ho
  unfold commitF
  split
  ·exact h.over
  ·rename_i hw
   have hne : s.ws ≠ [] := by intro e; rw [e] at hw; exact hw rfl
   refine Gs.lay G s.ws s.nsh h.ws h.wl _ 0 _ List.drop_zero rfl rfl hne (by show o.k ≠ 0; rw [ho]; decide) ?_
   exact ⟨h.n, h.cl, h.now, h.st, z_sr, h.wl, h.ws, h.ak, fun e => absurd (ho.symm.trans e) (by decide), h.wn, h.ou⟩
 split
 ·exact h.over
 ·exact h
def cntN (L : List Ak) : Nat := (L.filter fun a => !a.ch).length
def bsQ (a : Ak) : Rq := if a.st = 0 then a.q else a.was
def knd (s : Ss) : Int := if s.op.k = 2 then 1 else if s.op.k = 3 then 2 else if s.stg = 1 then 3 else if s.stg = 2 then 4 else 6
structure Awt (s : Ss) (a : Ak) : Prop where
 k : (bsQ a).k = knd s
 pl : 3 < knd s → a.st = 0
 sp : (bsQ a).k ≤ 3 → (bsQ a).sp = s.sp ∧ (bsQ a).sl = s.sl
 ap : (bsQ a).k = 4 → a.q.ap = s.cp ∧ a.q.al = s.cll
structure Cho (s : Ss) (a : Ak) : Prop where
 oc : a.oc = s.cl
 on : a.q.k = 5 → a.on ≤ s.n ∧ (s.act = true → a.on ≠ s.n)
structure Cns (d : Nat) (s : Ss) : Prop where
 op : s.op.k = 0 ∨ s.op.k = 2 ∨ s.op.k = 3 ∨ s.op.k = 6
 act : s.op.k ≠ 0 → s.act = true
 stg : s.op.k = 6 → s.stg = 1 ∨ s.stg = 2 ∨ s.stg = 3
 aw : ∀ a ∈ s.asks, a.ch = false → Awt s a
 left : s.op.k = 3 ∨ s.op.k = 6 ∧ s.stg = 1 → ((cntN s.asks + d : Nat) : Int) = s.left ∧ s.left ≤ 8
 one : s.op.k = 6 → s.stg ≠ 1 → cntN s.asks + d ≤ 1
 ch : ∀ a ∈ s.asks, a.ch = true → Cho s a
 so : s.ws.Pairwise fun x y => x.key < y.key
 ps : s.op.k = 3 → (s.ps.length : Int) + 32 * s.left ≤ 256 ∧ ∀ p ∈ s.ps, p.val.length ≤ 256
theorem Cns.idle {d : Nat} {s : Ss} (h0 : s.op.k = 0) (hc : ∀ a ∈ s.asks, a.ch = true ∧ Cho s a) (so : s.ws.Pairwise fun x y => x.key < y.key) : Cns d s :=
 ⟨.inl h0, fun e => absurd h0 e, fun e => absurd (h0.symm.trans e) (by decide), fun a ha e => (by rw [(hc a ha).1] at e; cases e), fun e => (by omega), fun e => absurd (h0.symm.trans e) (by decide), fun a ha _ => (hc a ha).2, so, fun e => absurd (h0.symm.trans e) (by decide)⟩
theorem cnt_snoc (L : List Ak) (a : Ak) : cntN (L ++ [a]) = cntN L + if a.ch then 0 else 1 := by
 unfold cntN
 rw [List.filter_append, List.length_append]
 cases h : a.ch <;> simp [h]
theorem cnt_none {L : List Ak} (h : cntN L = 0) : ∀ a ∈ L, a.ch = true := fun a ha => by
 unfold cntN at h
 cases hc : a.ch
 ·have : a ∈ L.filter fun a => !a.ch := List.mem_filter.2 ⟨ha, by simp [hc]⟩
  rw [List.length_eq_zero_iff] at h
  rw [h] at this
  cases this
 ·rfl
theorem cnt_all {L : List Ak} (h : ∀ a ∈ L, a.ch = true) : cntN L = 0 := by
 unfold cntN
 rw [List.length_eq_zero_iff, List.filter_eq_nil_iff]
 intro a ha
 simp [h a ha]
theorem Cns.ask {d : Nat} {s : Ss} (h : Cns (d + 1) s) (ho : s.op.k ≠ 0) (a : Ak) (hc : a.ch = false) (ha : Awt s a) : Cns d (askF s a) := by
 have e : cntN (askF s a).asks = cntN s.asks + 1 := by
  show cntN (s.asks ++ [{ a with sq := s.sq + 1 }]) = _
  rw [cnt_snoc]
  simp [hc]
 refine ⟨h.op, h.act, h.stg, fun x hx hq => ?_, fun k => ?_, fun k1 k2 => ?_, fun x hx hq => ?_, h.so, h.ps⟩
 ·have hx' : x ∈ s.asks ++ [{ a with sq := s.sq + 1 }] := hx
  rw [List.mem_append, List.mem_singleton] at hx'
  rcases hx' with h1 | rfl
  ·exact ⟨(h.aw x h1 hq).k, (h.aw x h1 hq).pl, (h.aw x h1 hq).sp, (h.aw x h1 hq).ap⟩
  ·exact ⟨ha.k, ha.pl, ha.sp, ha.ap⟩
 ·rw [e]
  have := h.left k
  have h2 : ((cntN s.asks + (d + 1) : Nat) : Int) = (askF s a).left := this.1
  exact ⟨by rw [← h2]; congr 1; omega, this.2⟩
 ·rw [e]
  have := h.one k1 k2
  omega
 ·have hx' : x ∈ s.asks ++ [{ a with sq := s.sq + 1 }] := hx
  rw [List.mem_append, List.mem_singleton] at hx'
  rcases hx' with h1 | rfl
  ·exact ⟨(h.ch x h1 hq).oc, (h.ch x h1 hq).on⟩
  ·rw [hc] at hq
   cases hq
theorem Cns.cho {d : Nat} {s : Ss} (h : Cns d s) (a : Ak) (hc : a.ch = true) (ha : Cho s a) : Cns d (askF s a) := by
 have e : cntN (askF s a).asks = cntN s.asks := by
  show cntN (s.asks ++ [{ a with sq := s.sq + 1 }]) = _
  rw [cnt_snoc]
  simp [hc]
 refine ⟨h.op, h.act, h.stg, fun x hx hq => ?_, fun k => ?_, fun k1 k2 => ?_, fun x hx hq => ?_, h.so, h.ps⟩
 ·have hx' : x ∈ s.asks ++ [{ a with sq := s.sq + 1 }] := hx
  rw [List.mem_append, List.mem_singleton] at hx'
  rcases hx' with h1 | rfl
  ·exact ⟨(h.aw x h1 hq).k, (h.aw x h1 hq).pl, (h.aw x h1 hq).sp, (h.aw x h1 hq).ap⟩
  ·rw [hc] at hq
   cases hq
 ·rw [e]
  exact h.left k
 ·rw [e]
  exact h.one k1 k2
 ·have hx' : x ∈ s.asks ++ [{ a with sq := s.sq + 1 }] := hx
  rw [List.mem_append, List.mem_singleton] at hx'
  rcases hx' with h1 | rfl
  ·exact ⟨(h.ch x h1 hq).oc, (h.ch x h1 hq).on⟩
  ·exact ⟨ha.oc, ha.on⟩
theorem Cns.drop {d e : Nat} {s : Ss} (h : Cns d s) : Cns e (dropF s) := Cns.idle rfl (fun a ha => by
 obtain ⟨h1, h2⟩ := List.mem_filter.1 ha
 exact ⟨h2, (h.ch a h1 h2).oc, (h.ch a h1 h2).on⟩) h.so
theorem chores_mem (q : Rq) (but : Option Nat) (h : Nat) : ∀ l i s a, a ∈ (choresF q but h l i s).1.asks → a ∈ s.asks ∨ (a.ch = true ∧ a.oc = s.cl ∧ a.on = s.n ∧ a.q = q)
 | [], _, s, a, ha => .inl ha
 | p :: l, i, s, a, ha => by
  unfold choresF at ha
  split at ha
  ·rcases chores_mem q but h l (i + 1) _ a ha with h1 | h1
   ·have h1' : a ∈ s.asks ++ [_] := h1
    rw [List.mem_append, List.mem_singleton] at h1'
    rcases h1' with h2 | rfl
    ·exact .inl h2
    ·exact .inr ⟨rfl, rfl, rfl, rfl⟩
   ·exact .inr h1
  ·exact chores_mem q but h l (i + 1) s a ha
theorem chores_keep (q : Rq) (but : Option Nat) (h : Nat) : ∀ l i s, (choresF q but h l i s).1.ws = s.ws ∧ (choresF q but h l i s).1.op = s.op ∧ (choresF q but h l i s).1.cl = s.cl ∧ (choresF q but h l i s).1.n = s.n
 | [], _, s => ⟨rfl, rfl, rfl, rfl⟩
 | p :: l, i, s => by
  unfold choresF
  split
  ·exact chores_keep q but h l (i + 1) _
  ·exact chores_keep q but h l (i + 1) s
theorem Cns.fail {d e : Nat} {s : Ss} (h : Cns d s) (er : Int) : Cns e (failF s er).1 := h.drop
theorem Cns.over {d e : Nat} {s : Ss} (h : Cns d s) : Cns e { dropF s with act := false } := Cns.idle rfl (fun a ha => by
 obtain ⟨h1, h2⟩ := List.mem_filter.1 ha
 exact ⟨h2, (h.ch a h1 h2).oc, fun k => ⟨((h.ch a h1 h2).on k).1, fun e => by cases e⟩⟩) h.so
theorem Cns.given {B : Bt} {d e : Nat} {s : Ss} (h : Cns d s) (er : Int) : Cns e (givenF B s er).1 := by
 obtain ⟨k1, k2, k3, k4⟩ := chores_keep { zQ with k := 6, c := s.cl, n := s.n, sp := s.sp, sl := s.sl } none (homeF B s (priF s)) (B.parts s.ws s.nsh) 0 (dropF s)
 refine Cns.idle (by show (choresF _ _ _ _ _ _).1.op.k = 0; rw [k2]; rfl) (fun a ha => ?_) (by show (choresF _ _ _ _ _ _).1.ws.Pairwise _; rw [k1]; exact h.so)
 have hcl : (givenF B s er).1.cl = s.cl := k3
 have hnn : (givenF B s er).1.n = s.n := k4
 rcases chores_mem _ _ _ _ _ _ a ha with h1 | ⟨h1, h2, h3, h4⟩
 ·obtain ⟨h5, h6⟩ := List.mem_filter.1 h1
  exact ⟨h6, by rw [hcl]; exact (h.ch a h5 h6).oc, fun k => ⟨by rw [hnn]; exact ((h.ch a h5 h6).on k).1, fun e => by cases e⟩⟩
 ·exact ⟨h1, by rw [hcl]; exact h2, fun k => by rw [h4] at k; exact absurd k (by show ¬ (6 : Int) = 5; decide)⟩
theorem Cns.comm {B : Bt} {d e : Nat} {s : Ss} (h : Cns d s) (ap al : Nat) : Cns e (commF B s ap al).1 := by
 obtain ⟨k1, k2, k3, k4⟩ := chores_keep { zQ with k := 5, c := s.cl, n := s.n, ap := ap, al := al } (some (homeF B s (priF s))) (homeF B s (priF s)) (B.parts s.ws s.nsh) 0 { dropF s with np := (maxT (s.np, s.nl) (ap, al)).1, nl := (maxT (s.np, s.nl) (ap, al)).2 }
 have hm := chores_mem { zQ with k := 5, c := s.cl, n := s.n, ap := ap, al := al } (some (homeF B s (priF s))) (homeF B s (priF s)) (B.parts s.ws s.nsh) 0 { dropF s with np := (maxT (s.np, s.nl) (ap, al)).1, nl := (maxT (s.np, s.nl) (ap, al)).2 }
 unfold commF
 dsimp only
 generalize choresF { zQ with k := 5, c := s.cl, n := s.n, ap := ap, al := al } (some (homeF B s (priF s))) (homeF B s (priF s)) (B.parts s.ws s.nsh) 0 { dropF s with np := (maxT (s.np, s.nl) (ap, al)).1, nl := (maxT (s.np, s.nl) (ap, al)).2 } = R at *
 have hR : ∀ a ∈ R.1.asks, a.ch = true ∧ a.oc = s.cl ∧ (a.q.k = 5 → a.on ≤ s.n) := fun a ha => by
  rcases hm a ha with h1 | ⟨h1, h2, h3, h4⟩
  ·obtain ⟨h5, h6⟩ := List.mem_filter.1 h1
   exact ⟨h6, (h.ch a h5 h6).oc, fun k => ((h.ch a h5 h6).on k).1⟩
  ·exact ⟨h1, h2, fun _ => by rw [h3]; exact Nat.le_refl _⟩
 have k2' : R.1.op.k = 0 := by rw [k2]; rfl
 have k1' : R.1.ws = s.ws := k1
 have k3' : R.1.cl = s.cl := k3
 have k4' : R.1.n = s.n := k4
 by_cases h0 : R.2 = 0
 ·rw [if_pos h0]
  refine Cns.idle k2' (fun a ha => ?_) (by show R.1.ws.Pairwise _; rw [k1']; exact h.so)
  have ha' : a ∈ R.1.asks ++ [_] := ha
  rw [List.mem_append, List.mem_singleton] at ha'
  rcases ha' with h1 | rfl
  ·exact ⟨(hR a h1).1, (hR a h1).2.1.trans k3'.symm, fun k => ⟨Nat.le_trans ((hR a h1).2.2 k) (Nat.le_of_eq k4'.symm), fun e => by cases e⟩⟩
  ·exact ⟨rfl, k3'.symm, fun k => absurd k (by show ¬ (9 : Int) = 5; decide)⟩
 ·rw [if_neg h0]
  refine Cns.idle k2' (fun a ha => ?_) (by show R.1.ws.Pairwise _; rw [k1']; exact h.so)
  have h1 : a ∈ R.1.asks := ha
  exact ⟨(hR a h1).1, (hR a h1).2.1.trans k3'.symm, fun k => ⟨Nat.le_trans ((hR a h1).2.2 k) (Nat.le_of_eq k4'.symm), fun e => by cases e⟩⟩
theorem Cns.stop {B : Bt} {d e : Nat} {s : Ss} (h : Cns d s) (er : Int) : Cns e (stopF B s er).1 := by
 unfold stopF
 split
 ·exact h.given er
 ·exact h.fail er
theorem knd_op {d : Nat} {s : Ss} (h : Cns d s) (ho : s.op.k ≠ 0) : (knd s = 1 ∧ s.op.k = 2) ∨ (knd s = 2 ∧ s.op.k = 3) ∨ (knd s = 3 ∧ s.op.k = 6 ∧ s.stg = 1) ∨ (knd s = 4 ∧ s.op.k = 6 ∧ s.stg = 2) ∨ (knd s = 6 ∧ s.op.k = 6 ∧ s.stg = 3) := by
 unfold knd
 rcases h.op with e | e | e | e
 ·exact absurd e ho
 ·rw [e]; simp
 ·rw [e]; simp
 ·rw [e]
  rcases h.stg e with g | g | g <;> rw [g] <;> simp
theorem bsQ_0 {a : Ak} (h : a.st = 0) : bsQ a = a.q := by unfold bsQ; rw [if_pos h]
theorem bsQ_1 {a : Ak} (h : a.st ≠ 0) : bsQ a = a.was := by unfold bsQ; rw [if_neg h]
theorem Cns.lock {B : Bt} {s : Ss} (h : Cns 1 s) (ho : s.op.k ≠ 0) (a : Ak) (r : Rp) (ha : Awt s a) (h0 : a.st = 0) (hk : a.q.k ≤ 3) : Cns 0 (lockF B s a r).1 := by
 have e := bsQ_0 h0
 unfold lockF
 split
 ·exact h.stop 1
 ·have k := ha.k
  have s1 := ha.sp
  rw [e] at k s1
  refine h.ask ho _ rfl ⟨k, fun g => absurd g (by rw [← k]; omega), s1, fun g => absurd (show a.q.k = 4 from g) (by omega)⟩
theorem Cns.push {B : Bt} {s : Ss} (h : Cns 1 s) (ho : s.op.k ≠ 0) (a : Ak) (r : Rp) (ha : Awt s a) (h1 : a.st = 1) (hk : a.was.k ≤ 3) : Cns 0 (pushF B s a r).1 := by
 have e := bsQ_1 (a := a) (by omega)
 have k := ha.k
 have s1 := ha.sp
 rw [e] at k s1
 have aw2 : ∀ (q : Rq), Awt s { akF a.hm q with st := 2, was := a.was, hm := a.hm } := fun q => ⟨k, fun g => absurd g (by rw [← k]; omega), s1, fun g => absurd (show a.was.k = 4 from g) (by omega)⟩
 unfold pushF
 split
 ·exact h.ask ho _ rfl (aw2 _)
 split
 ·exact h.ask ho _ rfl (aw2 _)
 split
 ·split
  ·exact h.given 40
  split
  ·exact h.fail 3
  ·exact h.ask ho _ rfl ⟨k, fun _ => rfl, s1, fun g => absurd (show a.was.k = 4 from g) (by omega)⟩
 ·exact h.stop _
theorem Cns.unl {B : Bt} {s : Ss} (h : Cns 1 s) (ho : s.op.k ≠ 0) (a : Ak) (ha : Awt s a) (h2 : a.st = 2) (hk : a.was.k ≤ 3) : Cns 0 (askF s (akF a.hm a.was)) := by
 have e := bsQ_1 (a := a) (by omega)
 have k := ha.k
 have s1 := ha.sp
 rw [e] at k s1
 exact h.ask ho _ rfl ⟨k, fun _ => rfl, s1, fun g => absurd (show a.was.k = 4 from g) (by omega)⟩
theorem Cns.decide {B : Bt} {s : Ss} (h : Cns 1 s) (ho : s.op.k = 6) (hs : s.stg = 2) : Cns 0 (decideF B s) :=
 h.ask (by rw [ho]; decide) _ rfl ⟨by show (4 : Int) = knd s; unfold knd; rw [ho, hs]; rfl, fun _ => rfl, fun g => absurd (show (4 : Int) ≤ 3 from g) (by decide), fun _ => ⟨rfl, rfl⟩⟩
theorem Cns.undo {B : Bt} {s : Ss} (h : Cns 1 s) (ho : s.op.k = 6) (hs : s.stg = 3) : Cns 0 (undoF B s) :=
 h.ask (by rw [ho]; decide) _ rfl ⟨by show (6 : Int) = knd s; unfold knd; rw [ho, hs]; rfl, fun _ => rfl, fun g => absurd (show (6 : Int) ≤ 3 from g) (by decide), fun g => absurd (show (6 : Int) = 4 from g) (by decide)⟩
theorem Cns.ans {B : Bt} {s : Ss} (h : Cns 1 s) (ho : s.op.k ≠ 0) (a : Ak) (r : Rp) (ha : Awt s a) (h0 : a.st = 0) (hk : a.q.k ≤ 3) (hr : OkR r) : Cns 0 (ansF B s a r).1 := by
 have e := bsQ_0 h0
 have k := ha.k
 rw [e] at k
 unfold ansF
 split
 ·exact h.lock ho a r ha h0 hk
 split
 ·exact h.drop
 split
 ·rename_i hq
  have h3 : s.op.k = 3 := by rcases knd_op h ho with g | g | g | g | g <;> omega
  have hl := h.left (.inl h3)
  have hp := h.ps h3
  have hC : Cns 0 { s with ps := s.ps ++ r.ps, left := s.left - 1 } := ⟨h.op, h.act, h.stg, fun x hx hc => ⟨(h.aw x hx hc).k, (h.aw x hx hc).pl, (h.aw x hx hc).sp, (h.aw x hx hc).ap⟩, fun _ => ⟨by show ((cntN s.asks + 0 : Nat) : Int) = s.left - 1; omega, by show s.left - 1 ≤ 8; omega⟩, fun e => absurd (h3.symm.trans e) (by decide), fun x hx hc => ⟨(h.ch x hx hc).oc, (h.ch x hx hc).on⟩, h.so, fun _ => ⟨by
    show ((s.ps ++ r.ps).length : Int) + 32 * (s.left - 1) ≤ 256
    rw [List.length_append]
    have := hr.pl
    omega, fun p hp' => by
    have hp2 : p ∈ s.ps ++ r.ps := hp'
    rw [List.mem_append] at hp2
    rcases hp2 with g | g
    ·exact hp.2 p g
    ·exact (hr.ps p g).2⟩⟩
  dsimp only
  split
  ·exact hC
  ·exact hC.drop
 split
 ·rename_i hq
  have h6 : s.op.k = 6 ∧ s.stg = 1 := by rcases knd_op h ho with g | g | g | g | g <;> omega
  have hl := h.left (.inr h6)
  dsimp only
  split
  ·rename_i hz
   have hz' : s.left - 1 = 0 := hz
   have hc0 : cntN s.asks = 0 := by omega
   have hC : Cns 1 { s with cp := (maxT (s.cp, s.cll) (r.ap, r.al)).1, cll := (maxT (s.cp, s.cll) (r.ap, r.al)).2, left := s.left - 1, stg := 2 } := ⟨h.op, h.act, fun _ => .inr (.inl rfl), fun x hx hc => (by rw [cnt_none hc0 x hx] at hc; cases hc), fun g => by
     rcases g with g | g
     ·exact absurd (h6.1.symm.trans g) (by decide)
     ·exact absurd g.2 (by show ¬ (2 = 1); decide), fun _ _ => by show cntN s.asks + 1 ≤ 1; omega, fun x hx hc => ⟨(h.ch x hx hc).oc, (h.ch x hx hc).on⟩, h.so, fun g => absurd (h6.1.symm.trans g) (by decide)⟩
   exact hC.decide h6.1 rfl
  ·exact ⟨h.op, h.act, h.stg, fun x hx hc => ⟨(h.aw x hx hc).k, (h.aw x hx hc).pl, (h.aw x hx hc).sp, fun g => by
     have := (h.aw x hx hc).k
     have hkk : knd s = 3 := by rcases knd_op h ho with g | g | g | g | g <;> omega
     omega⟩, fun _ => ⟨by show ((cntN s.asks + 0 : Nat) : Int) = s.left - 1; omega, by show s.left - 1 ≤ 8; omega⟩, fun _ g => absurd h6.2 g, fun x hx hc => ⟨(h.ch x hx hc).oc, (h.ch x hx hc).on⟩, h.so, fun g => absurd (h6.1.symm.trans g) (by decide)⟩
 split
 ·exact h.given 40
 split
 ·exact h.given 12
 ·exact h.stop _
theorem Cns.dec {B : Bt} {s : Ss} (h : Cns 1 s) (ho : s.op.k ≠ 0) (a : Ak) (r : Rp) (ha : Awt s a) (h0 : a.st = 0) (hk : ¬ a.q.k ≤ 3) : Cns 0 (decF B s r).1 := by
 have e := bsQ_0 h0
 have k := ha.k
 rw [e] at k
 have h6 : s.op.k = 6 ∧ (s.stg = 2 ∨ s.stg = 3) := by rcases knd_op h ho with g | g | g | g | g <;> omega
 have h1 := h.one h6.1 (by omega)
 have hc0 : ∀ x ∈ s.asks, x.ch = true := cnt_none (by omega)
 unfold decF
 split
 ·exact h.comm _ _
 split
 ·exact h.given 12
 split
 ·exact h.given _
 split
 ·rename_i hq
  have hC : Cns 1 { s with cp := (maxT (s.cp, s.cll) (r.ap, r.al)).1, cll := (maxT (s.cp, s.cll) (r.ap, r.al)).2 } := ⟨h.op, h.act, h.stg, fun x hx hc => (by rw [hc0 x hx] at hc; cases hc), h.left, h.one, fun x hx hc => ⟨(h.ch x hx hc).oc, (h.ch x hx hc).on⟩, h.so, h.ps⟩
  exact hC.decide h6.1 hq.2
 ·by_cases h2 : s.stg = 2
  ·rw [if_pos h2]
   have hC : Cns 1 { s with stg := 3, why := wrongF r } := ⟨h.op, h.act, fun _ => .inr (.inr rfl), fun x hx hc => (by rw [hc0 x hx] at hc; cases hc), fun g => by
     rcases g with g | g
     ·exact absurd (h6.1.symm.trans g) (by decide)
     ·exact absurd g.2 (by show ¬ (3 = 1); decide), fun _ _ => h1, fun x hx hc => ⟨(h.ch x hx hc).oc, (h.ch x hx hc).on⟩, h.so, h.ps⟩
   exact hC.undo h6.1 rfl
  ·rw [if_neg h2]
   exact h.undo h6.1 (by omega)
end Go.Proofs.YtkdkgdollmmcnaaGreat
