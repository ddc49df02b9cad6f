import Derived.Test.YtkdkgdollmmcnaaGreatWbt
import Derived.Test.YtkdkgdollmmcnaaGreatWbc
set_option maxHeartbeats 4000000
set_option maxRecDepth 100000
set_option linter.unusedVariables false
set_option linter.unusedSimpArgs false
namespace Go.Proofs.YtkdkgdollmmcnaaGreat
open Go.RowKit Go.Sort Go.Shelf
variable {M M' G N : Nat → Prop} {W W' w : World} {f f' : Fo} {X X' : Ss}
structure Ok (f : Fo) (X : Ss) (k : Nat) : Prop where
 bd : Bd f X
 g : Gs bt X
 i : Inc X
 c : Cns 0 X
 sq : X.sq ≤ k
 la : X.asks.length ≤ k
 n : X.n ≤ k
theorem dec_ps (r : Rp) : (decF bt X r).2.ps = [] := by
 unfold decF
 split
 ·exact res_ps 4
 split
 ·exact res_ps 5
 split
 ·exact res_ps 5
 split
 ·rfl
 ·rfl
theorem at_split (L : List Ax) (i : Nat) (hi : i < L.length) : L = L.take i ++ L.getD i dax :: L.drop (i + 1) ∧ L.eraseIdx i = L.take i ++ L.drop (i + 1) ∧ ∀ y, L.set i y = L.take i ++ y :: L.drop (i + 1) := by
 have e : L.getD i dax = L[i] := by rw [List.getD_eq_getElem?_getD, List.getElem?_eq_getElem hi]; rfl
 refine ⟨?_, List.eraseIdx_eq_take_drop_succ _ _, fun y => List.set_eq_take_append_cons_drop .. |>.trans (if_pos hi)⟩
 rw [e, List.getElem_cons_drop, List.take_append_drop]
theorem cntA_mid (A C : List Ak) (a : Ak) (n : Nat) : cntA (A ++ a :: C) n = cntA (A ++ C) n + if (a.ch && a.q.k == 5 && a.on == n) then 1 else 0 := by
 unfold cntA
 rw [List.filter_append, List.filter_append, List.filter_cons]
 cases h : (a.ch && a.q.k == 5 && a.on == n) <;> simp <;> omega
theorem cntA_le (L : List Ak) (n : Nat) : cntA L n ≤ L.length := List.length_filter_le _ _
theorem Bd.rest {i : Nat} {mp ml : Nat} (b : Bd f X) (e : Lf f f') (ea : X.asks = f.la.map Ax.a) (hi : i < f.la.length) (hq : ((f.la.getD i dax).a.ch && (f.la.getD i dax).a.q.k == 5) = false) : Bd f' { X with np := mp, nl := ml, asks := (f.la.eraseIdx i).map Ax.a } := by
 refine ⟨fun g => by rw [e.ok, e.lv, e.oq]; exact b.sc g, fun g1 g2 => by rw [e.ok, e.lv]; exact b.co g1 g2, fun n hn => ?_⟩
 rw [e.gs] at hn
 rw [e.gv, b.gs n hn, ea]
 obtain ⟨e1, e2, -⟩ := at_split f.la i hi
 show (cntA (f.la.map Ax.a) n : Int) = (cntA ((f.la.eraseIdx i).map Ax.a) n : Int)
 rw [e2, List.map_append]
 conv => lhs; rw [e1, List.map_append, List.map_cons]
 rw [cntA_mid, hq]
 simp
theorem hear_ok (k : Nat) (hk : k ≤ 100000) (h : SC f N X w) (hn : Nok N f X.act w) (o : Ok f X k) (hlo : f.lo.length ≤ 100000) (l : Le) (vw vs vp : Value) (hl : LF (f.Ex N X.act) l vw vs vp w) :
  Calls Tryz.prog 17 #[pz f.sb, .agg (lfc l vw vs vp).toArray] w (GotP f N X w (if rightL l then hearF bt X l else (X, zS)).1 (if rightL l then hearF bt X l else (X, zS)).2) := by
 have hlen : X.asks.length = f.la.length := by rw [h.ea, List.length_map]
 refine hear17 h hn o.bd l vw vs vp hl _ (maxT (X.np, X.nl) (l.r.np, l.r.nl)).1 (maxT (X.np, X.nl) (l.r.np, l.r.nl)).2 rfl (fun h0 => ?_) (fun i hi h1 h2 h3 h4 h5 => ?_)
 ·by_cases hr : rightL l = true
  ·rw [if_pos hr]
   refine hear_none bt X l ?_
   rcases h0 with h0 | h0 | h0 | h0
   ·rw [hr] at h0; cases h0
   ·exact .inl h0
   ·exact .inr (.inl h0)
   ·refine .inr (.inr ?_)
    unfold pickA
    rw [List.find?_eq_none, h.ea]
    intro x hx
    obtain ⟨y, hy, rfl⟩ := List.mem_map.1 hx
    obtain ⟨j, hj, rfl⟩ := List.mem_iff_getElem.1 hy
    have := h0 j hj
    rw [List.getD_eq_getElem?_getD, List.getElem?_eq_getElem hj] at this
    rw [show isA l f.la[j].a = false from this]
    decide
  ·rw [if_neg hr]
 ·rw [if_pos h3]
  have hOk : OkR l.r := by
   rcases (rightL_iff.1 h3).2.2 with e | e
   ·exact e.2.2
   ·rw [h4] at e; cases e.1
  have hxm : f.la.getD i dax ∈ f.la := getD_mem hi
  obtain ⟨x, hx⟩ := xj (f.la.getD i dax)
  obtain ⟨e1, e2, e3⟩ := at_split f.la i hi
  have ham : x.a ∈ X.asks := by rw [h.ea, ← hx]; exact List.mem_map_of_mem hxm
  obtain ⟨mp, hmp⟩ := xj (maxT (X.np, X.nl) (l.r.np, l.r.nl)).1
  obtain ⟨ml, hml⟩ := xj (maxT (X.np, X.nl) (l.r.np, l.r.nl)).2
  have hpick : pickA l X.asks = some x.a := by
   unfold pickA
   rw [List.find?_eq_some_iff_append]
   refine ⟨by rw [← hx]; exact h1, (f.la.take i).map Ax.a, (f.la.drop (i + 1)).map Ax.a, ?_, fun a ha => ?_⟩
   ·rw [h.ea, ← hx]
    conv => lhs; rw [e1]
    rw [List.map_append, List.map_cons]
   ·obtain ⟨y, hy, rfl⟩ := List.mem_map.1 ha
    obtain ⟨j, hj, rfl⟩ := List.mem_iff_getElem.1 hy
    have hj' : j < i ∧ j < f.la.length := by rw [List.length_take] at hj; omega
    have := h2 j hj'.1
    rw [List.getD_eq_getElem?_getD, List.getElem?_eq_getElem hj'.2] at this
    rw [List.getElem_take]
    rw [show isA l f.la[j].a = false from this]
    rfl
  have hAC : X.asks = (f.la.take i).map Ax.a ++ x.a :: (f.la.drop (i + 1)).map Ax.a := by
   rw [h.ea, ← hx]
   conv => lhs; rw [e1]
   rw [List.map_append, List.map_cons]
  have hrest : X.asks.filter (fun y => !isA l y) = (f.la.eraseIdx i).map Ax.a := by
   obtain ⟨A, C, g1, g2, g3, g4⟩ := pick_split o.i hpick
   have hp := o.i.1
   have hAl : A = (f.la.take i).map Ax.a ∧ C = (f.la.drop (i + 1)).map Ax.a := by
    have g5 := g1.symm.trans hAC
    rw [hAC] at hp
    have hnd : ∀ (A C A' C' : List Ak) (a : Ak), (A' ++ a :: C').Pairwise (fun x y => x.sq < y.sq) → A ++ a :: C = A' ++ a :: C' → A = A' ∧ C = C' := by
     intro A
     induction A with
     | nil =>
      intro C A' C' a hp he
      cases A' with
      | nil => injection he with _ he; exact ⟨rfl, he⟩
      | cons z A' =>
       injection he with he1 he2
       rw [List.cons_append, List.pairwise_cons] at hp
       have := hp.1 a (by simp)
       rw [he1] at this
       exact absurd this (Nat.lt_irrefl _)
     | cons z A ih =>
      intro C A' C' a hp he
      cases A' with
      | nil =>
       injection he with he1 he2
       rw [List.nil_append, List.pairwise_cons] at hp
       have := hp.1 a (by rw [← he2]; simp)
       exact absurd this (Nat.lt_irrefl _)
      | cons z' A' =>
       injection he with he1 he2
       rw [List.cons_append, List.pairwise_cons] at hp
       obtain ⟨k1, k2⟩ := ih C A' C' a hp.2 he2
       exact ⟨by rw [he1, k1], k2⟩
    exact hnd A C _ _ x.a hp g5
   rw [g2, hAl.1, hAl.2, e2, List.map_append]
  have hG := o.g
  have hg := hG.ak x.a ham
  have hcc := o.c
  have hun : hearF bt X l = (if x.a.ch then (choreF { X with asks := (f.la.eraseIdx i).map Ax.a, np := mp, nl := ml } x.a l.r, zS) else if x.a.st = 1 then pushF bt { X with asks := (f.la.eraseIdx i).map Ax.a, np := mp, nl := ml } x.a l.r else if x.a.st = 2 then (if l.r.k = 0 then stopF bt { X with asks := (f.la.eraseIdx i).map Ax.a, np := mp, nl := ml } (wrongF l.r) else (askF { X with asks := (f.la.eraseIdx i).map Ax.a, np := mp, nl := ml } (akF x.a.hm x.a.was), zS)) else if x.a.q.k ≤ 3 then ansF bt { X with asks := (f.la.eraseIdx i).map Ax.a, np := mp, nl := ml } x.a l.r else decF bt { X with asks := (f.la.eraseIdx i).map Ax.a, np := mp, nl := ml } l.r) := by
   unfold hearF
   rw [if_neg (by simp [h4, h5]), hpick]
   dsimp only
   rw [hrest, hmp, hml]
  rw [hun, hmp, hml, hx]
  rw [hx] at h1
  clear hun
  have hmem : ∀ y, y ∈ (f.la.eraseIdx i).map Ax.a → y ∈ X.asks := fun y hy => by
   rw [hAC]
   rw [e2, List.map_append, List.mem_append] at hy
   rw [List.mem_append, List.mem_cons]
   rcases hy with hy | hy
   ·exact .inl hy
   ·exact .inr (.inr hy)
  have hel : (f.la.eraseIdx i).length ≤ f.la.length := by rw [List.length_eraseIdx]; split <;> omega
  have hrm : ∀ f1 : Fo, f1.la = f.la.eraseIdx i → f1.lo = f.lo → Rm f1 { X with np := mp, nl := ml, asks := (f.la.eraseIdx i).map Ax.a } 9 := fun f1 a1 a2 => ⟨by show X.sq + 9 < _; have := o.sq; omega, by rw [a1]; have := o.la; omega, by rw [a2]; omega⟩
  have hcnt := cnt_mid ((f.la.take i).map Ax.a) ((f.la.drop (i + 1)).map Ax.a) x.a
  rw [← hAC, ← List.map_append, ← e2] at hcnt
  by_cases hc : x.a.ch = true
  ·rw [if_pos hc]
   have hch := hcc.ch x.a ham hc
   by_cases h0 : l.r.k = 0
   ·left
    refine ⟨hc, h0, ?_⟩
    unfold choreF
    rw [if_pos h0]
    have hp := o.i.1
    rw [hAC] at hp
    have := insA_at x.a _ _ hp { x.a with rs := true } rfl
    rw [← List.map_append, ← e2] at this
    rw [e3, List.map_append, List.map_cons]
    show (({ X with asks := insA { x.a with rs := true } ((f.la.eraseIdx i).map Ax.a), np := mp, nl := ml } : Ss), zS) = _
    rw [this]
    rfl
   ·right
    refine ⟨fun e => h0 e.2, fun f1 N1 W1 k1 k2 k3 k4 k5 k6 k7 => ?_⟩
    by_cases hk5 : x.a.q.k = 5
    ·refine then_c5 k1 k2 (hrm f1 k5 k6).room x k3 hc hk5 (by have := hg.fi hc; have := hG.n; omega) hch.oc (fun y hy hyc => (hcc.ch y (hmem y hy) hyc).oc) (fun g => by rw [k4.ok, k4.lv, k4.oq]; exact o.bd.sc g) (fun g1 g2 => by rw [k4.ok, k4.lv]; exact o.bd.co g1 g2) (fun m hm => ?_) ?_ l.r vp h0
     ·rw [k4.gs] at hm
      rw [k4.gv, o.bd.gs m hm, hAC, cntA_mid, ← List.map_append, ← e2, hc, hk5]
      by_cases em : m = x.a.on
      ·rw [if_pos em, em]; simp
      ·rw [if_neg em]
       have : (x.a.on == m) = false := by simpa using fun e => em e.symm
       simp [this]
     ·have := cntA_le ((f.la.eraseIdx i).map Ax.a) x.a.on
      rw [List.length_map] at this
      have := o.la
      show cntA ((f.la.eraseIdx i).map Ax.a) x.a.on < 1048576
      omega
    ·have e : choreF { X with asks := (f.la.eraseIdx i).map Ax.a, np := mp, nl := ml } x.a l.r = { X with asks := (f.la.eraseIdx i).map Ax.a, np := mp, nl := ml } := by
      unfold choreF
      rw [if_neg h0, if_pos (.inl hk5)]
     rw [e]
     exact then_c0 k1 (o.bd.rest k4 h.ea hi (by rw [hx]; simp [hk5])) x k3 hc hk5 l.r vp
  ·have hc' : x.a.ch = false := by simpa using hc
   rw [if_neg hc]
   right
   refine ⟨fun e => hc e.1, fun f1 N1 W1 k1 k2 k3 k4 k5 k6 k7 => ?_⟩
   have ho : X.op.k ≠ 0 := fun e => by have := hG.no e x.a ham; rw [hc'] at this; cases this
   have haw := hcc.aw x.a ham hc'
   have hact := hcc.act ho
   have hkn := knd_op hcc ho
   have u : Un f1 N1 { X with np := mp, nl := ml, asks := (f.la.eraseIdx i).map Ax.a } 9 W1 := ⟨k1, k2, o.bd.rest k4 h.ea hi (by rw [hx, hc']; rfl), hact, hG.n, by show X.ws.length ≤ 1000; have := hG.wl; omega, hrm f1 k5 k6⟩
   rw [hc'] at hcnt
   have hcnt' : cntN X.asks = cntN ((f.la.eraseIdx i).map Ax.a) + 1 := by simpa using hcnt
   by_cases s1 : x.a.st = 1
   ·rw [if_pos s1]
    obtain ⟨g1, g2, g3⟩ := hg.st (by omega)
    have hbk := haw.k
    rw [bsQ_1 (by omega)] at hbk
    have h1k := g1.ok.k.1
    refine then_push u ho x k3 hc' s1 (by have := g1.lt; have := hG.n; omega) ⟨h1k, g2⟩ (fun e => ?_) (fun e => ?_) l.r vp
    ·show X.op.k = 6 ∧ X.stg = 1
     omega
    ·show X.op.k ≠ 6
     omega
   rw [if_neg s1]
   by_cases s2 : x.a.st = 2
   ·rw [if_pos s2]
    obtain ⟨g1, g2, g3⟩ := hg.st (by omega)
    have hbk := haw.k
    rw [bsQ_1 (by omega)] at hbk
    have h1k := g1.ok.k.1
    exact then_unl u ho (fun e => by have e' : X.op.k = 6 := e; show X.stg = 1; omega) x k3 hc' s2 (by have := g1.lt; have := hG.n; omega) ⟨h1k, g2⟩ l.r vp
   rw [if_neg s2]
   have s0 : x.a.st = 0 := by have := hg.le; omega
   have hbk := haw.k
   have hbs := haw.sp
   have hba := haw.ap
   rw [bsQ_0 s0] at hbk hbs hba
   have h1k := hg.q.ok.k.1
   by_cases q3 : x.a.q.k ≤ 3
   ·rw [if_pos q3]
    rcases (show x.a.q.k = 1 ∨ x.a.q.k = 2 ∨ x.a.q.k = 3 by omega) with q | q | q
    ·exact then_get u ho (by show X.op.k ≠ 6; omega) x k3 hc' s0 q (hbs q3) l.r vp
    ·have h3' : X.op.k = 3 := by omega
     have hlft := hcc.left (.inl h3')
     have hps := hcc.ps h3'
     exact then_scan u h3' (by show 1 ≤ X.left ∧ X.left ≤ 8; omega) (by show X.ps.length + l.r.ps.length ≤ 1000; have := hOk.pl; omega) (fun p hp => by
      have hp' : p ∈ X.ps ++ l.r.ps := hp
      rw [List.mem_append] at hp'
      rcases hp' with e | e
      ·exact hps.2 p e
      ·exact (hOk.ps p e).2) hG.wl x k3 hc' s0 q (hbs q3) vp k7
    ·have h6 : X.op.k = 6 ∧ X.stg = 1 := by omega
     have hlft := hcc.left (.inr h6)
     exact then_lay u h6.1 h6.2 (by show 1 ≤ X.left ∧ X.left ≤ 8; omega) (hG.wn x.a ham ⟨hc', .inl q⟩) x k3 hc' s0 q l.r vp
   ·rw [if_neg q3]
    have hne := hG.wn x.a ham ⟨hc', .inr (.inr ⟨s0, by omega⟩)⟩
    have h6 : X.op.k = 6 ∧ X.stg ≠ 1 := by omega
    have hone := hcc.one h6.1 h6.2
    have hall : ∀ a ∈ (f.la.eraseIdx i).map Ax.a, a.ch = true := cnt_none (by omega)
    have hsu : ∀ N' W, Un f1 N' { X with np := mp, nl := ml, asks := (f.la.eraseIdx i).map Ax.a } 9 W → Calls Tryz.prog 139 #[pz f1.sb, .agg #[uw l.r.ap, uu l.r.al]] W (Got f1 N' { X with np := mp, nl := ml, asks := (f.la.eraseIdx i).map Ax.a } W (commF bt { X with np := mp, nl := ml, asks := (f.la.eraseIdx i).map Ax.a } l.r.ap l.r.al).1 (commF bt { X with np := mp, nl := ml, asks := (f.la.eraseIdx i).map Ax.a } l.r.ap l.r.al).2) := fun N' W u' =>
     succeed139 u' hne (fun a ha hac hk => ((hcc.ch a (hmem a ha) hac).on hk).2 hact) (pri_part (X := X) hG hne) l.r.ap l.r.al
    rcases (show x.a.q.k = 4 ∨ x.a.q.k = 6 by omega) with q | q
    ·obtain ⟨fn, cp, t1, t2, t3⟩ := Then.dec u x k3 hc' s0 q h6.1 (by show X.stg = 2; omega) hne hall (by have := hba q; exact ⟨this.1.symm, this.2.symm⟩) l.r vp hsu
     exact ⟨fn, cp, t1, t2, t3.mono fun e w' g => g.p (dec_ps l.r)⟩
    ·obtain ⟨fn, cp, t1, t2, t3⟩ := Then.rev u x k3 hc' s0 q (by show X.stg ≠ 2; omega) hne l.r vp hsu
     exact ⟨fn, cp, t1, t2, t3.mono fun e w' g => g.p (dec_ps l.r)⟩
end Go.Proofs.YtkdkgdollmmcnaaGreat
namespace Go.Proofs.YtkdkgdollmmcnaaGreat
open Go.RowKit Go.Sort Go.Shelf
variable {M M' G N : Nat → Prop} {W W' w : World} {f f' : Fo} {X X' : Ss} {k : Nat}
theorem getD_lt {L : List Wr} (h : L.Pairwise fun x y => x.key < y.key) : ∀ i j, i < j → j < L.length → (L.getD i dw).key < (L.getD j dw).key := fun i j hij hj => by
 have e : ∀ t (ht : t < L.length), L.getD t dw = L[t] := fun t ht => by rw [List.getD_eq_getElem?_getD, List.getElem?_eq_getElem ht]; rfl
 rw [e i (by omega), e j hj]
 exact List.pairwise_iff_getElem.1 h i j (by omega) hj hij
theorem Ok.dn (o : Ok f X k) (hk : k ≤ 100000) (h : SC f N X W) (hlo : f.lo.length ≤ 100000) : Dn f X := by
 have hlen : X.asks.length = f.la.length := by rw [h.ea, List.length_map]
 refine ⟨o.bd, o.g.n, by have := o.g.wl; omega, ⟨by have := o.sq; omega, by have := o.la; omega, by omega⟩, fun i j hij hj e => ?_, by have := o.n; omega, o.g.no⟩
 rcases Nat.eq_or_lt_of_le hij with e2 | e2
 ·subst e2
  exact List.lt_irrefl _ e
 ·exact List.lt_irrefl _ (List.lt_trans e (getD_lt o.c.so i j e2 hj))
theorem Ok.do (o : Ok f X k) (ph : Nat) (op : Op) (bd : Bd f' (doF bt X ph op).1) : Ok f' (doF bt X ph op).1 (k + 9) := by
 have g := do_gw (o.g.pl bt_good) o.g.n.2 ph op
 exact ⟨bd, o.g.do bt_good ph op, (do_iw bt X ph op).1 o.i, o.c.do bt_good o.g ph op, by have := g.sq; have := o.sq; omega, by have := g.la; have := o.la; omega, by have := do_n bt X ph op; have := o.n; omega⟩
theorem Ok.give (o : Ok f X k) (bd : Bd f' (giveF bt X).1) : Ok f' (giveF bt X).1 (k + 9) := by
 have g := give_gw (B := bt) (s := X) (o.g.pl bt_good)
 exact ⟨bd, o.g.give bt_good, (give_iw bt X).1 o.i, o.c.give, by have := g.sq; have := o.sq; omega, by have := g.la; have := o.la; omega, by rw [(give_cm bt X).2.2.1]; have := o.n; omega⟩
def hearR (X : Ss) (l : Le) : Ss × Rs := if rightL l then hearF bt X l else (X, zS)
theorem okr_of {l : Le} (h : rightL l = true) (h2 : l.an = true) : OkR l.r := by
 rcases (rightL_iff.1 h).2.2 with e | e
 ·exact e.2.2
 ·rw [h2] at e; cases e.1
theorem hear_an {l : Le} (h : l.an ≠ true) : hearF bt X l = (X, zS) := hear_none bt X l (.inl (by simpa using h))
theorem Ok.hear (o : Ok f X k) (l : Le) (bd : Bd f' (hearR X l).1) : Ok f' (hearR X l).1 (k + 9) := by
 unfold hearR at bd ⊢
 by_cases hr : rightL l = true
 ·rw [if_pos hr] at bd ⊢
  by_cases ha : l.an = true
  ·have g := hear_gw (B := bt) (s := X) (o.g.pl bt_good) l
   have hO := okr_of hr ha
   exact ⟨bd, o.g.hear bt_good l hO, hear_inc bt X l o.i, o.c.hear o.i o.g l hO, by have := g.sq; have := o.sq; omega, by have := g.la; have := o.la; omega, by rw [(hear_cm bt X l).2.2.1]; have := o.n; omega⟩
  ·rw [hear_an ha] at bd ⊢
   exact ⟨bd, o.g, o.i, o.c, by have := o.sq; show X.sq ≤ _; omega, by have := o.la; show X.asks.length ≤ _; omega, by have := o.n; show X.n ≤ _; omega⟩
 ·rw [if_neg hr] at bd ⊢
  exact ⟨bd, o.g, o.i, o.c, by have := o.sq; show X.sq ≤ _; omega, by have := o.la; show X.asks.length ≤ _; omega, by have := o.n; show X.n ≤ _; omega⟩
theorem Ok.same (o : Ok f X k) {f' : Fo} {X' : Ss} (ol : List Le) (e : X' = { X with out := ol }) (hg : ∀ l ∈ ol, Lg bt X.cl X.nsh l) (h1 : f'.ok = f.ok ∧ f'.lv = f.lv ∧ f'.oq = f.oq ∧ f'.gs = f.gs ∧ f'.gv = f.gv) : Ok f' X' (k + 9) := by
 subst e
 refine ⟨⟨fun g => by rw [h1.1, h1.2.1, h1.2.2.1]; exact o.bd.sc g, fun g1 g2 => by rw [h1.1, h1.2.1]; exact o.bd.co g1 g2, fun n hn => by rw [h1.2.2.2.1] at hn; rw [h1.2.2.2.2]; exact o.bd.gs n hn⟩, ⟨o.g.n, o.g.cl, o.g.now, o.g.st, o.g.c, o.g.wl, o.g.ws, o.g.ak, o.g.no, o.g.wn, hg⟩, ⟨o.i.1, o.i.2⟩, o.c.same _ rfl, by have := o.sq; show X.sq ≤ _; omega, by have := o.la; show X.asks.length ≤ _; omega, by have := o.n; show X.n ≤ _; omega⟩
theorem Ok.le {k' : Nat} (o : Ok f X k) (h : k ≤ k') : Ok f X k' := ⟨o.bd, o.g, o.i, o.c, by have := o.sq; omega, by have := o.la; omega, by have := o.n; omega⟩
theorem Ok.out (o : Ok f X k) (vo : Value) (lo : List Lx) : Ok { f with vo := vo, lo := lo } { X with out := [] } k := ⟨⟨o.bd.sc, o.bd.co, o.bd.gs⟩, ⟨o.g.n, o.g.cl, o.g.now, o.g.st, o.g.c, o.g.wl, o.g.ws, o.g.ak, o.g.no, o.g.wn, fun l hl => by cases hl⟩, ⟨o.i.1, o.i.2⟩, o.c.same _ rfl, o.sq, o.la, o.n⟩
theorem Ok.new (f : Fo) (hg : f.gs = []) {c n : Nat} (hc : c < 4) (hn : 1 ≤ n ∧ n ≤ 8) : Ok f (Ss.new c n) 0 :=
 ⟨⟨fun g => absurd (show (0 : Int) = 3 from g) (by decide), fun g _ => absurd (show (0 : Int) = 6 from g) (by decide), fun n hn => by rw [hg] at hn; cases hn⟩, Gs.new bt hc hn, new_inc c n, Cns.new c n, Nat.le_refl _, Nat.le_refl _, Nat.le_refl _⟩
theorem do_ok (hk : k ≤ 100000) (h : SC f N X w) (hn : Nok N f X.act w) (o : Ok f X k) (hlo : f.lo.length ≤ 100000) (ph : Nat) (op : Op) :
  Calls Tryz.prog 11 #[pz f.sb, uw ph, .agg #[iw op.k, sd op.key, sd op.val, sd op.to, iw op.lim]] w (Got f N X w (doF bt X ph op).1 (doF bt X ph op).2) :=
 do11w h hn (o.dn hk h hlo) (getD_lt o.c.so) ph op
theorem give_ok (hk : k ≤ 100000) (h : SC f N X w) (hn : Nok N f X.act w) (o : Ok f X k) (hlo : f.lo.length ≤ 100000) : Calls Tryz.prog 12 #[pz f.sb] w (Got f N X w (giveF bt X).1 (giveF bt X).2) :=
 give12 h hn o.bd fun ho => (o.dn hk h hlo).un (o.c.act ho) h hn
theorem hear_ok2 (hk : k ≤ 100000) (h : SC f N X w) (hn : Nok N f X.act w) (o : Ok f X k) (hlo : f.lo.length ≤ 100000) (l : Le) (vw vs vp : Value) (hl : LF (f.Ex N X.act) l vw vs vp w) :
  Calls Tryz.prog 17 #[pz f.sb, .agg (lfc l vw vs vp).toArray] w (GotP f N X w (hearR X l).1 (hearR X l).2) := hear_ok k hk h hn o hlo l vw vs vp hl
end Go.Proofs.YtkdkgdollmmcnaaGreat
namespace Go.Proofs.YtkdkgdollmmcnaaGreat
open Go.RowKit Go.Sort Go.Shelf
variable {M M' G N : Nat → Prop} {W W' w : World} {f f' : Fo} {X X' : Ss}
structure Ac where
 what : Int
 raw : Int
 ph : Nat
 op : Op
 r : Rp
 l : Le
 vp : Value
 lw : Value
 ls : Value
 lp : Value
def acc (a : Ac) : List Value := iw a.what :: iw a.raw :: uw a.ph :: iw a.op.k :: sd a.op.key :: sd a.op.val :: sd a.op.to :: iw a.op.lim :: (rpc a.r a.vp ++ lfc a.l a.lw a.ls a.lp)
theorem acc_len (a : Ac) : (acc a).length = 53 := rfl
def Ac.one (a : Ac) : Prop := a.vp.oneCell' = true ∧ a.lw.oneCell' = true ∧ a.ls.oneCell' = true ∧ a.lp.oneCell' = true
def atS (raw : Int) (n : Nat) : Nat := ((raw.tmod n + n).tmod n).toNat
def heardF (a : Ac) (S : List Lx) : Le := if a.what = 4 ∨ S.length = 0 then a.l else ⟨(S.getD (atS a.raw S.length) dlx).l.cl, (S.getD (atS a.raw S.length) dlx).l.sh, (S.getD (atS a.raw S.length) dlx).l.sq, true, zQ, a.r⟩
def heardW (a : Ac) (n : Nat) : Value := if a.what = 4 ∨ n = 0 then a.lw else sy
def heardS (a : Ac) (n : Nat) : Value := if a.what = 4 ∨ n = 0 then a.ls else sy
def heardP (a : Ac) (n : Nat) : Value := if a.what = 4 ∨ n = 0 then a.lp else a.vp
theorem rpc_one {r : Rp} {vp : Value} (h : vp.oneCell' = true) : ∀ u ∈ rpc r vp, u.oneCell' = true := fun u hu => by
 simp only [rpc, List.mem_cons, List.not_mem_nil, or_false] at hu
 rcases hu with rfl | rfl | rfl | rfl | rfl | rfl | rfl | rfl | rfl | rfl | rfl | rfl | rfl | rfl <;> first | exact h | rfl
theorem lfc_one {l : Le} {vw vs vp : Value} (h1 : vw.oneCell' = true) (h2 : vs.oneCell' = true) (h3 : vp.oneCell' = true) : ∀ u ∈ lfc l vw vs vp, u.oneCell' = true := fun u hu => by
 unfold lfc at hu
 simp only [List.mem_cons, List.mem_append] at hu
 rcases hu with rfl | rfl | rfl | rfl | hu | hu
 ·rfl
 ·rfl
 ·rfl
 ·rfl
 ·exact rqc_one h1 h2 u hu
 ·exact rpc_one h3 u hu
theorem info55s : (Tryz.prog.info? 55).map (·.size) = some 31 := by kernel_rfl
theorem res31 {fn : Func} {p : Tmp} (hf : fn.results = #[.cell p 55]) {tmps : Array Value} {b : Nat} (hp : tmps.getD p undef = .pointer (some ⟨b, 0, none⟩)) {vs : Array Value} (hs : vs.size = 31) (h : W.heap[b]? = some (.cells vs 55 (0, 0))) : (results fn tmps).run Tryz.prog W = .ok (.agg vs) W :=
 results_cell_row hf tmps W b 55 vs (0, 0) _ hp h Tryz.underlying55 rfl (by rw [hs]; exact info55s)
theorem heard_pre (a : Ac) (w : World) : ∃ W2, (w.alloc (.cells (acc a).toArray 57)).alloc (.cells #[.int .u32 0, .int .u32 0, .int .u32 0, .bool false, iw 0, .int .u32 0, .int .u32 0, .int .u64 0, .int .u32 0, .int .u64 0, .int .u32 0, su, su, iw 0, .int .u8 0, sy, sy, iw 0, iw 0, .bool false, su, sy, .int .u32 0, .int .u32 0, .int .u64 0, .int .u32 0, .int .u64 0, .int .u32 0, su, .int .u64 0, .int .u32 0] 55) = W2 ∧ W2.heap[w.heap.size]? = some (.cells (acc a).toArray 57 (0, 0)) ∧ W2.heap[w.heap.size + 1]? = some (.cells #[.int .u32 0, .int .u32 0, .int .u32 0, .bool false, iw 0, .int .u32 0, .int .u32 0, .int .u64 0, .int .u32 0, .int .u64 0, .int .u32 0, su, su, iw 0, .int .u8 0, sy, sy, iw 0, iw 0, .bool false, su, sy, .int .u32 0, .int .u32 0, .int .u64 0, .int .u32 0, .int .u64 0, .int .u32 0, su, .int .u64 0, .int .u32 0] 55 (0, 0)) ∧ Below w.heap.size w W2 ∧ W2.heap.size = w.heap.size + 2 := by
 have n1 : (w.alloc (.cells (acc a).toArray 57)).heap[w.heap.size]? = some (.cells (acc a).toArray 57 (0, 0)) := heap_alloc_new w _
 have hb1 := al (W := w) (.cells (acc a).toArray 57)
 have hs1 : (w.alloc (.cells (acc a).toArray 57)).heap.size = w.heap.size + 1 := by rw [size_al]
 have hb2 := al (W := w.alloc (.cells (acc a).toArray 57)) (.cells #[.int .u32 0, .int .u32 0, .int .u32 0, .bool false, iw 0, .int .u32 0, .int .u32 0, .int .u64 0, .int .u32 0, .int .u64 0, .int .u32 0, su, su, iw 0, .int .u8 0, sy, sy, iw 0, iw 0, .bool false, su, sy, .int .u32 0, .int .u32 0, .int .u64 0, .int .u32 0, .int .u64 0, .int .u32 0, su, .int .u64 0, .int .u32 0] 55)
 have n2 := heap_alloc_new (w.alloc (.cells (acc a).toArray 57)) (.cells #[.int .u32 0, .int .u32 0, .int .u32 0, .bool false, iw 0, .int .u32 0, .int .u32 0, .int .u64 0, .int .u32 0, .int .u64 0, .int .u32 0, su, su, iw 0, .int .u8 0, sy, sy, iw 0, iw 0, .bool false, su, sy, .int .u32 0, .int .u32 0, .int .u64 0, .int .u32 0, .int .u64 0, .int .u32 0, su, .int .u64 0, .int .u32 0] 55)
 refine ⟨_, rfl, ?_, ?_, hb1.trans (hb2.mono (by omega)), by rw [size_al, size_al]⟩
 ·rw [hb2.block _ (by omega)]; exact n1
 ·rw [hs1] at n2; exact n2
theorem heard16a (a : Ac) (ho : a.one) (n cap : Nat) (ao : Option Addr) (w : World) (h : a.what = 4 ∨ n = 0) : Calls Tryz.prog 16 #[.agg (acc a).toArray, .slice ao n cap] w fun e w' => e = .returned (.agg (lfc a.l a.lw a.ls a.lp).toArray) ∧ Below w.heap.size w w' := by
 obtain ⟨W2, hW2, n3, n2, hb, -⟩ := heard_pre a w
 have k0 : W2.cell? ⟨w.heap.size, 0, none⟩ = some (iw a.what) := block_cell n3 rfl
 have RG : Hid (W2.rangeAt w.heap.size 22 (lfc a.l a.lw a.ls a.lp)) := range_box (o := 22) (n := 31) n3
 have N2 : Hid (W2.heap[w.heap.size + 1]? = some (.cells #[.int .u32 0, .int .u32 0, .int .u32 0, .bool false, iw 0, .int .u32 0, .int .u32 0, .int .u64 0, .int .u32 0, .int .u64 0, .int .u32 0, su, su, iw 0, .int .u8 0, sy, sy, iw 0, iw 0, .bool false, su, sy, .int .u32 0, .int .u32 0, .int .u64 0, .int .u32 0, .int .u64 0, .int .u32 0, su, .int .u64 0, .int .u32 0] 55 (0, 0))) := n2
 have HA : Hid ((lfc a.l a.lw a.ls a.lp).toArray.all (·.oneCell') = true) := all_oneCell_toArray (lfc_one ho.2.1 ho.2.2.1 ho.2.2.2)
 have HB : Hid (Below w.heap.size w W2) := hb
 clear n2 n3 hb ho
 by_cases h4 : a.what = 4
 ·have hb : (a.what == 4) = true := by rw [h4]; rfl
  clear h h4
  go_enter Tryz.func16, Tryz.ntmps16
  go_wp2_with (first
   | (refine wpList_load_mid rfl 55 _ rfl w.heap.size 22 rfl (lfc a.l a.lw a.ls a.lp) _ RG.out Tryz.underlying55 rfl (by kernel_rfl) ?_)
   | (refine wpList_store_row rfl 55 _ _ rfl (w.heap.size + 1) (lfc a.l a.lw a.ls a.lp).toArray rfl rfl 55 _ N2.out (by kernel_rfl) rfl HA.out ?_))
  refine bodyPost_ret (res31 rfl rfl rfl (setRow_at N2.out)) rfl ?_
  exact ⟨rfl, below_row HB.out (by omega) _⟩
 ·have hb : (a.what == 4) = false := by simpa using h4
  obtain rfl : n = 0 := h.resolve_left h4
  clear h h4
  go_enter Tryz.func16, Tryz.ntmps16
  go_wp2_with (first
   | (refine wpList_load_mid rfl 55 _ rfl w.heap.size 22 rfl (lfc a.l a.lw a.ls a.lp) _ RG.out Tryz.underlying55 rfl (by kernel_rfl) ?_)
   | (refine wpList_store_row rfl 55 _ _ rfl (w.heap.size + 1) (lfc a.l a.lw a.ls a.lp).toArray rfl rfl 55 _ N2.out (by kernel_rfl) rfl HA.out ?_))
  refine bodyPost_ret (res31 rfl rfl rfl (setRow_at N2.out)) rfl ?_
  exact ⟨rfl, below_row HB.out (by omega) _⟩
theorem atS_lt {raw : Int} {n : Nat} (h : 0 < n) : atS raw n < n ∧ (raw.tmod n + n).tmod n = (atS raw n : Int) ∧ - (n : Int) < raw.tmod n ∧ raw.tmod n < n := by
 have hn : (0 : Int) < n := by omega
 have h1 : - (n : Int) < raw.tmod n ∧ raw.tmod n < n := by
  have := Int.tmod_lt_of_pos raw hn
  have := Int.lt_tmod_of_pos raw hn
  exact ⟨by omega, by omega⟩
 have h2 : 0 ≤ (raw.tmod n + n).tmod n := Int.tmod_nonneg _ (by omega)
 have h3 := Int.tmod_lt_of_pos (raw.tmod n + n) hn
 unfold atS
 exact ⟨by omega, by omega, h1.1, h1.2⟩
theorem heard16b (a : Ac) (ho : a.one) (S : List Lx) (base g cap : Nat) (w : World) (hr : -9223372036854775808 ≤ a.raw ∧ a.raw ≤ 9223372036854775807) (hS : w.ownsRow base 55 31 (.slice (some ⟨g, 0, none⟩) S.length cap) S.length (rowC lxc S)) (h1 : ∀ x ∈ S, x.vw.oneCell' = true ∧ x.vs.oneCell' = true) (hl : S.length ≤ 1000000) (h : ¬ (a.what = 4 ∨ S.length = 0)) : Calls Tryz.prog 16 #[.agg (acc a).toArray, .slice (some ⟨g, 0, none⟩) S.length cap] w fun e w' => e = .returned (.agg (lfc (heardF a S) sy sy a.vp).toArray) ∧ Below w.heap.size w w' := by
 obtain ⟨W2, hW2, n3, n2, hb, hsz0⟩ := heard_pre a w
 obtain ⟨b2, hsz⟩ := xj W2.heap.size
 have hb2 : w.heap.size + 2 = b2 := by rw [← hsz, hsz0]
 clear hsz0
 have h4 : (a.what == 4) = false := by simpa using fun e => h (.inl e)
 have hn0 : S.length ≠ 0 := fun e => h (.inr e)
 have hn0b : ((S.length : Int) == 0) = false := by simpa using hn0
 obtain ⟨i1, i2, i3, i4⟩ := atS_lt (raw := a.raw) (n := S.length) (by omega)
 have hF : heardF a S = ⟨(S.getD (atS a.raw S.length) dlx).l.cl, (S.getD (atS a.raw S.length) dlx).l.sh, (S.getD (atS a.raw S.length) dlx).l.sq, true, zQ, a.r⟩ := by unfold heardF; rw [if_neg h]
 rw [hF]
 obtain ⟨m, hm⟩ := xj (atS a.raw S.length)
 rw [hm] at i1 i2 ⊢
 obtain ⟨x, hx⟩ := xj (S.getD m dlx)
 have ER : Hid (W2.rangeAt g (m * 31) (lxc x)) := by
  have k := own_range lxc_len dlx (own_on hS hb) i1
  rw [hx] at k
  exact k
 have hxo : x ∈ S := by rw [← hx]; exact getD_mem i1
 rw [hx]
 have k0 : W2.cell? ⟨w.heap.size, 0, none⟩ = some (iw a.what) := block_cell n3 rfl
 have k1 : W2.cell? ⟨w.heap.size, 1, none⟩ = some (iw a.raw) := block_cell n3 rfl
 have HX : Hid ((lxc x).toArray.all (·.oneCell') = true) := all_oneCell_toArray (fun u hu => by
  unfold lxc lec at hu
  simp only [List.mem_cons, List.mem_append] at hu
  rcases hu with rfl | rfl | rfl | rfl | hu | hu
  ·rfl
  ·rfl
  ·rfl
  ·rfl
  ·exact rqc_one (h1 x hxo).1 (h1 x hxo).2 u hu
  ·unfold zrc at hu
   simp only [List.mem_cons, List.not_mem_nil, or_false] at hu
   rcases hu with rfl | rfl | rfl | rfl | rfl | rfl | rfl | rfl | rfl | rfl | rfl | rfl | rfl | rfl <;> rfl)
 have n5 : (W2.alloc (.cells (lxc x).toArray 55)).heap[W2.heap.size]? = some (.cells (lxc x).toArray 55 (0, 0)) := heap_alloc_new W2 _
 have hb5 := al (W := W2) (.cells (lxc x).toArray 55)
 rw [hsz] at n5
 obtain ⟨W5, hW5⟩ := xj (W2.alloc (.cells (lxc x).toArray 55))
 rw [hW5] at n5 hb5
 have c0 : W5.cell? ⟨b2, 0, none⟩ = some (uu x.l.cl) := block_cell n5 rfl
 have c1 : W5.cell? ⟨b2, 1, none⟩ = some (uu x.l.sh) := block_cell n5 rfl
 have c2 : W5.cell? ⟨b2, 2, none⟩ = some (uu x.l.sq) := block_cell n5 rfl
 have m3 : W5.heap[w.heap.size]? = some (.cells (acc a).toArray 57 (0, 0)) := by rw [hb5.block _ (by rw [hsz]; omega)]; exact n3
 have RG : Hid (W5.rangeAt w.heap.size 8 (rpc a.r a.vp)) := range_box (o := 8) (n := 14) m3
 have N2 : Hid (W5.heap[w.heap.size + 1]? = some (.cells #[.int .u32 0, .int .u32 0, .int .u32 0, .bool false, iw 0, .int .u32 0, .int .u32 0, .int .u64 0, .int .u32 0, .int .u64 0, .int .u32 0, su, su, iw 0, .int .u8 0, sy, sy, iw 0, iw 0, .bool false, su, sy, .int .u32 0, .int .u32 0, .int .u64 0, .int .u32 0, .int .u64 0, .int .u32 0, su, .int .u64 0, .int .u32 0] 55 (0, 0))) := by rw [hb5.block _ (by rw [hsz]; omega)]; exact n2
 have NA : Hid ((W2.alloc (.cells #[.int .u32 0, .int .u32 0, .int .u32 0, .bool false, iw 0, .int .u32 0, .int .u32 0, .int .u64 0, .int .u32 0, .int .u64 0, .int .u32 0, su, su, iw 0, .int .u8 0, sy, sy, iw 0, iw 0, .bool false, su, sy, .int .u32 0, .int .u32 0, .int .u64 0, .int .u32 0, .int .u64 0, .int .u32 0, su, .int .u64 0, .int .u32 0] 55)).heap[b2]? = some (.cells #[.int .u32 0, .int .u32 0, .int .u32 0, .bool false, iw 0, .int .u32 0, .int .u32 0, .int .u64 0, .int .u32 0, .int .u64 0, .int .u32 0, su, su, iw 0, .int .u8 0, sy, sy, iw 0, iw 0, .bool false, su, sy, .int .u32 0, .int .u32 0, .int .u64 0, .int .u32 0, .int .u64 0, .int .u32 0, su, .int .u64 0, .int .u32 0] 55 (0, 0))) := by rw [← hsz]; exact heap_alloc_new W2 _
 have EA : Hid ((W2.alloc (.cells #[.int .u32 0, .int .u32 0, .int .u32 0, .bool false, iw 0, .int .u32 0, .int .u32 0, .int .u64 0, .int .u32 0, .int .u64 0, .int .u32 0, su, su, iw 0, .int .u8 0, sy, sy, iw 0, iw 0, .bool false, su, sy, .int .u32 0, .int .u32 0, .int .u64 0, .int .u32 0, .int .u64 0, .int .u32 0, su, .int .u64 0, .int .u32 0] 55)).setRow (b2) (lxc x).toArray = W5) := by
  show _ = _
  rw [← hsz, World.setRow_alloc_new, hW5]
 have HA : Hid ((lfc ⟨x.l.cl, x.l.sh, x.l.sq, true, zQ, a.r⟩ sy sy a.vp).toArray.all (·.oneCell') = true) := all_oneCell_toArray (lfc_one rfl rfl ho.1)
 have HB : Hid (Below w.heap.size w W5) := hb.trans (hb5.mono (by rw [hsz]; omega))
 have i5 : -9223372036854775808 ≤ a.raw.tmod S.length + S.length ∧ a.raw.tmod S.length + S.length < 9223372036854775808 := by omega
 have hSn : (S.length : Int) < 9223372036854775808 := by omega
 have hmm : (m : Int) < (S.length : Int) := by omega
 have hSp : (0 : Int) < S.length := by omega
 generalize S.length = ns at *
 clear hS h1 hxo n2 n3 n5 m3 hb hb5 ho hx h hF hm hn0 hW5 hSn hb2
 have hn0 : ¬ (ns : Int) = 0 := by omega
 clear i5 i1 hr
 go_enter Tryz.func16, Tryz.ntmps16
 go_upto_region 3 with fail
 go_upto_region 4 with (first
  | (refine wpList_load_mid rfl 55 _ rfl g (m * 31) rfl (lxc x) _ ER.out Tryz.underlying55 rfl (by kernel_rfl) ?_)
  | (refine wpList_store_row rfl 55 _ _ rfl b2 (lxc x).toArray rfl rfl 55 _ NA.out (by kernel_rfl) rfl HX.out ?_; rewrite [EA.out]))
 simp only [Act.put]
 clear hW2 k0 k1 ER NA EA HX i2 i3 i4
 go_wp2_with (first
  | (refine wpList_load_mid rfl 49 _ rfl w.heap.size 8 rfl [iw a.r.k, iw a.r.er, .bool a.r.fd, sd a.r.val, a.vp, uu a.r.c, uu a.r.n, uw a.r.sp, uu a.r.sl, uw a.r.ap, uu a.r.al, sd a.r.prim, uw a.r.np, uu a.r.nl] _ RG.out Tryz.underlying49 rfl (by kernel_rfl) ?_)
  | (refine wpList_store_row rfl 55 _ _ rfl (w.heap.size + 1) (lfc ⟨x.l.cl, x.l.sh, x.l.sq, true, zQ, a.r⟩ sy sy a.vp).toArray rfl rfl 55 _ N2.out (by kernel_rfl) rfl HA.out ?_))
 refine bodyPost_ret (res31 rfl rfl rfl (setRow_at N2.out)) rfl ?_
 exact ⟨rfl, below_row HB.out (by omega) _⟩
end Go.Proofs.YtkdkgdollmmcnaaGreat
namespace Go.Proofs.YtkdkgdollmmcnaaGreat
open Go.RowKit Go.Sort Go.Shelf
variable {M M' G N N' : Nat → Prop} {W W' w : World} {f f' : Fo} {X X' : Ss} {Lo Lm Lm' Lb Lb' Ls : List Bo}
theorem SC.mv (h : SC f N X W) (hk : Kept G W W') (hG : ∀ k, G k → N k ∧ ¬ f.In X.act k) (hn : ∀ k, N' k → N k ∨ W.heap.size ≤ k) : SC f N' X W' := by
 have s : Stay G (f.Ex N X.act) (f.Ex N' X.act) W W' := ⟨hk, fun k e => .inl (hG k e).1, fun k hl e => e.elim (fun e => by
  rcases hn k e with e | e
  ·exact .inl e
  ·omega) .inr⟩
 have B : ∀ {k : Nat} {o : Obj}, W.heap[k]? = some o → f.In X.act k → W'.heap[k]? = some o := fun {k o} e hm => by rw [hk.block k (lt_blk e) (fun e => (hG k e).2 hm)]; exact e
 have O : ∀ {base e size : Nat} {v : Value} {n : Nat} {cs : List Value}, W.ownsRow base e size v n cs → (∀ k, v.ownBlock = some k → f.In X.act k) → W'.ownsRow base e size v n cs := fun h1 h2 => own_kept h1 hk (fun k hv e => (hG k e).2 (h2 k hv))
 exact ⟨B h.blk (.inl rfl), fun a => ⟨B (h.tx a).1 (.inr (.inr (.inr (.inl ⟨a, .inl rfl⟩)))), O (h.tx a).2 fun k e => .inr (.inr (.inr (.inl ⟨a, .inr e⟩)))⟩, O h.ra fun k e => .inr (.inl e), O h.ro fun k e => .inr (.inr (.inl e)), h.ea, h.eo,
  ⟨fun a => B (h.bx.l a) (.inr (.inr (.inr (.inr (.inl ⟨a, .inr (.inl rfl)⟩))))), fun a => ⟨B (h.bx.p a).1 (.inr (.inr (.inr (.inr (.inl ⟨by omega, .inl rfl⟩))))), O (h.bx.p a).2.1 fun k e => .inr (.inr (.inr (.inr (.inl ⟨by omega, .inr (.inr e)⟩)))), (h.bx.p a).2.2.stay s⟩, fun a => ⟨B (h.bx.c a).1 (.inr (.inr (.inr (.inr (.inl ⟨by omega, .inl rfl⟩))))), (h.bx.c a).2⟩, h.bx.le⟩,
  fun n a => B (h.gb n a) (.inr (.inr (.inr (.inr (.inr ⟨n, a, rfl⟩))))), h.gd, fun x hx => (h.ak x hx).stay s (SameF.refl f) rfl (fun _ _ => rfl), fun x hx => ⟨(h.lk x hx).1.stay s, (h.lk x hx).2⟩⟩
def nob : Nat → Prop := fun _ => False
structure Lw (w : World) (f : Fo) (X : Ss) (Lb Ls : List Bo) (vS : Value) (S : List Lx) (W : World) : Prop where
 cx : Cx nob nob w f X [] (Lb ++ Ls) W
 tb : ∀ p ∈ Lb, p.2.2 ≠ 55
 ts : ∀ p ∈ Ls, p.2.2 = 55
 own : W.ownsRow w.heap.size 55 31 vS S.length (rowC lxc S)
 ins : ∀ k, vS.ownBlock = some k → ∃ p ∈ Ls, p.1 = k
variable {vS : Value} {S : List Lx}
theorem Lw.next (h : Lw w f X Lb Ls vS S W) (t : To f (Nm nob (Lb ++ Ls)) X.act W f' X' W') : Lw w f' X' Lb Ls vS S W' :=
 ⟨h.cx.next t, h.tb, h.ts, own_kept h.own t.kp (fun k hv hin => by
  obtain ⟨p, hp, rfl⟩ := h.ins k hv
  exact (h.cx.hasm p (List.mem_append.2 (.inr hp))).2.1 hin), h.ins⟩
theorem Lw.box (h : Lw w f X Lb Ls vS S W) (cs : Array Value) (ty : TypeId) (ht : ty ≠ 55) : Lw w f X ((W.heap.size, cs, ty) :: Lb) Ls vS S (W.alloc (.cells cs ty)) :=
 ⟨h.cx.newm cs ty, fun p hp => by
  rcases List.mem_cons.1 hp with rfl | hp
  ·exact ht
  ·exact h.tb p hp, h.ts, own_on h.own (al _), h.ins⟩
theorem Lw.bm (h : Lw w f X Lb Ls vS S W) {b : Nat} {cs : Array Value} {ty : TypeId} (hp : (b, cs, ty) ∈ Lb) : W.heap[b]? = some (.cells cs ty (0, 0)) := (h.cx.hasm _ (List.mem_append.2 (.inl hp))).1
theorem Lw.out {L : List Lx} (h : Lw w f X Lb Ls vS S W) (z : Oz (Nm nob (Lb ++ Ls)) W f X L W') : ∃ Ls', Lw w { f with vo := sy, lo := [] } { X with out := [] } Lb Ls' vS S W' := by
 have hkeep : ∀ p ∈ Lb ++ Ls, W'.heap[p.1]? = some (.cells p.2.1 p.2.2 (0, 0)) := fun p hp => by
  have h1 := h.cx.hasm p hp
  rw [z.kp.block _ (lt_blk h1.1) h1.2.1]
  exact h1.1
 have hsub : ∀ i, ({ f with vo := sy, lo := [] } : Fo).In X.act i → f.In X.act i := fun i e => by
  rcases e with e | e | e | e | e | e
  ·exact .inl e
  ·exact .inr (.inl e)
  ·cases e
  ·exact .inr (.inr (.inr (.inl e)))
  ·exact .inr (.inr (.inr (.inr (.inl e))))
  ·exact .inr (.inr (.inr (.inr (.inr e))))
 have hown : W'.ownsRow w.heap.size 55 31 vS S.length (rowC lxc S) := own_kept h.own z.kp (fun k hv hin => by
  obtain ⟨p, hp, rfl⟩ := h.ins k hv
  exact (h.cx.hasm p (List.mem_append.2 (.inr hp))).2.1 hin)
 cases hv : f.vo.ownBlock with
 | none =>
  refine ⟨Ls, ⟨z.sc.less (fun k e => .inl e), fun i hi => h.cx.sub i (hsub i hi), h.cx.kp.trans z.kp (fun i hi => h.cx.sub i hi), (fun p hp => by cases hp), fun p hp => ⟨hkeep p hp, fun e => (h.cx.hasm p hp).2.1 (hsub _ e), (h.cx.hasm p hp).2.2⟩, h.cx.nl⟩, h.tb, h.ts, hown, h.ins⟩
 | some g =>
  obtain ⟨cur, hcur⟩ := own_blk z.own hv
  refine ⟨(g, cur, 55) :: Ls, ⟨z.sc.less (fun k e => ?_), fun i hi => h.cx.sub i (hsub i hi), h.cx.kp.trans z.kp (fun i hi => h.cx.sub i hi), (fun p hp => by cases hp), fun p hp => ?_, h.cx.nl⟩, h.tb, fun p hp => ?_, hown, fun k hk => ?_⟩
  ·rcases e with e | ⟨p, hp, rfl⟩
   ·exact .inl (.inl e)
   ·rcases List.mem_append.1 hp with hp | hp
    ·exact .inl (.inr ⟨p, List.mem_append.2 (.inl hp), rfl⟩)
    ·rcases List.mem_cons.1 hp with rfl | hp
     ·exact .inr hv
     ·exact .inl (.inr ⟨p, List.mem_append.2 (.inr hp), rfl⟩)
  ·rcases List.mem_append.1 hp with hp | hp
   ·have this : p ∈ Lb ++ Ls := List.mem_append.2 (.inl hp)
    exact ⟨hkeep p this, fun e => (h.cx.hasm p this).2.1 (hsub _ e), (h.cx.hasm p this).2.2⟩
   ·rcases List.mem_cons.1 hp with rfl | hp
    ·refine ⟨hcur, z.ni g hv, ?_⟩
     rcases h.cx.sub g (.inr (.inr (.inl hv))) with e | e
     ·exact e.elim
     ·exact e
    ·have : p ∈ Lb ++ Ls := List.mem_append.2 (.inr hp)
     exact ⟨hkeep p this, fun e => (h.cx.hasm p this).2.1 (hsub _ e), (h.cx.hasm p this).2.2⟩
  ·rcases List.mem_cons.1 hp with rfl | hp
   ·rfl
   ·exact h.ts p hp
  ·obtain ⟨p, hp, e⟩ := h.ins k hk
   exact ⟨p, List.mem_cons_of_mem _ hp, e⟩
end Go.Proofs.YtkdkgdollmmcnaaGreat
