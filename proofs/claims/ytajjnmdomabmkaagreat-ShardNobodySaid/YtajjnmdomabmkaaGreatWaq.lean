import Derived.Test.YtajjnmdomabmkaaGreatWap
set_option maxHeartbeats 4000000
set_option maxRecDepth 100000
set_option linter.unusedVariables false
namespace Go.Proofs.YtajjnmdomabmkaaGreat.Lat
open Go.RowKit
def Post (B p : Nat) (F : Nat → Prop) (L : Kv Cv) (w W : World) : Prop := ∃ F', MapAt B p F' L W ∧ Kept F w W ∧ ∀ i, F' i → F i ∨ w.heap.size ≤ i
def foot8 (p : Nat) (t : Tr) : Nat → Prop := fun i => i = p ∨ i ∈ t.blocks
theorem Mp.upd {B p : Nat} {t t' : Tr} {L : Kv Cv} {w w1 : World} (h : Mp B p t w) (g : Tg t L w t' w1) (hs : Srt L) (n : Int) (hn : n = L.length) :
  Post B p (foot8 p t) L w ((w1.setCell ⟨p, 0, none⟩ t'.ptr).setCell ⟨p, 1, none⟩ (.int .i64 n)) := by
 have hp : p < w.heap.size := (Array.getElem?_eq_some_iff.1 h.box).1
 have h1 : w1.heap[p]? = some (.cells #[t.ptr, .int .i64 t.toL.length] 251 (0, 0)) := by rw [g.kept.block p hp h.pn]; exact h.box
 have k1 := set_kept' w1 p 0 t'.ptr
 have k2 := set_kept' (w1.setCell ⟨p, 0, none⟩ t'.ptr) p 1 (.int .i64 n)
 have kk := k1.trans k2 (fun i e => .inl e)
 have pn : p ∉ t'.blocks := fun hi => by
  rcases g.sub p hi with e | e
  ·exact h.pn e
  ·omega
 refine ⟨_, ⟨t', ⟨?_, TrAt.kept kk g.ok (fun i hi e => pn (e ▸ hi)), by rw [g.el]; exact hs, g.hk, pn, g.nd, h.low.1, fun i hi => ?_⟩, g.el, rfl⟩, ?_, fun i hi => ?_⟩
 ·rw [g.el, ← hn]
  exact block_set _ (block_set _ h1)
 ·rcases g.sub i hi with e | e
  ·exact h.low.2 i e
  ·have := h.low.1; omega
 ·exact (g.kept.mono (fun i hi => .inr hi)).trans kk (fun i e => .inl (.inl e))
 ·rcases hi with e | e
  ·exact .inl (.inl e)
  ·rcases g.sub i e with e | e
   ·exact .inl (.inr e)
   ·exact .inr e
theorem Mp.put {B p b : Nat} {t : Tr} {w : World} {k : List UInt8} (v : Cv) (h : Mp B p t w) (hf : findT k t = some b) : Post B p (foot8 p t) (setF k v t.toL) w (((((w.setCell ⟨b, 1, none⟩ (.int .u32 v.1.1)).setCell ⟨b, 2, none⟩ (.int .u32 v.1.2)).setCell ⟨b, 3, none⟩ (.string (bs v.2.key))).setCell ⟨b, 4, none⟩ (.string (bs v.2.val))).setCell ⟨b, 5, none⟩ (.bool v.2.dead)) := by
 have hb := find_in hf
 have hs : (findT k t).isSome = true := by rw [hf]; rfl
 have hl : (putT k v t).toL = setF k v t.toL := put_toL h.srt hs
 have hlen : (putT k v t).toL.length = t.toL.length := by rw [hl, len_set h.srt, if_pos (by rw [← find_get h.srt]; exact hs)]
 have kk := five_kept w b v
 refine ⟨_, ⟨putT k v t, ⟨?_, put_at h.ok h.nd hf, by rw [hl]; exact setF_srt h.srt, put_hk k v h.hk, by rw [put_blocks]; exact h.pn, by rw [put_blocks]; exact h.nd, by rw [put_blocks]; exact h.low⟩, hl, rfl⟩, ?_, fun i hi => .inl ?_⟩
 ·rw [put_ptr, hlen, kk.block p (Array.getElem?_eq_some_iff.1 h.box).1 (fun e => h.pn (e ▸ hb))]
  exact h.box
 ·exact kk.mono (fun i e => .inr (e ▸ hb))
 ·rw [put_blocks] at hi
  exact hi
theorem Post.behind {B p : Nat} {F : Nat → Prop} {L : Kv Cv} {w W0 W : World} (hb : Below w.heap.size w W0) (h : Post B p F L W0 W) : Post B p F L w W := by
 obtain ⟨F', h1, h2, h3⟩ := h
 refine ⟨F', h1, (Kept.of_below hb).trans h2 (fun i hi => .inl hi), fun i hi => ?_⟩
 rcases h3 i hi with e | e
 ·exact .inl e
 ·exact .inr (Nat.le_trans hb.size e)
theorem set9 {B p : Nat} {t : Tr} {w : World} (k : List UInt8) (v : Cv) (h0 : Mp B p t w) (hl : t.toL.length < 100000) : Calls Tryz.prog 172 #[.pointer (some ⟨p, 0, none⟩), .string (bs k), .agg #[.int .u32 v.1.1, .int .u32 v.1.2, .string (bs v.2.key), .string (bs v.2.val), .bool v.2.dead]] w fun e w' => e = .returned (.tuple #[]) ∧ Post B p (foot8 p t) (setF k v t.toL) w w' := by
 obtain ⟨W0, hW0⟩ : ∃ W0, w.alloc (.cells #[.int .u32 v.1.1, .int .u32 v.1.2, .string (bs v.2.key), .string (bs v.2.val), .bool v.2.dead] 168) = W0 := ⟨_, rfl⟩
 have hb0 : Below w.heap.size w W0 := by rw [← hW0]; exact al _
 have hx0 : W0.heap[w.heap.size]? = some (.cells #[.int .u32 v.1.1, .int .u32 v.1.2, .string (bs v.2.key), .string (bs v.2.val), .bool v.2.dead] 168 (0, 0)) := by rw [← hW0]; exact heap_alloc_new w _
 have h : Mp B p t W0 := h0.kept (Kept.of_below (F := fun _ => False) hb0) (fun h => h) (fun _ _ h => h)
 clear h0
 have z0 := block_cell (j := 0) hx0 rfl
 have z1 := block_cell (j := 1) hx0 rfl
 have z2 := block_cell (j := 2) hx0 rfl
 have z3 := block_cell (j := 3) hx0 rfl
 have z4 := block_cell (j := 4) hx0 rfl
 have HB : Hid (Below w.heap.size w W0) := hb0
 clear hx0 hb0
 have CF : Hid (1 = 1 → Calls Tryz.prog 251 #[.pointer (some ⟨p, 0, none⟩), .string (bs k)] W0 fun e w' => e = .returned (ptrO (findT k t)) ∧ w' = W0) := fun _ => find20 p k t W0 h.cells.1 h.ok
 have hg := find_get (k := k) h.srt
 cases hf : findT k t with
 | some b =>
  rw [hf] at CF
  have HP : Hid (Post B p (foot8 p t) (setF k v t.toL) W0 (((((W0.setCell ⟨b, 1, none⟩ (.int .u32 v.1.1)).setCell ⟨b, 2, none⟩ (.int .u32 v.1.2)).setCell ⟨b, 3, none⟩ (.string (bs v.2.key))).setCell ⟨b, 4, none⟩ (.string (bs v.2.val))).setCell ⟨b, 5, none⟩ (.bool v.2.dead))) := h.put v hf
  obtain ⟨q, u, x, l, r, hb, -⟩ := find_at h.srt h.ok hf
  obtain ⟨-, ⟨c1, c2, c3, c4, c5⟩, -, -, -⟩ := nd_cells hb
  have f1 := block_frozen hb 1
  have f2 := block_frozen hb 2
  have f3 := block_frozen hb 3
  have f4 := block_frozen hb 4
  have f5 := block_frozen hb 5
  simp only [ptrO] at CF
  clear h hg hf hb hl
  generalize setF k v t.toL = L at *
  generalize foot8 p t = F at *
  obtain ⟨bx, hbx⟩ : ∃ bx, w.heap.size = bx := ⟨_, rfl⟩
  rw [hbx] at z0 z1 z2 z3 z4
  go_enter Tryz.func172, Tryz.ntmps172
  go_wp2_with fail
  refine (CF.out (by trivial)).mono ?_
  rintro e w' ⟨rfl, rfl⟩
  clear hW0 hbx
  go_wp2_with fail
  refine bodyPost_ret (results_none Tryz.results172 _ _ _) rfl ?_
  exact ⟨rfl, Post.behind HB.out HP.out⟩
 | none =>
  rw [hf] at CF hg
  have hn : getF k t.toL = none := by
   cases e : getF k t.toL with
   | none => rfl
   | some v => rw [e] at hg; cases hg
  have CW : Hid (∀ W, Sw W0 W → Calls Tryz.prog 252 #[t.ptr, .string (bs k), .agg #[.int .u32 v.1.1, .int .u32 v.1.2, .string (bs v.2.key), .string (bs v.2.val), .bool v.2.dead]] W fun e w1 => ∃ o, e = .returned (.pointer o) ∧ w1.cell? ⟨p, 0, none⟩ = some t.ptr ∧ w1.cell? ⟨p, 1, none⟩ = some (.int .i64 t.toL.length) ∧ w1.frozen? ⟨p, 0, none⟩ = false ∧ w1.frozen? ⟨p, 1, none⟩ = false ∧ Hid (Post B p (foot8 p t) (setF k v t.toL) W0 ((w1.setCell ⟨p, 0, none⟩ (.pointer o)).setCell ⟨p, 1, none⟩ (.int .i64 (t.toL.length + 1))))) := fun W hsw => by
   have hk : Mp B p t W := h.kept (Kept.of_below (F := fun _ => False) (hsw.below _)) (fun h => h) (fun _ _ h => h)
   refine (with21 k v t W hk.ok hk.nd hk.hk hk.srt hn hl).mono ?_
   rintro e w1 ⟨t', rfl, g⟩
   obtain ⟨o, ho⟩ := t'.is_ptr
   have h1 : w1.heap[p]? = some (.cells #[t.ptr, .int .i64 t.toL.length] 251 (0, 0)) := by rw [g.kept.block p (Array.getElem?_eq_some_iff.1 hk.box).1 hk.pn]; exact hk.box
   refine ⟨o, by rw [ho], block_cell h1 rfl, block_cell h1 rfl, block_frozen h1 _, block_frozen h1 _, ?_⟩
   have := hk.upd g (setF_srt hk.srt) (t.toL.length + 1) (by rw [len_set hk.srt, hn]; rfl)
   rw [ho] at this
   exact Post.behind (hsw.below _) this
  obtain ⟨c0, c1⟩ := h.cells
  have fr0 := block_frozen h.box 0
  have fr1 := block_frozen h.box 1
  simp only [ptrO] at CF
  have hl' : ((t.toL.length : Nat) : Int) < 100000 := by omega
  clear h hg hn hf hl
  generalize setF k v t.toL = L at *
  generalize foot8 p t = F at *
  obtain ⟨tp, hto⟩ := t.is_ptr
  rw [hto] at CW c0
  clear hto
  generalize t.toL.length = n at *
  obtain ⟨bx, hbx⟩ : ∃ bx, w.heap.size = bx := ⟨_, rfl⟩
  rw [hbx] at z0 z1 z2 z3 z4
  go_enter Tryz.func172, Tryz.ntmps172
  go_wp2_with fail
  refine (CF.out (by trivial)).mono ?_
  rintro e w' ⟨rfl, rfl⟩
  clear CF hW0 hbx
  go_wp2_with fail
  go_region_with (go_at_call 252; refine (CW.out _ ?_).mono ?_; exact Sw.drew (Sw.refl _); rintro e w1 ⟨o, rfl, d0, d1, f0, f1, HP⟩)
  all_goals
   go_wp2_with fail
   refine bodyPost_end (results_none Tryz.results172 _ _ _) rfl ?_
   exact ⟨rfl, Post.behind HB.out HP.out⟩
theorem cut11 {B p : Nat} {t : Tr} {w : World} (k : List UInt8) (h : Mp B p t w) (hl : t.toL.length < 100000) : Calls Tryz.prog 176 #[.pointer (some ⟨p, 0, none⟩), .string (bs k)] w fun e w' => e = .returned (.bool (getF k t.toL).isSome) ∧ Post B p (foot8 p t) (cutF k t.toL) w w' := by
 have CF : Hid (1 = 1 → Calls Tryz.prog 251 #[.pointer (some ⟨p, 0, none⟩), .string (bs k)] w fun e w' => e = .returned (ptrO (findT k t)) ∧ w' = w) := fun _ => find20 p k t w h.cells.1 h.ok
 have hg := find_get (k := k) h.srt
 rw [← hg]
 cases hf : findT k t with
 | none =>
  rw [hf] at CF hg
  have hn : getF k t.toL = none := by
   cases e : getF k t.toL with
   | none => rfl
   | some v => rw [e] at hg; cases hg
  have HP : Hid (Post B p (foot8 p t) (cutF k t.toL) w w) := ⟨_, ⟨t, h, (cut_none hn).symm, rfl⟩, Kept.refl _ _, fun i hi => .inl hi⟩
  simp only [ptrO] at CF
  clear h hg hn hf hl
  generalize cutF k t.toL = L at *
  generalize foot8 p t = F at *
  go_enter Tryz.func176, Tryz.ntmps176
  go_wp2_with fail
  refine (CF.out (by trivial)).mono ?_
  rintro e w' ⟨rfl, rfl⟩
  go_wp2_with fail
  go_ret
  exact ⟨rfl, HP.out⟩
 | some b =>
  rw [hf] at CF hg
  have hs : (getF k t.toL).isSome = true := hg.symm
  have hpos : 0 < t.toL.length := by
   cases e : t.toL with
   | nil => rw [e] at hs; cases hs
   | cons a l => simp
  have CW : Hid (1 = 1 → Calls Tryz.prog 255 #[t.ptr, .string (bs k)] w fun e w1 => ∃ o, e = .returned (.pointer o) ∧ w1.cell? ⟨p, 0, none⟩ = some t.ptr ∧ w1.cell? ⟨p, 1, none⟩ = some (.int .i64 t.toL.length) ∧ w1.frozen? ⟨p, 0, none⟩ = false ∧ w1.frozen? ⟨p, 1, none⟩ = false ∧ Hid (Post B p (foot8 p t) (cutF k t.toL) w ((w1.setCell ⟨p, 0, none⟩ (.pointer o)).setCell ⟨p, 1, none⟩ (.int .i64 (t.toL.length - 1))))) := fun _ => by
   refine (without23 t k w h.ok h.nd h.hk h.srt hs hl).mono ?_
   rintro e w1 ⟨t', rfl, g⟩
   obtain ⟨o, ho⟩ := t'.is_ptr
   have h1 : w1.heap[p]? = some (.cells #[t.ptr, .int .i64 t.toL.length] 251 (0, 0)) := by rw [g.kept.block p (Array.getElem?_eq_some_iff.1 h.box).1 h.pn]; exact h.box
   refine ⟨o, by rw [ho], block_cell h1 rfl, block_cell h1 rfl, block_frozen h1 _, block_frozen h1 _, ?_⟩
   have := h.upd g (cutF_srt h.srt) (t.toL.length - 1) (by rw [len_cut h.srt, if_pos hs]; omega)
   rw [ho] at this
   exact this
  obtain ⟨c0, c1⟩ := h.cells
  simp only [ptrO] at CF
  have hl' : ((t.toL.length : Nat) : Int) < 100000 := by omega
  clear h hg hf hl hs hpos
  generalize cutF k t.toL = L at *
  generalize foot8 p t = F at *
  obtain ⟨tp, hto⟩ := t.is_ptr
  rw [hto] at CW c0
  clear hto
  generalize t.toL.length = n at *
  go_enter Tryz.func176, Tryz.ntmps176
  go_wp2_with fail
  refine (CF.out (by trivial)).mono ?_
  rintro e w' ⟨rfl, rfl⟩
  go_wp2_with fail
  refine (CW.out (by trivial)).mono ?_
  rintro e w1 ⟨o, rfl, d0, d1, f0, f1, HP⟩
  clear CW CF c0 c1
  go_wp2_with fail
  go_ret
  exact ⟨rfl, HP.out⟩
end Go.Proofs.YtajjnmdomabmkaaGreat.Lat
namespace Go.Proofs.YtajjnmdomabmkaaGreat.Lat
open Go.RowKit
def clI (m : Mm) (x : List UInt8 × Cv) : Ii := ⟨x.2.1.1, x.2.1.2, ((getM x.2.1 m).getD zt).sp, ((getM x.2.1 m).getD zt).sl, ((getM x.2.1 m).getD zt).mp, ((getM x.2.1 m).getD zt).ml, ((getM x.2.1 m).getD zt).prim, x.2.2.val, x.2.2.dead⟩
def tblF (m : Mm) (L : Kv Cv) : Tb := L.map fun x => (x.1, clI m x)
structure Rel (L : Kv Cv) (m : Mm) (T : Tb) : Prop where
 eq : T = tblF m L
 srt : Srt L
 key : ∀ x ∈ L, x.2.2.key = x.1
 has : ∀ x ∈ L, (getM x.2.1 m).isSome = true
 nd : (m.map (·.1)).Nodup
 ks : ∀ k t, getM k m = some t → t.kl = (byF k.1 k.2 T).map (·.1) ∧ t.kl ≠ [] ∧ 0 ≤ t.mp ∧ 0 ≤ t.ml
 ok : TOk T
theorem Rel.nil : Rel [] [] [] := ⟨rfl, List.Pairwise.nil, by simp, by simp, by simp, (fun _ _ h => by cases h), TOk.nil⟩
theorem Rel.len {L : Kv Cv} {m : Mm} {T : Tb} (h : Rel L m T) : L.length = T.length := by rw [h.eq]; simp [tblF]
theorem Rel.get {L : Kv Cv} {m : Mm} {T : Tb} (h : Rel L m T) (k : List UInt8) : getF k T = (getF k L).map fun v => clI m (k, v) := by
 rw [h.eq]
 exact get_map (fun x => clI m x) k L
theorem Rel.keys {L : Kv Cv} {m : Mm} {T : Tb} (h : Rel L m T) : T.map (·.1) = L.map (·.1) := by
 rw [h.eq, tblF, List.map_map]
 rfl
theorem Rel.mem {L : Kv Cv} {m : Mm} {T : Tb} (h : Rel L m T) {y : List UInt8 × Ii} (hy : y ∈ T) : ∃ x ∈ L, y = (x.1, clI m x) := by
 rw [h.eq] at hy
 obtain ⟨x, hx, rfl⟩ := List.mem_map.1 hy
 exact ⟨x, hx, rfl⟩
theorem Rel.isSome {L : Kv Cv} {m : Mm} {T : Tb} (h : Rel L m T) (c n : Int) : (getM (c, n) m).isSome = decide (0 < (byF c n T).length) := by
 cases hg : getM (c, n) m with
 | some t =>
  obtain ⟨h1, h2, _⟩ := h.ks _ _ hg
  have : 0 < (byF c n T).length := by
   rcases Nat.eq_zero_or_pos (byF c n T).length with e | e
   ·rw [List.length_eq_zero_iff] at e
    rw [e] at h1
    exact absurd h1 h2
   ·exact e
  simp [this]
 | none =>
  have : byF c n T = [] := by
   unfold byF
   rw [List.filter_eq_nil_iff]
   intro y hy
   obtain ⟨x, hx, rfl⟩ := h.mem hy
   have h1 := h.has x hx
   intro h2
   have e1 : x.2.1 = (c, n) := by
    simp only [ofBy, clI, Bool.and_eq_true, beq_iff_eq] at h2
    exact Prod.ext h2.1 h2.2
   rw [e1, hg] at h1
   cases h1
  simp [this]
theorem Rel.kl {L : Kv Cv} {m : Mm} {T : Tb} (h : Rel L m T) (c n : Int) : ((getM (c, n) m).getD zt).kl = (byF c n T).map (·.1) := by
 have hs := h.isSome c n
 cases hg : getM (c, n) m with
 | some t => exact (h.ks _ _ hg).1
 | none =>
  rw [hg] at hs
  have : (byF c n T).length = 0 := by
   rcases Nat.eq_zero_or_pos (byF c n T).length with e | e
   ·exact e
   ·simp [e] at hs
  rw [List.length_eq_zero_iff] at this
  rw [this]
  rfl
def intF (T : Tb) (K : List (List UInt8)) : Tb := K.map fun k => (k, (getF k T).getD zi)
theorem int_of {T : Tb} (hs : Srt T) : ∀ {X : Tb}, (∀ x ∈ X, x ∈ T) → intF T (X.map (·.1)) = X
 | [], _ => rfl
 | x :: X, h => by
  simp only [intF, List.map_cons]
  have hx : getF x.1 T = some x.2 := (getF_mem hs).2 (h x (List.mem_cons_self ..))
  have := int_of hs (X := X) (fun y hy => h y (List.mem_cons_of_mem _ hy))
  simp only [intF] at this
  rw [this, hx]
  rfl
theorem int_by {T : Tb} (hs : Srt T) (c n : Int) : intF T ((byF c n T).map (·.1)) = byF c n T := int_of hs (fun _ hx => (List.mem_filter.1 hx).1)
theorem int_all {T : Tb} (hs : Srt T) : intF T (T.map (·.1)) = T := int_of hs (fun _ hx => hx)
theorem int_len (T : Tb) (K : List (List UInt8)) : (intF T K).length = K.length := by simp [intF]
def cutsF {α : Type} : List (List UInt8) → Kv α → Kv α
 | [], L => L
 | k :: K, L => cutsF K (cutF k L)
end Go.Proofs.YtajjnmdomabmkaaGreat.Lat
