import Derived.Test.YtajjnmdomabmkaaGreatWai
set_option maxHeartbeats 4000000
set_option maxRecDepth 100000
set_option linter.unusedVariables false
namespace Go.Proofs.YtajjnmdomabmkaaGreat.Sto
open Go.RowKit
theorem with21 (key : List UInt8) (v : Sv) (t : Tr) : ∀ (w : World), TrAt nl t w → t.blocks.Nodup → Hk t → Srt t.toL → getF key t.toL = none → t.toL.length < 100000 →
  Calls Tryz.prog 258 #[t.ptr, .string (bs key), .slice v.1 v.2.1 v.2.2] w fun e w' => ∃ t', e = .returned t'.ptr ∧ Tg t (setF key v t.toL) w t' w' := by
 induction t using Tr.ind with
 | nil =>
  intro w _ _ _ _ _ _
  simp only [Tr.ptr]
  have HG : Hid (Tg .nil (setF key v (Tr.toL .nil)) w (.node w.heap.size .nil key v 1 .nil) (w.alloc (.cells #[.string (bs key), .slice v.1 v.2.1 v.2.2, .pointer none, .pointer none, .int .i64 1] 337))) :=
   ⟨TrAt.new (Y := nl) (l := .nil) (r := .nil) trivial trivial key v 1, ⟨rfl, trivial, trivial⟩, by simp [Tr.blocks], rfl, fun i hi => by simp [Tr.blocks] at hi; omega, Kept.of_below (al _)⟩
  go_enter Tryz.func258, Tryz.ntmps258
  go_wp2_with fail
  go_ret
  exact ⟨_, rfl, HG.out⟩
 | node b l k u x r ihl ihr =>
  intro w ha hn hk hs hg hf
  obtain ⟨hs1, hs2, _, _⟩ := srt_parts hs
  have hg0 := hg
  simp only [Tr.toL] at hg0
  rw [get_parts hs] at hg0
  have hn' := hn
  rw [Tr.blocks, List.nodup_cons, List.nodup_append] at hn'
  have hf' := hf
  simp only [Tr.toL, List.length_append, List.length_cons] at hf'
  obtain ⟨c0, -, c2, c3, -⟩ := nd_cells ha.1
  have b1 := bl key k
  by_cases h1 : ltK key k = true
  ·rw [if_pos h1] at hg0
   have f2 := block_frozen ha.1 2
   have CW : Hid (1 = 1 → Calls Tryz.prog 258 #[l.ptr, .string (bs key), .slice v.1 v.2.1 v.2.2] w fun e w1 => ∃ o, e = .returned (.pointer o) ∧ w1.cell? ⟨b, 2, none⟩ = some l.ptr ∧ w1.frozen? ⟨b, 2, none⟩ = false ∧ Calls Tryz.prog 307 #[.pointer (some ⟨b, 0, none⟩)] (w1.setCell ⟨b, 2, none⟩ (.pointer o)) fun e w2 => ∃ t', e = .returned t'.ptr ∧ Tg (.node b l k u x r) (setF key v (Tr.node b l k u x r).toL) w t' w2) := by
    intro _
    refine (ihl w ha.2.1 hn'.2.1 hk.2.1 hs1 hg0 (by omega)).mono ?_
    rintro e w1 ⟨l', rfl, g⟩
    obtain ⟨o, ho⟩ := l'.is_ptr
    have hb1 : w1.heap[b]? = w.heap[b]? := g.kept.block b (Array.getElem?_eq_some_iff.1 ha.1).1 (fun hi => hn'.1 (by simp [hi]))
    obtain ⟨o1, o2, o3, o4⟩ := Tg.setl ha hn g
    rw [ho] at o1 o4
    have hlen : l'.toL.length = l.toL.length + 1 := by rw [g.el, len_set hs1, hg0]; rfl
    refine ⟨o, by rw [ho], block_cell (hb1.trans ha.1) rfl, block_frozen (hb1.trans ha.1) _, ?_⟩
    refine (balanced25 ⟨o1, o2, g.hk, hk.2.2, by omega⟩ (by omega)).mono ?_
    rintro e w2 ⟨t', rfl, g2⟩
    refine ⟨t', rfl, Tg.after o3 o4 ?_⟩
    simp only [Tr.toL]
    rw [set_parts hs, if_pos h1, ← g.el]
    exact g2
   have q1 : Op.bytesLess (bs key).toList (bs k).toList = true := by rw [b1]; exact h1
   clear ihl ihr ha hn hk hs hg hf hs1 hs2 hg0 hn' hf' b1 h1
   generalize setF key v (Tr.node b l k u x r).toL = L at *
   simp only [Tr.ptr]
   generalize Tr.node b l k u x r = t at *
   generalize l.ptr = lp at *
   generalize r.ptr = rp at *
   go_enter Tryz.func258, Tryz.ntmps258
   go_wp2_with fail
   refine (CW.out (by trivial)).mono ?_
   rintro e w1 ⟨o, rfl, d1, d2, d3⟩
   have HG : Hid (Calls Tryz.prog 307 #[.pointer (some ⟨b, 0, none⟩)] (w1.setCell ⟨b, 2, none⟩ (.pointer o)) fun e w2 => ∃ t', e = .returned t'.ptr ∧ Tg t L w t' w2) := d3
   clear d3 CW
   go_wp2_with fail
   refine HG.out.mono ?_
   rintro e w2 ⟨t', rfl, g⟩
   obtain ⟨o', ho⟩ := t'.is_ptr
   have HX : Hid (∃ t', (Ending.returned (.pointer o') : Ending) = .returned (Tr.ptr t') ∧ Tg t L w t' w2) := ⟨t', by rw [ho], g⟩
   rw [ho]
   clear g HG ho
   go_wp2_with fail
   go_ret
   exact HX.out
  ·rw [if_neg h1] at hg0
   have h2 : ltK k key = true := by
    by_cases h2 : ltK k key = true
    ·exact h2
    ·rw [if_neg h2] at hg0
     cases hg0
   rw [if_pos h2] at hg0
   have f2 := block_frozen ha.1 3
   have CW : Hid (1 = 1 → Calls Tryz.prog 258 #[r.ptr, .string (bs key), .slice v.1 v.2.1 v.2.2] w fun e w1 => ∃ o, e = .returned (.pointer o) ∧ w1.cell? ⟨b, 3, none⟩ = some r.ptr ∧ w1.frozen? ⟨b, 3, none⟩ = false ∧ Calls Tryz.prog 307 #[.pointer (some ⟨b, 0, none⟩)] (w1.setCell ⟨b, 3, none⟩ (.pointer o)) fun e w2 => ∃ t', e = .returned t'.ptr ∧ Tg (.node b l k u x r) (setF key v (Tr.node b l k u x r).toL) w t' w2) := by
    intro _
    refine (ihr w ha.2.2 hn'.2.2.1 hk.2.2 hs2 hg0 (by omega)).mono ?_
    rintro e w1 ⟨r', rfl, g⟩
    obtain ⟨o, ho⟩ := r'.is_ptr
    have hb1 : w1.heap[b]? = w.heap[b]? := g.kept.block b (Array.getElem?_eq_some_iff.1 ha.1).1 (fun hi => hn'.1 (by simp [hi]))
    obtain ⟨o1, o2, o3, o4⟩ := Tg.setr ha hn g
    rw [ho] at o1 o4
    have hlen : r'.toL.length = r.toL.length + 1 := by rw [g.el, len_set hs2, hg0]; rfl
    refine ⟨o, by rw [ho], block_cell (hb1.trans ha.1) rfl, block_frozen (hb1.trans ha.1) _, ?_⟩
    refine (balanced25 ⟨o1, o2, hk.2.1, g.hk, by omega⟩ (by omega)).mono ?_
    rintro e w2 ⟨t', rfl, g2⟩
    refine ⟨t', rfl, Tg.after o3 o4 ?_⟩
    simp only [Tr.toL]
    rw [set_parts hs, if_neg h1, if_pos h2, ← g.el]
    exact g2
   have q1 : Op.bytesLess (bs key).toList (bs k).toList = false := by rw [b1]; simpa using h1
   clear ihl ihr ha hn hk hs hg hf hs1 hs2 hg0 hn' hf' b1 h1 h2
   generalize setF key v (Tr.node b l k u x r).toL = L at *
   simp only [Tr.ptr]
   generalize Tr.node b l k u x r = t at *
   generalize l.ptr = lp at *
   generalize r.ptr = rp at *
   go_enter Tryz.func258, Tryz.ntmps258
   go_wp2_with fail
   refine (CW.out (by trivial)).mono ?_
   rintro e w1 ⟨o, rfl, d1, d2, d3⟩
   have HG : Hid (Calls Tryz.prog 307 #[.pointer (some ⟨b, 0, none⟩)] (w1.setCell ⟨b, 3, none⟩ (.pointer o)) fun e w2 => ∃ t', e = .returned t'.ptr ∧ Tg t L w t' w2) := d3
   clear d3 CW
   go_wp2_with fail
   refine HG.out.mono ?_
   rintro e w2 ⟨t', rfl, g⟩
   obtain ⟨o', ho⟩ := t'.is_ptr
   have HX : Hid (∃ t', (Ending.returned (.pointer o') : Ending) = .returned (Tr.ptr t') ∧ Tg t L w t' w2) := ⟨t', by rw [ho], g⟩
   rw [ho]
   clear g HG ho
   go_wp2_with fail
   go_ret
   exact HX.out
end Go.Proofs.YtajjnmdomabmkaaGreat.Sto
namespace Go.Proofs.YtajjnmdomabmkaaGreat.Sto
open Go.RowKit
structure Mp (B p : Nat) (t : Tr) (w : World) : Prop where
 box : w.heap[p]? = some (.cells #[t.ptr, .int .i64 t.toL.length] 248 (0, 0))
 ok : TrAt nl t w
 srt : Srt t.toL
 hk : Hk t
 pn : p ∉ t.blocks
 nd : t.blocks.Nodup
 low : B ≤ p ∧ ∀ i ∈ t.blocks, B ≤ i
def MapAt (B p : Nat) (F : Nat → Prop) (L : Kv Sv) (w : World) : Prop := ∃ t, Mp B p t w ∧ t.toL = L ∧ F = fun i => i = p ∨ i ∈ t.blocks
theorem Mp.kept {B p : Nat} {t : Tr} {w w' : World} {G : Nat → Prop} (h : Mp B p t w) (hk : Kept G w w') (h1 : ¬ G p) (h2 : ∀ i ∈ t.blocks, ¬ G i) : Mp B p t w' :=
 ⟨by rw [hk.block p (Array.getElem?_eq_some_iff.1 h.box).1 h1]; exact h.box, TrAt.kept hk h.ok h2, h.srt, h.hk, h.pn, h.nd, h.low⟩
theorem Mp.cells {B p : Nat} {t : Tr} {w : World} (h : Mp B p t w) : w.cell? ⟨p, 0, none⟩ = some t.ptr ∧ w.cell? ⟨p, 1, none⟩ = some (.int .i64 t.toL.length) := ⟨block_cell h.box rfl, block_cell h.box rfl⟩
theorem new8 (w : World) : Calls Tryz.prog 71 #[] w fun e w' => ∃ p F, e = .returned (.pointer (some ⟨p, 0, none⟩)) ∧ MapAt w.heap.size p F [] w' ∧ Below w.heap.size w w' := by
 have H : Hid (Mp w.heap.size w.heap.size .nil (w.alloc (.cells #[.pointer none, .int .i64 0] 248))) :=
  ⟨heap_alloc_new w _, trivial, List.Pairwise.nil, trivial, by simp [Tr.blocks], by simp [Tr.blocks], Nat.le_refl _, fun i hi => by simp [Tr.blocks] at hi⟩
 go_enter Tryz.func71, Tryz.ntmps71
 go_wp2_with fail
 go_ret
 exact ⟨_, _, rfl, ⟨.nil, H.out, rfl, rfl⟩, al _⟩
theorem len15 {B p : Nat} {t : Tr} {w : World} (h : Mp B p t w) : Calls Tryz.prog 210 #[.pointer (some ⟨p, 0, none⟩)] w fun e w' => e = .returned (.int .i64 t.toL.length) ∧ Below w.heap.size w w' := by
 obtain ⟨c0, c1⟩ := h.cells
 clear h
 go_enter Tryz.func210, Tryz.ntmps210
 go_wp2_with fail
 go_ret
 exact ⟨rfl, Below.refl _ _⟩
theorem get13 {B p : Nat} {t : Tr} {w : World} (k : List UInt8) (h : Mp B p t w) : Calls Tryz.prog 211 #[.pointer (some ⟨p, 0, none⟩), .string (bs k)] w fun e w' => e = .returned (.tuple #[.slice ((getF k t.toL).getD (none, 0, 0)).1 ((getF k t.toL).getD (none, 0, 0)).2.1 ((getF k t.toL).getD (none, 0, 0)).2.2, .bool (getF k t.toL).isSome]) ∧ Below w.heap.size w w' := by
 have CF : Hid (1 = 1 → Calls Tryz.prog 256 #[.pointer (some ⟨p, 0, none⟩), .string (bs k)] w fun e w' => e = .returned (ptrO (findT k t)) ∧ w' = w) := fun _ => find20 p k t w h.cells.1 h.ok
 have hg := find_get (k := k) h.srt
 cases hf : findT k t with
 | none =>
  rw [hf] at CF hg
  have hn : getF k t.toL = none := by
   cases e : getF k t.toL with
   | none => rfl
   | some v => rw [e] at hg; cases hg
  rw [hn]
  simp only [ptrO] at CF
  clear h hg hn hf
  go_enter Tryz.func211, Tryz.ntmps211
  go_wp2_with fail
  refine (CF.out (by trivial)).mono ?_
  rintro e w' ⟨rfl, rfl⟩
  go_wp2_with fail
  refine bodyPost_ret (v := .tuple #[.slice none 0 0, .bool false]) (by simp [results, Tryz.results211, go_sem]) rfl ?_
  exact ⟨rfl, Below.refl _ _⟩
 | some b =>
  rw [hf] at CF
  obtain ⟨q, v, x, l, r, hb, hv⟩ := find_at h.srt h.ok hf
  obtain ⟨-, c1, -, -, -⟩ := nd_cells hb
  rw [hv]
  simp only [ptrO] at CF
  clear h hg hv hf hb
  go_enter Tryz.func211, Tryz.ntmps211
  go_wp2_with fail
  refine (CF.out (by trivial)).mono ?_
  rintro e w' ⟨rfl, rfl⟩
  go_wp2_with fail
  refine bodyPost_ret (v := .tuple #[.slice v.1 v.2.1 v.2.2, .bool true]) (by simp [results, Tryz.results211, go_sem]) rfl ?_
  exact ⟨rfl, Below.refl _ _⟩
theorem keys17 {B p : Nat} {t : Tr} {w : World} (lo hi : List UInt8) (limit : Int) (h : Mp B p t w) (hl : t.toL.length < 100000) : Calls Tryz.prog 209 #[.pointer (some ⟨p, 0, none⟩), .string (bs lo), .string (bs hi), .int .i64 limit] w fun e w' => ∃ v', e = .returned v' ∧ w'.ownsRow w.heap.size 9 1 v' (keysF lo hi limit t.toL).length (kc (keysF lo hi limit t.toL)) ∧ Below w.heap.size w w' := by
 have CG : Hid (1 = 1 → Calls Tryz.prog 273 #[t.ptr, .slice none 0 0, .string (bs lo), .string (bs hi), .int .i64 limit] w fun e w' => ∃ v', e = .returned v' ∧ w'.ownsRow w.heap.size 9 1 v' (keysF lo hi limit t.toL).length (kc (keysF lo hi limit t.toL)) ∧ Below w.heap.size w w') := fun _ => by
  have := gather24 w.heap.size lo hi limit t [] (.slice none 0 0) w h.ok h.ok.lt h.srt (Nat.le_refl _) (own_nil _ _ _ _) (by simp; omega)
  rw [gat_start] at this
  exact this
 obtain ⟨c0, -⟩ := h.cells
 clear h hl
 generalize t.ptr = tp at *
 generalize keysF lo hi limit t.toL = y at *
 go_enter Tryz.func209, Tryz.ntmps209
 go_wp2_with fail
 refine (CG.out (by trivial)).mono ?_
 rintro e w1 ⟨v1, rfl, ho, hb⟩
 obtain ⟨sa, sc, rfl, -, -, -, -⟩ := rw_own ho
 have H3 : Hid _ := And.intro ho hb
 clear ho hb CG
 go_wp2_with fail
 go_ret
 exact ⟨_, rfl, H3.out⟩
end Go.Proofs.YtajjnmdomabmkaaGreat.Sto
namespace Go.Proofs.YtajjnmdomabmkaaGreat.Sto
open Go.RowKit
def Post (B p : Nat) (F : Nat → Prop) (L : Kv Sv) (w W : World) : Prop := ∃ F', MapAt B p F' L W ∧ Kept F w W ∧ ∀ i, F' i → F i ∨ w.heap.size ≤ i
def foot8 (p : Nat) (t : Tr) : Nat → Prop := fun i => i = p ∨ i ∈ t.blocks
theorem Mp.upd {B p : Nat} {t t' : Tr} {L : Kv Sv} {w w1 : World} (h : Mp B p t w) (g : Tg t L w t' w1) (hs : Srt L) (n : Int) (hn : n = L.length) :
  Post B p (foot8 p t) L w ((w1.setCell ⟨p, 0, none⟩ t'.ptr).setCell ⟨p, 1, none⟩ (.int .i64 n)) := by
 have hp : p < w.heap.size := (Array.getElem?_eq_some_iff.1 h.box).1
 have h1 : w1.heap[p]? = some (.cells #[t.ptr, .int .i64 t.toL.length] 248 (0, 0)) := by rw [g.kept.block p hp h.pn]; exact h.box
 have k1 := set_kept' w1 p 0 t'.ptr
 have k2 := set_kept' (w1.setCell ⟨p, 0, none⟩ t'.ptr) p 1 (.int .i64 n)
 have kk := k1.trans k2 (fun i e => .inl e)
 have pn : p ∉ t'.blocks := fun hi => by
  rcases g.sub p hi with e | e
  ·exact h.pn e
  ·omega
 refine ⟨_, ⟨t', ⟨?_, TrAt.kept kk g.ok (fun i hi e => pn (e ▸ hi)), by rw [g.el]; exact hs, g.hk, pn, g.nd, h.low.1, fun i hi => ?_⟩, g.el, rfl⟩, ?_, fun i hi => ?_⟩
 ·rw [g.el, ← hn]
  exact block_set _ (block_set _ h1)
 ·rcases g.sub i hi with e | e
  ·exact h.low.2 i e
  ·have := h.low.1; omega
 ·exact (g.kept.mono (fun i hi => .inr hi)).trans kk (fun i e => .inl (.inl e))
 ·rcases hi with e | e
  ·exact .inl (.inl e)
  ·rcases g.sub i e with e | e
   ·exact .inl (.inr e)
   ·exact .inr e
theorem Mp.put {B p b : Nat} {t : Tr} {w : World} {k : List UInt8} (v : Sv) (h : Mp B p t w) (hf : findT k t = some b) : Post B p (foot8 p t) (setF k v t.toL) w (w.setCell ⟨b, 1, none⟩ (.slice v.1 v.2.1 v.2.2)) := by
 have hb := find_in hf
 have hs : (findT k t).isSome = true := by rw [hf]; rfl
 have hl : (putT k v t).toL = setF k v t.toL := put_toL h.srt hs
 have hlen : (putT k v t).toL.length = t.toL.length := by rw [hl, len_set h.srt, if_pos (by rw [← find_get h.srt]; exact hs)]
 have kk := set_kept' w b 1 (.slice v.1 v.2.1 v.2.2)
 refine ⟨_, ⟨putT k v t, ⟨?_, put_at h.ok h.nd hf, by rw [hl]; exact setF_srt h.srt, put_hk k v h.hk, by rw [put_blocks]; exact h.pn, by rw [put_blocks]; exact h.nd, by rw [put_blocks]; exact h.low⟩, hl, rfl⟩, ?_, fun i hi => .inl ?_⟩
 ·rw [put_ptr, hlen, kk.block p (Array.getElem?_eq_some_iff.1 h.box).1 (fun e => h.pn (e ▸ hb))]
  exact h.box
 ·exact kk.mono (fun i e => .inr (e ▸ hb))
 ·rw [put_blocks] at hi
  exact hi
theorem set9 {B p : Nat} {t : Tr} {w : World} (k : List UInt8) (v : Sv) (h : Mp B p t w) (hl : t.toL.length < 100000) : Calls Tryz.prog 179 #[.pointer (some ⟨p, 0, none⟩), .string (bs k), .slice v.1 v.2.1 v.2.2] w fun e w' => e = .returned (.tuple #[]) ∧ Post B p (foot8 p t) (setF k v t.toL) w w' := by
 have CF : Hid (1 = 1 → Calls Tryz.prog 256 #[.pointer (some ⟨p, 0, none⟩), .string (bs k)] w fun e w' => e = .returned (ptrO (findT k t)) ∧ w' = w) := fun _ => find20 p k t w h.cells.1 h.ok
 have hg := find_get (k := k) h.srt
 cases hf : findT k t with
 | some b =>
  rw [hf] at CF
  have HP : Hid (Post B p (foot8 p t) (setF k v t.toL) w (w.setCell ⟨b, 1, none⟩ (.slice v.1 v.2.1 v.2.2))) := h.put v hf
  obtain ⟨q, u, x, l, r, hb, -⟩ := find_at h.srt h.ok hf
  obtain ⟨-, c1, -, -, -⟩ := nd_cells hb
  have f1 := block_frozen hb 1
  simp only [ptrO] at CF
  clear h hg hf hb hl
  generalize setF k v t.toL = L at *
  generalize foot8 p t = F at *
  go_enter Tryz.func179, Tryz.ntmps179
  go_wp2_with fail
  refine (CF.out (by trivial)).mono ?_
  rintro e w' ⟨rfl, rfl⟩
  go_wp2_with fail
  refine bodyPost_ret (results_none Tryz.results179 _ _ _) rfl ?_
  exact ⟨rfl, HP.out⟩
 | none =>
  rw [hf] at CF hg
  have hn : getF k t.toL = none := by
   cases e : getF k t.toL with
   | none => rfl
   | some v => rw [e] at hg; cases hg
  have CW : Hid (1 = 1 → Calls Tryz.prog 258 #[t.ptr, .string (bs k), .slice v.1 v.2.1 v.2.2] w fun e w1 => ∃ o, e = .returned (.pointer o) ∧ w1.cell? ⟨p, 0, none⟩ = some t.ptr ∧ w1.cell? ⟨p, 1, none⟩ = some (.int .i64 t.toL.length) ∧ w1.frozen? ⟨p, 0, none⟩ = false ∧ w1.frozen? ⟨p, 1, none⟩ = false ∧ Hid (Post B p (foot8 p t) (setF k v t.toL) w ((w1.setCell ⟨p, 0, none⟩ (.pointer o)).setCell ⟨p, 1, none⟩ (.int .i64 (t.toL.length + 1))))) := fun _ => by
   refine (with21 k v t w h.ok h.nd h.hk h.srt hn hl).mono ?_
   rintro e w1 ⟨t', rfl, g⟩
   obtain ⟨o, ho⟩ := t'.is_ptr
   have h1 : w1.heap[p]? = some (.cells #[t.ptr, .int .i64 t.toL.length] 248 (0, 0)) := by rw [g.kept.block p (Array.getElem?_eq_some_iff.1 h.box).1 h.pn]; exact h.box
   refine ⟨o, by rw [ho], block_cell h1 rfl, block_cell h1 rfl, block_frozen h1 _, block_frozen h1 _, ?_⟩
   have := h.upd g (setF_srt h.srt) (t.toL.length + 1) (by rw [len_set h.srt, hn]; rfl)
   rw [ho] at this
   exact this
  obtain ⟨c0, c1⟩ := h.cells
  simp only [ptrO] at CF
  have hl' : ((t.toL.length : Nat) : Int) < 100000 := by omega
  clear h hg hn hf hl
  generalize setF k v t.toL = L at *
  generalize foot8 p t = F at *
  obtain ⟨tp, hto⟩ := t.is_ptr
  rw [hto] at CW c0
  clear hto
  generalize t.toL.length = n at *
  go_enter Tryz.func179, Tryz.ntmps179
  go_wp2_with fail
  refine (CF.out (by trivial)).mono ?_
  rintro e w' ⟨rfl, rfl⟩
  go_wp2_with fail
  refine (CW.out (by trivial)).mono ?_
  rintro e w1 ⟨o, rfl, d0, d1, f0, f1, HP⟩
  clear CW CF c0 c1
  go_wp2_with fail
  refine bodyPost_end (results_none Tryz.results179 _ _ _) rfl ?_
  exact ⟨rfl, HP.out⟩
end Go.Proofs.YtajjnmdomabmkaaGreat.Sto
namespace Go.Proofs.YtajjnmdomabmkaaGreat.Sto
open Go.RowKit
theorem TrAt.noVe {w : World} {t : Tr} : TrAt nl t w → ∀ b ∈ t.blocks, NoVe w b := by
 induction t using Tr.ind with
 | nil =>
  intro _ b hb
  simp [Tr.blocks] at hb
 | node c l k v x r ihl ihr =>
  intro h b hb
  obtain ⟨h1, h2, h3⟩ := h
  simp only [Tr.blocks, List.mem_cons, List.mem_append] at hb
  rcases hb with rfl | hb | hb
  ·exact noVe_small h1 (by simp [nl])
  ·exact ihl h2 b hb
  ·exact ihr h3 b hb
structure Mc (B q : Nat) (t : Tr) (S : Sk) (w : World) : Prop where
 mp : Mp B q t w
 chs : Chs w t.toL S
 sok : SOk S
theorem Mc.noVe {B q : Nat} {t : Tr} {S : Sk} {w : World} (h : Mc B q t S w) : ∀ i, foot8 q t i → NoVe w i
 | i, .inl e => e ▸ noVe_small h.mp.box (by simp)
 | i, .inr e => TrAt.noVe h.mp.ok i e
theorem Mc.lt {B q : Nat} {t : Tr} {S : Sk} {w : World} (h : Mc B q t S w) : ∀ i, foot8 q t i → B ≤ i ∧ i < w.heap.size
 | _, .inl e => e ▸ ⟨h.mp.low.1, (Array.getElem?_eq_some_iff.1 h.mp.box).1⟩
 | i, .inr e => ⟨h.mp.low.2 i e, h.mp.ok.lt i e⟩
theorem Mc.kept {B q : Nat} {t : Tr} {S : Sk} {w w' : World} {G : Nat → Prop} (h : Mc B q t S w) (hk : Kept G w w') (h1 : ∀ i, foot8 q t i → ¬ G i) (hG : ∀ i, G i → NoVe w i) : Mc B q t S w' :=
 ⟨h.mp.kept hk (h1 q (.inl rfl)) (fun i hi => h1 i (.inr hi)), Chs.kept hk hG h.chs, h.sok⟩
theorem Mc.on {B q : Nat} {t : Tr} {S : Sk} {w w' : World} (h : Mc B q t S w) (hb : Below w.heap.size w w') : Mc B q t S w' := h.kept (G := fun _ => False) (Kept.of_below hb) (fun _ _ h => h) (fun _ h => h.elim)
theorem Mc.len {B q : Nat} {t : Tr} {S : Sk} {w : World} (h : Mc B q t S w) (ht : totS S < 10000) : t.toL.length = S.length ∧ S.length < 10000 := by
 have := len_tot h.sok.all
 exact ⟨h.chs.len, by omega⟩
theorem getF_isSome {w : World} (k : List UInt8) : ∀ {L : Kv Sv} {S : Sk}, Chs w L S → (getF k L).isSome = (getF k S).isSome
 | [], [], _ => rfl
 | (a, s) :: L, (b, c) :: S, h => by
  obtain ⟨rfl, h1, h2⟩ := h
  unfold getF
  by_cases e : (a == k) = true
  ·rw [if_pos e, if_pos e]; rfl
  ·rw [if_neg e, if_neg e]; exact getF_isSome k h2
theorem keysF_chs {w : World} {L : Kv Sv} {S : Sk} (h : Chs w L S) (lo hi : List UInt8) (limit : Int) : keysF lo hi limit L = keysF lo hi limit S := by
 unfold keysF rangeF
 rw [h.map]
theorem sok_set {S : Sk} {k : List UInt8} {c : List Ve} (h : SOk S) (hc : Ch c) (hne : c ≠ []) : SOk (setF k c S) := by
 refine ⟨setF_srt h.srt, fun x hx => ?_⟩
 rcases setF_keys hx with rfl | hx
 ·exact ⟨hc, hne⟩
 ·exact h.all x hx
theorem mc_get {B q : Nat} {t : Tr} {S : Sk} {w : World} (k : List UInt8) (h : Mc B q t S w) : Calls Tryz.prog 211 #[.pointer (some ⟨q, 0, none⟩), .string (bs k)] w fun e w' => ∃ ao cap, e = .returned (.tuple #[.slice ao (chainF k S).length cap, .bool (getF k S).isSome]) ∧ VsAt w'.heap.size (.slice ao (chainF k S).length cap) (chainF k S) w' ∧ Below w.heap.size w w' := by
 refine (get13 k h.mp).mono ?_
 rintro e w' ⟨rfl, hb⟩
 have hv := Chs.get k h.chs
 obtain ⟨s, hs⟩ : ∃ s, (getF k t.toL).getD (none, 0, 0) = s := ⟨_, rfl⟩
 rw [hs] at hv ⊢
 have hl : s.2.1 = (chainF k S).length := by
  obtain ⟨ao, cap, e, _⟩ := hv
  simp only [svV, Value.slice.injEq] at e
  exact e.2.1
 rw [svV, hl] at hv
 rw [hl]
 exact ⟨_, _, by rw [getF_isSome k h.chs], (hv.on hb).le hb.size, hb⟩
theorem mc_len {B q : Nat} {t : Tr} {S : Sk} {w : World} (h : Mc B q t S w) : Calls Tryz.prog 210 #[.pointer (some ⟨q, 0, none⟩)] w fun e w' => e = .returned (.int .i64 S.length) ∧ Below w.heap.size w w' := by
 have := len15 h.mp
 rw [h.chs.len] at this
 exact this
theorem mc_keys {B q : Nat} {t : Tr} {S : Sk} {w : World} (lo hi : List UInt8) (limit : Int) (h : Mc B q t S w) (ht : totS S < 10000) : Calls Tryz.prog 209 #[.pointer (some ⟨q, 0, none⟩), .string (bs lo), .string (bs hi), .int .i64 limit] w fun e w' => ∃ v', e = .returned v' ∧ w'.ownsRow w.heap.size 9 1 v' (keysF lo hi limit S).length (kc (keysF lo hi limit S)) ∧ Below w.heap.size w w' := by
 have := keys17 lo hi limit h.mp (by have := h.len ht; omega)
 rw [keysF_chs h.chs] at this
 exact this
def McPost (B q : Nat) (t : Tr) (S : Sk) (w w' : World) : Prop := ∃ t', Mc B q t' S w' ∧ Kept (foot8 q t) w w' ∧ ∀ i, foot8 q t' i → foot8 q t i ∨ w.heap.size ≤ i
theorem mc_set {B q : Nat} {t : Tr} {S : Sk} {w : World} (k : List UInt8) {ao : Option Addr} {n cap : Nat} {c : List Ve} (h : Mc B q t S w) (ht : totS S < 10000) (hv : VsAt w.heap.size (.slice ao n cap) c w) (hc : Ch c) (hne : c ≠ []) : Calls Tryz.prog 179 #[.pointer (some ⟨q, 0, none⟩), .string (bs k), .slice ao n cap] w fun e w' => e = .returned (.tuple #[]) ∧ McPost B q t (setF k c S) w w' := by
 refine (set9 k (ao, n, cap) h.mp (by have := h.len ht; omega)).mono ?_
 rintro e w' ⟨rfl, F', ⟨t', h1, h2, rfl⟩, hk, hn⟩
 refine ⟨rfl, t', ⟨h1, ?_, sok_set h.sok hc hne⟩, hk, hn⟩
 have hG : ∀ i, foot8 q t i → NoVe w i := h.noVe
 rw [h2]
 exact Chs.set ((VsAt.kept hv hk hG).le hk.size) (Chs.kept hk hG h.chs)
end Go.Proofs.YtajjnmdomabmkaaGreat.Sto
namespace Go.Proofs.YtajjnmdomabmkaaGreat.Sto
open Go.RowKit
theorem keys_all {S : Sk} {limit : Int} (h : (S.length : Int) ≤ limit) : keysF [] [] limit S = S.map (·.1) := by
 unfold keysF
 rw [range_all, List.take_of_length_le]
 rw [List.length_map]
 omega
theorem map_at (S : Sk) {m : Nat} (h : m < S.length) : (S.map (·.1)).getD m [] = (S.getD m ds).1 := by
 simp [List.getD, h]
end Go.Proofs.YtajjnmdomabmkaaGreat.Sto
namespace Go.Proofs.YtajjnmdomabmkaaGreat.Sto
open Go.RowKit
structure So (B p q : Nat) (t : Tr) (S : Sk) (w : World) : Prop where
 box : w.heap[p]? = some (.cells #[.pointer (some ⟨q, 0, none⟩)] 164 (0, 0))
 mc : Mc B q t S w
 low : B ≤ p
 ne : ¬ foot8 q t p
 kl : ∀ x ∈ S, x.1.length ≤ 32
def footS (p q : Nat) (t : Tr) : Nat → Prop := fun i => i = p ∨ foot8 q t i
def SoAt (B p : Nat) (M : Nat → Prop) (S : Sk) (w : World) : Prop := ∃ q t, So B p q t S w ∧ M = footS p q t
theorem So.lt {B p q : Nat} {t : Tr} {S : Sk} {w : World} (h : So B p q t S w) : ∀ i, footS p q t i → B ≤ i ∧ i < w.heap.size
 | _, .inl e => e ▸ ⟨h.low, (Array.getElem?_eq_some_iff.1 h.box).1⟩
 | i, .inr e => h.mc.lt i e
theorem So.noVe {B p q : Nat} {t : Tr} {S : Sk} {w : World} (h : So B p q t S w) : ∀ i, footS p q t i → NoVe w i
 | _, .inl e => e ▸ noVe_small h.box (by simp)
 | i, .inr e => h.mc.noVe i e
theorem So.kept {B p q : Nat} {t : Tr} {S : Sk} {w w' : World} {G : Nat → Prop} (h : So B p q t S w) (hk : Kept G w w') (h1 : ∀ i, footS p q t i → ¬ G i) (hG : ∀ i, G i → NoVe w i) : So B p q t S w' :=
 ⟨by rw [hk.block p (Array.getElem?_eq_some_iff.1 h.box).1 (h1 p (.inl rfl))]; exact h.box, h.mc.kept hk (fun i hi => h1 i (.inr hi)) hG, h.low, h.ne, h.kl⟩
theorem So.on {B p q : Nat} {t : Tr} {S : Sk} {w w' : World} (h : So B p q t S w) (hb : Below w.heap.size w w') : So B p q t S w' := h.kept (G := fun _ => False) (Kept.of_below hb) (fun _ _ h => h) (fun _ h => h.elim)
theorem So.cell {B p q : Nat} {t : Tr} {S : Sk} {w : World} (h : So B p q t S w) : w.cell? ⟨p, 0, none⟩ = some (.pointer (some ⟨q, 0, none⟩)) := block_cell h.box rfl
theorem So.post {B p q : Nat} {t : Tr} {S S' : Sk} {w w' : World} (h : So B p q t S w) (hp : McPost B q t S' w w') (hkl : ∀ x ∈ S', x.1.length ≤ 32) : ∃ t', So B p q t' S' w' ∧ Kept (footS p q t) w w' ∧ ∀ i, footS p q t' i → footS p q t i ∨ w.heap.size ≤ i := by
 obtain ⟨t', h1, hk, hn⟩ := hp
 have hpl := (Array.getElem?_eq_some_iff.1 h.box).1
 refine ⟨t', ⟨by rw [hk.block p hpl h.ne]; exact h.box, h1, h.low, fun hf => ?_, hkl⟩, ⟨hk.os, hk.tape, hk.output, hk.size, fun i hi hf => hk.block i hi (fun e => hf (.inr e))⟩, fun i hi => ?_⟩
 ·rcases hn p hf with e | e
  ·exact h.ne e
  ·omega
 ·rcases hi with e | e
  ·exact .inl (.inl e)
  ·rcases hn i e with e | e
   ·exact .inl (.inr e)
   ·exact .inr e
def SoPost (B p : Nat) (M : Nat → Prop) (S' : Sk) (w w' : World) : Prop := ∃ M', SoAt B p M' S' w' ∧ Kept M w w' ∧ ∀ i, M' i → M i ∨ w.heap.size ≤ i
theorem So.out {B p q : Nat} {t t' : Tr} {S' : Sk} {w w1 w' : World} (hb : Below w.heap.size w w1) (h : So B p q t' S' w') (hk : Kept (footS p q t) w1 w') (hn : ∀ i, footS p q t' i → footS p q t i ∨ w1.heap.size ≤ i) : SoPost B p (footS p q t) S' w w' := by
 refine ⟨_, ⟨q, t', h, rfl⟩, (Kept.of_below hb).trans hk (fun i hi => .inl hi), fun i hi => ?_⟩
 rcases hn i hi with e | e
 ·exact .inl e
 ·exact .inr (Nat.le_trans hb.size e)
theorem so_new (w : World) : Calls Tryz.prog 40 #[] w fun e w' => ∃ p M, e = .returned (.pointer (some ⟨p, 0, none⟩)) ∧ SoAt w.heap.size p M [] w' ∧ Below w.heap.size w w' := by
 have C : Hid (∀ W : World, Below w.heap.size w W → Calls Tryz.prog 71 #[] W fun e w' => ∃ q t, e = .returned (.pointer (some ⟨q, 0, none⟩)) ∧ Mc w.heap.size q t [] w' ∧ Below w.heap.size w w') := fun W hb => by
  refine (new8 W).mono ?_
  rintro e w' ⟨q, F, rfl, ⟨t, h1, h2, rfl⟩, hb'⟩
  refine ⟨q, t, rfl, ⟨⟨h1.box, h1.ok, h1.srt, h1.hk, h1.pn, h1.nd, Nat.le_trans hb.size h1.low.1, fun i hi => Nat.le_trans hb.size (h1.low.2 i hi)⟩, by rw [h2]; exact trivial, SOk.nil⟩, hb.trans (hb'.mono hb.size)⟩
 go_enter Tryz.func40, Tryz.ntmps40
 go_wp2_with fail
 refine (C.out _ (Below.refl _ _)).mono ?_
 rintro e w1 ⟨q, t, rfl, hm, hb⟩
 have H : Hid (So w.heap.size w1.heap.size q t [] (w1.alloc (.cells #[.pointer (some ⟨q, 0, none⟩)] 164)) ∧ Below w.heap.size w (w1.alloc (.cells #[.pointer (some ⟨q, 0, none⟩)] 164))) :=
  ⟨⟨heap_alloc_new w1 _, hm.on (al _), hb.size, fun hf => by have := (hm.lt _ hf).2; omega, fun _ h => by cases h⟩, hb.trans ((al _).mono hb.size)⟩
 clear hm hb C
 go_wp2_with fail
 go_ret
 exact ⟨_, _, rfl, ⟨q, t, H.out.1, rfl⟩, H.out.2⟩
theorem so_of {B p q : Nat} {t : Tr} {S : Sk} {w : World} (k : List UInt8) (h : So B p q t S w) : Calls Tryz.prog 111 #[.pointer (some ⟨p, 0, none⟩), .string (bs k)] w fun e w' => ∃ ao cap, e = .returned (.slice ao (chainF k S).length cap) ∧ VsAt w'.heap.size (.slice ao (chainF k S).length cap) (chainF k S) w' ∧ Below w.heap.size w w' := by
 have c0 := h.cell
 have C : Hid (1 = 1 → _) := fun _ => mc_get k h.mc
 clear h
 go_enter Tryz.func111, Tryz.ntmps111
 go_wp2_with fail
 refine (C.out (by trivial)).mono ?_
 rintro e w1 ⟨ao, cap, rfl, hv, hb⟩
 have H : Hid _ := hv
 have HB : Hid _ := hb
 clear hv hb C c0
 generalize (getF k S).isSome = g at *
 go_wp2_with fail
 go_ret
 exact ⟨ao, cap, rfl, H.out, HB.out⟩
theorem mc_all {B q : Nat} {t : Tr} {S : Sk} {w : World} (h : Mc B q t S w) (ht : totS S < 10000) : Calls Tryz.prog 209 #[.pointer (some ⟨q, 0, none⟩), .string ⟨#[]⟩, .string ⟨#[]⟩, .int .i64 S.length] w fun e w' => ∃ ka kp, e = .returned (.slice ka S.length kp) ∧ w'.ownsRow w.heap.size 9 1 (.slice ka S.length kp) (S.map (·.1)).length (kc (S.map (·.1))) ∧ Below w.heap.size w w' := by
 have := mc_keys [] [] S.length h ht
 rw [keys_all (Int.le_refl _)] at this
 refine Calls.mono this ?_
 rintro e w' ⟨v', rfl, ho, hb⟩
 obtain ⟨ao, cap, rfl, _⟩ := rw_own ho
 rw [List.length_map] at ho ⊢
 exact ⟨ao, cap, rfl, ho, hb⟩
theorem so_keys {B p q : Nat} {t : Tr} {S : Sk} {w : World} (h : So B p q t S w) (ht : totS S < 10000) : Calls Tryz.prog 109 #[.pointer (some ⟨p, 0, none⟩)] w fun e w' => ∃ ka kp, e = .returned (.slice ka S.length kp) ∧ w'.ownsRow w.heap.size 9 1 (.slice ka S.length kp) (S.map (·.1)).length (kc (S.map (·.1))) ∧ Below w.heap.size w w' := by
 have HS : Hid (So B p q t S w) := h
 have c0 := h.cell
 have hpl : p < w.heap.size := World.block_lt_of_cell? _ _ c0
 have CL : Hid (∀ W, Below w.heap.size w W → _) := fun W hb => mc_len (h.mc.on hb)
 have CK : Hid (∀ W, Below w.heap.size w W → Calls Tryz.prog 209 #[.pointer (some ⟨q, 0, none⟩), .string ⟨#[]⟩, .string ⟨#[]⟩, .int .i64 S.length] W fun e w' => ∃ ka kp, e = .returned (.slice ka S.length kp) ∧ w'.ownsRow W.heap.size 9 1 (.slice ka S.length kp) (S.map (·.1)).length (kc (S.map (·.1))) ∧ Below W.heap.size W w') := fun W hb => mc_all (h.mc.on hb) ht
 clear h ht
 go_enter Tryz.func109, Tryz.ntmps109
 go_wp2_with fail
 have HP : Hid (w.cell? ⟨p, 0, none⟩ = some (.pointer (some ⟨q, 0, none⟩))) := c0
 go_region_held3 (fun W => W.cell? ⟨p, 0, none⟩ = some (.pointer (some ⟨q, 0, none⟩)))
  (first | exact HP.out | exact H1.out.2 | exact H2.out.2.2)
  (first
  | (go_at_call 210; refine (CL.out _ ((Below.refl _ _).drew)).mono ?_; rintro e W1 ⟨rfl, hb1⟩; have H1 : Hid (Below w.heap.size w W1 ∧ W1.cell? ⟨p, 0, none⟩ = some (.pointer (some ⟨q, 0, none⟩))) := ⟨(Below.refl _ _).drew.trans hb1, (HS.out.on ((Below.refl _ _).drew.trans hb1)).cell⟩; clear hb1)
  | (go_at_call 209; refine (CK.out _ H1.out.1).mono ?_; rintro e W2 ⟨ka, kp, rfl, ho2, hb2⟩; have H2 : Hid (W2.ownsRow W1.heap.size 9 1 (.slice ka S.length kp) (S.map (·.1)).length (kc (S.map (·.1))) ∧ Below w.heap.size w W2 ∧ W2.cell? ⟨p, 0, none⟩ = some (.pointer (some ⟨q, 0, none⟩))) := ⟨ho2, H1.out.1.trans (hb2.mono H1.out.1.size), (HS.out.on (H1.out.1.trans (hb2.mono H1.out.1.size))).cell⟩; clear ho2 hb2))
 rename_i hHeld
 clear hHeld
 go_wp2_with fail
 go_ret
 exact ⟨ka, kp, rfl, own_le H2.out.1 H1.out.1.size, H2.out.2.1⟩
theorem isKey28 (k : List UInt8) (w : World) : Calls Tryz.prog 259 #[.string (bs k)] w fun e w' => e = .returned (.bool (keyB k)) ∧ w' = w := by
 have hs := bs_size k
 by_cases h1 : k.length < 1
 ·have h1' : ¬ (1 : Int) ≤ k.length := by omega
  have hk : keyB k = false := by simp [keyB]; omega
  rw [hk]
  clear hk
  go_enter Tryz.func259, Tryz.ntmps259
  go_wp2_with fail
  go_ret
  exact ⟨rfl, rfl⟩
 ·have h1' : (1 : Int) ≤ k.length := by omega
  by_cases h2 : k.length ≤ 32
  ·have h2' : (k.length : Int) ≤ 32 := by omega
   have hk : keyB k = true := by simp [keyB]; omega
   rw [hk]
   clear hk
   go_enter Tryz.func259, Tryz.ntmps259
   go_wp2_with fail
   go_ret
   exact ⟨rfl, rfl⟩
  ·have h2' : ¬ (k.length : Int) ≤ 32 := by omega
   have hk : keyB k = false := by simp [keyB]; omega
   rw [hk]
   clear hk
   go_enter Tryz.func259, Tryz.ntmps259
   go_wp2_with fail
   go_ret
   exact ⟨rfl, rfl⟩
end Go.Proofs.YtajjnmdomabmkaaGreat.Sto
namespace Go.Proofs.YtajjnmdomabmkaaGreat.Sto
open Go.RowKit
structure Tv (w : World) (bx : Nat) (p l : Int) (v : Value) (C : List Ve) (W : World) : Prop where
 tx : Tx w bx p l W
 vs : VsAt W.heap.size v C W
theorem Tv.on {w W W' : World} {bx : Nat} {p l : Int} {v : Value} {C : List Ve} (h : Tv w bx p l v C W) (hb : Below W.heap.size W W') : Tv w bx p l v C W' := ⟨h.tx.on hb, (h.vs.on hb).le hb.size⟩
theorem Tv.al {w W : World} {bx : Nat} {p l : Int} {v : Value} {C : List Ve} (h : Tv w bx p l v C W) (o : Obj) : Tv w bx p l v C (W.alloc o) := h.on (Go.Proofs.YtajjnmdomabmkaaGreat.al _)
theorem zero_box2 {W W3 : World} {o : Obj} (hb : Below (W.alloc o).heap.size (W.alloc o) W3) : W3.heap[W.heap.size]? = some o := by
 rw [hb.block W.heap.size (by simp)]
 exact heap_alloc_new W _
theorem get15_of {C : List Ve} (pv : Value) (k : List UInt8) (p l : Int) (w : World) (CC : Hid (∀ W, Below w.heap.size w W → Calls Tryz.prog 111 #[pv, .string (bs k)] W fun e w' => ∃ ao cap, e = .returned (.slice ao C.length cap) ∧ VsAt w'.heap.size (.slice ao C.length cap) C w' ∧ Below W.heap.size W w')) :
  Calls Tryz.prog 189 #[pv, .string (bs k), .agg #[.int .u64 p, .int .u32 l]] w fun e w' => e = .returned (.tuple #[.string (bs (getV (seeF C p l)).1), .bool (getV (seeF C p l)).2]) ∧ Below w.heap.size w w' := by
 have CP : Hid (∀ W ao cap bx, Tv w bx p l (.slice ao C.length cap) C W → Calls Tryz.prog 23 #[.slice ao C.length cap, .agg #[.int .u64 p, .int .u32 l]] W fun e w' => e = .returned (.tuple #[veV ((atF C p l).getD dv), .bool (atF C p l).isSome]) ∧ Below W.heap.size W w') := fun W ao cap bx h => at10 W.heap.size C _ p l W h.vs (Nat.le_refl _)
 have HY : Hid _ := see_at C p l
 have HT : Hid (Tx w w.heap.size p l (w.alloc (.cells #[.int .u64 p, .int .u32 l] 32))) := tx_new w p l
 generalize getV (seeF C p l) = Y at *
 generalize (atF C p l).isSome = z at *
 generalize (atF C p l).getD dv = u at *
 obtain ⟨up, ul, uc, un, us, ud⟩ := u
 simp only [veV] at CP
 dsimp only at HY
 go_enter Tryz.func189, Tryz.ntmps189
 go_wp2_with fail
 obtain ⟨W0, hW0⟩ : ∃ W0, w.alloc (.cells #[.int .u64 p, .int .u32 l] 32) = W0 := ⟨_, rfl⟩
 rw [hW0] at HT ⊢
 obtain ⟨bx, hbx⟩ : ∃ bx, w.heap.size = bx := ⟨_, rfl⟩
 rw [hbx] at HT
 have HBX : Hid (w.heap.size = bx) := hbx
 clear hW0
 rw [hbx]
 clear hbx
 obtain ⟨x0, x1, -⟩ := HT.out.two
 have HN0 : Hid (bx < W0.heap.size ∧ w.heap.size ≤ W0.heap.size) := ⟨World.block_lt_of_cell? _ _ x0, HT.out.bel.size⟩
 go_cut [8, 9] (fun s8 s9 wc => ∃ vb, s8 = .pointer (some ⟨vb, 0, none⟩) ∧ s9 = .bool z ∧ VeAt wc vb 0 ⟨up, ul, uc, un, us, ud⟩ ∧ Below w.heap.size w wc)
 case first =>
  go_region_held3 (fun W => W.cell? ⟨bx, 0, none⟩ = some (.int .u64 p) ∧ W.cell? ⟨bx, 1, none⟩ = some (.int .u32 l) ∧ Tx w bx p l W)
   ((with_reducible refine Tx.two ?_; with_reducible repeat (first | exact HT.out | exact H1.out.tx | exact H2.out | refine Tx.dr ?_ | refine Tx.al ?_ _ | refine Tx.st ?_ HN0.out _ _ | refine Tx.st ?_ HN1.out _ _)))
   (first
   | (go_at_call 111; refine (CC.out _ (Tx.bel (bx := bx) (p := p) (l := l) (by with_reducible repeat (first | exact HT.out | refine Tx.dr ?_ | refine Tx.al ?_ _)))).mono ?_; rintro e W1 ⟨ao, cap, rfl, hv1, hb1⟩; have H1 : Hid (Tv w bx p l (.slice ao C.length cap) C W1) := ⟨(by refine Tx.on ?_ hb1; with_reducible repeat (first | exact HT.out | refine Tx.dr ?_ | refine Tx.al ?_ _)), hv1⟩; have HN1 : Hid (bx < W1.heap.size ∧ w.heap.size ≤ W1.heap.size) := ⟨World.block_lt_of_cell? _ _ H1.out.tx.c0, H1.out.tx.bel.size⟩; clear hv1; first | ((with_reducible have Y3 := zero_box hb1); have Y4 : Hid (W1.heap[W0.heap.size]? = some (.cells #[.int .u64 0, .int .u32 0, .int .u32 0, .int .u32 0, .string ⟨#[]⟩, .bool false] 69 (0, 0))) := Y3; clear Y3 hb1) | clear hb1)
   | (go_at_call 23; refine (CP.out _ ao cap bx (by with_reducible repeat (first | exact H1.out | refine Tv.dr ?_ | refine Tv.al ?_ _))).mono ?_; rintro e W2 ⟨rfl, hb2⟩; have H2 : Hid (Tx w bx p l W2) := (by refine Tx.on ?_ hb2; refine Tv.tx (v := .slice ao C.length cap) (C := C) ?_; with_reducible repeat (first | exact H1.out | refine Tv.dr ?_ | refine Tv.al ?_ _)); first | (have Z4 : Hid (W2.heap[W0.heap.size]? = some (.cells #[.int .u64 0, .int .u32 0, .int .u32 0, .int .u32 0, .string ⟨#[]⟩, .bool false] 69 (0, 0))) := (by show _ = _; rw [hb2.block W0.heap.size (Array.getElem?_eq_some_iff.1 Y4.out).1]; exact Y4.out); obtain ⟨z0, z1, z2, z3, z4, z5, y0, y1, y2, y3, y4, y5⟩ := zero_cells Z4.out; clear hb2) | ((with_reducible have Z3 := zero_box2 hb2); have Z4 : Hid (W2.heap[W1.heap.size]? = some (.cells #[.int .u64 0, .int .u32 0, .int .u32 0, .int .u32 0, .string ⟨#[]⟩, .bool false] 69 (0, 0))) := Z3; clear Z3; obtain ⟨z0, z1, z2, z3, z4, z5, y0, y1, y2, y3, y4, y5⟩ := zero_cells Z4.out; clear hb2) | clear hb2))
  all_goals
   go_wp2_with fail
   go_meet
   first
   | (with_reducible refine ⟨_, rfl, rfl, six_set ?_, ?_⟩
      exact Z4.out
      exact Tx.bel (bx := bx) (p := p) (l := l) (by with_reducible repeat (first | exact H2.out | refine Tx.st ?_ HN0.out _ _ | refine Tx.st ?_ HN1.out _ _)))
   | exact ⟨_, rfl, rfl, ve_new _ _ _ _ _ _ _, (H2.out.al _).bel⟩
 case rest =>
  obtain ⟨vb, rfl, rfl, hve, hbl⟩ := hcut
  obtain ⟨-, -, -, -, v4, v5⟩ := hve
  simp only [Nat.zero_add] at v4 v5
  have HBl : Hid _ := hbl
  clear hbl x0 x1 HT CC CP HN0 HBX
  cases z
  ·have hY : Y = ([], false) := by rw [HY.out]; simp
   subst hY
   go_wp2_with fail
   refine bodyPost_ret (v := .tuple #[.string ⟨#[]⟩, .bool false]) (by simp [results, Tryz.results189, go_sem]) rfl ?_
   exact ⟨rfl, HBl.out⟩
  ·cases ud
   ·have hY : Y = (us, true) := by rw [HY.out]; simp
    subst hY
    go_wp2_with fail
    refine bodyPost_ret (v := .tuple #[.string (bs us), .bool true]) (by simp [results, Tryz.results189, go_sem]) rfl ?_
    exact ⟨rfl, HBl.out⟩
   ·have hY : Y = ([], false) := by rw [HY.out]; simp
    subst hY
    go_wp2_with fail
    refine bodyPost_ret (v := .tuple #[.string ⟨#[]⟩, .bool false]) (by simp [results, Tryz.results189, go_sem]) rfl ?_
    exact ⟨rfl, HBl.out⟩
end Go.Proofs.YtajjnmdomabmkaaGreat.Sto
