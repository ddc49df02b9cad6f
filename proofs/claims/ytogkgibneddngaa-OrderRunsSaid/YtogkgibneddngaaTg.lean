/-
  What a call that turns or mends a tree leaves: the tree in memory, of the same nodes and new ones.
-/
import Derived.Test.YtogkgibneddngaaTurn
namespace Go.Proofs.Ytogkgibneddngaa
open Go.RowKit

/-- A tree t' of what is listed in L, made of t's nodes and new ones. -/
structure Tg (t : Tr) (L : Kv) (w : World) (t' : Tr) (w' : World) : Prop where
  ok : TrAt nl t' w'
  hk : Hk t'
  nd : t'.blocks.Nodup
  el : t'.toL = L
  sub : ∀ i ∈ t'.blocks, i ∈ t.blocks ∨ w.heap.size ≤ i
  kept : Kept (fun i => i ∈ t.blocks) w w'

theorem perm_nodup {a b : List Nat} (h : a.Nodup) (p : ∀ i, a.count i = b.count i) : b.Nodup := (List.Perm.nodup_iff (List.perm_iff_count.2 p)).1 h
theorem count_mem {a b : List Nat} (p : ∀ i, a.count i = b.count i) {i : Nat} (h : i ∈ b) : i ∈ a := (List.Perm.mem_iff (List.perm_iff_count.2 p)).2 h
theorem Kept.mono {F G : Nat → Prop} {w w' : World} (h : Kept F w w') (hF : ∀ i, F i → G i) : Kept G w w' := ⟨h.os, h.tape, h.output, h.size, fun k hk hG => h.block k hk (fun hf => hG (hF k hf))⟩
theorem Sw.kept {F : Nat → Prop} {w W w' : World} (s : Sw w W) (h : Kept F W w') : Kept F w w' := ⟨h.os.trans s.os, h.tape.trans s.tape, h.output.trans s.output, by have := h.size; rw [s.heap] at this; exact this, fun k hk hF => by rw [h.block k (by rw [s.heap]; exact hk) hF, s.heap]⟩
theorem Sw.tg {t t' : Tr} {L : Kv} {w W w' : World} (s : Sw w W) (h : Tg t L W t' w') : Tg t L w t' w' := ⟨h.ok, h.hk, h.nd, h.el, fun i hi => by have := h.sub i hi; rw [s.heap] at this; exact this, s.kept h.kept⟩
theorem Nd.sw {b : Nat} {l r : Tr} {k : List UInt8} {v : Int} {x : Nat} {w W : World} (h : Nd b l r k v x w) (s : Sw w W) : Nd b l r k v x W := ⟨h.ok.sw s, h.nd, h.hl, h.hr, h.few⟩
theorem Tg.after {t t1 t2 : Tr} {L : Kv} {w W w2 : World} (hs : ∀ i ∈ t1.blocks, i ∈ t.blocks ∨ w.heap.size ≤ i) (hk : Kept (fun i => i ∈ t.blocks) w W) (g : Tg t1 L W t2 w2) : Tg t L w t2 w2 :=
  ⟨g.ok, g.hk, g.nd, g.el, fun i hi => by
    rcases g.sub i hi with h | h
    · exact hs i h
    · exact .inr (Nat.le_trans hk.size h), hk.trans g.kept hs⟩

/-- A node's left side is another tree now. -/
theorem Tg.setl {b : Nat} {l r l' : Tr} {k : List UInt8} {v : Int} {x : Nat} {L : Kv} {w w1 : World} (h : TrAt nl (.node b l k v x r) w) (hn : (Tr.node b l k v x r).blocks.Nodup) (g : Tg l L w l' w1) :
    TrAt nl (.node b l' k v x r) (w1.setCell ⟨b, 2, none⟩ l'.ptr) ∧ (Tr.node b l' k v x r).blocks.Nodup ∧ (∀ i ∈ (Tr.node b l' k v x r).blocks, i ∈ (Tr.node b l k v x r).blocks ∨ w.heap.size ≤ i) ∧ Kept (fun i => i ∈ (Tr.node b l k v x r).blocks) w (w1.setCell ⟨b, 2, none⟩ l'.ptr) := by
  simp only [Tr.blocks, List.nodup_cons, List.mem_append, not_or, List.nodup_append] at hn
  obtain ⟨⟨nbl, nbr⟩, n1, n2, n3⟩ := hn
  have hb : b < w.heap.size := (Array.getElem?_eq_some_iff.1 h.1).1
  have hrlt := TrAt.lt h.2.2
  have h1 : w1.heap[b]? = some (.cells (nl.cells k v x l.ptr r.ptr) nl.ty (0, 0)) := by rw [g.kept.block b hb nbl]; exact h.1
  have tr : TrAt nl r w1 := TrAt.kept g.kept h.2.2 (fun i hi e => n3 i e i hi rfl)
  have ks := set_kept' w1 b 2 l'.ptr
  have nbl' : b ∉ l'.blocks := fun hi => by
    rcases g.sub b hi with e | e
    · exact nbl e
    · omega
  have dis : ∀ i ∈ l'.blocks, ∀ j ∈ r.blocks, i ≠ j := fun i hi j hj e => by
    subst e
    rcases g.sub i hi with e | e
    · exact n3 i e i hj rfl
    · have := hrlt i hj; omega
  refine ⟨⟨block_set _ h1, TrAt.kept ks g.ok (fun i hi e => nbl' (e ▸ hi)), TrAt.kept ks tr (fun i hi e => nbr (e ▸ hi))⟩, ?_, fun i hi => ?_, ?_⟩
  · simp only [Tr.blocks, List.nodup_cons, List.mem_append, not_or, List.nodup_append]
    exact ⟨⟨nbl', nbr⟩, g.nd, n2, dis⟩
  · simp only [Tr.blocks, List.mem_cons, List.mem_append] at hi ⊢
    rcases hi with e | e | e
    · exact .inl (.inl e)
    · rcases g.sub i e with e | e
      · exact .inl (.inr (.inl e))
      · exact .inr e
    · exact .inl (.inr (.inr e))
  · refine (g.kept.mono (fun i hi => ?_)).trans ks (fun i hi => .inl ?_)
    · simp [Tr.blocks, hi]
    · simp [Tr.blocks, hi]
/-- A node's right side is another tree now. -/
theorem Tg.setr {b : Nat} {l r r' : Tr} {k : List UInt8} {v : Int} {x : Nat} {L : Kv} {w w1 : World} (h : TrAt nl (.node b l k v x r) w) (hn : (Tr.node b l k v x r).blocks.Nodup) (g : Tg r L w r' w1) :
    TrAt nl (.node b l k v x r') (w1.setCell ⟨b, 3, none⟩ r'.ptr) ∧ (Tr.node b l k v x r').blocks.Nodup ∧ (∀ i ∈ (Tr.node b l k v x r').blocks, i ∈ (Tr.node b l k v x r).blocks ∨ w.heap.size ≤ i) ∧ Kept (fun i => i ∈ (Tr.node b l k v x r).blocks) w (w1.setCell ⟨b, 3, none⟩ r'.ptr) := by
  simp only [Tr.blocks, List.nodup_cons, List.mem_append, not_or, List.nodup_append] at hn
  obtain ⟨⟨nbl, nbr⟩, n1, n2, n3⟩ := hn
  have hb : b < w.heap.size := (Array.getElem?_eq_some_iff.1 h.1).1
  have hllt := TrAt.lt h.2.1
  have h1 : w1.heap[b]? = some (.cells (nl.cells k v x l.ptr r.ptr) nl.ty (0, 0)) := by rw [g.kept.block b hb nbr]; exact h.1
  have tl : TrAt nl l w1 := TrAt.kept g.kept h.2.1 (fun i hi e => n3 i hi i e rfl)
  have ks := set_kept' w1 b 3 r'.ptr
  have nbr' : b ∉ r'.blocks := fun hi => by
    rcases g.sub b hi with e | e
    · exact nbr e
    · omega
  have dis : ∀ i ∈ l.blocks, ∀ j ∈ r'.blocks, i ≠ j := fun i hi j hj e => by
    subst e
    rcases g.sub i hj with e | e
    · exact n3 i hi i e rfl
    · have := hllt i hi; omega
  refine ⟨⟨block_set _ h1, TrAt.kept ks tl (fun i hi e => nbl (e ▸ hi)), TrAt.kept ks g.ok (fun i hi e => nbr' (e ▸ hi))⟩, ?_, fun i hi => ?_, ?_⟩
  · simp only [Tr.blocks, List.nodup_cons, List.mem_append, not_or, List.nodup_append]
    exact ⟨⟨nbl, nbr'⟩, n1, g.nd, dis⟩
  · simp only [Tr.blocks, List.mem_cons, List.mem_append] at hi ⊢
    rcases hi with e | e | e
    · exact .inl (.inl e)
    · exact .inl (.inr (.inl e))
    · rcases g.sub i e with e | e
      · exact .inl (.inr (.inr e))
      · exact .inr e
  · refine (g.kept.mono (fun i hi => ?_)).trans ks (fun i hi => .inl ?_)
    · simp [Tr.blocks, hi]
    · simp [Tr.blocks, hi]

/-- Measured anew. -/
theorem Nd.mtg {b : Nat} {l r : Tr} {k : List UInt8} {v : Int} {x : Nat} {w : World} (h : Nd b l r k v x w) :
    Calls Try.prog 30 #[.pointer (some ⟨b, 0, none⟩)] w fun e w' => e = .returned (.tuple #[]) ∧ ∃ t', Tr.ptr t' = .pointer (some ⟨b, 0, none⟩) ∧ Tg (.node b l k v x r) (l.toL ++ (k, v) :: r.toL) w t' w' := by
  refine h.measure.mono ?_
  rintro e w' ⟨rfl, h1, hk⟩
  exact ⟨rfl, .node b l k v (1 + max l.hn r.hn) r, rfl, h1.ok, ⟨rfl, h1.hl, h1.hr⟩, h1.nd, rfl, fun i hi => .inl hi, hk.mono (fun i e => by simp [Tr.blocks, e])⟩
/-- Turned left. -/
theorem leftg {b c : Nat} {l m r : Tr} {k q : List UInt8} {v u : Int} {x y : Nat} {w : World} (h : TrAt nl (.node b l k v x (.node c m q u y r)) w) (hn : (Tr.node b l k v x (.node c m q u y r)).blocks.Nodup) (hl : Hk l) (hm : Hk m) (hr : Hk r) (few : l.toL.length + m.toL.length + r.toL.length < 100000) :
    Calls Try.prog 28 #[.pointer (some ⟨b, 0, none⟩)] w fun e w' => ∃ x' y', e = .returned (.pointer (some ⟨c, 0, none⟩)) ∧ Tg (.node b l k v x (.node c m q u y r)) (l.toL ++ (k, v) :: (m.toL ++ (q, u) :: r.toL)) w (.node c (.node b l k v x' m) q u y' r) w' := by
  refine (left28 h hn hl hm hr few).mono ?_
  rintro e w' ⟨x', y', rfl, h1, h2, hk⟩
  have hp : ∀ i, (Tr.node b l k v x (.node c m q u y r)).blocks.count i = (Tr.node c (.node b l k v x' m) q u y' r).blocks.count i := fun i => by
    simp only [Tr.blocks, List.count_cons, List.count_append]; omega
  exact ⟨x', y', rfl, h1, h2, perm_nodup hn hp, by simp [Tr.toL], fun i hi => .inl (count_mem hp hi), hk.mono (fun i e => by rcases e with e | e <;> simp [Tr.blocks, e])⟩
/-- Turned right. -/
theorem rightg {b c : Nat} {l m r : Tr} {k q : List UInt8} {v u : Int} {x y : Nat} {w : World} (h : TrAt nl (.node b (.node c l q u y m) k v x r) w) (hn : (Tr.node b (.node c l q u y m) k v x r).blocks.Nodup) (hl : Hk l) (hm : Hk m) (hr : Hk r) (few : l.toL.length + m.toL.length + r.toL.length < 100000) :
    Calls Try.prog 29 #[.pointer (some ⟨b, 0, none⟩)] w fun e w' => ∃ x' y', e = .returned (.pointer (some ⟨c, 0, none⟩)) ∧ Tg (.node b (.node c l q u y m) k v x r) ((l.toL ++ (q, u) :: m.toL) ++ (k, v) :: r.toL) w (.node c l q u y' (.node b m k v x' r)) w' := by
  refine (right29 h hn hl hm hr few).mono ?_
  rintro e w' ⟨x', y', rfl, h1, h2, hk⟩
  have hp : ∀ i, (Tr.node b (.node c l q u y m) k v x r).blocks.count i = (Tr.node c l q u y' (.node b m k v x' r)).blocks.count i := fun i => by
    simp only [Tr.blocks, List.count_cons, List.count_append]; omega
  exact ⟨x', y', rfl, h1, h2, perm_nodup hn hp, by simp [Tr.toL], fun i hi => .inl (count_mem hp hi), hk.mono (fun i e => by rcases e with e | e <;> simp [Tr.blocks, e])⟩
end Go.Proofs.Ytogkgibneddngaa
