/-
  Contracts of turnedLeft, turnedRight.
-/
import Derived.Test.YtogkgibneddngaaNode
namespace Go.Proofs.Ytogkgibneddngaa
open Go.RowKit

theorem Tr.is_ptr (t : Tr) : ∃ o, t.ptr = .pointer o := by
  cases t using Tr.cas with
  | nil => exact ⟨_, rfl⟩
  | node b l k v x r => exact ⟨_, rfl⟩
/-- A node over two trees whose heights are told. -/
structure Nd (b : Nat) (l r : Tr) (k : List UInt8) (v : Int) (x : Nat) (w : World) : Prop where
  ok : TrAt nl (.node b l k v x r) w
  nd : (Tr.node b l k v x r).blocks.Nodup
  hl : Hk l
  hr : Hk r
  few : l.toL.length + r.toL.length < 200000
theorem Nd.bl {b : Nat} {l r : Tr} {k : List UInt8} {v : Int} {x : Nat} {w : World} (h : Nd b l r k v x w) : 0 ≤ l.hi ∧ l.hi ≤ 1000000 := by
  have := h.hl.bounds
  have := h.few
  omega
theorem Nd.br {b : Nat} {l r : Tr} {k : List UInt8} {v : Int} {x : Nat} {w : World} (h : Nd b l r k v x w) : 0 ≤ r.hi ∧ r.hi ≤ 1000000 := by
  have := h.hr.bounds
  have := h.few
  omega
/-- A node measured anew. -/
theorem Nd.measure {b : Nat} {l r : Tr} {k : List UInt8} {v : Int} {x : Nat} {w : World} (h : Nd b l r k v x w) :
    Calls Try.prog 30 #[.pointer (some ⟨b, 0, none⟩)] w fun e w' => e = .returned (.tuple #[]) ∧ Nd b l r k v (1 + max l.hn r.hn) w' ∧ Kept (fun i => i = b) w w' := by
  refine (measure30 h.ok h.bl h.br).mono ?_
  rintro e w' ⟨rfl, hb, hk⟩
  have hn := h.nd
  simp only [Tr.blocks, List.nodup_cons, List.mem_append, not_or] at hn
  exact ⟨rfl, ⟨TrAt.write hk hb h.ok.2.1 h.ok.2.2 hn.1.1 hn.1.2, h.nd, h.hl, h.hr, h.few⟩, hk⟩

/-- Turned left: the two cells written. -/
theorem rotl {b c : Nat} {l m r : Tr} {k q : List UInt8} {v u : Int} {x y : Nat} {w : World} (h : TrAt nl (.node b l k v x (.node c m q u y r)) w) (hn : (Tr.node b l k v x (.node c m q u y r)).blocks.Nodup) (hl : Hk l) (hm : Hk m) (hr : Hk r) (few : l.toL.length + m.toL.length + r.toL.length < 100000) :
    Nd b l m k v x ((w.setCell ⟨b, 3, none⟩ m.ptr).setCell ⟨c, 2, none⟩ (.pointer (some ⟨b, 0, none⟩))) ∧ Kept (fun i => i = b ∨ i = c) w ((w.setCell ⟨b, 3, none⟩ m.ptr).setCell ⟨c, 2, none⟩ (.pointer (some ⟨b, 0, none⟩))) ∧ (∀ W', Nd b l m k v (1 + max l.hn m.hn) W' → Kept (fun i => i = b) ((w.setCell ⟨b, 3, none⟩ m.ptr).setCell ⟨c, 2, none⟩ (.pointer (some ⟨b, 0, none⟩))) W' → Nd c (.node b l k v (1 + max l.hn m.hn) m) r q u y W') := by
  have hn0 := hn
  obtain ⟨h1, h2, h3, h4, h5⟩ := h
  simp only [Tr.blocks, List.nodup_cons, List.mem_append, List.mem_cons, not_or, List.nodup_append] at hn
  obtain ⟨⟨nbl, nbc, nbm, nbr⟩, n1, ⟨⟨ncm, ncr⟩, n2, n3, n4⟩, n5⟩ := hn
  have ncl : c ∉ l.blocks := fun hc => n5 c hc c (.inl rfl) rfl
  have k1 := set_kept' w b 3 m.ptr
  have k2 := set_kept' (w.setCell ⟨b, 3, none⟩ m.ptr) c 2 (.pointer (some ⟨b, 0, none⟩))
  have kk : Kept (fun i => i = b ∨ i = c) w ((w.setCell ⟨b, 3, none⟩ m.ptr).setCell ⟨c, 2, none⟩ (.pointer (some ⟨b, 0, none⟩))) := by
    refine ⟨k2.os.trans k1.os, k2.tape.trans k1.tape, k2.output.trans k1.output, Nat.le_trans k1.size k2.size, fun i hi hF => ?_⟩
    rw [k2.block i (Nat.lt_of_lt_of_le hi k1.size) (fun e => hF (.inr e)), k1.block i hi (fun e => hF (.inl e))]
  have eb : ((w.setCell ⟨b, 3, none⟩ m.ptr).setCell ⟨c, 2, none⟩ (.pointer (some ⟨b, 0, none⟩))).heap[b]? = some (.cells (nl.cells k v x l.ptr m.ptr) nl.ty (0, 0)) := by
    rw [k2.block b (Nat.lt_of_lt_of_le (Array.getElem?_eq_some_iff.1 h1).1 k1.size) nbc]
    exact block_set _ h1
  have ec : ((w.setCell ⟨b, 3, none⟩ m.ptr).setCell ⟨c, 2, none⟩ (.pointer (some ⟨b, 0, none⟩))).heap[c]? = some (.cells (nl.cells q u y (.pointer (some ⟨b, 0, none⟩)) r.ptr) nl.ty (0, 0)) := by
    refine block_set _ (?_ : _ = some (Obj.cells (nl.cells q u y m.ptr r.ptr) nl.ty (0, 0)))
    rw [k1.block c (Array.getElem?_eq_some_iff.1 h3).1 (fun e => nbc e.symm)]
    exact h3
  have tl : TrAt nl l ((w.setCell ⟨b, 3, none⟩ m.ptr).setCell ⟨c, 2, none⟩ (.pointer (some ⟨b, 0, none⟩))) := TrAt.kept kk h2 (fun i hi e => by rcases e with rfl | rfl; exact nbl hi; exact ncl hi)
  have tm : TrAt nl m ((w.setCell ⟨b, 3, none⟩ m.ptr).setCell ⟨c, 2, none⟩ (.pointer (some ⟨b, 0, none⟩))) := TrAt.kept kk h4 (fun i hi e => by rcases e with rfl | rfl; exact nbm hi; exact ncm hi)
  have tr : TrAt nl r ((w.setCell ⟨b, 3, none⟩ m.ptr).setCell ⟨c, 2, none⟩ (.pointer (some ⟨b, 0, none⟩))) := TrAt.kept kk h5 (fun i hi e => by rcases e with rfl | rfl; exact nbr hi; exact ncr hi)
  have hp : (c :: ((b :: (l.blocks ++ m.blocks)) ++ r.blocks)).Nodup := by
    refine (List.Perm.nodup_iff ?_).1 hn0
    rw [List.perm_iff_count]
    intro a
    simp only [Tr.blocks, List.count_cons, List.count_append]
    omega
  refine ⟨⟨⟨eb, tl, tm⟩, ?_, hl, hm, by omega⟩, kk, fun W' hN hk => ⟨⟨?_, hN.ok, TrAt.kept hk tr (fun i hi e => nbr (e ▸ hi))⟩, hp, ⟨rfl, hl, hm⟩, hr, ?_⟩⟩
  · simp only [Tr.blocks, List.nodup_cons, List.mem_append, not_or, List.nodup_append]
    exact ⟨⟨nbl, nbm⟩, n1, n2, fun i hi j hj => n5 i hi j (.inr (.inl hj))⟩
  · rw [hk.block c (Array.getElem?_eq_some_iff.1 ec).1 (fun e => nbc e.symm)]
    exact ec
  · simp only [Tr.toL, List.length_append, List.length_cons]
    omega

set_option maxHeartbeats 1600000 in
theorem left28 {b c : Nat} {l m r : Tr} {k q : List UInt8} {v u : Int} {x y : Nat} {w : World} (h : TrAt nl (.node b l k v x (.node c m q u y r)) w) (hn : (Tr.node b l k v x (.node c m q u y r)).blocks.Nodup) (hl : Hk l) (hm : Hk m) (hr : Hk r) (few : l.toL.length + m.toL.length + r.toL.length < 100000) :
    Calls Try.prog 28 #[.pointer (some ⟨b, 0, none⟩)] w fun e w' => ∃ x' y', e = .returned (.pointer (some ⟨c, 0, none⟩)) ∧ TrAt nl (.node c (.node b l k v x' m) q u y' r) w' ∧ Hk (.node c (.node b l k v x' m) q u y' r) ∧ Kept (fun i => i = b ∨ i = c) w w' := by
  obtain ⟨-, -, -, b3', -⟩ := nd_cells h.1
  have b3 : w.cell? ⟨b, 3, none⟩ = some (.pointer (some ⟨c, 0, none⟩)) := b3'
  obtain ⟨-, -, c2, -, -⟩ := nd_cells h.2.2.1
  have fb := block_frozen h.1 3
  have fc := block_frozen h.2.2.1 2
  have H : Hid _ := rotl h hn hl hm hr few
  have hbc : b ≠ c := by
    intro e
    subst e
    simp [Tr.blocks] at hn
  have HL : Hid (Hk l ∧ Hk m ∧ Hk r) := ⟨hl, hm, hr⟩
  clear h hn few hl hm hr b3'
  obtain ⟨mo, hmo⟩ := m.is_ptr
  rw [hmo] at c2 H
  clear hmo
  go_enter Try.func28, Try.ntmps28
  go_wp2_with fail
  refine H.out.1.measure.mono ?_
  rintro e w1 ⟨rfl, h1, k1⟩
  have H2 : Hid _ := H.out.2.2 w1 h1 k1
  have K1 : Hid (Kept (fun i => i = b ∨ i = c) w w1) := H.out.2.1.trans k1 (fun i e => .inl (.inl e))
  clear h1 k1 H b3 c2 fb fc
  go_wp2_with fail
  refine H2.out.measure.mono ?_
  rintro e w2 ⟨rfl, h2, k2⟩
  have H3 : Hid _ := h2
  have K2 : Hid (Kept (fun i => i = b ∨ i = c) w w2) := K1.out.trans k2 (fun i e => .inl (.inr e))
  clear h2 k2 H2 K1
  go_wp2_with fail
  go_ret
  exact ⟨_, _, rfl, H3.out.ok, ⟨rfl, H3.out.hl, H3.out.hr⟩, K2.out⟩

/-- Turned right: the two cells written. -/
theorem rotr {b c : Nat} {l m r : Tr} {k q : List UInt8} {v u : Int} {x y : Nat} {w : World} (h : TrAt nl (.node b (.node c l q u y m) k v x r) w) (hn : (Tr.node b (.node c l q u y m) k v x r).blocks.Nodup) (hl : Hk l) (hm : Hk m) (hr : Hk r) (few : l.toL.length + m.toL.length + r.toL.length < 100000) :
    Nd b m r k v x ((w.setCell ⟨b, 2, none⟩ m.ptr).setCell ⟨c, 3, none⟩ (.pointer (some ⟨b, 0, none⟩))) ∧ Kept (fun i => i = b ∨ i = c) w ((w.setCell ⟨b, 2, none⟩ m.ptr).setCell ⟨c, 3, none⟩ (.pointer (some ⟨b, 0, none⟩))) ∧ (∀ W', Nd b m r k v (1 + max m.hn r.hn) W' → Kept (fun i => i = b) ((w.setCell ⟨b, 2, none⟩ m.ptr).setCell ⟨c, 3, none⟩ (.pointer (some ⟨b, 0, none⟩))) W' → Nd c l (.node b m k v (1 + max m.hn r.hn) r) q u y W') := by
  have hn0 := hn
  obtain ⟨h1, ⟨h3, h2, h4⟩, h5⟩ := h
  simp only [Tr.blocks, List.cons_append, List.nodup_cons, List.mem_append, List.mem_cons, not_or, List.nodup_append] at hn
  obtain ⟨⟨nbc, ⟨nbl, nbm⟩, nbr⟩, ⟨⟨ncl, ncm⟩, ncr⟩, ⟨n1, n2, n4⟩, n3, n5⟩ := hn
  have k1 := set_kept' w b 2 m.ptr
  have k2 := set_kept' (w.setCell ⟨b, 2, none⟩ m.ptr) c 3 (.pointer (some ⟨b, 0, none⟩))
  have kk : Kept (fun i => i = b ∨ i = c) w ((w.setCell ⟨b, 2, none⟩ m.ptr).setCell ⟨c, 3, none⟩ (.pointer (some ⟨b, 0, none⟩))) := by
    refine ⟨k2.os.trans k1.os, k2.tape.trans k1.tape, k2.output.trans k1.output, Nat.le_trans k1.size k2.size, fun i hi hF => ?_⟩
    rw [k2.block i (Nat.lt_of_lt_of_le hi k1.size) (fun e => hF (.inr e)), k1.block i hi (fun e => hF (.inl e))]
  have eb : ((w.setCell ⟨b, 2, none⟩ m.ptr).setCell ⟨c, 3, none⟩ (.pointer (some ⟨b, 0, none⟩))).heap[b]? = some (.cells (nl.cells k v x m.ptr r.ptr) nl.ty (0, 0)) := by
    rw [k2.block b (Nat.lt_of_lt_of_le (Array.getElem?_eq_some_iff.1 h1).1 k1.size) nbc]
    exact block_set _ h1
  have ec : ((w.setCell ⟨b, 2, none⟩ m.ptr).setCell ⟨c, 3, none⟩ (.pointer (some ⟨b, 0, none⟩))).heap[c]? = some (.cells (nl.cells q u y l.ptr (.pointer (some ⟨b, 0, none⟩))) nl.ty (0, 0)) := by
    refine block_set _ (?_ : _ = some (Obj.cells (nl.cells q u y l.ptr m.ptr) nl.ty (0, 0)))
    rw [k1.block c (Array.getElem?_eq_some_iff.1 h3).1 (fun e => nbc e.symm)]
    exact h3
  have tl : TrAt nl l ((w.setCell ⟨b, 2, none⟩ m.ptr).setCell ⟨c, 3, none⟩ (.pointer (some ⟨b, 0, none⟩))) := TrAt.kept kk h2 (fun i hi e => by rcases e with rfl | rfl; exact nbl hi; exact ncl hi)
  have tm : TrAt nl m ((w.setCell ⟨b, 2, none⟩ m.ptr).setCell ⟨c, 3, none⟩ (.pointer (some ⟨b, 0, none⟩))) := TrAt.kept kk h4 (fun i hi e => by rcases e with rfl | rfl; exact nbm hi; exact ncm hi)
  have tr : TrAt nl r ((w.setCell ⟨b, 2, none⟩ m.ptr).setCell ⟨c, 3, none⟩ (.pointer (some ⟨b, 0, none⟩))) := TrAt.kept kk h5 (fun i hi e => by rcases e with rfl | rfl; exact nbr hi; exact ncr hi)
  have hp : (c :: (l.blocks ++ (b :: (m.blocks ++ r.blocks)))).Nodup := by
    refine (List.Perm.nodup_iff ?_).1 hn0
    rw [List.perm_iff_count]
    intro a
    simp only [Tr.blocks, List.count_cons, List.count_append]
    omega
  refine ⟨⟨⟨eb, tm, tr⟩, ?_, hm, hr, by omega⟩, kk, fun W' hN hk => ⟨⟨?_, TrAt.kept hk tl (fun i hi e => nbl (e ▸ hi)), hN.ok⟩, hp, hl, ⟨rfl, hm, hr⟩, ?_⟩⟩
  · simp only [Tr.blocks, List.nodup_cons, List.mem_append, not_or, List.nodup_append]
    exact ⟨⟨nbm, nbr⟩, n2, n3, fun i hi j hj => n5 i (.inr hi) j hj⟩
  · rw [hk.block c (Array.getElem?_eq_some_iff.1 ec).1 (fun e => nbc e.symm)]
    exact ec
  · simp only [Tr.toL, List.length_append, List.length_cons]
    omega

set_option maxHeartbeats 1600000 in
theorem right29 {b c : Nat} {l m r : Tr} {k q : List UInt8} {v u : Int} {x y : Nat} {w : World} (h : TrAt nl (.node b (.node c l q u y m) k v x r) w) (hn : (Tr.node b (.node c l q u y m) k v x r).blocks.Nodup) (hl : Hk l) (hm : Hk m) (hr : Hk r) (few : l.toL.length + m.toL.length + r.toL.length < 100000) :
    Calls Try.prog 29 #[.pointer (some ⟨b, 0, none⟩)] w fun e w' => ∃ x' y', e = .returned (.pointer (some ⟨c, 0, none⟩)) ∧ TrAt nl (.node c l q u y' (.node b m k v x' r)) w' ∧ Hk (.node c l q u y' (.node b m k v x' r)) ∧ Kept (fun i => i = b ∨ i = c) w w' := by
  obtain ⟨-, -, b3', -, -⟩ := nd_cells h.1
  have b3 : w.cell? ⟨b, 2, none⟩ = some (.pointer (some ⟨c, 0, none⟩)) := b3'
  obtain ⟨-, -, -, c2, -⟩ := nd_cells h.2.1.1
  have fb := block_frozen h.1 2
  have fc := block_frozen h.2.1.1 3
  have H : Hid _ := rotr h hn hl hm hr few
  have hbc : b ≠ c := by
    intro e
    subst e
    simp [Tr.blocks] at hn
  have HL : Hid (Hk l ∧ Hk m ∧ Hk r) := ⟨hl, hm, hr⟩
  clear h hn few hl hm hr b3'
  obtain ⟨mo, hmo⟩ := m.is_ptr
  rw [hmo] at c2 H
  clear hmo
  go_enter Try.func29, Try.ntmps29
  go_wp2_with fail
  refine H.out.1.measure.mono ?_
  rintro e w1 ⟨rfl, h1, k1⟩
  have H2 : Hid _ := H.out.2.2 w1 h1 k1
  have K1 : Hid (Kept (fun i => i = b ∨ i = c) w w1) := H.out.2.1.trans k1 (fun i e => .inl (.inl e))
  clear h1 k1 H b3 c2 fb fc
  go_wp2_with fail
  refine H2.out.measure.mono ?_
  rintro e w2 ⟨rfl, h2, k2⟩
  have H3 : Hid _ := h2
  have K2 : Hid (Kept (fun i => i = b ∨ i = c) w w2) := K1.out.trans k2 (fun i e => .inl (.inr e))
  clear h2 k2 H2 K1
  go_wp2_with fail
  go_ret
  exact ⟨_, _, rfl, H3.out.ok, ⟨rfl, H3.out.hl, H3.out.hr⟩, K2.out⟩

end Go.Proofs.Ytogkgibneddngaa
