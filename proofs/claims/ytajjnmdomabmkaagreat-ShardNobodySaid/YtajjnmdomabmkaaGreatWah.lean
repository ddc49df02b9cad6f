import Derived.Test.YtajjnmdomabmkaaGreatWag
set_option maxHeartbeats 4000000
set_option maxRecDepth 100000
set_option linter.unusedVariables false
namespace Go.Proofs.YtajjnmdomabmkaaGreat.Sto
open Go.RowKit
def Tr.hn : Tr → Nat
 | Go.Deep.BT.nil => 0
 | Go.Deep.BT.node _ x _ _ _ => x
def Tr.hi : Tr → Int
 | Go.Deep.BT.nil => 0
 | Go.Deep.BT.node _ x _ _ _ => (x : Int)
theorem Tr.hi_hn (t : Tr) : t.hi = t.hn := by
 cases t using Tr.cas with
 | nil => rfl
 | node b l k v x r => rfl
theorem max_hn (l r : Tr) : ((1 + max l.hn r.hn : Nat) : Int) = 1 + max l.hi r.hi := by
 rw [l.hi_hn, r.hi_hn]
 omega
def Hk : Tr → Prop
 | Go.Deep.BT.nil => True
 | Go.Deep.BT.node _ x _ l r => x = 1 + max (Tr.hn l) (Tr.hn r) ∧ Hk l ∧ Hk r
theorem Hk.bounds {t : Tr} : Hk t → 0 ≤ t.hi ∧ t.hi ≤ t.toL.length := by
 induction t using Tr.ind with
 | nil => intro _; simp [Tr.hi, Tr.toL]
 | node b l k v x r ihl ihr =>
  intro h
  obtain ⟨h1, h2, h3⟩ := h
  have i2 := ihl h2
  have i3 := ihr h3
  rw [l.hi_hn] at i2
  rw [r.hi_hn] at i3
  simp only [Tr.hi, Tr.toL, List.length_append, List.length_cons]
  omega
theorem Hk.node {t : Tr} (h0 : 0 < t.hi) : ∃ b l k v x r, t = .node b l k v x r := by
 cases t using Tr.cas with
 | nil => simp [Tr.hi] at h0
 | node b l k v x r => exact ⟨b, l, k, v, x, r, rfl⟩
def nl : Lay := ⟨337, fun k v x l r => #[.string (bs k), .slice v.1 v.2.1 v.2.2, l, r, .int .i64 (x : Int)]⟩
def findT (k : List UInt8) : Tr → Option Nat
 | Go.Deep.BT.nil => none
 | Go.Deep.BT.node b _ (q, _) l r => if ltK k q then findT k l else if ltK q k then findT k r else some b
def putT (k : List UInt8) (v : Sv) : Tr → Tr
 | Go.Deep.BT.nil => .nil
 | Go.Deep.BT.node b x (q, u) l r => if ltK k q then .node b (putT k v l) q u x r else if ltK q k then .node b l q u x (putT k v r) else .node b l q v x r
theorem find_node (k : List UInt8) (b : Nat) (l : Tr) (q : List UInt8) (u : Sv) (x : Nat) (r : Tr) : findT k (.node b l q u x r) = if ltK k q then findT k l else if ltK q k then findT k r else some b := rfl
theorem put_node (k : List UInt8) (v : Sv) (b : Nat) (l : Tr) (q : List UInt8) (u : Sv) (x : Nat) (r : Tr) : putT k v (.node b l q u x r) = if ltK k q then .node b (putT k v l) q u x r else if ltK q k then .node b l q u x (putT k v r) else .node b l q v x r := rfl
theorem find_in {k : List UInt8} {t : Tr} : ∀ {b : Nat}, findT k t = some b → b ∈ t.blocks := by
 induction t using Tr.ind with
 | nil => intro b h; cases h
 | node c l q u x r ihl ihr =>
  intro b h
  rw [find_node] at h
  simp only [Tr.blocks, List.mem_cons, List.mem_append]
  split at h
  ·exact .inr (.inl (ihl h))
  ·split at h
   ·exact .inr (.inr (ihr h))
   ·injection h with h; exact .inl h.symm
theorem find_get {k : List UInt8} {t : Tr} : Srt t.toL → (findT k t).isSome = (getF k t.toL).isSome := by
 induction t using Tr.ind with
 | nil => intro _; rfl
 | node c l q u x r ihl ihr =>
  intro h
  obtain ⟨h1, h2, _, _⟩ := srt_parts h
  rw [find_node]
  simp only [Tr.toL]
  rw [get_parts h]
  split
  ·exact ihl h1
  ·split
   ·exact ihr h2
   ·rfl
theorem find_at {w : World} {k : List UInt8} {t : Tr} : ∀ {b : Nat}, Srt t.toL → TrAt nl t w → findT k t = some b → ∃ q v x l r, w.heap[b]? = some (.cells (nl.cells q v x l r) nl.ty (0, 0)) ∧ getF k t.toL = some v := by
 induction t using Tr.ind with
 | nil => intro b _ _ h; cases h
 | node c l q u x r ihl ihr =>
  intro b hs ha h
  obtain ⟨h1, h2, _, _⟩ := srt_parts hs
  obtain ⟨a1, a2, a3⟩ := ha
  rw [find_node] at h
  simp only [Tr.toL]
  rw [get_parts hs]
  split at h
  ·rename_i e; rw [if_pos e]; exact ihl h1 a2 h
  ·rename_i e
   rw [if_neg e]
   split at h
   ·rename_i e2; rw [if_pos e2]; exact ihr h2 a3 h
   ·rename_i e2
    rw [if_neg e2]
    injection h with h
    subst h
    exact ⟨q, u, x, _, _, a1, rfl⟩
theorem put_ptr (k : List UInt8) (v : Sv) (t : Tr) : (putT k v t).ptr = t.ptr := by
 cases t using Tr.cas with
 | nil => rfl
 | node b l q u x r => rw [put_node]; split; rfl; split <;> rfl
theorem put_hn (k : List UInt8) (v : Sv) (t : Tr) : (putT k v t).hn = t.hn := by
 cases t using Tr.cas with
 | nil => rfl
 | node b l q u x r => rw [put_node]; split; rfl; split <;> rfl
theorem put_blocks (k : List UInt8) (v : Sv) (t : Tr) : (putT k v t).blocks = t.blocks := by
 induction t using Tr.ind with
 | nil => rfl
 | node b l q u x r ihl ihr =>
  rw [put_node]
  split
  ·simp only [Tr.blocks, ihl]
  ·split
   ·simp only [Tr.blocks, ihr]
   ·rfl
theorem put_hk (k : List UInt8) (v : Sv) {t : Tr} : Hk t → Hk (putT k v t) := by
 induction t using Tr.ind with
 | nil => exact fun _ => trivial
 | node b l q u x r ihl ihr =>
  intro h
  obtain ⟨h1, h2, h3⟩ := h
  rw [put_node]
  split
  ·exact ⟨by rw [put_hn]; exact h1, ihl h2, h3⟩
  ·split
   ·exact ⟨by rw [put_hn]; exact h1, h2, ihr h3⟩
   ·exact ⟨h1, h2, h3⟩
theorem put_toL {k : List UInt8} {v : Sv} {t : Tr} : Srt t.toL → (findT k t).isSome = true → (putT k v t).toL = setF k v t.toL := by
 induction t using Tr.ind with
 | nil => intro _ h; cases h
 | node b l q u x r ihl ihr =>
  intro hs h
  obtain ⟨h1, h2, _, _⟩ := srt_parts hs
  rw [find_node] at h
  rw [put_node]
  simp only [Tr.toL]
  rw [set_parts hs]
  split
  ·rename_i e; rw [if_pos e] at h; simp only [Tr.toL]; rw [ihl h1 h]
  ·rename_i e
   rw [if_neg e] at h
   split
   ·rename_i e2; rw [if_pos e2] at h; simp only [Tr.toL]; rw [ihr h2 h]
   ·rename_i e2
    have : q = k := ltK_tri (by simpa using e2) (by simpa using e)
    subst this
    rfl
theorem put_at {w : World} {k : List UInt8} {v : Sv} {t : Tr} : ∀ {b : Nat}, TrAt nl t w → t.blocks.Nodup → findT k t = some b → TrAt nl (putT k v t) (w.setCell ⟨b, 1, none⟩ (.slice v.1 v.2.1 v.2.2)) := by
 induction t using Tr.ind with
 | nil => intro b _ _ h; cases h
 | node c l q u x r ihl ihr =>
  intro b ha hn h
  obtain ⟨a1, a2, a3⟩ := ha
  simp only [Tr.blocks, List.nodup_cons, List.mem_append, not_or, List.nodup_append] at hn
  obtain ⟨⟨n1, n2⟩, n3, n4, n5⟩ := hn
  have hk := set_kept' w b 1 (.slice v.1 v.2.1 v.2.2)
  rw [find_node] at h
  rw [put_node]
  split
  ·rename_i e
   rw [if_pos e] at h
   have hb := find_in h
   refine ⟨?_, ihl a2 n3 h, TrAt.kept hk a3 (fun i hi e => n5 b hb i hi e.symm)⟩
   rw [put_ptr, hk.block c (Array.getElem?_eq_some_iff.1 a1).1 (fun e => n1 (e ▸ hb))]
   exact a1
  ·rename_i e
   rw [if_neg e] at h
   split
   ·rename_i e2
    rw [if_pos e2] at h
    have hb := find_in h
    refine ⟨?_, TrAt.kept hk a2 (fun i hi e => n5 i hi b hb e), ihr a3 n4 h⟩
    rw [put_ptr, hk.block c (Array.getElem?_eq_some_iff.1 a1).1 (fun e => n2 (e ▸ hb))]
    exact a1
   ·rename_i e2
    rw [if_neg e2] at h
    injection h with h
    subst h
    exact ⟨block_set _ a1, TrAt.kept hk a2 (fun i hi e => n1 (e ▸ hi)), TrAt.kept hk a3 (fun i hi e => n2 (e ▸ hi))⟩
end Go.Proofs.YtajjnmdomabmkaaGreat.Sto
namespace Go.Proofs.YtajjnmdomabmkaaGreat.Sto
open Go.RowKit
theorem nd_cells {w : World} {b : Nat} {k : List UInt8} {v : Sv} {x : Nat} {l r : Value} (h : w.heap[b]? = some (.cells (nl.cells k v x l r) nl.ty (0, 0))) :
  w.cell? ⟨b, 0, none⟩ = some (.string (bs k)) ∧ w.cell? ⟨b, 1, none⟩ = some (.slice v.1 v.2.1 v.2.2) ∧ w.cell? ⟨b, 2, none⟩ = some l ∧ w.cell? ⟨b, 3, none⟩ = some r ∧ w.cell? ⟨b, 4, none⟩ = some (.int .i64 (x : Int)) :=
 ⟨block_cell h rfl, block_cell h rfl, block_cell h rfl, block_cell h rfl, block_cell h rfl⟩
structure Sw (w W : World) : Prop where
 heap : W.heap = w.heap
 os : W.os = w.os
 tape : W.tape = w.tape
 output : W.output = w.output
theorem Sw.refl (w : World) : Sw w w := ⟨rfl, rfl, rfl, rfl⟩
theorem Sw.drew {w W : World} (h : Sw w W) : Sw w W.drew := ⟨h.heap, h.os, h.tape, h.output⟩
theorem Sw.drewN {w W : World} (h : Sw w W) (n : Nat) : Sw w (W.drewN n) := ⟨h.heap, h.os, h.tape, h.output⟩
theorem Sw.below {w W : World} (h : Sw w W) (B : Nat) : Below B w W := ⟨h.os, h.tape, h.output, by rw [h.heap]; exact Nat.le_refl _, fun k _ => by rw [h.heap]⟩
theorem TrAt.sw {Y : Lay} {t : Tr} {w W : World} (h : TrAt Y t w) (s : Sw w W) : TrAt Y t W := h.on (s.below _)
theorem high27 (t : Tr) (w : World) (h : TrAt nl t w) : Calls Tryz.prog 337 #[t.ptr] w fun e w' => e = .returned (.int .i64 t.hi) ∧ w' = w := by
 cases t using Tr.cas with
 | nil =>
  simp only [Tr.ptr, Tr.hi]
  go_enter Tryz.func337, Tryz.ntmps337
  go_wp2_with fail
  go_ret
  exact ⟨rfl, rfl⟩
 | node b l k v x r =>
  obtain ⟨-, -, -, -, c4⟩ := nd_cells h.1
  simp only [Tr.ptr, Tr.hi]
  clear h
  generalize (x : Int) = xi at *
  go_enter Tryz.func337, Tryz.ntmps337
  go_wp2_with fail
  go_ret
  exact ⟨rfl, rfl⟩
theorem measure30 {b : Nat} {l r : Tr} {k : List UInt8} {v : Sv} {x : Nat} {w : World} (h : TrAt nl (.node b l k v x r) w) (hl : 0 ≤ l.hi ∧ l.hi ≤ 1000000) (hr : 0 ≤ r.hi ∧ r.hi ≤ 1000000) :
  Calls Tryz.prog 340 #[.pointer (some ⟨b, 0, none⟩)] w fun e w' => e = .returned (.tuple #[]) ∧ w'.heap[b]? = some (.cells (nl.cells k v (1 + max l.hn r.hn) l.ptr r.ptr) nl.ty (0, 0)) ∧ Kept (fun i => i = b) w w' := by
 have H : Hid (w.heap[b]? = some (.cells #[.string (bs k), .slice v.1 v.2.1 v.2.2, l.ptr, r.ptr, .int .i64 (x : Int)] nl.ty (0, 0))) := h.1
 obtain ⟨-, -, c2, c3, c4⟩ := nd_cells h.1
 have f4 := block_frozen h.1 4
 have CL : Hid (∀ W, Sw w W → Calls Tryz.prog 337 #[l.ptr] W fun e w' => e = .returned (.int .i64 l.hi) ∧ w' = W) := fun W hs => high27 l W (h.2.1.sw hs)
 have CR : Hid (∀ W, Sw w W → Calls Tryz.prog 337 #[r.ptr] W fun e w' => e = .returned (.int .i64 r.hi) ∧ w' = W) := fun W hs => high27 r W (h.2.2.sw hs)
 have HH : Hid (((1 + max l.hn r.hn : Nat) : Int) = 1 + max l.hi r.hi) := max_hn l r
 clear h
 generalize 1 + max l.hn r.hn = hh at *
 generalize l.ptr = lp at *
 generalize r.ptr = rp at *
 generalize l.hi = a at *
 generalize r.hi = c at *
 generalize (x : Int) = xi at *
 obtain ⟨m, hm⟩ : ∃ m, (if a < c then c else a) = m := ⟨_, rfl⟩
 have HM : Hid (1 + max a c = 1 + m) := by show _ = _; rw [← hm]; split <;> omega
 have hmb : 0 ≤ m ∧ m ≤ 1000000 := by rw [← hm]; split <;> omega
 obtain ⟨hm0, hm1⟩ := hmb
 have HW : Hid (IntKind.i64.wrap (1 + m) = 1 + m) := by show _ = _; simp [IntKind.wrap, IntKind.bits, IntKind.signed]; omega
 clear hl hr hm0 hm1
 go_enter Tryz.func340, Tryz.ntmps340
 go_wp2_with fail
 go_region_held3 (fun W => W.cell? ⟨b, 2, none⟩ = some lp ∧ W.cell? ⟨b, 3, none⟩ = some rp ∧ W.frozen? ⟨b, 4, none⟩ = false)
  (first | exact ⟨c2, c3, f4⟩ | exact ⟨block_cell (block_set _ H.out) rfl, block_cell (block_set _ H.out) rfl, block_frozen (block_set _ H.out) _⟩)
  (first
  | (go_at_call_of 337 (lp); refine (CL.out _ (Sw.drew (Sw.refl _))).mono ?_; rintro e W1 ⟨rfl, rfl⟩)
  | (go_at_call_of 337 (rp); refine (CR.out _ (Sw.drew (Sw.refl _))).mono ?_; rintro e W1 ⟨rfl, rfl⟩))
 rw [HW.out]
 refine bodyPost_end (results_none Tryz.results340 _ _ _) rfl ?_
 exact ⟨rfl, by show _ = some (Obj.cells #[.string (bs k), .slice v.1 v.2.1 v.2.2, lp, rp, .int .i64 (hh : Int)] nl.ty (0, 0)); rw [HH.out, HM.out]; exact block_set _ H.out, (set_kept' w b 4 _).drew⟩
def Tr.size : Tr → Nat
 | Go.Deep.BT.nil => 0
 | Go.Deep.BT.node _ _ _ l r => Tr.size l + Tr.size r + 1
theorem trAt_unique {w : World} {s : Tr} : ∀ {t : Tr}, TrAt nl s w → TrAt nl t w → s.ptr = t.ptr → s = t := by
 induction s using Tr.ind with
 | nil =>
  intro t _ _ h
  cases t using Tr.cas with
  | nil => rfl
  | node b l k v x r => simp [Tr.ptr] at h
 | node b l k v x r ihl ihr =>
  intro t ha hb h
  cases t using Tr.cas with
  | nil => simp [Tr.ptr] at h
  | node c m q u y s =>
   simp only [Tr.ptr, Value.pointer.injEq, Option.some.injEq, Addr.mk.injEq] at h
   obtain ⟨rfl, _⟩ := h
   obtain ⟨a1, a2, a3⟩ := ha
   obtain ⟨b1, b2, b3⟩ := hb
   rw [a1] at b1
   simp only [nl, Option.some.injEq, Obj.cells.injEq, Array.mk.injEq, List.cons.injEq, Value.string.injEq, Value.int.injEq, Value.slice.injEq] at b1
   obtain ⟨⟨e0, ⟨e7, e8, e9⟩, e2, e3, ⟨_, e4⟩, _⟩, _⟩ := b1
   have e1 : v = u := Prod.ext e7 (Prod.ext e8 e9)
   have e5 : k = q := by rw [← bs_data k, ← bs_data q, e0]
   have e6 : x = y := by omega
   rw [e5, e1, e6, ihl a2 b2 e2, ihr a3 b3 e3]
theorem szAt_ex : ∃ f : World → Value → Nat, ∀ {w : World} {s : Tr}, TrAt nl s w → f w s.ptr = s.size := by
 refine ⟨fun w n => @dite Nat (∃ s : Tr, TrAt nl s w ∧ s.ptr = n) (Classical.propDecidable _) (fun h => h.choose.size) (fun _ => 0), fun {w s} h => ?_⟩
 have hx : ∃ s' : Tr, TrAt nl s' w ∧ s'.ptr = s.ptr := ⟨s, h, rfl⟩
 show @dite Nat (∃ s' : Tr, TrAt nl s' w ∧ s'.ptr = s.ptr) (Classical.propDecidable _) (fun h => h.choose.size) (fun _ => 0) = s.size
 rw [dif_pos hx, trAt_unique hx.choose_spec.1 h hx.choose_spec.2]
end Go.Proofs.YtajjnmdomabmkaaGreat.Sto
namespace Go.Proofs.YtajjnmdomabmkaaGreat.Sto
open Go.RowKit
theorem Tr.is_ptr (t : Tr) : ∃ o, t.ptr = .pointer o := by
 cases t using Tr.cas with
 | nil => exact ⟨_, rfl⟩
 | node b l k v x r => exact ⟨_, rfl⟩
structure Nd (b : Nat) (l r : Tr) (k : List UInt8) (v : Sv) (x : Nat) (w : World) : Prop where
 ok : TrAt nl (.node b l k v x r) w
 nd : (Tr.node b l k v x r).blocks.Nodup
 hl : Hk l
 hr : Hk r
 few : l.toL.length + r.toL.length < 200000
theorem Nd.bl {b : Nat} {l r : Tr} {k : List UInt8} {v : Sv} {x : Nat} {w : World} (h : Nd b l r k v x w) : 0 ≤ l.hi ∧ l.hi ≤ 1000000 := by
 have := h.hl.bounds
 have := h.few
 omega
theorem Nd.br {b : Nat} {l r : Tr} {k : List UInt8} {v : Sv} {x : Nat} {w : World} (h : Nd b l r k v x w) : 0 ≤ r.hi ∧ r.hi ≤ 1000000 := by
 have := h.hr.bounds
 have := h.few
 omega
theorem Nd.measure {b : Nat} {l r : Tr} {k : List UInt8} {v : Sv} {x : Nat} {w : World} (h : Nd b l r k v x w) :
  Calls Tryz.prog 340 #[.pointer (some ⟨b, 0, none⟩)] w fun e w' => e = .returned (.tuple #[]) ∧ Nd b l r k v (1 + max l.hn r.hn) w' ∧ Kept (fun i => i = b) w w' := by
 refine (measure30 h.ok h.bl h.br).mono ?_
 rintro e w' ⟨rfl, hb, hk⟩
 have hn := h.nd
 simp only [Tr.blocks, List.nodup_cons, List.mem_append, not_or] at hn
 exact ⟨rfl, ⟨TrAt.write hk hb h.ok.2.1 h.ok.2.2 hn.1.1 hn.1.2, h.nd, h.hl, h.hr, h.few⟩, hk⟩
theorem rotl {b c : Nat} {l m r : Tr} {k q : List UInt8} {v u : Sv} {x y : Nat} {w : World} (h : TrAt nl (.node b l k v x (.node c m q u y r)) w) (hn : (Tr.node b l k v x (.node c m q u y r)).blocks.Nodup) (hl : Hk l) (hm : Hk m) (hr : Hk r) (few : l.toL.length + m.toL.length + r.toL.length < 100000) :
  Nd b l m k v x ((w.setCell ⟨b, 3, none⟩ m.ptr).setCell ⟨c, 2, none⟩ (.pointer (some ⟨b, 0, none⟩))) ∧ Kept (fun i => i = b ∨ i = c) w ((w.setCell ⟨b, 3, none⟩ m.ptr).setCell ⟨c, 2, none⟩ (.pointer (some ⟨b, 0, none⟩))) ∧ (∀ W', Nd b l m k v (1 + max l.hn m.hn) W' → Kept (fun i => i = b) ((w.setCell ⟨b, 3, none⟩ m.ptr).setCell ⟨c, 2, none⟩ (.pointer (some ⟨b, 0, none⟩))) W' → Nd c (.node b l k v (1 + max l.hn m.hn) m) r q u y W') := by
 have hn0 := hn
 obtain ⟨h1, h2, h3, h4, h5⟩ := h
 simp only [Tr.blocks, List.nodup_cons, List.mem_append, List.mem_cons, not_or, List.nodup_append] at hn
 obtain ⟨⟨nbl, nbc, nbm, nbr⟩, n1, ⟨⟨ncm, ncr⟩, n2, n3, n4⟩, n5⟩ := hn
 have ncl : c ∉ l.blocks := fun hc => n5 c hc c (.inl rfl) rfl
 have k1 := set_kept' w b 3 m.ptr
 have k2 := set_kept' (w.setCell ⟨b, 3, none⟩ m.ptr) c 2 (.pointer (some ⟨b, 0, none⟩))
 have kk : Kept (fun i => i = b ∨ i = c) w ((w.setCell ⟨b, 3, none⟩ m.ptr).setCell ⟨c, 2, none⟩ (.pointer (some ⟨b, 0, none⟩))) := by
  refine ⟨k2.os.trans k1.os, k2.tape.trans k1.tape, k2.output.trans k1.output, Nat.le_trans k1.size k2.size, fun i hi hF => ?_⟩
  rw [k2.block i (Nat.lt_of_lt_of_le hi k1.size) (fun e => hF (.inr e)), k1.block i hi (fun e => hF (.inl e))]
 have eb : ((w.setCell ⟨b, 3, none⟩ m.ptr).setCell ⟨c, 2, none⟩ (.pointer (some ⟨b, 0, none⟩))).heap[b]? = some (.cells (nl.cells k v x l.ptr m.ptr) nl.ty (0, 0)) := by
  rw [k2.block b (Nat.lt_of_lt_of_le (Array.getElem?_eq_some_iff.1 h1).1 k1.size) nbc]
  exact block_set _ h1
 have ec : ((w.setCell ⟨b, 3, none⟩ m.ptr).setCell ⟨c, 2, none⟩ (.pointer (some ⟨b, 0, none⟩))).heap[c]? = some (.cells (nl.cells q u y (.pointer (some ⟨b, 0, none⟩)) r.ptr) nl.ty (0, 0)) := by
  refine block_set _ (?_ : _ = some (Obj.cells (nl.cells q u y m.ptr r.ptr) nl.ty (0, 0)))
  rw [k1.block c (Array.getElem?_eq_some_iff.1 h3).1 (fun e => nbc e.symm)]
  exact h3
 have tl : TrAt nl l ((w.setCell ⟨b, 3, none⟩ m.ptr).setCell ⟨c, 2, none⟩ (.pointer (some ⟨b, 0, none⟩))) := TrAt.kept kk h2 (fun i hi e => by rcases e with rfl | rfl; exact nbl hi; exact ncl hi)
 have tm : TrAt nl m ((w.setCell ⟨b, 3, none⟩ m.ptr).setCell ⟨c, 2, none⟩ (.pointer (some ⟨b, 0, none⟩))) := TrAt.kept kk h4 (fun i hi e => by rcases e with rfl | rfl; exact nbm hi; exact ncm hi)
 have tr : TrAt nl r ((w.setCell ⟨b, 3, none⟩ m.ptr).setCell ⟨c, 2, none⟩ (.pointer (some ⟨b, 0, none⟩))) := TrAt.kept kk h5 (fun i hi e => by rcases e with rfl | rfl; exact nbr hi; exact ncr hi)
 have hp : (c :: ((b :: (l.blocks ++ m.blocks)) ++ r.blocks)).Nodup := by
  refine (List.Perm.nodup_iff ?_).1 hn0
  rw [List.perm_iff_count]
  intro a
  simp only [Tr.blocks, List.count_cons, List.count_append]
  omega
 refine ⟨⟨⟨eb, tl, tm⟩, ?_, hl, hm, by omega⟩, kk, fun W' hN hk => ⟨⟨?_, hN.ok, TrAt.kept hk tr (fun i hi e => nbr (e ▸ hi))⟩, hp, ⟨rfl, hl, hm⟩, hr, ?_⟩⟩
 ·simp only [Tr.blocks, List.nodup_cons, List.mem_append, not_or, List.nodup_append]
  exact ⟨⟨nbl, nbm⟩, n1, n2, fun i hi j hj => n5 i hi j (.inr (.inl hj))⟩
 ·rw [hk.block c (Array.getElem?_eq_some_iff.1 ec).1 (fun e => nbc e.symm)]
  exact ec
 ·simp only [Tr.toL, List.length_append, List.length_cons]
  omega
theorem left28 {b c : Nat} {l m r : Tr} {k q : List UInt8} {v u : Sv} {x y : Nat} {w : World} (h : TrAt nl (.node b l k v x (.node c m q u y r)) w) (hn : (Tr.node b l k v x (.node c m q u y r)).blocks.Nodup) (hl : Hk l) (hm : Hk m) (hr : Hk r) (few : l.toL.length + m.toL.length + r.toL.length < 100000) :
  Calls Tryz.prog 338 #[.pointer (some ⟨b, 0, none⟩)] w fun e w' => ∃ x' y', e = .returned (.pointer (some ⟨c, 0, none⟩)) ∧ TrAt nl (.node c (.node b l k v x' m) q u y' r) w' ∧ Hk (.node c (.node b l k v x' m) q u y' r) ∧ Kept (fun i => i = b ∨ i = c) w w' := by
 obtain ⟨-, -, -, b3', -⟩ := nd_cells h.1
 have b3 : w.cell? ⟨b, 3, none⟩ = some (.pointer (some ⟨c, 0, none⟩)) := b3'
 obtain ⟨-, -, c2, -, -⟩ := nd_cells h.2.2.1
 have fb := block_frozen h.1 3
 have fc := block_frozen h.2.2.1 2
 have H : Hid _ := rotl h hn hl hm hr few
 have hbc : b ≠ c := by
  intro e
  subst e
  simp [Tr.blocks] at hn
 have HL : Hid (Hk l ∧ Hk m ∧ Hk r) := ⟨hl, hm, hr⟩
 clear h hn few hl hm hr b3'
 obtain ⟨mo, hmo⟩ := m.is_ptr
 rw [hmo] at c2 H
 clear hmo
 go_enter Tryz.func338, Tryz.ntmps338
 go_wp2_with fail
 refine H.out.1.measure.mono ?_
 rintro e w1 ⟨rfl, h1, k1⟩
 have H2 : Hid _ := H.out.2.2 w1 h1 k1
 have K1 : Hid (Kept (fun i => i = b ∨ i = c) w w1) := H.out.2.1.trans k1 (fun i e => .inl (.inl e))
 clear h1 k1 H b3 c2 fb fc
 go_wp2_with fail
 refine H2.out.measure.mono ?_
 rintro e w2 ⟨rfl, h2, k2⟩
 have H3 : Hid _ := h2
 have K2 : Hid (Kept (fun i => i = b ∨ i = c) w w2) := K1.out.trans k2 (fun i e => .inl (.inr e))
 clear h2 k2 H2 K1
 go_wp2_with fail
 go_ret
 exact ⟨_, _, rfl, H3.out.ok, ⟨rfl, H3.out.hl, H3.out.hr⟩, K2.out⟩
theorem rotr {b c : Nat} {l m r : Tr} {k q : List UInt8} {v u : Sv} {x y : Nat} {w : World} (h : TrAt nl (.node b (.node c l q u y m) k v x r) w) (hn : (Tr.node b (.node c l q u y m) k v x r).blocks.Nodup) (hl : Hk l) (hm : Hk m) (hr : Hk r) (few : l.toL.length + m.toL.length + r.toL.length < 100000) :
  Nd b m r k v x ((w.setCell ⟨b, 2, none⟩ m.ptr).setCell ⟨c, 3, none⟩ (.pointer (some ⟨b, 0, none⟩))) ∧ Kept (fun i => i = b ∨ i = c) w ((w.setCell ⟨b, 2, none⟩ m.ptr).setCell ⟨c, 3, none⟩ (.pointer (some ⟨b, 0, none⟩))) ∧ (∀ W', Nd b m r k v (1 + max m.hn r.hn) W' → Kept (fun i => i = b) ((w.setCell ⟨b, 2, none⟩ m.ptr).setCell ⟨c, 3, none⟩ (.pointer (some ⟨b, 0, none⟩))) W' → Nd c l (.node b m k v (1 + max m.hn r.hn) r) q u y W') := by
 have hn0 := hn
 obtain ⟨h1, ⟨h3, h2, h4⟩, h5⟩ := h
 simp only [Tr.blocks, List.cons_append, List.nodup_cons, List.mem_append, List.mem_cons, not_or, List.nodup_append] at hn
 obtain ⟨⟨nbc, ⟨nbl, nbm⟩, nbr⟩, ⟨⟨ncl, ncm⟩, ncr⟩, ⟨n1, n2, n4⟩, n3, n5⟩ := hn
 have k1 := set_kept' w b 2 m.ptr
 have k2 := set_kept' (w.setCell ⟨b, 2, none⟩ m.ptr) c 3 (.pointer (some ⟨b, 0, none⟩))
 have kk : Kept (fun i => i = b ∨ i = c) w ((w.setCell ⟨b, 2, none⟩ m.ptr).setCell ⟨c, 3, none⟩ (.pointer (some ⟨b, 0, none⟩))) := by
  refine ⟨k2.os.trans k1.os, k2.tape.trans k1.tape, k2.output.trans k1.output, Nat.le_trans k1.size k2.size, fun i hi hF => ?_⟩
  rw [k2.block i (Nat.lt_of_lt_of_le hi k1.size) (fun e => hF (.inr e)), k1.block i hi (fun e => hF (.inl e))]
 have eb : ((w.setCell ⟨b, 2, none⟩ m.ptr).setCell ⟨c, 3, none⟩ (.pointer (some ⟨b, 0, none⟩))).heap[b]? = some (.cells (nl.cells k v x m.ptr r.ptr) nl.ty (0, 0)) := by
  rw [k2.block b (Nat.lt_of_lt_of_le (Array.getElem?_eq_some_iff.1 h1).1 k1.size) nbc]
  exact block_set _ h1
 have ec : ((w.setCell ⟨b, 2, none⟩ m.ptr).setCell ⟨c, 3, none⟩ (.pointer (some ⟨b, 0, none⟩))).heap[c]? = some (.cells (nl.cells q u y l.ptr (.pointer (some ⟨b, 0, none⟩))) nl.ty (0, 0)) := by
  refine block_set _ (?_ : _ = some (Obj.cells (nl.cells q u y l.ptr m.ptr) nl.ty (0, 0)))
  rw [k1.block c (Array.getElem?_eq_some_iff.1 h3).1 (fun e => nbc e.symm)]
  exact h3
 have tl : TrAt nl l ((w.setCell ⟨b, 2, none⟩ m.ptr).setCell ⟨c, 3, none⟩ (.pointer (some ⟨b, 0, none⟩))) := TrAt.kept kk h2 (fun i hi e => by rcases e with rfl | rfl; exact nbl hi; exact ncl hi)
 have tm : TrAt nl m ((w.setCell ⟨b, 2, none⟩ m.ptr).setCell ⟨c, 3, none⟩ (.pointer (some ⟨b, 0, none⟩))) := TrAt.kept kk h4 (fun i hi e => by rcases e with rfl | rfl; exact nbm hi; exact ncm hi)
 have tr : TrAt nl r ((w.setCell ⟨b, 2, none⟩ m.ptr).setCell ⟨c, 3, none⟩ (.pointer (some ⟨b, 0, none⟩))) := TrAt.kept kk h5 (fun i hi e => by rcases e with rfl | rfl; exact nbr hi; exact ncr hi)
 have hp : (c :: (l.blocks ++ (b :: (m.blocks ++ r.blocks)))).Nodup := by
  refine (List.Perm.nodup_iff ?_).1 hn0
  rw [List.perm_iff_count]
  intro a
  simp only [Tr.blocks, List.count_cons, List.count_append]
  omega
 refine ⟨⟨⟨eb, tm, tr⟩, ?_, hm, hr, by omega⟩, kk, fun W' hN hk => ⟨⟨?_, TrAt.kept hk tl (fun i hi e => nbl (e ▸ hi)), hN.ok⟩, hp, hl, ⟨rfl, hm, hr⟩, ?_⟩⟩
 ·simp only [Tr.blocks, List.nodup_cons, List.mem_append, not_or, List.nodup_append]
  exact ⟨⟨nbm, nbr⟩, n2, n3, fun i hi j hj => n5 i (.inr hi) j hj⟩
 ·rw [hk.block c (Array.getElem?_eq_some_iff.1 ec).1 (fun e => nbc e.symm)]
  exact ec
 ·simp only [Tr.toL, List.length_append, List.length_cons]
  omega
theorem right29 {b c : Nat} {l m r : Tr} {k q : List UInt8} {v u : Sv} {x y : Nat} {w : World} (h : TrAt nl (.node b (.node c l q u y m) k v x r) w) (hn : (Tr.node b (.node c l q u y m) k v x r).blocks.Nodup) (hl : Hk l) (hm : Hk m) (hr : Hk r) (few : l.toL.length + m.toL.length + r.toL.length < 100000) :
  Calls Tryz.prog 339 #[.pointer (some ⟨b, 0, none⟩)] w fun e w' => ∃ x' y', e = .returned (.pointer (some ⟨c, 0, none⟩)) ∧ TrAt nl (.node c l q u y' (.node b m k v x' r)) w' ∧ Hk (.node c l q u y' (.node b m k v x' r)) ∧ Kept (fun i => i = b ∨ i = c) w w' := by
 obtain ⟨-, -, b3', -, -⟩ := nd_cells h.1
 have b3 : w.cell? ⟨b, 2, none⟩ = some (.pointer (some ⟨c, 0, none⟩)) := b3'
 obtain ⟨-, -, -, c2, -⟩ := nd_cells h.2.1.1
 have fb := block_frozen h.1 2
 have fc := block_frozen h.2.1.1 3
 have H : Hid _ := rotr h hn hl hm hr few
 have hbc : b ≠ c := by
  intro e
  subst e
  simp [Tr.blocks] at hn
 have HL : Hid (Hk l ∧ Hk m ∧ Hk r) := ⟨hl, hm, hr⟩
 clear h hn few hl hm hr b3'
 obtain ⟨mo, hmo⟩ := m.is_ptr
 rw [hmo] at c2 H
 clear hmo
 go_enter Tryz.func339, Tryz.ntmps339
 go_wp2_with fail
 refine H.out.1.measure.mono ?_
 rintro e w1 ⟨rfl, h1, k1⟩
 have H2 : Hid _ := H.out.2.2 w1 h1 k1
 have K1 : Hid (Kept (fun i => i = b ∨ i = c) w w1) := H.out.2.1.trans k1 (fun i e => .inl (.inl e))
 clear h1 k1 H b3 c2 fb fc
 go_wp2_with fail
 refine H2.out.measure.mono ?_
 rintro e w2 ⟨rfl, h2, k2⟩
 have H3 : Hid _ := h2
 have K2 : Hid (Kept (fun i => i = b ∨ i = c) w w2) := K1.out.trans k2 (fun i e => .inl (.inr e))
 clear h2 k2 H2 K1
 go_wp2_with fail
 go_ret
 exact ⟨_, _, rfl, H3.out.ok, ⟨rfl, H3.out.hl, H3.out.hr⟩, K2.out⟩
end Go.Proofs.YtajjnmdomabmkaaGreat.Sto
namespace Go.Proofs.YtajjnmdomabmkaaGreat.Sto
open Go.RowKit
structure Tg (t : Tr) (L : Kv Sv) (w : World) (t' : Tr) (w' : World) : Prop where
 ok : TrAt nl t' w'
 hk : Hk t'
 nd : t'.blocks.Nodup
 el : t'.toL = L
 sub : ∀ i ∈ t'.blocks, i ∈ t.blocks ∨ w.heap.size ≤ i
 kept : Kept (fun i => i ∈ t.blocks) w w'
theorem perm_nodup {a b : List Nat} (h : a.Nodup) (p : ∀ i, a.count i = b.count i) : b.Nodup := (List.Perm.nodup_iff (List.perm_iff_count.2 p)).1 h
theorem count_mem {a b : List Nat} (p : ∀ i, a.count i = b.count i) {i : Nat} (h : i ∈ b) : i ∈ a := (List.Perm.mem_iff (List.perm_iff_count.2 p)).2 h
theorem Sw.kept {F : Nat → Prop} {w W w' : World} (s : Sw w W) (h : Kept F W w') : Kept F w w' := ⟨h.os.trans s.os, h.tape.trans s.tape, h.output.trans s.output, by have := h.size; rw [s.heap] at this; exact this, fun k hk hF => by rw [h.block k (by rw [s.heap]; exact hk) hF, s.heap]⟩
theorem Sw.tg {t t' : Tr} {L : Kv Sv} {w W w' : World} (s : Sw w W) (h : Tg t L W t' w') : Tg t L w t' w' := ⟨h.ok, h.hk, h.nd, h.el, fun i hi => by have := h.sub i hi; rw [s.heap] at this; exact this, s.kept h.kept⟩
theorem Nd.sw {b : Nat} {l r : Tr} {k : List UInt8} {v : Sv} {x : Nat} {w W : World} (h : Nd b l r k v x w) (s : Sw w W) : Nd b l r k v x W := ⟨h.ok.sw s, h.nd, h.hl, h.hr, h.few⟩
theorem Tg.after {t t1 t2 : Tr} {L : Kv Sv} {w W w2 : World} (hs : ∀ i ∈ t1.blocks, i ∈ t.blocks ∨ w.heap.size ≤ i) (hk : Kept (fun i => i ∈ t.blocks) w W) (g : Tg t1 L W t2 w2) : Tg t L w t2 w2 :=
 ⟨g.ok, g.hk, g.nd, g.el, fun i hi => by
  rcases g.sub i hi with h | h
  ·exact hs i h
  ·exact .inr (Nat.le_trans hk.size h), hk.trans g.kept hs⟩
theorem Tg.setl {b : Nat} {l r l' : Tr} {k : List UInt8} {v : Sv} {x : Nat} {L : Kv Sv} {w w1 : World} (h : TrAt nl (.node b l k v x r) w) (hn : (Tr.node b l k v x r).blocks.Nodup) (g : Tg l L w l' w1) :
  TrAt nl (.node b l' k v x r) (w1.setCell ⟨b, 2, none⟩ l'.ptr) ∧ (Tr.node b l' k v x r).blocks.Nodup ∧ (∀ i ∈ (Tr.node b l' k v x r).blocks, i ∈ (Tr.node b l k v x r).blocks ∨ w.heap.size ≤ i) ∧ Kept (fun i => i ∈ (Tr.node b l k v x r).blocks) w (w1.setCell ⟨b, 2, none⟩ l'.ptr) := by
 simp only [Tr.blocks, List.nodup_cons, List.mem_append, not_or, List.nodup_append] at hn
 obtain ⟨⟨nbl, nbr⟩, n1, n2, n3⟩ := hn
 have hb : b < w.heap.size := (Array.getElem?_eq_some_iff.1 h.1).1
 have hrlt := TrAt.lt h.2.2
 have h1 : w1.heap[b]? = some (.cells (nl.cells k v x l.ptr r.ptr) nl.ty (0, 0)) := by rw [g.kept.block b hb nbl]; exact h.1
 have tr : TrAt nl r w1 := TrAt.kept g.kept h.2.2 (fun i hi e => n3 i e i hi rfl)
 have ks := set_kept' w1 b 2 l'.ptr
 have nbl' : b ∉ l'.blocks := fun hi => by
  rcases g.sub b hi with e | e
  ·exact nbl e
  ·omega
 have dis : ∀ i ∈ l'.blocks, ∀ j ∈ r.blocks, i ≠ j := fun i hi j hj e => by
  subst e
  rcases g.sub i hi with e | e
  ·exact n3 i e i hj rfl
  ·have := hrlt i hj; omega
 refine ⟨⟨block_set _ h1, TrAt.kept ks g.ok (fun i hi e => nbl' (e ▸ hi)), TrAt.kept ks tr (fun i hi e => nbr (e ▸ hi))⟩, ?_, fun i hi => ?_, ?_⟩
 ·simp only [Tr.blocks, List.nodup_cons, List.mem_append, not_or, List.nodup_append]
  exact ⟨⟨nbl', nbr⟩, g.nd, n2, dis⟩
 ·simp only [Tr.blocks, List.mem_cons, List.mem_append] at hi ⊢
  rcases hi with e | e | e
  ·exact .inl (.inl e)
  ·rcases g.sub i e with e | e
   ·exact .inl (.inr (.inl e))
   ·exact .inr e
  ·exact .inl (.inr (.inr e))
 ·refine (g.kept.mono (fun i hi => ?_)).trans ks (fun i hi => .inl ?_)
  ·simp [Tr.blocks, hi]
  ·simp [Tr.blocks, hi]
theorem Tg.setr {b : Nat} {l r r' : Tr} {k : List UInt8} {v : Sv} {x : Nat} {L : Kv Sv} {w w1 : World} (h : TrAt nl (.node b l k v x r) w) (hn : (Tr.node b l k v x r).blocks.Nodup) (g : Tg r L w r' w1) :
  TrAt nl (.node b l k v x r') (w1.setCell ⟨b, 3, none⟩ r'.ptr) ∧ (Tr.node b l k v x r').blocks.Nodup ∧ (∀ i ∈ (Tr.node b l k v x r').blocks, i ∈ (Tr.node b l k v x r).blocks ∨ w.heap.size ≤ i) ∧ Kept (fun i => i ∈ (Tr.node b l k v x r).blocks) w (w1.setCell ⟨b, 3, none⟩ r'.ptr) := by
 simp only [Tr.blocks, List.nodup_cons, List.mem_append, not_or, List.nodup_append] at hn
 obtain ⟨⟨nbl, nbr⟩, n1, n2, n3⟩ := hn
 have hb : b < w.heap.size := (Array.getElem?_eq_some_iff.1 h.1).1
 have hllt := TrAt.lt h.2.1
 have h1 : w1.heap[b]? = some (.cells (nl.cells k v x l.ptr r.ptr) nl.ty (0, 0)) := by rw [g.kept.block b hb nbr]; exact h.1
 have tl : TrAt nl l w1 := TrAt.kept g.kept h.2.1 (fun i hi e => n3 i hi i e rfl)
 have ks := set_kept' w1 b 3 r'.ptr
 have nbr' : b ∉ r'.blocks := fun hi => by
  rcases g.sub b hi with e | e
  ·exact nbr e
  ·omega
 have dis : ∀ i ∈ l.blocks, ∀ j ∈ r'.blocks, i ≠ j := fun i hi j hj e => by
  subst e
  rcases g.sub i hj with e | e
  ·exact n3 i hi i e rfl
  ·have := hllt i hi; omega
 refine ⟨⟨block_set _ h1, TrAt.kept ks tl (fun i hi e => nbl (e ▸ hi)), TrAt.kept ks g.ok (fun i hi e => nbr' (e ▸ hi))⟩, ?_, fun i hi => ?_, ?_⟩
 ·simp only [Tr.blocks, List.nodup_cons, List.mem_append, not_or, List.nodup_append]
  exact ⟨⟨nbl, nbr'⟩, n1, g.nd, dis⟩
 ·simp only [Tr.blocks, List.mem_cons, List.mem_append] at hi ⊢
  rcases hi with e | e | e
  ·exact .inl (.inl e)
  ·exact .inl (.inr (.inl e))
  ·rcases g.sub i e with e | e
   ·exact .inl (.inr (.inr e))
   ·exact .inr e
 ·refine (g.kept.mono (fun i hi => ?_)).trans ks (fun i hi => .inl ?_)
  ·simp [Tr.blocks, hi]
  ·simp [Tr.blocks, hi]
theorem Nd.mtg {b : Nat} {l r : Tr} {k : List UInt8} {v : Sv} {x : Nat} {w : World} (h : Nd b l r k v x w) :
  Calls Tryz.prog 340 #[.pointer (some ⟨b, 0, none⟩)] w fun e w' => e = .returned (.tuple #[]) ∧ ∃ t', Tr.ptr t' = .pointer (some ⟨b, 0, none⟩) ∧ Tg (.node b l k v x r) (l.toL ++ (k, v) :: r.toL) w t' w' := by
 refine h.measure.mono ?_
 rintro e w' ⟨rfl, h1, hk⟩
 exact ⟨rfl, .node b l k v (1 + max l.hn r.hn) r, rfl, h1.ok, ⟨rfl, h1.hl, h1.hr⟩, h1.nd, rfl, fun i hi => .inl hi, hk.mono (fun i e => by simp [Tr.blocks, e])⟩
theorem leftg {b c : Nat} {l m r : Tr} {k q : List UInt8} {v u : Sv} {x y : Nat} {w : World} (h : TrAt nl (.node b l k v x (.node c m q u y r)) w) (hn : (Tr.node b l k v x (.node c m q u y r)).blocks.Nodup) (hl : Hk l) (hm : Hk m) (hr : Hk r) (few : l.toL.length + m.toL.length + r.toL.length < 100000) :
  Calls Tryz.prog 338 #[.pointer (some ⟨b, 0, none⟩)] w fun e w' => ∃ x' y', e = .returned (.pointer (some ⟨c, 0, none⟩)) ∧ Tg (.node b l k v x (.node c m q u y r)) (l.toL ++ (k, v) :: (m.toL ++ (q, u) :: r.toL)) w (.node c (.node b l k v x' m) q u y' r) w' := by
 refine (left28 h hn hl hm hr few).mono ?_
 rintro e w' ⟨x', y', rfl, h1, h2, hk⟩
 have hp : ∀ i, (Tr.node b l k v x (.node c m q u y r)).blocks.count i = (Tr.node c (.node b l k v x' m) q u y' r).blocks.count i := fun i => by
  simp only [Tr.blocks, List.count_cons, List.count_append]; omega
 exact ⟨x', y', rfl, h1, h2, perm_nodup hn hp, by simp [Tr.toL], fun i hi => .inl (count_mem hp hi), hk.mono (fun i e => by rcases e with e | e <;> simp [Tr.blocks, e])⟩
theorem rightg {b c : Nat} {l m r : Tr} {k q : List UInt8} {v u : Sv} {x y : Nat} {w : World} (h : TrAt nl (.node b (.node c l q u y m) k v x r) w) (hn : (Tr.node b (.node c l q u y m) k v x r).blocks.Nodup) (hl : Hk l) (hm : Hk m) (hr : Hk r) (few : l.toL.length + m.toL.length + r.toL.length < 100000) :
  Calls Tryz.prog 339 #[.pointer (some ⟨b, 0, none⟩)] w fun e w' => ∃ x' y', e = .returned (.pointer (some ⟨c, 0, none⟩)) ∧ Tg (.node b (.node c l q u y m) k v x r) ((l.toL ++ (q, u) :: m.toL) ++ (k, v) :: r.toL) w (.node c l q u y' (.node b m k v x' r)) w' := by
 refine (right29 h hn hl hm hr few).mono ?_
 rintro e w' ⟨x', y', rfl, h1, h2, hk⟩
 have hp : ∀ i, (Tr.node b (.node c l q u y m) k v x r).blocks.count i = (Tr.node c l q u y' (.node b m k v x' r)).blocks.count i := fun i => by
  simp only [Tr.blocks, List.count_cons, List.count_append]; omega
 exact ⟨x', y', rfl, h1, h2, perm_nodup hn hp, by simp [Tr.toL], fun i hi => .inl (count_mem hp hi), hk.mono (fun i e => by rcases e with e | e <;> simp [Tr.blocks, e])⟩
end Go.Proofs.YtajjnmdomabmkaaGreat.Sto
