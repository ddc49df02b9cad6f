/-
  The program's Read: transactions, writes, pairs, and lists of them.
-/
import Derived.Test.YtmldgfepnmencaaLg
import Derived.Shelf.Abstract
import Derived.Laws.Rows
import Derived.Laws.Tables
namespace Go.Proofs.Ytmldgfepnmencaa
open Go.RowKit Go.Sort Go.Shelf

/-- A Reader, and a box of the call's own. -/
structure Rx (T : Nat) (w : World) (rb b : Nat) (cs : Array Value) (ty : TypeId) (st : St) (W : World) : Prop where
  rd : RdAt T rb st W
  so : Sole rb w W
  x : W.heap[b]? = some (.cells cs ty (0, 0))
  ne : b ≠ rb
  new : w.heap.size ≤ b
variable {T : Nat} {w W W' : World} {rb b : Nat} {cs : Array Value} {ty : TypeId} {st st' : St}
theorem rx_new (h : RdAt T rb st w) (cs : Array Value) (ty : TypeId) : Rx T w rb w.heap.size cs ty st (w.alloc (.cells cs ty)) :=
  ⟨h.alloc _, (Sole.refl rb w).alloc _, heap_alloc_new w _, by have := lt_of_block h; omega, Nat.le_refl _⟩
theorem Rx.go (h : Rx T w rb b cs ty st W) (hr : RdAt T rb st' W') (hs : Sole rb W W') : Rx T w rb b cs ty st' W' :=
  ⟨hr, h.so.trans hs, by rw [hs.block b (Array.getElem?_eq_some_iff.1 h.x).1 h.ne]; exact h.x, h.ne, h.new⟩
theorem Rx.set (h : Rx T w rb b cs ty st W) (j : Nat) (u : Value) : Rx T w rb b (cs.setIfInBounds j u) ty st (W.setCell ⟨b, j, none⟩ u) :=
  ⟨h.rd.setOther h.ne _ _, h.so.setNew h.new _ _, block_set u h.x, h.ne, h.new⟩
theorem Rx.row (h : Rx T w rb b cs ty st W) (ds : Array Value) : Rx T w rb b ds ty st (W.setRow b ds) := by
  refine ⟨?_, ⟨h.so.os, h.so.tape, h.so.output, by rw [size_setRow]; exact h.so.size, fun k hk hne => ?_⟩, setRow_heap W b cs ds ty (0, 0) h.x, h.ne, h.new⟩
  · show _ = _
    rw [setRow_other W b rb ds (fun e => h.ne e.symm)]
    exact h.rd
  · rw [setRow_other W b k ds (by have := h.new; omega)]
    exact h.so.block k hk hne
theorem own_sole {base e size : Nat} {v : Value} {n : Nat} {xs : List Value} (h : W.ownsRow base e size v n xs) (hs : Sole rb W W') (hb : rb < base) : W'.ownsRow base e size v n xs :=
  own_kept h (F := fun k => k = rb) ⟨hs.os, hs.tape, hs.output, hs.size, fun k hk hne => hs.block k hk hne⟩ (fun k hk e => by have := (World.ownsRow.lt h k hk).1; omega)
theorem sole_grown {row : Option Nat} (h : Sole rb w W) (hg : W.grownBy W' row) (hr : ∀ k, row = some k → w.heap.size ≤ k) : Sole rb w W' := by
  have hk := grown_kept hg
  exact ⟨hk.os.trans h.os, hk.tape.trans h.tape, hk.output.trans h.output, Nat.le_trans h.size hk.size, fun k h1 h2 => (hk.block k (Nat.lt_of_lt_of_le h1 h.size) (fun e => by have := hr k e; omega)).trans (h.block k h1 h2)⟩
theorem rd_grown {row : Option Nat} (h : RdAt T rb st W) (hg : W.grownBy W' row) (hr : ∀ k, row = some k → rb < k) : RdAt T rb st W' := by
  have hk := grown_kept hg
  show _ = _
  rw [hk.block rb (lt_of_block h) (fun e => by have := hr rb e; omega)]
  exact h
theorem own_val {base e size : Nat} {v : Value} {n : Nat} {xs : List Value} (h : W.ownsRow base e size v n xs) : ∃ ao cp, v = .slice ao n cp := by
  obtain ⟨ao, cp, h, _⟩ := rw_own h
  exact ⟨ao, cp, h⟩
theorem info65 : (Try.prog.info? 65).map (fun i => (i.zero, i.size, i.bytes)) = some (some (.agg #[.string ⟨#[]⟩, .string ⟨#[]⟩, .bool false]), 3, 40) := by kernel_rfl
theorem info67 : (Try.prog.info? 67).map (fun i => (i.zero, i.size, i.bytes)) = some (some (.agg #[.string ⟨#[]⟩, .string ⟨#[]⟩]), 2, 32) := by kernel_rfl
theorem info24 : (Try.prog.info? 24).map (fun i => (i.zero, i.size, i.bytes)) = some (some (.agg #[.int .u32 0, .int .u32 0]), 2, 8) := by kernel_rfl
theorem num_le63 (most : Nat) (st : St) (h : st.l.length < 4611686018427387904) : (rdNum most st).2.l.length < 4611686018427387904 := Nat.lt_of_le_of_lt (rdNum_le most st).2.1 h
theorem text_le63 (a b : Int) (st : St) (h : st.l.length < 4611686018427387904) : (rdText a b st).2.l.length < 4611686018427387904 := Nat.lt_of_le_of_lt (text_len a b st).1 h
theorem flag_le63 (st : St) (h : st.l.length < 4611686018427387904) : (rdFlag st).2.l.length < 4611686018427387904 := Nat.lt_of_le_of_lt (flag_len st) h
theorem stamp_le63 (st : St) (h : st.l.length < 4611686018427387904) : (rdStamp st).2.l.length < 4611686018427387904 := Nat.lt_of_le_of_lt (stamp_len st) h
theorem tn_le63 (st : St) (h : st.l.length < 4611686018427387904) : (rTn st).2.l.length < 4611686018427387904 := num_le63 _ _ (num_le63 _ _ h)
theorem wr_le63 (st : St) (h : st.l.length < 4611686018427387904) : (rWr st).2.l.length < 4611686018427387904 := text_le63 _ _ _ (flag_le63 _ (text_le63 _ _ _ h))
theorem pr_le63 (st : St) (h : st.l.length < 4611686018427387904) : (rPr st).2.l.length < 4611686018427387904 := text_le63 _ _ _ (text_le63 _ _ _ h)
theorem many_le63 {α : Type} {f : St → α × St} (hf : ∀ st, st.l.length < 4611686018427387904 → (f st).2.l.length < 4611686018427387904) : ∀ (n : Nat) (st : St), st.l.length < 4611686018427387904 → (rMany f n st).2.l.length < 4611686018427387904
  | 0, _, h => h
  | n + 1, st, h => hf _ (many_le63 hf n st h)
theorem list_le63 {α : Type} {f : St → α × St} (hf : ∀ st, st.l.length < 4611686018427387904 → (f st).2.l.length < 4611686018427387904) (most : Nat) (st : St) (h : st.l.length < 4611686018427387904) : (rList f most st).2.l.length < 4611686018427387904 := many_le63 hf _ _ (num_le63 _ _ h)
set_option maxHeartbeats 3200000 in
set_option maxRecDepth 100000 in
theorem ttn63 (rb : Nat) (st : St) (w : World) (h : RdAt 98 rb st w) (hl : st.l.length < 4611686018427387904) :
    Calls Try.prog 63 #[.pointer (some ⟨rb, 0, none⟩)] w fun e w' => e = .returned (.agg #[.int .u32 ((rTn st).1.c : Int), .int .u32 ((rTn st).1.n : Int)]) ∧ RdAt 98 rb (rTn st).2 w' ∧ Sole rb w w' := by
  have H0 : Hid _ := rx_new h #[.int .u32 0, .int .u32 0] 24
  obtain ⟨W1, hW1⟩ : ∃ W1, w.alloc (.cells #[.int .u32 0, .int .u32 0] 24) = W1 := ⟨_, rfl⟩
  obtain ⟨b, hb⟩ : ∃ b, w.heap.size = b := ⟨_, rfl⟩
  have X0 : Hid (Rx 98 w rb b #[.int .u32 0, .int .u32 0] 24 st W1) := by rw [← hb, ← hW1]; exact H0.out
  clear H0 h
  have C0 : Hid (∀ W, RdAt 98 rb st W → _) := fun W hW => num20 rb st 4294967295 W hW (by omega)
  have L0 := num_le63 4294967295 _ hl
  have D0 := (rdNum_le 4294967295 st).1
  obtain ⟨⟨v0, t0⟩, h0⟩ : ∃ p, rdNum 4294967295 st = p := ⟨_, rfl⟩
  rw [h0] at C0 L0 D0
  simp only at C0 L0 D0
  have d0 : v0 < 4294967296 := by omega
  have C1 : Hid (∀ W, RdAt 98 rb t0 W → _) := fun W hW => num20 rb t0 4294967295 W hW (by omega)
  have L1 := num_le63 4294967295 _ L0
  have D1 := (rdNum_le 4294967295 t0).1
  obtain ⟨⟨v1, t1⟩, h1⟩ : ∃ p, rdNum 4294967295 t0 = p := ⟨_, rfl⟩
  rw [h1] at C1 L1 D1
  simp only at C1 L1 D1
  have d1 : v1 < 4294967296 := by omega
  have HF : Hid (rTn st = (⟨v0, v1⟩, t1)) := by
    show _ = _
    unfold rTn
    simp only [h0, h1]
  clear h0 L0 h1 L1
  go_enter Try.func63, Try.ntmps63
  go_wp2_with fail
  refine (C0.out _ X0.out.rd).mono ?_
  rintro e x0 ⟨rfl, hr, hs⟩
  have X1 : Hid (Rx 98 w rb b #[.int .u32 0, .int .u32 0] 24 t0 x0) := X0.out.go hr hs
  clear hr hs C0 X0 hW1 hb
  go_wp2_with fail
  refine (C1.out _ X1.out.rd).mono ?_
  rintro e x1 ⟨rfl, hr, hs⟩
  have X2 : Hid (Rx 98 w rb b #[.int .u32 0, .int .u32 0] 24 t1 x1) := X1.out.go hr hs
  clear hr hs C1 X1
  go_wp2_with (refine wpList_store_row rfl 24 _ _ rfl b #[.int .u32 (v0 : Int), .int .u32 (v1 : Int)] rfl rfl 24 _ X2.out.x (by kernel_rfl) rfl (by simp [Value.oneCell']) ?_)
  have Y : Hid _ := X2.out.row #[.int .u32 (v0 : Int), .int .u32 (v1 : Int)]
  (try simp only [Exit.inBlock, Exit.then])
  refine bodyPost_ret (results_cell_row rfl _ _ b 24 _ (0, 0) _ rfl Y.out.x Try.underlying24 rfl (by kernel_rfl)) rfl ?_
  refine ⟨?_, ?_, Y.out.so⟩
  · rw [HF.out]
  · rw [HF.out]; exact Y.out.rd
set_option maxHeartbeats 3200000 in
set_option maxRecDepth 100000 in
theorem twr66 (rb : Nat) (st : St) (w : World) (h : RdAt 98 rb st w) (hl : st.l.length < 4611686018427387904) :
    Calls Try.prog 66 #[.pointer (some ⟨rb, 0, none⟩)] w fun e w' => e = .returned (.agg #[.string (bs (rWr st).1.key), .string (bs (rWr st).1.val), .bool (rWr st).1.dead]) ∧ RdAt 98 rb (rWr st).2 w' ∧ Sole rb w w' := by
  have H0 : Hid _ := rx_new h #[.string ⟨#[]⟩, .string ⟨#[]⟩, .bool false] 65
  obtain ⟨W1, hW1⟩ : ∃ W1, w.alloc (.cells #[.string ⟨#[]⟩, .string ⟨#[]⟩, .bool false] 65) = W1 := ⟨_, rfl⟩
  obtain ⟨b, hb⟩ : ∃ b, w.heap.size = b := ⟨_, rfl⟩
  have X0 : Hid (Rx 98 w rb b #[.string ⟨#[]⟩, .string ⟨#[]⟩, .bool false] 65 st W1) := by rw [← hb, ← hW1]; exact H0.out
  clear H0 h
  have C0 : Hid (∀ W, RdAt 98 rb st W → _) := fun W hW => text21 rb st 0 32 W hW (by omega) (by omega) (by omega) (by omega) (by omega)
  have L0 := text_le63 0 32 _ hl
  obtain ⟨⟨v0, t0⟩, h0⟩ : ∃ p, rdText 0 32 st = p := ⟨_, rfl⟩
  rw [h0] at C0 L0
  simp only at C0 L0
  have C1 : Hid (∀ W, RdAt 98 rb t0 W → _) := fun W hW => flag22 rb t0 W hW
  have L1 := flag_le63 _ L0
  obtain ⟨⟨v1, t1⟩, h1⟩ : ∃ p, rdFlag t0 = p := ⟨_, rfl⟩
  rw [h1] at C1 L1
  simp only at C1 L1
  have C2 : Hid (∀ W, RdAt 98 rb t1 W → _) := fun W hW => text21 rb t1 0 256 W hW (by omega) (by omega) (by omega) (by omega) (by omega)
  have L2 := text_le63 0 256 _ L1
  obtain ⟨⟨v2, t2⟩, h2⟩ : ∃ p, rdText 0 256 t1 = p := ⟨_, rfl⟩
  rw [h2] at C2 L2
  simp only at C2 L2
  have HF : Hid (rWr st = (⟨v0, v2, v1⟩, t2)) := by
    show _ = _
    unfold rWr
    simp only [h0, h1, h2]
  clear h0 L0 h1 L1 h2 L2
  go_enter Try.func66, Try.ntmps66
  go_wp2_with fail
  refine (C0.out _ X0.out.rd).mono ?_
  rintro e x0 ⟨rfl, hr, hs⟩
  have X1 : Hid (Rx 98 w rb b #[.string ⟨#[]⟩, .string ⟨#[]⟩, .bool false] 65 t0 x0) := X0.out.go hr hs
  clear hr hs C0 X0 hW1 hb
  go_wp2_with fail
  refine (C1.out _ X1.out.rd).mono ?_
  rintro e x1 ⟨rfl, hr, hs⟩
  have X2 : Hid (Rx 98 w rb b #[.string ⟨#[]⟩, .string ⟨#[]⟩, .bool false] 65 t1 x1) := X1.out.go hr hs
  clear hr hs C1 X1
  go_wp2_with fail
  refine (C2.out _ X2.out.rd).mono ?_
  rintro e x2 ⟨rfl, hr, hs⟩
  have X3 : Hid (Rx 98 w rb b #[.string ⟨#[]⟩, .string ⟨#[]⟩, .bool false] 65 t2 x2) := X2.out.go hr hs
  clear hr hs C2 X2
  go_wp2_with (refine wpList_store_row rfl 65 _ _ rfl b #[.string (bs v0), .string (bs v2), .bool v1] rfl rfl 65 _ X3.out.x (by kernel_rfl) rfl (by simp [Value.oneCell']) ?_)
  have Y : Hid _ := X3.out.row #[.string (bs v0), .string (bs v2), .bool v1]
  (try simp only [Exit.inBlock, Exit.then])
  refine bodyPost_ret (results_cell_row rfl _ _ b 65 _ (0, 0) _ rfl Y.out.x Try.underlying65 rfl (by kernel_rfl)) rfl ?_
  refine ⟨?_, ?_, Y.out.so⟩
  · rw [HF.out]
  · rw [HF.out]; exact Y.out.rd
set_option maxHeartbeats 3200000 in
set_option maxRecDepth 100000 in
theorem tpr62 (rb : Nat) (st : St) (w : World) (h : RdAt 98 rb st w) (hl : st.l.length < 4611686018427387904) :
    Calls Try.prog 62 #[.pointer (some ⟨rb, 0, none⟩)] w fun e w' => e = .returned (.agg #[.string (bs (rPr st).1.key), .string (bs (rPr st).1.val)]) ∧ RdAt 98 rb (rPr st).2 w' ∧ Sole rb w w' := by
  have H0 : Hid _ := rx_new h #[.string ⟨#[]⟩, .string ⟨#[]⟩] 67
  obtain ⟨W1, hW1⟩ : ∃ W1, w.alloc (.cells #[.string ⟨#[]⟩, .string ⟨#[]⟩] 67) = W1 := ⟨_, rfl⟩
  obtain ⟨b, hb⟩ : ∃ b, w.heap.size = b := ⟨_, rfl⟩
  have X0 : Hid (Rx 98 w rb b #[.string ⟨#[]⟩, .string ⟨#[]⟩] 67 st W1) := by rw [← hb, ← hW1]; exact H0.out
  clear H0 h
  have C0 : Hid (∀ W, RdAt 98 rb st W → _) := fun W hW => text21 rb st 0 32 W hW (by omega) (by omega) (by omega) (by omega) (by omega)
  have L0 := text_le63 0 32 _ hl
  obtain ⟨⟨v0, t0⟩, h0⟩ : ∃ p, rdText 0 32 st = p := ⟨_, rfl⟩
  rw [h0] at C0 L0
  simp only at C0 L0
  have C1 : Hid (∀ W, RdAt 98 rb t0 W → _) := fun W hW => text21 rb t0 0 256 W hW (by omega) (by omega) (by omega) (by omega) (by omega)
  have L1 := text_le63 0 256 _ L0
  obtain ⟨⟨v1, t1⟩, h1⟩ : ∃ p, rdText 0 256 t0 = p := ⟨_, rfl⟩
  rw [h1] at C1 L1
  simp only at C1 L1
  have HF : Hid (rPr st = (⟨v0, v1⟩, t1)) := by
    show _ = _
    unfold rPr
    simp only [h0, h1]
  clear h0 L0 h1 L1
  go_enter Try.func62, Try.ntmps62
  go_wp2_with fail
  refine (C0.out _ X0.out.rd).mono ?_
  rintro e x0 ⟨rfl, hr, hs⟩
  have X1 : Hid (Rx 98 w rb b #[.string ⟨#[]⟩, .string ⟨#[]⟩] 67 t0 x0) := X0.out.go hr hs
  clear hr hs C0 X0 hW1 hb
  go_wp2_with fail
  refine (C1.out _ X1.out.rd).mono ?_
  rintro e x1 ⟨rfl, hr, hs⟩
  have X2 : Hid (Rx 98 w rb b #[.string ⟨#[]⟩, .string ⟨#[]⟩] 67 t1 x1) := X1.out.go hr hs
  clear hr hs C1 X1
  go_wp2_with (refine wpList_store_row rfl 67 _ _ rfl b #[.string (bs v0), .string (bs v1)] rfl rfl 67 _ X2.out.x (by kernel_rfl) rfl (by simp [Value.oneCell']) ?_)
  have Y : Hid _ := X2.out.row #[.string (bs v0), .string (bs v1)]
  (try simp only [Exit.inBlock, Exit.then])
  refine bodyPost_ret (results_cell_row rfl _ _ b 67 _ (0, 0) _ rfl Y.out.x Try.underlying67 rfl (by kernel_rfl)) rfl ?_
  refine ⟨?_, ?_, Y.out.so⟩
  · rw [HF.out]
  · rw [HF.out]; exact Y.out.rd
theorem ent66 : ∀ args w, (callFunc 66 args).run Try.prog w = .ok (.enter 66 args) w := enters_of Try.func66 (by kernel_rfl) rfl
set_option maxHeartbeats 3200000 in
set_option maxRecDepth 100000 in
theorem tws65 (rb : Nat) (st : St) (w : World) (h : RdAt 98 rb st w) (hl : st.l.length < 4611686018427387904) :
    Calls Try.prog 65 #[.pointer (some ⟨rb, 0, none⟩), .int .i64 16, .func (.func 66) #[] #[]] w fun e w' => ∃ v, e = .returned v ∧ w'.ownsRow w.heap.size 65 3 v (rList rWr 16 st).1.length (rowC wrc (rList rWr 16 st).1) ∧ RdAt 98 rb (rList rWr 16 st).2 w' ∧ Sole rb w w' := by
  have ef := ent66
  obtain ⟨i0, hi, hz0, hz1, hz2⟩ := info_parts info65
  have hrb := lt_of_block h
  have hle := (rdNum_le 16 st).1
  have L0 := num_le63 16 st hl
  have C0 : Hid (1 = 1 → Calls Try.prog 76 #[.pointer (some ⟨rb, 0, none⟩), .int .i64 16] w fun e w' => e = .returned (.int .i64 ((rdNum 16 st).1 : Int)) ∧ RdAt 98 rb (rdNum 16 st).2 w' ∧ Sole rb w w') := fun _ => count30 rb st 16 w h (by omega) (by omega) (by omega)
  have HD : Hid (rList rWr 16 st = rMany rWr (rdNum 16 st).1 (rdNum 16 st).2) := rfl
  obtain ⟨⟨n, s0⟩, h0⟩ : ∃ p, rdNum 16 st = p := ⟨_, rfl⟩
  rw [h0] at hle L0 C0 HD
  simp only at hle L0
  have HLe : Hid (∀ m, (rMany rWr m s0).2.l.length < 4611686018427387904) := fun m => many_le63 wr_le63 m s0 L0
  have HLn : Hid (∀ m, (rMany rWr m s0).1.length = m) := fun m => many_len rWr m s0
  clear h h0 L0 hl
  go_enter Try.func65, Try.ntmps65
  go_wp2_with fail
  refine (C0.out (by trivial)).mono ?_
  rintro e w1 ⟨rfl, hr1, hs1⟩
  have H1 : Hid (RdAt 98 rb s0 w1 ∧ Sole rb w w1) := ⟨hr1, hs1⟩
  clear hr1 hs1 C0
  go_wp2_with fail
  go_loopw [7, 11] (fun s i wr => ∃ (m : Nat) (ao : Option Addr) (cp : Nat), m ≤ n ∧ s = .slice ao m cp ∧ i = .int .i64 m ∧ wr.ownsRow w.heap.size 65 3 (.slice ao m cp) m (rowC wrc (rMany rWr m s0).1) ∧ RdAt 98 rb (rMany rWr m s0).2 wr ∧ Sole rb w wr) (fun _ i _ => n - (intOf i).toNat)
  case atStart => exact ⟨0, none, 0, Nat.zero_le _, rfl, rfl, own_nil _ _ _ _, H1.out.1, H1.out.2⟩
  case round =>
    obtain ⟨m, ao, cp, hm, rfl, rfl, ho, hr, hs⟩ := hrel
    have HR : Hid (wr.ownsRow w.heap.size 65 3 (.slice ao m cp) m (rowC wrc (rMany rWr m s0).1) ∧ RdAt 98 rb (rMany rWr m s0).2 wr ∧ Sole rb w wr) := ⟨ho, hr, hs⟩
    clear ho hr hs H1
    by_cases hml : m < n
    · have hml1 : (m : Int) < n := by omega
      have HQ : Hid (m + 1 ≤ n) := hml
      have CF : Hid (1 = 1 → _) := fun _ => twr66 rb (rMany rWr m s0).2 wr HR.out.2.1 (HLe.out m)
      have HN : Hid (rMany rWr (m + 1) s0 = ((rMany rWr m s0).1 ++ [(rWr (rMany rWr m s0).2).1], (rWr (rMany rWr m s0).2).2)) := rfl
      obtain ⟨⟨x, s2⟩, hx⟩ : ∃ p, rWr (rMany rWr m s0).2 = p := ⟨_, rfl⟩
      rw [hx] at CF HN
      simp only at CF
      clear hx
      go_wp2_with fail
      refine (CF.out (by trivial)).mono ?_
      rintro e w2 ⟨rfl, hr2, hs2⟩
      have H2 : Hid (w2.ownsRow w.heap.size 65 3 (.slice ao m cp) m (rowC wrc (rMany rWr m s0).1) ∧ RdAt 98 rb s2 w2 ∧ Sole rb w w2) := ⟨own_sole HR.out.1 hs2 hrb, hr2, HR.out.2.2.trans hs2⟩
      clear hr2 hs2 CF
      have HOw : Hid (Ow w.heap.size 65 3 (.slice ao m cp) m (rowC wrc (rMany rWr m s0).1) (w2.heap.size + 1) (.slice (some ⟨w2.heap.size, 0, none⟩) 1 1) 1 (rowC wrc [x]) (w2.alloc (.cells #[.string (bs x.key), .string (bs x.val), .bool x.dead] 65))) := ⟨H2.out.1.alloc _, row_one wrc 3 wrc_len x 65 w2 (fun j u hj => by exact block_cell (heap_alloc_new w2 _) (by simpa [wrc] using hj)), rowC_cells wrc wrc_one [x], by have := H2.out.2.2.size; simp; omega, by omega⟩
      go_wp2_with (at_builtin; refine wpList_append_rw HOw.out Try.underlying28 hi hz0 hz1 hz2 rfl (by decide) (by decide) (.tmp 13) (.tmp 17) rfl rfl rfl rfl ?_; intro v' w3 hown hgrow _; have HG : Hid _ := And.intro hown hgrow; clear hown hgrow; obtain ⟨ao', cp', hv'⟩ := own_val HG.out.1; subst hv')
      go_roundw
      case rel =>
        refine ⟨m + 1, _, _, HQ.out, rfl, by go_num, ?_, ?_, ?_⟩
        · rw [HN.out, rowC_append]; exact HG.out.1
        · rw [HN.out]
          exact rd_grown (H2.out.2.1.alloc _) HG.out.2 (fun k hk => by have := (World.ownsRow.lt H2.out.1 k hk).1; omega)
        · exact sole_grown (H2.out.2.2.alloc _) HG.out.2 (fun k hk => (World.ownsRow.lt H2.out.1 k hk).1)
      case measure => simp [intOf]; omega
    · have hml1 : ¬ (m : Int) < n := by omega
      have HM : Hid (m = n) := by show _ = _; omega
      clear hm hml
      go_wp2_with fail
      go_ret
      refine ⟨_, rfl, ?_⟩
      rw [HD.out]
      simp only
      rw [HLn.out, ← HM.out]
      exact HR.out
theorem ent63 : ∀ args w, (callFunc 63 args).run Try.prog w = .ok (.enter 63 args) w := enters_of Try.func63 (by kernel_rfl) rfl
set_option maxHeartbeats 3200000 in
set_option maxRecDepth 100000 in
theorem tts67 (rb : Nat) (st : St) (w : World) (h : RdAt 98 rb st w) (hl : st.l.length < 4611686018427387904) :
    Calls Try.prog 67 #[.pointer (some ⟨rb, 0, none⟩), .int .i64 16, .func (.func 63) #[] #[]] w fun e w' => ∃ v, e = .returned v ∧ w'.ownsRow w.heap.size 24 2 v (rList rTn 16 st).1.length (rowC tnc (rList rTn 16 st).1) ∧ RdAt 98 rb (rList rTn 16 st).2 w' ∧ Sole rb w w' := by
  have ef := ent63
  obtain ⟨i0, hi, hz0, hz1, hz2⟩ := info_parts info24
  have hrb := lt_of_block h
  have hle := (rdNum_le 16 st).1
  have L0 := num_le63 16 st hl
  have C0 : Hid (1 = 1 → Calls Try.prog 76 #[.pointer (some ⟨rb, 0, none⟩), .int .i64 16] w fun e w' => e = .returned (.int .i64 ((rdNum 16 st).1 : Int)) ∧ RdAt 98 rb (rdNum 16 st).2 w' ∧ Sole rb w w') := fun _ => count30 rb st 16 w h (by omega) (by omega) (by omega)
  have HD : Hid (rList rTn 16 st = rMany rTn (rdNum 16 st).1 (rdNum 16 st).2) := rfl
  obtain ⟨⟨n, s0⟩, h0⟩ : ∃ p, rdNum 16 st = p := ⟨_, rfl⟩
  rw [h0] at hle L0 C0 HD
  simp only at hle L0
  have HLe : Hid (∀ m, (rMany rTn m s0).2.l.length < 4611686018427387904) := fun m => many_le63 tn_le63 m s0 L0
  have HLn : Hid (∀ m, (rMany rTn m s0).1.length = m) := fun m => many_len rTn m s0
  clear h h0 L0 hl
  go_enter Try.func67, Try.ntmps67
  go_wp2_with fail
  refine (C0.out (by trivial)).mono ?_
  rintro e w1 ⟨rfl, hr1, hs1⟩
  have H1 : Hid (RdAt 98 rb s0 w1 ∧ Sole rb w w1) := ⟨hr1, hs1⟩
  clear hr1 hs1 C0
  go_wp2_with fail
  go_loopw [7, 11] (fun s i wr => ∃ (m : Nat) (ao : Option Addr) (cp : Nat), m ≤ n ∧ s = .slice ao m cp ∧ i = .int .i64 m ∧ wr.ownsRow w.heap.size 24 2 (.slice ao m cp) m (rowC tnc (rMany rTn m s0).1) ∧ RdAt 98 rb (rMany rTn m s0).2 wr ∧ Sole rb w wr) (fun _ i _ => n - (intOf i).toNat)
  case atStart => exact ⟨0, none, 0, Nat.zero_le _, rfl, rfl, own_nil _ _ _ _, H1.out.1, H1.out.2⟩
  case round =>
    obtain ⟨m, ao, cp, hm, rfl, rfl, ho, hr, hs⟩ := hrel
    have HR : Hid (wr.ownsRow w.heap.size 24 2 (.slice ao m cp) m (rowC tnc (rMany rTn m s0).1) ∧ RdAt 98 rb (rMany rTn m s0).2 wr ∧ Sole rb w wr) := ⟨ho, hr, hs⟩
    clear ho hr hs H1
    by_cases hml : m < n
    · have hml1 : (m : Int) < n := by omega
      have HQ : Hid (m + 1 ≤ n) := hml
      have CF : Hid (1 = 1 → _) := fun _ => ttn63 rb (rMany rTn m s0).2 wr HR.out.2.1 (HLe.out m)
      have HN : Hid (rMany rTn (m + 1) s0 = ((rMany rTn m s0).1 ++ [(rTn (rMany rTn m s0).2).1], (rTn (rMany rTn m s0).2).2)) := rfl
      obtain ⟨⟨x, s2⟩, hx⟩ : ∃ p, rTn (rMany rTn m s0).2 = p := ⟨_, rfl⟩
      rw [hx] at CF HN
      simp only at CF
      clear hx
      go_wp2_with fail
      refine (CF.out (by trivial)).mono ?_
      rintro e w2 ⟨rfl, hr2, hs2⟩
      have H2 : Hid (w2.ownsRow w.heap.size 24 2 (.slice ao m cp) m (rowC tnc (rMany rTn m s0).1) ∧ RdAt 98 rb s2 w2 ∧ Sole rb w w2) := ⟨own_sole HR.out.1 hs2 hrb, hr2, HR.out.2.2.trans hs2⟩
      clear hr2 hs2 CF
      have HOw : Hid (Ow w.heap.size 24 2 (.slice ao m cp) m (rowC tnc (rMany rTn m s0).1) (w2.heap.size + 1) (.slice (some ⟨w2.heap.size, 0, none⟩) 1 1) 1 (rowC tnc [x]) (w2.alloc (.cells #[.int .u32 (x.c : Int), .int .u32 (x.n : Int)] 24))) := ⟨H2.out.1.alloc _, row_one tnc 2 tnc_len x 24 w2 (fun j u hj => by exact block_cell (heap_alloc_new w2 _) (by simpa [tnc] using hj)), rowC_cells tnc tnc_one [x], by have := H2.out.2.2.size; simp; omega, by omega⟩
      go_wp2_with (at_builtin; refine wpList_append_rw HOw.out Try.underlying29 hi hz0 hz1 hz2 rfl (by decide) (by decide) (.tmp 13) (.tmp 17) rfl rfl rfl rfl ?_; intro v' w3 hown hgrow _; have HG : Hid _ := And.intro hown hgrow; clear hown hgrow; obtain ⟨ao', cp', hv'⟩ := own_val HG.out.1; subst hv')
      go_roundw
      case rel =>
        refine ⟨m + 1, _, _, HQ.out, rfl, by go_num, ?_, ?_, ?_⟩
        · rw [HN.out, rowC_append]; exact HG.out.1
        · rw [HN.out]
          exact rd_grown (H2.out.2.1.alloc _) HG.out.2 (fun k hk => by have := (World.ownsRow.lt H2.out.1 k hk).1; omega)
        · exact sole_grown (H2.out.2.2.alloc _) HG.out.2 (fun k hk => (World.ownsRow.lt H2.out.1 k hk).1)
      case measure => simp [intOf]; omega
    · have hml1 : ¬ (m : Int) < n := by omega
      have HM : Hid (m = n) := by show _ = _; omega
      clear hm hml
      go_wp2_with fail
      go_ret
      refine ⟨_, rfl, ?_⟩
      rw [HD.out]
      simp only
      rw [HLn.out, ← HM.out]
      exact HR.out
theorem ent62 : ∀ args w, (callFunc 62 args).run Try.prog w = .ok (.enter 62 args) w := enters_of Try.func62 (by kernel_rfl) rfl
set_option maxHeartbeats 3200000 in
set_option maxRecDepth 100000 in
theorem tps61 (rb : Nat) (st : St) (w : World) (h : RdAt 98 rb st w) (hl : st.l.length < 4611686018427387904) :
    Calls Try.prog 61 #[.pointer (some ⟨rb, 0, none⟩), .int .i64 32, .func (.func 62) #[] #[]] w fun e w' => ∃ v, e = .returned v ∧ w'.ownsRow w.heap.size 67 2 v (rList rPr 32 st).1.length (rowC prc (rList rPr 32 st).1) ∧ RdAt 98 rb (rList rPr 32 st).2 w' ∧ Sole rb w w' := by
  have ef := ent62
  obtain ⟨i0, hi, hz0, hz1, hz2⟩ := info_parts info67
  have hrb := lt_of_block h
  have hle := (rdNum_le 32 st).1
  have L0 := num_le63 32 st hl
  have C0 : Hid (1 = 1 → Calls Try.prog 76 #[.pointer (some ⟨rb, 0, none⟩), .int .i64 32] w fun e w' => e = .returned (.int .i64 ((rdNum 32 st).1 : Int)) ∧ RdAt 98 rb (rdNum 32 st).2 w' ∧ Sole rb w w') := fun _ => count30 rb st 32 w h (by omega) (by omega) (by omega)
  have HD : Hid (rList rPr 32 st = rMany rPr (rdNum 32 st).1 (rdNum 32 st).2) := rfl
  obtain ⟨⟨n, s0⟩, h0⟩ : ∃ p, rdNum 32 st = p := ⟨_, rfl⟩
  rw [h0] at hle L0 C0 HD
  simp only at hle L0
  have HLe : Hid (∀ m, (rMany rPr m s0).2.l.length < 4611686018427387904) := fun m => many_le63 pr_le63 m s0 L0
  have HLn : Hid (∀ m, (rMany rPr m s0).1.length = m) := fun m => many_len rPr m s0
  clear h h0 L0 hl
  go_enter Try.func61, Try.ntmps61
  go_wp2_with fail
  refine (C0.out (by trivial)).mono ?_
  rintro e w1 ⟨rfl, hr1, hs1⟩
  have H1 : Hid (RdAt 98 rb s0 w1 ∧ Sole rb w w1) := ⟨hr1, hs1⟩
  clear hr1 hs1 C0
  go_wp2_with fail
  go_loopw [7, 11] (fun s i wr => ∃ (m : Nat) (ao : Option Addr) (cp : Nat), m ≤ n ∧ s = .slice ao m cp ∧ i = .int .i64 m ∧ wr.ownsRow w.heap.size 67 2 (.slice ao m cp) m (rowC prc (rMany rPr m s0).1) ∧ RdAt 98 rb (rMany rPr m s0).2 wr ∧ Sole rb w wr) (fun _ i _ => n - (intOf i).toNat)
  case atStart => exact ⟨0, none, 0, Nat.zero_le _, rfl, rfl, own_nil _ _ _ _, H1.out.1, H1.out.2⟩
  case round =>
    obtain ⟨m, ao, cp, hm, rfl, rfl, ho, hr, hs⟩ := hrel
    have HR : Hid (wr.ownsRow w.heap.size 67 2 (.slice ao m cp) m (rowC prc (rMany rPr m s0).1) ∧ RdAt 98 rb (rMany rPr m s0).2 wr ∧ Sole rb w wr) := ⟨ho, hr, hs⟩
    clear ho hr hs H1
    by_cases hml : m < n
    · have hml1 : (m : Int) < n := by omega
      have HQ : Hid (m + 1 ≤ n) := hml
      have CF : Hid (1 = 1 → _) := fun _ => tpr62 rb (rMany rPr m s0).2 wr HR.out.2.1 (HLe.out m)
      have HN : Hid (rMany rPr (m + 1) s0 = ((rMany rPr m s0).1 ++ [(rPr (rMany rPr m s0).2).1], (rPr (rMany rPr m s0).2).2)) := rfl
      obtain ⟨⟨x, s2⟩, hx⟩ : ∃ p, rPr (rMany rPr m s0).2 = p := ⟨_, rfl⟩
      rw [hx] at CF HN
      simp only at CF
      clear hx
      go_wp2_with fail
      refine (CF.out (by trivial)).mono ?_
      rintro e w2 ⟨rfl, hr2, hs2⟩
      have H2 : Hid (w2.ownsRow w.heap.size 67 2 (.slice ao m cp) m (rowC prc (rMany rPr m s0).1) ∧ RdAt 98 rb s2 w2 ∧ Sole rb w w2) := ⟨own_sole HR.out.1 hs2 hrb, hr2, HR.out.2.2.trans hs2⟩
      clear hr2 hs2 CF
      have HOw : Hid (Ow w.heap.size 67 2 (.slice ao m cp) m (rowC prc (rMany rPr m s0).1) (w2.heap.size + 1) (.slice (some ⟨w2.heap.size, 0, none⟩) 1 1) 1 (rowC prc [x]) (w2.alloc (.cells #[.string (bs x.key), .string (bs x.val)] 67))) := ⟨H2.out.1.alloc _, row_one prc 2 prc_len x 67 w2 (fun j u hj => by exact block_cell (heap_alloc_new w2 _) (by simpa [prc] using hj)), rowC_cells prc prc_one [x], by have := H2.out.2.2.size; simp; omega, by omega⟩
      go_wp2_with (at_builtin; refine wpList_append_rw HOw.out Try.underlying33 hi hz0 hz1 hz2 rfl (by decide) (by decide) (.tmp 13) (.tmp 17) rfl rfl rfl rfl ?_; intro v' w3 hown hgrow _; have HG : Hid _ := And.intro hown hgrow; clear hown hgrow; obtain ⟨ao', cp', hv'⟩ := own_val HG.out.1; subst hv')
      go_roundw
      case rel =>
        refine ⟨m + 1, _, _, HQ.out, rfl, by go_num, ?_, ?_, ?_⟩
        · rw [HN.out, rowC_append]; exact HG.out.1
        · rw [HN.out]
          exact rd_grown (H2.out.2.1.alloc _) HG.out.2 (fun k hk => by have := (World.ownsRow.lt H2.out.1 k hk).1; omega)
        · exact sole_grown (H2.out.2.2.alloc _) HG.out.2 (fun k hk => (World.ownsRow.lt H2.out.1 k hk).1)
      case measure => simp [intOf]; omega
    · have hml1 : ¬ (m : Int) < n := by omega
      have HM : Hid (m = n) := by show _ = _; omega
      clear hm hml
      go_wp2_with fail
      go_ret
      refine ⟨_, rfl, ?_⟩
      rw [HD.out]
      simp only
      rw [HLn.out, ← HM.out]
      exact HR.out
end Go.Proofs.Ytmldgfepnmencaa
