/-
  The walk of PackReads: whatever is asked of whatever bytes, it answers true, and turns no memory that was there.
-/
import Derived.Test.YtgkbefeiknfjcaaRefRd
import Derived.Test.YtgkbefeiknfjcaaCuts
import Derived.Deep.QuietTactic
import Derived.BigQuiet
import Derived.Deep.RegionWith
namespace Go.Proofs.Ytgkbefeiknfjcaa
open Go.RowKit

/-- A question: its kind, a number, a text, a stamp. -/
structure Fm where
  k : Int
  n : Nat
  s : List UInt8
  p : Nat
  q : Nat
/-- No question. -/
def dflt : Fm := ⟨0, 0, [], 0, 0⟩
structure Fm.ok (x : Fm) : Prop where
  k0 : -9223372036854775808 ≤ x.k
  k1 : x.k ≤ 9223372036854775807
  n : x.n < 18446744073709551616
  s : x.s.length ≤ 9223372036854775807
  p : x.p < 18446744073709551616
  q : x.q < 4294967296

/-- The cells of element i. -/
def FmAt (w : World) (b off i : Nat) (x : Fm) : Prop :=
  w.cell? ⟨b, off + i * 5, none⟩ = some (.int .i64 x.k) ∧ w.cell? ⟨b, off + i * 5 + 1, none⟩ = some (.int .u64 x.n) ∧ w.cell? ⟨b, off + i * 5 + 2, none⟩ = some (.string (bs x.s)) ∧
  w.cell? ⟨b, off + i * 5 + 3, none⟩ = some (.int .u64 x.p) ∧ w.cell? ⟨b, off + i * 5 + 4, none⟩ = some (.int .u32 x.q)

theorem FmAt.on {w w' : World} {b off i : Nat} {x : Fm} (h : FmAt w b off i x) {B : Nat} (hb : Below B w w') (hB : b < B) : FmAt w' b off i x := by
  obtain ⟨h0, h1, h2, h3, h4⟩ := h
  refine ⟨?_, ?_, ?_, ?_, ?_⟩
  all_goals (rw [hb.cell hB]; assumption)

theorem RdAt.drewN {T rb n : Nat} {st : St} {w : World} (h : RdAt T rb st w) : RdAt T rb st (w.drewN n) := by
  unfold RdAt
  rw [show (w.drewN n).heap = w.heap by simp]
  exact h
theorem RdAt.drew {T rb : Nat} {st : St} {w : World} (h : RdAt T rb st w) : RdAt T rb st w.drew := h

theorem num20' {rb : Nat} {st s1 : St} {most n : Nat} (hf : rdNum most st = (n, s1)) {w : World} (h : RdAt 66 rb st w) (hl : st.l.length < 9223372036854775807) :
    Calls Try.prog 20 #[.pointer (some ⟨rb, 0, none⟩), .int .u64 most] w fun e w' => e = .returned (.int .u64 n) ∧ RdAt 66 rb s1 w' ∧ Sole rb w w' := by
  have := num20 rb st most w h (by omega)
  rw [hf] at this
  exact this
theorem num26' {rb : Nat} {st s1 : St} {most n : Nat} (hf : rdNum most st = (n, s1)) {w : World} (h : RdAt 54 rb st w) (hl : st.l.length < 9223372036854775807) :
    Calls Try.prog 26 #[.pointer (some ⟨rb, 0, none⟩), .int .u64 most] w fun e w' => e = .returned (.int .u64 n) ∧ RdAt 54 rb s1 w' ∧ Sole rb w w' := by
  have := num26 rb st most w h hl
  rw [hf] at this
  exact this
theorem text21' {rb : Nat} {st s1 : St} {least most : Int} {t : List UInt8} (hf : rdText least most st = (t, s1)) {w : World} (h : RdAt 66 rb st w) (hl : st.l.length < 9223372036854775807)
    (a0 : -9223372036854775808 ≤ least) (a1 : least ≤ 9223372036854775807) (b0 : -9223372036854775808 ≤ most) (b1 : most ≤ 9223372036854775807) :
    Calls Try.prog 21 #[.pointer (some ⟨rb, 0, none⟩), .int .i64 least, .int .i64 most] w fun e w' => e = .returned (.string (bs t)) ∧ RdAt 66 rb s1 w' ∧ Sole rb w w' := by
  have := text21 rb st least most w h (by omega) a0 a1 b0 b1
  rw [hf] at this
  exact this
theorem text27' {rb : Nat} {st s1 : St} {least most : Int} {t : List UInt8} (hf : rdText least most st = (t, s1)) {w : World} (h : RdAt 54 rb st w) (hl : st.l.length < 9223372036854775807)
    (a0 : -9223372036854775808 ≤ least) (a1 : least ≤ 9223372036854775807) (b0 : -9223372036854775808 ≤ most) (b1 : most ≤ 9223372036854775807) :
    Calls Try.prog 27 #[.pointer (some ⟨rb, 0, none⟩), .int .i64 least, .int .i64 most] w fun e w' => e = .returned (.string (bs t)) ∧ RdAt 54 rb s1 w' ∧ Sole rb w w' := by
  have := text27 rb st least most w h hl a0 a1 b0 b1
  rw [hf] at this
  exact this
theorem flag22' {rb : Nat} {st s1 : St} {b : Bool} (hf : rdFlag st = (b, s1)) {w : World} (h : RdAt 66 rb st w) :
    Calls Try.prog 22 #[.pointer (some ⟨rb, 0, none⟩)] w fun e w' => e = .returned (.bool b) ∧ RdAt 66 rb s1 w' ∧ Sole rb w w' := by
  have := flag22 rb st w h
  rw [hf] at this
  exact this
theorem flag28' {rb : Nat} {st s1 : St} {b : Bool} (hf : rdFlag st = (b, s1)) {w : World} (h : RdAt 54 rb st w) :
    Calls Try.prog 28 #[.pointer (some ⟨rb, 0, none⟩)] w fun e w' => e = .returned (.bool b) ∧ RdAt 54 rb s1 w' ∧ Sole rb w w' := by
  have := flag28 rb st w h
  rw [hf] at this
  exact this
theorem stamp23' {rb : Nat} {st s1 : St} {p q : Nat} (hf : rdStamp st = ((p, q), s1)) {w : World} (h : RdAt 66 rb st w) (hl : st.l.length < 9223372036854775807) :
    Calls Try.prog 23 #[.pointer (some ⟨rb, 0, none⟩)] w fun e w' => e = .returned (.agg #[.int .u64 p, .int .u32 q]) ∧ RdAt 66 rb s1 w' ∧ Sole rb w w' := by
  have := stamp23 rb st w h (by omega)
  rw [hf] at this
  exact this
theorem stamp29' {rb : Nat} {st s1 : St} {p q : Nat} (hf : rdStamp st = ((p, q), s1)) {w : World} (h : RdAt 54 rb st w) (hl : st.l.length < 9223372036854775807) :
    Calls Try.prog 29 #[.pointer (some ⟨rb, 0, none⟩)] w fun e w' => e = .returned (.agg #[.int .u64 p, .int .u32 q]) ∧ RdAt 54 rb s1 w' ∧ Sole rb w w' := by
  have := stamp29 rb st w h hl
  rw [hf] at this
  exact this
theorem count30' {rb : Nat} {st s1 : St} {most : Int} {n : Nat} (hf : rdNum most.toNat st = (n, s1)) {w : World} (h : RdAt 66 rb st w) (hl : st.l.length < 9223372036854775807) (h0 : -9223372036854775808 ≤ most) (h1 : most ≤ 9223372036854775807) :
    Calls Try.prog 30 #[.pointer (some ⟨rb, 0, none⟩), .int .i64 most] w fun e w' => e = .returned (.int .i64 n) ∧ RdAt 66 rb s1 w' ∧ Sole rb w w' := by
  have := count30 rb st most w h (by omega) h0 h1
  rw [hf] at this
  exact this
theorem count31' {rb : Nat} {st s1 : St} {most : Int} {n : Nat} (hf : rdNum most.toNat st = (n, s1)) {w : World} (h : RdAt 54 rb st w) (hl : st.l.length < 9223372036854775807) (h0 : -9223372036854775808 ≤ most) (h1 : most ≤ 9223372036854775807) :
    Calls Try.prog 31 #[.pointer (some ⟨rb, 0, none⟩), .int .i64 most] w fun e w' => e = .returned (.int .i64 n) ∧ RdAt 54 rb s1 w' ∧ Sole rb w w' := by
  have := count31 rb st most w h hl h0 h1
  rw [hf] at this
  exact this

theorem run_neq31 (p q : Int) (w : World) : (binOp .neq 31 (.agg #[.int .u64 p, .int .u32 q]) (.agg #[.int .u64 p, .int .u32 q])).run Try.prog w = .ok (.bool false) w := by
  simp [go_sem]
theorem Below.drewN {B n : Nat} {a w : World} (h : Below B a w) : Below B a (w.drewN n) := by
  have hh : (w.drewN n).heap = w.heap := by simp
  exact ⟨h.os, h.tape, h.output, by rw [hh]; exact h.size, fun k hk => by rw [hh]; exact h.block k hk⟩

theorem wrap_in (x : Int) : -9223372036854775808 ≤ IntKind.i64.wrap x ∧ IntKind.i64.wrap x ≤ 9223372036854775807 := by rw [IntKind.wrap_i64]; omega

set_option maxHeartbeats 4000000 in
set_option maxRecDepth 100000 in
theorem reads4 (l : List UInt8) (fs : List Fm) (ao : Option Addr) (b off cap : Nat) (w : World) (hao : 0 < fs.length → ao = some ⟨b, off, none⟩)
    (hcell : ∀ i, i < fs.length → FmAt w b off i (fs.getD i dflt) ∧ (fs.getD i dflt).ok) (hN : fs.length < 9223372036854775807) (hl : l.length < 9223372036854775807) :
    Calls Try.prog 4 #[.string (bs l), .slice ao fs.length cap] w fun e w' => e = .returned (.bool true) ∧ Below w.heap.size w w' := by
  have HC : Hid (∀ i, 1 = 1 → i < fs.length → FmAt w b off i (fs.getD i dflt) ∧ (fs.getD i dflt).ok) := fun i _ h => hcell i h
  have HA : Hid (1 = 1 → 0 < fs.length → ao = some ⟨b, off, none⟩) := fun _ => hao
  clear hcell hao
  go_enter Try.func4, Try.ntmps4
  go_wp2_with (go_at_call 9; refine (awake9 _).mono ?_; rintro e w1 ⟨rfl, hb⟩; have HB : Hid (Below w.heap.size w w1) := hb; clear hb)
  refine (new19 _ _).mono ?_
  rintro e w2 ⟨rfl, h1, k1⟩
  obtain ⟨rb, hrb⟩ : ∃ rb, rb = w1.heap.size := ⟨_, rfl⟩
  rw [← hrb] at h1 k1 ⊢
  have hlt : w.heap.size ≤ rb := by rw [hrb]; exact HB.out.size
  have H2 : Hid (RdAt 66 rb ⟨l, 0⟩ w2 ∧ Below w.heap.size w w2) := ⟨h1, HB.out.trans (k1.mono (by omega))⟩
  clear h1 k1 hrb HB
  go_wp2_with fail
  obtain ⟨wb, hwb⟩ : ∃ wb, wb = w2.heap.size := ⟨_, rfl⟩
  have hrw : rb < wb := by rw [hwb]; exact H2.out.1.lt
  have H3 : Hid (RdAt 66 rb ⟨l, 0⟩ (w2.alloc (Obj.cells #[Value.string (bs l), Value.int IntKind.i64 0] 54)) ∧ RdAt 54 wb ⟨l, 0⟩ (w2.alloc (Obj.cells #[Value.string (bs l), Value.int IntKind.i64 0] 54)) ∧ Below w.heap.size w (w2.alloc (Obj.cells #[Value.string (bs l), Value.int IntKind.i64 0] 54))) :=
    ⟨H2.out.1.alloc _, by rw [hwb]; exact heap_alloc_new w2 _, H2.out.2.alloc H2.out.2.size _⟩
  rw [← hwb]
  clear hwb H2
  generalize w2.alloc (Obj.cells #[Value.string (bs l), Value.int IntKind.i64 0] 54) = w3 at H3 ⊢
  go_loopw [20] (fun i wr => ∃ (k : Nat) (st : St), k ≤ fs.length ∧ i = .int .i64 k ∧ RdAt 66 rb st wr ∧ RdAt 54 wb st wr ∧ st.l.length ≤ l.length ∧ Below w.heap.size w wr) (fun i _ => fs.length - (intOf i).toNat)
  case atStart => exact ⟨0, ⟨l, 0⟩, Nat.zero_le _, rfl, H3.out.1, H3.out.2.1, Nat.le_refl _, H3.out.2.2⟩
  case round =>
    obtain ⟨k, st, hk, rfl, hr, hw, hst, hbel⟩ := hrel
    have H4 : Hid (RdAt 66 rb st wr ∧ RdAt 54 wb st wr ∧ Below w.heap.size w wr) := ⟨hr, hw, hbel⟩
    clear hr hw hbel H3
    by_cases hkl : k < fs.length
    · obtain ⟨hat, hok⟩ := HC.out k (by trivial) hkl
      obtain ⟨x, hx⟩ : ∃ x, x = fs.getD k dflt := ⟨_, rfl⟩
      rw [← hx] at hat hok
      clear hx
      obtain rfl : ao = some ⟨b, off, none⟩ := HA.out (by trivial) (by omega)
      have hbw : b < w.heap.size := World.block_lt_of_cell? _ _ hat.1
      obtain ⟨y0, y1, y2, y3, y4⟩ := hat.on H4.out.2.2 hbw
      clear hat
      obtain ⟨ok0, ok1, ok2, ok3, ok4, ok5⟩ := hok
      obtain ⟨bk, hbk⟩ : ∃ bk : Bool, ((k : Int) == 200) = bk := ⟨_, rfl⟩
      cases bk
      · go_wp2_with fail
        · skip
          obtain ⟨xb, hxb⟩ : ∃ xb, xb = wr.heap.size := ⟨_, rfl⟩
          have hwx : wb < xb := by rw [hxb]; exact H4.out.2.1.lt
          have HZ0 : Hid (RdAt 66 rb st (wr.alloc (Obj.cells #[Value.int IntKind.i64 x.k, Value.int IntKind.u64 x.n, Value.string (bs x.s), Value.int IntKind.u64 x.p, Value.int IntKind.u32 x.q] 33)) ∧ RdAt 54 wb st (wr.alloc (Obj.cells #[Value.int IntKind.i64 x.k, Value.int IntKind.u64 x.n, Value.string (bs x.s), Value.int IntKind.u64 x.p, Value.int IntKind.u32 x.q] 33)) ∧ (wr.alloc (Obj.cells #[Value.int IntKind.i64 x.k, Value.int IntKind.u64 x.n, Value.string (bs x.s), Value.int IntKind.u64 x.p, Value.int IntKind.u32 x.q] 33)).heap[xb]? = some (Obj.cells #[Value.int IntKind.i64 x.k, Value.int IntKind.u64 x.n, Value.string (bs x.s), Value.int IntKind.u64 x.p, Value.int IntKind.u32 x.q] 33 (0, 0)) ∧ Below w.heap.size w (wr.alloc (Obj.cells #[Value.int IntKind.i64 x.k, Value.int IntKind.u64 x.n, Value.string (bs x.s), Value.int IntKind.u64 x.p, Value.int IntKind.u32 x.q] 33))) :=
            ⟨H4.out.1.alloc _, H4.out.2.1.alloc _, by rw [hxb]; exact heap_alloc_new wr _, H4.out.2.2.alloc H4.out.2.2.size _⟩
          rw [← hxb]
          clear hxb
          generalize wr.alloc (Obj.cells #[Value.int IntKind.i64 x.k, Value.int IntKind.u64 x.n, Value.string (bs x.s), Value.int IntKind.u64 x.p, Value.int IntKind.u32 x.q] 33) = W at HZ0 ⊢
          clear H4 y0 y1 y2 y3 y4
          obtain ⟨_, z1, _, _, _⟩ := five_cells HZ0.out.2.2.1
          obtain ⟨⟨n1, s1⟩, hf⟩ : ∃ f, f = rdNum x.n st := ⟨_, rfl⟩
          have hl1 := (rdNum_le x.n st).2.1
          rw [← hf] at hl1
          have HF : Hid (rdNum x.n st = (n1, s1)) := hf.symm
          clear hf
          dsimp only at hl1
          go_region_with (first
            | (go_at_call 20; refine (num20' HF.out HZ0.out.1.drew (by omega)).mono ?_; rintro e W1 ⟨rfl, h1, k1⟩; have HZ1 : Hid (RdAt 66 rb s1 W1 ∧ RdAt 54 wb st W1 ∧ W1.heap[xb]? = some (Obj.cells #[Value.int IntKind.i64 x.k, Value.int IntKind.u64 x.n, Value.string (bs x.s), Value.int IntKind.u64 x.p, Value.int IntKind.u32 x.q] 33 (0, 0)) ∧ Below w.heap.size w W1) := ⟨h1, HZ0.out.2.1.drew.sole k1 (by omega), (k1.block xb (lt_of_block HZ0.out.2.2.1) (by omega)).trans HZ0.out.2.2.1, HZ0.out.2.2.2.drew.trans (k1.below (by omega) HZ0.out.2.2.2.size)⟩; have z1' := (five_cells HZ1.out.2.2.1).2.1; clear h1 k1)
            | (go_at_call 26; refine (num26' HF.out HZ1.out.2.1 (by omega)).mono ?_; rintro e W2 ⟨rfl, h2, k2⟩; have HZ : Hid (RdAt 66 rb s1 W2 ∧ RdAt 54 wb s1 W2 ∧ s1.l.length ≤ l.length ∧ Below w.heap.size w W2) := ⟨HZ1.out.1.sole k2 (by omega), h2, by omega, HZ1.out.2.2.2.trans (k2.below (by omega) HZ1.out.2.2.2.size)⟩; clear h2 k2))
          all_goals
            skip
            obtain ⟨m0, m1, _, _⟩ := two_cells HZ.out.2.1
            have hbsl := bs_size s1.l
            go_wp2_with fail
            go_quiet (first | (go_at_call 32; refine Calls.quiet_of_same ((err32 rb s1 _ HZ.out.1.drewN).mono (fun e w' h => ⟨h.1, h.2.symm⟩))) | (go_at_call 24; refine Calls.quiet_of_same ((left24 rb s1 _ HZ.out.1.drewN).mono (fun e w' h => ⟨h.1, h.2.symm⟩))) | (go_at_call 25; refine Calls.quiet_of_same ((end25 rb s1 _ HZ.out.1.drewN).mono (fun e w' h => ⟨h.1, h.2.symm⟩))) | (go_at_call 33; refine Calls.quiet_of_same ((end33 wb s1 _ HZ.out.2.1.drewN).mono (fun e w' h => ⟨h.1, h.2.symm⟩))))
            go_wp2
            go_roundw
            case rel => exact ⟨k + 1, s1, by omega, by go_num, HZ.out.1.drewN, HZ.out.2.1.drewN, HZ.out.2.2.1, Below.drewN HZ.out.2.2.2⟩
            case measure => simp [intOf]; omega
        · skip
          obtain ⟨xb, hxb⟩ : ∃ xb, xb = wr.heap.size := ⟨_, rfl⟩
          have hwx : wb < xb := by rw [hxb]; exact H4.out.2.1.lt
          have HZ0 : Hid (RdAt 66 rb st (wr.alloc (Obj.cells #[Value.int IntKind.i64 x.k, Value.int IntKind.u64 x.n, Value.string (bs x.s), Value.int IntKind.u64 x.p, Value.int IntKind.u32 x.q] 33)) ∧ RdAt 54 wb st (wr.alloc (Obj.cells #[Value.int IntKind.i64 x.k, Value.int IntKind.u64 x.n, Value.string (bs x.s), Value.int IntKind.u64 x.p, Value.int IntKind.u32 x.q] 33)) ∧ (wr.alloc (Obj.cells #[Value.int IntKind.i64 x.k, Value.int IntKind.u64 x.n, Value.string (bs x.s), Value.int IntKind.u64 x.p, Value.int IntKind.u32 x.q] 33)).heap[xb]? = some (Obj.cells #[Value.int IntKind.i64 x.k, Value.int IntKind.u64 x.n, Value.string (bs x.s), Value.int IntKind.u64 x.p, Value.int IntKind.u32 x.q] 33 (0, 0)) ∧ Below w.heap.size w (wr.alloc (Obj.cells #[Value.int IntKind.i64 x.k, Value.int IntKind.u64 x.n, Value.string (bs x.s), Value.int IntKind.u64 x.p, Value.int IntKind.u32 x.q] 33))) :=
            ⟨H4.out.1.alloc _, H4.out.2.1.alloc _, by rw [hxb]; exact heap_alloc_new wr _, H4.out.2.2.alloc H4.out.2.2.size _⟩
          rw [← hxb]
          clear hxb
          generalize wr.alloc (Obj.cells #[Value.int IntKind.i64 x.k, Value.int IntKind.u64 x.n, Value.string (bs x.s), Value.int IntKind.u64 x.p, Value.int IntKind.u32 x.q] 33) = W at HZ0 ⊢
          clear H4 y0 y1 y2 y3 y4
          obtain ⟨_, z1, z2, _, _⟩ := five_cells HZ0.out.2.2.1
          have hbx := bs_size x.s
          go_quiet (fail)
          go_wp2_with fail
          obtain ⟨⟨t1, s1⟩, hf⟩ : ∃ f, f = rdText ((x.n : Int) % 300 - 100) x.s.length st := ⟨_, rfl⟩
          have hl1 := (text_len ((x.n : Int) % 300 - 100) x.s.length st).1
          rw [← hf] at hl1
          have HF : Hid (rdText ((x.n : Int) % 300 - 100) x.s.length st = (t1, s1)) := hf.symm
          clear hf
          dsimp only at hl1
          refine (text21' HF.out HZ0.out.1.drewN (by omega) (by omega) (by omega) (by omega) (by omega)).mono ?_
          rintro e W1 ⟨rfl, h1, k1⟩
          have HZ1 : Hid (RdAt 66 rb s1 W1 ∧ RdAt 54 wb st W1 ∧ Below w.heap.size w W1) := ⟨h1, RdAt.sole HZ0.out.2.1.drewN k1 (by omega), (Below.drewN HZ0.out.2.2.2).trans (k1.below (by omega) (Below.drewN HZ0.out.2.2.2).size)⟩
          clear h1 k1
          go_wp2_with fail
          refine (text27' HF.out HZ1.out.2.1 (by omega) (by omega) (by omega) (by omega) (by omega)).mono ?_
          rintro e W2 ⟨rfl, h2, k2⟩
          have HZ : Hid (RdAt 66 rb s1 W2 ∧ RdAt 54 wb s1 W2 ∧ s1.l.length ≤ l.length ∧ Below w.heap.size w W2) := ⟨HZ1.out.1.sole k2 (by omega), h2, by omega, HZ1.out.2.2.trans (k2.below (by omega) HZ1.out.2.2.size)⟩
          clear h2 k2 HZ1 z1 z2
          obtain ⟨m0, m1, _, _⟩ := two_cells HZ.out.2.1
          have hbsl := bs_size s1.l
          go_wp2_with fail
          go_quiet (first | (go_at_call 32; refine Calls.quiet_of_same ((err32 rb s1 _ HZ.out.1.drewN).mono (fun e w' h => ⟨h.1, h.2.symm⟩))) | (go_at_call 24; refine Calls.quiet_of_same ((left24 rb s1 _ HZ.out.1.drewN).mono (fun e w' h => ⟨h.1, h.2.symm⟩))) | (go_at_call 25; refine Calls.quiet_of_same ((end25 rb s1 _ HZ.out.1.drewN).mono (fun e w' h => ⟨h.1, h.2.symm⟩))) | (go_at_call 33; refine Calls.quiet_of_same ((end33 wb s1 _ HZ.out.2.1.drewN).mono (fun e w' h => ⟨h.1, h.2.symm⟩))))
          go_wp2
          go_roundw
          case rel => exact ⟨k + 1, s1, by omega, by go_num, HZ.out.1.drewN, HZ.out.2.1.drewN, HZ.out.2.2.1, Below.drewN HZ.out.2.2.2⟩
          case measure => simp [intOf]; omega
        · skip
          obtain ⟨xb, hxb⟩ : ∃ xb, xb = wr.heap.size := ⟨_, rfl⟩
          have hwx : wb < xb := by rw [hxb]; exact H4.out.2.1.lt
          have HZ0 : Hid (RdAt 66 rb st (wr.alloc (Obj.cells #[Value.int IntKind.i64 x.k, Value.int IntKind.u64 x.n, Value.string (bs x.s), Value.int IntKind.u64 x.p, Value.int IntKind.u32 x.q] 33)) ∧ RdAt 54 wb st (wr.alloc (Obj.cells #[Value.int IntKind.i64 x.k, Value.int IntKind.u64 x.n, Value.string (bs x.s), Value.int IntKind.u64 x.p, Value.int IntKind.u32 x.q] 33)) ∧ (wr.alloc (Obj.cells #[Value.int IntKind.i64 x.k, Value.int IntKind.u64 x.n, Value.string (bs x.s), Value.int IntKind.u64 x.p, Value.int IntKind.u32 x.q] 33)).heap[xb]? = some (Obj.cells #[Value.int IntKind.i64 x.k, Value.int IntKind.u64 x.n, Value.string (bs x.s), Value.int IntKind.u64 x.p, Value.int IntKind.u32 x.q] 33 (0, 0)) ∧ Below w.heap.size w (wr.alloc (Obj.cells #[Value.int IntKind.i64 x.k, Value.int IntKind.u64 x.n, Value.string (bs x.s), Value.int IntKind.u64 x.p, Value.int IntKind.u32 x.q] 33))) :=
            ⟨H4.out.1.alloc _, H4.out.2.1.alloc _, by rw [hxb]; exact heap_alloc_new wr _, H4.out.2.2.alloc H4.out.2.2.size _⟩
          rw [← hxb]
          clear hxb
          generalize wr.alloc (Obj.cells #[Value.int IntKind.i64 x.k, Value.int IntKind.u64 x.n, Value.string (bs x.s), Value.int IntKind.u64 x.p, Value.int IntKind.u32 x.q] 33) = W at HZ0 ⊢
          clear H4 y0 y1 y2 y3 y4
          obtain ⟨⟨n1, s1⟩, hf⟩ : ∃ f, f = rdFlag st := ⟨_, rfl⟩
          have hl1 := flag_len st
          rw [← hf] at hl1
          have HF : Hid (rdFlag st = (n1, s1)) := hf.symm
          clear hf
          dsimp only at hl1
          refine (flag22' HF.out HZ0.out.1).mono ?_
          rintro e W1 ⟨rfl, h1, k1⟩
          have HZ1 : Hid (RdAt 66 rb s1 W1 ∧ RdAt 54 wb st W1 ∧ Below w.heap.size w W1) := ⟨h1, HZ0.out.2.1.sole k1 (by omega), HZ0.out.2.2.2.trans (k1.below (by omega) HZ0.out.2.2.2.size)⟩
          clear h1 k1
          go_wp2_with fail
          refine (flag28' HF.out HZ1.out.2.1).mono ?_
          rintro e W2 ⟨rfl, h2, k2⟩
          have HZ : Hid (RdAt 66 rb s1 W2 ∧ RdAt 54 wb s1 W2 ∧ s1.l.length ≤ l.length ∧ Below w.heap.size w W2) := ⟨HZ1.out.1.sole k2 (by omega), h2, by omega, HZ1.out.2.2.trans (k2.below (by omega) HZ1.out.2.2.size)⟩
          clear h2 k2 HZ1
          obtain ⟨m0, m1, _, _⟩ := two_cells HZ.out.2.1
          have hbsl := bs_size s1.l
          go_wp2_with fail
          go_quiet (first | (go_at_call 32; refine Calls.quiet_of_same ((err32 rb s1 _ HZ.out.1.drewN).mono (fun e w' h => ⟨h.1, h.2.symm⟩))) | (go_at_call 24; refine Calls.quiet_of_same ((left24 rb s1 _ HZ.out.1.drewN).mono (fun e w' h => ⟨h.1, h.2.symm⟩))) | (go_at_call 25; refine Calls.quiet_of_same ((end25 rb s1 _ HZ.out.1.drewN).mono (fun e w' h => ⟨h.1, h.2.symm⟩))) | (go_at_call 33; refine Calls.quiet_of_same ((end33 wb s1 _ HZ.out.2.1.drewN).mono (fun e w' h => ⟨h.1, h.2.symm⟩))))
          go_wp2
          go_roundw
          case rel => exact ⟨k + 1, s1, by omega, by go_num, HZ.out.1.drewN, HZ.out.2.1.drewN, HZ.out.2.2.1, Below.drewN HZ.out.2.2.2⟩
          case measure => simp [intOf]; omega
        · skip
          obtain ⟨xb, hxb⟩ : ∃ xb, xb = wr.heap.size := ⟨_, rfl⟩
          have hwx : wb < xb := by rw [hxb]; exact H4.out.2.1.lt
          have HZ0 : Hid (RdAt 66 rb st (wr.alloc (Obj.cells #[Value.int IntKind.i64 x.k, Value.int IntKind.u64 x.n, Value.string (bs x.s), Value.int IntKind.u64 x.p, Value.int IntKind.u32 x.q] 33)) ∧ RdAt 54 wb st (wr.alloc (Obj.cells #[Value.int IntKind.i64 x.k, Value.int IntKind.u64 x.n, Value.string (bs x.s), Value.int IntKind.u64 x.p, Value.int IntKind.u32 x.q] 33)) ∧ (wr.alloc (Obj.cells #[Value.int IntKind.i64 x.k, Value.int IntKind.u64 x.n, Value.string (bs x.s), Value.int IntKind.u64 x.p, Value.int IntKind.u32 x.q] 33)).heap[xb]? = some (Obj.cells #[Value.int IntKind.i64 x.k, Value.int IntKind.u64 x.n, Value.string (bs x.s), Value.int IntKind.u64 x.p, Value.int IntKind.u32 x.q] 33 (0, 0)) ∧ Below w.heap.size w (wr.alloc (Obj.cells #[Value.int IntKind.i64 x.k, Value.int IntKind.u64 x.n, Value.string (bs x.s), Value.int IntKind.u64 x.p, Value.int IntKind.u32 x.q] 33))) :=
            ⟨H4.out.1.alloc _, H4.out.2.1.alloc _, by rw [hxb]; exact heap_alloc_new wr _, H4.out.2.2.alloc H4.out.2.2.size _⟩
          rw [← hxb]
          clear hxb
          generalize wr.alloc (Obj.cells #[Value.int IntKind.i64 x.k, Value.int IntKind.u64 x.n, Value.string (bs x.s), Value.int IntKind.u64 x.p, Value.int IntKind.u32 x.q] 33) = W at HZ0 ⊢
          clear H4 y0 y1 y2 y3 y4
          obtain ⟨⟨⟨n1, n2⟩, s1⟩, hf⟩ : ∃ f, f = rdStamp st := ⟨_, rfl⟩
          have hl1 := stamp_len st
          rw [← hf] at hl1
          have HF : Hid (rdStamp st = ((n1, n2), s1)) := hf.symm
          clear hf
          dsimp only at hl1
          refine (stamp23' HF.out HZ0.out.1 (by omega)).mono ?_
          rintro e W1 ⟨rfl, h1, k1⟩
          have HZ1 : Hid (RdAt 66 rb s1 W1 ∧ RdAt 54 wb st W1 ∧ Below w.heap.size w W1) := ⟨h1, HZ0.out.2.1.sole k1 (by omega), HZ0.out.2.2.2.trans (k1.below (by omega) HZ0.out.2.2.2.size)⟩
          clear h1 k1
          go_wp2_with fail
          refine (stamp29' HF.out HZ1.out.2.1 (by omega)).mono ?_
          rintro e W2 ⟨rfl, h2, k2⟩
          have HZ : Hid (RdAt 66 rb s1 W2 ∧ RdAt 54 wb s1 W2 ∧ s1.l.length ≤ l.length ∧ Below w.heap.size w W2) := ⟨HZ1.out.1.sole k2 (by omega), h2, by omega, HZ1.out.2.2.trans (k2.below (by omega) HZ1.out.2.2.size)⟩
          clear h2 k2 HZ1
          have h31 := fun wx => run_neq31 n1 n2 wx
          obtain ⟨m0, m1, _, _⟩ := two_cells HZ.out.2.1
          have hbsl := bs_size s1.l
          go_wp2_with fail
          go_quiet (first | (go_at_call 32; refine Calls.quiet_of_same ((err32 rb s1 _ HZ.out.1.drewN).mono (fun e w' h => ⟨h.1, h.2.symm⟩))) | (go_at_call 24; refine Calls.quiet_of_same ((left24 rb s1 _ HZ.out.1.drewN).mono (fun e w' h => ⟨h.1, h.2.symm⟩))) | (go_at_call 25; refine Calls.quiet_of_same ((end25 rb s1 _ HZ.out.1.drewN).mono (fun e w' h => ⟨h.1, h.2.symm⟩))) | (go_at_call 33; refine Calls.quiet_of_same ((end33 wb s1 _ HZ.out.2.1.drewN).mono (fun e w' h => ⟨h.1, h.2.symm⟩))))
          go_wp2
          go_roundw
          case rel => exact ⟨k + 1, s1, by omega, by go_num, HZ.out.1.drewN, HZ.out.2.1.drewN, HZ.out.2.2.1, Below.drewN HZ.out.2.2.2⟩
          case measure => simp [intOf]; omega
        · skip
          obtain ⟨xb, hxb⟩ : ∃ xb, xb = wr.heap.size := ⟨_, rfl⟩
          have hwx : wb < xb := by rw [hxb]; exact H4.out.2.1.lt
          have HZ0 : Hid (RdAt 66 rb st (wr.alloc (Obj.cells #[Value.int IntKind.i64 x.k, Value.int IntKind.u64 x.n, Value.string (bs x.s), Value.int IntKind.u64 x.p, Value.int IntKind.u32 x.q] 33)) ∧ RdAt 54 wb st (wr.alloc (Obj.cells #[Value.int IntKind.i64 x.k, Value.int IntKind.u64 x.n, Value.string (bs x.s), Value.int IntKind.u64 x.p, Value.int IntKind.u32 x.q] 33)) ∧ (wr.alloc (Obj.cells #[Value.int IntKind.i64 x.k, Value.int IntKind.u64 x.n, Value.string (bs x.s), Value.int IntKind.u64 x.p, Value.int IntKind.u32 x.q] 33)).heap[xb]? = some (Obj.cells #[Value.int IntKind.i64 x.k, Value.int IntKind.u64 x.n, Value.string (bs x.s), Value.int IntKind.u64 x.p, Value.int IntKind.u32 x.q] 33 (0, 0)) ∧ Below w.heap.size w (wr.alloc (Obj.cells #[Value.int IntKind.i64 x.k, Value.int IntKind.u64 x.n, Value.string (bs x.s), Value.int IntKind.u64 x.p, Value.int IntKind.u32 x.q] 33))) :=
            ⟨H4.out.1.alloc _, H4.out.2.1.alloc _, by rw [hxb]; exact heap_alloc_new wr _, H4.out.2.2.alloc H4.out.2.2.size _⟩
          rw [← hxb]
          clear hxb
          generalize wr.alloc (Obj.cells #[Value.int IntKind.i64 x.k, Value.int IntKind.u64 x.n, Value.string (bs x.s), Value.int IntKind.u64 x.p, Value.int IntKind.u32 x.q] 33) = W at HZ0 ⊢
          clear H4 y0 y1 y2 y3 y4
          obtain ⟨_, z1, _, _, _⟩ := five_cells HZ0.out.2.2.1
          obtain ⟨⟨n1, s1⟩, hf⟩ : ∃ f, f = rdNum (IntKind.i64.wrap (x.n : Int)).toNat st := ⟨_, rfl⟩
          have hl1 := (rdNum_le (IntKind.i64.wrap (x.n : Int)).toNat st).2.1
          rw [← hf] at hl1
          have HF : Hid (rdNum (IntKind.i64.wrap (x.n : Int)).toNat st = (n1, s1)) := hf.symm
          clear hf
          dsimp only at hl1
          go_region_with (first
            | (go_at_call 30; refine (count30' HF.out HZ0.out.1.drew (by omega) (wrap_in _).1 (wrap_in _).2).mono ?_; rintro e W1 ⟨rfl, h1, k1⟩; have HZ1 : Hid (RdAt 66 rb s1 W1 ∧ RdAt 54 wb st W1 ∧ W1.heap[xb]? = some (Obj.cells #[Value.int IntKind.i64 x.k, Value.int IntKind.u64 x.n, Value.string (bs x.s), Value.int IntKind.u64 x.p, Value.int IntKind.u32 x.q] 33 (0, 0)) ∧ Below w.heap.size w W1) := ⟨h1, HZ0.out.2.1.drew.sole k1 (by omega), (k1.block xb (lt_of_block HZ0.out.2.2.1) (by omega)).trans HZ0.out.2.2.1, HZ0.out.2.2.2.drew.trans (k1.below (by omega) HZ0.out.2.2.2.size)⟩; have z1' := (five_cells HZ1.out.2.2.1).2.1; clear h1 k1)
            | (go_at_call 31; refine (count31' HF.out HZ1.out.2.1 (by omega) (wrap_in _).1 (wrap_in _).2).mono ?_; rintro e W2 ⟨rfl, h2, k2⟩; have HZ : Hid (RdAt 66 rb s1 W2 ∧ RdAt 54 wb s1 W2 ∧ s1.l.length ≤ l.length ∧ Below w.heap.size w W2) := ⟨HZ1.out.1.sole k2 (by omega), h2, by omega, HZ1.out.2.2.2.trans (k2.below (by omega) HZ1.out.2.2.2.size)⟩; clear h2 k2))
          all_goals
            skip
            obtain ⟨m0, m1, _, _⟩ := two_cells HZ.out.2.1
            have hbsl := bs_size s1.l
            go_wp2_with fail
            go_quiet (first | (go_at_call 32; refine Calls.quiet_of_same ((err32 rb s1 _ HZ.out.1.drewN).mono (fun e w' h => ⟨h.1, h.2.symm⟩))) | (go_at_call 24; refine Calls.quiet_of_same ((left24 rb s1 _ HZ.out.1.drewN).mono (fun e w' h => ⟨h.1, h.2.symm⟩))) | (go_at_call 25; refine Calls.quiet_of_same ((end25 rb s1 _ HZ.out.1.drewN).mono (fun e w' h => ⟨h.1, h.2.symm⟩))) | (go_at_call 33; refine Calls.quiet_of_same ((end33 wb s1 _ HZ.out.2.1.drewN).mono (fun e w' h => ⟨h.1, h.2.symm⟩))))
            go_wp2
            go_roundw
            case rel => exact ⟨k + 1, s1, by omega, by go_num, HZ.out.1.drewN, HZ.out.2.1.drewN, HZ.out.2.2.1, Below.drewN HZ.out.2.2.2⟩
            case measure => simp [intOf]; omega
        · skip
          obtain ⟨xb, hxb⟩ : ∃ xb, xb = wr.heap.size := ⟨_, rfl⟩
          have hwx : wb < xb := by rw [hxb]; exact H4.out.2.1.lt
          have HZ0 : Hid (RdAt 66 rb st (wr.alloc (Obj.cells #[Value.int IntKind.i64 x.k, Value.int IntKind.u64 x.n, Value.string (bs x.s), Value.int IntKind.u64 x.p, Value.int IntKind.u32 x.q] 33)) ∧ RdAt 54 wb st (wr.alloc (Obj.cells #[Value.int IntKind.i64 x.k, Value.int IntKind.u64 x.n, Value.string (bs x.s), Value.int IntKind.u64 x.p, Value.int IntKind.u32 x.q] 33)) ∧ (wr.alloc (Obj.cells #[Value.int IntKind.i64 x.k, Value.int IntKind.u64 x.n, Value.string (bs x.s), Value.int IntKind.u64 x.p, Value.int IntKind.u32 x.q] 33)).heap[xb]? = some (Obj.cells #[Value.int IntKind.i64 x.k, Value.int IntKind.u64 x.n, Value.string (bs x.s), Value.int IntKind.u64 x.p, Value.int IntKind.u32 x.q] 33 (0, 0)) ∧ Below w.heap.size w (wr.alloc (Obj.cells #[Value.int IntKind.i64 x.k, Value.int IntKind.u64 x.n, Value.string (bs x.s), Value.int IntKind.u64 x.p, Value.int IntKind.u32 x.q] 33))) :=
            ⟨H4.out.1.alloc _, H4.out.2.1.alloc _, by rw [hxb]; exact heap_alloc_new wr _, H4.out.2.2.alloc H4.out.2.2.size _⟩
          rw [← hxb]
          clear hxb
          generalize wr.alloc (Obj.cells #[Value.int IntKind.i64 x.k, Value.int IntKind.u64 x.n, Value.string (bs x.s), Value.int IntKind.u64 x.p, Value.int IntKind.u32 x.q] 33) = W at HZ0 ⊢
          clear H4 y0 y1 y2 y3 y4
          have HZ : Hid (RdAt 66 rb st W ∧ RdAt 54 wb st W ∧ st.l.length ≤ l.length ∧ Below w.heap.size w W) := ⟨HZ0.out.1, HZ0.out.2.1, hst, HZ0.out.2.2.2⟩
          obtain ⟨m0, m1, _, _⟩ := two_cells HZ.out.2.1
          have hbsl := bs_size st.l
          go_wp2_with fail
          go_quiet (first | (go_at_call 32; refine Calls.quiet_of_same ((err32 rb st _ HZ.out.1.drewN).mono (fun e w' h => ⟨h.1, h.2.symm⟩))) | (go_at_call 24; refine Calls.quiet_of_same ((left24 rb st _ HZ.out.1.drewN).mono (fun e w' h => ⟨h.1, h.2.symm⟩))) | (go_at_call 25; refine Calls.quiet_of_same ((end25 rb st _ HZ.out.1.drewN).mono (fun e w' h => ⟨h.1, h.2.symm⟩))) | (go_at_call 33; refine Calls.quiet_of_same ((end33 wb st _ HZ.out.2.1.drewN).mono (fun e w' h => ⟨h.1, h.2.symm⟩))))
          go_wp2
          go_roundw
          case rel => exact ⟨k + 1, st, by omega, by go_num, HZ.out.1.drewN, HZ.out.2.1.drewN, HZ.out.2.2.1, Below.drewN HZ.out.2.2.2⟩
          case measure => simp [intOf]; omega
      · go_wp2_with (first
          | (go_at_call 25; refine (end25 rb st _ (H4.out.1.alloc _)).mono ?_; rintro e w8 ⟨rfl, rfl⟩)
          | (go_at_call 33; refine (end33 wb st _ (H4.out.2.1.alloc _)).mono ?_; rintro e w8 ⟨rfl, rfl⟩))
        go_ret
        exact ⟨rfl, H4.out.2.2.alloc H4.out.2.2.size _⟩
    · go_wp2_with (first
        | (go_at_call 25; refine (end25 rb st _ H4.out.1).mono ?_; rintro e w8 ⟨rfl, rfl⟩)
        | (go_at_call 33; refine (end33 wb st _ H4.out.2.1).mono ?_; rintro e w8 ⟨rfl, rfl⟩))
      go_ret
      exact ⟨rfl, H4.out.2.2⟩

end Go.Proofs.Ytgkbefeiknfjcaa
