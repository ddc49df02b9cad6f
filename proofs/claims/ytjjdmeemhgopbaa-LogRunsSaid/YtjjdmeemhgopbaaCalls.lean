/-
  Contracts of the log's Append, Size and Gen.
-/
import Derived.Test.YtjjdmeemhgopbaaHead
import Derived.Test.YtjjdmeemhgopbaaDRefAsk
import Derived.Deep.RegionHeld3
namespace Go.Proofs.Ytjjdmeemhgopbaa
open Go.RowKit Go.Sort
open Drm (Dr Pt DrumAt DrumIn)

/-- A log's block. -/
def LbAt (lb pb : Nat) (a : Int) (g : Nat) (w : World) : Prop := w.heap[lb]? = some (.cells #[.pointer (some ⟨pb, 0, none⟩), .int .i64 a, .int .u64 g] 78 (0, 0))

/-- A log in block lb, of the drum D in block pb. -/
structure LgAt (lb pb : Nat) (a : Int) (g : Nat) (D : Dr) (w : World) : Prop where
  blk : LbAt lb pb a g w
  drum : DrumAt pb D w
  ne : pb < lb

section
variable {lb pb g : Nat} {a : Int} {D : Dr} {w : World}
theorem LbAt.lt (h : LbAt lb pb a g w) : lb < w.heap.size := lt_of_block h
theorem LbAt.cells (h : LbAt lb pb a g w) : w.cell? ⟨lb, 0, none⟩ = some (.pointer (some ⟨pb, 0, none⟩)) ∧ w.cell? ⟨lb, 1, none⟩ = some (.int .i64 a) ∧ w.cell? ⟨lb, 2, none⟩ = some (.int .u64 g) ∧ ∀ k, w.frozen? ⟨lb, k, none⟩ = false := by
  unfold LbAt at h
  refine ⟨?_, ?_, ?_, fun k => ?_⟩ <;> simp [World.cell?, World.frozen?, h]
theorem LbAt.on {w' : World} (h : LbAt lb pb a g w) (hb : Below w.heap.size w w') : LbAt lb pb a g w' := by
  unfold LbAt
  rw [hb.block lb h.lt]
  exact h
theorem LbAt.kept {w' : World} (h : LbAt lb pb a g w) (hne : pb < lb) (hk : Drm.Kept pb w w') : LbAt lb pb a g w' :=
  hk.other lb _ h (by omega) (by intro cs fz e; injection e with _ e _; exact absurd e (by decide))
theorem LgAt.on {w' : World} (h : LgAt lb pb a g D w) (hb : Below w.heap.size w w') : LgAt lb pb a g D w' := ⟨h.blk.on hb, h.drum.on hb, h.ne⟩
theorem LgAt.kept {D' : Dr} {w' : World} (h : LgAt lb pb a g D w) (hd : DrumAt pb D' w') (hk : Drm.Kept pb w w') : LgAt lb pb a g D' w' := ⟨h.blk.kept h.ne hk, hd, h.ne⟩
end

/-- Below pb all is as it was; from there on whatever is neither the drum's nor the log's block, nor a row of bytes. -/
structure Keep2 (lb pb : Nat) (w w' : World) : Prop where
  below : Below pb w w'
  other : ∀ k o, w.heap[k]? = some o → k ≠ pb → k ≠ lb → (∀ cs fz, o ≠ .cells cs 5 fz) → w'.heap[k]? = some o
theorem Keep2.refl (lb pb : Nat) (w : World) : Keep2 lb pb w w := ⟨Below.refl _ _, fun _ _ h _ _ _ => h⟩
theorem Keep2.trans {lb pb : Nat} {a b c : World} (h : Keep2 lb pb a b) (k : Keep2 lb pb b c) : Keep2 lb pb a c :=
  ⟨h.below.trans k.below, fun i o ho h1 h2 h5 => k.other i o (h.other i o ho h1 h2 h5) h1 h2 h5⟩
theorem Keep2.of {lb pb : Nat} {w w' : World} (h : Drm.Kept pb w w') : Keep2 lb pb w w' := ⟨h.below, fun k o hk h1 _ h5 => h.other k o hk h1 h5⟩
theorem Keep2.set {lb pb : Nat} {w0 w : World} (h : Keep2 lb pb w0 w) (hp : pb < lb) (o : Nat) (v : Value) : Keep2 lb pb w0 (w.setCell ⟨lb, o, none⟩ v) :=
  ⟨h.below.setCell (p := ⟨lb, o, none⟩) (Nat.le_of_lt hp) _, fun k o' ho h1 h2 h5 => by rw [Below.heap_setCell _ _ _ _ h2]; exact h.other k o' ho h1 h2 h5⟩
theorem StrsAt.keep2 {lb pb : Nat} {v : Value} {R : List (List UInt8)} {w w' : World} {a : Int} {g : Nat} (h : StrsAt pb v R w) (hl : LbAt lb pb a g w) (hk : Keep2 lb pb w w') : StrsAt pb v R w' := by
  obtain ⟨ao, cap, rfl, h⟩ := h
  refine ⟨ao, cap, rfl, fun h0 => ?_⟩
  obtain ⟨b, o, rfl, hne, hc, hor⟩ := h h0
  have hblk : w'.heap[b]? = w.heap[b]? := by
    rcases hor with h1 | ⟨cs, fz, h1⟩
    · exact hk.below.block b h1
    · rw [h1]
      refine hk.other b _ h1 hne ?_ (by intro cs' fz' e; injection e with _ e _; exact absurd e (by decide))
      rintro rfl
      unfold LbAt at hl
      rw [h1] at hl
      injection hl with hl
      injection hl with _ hl _
      exact absurd hl (by decide)
  refine ⟨b, o, rfl, hne, fun i hi => ?_, ?_⟩
  · have := hc i hi
    unfold World.cell? at this ⊢
    dsimp only at this ⊢
    rw [hblk]
    exact this
  · rcases hor with h1 | ⟨cs, fz, h1⟩
    · exact .inl h1
    · exact .inr ⟨cs, fz, by rw [hblk]; exact h1⟩

set_option maxHeartbeats 400000 in
theorem gen22_nil (w : World) : Calls Try.prog 22 #[.pointer none] w fun e w' => e = .returned (.int .u64 0) ∧ w = w' := by
  go_enter Try.func22, Try.ntmps22
  go_wp2
  go_ret
  exact ⟨rfl, rfl⟩

set_option maxHeartbeats 400000 in
theorem gen22 (lb pb g : Nat) (a : Int) (w : World) (h : LbAt lb pb a g w) : Calls Try.prog 22 #[.pointer (some ⟨lb, 0, none⟩)] w fun e w' => e = .returned (.int .u64 g) ∧ w = w' := by
  obtain ⟨c0, c1, c2, cf⟩ := h.cells
  clear h
  go_enter Try.func22, Try.ntmps22
  go_wp2
  go_ret
  exact ⟨rfl, rfl⟩

set_option maxHeartbeats 400000 in
theorem size23_nil (w : World) : Calls Try.prog 23 #[.pointer none] w fun e w' => e = .returned (.int .i64 0) ∧ w = w' := by
  go_enter Try.func23, Try.ntmps23
  go_wp2
  go_ret
  exact ⟨rfl, rfl⟩

set_option maxHeartbeats 800000 in
theorem size23 (lb pb g : Nat) (a : Int) (D : Dr) (w : World) (h : LgAt lb pb a g D w) : Calls Try.prog 23 #[.pointer (some ⟨lb, 0, none⟩)] w fun e w' => e = .returned (.int .i64 (D.read a).1.length) ∧ Below w.heap.size w w' := by
  obtain ⟨c0, c1, c2, cf⟩ := h.blk.cells
  have HR : Hid (∀ w', Below w.heap.size w w' → Calls Try.prog 36 #[.pointer (some ⟨pb, 0, none⟩), .int .i64 a] w' fun e w1 => e = .returned (.tuple #[.string (bs (D.read a).1), .int .i64 (D.read a).2]) ∧ w1 = w') := fun w' hb => (Drm.read10 pb D a w' (h.drum.on hb)).mono fun e w1 h => ⟨h.1, h.2.symm⟩
  have hs : (bs (D.read a).1).size = (D.read a).1.length := bs_size _
  generalize (D.read a).1 = l at *
  generalize (D.read a).2 = x at *
  clear h
  go_enter Try.func23, Try.ntmps23
  go_wp2_with fail
  go_quiet (exact Calls.quiet_of_same (HR.out _ (below_drewN (Below.refl _ _) _)))
  go_wp2
  go_ret
  exact ⟨rfl, below_drewN (Below.refl _ _) _⟩

set_option maxHeartbeats 400000 in
theorem append18_nil (s : ByteArray) (w : World) : Calls Try.prog 18 #[.pointer none, .string s] w fun e w' => e = .returned (.int .i64 11) ∧ w = w' := by
  go_enter Try.func18, Try.ntmps18
  go_wp2
  go_ret
  exact ⟨rfl, rfl⟩

theorem appendF_ok {D : Dr} (h : D.Ok) (a : Int) (r : List UInt8) : (appendF D a r).2.Ok := by
  unfold appendF
  split
  · exact h
  · exact putF_ok h _ _

set_option maxHeartbeats 1600000 in
theorem append18 (lb pb g : Nat) (a : Int) (D : Dr) (r : List UInt8) (w : World) (h : LgAt lb pb a g D w) (hOk : D.Ok) :
    Calls Try.prog 18 #[.pointer (some ⟨lb, 0, none⟩), .string (bs r)] w fun e w' => e = .returned (.int .i64 (appendF D a r).1) ∧ LgAt lb pb a g (appendF D a r).2 w' ∧ Drm.Kept pb w w' := by
  have hs : (bs r).size = r.length := bs_size _
  by_cases hl : 16000 < r.length
  · have hp : appendF D a r = (3, D) := by unfold appendF; rw [if_pos hl]
    rw [hp]
    dsimp only
    have hl' : (16000 : Int) < r.length := by omega
    have H : Hid _ := h
    clear hp h hOk
    go_enter Try.func18, Try.ntmps18
    go_wp2
    go_ret
    exact ⟨rfl, H.out, Drm.Kept.refl _ _⟩
  · have hp : appendF D a r = putF D a (frameOf (82 :: r)) := by unfold appendF; rw [if_neg hl]
    rw [hp]
    have hl' : ¬ (16000 : Int) < r.length := by omega
    obtain ⟨c0, c1, c2, cf⟩ := h.blk.cells
    have HW : Hid (∀ w, 1 = 1 → Calls Try.prog 40 #[.int .u8 82, .string (bs r)] w fun e w' => e = .returned (.string (bs (frameOf (82 :: r)))) ∧ Below w.heap.size w w') := fun w _ => wrap40i 82 82 82 r w rfl rfl (by decide) (by omega)
    have HP : Hid (∀ w1, DrumAt pb D w1 → Calls Try.prog 39 #[.pointer (some ⟨pb, 0, none⟩), .int .i64 a, .string (bs (frameOf (82 :: r)))] w1 fun e w' => e = .returned (.int .i64 (putF D a (frameOf (82 :: r))).1) ∧ DrumAt pb (putF D a (frameOf (82 :: r))).2 w' ∧ Drm.Kept pb w1 w') := fun w1 h1 => put39 pb D a _ w1 h1 hOk
    have H : Hid _ := h
    clear hp h hOk
    generalize putF D a (frameOf (82 :: r)) = y at *
    obtain ⟨x, D1⟩ := y
    generalize bs (frameOf (82 :: r)) = F at *
    dsimp only at HP ⊢
    clear cf
    go_enter Try.func18, Try.ntmps18
    go_wp2_with fail
    go_region_held3 (fun w' => w'.cell? ⟨lb, 0, none⟩ = some (.pointer (some ⟨pb, 0, none⟩)) ∧ w'.cell? ⟨lb, 1, none⟩ = some (.int .i64 a) ∧ Hid (LbAt lb pb a g w'))
      (first | exact ⟨c0, c1, H.out.blk⟩ | exact ⟨(H.out.blk.on (Below.refl _ _).drew).cells.1, (H.out.blk.on (Below.refl _ _).drew).cells.2.1, H.out.blk.on (Below.refl _ _).drew⟩ | exact ⟨H1.out.1.blk.cells.1, H1.out.1.blk.cells.2.1, H1.out.1.blk⟩ | exact ⟨H2.out.1.blk.cells.1, H2.out.1.blk.cells.2.1, H2.out.1.blk⟩)
      (first
      | (go_at_call 40; refine (HW.out _ (by trivial)).mono ?_; rintro e W1 ⟨rfl, hb1⟩; have H1 : Hid (LgAt lb pb a g D W1 ∧ Below w.heap.size w W1) := ⟨(H.out.on (Below.refl _ _).drew).on hb1, ((Below.refl _ _).drew).trans hb1⟩; clear hb1)
      | (go_at_call 39; refine (HP.out _ H1.out.1.drum).mono ?_; rintro e W2 ⟨rfl, h2, k2⟩; have H2 : Hid (LgAt lb pb a g D1 W2 ∧ Drm.Kept pb w W2) := ⟨H1.out.1.kept h2 k2, (Drm.Kept.of_below H.out.drum.lt H1.out.2).trans k2⟩; clear h2 k2))
    go_wp2_with fail
    go_ret
    exact ⟨rfl, H2.out⟩

end Go.Proofs.Ytjjdmeemhgopbaa
