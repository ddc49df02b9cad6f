/-
  Intents in rows; the document's table in memory; Of, Same.
-/
import Derived.Test.YtknfkpnicjellaaProg
import Derived.Test.YtknfkpnicjellaaGr
import Derived.Test.YtknfkpnicjellaaLq
import Derived.Deep.RegionHeld3
namespace Go.Proofs.Ytknfkpnicjellaa
open Go.RowKit

def inc (x : List UInt8 × Ii) : List Value := [.int .u32 x.2.c, .int .u32 x.2.n, .int .u64 x.2.sp, .int .u32 x.2.sl, .int .u64 x.2.mp, .int .u32 x.2.ml, .string (bs x.2.prim), .string (bs x.1), .string (bs x.2.val), .bool x.2.dead]
def inV (x : List UInt8 × Ii) : Value := .agg #[.int .u32 x.2.c, .int .u32 x.2.n, .int .u64 x.2.sp, .int .u32 x.2.sl, .int .u64 x.2.mp, .int .u32 x.2.ml, .string (bs x.2.prim), .string (bs x.1), .string (bs x.2.val), .bool x.2.dead]
theorem inc_len (x : List UInt8 × Ii) : (inc x).length = 10 := rfl
theorem inc_one : ∀ x, ∀ u ∈ inc x, u.oneCell' = true := fun x u hu => by
  simp only [inc, List.mem_cons, List.not_mem_nil, or_false] at hu
  rcases hu with rfl | rfl | rfl | rfl | rfl | rfl | rfl | rfl | rfl | rfl <;> rfl
/-- An intent's ten cells from off on. -/
structure InAt (w : World) (b off : Nat) (x : List UInt8 × Ii) : Prop where
  c0 : w.cell? ⟨b, off, none⟩ = some (.int .u32 x.2.c)
  c1 : w.cell? ⟨b, off + 1, none⟩ = some (.int .u32 x.2.n)
  c2 : w.cell? ⟨b, off + 2, none⟩ = some (.int .u64 x.2.sp)
  c3 : w.cell? ⟨b, off + 3, none⟩ = some (.int .u32 x.2.sl)
  c4 : w.cell? ⟨b, off + 4, none⟩ = some (.int .u64 x.2.mp)
  c5 : w.cell? ⟨b, off + 5, none⟩ = some (.int .u32 x.2.ml)
  c6 : w.cell? ⟨b, off + 6, none⟩ = some (.string (bs x.2.prim))
  c7 : w.cell? ⟨b, off + 7, none⟩ = some (.string (bs x.1))
  c8 : w.cell? ⟨b, off + 8, none⟩ = some (.string (bs x.2.val))
  c9 : w.cell? ⟨b, off + 9, none⟩ = some (.bool x.2.dead)
theorem InAt.on {w w' : World} {b off : Nat} {x : List UInt8 × Ii} (h : InAt w b off x) (hb : Below w.heap.size w w') : InAt w' b off x := by
  have hl : b < w.heap.size := World.block_lt_of_cell? _ _ h.c0
  have g : ∀ o, w'.cell? ⟨b, o, none⟩ = w.cell? ⟨b, o, none⟩ := fun o => hb.cell hl
  exact ⟨by rw [g]; exact h.c0, by rw [g]; exact h.c1, by rw [g]; exact h.c2, by rw [g]; exact h.c3, by rw [g]; exact h.c4, by rw [g]; exact h.c5, by rw [g]; exact h.c6, by rw [g]; exact h.c7, by rw [g]; exact h.c8, by rw [g]; exact h.c9⟩
/-- The table's list T at the slice v. -/
def IsAt (B : Nat) (v : Value) (T : Tb) (w : World) : Prop := RwAt B 10 v T.length (rowC inc T) w
theorem IsAt.el {B : Nat} {ao : Option Addr} {cap : Nat} {T : Tb} {w : World} (h : IsAt B (.slice ao T.length cap) T w) {i : Nat} (hi : i < T.length) : ∃ b off, ao = some ⟨b, off, none⟩ ∧ InAt w b (off + i * 10) (T.getD i di) := by
  obtain ⟨b, off, e, hc⟩ := rowC_el inc_len di (by omega) rfl h hi
  exact ⟨b, off, e, ⟨hc 0 _ (by omega) rfl, hc 1 _ (by omega) rfl, hc 2 _ (by omega) rfl, hc 3 _ (by omega) rfl, hc 4 _ (by omega) rfl, hc 5 _ (by omega) rfl, hc 6 _ (by omega) rfl, hc 7 _ (by omega) rfl, hc 8 _ (by omega) rfl, hc 9 _ (by omega) rfl⟩⟩
theorem IsAt.shape {B : Nat} {v : Value} {T : Tb} {w : World} (h : IsAt B v T w) : ∃ ao cap, v = .slice ao T.length cap ∧ T.length ≤ cap ∧ cap ≤ 9223372036854775807 := by
  obtain ⟨ao, cap, e, _, h1, h2, _⟩ := h
  exact ⟨ao, cap, e, h1, h2⟩
/-- The document's table: its box rb holds the slice sl, whose row is its own. -/
structure RtAt (B rb : Nat) (sl : Value) (T : Tb) (w : World) : Prop where
  box : w.heap[rb]? = some (.cells #[sl] 29 (0, 0))
  row : w.ownsRow B 49 10 sl T.length (rowC inc T)
  lo : B ≤ rb
  ne : sl.ownBlock ≠ some rb
  ok : TOk T
def foot (rb : Nat) (sl : Value) : Nat → Prop := fun k => k = rb ∨ sl.ownBlock = some k
theorem RtAt.lt {B rb : Nat} {sl : Value} {T : Tb} {w : World} (h : RtAt B rb sl T w) {k : Nat} (hk : foot rb sl k) : B ≤ k ∧ k < w.heap.size := by
  rcases hk with rfl | hk
  · exact ⟨h.lo, (Array.getElem?_eq_some_iff.1 h.box).1⟩
  · exact World.ownsRow.lt h.row k hk
theorem RtAt.kept {B rb : Nat} {sl : Value} {T : Tb} {w w' : World} {F : Nat → Prop} (h : RtAt B rb sl T w) (hk : Kept F w w') (hF : ∀ k, foot rb sl k → ¬ F k) : RtAt B rb sl T w' :=
  ⟨by rw [hk.block rb (h.lt (.inl rfl)).2 (hF rb (.inl rfl))]; exact h.box, own_kept h.row hk (fun k e => hF k (.inr e)), h.lo, h.ne, h.ok⟩
theorem RtAt.on {B rb : Nat} {sl : Value} {T : Tb} {w w' : World} (h : RtAt B rb sl T w) (hb : Below w.heap.size w w') : RtAt B rb sl T w' := h.kept (F := fun _ => False) (Kept.of_below hb) (fun _ _ h => h)
theorem RtAt.cell {B rb : Nat} {sl : Value} {T : Tb} {w : World} (h : RtAt B rb sl T w) : w.cell? ⟨rb, 0, none⟩ = some sl := by
  unfold World.cell?
  rw [h.box]
  rfl
theorem RtAt.frozen {B rb : Nat} {sl : Value} {T : Tb} {w : World} (h : RtAt B rb sl T w) : w.frozen? ⟨rb, 0, none⟩ = false := by
  unfold World.frozen?
  rw [h.box]
  rfl
theorem RtAt.is {B rb : Nat} {sl : Value} {T : Tb} {w : World} (h : RtAt B rb sl T w) : IsAt w.heap.size sl T w := rw_own h.row
theorem block_set {w : World} {b j : Nat} {cs : Array Value} {ty : TypeId} (u : Value) (h : w.heap[b]? = some (.cells cs ty (0, 0))) : (w.setCell ⟨b, j, none⟩ u).heap[b]? = some (.cells (cs.setIfInBounds j u) ty (0, 0)) := by
  show (w.heap.modify b _)[b]? = _
  rw [Array.getElem?_modify, if_pos rfl, h]
  rfl
theorem block_cell {w : World} {b j : Nat} {cs : Array Value} {ty : TypeId} {u : Value} (h : w.heap[b]? = some (.cells cs ty (0, 0))) (hj : cs[j]? = some u) : w.cell? ⟨b, j, none⟩ = some u := by
  unfold World.cell?
  rw [h]
  exact hj
theorem block_frozen {w : World} {b : Nat} {cs : Array Value} {ty : TypeId} (h : w.heap[b]? = some (.cells cs ty (0, 0))) (j : Nat) : w.frozen? ⟨b, j, none⟩ = false := by
  unfold World.frozen?
  rw [h]
  simp
/-- An intent's box, written cell by cell. -/
theorem ten_set {W : World} {b : Nat} (x : List UInt8 × Ii) (h : W.heap[b]? = some (.cells #[.int .u32 0, .int .u32 0, .int .u64 0, .int .u32 0, .int .u64 0, .int .u32 0, .string ⟨#[]⟩, .string ⟨#[]⟩, .string ⟨#[]⟩, .bool false] 49 (0, 0))) :
    InAt ((((((((((W.setCell ⟨b, 0, none⟩ (.int .u32 x.2.c)).setCell ⟨b, 1, none⟩ (.int .u32 x.2.n)).setCell ⟨b, 2, none⟩ (.int .u64 x.2.sp)).setCell ⟨b, 3, none⟩ (.int .u32 x.2.sl)).setCell ⟨b, 4, none⟩ (.int .u64 x.2.mp)).setCell ⟨b, 5, none⟩ (.int .u32 x.2.ml)).setCell ⟨b, 6, none⟩ (.string (bs x.2.prim))).setCell ⟨b, 7, none⟩ (.string (bs x.1))).setCell ⟨b, 8, none⟩ (.string (bs x.2.val))).setCell ⟨b, 9, none⟩ (.bool x.2.dead)) b 0 x := by
  have h1 : (W.setCell ⟨b, 0, none⟩ (.int .u32 x.2.c)).heap[b]? = some (.cells #[.int .u32 x.2.c, .int .u32 0, .int .u64 0, .int .u32 0, .int .u64 0, .int .u32 0, .string ⟨#[]⟩, .string ⟨#[]⟩, .string ⟨#[]⟩, .bool false] 49 (0, 0)) := block_set _ h
  generalize W.setCell ⟨b, 0, none⟩ (.int .u32 x.2.c) = W1 at *
  have h2 : (W1.setCell ⟨b, 1, none⟩ (.int .u32 x.2.n)).heap[b]? = some (.cells #[.int .u32 x.2.c, .int .u32 x.2.n, .int .u64 0, .int .u32 0, .int .u64 0, .int .u32 0, .string ⟨#[]⟩, .string ⟨#[]⟩, .string ⟨#[]⟩, .bool false] 49 (0, 0)) := block_set _ h1
  generalize W1.setCell ⟨b, 1, none⟩ (.int .u32 x.2.n) = W2 at *
  have h3 : (W2.setCell ⟨b, 2, none⟩ (.int .u64 x.2.sp)).heap[b]? = some (.cells #[.int .u32 x.2.c, .int .u32 x.2.n, .int .u64 x.2.sp, .int .u32 0, .int .u64 0, .int .u32 0, .string ⟨#[]⟩, .string ⟨#[]⟩, .string ⟨#[]⟩, .bool false] 49 (0, 0)) := block_set _ h2
  generalize W2.setCell ⟨b, 2, none⟩ (.int .u64 x.2.sp) = W3 at *
  have h4 : (W3.setCell ⟨b, 3, none⟩ (.int .u32 x.2.sl)).heap[b]? = some (.cells #[.int .u32 x.2.c, .int .u32 x.2.n, .int .u64 x.2.sp, .int .u32 x.2.sl, .int .u64 0, .int .u32 0, .string ⟨#[]⟩, .string ⟨#[]⟩, .string ⟨#[]⟩, .bool false] 49 (0, 0)) := block_set _ h3
  generalize W3.setCell ⟨b, 3, none⟩ (.int .u32 x.2.sl) = W4 at *
  have h5 : (W4.setCell ⟨b, 4, none⟩ (.int .u64 x.2.mp)).heap[b]? = some (.cells #[.int .u32 x.2.c, .int .u32 x.2.n, .int .u64 x.2.sp, .int .u32 x.2.sl, .int .u64 x.2.mp, .int .u32 0, .string ⟨#[]⟩, .string ⟨#[]⟩, .string ⟨#[]⟩, .bool false] 49 (0, 0)) := block_set _ h4
  generalize W4.setCell ⟨b, 4, none⟩ (.int .u64 x.2.mp) = W5 at *
  have h6 : (W5.setCell ⟨b, 5, none⟩ (.int .u32 x.2.ml)).heap[b]? = some (.cells #[.int .u32 x.2.c, .int .u32 x.2.n, .int .u64 x.2.sp, .int .u32 x.2.sl, .int .u64 x.2.mp, .int .u32 x.2.ml, .string ⟨#[]⟩, .string ⟨#[]⟩, .string ⟨#[]⟩, .bool false] 49 (0, 0)) := block_set _ h5
  generalize W5.setCell ⟨b, 5, none⟩ (.int .u32 x.2.ml) = W6 at *
  have h7 : (W6.setCell ⟨b, 6, none⟩ (.string (bs x.2.prim))).heap[b]? = some (.cells #[.int .u32 x.2.c, .int .u32 x.2.n, .int .u64 x.2.sp, .int .u32 x.2.sl, .int .u64 x.2.mp, .int .u32 x.2.ml, .string (bs x.2.prim), .string ⟨#[]⟩, .string ⟨#[]⟩, .bool false] 49 (0, 0)) := block_set _ h6
  generalize W6.setCell ⟨b, 6, none⟩ (.string (bs x.2.prim)) = W7 at *
  have h8 : (W7.setCell ⟨b, 7, none⟩ (.string (bs x.1))).heap[b]? = some (.cells #[.int .u32 x.2.c, .int .u32 x.2.n, .int .u64 x.2.sp, .int .u32 x.2.sl, .int .u64 x.2.mp, .int .u32 x.2.ml, .string (bs x.2.prim), .string (bs x.1), .string ⟨#[]⟩, .bool false] 49 (0, 0)) := block_set _ h7
  generalize W7.setCell ⟨b, 7, none⟩ (.string (bs x.1)) = W8 at *
  have h9 : (W8.setCell ⟨b, 8, none⟩ (.string (bs x.2.val))).heap[b]? = some (.cells #[.int .u32 x.2.c, .int .u32 x.2.n, .int .u64 x.2.sp, .int .u32 x.2.sl, .int .u64 x.2.mp, .int .u32 x.2.ml, .string (bs x.2.prim), .string (bs x.1), .string (bs x.2.val), .bool false] 49 (0, 0)) := block_set _ h8
  generalize W8.setCell ⟨b, 8, none⟩ (.string (bs x.2.val)) = W9 at *
  have h10 : (W9.setCell ⟨b, 9, none⟩ (.bool x.2.dead)).heap[b]? = some (.cells #[.int .u32 x.2.c, .int .u32 x.2.n, .int .u64 x.2.sp, .int .u32 x.2.sl, .int .u64 x.2.mp, .int .u32 x.2.ml, .string (bs x.2.prim), .string (bs x.1), .string (bs x.2.val), .bool x.2.dead] 49 (0, 0)) := block_set _ h9
  exact ⟨block_cell h10 rfl, block_cell h10 rfl, block_cell h10 rfl, block_cell h10 rfl, block_cell h10 rfl, block_cell h10 rfl, block_cell h10 rfl, block_cell h10 rfl, block_cell h10 rfl, block_cell h10 rfl⟩
theorem ten_below {B b : Nat} {w W : World} (x : List UInt8 × Ii) (h : Below B w W) (hb : B ≤ b) : Below B w ((((((((((W.setCell ⟨b, 0, none⟩ (.int .u32 x.2.c)).setCell ⟨b, 1, none⟩ (.int .u32 x.2.n)).setCell ⟨b, 2, none⟩ (.int .u64 x.2.sp)).setCell ⟨b, 3, none⟩ (.int .u32 x.2.sl)).setCell ⟨b, 4, none⟩ (.int .u64 x.2.mp)).setCell ⟨b, 5, none⟩ (.int .u32 x.2.ml)).setCell ⟨b, 6, none⟩ (.string (bs x.2.prim))).setCell ⟨b, 7, none⟩ (.string (bs x.1))).setCell ⟨b, 8, none⟩ (.string (bs x.2.val))).setCell ⟨b, 9, none⟩ (.bool x.2.dead)) := ((((((((((h.setCell (p := ⟨b, 0, none⟩) hb _).setCell (p := ⟨b, 1, none⟩) hb _).setCell (p := ⟨b, 2, none⟩) hb _).setCell (p := ⟨b, 3, none⟩) hb _).setCell (p := ⟨b, 4, none⟩) hb _).setCell (p := ⟨b, 5, none⟩) hb _).setCell (p := ⟨b, 6, none⟩) hb _).setCell (p := ⟨b, 7, none⟩) hb _).setCell (p := ⟨b, 8, none⟩) hb _).setCell (p := ⟨b, 9, none⟩) hb _)
theorem zero_cells {W : World} {b : Nat} (h : W.heap[b]? = some (.cells #[.int .u32 0, .int .u32 0, .int .u64 0, .int .u32 0, .int .u64 0, .int .u32 0, .string ⟨#[]⟩, .string ⟨#[]⟩, .string ⟨#[]⟩, .bool false] 49 (0, 0))) : W.cell? ⟨b, 0, none⟩ = some (.int .u32 0) ∧ W.cell? ⟨b, 1, none⟩ = some (.int .u32 0) ∧ W.cell? ⟨b, 2, none⟩ = some (.int .u64 0) ∧ W.cell? ⟨b, 3, none⟩ = some (.int .u32 0) ∧ W.cell? ⟨b, 4, none⟩ = some (.int .u64 0) ∧ W.cell? ⟨b, 5, none⟩ = some (.int .u32 0) ∧ W.cell? ⟨b, 6, none⟩ = some (.string ⟨#[]⟩) ∧ W.cell? ⟨b, 7, none⟩ = some (.string ⟨#[]⟩) ∧ W.cell? ⟨b, 8, none⟩ = some (.string ⟨#[]⟩) ∧ W.cell? ⟨b, 9, none⟩ = some (.bool false) ∧ ∀ j, W.frozen? ⟨b, j, none⟩ = false :=
  ⟨block_cell h rfl, block_cell h rfl, block_cell h rfl, block_cell h rfl, block_cell h rfl, block_cell h rfl, block_cell h rfl, block_cell h rfl, block_cell h rfl, block_cell h rfl, block_frozen h⟩
theorem get_end {T : Tb} {k : List UInt8} {m : Nat} (h : T.length ≤ m) : getF k (T.drop m) = none := by rw [List.drop_eq_nil_of_le h]; rfl
def zi : Ii := ⟨0, 0, 0, 0, 0, 0, [], [], false⟩
/-- What Of answers. -/
def ofV (k : List UInt8) : Option Ii → Value
  | some x => .tuple #[inV (k, x), .bool true]
  | none => .tuple #[inV ([], zi), .bool false]

set_option maxHeartbeats 800000 in
theorem of20 (B rb : Nat) (sl : Value) (T : Tb) (k : List UInt8) (w : World) (h : RtAt B rb sl T w) :
    Calls Try.prog 20 #[.pointer (some ⟨rb, 0, none⟩), .string (bs k)] w fun e w' => e = .returned (ofV k (getF k T)) ∧ Below w.heap.size w w' := by
  obtain ⟨ao, cap, rfl, hlc, hcm⟩ := h.is.shape
  have c0 := h.cell
  have HE : Hid (∀ i, i < T.length → ∃ b off, ao = some ⟨b, off, none⟩ ∧ InAt w b (off + i * 10) (T.getD i di)) := fun i hi => h.is.el hi
  have HD : Hid (∀ m, m < T.length → getF k (T.drop m) = if (T.getD m di).1 == k then some (T.getD m di).2 else getF k (T.drop (m + 1))) := fun m hm => get_step hm
  have HZ : Hid (∀ m, T.length ≤ m → getF k (T.drop m) = none) := fun m hm => get_end hm
  have H0 : Hid (getF k (T.drop 0) = getF k T) := by rw [List.drop_zero]; rfl
  obtain ⟨y, hy⟩ : ∃ y, getF k T = y := ⟨_, rfl⟩
  rw [hy] at H0 ⊢
  have hL9 : T.length < 9223372036854775808 := by omega
  clear h hlc hcm hy
  go_enter Try.func20, Try.ntmps20
  go_wp2_with fail
  obtain ⟨W0, hW0⟩ : ∃ W0, w.alloc (.cells #[.int .u32 0, .int .u32 0, .int .u64 0, .int .u32 0, .int .u64 0, .int .u32 0, .string ⟨#[]⟩, .string ⟨#[]⟩, .string ⟨#[]⟩, .bool false] 49) = W0 := ⟨_, rfl⟩
  have HB0 : Hid (W0.heap[w.heap.size]? = some (.cells #[.int .u32 0, .int .u32 0, .int .u64 0, .int .u32 0, .int .u64 0, .int .u32 0, .string ⟨#[]⟩, .string ⟨#[]⟩, .string ⟨#[]⟩, .bool false] 49 (0, 0)) ∧ Below w.heap.size w W0) := by rw [← hW0]; exact ⟨heap_alloc_new w _, al _⟩
  rw [hW0]
  have HEW : Hid (∀ i, i < T.length → ∃ b off, ao = some ⟨b, off, none⟩ ∧ InAt W0 b (off + i * 10) (T.getD i di)) := fun i hi => by
    obtain ⟨b, off, e, hx⟩ := HE.out i hi
    exact ⟨b, off, e, hx.on HB0.out.2⟩
  have d0 : W0.cell? ⟨rb, 0, none⟩ = some (.slice ao T.length cap) := by rw [HB0.out.2.cell (World.block_lt_of_cell? _ _ c0)]; exact c0
  obtain ⟨bx, hbx⟩ : ∃ bx, w.heap.size = bx := ⟨_, rfl⟩
  have HBX : Hid (w.heap.size = bx) := hbx
  rw [hbx] at HB0 ⊢
  clear hW0 hbx HE c0
  go_loopw [6] (fun i wr => wr = W0 ∧ ∃ m : Nat, m ≤ T.length ∧ i = .int .i64 m ∧ getF k (T.drop m) = y) (fun i _ => T.length - (intOf i).toNat)
  case atStart => exact ⟨rfl, 0, Nat.zero_le _, rfl, H0.out⟩
  case round =>
    obtain ⟨rfl, m, hm, rfl, hg⟩ := hrel
    by_cases hml : m < T.length
    · obtain ⟨b, off, rfl, e0, e1, e2, e3, e4, e5, e6, e7, e8, e9⟩ := HEW.out m hml
      have hd := HD.out m hml
      rw [hg] at hd
      have hml' : (m : Int) < T.length := by omega
      generalize T.getD m di = x at *
      obtain ⟨a, s⟩ := x
      dsimp only at e0 e1 e2 e3 e4 e5 e6 e7 e8 e9 hd
      have q0 := bs_beq a k
      by_cases hak : (a == k) = true
      · rw [hak] at q0
        rw [if_pos hak] at hd
        obtain rfl : a = k := by simpa using hak
        subst hd
        clear hg hak HEW HD HZ H0
        obtain ⟨z0, z1, z2, z3, z4, z5, z6, z7, z8, z9, zf⟩ := zero_cells HB0.out.1
        have f0 := zf 0
        have f1 := zf 1
        have f2 := zf 2
        have f3 := zf 3
        have f4 := zf 4
        have f5 := zf 5
        have f6 := zf 6
        have f7 := zf 7
        have f8 := zf 8
        have f9 := zf 9
        have HI : Hid _ := ten_set (a, s) HB0.out.1
        have HBw : Hid _ := ten_below (a, s) HB0.out.2 (Nat.le_refl bx)
        clear zf
        go_wp2_with fail
        obtain ⟨g0, g1, g2, g3, g4, g5, g6, g7, g8, g9⟩ := HI.out
        simp only [Nat.zero_add] at g0 g1 g2 g3 g4 g5 g6 g7 g8 g9
        refine bodyPost_ret (v := ofV a (some s)) (by simp [results, Try.results20, go_sem, g0, g1, g2, g3, g4, g5, g6, g7, g8, g9, ofV, inV]) rfl ?_
        exact ⟨rfl, HBX.out ▸ HBw.out⟩
      · have hak' : (a == k) = false := by simpa using hak
        rw [hak'] at q0
        rw [if_neg hak] at hd
        have HY : Hid (getF k (T.drop (m + 1)) = y) := hd.symm
        clear hg hak hak' hd
        go_wp2_with fail
        go_roundw
        case rel => exact ⟨trivial, m + 1, by omega, by go_num, HY.out⟩
        case measure => simp [intOf]; omega
    · have hml' : ¬ (m : Int) < T.length := by omega
      have hz := HZ.out m (by omega)
      rw [hg] at hz
      subst hz
      clear hg
      obtain ⟨z0, z1, z2, z3, z4, z5, z6, z7, z8, z9, zf⟩ := zero_cells HB0.out.1
      have f0 := zf 0
      have f1 := zf 1
      have f2 := zf 2
      have f3 := zf 3
      have f4 := zf 4
      have f5 := zf 5
      have f6 := zf 6
      have f7 := zf 7
      have f8 := zf 8
      have f9 := zf 9
      have HI : Hid _ := ten_set ([], zi) HB0.out.1
      have HBw : Hid _ := ten_below ([], zi) HB0.out.2 (Nat.le_refl bx)
      clear zf
      go_wp2_with fail
      obtain ⟨g0, g1, g2, g3, g4, g5, g6, g7, g8, g9⟩ := HI.out
      simp only [Nat.zero_add, zi, show bs [] = ⟨#[]⟩ from rfl] at g0 g1 g2 g3 g4 g5 g6 g7 g8 g9
      refine bodyPost_ret (v := ofV k none) (by simp [results, Try.results20, go_sem, g0, g1, g2, g3, g4, g5, g6, g7, g8, g9, ofV, inV, zi, show bs [] = ⟨#[]⟩ from rfl]) rfl ?_
      exact ⟨rfl, HBX.out ▸ HBw.out⟩
end Go.Proofs.Ytknfkpnicjellaa
