/-
  The program's map: its contracts are what the laws ask of it.
-/
import Derived.Test.YtogkgibneddngaaWith
import Derived.Test.YtogkgibneddngaaWout
import Derived.Test.YtogkgibneddngaaFind
import Derived.Test.YtogkgibneddngaaGat
import Derived.Test.YtogkgibneddngaaIfc
namespace Go.Proofs.Ytogkgibneddngaa
open Go.RowKit

/-- The map behind p: the tree t, and how many keys it has. -/
structure Mp (B p : Nat) (t : Tr) (w : World) : Prop where
  box : w.heap[p]? = some (.cells #[t.ptr, .int .i64 t.toL.length] 50 (0, 0))
  ok : TrAt nl t w
  srt : Srt t.toL
  hk : Hk t
  pn : p ∉ t.blocks
  nd : t.blocks.Nodup
  low : B ≤ p ∧ ∀ i ∈ t.blocks, B ≤ i
def MapAt (B p : Nat) (F : Nat → Prop) (L : Kv) (w : World) : Prop := ∃ t, Mp B p t w ∧ t.toL = L ∧ F = fun i => i = p ∨ i ∈ t.blocks
theorem Mp.kept {B p : Nat} {t : Tr} {w w' : World} {G : Nat → Prop} (h : Mp B p t w) (hk : Kept G w w') (h1 : ¬ G p) (h2 : ∀ i ∈ t.blocks, ¬ G i) : Mp B p t w' :=
  ⟨by rw [hk.block p (Array.getElem?_eq_some_iff.1 h.box).1 h1]; exact h.box, TrAt.kept hk h.ok h2, h.srt, h.hk, h.pn, h.nd, h.low⟩
theorem Mp.cells {B p : Nat} {t : Tr} {w : World} (h : Mp B p t w) : w.cell? ⟨p, 0, none⟩ = some t.ptr ∧ w.cell? ⟨p, 1, none⟩ = some (.int .i64 t.toL.length) := ⟨block_cell h.box rfl, block_cell h.box rfl⟩

set_option maxHeartbeats 400000 in
theorem new8 (w : World) : Calls Try.prog 8 #[] w fun e w' => ∃ p F, e = .returned (.pointer (some ⟨p, 0, none⟩)) ∧ MapAt w.heap.size p F [] w' ∧ Below w.heap.size w w' := by
  have H : Hid (Mp w.heap.size w.heap.size .nil (w.alloc (.cells #[.pointer none, .int .i64 0] 50))) :=
    ⟨heap_alloc_new w _, trivial, List.Pairwise.nil, trivial, by simp [Tr.blocks], by simp [Tr.blocks], Nat.le_refl _, fun i hi => by simp [Tr.blocks] at hi⟩
  go_enter Try.func8, Try.ntmps8
  go_wp2_with fail
  go_ret
  exact ⟨_, _, rfl, ⟨.nil, H.out, rfl, rfl⟩, al _⟩

set_option maxHeartbeats 400000 in
theorem len15 {B p : Nat} {t : Tr} {w : World} (h : Mp B p t w) : Calls Try.prog 15 #[.pointer (some ⟨p, 0, none⟩)] w fun e w' => e = .returned (.int .i64 t.toL.length) ∧ Below w.heap.size w w' := by
  obtain ⟨c0, c1⟩ := h.cells
  clear h
  go_enter Try.func15, Try.ntmps15
  go_wp2_with fail
  go_ret
  exact ⟨rfl, Below.refl _ _⟩
set_option maxHeartbeats 400000 in
theorem len15_nil (w : World) : Calls Try.prog 15 #[.pointer none] w fun e w' => e = .returned (.int .i64 0) ∧ Below w.heap.size w w' := by
  go_enter Try.func15, Try.ntmps15
  go_wp2_with fail
  go_ret
  exact ⟨rfl, Below.refl _ _⟩

set_option maxHeartbeats 400000 in
theorem get13 {B p : Nat} {t : Tr} {w : World} (k : List UInt8) (h : Mp B p t w) : Calls Try.prog 13 #[.pointer (some ⟨p, 0, none⟩), .string (bs k)] w fun e w' => e = .returned (.tuple #[.int .i64 ((getF k t.toL).getD 0), .bool (getF k t.toL).isSome]) ∧ Below w.heap.size w w' := by
  have CF : Hid (1 = 1 → Calls Try.prog 20 #[.pointer (some ⟨p, 0, none⟩), .string (bs k)] w fun e w' => e = .returned (ptrO (findT k t)) ∧ w' = w) := fun _ => find20 p k t w h.cells.1 h.ok
  have hg := find_get (k := k) h.srt
  cases hf : findT k t with
  | none =>
    rw [hf] at CF hg
    have hn : getF k t.toL = none := by
      cases e : getF k t.toL with
      | none => rfl
      | some v => rw [e] at hg; cases hg
    rw [hn]
    simp only [ptrO] at CF
    clear h hg hn hf
    go_enter Try.func13, Try.ntmps13
    go_wp2_with fail
    refine (CF.out (by trivial)).mono ?_
    rintro e w' ⟨rfl, rfl⟩
    go_wp2_with fail
    refine bodyPost_ret (v := .tuple #[.int .i64 0, .bool false]) (by simp [results, Try.results13, go_sem]) rfl ?_
    exact ⟨rfl, Below.refl _ _⟩
  | some b =>
    rw [hf] at CF
    obtain ⟨q, v, x, l, r, hb, hv⟩ := find_at h.srt h.ok hf
    obtain ⟨-, c1, -, -, -⟩ := nd_cells hb
    rw [hv]
    simp only [ptrO] at CF
    clear h hg hv hf hb
    go_enter Try.func13, Try.ntmps13
    go_wp2_with fail
    refine (CF.out (by trivial)).mono ?_
    rintro e w' ⟨rfl, rfl⟩
    go_wp2_with fail
    refine bodyPost_ret (v := .tuple #[.int .i64 v, .bool true]) (by simp [results, Try.results13, go_sem]) rfl ?_
    exact ⟨rfl, Below.refl _ _⟩
set_option maxHeartbeats 400000 in
theorem get13_nil (k : List UInt8) (w : World) : Calls Try.prog 13 #[.pointer none, .string (bs k)] w fun e w' => e = .returned (.tuple #[.int .i64 0, .bool false]) ∧ Below w.heap.size w w' := by
  have CF : Hid (1 = 1 → Calls Try.prog 20 #[.pointer none, .string (bs k)] w fun e w' => e = .returned (.pointer none) ∧ w' = w) := fun _ => find20_nil k w
  go_enter Try.func13, Try.ntmps13
  go_wp2_with fail
  refine (CF.out (by trivial)).mono ?_
  rintro e w' ⟨rfl, rfl⟩
  go_wp2_with fail
  refine bodyPost_ret (v := .tuple #[.int .i64 0, .bool false]) (by simp [results, Try.results13, go_sem]) rfl ?_
  exact ⟨rfl, Below.refl _ _⟩

set_option maxHeartbeats 400000 in
theorem keys17 {B p : Nat} {t : Tr} {w : World} (lo hi : List UInt8) (limit : Int) (h : Mp B p t w) (hl : t.toL.length < 100000) : Calls Try.prog 17 #[.pointer (some ⟨p, 0, none⟩), .string (bs lo), .string (bs hi), .int .i64 limit] w fun e w' => ∃ v', e = .returned v' ∧ w'.ownsRow w.heap.size 9 1 v' (keysF lo hi limit t.toL).length (kc (keysF lo hi limit t.toL)) ∧ Below w.heap.size w w' := by
  have CG : Hid (1 = 1 → Calls Try.prog 24 #[t.ptr, .slice none 0 0, .string (bs lo), .string (bs hi), .int .i64 limit] w fun e w' => ∃ v', e = .returned v' ∧ w'.ownsRow w.heap.size 9 1 v' (keysF lo hi limit t.toL).length (kc (keysF lo hi limit t.toL)) ∧ Below w.heap.size w w') := fun _ => by
    have := gather24 w.heap.size lo hi limit t [] (.slice none 0 0) w h.ok h.ok.lt h.srt (Nat.le_refl _) (own_nil _ _ _ _) (by simp; omega)
    rw [gat_start] at this
    exact this
  obtain ⟨c0, -⟩ := h.cells
  clear h hl
  generalize t.ptr = tp at *
  generalize keysF lo hi limit t.toL = y at *
  go_enter Try.func17, Try.ntmps17
  go_wp2_with fail
  refine (CG.out (by trivial)).mono ?_
  rintro e w1 ⟨v1, rfl, ho, hb⟩
  obtain ⟨sa, sc, rfl, -, -, -, -⟩ := rw_own ho
  have H3 : Hid _ := And.intro ho hb
  clear ho hb CG
  go_wp2_with fail
  go_ret
  exact ⟨_, rfl, H3.out⟩
set_option maxHeartbeats 400000 in
theorem keys17_nil (lo hi : List UInt8) (limit : Int) (w : World) : Calls Try.prog 17 #[.pointer none, .string (bs lo), .string (bs hi), .int .i64 limit] w fun e w' => ∃ ao cap, e = .returned (.slice ao 0 cap) ∧ Below w.heap.size w w' := by
  go_enter Try.func17, Try.ntmps17
  go_wp2_with fail
  go_ret
  exact ⟨_, _, rfl, Below.refl _ _⟩
end Go.Proofs.Ytogkgibneddngaa
