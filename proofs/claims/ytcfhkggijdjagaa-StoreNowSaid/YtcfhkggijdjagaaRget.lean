/-
  The document's store: Get, Newest, Count.
-/
import Derived.Test.YtcfhkggijdjagaaRput
import Derived.Test.YtcfhkggijdjagaaCRefAt
namespace Go.Proofs.Ytcfhkggijdjagaa
open Go.RowKit

/-- What a Get answers. -/
def getV : Option (List UInt8) → List UInt8 × Bool
  | some s => (s, true)
  | none => ([], false)
theorem see_at (C : List Ve) (p l : Int) : getV (seeF C p l) = if (atF C p l).isSome = true ∧ ((atF C p l).getD dv).dead = false then (((atF C p l).getD dv).val, true) else ([], false) := by
  unfold seeF
  cases h : atF C p l with
  | none => rfl
  | some v =>
    cases hd : v.dead with
    | true => simp [getV, hd]
    | false => simp [getV, hd]
/-- A stamp in its box bx; what was there at w is as it was. -/
structure Tx (w : World) (bx : Nat) (p l : Int) (W : World) : Prop where
  c0 : W.cell? ⟨bx, 0, none⟩ = some (.int .u64 p)
  c1 : W.cell? ⟨bx, 1, none⟩ = some (.int .u32 l)
  bel : Below w.heap.size w W
theorem Tx.on {w W W' : World} {bx : Nat} {p l : Int} (h : Tx w bx p l W) (hb : Below W.heap.size W W') : Tx w bx p l W' :=
  ⟨by rw [hb.cell (World.block_lt_of_cell? _ _ h.c0)]; exact h.c0, by rw [hb.cell (World.block_lt_of_cell? _ _ h.c1)]; exact h.c1, h.bel.trans (hb.mono h.bel.size)⟩
theorem Tx.dr {w W : World} {bx : Nat} {p l : Int} (h : Tx w bx p l W) : Tx w bx p l W.drew := h.on (Below.refl _ _).drew
theorem Tx.two {w W : World} {bx : Nat} {p l : Int} (h : Tx w bx p l W) : W.cell? ⟨bx, 0, none⟩ = some (.int .u64 p) ∧ W.cell? ⟨bx, 1, none⟩ = some (.int .u32 l) ∧ Tx w bx p l W := ⟨h.c0, h.c1, h⟩
theorem Tx.al {w W : World} {bx : Nat} {p l : Int} (h : Tx w bx p l W) (o : Obj) : Tx w bx p l (W.alloc o) := h.on (Go.Proofs.Ytcfhkggijdjagaa.al _)
theorem Tx.st {w W : World} {bx b : Nat} {p l : Int} (h : Tx w bx p l W) (hb : bx < b ∧ w.heap.size ≤ b) (j : Nat) (u : Value) : Tx w bx p l (W.setCell ⟨b, j, none⟩ u) :=
  ⟨(set_kept' W b j u).cell h.c0 (by omega), (set_kept' W b j u).cell h.c1 (by omega), h.bel.setCell (p := ⟨b, j, none⟩) hb.2 u⟩
theorem tx_new (w : World) (p l : Int) : Tx w w.heap.size p l (w.alloc (.cells #[.int .u64 p, .int .u32 l] 33)) := ⟨by simp [go_sem], by simp [go_sem], al _⟩

/-- A version's box, made ahead of a call. -/
theorem zero_box {W W3 : World} {o : Obj} (hb : Below (W.alloc o).drew.heap.size (W.alloc o).drew W3) : W3.heap[W.heap.size]? = some o := by
  rw [hb.block W.heap.size (by simp)]
  exact heap_alloc_new W _
theorem zero_cells {W : World} {b : Nat} (h : W.heap[b]? = some (.cells #[.int .u64 0, .int .u32 0, .int .u32 0, .int .u32 0, .string ⟨#[]⟩, .bool false] 37 (0, 0))) : W.cell? ⟨b, 0, none⟩ = some (.int .u64 0) ∧ W.cell? ⟨b, 1, none⟩ = some (.int .u32 0) ∧ W.cell? ⟨b, 2, none⟩ = some (.int .u32 0) ∧ W.cell? ⟨b, 3, none⟩ = some (.int .u32 0) ∧ W.cell? ⟨b, 4, none⟩ = some (.string ⟨#[]⟩) ∧ W.cell? ⟨b, 5, none⟩ = some (.bool false) ∧ W.frozen? ⟨b, 0, none⟩ = false ∧ W.frozen? ⟨b, 1, none⟩ = false ∧ W.frozen? ⟨b, 2, none⟩ = false ∧ W.frozen? ⟨b, 3, none⟩ = false ∧ W.frozen? ⟨b, 4, none⟩ = false ∧ W.frozen? ⟨b, 5, none⟩ = false :=
  ⟨block_cell h rfl, block_cell h rfl, block_cell h rfl, block_cell h rfl, block_cell h rfl, block_cell h rfl, block_frozen h _, block_frozen h _, block_frozen h _, block_frozen h _, block_frozen h _, block_frozen h _⟩

theorem six_set {W : World} {b : Nat} {p l c n : Int} {s : List UInt8} {d : Bool} (h : W.heap[b]? = some (.cells #[.int .u64 0, .int .u32 0, .int .u32 0, .int .u32 0, .string ⟨#[]⟩, .bool false] 37 (0, 0))) :
    VeAt ((((((W.setCell ⟨b, 0, none⟩ (.int .u64 p)).setCell ⟨b, 1, none⟩ (.int .u32 l)).setCell ⟨b, 2, none⟩ (.int .u32 c)).setCell ⟨b, 3, none⟩ (.int .u32 n)).setCell ⟨b, 4, none⟩ (.string (bs s))).setCell ⟨b, 5, none⟩ (.bool d)) b 0 ⟨p, l, c, n, s, d⟩ := by
  have h1 : (W.setCell ⟨b, 0, none⟩ (.int .u64 p)).heap[b]? = some (.cells #[.int .u64 p, .int .u32 0, .int .u32 0, .int .u32 0, .string ⟨#[]⟩, .bool false] 37 (0, 0)) := block_set _ h
  generalize W.setCell ⟨b, 0, none⟩ (.int .u64 p) = W1 at *
  have h2 : (W1.setCell ⟨b, 1, none⟩ (.int .u32 l)).heap[b]? = some (.cells #[.int .u64 p, .int .u32 l, .int .u32 0, .int .u32 0, .string ⟨#[]⟩, .bool false] 37 (0, 0)) := block_set _ h1
  generalize W1.setCell ⟨b, 1, none⟩ (.int .u32 l) = W2 at *
  have h3 : (W2.setCell ⟨b, 2, none⟩ (.int .u32 c)).heap[b]? = some (.cells #[.int .u64 p, .int .u32 l, .int .u32 c, .int .u32 0, .string ⟨#[]⟩, .bool false] 37 (0, 0)) := block_set _ h2
  generalize W2.setCell ⟨b, 2, none⟩ (.int .u32 c) = W3 at *
  have h4 : (W3.setCell ⟨b, 3, none⟩ (.int .u32 n)).heap[b]? = some (.cells #[.int .u64 p, .int .u32 l, .int .u32 c, .int .u32 n, .string ⟨#[]⟩, .bool false] 37 (0, 0)) := block_set _ h3
  generalize W3.setCell ⟨b, 3, none⟩ (.int .u32 n) = W4 at *
  have h5 : (W4.setCell ⟨b, 4, none⟩ (.string (bs s))).heap[b]? = some (.cells #[.int .u64 p, .int .u32 l, .int .u32 c, .int .u32 n, .string (bs s), .bool false] 37 (0, 0)) := block_set _ h4
  generalize W4.setCell ⟨b, 4, none⟩ (.string (bs s)) = W5 at *
  have h6 : (W5.setCell ⟨b, 5, none⟩ (.bool d)).heap[b]? = some (.cells #[.int .u64 p, .int .u32 l, .int .u32 c, .int .u32 n, .string (bs s), .bool d] 37 (0, 0)) := block_set _ h5
  exact ⟨block_cell h6 rfl, block_cell h6 rfl, block_cell h6 rfl, block_cell h6 rfl, block_cell h6 rfl, block_cell h6 rfl⟩

set_option maxHeartbeats 800000 in
theorem get16 (B rb : Nat) (F : Nat → Prop) (S : Sk) (k : List UInt8) (p l : Int) (w : World) (h : RsAt B rb F S w) :
    Calls Try.prog 16 #[.pointer (some ⟨rb, 0, none⟩), .string (bs k), .agg #[.int .u64 p, .int .u32 l]] w fun e w' => e = .returned (.tuple #[.string (bs (getV (seeF (chainF k S) p l)).1), .bool (getV (seeF (chainF k S) p l)).2]) ∧ Below w.heap.size w w' := by
  obtain ⟨sl, L, hr, rfl⟩ := h
  obtain ⟨s0, hs0⟩ : ∃ s0, (getF k L).getD (none, 0, 0) = s0 := ⟨_, rfl⟩
  have CC : Hid (∀ W, Below w.heap.size w W → Calls Try.prog 34 #[.pointer (some ⟨rb, 0, none⟩), .string (bs k)] W fun e w' => e = .returned (.slice s0.1 s0.2.1 s0.2.2) ∧ w' = W) := fun W hb => by
    have := chain33 B rb sl L k W (hr.ref.on hb)
    rw [hs0] at this
    exact this
  have CP : Hid (∀ W, Below w.heap.size w W → Calls Try.prog 41 #[.slice s0.1 s0.2.1 s0.2.2, .agg #[.int .u64 p, .int .u32 l]] W fun e w' => e = .returned (.tuple #[veV ((atF (chainF k S) p l).getD dv), .bool (atF (chainF k S) p l).isSome]) ∧ Below W.heap.size W w') := fun W hb => by
    have hv := Chs.get k (hr.chs.on hb)
    rw [hs0] at hv
    exact refAt11 W.heap.size (chainF k S) _ p l W hv (Nat.le_refl _)
  have HY : Hid _ := see_at (chainF k S) p l
  have HT : Hid (Tx w w.heap.size p l (w.alloc (.cells #[.int .u64 p, .int .u32 l] 33))) := tx_new w p l
  generalize getV (seeF (chainF k S) p l) = Y at *
  generalize (atF (chainF k S) p l).isSome = z at *
  generalize (atF (chainF k S) p l).getD dv = u at *
  obtain ⟨up, ul, uc, un, us, ud⟩ := u
  clear hs0 hr
  simp only [veV] at CP
  dsimp only at HY
  go_enter Try.func16, Try.ntmps16
  go_wp2_with fail
  obtain ⟨W0, hW0⟩ : ∃ W0, w.alloc (.cells #[.int .u64 p, .int .u32 l] 33) = W0 := ⟨_, rfl⟩
  rw [hW0] at HT ⊢
  obtain ⟨bx, hbx⟩ : ∃ bx, w.heap.size = bx := ⟨_, rfl⟩
  rw [hbx] at HT
  have HBX : Hid (w.heap.size = bx) := hbx
  clear hW0
  rw [hbx]
  clear hbx
  obtain ⟨x0, x1, -⟩ := HT.out.two
  have HN0 : Hid (bx < W0.heap.size ∧ w.heap.size ≤ W0.heap.size) := ⟨World.block_lt_of_cell? _ _ x0, HT.out.bel.size⟩
  go_cut [8, 9] (fun s8 s9 wc => ∃ vb, s8 = .pointer (some ⟨vb, 0, none⟩) ∧ s9 = .bool z ∧ VeAt wc vb 0 ⟨up, ul, uc, un, us, ud⟩ ∧ Below w.heap.size w wc)
  case first =>
    go_region_held3 (fun W => W.cell? ⟨bx, 0, none⟩ = some (.int .u64 p) ∧ W.cell? ⟨bx, 1, none⟩ = some (.int .u32 l) ∧ Tx w bx p l W)
      ((with_reducible refine Tx.two ?_; with_reducible repeat (first | exact HT.out | exact H2.out | refine Tx.dr ?_ | refine Tx.al ?_ _ | refine Tx.st ?_ HN0.out _ _)))
      (first
      | (go_at_call 34; refine (CC.out _ (Tx.bel (bx := bx) (p := p) (l := l) (by with_reducible repeat (first | exact HT.out | exact H2.out | refine Tx.dr ?_ | refine Tx.al ?_ _)))).mono ?_; rintro e W1 ⟨rfl, rfl⟩)
      | (go_at_call 41; refine (CP.out _ (Tx.bel (bx := bx) (p := p) (l := l) (by with_reducible repeat (first | exact HT.out | refine Tx.dr ?_ | refine Tx.al ?_ _)))).mono ?_; rintro e W2 ⟨rfl, hb2⟩; have H2 : Hid (Tx w bx p l W2) := (by refine Tx.on ?_ hb2; with_reducible repeat (first | exact HT.out | refine Tx.dr ?_ | refine Tx.al ?_ _)); first | ((with_reducible have Z3 := zero_box hb2); have Z4 : Hid (W2.heap[W0.heap.size]? = some (.cells #[.int .u64 0, .int .u32 0, .int .u32 0, .int .u32 0, .string ⟨#[]⟩, .bool false] 37 (0, 0))) := Z3; clear Z3; obtain ⟨z0, z1, z2, z3, z4, z5, y0, y1, y2, y3, y4, y5⟩ := zero_cells Z4.out; clear hb2) | clear hb2))
    all_goals
      go_wp2_with fail
      go_meet
      first
      | (with_reducible refine ⟨_, rfl, rfl, six_set ?_, ?_⟩
         exact Z4.out
         exact Tx.bel (bx := bx) (p := p) (l := l) (by with_reducible repeat (first | exact H2.out | refine Tx.st ?_ HN0.out _ _)))
      | exact ⟨_, rfl, rfl, ve_new _ _ _ _ _ _ _, (H2.out.al _).bel⟩
  case rest =>
    obtain ⟨vb, rfl, rfl, hve, hbl⟩ := hcut
    obtain ⟨-, -, -, -, v4, v5⟩ := hve
    simp only [Nat.zero_add] at v4 v5
    have HBl : Hid _ := hbl
    clear hbl x0 x1 HT CC CP HN0 HBX
    cases z
    · have hY : Y = ([], false) := by rw [HY.out]; simp
      subst hY
      go_wp2_with fail
      refine bodyPost_ret (v := .tuple #[.string ⟨#[]⟩, .bool false]) (by simp [results, Try.results16, go_sem]) rfl ?_
      exact ⟨rfl, HBl.out⟩
    · cases ud
      · have hY : Y = (us, true) := by rw [HY.out]; simp
        subst hY
        go_wp2_with fail
        refine bodyPost_ret (v := .tuple #[.string (bs us), .bool true]) (by simp [results, Try.results16, go_sem]) rfl ?_
        exact ⟨rfl, HBl.out⟩
      · have hY : Y = ([], false) := by rw [HY.out]; simp
        subst hY
        go_wp2_with fail
        refine bodyPost_ret (v := .tuple #[.string ⟨#[]⟩, .bool false]) (by simp [results, Try.results16, go_sem]) rfl ?_
        exact ⟨rfl, HBl.out⟩

set_option maxHeartbeats 800000 in
theorem count20 (B rb : Nat) (F : Nat → Prop) (S : Sk) (k : List UInt8) (w : World) (h : RsAt B rb F S w) :
    Calls Try.prog 20 #[.pointer (some ⟨rb, 0, none⟩), .string (bs k)] w fun e w' => e = .returned (.int .i64 (chainF k S).length) ∧ w' = w := by
  obtain ⟨sl, L, hr, rfl⟩ := h
  obtain ⟨ao, cap, hs, -⟩ := Chs.get k hr.chs
  have CC : Hid (1 = 1 → Calls Try.prog 34 #[.pointer (some ⟨rb, 0, none⟩), .string (bs k)] w fun e w' => e = .returned (.slice ao (chainF k S).length cap) ∧ w' = w) := fun _ => by
    have := chain33 B rb sl L k w hr.ref
    rw [hs] at this
    exact this
  clear hs hr
  generalize (chainF k S).length = n at *
  go_enter Try.func20, Try.ntmps20
  go_wp2_with fail
  refine (CC.out (by trivial)).mono ?_
  rintro e w1 ⟨rfl, rfl⟩
  go_wp2_with fail
  go_ret
  exact ⟨rfl, rfl⟩

set_option maxHeartbeats 800000 in
theorem newest18 (B rb : Nat) (F : Nat → Prop) (S : Sk) (k : List UInt8) (w : World) (h : RsAt B rb F S w) :
    Calls Try.prog 18 #[.pointer (some ⟨rb, 0, none⟩), .string (bs k)] w fun e w' => e = .returned (.agg #[.int .u64 (newF (chainF k S)).1, .int .u32 (newF (chainF k S)).2]) ∧ Below w.heap.size w w' := by
  obtain ⟨sl, L, hr, rfl⟩ := h
  obtain ⟨s0, hs0⟩ : ∃ s0, (getF k L).getD (none, 0, 0) = s0 := ⟨_, rfl⟩
  have CC : Hid (∀ W, Below w.heap.size w W → Calls Try.prog 34 #[.pointer (some ⟨rb, 0, none⟩), .string (bs k)] W fun e w' => e = .returned (.slice s0.1 s0.2.1 s0.2.2) ∧ w' = W) := fun W hb => by
    have := chain33 B rb sl L k W (hr.ref.on hb)
    rw [hs0] at this
    exact this
  have CN : Hid (∀ W, Below w.heap.size w W → Calls Try.prog 43 #[.slice s0.1 s0.2.1 s0.2.2] W fun e w' => e = .returned (.agg #[.int .u64 (newF (chainF k S)).1, .int .u32 (newF (chainF k S)).2]) ∧ Below W.heap.size W w') := fun W hb => by
    have hv := Chs.get k (hr.chs.on hb)
    rw [hs0] at hv
    exact refNewest16 W.heap.size (chainF k S) _ W hv (Nat.le_refl _)
  have HT : Hid (Tx w w.heap.size 0 0 (w.alloc (.cells #[.int .u64 0, .int .u32 0] 33))) := tx_new w 0 0
  generalize newF (chainF k S) = y at *
  obtain ⟨yp, yl⟩ := y
  dsimp only at CN ⊢
  clear hs0 hr
  go_enter Try.func18, Try.ntmps18
  go_wp2_with fail
  refine (CC.out _ HT.out.bel).mono ?_
  rintro e w1 ⟨rfl, rfl⟩
  go_wp2_with fail
  refine (CN.out _ HT.out.bel).mono ?_
  rintro e w2 ⟨rfl, hb2⟩
  have HB : Hid (w2.heap[w.heap.size]? = some (.cells #[.int .u64 0, .int .u32 0] 33 (0, 0))) := by
    show _ = _
    rw [hb2.block w.heap.size (by simp)]
    exact heap_alloc_new w _
  have c0 : w2.cell? ⟨w.heap.size, 0, none⟩ = some (.int .u64 0) := block_cell HB.out rfl
  have c1 : w2.cell? ⟨w.heap.size, 1, none⟩ = some (.int .u32 0) := block_cell HB.out rfl
  have f0 := block_frozen HB.out 0
  have f1 := block_frozen HB.out 1
  have HT2 : Hid (Below w.heap.size w w2) := (HT.out.on hb2).bel
  clear hb2 CC CN HT
  have HW : Hid (((w2.setCell ⟨w.heap.size, 0, none⟩ (.int .u64 yp)).setCell ⟨w.heap.size, 1, none⟩ (.int .u32 yl)).heap[w.heap.size]? = some (.cells #[.int .u64 yp, .int .u32 yl] 33 (0, 0))) := block_set _ (block_set _ HB.out)
  have d0 : ((w2.setCell ⟨w.heap.size, 0, none⟩ (.int .u64 yp)).setCell ⟨w.heap.size, 1, none⟩ (.int .u32 yl)).cell? ⟨w.heap.size, 0, none⟩ = some (.int .u64 yp) := block_cell HW.out rfl
  have d1 : ((w2.setCell ⟨w.heap.size, 0, none⟩ (.int .u64 yp)).setCell ⟨w.heap.size, 1, none⟩ (.int .u32 yl)).cell? ⟨w.heap.size, 1, none⟩ = some (.int .u32 yl) := block_cell HW.out rfl
  go_wp2_with fail
  refine bodyPost_ret (v := .agg #[.int .u64 yp, .int .u32 yl]) (by simp [results, Try.results18, go_sem, d0, d1]) rfl ?_
  exact ⟨rfl, (HT2.out.setCell (p := ⟨w.heap.size, 0, none⟩) (Nat.le_refl _) _).setCell (p := ⟨w.heap.size, 1, none⟩) (Nat.le_refl _) _⟩
end Go.Proofs.Ytcfhkggijdjagaa
