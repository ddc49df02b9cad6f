/-
  The contract of stamp.Read: it answers as the document's own reading does, the library's variables being as they start.
-/
import Derived.Test.YtdhpcgjkhhldhaaDoorFmt
import Derived.Test.YtdhpcgjkhhldhaaDoorNum
import Derived.Lib.AtoiErrMem
import Derived.Lib.SmallJoins
import Derived.Lib.Hide
namespace Go.Proofs.YtdhpcgjkhhldhaaDoor
open Go.RowKit Go.Lib

/-- What the calls ask of the library's variables. -/
structure Gl (w : World) : Prop where
  tab : Tab w
  syn : ∃ tp p, w.var? Tryd.prog "strconv.ErrSyntax" = some #[.iface tp p]
  rng : ∃ tp p, w.var? Tryd.prog "strconv.ErrRange" = some #[.iface tp p]

theorem gSyn : Tryd.prog.globalNamed "strconv.ErrSyntax" = some 2 := by kernel_rfl
theorem gRng : Tryd.prog.globalNamed "strconv.ErrRange" = some 3 := by kernel_rfl

theorem Gl.on {w w' : World} (h : Gl w) (hb : Below w.heap.size w w') : Gl w' := by
  obtain ⟨t1, p1, h1⟩ := h.syn
  obtain ⟨t2, p2, h2⟩ := h.rng
  exact ⟨h.tab.on hb, ⟨t1, p1, Joins.var_stays gSyn h1 hb (Nat.le_refl _)⟩, ⟨t2, p2, Joins.var_stays gRng h2 hb (Nat.le_refl _)⟩⟩
theorem Gl.al {w : World} (h : Gl w) (o : Obj) : Gl (w.alloc o) := h.on ((Below.refl _ _).alloc (Nat.le_refl _) _)

theorem mk_list (x : List UInt8) : (⟨x.toArray⟩ : ByteArray).data.toList = x := rfl
theorem mk_size (x : List UInt8) : (⟨x.toArray⟩ : ByteArray).size = x.length := by
  show x.toArray.size = _
  simp

theorem below_of_or {w w' : World} {s : ByteArray} (h : w' = w ∨ w' = bytesWorld w 5 s) : Below w.heap.size w w' := by
  rcases h with rfl | rfl
  · exact Below.refl _ _
  · exact bytesWorld_below w 5 s

theorem parse64_ok (x : List UInt8) (u : Nat) (hl : x.length ≤ 140737488355328) (h : parseUintB 64 x = .ok u) (w : World) :
    Calls Tryd.prog 23 #[.string ⟨x.toArray⟩, .int .i64 10, .int .i64 64] w fun e w' => e = .returned (.tuple #[.int .u64 u, .nilIface]) ∧ Below w.heap.size w w' :=
  (Tryd.strconv_ParseUint_10_at64_ok ⟨x.toArray⟩ (by rw [mk_size]; omega) u h w).mono fun _ _ ⟨he, hw⟩ => ⟨he, below_of_or hw⟩
theorem parse32_ok (x : List UInt8) (u : Nat) (hl : x.length ≤ 140737488355328) (h : parseUintB 32 x = .ok u) (w : World) :
    Calls Tryd.prog 23 #[.string ⟨x.toArray⟩, .int .i64 10, .int .i64 32] w fun e w' => e = .returned (.tuple #[.int .u64 u, .nilIface]) ∧ Below w.heap.size w w' :=
  (Tryd.strconv_ParseUint_10_at32_ok ⟨x.toArray⟩ (by rw [mk_size]; omega) u h w).mono fun _ _ ⟨he, hw⟩ => ⟨he, below_of_or hw⟩
theorem parse64_bad (x : List UInt8) (hl : x.length ≤ 140737488355328) (h : ∀ u, parseUintB 64 x ≠ .ok u) (w : World) (hG : Gl w) :
    Calls Tryd.prog 23 #[.string ⟨x.toArray⟩, .int .i64 10, .int .i64 64] w fun e w' => (∃ (n : Int) (N : Nat), e = .returned (.tuple #[.int .u64 n, .iface 69 (.pointer (some ⟨N, 0, none⟩))])) ∧ Below w.heap.size w w' := by
  obtain ⟨t1, p1, h1⟩ := hG.syn
  obtain ⟨t2, p2, h2⟩ := hG.rng
  cases hc : parseUintB 64 x with
  | ok u => exact absurd hc (h u)
  | «syntax» => exact (Tryd.strconv_ParseUint_10_at64_syntax_var ⟨x.toArray⟩ (by rw [mk_size]; omega) hc t1 p1 w h1).mono fun _ _ ⟨N, he, _, _, hb⟩ => ⟨⟨_, N, he⟩, hb⟩
  | range => exact (Tryd.strconv_ParseUint_10_at64_range_var ⟨x.toArray⟩ (by rw [mk_size]; omega) hc t2 p2 w h2).mono fun _ _ ⟨N, he, _, _, hb⟩ => ⟨⟨_, N, he⟩, hb⟩
theorem parse32_bad (x : List UInt8) (hl : x.length ≤ 140737488355328) (h : ∀ u, parseUintB 32 x ≠ .ok u) (w : World) (hG : Gl w) :
    Calls Tryd.prog 23 #[.string ⟨x.toArray⟩, .int .i64 10, .int .i64 32] w fun e w' => (∃ (n : Int) (N : Nat), e = .returned (.tuple #[.int .u64 n, .iface 69 (.pointer (some ⟨N, 0, none⟩))])) ∧ Below w.heap.size w w' := by
  obtain ⟨t1, p1, h1⟩ := hG.syn
  obtain ⟨t2, p2, h2⟩ := hG.rng
  cases hc : parseUintB 32 x with
  | ok u => exact absurd hc (h u)
  | «syntax» => exact (Tryd.strconv_ParseUint_10_at32_syntax_var ⟨x.toArray⟩ (by rw [mk_size]; omega) hc t1 p1 w h1).mono fun _ _ ⟨N, he, _, _, hb⟩ => ⟨⟨_, N, he⟩, hb⟩
  | range => exact (Tryd.strconv_ParseUint_10_at32_range_var ⟨x.toArray⟩ (by rw [mk_size]; omega) hc t2 p2 w h2).mono fun _ _ ⟨N, he, _, _, hb⟩ => ⟨⟨_, N, he⟩, hb⟩

theorem pow64 : 2 ^ 64 - 1 = 18446744073709551615 := by simp
theorem pow32 : 2 ^ 32 - 1 = 4294967295 := by simp
theorem parse_text {s X Y : List UInt8} {f : Bool} (hc : cut s [46] = (X, Y, f)) {p l : Nat} (h : IsText s p l) : parseUintB 64 X = .ok p ∧ parseUintB 32 Y = .ok l := by
  obtain ⟨hp, hl, e⟩ := h
  have c2 := cut_point (decDigits p) (decDigits l) (no_point p)
  rw [e] at hc
  unfold textL at hc
  rw [c2] at hc
  simp only [Prod.mk.injEq] at hc
  rw [← hc.1, ← hc.2.1]
  exact ⟨parse_dec 64 p (by rw [pow64]; omega) (by rw [pow64]; omega), parse_dec 32 l (by rw [pow32]; omega) (by rw [pow32]; omega)⟩
theorem rd_bad {s X Y : List UInt8} {f : Bool} (hc : cut s [46] = (X, Y, f)) (h : (∀ u, parseUintB 64 X ≠ .ok u) ∨ (∀ u, parseUintB 32 Y ≠ .ok u)) : rdS s = (0, 0, 2) :=
  rdS_no fun ⟨x, hx⟩ => by
    have := parse_text hc hx
    rcases h with h | h
    · exact h _ this.1
    · exact h _ this.2
theorem rd_ok {s X Y : List UInt8} {f : Bool} (hc : cut s [46] = (X, Y, f)) {p l : Nat} (h1 : parseUintB 64 X = .ok p) (h2 : parseUintB 32 Y = .ok l) :
    rdS s = if p ≤ 281474976710656 ∧ l ≤ 4095 ∧ textL p l = s then ((p : Int), (l : Int), 0) else (0, 0, 2) := by
  by_cases h : p ≤ 281474976710656 ∧ l ≤ 4095 ∧ textL p l = s
  · rw [if_pos h]
    exact rdS_yes ⟨h.1, h.2.1, h.2.2.symm⟩
  · rw [if_neg h]
    refine rdS_no fun ⟨x, hx⟩ => h ?_
    obtain ⟨e1, e2⟩ := parse_text hc hx
    rw [h1] at e1
    rw [h2] at e2
    simp only [NumEnd.ok.injEq] at e1 e2
    rw [e1, e2]
    exact ⟨hx.1, hx.2.1, hx.2.2.symm⟩

/-- The result's box, and that nothing which was there has turned. -/
structure RBox (w W : World) (p l : Int) : Prop where
  c0 : W.cell? ⟨w.heap.size, 0, none⟩ = some (.int .u64 p)
  c1 : W.cell? ⟨w.heap.size, 1, none⟩ = some (.int .u32 l)
  f0 : W.frozen? ⟨w.heap.size, 0, none⟩ = false
  f1 : W.frozen? ⟨w.heap.size, 1, none⟩ = false
  sz : w.heap.size < W.heap.size
  bel : Below w.heap.size w W
  gl : Gl W
theorem RBox.first (w : World) (p l : Int) (hG : Gl w) : RBox w (w.alloc (.cells #[.int .u64 p, .int .u32 l] 25)) p l :=
  ⟨by simp [go_sem], by simp [go_sem], by simp [go_sem], by simp [go_sem], by simp, (Below.refl _ _).alloc (Nat.le_refl _) _, hG.al _⟩
theorem RBox.on {w W W' : World} {p l : Int} (h : RBox w W p l) (hb : Below W.heap.size W W') : RBox w W' p l := by
  have hs := h.sz
  refine ⟨?_, ?_, ?_, ?_, Nat.lt_of_lt_of_le hs hb.size, h.bel.trans (hb.mono (by omega)), h.gl.on hb⟩
  · rw [hb.cell (by simp; omega)]; exact h.c0
  · rw [hb.cell (by simp; omega)]; exact h.c1
  · rw [hb.frozen (by simp; omega)]; exact h.f0
  · rw [hb.frozen (by simp; omega)]; exact h.f1
theorem RBox.dr {w W : World} {p l : Int} (h : RBox w W p l) (n : Nat) : RBox w (W.drewN n) p l := h.on (below_drewN (Below.refl _ _) n)

set_option maxHeartbeats 1000000 in
theorem read17_bad1 (s : ByteArray) (w : World) (hs : s.size ≤ 140737488355328) (hG : Gl w) (X Y : List UInt8) (f : Bool) (hc : Hid (cut s.data.toList [46] = (X, Y, f))) (hX : X.length ≤ 140737488355328) (hY : Y.length ≤ 140737488355328) (h : Hid (∀ u, parseUintB 64 X ≠ .ok u)) :
    Calls Tryd.prog 17 #[.string s] w fun e w' => e = .returned (.tuple #[.agg #[.int .u64 0, .int .u32 0], .int .i64 2]) ∧ Below w.heap.size w w' := by
  have HB0 : Hid (RBox w (w.alloc (.cells #[.int .u64 0, .int .u32 0] 25)) 0 0) := RBox.first w 0 0 hG
  clear hG
  go_enter Tryd.func17, Tryd.ntmps17
  go_wp2_with fail
  refine (cut22 s _ hs).mono ?_
  rw [hc.out]
  rintro e w1 ⟨rfl, n, rfl⟩
  have HB1 : Hid (RBox w ((w.alloc (.cells #[.int .u64 0, .int .u32 0] 25)).drewN n) 0 0) := HB0.out.dr n
  go_wp2_with fail
  refine (parse64_bad X hX h.out _ HB1.out.gl).mono ?_
  rintro e w2 ⟨⟨n2, N2, rfl⟩, hb2⟩
  have HB2 : Hid (RBox w w2 0 0) := HB1.out.on hb2
  clear hb2
  cases hy : parseUintB 32 Y with
  | ok u =>
    go_wp2_with fail
    refine (parse32_ok Y u hY hy _).mono ?_
    rintro e w3 ⟨rfl, hb3⟩
    have HB3 : Hid (RBox w w3 0 0) := HB2.out.on hb3
    clear hb3
    obtain ⟨c0, c1, f0, f1, sz, -, -⟩ := HB3.out
    go_wp2
    exact bodyPost_ret (v := .tuple #[.agg #[.int .u64 0, .int .u32 0], .int .i64 2]) (by simp [results, Tryd.results17, go_sem, c0, c1]) rfl ⟨rfl, (HB3.out.bel.setCell (by simp) _).setCell (by simp) _⟩
  | «syntax» =>
    go_wp2_with fail
    refine (parse32_bad Y hY (by rw [hy]; intro u e; cases e) _ HB2.out.gl).mono ?_
    rintro e w3 ⟨⟨n3, N3, rfl⟩, hb3⟩
    have HB3 : Hid (RBox w w3 0 0) := HB2.out.on hb3
    clear hb3
    obtain ⟨c0, c1, f0, f1, sz, -, -⟩ := HB3.out
    go_wp2
    exact bodyPost_ret (v := .tuple #[.agg #[.int .u64 0, .int .u32 0], .int .i64 2]) (by simp [results, Tryd.results17, go_sem, c0, c1]) rfl ⟨rfl, (HB3.out.bel.setCell (by simp) _).setCell (by simp) _⟩
  | range =>
    go_wp2_with fail
    refine (parse32_bad Y hY (by rw [hy]; intro u e; cases e) _ HB2.out.gl).mono ?_
    rintro e w3 ⟨⟨n3, N3, rfl⟩, hb3⟩
    have HB3 : Hid (RBox w w3 0 0) := HB2.out.on hb3
    clear hb3
    obtain ⟨c0, c1, f0, f1, sz, -, -⟩ := HB3.out
    go_wp2
    exact bodyPost_ret (v := .tuple #[.agg #[.int .u64 0, .int .u32 0], .int .i64 2]) (by simp [results, Tryd.results17, go_sem, c0, c1]) rfl ⟨rfl, (HB3.out.bel.setCell (by simp) _).setCell (by simp) _⟩

set_option maxHeartbeats 1000000 in
theorem read17_bad2 (s : ByteArray) (w : World) (hs : s.size ≤ 140737488355328) (hG : Gl w) (X Y : List UInt8) (f : Bool) (hc : Hid (cut s.data.toList [46] = (X, Y, f))) (hX : X.length ≤ 140737488355328) (hY : Y.length ≤ 140737488355328) (u : Nat) (h : Hid (parseUintB 64 X = .ok u)) (h2 : Hid (∀ u, parseUintB 32 Y ≠ .ok u)) :
    Calls Tryd.prog 17 #[.string s] w fun e w' => e = .returned (.tuple #[.agg #[.int .u64 0, .int .u32 0], .int .i64 2]) ∧ Below w.heap.size w w' := by
  have HB0 : Hid (RBox w (w.alloc (.cells #[.int .u64 0, .int .u32 0] 25)) 0 0) := RBox.first w 0 0 hG
  clear hG
  go_enter Tryd.func17, Tryd.ntmps17
  go_wp2_with fail
  refine (cut22 s _ hs).mono ?_
  rw [hc.out]
  rintro e w1 ⟨rfl, n, rfl⟩
  have HB1 : Hid (RBox w ((w.alloc (.cells #[.int .u64 0, .int .u32 0] 25)).drewN n) 0 0) := HB0.out.dr n
  go_wp2_with fail
  refine (parse64_ok X u hX h.out _).mono ?_
  rintro e w2 ⟨rfl, hb2⟩
  have HB2 : Hid (RBox w w2 0 0) := HB1.out.on hb2
  clear hb2
  go_wp2_with fail
  refine (parse32_bad Y hY h2.out _ HB2.out.gl).mono ?_
  rintro e w3 ⟨⟨n3, N3, rfl⟩, hb3⟩
  have HB3 : Hid (RBox w w3 0 0) := HB2.out.on hb3
  clear hb3
  obtain ⟨c0, c1, f0, f1, sz, -, -⟩ := HB3.out
  go_wp2
  exact bodyPost_ret (v := .tuple #[.agg #[.int .u64 0, .int .u32 0], .int .i64 2]) (by simp [results, Tryd.results17, go_sem, c0, c1]) rfl ⟨rfl, (HB3.out.bel.setCell (by simp) _).setCell (by simp) _⟩

set_option maxHeartbeats 1000000 in
theorem read17_wrong (s : ByteArray) (w : World) (hs : s.size ≤ 140737488355328) (hG : Gl w) (X Y : List UInt8) (f : Bool) (hc : Hid (cut s.data.toList [46] = (X, Y, f))) (hX : X.length ≤ 140737488355328) (hY : Y.length ≤ 140737488355328) (u v : Nat) (_hu : u < 18446744073709551616) (hv : v < 4294967296) (h : Hid (parseUintB 64 X = .ok u)) (h2 : Hid (parseUintB 32 Y = .ok v)) (hr : Hid (rightB u v = false)) :
    Calls Tryd.prog 17 #[.string s] w fun e w' => e = .returned (.tuple #[.agg #[.int .u64 0, .int .u32 0], .int .i64 2]) ∧ Below w.heap.size w w' := by
  have HB0 : Hid (RBox w (w.alloc (.cells #[.int .u64 0, .int .u32 0] 25)) 0 0) := RBox.first w 0 0 hG
  clear hG
  go_enter Tryd.func17, Tryd.ntmps17
  go_wp2_with fail
  refine (cut22 s _ hs).mono ?_
  rw [hc.out]
  rintro e w1 ⟨rfl, n, rfl⟩
  have HB1 : Hid (RBox w ((w.alloc (.cells #[.int .u64 0, .int .u32 0] 25)).drewN n) 0 0) := HB0.out.dr n
  go_wp2_with fail
  refine (parse64_ok X u hX h.out _).mono ?_
  rintro e w2 ⟨rfl, hb2⟩
  have HB2 : Hid (RBox w w2 0 0) := HB1.out.on hb2
  clear hb2
  go_wp2_with fail
  refine (parse32_ok Y v hY h2.out _).mono ?_
  rintro e w3 ⟨rfl, hb3⟩
  have HB3 : Hid (RBox w w3 0 0) := HB2.out.on hb3
  clear hb3
  go_wp2_with fail
  have HB4 : Hid (RBox w (w3.alloc (.cells #[.int .u64 u, .int .u32 v] 25)) 0 0) := HB3.out.on ((Below.refl _ _).alloc (Nat.le_refl _) _)
  refine (right10 _ _ _).mono ?_
  rw [hr.out]
  rintro e w4 ⟨rfl, hb4⟩
  have HB5 : Hid (RBox w w4 0 0) := HB4.out.on hb4
  have hz4 : w3.heap.size < w4.heap.size := by have := hb4.size; simp at this; omega
  have d0 : w4.cell? ⟨w3.heap.size, 0, none⟩ = some (.int .u64 u) := by rw [hb4.cell (by simp)]; simp [go_sem]
  have d1 : w4.cell? ⟨w3.heap.size, 1, none⟩ = some (.int .u32 v) := by rw [hb4.cell (by simp)]; simp [go_sem]
  clear hb4
  obtain ⟨c0, c1, f0, f1, sz, -, -⟩ := HB5.out
  go_wp2
  exact bodyPost_ret (v := .tuple #[.agg #[.int .u64 0, .int .u32 0], .int .i64 2]) (by simp [results, Tryd.results17, go_sem, c0, c1]) rfl ⟨rfl, (HB5.out.bel.setCell (by simp) _).setCell (by simp) _⟩

set_option maxHeartbeats 1000000 in
theorem read17_other (s : ByteArray) (w : World) (hs : s.size ≤ 140737488355328) (hG : Gl w) (X Y : List UInt8) (f : Bool) (hc : Hid (cut s.data.toList [46] = (X, Y, f))) (hX : X.length ≤ 140737488355328) (hY : Y.length ≤ 140737488355328) (u v : Nat) (hu : u < 18446744073709551616) (hv : v < 4294967296) (h : Hid (parseUintB 64 X = .ok u)) (h2 : Hid (parseUintB 32 Y = .ok v)) (hr : Hid (rightB u v = true)) (ht : Hid (textL u v ≠ s.data.toList)) :
    Calls Tryd.prog 17 #[.string s] w fun e w' => e = .returned (.tuple #[.agg #[.int .u64 0, .int .u32 0], .int .i64 2]) ∧ Below w.heap.size w w' := by
  have HB0 : Hid (RBox w (w.alloc (.cells #[.int .u64 0, .int .u32 0] 25)) 0 0) := RBox.first w 0 0 hG
  clear hG
  go_enter Tryd.func17, Tryd.ntmps17
  go_wp2_with fail
  refine (cut22 s _ hs).mono ?_
  rw [hc.out]
  rintro e w1 ⟨rfl, n, rfl⟩
  have HB1 : Hid (RBox w ((w.alloc (.cells #[.int .u64 0, .int .u32 0] 25)).drewN n) 0 0) := HB0.out.dr n
  go_wp2_with fail
  refine (parse64_ok X u hX h.out _).mono ?_
  rintro e w2 ⟨rfl, hb2⟩
  have HB2 : Hid (RBox w w2 0 0) := HB1.out.on hb2
  clear hb2
  go_wp2_with fail
  refine (parse32_ok Y v hY h2.out _).mono ?_
  rintro e w3 ⟨rfl, hb3⟩
  have HB3 : Hid (RBox w w3 0 0) := HB2.out.on hb3
  clear hb3
  go_wp2_with fail
  have HB4 : Hid (RBox w (w3.alloc (.cells #[.int .u64 u, .int .u32 v] 25)) 0 0) := HB3.out.on ((Below.refl _ _).alloc (Nat.le_refl _) _)
  refine (right10 _ _ _).mono ?_
  rw [hr.out]
  rintro e w4 ⟨rfl, hb4⟩
  have HB5 : Hid (RBox w w4 0 0) := HB4.out.on hb4
  have hz4 : w3.heap.size < w4.heap.size := by have := hb4.size; simp at this; omega
  have d0 : w4.cell? ⟨w3.heap.size, 0, none⟩ = some (.int .u64 u) := by rw [hb4.cell (by simp)]; simp [go_sem]
  have d1 : w4.cell? ⟨w3.heap.size, 1, none⟩ = some (.int .u32 v) := by rw [hb4.cell (by simp)]; simp [go_sem]
  clear hb4
  go_wp2_with fail
  refine (text16 u v hu hv _ HB5.out.gl.tab).mono ?_
  rintro e w5 ⟨rfl, hb5⟩
  have HB6 : Hid (RBox w w5 0 0) := HB5.out.on hb5
  have _g0 : w5.cell? ⟨w3.heap.size, 0, none⟩ = some (.int .u64 u) := by rw [hb5.cell (by simpa using hz4)]; exact d0
  have _g1 : w5.cell? ⟨w3.heap.size, 1, none⟩ = some (.int .u32 v) := by rw [hb5.cell (by simpa using hz4)]; exact d1
  clear hb5
  obtain ⟨c0, c1, f0, f1, sz, -, -⟩ := HB6.out
  have heq : (textL u v == s.toList) = false := by rw [beq_eq_false_iff_ne, ByteArray.toList_eq]; exact ht.out
  go_wp2
  exact bodyPost_ret (v := .tuple #[.agg #[.int .u64 0, .int .u32 0], .int .i64 2]) (by simp [results, Tryd.results17, go_sem, c0, c1]) rfl ⟨rfl, (HB6.out.bel.setCell (by simp) _).setCell (by simp) _⟩

set_option maxHeartbeats 1000000 in
theorem read17_good (s : ByteArray) (w : World) (hs : s.size ≤ 140737488355328) (hG : Gl w) (X Y : List UInt8) (f : Bool) (hc : Hid (cut s.data.toList [46] = (X, Y, f))) (hX : X.length ≤ 140737488355328) (hY : Y.length ≤ 140737488355328) (u v : Nat) (hu : u < 18446744073709551616) (hv : v < 4294967296) (h : Hid (parseUintB 64 X = .ok u)) (h2 : Hid (parseUintB 32 Y = .ok v)) (hr : Hid (rightB u v = true)) (ht : Hid (textL u v = s.data.toList)) :
    Calls Tryd.prog 17 #[.string s] w fun e w' => e = .returned (.tuple #[.agg #[.int .u64 u, .int .u32 v], .int .i64 0]) ∧ Below w.heap.size w w' := by
  have HB0 : Hid (RBox w (w.alloc (.cells #[.int .u64 0, .int .u32 0] 25)) 0 0) := RBox.first w 0 0 hG
  clear hG
  go_enter Tryd.func17, Tryd.ntmps17
  go_wp2_with fail
  refine (cut22 s _ hs).mono ?_
  rw [hc.out]
  rintro e w1 ⟨rfl, n, rfl⟩
  have HB1 : Hid (RBox w ((w.alloc (.cells #[.int .u64 0, .int .u32 0] 25)).drewN n) 0 0) := HB0.out.dr n
  go_wp2_with fail
  refine (parse64_ok X u hX h.out _).mono ?_
  rintro e w2 ⟨rfl, hb2⟩
  have HB2 : Hid (RBox w w2 0 0) := HB1.out.on hb2
  clear hb2
  go_wp2_with fail
  refine (parse32_ok Y v hY h2.out _).mono ?_
  rintro e w3 ⟨rfl, hb3⟩
  have HB3 : Hid (RBox w w3 0 0) := HB2.out.on hb3
  clear hb3
  go_wp2_with fail
  have HB4 : Hid (RBox w (w3.alloc (.cells #[.int .u64 u, .int .u32 v] 25)) 0 0) := HB3.out.on ((Below.refl _ _).alloc (Nat.le_refl _) _)
  refine (right10 _ _ _).mono ?_
  rw [hr.out]
  rintro e w4 ⟨rfl, hb4⟩
  have HB5 : Hid (RBox w w4 0 0) := HB4.out.on hb4
  have hz4 : w3.heap.size < w4.heap.size := by have := hb4.size; simp at this; omega
  have d0 : w4.cell? ⟨w3.heap.size, 0, none⟩ = some (.int .u64 u) := by rw [hb4.cell (by simp)]; simp [go_sem]
  have d1 : w4.cell? ⟨w3.heap.size, 1, none⟩ = some (.int .u32 v) := by rw [hb4.cell (by simp)]; simp [go_sem]
  clear hb4
  go_wp2_with fail
  refine (text16 u v hu hv _ HB5.out.gl.tab).mono ?_
  rintro e w5 ⟨rfl, hb5⟩
  have HB6 : Hid (RBox w w5 0 0) := HB5.out.on hb5
  have g0 : w5.cell? ⟨w3.heap.size, 0, none⟩ = some (.int .u64 u) := by rw [hb5.cell (by simpa using hz4)]; exact d0
  have g1 : w5.cell? ⟨w3.heap.size, 1, none⟩ = some (.int .u32 v) := by rw [hb5.cell (by simpa using hz4)]; exact d1
  clear hb5
  obtain ⟨c0, c1, f0, f1, sz, -, -⟩ := HB6.out
  have heq : (textL u v == s.toList) = true := by rw [beq_iff_eq, ByteArray.toList_eq]; exact ht.out
  go_wp2
  exact bodyPost_ret (v := .tuple #[.agg #[.int .u64 u, .int .u32 v], .int .i64 0]) (by simp [results, Tryd.results17, go_sem, c0, c1]) rfl ⟨rfl, (HB6.out.bel.setCell (by simp) _).setCell (by simp) _⟩

theorem parse_lt64 {x : List UInt8} {u : Nat} (h : parseUintB 64 x = .ok u) : u < 18446744073709551616 := by
  have := parseUintB_le h
  rw [pow64] at this
  omega
theorem parse_lt32 {x : List UInt8} {u : Nat} (h : parseUintB 32 x = .ok u) : u < 4294967296 := by
  have := parseUintB_le h
  rw [pow32] at this
  omega
theorem cut_len (s sep : List UInt8) : (cut s sep).1.length ≤ s.length ∧ (cut s sep).2.1.length ≤ s.length := by
  unfold cut
  split
  · exact ⟨List.length_take_le' _ _, by rw [List.length_drop]; omega⟩
  · exact ⟨Nat.le_refl _, Nat.zero_le _⟩

/-- stamp.Read answers as the document's reading does. -/
theorem read17 (s : ByteArray) (w : World) (hs : s.size ≤ 140737488355328) (hG : Gl w) (a b c : Int) (hr : rdS s.data.toList = (a, b, c)) :
    Calls Tryd.prog 17 #[.string s] w fun e w' => e = .returned (.tuple #[.agg #[.int .u64 a, .int .u32 b], .int .i64 c]) ∧ Below w.heap.size w w' := by
  obtain ⟨X, Y, f, hc⟩ : ∃ X Y f, cut s.data.toList [46] = (X, Y, f) := ⟨_, _, _, rfl⟩
  have hlen := cut_len s.data.toList [46]
  rw [hc, len_data] at hlen
  have hX : X.length ≤ 140737488355328 := by have := hlen.1; simp only at this; omega
  have hY : Y.length ≤ 140737488355328 := by have := hlen.2; simp only at this; omega
  by_cases h1 : ∃ u, parseUintB 64 X = .ok u
  · obtain ⟨u, h1⟩ := h1
    by_cases h2 : ∃ v, parseUintB 32 Y = .ok v
    · obtain ⟨v, h2⟩ := h2
      have hrd := rd_ok hc h1 h2
      rw [hr] at hrd
      cases hb : rightB u v
      · have hn : ¬ (u ≤ 281474976710656 ∧ v ≤ 4095 ∧ textL u v = s.data.toList) := fun h => by
          have : rightB u v = true := rightB_iff.2 (by omega)
          rw [hb] at this; cases this
        rw [if_neg hn] at hrd
        simp only [Prod.mk.injEq] at hrd
        obtain ⟨rfl, rfl, rfl⟩ := hrd
        exact read17_wrong s w hs hG X Y f hc hX hY u v (parse_lt64 h1) (parse_lt32 h2) h1 h2 hb
      · have hb' := rightB_iff.1 hb
        by_cases ht : textL u v = s.data.toList
        · rw [if_pos ⟨by omega, by omega, ht⟩] at hrd
          simp only [Prod.mk.injEq] at hrd
          obtain ⟨rfl, rfl, rfl⟩ := hrd
          exact read17_good s w hs hG X Y f hc hX hY u v (parse_lt64 h1) (parse_lt32 h2) h1 h2 hb ht
        · rw [if_neg (fun h => ht h.2.2)] at hrd
          simp only [Prod.mk.injEq] at hrd
          obtain ⟨rfl, rfl, rfl⟩ := hrd
          exact read17_other s w hs hG X Y f hc hX hY u v (parse_lt64 h1) (parse_lt32 h2) h1 h2 hb ht
    · have h2' : ∀ u, parseUintB 32 Y ≠ .ok u := fun u e => h2 ⟨u, e⟩
      have hrd := rd_bad hc (.inr h2')
      rw [hr] at hrd
      simp only [Prod.mk.injEq] at hrd
      obtain ⟨rfl, rfl, rfl⟩ := hrd
      exact read17_bad2 s w hs hG X Y f hc hX hY u h1 h2'
  · have h1' : ∀ u, parseUintB 64 X ≠ .ok u := fun u e => h1 ⟨u, e⟩
    have hrd := rd_bad hc (.inl h1')
    rw [hr] at hrd
    simp only [Prod.mk.injEq] at hrd
    obtain ⟨rfl, rfl, rfl⟩ := hrd
    exact read17_bad1 s w hs hG X Y f hc hX hY h1'
end Go.Proofs.YtdhpcgjkhhldhaaDoor
