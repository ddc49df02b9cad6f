/-
  The walk of the law StampTexts: at every stamp and every text that the form reaches it returns true, the library's variables being as they start.
-/
import Derived.Test.YtdhpcgjkhhldhaaDoorStRead
import Derived.Test.YtdhpcgjkhhldhaaDoorRead
import Derived.Test.YtdhpcgjkhhldhaaDoorAwake
namespace Go.Proofs.YtdhpcgjkhhldhaaDoor
open Go.RowKit Go.Lib

theorem int_pair (p l : Int) (w : World) : (binOp .neq 25 (.agg #[.int .u64 p, .int .u32 l]) (.agg #[.int .u64 p, .int .u32 l])).run Tryd.prog w = .ok (.bool false) w := by
  simp [go_sem]
theorem int_pair_eq (p l : Int) (w : World) : (binOp .eql 25 (.agg #[.int .u64 p, .int .u32 l]) (.agg #[.int .u64 p, .int .u32 l])).run Tryd.prog w = .ok (.bool true) w := by
  simp [go_sem]

set_option maxHeartbeats 1000000 in
theorem texts_ro (p l : Nat) (s : ByteArray) (w : World) (hp : p < 18446744073709551616) (hl : l < 4294967296) (hs : s.size ≤ 140737488355328) (hG : Gl w) (u v : Nat) (hu : u < 18446744073709551616) (hv : v < 4294967296) (ht : Hid (textL u v = s.data.toList)) (hr : Hid (rightB p l = true))
    (r1 : Hid (rdS (textL p l) = ((p : Int), (l : Int), 0))) (r2 : Hid (rdS s.data.toList = ((u : Int), (v : Int), 0))) :
    Calls Tryd.prog 4 #[.agg #[.int .u64 p, .int .u32 l], .string s] w fun e w' => e = .returned (.bool true) ∧ Below w.heap.size w w' := by
  have HB0 : Hid (RBox w (w.alloc (.cells #[.int .u64 p, .int .u32 l] 25)) p l) := RBox.first w p l hG
  have hlen : (textL p l).length ≤ 41 := by
    have h1 := dec_bnd p hp
    have h2 := dec_bnd l (by omega)
    unfold textL
    simp
    omega
  have HLEN := hid hlen
  clear hG hlen
  go_enter Tryd.func4, Tryd.ntmps4
  go_wp2_with fail
  refine (awake7 _).mono ?_
  rintro e w1 ⟨rfl, hb1⟩
  have HB1 : Hid (RBox w w1 p l) := HB0.out.on hb1
  clear hb1
  obtain ⟨c0, c1, -, -, -, -, -⟩ := HB1.out
  go_wp2_with fail
  refine (text16 p l hp hl _ HB1.out.gl.tab).mono ?_
  rintro e w2 ⟨rfl, hb2⟩
  have HB2 : Hid (RBox w w2 p l) := HB1.out.on hb2
  clear hb2 c0 c1
  go_wp2_with fail
  refine (read17 ⟨(textL p l).toArray⟩ _ (by rw [mk_size]; have := HLEN.out; omega) HB2.out.gl _ _ _ r1.out).mono ?_
  rintro e w3 ⟨rfl, hb3⟩
  have HB3 : Hid (RBox w w3 p l) := HB2.out.on hb3
  clear hb3
  go_wp2_with fail
  have HB3a : Hid (RBox w (w3.alloc (.cells #[.int .u64 (p : Int), .int .u32 (l : Int)] 25)) p l) := HB3.out.on ((Below.refl _ _).alloc (Nat.le_refl _) _)
  refine (read17 s _ hs HB3a.out.gl _ _ _ r2.out).mono ?_
  rintro e w4 ⟨rfl, hb4⟩
  have HB4 : Hid (RBox w w4 p l) := HB3a.out.on hb4
  have z4 : w3.heap.size < w4.heap.size := by have := hb4.size; simp at this; omega
  have u0 : w4.cell? ⟨w3.heap.size, 0, none⟩ = some (.int .u64 (p : Int)) := by rw [hb4.cell (by simp)]; simp [go_sem]
  have u1 : w4.cell? ⟨w3.heap.size, 1, none⟩ = some (.int .u32 (l : Int)) := by rw [hb4.cell (by simp)]; simp [go_sem]
  clear hb4
  go_wp2_with fail
  have HB4a : Hid (RBox w (w4.alloc (.cells #[.int .u64 (u : Int), .int .u32 (v : Int)] 25)) p l) := HB4.out.on ((Below.refl _ _).alloc (Nat.le_refl _) _)
  refine (refread18 s _ hs _ _ _ r2).mono ?_
  rintro e w5 ⟨rfl, hb5⟩
  have HB5 : Hid (RBox w w5 p l) := HB4a.out.on hb5
  have z5 : w4.heap.size < w5.heap.size := by have := hb5.size; simp at this; omega
  have u0' : w5.cell? ⟨w3.heap.size, 0, none⟩ = some (.int .u64 (p : Int)) := by rw [hb5.cell (by simp; omega), World.cell?_alloc_past _ _ _ z4]; exact u0
  have u1' : w5.cell? ⟨w3.heap.size, 1, none⟩ = some (.int .u32 (l : Int)) := by rw [hb5.cell (by simp; omega), World.cell?_alloc_past _ _ _ z4]; exact u1
  have v0 : w5.cell? ⟨w4.heap.size, 0, none⟩ = some (.int .u64 (u : Int)) := by rw [hb5.cell (by simp)]; simp [go_sem]
  have v1 : w5.cell? ⟨w4.heap.size, 1, none⟩ = some (.int .u32 (v : Int)) := by rw [hb5.cell (by simp)]; simp [go_sem]
  clear hb5 u0 u1
  obtain ⟨c0, c1, -, -, sz, -, -⟩ := HB5.out
  go_wp2_with fail
  have HB5a : Hid (RBox w (w5.alloc (.cells #[.int .u64 (u : Int), .int .u32 (v : Int)] 25)) p l) := HB5.out.on ((Below.refl _ _).alloc (Nat.le_refl _) _)
  refine (text19 p l hp hl _).mono ?_
  rintro e w6 ⟨rfl, hb6⟩
  have HB6 : Hid (RBox w w6 p l) := HB5a.out.on hb6
  have z6 : w5.heap.size < w6.heap.size := by have := hb6.size; simp at this; omega
  have x0 : w6.cell? ⟨w3.heap.size, 0, none⟩ = some (.int .u64 (p : Int)) := by rw [hb6.cell (by simp; omega), World.cell?_alloc_past _ _ _ (by omega)]; exact u0'
  have x1 : w6.cell? ⟨w3.heap.size, 1, none⟩ = some (.int .u32 (l : Int)) := by rw [hb6.cell (by simp; omega), World.cell?_alloc_past _ _ _ (by omega)]; exact u1'
  have y0 : w6.cell? ⟨w4.heap.size, 0, none⟩ = some (.int .u64 (u : Int)) := by rw [hb6.cell (by simp; omega), World.cell?_alloc_past _ _ _ z5]; exact v0
  have y1 : w6.cell? ⟨w4.heap.size, 1, none⟩ = some (.int .u32 (v : Int)) := by rw [hb6.cell (by simp; omega), World.cell?_alloc_past _ _ _ z5]; exact v1
  have t0 : w6.cell? ⟨w5.heap.size, 0, none⟩ = some (.int .u64 (u : Int)) := by rw [hb6.cell (by simp)]; simp [go_sem]
  have t1 : w6.cell? ⟨w5.heap.size, 1, none⟩ = some (.int .u32 (v : Int)) := by rw [hb6.cell (by simp)]; simp [go_sem]
  clear hb6 u0' u1' v0 v1 c0 c1 sz
  obtain ⟨c0, c1, -, -, sz, -, -⟩ := HB6.out
  go_wp2_with fail
  refine (text16 u v hu hv _ HB6.out.gl.tab).mono ?_
  rintro e w7 ⟨rfl, hb7⟩
  have HB7 : Hid (RBox w w7 p l) := HB6.out.on hb7
  have x0' : w7.cell? ⟨w3.heap.size, 0, none⟩ = some (.int .u64 (p : Int)) := by rw [hb7.cell (by simp; omega)]; exact x0
  have x1' : w7.cell? ⟨w3.heap.size, 1, none⟩ = some (.int .u32 (l : Int)) := by rw [hb7.cell (by simp; omega)]; exact x1
  have z7 : w6.heap.size ≤ w7.heap.size := hb7.size
  clear hb7 x0 x1 y0 y1 t0 t1 c0 c1 sz
  obtain ⟨c0, c1, -, -, sz, -, -⟩ := HB7.out
  have heq : (textL u v == s.toList) = true := by rw [beq_iff_eq, ByteArray.toList_eq]; exact ht.out
  go_wp2_with fail
  refine (right10 _ _ _).mono ?_
  rw [hr.out]
  rintro e w8 ⟨rfl, hb8⟩
  have HB8 : Hid (RBox w w8 p l) := HB7.out.on hb8
  have q0 : w8.cell? ⟨w3.heap.size, 0, none⟩ = some (.int .u64 (p : Int)) := by rw [hb8.cell (by simp; omega)]; exact x0'
  have q1 : w8.cell? ⟨w3.heap.size, 1, none⟩ = some (.int .u32 (l : Int)) := by rw [hb8.cell (by simp; omega)]; exact x1'
  clear hb8 c0 c1 sz
  obtain ⟨c0, c1, -, -, sz, -, -⟩ := HB8.out
  go_wp2
  go_ret
  exact ⟨rfl, HB8.out.bel⟩

set_option maxHeartbeats 1000000 in
theorem texts_rb (p l : Nat) (s : ByteArray) (w : World) (hp : p < 18446744073709551616) (hl : l < 4294967296) (hs : s.size ≤ 140737488355328) (hG : Gl w) (hr : Hid (rightB p l = true))
    (r1 : Hid (rdS (textL p l) = ((p : Int), (l : Int), 0))) (r2 : Hid (rdS s.data.toList = (0, 0, 2))) :
    Calls Tryd.prog 4 #[.agg #[.int .u64 p, .int .u32 l], .string s] w fun e w' => e = .returned (.bool true) ∧ Below w.heap.size w w' := by
  have HB0 : Hid (RBox w (w.alloc (.cells #[.int .u64 p, .int .u32 l] 25)) p l) := RBox.first w p l hG
  have hlen : (textL p l).length ≤ 41 := by
    have h1 := dec_bnd p hp
    have h2 := dec_bnd l (by omega)
    unfold textL
    simp
    omega
  have HLEN := hid hlen
  clear hG hlen
  go_enter Tryd.func4, Tryd.ntmps4
  go_wp2_with fail
  refine (awake7 _).mono ?_
  rintro e w1 ⟨rfl, hb1⟩
  have HB1 : Hid (RBox w w1 p l) := HB0.out.on hb1
  clear hb1
  obtain ⟨c0, c1, -, -, -, -, -⟩ := HB1.out
  go_wp2_with fail
  refine (text16 p l hp hl _ HB1.out.gl.tab).mono ?_
  rintro e w2 ⟨rfl, hb2⟩
  have HB2 : Hid (RBox w w2 p l) := HB1.out.on hb2
  clear hb2 c0 c1
  go_wp2_with fail
  refine (read17 ⟨(textL p l).toArray⟩ _ (by rw [mk_size]; have := HLEN.out; omega) HB2.out.gl _ _ _ r1.out).mono ?_
  rintro e w3 ⟨rfl, hb3⟩
  have HB3 : Hid (RBox w w3 p l) := HB2.out.on hb3
  clear hb3
  go_wp2_with fail
  have HB3a : Hid (RBox w (w3.alloc (.cells #[.int .u64 (p : Int), .int .u32 (l : Int)] 25)) p l) := HB3.out.on ((Below.refl _ _).alloc (Nat.le_refl _) _)
  refine (read17 s _ hs HB3a.out.gl _ _ _ r2.out).mono ?_
  rintro e w4 ⟨rfl, hb4⟩
  have HB4 : Hid (RBox w w4 p l) := HB3a.out.on hb4
  have z4 : w3.heap.size < w4.heap.size := by have := hb4.size; simp at this; omega
  have u0 : w4.cell? ⟨w3.heap.size, 0, none⟩ = some (.int .u64 (p : Int)) := by rw [hb4.cell (by simp)]; simp [go_sem]
  have u1 : w4.cell? ⟨w3.heap.size, 1, none⟩ = some (.int .u32 (l : Int)) := by rw [hb4.cell (by simp)]; simp [go_sem]
  clear hb4
  go_wp2_with fail
  have HB4a : Hid (RBox w (w4.alloc (.cells #[.int .u64 0, .int .u32 0] 25)) p l) := HB4.out.on ((Below.refl _ _).alloc (Nat.le_refl _) _)
  refine (refread18 s _ hs _ _ _ r2).mono ?_
  rintro e w5 ⟨rfl, hb5⟩
  have HB5 : Hid (RBox w w5 p l) := HB4a.out.on hb5
  have z5 : w4.heap.size < w5.heap.size := by have := hb5.size; simp at this; omega
  have u0' : w5.cell? ⟨w3.heap.size, 0, none⟩ = some (.int .u64 (p : Int)) := by rw [hb5.cell (by simp; omega), World.cell?_alloc_past _ _ _ z4]; exact u0
  have u1' : w5.cell? ⟨w3.heap.size, 1, none⟩ = some (.int .u32 (l : Int)) := by rw [hb5.cell (by simp; omega), World.cell?_alloc_past _ _ _ z4]; exact u1
  have v0 : w5.cell? ⟨w4.heap.size, 0, none⟩ = some (.int .u64 0) := by rw [hb5.cell (by simp)]; simp [go_sem]
  have v1 : w5.cell? ⟨w4.heap.size, 1, none⟩ = some (.int .u32 0) := by rw [hb5.cell (by simp)]; simp [go_sem]
  clear hb5 u0 u1
  obtain ⟨c0, c1, -, -, sz, -, -⟩ := HB5.out
  go_wp2_with fail
  have HB5a : Hid (RBox w (w5.alloc (.cells #[.int .u64 0, .int .u32 0] 25)) p l) := HB5.out.on ((Below.refl _ _).alloc (Nat.le_refl _) _)
  refine (text19 p l hp hl _).mono ?_
  rintro e w6 ⟨rfl, hb6⟩
  have HB6 : Hid (RBox w w6 p l) := HB5a.out.on hb6
  have z6 : w5.heap.size < w6.heap.size := by have := hb6.size; simp at this; omega
  have x0 : w6.cell? ⟨w3.heap.size, 0, none⟩ = some (.int .u64 (p : Int)) := by rw [hb6.cell (by simp; omega), World.cell?_alloc_past _ _ _ (by omega)]; exact u0'
  have x1 : w6.cell? ⟨w3.heap.size, 1, none⟩ = some (.int .u32 (l : Int)) := by rw [hb6.cell (by simp; omega), World.cell?_alloc_past _ _ _ (by omega)]; exact u1'
  have y0 : w6.cell? ⟨w4.heap.size, 0, none⟩ = some (.int .u64 0) := by rw [hb6.cell (by simp; omega), World.cell?_alloc_past _ _ _ z5]; exact v0
  have y1 : w6.cell? ⟨w4.heap.size, 1, none⟩ = some (.int .u32 0) := by rw [hb6.cell (by simp; omega), World.cell?_alloc_past _ _ _ z5]; exact v1
  have t0 : w6.cell? ⟨w5.heap.size, 0, none⟩ = some (.int .u64 0) := by rw [hb6.cell (by simp)]; simp [go_sem]
  have t1 : w6.cell? ⟨w5.heap.size, 1, none⟩ = some (.int .u32 0) := by rw [hb6.cell (by simp)]; simp [go_sem]
  clear hb6 u0' u1' v0 v1 c0 c1 sz
  obtain ⟨c0, c1, -, -, sz, -, -⟩ := HB6.out
  go_wp2_with fail
  refine (right10 _ _ _).mono ?_
  rw [hr.out]
  rintro e w8 ⟨rfl, hb8⟩
  have HB8 : Hid (RBox w w8 p l) := HB6.out.on hb8
  have q0 : w8.cell? ⟨w3.heap.size, 0, none⟩ = some (.int .u64 (p : Int)) := by rw [hb8.cell (by simp; omega)]; exact x0
  have q1 : w8.cell? ⟨w3.heap.size, 1, none⟩ = some (.int .u32 (l : Int)) := by rw [hb8.cell (by simp; omega)]; exact x1
  clear hb8 c0 c1 sz
  obtain ⟨c0, c1, -, -, sz, -, -⟩ := HB8.out
  go_wp2
  go_ret
  exact ⟨rfl, HB8.out.bel⟩

set_option maxHeartbeats 1000000 in
theorem texts_no (p l : Nat) (s : ByteArray) (w : World) (hp : p < 18446744073709551616) (hl : l < 4294967296) (hs : s.size ≤ 140737488355328) (hG : Gl w) (u v : Nat) (hu : u < 18446744073709551616) (hv : v < 4294967296) (ht : Hid (textL u v = s.data.toList)) (hr : Hid (rightB p l = false))
    (r1 : Hid (rdS (textL p l) = (0, 0, 2))) (r2 : Hid (rdS s.data.toList = ((u : Int), (v : Int), 0))) :
    Calls Tryd.prog 4 #[.agg #[.int .u64 p, .int .u32 l], .string s] w fun e w' => e = .returned (.bool true) ∧ Below w.heap.size w w' := by
  have HB0 : Hid (RBox w (w.alloc (.cells #[.int .u64 p, .int .u32 l] 25)) p l) := RBox.first w p l hG
  have hlen : (textL p l).length ≤ 41 := by
    have h1 := dec_bnd p hp
    have h2 := dec_bnd l (by omega)
    unfold textL
    simp
    omega
  have HLEN := hid hlen
  clear hG hlen
  go_enter Tryd.func4, Tryd.ntmps4
  go_wp2_with fail
  refine (awake7 _).mono ?_
  rintro e w1 ⟨rfl, hb1⟩
  have HB1 : Hid (RBox w w1 p l) := HB0.out.on hb1
  clear hb1
  obtain ⟨c0, c1, -, -, -, -, -⟩ := HB1.out
  go_wp2_with fail
  refine (text16 p l hp hl _ HB1.out.gl.tab).mono ?_
  rintro e w2 ⟨rfl, hb2⟩
  have HB2 : Hid (RBox w w2 p l) := HB1.out.on hb2
  clear hb2 c0 c1
  go_wp2_with fail
  refine (read17 ⟨(textL p l).toArray⟩ _ (by rw [mk_size]; have := HLEN.out; omega) HB2.out.gl _ _ _ r1.out).mono ?_
  rintro e w3 ⟨rfl, hb3⟩
  have HB3 : Hid (RBox w w3 p l) := HB2.out.on hb3
  clear hb3
  go_wp2_with fail
  have HB3a : Hid (RBox w (w3.alloc (.cells #[.int .u64 0, .int .u32 0] 25)) p l) := HB3.out.on ((Below.refl _ _).alloc (Nat.le_refl _) _)
  refine (read17 s _ hs HB3a.out.gl _ _ _ r2.out).mono ?_
  rintro e w4 ⟨rfl, hb4⟩
  have HB4 : Hid (RBox w w4 p l) := HB3a.out.on hb4
  have z4 : w3.heap.size < w4.heap.size := by have := hb4.size; simp at this; omega
  have u0 : w4.cell? ⟨w3.heap.size, 0, none⟩ = some (.int .u64 0) := by rw [hb4.cell (by simp)]; simp [go_sem]
  have u1 : w4.cell? ⟨w3.heap.size, 1, none⟩ = some (.int .u32 0) := by rw [hb4.cell (by simp)]; simp [go_sem]
  clear hb4
  go_wp2_with fail
  have HB4a : Hid (RBox w (w4.alloc (.cells #[.int .u64 (u : Int), .int .u32 (v : Int)] 25)) p l) := HB4.out.on ((Below.refl _ _).alloc (Nat.le_refl _) _)
  refine (refread18 s _ hs _ _ _ r2).mono ?_
  rintro e w5 ⟨rfl, hb5⟩
  have HB5 : Hid (RBox w w5 p l) := HB4a.out.on hb5
  have z5 : w4.heap.size < w5.heap.size := by have := hb5.size; simp at this; omega
  have u0' : w5.cell? ⟨w3.heap.size, 0, none⟩ = some (.int .u64 0) := by rw [hb5.cell (by simp; omega), World.cell?_alloc_past _ _ _ z4]; exact u0
  have u1' : w5.cell? ⟨w3.heap.size, 1, none⟩ = some (.int .u32 0) := by rw [hb5.cell (by simp; omega), World.cell?_alloc_past _ _ _ z4]; exact u1
  have v0 : w5.cell? ⟨w4.heap.size, 0, none⟩ = some (.int .u64 (u : Int)) := by rw [hb5.cell (by simp)]; simp [go_sem]
  have v1 : w5.cell? ⟨w4.heap.size, 1, none⟩ = some (.int .u32 (v : Int)) := by rw [hb5.cell (by simp)]; simp [go_sem]
  clear hb5 u0 u1
  obtain ⟨c0, c1, -, -, sz, -, -⟩ := HB5.out
  go_wp2_with fail
  have HB5a : Hid (RBox w (w5.alloc (.cells #[.int .u64 (u : Int), .int .u32 (v : Int)] 25)) p l) := HB5.out.on ((Below.refl _ _).alloc (Nat.le_refl _) _)
  refine (text19 p l hp hl _).mono ?_
  rintro e w6 ⟨rfl, hb6⟩
  have HB6 : Hid (RBox w w6 p l) := HB5a.out.on hb6
  have z6 : w5.heap.size < w6.heap.size := by have := hb6.size; simp at this; omega
  have x0 : w6.cell? ⟨w3.heap.size, 0, none⟩ = some (.int .u64 0) := by rw [hb6.cell (by simp; omega), World.cell?_alloc_past _ _ _ (by omega)]; exact u0'
  have x1 : w6.cell? ⟨w3.heap.size, 1, none⟩ = some (.int .u32 0) := by rw [hb6.cell (by simp; omega), World.cell?_alloc_past _ _ _ (by omega)]; exact u1'
  have y0 : w6.cell? ⟨w4.heap.size, 0, none⟩ = some (.int .u64 (u : Int)) := by rw [hb6.cell (by simp; omega), World.cell?_alloc_past _ _ _ z5]; exact v0
  have y1 : w6.cell? ⟨w4.heap.size, 1, none⟩ = some (.int .u32 (v : Int)) := by rw [hb6.cell (by simp; omega), World.cell?_alloc_past _ _ _ z5]; exact v1
  have t0 : w6.cell? ⟨w5.heap.size, 0, none⟩ = some (.int .u64 (u : Int)) := by rw [hb6.cell (by simp)]; simp [go_sem]
  have t1 : w6.cell? ⟨w5.heap.size, 1, none⟩ = some (.int .u32 (v : Int)) := by rw [hb6.cell (by simp)]; simp [go_sem]
  clear hb6 u0' u1' v0 v1 c0 c1 sz
  obtain ⟨c0, c1, -, -, sz, -, -⟩ := HB6.out
  go_wp2_with fail
  refine (text16 u v hu hv _ HB6.out.gl.tab).mono ?_
  rintro e w7 ⟨rfl, hb7⟩
  have HB7 : Hid (RBox w w7 p l) := HB6.out.on hb7
  have x0' : w7.cell? ⟨w3.heap.size, 0, none⟩ = some (.int .u64 0) := by rw [hb7.cell (by simp; omega)]; exact x0
  have x1' : w7.cell? ⟨w3.heap.size, 1, none⟩ = some (.int .u32 0) := by rw [hb7.cell (by simp; omega)]; exact x1
  have z7 : w6.heap.size ≤ w7.heap.size := hb7.size
  clear hb7 x0 x1 y0 y1 t0 t1 c0 c1 sz
  obtain ⟨c0, c1, -, -, sz, -, -⟩ := HB7.out
  have heq : (textL u v == s.toList) = true := by rw [beq_iff_eq, ByteArray.toList_eq]; exact ht.out
  go_wp2_with fail
  refine (right10 _ _ _).mono ?_
  rw [hr.out]
  rintro e w8 ⟨rfl, hb8⟩
  have HB8 : Hid (RBox w w8 p l) := HB7.out.on hb8
  have q0 : w8.cell? ⟨w3.heap.size, 0, none⟩ = some (.int .u64 0) := by rw [hb8.cell (by simp; omega)]; exact x0'
  have q1 : w8.cell? ⟨w3.heap.size, 1, none⟩ = some (.int .u32 0) := by rw [hb8.cell (by simp; omega)]; exact x1'
  clear hb8 c0 c1 sz
  obtain ⟨c0, c1, -, -, sz, -, -⟩ := HB8.out
  go_wp2
  go_ret
  exact ⟨rfl, HB8.out.bel⟩

set_option maxHeartbeats 1000000 in
theorem texts_nb (p l : Nat) (s : ByteArray) (w : World) (hp : p < 18446744073709551616) (hl : l < 4294967296) (hs : s.size ≤ 140737488355328) (hG : Gl w) (hr : Hid (rightB p l = false))
    (r1 : Hid (rdS (textL p l) = (0, 0, 2))) (r2 : Hid (rdS s.data.toList = (0, 0, 2))) :
    Calls Tryd.prog 4 #[.agg #[.int .u64 p, .int .u32 l], .string s] w fun e w' => e = .returned (.bool true) ∧ Below w.heap.size w w' := by
  have HB0 : Hid (RBox w (w.alloc (.cells #[.int .u64 p, .int .u32 l] 25)) p l) := RBox.first w p l hG
  have hlen : (textL p l).length ≤ 41 := by
    have h1 := dec_bnd p hp
    have h2 := dec_bnd l (by omega)
    unfold textL
    simp
    omega
  have HLEN := hid hlen
  clear hG hlen
  go_enter Tryd.func4, Tryd.ntmps4
  go_wp2_with fail
  refine (awake7 _).mono ?_
  rintro e w1 ⟨rfl, hb1⟩
  have HB1 : Hid (RBox w w1 p l) := HB0.out.on hb1
  clear hb1
  obtain ⟨c0, c1, -, -, -, -, -⟩ := HB1.out
  go_wp2_with fail
  refine (text16 p l hp hl _ HB1.out.gl.tab).mono ?_
  rintro e w2 ⟨rfl, hb2⟩
  have HB2 : Hid (RBox w w2 p l) := HB1.out.on hb2
  clear hb2 c0 c1
  go_wp2_with fail
  refine (read17 ⟨(textL p l).toArray⟩ _ (by rw [mk_size]; have := HLEN.out; omega) HB2.out.gl _ _ _ r1.out).mono ?_
  rintro e w3 ⟨rfl, hb3⟩
  have HB3 : Hid (RBox w w3 p l) := HB2.out.on hb3
  clear hb3
  go_wp2_with fail
  have HB3a : Hid (RBox w (w3.alloc (.cells #[.int .u64 0, .int .u32 0] 25)) p l) := HB3.out.on ((Below.refl _ _).alloc (Nat.le_refl _) _)
  refine (read17 s _ hs HB3a.out.gl _ _ _ r2.out).mono ?_
  rintro e w4 ⟨rfl, hb4⟩
  have HB4 : Hid (RBox w w4 p l) := HB3a.out.on hb4
  have z4 : w3.heap.size < w4.heap.size := by have := hb4.size; simp at this; omega
  have u0 : w4.cell? ⟨w3.heap.size, 0, none⟩ = some (.int .u64 0) := by rw [hb4.cell (by simp)]; simp [go_sem]
  have u1 : w4.cell? ⟨w3.heap.size, 1, none⟩ = some (.int .u32 0) := by rw [hb4.cell (by simp)]; simp [go_sem]
  clear hb4
  go_wp2_with fail
  have HB4a : Hid (RBox w (w4.alloc (.cells #[.int .u64 0, .int .u32 0] 25)) p l) := HB4.out.on ((Below.refl _ _).alloc (Nat.le_refl _) _)
  refine (refread18 s _ hs _ _ _ r2).mono ?_
  rintro e w5 ⟨rfl, hb5⟩
  have HB5 : Hid (RBox w w5 p l) := HB4a.out.on hb5
  have z5 : w4.heap.size < w5.heap.size := by have := hb5.size; simp at this; omega
  have u0' : w5.cell? ⟨w3.heap.size, 0, none⟩ = some (.int .u64 0) := by rw [hb5.cell (by simp; omega), World.cell?_alloc_past _ _ _ z4]; exact u0
  have u1' : w5.cell? ⟨w3.heap.size, 1, none⟩ = some (.int .u32 0) := by rw [hb5.cell (by simp; omega), World.cell?_alloc_past _ _ _ z4]; exact u1
  have v0 : w5.cell? ⟨w4.heap.size, 0, none⟩ = some (.int .u64 0) := by rw [hb5.cell (by simp)]; simp [go_sem]
  have v1 : w5.cell? ⟨w4.heap.size, 1, none⟩ = some (.int .u32 0) := by rw [hb5.cell (by simp)]; simp [go_sem]
  clear hb5 u0 u1
  obtain ⟨c0, c1, -, -, sz, -, -⟩ := HB5.out
  go_wp2_with fail
  have HB5a : Hid (RBox w (w5.alloc (.cells #[.int .u64 0, .int .u32 0] 25)) p l) := HB5.out.on ((Below.refl _ _).alloc (Nat.le_refl _) _)
  refine (text19 p l hp hl _).mono ?_
  rintro e w6 ⟨rfl, hb6⟩
  have HB6 : Hid (RBox w w6 p l) := HB5a.out.on hb6
  have z6 : w5.heap.size < w6.heap.size := by have := hb6.size; simp at this; omega
  have x0 : w6.cell? ⟨w3.heap.size, 0, none⟩ = some (.int .u64 0) := by rw [hb6.cell (by simp; omega), World.cell?_alloc_past _ _ _ (by omega)]; exact u0'
  have x1 : w6.cell? ⟨w3.heap.size, 1, none⟩ = some (.int .u32 0) := by rw [hb6.cell (by simp; omega), World.cell?_alloc_past _ _ _ (by omega)]; exact u1'
  have y0 : w6.cell? ⟨w4.heap.size, 0, none⟩ = some (.int .u64 0) := by rw [hb6.cell (by simp; omega), World.cell?_alloc_past _ _ _ z5]; exact v0
  have y1 : w6.cell? ⟨w4.heap.size, 1, none⟩ = some (.int .u32 0) := by rw [hb6.cell (by simp; omega), World.cell?_alloc_past _ _ _ z5]; exact v1
  have t0 : w6.cell? ⟨w5.heap.size, 0, none⟩ = some (.int .u64 0) := by rw [hb6.cell (by simp)]; simp [go_sem]
  have t1 : w6.cell? ⟨w5.heap.size, 1, none⟩ = some (.int .u32 0) := by rw [hb6.cell (by simp)]; simp [go_sem]
  clear hb6 u0' u1' v0 v1 c0 c1 sz
  obtain ⟨c0, c1, -, -, sz, -, -⟩ := HB6.out
  go_wp2_with fail
  refine (right10 _ _ _).mono ?_
  rw [hr.out]
  rintro e w8 ⟨rfl, hb8⟩
  have HB8 : Hid (RBox w w8 p l) := HB6.out.on hb8
  have q0 : w8.cell? ⟨w3.heap.size, 0, none⟩ = some (.int .u64 0) := by rw [hb8.cell (by simp; omega)]; exact x0
  have q1 : w8.cell? ⟨w3.heap.size, 1, none⟩ = some (.int .u32 0) := by rw [hb8.cell (by simp; omega)]; exact x1
  clear hb8 c0 c1 sz
  obtain ⟨c0, c1, -, -, sz, -, -⟩ := HB8.out
  go_wp2
  go_ret
  exact ⟨rfl, HB8.out.bel⟩


theorem texts_any (p l : Nat) (s : ByteArray) (w : World) (hp : p < 18446744073709551616) (hl : l < 4294967296) (hs : s.size ≤ 140737488355328) (hG : Gl w) :
    Calls Tryd.prog 4 #[.agg #[.int .u64 p, .int .u32 l], .string s] w fun e w' => e = .returned (.bool true) ∧ Below w.heap.size w w' := by
  cases hr : rightB p l
  · have r1 : rdS (textL p l) = (0, 0, 2) := rdS_no fun ⟨x, hx⟩ => by
      obtain ⟨e1, e2⟩ := text_inj hx.2.2
      have h1 := hx.1
      have h2 := hx.2.1
      rw [← e1] at h1
      rw [← e2] at h2
      have : rightB p l = true := rightB_iff.2 (by omega)
      rw [hr] at this; cases this
    rcases rdS_cases s.data.toList with ⟨u, v, hx, r2⟩ | ⟨_, r2⟩
    · obtain ⟨h1, h2, h3⟩ := hx
      exact texts_no p l s w hp hl hs hG u v (by omega) (by omega) h3.symm hr r1 r2
    · exact texts_nb p l s w hp hl hs hG hr r1 r2
  · have hr' := rightB_iff.1 hr
    have r1 : rdS (textL p l) = ((p : Int), (l : Int), 0) := rdS_yes ⟨by omega, by omega, rfl⟩
    rcases rdS_cases s.data.toList with ⟨u, v, hx, r2⟩ | ⟨_, r2⟩
    · obtain ⟨h1, h2, h3⟩ := hx
      exact texts_ro p l s w hp hl hs hG u v (by omega) (by omega) h3.symm hr r1 r2
    · exact texts_rb p l s w hp hl hs hG hr r1 r2

end Go.Proofs.YtdhpcgjkhhldhaaDoor
