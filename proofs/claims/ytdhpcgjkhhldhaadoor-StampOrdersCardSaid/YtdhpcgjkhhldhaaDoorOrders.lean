/-
  The walk of the law StampOrders: at every three stamps it returns true, and turns no memory that was there.
-/
import Derived.Test.YtdhpcgjkhhldhaaDoorAwake
import Derived.Test.YtdhpcgjkhhldhaaDoorMax
import Derived.Lib.QuietBelow
import Derived.Deep.RegionHeld3
namespace Go.Proofs.YtdhpcgjkhhldhaaDoor
open Go.RowKit Go.Sort

/-- Three stamps that came in, and two that were made, lie in their boxes, and nothing that was there has turned. -/
structure Box5 (w W : World) (p l q m r s : Int) (X Y : Nat) (n0 n1 : Int) : Prop where
  c0 : W.cell? ⟨w.heap.size, 0, none⟩ = some (.int .u64 p)
  c1 : W.cell? ⟨w.heap.size, 1, none⟩ = some (.int .u32 l)
  c2 : W.cell? ⟨w.heap.size + 1, 0, none⟩ = some (.int .u64 q)
  c3 : W.cell? ⟨w.heap.size + 1, 1, none⟩ = some (.int .u32 m)
  c4 : W.cell? ⟨w.heap.size + 1 + 1, 0, none⟩ = some (.int .u64 r)
  c5 : W.cell? ⟨w.heap.size + 1 + 1, 1, none⟩ = some (.int .u32 s)
  x0 : W.cell? ⟨X, 0, none⟩ = some (.int .u64 n0)
  x1 : W.cell? ⟨X, 1, none⟩ = some (.int .u32 n1)
  y0 : W.cell? ⟨Y, 0, none⟩ = some (.int .u64 n0)
  y1 : W.cell? ⟨Y, 1, none⟩ = some (.int .u32 n1)
  sz : w.heap.size + 1 + 1 < W.heap.size ∧ X < W.heap.size ∧ Y < W.heap.size
  bel : Below w.heap.size w W

theorem Box5.on {w W W' : World} {p l q m r s : Int} {X Y : Nat} {n0 n1 : Int} (h : Box5 w W p l q m r s X Y n0 n1) (hb : Below W.heap.size W W') : Box5 w W' p l q m r s X Y n0 n1 := by
  obtain ⟨h1, h2, h3⟩ := h.sz
  have hs := hb.size
  refine ⟨?_, ?_, ?_, ?_, ?_, ?_, ?_, ?_, ?_, ?_, by omega, h.bel.trans (hb.mono (by omega))⟩
  · rw [hb.cell (by simp; omega)]; exact h.c0
  · rw [hb.cell (by simp; omega)]; exact h.c1
  · rw [hb.cell (by simp; omega)]; exact h.c2
  · rw [hb.cell (by simp; omega)]; exact h.c3
  · rw [hb.cell (by simp; omega)]; exact h.c4
  · rw [hb.cell (by simp; omega)]; exact h.c5
  · rw [hb.cell (by simp; omega)]; exact h.x0
  · rw [hb.cell (by simp; omega)]; exact h.x1
  · rw [hb.cell (by simp; omega)]; exact h.y0
  · rw [hb.cell (by simp; omega)]; exact h.y1

theorem Box5.al {w W : World} {p l q m r s : Int} {X Y : Nat} {n0 n1 : Int} (h : Box5 w W p l q m r s X Y n0 n1) (o : Obj) : Box5 w (W.alloc o) p l q m r s X Y n0 n1 :=
  h.on ((Below.refl _ _).alloc (Nat.le_refl _) _)

theorem Box5.dr {w W : World} {p l q m r s : Int} {X Y : Nat} {n0 n1 : Int} (h : Box5 w W p l q m r s X Y n0 n1) : Box5 w W.drew p l q m r s X Y n0 n1 :=
  h.on ((Below.refl _ _).drew)

theorem Box5.cells {w W : World} {p l q m r s : Int} {X Y : Nat} {n0 n1 : Int} (h : Box5 w W p l q m r s X Y n0 n1) :
    W.cell? ⟨w.heap.size, 0, none⟩ = some (.int .u64 p) ∧ W.cell? ⟨w.heap.size, 1, none⟩ = some (.int .u32 l) ∧ W.cell? ⟨w.heap.size + 1, 0, none⟩ = some (.int .u64 q) ∧ W.cell? ⟨w.heap.size + 1, 1, none⟩ = some (.int .u32 m) ∧
    W.cell? ⟨w.heap.size + 1 + 1, 0, none⟩ = some (.int .u64 r) ∧ W.cell? ⟨w.heap.size + 1 + 1, 1, none⟩ = some (.int .u32 s) ∧ Hid (Box5 w W p l q m r s X Y n0 n1) :=
  ⟨h.c0, h.c1, h.c2, h.c3, h.c4, h.c5, h⟩

theorem s7_on {w W W' : World} {p l q m r s : Int} {X Y : Nat} {n0 n1 : Int} (hb : Below W.heap.size W W') (h : (W.cell? ⟨w.heap.size, 0, none⟩ = some (.int .u64 p) ∧ W.cell? ⟨w.heap.size, 1, none⟩ = some (.int .u32 l) ∧ W.cell? ⟨w.heap.size + 1, 0, none⟩ = some (.int .u64 q) ∧ W.cell? ⟨w.heap.size + 1, 1, none⟩ = some (.int .u32 m) ∧ W.cell? ⟨w.heap.size + 1 + 1, 0, none⟩ = some (.int .u64 r) ∧ W.cell? ⟨w.heap.size + 1 + 1, 1, none⟩ = some (.int .u32 s) ∧ Hid (Box5 w W p l q m r s X Y n0 n1))) :
    (W'.cell? ⟨w.heap.size, 0, none⟩ = some (.int .u64 p) ∧ W'.cell? ⟨w.heap.size, 1, none⟩ = some (.int .u32 l) ∧ W'.cell? ⟨w.heap.size + 1, 0, none⟩ = some (.int .u64 q) ∧ W'.cell? ⟨w.heap.size + 1, 1, none⟩ = some (.int .u32 m) ∧ W'.cell? ⟨w.heap.size + 1 + 1, 0, none⟩ = some (.int .u64 r) ∧ W'.cell? ⟨w.heap.size + 1 + 1, 1, none⟩ = some (.int .u32 s) ∧ Hid (Box5 w W' p l q m r s X Y n0 n1)) := (Box5.on h.2.2.2.2.2.2.out hb).cells
theorem s7_al {w W : World} {p l q m r s : Int} {X Y : Nat} {n0 n1 : Int} (o : Obj) (h : (W.cell? ⟨w.heap.size, 0, none⟩ = some (.int .u64 p) ∧ W.cell? ⟨w.heap.size, 1, none⟩ = some (.int .u32 l) ∧ W.cell? ⟨w.heap.size + 1, 0, none⟩ = some (.int .u64 q) ∧ W.cell? ⟨w.heap.size + 1, 1, none⟩ = some (.int .u32 m) ∧ W.cell? ⟨w.heap.size + 1 + 1, 0, none⟩ = some (.int .u64 r) ∧ W.cell? ⟨w.heap.size + 1 + 1, 1, none⟩ = some (.int .u32 s) ∧ Hid (Box5 w W p l q m r s X Y n0 n1))) :
    ((W.alloc o).cell? ⟨w.heap.size, 0, none⟩ = some (.int .u64 p) ∧ (W.alloc o).cell? ⟨w.heap.size, 1, none⟩ = some (.int .u32 l) ∧ (W.alloc o).cell? ⟨w.heap.size + 1, 0, none⟩ = some (.int .u64 q) ∧ (W.alloc o).cell? ⟨w.heap.size + 1, 1, none⟩ = some (.int .u32 m) ∧ (W.alloc o).cell? ⟨w.heap.size + 1 + 1, 0, none⟩ = some (.int .u64 r) ∧ (W.alloc o).cell? ⟨w.heap.size + 1 + 1, 1, none⟩ = some (.int .u32 s) ∧ Hid (Box5 w (W.alloc o) p l q m r s X Y n0 n1)) := (Box5.al h.2.2.2.2.2.2.out o).cells

theorem maxF_zero (p l : Int) (hp : 0 ≤ p) (hl : 0 ≤ l) : maxF 0 0 p l = (p, l) := by
  unfold maxF lessB
  by_cases h : 0 < p ∨ 0 = p ∧ 0 < l
  · simp [h]
  · have h1 : p = 0 := by omega
    have h2 : l = 0 := by omega
    subst h1 h2
    simp

theorem max14_three (p l q m r s : Int) (hp : 0 ≤ p) (hl : 0 ≤ l) (w : World) (t : TypeId) :
    Calls Tryd.prog 14 #[.slice (some ⟨w.heap.size, 0, none⟩) 3 3] (w.alloc (.cells #[.int .u64 p, .int .u32 l, .int .u64 q, .int .u32 m, .int .u64 r, .int .u32 s] t)).drew fun e w' => e = .returned (.agg #[.int .u64 (maxF (maxF p l q m).1 (maxF p l q m).2 r s).1, .int .u32 (maxF (maxF p l q m).1 (maxF p l q m).2 r s).2]) ∧ Below (w.alloc (.cells #[.int .u64 p, .int .u32 l, .int .u64 q, .int .u32 m, .int .u64 r, .int .u32 s] t)).drew.heap.size (w.alloc (.cells #[.int .u64 p, .int .u32 l, .int .u64 q, .int .u32 m, .int .u64 r, .int .u32 s] t)).drew w' := by
  have h := max14_row w.heap.size (w.alloc (.cells #[.int .u64 p, .int .u32 l, .int .u64 q, .int .u32 m, .int .u64 r, .int .u32 s] t)).drew (by simp [World.drew]) 3 [(p, l), (q, m), (r, s)] rfl (by omega) (fun i hi => by
    match i, hi with
    | 0, _ => simp [go_sem]
    | 1, _ => simp [go_sem]
    | 2, _ => simp [go_sem])
  have e : maxL [(p, l), (q, m), (r, s)] = maxF (maxF p l q m).1 (maxF p l q m).2 r s := by simp [maxL, maxF_zero p l hp hl]
  rw [e] at h
  exact h

theorem max14_single (q m : Int) (hq : 0 ≤ q) (hm : 0 ≤ m) (w : World) (t : TypeId) :
    Calls Tryd.prog 14 #[.slice (some ⟨w.heap.size, 0, none⟩) 1 1] (w.alloc (.cells #[.int .u64 q, .int .u32 m] t)) fun e w' => e = .returned (.agg #[.int .u64 q, .int .u32 m]) ∧ Below (w.alloc (.cells #[.int .u64 q, .int .u32 m] t)).heap.size (w.alloc (.cells #[.int .u64 q, .int .u32 m] t)) w' := by
  have h := max14_row w.heap.size (w.alloc (.cells #[.int .u64 q, .int .u32 m] t)) (by simp) 1 [(q, m)] rfl (by omega) (fun i hi => by
    match i, hi with
    | 0, _ => simp [go_sem])
  have e : maxL [(q, m)] = (q, m) := by simp [maxL, maxF_zero q m hq hm]
  rw [e] at h
  exact h

def eqB (p l q m : Int) : Bool := p == q && l == m
theorem run_eql25 (p l q m : Int) (w : World) : (binOp .eql 25 (.agg #[.int .u64 p, .int .u32 l]) (.agg #[.int .u64 q, .int .u32 m])).run Tryd.prog w = .ok (.bool (eqB p l q m)) w := by
  by_cases h : p = q <;> by_cases h2 : l = m <;> simp [go_sem, eqB, h, h2]

theorem run_neq25 (p l q m : Int) (w : World) : (binOp .neq 25 (.agg #[.int .u64 p, .int .u32 l]) (.agg #[.int .u64 q, .int .u32 m])).run Tryd.prog w = .ok (.bool (!eqB p l q m)) w := by
  by_cases h : p = q <;> by_cases h2 : l = m <;> simp [go_sem, eqB, h, h2]

set_option maxRecDepth 100000 in
set_option maxHeartbeats 4000000 in
theorem orders_walk (p l q m r s : Int) (w : World) (hp0 : 0 ≤ p) (hl0 : 0 ≤ l) (hq0 : 0 ≤ q) (hm0 : 0 ≤ m) (n0 n1 e0 : Int) (hn0 : Hid ((nextF p l).1 = n0)) (hn1 : Hid ((nextF p l).2.1 = n1)) (he0 : Hid ((nextF p l).2.2 = e0))
    (x y z u eqv rb v ev : Bool) (hx : Hid (lessB p l q m = x)) (hy : Hid (lessB q m p l = y)) (hz : Hid (lessB q m r s = z)) (hu : Hid (lessB p l r s = u)) (hq : Hid (eqB p l q m = eqv)) (hrb : Hid (rightB q m = rb)) (hv : Hid (lessB q m n0 n1 = v)) (hev : Hid ((e0 != 0) = ev))
    (t1 : Hid (x = true → y = false ∧ eqv = false)) (t2 : Hid (x = true → z = true → u = true)) (t3 : Hid (x = false → y = false → eqv = true)) (t4 : Hid (ev = false → lessB p l n0 n1 = true)) (t5 : Hid (ev = false → rb = true → x = true → v = false)) :
    Calls Tryd.prog 3 #[.agg #[.int .u64 p, .int .u32 l], .agg #[.int .u64 q, .int .u32 m], .agg #[.int .u64 r, .int .u32 s]] w fun e w' => e = .returned (.bool true) ∧ Below w.heap.size w w' := by
  go_enter Tryd.func3, Tryd.ntmps3
  go_wp2_with fail
  refine (awake7 _).mono ?_
  rintro e w1 ⟨rfl, hb1⟩
  have hz1 : w.heap.size + 1 + 1 < w1.heap.size := by have := hb1.size; simp at this; omega
  have a0 : w1.cell? ⟨w.heap.size, 0, none⟩ = some (.int .u64 p) := by rw [hb1.cell (by simp <;> omega)]; simp [go_sem]
  have a1 : w1.cell? ⟨w.heap.size, 1, none⟩ = some (.int .u32 l) := by rw [hb1.cell (by simp <;> omega)]; simp [go_sem]
  have a2 : w1.cell? ⟨w.heap.size + 1, 0, none⟩ = some (.int .u64 q) := by rw [hb1.cell (by simp <;> omega)]; simp [go_sem]
  have a3 : w1.cell? ⟨w.heap.size + 1, 1, none⟩ = some (.int .u32 m) := by rw [hb1.cell (by simp <;> omega)]; simp [go_sem]
  have a4 : w1.cell? ⟨w.heap.size + 1 + 1, 0, none⟩ = some (.int .u64 r) := by rw [hb1.cell (by simp <;> omega)]; simp [go_sem]
  have a5 : w1.cell? ⟨w.heap.size + 1 + 1, 1, none⟩ = some (.int .u32 s) := by rw [hb1.cell (by simp <;> omega)]; simp [go_sem]
  have hB1 : Below w.heap.size w w1 := below3 hb1
  clear hb1
  go_wp2_with fail
  refine (next8 _ _ _ hp0 hl0).mono ?_
  rw [hn0.out, hn1.out, he0.out]
  rintro e w2 ⟨rfl, hb2⟩
  have hz2 : w1.heap.size ≤ w2.heap.size := hb2.size
  have d0 : w2.cell? ⟨w.heap.size, 0, none⟩ = some (.int .u64 p) := by rw [hb2.cell (by simp; omega)]; exact a0
  have d1 : w2.cell? ⟨w.heap.size, 1, none⟩ = some (.int .u32 l) := by rw [hb2.cell (by simp; omega)]; exact a1
  have hzz : w.heap.size < w2.heap.size := by omega
  go_wp2_with fail
  refine (next9 _ _ _ hp0 hl0).mono ?_
  rw [hn0.out, hn1.out, he0.out]
  rintro e w3 ⟨rfl, hb3⟩
  have hz3 : w2.heap.size + 1 ≤ w3.heap.size := by have := hb3.size; simp at this; omega
  have HB : Hid (Box5 w (w3.alloc (.cells #[.int .u64 n0, .int .u32 n1] 25)) p l q m r s w2.heap.size w3.heap.size n0 n1) := by
    have k : ∀ b i, b < w1.heap.size → (w3.alloc (.cells #[.int .u64 n0, .int .u32 n1] 25)).cell? ⟨b, i, none⟩ = w1.cell? ⟨b, i, none⟩ := fun b i h => by
      rw [World.cell?_alloc_past _ _ _ (by omega), hb3.cell (by simp; omega), World.cell?_alloc_past _ _ _ (by omega), hb2.cell h]
    refine ⟨by rw [k _ _ (by omega)]; exact a0, by rw [k _ _ (by omega)]; exact a1, by rw [k _ _ (by omega)]; exact a2, by rw [k _ _ (by omega)]; exact a3, by rw [k _ _ (by omega)]; exact a4, by rw [k _ _ (by omega)]; exact a5, ?_, ?_, by simp [go_sem], by simp [go_sem], by simp; omega, ?_⟩
    · rw [World.cell?_alloc_past _ _ _ (by omega), hb3.cell (by simp)]; simp [go_sem]
    · rw [World.cell?_alloc_past _ _ _ (by omega), hb3.cell (by simp)]; simp [go_sem]
    · exact (((hB1.trans (hb2.mono (by omega))).alloc (by omega) _).trans (hb3.mono (by simp; omega))).alloc (by omega) _
  clear a0 a1 a2 a3 a4 a5 d0 d1 hb2 hb3 hB1 hzz
  go_wp2_with fail
  generalize w3.alloc (.cells #[.int .u64 n0, .int .u32 n1] 25) = W4 at HB
  generalize w2.heap.size = X at HB hz2 hz3
  generalize w3.heap.size = Y at HB hz3
  clear hz1 hz2 hz3
  obtain ⟨c0, c1, c2, c3, c4, c5, x0, x1, y0, y1, -, -⟩ := HB.out
  have k0 := cell_regrown c0
  have k1 := cell_regrown c1
  have k2 := cell_regrown c2
  have k3 := cell_regrown c3
  have k4 := cell_regrown x0
  have k5 := cell_regrown x1
  have k6 := cell_regrown y0
  have k7 := cell_regrown y1
  clear c0 c1 c2 c3 c4 c5 x0 x1 y0 y1
  have cA : Hid (∀ d os, Calls Tryd.prog 10 #[.agg #[.int .u64 p, .int .u32 l]] (grow (redrawn W4 d) os) fun e w'' => e = .returned (.bool (rightB p l)) ∧ ∃ p : Regrown, w'' = grow (redrawn W4 p.d) p.os) := fun d os => Calls.regrown_of (right10 _ _ _)
  have cB : Hid (∀ d os, Calls Tryd.prog 11 #[.agg #[.int .u64 p, .int .u32 l]] (grow (redrawn W4 d) os) fun e w'' => e = .returned (.bool (rightB p l)) ∧ ∃ p : Regrown, w'' = grow (redrawn W4 p.d) p.os) := fun d os => Calls.regrown_of (right11 _ _ _)
  have cC : Hid (∀ d os, Calls Tryd.prog 12 #[.agg #[.int .u64 p, .int .u32 l], .agg #[.int .u64 q, .int .u32 m]] (grow (redrawn W4 d) os) fun e w'' => e = .returned (.bool (lessB p l q m)) ∧ ∃ p : Regrown, w'' = grow (redrawn W4 p.d) p.os) := fun d os => Calls.regrown_of (less12 _ _ _ _ _)
  have cD : Hid (∀ d os, Calls Tryd.prog 13 #[.agg #[.int .u64 p, .int .u32 l], .agg #[.int .u64 q, .int .u32 m]] (grow (redrawn W4 d) os) fun e w'' => e = .returned (.bool (lessB p l q m)) ∧ ∃ p : Regrown, w'' = grow (redrawn W4 p.d) p.os) := fun d os => Calls.regrown_of (less13 _ _ _ _ _)
  refine wp_region_quiet_below (by kernel_rfl) (by kernel_rfl) ?_
  quiet_step (fail)
  quiet_step (exact cA.out _ _)
  quiet_step (fail)
  quiet_step (exact cB.out _ _)
  quiet_step (fail)
  quiet_step (fail)
  quiet_step (fail)
  quiet_step (fail)
  quiet_step (exact cC.out _ _)
  quiet_step (fail)
  quiet_step (fail)
  quiet_step (exact cD.out _ _)
  repeat (quiet_step (fail))
  refine wpQuiet_nil ?_
  intro _ hw'
  obtain ⟨⟨dq, osq⟩, hw''⟩ := hw'
  subst hw''
  have HB5 := HB.out.on (below_regrown W4 dq osq)
  have HB6 : Hid (Box5 w (grow (redrawn W4 dq) osq) p l q m r s X Y n0 n1) := HB5
  clear HB5 cA cB cC cD k0 k1 k2 k3 k4 k5 k6 k7 HB
  go_wp2_with fail
  generalize grow (redrawn W4 dq) osq = W6 at HB6
  go_region_held3 (fun w' => w'.cell? ⟨w.heap.size, 0, none⟩ = some (.int .u64 p) ∧ w'.cell? ⟨w.heap.size, 1, none⟩ = some (.int .u32 l) ∧ w'.cell? ⟨w.heap.size + 1, 0, none⟩ = some (.int .u64 q) ∧ w'.cell? ⟨w.heap.size + 1, 1, none⟩ = some (.int .u32 m) ∧
    w'.cell? ⟨w.heap.size + 1 + 1, 0, none⟩ = some (.int .u64 r) ∧ w'.cell? ⟨w.heap.size + 1 + 1, 1, none⟩ = some (.int .u32 s) ∧ Hid (Box5 w w' p l q m r s X Y n0 n1))
    (first | exact HB6.out.dr.cells | exact (HB6.out.al _).dr.cells | exact s7_on (by assumption) (by assumption) | exact s7_al _ (by assumption))
    (first | (go_at_call_of 14 (Value.slice none 0 0); refine (max14_nil _).mono ?_; rintro e w' ⟨rfl, hb⟩) | (go_at_call 15; refine (max15 _ _ _ _ _).mono ?_; rintro e w' ⟨rfl, hb⟩) | (go_at_call_of 14 (Value.slice (some ⟨W6.heap.size, 0, none⟩) 3 3); refine (max14_three p l q m r s hp0 hl0 _ _).mono ?_; rintro e w' ⟨rfl, hb⟩) | (go_at_call 14; refine (max14_single q m hq0 hm0 _ _).mono ?_; rintro e w' ⟨rfl, hb⟩))
  have hS7 : (w'.cell? ⟨w.heap.size, 0, none⟩ = some (.int .u64 p) ∧ w'.cell? ⟨w.heap.size, 1, none⟩ = some (.int .u32 l) ∧ w'.cell? ⟨w.heap.size + 1, 0, none⟩ = some (.int .u64 q) ∧ w'.cell? ⟨w.heap.size + 1, 1, none⟩ = some (.int .u32 m) ∧ w'.cell? ⟨w.heap.size + 1 + 1, 0, none⟩ = some (.int .u64 r) ∧ w'.cell? ⟨w.heap.size + 1 + 1, 1, none⟩ = some (.int .u32 s) ∧ Hid (Box5 w w' p l q m r s X Y n0 n1)) := by assumption
  have HB9 : Hid (Box5 w w' p l q m r s X Y n0 n1) := hS7.2.2.2.2.2.2
  clear hS7
  cases x
  · skip
    obtain ⟨c0, c1, c2, c3, c4, c5, g0, g1, -, -, -, -⟩ := HB9.out
    go_wp2_with fail
    refine (less12 _ _ _ _ _).mono ?_
    rw [hx.out]
    rintro e v1 ⟨rfl, hb1⟩
    have HC1 : Hid (Box5 w v1 p l q m r s X Y n0 n1) := HB9.out.on hb1
    clear hb1 c0 c1 c2 c3 c4 c5
    clear g0 g1
    obtain ⟨c0, c1, c2, c3, c4, c5, g0, g1, -, -, -, -⟩ := HC1.out
    go_wp2_with fail
    refine (less12 _ _ _ _ _).mono ?_
    rw [hx.out]
    rintro e v2 ⟨rfl, hb2⟩
    have HC2 : Hid (Box5 w v2 p l q m r s X Y n0 n1) := HC1.out.on hb2
    clear hb2 c0 c1 c2 c3 c4 c5
    clear g0 g1
    obtain ⟨c0, c1, c2, c3, c4, c5, g0, g1, -, -, -, -⟩ := HC2.out
    go_wp2_with fail
    refine (less12 _ _ _ _ _).mono ?_
    rw [hx.out]
    rintro e v3 ⟨rfl, hb3⟩
    have HC3 : Hid (Box5 w v3 p l q m r s X Y n0 n1) := HC2.out.on hb3
    clear hb3 c0 c1 c2 c3 c4 c5
    clear g0 g1
    obtain ⟨c0, c1, c2, c3, c4, c5, g0, g1, -, -, -, -⟩ := HC3.out
    cases y
    · have hq' := hq.out
      rw [t3.out (by trivial) (by trivial)] at hq'
      go_wp2_with fail
      refine (less12 _ _ _ _ _).mono ?_
      rw [hy.out]
      rintro e v4 ⟨rfl, hb4⟩
      have HC4 : Hid (Box5 w v4 p l q m r s X Y n0 n1) := HC3.out.on hb4
      clear hb4 c0 c1 c2 c3 c4 c5
      clear g0 g1
      obtain ⟨c0, c1, c2, c3, c4, c5, g0, g1, -, -, -, -⟩ := HC4.out
      have hne := run_neq25 p l q m
      rw [hq'] at hne
      clear hq'
      cases ev
      · have hev' := hev.out
        go_wp2_with fail
        refine (less12 _ _ _ _ _).mono ?_
        rw [t4.out (by trivial)]
        rintro e v5 ⟨rfl, hb5⟩
        have HC5 : Hid (Box5 w v5 p l q m r s X Y n0 n1) := HC4.out.on hb5
        clear hb5 c0 c1 c2 c3 c4 c5
        clear g0 g1
        obtain ⟨c0, c1, c2, c3, c4, c5, g0, g1, -, -, -, -⟩ := HC5.out
        cases rb
        · skip
          go_wp2_with fail
          refine (right10 _ _ _).mono ?_
          rw [hrb.out]
          rintro e v6 ⟨rfl, hb6⟩
          have HC6 : Hid (Box5 w v6 p l q m r s X Y n0 n1) := HC5.out.on hb6
          clear hb6 c0 c1 c2 c3 c4 c5
          clear g0 g1
          obtain ⟨c0, c1, c2, c3, c4, c5, g0, g1, -, -, -, -⟩ := HC6.out
          go_wp2
          go_ret
          exact ⟨rfl, HC6.out.bel⟩
        · skip
          go_wp2_with fail
          refine (right10 _ _ _).mono ?_
          rw [hrb.out]
          rintro e v7 ⟨rfl, hb7⟩
          have HC7 : Hid (Box5 w v7 p l q m r s X Y n0 n1) := HC5.out.on hb7
          clear hb7 c0 c1 c2 c3 c4 c5
          clear g0 g1
          obtain ⟨c0, c1, c2, c3, c4, c5, g0, g1, -, -, -, -⟩ := HC7.out
          go_wp2_with fail
          refine (less12 _ _ _ _ _).mono ?_
          rw [hx.out]
          rintro e v8 ⟨rfl, hb8⟩
          have HC8 : Hid (Box5 w v8 p l q m r s X Y n0 n1) := HC7.out.on hb8
          clear hb8 c0 c1 c2 c3 c4 c5
          clear g0 g1
          obtain ⟨c0, c1, c2, c3, c4, c5, g0, g1, -, -, -, -⟩ := HC8.out
          go_wp2
          go_ret
          exact ⟨rfl, HC8.out.bel⟩
      · have hev' := hev.out
        go_wp2
        go_ret
        exact ⟨rfl, HC4.out.bel⟩
    · skip
      go_wp2_with fail
      refine (less12 _ _ _ _ _).mono ?_
      rw [hy.out]
      rintro e v9 ⟨rfl, hb9⟩
      have HC9 : Hid (Box5 w v9 p l q m r s X Y n0 n1) := HC3.out.on hb9
      clear hb9 c0 c1 c2 c3 c4 c5
      clear g0 g1
      obtain ⟨c0, c1, c2, c3, c4, c5, g0, g1, -, -, -, -⟩ := HC9.out
      cases ev
      · have hev' := hev.out
        go_wp2_with fail
        refine (less12 _ _ _ _ _).mono ?_
        rw [t4.out (by trivial)]
        rintro e v10 ⟨rfl, hb10⟩
        have HC10 : Hid (Box5 w v10 p l q m r s X Y n0 n1) := HC9.out.on hb10
        clear hb10 c0 c1 c2 c3 c4 c5
        clear g0 g1
        obtain ⟨c0, c1, c2, c3, c4, c5, g0, g1, -, -, -, -⟩ := HC10.out
        cases rb
        · skip
          go_wp2_with fail
          refine (right10 _ _ _).mono ?_
          rw [hrb.out]
          rintro e v11 ⟨rfl, hb11⟩
          have HC11 : Hid (Box5 w v11 p l q m r s X Y n0 n1) := HC10.out.on hb11
          clear hb11 c0 c1 c2 c3 c4 c5
          clear g0 g1
          obtain ⟨c0, c1, c2, c3, c4, c5, g0, g1, -, -, -, -⟩ := HC11.out
          go_wp2
          go_ret
          exact ⟨rfl, HC11.out.bel⟩
        · skip
          go_wp2_with fail
          refine (right10 _ _ _).mono ?_
          rw [hrb.out]
          rintro e v12 ⟨rfl, hb12⟩
          have HC12 : Hid (Box5 w v12 p l q m r s X Y n0 n1) := HC10.out.on hb12
          clear hb12 c0 c1 c2 c3 c4 c5
          clear g0 g1
          obtain ⟨c0, c1, c2, c3, c4, c5, g0, g1, -, -, -, -⟩ := HC12.out
          go_wp2_with fail
          refine (less12 _ _ _ _ _).mono ?_
          rw [hx.out]
          rintro e v13 ⟨rfl, hb13⟩
          have HC13 : Hid (Box5 w v13 p l q m r s X Y n0 n1) := HC12.out.on hb13
          clear hb13 c0 c1 c2 c3 c4 c5
          clear g0 g1
          obtain ⟨c0, c1, c2, c3, c4, c5, g0, g1, -, -, -, -⟩ := HC13.out
          go_wp2
          go_ret
          exact ⟨rfl, HC13.out.bel⟩
      · have hev' := hev.out
        go_wp2
        go_ret
        exact ⟨rfl, HC9.out.bel⟩
  · have hy' := hy.out
    rw [(t1.out (by trivial)).1] at hy'
    have HY : Hid (lessB q m p l = false) := hy'
    clear hy'
    have heq := run_eql25 p l q m
    rw [hq.out, (t1.out (by trivial)).2] at heq
    obtain ⟨c0, c1, c2, c3, c4, c5, g0, g1, -, -, -, -⟩ := HB9.out
    go_wp2_with fail
    refine (less12 _ _ _ _ _).mono ?_
    rw [hx.out]
    rintro e v14 ⟨rfl, hb14⟩
    have HC14 : Hid (Box5 w v14 p l q m r s X Y n0 n1) := HB9.out.on hb14
    clear hb14 c0 c1 c2 c3 c4 c5
    clear g0 g1
    obtain ⟨c0, c1, c2, c3, c4, c5, g0, g1, -, -, -, -⟩ := HC14.out
    go_wp2_with fail
    refine (less12 _ _ _ _ _).mono ?_
    rw [HY.out]
    rintro e v15 ⟨rfl, hb15⟩
    have HC15 : Hid (Box5 w v15 p l q m r s X Y n0 n1) := HC14.out.on hb15
    clear hb15 c0 c1 c2 c3 c4 c5
    clear g0 g1
    obtain ⟨c0, c1, c2, c3, c4, c5, g0, g1, -, -, -, -⟩ := HC15.out
    go_wp2_with fail
    refine (less12 _ _ _ _ _).mono ?_
    rw [hx.out]
    rintro e v16 ⟨rfl, hb16⟩
    have HC16 : Hid (Box5 w v16 p l q m r s X Y n0 n1) := HC15.out.on hb16
    clear hb16 c0 c1 c2 c3 c4 c5
    clear g0 g1
    obtain ⟨c0, c1, c2, c3, c4, c5, g0, g1, -, -, -, -⟩ := HC16.out
    cases z
    · skip
      go_wp2_with fail
      refine (less12 _ _ _ _ _).mono ?_
      rw [hz.out]
      rintro e v17 ⟨rfl, hb17⟩
      have HC17 : Hid (Box5 w v17 p l q m r s X Y n0 n1) := HC16.out.on hb17
      clear hb17 c0 c1 c2 c3 c4 c5
      clear g0 g1
      obtain ⟨c0, c1, c2, c3, c4, c5, g0, g1, -, -, -, -⟩ := HC17.out
      go_wp2_with fail
      refine (less12 _ _ _ _ _).mono ?_
      rw [hx.out]
      rintro e v18 ⟨rfl, hb18⟩
      have HC18 : Hid (Box5 w v18 p l q m r s X Y n0 n1) := HC17.out.on hb18
      clear hb18 c0 c1 c2 c3 c4 c5
      clear g0 g1
      obtain ⟨c0, c1, c2, c3, c4, c5, g0, g1, -, -, -, -⟩ := HC18.out
      cases ev
      · have hev' := hev.out
        go_wp2_with fail
        refine (less12 _ _ _ _ _).mono ?_
        rw [t4.out (by trivial)]
        rintro e v19 ⟨rfl, hb19⟩
        have HC19 : Hid (Box5 w v19 p l q m r s X Y n0 n1) := HC18.out.on hb19
        clear hb19 c0 c1 c2 c3 c4 c5
        clear g0 g1
        obtain ⟨c0, c1, c2, c3, c4, c5, g0, g1, -, -, -, -⟩ := HC19.out
        cases rb
        · skip
          go_wp2_with fail
          refine (right10 _ _ _).mono ?_
          rw [hrb.out]
          rintro e v20 ⟨rfl, hb20⟩
          have HC20 : Hid (Box5 w v20 p l q m r s X Y n0 n1) := HC19.out.on hb20
          clear hb20 c0 c1 c2 c3 c4 c5
          clear g0 g1
          obtain ⟨c0, c1, c2, c3, c4, c5, g0, g1, -, -, -, -⟩ := HC20.out
          go_wp2
          go_ret
          exact ⟨rfl, HC20.out.bel⟩
        · skip
          go_wp2_with fail
          refine (right10 _ _ _).mono ?_
          rw [hrb.out]
          rintro e v21 ⟨rfl, hb21⟩
          have HC21 : Hid (Box5 w v21 p l q m r s X Y n0 n1) := HC19.out.on hb21
          clear hb21 c0 c1 c2 c3 c4 c5
          clear g0 g1
          obtain ⟨c0, c1, c2, c3, c4, c5, g0, g1, -, -, -, -⟩ := HC21.out
          go_wp2_with fail
          refine (less12 _ _ _ _ _).mono ?_
          rw [hx.out]
          rintro e v22 ⟨rfl, hb22⟩
          have HC22 : Hid (Box5 w v22 p l q m r s X Y n0 n1) := HC21.out.on hb22
          clear hb22 c0 c1 c2 c3 c4 c5
          clear g0 g1
          obtain ⟨c0, c1, c2, c3, c4, c5, g0, g1, -, -, -, -⟩ := HC22.out
          have hv' := hv.out
          rw [t5.out (by trivial) (by trivial) (by trivial)] at hv'
          have HV : Hid (lessB q m n0 n1 = false) := hv'
          clear hv'
          go_wp2_with fail
          refine (less12 _ _ _ _ _).mono ?_
          rw [HV.out]
          rintro e v23 ⟨rfl, hb23⟩
          have HC23 : Hid (Box5 w v23 p l q m r s X Y n0 n1) := HC22.out.on hb23
          clear hb23 c0 c1 c2 c3 c4 c5
          clear g0 g1
          obtain ⟨c0, c1, c2, c3, c4, c5, g0, g1, -, -, -, -⟩ := HC23.out
          go_wp2
          go_ret
          exact ⟨rfl, HC23.out.bel⟩
      · have hev' := hev.out
        go_wp2
        go_ret
        exact ⟨rfl, HC18.out.bel⟩
    · have hu' := hu.out
      rw [t2.out (by trivial) (by trivial)] at hu'
      have HU : Hid (lessB p l r s = true) := hu'
      clear hu'
      go_wp2_with fail
      refine (less12 _ _ _ _ _).mono ?_
      rw [hz.out]
      rintro e v24 ⟨rfl, hb24⟩
      have HC24 : Hid (Box5 w v24 p l q m r s X Y n0 n1) := HC16.out.on hb24
      clear hb24 c0 c1 c2 c3 c4 c5
      clear g0 g1
      obtain ⟨c0, c1, c2, c3, c4, c5, g0, g1, -, -, -, -⟩ := HC24.out
      go_wp2_with fail
      refine (less12 _ _ _ _ _).mono ?_
      rw [HU.out]
      rintro e v25 ⟨rfl, hb25⟩
      have HC25 : Hid (Box5 w v25 p l q m r s X Y n0 n1) := HC24.out.on hb25
      clear hb25 c0 c1 c2 c3 c4 c5
      clear g0 g1
      obtain ⟨c0, c1, c2, c3, c4, c5, g0, g1, -, -, -, -⟩ := HC25.out
      go_wp2_with fail
      refine (less12 _ _ _ _ _).mono ?_
      rw [hx.out]
      rintro e v26 ⟨rfl, hb26⟩
      have HC26 : Hid (Box5 w v26 p l q m r s X Y n0 n1) := HC25.out.on hb26
      clear hb26 c0 c1 c2 c3 c4 c5
      clear g0 g1
      obtain ⟨c0, c1, c2, c3, c4, c5, g0, g1, -, -, -, -⟩ := HC26.out
      cases ev
      · have hev' := hev.out
        go_wp2_with fail
        refine (less12 _ _ _ _ _).mono ?_
        rw [t4.out (by trivial)]
        rintro e v27 ⟨rfl, hb27⟩
        have HC27 : Hid (Box5 w v27 p l q m r s X Y n0 n1) := HC26.out.on hb27
        clear hb27 c0 c1 c2 c3 c4 c5
        clear g0 g1
        obtain ⟨c0, c1, c2, c3, c4, c5, g0, g1, -, -, -, -⟩ := HC27.out
        cases rb
        · skip
          go_wp2_with fail
          refine (right10 _ _ _).mono ?_
          rw [hrb.out]
          rintro e v28 ⟨rfl, hb28⟩
          have HC28 : Hid (Box5 w v28 p l q m r s X Y n0 n1) := HC27.out.on hb28
          clear hb28 c0 c1 c2 c3 c4 c5
          clear g0 g1
          obtain ⟨c0, c1, c2, c3, c4, c5, g0, g1, -, -, -, -⟩ := HC28.out
          go_wp2
          go_ret
          exact ⟨rfl, HC28.out.bel⟩
        · skip
          go_wp2_with fail
          refine (right10 _ _ _).mono ?_
          rw [hrb.out]
          rintro e v29 ⟨rfl, hb29⟩
          have HC29 : Hid (Box5 w v29 p l q m r s X Y n0 n1) := HC27.out.on hb29
          clear hb29 c0 c1 c2 c3 c4 c5
          clear g0 g1
          obtain ⟨c0, c1, c2, c3, c4, c5, g0, g1, -, -, -, -⟩ := HC29.out
          go_wp2_with fail
          refine (less12 _ _ _ _ _).mono ?_
          rw [hx.out]
          rintro e v30 ⟨rfl, hb30⟩
          have HC30 : Hid (Box5 w v30 p l q m r s X Y n0 n1) := HC29.out.on hb30
          clear hb30 c0 c1 c2 c3 c4 c5
          clear g0 g1
          obtain ⟨c0, c1, c2, c3, c4, c5, g0, g1, -, -, -, -⟩ := HC30.out
          have hv' := hv.out
          rw [t5.out (by trivial) (by trivial) (by trivial)] at hv'
          have HV : Hid (lessB q m n0 n1 = false) := hv'
          clear hv'
          go_wp2_with fail
          refine (less12 _ _ _ _ _).mono ?_
          rw [HV.out]
          rintro e v31 ⟨rfl, hb31⟩
          have HC31 : Hid (Box5 w v31 p l q m r s X Y n0 n1) := HC30.out.on hb31
          clear hb31 c0 c1 c2 c3 c4 c5
          clear g0 g1
          obtain ⟨c0, c1, c2, c3, c4, c5, g0, g1, -, -, -, -⟩ := HC31.out
          go_wp2
          go_ret
          exact ⟨rfl, HC31.out.bel⟩
      · have hev' := hev.out
        go_wp2
        go_ret
        exact ⟨rfl, HC26.out.bel⟩
end Go.Proofs.YtdhpcgjkhhldhaaDoor
