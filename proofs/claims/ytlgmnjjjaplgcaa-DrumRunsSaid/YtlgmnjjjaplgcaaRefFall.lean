/-
  The document's Fall.
-/
import Derived.Test.YtlgmnjjjaplgcaaRefLay
namespace Go.Proofs.Ytlgmnjjjaplgcaa
open Go.RowKit

theorem KeepAt.sole {rb : Nat} {kv : Value} {keep : List Int} {w w' : World} (h : KeepAt rb kv keep w) (hk : Sole rb w w') : KeepAt rb kv keep w' := by
  obtain ⟨ao, cap, rfl, h⟩ := h
  refine ⟨ao, cap, rfl, fun h0 => ?_⟩
  obtain ⟨kb, ko, rfl, hne, hc, hb⟩ := h h0
  have hlt : kb < w.heap.size := World.block_lt_of_cell? _ _ (hc 0 h0)
  have hbl := hk.block kb hlt hne
  refine ⟨kb, ko, rfl, hne, fun i hi => ?_, ?_⟩
  · rw [← hc i hi]
    exact World.cell?_of_block hbl
  · rcases hb with hb | ⟨cs, fz, hb⟩
    · exact .inl hb
    · exact .inr ⟨cs, fz, by rw [hbl, hb]⟩

theorem Sole.box {rb xb : Nat} {w W : World} (h : Sole rb w W) (hx : w.heap.size ≤ xb) (k : Nat) (v : Value) : Sole rb w (W.setCell ⟨xb, k, none⟩ v) :=
  ⟨h.os, h.tape, h.output, by simpa using h.size, fun i hi hne => by rw [Below.heap_setCell _ _ _ _ (by show i ≠ xb; omega)]; exact h.block i hi hne⟩
theorem RefAt.box {rb xb : Nat} {D : Dr} {W : World} (h : RefAt rb D W) (hx : rb ≠ xb) (k : Nat) (v : Value) : RefAt rb D (W.setCell ⟨xb, k, none⟩ v) := by
  unfold RefAt
  rw [Below.heap_setCell _ _ _ _ hx]
  exact h

/-- What a fall leaves of an area, as the document has it. -/
theorem fall_cells (q : Pt) (j : Nat) (hj : q.sure + j ≤ q.l.length) : (q.settle (q.sure + j)).there = q.there ∧ bs ((q.settle (q.sure + j)).l.take (q.settle (q.sure + j)).sure) = bs (q.l.take q.sure) ++ bs ((q.l.drop q.sure).take j) ∧ (q.settle (q.sure + j)).l.drop (q.settle (q.sure + j)).sure = [] := by
  have h1 : min (q.sure + j) q.l.length = q.sure + j := by omega
  refine ⟨rfl, ?_, ?_⟩
  · show bs ((q.l.take (q.sure + j)).take (min (q.sure + j) q.l.length)) = _
    rw [h1, List.take_take, Nat.min_self, bs_append, List.take_add]
  · show (q.l.take (q.sure + j)).drop (min (q.sure + j) q.l.length) = []
    rw [h1]
    simp

set_option maxHeartbeats 2000000 in
theorem rfall21 (rb : Nat) (D : Dr) (kv : Value) (keep : List Int) (w : World) (hD : RefAt rb D w) (hOk : D.Ok) (hK : KeepAt rb kv keep w) (hk0 : ∀ i, -9223372036854775808 ≤ keep.getD i 0 ∧ keep.getD i 0 ≤ 9223372036854775807) (hkl : keep.length ≤ 9223372036854775807) :
    Calls Try.prog 21 #[.pointer (some ⟨rb, 0, none⟩), kv] w fun e w' => e = .returned (.tuple #[]) ∧ RefAt rb (D.fall keep) w' ∧ Sole rb w w' := by
  have HS : Hid (RefAt rb D w ∧ KeepAt rb kv keep w ∧ D.Ok) := ⟨hD, hK, hOk⟩
  obtain ⟨ao, cap, rfl, hKx⟩ := hK
  clear hKx hD hOk
  go_enter Try.func21, Try.ntmps21
  go_wp2_with fail
  go_loopw [4] (fun i wr => ∃ k : Nat, k ≤ 4 ∧ i = .int .i64 k ∧ RefAt rb (D.fallTo keep k) wr ∧ Sole rb w wr) (fun i _ => 4 - (intOf i).toNat)
  case atStart => exact ⟨0, by omega, rfl, by rw [Dr.fallTo_zero]; exact HS.out.1, Sole.refl _ _⟩
  case round =>
    obtain ⟨k, hk, rfl, hwr, hkept⟩ := hrel
    have HW : Hid (RefAt rb (D.fallTo keep k) wr ∧ Sole rb w wr ∧ KeepAt rb (.slice ao keep.length cap) keep wr) := ⟨hwr, hkept, HS.out.2.1.sole hkept⟩
    clear hwr hkept
    by_cases hlt : k < 4
    · have z0 := HW.out.1.there k hlt
      have z1 := HW.out.1.sure k hlt
      have z2 := HW.out.1.pend k hlt
      rw [fallTo_self] at z0 z1 z2
      have hs1 := HS.out.2.2.sure k
      have hln : (D.p k).l.length ≤ 1048576 := by have := D.len_le_used k hlt; have := HS.out.2.2.fits; have := HS.out.2.2.room1; omega
      have hle : ∀ x, keep.getD k 0 = x → D.left keep k = (D.p k).sure + (min (max x 0) (((D.p k).l.length : Int) - (D.p k).sure)).toNat := fun x hx => by rw [Dr.left, hx]
      have HQ : Hid (∀ j, 1 = 1 → (D.p k).sure + j ≤ (D.p k).l.length → ((D.p k).settle ((D.p k).sure + j)).there = (D.p k).there ∧ bs (((D.p k).settle ((D.p k).sure + j)).l.take ((D.p k).settle ((D.p k).sure + j)).sure) = bs ((D.p k).l.take (D.p k).sure) ++ bs (((D.p k).l.drop (D.p k).sure).take j) ∧ ((D.p k).settle ((D.p k).sure + j)).l.drop ((D.p k).settle ((D.p k).sure + j)).sure = []) := fun j _ hj => fall_cells (D.p k) j hj
      have hlb : ((D.p k).l.drop (D.p k).sure).length = (D.p k).l.length - (D.p k).sure := List.length_drop
      have hla : ((D.p k).l.take (D.p k).sure).length ≤ (D.p k).l.length := List.length_take_le' _ _
      have hsz := bs_size ((D.p k).l.drop (D.p k).sure)
      by_cases hkk : k < keep.length
      · obtain ⟨_, _, hsl, hKb⟩ := HW.out.2.2
        injection hsl with e1 _ e3
        subst e1
        subst e3
        obtain ⟨kb, ko, hao, _, hcell, _⟩ := hKb (by omega)
        subst hao
        have hck := hcell k hkk
        have hxb := hk0 k
        have hle := hle _ rfl
        clear hKb hcell
        generalize keep.getD k 0 = x at *
        rcases (by omega : x < 0 ∨ (0 ≤ x ∧ x ≤ ((D.p k).l.length : Int) - (D.p k).sure) ∨ (0 ≤ x ∧ ((D.p k).l.length : Int) - (D.p k).sure < x)) with hx | ⟨hx0, hx1⟩ | ⟨hx0, hx1⟩
        · have HL : Hid (D.left keep k = (D.p k).sure + 0) := by
            show _ = _
            rw [hle]
            omega
          have HQ1 := HQ.out (0) (by trivial) (by omega)
          have hex := bs_take ((D.p k).l.drop (D.p k).sure) (0)
          have hql : (((D.p k).l.drop (D.p k).sure).take (0)).length ≤ ((D.p k).l.drop (D.p k).sure).length := List.length_take_le' _ _
          have hcc : ¬ 9223372036854775807 < (bs ((D.p k).l.take (D.p k).sure)).size + (bs (((D.p k).l.drop (D.p k).sure).take (0))).size := by
            rw [bs_size, bs_size]
            omega
          rw [List.take_zero, show ∀ x : ByteArray, x ++ bs [] = x from fun x => by rw [← bs_of x, bs_append, List.append_nil]] at HQ1
          have hc0 : ¬ 9223372036854775807 < (bs ((D.p k).l.take (D.p k).sure)).size := by
            rw [bs_size]
            omega
          clear hex hcc hql
          have HP : Hid (((D.p k).settle ((D.p k).sure + 0)).there = (D.p k).there ∧ bs (((D.p k).settle ((D.p k).sure + 0)).l.take ((D.p k).settle ((D.p k).sure + 0)).sure) = bs ((D.p k).l.take (D.p k).sure) ∧ ((D.p k).settle ((D.p k).sure + 0)).l.drop ((D.p k).settle ((D.p k).sure + 0)).sure = []) := HQ1
          clear hle HQ HQ1
          generalize (D.p k).l.drop (D.p k).sure = lb at *
          generalize (D.p k).l.take (D.p k).sure = la at *
          go_wp2_with fail
          go_region
          go_wp2_with fail
          have HR : Hid (RefAt rb (D.fallTo keep k) (wr.alloc (.cells #[.bool (D.p k).there, .string (bs la), .string (bs lb)] 44)) ∧ (wr.alloc (.cells #[.bool (D.p k).there, .string (bs la), .string (bs lb)] 44)).heap[wr.heap.size]? = some (.cells #[.bool (D.p k).there, .string (bs la), .string (bs lb)] 44 (0, 0)) ∧ Sole rb w (wr.alloc (.cells #[.bool (D.p k).there, .string (bs la), .string (bs lb)] 44))) := ⟨HW.out.1.on ((Below.refl _ _).alloc (Nat.le_refl _) _), heap_alloc_new wr _, HW.out.2.1.alloc _⟩
          have hxr : rb ≠ wr.heap.size := by have := HW.out.1.lt; omega
          have hxs : w.heap.size ≤ wr.heap.size := HW.out.2.1.size
          clear z0 z1 z2
          generalize wr.alloc (.cells #[.bool (D.p k).there, .string (bs la), .string (bs lb)] 44) = W at HR ⊢
          obtain ⟨xb, hxb⟩ : ∃ xb, xb = wr.heap.size := ⟨_, rfl⟩
          rw [← hxb] at HR hxr hxs ⊢
          clear hxb
          obtain ⟨x0, x1, x2, x3⟩ := three_cells HR.out.2.1
          go_region
          go_wp2_with fail
          have HR2 : Hid (RefAt rb (D.fallTo keep k) ((W.setCell ⟨xb, 1, none⟩ (.string (bs la))).setCell ⟨xb, 2, none⟩ (.string ⟨#[]⟩)) ∧ ((W.setCell ⟨xb, 1, none⟩ (.string (bs la))).setCell ⟨xb, 2, none⟩ (.string ⟨#[]⟩)).heap[xb]? = some (.cells #[.bool (D.p k).there, .string (bs la), .string ⟨#[]⟩] 44 (0, 0)) ∧ Sole rb w ((W.setCell ⟨xb, 1, none⟩ (.string (bs la))).setCell ⟨xb, 2, none⟩ (.string ⟨#[]⟩))) :=
            ⟨(HR.out.1.box hxr _ _).box hxr _ _, blk_setCell (blk_setCell HR.out.2.1), (HR.out.2.2.box hxs _ _).box hxs _ _⟩
          generalize ((W.setCell ⟨xb, 1, none⟩ (.string (bs la))).setCell ⟨xb, 2, none⟩ (.string ⟨#[]⟩)) = W2 at HR2 ⊢
          clear HR x0 x1 x2 x3
          have z0 := HR2.out.1.there k hlt
          have z1 := HR2.out.1.sure k hlt
          have z2 := HR2.out.1.pend k hlt
          have z3 := HR2.out.1.free
          obtain ⟨x0, x1, x2, x3⟩ := three_cells HR2.out.2.1
          go_region
          go_wp2
          go_roundw
          case rel =>
            have hP := HR2.out.1.put k hlt ((D.p k).settle ((D.p k).sure + 0))
            rw [HP.out.1, HP.out.2.1, HP.out.2.2, ← HL.out, Dr.fallTo_succ] at hP
            have hS := ((HR2.out.2.2.set (3 + k * 3) (.bool (D.p k).there)).set (3 + k * 3 + 1) (.string (bs la))).set (3 + k * 3 + 2) (.string ⟨#[]⟩)
            exact ⟨k + 1, by omega, by go_num, hP, hS.os, hS.tape, hS.output, hS.size, hS.block⟩
          case measure => simp [intOf]; omega
        · obtain ⟨y, rfl⟩ := Int.eq_ofNat_of_zero_le hx0
          have HL : Hid (D.left keep k = (D.p k).sure + y) := by
            show _ = _
            rw [hle]
            omega
          have HQ1 := HQ.out (y) (by trivial) (by omega)
          have hex := bs_take ((D.p k).l.drop (D.p k).sure) (y)
          have hql : (((D.p k).l.drop (D.p k).sure).take (y)).length ≤ ((D.p k).l.drop (D.p k).sure).length := List.length_take_le' _ _
          have hcc : ¬ 9223372036854775807 < (bs ((D.p k).l.take (D.p k).sure)).size + (bs (((D.p k).l.drop (D.p k).sure).take (y))).size := by
            rw [bs_size, bs_size]
            omega
          have HP : Hid (((D.p k).settle ((D.p k).sure + y)).there = (D.p k).there ∧ bs (((D.p k).settle ((D.p k).sure + y)).l.take ((D.p k).settle ((D.p k).sure + y)).sure) = bs ((D.p k).l.take (D.p k).sure) ++ bs (((D.p k).l.drop (D.p k).sure).take (y)) ∧ ((D.p k).settle ((D.p k).sure + y)).l.drop ((D.p k).settle ((D.p k).sure + y)).sure = []) := HQ1
          clear hle HQ HQ1
          generalize ((D.p k).l.drop (D.p k).sure).take (y) = lq at *
          generalize (D.p k).l.drop (D.p k).sure = lb at *
          generalize (D.p k).l.take (D.p k).sure = la at *
          go_wp2_with fail
          go_region
          go_wp2_with fail
          have HR : Hid (RefAt rb (D.fallTo keep k) (wr.alloc (.cells #[.bool (D.p k).there, .string (bs la), .string (bs lb)] 44)) ∧ (wr.alloc (.cells #[.bool (D.p k).there, .string (bs la), .string (bs lb)] 44)).heap[wr.heap.size]? = some (.cells #[.bool (D.p k).there, .string (bs la), .string (bs lb)] 44 (0, 0)) ∧ Sole rb w (wr.alloc (.cells #[.bool (D.p k).there, .string (bs la), .string (bs lb)] 44))) := ⟨HW.out.1.on ((Below.refl _ _).alloc (Nat.le_refl _) _), heap_alloc_new wr _, HW.out.2.1.alloc _⟩
          have hxr : rb ≠ wr.heap.size := by have := HW.out.1.lt; omega
          have hxs : w.heap.size ≤ wr.heap.size := HW.out.2.1.size
          clear z0 z1 z2
          generalize wr.alloc (.cells #[.bool (D.p k).there, .string (bs la), .string (bs lb)] 44) = W at HR ⊢
          obtain ⟨xb, hxb⟩ : ∃ xb, xb = wr.heap.size := ⟨_, rfl⟩
          rw [← hxb] at HR hxr hxs ⊢
          clear hxb
          obtain ⟨x0, x1, x2, x3⟩ := three_cells HR.out.2.1
          go_region
          go_wp2_with fail
          have HR2 : Hid (RefAt rb (D.fallTo keep k) ((W.setCell ⟨xb, 1, none⟩ (.string ((bs la ++ bs lq)))).setCell ⟨xb, 2, none⟩ (.string ⟨#[]⟩)) ∧ ((W.setCell ⟨xb, 1, none⟩ (.string ((bs la ++ bs lq)))).setCell ⟨xb, 2, none⟩ (.string ⟨#[]⟩)).heap[xb]? = some (.cells #[.bool (D.p k).there, .string ((bs la ++ bs lq)), .string ⟨#[]⟩] 44 (0, 0)) ∧ Sole rb w ((W.setCell ⟨xb, 1, none⟩ (.string ((bs la ++ bs lq)))).setCell ⟨xb, 2, none⟩ (.string ⟨#[]⟩))) :=
            ⟨(HR.out.1.box hxr _ _).box hxr _ _, blk_setCell (blk_setCell HR.out.2.1), (HR.out.2.2.box hxs _ _).box hxs _ _⟩
          generalize ((W.setCell ⟨xb, 1, none⟩ (.string ((bs la ++ bs lq)))).setCell ⟨xb, 2, none⟩ (.string ⟨#[]⟩)) = W2 at HR2 ⊢
          clear HR x0 x1 x2 x3
          have z0 := HR2.out.1.there k hlt
          have z1 := HR2.out.1.sure k hlt
          have z2 := HR2.out.1.pend k hlt
          have z3 := HR2.out.1.free
          obtain ⟨x0, x1, x2, x3⟩ := three_cells HR2.out.2.1
          go_region
          go_wp2
          go_roundw
          case rel =>
            have hP := HR2.out.1.put k hlt ((D.p k).settle ((D.p k).sure + y))
            rw [HP.out.1, HP.out.2.1, HP.out.2.2, ← HL.out, Dr.fallTo_succ] at hP
            have hS := ((HR2.out.2.2.set (3 + k * 3) (.bool (D.p k).there)).set (3 + k * 3 + 1) (.string ((bs la ++ bs lq)))).set (3 + k * 3 + 2) (.string ⟨#[]⟩)
            exact ⟨k + 1, by omega, by go_num, hP, hS.os, hS.tape, hS.output, hS.size, hS.block⟩
          case measure => simp [intOf]; omega
        · have hx2 : (((D.p k).l.drop (D.p k).sure).length : Int) < x := by omega
          have HL : Hid (D.left keep k = (D.p k).sure + ((D.p k).l.length - (D.p k).sure)) := by
            show _ = _
            rw [hle]
            omega
          have HQ1 := HQ.out (((D.p k).l.length - (D.p k).sure)) (by trivial) (by omega)
          have hex := bs_take ((D.p k).l.drop (D.p k).sure) (((D.p k).l.length - (D.p k).sure))
          have hql : (((D.p k).l.drop (D.p k).sure).take (((D.p k).l.length - (D.p k).sure))).length ≤ ((D.p k).l.drop (D.p k).sure).length := List.length_take_le' _ _
          have hcc : ¬ 9223372036854775807 < (bs ((D.p k).l.take (D.p k).sure)).size + (bs (((D.p k).l.drop (D.p k).sure).take (((D.p k).l.length - (D.p k).sure)))).size := by
            rw [bs_size, bs_size]
            omega
          have HP : Hid (((D.p k).settle ((D.p k).sure + ((D.p k).l.length - (D.p k).sure))).there = (D.p k).there ∧ bs (((D.p k).settle ((D.p k).sure + ((D.p k).l.length - (D.p k).sure))).l.take ((D.p k).settle ((D.p k).sure + ((D.p k).l.length - (D.p k).sure))).sure) = bs ((D.p k).l.take (D.p k).sure) ++ bs (((D.p k).l.drop (D.p k).sure).take (((D.p k).l.length - (D.p k).sure))) ∧ ((D.p k).settle ((D.p k).sure + ((D.p k).l.length - (D.p k).sure))).l.drop ((D.p k).settle ((D.p k).sure + ((D.p k).l.length - (D.p k).sure))).sure = []) := HQ1
          clear hle HQ HQ1
          rw [← hlb] at hex hcc HP HL hql
          generalize ((D.p k).l.drop (D.p k).sure).take (((D.p k).l.drop (D.p k).sure).length) = lq at *
          generalize (D.p k).l.drop (D.p k).sure = lb at *
          generalize (D.p k).l.take (D.p k).sure = la at *
          have hlbn : lb.length ≤ 1048576 := by omega
          clear hlb
          go_wp2_with fail
          go_region
          go_wp2_with fail
          have HR : Hid (RefAt rb (D.fallTo keep k) (wr.alloc (.cells #[.bool (D.p k).there, .string (bs la), .string (bs lb)] 44)) ∧ (wr.alloc (.cells #[.bool (D.p k).there, .string (bs la), .string (bs lb)] 44)).heap[wr.heap.size]? = some (.cells #[.bool (D.p k).there, .string (bs la), .string (bs lb)] 44 (0, 0)) ∧ Sole rb w (wr.alloc (.cells #[.bool (D.p k).there, .string (bs la), .string (bs lb)] 44))) := ⟨HW.out.1.on ((Below.refl _ _).alloc (Nat.le_refl _) _), heap_alloc_new wr _, HW.out.2.1.alloc _⟩
          have hxr : rb ≠ wr.heap.size := by have := HW.out.1.lt; omega
          have hxs : w.heap.size ≤ wr.heap.size := HW.out.2.1.size
          clear z0 z1 z2
          generalize wr.alloc (.cells #[.bool (D.p k).there, .string (bs la), .string (bs lb)] 44) = W at HR ⊢
          obtain ⟨xb, hxb⟩ : ∃ xb, xb = wr.heap.size := ⟨_, rfl⟩
          rw [← hxb] at HR hxr hxs ⊢
          clear hxb
          obtain ⟨x0, x1, x2, x3⟩ := three_cells HR.out.2.1
          go_region
          go_wp2_with fail
          have HR2 : Hid (RefAt rb (D.fallTo keep k) ((W.setCell ⟨xb, 1, none⟩ (.string ((bs la ++ bs lq)))).setCell ⟨xb, 2, none⟩ (.string ⟨#[]⟩)) ∧ ((W.setCell ⟨xb, 1, none⟩ (.string ((bs la ++ bs lq)))).setCell ⟨xb, 2, none⟩ (.string ⟨#[]⟩)).heap[xb]? = some (.cells #[.bool (D.p k).there, .string ((bs la ++ bs lq)), .string ⟨#[]⟩] 44 (0, 0)) ∧ Sole rb w ((W.setCell ⟨xb, 1, none⟩ (.string ((bs la ++ bs lq)))).setCell ⟨xb, 2, none⟩ (.string ⟨#[]⟩))) :=
            ⟨(HR.out.1.box hxr _ _).box hxr _ _, blk_setCell (blk_setCell HR.out.2.1), (HR.out.2.2.box hxs _ _).box hxs _ _⟩
          generalize ((W.setCell ⟨xb, 1, none⟩ (.string ((bs la ++ bs lq)))).setCell ⟨xb, 2, none⟩ (.string ⟨#[]⟩)) = W2 at HR2 ⊢
          clear HR x0 x1 x2 x3
          have z0 := HR2.out.1.there k hlt
          have z1 := HR2.out.1.sure k hlt
          have z2 := HR2.out.1.pend k hlt
          have z3 := HR2.out.1.free
          obtain ⟨x0, x1, x2, x3⟩ := three_cells HR2.out.2.1
          go_region
          go_wp2
          go_roundw
          case rel =>
            have hP := HR2.out.1.put k hlt ((D.p k).settle ((D.p k).sure + lb.length))
            rw [HP.out.1, HP.out.2.1, HP.out.2.2, ← HL.out, Dr.fallTo_succ] at hP
            have hS := ((HR2.out.2.2.set (3 + k * 3) (.bool (D.p k).there)).set (3 + k * 3 + 1) (.string ((bs la ++ bs lq)))).set (3 + k * 3 + 2) (.string ⟨#[]⟩)
            exact ⟨k + 1, by omega, by go_num, hP, hS.os, hS.tape, hS.output, hS.size, hS.block⟩
          case measure => simp [intOf]; omega
      · have hx : keep.getD k 0 = 0 := by simp [List.getD, List.getElem?_eq_none (by omega : keep.length ≤ k)]
        have hle := hle 0 hx
        have HL : Hid (D.left keep k = (D.p k).sure + 0) := by
          show _ = _
          rw [hle]
          omega
        have HQ1 := HQ.out (0) (by trivial) (by omega)
        have hex := bs_take ((D.p k).l.drop (D.p k).sure) (0)
        have hql : (((D.p k).l.drop (D.p k).sure).take (0)).length ≤ ((D.p k).l.drop (D.p k).sure).length := List.length_take_le' _ _
        have hcc : ¬ 9223372036854775807 < (bs ((D.p k).l.take (D.p k).sure)).size + (bs (((D.p k).l.drop (D.p k).sure).take (0))).size := by
          rw [bs_size, bs_size]
          omega
        rw [List.take_zero, show ∀ x : ByteArray, x ++ bs [] = x from fun x => by rw [← bs_of x, bs_append, List.append_nil]] at HQ1
        have hc0 : ¬ 9223372036854775807 < (bs ((D.p k).l.take (D.p k).sure)).size := by
          rw [bs_size]
          omega
        clear hex hcc hql
        have HP : Hid (((D.p k).settle ((D.p k).sure + 0)).there = (D.p k).there ∧ bs (((D.p k).settle ((D.p k).sure + 0)).l.take ((D.p k).settle ((D.p k).sure + 0)).sure) = bs ((D.p k).l.take (D.p k).sure) ∧ ((D.p k).settle ((D.p k).sure + 0)).l.drop ((D.p k).settle ((D.p k).sure + 0)).sure = []) := HQ1
        clear hle hx HQ HQ1
        generalize (D.p k).l.drop (D.p k).sure = lb at *
        generalize (D.p k).l.take (D.p k).sure = la at *
        go_wp2_with fail
        have HR : Hid (RefAt rb (D.fallTo keep k) (wr.alloc (.cells #[.bool (D.p k).there, .string (bs la), .string (bs lb)] 44)) ∧ (wr.alloc (.cells #[.bool (D.p k).there, .string (bs la), .string (bs lb)] 44)).heap[wr.heap.size]? = some (.cells #[.bool (D.p k).there, .string (bs la), .string (bs lb)] 44 (0, 0)) ∧ Sole rb w (wr.alloc (.cells #[.bool (D.p k).there, .string (bs la), .string (bs lb)] 44))) := ⟨HW.out.1.on ((Below.refl _ _).alloc (Nat.le_refl _) _), heap_alloc_new wr _, HW.out.2.1.alloc _⟩
        have hxr : rb ≠ wr.heap.size := by have := HW.out.1.lt; omega
        have hxs : w.heap.size ≤ wr.heap.size := HW.out.2.1.size
        clear z0 z1 z2
        generalize wr.alloc (.cells #[.bool (D.p k).there, .string (bs la), .string (bs lb)] 44) = W at HR ⊢
        obtain ⟨xb, hxb⟩ : ∃ xb, xb = wr.heap.size := ⟨_, rfl⟩
        rw [← hxb] at HR hxr hxs ⊢
        clear hxb
        obtain ⟨x0, x1, x2, x3⟩ := three_cells HR.out.2.1
        go_region
        go_wp2_with fail
        have HR2 : Hid (RefAt rb (D.fallTo keep k) ((W.setCell ⟨xb, 1, none⟩ (.string (bs la))).setCell ⟨xb, 2, none⟩ (.string ⟨#[]⟩)) ∧ ((W.setCell ⟨xb, 1, none⟩ (.string (bs la))).setCell ⟨xb, 2, none⟩ (.string ⟨#[]⟩)).heap[xb]? = some (.cells #[.bool (D.p k).there, .string (bs la), .string ⟨#[]⟩] 44 (0, 0)) ∧ Sole rb w ((W.setCell ⟨xb, 1, none⟩ (.string (bs la))).setCell ⟨xb, 2, none⟩ (.string ⟨#[]⟩))) :=
          ⟨(HR.out.1.box hxr _ _).box hxr _ _, blk_setCell (blk_setCell HR.out.2.1), (HR.out.2.2.box hxs _ _).box hxs _ _⟩
        generalize ((W.setCell ⟨xb, 1, none⟩ (.string (bs la))).setCell ⟨xb, 2, none⟩ (.string ⟨#[]⟩)) = W2 at HR2 ⊢
        clear HR x0 x1 x2 x3
        have z0 := HR2.out.1.there k hlt
        have z1 := HR2.out.1.sure k hlt
        have z2 := HR2.out.1.pend k hlt
        have z3 := HR2.out.1.free
        obtain ⟨x0, x1, x2, x3⟩ := three_cells HR2.out.2.1
        go_region
        go_wp2
        go_roundw
        case rel =>
          have hP := HR2.out.1.put k hlt ((D.p k).settle ((D.p k).sure + 0))
          rw [HP.out.1, HP.out.2.1, HP.out.2.2, ← HL.out, Dr.fallTo_succ] at hP
          have hS := ((HR2.out.2.2.set (3 + k * 3) (.bool (D.p k).there)).set (3 + k * 3 + 1) (.string (bs la))).set (3 + k * 3 + 2) (.string ⟨#[]⟩)
          exact ⟨k + 1, by omega, by go_num, hP, hS.os, hS.tape, hS.output, hS.size, hS.block⟩
        case measure => simp [intOf]; omega
    · have HE : Hid (k = 4) := (by omega : k = 4)
      have hdn := HW.out.1.down
      have hfu := HW.out.1.left
      have hfz := HW.out.1.free
      have hfu2 := (HW.out.1.set_down false).left
      have hfz2 := (HW.out.1.set_down false).free
      go_wp2
      go_end0
      have hR := (HW.out.1.set_down false).set_left (-1)
      rw [HE.out] at hR
      exact ⟨rfl, hR.same (fun i hi => by simp [Dr.fall, Dr.fallTo, hi]) rfl rfl rfl, (HW.out.2.1.set _ _).set _ _⟩

end Go.Proofs.Ytlgmnjjjaplgcaa
