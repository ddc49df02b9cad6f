/-
  Contracts of the document's forms of texts, flags and stamps.
-/
import Derived.Test.YtmldgfepnmencaaRefRd
import Derived.Lib.QuietBelow
namespace Go.Proofs.Ytmldgfepnmencaa
open Go.RowKit Go.Sort

set_option maxHeartbeats 400000 in
theorem refText13 (s : List UInt8) (w : World) (hs : s.length ≤ 140737488355328) :
    Calls Try.prog 23 #[.string (bs s)] w fun e w' => e = .returned (.string (bs (textForm s))) ∧ Below w.heap.size w w' := by
  have hbs := bs_size s
  have hnl : (bs (numForm s.length)).size = sz s.length := by rw [bs_size, numForm_length]
  have hz := sz_le (n := s.length) (by omega)
  have hadd : bs (numForm s.length) ++ bs s = bs (textForm s) := bs_append _ _
  go_enter Try.func23, Try.ntmps23
  go_wp2_with (go_at_call 52; refine (refNum11 s.length _ (by omega)).mono ?_; rintro e w1 ⟨rfl, hb⟩; have HB : Hid (Below w.heap.size w w1) := hb; clear hb)
  go_ret
  exact ⟨rfl, HB.out⟩

set_option maxHeartbeats 400000 in
theorem refFlag15 (b : Bool) (w : World) : Calls Try.prog 20 #[.bool b] w fun e w' => e = .returned (.string (bs (flagForm b))) ∧ w = w' := by
  cases b
  · go_enter Try.func20, Try.ntmps20
    go_wp2
    go_ret
    exact ⟨rfl, rfl⟩
  · go_enter Try.func20, Try.ntmps20
    go_wp2
    go_ret
    exact ⟨rfl, rfl⟩

set_option maxHeartbeats 400000 in
theorem refStamp17 (p q : Nat) (w : World) (hp : p < 18446744073709551616) (hq : q < 4294967296) :
    Calls Try.prog 22 #[.agg #[.int .u64 p, .int .u32 q]] w fun e w' => e = .returned (.string (bs (stampForm p q))) ∧ Below w.heap.size w w' := by
  have hnp : (bs (numForm p)).size = sz p := by rw [bs_size, numForm_length]
  have hnq : (bs (numForm q)).size = sz q := by rw [bs_size, numForm_length]
  have hzp := sz_le hp
  have hzq := sz_le (n := q) (by omega)
  have hno : ¬ (9223372036854775807 < sz p + sz q) := by omega
  have hadd : bs (numForm p) ++ bs (numForm q) = bs (stampForm p q) := bs_append _ _
  go_enter Try.func22, Try.ntmps22
  go_wp2_with fail
  have hx0 : (w.alloc (Obj.cells #[Value.int IntKind.u64 p, Value.int IntKind.u32 q] 27)).heap[w.heap.size]? = some (Obj.cells #[Value.int IntKind.u64 p, Value.int IntKind.u32 q] 27 (0, 0)) := heap_alloc_new w _
  have hb0 : Below w.heap.size w (w.alloc (Obj.cells #[Value.int IntKind.u64 p, Value.int IntKind.u32 q] 27)) := (Below.refl _ _).alloc (Nat.le_refl _) _
  generalize w.alloc (Obj.cells #[Value.int IntKind.u64 p, Value.int IntKind.u32 q] 27) = W at hx0 hb0 ⊢
  obtain ⟨xb, hxb⟩ : ∃ xb, xb = w.heap.size := ⟨_, rfl⟩
  rw [← hxb] at hx0 ⊢
  obtain ⟨z0, z1, _, _⟩ := two_cells hx0
  have HZ0 : Hid (W.heap[xb]? = some (Obj.cells #[Value.int IntKind.u64 p, Value.int IntKind.u32 q] 27 (0, 0)) ∧ Below w.heap.size w W) := ⟨hx0, hb0⟩
  clear hx0 hb0 hxb
  have k0 := cell_regrown z0
  have k1 := cell_regrown z1
  have cP : ∀ d os, Calls Try.prog 52 #[.int .u64 (p : Int)] (grow (redrawn W d) os) fun e w'' => e = .returned (.string (bs (numForm p))) ∧ ∃ p : Regrown, w'' = grow (redrawn W p.d) p.os := fun d os => Calls.regrown_of (refNum11 p _ hp)
  have hwq : IntKind.u64.wrap (q : Int) = q := by simp [IntKind.wrap, IntKind.bits, IntKind.signed]; omega
  have cQ : ∀ d os, Calls Try.prog 52 #[.int .u64 (IntKind.u64.wrap (q : Int))] (grow (redrawn W d) os) fun e w'' => e = .returned (.string (bs (numForm q))) ∧ ∃ p : Regrown, w'' = grow (redrawn W p.d) p.os := fun d os => by rw [hwq]; exact Calls.regrown_of (refNum11 q _ (by omega))
  clear hwq
  refine wp_region_quiet_below (by kernel_rfl) (by kernel_rfl) ?_
  quiet_step (fail)
  quiet_step (fail)
  quiet_step (exact cP _ _)
  quiet_step (fail)
  quiet_step (fail)
  quiet_step (fail)
  quiet_step (exact cQ _ _)
  quiet_step (fail)
  quiet_step (fail)
  refine wpQuiet_nil ?_
  intro _ hw'
  obtain ⟨⟨dq, osq⟩, hw''⟩ := hw'
  subst hw''
  have HB5 : Hid (Below w.heap.size w (grow (redrawn W dq) osq)) := HZ0.out.2.trans ((below_regrown W dq osq).mono HZ0.out.2.size)
  clear k0 k1 cP cQ z0 z1
  go_wp2
  go_ret
  exact ⟨rfl, HB5.out⟩

end Go.Proofs.Ytmldgfepnmencaa
