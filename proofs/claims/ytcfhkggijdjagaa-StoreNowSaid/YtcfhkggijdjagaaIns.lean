/-
  The program's store is what the laws ask of it.
-/
import Derived.Test.YtcfhkggijdjagaaSscn
namespace Go.Proofs.Ytcfhkggijdjagaa
open Go.RowKit

theorem of_nil (k : List UInt8) (w : World) : Hid (∀ W, Below w.heap.size w W → Calls Try.prog 30 #[.pointer none, .string (bs k)] W fun e w' => ∃ ao cap, e = .returned (.slice ao ([] : List Ve).length cap) ∧ VsAt w'.heap.size (.slice ao ([] : List Ve).length cap) [] w' ∧ Below W.heap.size W w') := fun W _ => by
  refine (so_of0 k W).mono ?_
  rintro e w' ⟨rfl, rfl⟩
  exact ⟨none, 0, rfl, vs_nil _ _, Below.refl _ _⟩
set_option maxHeartbeats 400000 in
theorem so_put0 (k : List UInt8) (x : Ve) (w : World) : Calls Try.prog 11 #[.pointer none, .string (bs k), veV x] w fun e w' => e = .returned (.int .i64 1) ∧ Below w.heap.size w w' := by
  obtain ⟨xp, xl, xc, xn, xs, xd⟩ := x
  have HB : Hid (Below w.heap.size w (w.alloc (.cells #[.int .u64 xp, .int .u32 xl, .int .u32 xc, .int .u32 xn, .string (bs xs), .bool xd] 37))) := al _
  simp only [veV]
  go_enter Try.func11, Try.ntmps11
  go_wp2_with fail
  go_ret
  exact ⟨rfl, HB.out⟩
set_option maxHeartbeats 400000 in
theorem so_prune0 (t u : Int) (w : World) : Calls Try.prog 13 #[.pointer none, .agg #[.int .u64 t, .int .u32 u]] w fun e w' => e = .returned (.int .i64 0) ∧ Below w.heap.size w w' := by
  have HB : Hid (Below w.heap.size w (w.alloc (.cells #[.int .u64 t, .int .u32 u] 33))) := al _
  have CK : Hid (∀ W, _) := fun W => so_keys0 W
  go_enter Try.func13, Try.ntmps13
  go_wp2_with fail
  refine (CK.out _).mono ?_
  rintro e w1 ⟨rfl, rfl⟩
  go_wp2_with fail
  go_loopw [5, 13] (fun n i wr => i = .int .i64 0 ∧ n = .int .i64 0 ∧ Below w.heap.size w wr) (fun _ _ _ => 0)
  case atStart => exact ⟨rfl, rfl, HB.out⟩
  case round =>
    obtain ⟨rfl, rfl, hb⟩ := hrel
    have HZ : Hid _ := hb
    clear hb
    go_wp2_with fail
    go_ret
    exact ⟨rfl, HZ.out⟩
set_option maxHeartbeats 400000 in
theorem so_scan0 (lo hi : List UInt8) (t u limit : Int) (w : World) : Calls Try.prog 22 #[.pointer none, .string (bs lo), .string (bs hi), .agg #[.int .u64 t, .int .u32 u], .int .i64 limit] w fun e w' => ∃ ao cap, e = .returned (.slice ao 0 cap) ∧ Below w.heap.size w w' := by
  have HB : Hid (Below w.heap.size w (w.alloc (.cells #[.int .u64 t, .int .u32 u] 33))) := al _
  go_enter Try.func22, Try.ntmps22
  go_wp2_with fail
  go_ret
  exact ⟨none, 0, rfl, HB.out⟩
set_option maxHeartbeats 400000 in
theorem so_items0 (w : World) : Calls Try.prog 25 #[.pointer none] w fun e w' => ∃ ao cap, e = .returned (.slice ao 0 cap) ∧ Below w.heap.size w w' := by
  have CK : Hid (∀ W, _) := fun W => so_keys0 W
  go_enter Try.func25, Try.ntmps25
  go_wp2_with fail
  refine (CK.out _).mono ?_
  rintro e w1 ⟨rfl, rfl⟩
  go_wp2_with fail
  go_loopw [3, 9] (fun vv i wr => i = .int .i64 0 ∧ vv = .slice none 0 0 ∧ Below w1.heap.size w1 wr) (fun _ _ _ => 0)
  case atStart => exact ⟨rfl, rfl, Below.refl _ _⟩
  case round =>
    obtain ⟨rfl, rfl, hb⟩ := hrel
    have HZ : Hid _ := hb
    clear hb
    go_wp2_with fail
    go_ret
    exact ⟨none, 0, rfl, HZ.out⟩
theorem storeIfs : Ifs SoAt where
  lt := by
    rintro B p M S w ⟨q, t, h, rfl⟩
    exact h.lt
  nov := by
    rintro B p M S w ⟨q, t, h, rfl⟩
    exact h.noVe
  keep := by
    rintro B p M G S w w' ⟨q, t, h, rfl⟩ hk h1 hG
    exact ⟨q, t, h.kept hk h1 hG, rfl⟩
  sok := by
    rintro B p M S w ⟨q, t, h, rfl⟩
    exact h.mc.sok
  new := so_new
  put := by
    rintro B p M S w k x ⟨q, t, h, rfl⟩ ht
    exact so_put k x h ht
  prune := by
    rintro B p M S w tt u ⟨q, t, h, rfl⟩ ht
    exact so_prune tt u h ht
  get := by
    rintro B p M S w k tt u ⟨q, t, h, rfl⟩ _
    exact so_get k tt u h
  newest := by
    rintro B p M S w k ⟨q, t, h, rfl⟩ _
    exact newest17_of _ k w (fun _ hb => so_of k (h.on hb))
  count := by
    rintro B p M S w k ⟨q, t, h, rfl⟩ _
    exact count19_of _ k w (fun _ hb => so_of k (h.on hb))
  scan := by
    rintro B p M S w lo hi tt u limit ⟨q, t, h, rfl⟩ ht
    exact so_scan lo hi tt u limit h ht
  items := by
    rintro B p M S w ⟨q, t, h, rfl⟩ ht
    exact so_items h ht
  put0 := so_put0
  prune0 := so_prune0
  get0 := fun k t u w => get15_of _ k t u w (of_nil k w)
  newest0 := fun k w => newest17_of _ k w (of_nil k w)
  count0 := fun k w => count19_of _ k w (of_nil k w)
  scan0 := so_scan0
  items0 := so_items0
#print axioms storeIfs
end Go.Proofs.Ytcfhkggijdjagaa
