/-
  Contracts of By, All.
-/
import Derived.Test.YtknfkpnicjellaaInt
namespace Go.Proofs.Ytknfkpnicjellaa
open Go.RowKit

/-- The row of a transaction's keys. -/
theorem Tx.row {B p pm hb : Nat} {t : Tr} {m : Mm} {T : Tb} {w : World} (h : Tx B p pm hb t m w) (hr : Rel t.toL m T) (c n : Int) : RwAt w.heap.size 1 (svV ((getM (c, n) m).getD zt)) ((byF c n T).map (·.1)).length (kc ((byF c n T).map (·.1))) w := by
  rw [← hr.kl c n]
  cases hg : getM (c, n) m with
  | some tm => exact (h.rows _ (get_mem hg)).row
  | none => exact RwAt.nil _ _ _
theorem by_in {T : Tb} (hs : Srt T) (c n : Int) : ∀ k ∈ (byF c n T).map (·.1), (getF k T).isSome = true := fun k hk => by
  obtain ⟨y, hy, rfl⟩ := List.mem_map.1 hk
  rw [(getF_mem hs).2 (List.mem_filter.1 hy).1]
  rfl

set_option maxRecDepth 100000 in
theorem run_keys (a c : Int) (b d : Int) (s : ByteArray) (ao : Option Addr) (l cap : Nat) (w : World) : (Instr.field 75 (.agg #[.int .u64 a, .int .u32 b, .int .u64 c, .int .u32 d, .string s, .slice ao l cap]) 3).run Try.prog w = .ok (.slice ao l cap) w := by
  simp [Instr.field, go_sem, asAgg]

set_option maxHeartbeats 800000 in
set_option maxRecDepth 100000 in
theorem by21 {B p pm hb : Nat} {t : Tr} {m : Mm} {T : Tb} {w : World} (c n : Int) (h : Tx B p pm hb t m w) (hr : Rel t.toL m T) (hl : T.length < 10000) : Calls Try.prog 21 #[.pointer (some ⟨p, 0, none⟩), .agg #[.int .u32 c, .int .u32 n]] w fun e w' => ∃ v', e = .returned v' ∧ w'.ownsRow w.heap.size 49 10 v' (byF c n T).length (rowC inc (byF c n T)) ∧ Below w.heap.size w w' := by
  obtain ⟨W0, hW0⟩ : ∃ W0, w.alloc (.cells #[.int .u32 c, .int .u32 n] 32) = W0 := ⟨_, rfl⟩
  have hb0 : Below w.heap.size w W0 := by rw [← hW0]; exact al _
  have hx0 : W0.heap[w.heap.size]? = some (.cells #[.int .u32 c, .int .u32 n] 32 (0, 0)) := by rw [← hW0]; exact heap_alloc_new w _
  have z0 : W0.cell? ⟨w.heap.size, 0, none⟩ = some (.int .u32 c) := block_cell hx0 rfl
  have z1 : W0.cell? ⟨w.heap.size, 1, none⟩ = some (.int .u32 n) := block_cell hx0 rfl
  have h0 := h.on hb0
  obtain ⟨-, c1⟩ := h0.cells
  obtain ⟨tm, htm⟩ : ∃ tm, (getM (c, n) m).getD zt = tm := ⟨_, rfl⟩
  have HQ : ∀ W, Tx B p pm hb t m W → (Instr.lookup 63 (.map (some hb)) (.agg #[.int .u32 c, .int .u32 n]) false).run Try.prog W = .ok (tmV tm) W := fun W hW => by
    have := run_look hW.gm (c, n)
    rw [htm] at this
    exact this
  have q0 := HQ W0 h0
  have q1 := HQ W0.drew (h0.on (Below.refl _ _).drew)
  simp only [tmV] at q0 q1
  have CI : Hid (∀ W, Sw W0 W → Calls Try.prog 48 #[.pointer (some ⟨p, 0, none⟩), .slice tm.sv.1 tm.sv.2.1 tm.sv.2.2] W fun e w' => ∃ ao cap, e = .returned (.slice ao (byF c n T).length cap) ∧ Hid (w'.ownsRow w.heap.size 49 10 (.slice ao (byF c n T).length cap) (byF c n T).length (rowC inc (byF c n T)) ∧ Below w.heap.size w w')) := fun W hs => by
    have hW := h0.on (hs.below _)
    have hrow := hW.row hr c n
    rw [htm] at hrow
    refine (intents48 _ _ hW hr hrow (by_in hr.ok.srt c n) (by rw [List.length_map]; have := len_by c n T; omega)).mono ?_
    rintro e w' ⟨v', rfl, ho, hb'⟩
    rw [int_by hr.ok.srt] at ho
    obtain ⟨sa, sc, rfl, -, -, -, -⟩ := rw_own ho
    have hbw : Below w.heap.size w W := hb0.trans ((hs.below _).mono hb0.size)
    exact ⟨sa, sc, rfl, own_le ho hbw.size, hbw.trans (hb'.mono hbw.size)⟩
  clear h h0 hr hb0 hx0 hl HQ htm
  generalize (byF c n T) = R at *
  obtain ⟨bx, hbx⟩ : ∃ bx, w.heap.size = bx := ⟨_, rfl⟩
  rw [hbx] at z0 z1
  have HBX : Hid (w.heap.size = bx) := hbx
  have qf := run_keys tm.sp tm.mp tm.sl tm.ml (bs tm.prim) tm.sv.1 tm.sv.2.1 tm.sv.2.2
  go_enter Try.func21, Try.ntmps21
  go_wp2_with fail
  go_region_with (go_at_call 48; refine (CI.out _ ?_).mono ?_; exact Sw.drew (Sw.refl _); rintro e w1 ⟨ao, cap, rfl, HE⟩)
  all_goals
    go_wp2_with fail
    go_ret
    exact ⟨_, rfl, by rw [← HBX.out]; exact HE.out⟩
set_option maxHeartbeats 400000 in
set_option maxRecDepth 100000 in
theorem by21_nil (c n : Int) (w : World) : Calls Try.prog 21 #[.pointer none, .agg #[.int .u32 c, .int .u32 n]] w fun e w' => ∃ ao cap, e = .returned (.slice ao 0 cap) ∧ Below w.heap.size w w' := by
  go_enter Try.func21, Try.ntmps21
  go_wp2_with fail
  go_ret
  exact ⟨_, _, rfl, al _⟩

set_option maxHeartbeats 1600000 in
set_option maxRecDepth 100000 in
theorem all23 {B p pm hb : Nat} {t : Tr} {m : Mm} {T : Tb} {w : World} (h : Tx B p pm hb t m w) (hr : Rel t.toL m T) (hl : T.length < 10000) : Calls Try.prog 23 #[.pointer (some ⟨p, 0, none⟩)] w fun e w' => ∃ v', e = .returned v' ∧ w'.ownsRow w.heap.size 49 10 v' T.length (rowC inc T) ∧ Below w.heap.size w w' := by
  obtain ⟨c0, -⟩ := h.cells
  have hlen := hr.len
  have CL : Hid (∀ W, Sw w W → Calls Try.prog 49 #[.pointer (some ⟨pm, 0, none⟩)] W fun e w' => e = .returned (.int .i64 T.length) ∧ w'.cell? ⟨p, 0, none⟩ = some (.pointer (some ⟨pm, 0, none⟩)) ∧ Hid (Below w.heap.size w w')) := fun W hs => by
    have hW := h.on (hs.below _)
    refine (len15 hW.map).mono ?_
    rintro e w' ⟨rfl, hb'⟩
    rw [hlen]
    have hbw : Below w.heap.size w w' := (hs.below _).trans (hb'.mono (hs.below w.heap.size).size)
    exact ⟨rfl, (h.on hbw).cells.1, hbw⟩
  have CK : Hid (∀ W, Hid (Below w.heap.size w W) → Calls Try.prog 41 #[.pointer (some ⟨pm, 0, none⟩), .string ⟨#[]⟩, .string ⟨#[]⟩, .int .i64 T.length] W fun e w' => ∃ ao cap, e = .returned (.slice ao T.length cap) ∧ Hid (RwAt w'.heap.size 1 (.slice ao T.length cap) T.length (kc (T.map (·.1))) w' ∧ Below w.heap.size w w')) := fun W hs => by
    have hW := h.on hs.out
    refine (keys17 [] [] T.length hW.map (by omega)).mono ?_
    rintro e w' ⟨v', rfl, ho, hb'⟩
    have hk : keysF [] [] (T.length : Int) t.toL = T.map (·.1) := by
      unfold keysF
      rw [range_all, ← hr.keys, List.take_of_length_le (by simp)]
    rw [hk] at ho
    have ho' := rw_own ho
    rw [List.length_map] at ho'
    obtain ⟨sa, sc, rfl, -, -, -, -⟩ := ho'
    exact ⟨sa, sc, rfl, by have := rw_own ho; rw [List.length_map] at this; exact this, hs.out.trans (hb'.mono hs.out.size)⟩
  have CI : Hid (∀ W ao cap, Hid (RwAt W.heap.size 1 (.slice ao T.length cap) T.length (kc (T.map (·.1))) W ∧ Below w.heap.size w W) → Calls Try.prog 48 #[.pointer (some ⟨p, 0, none⟩), .slice ao T.length cap] W fun e w' => ∃ ao cap, e = .returned (.slice ao T.length cap) ∧ Hid (w'.ownsRow w.heap.size 49 10 (.slice ao T.length cap) T.length (rowC inc T) ∧ Below w.heap.size w w')) := fun W ao cap hs => by
    have hW := h.on hs.out.2
    refine (intents48 (T.map (·.1)) _ hW hr (by rw [List.length_map]; exact hs.out.1) (fun k hk => by rw [← keys_get hr.ok.srt]; exact hk) (by rw [List.length_map]; omega)).mono ?_
    rintro e w' ⟨v', rfl, ho, hb'⟩
    rw [int_all hr.ok.srt] at ho
    obtain ⟨sa, sc, rfl, -, -, -, -⟩ := rw_own ho
    exact ⟨sa, sc, rfl, own_le ho hs.out.2.size, hs.out.2.trans (hb'.mono hs.out.2.size)⟩
  have hl' : (T.length : Int) < 10000 := by omega
  clear h hr hlen hl
  generalize T.length = N at *
  go_enter Try.func23, Try.ntmps23
  go_wp2_with fail
  go_region_with (first
    | (go_at_call 49; refine (CL.out _ ?_).mono ?_; exact Sw.drew (Sw.refl _); rintro e w1 ⟨rfl, d0, HE⟩)
    | (go_at_call 41; refine (CK.out _ HE).mono ?_; rintro e w2 ⟨ao, cap, rfl, HF⟩)
    | (go_at_call 48; refine (CI.out _ _ _ HF).mono ?_; rintro e w3 ⟨ao', cap', rfl, HG⟩))
  all_goals
    go_wp2_with fail
    go_ret
    exact ⟨_, rfl, HG.out⟩
set_option maxHeartbeats 400000 in
set_option maxRecDepth 100000 in
theorem all23_nil (w : World) : Calls Try.prog 23 #[.pointer none] w fun e w' => ∃ ao cap, e = .returned (.slice ao 0 cap) ∧ Below w.heap.size w w' := by
  go_enter Try.func23, Try.ntmps23
  go_wp2_with fail
  go_ret
  exact ⟨_, _, rfl, Below.refl _ _⟩
end Go.Proofs.Ytknfkpnicjellaa
