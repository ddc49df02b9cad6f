/-
  The document's answer: the same intents.
-/
import Derived.Test.YtknfkpnicjellaaBy
namespace Go.Proofs.Ytknfkpnicjellaa
open Go.RowKit

theorem run_neq49 (c n sp sl mp ml : Int) (pr k v : List UInt8) (d : Bool) (w : World) : (binOp .neq 49 (.agg #[.int .u32 c, .int .u32 n, .int .u64 sp, .int .u32 sl, .int .u64 mp, .int .u32 ml, .string (bs pr), .string (bs k), .string (bs v), .bool d]) (.agg #[.int .u32 c, .int .u32 n, .int .u64 sp, .int .u32 sl, .int .u64 mp, .int .u32 ml, .string (bs pr), .string (bs k), .string (bs v), .bool d])).run Try.prog w = .ok (.bool false) w := by
  simp [go_sem]

set_option maxHeartbeats 800000 in
theorem same12 (Ba Bb : Nat) (T : Tb) (va vb : Value) (w : World) (ha : IsAt Ba va T w) (hb : IsAt Bb vb T w) :
    Calls Try.prog 12 #[va, vb] w fun e w' => e = .returned (.bool true) ∧ Below w.heap.size w w' := by
  obtain ⟨ao, ca, rfl, hla, hma⟩ := ha.shape
  obtain ⟨bo, cb, rfl, hlb, hmb⟩ := hb.shape
  have HA : Hid (∀ W, Below w.heap.size w W → ∀ i, i < T.length → ∃ b off, ao = some ⟨b, off, none⟩ ∧ InAt W b (off + i * 10) (T.getD i di)) := fun W hW i hi => by
    obtain ⟨b, off, e, h⟩ := ha.el hi
    exact ⟨b, off, e, h.on hW⟩
  have HB : Hid (∀ W, Below w.heap.size w W → ∀ i, i < T.length → ∃ b off, bo = some ⟨b, off, none⟩ ∧ InAt W b (off + i * 10) (T.getD i di)) := fun W hW i hi => by
    obtain ⟨b, off, e, h⟩ := hb.el hi
    exact ⟨b, off, e, h.on hW⟩
  have hL9 : T.length < 9223372036854775808 := by omega
  clear ha hb hla hma hlb hmb
  go_enter Try.func12, Try.ntmps12
  go_wp2_with fail
  go_loopw [5] (fun i wr => Below w.heap.size w wr ∧ ∃ m : Nat, m ≤ T.length ∧ i = .int .i64 m) (fun i _ => T.length - (intOf i).toNat)
  case atStart => exact ⟨Below.refl _ _, 0, Nat.zero_le _, rfl⟩
  case round =>
    obtain ⟨hbr, m, hm, rfl⟩ := hrel
    have HBr : Hid _ := hbr
    by_cases hml : m < T.length
    · obtain ⟨b, off, rfl, e0, e1, e2, e3, e4, e5, e6, e7, e8, e9⟩ := HA.out wr hbr m hml
      obtain ⟨b2, off2, rfl, f0, f1, f2, f3, f4, f5, f6, f7, f8, f9⟩ := HB.out wr hbr m hml
      have hml' : (m : Int) < T.length := by omega
      generalize T.getD m di = x at *
      obtain ⟨a, s⟩ := x
      dsimp only at e0 e1 e2 e3 e4 e5 e6 e7 e8 e9 f0 f1 f2 f3 f4 f5 f6 f7 f8 f9
      have hq := run_neq49 s.c s.n s.sp s.sl s.mp s.ml s.prim a s.val s.dead
      have HF : Hid (wr.cell? ⟨b, off + m * 10, none⟩ = some (.int .u32 s.c) ∧ wr.cell? ⟨b, off + m * 10 + 1, none⟩ = some (.int .u32 s.n) ∧ wr.cell? ⟨b, off + m * 10 + 2, none⟩ = some (.int .u64 s.sp) ∧ wr.cell? ⟨b, off + m * 10 + 3, none⟩ = some (.int .u32 s.sl) ∧ wr.cell? ⟨b, off + m * 10 + 4, none⟩ = some (.int .u64 s.mp) ∧ wr.cell? ⟨b, off + m * 10 + 5, none⟩ = some (.int .u32 s.ml) ∧ wr.cell? ⟨b, off + m * 10 + 6, none⟩ = some (.string (bs s.prim)) ∧ wr.cell? ⟨b, off + m * 10 + 7, none⟩ = some (.string (bs a)) ∧ wr.cell? ⟨b, off + m * 10 + 8, none⟩ = some (.string (bs s.val)) ∧ wr.cell? ⟨b, off + m * 10 + 9, none⟩ = some (.bool s.dead) ∧ wr.cell? ⟨b2, off2 + m * 10, none⟩ = some (.int .u32 s.c) ∧ wr.cell? ⟨b2, off2 + m * 10 + 1, none⟩ = some (.int .u32 s.n) ∧ wr.cell? ⟨b2, off2 + m * 10 + 2, none⟩ = some (.int .u64 s.sp) ∧ wr.cell? ⟨b2, off2 + m * 10 + 3, none⟩ = some (.int .u32 s.sl) ∧ wr.cell? ⟨b2, off2 + m * 10 + 4, none⟩ = some (.int .u64 s.mp) ∧ wr.cell? ⟨b2, off2 + m * 10 + 5, none⟩ = some (.int .u32 s.ml) ∧ wr.cell? ⟨b2, off2 + m * 10 + 6, none⟩ = some (.string (bs s.prim)) ∧ wr.cell? ⟨b2, off2 + m * 10 + 7, none⟩ = some (.string (bs a)) ∧ wr.cell? ⟨b2, off2 + m * 10 + 8, none⟩ = some (.string (bs s.val)) ∧ wr.cell? ⟨b2, off2 + m * 10 + 9, none⟩ = some (.bool s.dead)) := ⟨e0, e1, e2, e3, e4, e5, e6, e7, e8, e9, f0, f1, f2, f3, f4, f5, f6, f7, f8, f9⟩
      clear hbr HA HB
      go_upto_region 6 with fail
      go_region_held3 (fun W => W.cell? ⟨b, off + m * 10, none⟩ = some (.int .u32 s.c) ∧ W.cell? ⟨b, off + m * 10 + 1, none⟩ = some (.int .u32 s.n) ∧ W.cell? ⟨b, off + m * 10 + 2, none⟩ = some (.int .u64 s.sp) ∧ W.cell? ⟨b, off + m * 10 + 3, none⟩ = some (.int .u32 s.sl) ∧ W.cell? ⟨b, off + m * 10 + 4, none⟩ = some (.int .u64 s.mp) ∧ W.cell? ⟨b, off + m * 10 + 5, none⟩ = some (.int .u32 s.ml) ∧ W.cell? ⟨b, off + m * 10 + 6, none⟩ = some (.string (bs s.prim)) ∧ W.cell? ⟨b, off + m * 10 + 7, none⟩ = some (.string (bs a)) ∧ W.cell? ⟨b, off + m * 10 + 8, none⟩ = some (.string (bs s.val)) ∧ W.cell? ⟨b, off + m * 10 + 9, none⟩ = some (.bool s.dead) ∧ W.cell? ⟨b2, off2 + m * 10, none⟩ = some (.int .u32 s.c) ∧ W.cell? ⟨b2, off2 + m * 10 + 1, none⟩ = some (.int .u32 s.n) ∧ W.cell? ⟨b2, off2 + m * 10 + 2, none⟩ = some (.int .u64 s.sp) ∧ W.cell? ⟨b2, off2 + m * 10 + 3, none⟩ = some (.int .u32 s.sl) ∧ W.cell? ⟨b2, off2 + m * 10 + 4, none⟩ = some (.int .u64 s.mp) ∧ W.cell? ⟨b2, off2 + m * 10 + 5, none⟩ = some (.int .u32 s.ml) ∧ W.cell? ⟨b2, off2 + m * 10 + 6, none⟩ = some (.string (bs s.prim)) ∧ W.cell? ⟨b2, off2 + m * 10 + 7, none⟩ = some (.string (bs a)) ∧ W.cell? ⟨b2, off2 + m * 10 + 8, none⟩ = some (.string (bs s.val)) ∧ W.cell? ⟨b2, off2 + m * 10 + 9, none⟩ = some (.bool s.dead))
        (exact HF.out) (fail)
      rename_i hHeld
      clear hHeld e0 e1 e2 e3 e4 e5 e6 e7 e8 e9 f0 f1 f2 f3 f4 f5 f6 f7 f8 f9 HF
      go_wp2_with fail
      go_roundw
      case rel => exact ⟨HBr.out.drew, m + 1, by omega, by go_num⟩
      case measure => simp [intOf]; omega
    · have hml' : ¬ (m : Int) < T.length := by omega
      clear hbr
      go_wp2_with fail
      go_ret
      exact ⟨rfl, HBr.out⟩
end Go.Proofs.Ytknfkpnicjellaa
