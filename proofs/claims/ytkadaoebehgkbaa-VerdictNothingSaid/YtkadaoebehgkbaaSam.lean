/-
  The document's answer: the same verdicts.
-/
import Derived.Test.YtkadaoebehgkbaaDn
namespace Go.Proofs.Ytkadaoebehgkbaa
open Go.RowKit

theorem run_neq37 (x : Vd) (w : World) : (binOp .neq 37 (.agg #[.int .u32 x.c, .int .u32 x.n, .int .u64 x.sp, .int .u32 x.sl, .int .u64 x.ap, .int .u32 x.al, .int .u8 x.pt, .bool x.dn]) (.agg #[.int .u32 x.c, .int .u32 x.n, .int .u64 x.sp, .int .u32 x.sl, .int .u64 x.ap, .int .u32 x.al, .int .u8 x.pt, .bool x.dn])).run Try.prog w = .ok (.bool false) w := by
  simp [go_sem]

set_option maxHeartbeats 800000 in
set_option maxRecDepth 100000 in
theorem same17 (Ba Bb : Nat) (K : Bk) (va vb : Value) (w : World) (ha : VsAt Ba va K w) (hb : VsAt Bb vb K w) :
    Calls Try.prog 17 #[va, vb] w fun e w' => e = .returned (.bool true) ∧ Below w.heap.size w w' := by
  obtain ⟨ao, ca, rfl, hla, hma⟩ := ha.shape
  obtain ⟨bo, cb, rfl, hlb, hmb⟩ := hb.shape
  have HA : Hid (∀ W, Below w.heap.size w W → ∀ i, i < K.length → ∃ b off, ao = some ⟨b, off, none⟩ ∧ VdAt W b (off + i * 8) (K.getD i dv)) := fun W hW i hi => by
    obtain ⟨b, off, e, h⟩ := ha.el hi
    exact ⟨b, off, e, h.on hW⟩
  have HB : Hid (∀ W, Below w.heap.size w W → ∀ i, i < K.length → ∃ b off, bo = some ⟨b, off, none⟩ ∧ VdAt W b (off + i * 8) (K.getD i dv)) := fun W hW i hi => by
    obtain ⟨b, off, e, h⟩ := hb.el hi
    exact ⟨b, off, e, h.on hW⟩
  have hL9 : K.length < 9223372036854775808 := by omega
  clear ha hb hla hma hlb hmb
  go_enter Try.func17, Try.ntmps17
  go_wp2_with fail
  go_loopw [5] (fun i wr => Below w.heap.size w wr ∧ ∃ m : Nat, m ≤ K.length ∧ i = .int .i64 m) (fun i _ => K.length - (intOf i).toNat)
  case atStart => exact ⟨Below.refl _ _, 0, Nat.zero_le _, rfl⟩
  case round =>
    obtain ⟨hbr, m, hm, rfl⟩ := hrel
    have HBr : Hid _ := hbr
    by_cases hml : m < K.length
    · obtain ⟨b, off, rfl, e0, e1, e2, e3, e4, e5, e6, e7⟩ := HA.out wr hbr m hml
      obtain ⟨b2, off2, rfl, f0, f1, f2, f3, f4, f5, f6, f7⟩ := HB.out wr hbr m hml
      have hml' : (m : Int) < K.length := by omega
      generalize K.getD m dv = x at *
      have hq := run_neq37 x
      have HF : Hid (wr.cell? ⟨b, off + m * 8, none⟩ = some (.int .u32 x.c) ∧ wr.cell? ⟨b, off + m * 8 + 1, none⟩ = some (.int .u32 x.n) ∧ wr.cell? ⟨b, off + m * 8 + 2, none⟩ = some (.int .u64 x.sp) ∧ wr.cell? ⟨b, off + m * 8 + 3, none⟩ = some (.int .u32 x.sl) ∧ wr.cell? ⟨b, off + m * 8 + 4, none⟩ = some (.int .u64 x.ap) ∧ wr.cell? ⟨b, off + m * 8 + 5, none⟩ = some (.int .u32 x.al) ∧ wr.cell? ⟨b, off + m * 8 + 6, none⟩ = some (.int .u8 x.pt) ∧ wr.cell? ⟨b, off + m * 8 + 7, none⟩ = some (.bool x.dn) ∧ wr.cell? ⟨b2, off2 + m * 8, none⟩ = some (.int .u32 x.c) ∧ wr.cell? ⟨b2, off2 + m * 8 + 1, none⟩ = some (.int .u32 x.n) ∧ wr.cell? ⟨b2, off2 + m * 8 + 2, none⟩ = some (.int .u64 x.sp) ∧ wr.cell? ⟨b2, off2 + m * 8 + 3, none⟩ = some (.int .u32 x.sl) ∧ wr.cell? ⟨b2, off2 + m * 8 + 4, none⟩ = some (.int .u64 x.ap) ∧ wr.cell? ⟨b2, off2 + m * 8 + 5, none⟩ = some (.int .u32 x.al) ∧ wr.cell? ⟨b2, off2 + m * 8 + 6, none⟩ = some (.int .u8 x.pt) ∧ wr.cell? ⟨b2, off2 + m * 8 + 7, none⟩ = some (.bool x.dn)) := ⟨e0, e1, e2, e3, e4, e5, e6, e7, f0, f1, f2, f3, f4, f5, f6, f7⟩
      clear hbr HA HB
      go_upto_region 6 with fail
      go_region_held3 (fun W => W.cell? ⟨b, off + m * 8, none⟩ = some (.int .u32 x.c) ∧ W.cell? ⟨b, off + m * 8 + 1, none⟩ = some (.int .u32 x.n) ∧ W.cell? ⟨b, off + m * 8 + 2, none⟩ = some (.int .u64 x.sp) ∧ W.cell? ⟨b, off + m * 8 + 3, none⟩ = some (.int .u32 x.sl) ∧ W.cell? ⟨b, off + m * 8 + 4, none⟩ = some (.int .u64 x.ap) ∧ W.cell? ⟨b, off + m * 8 + 5, none⟩ = some (.int .u32 x.al) ∧ W.cell? ⟨b, off + m * 8 + 6, none⟩ = some (.int .u8 x.pt) ∧ W.cell? ⟨b, off + m * 8 + 7, none⟩ = some (.bool x.dn) ∧ W.cell? ⟨b2, off2 + m * 8, none⟩ = some (.int .u32 x.c) ∧ W.cell? ⟨b2, off2 + m * 8 + 1, none⟩ = some (.int .u32 x.n) ∧ W.cell? ⟨b2, off2 + m * 8 + 2, none⟩ = some (.int .u64 x.sp) ∧ W.cell? ⟨b2, off2 + m * 8 + 3, none⟩ = some (.int .u32 x.sl) ∧ W.cell? ⟨b2, off2 + m * 8 + 4, none⟩ = some (.int .u64 x.ap) ∧ W.cell? ⟨b2, off2 + m * 8 + 5, none⟩ = some (.int .u32 x.al) ∧ W.cell? ⟨b2, off2 + m * 8 + 6, none⟩ = some (.int .u8 x.pt) ∧ W.cell? ⟨b2, off2 + m * 8 + 7, none⟩ = some (.bool x.dn))
        (exact HF.out) (fail)
      rename_i hHeld
      clear hHeld e0 e1 e2 e3 e4 e5 e6 e7 f0 f1 f2 f3 f4 f5 f6 f7 HF
      go_wp2_with fail
      go_roundw
      case rel => exact ⟨HBr.out.drew, m + 1, by omega, by go_num⟩
      case measure => simp [intOf]; omega
    · have hml' : ¬ (m : Int) < K.length := by omega
      clear hbr
      go_wp2_with fail
      go_ret
      exact ⟨rfl, HBr.out⟩
end Go.Proofs.Ytkadaoebehgkbaa
