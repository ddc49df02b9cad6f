/-
  The program's Parts.
-/
import Derived.Test.YtdiellljplcjfaaPb
import Derived.Test.YtdiellljplcjfaaPw
import Derived.Test.YtdiellljplcjfaaSz
namespace Go.Proofs.Ytdiellljplcjfaa
open Go.RowKit Go.Sort

/-- The writes that came in; one of them in a box. -/
structure Pq (w : World) (v : Value) (l : List Wr) (W : World) : Prop where
  bel : Below w.heap.size w W
  ws : WsAt w.heap.size v l W
theorem Pq.on {w W W' : World} {v : Value} {l : List Wr} (h : Pq w v l W) (hb : Below W.heap.size W W') : Pq w v l W' := ⟨h.bel.trans (hb.mono h.bel.size), h.ws.on (hb.mono h.bel.size)⟩
set_option maxHeartbeats 1600000 in
set_option maxRecDepth 100000 in
theorem parts17 (l : List Wr) (ao : Option Addr) (cp : Nat) (n : Int) (w : World) (hl : l.length ≤ 1000) (hws : WsAt w.heap.size (.slice ao l.length cp) l w) : Calls Try.prog 17 #[.slice ao l.length cp, .int .i64 n] w fun r w' => r = .returned (.int .u8 (bitsL (splitF l n) : Int)) ∧ Below w.heap.size w w' := by
  rw [← parts_bits]
  have HW : Hid (Pq w (.slice ao l.length cp) l w) := ⟨Below.refl _ _, hws⟩
  have CS : Hid (∀ (key : List UInt8) (W : World), 1 = 1 → Calls Try.prog 11 #[.string (bs key), .int .i64 n] W fun r w' => r = .returned (.tuple #[.int .i64 (shardF key n).1, .int .i64 (shardF key n).2]) ∧ W = w') := fun key W _ => shard11 key n W
  have hn8 : ∀ key, (shardF key n).2 = 0 → n ≤ 8 := fun key h => by
    rcases shard_code key n with ⟨_, _, _, h3⟩ | ⟨h1, _⟩
    · exact h3
    · rw [h1] at h; simp at h
  have HN8 : Hid _ := hn8
  clear hws hn8
  go_enter Try.func17, Try.ntmps17
  go_wp2_with fail
  go_loopw [5, 12] (fun q i wr => ∃ m : Nat, m ≤ l.length ∧ i = .int .i64 m ∧ q = .int .u8 (partsF (l.take m) n : Int) ∧ Hid (Pq w (.slice ao l.length cp) l wr)) (fun _ i _ => l.length - (intOf i).toNat)
  case atStart => exact ⟨0, Nat.zero_le _, rfl, rfl, HW.out⟩
  case round =>
    obtain ⟨m, hm, rfl, rfl, HE⟩ := hrel
    clear HW
    by_cases hml : m < l.length
    · have hml1 : (m : Int) < l.length := by omega
      have HM : Hid (m + 1 ≤ l.length) := hml
      have HST : Hid _ := parts_step (n := n) hml
      have hP := parts_lt (l.take m) n
      obtain ⟨b1, o1, rfl, d0, d1, d2⟩ := HE.out.ws.el hml
      generalize l.getD m dw = x at *
      generalize partsF (l.take m) n = P at *
      have HSR : Hid _ := shard_range x.key n
      have HN : Hid _ := HN8.out x.key
      have HB0 : Hid (Pq w (.slice (some ⟨b1, o1, none⟩) l.length cp) l (wr.alloc (.cells #[.string (bs x.key), .string (bs x.val), .bool x.dead] 40)) ∧ (wr.alloc (.cells #[.string (bs x.key), .string (bs x.val), .bool x.dead] 40)).heap[wr.heap.size]? = some (.cells #[.string (bs x.key), .string (bs x.val), .bool x.dead] 40 (0, 0))) := ⟨HE.out.on (al _), heap_alloc_new wr _⟩
      have HPS : Hid (partS n P x = if (shardF x.key n).2 = 0 then P ||| 2 ^ (shardF x.key n).1.toNat else P) := rfl
      have HC : Hid _ := CS.out x.key
      generalize shardF x.key n = u at *
      obtain ⟨ua, ub⟩ := u
      dsimp only at *
      go_upto_region 5 with fail
      obtain ⟨y0, hy⟩ : ∃ y0, wr.alloc (.cells #[.string (bs x.key), .string (bs x.val), .bool x.dead] 40) = y0 := ⟨_, rfl⟩
      obtain ⟨bw, hbw⟩ : ∃ bw, wr.heap.size = bw := ⟨_, rfl⟩
      rw [hy, hbw] at HB0
      rw [hy, hbw]
      have g0 : y0.cell? ⟨bw, 0, none⟩ = some (.string (bs x.key)) := block_cell HB0.out.2 rfl
      clear hy hbw HE d0 d1 d2
      go_wp2_with fail
      refine (HC.out _ (by trivial)).mono ?_
      rintro r wx ⟨rfl, rfl⟩
      clear HC g0
      by_cases hb0 : ub = 0
      · subst hb0
        obtain ⟨h0, h1⟩ := HSR.out rfl
        have hn8 := HN.out rfl
        obtain ⟨k, rfl⟩ : ∃ k : Nat, ua = (k : Int) := ⟨ua.toNat, by omega⟩
        have hk8 : k < 8 := by omega
        have HP2 : Hid _ := pm8 k hk8
        have HO : Hid (bits BinOp.or IntKind.u8 (P : Int) ((2 ^ k : Nat) : Int) = ((P ||| 2 ^ k : Nat) : Int)) := or8 _ _ hP (Nat.pow_lt_pow_right (a := 2) (n := 8) (by decide) hk8)
        rw [if_pos rfl, Int.toNat_natCast] at HPS
        clear HSR HN
        go_wp2_with fail
        go_roundw
        case rel => exact ⟨m + 1, HM.out, by go_num, by rw [HST.out, HPS.out, ← HO.out, HP2.out], HB0.out.1⟩
        case measure => simp [intOf]; omega
      · rw [if_neg hb0] at HPS
        clear HSR HN
        go_wp2_with fail
        go_roundw
        case rel => exact ⟨m + 1, HM.out, by go_num, by rw [HST.out, HPS.out], HB0.out.1⟩
        case measure => simp [intOf]; omega
    · have hml1 : ¬ (m : Int) < l.length := by omega
      have HTL : Hid (partsF (l.take m) n = partsF l n) := by show _ = _; rw [List.take_of_length_le (by omega)]
      go_wp2_with fail
      go_ret
      exact ⟨by rw [← HTL.out]; rfl, HE.out.bel⟩
end Go.Proofs.Ytdiellljplcjfaa
