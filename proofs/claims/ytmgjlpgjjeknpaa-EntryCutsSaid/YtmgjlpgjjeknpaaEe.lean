/-
  Entries in boxes; the document's Same.
-/
import Derived.Test.YtmgjlpgjjeknpaaLc
namespace Go.Proofs.Ytmgjlpgjjeknpaa
open Go.RowKit

theorem nat_beq (a b : Nat) : ((a : Int) == (b : Int)) = (a == b) := by
  rw [Bool.eq_iff_iff]
  simp only [beq_iff_eq]
  omega
theorem run_eql24 (p l q m : Nat) (w : World) : (binOp .eql 24 (.agg #[.int .u32 (p : Int), .int .u32 (l : Int)]) (.agg #[.int .u32 (q : Int), .int .u32 (m : Int)])).run Try.prog w = .ok (.bool (p == q && l == m)) w := by
  rw [← nat_beq p q, ← nat_beq l m]
  generalize (p : Int) = p
  generalize (l : Int) = l
  generalize (q : Int) = q
  generalize (m : Int) = m
  by_cases h : p = q <;> by_cases h2 : l = m <;> simp [go_sem, h, h2]
theorem run_eql27 (p l q m : Nat) (w : World) : (binOp .eql 27 (.agg #[.int .u64 (p : Int), .int .u32 (l : Int)]) (.agg #[.int .u64 (q : Int), .int .u32 (m : Int)])).run Try.prog w = .ok (.bool (p == q && l == m)) w := by
  rw [← nat_beq p q, ← nat_beq l m]
  generalize (p : Int) = p
  generalize (l : Int) = l
  generalize (q : Int) = q
  generalize (m : Int) = m
  by_cases h : p = q <;> by_cases h2 : l = m <;> simp [go_sem, h, h2]
theorem run_neq53 (a b : Wr) (w : World) : (binOp .neq 60 (.agg #[.string (bs a.key), .string (bs a.val), .bool a.dead]) (.agg #[.string (bs b.key), .string (bs b.val), .bool b.dead])).run Try.prog w = .ok (.bool (!eqW a b)) w := by
  obtain ⟨k, v, d⟩ := a
  obtain ⟨k', v', d'⟩ := b
  simp only [eqW]
  simp [go_sem, bs_list]
  repeat' split
  all_goals simp_all
theorem eqWs_step : ∀ {a b : List Wr} {m : Nat}, a.length = b.length → m < a.length → eqWs (a.drop m) (b.drop m) = (eqW (a.getD m dw) (b.getD m dw) && eqWs (a.drop (m + 1)) (b.drop (m + 1))) := by
  intro a b m hl hm
  rw [List.drop_eq_getElem_cons hm, List.drop_eq_getElem_cons (show m < b.length by omega), show a.getD m dw = a[m] from by simp [List.getD, hm], show b.getD m dw = b[m] from by simp [List.getD, show m < b.length by omega]]
  rfl
theorem eqWs_len {a b : List Wr} (h : a.length ≠ b.length) : eqWs a b = false := by
  cases h1 : eqWs a b with
  | false => rfl
  | true => exact absurd (congrArg List.length (eqWs_iff.1 h1)) h

/-- Two entries' boxes, and their writes. -/
structure Tw (w : World) (ba bb : Nat) (a b : En) (aa ab : Option Addr) (ca cb : Nat) (W : World) : Prop where
  bel : Below w.heap.size w W
  xa : W.heap[ba]? = some (.cells #[.int .i64 a.k, .int .u32 (a.c : Int), .int .u32 (a.n : Int), .int .u64 (a.sp : Int), .int .u32 (a.sl : Int), .int .u64 (a.ap : Int), .int .u32 (a.al : Int), .int .u64 (a.mp : Int), .int .u32 (a.ml : Int), .string (bs a.prim), .int .u8 (a.pt : Int), .bool a.dn, .slice aa a.ws.length ca] 30 (0, 0))
  xb : W.heap[bb]? = some (.cells #[.int .i64 b.k, .int .u32 (b.c : Int), .int .u32 (b.n : Int), .int .u64 (b.sp : Int), .int .u32 (b.sl : Int), .int .u64 (b.ap : Int), .int .u32 (b.al : Int), .int .u64 (b.mp : Int), .int .u32 (b.ml : Int), .string (bs b.prim), .int .u8 (b.pt : Int), .bool b.dn, .slice ab b.ws.length cb] 30 (0, 0))
theorem Tw.on {w W W' : World} {ba bb : Nat} {a b : En} {aa ab : Option Addr} {ca cb : Nat} (h : Tw w ba bb a b aa ab ca cb W) (hb : Below W.heap.size W W') : Tw w ba bb a b aa ab ca cb W' :=
  ⟨h.bel.trans (hb.mono h.bel.size), by rw [hb.block _ (Array.getElem?_eq_some_iff.1 h.xa).1]; exact h.xa, by rw [hb.block _ (Array.getElem?_eq_some_iff.1 h.xb).1]; exact h.xb⟩

set_option maxHeartbeats 3200000 in
set_option maxRecDepth 100000 in
theorem same12 (a b : En) (aa ab : Option Addr) (ca cb : Nat) (w : World) (ha : WsAt w.heap.size (.slice aa a.ws.length ca) a.ws w) (hb : WsAt w.heap.size (.slice ab b.ws.length cb) b.ws w) :
    Calls Try.prog 12 #[.agg #[.int .i64 a.k, .int .u32 (a.c : Int), .int .u32 (a.n : Int), .int .u64 (a.sp : Int), .int .u32 (a.sl : Int), .int .u64 (a.ap : Int), .int .u32 (a.al : Int), .int .u64 (a.mp : Int), .int .u32 (a.ml : Int), .string (bs a.prim), .int .u8 (a.pt : Int), .bool a.dn, .slice aa a.ws.length ca], .agg #[.int .i64 b.k, .int .u32 (b.c : Int), .int .u32 (b.n : Int), .int .u64 (b.sp : Int), .int .u32 (b.sl : Int), .int .u64 (b.ap : Int), .int .u32 (b.al : Int), .int .u64 (b.mp : Int), .int .u32 (b.ml : Int), .string (bs b.prim), .int .u8 (b.pt : Int), .bool b.dn, .slice ab b.ws.length cb]] w fun e w' => e = .returned (.bool (sameE a b)) ∧ Below w.heap.size w w' := by
  obtain ⟨ao, cap, he, hla, hma⟩ := ha.shape
  simp only [Value.slice.injEq, true_and] at he
  obtain ⟨rfl, rfl⟩ := he
  obtain ⟨bo, cap', he, hlb, hmb⟩ := hb.shape
  simp only [Value.slice.injEq, true_and] at he
  obtain ⟨rfl, rfl⟩ := he
  have HA : Hid (∀ W, Below w.heap.size w W → ∀ i, i < a.ws.length → ∃ b off, aa = some ⟨b, off, none⟩ ∧ WtAt W b (off + i * 3) (a.ws.getD i dw)) := fun W hW i hi => (ha.on hW).el hi
  have HB : Hid (∀ W, Below w.heap.size w W → ∀ i, i < b.ws.length → ∃ c off, ab = some ⟨c, off, none⟩ ∧ WtAt W c (off + i * 3) (b.ws.getD i dw)) := fun W hW i hi => (hb.on hW).el hi
  have hL1 : a.ws.length < 9223372036854775808 := by omega
  have hL2 : b.ws.length < 9223372036854775808 := by omega
  obtain ⟨W0, hW0⟩ : ∃ W0, w.alloc (.cells #[.int .i64 a.k, .int .u32 (a.c : Int), .int .u32 (a.n : Int), .int .u64 (a.sp : Int), .int .u32 (a.sl : Int), .int .u64 (a.ap : Int), .int .u32 (a.al : Int), .int .u64 (a.mp : Int), .int .u32 (a.ml : Int), .string (bs a.prim), .int .u8 (a.pt : Int), .bool a.dn, .slice aa a.ws.length ca] 30) = W0 := ⟨_, rfl⟩
  obtain ⟨W1, hW1⟩ : ∃ W1, W0.alloc (.cells #[.int .i64 b.k, .int .u32 (b.c : Int), .int .u32 (b.n : Int), .int .u64 (b.sp : Int), .int .u32 (b.sl : Int), .int .u64 (b.ap : Int), .int .u32 (b.al : Int), .int .u64 (b.mp : Int), .int .u32 (b.ml : Int), .string (bs b.prim), .int .u8 (b.pt : Int), .bool b.dn, .slice ab b.ws.length cb] 30) = W1 := ⟨_, rfl⟩
  have hx0 : W0.heap[w.heap.size]? = some (.cells #[.int .i64 a.k, .int .u32 (a.c : Int), .int .u32 (a.n : Int), .int .u64 (a.sp : Int), .int .u32 (a.sl : Int), .int .u64 (a.ap : Int), .int .u32 (a.al : Int), .int .u64 (a.mp : Int), .int .u32 (a.ml : Int), .string (bs a.prim), .int .u8 (a.pt : Int), .bool a.dn, .slice aa a.ws.length ca] 30 (0, 0)) := by rw [← hW0]; exact heap_alloc_new w _
  obtain ⟨ba, hba⟩ : ∃ ba, w.heap.size = ba := ⟨_, rfl⟩
  obtain ⟨bb, hbb⟩ : ∃ bb, ba + 1 = bb := ⟨_, rfl⟩
  have hsz : W0.heap.size = bb := by rw [← hbb, ← hba, ← hW0]; simp
  have H1 : Hid (Tw w ba bb a b aa ab ca cb W1) := by
    refine ⟨?_, ?_, ?_⟩
    · rw [← hW1, ← hW0]; exact (al _).alloc (by simp) _
    · rw [← hba, ← hW1, (al (W := W0) _).block _ (Array.getElem?_eq_some_iff.1 hx0).1]; exact hx0
    · rw [← hsz, ← hW1]; exact heap_alloc_new W0 _
  have HS : Hid (sameE a b = (eqWs a.ws b.ws && a.k == b.k && (a.c == b.c && a.n == b.n) && (a.sp == b.sp && a.sl == b.sl) && (a.ap == b.ap && a.al == b.al) && (a.mp == b.mp && a.ml == b.ml) && a.prim == b.prim && a.pt == b.pt && a.dn == b.dn)) := rfl
  have HNL : Hid (a.ws.length ≠ b.ws.length → eqWs a.ws b.ws = false) := eqWs_len
  have HST : Hid (a.ws.length = b.ws.length → ∀ m, m < a.ws.length → eqWs (a.ws.drop m) (b.ws.drop m) = (eqW (a.ws.getD m dw) (b.ws.getD m dw) && eqWs (a.ws.drop (m + 1)) (b.ws.drop (m + 1)))) := fun h m hm => eqWs_step h hm
  have HEN : Hid (a.ws.length = b.ws.length → ∀ m, a.ws.length ≤ m → eqWs (a.ws.drop m) (b.ws.drop m) = true) := fun h m hm => by rw [List.drop_eq_nil_of_le hm, List.drop_eq_nil_of_le (by omega)]; rfl
  have HE0 : Hid (eqWs (a.ws.drop 0) (b.ws.drop 0) = eqWs a.ws b.ws) := rfl
  clear ha hb hla hma hlb hmb hx0
  have a12 : W1.cell? ⟨ba, 12, none⟩ = some (.slice aa a.ws.length ca) := block_cell H1.out.xa rfl
  have b12 : W1.cell? ⟨bb, 12, none⟩ = some (.slice ab b.ws.length cb) := block_cell H1.out.xb rfl
  generalize sameE a b = y at *
  by_cases hlen : a.ws.length = b.ws.length
  · have hlen' : ((a.ws.length : Int) == (b.ws.length : Int)) = true := by simp [hlen]
    have HLN : Hid (a.ws.length = b.ws.length) := hlen
    clear hlen
    go_enter Try.func12, Try.ntmps12
    go_wp2_with fail
    clear hW0 hW1 hba hbb a12 b12 hsz
    go_loopw [5] (fun i wr => ∃ m : Nat, m ≤ a.ws.length ∧ i = .int .i64 m ∧ Tw w ba bb a b aa ab ca cb wr ∧ eqWs (a.ws.drop m) (b.ws.drop m) = eqWs a.ws b.ws) (fun i _ => a.ws.length - (intOf i).toNat)
    case atStart => exact ⟨0, Nat.zero_le _, rfl, H1.out, HE0.out⟩
    case round =>
      obtain ⟨m, hm, rfl, ht, he⟩ := hrel
      have HT : Hid (Tw w ba bb a b aa ab ca cb wr) := ht
      have HE : Hid (eqWs (a.ws.drop m) (b.ws.drop m) = eqWs a.ws b.ws) := he
      clear ht he
      have a12 : wr.cell? ⟨ba, 12, none⟩ = some (.slice aa a.ws.length ca) := block_cell HT.out.xa rfl
      have b12 : wr.cell? ⟨bb, 12, none⟩ = some (.slice ab b.ws.length cb) := block_cell HT.out.xb rfl
      by_cases hml : m < a.ws.length
      · obtain ⟨c1, o1, rfl, d0, d1, d2⟩ := HA.out wr HT.out.bel m hml
        obtain ⟨c2, o2, rfl, f0, f1, f2⟩ := HB.out wr HT.out.bel m (by have := HLN.out; omega)
        have hml1 : (m : Int) < a.ws.length := by omega
        have hml2 : (m : Int) < b.ws.length := by have := HLN.out; omega
        have HSm : Hid _ := HST.out HLN.out m hml
        have HQ : Hid (m + 1 ≤ a.ws.length) := hml
        have hq := run_neq53 (a.ws.getD m dw) (b.ws.getD m dw)
        obtain ⟨z, hz⟩ : ∃ z, eqW (a.ws.getD m dw) (b.ws.getD m dw) = z := ⟨_, rfl⟩
        rw [hz] at hq HSm
        clear hz
        generalize a.ws.getD m dw = x at *
        generalize b.ws.getD m dw = u at *
        have HF : Hid (wr.cell? ⟨ba, 12, none⟩ = some (.slice (some ⟨c1, o1, none⟩) a.ws.length ca) ∧ wr.cell? ⟨bb, 12, none⟩ = some (.slice (some ⟨c2, o2, none⟩) b.ws.length cb) ∧ wr.cell? ⟨c1, o1 + m * 3, none⟩ = some (.string (bs x.key)) ∧ wr.cell? ⟨c1, o1 + m * 3 + 1, none⟩ = some (.string (bs x.val)) ∧ wr.cell? ⟨c1, o1 + m * 3 + 2, none⟩ = some (.bool x.dead) ∧ wr.cell? ⟨c2, o2 + m * 3, none⟩ = some (.string (bs u.key)) ∧ wr.cell? ⟨c2, o2 + m * 3 + 1, none⟩ = some (.string (bs u.val)) ∧ wr.cell? ⟨c2, o2 + m * 3 + 2, none⟩ = some (.bool u.dead)) := ⟨a12, b12, d0, d1, d2, f0, f1, f2⟩
        clear hlen'
        go_upto_region 6 with fail
        go_region_held3 (fun W => W.cell? ⟨ba, 12, none⟩ = some (.slice (some ⟨c1, o1, none⟩) a.ws.length ca) ∧ W.cell? ⟨bb, 12, none⟩ = some (.slice (some ⟨c2, o2, none⟩) b.ws.length cb) ∧ W.cell? ⟨c1, o1 + m * 3, none⟩ = some (.string (bs x.key)) ∧ W.cell? ⟨c1, o1 + m * 3 + 1, none⟩ = some (.string (bs x.val)) ∧ W.cell? ⟨c1, o1 + m * 3 + 2, none⟩ = some (.bool x.dead) ∧ W.cell? ⟨c2, o2 + m * 3, none⟩ = some (.string (bs u.key)) ∧ W.cell? ⟨c2, o2 + m * 3 + 1, none⟩ = some (.string (bs u.val)) ∧ W.cell? ⟨c2, o2 + m * 3 + 2, none⟩ = some (.bool u.dead))
          (exact HF.out) (fail)
        rename_i hHeld
        clear hHeld a12 b12 d0 d1 d2 f0 f1 f2 hq HF
        cases z
        · have HY : Hid (y = false) := by
            have h1 := HSm.out
            rw [HE.out] at h1
            rw [HS.out, h1]
            rfl
          go_wp2_with fail
          go_ret
          exact ⟨by rw [HY.out]; rfl, HT.out.bel.drew⟩
        · have HE1 : Hid (eqWs (a.ws.drop (m + 1)) (b.ws.drop (m + 1)) = eqWs a.ws b.ws) := by
            have h1 := HSm.out
            rw [HE.out] at h1
            rw [h1]
            rfl
          go_wp2_with fail
          go_roundw
          case rel => exact ⟨m + 1, HQ.out, by go_num, HT.out.on (Below.refl _ _).drew, HE1.out⟩
          case measure => simp [intOf]; omega
      · have hml1 : ¬ (m : Int) < a.ws.length := by omega
        have HW : Hid (eqWs a.ws b.ws = true) := HE.out.symm.trans (HEN.out HLN.out m (by omega))
        have HY : Hid (y = (a.k == b.k && (a.c == b.c && a.n == b.n) && (a.sp == b.sp && a.sl == b.sl) && (a.ap == b.ap && a.al == b.al) && (a.mp == b.mp && a.ml == b.ml) && a.prim == b.prim && a.pt == b.pt && a.dn == b.dn)) := by
          rw [HS.out, HW.out]
          rfl
        clear hlen' a12 b12
        have p0 : wr.cell? ⟨ba, 0, none⟩ = some (.int .i64 a.k) := block_cell HT.out.xa rfl
        have p1 : wr.cell? ⟨ba, 1, none⟩ = some (.int .u32 (a.c : Int)) := block_cell HT.out.xa rfl
        have p2 : wr.cell? ⟨ba, 2, none⟩ = some (.int .u32 (a.n : Int)) := block_cell HT.out.xa rfl
        have p3 : wr.cell? ⟨ba, 3, none⟩ = some (.int .u64 (a.sp : Int)) := block_cell HT.out.xa rfl
        have p4 : wr.cell? ⟨ba, 4, none⟩ = some (.int .u32 (a.sl : Int)) := block_cell HT.out.xa rfl
        have p5 : wr.cell? ⟨ba, 5, none⟩ = some (.int .u64 (a.ap : Int)) := block_cell HT.out.xa rfl
        have p6 : wr.cell? ⟨ba, 6, none⟩ = some (.int .u32 (a.al : Int)) := block_cell HT.out.xa rfl
        have p7 : wr.cell? ⟨ba, 7, none⟩ = some (.int .u64 (a.mp : Int)) := block_cell HT.out.xa rfl
        have p8 : wr.cell? ⟨ba, 8, none⟩ = some (.int .u32 (a.ml : Int)) := block_cell HT.out.xa rfl
        have p9 : wr.cell? ⟨ba, 9, none⟩ = some (.string (bs a.prim)) := block_cell HT.out.xa rfl
        have p10 : wr.cell? ⟨ba, 10, none⟩ = some (.int .u8 (a.pt : Int)) := block_cell HT.out.xa rfl
        have p11 : wr.cell? ⟨ba, 11, none⟩ = some (.bool a.dn) := block_cell HT.out.xa rfl
        have p12 : wr.cell? ⟨ba, 12, none⟩ = some (.slice aa a.ws.length ca) := block_cell HT.out.xa rfl
        have q0 : wr.cell? ⟨bb, 0, none⟩ = some (.int .i64 b.k) := block_cell HT.out.xb rfl
        have q1 : wr.cell? ⟨bb, 1, none⟩ = some (.int .u32 (b.c : Int)) := block_cell HT.out.xb rfl
        have q2 : wr.cell? ⟨bb, 2, none⟩ = some (.int .u32 (b.n : Int)) := block_cell HT.out.xb rfl
        have q3 : wr.cell? ⟨bb, 3, none⟩ = some (.int .u64 (b.sp : Int)) := block_cell HT.out.xb rfl
        have q4 : wr.cell? ⟨bb, 4, none⟩ = some (.int .u32 (b.sl : Int)) := block_cell HT.out.xb rfl
        have q5 : wr.cell? ⟨bb, 5, none⟩ = some (.int .u64 (b.ap : Int)) := block_cell HT.out.xb rfl
        have q6 : wr.cell? ⟨bb, 6, none⟩ = some (.int .u32 (b.al : Int)) := block_cell HT.out.xb rfl
        have q7 : wr.cell? ⟨bb, 7, none⟩ = some (.int .u64 (b.mp : Int)) := block_cell HT.out.xb rfl
        have q8 : wr.cell? ⟨bb, 8, none⟩ = some (.int .u32 (b.ml : Int)) := block_cell HT.out.xb rfl
        have q9 : wr.cell? ⟨bb, 9, none⟩ = some (.string (bs b.prim)) := block_cell HT.out.xb rfl
        have q10 : wr.cell? ⟨bb, 10, none⟩ = some (.int .u8 (b.pt : Int)) := block_cell HT.out.xb rfl
        have q11 : wr.cell? ⟨bb, 11, none⟩ = some (.bool b.dn) := block_cell HT.out.xb rfl
        have q12 : wr.cell? ⟨bb, 12, none⟩ = some (.slice ab b.ws.length cb) := block_cell HT.out.xb rfl
        have e1 := run_eql24 a.c a.n b.c b.n
        have e2 := run_eql27 a.sp a.sl b.sp b.sl
        have e3 := run_eql27 a.ap a.al b.ap b.al
        have e4 := run_eql27 a.mp a.ml b.mp b.ml
        have e5 := bs_beq a.prim b.prim
        have e6 := nat_beq a.pt b.pt
        obtain ⟨z0, hz0⟩ : ∃ z0, (a.k == b.k) = z0 := ⟨_, rfl⟩
        obtain ⟨z1, hz1⟩ : ∃ z1, (a.c == b.c && a.n == b.n) = z1 := ⟨_, rfl⟩
        obtain ⟨z2, hz2⟩ : ∃ z2, (a.sp == b.sp && a.sl == b.sl) = z2 := ⟨_, rfl⟩
        obtain ⟨z3, hz3⟩ : ∃ z3, (a.ap == b.ap && a.al == b.al) = z3 := ⟨_, rfl⟩
        obtain ⟨z4, hz4⟩ : ∃ z4, (a.mp == b.mp && a.ml == b.ml) = z4 := ⟨_, rfl⟩
        obtain ⟨z5, hz5⟩ : ∃ z5, (a.prim == b.prim) = z5 := ⟨_, rfl⟩
        obtain ⟨z6, hz6⟩ : ∃ z6, (a.pt == b.pt) = z6 := ⟨_, rfl⟩
        obtain ⟨z7, hz7⟩ : ∃ z7, (a.dn == b.dn) = z7 := ⟨_, rfl⟩
        rw [hz0, hz1, hz2, hz3, hz4, hz5, hz6, hz7] at HY
        rw [hz1] at e1
        rw [hz2] at e2
        rw [hz3] at e3
        rw [hz4] at e4
        rw [hz5] at e5
        rw [hz6] at e6
        clear hz1 hz2 hz3 hz4 hz5 hz6
        cases z0
        · go_wp2_with fail
          go_ret
          exact ⟨by rw [HY.out]; rfl, HT.out.bel⟩
        · cases z1
          · go_wp2_with fail
            go_ret
            exact ⟨by rw [HY.out]; rfl, HT.out.bel⟩
          · cases z2
            · go_wp2_with fail
              go_ret
              exact ⟨by rw [HY.out]; rfl, HT.out.bel⟩
            · cases z3
              · go_wp2_with fail
                go_ret
                exact ⟨by rw [HY.out]; rfl, HT.out.bel⟩
              · cases z4
                · go_wp2_with fail
                  go_ret
                  exact ⟨by rw [HY.out]; rfl, HT.out.bel⟩
                · cases z5
                  · go_wp2_with fail
                    go_ret
                    exact ⟨by rw [HY.out]; rfl, HT.out.bel⟩
                  · cases z6
                    · go_wp2_with fail
                      go_ret
                      exact ⟨by rw [HY.out]; rfl, HT.out.bel⟩
                    · cases z7
                      · go_wp2_with fail
                        go_ret
                        exact ⟨by rw [HY.out]; rfl, HT.out.bel⟩
                      · go_wp2_with fail
                        go_ret
                        exact ⟨by rw [HY.out]; rfl, HT.out.bel⟩
  · have hlen' : ((a.ws.length : Int) == (b.ws.length : Int)) = false := by simp; omega
    have HY : Hid (y = false) := by rw [HS.out, HNL.out hlen]; rfl
    clear hlen
    go_enter Try.func12, Try.ntmps12
    go_wp2_with fail
    clear hba
    go_ret
    exact ⟨by rw [HY.out]; rfl, H1.out.bel⟩
end Go.Proofs.Ytmgjlpgjjeknpaa
