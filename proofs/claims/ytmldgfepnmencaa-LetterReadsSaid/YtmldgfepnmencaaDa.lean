/-
  The document's comparison of replies.
-/
import Derived.Test.YtmldgfepnmencaaLg
namespace Go.Proofs.Ytmldgfepnmencaa
open Go.RowKit Go.Sort

/-- Two boxes of a call's own. -/
structure Tw (w : World) (ba bb : Nat) (ca cb : Array Value) (ty : TypeId) (W : World) : Prop where
  bel : Below w.heap.size w W
  xa : W.heap[ba]? = some (.cells ca ty (0, 0))
  xb : W.heap[bb]? = some (.cells cb ty (0, 0))
theorem Tw.on {w W W' : World} {ba bb : Nat} {ca cb : Array Value} {ty : TypeId} (h : Tw w ba bb ca cb ty W) (hb : Below W.heap.size W W') : Tw w ba bb ca cb ty W' :=
  ⟨h.bel.trans (hb.mono h.bel.size), by rw [hb.block _ (Array.getElem?_eq_some_iff.1 h.xa).1]; exact h.xa, by rw [hb.block _ (Array.getElem?_eq_some_iff.1 h.xb).1]; exact h.xb⟩
theorem tw_new (w : World) (ca cb : Array Value) (ty : TypeId) : Tw w w.heap.size (w.heap.size + 1) ca cb ty ((w.alloc (.cells ca ty)).alloc (.cells cb ty)) := by
  have hx0 : (w.alloc (.cells ca ty)).heap[w.heap.size]? = some (.cells ca ty (0, 0)) := heap_alloc_new w _
  have hs : (w.alloc (.cells ca ty)).heap.size = w.heap.size + 1 := size_al w _
  refine ⟨(al _).alloc (by simp) _, ?_, ?_⟩
  · rw [(al (W := w.alloc (.cells ca ty)) _).block _ (Array.getElem?_eq_some_iff.1 hx0).1]; exact hx0
  · rw [← hs]; exact heap_alloc_new _ _

set_option maxHeartbeats 3200000 in
set_option maxRecDepth 100000 in
theorem pairs68 (a b : List Pr) (aa ab : Option Addr) (ca cb : Nat) (w : World) (ha : PsAt w.heap.size (.slice aa a.length ca) a w) (hb : PsAt w.heap.size (.slice ab b.length cb) b w) :
    Calls Try.prog 68 #[.slice aa a.length ca, .slice ab b.length cb] w fun e w' => e = .returned (.bool (eqL eqP a b)) ∧ Below w.heap.size w w' := by
  obtain ⟨hla, hma⟩ := ha.cap
  obtain ⟨hlb, hmb⟩ := hb.cap
  have HA : Hid (∀ W, Below w.heap.size w W → ∀ i, i < a.length → ∃ b off, aa = some ⟨b, off, none⟩ ∧ PtAt W b (off + i * 2) (a.getD i dp)) := fun W hW i hi => (ha.on hW).el hi
  have HB : Hid (∀ W, Below w.heap.size w W → ∀ i, i < b.length → ∃ c off, ab = some ⟨c, off, none⟩ ∧ PtAt W c (off + i * 2) (b.getD i dp)) := fun W hW i hi => (hb.on hW).el hi
  have hL1 : a.length < 9223372036854775808 := by omega
  have hL2 : b.length < 9223372036854775808 := by omega
  have HNL : Hid (a.length ≠ b.length → eqL eqP a b = false) := eqL_len eqP_iff
  have HST : Hid (a.length = b.length → ∀ m, m < a.length → eqL eqP (a.drop m) (b.drop m) = (eqP (a.getD m dp) (b.getD m dp) && eqL eqP (a.drop (m + 1)) (b.drop (m + 1)))) := fun h m hm => eqL_step h hm
  have HEN : Hid (a.length = b.length → ∀ m, a.length ≤ m → eqL eqP (a.drop m) (b.drop m) = true) := fun h m hm => by rw [List.drop_eq_nil_of_le hm, List.drop_eq_nil_of_le (by omega)]; rfl
  have HE0 : Hid (eqL eqP (a.drop 0) (b.drop 0) = eqL eqP a b) := rfl
  clear ha hb hla hma hlb hmb
  generalize eqL eqP a b = y at *
  by_cases hlen : a.length = b.length
  · have hlen' : ((a.length : Int) == (b.length : Int)) = true := by simp [hlen]
    have HLN : Hid (a.length = b.length) := hlen
    clear hlen
    go_enter Try.func68, Try.ntmps68
    go_wp2_with fail
    go_loopw [5] (fun i wr => ∃ m : Nat, m ≤ a.length ∧ i = .int .i64 m ∧ Below w.heap.size w wr ∧ eqL eqP (a.drop m) (b.drop m) = y) (fun i _ => a.length - (intOf i).toNat)
    case atStart => exact ⟨0, Nat.zero_le _, rfl, Below.refl _ _, HE0.out⟩
    case round =>
      obtain ⟨m, hm, rfl, ht, he⟩ := hrel
      have HT : Hid (Below w.heap.size w wr) := ht
      have HE : Hid (eqL eqP (a.drop m) (b.drop m) = y) := he
      clear ht he
      by_cases hml : m < a.length
      · obtain ⟨c1, o1, rfl, d0, d1⟩ := HA.out wr HT.out m hml
        obtain ⟨c2, o2, rfl, f0, f1⟩ := HB.out wr HT.out m (by have := HLN.out; omega)
        have hml1 : (m : Int) < a.length := by omega
        have hml2 : (m : Int) < b.length := by have := HLN.out; omega
        have HSm : Hid _ := HST.out HLN.out m hml
        have HQ : Hid (m + 1 ≤ a.length) := hml
        have hq := run_neq67 (a.getD m dp) (b.getD m dp)
        obtain ⟨z, hz⟩ : ∃ z, eqP (a.getD m dp) (b.getD m dp) = z := ⟨_, rfl⟩
        rw [hz] at hq HSm
        clear hz
        generalize a.getD m dp = x at *
        generalize b.getD m dp = u at *
        have HF : Hid (wr.cell? ⟨c1, o1 + m * 2, none⟩ = some (.string (bs x.key)) ∧ wr.cell? ⟨c1, o1 + m * 2 + 1, none⟩ = some (.string (bs x.val)) ∧ wr.cell? ⟨c2, o2 + m * 2, none⟩ = some (.string (bs u.key)) ∧ wr.cell? ⟨c2, o2 + m * 2 + 1, none⟩ = some (.string (bs u.val))) := ⟨d0, d1, f0, f1⟩
        clear hlen'
        go_upto_region 6 with fail
        go_region_held3 (fun W => W.cell? ⟨c1, o1 + m * 2, none⟩ = some (.string (bs x.key)) ∧ W.cell? ⟨c1, o1 + m * 2 + 1, none⟩ = some (.string (bs x.val)) ∧ W.cell? ⟨c2, o2 + m * 2, none⟩ = some (.string (bs u.key)) ∧ W.cell? ⟨c2, o2 + m * 2 + 1, none⟩ = some (.string (bs u.val)))
          (exact HF.out) (fail)
        rename_i hHeld
        clear hHeld d0 d1 f0 f1 hq HF
        cases z
        · have HY : Hid (y = false) := by
            have h1 := HSm.out
            rw [HE.out] at h1
            rw [h1]
            rfl
          go_wp2_with fail
          go_ret
          exact ⟨by rw [HY.out]; rfl, HT.out.drew⟩
        · have HE1 : Hid (eqL eqP (a.drop (m + 1)) (b.drop (m + 1)) = y) := by
            have h1 := HSm.out
            rw [HE.out] at h1
            rw [h1]
            rfl
          go_wp2_with fail
          go_roundw
          case rel => exact ⟨m + 1, HQ.out, by go_num, HT.out.drew, HE1.out⟩
          case measure => simp [intOf]; omega
      · have hml1 : ¬ (m : Int) < a.length := by omega
        have HY : Hid (y = true) := HE.out.symm.trans (HEN.out HLN.out m (by omega))
        clear hlen'
        go_wp2_with fail
        go_ret
        exact ⟨by rw [HY.out]; rfl, HT.out⟩
  · have hlen' : ((a.length : Int) == (b.length : Int)) = false := by simp; omega
    have HY : Hid (y = false) := HNL.out hlen
    clear hlen
    go_enter Try.func68, Try.ntmps68
    go_wp2_with fail
    go_ret
    exact ⟨by rw [HY.out]; rfl, Below.refl _ _⟩
set_option maxHeartbeats 6400000 in
set_option maxRecDepth 100000 in
theorem same35 (a b : Rp) (aa ab : Option Addr) (ca cb : Nat) (w : World) (ha : PsAt w.heap.size (.slice aa a.ps.length ca) a.ps w) (hb : PsAt w.heap.size (.slice ab b.ps.length cb) b.ps w) :
    Calls Try.prog 35 #[.agg #[.int .i64 a.k, .int .i64 a.er, .bool a.fd, .string (bs a.val), .slice aa a.ps.length ca, .int .u32 (a.c : Int), .int .u32 (a.n : Int), .int .u64 (a.sp : Int), .int .u32 (a.sl : Int), .int .u64 (a.ap : Int), .int .u32 (a.al : Int), .string (bs a.prim), .int .u64 (a.np : Int), .int .u32 (a.nl : Int)], .agg #[.int .i64 b.k, .int .i64 b.er, .bool b.fd, .string (bs b.val), .slice ab b.ps.length cb, .int .u32 (b.c : Int), .int .u32 (b.n : Int), .int .u64 (b.sp : Int), .int .u32 (b.sl : Int), .int .u64 (b.ap : Int), .int .u32 (b.al : Int), .string (bs b.prim), .int .u64 (b.np : Int), .int .u32 (b.nl : Int)]] w fun e w' => e = .returned (.bool (sameR a b)) ∧ Below w.heap.size w w' := by
  have HA : Hid _ := ha
  have HB : Hid _ := hb
  clear ha hb
  have H0 : Hid _ := tw_new w #[.int .i64 a.k, .int .i64 a.er, .bool a.fd, .string (bs a.val), .slice aa a.ps.length ca, .int .u32 (a.c : Int), .int .u32 (a.n : Int), .int .u64 (a.sp : Int), .int .u32 (a.sl : Int), .int .u64 (a.ap : Int), .int .u32 (a.al : Int), .string (bs a.prim), .int .u64 (a.np : Int), .int .u32 (a.nl : Int)] #[.int .i64 b.k, .int .i64 b.er, .bool b.fd, .string (bs b.val), .slice ab b.ps.length cb, .int .u32 (b.c : Int), .int .u32 (b.n : Int), .int .u64 (b.sp : Int), .int .u32 (b.sl : Int), .int .u64 (b.ap : Int), .int .u32 (b.al : Int), .string (bs b.prim), .int .u64 (b.np : Int), .int .u32 (b.nl : Int)] 35
  obtain ⟨W0, hW0⟩ : ∃ W0, w.alloc (.cells #[.int .i64 a.k, .int .i64 a.er, .bool a.fd, .string (bs a.val), .slice aa a.ps.length ca, .int .u32 (a.c : Int), .int .u32 (a.n : Int), .int .u64 (a.sp : Int), .int .u32 (a.sl : Int), .int .u64 (a.ap : Int), .int .u32 (a.al : Int), .string (bs a.prim), .int .u64 (a.np : Int), .int .u32 (a.nl : Int)] 35) = W0 := ⟨_, rfl⟩
  obtain ⟨W1, hW1⟩ : ∃ W1, W0.alloc (.cells #[.int .i64 b.k, .int .i64 b.er, .bool b.fd, .string (bs b.val), .slice ab b.ps.length cb, .int .u32 (b.c : Int), .int .u32 (b.n : Int), .int .u64 (b.sp : Int), .int .u32 (b.sl : Int), .int .u64 (b.ap : Int), .int .u32 (b.al : Int), .string (bs b.prim), .int .u64 (b.np : Int), .int .u32 (b.nl : Int)] 35) = W1 := ⟨_, rfl⟩
  obtain ⟨ba, hba⟩ : ∃ ba, w.heap.size = ba := ⟨_, rfl⟩
  obtain ⟨bb, hbb⟩ : ∃ bb, ba + 1 = bb := ⟨_, rfl⟩
  have hsz : W0.heap.size = bb := by rw [← hbb, ← hba, ← hW0]; simp
  have T1 : Hid (Tw w ba bb #[.int .i64 a.k, .int .i64 a.er, .bool a.fd, .string (bs a.val), .slice aa a.ps.length ca, .int .u32 (a.c : Int), .int .u32 (a.n : Int), .int .u64 (a.sp : Int), .int .u32 (a.sl : Int), .int .u64 (a.ap : Int), .int .u32 (a.al : Int), .string (bs a.prim), .int .u64 (a.np : Int), .int .u32 (a.nl : Int)] #[.int .i64 b.k, .int .i64 b.er, .bool b.fd, .string (bs b.val), .slice ab b.ps.length cb, .int .u32 (b.c : Int), .int .u32 (b.n : Int), .int .u64 (b.sp : Int), .int .u32 (b.sl : Int), .int .u64 (b.ap : Int), .int .u32 (b.al : Int), .string (bs b.prim), .int .u64 (b.np : Int), .int .u32 (b.nl : Int)] 35 W1) := by
    rw [← hW1, ← hW0, ← hbb, ← hba]
    exact H0.out
  clear H0
  have HY : Hid (sameR a b = ((a.k == b.k) && (a.er == b.er) && (a.fd == b.fd) && (a.val == b.val) && eqL eqP a.ps b.ps && (a.c == b.c && a.n == b.n) && (a.sp == b.sp && a.sl == b.sl) && (a.ap == b.ap && a.al == b.al) && (a.prim == b.prim) && (a.np == b.np && a.nl == b.nl))) := rfl
  have CP : Hid (∀ W, Below w.heap.size w W → _) := fun W hW => pairs68 a.ps b.ps aa ab ca cb W (PsAt.up HA.out hW) (PsAt.up HB.out hW)
  have e3 := bs_beq a.val b.val
  have e5 := run_eql24 a.c a.n b.c b.n
  have e6 := run_eql27 a.sp a.sl b.sp b.sl
  have e7 := run_eql27 a.ap a.al b.ap b.al
  have e8 := bs_beq a.prim b.prim
  have e9 := run_eql27 a.np a.nl b.np b.nl
  obtain ⟨z0, hz0⟩ : ∃ z, (a.k == b.k) = z := ⟨_, rfl⟩
  obtain ⟨z1, hz1⟩ : ∃ z, (a.er == b.er) = z := ⟨_, rfl⟩
  obtain ⟨z2, hz2⟩ : ∃ z, (a.fd == b.fd) = z := ⟨_, rfl⟩
  obtain ⟨z3, hz3⟩ : ∃ z, (a.val == b.val) = z := ⟨_, rfl⟩
  obtain ⟨z4, hz4⟩ : ∃ z, eqL eqP a.ps b.ps = z := ⟨_, rfl⟩
  obtain ⟨z5, hz5⟩ : ∃ z, (a.c == b.c && a.n == b.n) = z := ⟨_, rfl⟩
  obtain ⟨z6, hz6⟩ : ∃ z, (a.sp == b.sp && a.sl == b.sl) = z := ⟨_, rfl⟩
  obtain ⟨z7, hz7⟩ : ∃ z, (a.ap == b.ap && a.al == b.al) = z := ⟨_, rfl⟩
  obtain ⟨z8, hz8⟩ : ∃ z, (a.prim == b.prim) = z := ⟨_, rfl⟩
  obtain ⟨z9, hz9⟩ : ∃ z, (a.np == b.np && a.nl == b.nl) = z := ⟨_, rfl⟩
  rw [hz0, hz1, hz2, hz3, hz4, hz5, hz6, hz7, hz8, hz9] at HY
  rw [hz3] at e3
  rw [hz5] at e5
  rw [hz6] at e6
  rw [hz7] at e7
  rw [hz8] at e8
  rw [hz9] at e9
  rw [hz4] at CP
  generalize sameR a b = y at *
  clear hz3 hz4 hz5 hz6 hz7 hz8 hz9
  have p0 : W1.cell? ⟨ba, 0, none⟩ = some (.int .i64 a.k) := block_cell T1.out.xa rfl
  have p1 : W1.cell? ⟨ba, 1, none⟩ = some (.int .i64 a.er) := block_cell T1.out.xa rfl
  have p2 : W1.cell? ⟨ba, 2, none⟩ = some (.bool a.fd) := block_cell T1.out.xa rfl
  have p3 : W1.cell? ⟨ba, 3, none⟩ = some (.string (bs a.val)) := block_cell T1.out.xa rfl
  have p4 : W1.cell? ⟨ba, 4, none⟩ = some (.slice aa a.ps.length ca) := block_cell T1.out.xa rfl
  have q0 : W1.cell? ⟨bb, 0, none⟩ = some (.int .i64 b.k) := block_cell T1.out.xb rfl
  have q1 : W1.cell? ⟨bb, 1, none⟩ = some (.int .i64 b.er) := block_cell T1.out.xb rfl
  have q2 : W1.cell? ⟨bb, 2, none⟩ = some (.bool b.fd) := block_cell T1.out.xb rfl
  have q3 : W1.cell? ⟨bb, 3, none⟩ = some (.string (bs b.val)) := block_cell T1.out.xb rfl
  have q4 : W1.cell? ⟨bb, 4, none⟩ = some (.slice ab b.ps.length cb) := block_cell T1.out.xb rfl
  cases z0
  · go_enter Try.func35, Try.ntmps35
    (try simp only [List.append_eq, List.cons_append, List.nil_append])
    go_wp2_with fail
    go_ret
    exact ⟨by rw [HY.out]; rfl, (by first | exact T1.out.bel | exact below_of hba T1.out.bel)⟩
  cases z1
  · go_enter Try.func35, Try.ntmps35
    (try simp only [List.append_eq, List.cons_append, List.nil_append])
    go_wp2_with fail
    go_ret
    exact ⟨by rw [HY.out]; rfl, (by first | exact T1.out.bel | exact below_of hba T1.out.bel)⟩
  cases z2
  · go_enter Try.func35, Try.ntmps35
    (try simp only [List.append_eq, List.cons_append, List.nil_append])
    go_wp2_with fail
    go_ret
    exact ⟨by rw [HY.out]; rfl, (by first | exact T1.out.bel | exact below_of hba T1.out.bel)⟩
  cases z3
  · go_enter Try.func35, Try.ntmps35
    (try simp only [List.append_eq, List.cons_append, List.nil_append])
    go_wp2_with fail
    go_ret
    exact ⟨by rw [HY.out]; rfl, (by first | exact T1.out.bel | exact below_of hba T1.out.bel)⟩
  go_enter Try.func35, Try.ntmps35
  (try simp only [List.append_eq, List.cons_append, List.nil_append])
  go_wp2_with fail
  refine (CP.out _ T1.out.bel).mono ?_
  rintro e w2 ⟨rfl, hb2⟩
  have T2 : Hid (Tw w ba bb #[.int .i64 a.k, .int .i64 a.er, .bool a.fd, .string (bs a.val), .slice aa a.ps.length ca, .int .u32 (a.c : Int), .int .u32 (a.n : Int), .int .u64 (a.sp : Int), .int .u32 (a.sl : Int), .int .u64 (a.ap : Int), .int .u32 (a.al : Int), .string (bs a.prim), .int .u64 (a.np : Int), .int .u32 (a.nl : Int)] #[.int .i64 b.k, .int .i64 b.er, .bool b.fd, .string (bs b.val), .slice ab b.ps.length cb, .int .u32 (b.c : Int), .int .u32 (b.n : Int), .int .u64 (b.sp : Int), .int .u32 (b.sl : Int), .int .u64 (b.ap : Int), .int .u32 (b.al : Int), .string (bs b.prim), .int .u64 (b.np : Int), .int .u32 (b.nl : Int)] 35 w2) := T1.out.on hb2
  clear hb2 p0 q0 p1 q1 p2 q2 p3 q3 p4 q4
  have p5 : w2.cell? ⟨ba, 5, none⟩ = some (.int .u32 (a.c : Int)) := block_cell T2.out.xa rfl
  have p6 : w2.cell? ⟨ba, 6, none⟩ = some (.int .u32 (a.n : Int)) := block_cell T2.out.xa rfl
  have p7 : w2.cell? ⟨ba, 7, none⟩ = some (.int .u64 (a.sp : Int)) := block_cell T2.out.xa rfl
  have p8 : w2.cell? ⟨ba, 8, none⟩ = some (.int .u32 (a.sl : Int)) := block_cell T2.out.xa rfl
  have p9 : w2.cell? ⟨ba, 9, none⟩ = some (.int .u64 (a.ap : Int)) := block_cell T2.out.xa rfl
  have p10 : w2.cell? ⟨ba, 10, none⟩ = some (.int .u32 (a.al : Int)) := block_cell T2.out.xa rfl
  have p11 : w2.cell? ⟨ba, 11, none⟩ = some (.string (bs a.prim)) := block_cell T2.out.xa rfl
  have p12 : w2.cell? ⟨ba, 12, none⟩ = some (.int .u64 (a.np : Int)) := block_cell T2.out.xa rfl
  have p13 : w2.cell? ⟨ba, 13, none⟩ = some (.int .u32 (a.nl : Int)) := block_cell T2.out.xa rfl
  have q5 : w2.cell? ⟨bb, 5, none⟩ = some (.int .u32 (b.c : Int)) := block_cell T2.out.xb rfl
  have q6 : w2.cell? ⟨bb, 6, none⟩ = some (.int .u32 (b.n : Int)) := block_cell T2.out.xb rfl
  have q7 : w2.cell? ⟨bb, 7, none⟩ = some (.int .u64 (b.sp : Int)) := block_cell T2.out.xb rfl
  have q8 : w2.cell? ⟨bb, 8, none⟩ = some (.int .u32 (b.sl : Int)) := block_cell T2.out.xb rfl
  have q9 : w2.cell? ⟨bb, 9, none⟩ = some (.int .u64 (b.ap : Int)) := block_cell T2.out.xb rfl
  have q10 : w2.cell? ⟨bb, 10, none⟩ = some (.int .u32 (b.al : Int)) := block_cell T2.out.xb rfl
  have q11 : w2.cell? ⟨bb, 11, none⟩ = some (.string (bs b.prim)) := block_cell T2.out.xb rfl
  have q12 : w2.cell? ⟨bb, 12, none⟩ = some (.int .u64 (b.np : Int)) := block_cell T2.out.xb rfl
  have q13 : w2.cell? ⟨bb, 13, none⟩ = some (.int .u32 (b.nl : Int)) := block_cell T2.out.xb rfl
  cases z4
  · go_wp2_with fail
    go_ret
    exact ⟨by rw [HY.out]; rfl, (by first | exact T2.out.bel | exact below_of hba T2.out.bel)⟩
  cases z5
  · go_wp2_with fail
    go_ret
    exact ⟨by rw [HY.out]; rfl, (by first | exact T2.out.bel | exact below_of hba T2.out.bel)⟩
  cases z6
  · go_wp2_with fail
    go_ret
    exact ⟨by rw [HY.out]; rfl, (by first | exact T2.out.bel | exact below_of hba T2.out.bel)⟩
  cases z7
  · go_wp2_with fail
    go_ret
    exact ⟨by rw [HY.out]; rfl, (by first | exact T2.out.bel | exact below_of hba T2.out.bel)⟩
  cases z8
  · go_wp2_with fail
    go_ret
    exact ⟨by rw [HY.out]; rfl, (by first | exact T2.out.bel | exact below_of hba T2.out.bel)⟩
  cases z9
  · go_wp2_with fail
    go_ret
    exact ⟨by rw [HY.out]; rfl, (by first | exact T2.out.bel | exact below_of hba T2.out.bel)⟩
  · go_wp2_with fail
    go_ret
    exact ⟨by rw [HY.out]; rfl, (by first | exact T2.out.bel | exact below_of hba T2.out.bel)⟩
end Go.Proofs.Ytmldgfepnmencaa
