/-
  EntryReads, walked.
-/
import Derived.Test.YtmgjlpgjjeknpaaLs
import Derived.Test.YtmgjlpgjjeknpaaRv
namespace Go.Proofs.Ytmgjlpgjjeknpaa
open Go.RowKit Go.Sort

set_option maxHeartbeats 1600000 in
set_option maxRecDepth 100000 in
theorem reads4 (I : Ife) (s : List UInt8) (w : World) : Calls Try.prog 4 #[.string (bs s)] w fun e w' => e = .returned (.bool true) ∧ Below w.heap.size w w' := by
  have CA : Hid (1 = 1 → Calls Try.prog 7 #[] w fun e w' => e = .returned (.bool true) ∧ Below w.heap.size w w') := fun _ => awake7 I w
  have hsz := bs_size s
  go_enter Try.func4, Try.ntmps4
  go_wp2_with fail
  refine (CA.out (by simp)).mono ?_
  rintro r w1 ⟨rfl, hb1⟩
  have H1 : Hid (Below w.heap.size w w1) := hb1
  clear hb1 CA
  by_cases hl : 20000 < s.length
  · have q1 : (20000 : Int) < s.length := by omega
    go_wp2_with fail
    go_ret
    exact ⟨rfl, H1.out⟩
  have q1 : ¬ (20000 : Int) < s.length := by omega
  have CP : Hid (1 = 1 → Calls Try.prog 11 #[.string (bs s)] w1 fun r w' => Below w1.heap.size w1 w' ∧ ∃ ao cp, r = .returned (.tuple #[.agg #[.int .i64 (rdV s).1.k, .int .u32 ((rdV s).1.c : Int), .int .u32 ((rdV s).1.n : Int), .int .u64 ((rdV s).1.sp : Int), .int .u32 ((rdV s).1.sl : Int), .int .u64 ((rdV s).1.ap : Int), .int .u32 ((rdV s).1.al : Int), .int .u64 ((rdV s).1.mp : Int), .int .u32 ((rdV s).1.ml : Int), .string (bs (rdV s).1.prim), .int .u8 ((rdV s).1.pt : Int), .bool (rdV s).1.dn, .slice ao (rdV s).1.ws.length cp], .int .i64 (rdV s).2]) ∧ WsAt w'.heap.size (.slice ao (rdV s).1.ws.length cp) (rdV s).1.ws w') := fun _ => (I.rd s w1 (by omega)).mono fun _ _ h => h.un
  have CD : Hid (∀ W : World, 1 = 1 → Calls Try.prog 13 #[.string (bs s)] W fun r w' => Below W.heap.size W w' ∧ ∃ ao cp, r = .returned (.tuple #[.agg #[.int .i64 (rdV s).1.k, .int .u32 ((rdV s).1.c : Int), .int .u32 ((rdV s).1.n : Int), .int .u64 ((rdV s).1.sp : Int), .int .u32 ((rdV s).1.sl : Int), .int .u64 ((rdV s).1.ap : Int), .int .u32 ((rdV s).1.al : Int), .int .u64 ((rdV s).1.mp : Int), .int .u32 ((rdV s).1.ml : Int), .string (bs (rdV s).1.prim), .int .u8 ((rdV s).1.pt : Int), .bool (rdV s).1.dn, .slice ao (rdV s).1.ws.length cp], .int .i64 (rdV s).2]) ∧ WsAt w'.heap.size (.slice ao (rdV s).1.ws.length cp) (rdV s).1.ws w') := fun W _ => (read13 s W (by omega)).mono fun _ _ h => h.un
  have HC : Hid _ := rdV_cases s
  generalize (rdV s).1 = e at *
  generalize (rdV s).2 = c at *
  clear hl
  go_wp2_with fail
  refine (CP.out (by simp)).mono ?_
  rintro r w2 ⟨hb2, ao, cp, rfl, hws⟩
  have H2 : Hid (Below w.heap.size w w2) := H1.out.trans (hb2.mono H1.out.size)
  have E0 : Hid _ := eb_new hws
  clear hb2 CP H1 hws q1 hsz
  go_upto_region 6 with fail
  obtain ⟨Y2, hY2⟩ : ∃ Y2, w2.alloc (.cells #[.int .i64 e.k, .int .u32 (e.c : Int), .int .u32 (e.n : Int), .int .u64 (e.sp : Int), .int .u32 (e.sl : Int), .int .u64 (e.ap : Int), .int .u32 (e.al : Int), .int .u64 (e.mp : Int), .int .u32 (e.ml : Int), .string (bs e.prim), .int .u8 (e.pt : Int), .bool e.dn, .slice ao e.ws.length cp] 30) = Y2 := ⟨_, rfl⟩
  obtain ⟨b3, hb3⟩ : ∃ b3, w2.heap.size = b3 := ⟨_, rfl⟩
  have E2 : Hid (Eb w2 b3 e ao cp Y2) := by rw [← hY2, ← hb3]; exact E0.out
  rw [hY2, hb3]
  clear E0 hY2 hb3
  go_wp2_with fail
  refine (CD.out _ (by trivial)).mono ?_
  rintro r w3 ⟨hb3, ap, cq, rfl, hws⟩
  have E3 : Hid (Eb w2 b3 e ao cp w3) := E2.out.on hb3
  have E0 : Hid _ := eb_new hws
  clear hb3 CD E2 hws
  go_upto_region 7 with fail
  obtain ⟨Y3, hY3⟩ : ∃ Y3, w3.alloc (.cells #[.int .i64 e.k, .int .u32 (e.c : Int), .int .u32 (e.n : Int), .int .u64 (e.sp : Int), .int .u32 (e.sl : Int), .int .u64 (e.ap : Int), .int .u32 (e.al : Int), .int .u64 (e.mp : Int), .int .u32 (e.ml : Int), .string (bs e.prim), .int .u8 (e.pt : Int), .bool e.dn, .slice ap e.ws.length cq] 30) = Y3 := ⟨_, rfl⟩
  obtain ⟨b5, hb5⟩ : ∃ b5, w3.heap.size = b5 := ⟨_, rfl⟩
  have E4 : Hid (Eb w3 b5 e ap cq Y3) := by rw [← hY3, ← hb5]; exact E0.out
  have E5 : Hid (Eb w2 b3 e ao cp Y3) := by rw [← hY3]; exact E3.out.on (al _)
  rw [hY3, hb5]
  clear E0 hY3 hb5 E3
  have CS : Hid (1 = 1 → Calls Try.prog 12 #[.agg #[.int .i64 e.k, .int .u32 (e.c : Int), .int .u32 (e.n : Int), .int .u64 (e.sp : Int), .int .u32 (e.sl : Int), .int .u64 (e.ap : Int), .int .u32 (e.al : Int), .int .u64 (e.mp : Int), .int .u32 (e.ml : Int), .string (bs e.prim), .int .u8 (e.pt : Int), .bool e.dn, .slice ao e.ws.length cp], .agg #[.int .i64 e.k, .int .u32 (e.c : Int), .int .u32 (e.n : Int), .int .u64 (e.sp : Int), .int .u32 (e.sl : Int), .int .u64 (e.ap : Int), .int .u32 (e.al : Int), .int .u64 (e.mp : Int), .int .u32 (e.ml : Int), .string (bs e.prim), .int .u8 (e.pt : Int), .bool e.dn, .slice ap e.ws.length cq]] Y3 fun r w' => r = .returned (.bool true) ∧ Below Y3.heap.size Y3 w') := fun _ => by
    have := same12 e e ao ap cp cq Y3 E5.out.wsx E4.out.wsx
    rw [sameE_self] at this
    exact this
  obtain ⟨p0, p1, p2, p3, p4, p5, p6, p7, p8, p9, p10, p11, p12, _⟩ := E5.out.thirteen
  obtain ⟨s0, s1, s2, s3, s4, s5, s6, s7, s8, s9, s10, s11, s12, _⟩ := E4.out.thirteen
  go_wp2_with fail
  refine (CS.out (by simp)).mono ?_
  rintro r w4 ⟨rfl, hb4⟩
  have E6 : Hid (Eb w2 b3 e ao cp w4) := E5.out.on hb4
  have HB : Hid (Below w.heap.size w w4) := H2.out.trans (E6.out.bel.mono H2.out.size)
  clear p0 p1 p2 p3 p4 p5 p6 p7 p8 p9 p10 p11 p12 s0 s1 s2 s3 s4 s5 s6 s7 s8 s9 s10 s11 s12 E5 E4 hb4 CS
  rcases HC.out with ⟨rfl, hr, hf, hg⟩ | ⟨rfl, hk⟩
  · obtain ⟨hok, hl16⟩ := ok_right hr hg
    have CW : Hid (1 = 1 → Calls Try.prog 8 #[.agg #[.int .i64 e.k, .int .u32 (e.c : Int), .int .u32 (e.n : Int), .int .u64 (e.sp : Int), .int .u32 (e.sl : Int), .int .u64 (e.ap : Int), .int .u32 (e.al : Int), .int .u64 (e.mp : Int), .int .u32 (e.ml : Int), .string (bs e.prim), .int .u8 (e.pt : Int), .bool e.dn, .slice ao e.ws.length cp]] w4 fun r w' => r = .returned (.tuple #[.string (bs s), .int .i64 0]) ∧ Below w4.heap.size w4 w') := fun _ => by
      have := I.wr e ao cp w4 hok (by omega) E6.out.wsx
      rw [show writeE e = (s, 0) from by unfold writeE; rw [if_pos hr, hf]] at this
      exact this
    clear hok hl16 hr hf hg HC
    obtain ⟨p0, p1, p2, p3, p4, p5, p6, p7, p8, p9, p10, p11, p12, _⟩ := E6.out.thirteen
    go_wp2_with fail
    refine (CW.out (by simp)).mono ?_
    rintro r w5 ⟨rfl, hb5⟩
    have H5 : Hid (Below w.heap.size w w5) := HB.out.trans (hb5.mono HB.out.size)
    clear p0 p1 p2 p3 p4 p5 p6 p7 p8 p9 p10 p11 p12 hb5 CW
    go_wp2_with fail
    go_ret
    exact ⟨rfl, H5.out⟩
  · have p0 : w4.cell? ⟨b3, 0, none⟩ = some (.int .i64 0) := by rw [← hk]; exact block_cell E6.out.x rfl
    clear hk HC
    go_wp2_with fail
    go_ret
    exact ⟨rfl, HB.out⟩
end Go.Proofs.Ytmgjlpgjjeknpaa
