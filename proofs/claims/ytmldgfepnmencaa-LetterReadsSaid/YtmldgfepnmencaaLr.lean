/-
  LetterReads, walked.
-/
import Derived.Test.YtmldgfepnmencaaLa
import Derived.Test.YtmldgfepnmencaaHd
import Derived.Deep.WholeRow
namespace Go.Proofs.Ytmldgfepnmencaa
open Go.RowKit Go.Sort

/-- What Read answers: the letter or none, the code. -/
def rdV (s : List UInt8) : Le × Int := match readL s with
  | some l => (l, 0)
  | none => (zL, 2)
theorem RdPost.un {s : List UInt8} {w w' : World} {r : Ending} (h : RdPost s w r w') : ∃ (wa sa pa : Option Addr) (wc sc pc : Nat), r = .returned (.tuple #[.agg #[.int .u32 ((rdV s).1.cl : Int), .int .u32 ((rdV s).1.sh : Int), .int .u32 ((rdV s).1.sq : Int), .bool (rdV s).1.an, .int .i64 (rdV s).1.q.k, .int .u32 ((rdV s).1.q.c : Int), .int .u32 ((rdV s).1.q.n : Int), .int .u64 ((rdV s).1.q.sp : Int), .int .u32 ((rdV s).1.q.sl : Int), .int .u64 ((rdV s).1.q.ap : Int), .int .u32 ((rdV s).1.q.al : Int), .string (bs (rdV s).1.q.key), .string (bs (rdV s).1.q.to), .int .i64 (rdV s).1.q.lim, .int .u8 ((rdV s).1.q.pt : Int), .slice wa (rdV s).1.q.ws.length wc, .slice sa (rdV s).1.q.sk.length sc, .int .i64 (rdV s).1.r.k, .int .i64 (rdV s).1.r.er, .bool (rdV s).1.r.fd, .string (bs (rdV s).1.r.val), .slice pa (rdV s).1.r.ps.length pc, .int .u32 ((rdV s).1.r.c : Int), .int .u32 ((rdV s).1.r.n : Int), .int .u64 ((rdV s).1.r.sp : Int), .int .u32 ((rdV s).1.r.sl : Int), .int .u64 ((rdV s).1.r.ap : Int), .int .u32 ((rdV s).1.r.al : Int), .string (bs (rdV s).1.r.prim), .int .u64 ((rdV s).1.r.np : Int), .int .u32 ((rdV s).1.r.nl : Int)], .int .i64 (rdV s).2]) ∧ LAt w'.heap.size (rdV s).1 (.slice wa (rdV s).1.q.ws.length wc) (.slice sa (rdV s).1.q.sk.length sc) (.slice pa (rdV s).1.r.ps.length pc) w' ∧ Below w.heap.size w w' := by
  unfold rdV
  cases hr : readL s with
  | none => exact ⟨none, none, none, 0, 0, 0, h.no hr, lat_nil _ _, h.bel⟩
  | some l =>
    obtain ⟨wa, sa, pa, wc, sc, pc, h1, h2⟩ := h.yes l hr
    exact ⟨wa, sa, pa, wc, sc, pc, h1, h2, h.bel⟩
theorem rdV_cases (s : List UInt8) : (rdV s).2 = 0 ∧ rightL (rdV s).1 = true ∧ formL (rdV s).1 = s ∧ RgL (rdV s).1 ∨ (rdV s).2 = 2 ∧ (rdV s).1 = zL := by
  unfold rdV
  cases hr : readL s with
  | none => exact .inr ⟨rfl, rfl⟩
  | some l =>
    obtain ⟨h1, h2, h3⟩ := read_some hr
    exact .inl ⟨rfl, h1, h2, h3⟩
/-- A letter's box, and its lists. -/
structure Lb (w : World) (b : Nat) (cs : Array Value) (l : Le) (vw vs vp : Value) (W : World) : Prop where
  x : W.heap[b]? = some (.cells cs 37 (0, 0))
  bel : Below w.heap.size w W
  la : LAt W.heap.size l vw vs vp W
theorem Lb.on {w W W' : World} {b : Nat} {cs : Array Value} {l : Le} {vw vs vp : Value} (h : Lb w b cs l vw vs vp W) (hb : Below W.heap.size W W') : Lb w b cs l vw vs vp W' :=
  ⟨by rw [hb.block b (Array.getElem?_eq_some_iff.1 h.x).1]; exact h.x, h.bel.trans (hb.mono h.bel.size), h.la.up hb⟩
set_option maxHeartbeats 3200000 in
set_option maxRecDepth 100000 in
theorem reads4 (s : List UInt8) (w : World) : Calls Try.prog 4 #[.string (bs s)] w fun e w' => e = .returned (.bool true) ∧ Below w.heap.size w w' := by
  have CA : Hid (1 = 1 → Calls Try.prog 6 #[] w fun e w' => e = .returned (.bool true) ∧ Below w.heap.size w w') := fun _ => awake6 w
  have hsz := bs_size s
  go_enter Try.func4, Try.ntmps4
  go_wp2_with fail
  refine (CA.out (by trivial)).mono ?_
  rintro r w1 ⟨rfl, hb1⟩
  have H1 : Hid (Below w.heap.size w w1) := hb1
  clear hb1 CA
  by_cases hl : 20000 < s.length
  · have q1 : (20000 : Int) < s.length := by omega
    go_wp2_with fail
    go_ret
    exact ⟨rfl, H1.out⟩
  have q1 : ¬ (20000 : Int) < s.length := by omega
  have CP : Hid (∀ W, 1 = 1 → _) := fun W _ => (read10 s W (by omega)).mono fun _ _ h => h.un
  have CD : Hid (∀ W, 1 = 1 → _) := fun W _ => (read12 s W (by omega)).mono fun _ _ h => h.un
  have HC : Hid _ := rdV_cases s
  generalize (rdV s).1 = l at *
  generalize (rdV s).2 = c at *
  clear hl
  go_wp2_with fail
  refine (CP.out _ (by trivial)).mono ?_
  rintro r w2 ⟨wa, sa, pa, wc, sc, pc, rfl, hl2, hb2⟩
  have X2 : Hid (Lb w w2.heap.size #[.int .u32 (l.cl : Int), .int .u32 (l.sh : Int), .int .u32 (l.sq : Int), .bool l.an, .int .i64 l.q.k, .int .u32 (l.q.c : Int), .int .u32 (l.q.n : Int), .int .u64 (l.q.sp : Int), .int .u32 (l.q.sl : Int), .int .u64 (l.q.ap : Int), .int .u32 (l.q.al : Int), .string (bs l.q.key), .string (bs l.q.to), .int .i64 l.q.lim, .int .u8 (l.q.pt : Int), .slice wa l.q.ws.length wc, .slice sa l.q.sk.length sc, .int .i64 l.r.k, .int .i64 l.r.er, .bool l.r.fd, .string (bs l.r.val), .slice pa l.r.ps.length pc, .int .u32 (l.r.c : Int), .int .u32 (l.r.n : Int), .int .u64 (l.r.sp : Int), .int .u32 (l.r.sl : Int), .int .u64 (l.r.ap : Int), .int .u32 (l.r.al : Int), .string (bs l.r.prim), .int .u64 (l.r.np : Int), .int .u32 (l.r.nl : Int)] l (.slice wa l.q.ws.length wc) (.slice sa l.q.sk.length sc) (.slice pa l.r.ps.length pc) (w2.alloc (.cells #[.int .u32 (l.cl : Int), .int .u32 (l.sh : Int), .int .u32 (l.sq : Int), .bool l.an, .int .i64 l.q.k, .int .u32 (l.q.c : Int), .int .u32 (l.q.n : Int), .int .u64 (l.q.sp : Int), .int .u32 (l.q.sl : Int), .int .u64 (l.q.ap : Int), .int .u32 (l.q.al : Int), .string (bs l.q.key), .string (bs l.q.to), .int .i64 l.q.lim, .int .u8 (l.q.pt : Int), .slice wa l.q.ws.length wc, .slice sa l.q.sk.length sc, .int .i64 l.r.k, .int .i64 l.r.er, .bool l.r.fd, .string (bs l.r.val), .slice pa l.r.ps.length pc, .int .u32 (l.r.c : Int), .int .u32 (l.r.n : Int), .int .u64 (l.r.sp : Int), .int .u32 (l.r.sl : Int), .int .u64 (l.r.ap : Int), .int .u32 (l.r.al : Int), .string (bs l.r.prim), .int .u64 (l.r.np : Int), .int .u32 (l.r.nl : Int)] 37))) := ⟨heap_alloc_new w2 _, (H1.out.trans (hb2.mono H1.out.size)).alloc (by have := H1.out.size; have := hb2.size; omega) _, hl2.up (al _)⟩
  clear hl2 hb2 CP H1 q1 hsz
  obtain ⟨W3, hW3⟩ : ∃ W, w2.alloc (.cells #[.int .u32 (l.cl : Int), .int .u32 (l.sh : Int), .int .u32 (l.sq : Int), .bool l.an, .int .i64 l.q.k, .int .u32 (l.q.c : Int), .int .u32 (l.q.n : Int), .int .u64 (l.q.sp : Int), .int .u32 (l.q.sl : Int), .int .u64 (l.q.ap : Int), .int .u32 (l.q.al : Int), .string (bs l.q.key), .string (bs l.q.to), .int .i64 l.q.lim, .int .u8 (l.q.pt : Int), .slice wa l.q.ws.length wc, .slice sa l.q.sk.length sc, .int .i64 l.r.k, .int .i64 l.r.er, .bool l.r.fd, .string (bs l.r.val), .slice pa l.r.ps.length pc, .int .u32 (l.r.c : Int), .int .u32 (l.r.n : Int), .int .u64 (l.r.sp : Int), .int .u32 (l.r.sl : Int), .int .u64 (l.r.ap : Int), .int .u32 (l.r.al : Int), .string (bs l.r.prim), .int .u64 (l.r.np : Int), .int .u32 (l.r.nl : Int)] 37) = W := ⟨_, rfl⟩
  rw [hW3] at X2
  go_upto_region 6 with (refine wpList_store_row rfl 37 _ _ rfl w2.heap.size #[.int .u32 (l.cl : Int), .int .u32 (l.sh : Int), .int .u32 (l.sq : Int), .bool l.an, .int .i64 l.q.k, .int .u32 (l.q.c : Int), .int .u32 (l.q.n : Int), .int .u64 (l.q.sp : Int), .int .u32 (l.q.sl : Int), .int .u64 (l.q.ap : Int), .int .u32 (l.q.al : Int), .string (bs l.q.key), .string (bs l.q.to), .int .i64 l.q.lim, .int .u8 (l.q.pt : Int), .slice wa l.q.ws.length wc, .slice sa l.q.sk.length sc, .int .i64 l.r.k, .int .i64 l.r.er, .bool l.r.fd, .string (bs l.r.val), .slice pa l.r.ps.length pc, .int .u32 (l.r.c : Int), .int .u32 (l.r.n : Int), .int .u64 (l.r.sp : Int), .int .u32 (l.r.sl : Int), .int .u64 (l.r.ap : Int), .int .u32 (l.r.al : Int), .string (bs l.r.prim), .int .u64 (l.r.np : Int), .int .u32 (l.r.nl : Int)] rfl rfl 37 _ (heap_alloc_new w2 _) (by kernel_rfl) rfl (by simp [Value.oneCell']) ?_; rewrite [World.setRow_alloc_new, hW3])
  obtain ⟨b3, hb3⟩ : ∃ b, w2.heap.size = b := ⟨_, rfl⟩
  rw [hb3] at X2 ⊢
  clear hW3 hb3
  go_wp2_with fail
  refine (CD.out _ (by trivial)).mono ?_
  rintro r w4 ⟨wa2, sa2, pa2, wc2, sc2, pc2, rfl, hl4, hb4⟩
  have X4 : Hid (Lb w b3 #[.int .u32 (l.cl : Int), .int .u32 (l.sh : Int), .int .u32 (l.sq : Int), .bool l.an, .int .i64 l.q.k, .int .u32 (l.q.c : Int), .int .u32 (l.q.n : Int), .int .u64 (l.q.sp : Int), .int .u32 (l.q.sl : Int), .int .u64 (l.q.ap : Int), .int .u32 (l.q.al : Int), .string (bs l.q.key), .string (bs l.q.to), .int .i64 l.q.lim, .int .u8 (l.q.pt : Int), .slice wa l.q.ws.length wc, .slice sa l.q.sk.length sc, .int .i64 l.r.k, .int .i64 l.r.er, .bool l.r.fd, .string (bs l.r.val), .slice pa l.r.ps.length pc, .int .u32 (l.r.c : Int), .int .u32 (l.r.n : Int), .int .u64 (l.r.sp : Int), .int .u32 (l.r.sl : Int), .int .u64 (l.r.ap : Int), .int .u32 (l.r.al : Int), .string (bs l.r.prim), .int .u64 (l.r.np : Int), .int .u32 (l.r.nl : Int)] l (.slice wa l.q.ws.length wc) (.slice sa l.q.sk.length sc) (.slice pa l.r.ps.length pc) (w4.alloc (.cells #[.int .u32 (l.cl : Int), .int .u32 (l.sh : Int), .int .u32 (l.sq : Int), .bool l.an, .int .i64 l.q.k, .int .u32 (l.q.c : Int), .int .u32 (l.q.n : Int), .int .u64 (l.q.sp : Int), .int .u32 (l.q.sl : Int), .int .u64 (l.q.ap : Int), .int .u32 (l.q.al : Int), .string (bs l.q.key), .string (bs l.q.to), .int .i64 l.q.lim, .int .u8 (l.q.pt : Int), .slice wa2 l.q.ws.length wc2, .slice sa2 l.q.sk.length sc2, .int .i64 l.r.k, .int .i64 l.r.er, .bool l.r.fd, .string (bs l.r.val), .slice pa2 l.r.ps.length pc2, .int .u32 (l.r.c : Int), .int .u32 (l.r.n : Int), .int .u64 (l.r.sp : Int), .int .u32 (l.r.sl : Int), .int .u64 (l.r.ap : Int), .int .u32 (l.r.al : Int), .string (bs l.r.prim), .int .u64 (l.r.np : Int), .int .u32 (l.r.nl : Int)] 37))) := (X2.out.on hb4).on (al _)
  have Z4 : Hid (Lb w w4.heap.size #[.int .u32 (l.cl : Int), .int .u32 (l.sh : Int), .int .u32 (l.sq : Int), .bool l.an, .int .i64 l.q.k, .int .u32 (l.q.c : Int), .int .u32 (l.q.n : Int), .int .u64 (l.q.sp : Int), .int .u32 (l.q.sl : Int), .int .u64 (l.q.ap : Int), .int .u32 (l.q.al : Int), .string (bs l.q.key), .string (bs l.q.to), .int .i64 l.q.lim, .int .u8 (l.q.pt : Int), .slice wa2 l.q.ws.length wc2, .slice sa2 l.q.sk.length sc2, .int .i64 l.r.k, .int .i64 l.r.er, .bool l.r.fd, .string (bs l.r.val), .slice pa2 l.r.ps.length pc2, .int .u32 (l.r.c : Int), .int .u32 (l.r.n : Int), .int .u64 (l.r.sp : Int), .int .u32 (l.r.sl : Int), .int .u64 (l.r.ap : Int), .int .u32 (l.r.al : Int), .string (bs l.r.prim), .int .u64 (l.r.np : Int), .int .u32 (l.r.nl : Int)] l (.slice wa2 l.q.ws.length wc2) (.slice sa2 l.q.sk.length sc2) (.slice pa2 l.r.ps.length pc2) (w4.alloc (.cells #[.int .u32 (l.cl : Int), .int .u32 (l.sh : Int), .int .u32 (l.sq : Int), .bool l.an, .int .i64 l.q.k, .int .u32 (l.q.c : Int), .int .u32 (l.q.n : Int), .int .u64 (l.q.sp : Int), .int .u32 (l.q.sl : Int), .int .u64 (l.q.ap : Int), .int .u32 (l.q.al : Int), .string (bs l.q.key), .string (bs l.q.to), .int .i64 l.q.lim, .int .u8 (l.q.pt : Int), .slice wa2 l.q.ws.length wc2, .slice sa2 l.q.sk.length sc2, .int .i64 l.r.k, .int .i64 l.r.er, .bool l.r.fd, .string (bs l.r.val), .slice pa2 l.r.ps.length pc2, .int .u32 (l.r.c : Int), .int .u32 (l.r.n : Int), .int .u64 (l.r.sp : Int), .int .u32 (l.r.sl : Int), .int .u64 (l.r.ap : Int), .int .u32 (l.r.al : Int), .string (bs l.r.prim), .int .u64 (l.r.np : Int), .int .u32 (l.r.nl : Int)] 37))) := ⟨heap_alloc_new w4 _, X4.out.bel, hl4.up (al _)⟩
  clear hl4 hb4 CD X2
  obtain ⟨W5, hW5⟩ : ∃ W, w4.alloc (.cells #[.int .u32 (l.cl : Int), .int .u32 (l.sh : Int), .int .u32 (l.sq : Int), .bool l.an, .int .i64 l.q.k, .int .u32 (l.q.c : Int), .int .u32 (l.q.n : Int), .int .u64 (l.q.sp : Int), .int .u32 (l.q.sl : Int), .int .u64 (l.q.ap : Int), .int .u32 (l.q.al : Int), .string (bs l.q.key), .string (bs l.q.to), .int .i64 l.q.lim, .int .u8 (l.q.pt : Int), .slice wa2 l.q.ws.length wc2, .slice sa2 l.q.sk.length sc2, .int .i64 l.r.k, .int .i64 l.r.er, .bool l.r.fd, .string (bs l.r.val), .slice pa2 l.r.ps.length pc2, .int .u32 (l.r.c : Int), .int .u32 (l.r.n : Int), .int .u64 (l.r.sp : Int), .int .u32 (l.r.sl : Int), .int .u64 (l.r.ap : Int), .int .u32 (l.r.al : Int), .string (bs l.r.prim), .int .u64 (l.r.np : Int), .int .u32 (l.r.nl : Int)] 37) = W := ⟨_, rfl⟩
  rw [hW5] at X4 Z4
  go_upto_region 7 with (refine wpList_store_row rfl 37 _ _ rfl w4.heap.size #[.int .u32 (l.cl : Int), .int .u32 (l.sh : Int), .int .u32 (l.sq : Int), .bool l.an, .int .i64 l.q.k, .int .u32 (l.q.c : Int), .int .u32 (l.q.n : Int), .int .u64 (l.q.sp : Int), .int .u32 (l.q.sl : Int), .int .u64 (l.q.ap : Int), .int .u32 (l.q.al : Int), .string (bs l.q.key), .string (bs l.q.to), .int .i64 l.q.lim, .int .u8 (l.q.pt : Int), .slice wa2 l.q.ws.length wc2, .slice sa2 l.q.sk.length sc2, .int .i64 l.r.k, .int .i64 l.r.er, .bool l.r.fd, .string (bs l.r.val), .slice pa2 l.r.ps.length pc2, .int .u32 (l.r.c : Int), .int .u32 (l.r.n : Int), .int .u64 (l.r.sp : Int), .int .u32 (l.r.sl : Int), .int .u64 (l.r.ap : Int), .int .u32 (l.r.al : Int), .string (bs l.r.prim), .int .u64 (l.r.np : Int), .int .u32 (l.r.nl : Int)] rfl rfl 37 _ (heap_alloc_new w4 _) (by kernel_rfl) rfl (by simp [Value.oneCell']) ?_; rewrite [World.setRow_alloc_new, hW5])
  obtain ⟨b5, hb5⟩ : ∃ b, w4.heap.size = b := ⟨_, rfl⟩
  rw [hb5] at Z4 ⊢
  clear hW5 hb5
  have CS : Hid (1 = 1 → Calls Try.prog 11 #[.agg #[.int .u32 (l.cl : Int), .int .u32 (l.sh : Int), .int .u32 (l.sq : Int), .bool l.an, .int .i64 l.q.k, .int .u32 (l.q.c : Int), .int .u32 (l.q.n : Int), .int .u64 (l.q.sp : Int), .int .u32 (l.q.sl : Int), .int .u64 (l.q.ap : Int), .int .u32 (l.q.al : Int), .string (bs l.q.key), .string (bs l.q.to), .int .i64 l.q.lim, .int .u8 (l.q.pt : Int), .slice wa l.q.ws.length wc, .slice sa l.q.sk.length sc, .int .i64 l.r.k, .int .i64 l.r.er, .bool l.r.fd, .string (bs l.r.val), .slice pa l.r.ps.length pc, .int .u32 (l.r.c : Int), .int .u32 (l.r.n : Int), .int .u64 (l.r.sp : Int), .int .u32 (l.r.sl : Int), .int .u64 (l.r.ap : Int), .int .u32 (l.r.al : Int), .string (bs l.r.prim), .int .u64 (l.r.np : Int), .int .u32 (l.r.nl : Int)], .agg #[.int .u32 (l.cl : Int), .int .u32 (l.sh : Int), .int .u32 (l.sq : Int), .bool l.an, .int .i64 l.q.k, .int .u32 (l.q.c : Int), .int .u32 (l.q.n : Int), .int .u64 (l.q.sp : Int), .int .u32 (l.q.sl : Int), .int .u64 (l.q.ap : Int), .int .u32 (l.q.al : Int), .string (bs l.q.key), .string (bs l.q.to), .int .i64 l.q.lim, .int .u8 (l.q.pt : Int), .slice wa2 l.q.ws.length wc2, .slice sa2 l.q.sk.length sc2, .int .i64 l.r.k, .int .i64 l.r.er, .bool l.r.fd, .string (bs l.r.val), .slice pa2 l.r.ps.length pc2, .int .u32 (l.r.c : Int), .int .u32 (l.r.n : Int), .int .u64 (l.r.sp : Int), .int .u32 (l.r.sl : Int), .int .u64 (l.r.ap : Int), .int .u32 (l.r.al : Int), .string (bs l.r.prim), .int .u64 (l.r.np : Int), .int .u32 (l.r.nl : Int)]] W5 fun r w' => r = .returned (.bool true) ∧ Below W5.heap.size W5 w') := fun _ => by
    have := same11 l l wa sa pa wa2 sa2 pa2 wc sc pc wc2 sc2 pc2 W5 X4.out.la Z4.out.la
    rw [sameL_self] at this
    exact this
  have hcc : (c != c) = false := by simp
  go_wp2_with (first
    | (refine wpList_load_row_g rfl 37 _ rfl b3 rfl 37 _ (0, 0) _ X4.out.x Try.underlying37 rfl (by kernel_rfl) ?_)
    | (refine wpList_load_row_g rfl 37 _ rfl b5 rfl 37 _ (0, 0) _ Z4.out.x Try.underlying37 rfl (by kernel_rfl) ?_))
  refine (CS.out (by trivial)).mono ?_
  rintro r w6 ⟨rfl, hb6⟩
  have X6 : Hid (Lb w b3 #[.int .u32 (l.cl : Int), .int .u32 (l.sh : Int), .int .u32 (l.sq : Int), .bool l.an, .int .i64 l.q.k, .int .u32 (l.q.c : Int), .int .u32 (l.q.n : Int), .int .u64 (l.q.sp : Int), .int .u32 (l.q.sl : Int), .int .u64 (l.q.ap : Int), .int .u32 (l.q.al : Int), .string (bs l.q.key), .string (bs l.q.to), .int .i64 l.q.lim, .int .u8 (l.q.pt : Int), .slice wa l.q.ws.length wc, .slice sa l.q.sk.length sc, .int .i64 l.r.k, .int .i64 l.r.er, .bool l.r.fd, .string (bs l.r.val), .slice pa l.r.ps.length pc, .int .u32 (l.r.c : Int), .int .u32 (l.r.n : Int), .int .u64 (l.r.sp : Int), .int .u32 (l.r.sl : Int), .int .u64 (l.r.ap : Int), .int .u32 (l.r.al : Int), .string (bs l.r.prim), .int .u64 (l.r.np : Int), .int .u32 (l.r.nl : Int)] l (.slice wa l.q.ws.length wc) (.slice sa l.q.sk.length sc) (.slice pa l.r.ps.length pc) w6) := X4.out.on hb6
  clear hb6 CS X4 Z4 hcc
  rcases HC.out with ⟨rfl, hr, hf, hg⟩ | ⟨rfl, hk⟩
  · have CW : Hid (1 = 1 → Calls Try.prog 7 #[.agg #[.int .u32 (l.cl : Int), .int .u32 (l.sh : Int), .int .u32 (l.sq : Int), .bool l.an, .int .i64 l.q.k, .int .u32 (l.q.c : Int), .int .u32 (l.q.n : Int), .int .u64 (l.q.sp : Int), .int .u32 (l.q.sl : Int), .int .u64 (l.q.ap : Int), .int .u32 (l.q.al : Int), .string (bs l.q.key), .string (bs l.q.to), .int .i64 l.q.lim, .int .u8 (l.q.pt : Int), .slice wa l.q.ws.length wc, .slice sa l.q.sk.length sc, .int .i64 l.r.k, .int .i64 l.r.er, .bool l.r.fd, .string (bs l.r.val), .slice pa l.r.ps.length pc, .int .u32 (l.r.c : Int), .int .u32 (l.r.n : Int), .int .u64 (l.r.sp : Int), .int .u32 (l.r.sl : Int), .int .u64 (l.r.ap : Int), .int .u32 (l.r.al : Int), .string (bs l.r.prim), .int .u64 (l.r.np : Int), .int .u32 (l.r.nl : Int)]] w6 fun r w' => r = .returned (.tuple #[.string (bs s), .int .i64 0]) ∧ Below w6.heap.size w6 w') := fun _ => by
      have := write7 l wa sa pa wc sc pc w6 hg X6.out.la
      rw [show writeL l = (s, 0) from by unfold writeL; rw [if_pos hr, hf]] at this
      exact this
    clear hr hf hg HC
    go_wp2_with (refine wpList_load_row rfl 37 _ rfl b3 rfl 37 _ (0, 0) _ X6.out.x Try.underlying37 rfl (by kernel_rfl) ?_)
    refine (CW.out (by trivial)).mono ?_
    rintro r w7 ⟨rfl, hb7⟩
    have H7 : Hid (Below w.heap.size w w7) := X6.out.bel.trans (hb7.mono X6.out.bel.size)
    clear hb7 CW X6
    go_wp2_with fail
    go_ret
    exact ⟨rfl, H7.out⟩
  · have CZ : Hid (1 = 1 → Calls Try.prog 11 #[.agg #[.int .u32 (l.cl : Int), .int .u32 (l.sh : Int), .int .u32 (l.sq : Int), .bool l.an, .int .i64 l.q.k, .int .u32 (l.q.c : Int), .int .u32 (l.q.n : Int), .int .u64 (l.q.sp : Int), .int .u32 (l.q.sl : Int), .int .u64 (l.q.ap : Int), .int .u32 (l.q.al : Int), .string (bs l.q.key), .string (bs l.q.to), .int .i64 l.q.lim, .int .u8 (l.q.pt : Int), .slice wa l.q.ws.length wc, .slice sa l.q.sk.length sc, .int .i64 l.r.k, .int .i64 l.r.er, .bool l.r.fd, .string (bs l.r.val), .slice pa l.r.ps.length pc, .int .u32 (l.r.c : Int), .int .u32 (l.r.n : Int), .int .u64 (l.r.sp : Int), .int .u32 (l.r.sl : Int), .int .u64 (l.r.ap : Int), .int .u32 (l.r.al : Int), .string (bs l.r.prim), .int .u64 (l.r.np : Int), .int .u32 (l.r.nl : Int)], .agg #[.int .u32 0, .int .u32 0, .int .u32 0, .bool false, .int .i64 0, .int .u32 0, .int .u32 0, .int .u64 0, .int .u32 0, .int .u64 0, .int .u32 0, .string ⟨#[]⟩, .string ⟨#[]⟩, .int .i64 0, .int .u8 0, .slice none 0 0, .slice none 0 0, .int .i64 0, .int .i64 0, .bool false, .string ⟨#[]⟩, .slice none 0 0, .int .u32 0, .int .u32 0, .int .u64 0, .int .u32 0, .int .u64 0, .int .u32 0, .string ⟨#[]⟩, .int .u64 0, .int .u32 0]] w6 fun r w' => r = .returned (.bool true) ∧ Below w6.heap.size w6 w') := fun _ => by
      have := same11 l zL wa sa pa none none none wc sc pc 0 0 0 w6 X6.out.la (lat_nil _ _)
      rw [sameL_iff.2 hk] at this
      exact this
    clear hk HC
    go_wp2_with (refine wpList_load_row rfl 37 _ rfl b3 rfl 37 _ (0, 0) _ X6.out.x Try.underlying37 rfl (by kernel_rfl) ?_)
    refine (CZ.out (by trivial)).mono ?_
    rintro r w7 ⟨rfl, hb7⟩
    have H7 : Hid (Below w.heap.size w w7) := X6.out.bel.trans (hb7.mono X6.out.bel.size)
    clear hb7 CZ X6
    go_wp2_with fail
    go_ret
    exact ⟨rfl, H7.out⟩
end Go.Proofs.Ytmldgfepnmencaa
