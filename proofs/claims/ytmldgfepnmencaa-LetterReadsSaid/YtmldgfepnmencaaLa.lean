/-
  The document's Write, whole; awake.
-/
import Derived.Test.YtmldgfepnmencaaDy
import Derived.Test.YtmldgfepnmencaaFy
import Derived.Test.YtmldgfepnmencaaGc
import Derived.Test.YtmldgfepnmencaaDd
import Derived.Deep.WholeRow
namespace Go.Proofs.Ytmldgfepnmencaa
open Go.RowKit Go.Sort

set_option maxHeartbeats 1600000 in
set_option maxRecDepth 100000 in
theorem write8n (l : Le) (wa sa pa : Option Addr) (wc sc pc : Nat) (w : World) (hr : rightL l = false) (hl : LAt w.heap.size l (.slice wa l.q.ws.length wc) (.slice sa l.q.sk.length sc) (.slice pa l.r.ps.length pc) w) :
    Calls Try.prog 8 #[.agg #[.int .u32 (l.cl : Int), .int .u32 (l.sh : Int), .int .u32 (l.sq : Int), .bool l.an, .int .i64 l.q.k, .int .u32 (l.q.c : Int), .int .u32 (l.q.n : Int), .int .u64 (l.q.sp : Int), .int .u32 (l.q.sl : Int), .int .u64 (l.q.ap : Int), .int .u32 (l.q.al : Int), .string (bs l.q.key), .string (bs l.q.to), .int .i64 l.q.lim, .int .u8 (l.q.pt : Int), .slice wa l.q.ws.length wc, .slice sa l.q.sk.length sc, .int .i64 l.r.k, .int .i64 l.r.er, .bool l.r.fd, .string (bs l.r.val), .slice pa l.r.ps.length pc, .int .u32 (l.r.c : Int), .int .u32 (l.r.n : Int), .int .u64 (l.r.sp : Int), .int .u32 (l.r.sl : Int), .int .u64 (l.r.ap : Int), .int .u32 (l.r.al : Int), .string (bs l.r.prim), .int .u64 (l.r.np : Int), .int .u32 (l.r.nl : Int)]] w fun e w' => e = .returned (.tuple #[.string (bs []), .int .i64 1]) ∧ Below w.heap.size w w' := by
  have H0 : Hid _ := bx_new w #[.int .u32 (l.cl : Int), .int .u32 (l.sh : Int), .int .u32 (l.sq : Int), .bool l.an, .int .i64 l.q.k, .int .u32 (l.q.c : Int), .int .u32 (l.q.n : Int), .int .u64 (l.q.sp : Int), .int .u32 (l.q.sl : Int), .int .u64 (l.q.ap : Int), .int .u32 (l.q.al : Int), .string (bs l.q.key), .string (bs l.q.to), .int .i64 l.q.lim, .int .u8 (l.q.pt : Int), .slice wa l.q.ws.length wc, .slice sa l.q.sk.length sc, .int .i64 l.r.k, .int .i64 l.r.er, .bool l.r.fd, .string (bs l.r.val), .slice pa l.r.ps.length pc, .int .u32 (l.r.c : Int), .int .u32 (l.r.n : Int), .int .u64 (l.r.sp : Int), .int .u32 (l.r.sl : Int), .int .u64 (l.r.ap : Int), .int .u32 (l.r.al : Int), .string (bs l.r.prim), .int .u64 (l.r.np : Int), .int .u32 (l.r.nl : Int)] 37
  obtain ⟨W1, hW1⟩ : ∃ W1, w.alloc (.cells #[.int .u32 (l.cl : Int), .int .u32 (l.sh : Int), .int .u32 (l.sq : Int), .bool l.an, .int .i64 l.q.k, .int .u32 (l.q.c : Int), .int .u32 (l.q.n : Int), .int .u64 (l.q.sp : Int), .int .u32 (l.q.sl : Int), .int .u64 (l.q.ap : Int), .int .u32 (l.q.al : Int), .string (bs l.q.key), .string (bs l.q.to), .int .i64 l.q.lim, .int .u8 (l.q.pt : Int), .slice wa l.q.ws.length wc, .slice sa l.q.sk.length sc, .int .i64 l.r.k, .int .i64 l.r.er, .bool l.r.fd, .string (bs l.r.val), .slice pa l.r.ps.length pc, .int .u32 (l.r.c : Int), .int .u32 (l.r.n : Int), .int .u64 (l.r.sp : Int), .int .u32 (l.r.sl : Int), .int .u64 (l.r.ap : Int), .int .u32 (l.r.al : Int), .string (bs l.r.prim), .int .u64 (l.r.np : Int), .int .u32 (l.r.nl : Int)] 37) = W1 := ⟨_, rfl⟩
  obtain ⟨b, hb⟩ : ∃ b, w.heap.size = b := ⟨_, rfl⟩
  have B1 : Hid (Bx w b #[.int .u32 (l.cl : Int), .int .u32 (l.sh : Int), .int .u32 (l.sq : Int), .bool l.an, .int .i64 l.q.k, .int .u32 (l.q.c : Int), .int .u32 (l.q.n : Int), .int .u64 (l.q.sp : Int), .int .u32 (l.q.sl : Int), .int .u64 (l.q.ap : Int), .int .u32 (l.q.al : Int), .string (bs l.q.key), .string (bs l.q.to), .int .i64 l.q.lim, .int .u8 (l.q.pt : Int), .slice wa l.q.ws.length wc, .slice sa l.q.sk.length sc, .int .i64 l.r.k, .int .i64 l.r.er, .bool l.r.fd, .string (bs l.r.val), .slice pa l.r.ps.length pc, .int .u32 (l.r.c : Int), .int .u32 (l.r.n : Int), .int .u64 (l.r.sp : Int), .int .u32 (l.r.sl : Int), .int .u64 (l.r.ap : Int), .int .u32 (l.r.al : Int), .string (bs l.r.prim), .int .u64 (l.r.np : Int), .int .u32 (l.r.nl : Int)] 37 W1) := by rw [← hb, ← hW1]; exact H0.out
  have CR : Hid (1 = 1 → _) := fun _ => right18 l wa sa pa wc sc pc W1 (hl.up B1.out.bel)
  rw [hr] at CR
  clear H0 hl hr
  go_enter Try.func8, Try.ntmps8
  go_wp2_with (refine wpList_load_row rfl 37 _ rfl b rfl 37 _ (0, 0) _ B1.out.x Try.underlying37 rfl (by kernel_rfl) ?_)
  refine (CR.out (by trivial)).mono ?_
  rintro e w2 ⟨rfl, hb2⟩
  have B2 : Hid (Below w.heap.size w w2) := (B1.out.on hb2).bel
  clear hb2 hW1 hb B1 CR
  go_wp2_with fail
  go_ret2
  exact ⟨rfl, B2.out⟩
theorem write8 (l : Le) (wa sa pa : Option Addr) (wc sc pc : Nat) (w : World) (rg : RgL l) (hl : LAt w.heap.size l (.slice wa l.q.ws.length wc) (.slice sa l.q.sk.length sc) (.slice pa l.r.ps.length pc) w) :
    Calls Try.prog 8 #[.agg #[.int .u32 (l.cl : Int), .int .u32 (l.sh : Int), .int .u32 (l.sq : Int), .bool l.an, .int .i64 l.q.k, .int .u32 (l.q.c : Int), .int .u32 (l.q.n : Int), .int .u64 (l.q.sp : Int), .int .u32 (l.q.sl : Int), .int .u64 (l.q.ap : Int), .int .u32 (l.q.al : Int), .string (bs l.q.key), .string (bs l.q.to), .int .i64 l.q.lim, .int .u8 (l.q.pt : Int), .slice wa l.q.ws.length wc, .slice sa l.q.sk.length sc, .int .i64 l.r.k, .int .i64 l.r.er, .bool l.r.fd, .string (bs l.r.val), .slice pa l.r.ps.length pc, .int .u32 (l.r.c : Int), .int .u32 (l.r.n : Int), .int .u64 (l.r.sp : Int), .int .u32 (l.r.sl : Int), .int .u64 (l.r.ap : Int), .int .u32 (l.r.al : Int), .string (bs l.r.prim), .int .u64 (l.r.np : Int), .int .u32 (l.r.nl : Int)]] w fun e w' => e = .returned (.tuple #[.string (bs (writeL l).1), .int .i64 (writeL l).2]) ∧ Below w.heap.size w w' := by
  cases hr : rightL l with
  | false =>
    have h : writeL l = ([], 1) := by unfold writeL; rw [hr]; rfl
    rw [h]
    exact write8n l wa sa pa wc sc pc w hr hl
  | true =>
    have h : writeL l = (formL l, 0) := by unfold writeL; rw [hr]; rfl
    rw [h]
    have h1 := rightL_iff.1 hr
    have hk : 0 ≤ l.q.k ∧ 0 ≤ l.q.lim ∧ 0 ≤ l.r.k ∧ 0 ≤ l.r.er := by
      rcases h1.2.2 with ⟨_, h2, h3⟩ | ⟨_, h2, h3⟩
      · rw [h2]; exact ⟨by decide, by decide, h3.k.1, h3.er.1⟩
      · rw [h2]; have := h3.k; exact ⟨by omega, h3.lim.1, by decide, by decide⟩
    cases ha : l.an with
    | false =>
      have := write8q l l.q.k.toNat l.q.lim.toNat l.r.k.toNat l.r.er.toNat wa sa pa wc sc pc w (by omega) (by omega) (by omega) (by omega) hr ha rg hl
      rw [show ((l.q.k.toNat : Nat) : Int) = l.q.k from by omega, show ((l.q.lim.toNat : Nat) : Int) = l.q.lim from by omega, show ((l.r.k.toNat : Nat) : Int) = l.r.k from by omega, show ((l.r.er.toNat : Nat) : Int) = l.r.er from by omega, ha] at this
      exact this
    | true =>
      have := write8r l l.q.k.toNat l.q.lim.toNat l.r.k.toNat l.r.er.toNat wa sa pa wc sc pc w (by omega) (by omega) (by omega) (by omega) hr ha rg hl
      rw [show ((l.q.k.toNat : Nat) : Int) = l.q.k from by omega, show ((l.q.lim.toNat : Nat) : Int) = l.q.lim from by omega, show ((l.r.k.toNat : Nat) : Int) = l.r.k from by omega, show ((l.r.er.toNat : Nat) : Int) = l.r.er from by omega, ha] at this
      exact this
def l5 : Le := ⟨0, 2, 5, false, ⟨9, 0, 1, 0, 0, 0, 0, [], [], 0, 0, [], []⟩, zR⟩
theorem right5 : rightL l5 = true := by decide
theorem form5 : formL l5 = [0, 2, 5, 0, 9, 0, 1, 0, 0, 0, 0, 0, 0, 0, 0, 0, 0] := by decide
theorem write5 : writeL l5 = ([0, 2, 5, 0, 9, 0, 1, 0, 0, 0, 0, 0, 0, 0, 0, 0, 0], 0) := by
  unfold writeL
  rw [if_pos right5, form5]
theorem rg5 : RgL l5 := ⟨by decide, by decide, by decide, ⟨by decide, by decide, by decide, by decide, by decide, by decide, by decide, by decide, by decide, by intro x hx; simp [l5] at hx, by decide, by intro x hx; simp [l5] at hx⟩, rgR_zero⟩
theorem read5 : readL [0, 2, 5, 0, 9, 0, 1, 0, 0, 0, 0, 0, 0, 0, 0, 0, 0] = some l5 := by
  rw [← form5]
  exact read_form right5 rg5
theorem lat5 (B : Nat) (w : World) : LAt B l5 (.slice none 0 0) (.slice none 0 0) (.slice none 0 0) w := ⟨⟨RwAt.nil _ _ _, RwAt.nil _ _ _⟩, RwAt.nil _ _ _⟩
theorem sameL_self (l : Le) : sameL l l = true := sameL_iff.2 rfl
theorem bx_on2 {w W W' : World} {b : Nat} {cs : Array Value} {ty : TypeId} (h : Bx w b cs ty W) (hb : Below W.heap.size W W') : Bx w b cs ty W' := h.on hb
set_option maxHeartbeats 1600000 in
set_option maxRecDepth 100000 in
theorem awake6 (w : World) : Calls Try.prog 6 #[] w fun e w' => e = .returned (.bool true) ∧ Below w.heap.size w w' := by
  have B1 : Hid (Bx w w.heap.size #[.int .u32 0, .int .u32 2, .int .u32 5, .bool false, .int .i64 9, .int .u32 0, .int .u32 1, .int .u64 0, .int .u32 0, .int .u64 0, .int .u32 0, .string ⟨#[]⟩, .string ⟨#[]⟩, .int .i64 0, .int .u8 0, .slice none 0 0, .slice none 0 0, .int .i64 0, .int .i64 0, .bool false, .string ⟨#[]⟩, .slice none 0 0, .int .u32 0, .int .u32 0, .int .u64 0, .int .u32 0, .int .u64 0, .int .u32 0, .string ⟨#[]⟩, .int .u64 0, .int .u32 0] 37 (w.alloc (.cells #[.int .u32 0, .int .u32 2, .int .u32 5, .bool false, .int .i64 9, .int .u32 0, .int .u32 1, .int .u64 0, .int .u32 0, .int .u64 0, .int .u32 0, .string ⟨#[]⟩, .string ⟨#[]⟩, .int .i64 0, .int .u8 0, .slice none 0 0, .slice none 0 0, .int .i64 0, .int .i64 0, .bool false, .string ⟨#[]⟩, .slice none 0 0, .int .u32 0, .int .u32 0, .int .u64 0, .int .u32 0, .int .u64 0, .int .u32 0, .string ⟨#[]⟩, .int .u64 0, .int .u32 0] 37))) := bx_new w _ 37
  obtain ⟨W1, hW1⟩ : ∃ W1, w.alloc (.cells #[.int .u32 0, .int .u32 2, .int .u32 5, .bool false, .int .i64 9, .int .u32 0, .int .u32 1, .int .u64 0, .int .u32 0, .int .u64 0, .int .u32 0, .string ⟨#[]⟩, .string ⟨#[]⟩, .int .i64 0, .int .u8 0, .slice none 0 0, .slice none 0 0, .int .i64 0, .int .i64 0, .bool false, .string ⟨#[]⟩, .slice none 0 0, .int .u32 0, .int .u32 0, .int .u64 0, .int .u32 0, .int .u64 0, .int .u32 0, .string ⟨#[]⟩, .int .u64 0, .int .u32 0] 37) = W1 := ⟨_, rfl⟩
  rw [hW1] at B1
  have CW : Hid (1 = 1 → Calls Try.prog 7 #[.agg #[.int .u32 0, .int .u32 2, .int .u32 5, .bool false, .int .i64 9, .int .u32 0, .int .u32 1, .int .u64 0, .int .u32 0, .int .u64 0, .int .u32 0, .string ⟨#[]⟩, .string ⟨#[]⟩, .int .i64 0, .int .u8 0, .slice none 0 0, .slice none 0 0, .int .i64 0, .int .i64 0, .bool false, .string ⟨#[]⟩, .slice none 0 0, .int .u32 0, .int .u32 0, .int .u64 0, .int .u32 0, .int .u64 0, .int .u32 0, .string ⟨#[]⟩, .int .u64 0, .int .u32 0]] W1 fun r w' => r = .returned (.tuple #[.string ⟨#[0, 2, 5, 0, 9, 0, 1, 0, 0, 0, 0, 0, 0, 0, 0, 0, 0]⟩, .int .i64 0]) ∧ Below W1.heap.size W1 w') := fun _ => by
    have := write7 l5 none none none 0 0 0 W1 rg5 (lat5 _ _)
    rw [write5] at this
    exact this
  have CR : Hid (∀ W : World, 1 = 1 → Calls Try.prog 10 #[.string ⟨#[0, 2, 5, 0, 9, 0, 1, 0, 0, 0, 0, 0, 0, 0, 0, 0, 0]⟩] W fun r w' => ∃ (wa sa pa : Option Addr) (wc sc pc : Nat), r = .returned (.tuple #[.agg #[.int .u32 0, .int .u32 2, .int .u32 5, .bool false, .int .i64 9, .int .u32 0, .int .u32 1, .int .u64 0, .int .u32 0, .int .u64 0, .int .u32 0, .string ⟨#[]⟩, .string ⟨#[]⟩, .int .i64 0, .int .u8 0, .slice wa 0 wc, .slice sa 0 sc, .int .i64 0, .int .i64 0, .bool false, .string ⟨#[]⟩, .slice pa 0 pc, .int .u32 0, .int .u32 0, .int .u64 0, .int .u32 0, .int .u64 0, .int .u32 0, .string ⟨#[]⟩, .int .u64 0, .int .u32 0], .int .i64 0]) ∧ LAt w'.heap.size l5 (.slice wa 0 wc) (.slice sa 0 sc) (.slice pa 0 pc) w' ∧ Below W.heap.size W w') := fun W _ => by
    refine (read10 [0, 2, 5, 0, 9, 0, 1, 0, 0, 0, 0, 0, 0, 0, 0, 0, 0] W (by simp)).mono fun r w' h => ?_
    obtain ⟨wa, sa, pa, wc, sc, pc, hr, hl⟩ := h.yes _ read5
    exact ⟨wa, sa, pa, wc, sc, pc, hr, hl, h.bel⟩
  go_enter Try.func6, Try.ntmps6
  go_wp2_with (first
    | (refine wpList_store_row rfl 37 _ _ rfl w.heap.size #[.int .u32 0, .int .u32 2, .int .u32 5, .bool false, .int .i64 9, .int .u32 0, .int .u32 1, .int .u64 0, .int .u32 0, .int .u64 0, .int .u32 0, .string ⟨#[]⟩, .string ⟨#[]⟩, .int .i64 0, .int .u8 0, .slice none 0 0, .slice none 0 0, .int .i64 0, .int .i64 0, .bool false, .string ⟨#[]⟩, .slice none 0 0, .int .u32 0, .int .u32 0, .int .u64 0, .int .u32 0, .int .u64 0, .int .u32 0, .string ⟨#[]⟩, .int .u64 0, .int .u32 0] rfl rfl 37 _ (heap_alloc_new w _) (by kernel_rfl) rfl (by simp [Value.oneCell']) ?_; rewrite [World.setRow_alloc_new, hW1])
    | (refine wpList_load_row rfl 37 _ rfl w.heap.size rfl 37 _ (0, 0) _ B1.out.x Try.underlying37 rfl (by kernel_rfl) ?_))
  refine (CW.out (by trivial)).mono ?_
  rintro r w2 ⟨rfl, hb2⟩
  have B2 : Hid (Bx w w.heap.size #[.int .u32 0, .int .u32 2, .int .u32 5, .bool false, .int .i64 9, .int .u32 0, .int .u32 1, .int .u64 0, .int .u32 0, .int .u64 0, .int .u32 0, .string ⟨#[]⟩, .string ⟨#[]⟩, .int .i64 0, .int .u8 0, .slice none 0 0, .slice none 0 0, .int .i64 0, .int .i64 0, .bool false, .string ⟨#[]⟩, .slice none 0 0, .int .u32 0, .int .u32 0, .int .u64 0, .int .u32 0, .int .u64 0, .int .u32 0, .string ⟨#[]⟩, .int .u64 0, .int .u32 0] 37 w2) := B1.out.on hb2
  clear hb2 CW B1 hW1
  go_wp2_with fail
  refine (CR.out _ (by trivial)).mono ?_
  rintro r w3 ⟨wa, sa, pa, wc, sc, pc, rfl, hl3, hb3⟩
  have B3 : Hid (Bx w w.heap.size #[.int .u32 0, .int .u32 2, .int .u32 5, .bool false, .int .i64 9, .int .u32 0, .int .u32 1, .int .u64 0, .int .u32 0, .int .u64 0, .int .u32 0, .string ⟨#[]⟩, .string ⟨#[]⟩, .int .i64 0, .int .u8 0, .slice none 0 0, .slice none 0 0, .int .i64 0, .int .i64 0, .bool false, .string ⟨#[]⟩, .slice none 0 0, .int .u32 0, .int .u32 0, .int .u64 0, .int .u32 0, .int .u64 0, .int .u32 0, .string ⟨#[]⟩, .int .u64 0, .int .u32 0] 37 (w3.alloc (.cells #[.int .u32 0, .int .u32 2, .int .u32 5, .bool false, .int .i64 9, .int .u32 0, .int .u32 1, .int .u64 0, .int .u32 0, .int .u64 0, .int .u32 0, .string ⟨#[]⟩, .string ⟨#[]⟩, .int .i64 0, .int .u8 0, .slice wa 0 wc, .slice sa 0 sc, .int .i64 0, .int .i64 0, .bool false, .string ⟨#[]⟩, .slice pa 0 pc, .int .u32 0, .int .u32 0, .int .u64 0, .int .u32 0, .int .u64 0, .int .u32 0, .string ⟨#[]⟩, .int .u64 0, .int .u32 0] 37))) := (B2.out.on hb3).on (al _)
  have X3 : Hid ((w3.alloc (.cells #[.int .u32 0, .int .u32 2, .int .u32 5, .bool false, .int .i64 9, .int .u32 0, .int .u32 1, .int .u64 0, .int .u32 0, .int .u64 0, .int .u32 0, .string ⟨#[]⟩, .string ⟨#[]⟩, .int .i64 0, .int .u8 0, .slice wa 0 wc, .slice sa 0 sc, .int .i64 0, .int .i64 0, .bool false, .string ⟨#[]⟩, .slice pa 0 pc, .int .u32 0, .int .u32 0, .int .u64 0, .int .u32 0, .int .u64 0, .int .u32 0, .string ⟨#[]⟩, .int .u64 0, .int .u32 0] 37)).heap[w3.heap.size]? = some (.cells #[.int .u32 0, .int .u32 2, .int .u32 5, .bool false, .int .i64 9, .int .u32 0, .int .u32 1, .int .u64 0, .int .u32 0, .int .u64 0, .int .u32 0, .string ⟨#[]⟩, .string ⟨#[]⟩, .int .i64 0, .int .u8 0, .slice wa 0 wc, .slice sa 0 sc, .int .i64 0, .int .i64 0, .bool false, .string ⟨#[]⟩, .slice pa 0 pc, .int .u32 0, .int .u32 0, .int .u64 0, .int .u32 0, .int .u64 0, .int .u32 0, .string ⟨#[]⟩, .int .u64 0, .int .u32 0] 37 (0, 0)) ∧ LAt (w3.alloc (.cells #[.int .u32 0, .int .u32 2, .int .u32 5, .bool false, .int .i64 9, .int .u32 0, .int .u32 1, .int .u64 0, .int .u32 0, .int .u64 0, .int .u32 0, .string ⟨#[]⟩, .string ⟨#[]⟩, .int .i64 0, .int .u8 0, .slice wa 0 wc, .slice sa 0 sc, .int .i64 0, .int .i64 0, .bool false, .string ⟨#[]⟩, .slice pa 0 pc, .int .u32 0, .int .u32 0, .int .u64 0, .int .u32 0, .int .u64 0, .int .u32 0, .string ⟨#[]⟩, .int .u64 0, .int .u32 0] 37)).heap.size l5 (.slice wa 0 wc) (.slice sa 0 sc) (.slice pa 0 pc) (w3.alloc (.cells #[.int .u32 0, .int .u32 2, .int .u32 5, .bool false, .int .i64 9, .int .u32 0, .int .u32 1, .int .u64 0, .int .u32 0, .int .u64 0, .int .u32 0, .string ⟨#[]⟩, .string ⟨#[]⟩, .int .i64 0, .int .u8 0, .slice wa 0 wc, .slice sa 0 sc, .int .i64 0, .int .i64 0, .bool false, .string ⟨#[]⟩, .slice pa 0 pc, .int .u32 0, .int .u32 0, .int .u64 0, .int .u32 0, .int .u64 0, .int .u32 0, .string ⟨#[]⟩, .int .u64 0, .int .u32 0] 37))) := ⟨heap_alloc_new w3 _, hl3.up (al _)⟩
  clear hl3 hb3 CR B2
  obtain ⟨b, hb⟩ : ∃ b, w.heap.size = b := ⟨_, rfl⟩
  obtain ⟨W4, hW4⟩ : ∃ W, w3.alloc (.cells #[.int .u32 0, .int .u32 2, .int .u32 5, .bool false, .int .i64 9, .int .u32 0, .int .u32 1, .int .u64 0, .int .u32 0, .int .u64 0, .int .u32 0, .string ⟨#[]⟩, .string ⟨#[]⟩, .int .i64 0, .int .u8 0, .slice wa 0 wc, .slice sa 0 sc, .int .i64 0, .int .i64 0, .bool false, .string ⟨#[]⟩, .slice pa 0 pc, .int .u32 0, .int .u32 0, .int .u64 0, .int .u32 0, .int .u64 0, .int .u32 0, .string ⟨#[]⟩, .int .u64 0, .int .u32 0] 37) = W := ⟨_, rfl⟩
  rw [hW4] at B3 X3
  have CS : Hid (1 = 1 → Calls Try.prog 11 #[.agg #[.int .u32 0, .int .u32 2, .int .u32 5, .bool false, .int .i64 9, .int .u32 0, .int .u32 1, .int .u64 0, .int .u32 0, .int .u64 0, .int .u32 0, .string ⟨#[]⟩, .string ⟨#[]⟩, .int .i64 0, .int .u8 0, .slice none 0 0, .slice none 0 0, .int .i64 0, .int .i64 0, .bool false, .string ⟨#[]⟩, .slice none 0 0, .int .u32 0, .int .u32 0, .int .u64 0, .int .u32 0, .int .u64 0, .int .u32 0, .string ⟨#[]⟩, .int .u64 0, .int .u32 0], .agg #[.int .u32 0, .int .u32 2, .int .u32 5, .bool false, .int .i64 9, .int .u32 0, .int .u32 1, .int .u64 0, .int .u32 0, .int .u64 0, .int .u32 0, .string ⟨#[]⟩, .string ⟨#[]⟩, .int .i64 0, .int .u8 0, .slice wa 0 wc, .slice sa 0 sc, .int .i64 0, .int .i64 0, .bool false, .string ⟨#[]⟩, .slice pa 0 pc, .int .u32 0, .int .u32 0, .int .u64 0, .int .u32 0, .int .u64 0, .int .u32 0, .string ⟨#[]⟩, .int .u64 0, .int .u32 0]] W4 fun r w' => r = .returned (.bool true) ∧ Below W4.heap.size W4 w') := fun _ => by
    have := same11 l5 l5 none none none wa sa pa 0 0 0 wc sc pc W4 (lat5 _ _) X3.out.2
    rw [sameL_self] at this
    exact this
  clear hb
  go_wp2_with (first
    | (refine wpList_store_row rfl 37 _ _ rfl w3.heap.size #[.int .u32 0, .int .u32 2, .int .u32 5, .bool false, .int .i64 9, .int .u32 0, .int .u32 1, .int .u64 0, .int .u32 0, .int .u64 0, .int .u32 0, .string ⟨#[]⟩, .string ⟨#[]⟩, .int .i64 0, .int .u8 0, .slice wa 0 wc, .slice sa 0 sc, .int .i64 0, .int .i64 0, .bool false, .string ⟨#[]⟩, .slice pa 0 pc, .int .u32 0, .int .u32 0, .int .u64 0, .int .u32 0, .int .u64 0, .int .u32 0, .string ⟨#[]⟩, .int .u64 0, .int .u32 0] rfl rfl 37 _ (heap_alloc_new w3 _) (by kernel_rfl) rfl (by simp [Value.oneCell']) ?_; rewrite [World.setRow_alloc_new, hW4])
    | (refine wpList_load_row_g rfl 37 _ rfl w.heap.size rfl 37 _ (0, 0) _ B3.out.x Try.underlying37 rfl (by kernel_rfl) ?_)
    | (refine wpList_load_row_g rfl 37 _ rfl w3.heap.size rfl 37 _ (0, 0) _ X3.out.1 Try.underlying37 rfl (by kernel_rfl) ?_))
  refine (CS.out (by trivial)).mono ?_
  rintro r w5 ⟨rfl, hb5⟩
  have H5 : Hid (Below w.heap.size w w5) := B3.out.bel.trans (hb5.mono B3.out.bel.size)
  clear hb5 CS B3 X3 hW4
  go_wp2_with fail
  go_ret
  exact ⟨rfl, H5.out⟩
end Go.Proofs.Ytmldgfepnmencaa
