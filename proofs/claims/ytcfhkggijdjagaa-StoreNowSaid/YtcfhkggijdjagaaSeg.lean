/-
  The store over order's map: New, versions, keys, Get, Newest, Count, Put.
-/
import Derived.Test.YtcfhkggijdjagaaSch
namespace Go.Proofs.Ytcfhkggijdjagaa
open Go.RowKit

/-- The store behind p: its box says where the map of chains lies. -/
structure So (B p q : Nat) (t : Tr) (S : Sk) (w : World) : Prop where
  box : w.heap[p]? = some (.cells #[.pointer (some ⟨q, 0, none⟩)] 68 (0, 0))
  mc : Mc B q t S w
  low : B ≤ p
  ne : ¬ foot8 q t p
  kl : ∀ x ∈ S, x.1.length ≤ 32
def footS (p q : Nat) (t : Tr) : Nat → Prop := fun i => i = p ∨ foot8 q t i
def SoAt (B p : Nat) (M : Nat → Prop) (S : Sk) (w : World) : Prop := ∃ q t, So B p q t S w ∧ M = footS p q t
theorem So.lt {B p q : Nat} {t : Tr} {S : Sk} {w : World} (h : So B p q t S w) : ∀ i, footS p q t i → B ≤ i ∧ i < w.heap.size
  | _, .inl e => e ▸ ⟨h.low, (Array.getElem?_eq_some_iff.1 h.box).1⟩
  | i, .inr e => h.mc.lt i e
theorem So.noVe {B p q : Nat} {t : Tr} {S : Sk} {w : World} (h : So B p q t S w) : ∀ i, footS p q t i → NoVe w i
  | _, .inl e => e ▸ noVe_small h.box (by simp)
  | i, .inr e => h.mc.noVe i e
theorem So.kept {B p q : Nat} {t : Tr} {S : Sk} {w w' : World} {G : Nat → Prop} (h : So B p q t S w) (hk : Kept G w w') (h1 : ∀ i, footS p q t i → ¬ G i) (hG : ∀ i, G i → NoVe w i) : So B p q t S w' :=
  ⟨by rw [hk.block p (Array.getElem?_eq_some_iff.1 h.box).1 (h1 p (.inl rfl))]; exact h.box, h.mc.kept hk (fun i hi => h1 i (.inr hi)) hG, h.low, h.ne, h.kl⟩
theorem So.on {B p q : Nat} {t : Tr} {S : Sk} {w w' : World} (h : So B p q t S w) (hb : Below w.heap.size w w') : So B p q t S w' := h.kept (G := fun _ => False) (Kept.of_below hb) (fun _ _ h => h) (fun _ h => h.elim)
theorem So.cell {B p q : Nat} {t : Tr} {S : Sk} {w : World} (h : So B p q t S w) : w.cell? ⟨p, 0, none⟩ = some (.pointer (some ⟨q, 0, none⟩)) := block_cell h.box rfl
/-- The map has turned: the store has what it has. -/
theorem So.post {B p q : Nat} {t : Tr} {S S' : Sk} {w w' : World} (h : So B p q t S w) (hp : McPost B q t S' w w') (hkl : ∀ x ∈ S', x.1.length ≤ 32) : ∃ t', So B p q t' S' w' ∧ Kept (footS p q t) w w' ∧ ∀ i, footS p q t' i → footS p q t i ∨ w.heap.size ≤ i := by
  obtain ⟨t', h1, hk, hn⟩ := hp
  have hpl := (Array.getElem?_eq_some_iff.1 h.box).1
  refine ⟨t', ⟨by rw [hk.block p hpl h.ne]; exact h.box, h1, h.low, fun hf => ?_, hkl⟩, ⟨hk.os, hk.tape, hk.output, hk.size, fun i hi hf => hk.block i hi (fun e => hf (.inr e))⟩, fun i hi => ?_⟩
  · rcases hn p hf with e | e
    · exact h.ne e
    · omega
  · rcases hi with e | e
    · exact .inl (.inl e)
    · rcases hn i e with e | e
      · exact .inl (.inr e)
      · exact .inr e
/-- The store as it was at w, or turned since: what a call leaves. -/
def SoPost (B p : Nat) (M : Nat → Prop) (S' : Sk) (w w' : World) : Prop := ∃ M', SoAt B p M' S' w' ∧ Kept M w w' ∧ ∀ i, M' i → M i ∨ w.heap.size ≤ i
theorem So.out {B p q : Nat} {t t' : Tr} {S' : Sk} {w w1 w' : World} (hb : Below w.heap.size w w1) (h : So B p q t' S' w') (hk : Kept (footS p q t) w1 w') (hn : ∀ i, footS p q t' i → footS p q t i ∨ w1.heap.size ≤ i) : SoPost B p (footS p q t) S' w w' := by
  refine ⟨_, ⟨q, t', h, rfl⟩, (Kept.of_below hb).trans hk (fun i hi => .inl hi), fun i hi => ?_⟩
  rcases hn i hi with e | e
  · exact .inl e
  · exact .inr (Nat.le_trans hb.size e)

set_option maxHeartbeats 400000 in
theorem so_new (w : World) : Calls Try.prog 10 #[] w fun e w' => ∃ p M, e = .returned (.pointer (some ⟨p, 0, none⟩)) ∧ SoAt w.heap.size p M [] w' ∧ Below w.heap.size w w' := by
  have C : Hid (∀ W : World, Below w.heap.size w W → Calls Try.prog 27 #[] W fun e w' => ∃ q t, e = .returned (.pointer (some ⟨q, 0, none⟩)) ∧ Mc w.heap.size q t [] w' ∧ Below w.heap.size w w') := fun W hb => by
    refine (new8 W).mono ?_
    rintro e w' ⟨q, F, rfl, ⟨t, h1, h2, rfl⟩, hb'⟩
    refine ⟨q, t, rfl, ⟨⟨h1.box, h1.ok, h1.srt, h1.hk, h1.pn, h1.nd, Nat.le_trans hb.size h1.low.1, fun i hi => Nat.le_trans hb.size (h1.low.2 i hi)⟩, by rw [h2]; exact trivial, SOk.nil⟩, hb.trans (hb'.mono hb.size)⟩
  go_enter Try.func10, Try.ntmps10
  go_wp2_with fail
  refine (C.out _ (Below.refl _ _)).mono ?_
  rintro e w1 ⟨q, t, rfl, hm, hb⟩
  have H : Hid (So w.heap.size w1.heap.size q t [] (w1.alloc (.cells #[.pointer (some ⟨q, 0, none⟩)] 68)) ∧ Below w.heap.size w (w1.alloc (.cells #[.pointer (some ⟨q, 0, none⟩)] 68))) :=
    ⟨⟨heap_alloc_new w1 _, hm.on (al _), hb.size, fun hf => by have := (hm.lt _ hf).2; omega, fun _ h => by cases h⟩, hb.trans ((al _).mono hb.size)⟩
  clear hm hb C
  go_wp2_with fail
  go_ret
  exact ⟨_, _, rfl, ⟨q, t, H.out.1, rfl⟩, H.out.2⟩
set_option maxHeartbeats 400000 in
theorem so_of {B p q : Nat} {t : Tr} {S : Sk} {w : World} (k : List UInt8) (h : So B p q t S w) : Calls Try.prog 30 #[.pointer (some ⟨p, 0, none⟩), .string (bs k)] w fun e w' => ∃ ao cap, e = .returned (.slice ao (chainF k S).length cap) ∧ VsAt w'.heap.size (.slice ao (chainF k S).length cap) (chainF k S) w' ∧ Below w.heap.size w w' := by
  have c0 := h.cell
  have C : Hid (1 = 1 → _) := fun _ => mc_get k h.mc
  clear h
  go_enter Try.func30, Try.ntmps30
  go_wp2_with fail
  refine (C.out (by trivial)).mono ?_
  rintro e w1 ⟨ao, cap, rfl, hv, hb⟩
  have H : Hid _ := hv
  have HB : Hid _ := hb
  clear hv hb C c0
  generalize (getF k S).isSome = g at *
  go_wp2_with fail
  go_ret
  exact ⟨ao, cap, rfl, H.out, HB.out⟩
set_option maxHeartbeats 400000 in
theorem so_of0 (k : List UInt8) (w : World) : Calls Try.prog 30 #[.pointer none, .string (bs k)] w fun e w' => e = .returned (.slice none 0 0) ∧ w' = w := by
  go_enter Try.func30, Try.ntmps30
  go_wp2_with fail
  go_ret
  exact ⟨rfl, rfl⟩

theorem mc_all {B q : Nat} {t : Tr} {S : Sk} {w : World} (h : Mc B q t S w) (ht : totS S < 10000) : Calls Try.prog 44 #[.pointer (some ⟨q, 0, none⟩), .string ⟨#[]⟩, .string ⟨#[]⟩, .int .i64 S.length] w fun e w' => ∃ ka kp, e = .returned (.slice ka S.length kp) ∧ w'.ownsRow w.heap.size 9 1 (.slice ka S.length kp) (S.map (·.1)).length (kc (S.map (·.1))) ∧ Below w.heap.size w w' := by
  have := mc_keys [] [] S.length h ht
  rw [keys_all (Int.le_refl _)] at this
  refine Calls.mono this ?_
  rintro e w' ⟨v', rfl, ho, hb⟩
  obtain ⟨ao, cap, rfl, _⟩ := rw_own ho
  rw [List.length_map] at ho ⊢
  exact ⟨ao, cap, rfl, ho, hb⟩
set_option maxHeartbeats 800000 in
theorem so_keys {B p q : Nat} {t : Tr} {S : Sk} {w : World} (h : So B p q t S w) (ht : totS S < 10000) : Calls Try.prog 36 #[.pointer (some ⟨p, 0, none⟩)] w fun e w' => ∃ ka kp, e = .returned (.slice ka S.length kp) ∧ w'.ownsRow w.heap.size 9 1 (.slice ka S.length kp) (S.map (·.1)).length (kc (S.map (·.1))) ∧ Below w.heap.size w w' := by
  have HS : Hid (So B p q t S w) := h
  have c0 := h.cell
  have hpl : p < w.heap.size := World.block_lt_of_cell? _ _ c0
  have CL : Hid (∀ W, Below w.heap.size w W → _) := fun W hb => mc_len (h.mc.on hb)
  have CK : Hid (∀ W, Below w.heap.size w W → Calls Try.prog 44 #[.pointer (some ⟨q, 0, none⟩), .string ⟨#[]⟩, .string ⟨#[]⟩, .int .i64 S.length] W fun e w' => ∃ ka kp, e = .returned (.slice ka S.length kp) ∧ w'.ownsRow W.heap.size 9 1 (.slice ka S.length kp) (S.map (·.1)).length (kc (S.map (·.1))) ∧ Below W.heap.size W w') := fun W hb => mc_all (h.mc.on hb) ht
  clear h ht
  go_enter Try.func36, Try.ntmps36
  go_wp2_with fail
  have HP : Hid (w.cell? ⟨p, 0, none⟩ = some (.pointer (some ⟨q, 0, none⟩))) := c0
  go_region_held3 (fun W => W.cell? ⟨p, 0, none⟩ = some (.pointer (some ⟨q, 0, none⟩)))
    (first | exact HP.out | exact H1.out.2 | exact H2.out.2.2)
    (first
    | (go_at_call 60; refine (CL.out _ ((Below.refl _ _).drew)).mono ?_; rintro e W1 ⟨rfl, hb1⟩; have H1 : Hid (Below w.heap.size w W1 ∧ W1.cell? ⟨p, 0, none⟩ = some (.pointer (some ⟨q, 0, none⟩))) := ⟨(Below.refl _ _).drew.trans hb1, (HS.out.on ((Below.refl _ _).drew.trans hb1)).cell⟩; clear hb1)
    | (go_at_call 44; refine (CK.out _ H1.out.1).mono ?_; rintro e W2 ⟨ka, kp, rfl, ho2, hb2⟩; have H2 : Hid (W2.ownsRow W1.heap.size 9 1 (.slice ka S.length kp) (S.map (·.1)).length (kc (S.map (·.1))) ∧ Below w.heap.size w W2 ∧ W2.cell? ⟨p, 0, none⟩ = some (.pointer (some ⟨q, 0, none⟩))) := ⟨ho2, H1.out.1.trans (hb2.mono H1.out.1.size), (HS.out.on (H1.out.1.trans (hb2.mono H1.out.1.size))).cell⟩; clear ho2 hb2))
  rename_i hHeld
  clear hHeld
  go_wp2_with fail
  go_ret
  exact ⟨ka, kp, rfl, own_le H2.out.1 H1.out.1.size, H2.out.2.1⟩
set_option maxHeartbeats 400000 in
theorem so_keys0 (w : World) : Calls Try.prog 36 #[.pointer none] w fun e w' => e = .returned (.slice none 0 0) ∧ w' = w := by
  go_enter Try.func36, Try.ntmps36
  go_wp2_with fail
  go_ret
  exact ⟨rfl, rfl⟩
set_option maxHeartbeats 400000 in
theorem isKey28 (k : List UInt8) (w : World) : Calls Try.prog 28 #[.string (bs k)] w fun e w' => e = .returned (.bool (keyB k)) ∧ w' = w := by
  have hs := bs_size k
  by_cases h1 : k.length < 1
  · have h1' : ¬ (1 : Int) ≤ k.length := by omega
    have hk : keyB k = false := by simp [keyB]; omega
    rw [hk]
    clear hk
    go_enter Try.func28, Try.ntmps28
    go_wp2_with fail
    go_ret
    exact ⟨rfl, rfl⟩
  · have h1' : (1 : Int) ≤ k.length := by omega
    by_cases h2 : k.length ≤ 32
    · have h2' : (k.length : Int) ≤ 32 := by omega
      have hk : keyB k = true := by simp [keyB]; omega
      rw [hk]
      clear hk
      go_enter Try.func28, Try.ntmps28
      go_wp2_with fail
      go_ret
      exact ⟨rfl, rfl⟩
    · have h2' : ¬ (k.length : Int) ≤ 32 := by omega
      have hk : keyB k = false := by simp [keyB]; omega
      rw [hk]
      clear hk
      go_enter Try.func28, Try.ntmps28
      go_wp2_with fail
      go_ret
      exact ⟨rfl, rfl⟩
set_option maxHeartbeats 400000 in
theorem above46 (k : List UInt8) (w : World) (h : k.length ≤ 32) : Calls Try.prog 46 #[.string (bs k)] w fun e w' => e = .returned (.string (bs (k ++ [0]))) ∧ w' = w := by
  have hs := bs_size k
  have hj : ¬ 9223372036854775807 < k.length + 1 := by omega
  have hz : Hid (bs k ++ ⟨#[0]⟩ = bs (k ++ [0])) := by
    show _ = _
    apply ByteArray.ext
    simp [bs]
  go_enter Try.func46, Try.ntmps46
  go_wp2_with fail
  go_ret
  rw [← hz.out]
  exact ⟨rfl, rfl⟩
end Go.Proofs.Ytcfhkggijdjagaa

namespace Go.Proofs.Ytcfhkggijdjagaa
open Go.RowKit

structure Tv (w : World) (bx : Nat) (p l : Int) (v : Value) (C : List Ve) (W : World) : Prop where
  tx : Tx w bx p l W
  vs : VsAt W.heap.size v C W
theorem Tv.on {w W W' : World} {bx : Nat} {p l : Int} {v : Value} {C : List Ve} (h : Tv w bx p l v C W) (hb : Below W.heap.size W W') : Tv w bx p l v C W' := ⟨h.tx.on hb, (h.vs.on hb).le hb.size⟩
theorem Tv.dr {w W : World} {bx : Nat} {p l : Int} {v : Value} {C : List Ve} (h : Tv w bx p l v C W) : Tv w bx p l v C W.drew := h.on (Below.refl _ _).drew
theorem Tv.al {w W : World} {bx : Nat} {p l : Int} {v : Value} {C : List Ve} (h : Tv w bx p l v C W) (o : Obj) : Tv w bx p l v C (W.alloc o) := h.on (Go.Proofs.Ytcfhkggijdjagaa.al _)

theorem zero_box2 {W W3 : World} {o : Obj} (hb : Below (W.alloc o).heap.size (W.alloc o) W3) : W3.heap[W.heap.size]? = some o := by
  rw [hb.block W.heap.size (by simp)]
  exact heap_alloc_new W _

set_option maxHeartbeats 800000 in
theorem get15_of {C : List Ve} (pv : Value) (k : List UInt8) (p l : Int) (w : World) (CC : Hid (∀ W, Below w.heap.size w W → Calls Try.prog 30 #[pv, .string (bs k)] W fun e w' => ∃ ao cap, e = .returned (.slice ao C.length cap) ∧ VsAt w'.heap.size (.slice ao C.length cap) C w' ∧ Below W.heap.size W w')) :
    Calls Try.prog 15 #[pv, .string (bs k), .agg #[.int .u64 p, .int .u32 l]] w fun e w' => e = .returned (.tuple #[.string (bs (getV (seeF C p l)).1), .bool (getV (seeF C p l)).2]) ∧ Below w.heap.size w w' := by
  have CP : Hid (∀ W ao cap bx, Tv w bx p l (.slice ao C.length cap) C W → Calls Try.prog 40 #[.slice ao C.length cap, .agg #[.int .u64 p, .int .u32 l]] W fun e w' => e = .returned (.tuple #[veV ((atF C p l).getD dv), .bool (atF C p l).isSome]) ∧ Below W.heap.size W w') := fun W ao cap bx h => at10 W.heap.size C _ p l W h.vs (Nat.le_refl _)
  have HY : Hid _ := see_at C p l
  have HT : Hid (Tx w w.heap.size p l (w.alloc (.cells #[.int .u64 p, .int .u32 l] 33))) := tx_new w p l
  generalize getV (seeF C p l) = Y at *
  generalize (atF C p l).isSome = z at *
  generalize (atF C p l).getD dv = u at *
  obtain ⟨up, ul, uc, un, us, ud⟩ := u
  simp only [veV] at CP
  dsimp only at HY
  go_enter Try.func15, Try.ntmps15
  go_wp2_with fail
  obtain ⟨W0, hW0⟩ : ∃ W0, w.alloc (.cells #[.int .u64 p, .int .u32 l] 33) = W0 := ⟨_, rfl⟩
  rw [hW0] at HT ⊢
  obtain ⟨bx, hbx⟩ : ∃ bx, w.heap.size = bx := ⟨_, rfl⟩
  rw [hbx] at HT
  have HBX : Hid (w.heap.size = bx) := hbx
  clear hW0
  rw [hbx]
  clear hbx
  obtain ⟨x0, x1, -⟩ := HT.out.two
  have HN0 : Hid (bx < W0.heap.size ∧ w.heap.size ≤ W0.heap.size) := ⟨World.block_lt_of_cell? _ _ x0, HT.out.bel.size⟩
  go_cut [8, 9] (fun s8 s9 wc => ∃ vb, s8 = .pointer (some ⟨vb, 0, none⟩) ∧ s9 = .bool z ∧ VeAt wc vb 0 ⟨up, ul, uc, un, us, ud⟩ ∧ Below w.heap.size w wc)
  case first =>
    go_region_held3 (fun W => W.cell? ⟨bx, 0, none⟩ = some (.int .u64 p) ∧ W.cell? ⟨bx, 1, none⟩ = some (.int .u32 l) ∧ Tx w bx p l W)
      ((with_reducible refine Tx.two ?_; with_reducible repeat (first | exact HT.out | exact H1.out.tx | exact H2.out | refine Tx.dr ?_ | refine Tx.al ?_ _ | refine Tx.st ?_ HN0.out _ _ | refine Tx.st ?_ HN1.out _ _)))
      (first
      | (go_at_call 30; refine (CC.out _ (Tx.bel (bx := bx) (p := p) (l := l) (by with_reducible repeat (first | exact HT.out | refine Tx.dr ?_ | refine Tx.al ?_ _)))).mono ?_; rintro e W1 ⟨ao, cap, rfl, hv1, hb1⟩; have H1 : Hid (Tv w bx p l (.slice ao C.length cap) C W1) := ⟨(by refine Tx.on ?_ hb1; with_reducible repeat (first | exact HT.out | refine Tx.dr ?_ | refine Tx.al ?_ _)), hv1⟩; have HN1 : Hid (bx < W1.heap.size ∧ w.heap.size ≤ W1.heap.size) := ⟨World.block_lt_of_cell? _ _ H1.out.tx.c0, H1.out.tx.bel.size⟩; clear hv1; first | ((with_reducible have Y3 := zero_box hb1); have Y4 : Hid (W1.heap[W0.heap.size]? = some (.cells #[.int .u64 0, .int .u32 0, .int .u32 0, .int .u32 0, .string ⟨#[]⟩, .bool false] 37 (0, 0))) := Y3; clear Y3 hb1) | clear hb1)
      | (go_at_call 40; refine (CP.out _ ao cap bx (by with_reducible repeat (first | exact H1.out | refine Tv.dr ?_ | refine Tv.al ?_ _))).mono ?_; rintro e W2 ⟨rfl, hb2⟩; have H2 : Hid (Tx w bx p l W2) := (by refine Tx.on ?_ hb2; refine Tv.tx (v := .slice ao C.length cap) (C := C) ?_; with_reducible repeat (first | exact H1.out | refine Tv.dr ?_ | refine Tv.al ?_ _)); first | (have Z4 : Hid (W2.heap[W0.heap.size]? = some (.cells #[.int .u64 0, .int .u32 0, .int .u32 0, .int .u32 0, .string ⟨#[]⟩, .bool false] 37 (0, 0))) := (by show _ = _; rw [hb2.block W0.heap.size (Array.getElem?_eq_some_iff.1 Y4.out).1]; exact Y4.out); obtain ⟨z0, z1, z2, z3, z4, z5, y0, y1, y2, y3, y4, y5⟩ := zero_cells Z4.out; clear hb2) | ((with_reducible have Z3 := zero_box2 hb2); have Z4 : Hid (W2.heap[W1.heap.size]? = some (.cells #[.int .u64 0, .int .u32 0, .int .u32 0, .int .u32 0, .string ⟨#[]⟩, .bool false] 37 (0, 0))) := Z3; clear Z3; obtain ⟨z0, z1, z2, z3, z4, z5, y0, y1, y2, y3, y4, y5⟩ := zero_cells Z4.out; clear hb2) | clear hb2))
    all_goals
      go_wp2_with fail
      go_meet
      first
      | (with_reducible refine ⟨_, rfl, rfl, six_set ?_, ?_⟩
         exact Z4.out
         exact Tx.bel (bx := bx) (p := p) (l := l) (by with_reducible repeat (first | exact H2.out | refine Tx.st ?_ HN0.out _ _ | refine Tx.st ?_ HN1.out _ _)))
      | exact ⟨_, rfl, rfl, ve_new _ _ _ _ _ _ _, (H2.out.al _).bel⟩
  case rest =>
    obtain ⟨vb, rfl, rfl, hve, hbl⟩ := hcut
    obtain ⟨-, -, -, -, v4, v5⟩ := hve
    simp only [Nat.zero_add] at v4 v5
    have HBl : Hid _ := hbl
    clear hbl x0 x1 HT CC CP HN0 HBX
    cases z
    · have hY : Y = ([], false) := by rw [HY.out]; simp
      subst hY
      go_wp2_with fail
      refine bodyPost_ret (v := .tuple #[.string ⟨#[]⟩, .bool false]) (by simp [results, Try.results15, go_sem]) rfl ?_
      exact ⟨rfl, HBl.out⟩
    · cases ud
      · have hY : Y = (us, true) := by rw [HY.out]; simp
        subst hY
        go_wp2_with fail
        refine bodyPost_ret (v := .tuple #[.string (bs us), .bool true]) (by simp [results, Try.results15, go_sem]) rfl ?_
        exact ⟨rfl, HBl.out⟩
      · have hY : Y = ([], false) := by rw [HY.out]; simp
        subst hY
        go_wp2_with fail
        refine bodyPost_ret (v := .tuple #[.string ⟨#[]⟩, .bool false]) (by simp [results, Try.results15, go_sem]) rfl ?_
        exact ⟨rfl, HBl.out⟩
end Go.Proofs.Ytcfhkggijdjagaa

namespace Go.Proofs.Ytcfhkggijdjagaa
open Go.RowKit

set_option maxHeartbeats 800000 in
theorem count19_of {C : List Ve} (pv : Value) (k : List UInt8) (w : World) (CC : Hid (∀ W, Below w.heap.size w W → Calls Try.prog 30 #[pv, .string (bs k)] W fun e w' => ∃ ao cap, e = .returned (.slice ao C.length cap) ∧ VsAt w'.heap.size (.slice ao C.length cap) C w' ∧ Below W.heap.size W w')) :
    Calls Try.prog 19 #[pv, .string (bs k)] w fun e w' => e = .returned (.int .i64 C.length) ∧ Below w.heap.size w w' := by
  go_enter Try.func19, Try.ntmps19
  go_wp2_with fail
  refine (CC.out _ (Below.refl _ _)).mono ?_
  rintro e w1 ⟨ao, cap, rfl, _, hb⟩
  have HB : Hid _ := hb
  clear hb CC
  go_wp2_with fail
  go_ret
  exact ⟨rfl, HB.out⟩
set_option maxHeartbeats 800000 in
theorem newest17_of {C : List Ve} (pv : Value) (k : List UInt8) (w : World) (CC : Hid (∀ W, Below w.heap.size w W → Calls Try.prog 30 #[pv, .string (bs k)] W fun e w' => ∃ ao cap, e = .returned (.slice ao C.length cap) ∧ VsAt w'.heap.size (.slice ao C.length cap) C w' ∧ Below W.heap.size W w')) :
    Calls Try.prog 17 #[pv, .string (bs k)] w fun e w' => e = .returned (.agg #[.int .u64 (newF C).1, .int .u32 (newF C).2]) ∧ Below w.heap.size w w' := by
  have CN : Hid (∀ W ao cap, VsAt W.heap.size (.slice ao C.length cap) C W → Calls Try.prog 42 #[.slice ao C.length cap] W fun e w' => e = .returned (.agg #[.int .u64 (newF C).1, .int .u32 (newF C).2]) ∧ Below W.heap.size W w') := fun W ao cap hv => newest15 W.heap.size C _ W hv (Nat.le_refl _)
  have HT : Hid (Tx w w.heap.size 0 0 (w.alloc (.cells #[.int .u64 0, .int .u32 0] 33))) := tx_new w 0 0
  generalize newF C = y at *
  obtain ⟨yp, yl⟩ := y
  dsimp only at CN ⊢
  go_enter Try.func17, Try.ntmps17
  go_wp2_with fail
  refine (CC.out _ HT.out.bel).mono ?_
  rintro e w1 ⟨ao, cap, rfl, hv, hb⟩
  have HV : Hid _ := hv
  have HB1 : Hid _ := hb
  clear hv hb
  go_wp2_with fail
  refine (CN.out _ _ _ HV.out).mono ?_
  rintro e w2 ⟨rfl, hb2⟩
  have HB : Hid (w2.heap[w.heap.size]? = some (.cells #[.int .u64 0, .int .u32 0] 33 (0, 0))) := by
    show _ = _
    have hl : w.heap.size < w1.heap.size := Nat.lt_of_lt_of_le (by simp) HB1.out.size
    rw [hb2.block w.heap.size hl, HB1.out.block w.heap.size (by simp)]
    exact heap_alloc_new w _
  have c0 : w2.cell? ⟨w.heap.size, 0, none⟩ = some (.int .u64 0) := block_cell HB.out rfl
  have c1 : w2.cell? ⟨w.heap.size, 1, none⟩ = some (.int .u32 0) := block_cell HB.out rfl
  have f0 := block_frozen HB.out 0
  have f1 := block_frozen HB.out 1
  have HT2 : Hid (Below w.heap.size w w2) := ((HT.out.on HB1.out).on hb2).bel
  clear hb2 CC CN HT HV HB1
  have HW : Hid (((w2.setCell ⟨w.heap.size, 0, none⟩ (.int .u64 yp)).setCell ⟨w.heap.size, 1, none⟩ (.int .u32 yl)).heap[w.heap.size]? = some (.cells #[.int .u64 yp, .int .u32 yl] 33 (0, 0))) := block_set _ (block_set _ HB.out)
  have d0 : ((w2.setCell ⟨w.heap.size, 0, none⟩ (.int .u64 yp)).setCell ⟨w.heap.size, 1, none⟩ (.int .u32 yl)).cell? ⟨w.heap.size, 0, none⟩ = some (.int .u64 yp) := block_cell HW.out rfl
  have d1 : ((w2.setCell ⟨w.heap.size, 0, none⟩ (.int .u64 yp)).setCell ⟨w.heap.size, 1, none⟩ (.int .u32 yl)).cell? ⟨w.heap.size, 1, none⟩ = some (.int .u32 yl) := block_cell HW.out rfl
  go_wp2_with fail
  refine bodyPost_ret (v := .agg #[.int .u64 yp, .int .u32 yl]) (by simp [results, Try.results17, go_sem, d0, d1]) rfl ?_
  exact ⟨rfl, (HT2.out.setCell (p := ⟨w.heap.size, 0, none⟩) (Nat.le_refl _) _).setCell (p := ⟨w.heap.size, 1, none⟩) (Nat.le_refl _) _⟩

theorem So.self {B p q : Nat} {t : Tr} {S : Sk} {w w' : World} (h : So B p q t S w) (hb : Below w.heap.size w w') : SoPost B p (footS p q t) S w w' := ⟨_, ⟨q, t, h.on hb, rfl⟩, Kept.of_below hb, fun _ hi => .inl hi⟩

set_option maxHeartbeats 1600000 in
theorem so_put {B p q : Nat} {t : Tr} {S : Sk} {w : World} (k : List UInt8) (x : Ve) (h : So B p q t S w) (ht : totS S < 10000) :
    Calls Try.prog 11 #[.pointer (some ⟨p, 0, none⟩), .string (bs k), veV x] w fun e w' => e = .returned (.int .i64 (putS k x S).2) ∧ SoPost B p (footS p q t) (putS k x S).1 w w' := by
  obtain ⟨xp, xl, xc, xn, xs, xd⟩ := x
  have HBx : Hid (Bx w w.heap.size ⟨xp, xl, xc, xn, xs, xd⟩ (w.alloc (.cells #[.int .u64 xp, .int .u32 xl, .int .u32 xc, .int .u32 xn, .string (bs xs), .bool xd] 37))) := ⟨ve_new _ _ _ _ _ _ _, (Below.refl _ _).alloc (Nat.le_refl _) _⟩
  have HS : Hid (So B p q t S w) := h
  have c0 := h.cell
  have hpl : p < w.heap.size := World.block_lt_of_cell? _ _ c0
  have CI : Hid (∀ W, Calls Try.prog 28 #[.string (bs k)] W fun e w' => e = .returned (.bool (keyB k)) ∧ w' = W) := fun W => isKey28 k W
  cases hkb : keyB k
  · have hk : putS k ⟨xp, xl, xc, xn, xs, xd⟩ S = (S, 1) := by unfold putS; rw [if_neg (by simp [hkb])]
    rw [hk]
    rw [hkb] at CI
    clear h hk hkb
    simp only [veV]
    go_enter Try.func11, Try.ntmps11
    go_wp2_with fail
    refine (CI.out _).mono ?_
    rintro e w1 ⟨rfl, rfl⟩
    go_wp2_with fail
    go_ret
    exact ⟨rfl, HS.out.self HBx.out.bel⟩
  · have HKl : Hid (k.length ≤ 32) := by
      show _ ≤ _
      simp [keyB] at hkb
      exact hkb.2
    have HP : Hid (putS k ⟨xp, xl, xc, xn, xs, xd⟩ S = if (putF (chainF k S) ⟨xp, xl, xc, xn, xs, xd⟩).2 = 0 then (setF k (putF (chainF k S) ⟨xp, xl, xc, xn, xs, xd⟩).1 S, 0) else (S, (putF (chainF k S) ⟨xp, xl, xc, xn, xs, xd⟩).2)) := by show _ = _; unfold putS; rw [if_pos hkb]
    rw [hkb] at CI
    have HZ : Hid ((putF (chainF k S) ⟨xp, xl, xc, xn, xs, xd⟩).2 = 0 → Ch (putF (chainF k S) ⟨xp, xl, xc, xn, xs, xd⟩).1 ∧ (putF (chainF k S) ⟨xp, xl, xc, xn, xs, xd⟩).1 ≠ []) := fun h0 => ⟨(put_good h0).1, (put_good h0).2.1⟩
    have CG : Hid (∀ W, Below w.heap.size w W → _) := fun W hb => so_of k (h.on hb)
    have CP : Hid (∀ W ao cap, VsAt W.heap.size (.slice ao (chainF k S).length cap) (chainF k S) W → Calls Try.prog 29 #[.slice ao (chainF k S).length cap, veV ⟨xp, xl, xc, xn, xs, xd⟩] W fun e w' => ∃ v', e = .returned (.tuple #[v', .int .i64 (putF (chainF k S) ⟨xp, xl, xc, xn, xs, xd⟩).2]) ∧ VsAt w'.heap.size v' (putF (chainF k S) ⟨xp, xl, xc, xn, xs, xd⟩).1 w' ∧ Below W.heap.size W w') := fun W ao cap hv => put8 W.heap.size (chainF k S) _ ⟨xp, xl, xc, xn, xs, xd⟩ W hv (Nat.le_refl _)
    generalize putS k ⟨xp, xl, xc, xn, xs, xd⟩ S = Y at *
    generalize hpq : putF (chainF k S) ⟨xp, xl, xc, xn, xs, xd⟩ = P at *
    generalize chainF k S = C at *
    have HT : Hid _ := ht
    clear hpq h ht hkb
    obtain ⟨D, er⟩ := P
    dsimp only at CP HZ HP
    simp only [veV] at CP ⊢
    go_enter Try.func11, Try.ntmps11
    go_wp2_with fail
    refine (CI.out _).mono ?_
    rintro e w0 ⟨rfl, rfl⟩
    clear CI
    obtain ⟨bx, hbx⟩ : ∃ bx, w.heap.size = bx := ⟨_, rfl⟩
    obtain ⟨W0, hW0⟩ : ∃ W0, w.alloc (.cells #[.int .u64 xp, .int .u32 xl, .int .u32 xc, .int .u32 xn, .string (bs xs), .bool xd] 37) = W0 := ⟨_, rfl⟩
    rw [hW0] at HBx ⊢
    rw [hbx] at HBx ⊢
    have HBX : Hid (w.heap.size = bx) := hbx
    clear hW0 hbx
    obtain ⟨x0, x1, x2, x3, x4, x5, -⟩ := HBx.out.s7
    go_wp2_with fail
    go_region_held3 (fun w' => w'.cell? ⟨bx, 0, none⟩ = some (.int .u64 xp) ∧ w'.cell? ⟨bx, 1, none⟩ = some (.int .u32 xl) ∧ w'.cell? ⟨bx, 2, none⟩ = some (.int .u32 xc) ∧ w'.cell? ⟨bx, 3, none⟩ = some (.int .u32 xn) ∧ w'.cell? ⟨bx, 4, none⟩ = some (.string (bs xs)) ∧ w'.cell? ⟨bx, 5, none⟩ = some (.bool xd) ∧ Hid (Bx w bx ⟨xp, xl, xc, xn, xs, xd⟩ w'))
      (first | exact HBx.out.dr.s7 | exact HBx.out.s7 | exact H1.out.1.s7 | exact H2.out.1.s7)
      (first
      | (go_at_call 30; refine (CG.out _ HBx.out.dr.bel).mono ?_; rintro e w1 ⟨ao, cap, rfl, hv, hb⟩; have H1 : Hid (Bx w bx ⟨xp, xl, xc, xn, xs, xd⟩ w1 ∧ VsAt w1.heap.size (.slice ao C.length cap) C w1) := ⟨HBx.out.dr.on hb, hv⟩; clear hv hb)
      | (go_at_call 29; refine (CP.out _ _ _ H1.out.2).mono ?_; rintro e w2 ⟨v2, rfl, hv2, hb2⟩; have H2 : Hid (Bx w bx ⟨xp, xl, xc, xn, xs, xd⟩ w2 ∧ VsAt w2.heap.size v2 D w2) := ⟨H1.out.1.on hb2, hv2⟩; clear hv2 hb2))
    rename_i hHeld
    clear hHeld
    obtain ⟨ao2, cap2, rfl⟩ : ∃ ao2 cap2, v2 = .slice ao2 D.length cap2 := by
      obtain ⟨a, c, e, _⟩ := H2.out.2
      exact ⟨a, c, e⟩
    have HB2 : Hid (Below w.heap.size w w2) := H2.out.1.bel
    have HS2 : Hid (So B p q t S w2) := HS.out.on HB2.out
    clear CP CG H1 HS x0 x1 x2 x3 x4 x5 c0 hpl HBx
    by_cases he : er = 0
    · have hY : Y = (setF k D S, 0) := by rw [HP.out, if_pos he]
      obtain ⟨hD1, hD2⟩ := HZ.out he
      have CS : Hid (1 = 1 → _) := fun _ => mc_set k HS2.out.mc HT.out H2.out.2 hD1 hD2
      have HKs : Hid (∀ y ∈ setF k D S, y.1.length ≤ 32) := fun y hy => by
        rcases setF_keys hy with rfl | hy
        · exact HKl.out
        · exact HS2.out.kl y hy
      have c0 := HS2.out.cell
      subst hY he
      clear HP HZ hD1 hD2
      go_wp2_with fail
      refine (CS.out (by trivial)).mono ?_
      rintro e w3 ⟨rfl, h3⟩
      have H3 : Hid _ := h3
      clear h3 CS c0
      go_wp2_with fail
      go_ret
      obtain ⟨t', h4, h5, h6⟩ := HS2.out.post H3.out HKs.out
      exact ⟨rfl, So.out HB2.out h4 h5 h6⟩
    · have hY : Y = (S, er) := by rw [HP.out, if_neg he]
      have he' : (er == 0) = false := by rw [beq_eq_false_iff_ne]; exact he
      subst hY
      clear HP HZ
      go_wp2_with fail
      go_ret
      exact ⟨rfl, _, ⟨q, t, HS2.out, rfl⟩, Kept.of_below HB2.out, fun _ hi => .inl hi⟩
end Go.Proofs.Ytcfhkggijdjagaa
