/-
  Contract of Raise.
-/
import Derived.Test.YtknfkpnicjellaaCuts
import Derived.Test.YtknfkpnicjellaaMxs
namespace Go.Proofs.Ytknfkpnicjellaa
open Go.RowKit

theorem max_two {a b mp ml : Int} (h : 0 ≤ a ∧ 0 ≤ b) : maxL [(a, b), (mp, ml)] = if ltT a b mp ml then (mp, ml) else (a, b) := by
  have e1 : maxF 0 0 a b = (a, b) := by
    unfold maxF lessB
    split
    · rfl
    · rename_i hn
      simp only [decide_eq_true_eq, not_or, not_and] at hn
      have ha : a = 0 := by omega
      have hb : b = 0 := by have := hn.2 ha.symm; omega
      rw [ha, hb]
  simp only [maxL, List.foldl_cons, List.foldl_nil, e1]
  rw [lt_less]
  rfl
/-- Raise's boxes beside the table. -/
structure Rz (B p pm hb : Nat) (t : Tr) (m : Mm) (w : World) (b4 b5 : Nat) (c n mp ml : Int) (W : World) : Prop where
  tx : Tx B p pm hb t m W
  bel : Below w.heap.size w W
  k4 : W.heap[b4]? = some (.cells #[.int .u32 c, .int .u32 n] 32 (0, 0))
  k5 : W.heap[b5]? = some (.cells #[.int .u64 mp, .int .u32 ml] 35 (0, 0))
theorem Rz.on {B p pm hb : Nat} {t : Tr} {m : Mm} {w W W' : World} {b4 b5 : Nat} {c n mp ml : Int} (h : Rz B p pm hb t m w b4 b5 c n mp ml W) (hb' : Below W.heap.size W W') : Rz B p pm hb t m w b4 b5 c n mp ml W' :=
  ⟨h.tx.on hb', h.bel.trans (hb'.mono h.bel.size), by rw [hb'.block _ (Array.getElem?_eq_some_iff.1 h.k4).1]; exact h.k4, by rw [hb'.block _ (Array.getElem?_eq_some_iff.1 h.k5).1]; exact h.k5⟩
theorem Rz.own {B p pm hb : Nat} {t : Tr} {m : Mm} {w W W' : World} {b4 b5 bt : Nat} {c n mp ml : Int} (h : Rz B p pm hb t m w b4 b5 c n mp ml W) (hk : Kept (fun i => i = bt) W W') (hf : ∀ i, footT p pm hb t m i → i ≠ bt) (h4 : b4 ≠ bt) (h5 : b5 ≠ bt) (hw : w.heap.size ≤ bt) : Rz B p pm hb t m w b4 b5 c n mp ml W' :=
  ⟨h.tx.kept hk hf, h.bel.trans (hk.below h.bel.size (fun k e => by rw [e]; exact hw)), by rw [hk.block _ (Array.getElem?_eq_some_iff.1 h.k4).1 h4]; exact h.k4, by rw [hk.block _ (Array.getElem?_eq_some_iff.1 h.k5).1 h5]; exact h.k5⟩
/-- .. with the terms' box. -/
structure Rt (B p pm hb : Nat) (t : Tr) (m : Mm) (w : World) (b4 b5 bt : Nat) (c n mp ml : Int) (tm : Tm) (W : World) : Prop where
  rz : Rz B p pm hb t m w b4 b5 c n mp ml W
  bx : W.heap[bt]? = some (.cells #[.int .u64 tm.sp, .int .u32 tm.sl, .int .u64 tm.mp, .int .u32 tm.ml, .string (bs tm.prim), .slice tm.sv.1 tm.sv.2.1 tm.sv.2.2] 75 (0, 0))
  far : (∀ i, footT p pm hb t m i → i ≠ bt) ∧ b4 ≠ bt ∧ b5 ≠ bt ∧ w.heap.size ≤ bt
theorem Rt.on {B p pm hb : Nat} {t : Tr} {m : Mm} {w W W' : World} {b4 b5 bt : Nat} {c n mp ml : Int} {tm : Tm} (h : Rt B p pm hb t m w b4 b5 bt c n mp ml tm W) (hb' : Below W.heap.size W W') : Rt B p pm hb t m w b4 b5 bt c n mp ml tm W' :=
  ⟨h.rz.on hb', by rw [hb'.block _ (Array.getElem?_eq_some_iff.1 h.bx).1]; exact h.bx, h.far⟩
theorem rt_new {B p pm hb : Nat} {t : Tr} {m : Mm} {w W2 W3 : World} {b4 b5 : Nat} {c n mp ml : Int} (tm : Tm) (h : Rz B p pm hb t m w b4 b5 c n mp ml W2) (hz : W2.alloc (.cells #[.int .u64 0, .int .u32 0, .int .u64 0, .int .u32 0, .string ⟨#[]⟩, .slice none 0 0] 75) = W3) : Rt B p pm hb t m w b4 b5 W2.heap.size c n mp ml tm ((((((W3.setCell ⟨W2.heap.size, 0, none⟩ (.int .u64 tm.sp)).setCell ⟨W2.heap.size, 1, none⟩ (.int .u32 tm.sl)).setCell ⟨W2.heap.size, 2, none⟩ (.int .u64 tm.mp)).setCell ⟨W2.heap.size, 3, none⟩ (.int .u32 tm.ml)).setCell ⟨W2.heap.size, 4, none⟩ (.string (bs tm.prim))).setCell ⟨W2.heap.size, 5, none⟩ (.slice tm.sv.1 tm.sv.2.1 tm.sv.2.2)).drew := by
  have h3 : Rz B p pm hb t m w b4 b5 c n mp ml W3 := by rw [← hz]; exact h.on (al _)
  have hx : W3.heap[W2.heap.size]? = some (.cells #[.int .u64 0, .int .u32 0, .int .u64 0, .int .u32 0, .string ⟨#[]⟩, .slice none 0 0] 75 (0, 0)) := by rw [← hz]; exact heap_alloc_new W2 _
  have hk := six_kept W3 W2.heap.size tm
  have e := bx6 tm hx
  have n4 := (Array.getElem?_eq_some_iff.1 h.k4).1
  have n5 := (Array.getElem?_eq_some_iff.1 h.k5).1
  have hfar : (∀ i, footT p pm hb t m i → i ≠ W2.heap.size) ∧ b4 ≠ W2.heap.size ∧ b5 ≠ W2.heap.size ∧ w.heap.size ≤ W2.heap.size := ⟨fun i hi e => by have := (h.tx.lt hi).2; omega, by omega, by omega, h.bel.size⟩
  have r := h3.own hk hfar.1 hfar.2.1 hfar.2.2.1 hfar.2.2.2
  generalize ((((((W3.setCell ⟨W2.heap.size, 0, none⟩ (.int .u64 tm.sp)).setCell ⟨W2.heap.size, 1, none⟩ (.int .u32 tm.sl)).setCell ⟨W2.heap.size, 2, none⟩ (.int .u64 tm.mp)).setCell ⟨W2.heap.size, 3, none⟩ (.int .u32 tm.ml)).setCell ⟨W2.heap.size, 4, none⟩ (.string (bs tm.prim))).setCell ⟨W2.heap.size, 5, none⟩ (.slice tm.sv.1 tm.sv.2.1 tm.sv.2.2)) = X at *
  exact ⟨r.on (Below.refl _ _).drew, e, hfar⟩
/-- Its least stamp written. -/
theorem Rt.put {B p pm hb : Nat} {t : Tr} {m : Mm} {w W : World} {b4 b5 bt : Nat} {c n mp ml : Int} {tm : Tm} (h : Rt B p pm hb t m w b4 b5 bt c n mp ml tm W) (a1 a2 : Int) : Rt B p pm hb t m w b4 b5 bt c n mp ml { tm with mp := a1, ml := a2 } ((W.setCell ⟨bt, 2, none⟩ (.int .u64 a1)).setCell ⟨bt, 3, none⟩ (.int .u32 a2)) := by
  have k1 := set_kept' W bt 2 (.int .u64 a1)
  have k2 := set_kept' (W.setCell ⟨bt, 2, none⟩ (.int .u64 a1)) bt 3 (.int .u32 a2)
  have kk := k1.trans k2 (fun i e => .inl e)
  have e1 : (W.setCell ⟨bt, 2, none⟩ (.int .u64 a1)).heap[bt]? = some (.cells #[.int .u64 tm.sp, .int .u32 tm.sl, .int .u64 a1, .int .u32 tm.ml, .string (bs tm.prim), .slice tm.sv.1 tm.sv.2.1 tm.sv.2.2] 75 (0, 0)) := block_set _ h.bx
  exact ⟨h.rz.own kk h.far.1 h.far.2.1 h.far.2.2.1 h.far.2.2.2, block_set _ e1, h.far⟩
/-- The terms laid down anew. -/
theorem rt_upd {B p pm hb : Nat} {t : Tr} {m : Mm} {w W : World} {b4 b5 bt : Nat} {c n mp ml : Int} {tm tm' : Tm} (h : Rt B p pm hb t m w b4 b5 bt c n mp ml tm' W) (hg : getM (c, n) m = some tm) (hsv : tm'.sv = tm.sv) (hkl : tm'.kl = tm.kl) {T' : Tb} (hr : Rel t.toL (setM (c, n) tm' m) T') :
    ∃ w', (Instr.mapUpdate 63 (.map (some hb)) (.agg #[.int .u32 c, .int .u32 n]) (tmV tm')).run Try.prog W = .ok () w' ∧ (∃ M', TabAt B p M' T' w' ∧ Kept (footT p pm hb t m) w w' ∧ ∀ i, M' i → footT p pm hb t m i ∨ w.heap.size ≤ i) := by
  obtain ⟨w', hrun, hgm, hk⟩ := run_upd h.rz.tx.gm (c, n) tm'
  refine ⟨w', hrun, footT p pm hb t (setM (c, n) tm' m), ⟨pm, hb, t, _, h.rz.tx.terms hgm hk (fun x hx => ?_), hr, rfl⟩, (Kept.of_below h.rz.bel).trans hk (fun i e => .inl (.inr (.inl e))), footT_sub (fun i e => .inl e) (fun x hx i e => .inl ?_)⟩
  · rcases mem_setM hx with rfl | e
    · exact .inl ⟨((c, n), tm), get_mem hg, by unfold svV; rw [hsv], hkl.symm⟩
    · exact .inl ⟨x, e, rfl, rfl⟩
  · rcases mem_setM hx with rfl | e2
    · refine ⟨((c, n), tm), get_mem hg, ?_⟩
      unfold svV at e ⊢
      rw [← hsv]
      exact e
    · exact ⟨x, e2, e⟩

set_option maxHeartbeats 3200000 in
set_option maxRecDepth 100000 in
theorem raise15 {B p pm hb : Nat} {t : Tr} {m : Mm} {T : Tb} {w : World} (c n mp ml : Int) (h : Tx B p pm hb t m w) (hr : Rel t.toL m T) (h0 : 0 ≤ mp ∧ 0 ≤ ml) : Calls Try.prog 15 #[.pointer (some ⟨p, 0, none⟩), .agg #[.int .u32 c, .int .u32 n], .agg #[.int .u64 mp, .int .u32 ml]] w fun e w' => e = .returned (.bool (rseB c n mp ml T)) ∧ ∃ M', TabAt B p M' (rseF c n mp ml T) w' ∧ Kept (footT p pm hb t m) w w' ∧ ∀ i, M' i → footT p pm hb t m i ∨ w.heap.size ≤ i := by
  have hsome := hr.isSome c n
  obtain ⟨W0, hW0⟩ : ∃ W0, w.alloc (.cells #[.int .u32 c, .int .u32 n] 32) = W0 := ⟨_, rfl⟩
  obtain ⟨W1, hW1⟩ : ∃ W1, W0.alloc (.cells #[.int .u64 mp, .int .u32 ml] 35) = W1 := ⟨_, rfl⟩
  have hz1 : Rz B p pm hb t m w w.heap.size W0.heap.size c n mp ml W1 := by
    have hb0 : Below w.heap.size w W0 := by rw [← hW0]; exact al _
    have hb1 : Below W0.heap.size W0 W1 := by rw [← hW1]; exact al _
    have hx0 : W0.heap[w.heap.size]? = some (.cells #[.int .u32 c, .int .u32 n] 32 (0, 0)) := by rw [← hW0]; exact heap_alloc_new w _
    have hx1 : W1.heap[W0.heap.size]? = some (.cells #[.int .u64 mp, .int .u32 ml] 35 (0, 0)) := by rw [← hW1]; exact heap_alloc_new W0 _
    exact ⟨(h.on hb0).on hb1, hb0.trans (hb1.mono hb0.size), by rw [hb1.block _ (Array.getElem?_eq_some_iff.1 hx0).1]; exact hx0, hx1⟩
  obtain ⟨b4, hb4⟩ : ∃ b4, w.heap.size = b4 := ⟨_, rfl⟩
  obtain ⟨b5, hb5⟩ : ∃ b5, W0.heap.size = b5 := ⟨_, rfl⟩
  rw [hb4, hb5] at hz1
  have HZ : Hid (Rz B p pm hb t m w b4 b5 c n mp ml W1) := hz1
  have HB4 : Hid (w.heap.size = b4) := hb4
  have HSt : Hid (∀ W, Rz B p pm hb t m w b4 b5 c n mp ml W → rseF c n mp ml T = T → ∃ M', TabAt B p M' (rseF c n mp ml T) W ∧ Kept (footT p pm hb t m) w W ∧ ∀ i, M' i → footT p pm hb t m i ∨ w.heap.size ≤ i) := fun W hW e => by
    rw [e]
    exact ⟨_, ⟨pm, hb, t, m, hW.tx, hr, rfl⟩, Kept.of_below hW.bel, fun i hi => .inl hi⟩
  have CH : Hid (1 = 1 → Calls Try.prog 29 #[.pointer (some ⟨p, 0, none⟩), .agg #[.int .u32 c, .int .u32 n]] W1 fun e w' => e = .returned (.bool (getM (c, n) m).isSome) ∧ Hid (Rz B p pm hb t m w b4 b5 c n mp ml w')) := fun _ => by
    refine (has29 c n HZ.out.tx).mono ?_
    rintro e w' ⟨rfl, hb'⟩
    exact ⟨rfl, HZ.out.on hb'⟩
  have CR : Hid (∀ W, Hid (Rz B p pm hb t m w b4 b5 c n mp ml W) → Calls Try.prog 27 #[.agg #[.int .u64 mp, .int .u32 ml]] W fun e w' => e = .returned (.bool (rightB mp ml)) ∧ Hid (Rz B p pm hb t m w b4 b5 c n mp ml w')) := fun W hW => by
    refine (rightP mp ml W).mono ?_
    rintro e w' ⟨rfl, hb'⟩
    exact ⟨rfl, hW.out.on hb'⟩
  have z0 : W1.cell? ⟨b4, 0, none⟩ = some (.int .u32 c) := block_cell hz1.k4 rfl
  have z1 : W1.cell? ⟨b4, 1, none⟩ = some (.int .u32 n) := block_cell hz1.k4 rfl
  cases hg : getM (c, n) m with
  | none =>
    rw [hg] at hsome CH
    have hB : rseB c n mp ml T = false := by unfold rseB; rw [← hsome]; rfl
    have hF : rseF c n mp ml T = T := by unfold rseF; rw [hB]; rfl
    rw [hB]
    have HS2 : Hid (∀ W, Rz B p pm hb t m w b4 b5 c n mp ml W → _) := fun W hW => HSt.out W hW hF
    simp only [Option.isSome_none] at CH
    clear h hr hz1 hsome hg hB hF HZ HSt
    generalize rseF c n mp ml T = T' at *
    generalize footT p pm hb t m = F at *
    go_enter Try.func15, Try.ntmps15
    go_wp2_with fail
    refine (CH.out (by trivial)).mono ?_
    rintro e w1 ⟨rfl, HZ⟩
    clear CH z0 z1 hW0 hW1 hb4 hb5
    go_wp2_with fail
    go_ret
    exact ⟨rfl, HS2.out _ HZ.out⟩
  | some tm =>
    rw [hg] at hsome CH
    simp only [Option.isSome_some] at CH hsome
    obtain ⟨hkl1, hkl2, hnn⟩ := hr.ks _ _ hg
    cases hrb : rightB mp ml with
    | false =>
      rw [hrb] at CR
      have hB : rseB c n mp ml T = false := by unfold rseB; rw [hrb, Bool.and_false]
      have hF : rseF c n mp ml T = T := by unfold rseF; rw [hB]; rfl
      rw [hB]
      have HS2 : Hid (∀ W, Rz B p pm hb t m w b4 b5 c n mp ml W → _) := fun W hW => HSt.out W hW hF
      clear h hr hz1 hsome hg hB hF HZ HSt
      generalize rseF c n mp ml T = T' at *
      generalize footT p pm hb t m = F at *
      go_enter Try.func15, Try.ntmps15
      go_wp2_with fail
      refine (CH.out (by trivial)).mono ?_
      rintro e w1 ⟨rfl, HZ⟩
      have y0 : w1.cell? ⟨b5, 0, none⟩ = some (.int .u64 mp) := block_cell HZ.out.k5 rfl
      have y1 : w1.cell? ⟨b5, 1, none⟩ = some (.int .u32 ml) := block_cell HZ.out.k5 rfl
      clear CH z0 z1 hW0 hW1 hb4 hb5
      go_wp2_with fail
      refine (CR.out _ HZ).mono ?_
      rintro e w2 ⟨rfl, HZ2⟩
      clear CR y0 y1 HZ
      go_wp2_with fail
      go_ret
      exact ⟨rfl, HS2.out _ HZ2.out⟩
    | true =>
      rw [hrb] at CR
      have hB : rseB c n mp ml T = true := by unfold rseB; rw [hrb, ← hsome]; rfl
      have hF : rseF c n mp ml T = raiseF c n mp ml T := by unfold rseF; rw [hB]; rfl
      rw [hB, hF]
      obtain ⟨a1, ha1⟩ : ∃ a1, (maxL [(tm.mp, tm.ml), (mp, ml)]).1 = a1 := ⟨_, rfl⟩
      obtain ⟨a2, ha2⟩ : ∃ a2, (maxL [(tm.mp, tm.ml), (mp, ml)]).2 = a2 := ⟨_, rfl⟩
      have hrr := hr.raise hg h0
      have htm : (if ltT tm.mp tm.ml mp ml then { tm with mp := mp, ml := ml } else tm) = { tm with mp := a1, ml := a2 } := by
        rw [← ha1, ← ha2, max_two hnn]
        split <;> rfl
      rw [htm] at hrr
      have HQ : Hid (∀ W, Tx B p pm hb t m W → (Instr.lookup 63 (.map (some hb)) (.agg #[.int .u32 c, .int .u32 n]) false).run Try.prog W = .ok (.agg #[.int .u64 tm.sp, .int .u32 tm.sl, .int .u64 tm.mp, .int .u32 tm.ml, .string (bs tm.prim), .slice tm.sv.1 tm.sv.2.1 tm.sv.2.2]) W) := fun W hW => by
        have := run_look hW.gm (c, n)
        rw [hg] at this
        exact this
      have HU : Hid (∀ W, Rt B p pm hb t m w b4 b5 0 c n mp ml tm W → True) := fun _ _ => trivial
      clear HU
      have HU : Hid (∀ bt W, Rt B p pm hb t m w b4 b5 bt c n mp ml { tm with mp := a1, ml := a2 } W → ∃ w', (Instr.mapUpdate 63 (.map (some hb)) (.agg #[.int .u32 c, .int .u32 n]) (.agg #[.int .u64 tm.sp, .int .u32 tm.sl, .int .u64 a1, .int .u32 a2, .string (bs tm.prim), .slice tm.sv.1 tm.sv.2.1 tm.sv.2.2])).run Try.prog W = .ok () w' ∧ Hid (∃ M', TabAt B p M' (raiseF c n mp ml T) w' ∧ Kept (footT p pm hb t m) w w' ∧ ∀ i, M' i → footT p pm hb t m i ∨ w.heap.size ≤ i)) := fun bt W hW => rt_upd hW hg rfl rfl hrr
      have CM : Hid (∀ bk W bt, bk < W.heap.size → Hid (Rt B p pm hb t m w b4 b5 bt c n mp ml tm W) → W.heap[bk]? = some (.cells #[.int .u64 tm.mp, .int .u32 tm.ml, .int .u64 mp, .int .u32 ml] 35 (0, 0)) → Calls Try.prog 39 #[.slice (some ⟨bk, 0, none⟩) 2 2] W fun e w' => e = .returned (.agg #[.int .u64 a1, .int .u32 a2]) ∧ Hid (Rt B p pm hb t m w b4 b5 bt c n mp ml tm w')) := fun bk W bt hbk hW hx => by
        have := max39_row bk W hbk 2 [(tm.mp, tm.ml), (mp, ml)] rfl (by omega) (fun i hi => by
          rcases (by omega : i = 0 ∨ i = 1) with rfl | rfl
          · exact ⟨block_cell hx rfl, block_cell hx rfl⟩
          · exact ⟨block_cell hx rfl, block_cell hx rfl⟩)
        rw [ha1, ha2] at this
        refine Calls.mono this ?_
        rintro e w' ⟨rfl, hb'⟩
        exact ⟨rfl, hW.out.on hb'⟩
      clear h hr hz1 hsome hg hB hF HZ HSt hrr htm ha1 ha2 hkl1 hkl2 hnn h0 hrb
      generalize raiseF c n mp ml T = T' at *
      generalize hFF : footT p pm hb t m = F at *
      clear hFF
      go_enter Try.func15, Try.ntmps15
      go_wp2_with fail
      refine (CH.out (by trivial)).mono ?_
      rintro e w1 ⟨rfl, HZ⟩
      have y0 : w1.cell? ⟨b5, 0, none⟩ = some (.int .u64 mp) := block_cell HZ.out.k5 rfl
      have y1 : w1.cell? ⟨b5, 1, none⟩ = some (.int .u32 ml) := block_cell HZ.out.k5 rfl
      clear CH z0 z1 hW0 hW1 hb4 hb5
      go_wp2_with fail
      refine (CR.out _ HZ).mono ?_
      rintro e w2 ⟨rfl, HZ2⟩
      clear CR y0 y1 HZ
      obtain ⟨W3, hW3⟩ : ∃ W3, w2.alloc (.cells #[.int .u64 0, .int .u32 0, .int .u64 0, .int .u32 0, .string ⟨#[]⟩, .slice none 0 0] 75) = W3 := ⟨_, rfl⟩
      have HZ3 : Hid (Rz B p pm hb t m w b4 b5 c n mp ml W3) := by rw [← hW3]; exact HZ2.out.on (al _)
      have hx3 : W3.heap[w2.heap.size]? = some (.cells #[.int .u64 0, .int .u32 0, .int .u64 0, .int .u32 0, .string ⟨#[]⟩, .slice none 0 0] 75 (0, 0)) := by rw [← hW3]; exact heap_alloc_new w2 _
      have HRt : Hid _ := rt_new tm HZ2.out hW3
      have q0 := HQ.out w2 HZ2.out.tx
      have q1 := HQ.out w2.drew (HZ2.out.tx.on ((Below.refl _ _).drew))
      have q2 := HQ.out W3 HZ3.out.tx
      have q3 := HQ.out W3.drew (HZ3.out.tx.on ((Below.refl _ _).drew))
      have u0 : w2.cell? ⟨b4, 0, none⟩ = some (.int .u32 c) := block_cell HZ2.out.k4 rfl
      have u1 : w2.cell? ⟨b4, 1, none⟩ = some (.int .u32 n) := block_cell HZ2.out.k4 rfl
      have v0 : W3.cell? ⟨b4, 0, none⟩ = some (.int .u32 c) := block_cell HZ3.out.k4 rfl
      have v1 : W3.cell? ⟨b4, 1, none⟩ = some (.int .u32 n) := block_cell HZ3.out.k4 rfl
      have s0 : W3.cell? ⟨w2.heap.size, 0, none⟩ = some (.int .u64 0) := block_cell hx3 rfl
      have s1 : W3.cell? ⟨w2.heap.size, 1, none⟩ = some (.int .u32 0) := block_cell hx3 rfl
      have s2 : W3.cell? ⟨w2.heap.size, 2, none⟩ = some (.int .u64 0) := block_cell hx3 rfl
      have s3 : W3.cell? ⟨w2.heap.size, 3, none⟩ = some (.int .u32 0) := block_cell hx3 rfl
      have s4 : W3.cell? ⟨w2.heap.size, 4, none⟩ = some (.string ⟨#[]⟩) := block_cell hx3 rfl
      have s5 : W3.cell? ⟨w2.heap.size, 5, none⟩ = some (.slice none 0 0) := block_cell hx3 rfl
      have sf0 : W3.frozen? ⟨w2.heap.size, 0, none⟩ = false := block_frozen hx3 0
      have sf1 : W3.frozen? ⟨w2.heap.size, 1, none⟩ = false := block_frozen hx3 1
      have sf2 : W3.frozen? ⟨w2.heap.size, 2, none⟩ = false := block_frozen hx3 2
      have sf3 : W3.frozen? ⟨w2.heap.size, 3, none⟩ = false := block_frozen hx3 3
      have sf4 : W3.frozen? ⟨w2.heap.size, 4, none⟩ = false := block_frozen hx3 4
      have sf5 : W3.frozen? ⟨w2.heap.size, 5, none⟩ = false := block_frozen hx3 5
      have d1 := HZ2.out.tx.cells.2
      have d2 := HZ3.out.tx.cells.2
      clear hx3 HQ HZ2 HZ3
      obtain ⟨bt, hbt⟩ : ∃ bt, w2.heap.size = bt := ⟨_, rfl⟩
      rw [hbt] at HRt s0 sf0 s1 sf1 s2 sf2 s3 sf3 s4 sf4 s5 sf5
      go_wp2_with fail
      go_region
      obtain ⟨W4, hW4⟩ : ∃ W4, ((((((W3.setCell ⟨bt, 0, none⟩ (.int .u64 tm.sp)).setCell ⟨bt, 1, none⟩ (.int .u32 tm.sl)).setCell ⟨bt, 2, none⟩ (.int .u64 tm.mp)).setCell ⟨bt, 3, none⟩ (.int .u32 tm.ml)).setCell ⟨bt, 4, none⟩ (.string (bs tm.prim))).setCell ⟨bt, 5, none⟩ (.slice tm.sv.1 tm.sv.2.1 tm.sv.2.2)).drew = W4 := ⟨_, rfl⟩
      rw [hW4] at HRt ⊢
      clear hW4 hW3 hbt d1 d2 q0 q1 q2 q3 u0 u1 v0 v1 s0 sf0 s1 sf1 s2 sf2 s3 sf3 s4 sf4 s5 sf5
      have s2 : W4.cell? ⟨bt, 2, none⟩ = some (.int .u64 tm.mp) := block_cell HRt.out.bx rfl
      have s3 : W4.cell? ⟨bt, 3, none⟩ = some (.int .u32 tm.ml) := block_cell HRt.out.bx rfl
      have y0 : W4.cell? ⟨b5, 0, none⟩ = some (.int .u64 mp) := block_cell HRt.out.rz.k5 rfl
      have y1 : W4.cell? ⟨b5, 1, none⟩ = some (.int .u32 ml) := block_cell HRt.out.rz.k5 rfl
      obtain ⟨W5, hW5⟩ : ∃ W5, W4.alloc (.cells #[.int .u64 tm.mp, .int .u32 tm.ml, .int .u64 mp, .int .u32 ml] 35) = W5 := ⟨_, rfl⟩
      have HR5 : Hid (Rt B p pm hb t m w b4 b5 bt c n mp ml tm W5) := by rw [← hW5]; exact HRt.out.on (al _)
      have hx5 : W5.heap[W4.heap.size]? = some (.cells #[.int .u64 tm.mp, .int .u32 tm.ml, .int .u64 mp, .int .u32 ml] 35 (0, 0)) := by rw [← hW5]; exact heap_alloc_new W4 _
      have CX : Hid (1 = 1 → _) := fun _ => CM.out W4.heap.size W5 bt (Array.getElem?_eq_some_iff.1 hx5).1 HR5 hx5
      clear hx5 CM HRt HR5
      go_wp2_with fail
      refine (CX.out (by trivial)).mono ?_
      rintro e w6 ⟨rfl, HR6⟩
      have x2 : w6.cell? ⟨bt, 2, none⟩ = some (.int .u64 tm.mp) := block_cell HR6.out.bx rfl
      have x3 : w6.cell? ⟨bt, 3, none⟩ = some (.int .u32 tm.ml) := block_cell HR6.out.bx rfl
      have f2 := block_frozen HR6.out.bx 2
      have f3 := block_frozen HR6.out.bx 3
      have HR7 : Hid _ := HR6.out.put a1 a2
      obtain ⟨W7, hW7⟩ : ∃ W7, (w6.setCell ⟨bt, 2, none⟩ (.int .u64 a1)).setCell ⟨bt, 3, none⟩ (.int .u32 a2) = W7 := ⟨_, rfl⟩
      rw [hW7] at HR7
      obtain ⟨w8, hrun, HEnd⟩ := HU.out bt W7.drew (HR7.out.on (Below.refl _ _).drew)
      have t0 : W7.cell? ⟨bt, 0, none⟩ = some (.int .u64 tm.sp) := block_cell HR7.out.bx rfl
      have t1 : W7.cell? ⟨bt, 1, none⟩ = some (.int .u32 tm.sl) := block_cell HR7.out.bx rfl
      have t2 : W7.cell? ⟨bt, 2, none⟩ = some (.int .u64 a1) := block_cell HR7.out.bx rfl
      have t3 : W7.cell? ⟨bt, 3, none⟩ = some (.int .u32 a2) := block_cell HR7.out.bx rfl
      have t4 : W7.cell? ⟨bt, 4, none⟩ = some (.string (bs tm.prim)) := block_cell HR7.out.bx rfl
      have t5 : W7.cell? ⟨bt, 5, none⟩ = some (.slice tm.sv.1 tm.sv.2.1 tm.sv.2.2) := block_cell HR7.out.bx rfl
      have u0 : W7.cell? ⟨b4, 0, none⟩ = some (.int .u32 c) := block_cell HR7.out.rz.k4 rfl
      have u1 : W7.cell? ⟨b4, 1, none⟩ = some (.int .u32 n) := block_cell HR7.out.rz.k4 rfl
      have d1 := HR7.out.rz.tx.cells.2
      clear CX s2 s3 y0 y1 hW5 HR6 HR7 HU
      go_wp2_with fail
      go_region
      go_wp2_with fail
      go_ret
      exact ⟨rfl, HEnd.out⟩

set_option maxHeartbeats 400000 in
set_option maxRecDepth 100000 in
theorem has29_nil (c n : Int) (w : World) : Calls Try.prog 29 #[.pointer none, .agg #[.int .u32 c, .int .u32 n]] w fun e w' => e = .returned (.bool false) ∧ Below w.heap.size w w' := by
  go_enter Try.func29, Try.ntmps29
  go_wp2_with fail
  go_ret
  exact ⟨rfl, al _⟩
set_option maxHeartbeats 400000 in
set_option maxRecDepth 100000 in
theorem raise15_nil (c n mp ml : Int) (w : World) : Calls Try.prog 15 #[.pointer none, .agg #[.int .u32 c, .int .u32 n], .agg #[.int .u64 mp, .int .u32 ml]] w fun e w' => e = .returned (.bool false) ∧ Below w.heap.size w w' := by
  have CH : Hid (∀ W, Below w.heap.size w W → Calls Try.prog 29 #[.pointer none, .agg #[.int .u32 c, .int .u32 n]] W fun e w' => e = .returned (.bool false) ∧ Hid (Below w.heap.size w w')) := fun W hW => by
    refine (has29_nil c n W).mono ?_
    rintro e w' ⟨rfl, hb'⟩
    exact ⟨rfl, hW.trans (hb'.mono hW.size)⟩
  go_enter Try.func15, Try.ntmps15
  go_wp2_with fail
  refine (CH.out _ ((al _).trans ((al _).mono (by simp)))).mono ?_
  rintro e w1 ⟨rfl, HB⟩
  clear CH
  go_wp2_with fail
  go_ret
  exact ⟨rfl, HB.out⟩
end Go.Proofs.Ytknfkpnicjellaa
