/-
  Which verdicts Retire takes away: its closure.
-/
import Derived.Test.YtkadaoebehgkbaaSe
namespace Go.Proofs.Ytkadaoebehgkbaa
open Go.RowKit

/-- What the closure has captured: the set of those that are kept, the safe stamp. -/
structure Cap (sb bk bs : Nat) (S : List (Int × Int)) (sp sl : Int) (w : World) : Prop where
  set : SetAt sb S w
  bk : w.heap[bk]? = some (.cells #[.map (some sb)] 62 (0, 0))
  bs : w.heap[bs]? = some (.cells #[.int .u64 sp, .int .u32 sl] 35 (0, 0))
theorem Cap.kept {sb bk bs : Nat} {S : List (Int × Int)} {sp sl : Int} {w w' : World} {F : Nat → Prop} (h : Cap sb bk bs S sp sl w) (hk : Kept F w w') (h1 : ¬ F sb) (h2 : ¬ F bk) (h3 : ¬ F bs) : Cap sb bk bs S sp sl w' :=
  ⟨h.set.kept hk h1, by rw [hk.block _ (Array.getElem?_eq_some_iff.1 h.bk).1 h2]; exact h.bk, by rw [hk.block _ (Array.getElem?_eq_some_iff.1 h.bs).1 h3]; exact h.bs⟩
theorem Cap.on {sb bk bs : Nat} {S : List (Int × Int)} {sp sl : Int} {w w' : World} (h : Cap sb bk bs S sp sl w) (hb : Below w.heap.size w w') : Cap sb bk bs S sp sl w' := h.kept (F := fun _ => False) (Kept.of_below hb) (fun h => h) (fun h => h) (fun h => h)
/-- It goes. -/
def goB (S : List (Int × Int)) (sp sl : Int) (x : Vd) : Bool := !decide ((x.c, x.n) ∈ S) && ovB x && lessB x.sp x.sl sp sl
theorem go_stay {S L : List (Int × Int)} (h : ∀ x, x ∈ S ↔ x ∈ L) (sp sl : Int) (x : Vd) : (!goB S sp sl x) = stayB sp sl L x := by
  have e : decide ((x.c, x.n) ∈ S) = L.contains (x.c, x.n) := by
    rw [Bool.eq_iff_iff, decide_eq_true_iff, h, List.contains_iff_mem]
  unfold goB stayB ovB
  rw [e]
  cases L.contains (x.c, x.n) <;> cases x.dn <;> cases cmB x <;> cases lessB x.sp x.sl sp sl <;> rfl

set_option maxHeartbeats 1600000 in
set_option maxRecDepth 100000 in
theorem del26 {sb bk bs : Nat} {S : List (Int × Int)} {sp sl : Int} {w : World} (x : Vd) (h : Cap sb bk bs S sp sl w) :
    Calls Try.prog 26 #[.agg #[.int .u32 x.c, .int .u32 x.n], .agg #[.int .u32 x.c, .int .u32 x.n, .int .u64 x.sp, .int .u32 x.sl, .int .u64 x.ap, .int .u32 x.al, .int .u8 x.pt, .bool x.dn], .pointer (some ⟨bk, 0, none⟩), .pointer (some ⟨bs, 0, none⟩)] w fun e w' => e = .returned (.bool (goB S sp sl x)) ∧ Below w.heap.size w w' := by
  obtain ⟨W0, hW0⟩ : ∃ W0, w.alloc (.cells #[.int .u32 x.c, .int .u32 x.n] 32) = W0 := ⟨_, rfl⟩
  have hb0 : Below w.heap.size w W0 := by rw [← hW0]; exact al _
  have hx0 : W0.heap[w.heap.size]? = some (.cells #[.int .u32 x.c, .int .u32 x.n] 32 (0, 0)) := by rw [← hW0]; exact heap_alloc_new w _
  obtain ⟨W1, hW1⟩ : ∃ W1, W0.alloc (.cells #[.int .u32 x.c, .int .u32 x.n, .int .u64 x.sp, .int .u32 x.sl, .int .u64 x.ap, .int .u32 x.al, .int .u8 x.pt, .bool x.dn] 37) = W1 := ⟨_, rfl⟩
  have hb1' : Below W0.heap.size W0 W1 := by rw [← hW1]; exact al _
  have hb1 : Below w.heap.size w W1 := hb0.trans (hb1'.mono hb0.size)
  have hx1 : W1.heap[w.heap.size]? = some (.cells #[.int .u32 x.c, .int .u32 x.n] 32 (0, 0)) := by rw [hb1'.block _ (Array.getElem?_eq_some_iff.1 hx0).1]; exact hx0
  have hv1 : W1.heap[W0.heap.size]? = some (.cells #[.int .u32 x.c, .int .u32 x.n, .int .u64 x.sp, .int .u32 x.sl, .int .u64 x.ap, .int .u32 x.al, .int .u8 x.pt, .bool x.dn] 37 (0, 0)) := by rw [← hW1]; exact heap_alloc_new W0 _
  obtain ⟨W2, hW2⟩ : ∃ W2, W1.alloc (.cells #[] 65) = W2 := ⟨_, rfl⟩
  have hb2' : Below W1.heap.size W1 W2 := by rw [← hW2]; exact al _
  have h1 := h.on hb1
  obtain ⟨bt, hbt⟩ : ∃ bt, w.heap.size = bt := ⟨_, rfl⟩
  obtain ⟨bv, hbv⟩ : ∃ bv, W0.heap.size = bv := ⟨_, rfl⟩
  have HV : Hid (∀ W, Below W2.heap.size W2 W → Cap sb bk bs S sp sl W ∧ W.heap[bv]? = some (.cells #[.int .u32 x.c, .int .u32 x.n, .int .u64 x.sp, .int .u32 x.sl, .int .u64 x.ap, .int .u32 x.al, .int .u8 x.pt, .bool x.dn] 37 (0, 0)) ∧ Below w.heap.size w W) := fun W hb => by
    have hb' : Below W1.heap.size W1 W := hb2'.trans (hb.mono hb2'.size)
    exact ⟨h1.on hb', by rw [← hbv, hb'.block _ (Array.getElem?_eq_some_iff.1 hv1).1]; exact hv1, hb1.trans (hb'.mono hb1.size)⟩
  have H2 : Hid (Cap sb bk bs S sp sl W2 ∧ W2.heap[bv]? = some (.cells #[.int .u32 x.c, .int .u32 x.n, .int .u64 x.sp, .int .u32 x.sl, .int .u64 x.ap, .int .u32 x.al, .int .u8 x.pt, .bool x.dn] 37 (0, 0)) ∧ Below w.heap.size w W2) := HV.out W2 (Below.refl _ _)
  have q0 := run_has h1.set x.c x.n
  rw [hbt] at hx1
  have k0 : W1.cell? ⟨bk, 0, none⟩ = some (.map (some sb)) := block_cell h1.bk rfl
  have t0 : W1.cell? ⟨bt, 0, none⟩ = some (.int .u32 x.c) := block_cell hx1 rfl
  have t1 : W1.cell? ⟨bt, 1, none⟩ = some (.int .u32 x.n) := block_cell hx1 rfl
  have CO : Hid (∀ W, 1 = 1 → Calls Try.prog 27 #[.agg #[.int .u32 x.c, .int .u32 x.n, .int .u64 x.sp, .int .u32 x.sl, .int .u64 x.ap, .int .u32 x.al, .int .u8 x.pt, .bool x.dn]] W fun e w' => e = .returned (.bool (ovB x)) ∧ Below W.heap.size W w') := fun W _ => over27 x W
  have CL : Hid (∀ W, 1 = 1 → Calls Try.prog 28 #[.agg #[.int .u64 x.sp, .int .u32 x.sl], .agg #[.int .u64 sp, .int .u32 sl]] W fun e w' => e = .returned (.bool (lessB x.sp x.sl sp sl)) ∧ Below W.heap.size W w') := fun W _ => lessP x.sp x.sl sp sl W
  have HG : Hid (goB S sp sl x = (!decide ((x.c, x.n) ∈ S) && ovB x && lessB x.sp x.sl sp sl)) := rfl
  clear h h1 hb0 hb1 hb1' hb2' hx0 hx1 hv1
  generalize goB S sp sl x = y at *
  generalize decide ((x.c, x.n) ∈ S) = z at *
  generalize ovB x = o at *
  generalize lessB x.sp x.sl sp sl = r at *
  have v0 : W2.cell? ⟨bv, 0, none⟩ = some (.int .u32 x.c) := block_cell H2.out.2.1 rfl
  have v1 : W2.cell? ⟨bv, 1, none⟩ = some (.int .u32 x.n) := block_cell H2.out.2.1 rfl
  have v2 : W2.cell? ⟨bv, 2, none⟩ = some (.int .u64 x.sp) := block_cell H2.out.2.1 rfl
  have v3 : W2.cell? ⟨bv, 3, none⟩ = some (.int .u32 x.sl) := block_cell H2.out.2.1 rfl
  have v4 : W2.cell? ⟨bv, 4, none⟩ = some (.int .u64 x.ap) := block_cell H2.out.2.1 rfl
  have v5 : W2.cell? ⟨bv, 5, none⟩ = some (.int .u32 x.al) := block_cell H2.out.2.1 rfl
  have v6 : W2.cell? ⟨bv, 6, none⟩ = some (.int .u8 x.pt) := block_cell H2.out.2.1 rfl
  have v7 : W2.cell? ⟨bv, 7, none⟩ = some (.bool x.dn) := block_cell H2.out.2.1 rfl
  cases z
  · go_enter Try.func26, Try.ntmps26
    go_wp2_with fail
    refine (CO.out _ (by simp)).mono ?_
    rintro e w3 ⟨rfl, hb3⟩
    have H3 : Hid (Cap sb bk bs S sp sl w3 ∧ w3.heap[bv]? = some (.cells #[.int .u32 x.c, .int .u32 x.n, .int .u64 x.sp, .int .u32 x.sl, .int .u64 x.ap, .int .u32 x.al, .int .u8 x.pt, .bool x.dn] 37 (0, 0)) ∧ Below w.heap.size w w3) := HV.out w3 hb3
    clear q0 k0 t0 t1 v0 v1 v2 v3 v4 v5 v6 v7 hW0 hW1 hW2 hbt hbv hb3 HV CO H2
    cases o
    · go_wp2_with fail
      go_ret
      exact ⟨by rw [HG.out]; rfl, H3.out.2.2⟩
    · have v2 : w3.cell? ⟨bv, 2, none⟩ = some (.int .u64 x.sp) := block_cell H3.out.2.1 rfl
      have v3 : w3.cell? ⟨bv, 3, none⟩ = some (.int .u32 x.sl) := block_cell H3.out.2.1 rfl
      have s0 : w3.cell? ⟨bs, 0, none⟩ = some (.int .u64 sp) := block_cell H3.out.1.bs rfl
      have s1 : w3.cell? ⟨bs, 1, none⟩ = some (.int .u32 sl) := block_cell H3.out.1.bs rfl
      go_wp2_with fail
      refine (CL.out _ (by simp)).mono ?_
      rintro e w4 ⟨rfl, hb4⟩
      have HB4 : Hid (Below w.heap.size w w4) := H3.out.2.2.trans (hb4.mono H3.out.2.2.size)
      clear hb4 v2 v3 s0 s1
      cases r
      · go_wp2_with fail
        go_ret
        exact ⟨by rw [HG.out]; rfl, HB4.out⟩
      · go_wp2_with fail
        go_ret
        exact ⟨by rw [HG.out]; rfl, HB4.out⟩
  · go_enter Try.func26, Try.ntmps26
    go_wp2_with fail
    go_ret
    exact ⟨by rw [HG.out]; rfl, by have := H2.out.2.2; rwa [hbt] at this⟩
end Go.Proofs.Ytkadaoebehgkbaa
