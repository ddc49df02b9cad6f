/-
  maps.DeleteFunc of the book's map.
-/
import Derived.Test.YtkadaoebehgkbaaDl
namespace Go.Proofs.Ytkadaoebehgkbaa
open Go.RowKit

/-- Verdicts that were looked at and stay: acc; still to come: left; there now: m; there at first: m0. -/
structure Dw (g : Vd → Bool) (m0 m acc left : Bk) : Prop where
  now : m.Perm (acc ++ left)
  all : (acc ++ left.filter fun x => !g x).Perm (m0.filter fun x => !g x)
theorem Dw.start (g : Vd → Bool) (m : Bk) : Dw g m m [] m := ⟨by simp, by simp⟩
theorem Dw.stay {g : Vd → Bool} {m0 m acc L1 L2 : Bk} {x : Vd} (h : Dw g m0 m acc (L1 ++ x :: L2)) (hx : g x = false) : Dw g m0 m (acc ++ [x]) (L1 ++ L2) := by
  have p : (L1 ++ x :: L2).Perm (x :: (L1 ++ L2)) := List.perm_middle
  refine ⟨h.now.trans ?_, List.Perm.trans ?_ h.all⟩
  · rw [List.append_assoc]
    exact List.Perm.append_left acc p
  · have q := (p.filter fun x => !g x)
    rw [List.filter_cons, if_pos (by simp [hx])] at q
    rw [List.append_assoc]
    exact List.Perm.append_left acc q.symm
theorem Dw.cut {g : Vd → Bool} {m0 m1 m2 acc L1 L2 : Bk} {x : Vd} (h : Dw g m0 (m1 ++ x :: m2) acc (L1 ++ x :: L2)) (hx : g x = true) : Dw g m0 (m1 ++ m2) acc (L1 ++ L2) := by
  have p : (L1 ++ x :: L2).Perm (x :: (L1 ++ L2)) := List.perm_middle
  have pm : (m1 ++ x :: m2).Perm (x :: (m1 ++ m2)) := List.perm_middle
  refine ⟨?_, List.Perm.trans ?_ h.all⟩
  · have q : (x :: (m1 ++ m2)).Perm (x :: (acc ++ (L1 ++ L2))) := pm.symm.trans (h.now.trans ((List.Perm.append_left acc p).trans List.perm_middle))
    exact q.cons_inv
  · have q := (p.filter fun x => !g x)
    rw [List.filter_cons, if_neg (by simp [hx])] at q
    exact List.Perm.append_left acc q.symm
theorem Dw.end {g : Vd → Bool} {m0 m acc : Bk} (h : Dw g m0 m acc []) : m.Perm (m0.filter fun x => !g x) := by
  have h1 := h.now
  have h2 := h.all
  simp only [List.append_nil, List.filter_nil] at h1 h2
  exact h1.trans h2
theorem kd_perm {m m' : Bk} (h : Kd m) (hp : m'.Perm m) : Kd m' := (hp.pairwise_iff (fun {_ _} hne => Ne.symm hne)).2 h
/-- Of what is to come none has the key of the one that came. -/
theorem Dw.other {g : Vd → Bool} {m0 m acc L1 L2 : Bk} {x : Vd} (h : Dw g m0 m acc (L1 ++ x :: L2)) (hk : Kd m) : m.find? (Gv.isK kd (kd x)) = some x ∧ ∀ y ∈ L1 ++ L2, kd y ≠ kd x := by
  refine ⟨(kd_find hk).2 ⟨h.now.mem_iff.2 (by simp), rfl⟩, fun y hy => ?_⟩
  have q : (acc ++ (L1 ++ x :: L2)).Perm (x :: (acc ++ (L1 ++ L2))) := (List.Perm.append_left acc List.perm_middle).trans List.perm_middle
  have := kd_perm hk (q.symm.trans h.now.symm)
  exact fun e => (List.pairwise_cons.1 this).1 y (List.mem_append_right _ hy) e.symm
theorem Dw.sub {g : Vd → Bool} {m0 m1 m2 acc L : Bk} {x : Vd} (_ : Dw g m0 (m1 ++ m2) acc L) (hk : Kd (m1 ++ x :: m2)) : Kd (m1 ++ m2) := by
  have : (x :: (m1 ++ m2)).Perm (m1 ++ x :: m2) := List.perm_middle.symm
  exact (List.pairwise_cons.1 (kd_perm hk this)).2

/-- The walk under way. -/
structure Dx (hb r : Nat) (sb bk bs : Nat) (S : List (Int × Int)) (sp sl : Int) (m0 : Bk) (w : World) (m acc left : Bk) (W : World) : Prop where
  rg : Gv.Rg kd vdV hb r m left W
  cap : Cap sb bk bs S sp sl W
  kept : Kept (fun i => i = hb) w W
  dw : Dw (goB S sp sl) m0 m acc left
  kd : Kd m
  lo : w.heap.size ≤ r
  ne : hb ≠ sb ∧ hb ≠ bk ∧ hb ≠ bs
  old : sb < w.heap.size ∧ bk < w.heap.size ∧ bs < w.heap.size
theorem Dx.on {hb r sb bk bs : Nat} {S : List (Int × Int)} {sp sl : Int} {m0 m acc left : Bk} {w W W' : World} (h : Dx hb r sb bk bs S sp sl m0 w m acc left W) (hb' : Below W.heap.size W W') : Dx hb r sb bk bs S sp sl m0 w m acc left W' :=
  ⟨h.rg.on hb', h.cap.on hb', h.kept.trans (Kept.of_below (F := fun i => i = hb) hb') (fun _ e => .inl e), h.dw, h.kd, h.lo, h.ne, h.old⟩

set_option maxHeartbeats 3200000 in
set_option maxRecDepth 100000 in
theorem df25 {hb sb bk bs : Nat} {S : List (Int × Int)} {sp sl : Int} {m : Bk} {w : World} (hm : Gv.At kd vdV hb m w) (hk : Kd m) (hc : Cap sb bk bs S sp sl w) (hne : hb ≠ sb ∧ hb ≠ bk ∧ hb ≠ bs) :
    Calls Try.prog 25 #[.map (some hb), .func (.func 26) #[] #[.pointer (some ⟨bk, 0, none⟩), .pointer (some ⟨bs, 0, none⟩)]] w fun e w' => e = .returned (.tuple #[]) ∧ ∃ m', Hid (m'.Perm (m.filter fun x => !goB S sp sl x)) ∧ Gv.At kd vdV hb m' w' ∧ Kept (fun i => i = hb) w w' := by
  obtain ⟨w0, hrun, hr0, hg0, hs0⟩ := Gv.run_range Try.underlying55 hm
  have hb0 : Below w.heap.size w w0 := ⟨hg0.os, hg0.tape, hg0.output, hg0.size, fun k hk' => hg0.block k hk' (by simp)⟩
  have H0 : Hid (Dx hb w.heap.size sb bk bs S sp sl m w m [] m w0) := ⟨hr0, hc.on hb0, Kept.of_below hb0, Dw.start _ _, hk, Nat.le_refl _, hne, hc.set.lt, (Array.getElem?_eq_some_iff.1 hc.bk).1, (Array.getElem?_eq_some_iff.1 hc.bs).1⟩
  clear hr0 hg0 hs0 hb0 hm hk hc hne
  obtain ⟨r, hr⟩ : ∃ r, w.heap.size = r := ⟨_, rfl⟩
  rw [hr] at H0 hrun
  go_enter Try.func25, Try.ntmps25
  go_wp2_with fail
  clear hrun hr
  go_loopw [8] (fun _ wr => ∃ mm acc left, Dx hb r sb bk bs S sp sl m w mm acc left wr) (fun _ wr => wr.rangeLeft hb r)
  case atStart => exact ⟨m, [], m, H0.out⟩
  case round =>
    obtain ⟨mm, acc, left, hx⟩ := hrel
    have HX : Hid (Dx hb r sb bk bs S sp sl m w mm acc left wr) := hx
    have HML : Hid (wr.rangeLeft hb r = left.length) := hx.rg.left_eq
    rcases hx.rg.next 0 with ⟨rfl, hn⟩ | ⟨L1, x, L2, w1, rfl, hn, hr1, hg1, hs1, hen⟩
    · have hnx : ∀ ty, (Instr.next (.pointer (some ⟨r, 0, none⟩)) false ty).run Try.prog wr = .ok (.tuple #[.bool false]) wr := fun _ => hn
      clear hx hn
      go_wp2_with fail
      go_end0
      exact ⟨rfl, mm, HX.out.dw.end, HX.out.rg.at, HX.out.kept⟩
    · have hnx : ∀ ty, (Instr.next (.pointer (some ⟨r, 0, none⟩)) false ty).run Try.prog wr = .ok (.tuple #[.bool true, .agg #[.int .u32 x.c, .int .u32 x.n], .agg #[.int .u32 x.c, .int .u32 x.n, .int .u64 x.sp, .int .u32 x.sl, .int .u64 x.ap, .int .u32 x.al, .int .u8 x.pt, .bool x.dn]]) w1 := fun _ => hn
      have hent : (Instr.entry (.pointer (some ⟨r, 0, none⟩))).run Try.prog w1 = .ok (.tuple #[.agg #[.int .u32 x.c, .int .u32 x.n], .agg #[.int .u32 x.c, .int .u32 x.n, .int .u64 x.sp, .int .u32 x.sl, .int .u64 x.ap, .int .u32 x.al, .int .u8 x.pt, .bool x.dn]]) w1 := hen
      have H1 : Hid (Gv.Rg kd vdV hb r mm (L1 ++ L2) w1 ∧ Cap sb bk bs S sp sl w1 ∧ Kept (fun i => i = hb) w w1) := by
        have hk1 := grown_kept hg1
        have o := HX.out.old
        have lo := HX.out.lo
        refine ⟨hr1, HX.out.cap.kept hk1 (fun e => by cases e; omega) (fun e => by cases e; omega) (fun e => by cases e; omega), HX.out.kept.trans hk1 (fun i e => by cases e; exact .inr lo)⟩
      obtain ⟨W2, hW2⟩ : ∃ W2, (w1.alloc (.cells #[.int .u32 x.c, .int .u32 x.n] 32)).alloc (.cells #[.int .u32 x.c, .int .u32 x.n, .int .u64 x.sp, .int .u32 x.sl, .int .u64 x.ap, .int .u32 x.al, .int .u8 x.pt, .bool x.dn] 37) = W2 := ⟨_, rfl⟩
      have hb2 : Below w1.heap.size w1 W2 := by rw [← hW2]; exact (al _).alloc (by simp) _
      have hx2 : W2.heap[w1.heap.size]? = some (.cells #[.int .u32 x.c, .int .u32 x.n] 32 (0, 0)) := by
        rw [← hW2, (al (W := w1.alloc (.cells #[.int .u32 x.c, .int .u32 x.n] 32)) _).block _ (by simp)]
        exact heap_alloc_new w1 _
      rw [hs1] at hx2
      have H2 : Hid (Gv.Rg kd vdV hb r mm (L1 ++ L2) W2 ∧ Cap sb bk bs S sp sl W2 ∧ Kept (fun i => i = hb) w W2 ∧ W2.heap[wr.heap.size]? = some (.cells #[.int .u32 x.c, .int .u32 x.n] 32 (0, 0))) := ⟨H1.out.1.on hb2, H1.out.2.1.on hb2, H1.out.2.2.trans (Kept.of_below (F := fun i => i = hb) hb2) (fun _ e => .inl e), hx2⟩
      have CD : Hid (1 = 1 → Calls Try.prog 26 #[.agg #[.int .u32 x.c, .int .u32 x.n], .agg #[.int .u32 x.c, .int .u32 x.n, .int .u64 x.sp, .int .u32 x.sl, .int .u64 x.ap, .int .u32 x.al, .int .u8 x.pt, .bool x.dn], .pointer (some ⟨bk, 0, none⟩), .pointer (some ⟨bs, 0, none⟩)] W2 fun e w' => e = .returned (.bool (goB S sp sl x)) ∧ Hid (Gv.Rg kd vdV hb r mm (L1 ++ L2) w' ∧ Kept (fun i => i = hb) w w' ∧ w'.heap[wr.heap.size]? = some (.cells #[.int .u32 x.c, .int .u32 x.n] 32 (0, 0)) ∧ Cap sb bk bs S sp sl w')) := fun _ => (del26 x H2.out.2.1).mono (by
        rintro e w' ⟨rfl, hb'⟩
        exact ⟨rfl, H2.out.1.on hb', H2.out.2.2.1.trans (Kept.of_below (F := fun i => i = hb) hb') (fun _ e => .inl e), by rw [hb'.block _ (Array.getElem?_eq_some_iff.1 H2.out.2.2.2).1]; exact H2.out.2.2.2, H2.out.2.1.on hb'⟩)
      have HG : Hid (∀ b, goB S sp sl x = b → b = true ∨ b = false) := fun b _ => by cases b <;> simp
      clear hx hn hen hr1 hg1 hb2 hx2 H1 H2 HG
      have HS : Hid (goB S sp sl x = false → Dw (goB S sp sl) m mm (acc ++ [x]) (L1 ++ L2)) := HX.out.dw.stay
      have HC : Hid (goB S sp sl x = true → ∀ m1 m2, mm = m1 ++ x :: m2 → Dw (goB S sp sl) m (m1 ++ m2) acc (L1 ++ L2)) := fun e m1 m2 e2 => by
        have := HX.out.dw
        rw [e2] at this
        exact this.cut e
      have HO : Hid (mm.find? (Gv.isK kd (kd x)) = some x ∧ ∀ y ∈ L1 ++ L2, kd y ≠ kd x) := HX.out.dw.other HX.out.kd
      have hlen : (L1 ++ L2).length < (L1 ++ x :: L2).length := by simp
      have HLen : Hid _ := hlen
      have HW2 : Hid _ := hW2
      clear hW2 hlen
      go_wp2_with fail
      rw [HW2.out]
      refine (CD.out (by simp)).mono ?_
      rintro e w3 ⟨rfl, H3⟩
      clear hnx hent HW2 hs1 CD
      generalize hz : goB S sp sl x = z at *
      have HZ : Hid (goB S sp sl x = z) := hz
      clear hz
      cases z
      · go_wp2_with fail
        go_roundw
        case rel => exact ⟨mm, acc ++ [x], L1 ++ L2, H3.out.1, H3.out.2.2.2, H3.out.2.1, HS.out (by simp), HX.out.kd, HX.out.lo, HX.out.ne, HX.out.old⟩
        case measure => rw [H3.out.1.left_eq, HML.out]; exact HLen.out
      · have t0 : w3.cell? ⟨wr.heap.size, 0, none⟩ = some (.int .u32 x.c) := block_cell H3.out.2.2.1 rfl
        have t1 : w3.cell? ⟨wr.heap.size, 1, none⟩ = some (.int .u32 x.n) := block_cell H3.out.2.2.1 rfl
        obtain ⟨w4, m1, m2, hdel, hmm, hr4, hk4, -⟩ := H3.out.1.del Try.underlying55 (kd x) HO.out.1 HO.out.2
        have hde : ∀ ty : TypeId, (Builtin.delete_ #[55, 32] ty #[.map (some hb), .agg #[.int .u32 x.c, .int .u32 x.n]]).run Try.prog w3 = .ok (.tuple #[]) w4 := hdel
        have H4 : Hid (Dx hb r sb bk bs S sp sl m w (m1 ++ m2) acc (L1 ++ L2) w4) := by
          have o := HX.out.ne
          have hd := HC.out (by simp) m1 m2 hmm
          have hkd := HX.out.kd
          rw [hmm] at hkd
          exact ⟨hr4, H3.out.2.2.2.kept hk4 (fun e => o.1 e.symm) (fun e => o.2.1 e.symm) (fun e => o.2.2 e.symm), H3.out.2.1.trans hk4 (fun _ e => .inl e), hd, hd.sub hkd, HX.out.lo, HX.out.ne, HX.out.old⟩
        clear hdel hmm hr4 hk4
        go_wp2_with fail
        go_roundw
        case rel => exact ⟨m1 ++ m2, acc, L1 ++ L2, H4.out⟩
        case measure => rw [H4.out.rg.left_eq, HML.out]; exact HLen.out
end Go.Proofs.Ytkadaoebehgkbaa
