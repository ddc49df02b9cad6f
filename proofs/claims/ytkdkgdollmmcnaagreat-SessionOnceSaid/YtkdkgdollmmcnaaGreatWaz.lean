import Derived.Test.YtkdkgdollmmcnaaGreatWay
set_option maxHeartbeats 4000000
set_option maxRecDepth 100000
set_option linter.unusedVariables false
set_option linter.unusedSimpArgs false
namespace Go.Proofs.YtkdkgdollmmcnaaGreat
open Go.RowKit Go.Sort
structure Tw (w : World) (ba bb : Nat) (ca cb : Array Value) (ty : TypeId) (W : World) : Prop where
 bel : Below w.heap.size w W
 xa : W.heap[ba]? = some (.cells ca ty (0, 0))
 xb : W.heap[bb]? = some (.cells cb ty (0, 0))
theorem Tw.on {w W W' : World} {ba bb : Nat} {ca cb : Array Value} {ty : TypeId} (h : Tw w ba bb ca cb ty W) (hb : Below W.heap.size W W') : Tw w ba bb ca cb ty W' :=
 ⟨h.bel.trans (hb.mono h.bel.size), by rw [hb.block _ (Array.getElem?_eq_some_iff.1 h.xa).1]; exact h.xa, by rw [hb.block _ (Array.getElem?_eq_some_iff.1 h.xb).1]; exact h.xb⟩
theorem tw_new (w : World) (ca cb : Array Value) (ty : TypeId) : Tw w w.heap.size (w.heap.size + 1) ca cb ty ((w.alloc (.cells ca ty)).alloc (.cells cb ty)) := by
 have hx0 : (w.alloc (.cells ca ty)).heap[w.heap.size]? = some (.cells ca ty (0, 0)) := heap_alloc_new w _
 have hs : (w.alloc (.cells ca ty)).heap.size = w.heap.size + 1 := size_al w _
 refine ⟨(al _).alloc (by simp) _, ?_, ?_⟩
 ·rw [(al (W := w.alloc (.cells ca ty)) _).block _ (Array.getElem?_eq_some_iff.1 hx0).1]; exact hx0
 ·rw [← hs]; exact heap_alloc_new _ _
theorem pairs68 (a b : List Pr) (aa ab : Option Addr) (ca cb : Nat) (w : World) (ha : PsAt w.heap.size (.slice aa a.length ca) a w) (hb : PsAt w.heap.size (.slice ab b.length cb) b w) :
  Calls Tryz.prog 66 #[.slice aa a.length ca, .slice ab b.length cb] w fun e w' => e = .returned (.bool (eqL eqP a b)) ∧ Below w.heap.size w w' := by
 obtain ⟨hla, hma⟩ := ha.cap
 obtain ⟨hlb, hmb⟩ := hb.cap
 have HA : Hid (∀ W, Below w.heap.size w W → ∀ i, i < a.length → ∃ b off, aa = some ⟨b, off, none⟩ ∧ PtAt W b (off + i * 2) (a.getD i dp)) := fun W hW i hi => (ha.on hW).el hi
 have HB : Hid (∀ W, Below w.heap.size w W → ∀ i, i < b.length → ∃ c off, ab = some ⟨c, off, none⟩ ∧ PtAt W c (off + i * 2) (b.getD i dp)) := fun W hW i hi => (hb.on hW).el hi
 have hL1 : a.length < 9223372036854775808 := by omega
 have hL2 : b.length < 9223372036854775808 := by omega
 have HNL : Hid (a.length ≠ b.length → eqL eqP a b = false) := eqL_len eqP_iff
 have HST : Hid (a.length = b.length → ∀ m, m < a.length → eqL eqP (a.drop m) (b.drop m) = (eqP (a.getD m dp) (b.getD m dp) && eqL eqP (a.drop (m + 1)) (b.drop (m + 1)))) := fun h m hm => eqL_step h hm
 have HEN : Hid (a.length = b.length → ∀ m, a.length ≤ m → eqL eqP (a.drop m) (b.drop m) = true) := fun h m hm => by rw [List.drop_eq_nil_of_le hm, List.drop_eq_nil_of_le (by omega)]; rfl
 have HE0 : Hid (eqL eqP (a.drop 0) (b.drop 0) = eqL eqP a b) := rfl
 clear ha hb hla hma hlb hmb
 generalize eqL eqP a b = y at *
 by_cases hlen : a.length = b.length
 ·have hlen' : ((a.length : Int) == (b.length : Int)) = true := by simp [hlen]
  have HLN : Hid (a.length = b.length) := hlen
  clear hlen
  go_enter Tryz.func66, Tryz.ntmps66
  go_wp2_with fail
  go_loopw [5] (fun i wr => ∃ m : Nat, m ≤ a.length ∧ i = iw m ∧ Below w.heap.size w wr ∧ eqL eqP (a.drop m) (b.drop m) = y) (fun i _ => a.length - (intOf i).toNat)
  case atStart => exact ⟨0, Nat.zero_le _, rfl, Below.refl _ _, HE0.out⟩
  case round =>
   obtain ⟨m, hm, rfl, ht, he⟩ := hrel
   have HT : Hid (Below w.heap.size w wr) := ht
   have HE : Hid (eqL eqP (a.drop m) (b.drop m) = y) := he
   clear ht he
   by_cases hml : m < a.length
   ·obtain ⟨c1, o1, rfl, d0, d1⟩ := HA.out wr HT.out m hml
    obtain ⟨c2, o2, rfl, f0, f1⟩ := HB.out wr HT.out m (by have := HLN.out; omega)
    have hml1 : (m : Int) < a.length := by omega
    have hml2 : (m : Int) < b.length := by have := HLN.out; omega
    have HSm : Hid _ := HST.out HLN.out m hml
    have HQ : Hid (m + 1 ≤ a.length) := hml
    have hq := run_neq67 (a.getD m dp) (b.getD m dp)
    obtain ⟨z, hz⟩ := xj (eqP (a.getD m dp) (b.getD m dp))
    rw [hz] at hq HSm
    clear hz
    generalize a.getD m dp = x at *
    generalize b.getD m dp = u at *
    have HF : Hid (wr.cell? ⟨c1, o1 + m * 2, none⟩ = some (sd x.key) ∧ wr.cell? ⟨c1, o1 + m * 2 + 1, none⟩ = some (sd x.val) ∧ wr.cell? ⟨c2, o2 + m * 2, none⟩ = some (sd u.key) ∧ wr.cell? ⟨c2, o2 + m * 2 + 1, none⟩ = some (sd u.val)) := ⟨d0, d1, f0, f1⟩
    clear hlen'
    go_upto_region 6 with fail
    go_region_held3 (fun W => W.cell? ⟨c1, o1 + m * 2, none⟩ = some (sd x.key) ∧ W.cell? ⟨c1, o1 + m * 2 + 1, none⟩ = some (sd x.val) ∧ W.cell? ⟨c2, o2 + m * 2, none⟩ = some (sd u.key) ∧ W.cell? ⟨c2, o2 + m * 2 + 1, none⟩ = some (sd u.val))
     (exact HF.out) (fail)
    rename_i hHeld
    clear hHeld d0 d1 f0 f1 hq HF
    cases z
    ·have HY : Hid (y = false) := by
      have h1 := HSm.out
      rw [HE.out] at h1
      rw [h1]
      rfl
     go_wp2_with fail
     go_ret
     exact ⟨by rw [HY.out]; rfl, HT.out.drew⟩
    ·have HE1 : Hid (eqL eqP (a.drop (m + 1)) (b.drop (m + 1)) = y) := by
      have h1 := HSm.out
      rw [HE.out] at h1
      rw [h1]
      rfl
     go_wp2_with fail
     go_roundw
     case rel => exact ⟨m + 1, HQ.out, by go_num, HT.out.drew, HE1.out⟩
     case measure => simp [intOf]; omega
   ·have hml1 : ¬ (m : Int) < a.length := by omega
    have HY : Hid (y = true) := HE.out.symm.trans (HEN.out HLN.out m (by omega))
    clear hlen'
    go_wp2_with fail
    go_ret
    exact ⟨by rw [HY.out]; rfl, HT.out⟩
 ·have hlen' : ((a.length : Int) == (b.length : Int)) = false := by simp; omega
  have HY : Hid (y = false) := HNL.out hlen
  clear hlen
  go_enter Tryz.func66, Tryz.ntmps66
  go_wp2_with fail
  go_ret
  exact ⟨by rw [HY.out]; rfl, Below.refl _ _⟩
theorem same35 (a b : Rp) (aa ab : Option Addr) (ca cb : Nat) (w : World) (ha : PsAt w.heap.size (.slice aa a.ps.length ca) a.ps w) (hb : PsAt w.heap.size (.slice ab b.ps.length cb) b.ps w) :
  Calls Tryz.prog 53 #[.agg #[iw a.k, iw a.er, .bool a.fd, sd a.val, .slice aa a.ps.length ca, uu a.c, uu a.n, uw a.sp, uu a.sl, uw a.ap, uu a.al, sd a.prim, uw a.np, uu a.nl], .agg #[iw b.k, iw b.er, .bool b.fd, sd b.val, .slice ab b.ps.length cb, uu b.c, uu b.n, uw b.sp, uu b.sl, uw b.ap, uu b.al, sd b.prim, uw b.np, uu b.nl]] w fun e w' => e = .returned (.bool (sameR a b)) ∧ Below w.heap.size w w' := by
 have HA : Hid _ := ha
 have HB : Hid _ := hb
 clear ha hb
 have H0 : Hid _ := tw_new w #[iw a.k, iw a.er, .bool a.fd, sd a.val, .slice aa a.ps.length ca, uu a.c, uu a.n, uw a.sp, uu a.sl, uw a.ap, uu a.al, sd a.prim, uw a.np, uu a.nl] #[iw b.k, iw b.er, .bool b.fd, sd b.val, .slice ab b.ps.length cb, uu b.c, uu b.n, uw b.sp, uu b.sl, uw b.ap, uu b.al, sd b.prim, uw b.np, uu b.nl] 49
 obtain ⟨W0, hW0⟩ := xj (w.alloc (.cells #[iw a.k, iw a.er, .bool a.fd, sd a.val, .slice aa a.ps.length ca, uu a.c, uu a.n, uw a.sp, uu a.sl, uw a.ap, uu a.al, sd a.prim, uw a.np, uu a.nl] 49))
 obtain ⟨W1, hW1⟩ := xj (W0.alloc (.cells #[iw b.k, iw b.er, .bool b.fd, sd b.val, .slice ab b.ps.length cb, uu b.c, uu b.n, uw b.sp, uu b.sl, uw b.ap, uu b.al, sd b.prim, uw b.np, uu b.nl] 49))
 obtain ⟨ba, hba⟩ := xj w.heap.size
 obtain ⟨bb, hbb⟩ := xj (ba + 1)
 have hsz : W0.heap.size = bb := by rw [← hbb, ← hba, ← hW0]; simp
 have T1 : Hid (Tw w ba bb #[iw a.k, iw a.er, .bool a.fd, sd a.val, .slice aa a.ps.length ca, uu a.c, uu a.n, uw a.sp, uu a.sl, uw a.ap, uu a.al, sd a.prim, uw a.np, uu a.nl] #[iw b.k, iw b.er, .bool b.fd, sd b.val, .slice ab b.ps.length cb, uu b.c, uu b.n, uw b.sp, uu b.sl, uw b.ap, uu b.al, sd b.prim, uw b.np, uu b.nl] 49 W1) := by
  rw [← hW1, ← hW0, ← hbb, ← hba]
  exact H0.out
 clear H0
 have HY : Hid (sameR a b = ((a.k == b.k) && (a.er == b.er) && (a.fd == b.fd) && (a.val == b.val) && eqL eqP a.ps b.ps && (a.c == b.c && a.n == b.n) && (a.sp == b.sp && a.sl == b.sl) && (a.ap == b.ap && a.al == b.al) && (a.prim == b.prim) && (a.np == b.np && a.nl == b.nl))) := rfl
 have CP : Hid (∀ W, Below w.heap.size w W → _) := fun W hW => pairs68 a.ps b.ps aa ab ca cb W (PsAt.up HA.out hW) (PsAt.up HB.out hW)
 have e3 := bs_beq a.val b.val
 have e5 := run_eql24 a.c a.n b.c b.n
 have e6 := run_eql27 a.sp a.sl b.sp b.sl
 have e7 := run_eql27 a.ap a.al b.ap b.al
 have e8 := bs_beq a.prim b.prim
 have e9 := run_eql27 a.np a.nl b.np b.nl
 obtain ⟨z0, hz0⟩ := xj (a.k == b.k)
 obtain ⟨z1, hz1⟩ := xj (a.er == b.er)
 obtain ⟨z2, hz2⟩ := xj (a.fd == b.fd)
 obtain ⟨z3, hz3⟩ := xj (a.val == b.val)
 obtain ⟨z4, hz4⟩ := xj (eqL eqP a.ps b.ps)
 obtain ⟨z5, hz5⟩ := xj (a.c == b.c && a.n == b.n)
 obtain ⟨z6, hz6⟩ := xj (a.sp == b.sp && a.sl == b.sl)
 obtain ⟨z7, hz7⟩ := xj (a.ap == b.ap && a.al == b.al)
 obtain ⟨z8, hz8⟩ := xj (a.prim == b.prim)
 obtain ⟨z9, hz9⟩ := xj (a.np == b.np && a.nl == b.nl)
 rw [hz0, hz1, hz2, hz3, hz4, hz5, hz6, hz7, hz8, hz9] at HY
 rw [hz3] at e3
 rw [hz5] at e5
 rw [hz6] at e6
 rw [hz7] at e7
 rw [hz8] at e8
 rw [hz9] at e9
 rw [hz4] at CP
 generalize sameR a b = y at *
 clear hz3 hz4 hz5 hz6 hz7 hz8 hz9
 have p0 : W1.cell? ⟨ba, 0, none⟩ = some (iw a.k) := block_cell T1.out.xa rfl
 have p1 : W1.cell? ⟨ba, 1, none⟩ = some (iw a.er) := block_cell T1.out.xa rfl
 have p2 : W1.cell? ⟨ba, 2, none⟩ = some (.bool a.fd) := block_cell T1.out.xa rfl
 have p3 : W1.cell? ⟨ba, 3, none⟩ = some (sd a.val) := block_cell T1.out.xa rfl
 have p4 : W1.cell? ⟨ba, 4, none⟩ = some (.slice aa a.ps.length ca) := block_cell T1.out.xa rfl
 have q0 : W1.cell? ⟨bb, 0, none⟩ = some (iw b.k) := block_cell T1.out.xb rfl
 have q1 : W1.cell? ⟨bb, 1, none⟩ = some (iw b.er) := block_cell T1.out.xb rfl
 have q2 : W1.cell? ⟨bb, 2, none⟩ = some (.bool b.fd) := block_cell T1.out.xb rfl
 have q3 : W1.cell? ⟨bb, 3, none⟩ = some (sd b.val) := block_cell T1.out.xb rfl
 have q4 : W1.cell? ⟨bb, 4, none⟩ = some (.slice ab b.ps.length cb) := block_cell T1.out.xb rfl
 cases z0
 ·go_enter Tryz.func53, Tryz.ntmps53
  (try simp only [List.append_eq, List.cons_append, List.nil_append])
  go_wp2_with fail
  go_ret
  exact ⟨by rw [HY.out]; rfl, (by first | exact T1.out.bel | exact below_of hba T1.out.bel)⟩
 cases z1
 ·go_enter Tryz.func53, Tryz.ntmps53
  (try simp only [List.append_eq, List.cons_append, List.nil_append])
  go_wp2_with fail
  go_ret
  exact ⟨by rw [HY.out]; rfl, (by first | exact T1.out.bel | exact below_of hba T1.out.bel)⟩
 cases z2
 ·go_enter Tryz.func53, Tryz.ntmps53
  (try simp only [List.append_eq, List.cons_append, List.nil_append])
  go_wp2_with fail
  go_ret
  exact ⟨by rw [HY.out]; rfl, (by first | exact T1.out.bel | exact below_of hba T1.out.bel)⟩
 cases z3
 ·go_enter Tryz.func53, Tryz.ntmps53
  (try simp only [List.append_eq, List.cons_append, List.nil_append])
  go_wp2_with fail
  go_ret
  exact ⟨by rw [HY.out]; rfl, (by first | exact T1.out.bel | exact below_of hba T1.out.bel)⟩
 go_enter Tryz.func53, Tryz.ntmps53
 (try simp only [List.append_eq, List.cons_append, List.nil_append])
 go_wp2_with fail
 refine (CP.out _ T1.out.bel).mono ?_
 rintro e w2 ⟨rfl, hb2⟩
 have T2 : Hid (Tw w ba bb #[iw a.k, iw a.er, .bool a.fd, sd a.val, .slice aa a.ps.length ca, uu a.c, uu a.n, uw a.sp, uu a.sl, uw a.ap, uu a.al, sd a.prim, uw a.np, uu a.nl] #[iw b.k, iw b.er, .bool b.fd, sd b.val, .slice ab b.ps.length cb, uu b.c, uu b.n, uw b.sp, uu b.sl, uw b.ap, uu b.al, sd b.prim, uw b.np, uu b.nl] 49 w2) := T1.out.on hb2
 clear hb2 p0 q0 p1 q1 p2 q2 p3 q3 p4 q4
 have p5 : w2.cell? ⟨ba, 5, none⟩ = some (uu a.c) := block_cell T2.out.xa rfl
 have p6 : w2.cell? ⟨ba, 6, none⟩ = some (uu a.n) := block_cell T2.out.xa rfl
 have p7 : w2.cell? ⟨ba, 7, none⟩ = some (uw a.sp) := block_cell T2.out.xa rfl
 have p8 : w2.cell? ⟨ba, 8, none⟩ = some (uu a.sl) := block_cell T2.out.xa rfl
 have p9 : w2.cell? ⟨ba, 9, none⟩ = some (uw a.ap) := block_cell T2.out.xa rfl
 have p10 : w2.cell? ⟨ba, 10, none⟩ = some (uu a.al) := block_cell T2.out.xa rfl
 have p11 : w2.cell? ⟨ba, 11, none⟩ = some (sd a.prim) := block_cell T2.out.xa rfl
 have p12 : w2.cell? ⟨ba, 12, none⟩ = some (uw a.np) := block_cell T2.out.xa rfl
 have p13 : w2.cell? ⟨ba, 13, none⟩ = some (uu a.nl) := block_cell T2.out.xa rfl
 have q5 : w2.cell? ⟨bb, 5, none⟩ = some (uu b.c) := block_cell T2.out.xb rfl
 have q6 : w2.cell? ⟨bb, 6, none⟩ = some (uu b.n) := block_cell T2.out.xb rfl
 have q7 : w2.cell? ⟨bb, 7, none⟩ = some (uw b.sp) := block_cell T2.out.xb rfl
 have q8 : w2.cell? ⟨bb, 8, none⟩ = some (uu b.sl) := block_cell T2.out.xb rfl
 have q9 : w2.cell? ⟨bb, 9, none⟩ = some (uw b.ap) := block_cell T2.out.xb rfl
 have q10 : w2.cell? ⟨bb, 10, none⟩ = some (uu b.al) := block_cell T2.out.xb rfl
 have q11 : w2.cell? ⟨bb, 11, none⟩ = some (sd b.prim) := block_cell T2.out.xb rfl
 have q12 : w2.cell? ⟨bb, 12, none⟩ = some (uw b.np) := block_cell T2.out.xb rfl
 have q13 : w2.cell? ⟨bb, 13, none⟩ = some (uu b.nl) := block_cell T2.out.xb rfl
 cases z4
 ·go_wp2_with fail
  go_ret
  exact ⟨by rw [HY.out]; rfl, (by first | exact T2.out.bel | exact below_of hba T2.out.bel)⟩
 cases z5
 ·go_wp2_with fail
  go_ret
  exact ⟨by rw [HY.out]; rfl, (by first | exact T2.out.bel | exact below_of hba T2.out.bel)⟩
 cases z6
 ·go_wp2_with fail
  go_ret
  exact ⟨by rw [HY.out]; rfl, (by first | exact T2.out.bel | exact below_of hba T2.out.bel)⟩
 cases z7
 ·go_wp2_with fail
  go_ret
  exact ⟨by rw [HY.out]; rfl, (by first | exact T2.out.bel | exact below_of hba T2.out.bel)⟩
 cases z8
 ·go_wp2_with fail
  go_ret
  exact ⟨by rw [HY.out]; rfl, (by first | exact T2.out.bel | exact below_of hba T2.out.bel)⟩
 cases z9
 ·go_wp2_with fail
  go_ret
  exact ⟨by rw [HY.out]; rfl, (by first | exact T2.out.bel | exact below_of hba T2.out.bel)⟩
 ·go_wp2_with fail
  go_ret
  exact ⟨by rw [HY.out]; rfl, (by first | exact T2.out.bel | exact below_of hba T2.out.bel)⟩
theorem sameQ_rest (a b : Rq) : sameQ a b = (eqL eqW a.ws b.ws && (eqL eqT a.sk b.sk && ((a.k == b.k) && (a.c == b.c && a.n == b.n) && (a.sp == b.sp && a.sl == b.sl) && (a.ap == b.ap && a.al == b.al) && (a.key == b.key) && (a.to == b.to) && (a.lim == b.lim) && (a.pt == b.pt)))) := by
 unfold sameQ
 simp only [Bool.and_assoc]
theorem asks34 (a b : Rq) (wa sa xa ta : Option Addr) (wc sc xc tc : Nat) (w : World) (ha : QAt w.heap.size a (.slice wa a.ws.length wc) (.slice sa a.sk.length sc) w) (hb : QAt w.heap.size b (.slice xa b.ws.length xc) (.slice ta b.sk.length tc) w) :
  Calls Tryz.prog 51 #[.agg #[iw a.k, uu a.c, uu a.n, uw a.sp, uu a.sl, uw a.ap, uu a.al, sd a.key, sd a.to, iw a.lim, .int .u8 (a.pt : Int), .slice wa a.ws.length wc, .slice sa a.sk.length sc], .agg #[iw b.k, uu b.c, uu b.n, uw b.sp, uu b.sl, uw b.ap, uu b.al, sd b.key, sd b.to, iw b.lim, .int .u8 (b.pt : Int), .slice xa b.ws.length xc, .slice ta b.sk.length tc]] w fun e w' => e = .returned (.bool (sameQ a b)) ∧ Below w.heap.size w w' := by
 obtain ⟨hla, hma⟩ := ha.ws.cap
 obtain ⟨hlb, hmb⟩ := hb.ws.cap
 obtain ⟨hka, hna⟩ := ha.sk.cap
 obtain ⟨hkb, hnb⟩ := hb.sk.cap
 have HA : Hid (∀ W, Below w.heap.size w W → ∀ i, i < a.ws.length → ∃ b off, wa = some ⟨b, off, none⟩ ∧ WtAt W b (off + i * 3) (a.ws.getD i dw)) := fun W hW i hi => (ha.ws.on hW).el hi
 have HB : Hid (∀ W, Below w.heap.size w W → ∀ i, i < b.ws.length → ∃ c off, xa = some ⟨c, off, none⟩ ∧ WtAt W c (off + i * 3) (b.ws.getD i dw)) := fun W hW i hi => (hb.ws.on hW).el hi
 have KA : Hid (∀ W, Below w.heap.size w W → ∀ i, i < a.sk.length → ∃ b off, sa = some ⟨b, off, none⟩ ∧ TtAt W b (off + i * 2) (a.sk.getD i dt)) := fun W hW i hi => (ha.sk.on hW).el hi
 have KB : Hid (∀ W, Below w.heap.size w W → ∀ i, i < b.sk.length → ∃ c off, ta = some ⟨c, off, none⟩ ∧ TtAt W c (off + i * 2) (b.sk.getD i dt)) := fun W hW i hi => (hb.sk.on hW).el hi
 have hL1 : a.ws.length < 9223372036854775808 := by omega
 have hL2 : b.ws.length < 9223372036854775808 := by omega
 have hL3 : a.sk.length < 9223372036854775808 := by omega
 have hL4 : b.sk.length < 9223372036854775808 := by omega
 have H0 : Hid _ := tw_new w #[iw a.k, uu a.c, uu a.n, uw a.sp, uu a.sl, uw a.ap, uu a.al, sd a.key, sd a.to, iw a.lim, .int .u8 (a.pt : Int), .slice wa a.ws.length wc, .slice sa a.sk.length sc] #[iw b.k, uu b.c, uu b.n, uw b.sp, uu b.sl, uw b.ap, uu b.al, sd b.key, sd b.to, iw b.lim, .int .u8 (b.pt : Int), .slice xa b.ws.length xc, .slice ta b.sk.length tc] 53
 obtain ⟨W0, hW0⟩ := xj (w.alloc (.cells #[iw a.k, uu a.c, uu a.n, uw a.sp, uu a.sl, uw a.ap, uu a.al, sd a.key, sd a.to, iw a.lim, .int .u8 (a.pt : Int), .slice wa a.ws.length wc, .slice sa a.sk.length sc] 53))
 obtain ⟨W1, hW1⟩ := xj (W0.alloc (.cells #[iw b.k, uu b.c, uu b.n, uw b.sp, uu b.sl, uw b.ap, uu b.al, sd b.key, sd b.to, iw b.lim, .int .u8 (b.pt : Int), .slice xa b.ws.length xc, .slice ta b.sk.length tc] 53))
 obtain ⟨ba, hba⟩ := xj w.heap.size
 obtain ⟨bb, hbb⟩ := xj (ba + 1)
 have hsz : W0.heap.size = bb := by rw [← hbb, ← hba, ← hW0]; simp
 have T1 : Hid (Tw w ba bb #[iw a.k, uu a.c, uu a.n, uw a.sp, uu a.sl, uw a.ap, uu a.al, sd a.key, sd a.to, iw a.lim, .int .u8 (a.pt : Int), .slice wa a.ws.length wc, .slice sa a.sk.length sc] #[iw b.k, uu b.c, uu b.n, uw b.sp, uu b.sl, uw b.ap, uu b.al, sd b.key, sd b.to, iw b.lim, .int .u8 (b.pt : Int), .slice xa b.ws.length xc, .slice ta b.sk.length tc] 53 W1) := by
  rw [← hW1, ← hW0, ← hbb, ← hba]
  exact H0.out
 have HS : Hid (sameQ a b = (eqL eqW a.ws b.ws && (eqL eqT a.sk b.sk && ((a.k == b.k) && (a.c == b.c && a.n == b.n) && (a.sp == b.sp && a.sl == b.sl) && (a.ap == b.ap && a.al == b.al) && (a.key == b.key) && (a.to == b.to) && (a.lim == b.lim) && (a.pt == b.pt))))) := sameQ_rest a b
 have WNL : Hid (a.ws.length ≠ b.ws.length → eqL eqW a.ws b.ws = false) := eqL_len eqW_iff
 have WST : Hid (a.ws.length = b.ws.length → ∀ m, m < a.ws.length → eqL eqW (a.ws.drop m) (b.ws.drop m) = (eqW (a.ws.getD m dw) (b.ws.getD m dw) && eqL eqW (a.ws.drop (m + 1)) (b.ws.drop (m + 1)))) := fun h m hm => eqL_step h hm
 have WEN : Hid (a.ws.length = b.ws.length → ∀ m, a.ws.length ≤ m → eqL eqW (a.ws.drop m) (b.ws.drop m) = true) := fun h m hm => by rw [List.drop_eq_nil_of_le hm, List.drop_eq_nil_of_le (by omega)]; rfl
 have WE0 : Hid (eqL eqW (a.ws.drop 0) (b.ws.drop 0) = eqL eqW a.ws b.ws) := rfl
 have KNL : Hid (a.sk.length ≠ b.sk.length → eqL eqT a.sk b.sk = false) := eqL_len eqT_iff
 have KST : Hid (a.sk.length = b.sk.length → ∀ m, m < a.sk.length → eqL eqT (a.sk.drop m) (b.sk.drop m) = (eqT (a.sk.getD m dt) (b.sk.getD m dt) && eqL eqT (a.sk.drop (m + 1)) (b.sk.drop (m + 1)))) := fun h m hm => eqL_step h hm
 have KEN : Hid (a.sk.length = b.sk.length → ∀ m, a.sk.length ≤ m → eqL eqT (a.sk.drop m) (b.sk.drop m) = true) := fun h m hm => by rw [List.drop_eq_nil_of_le hm, List.drop_eq_nil_of_le (by omega)]; rfl
 have KE0 : Hid (eqL eqT (a.sk.drop 0) (b.sk.drop 0) = eqL eqT a.sk b.sk) := rfl
 clear ha hb hla hma hlb hmb hka hna hkb hnb H0
 have a11 : W1.cell? ⟨ba, 11, none⟩ = some (.slice wa a.ws.length wc) := block_cell T1.out.xa rfl
 have b11 : W1.cell? ⟨bb, 11, none⟩ = some (.slice xa b.ws.length xc) := block_cell T1.out.xb rfl
 have a12 : W1.cell? ⟨ba, 12, none⟩ = some (.slice sa a.sk.length sc) := block_cell T1.out.xa rfl
 have b12 : W1.cell? ⟨bb, 12, none⟩ = some (.slice ta b.sk.length tc) := block_cell T1.out.xb rfl
 generalize sameQ a b = y at *
 by_cases hlen : a.ws.length = b.ws.length
 rotate_left
 ·have hlen' : ((a.ws.length : Int) != (b.ws.length : Int)) = true := by simp; omega
  have HY : Hid (y = false) := by rw [HS.out, WNL.out hlen]; rfl
  clear hlen
  go_enter Tryz.func51, Tryz.ntmps51
  go_wp2_with fail
  clear hba
  go_ret
  exact ⟨by rw [HY.out]; rfl, T1.out.bel⟩
 have HLW : Hid (a.ws.length = b.ws.length) := hlen
 have hlen' : ((a.ws.length : Int) != (b.ws.length : Int)) = false := by simp [hlen]
 clear hlen
 by_cases hlen : a.sk.length = b.sk.length
 rotate_left
 ·have hlen2 : ((a.sk.length : Int) != (b.sk.length : Int)) = true := by simp; omega
  have HY : Hid (y = false) := by show _ = _; rw [HS.out, KNL.out hlen]; simp
  clear hlen
  go_enter Tryz.func51, Tryz.ntmps51
  go_wp2_with fail
  clear hba
  go_ret
  exact ⟨by rw [HY.out]; rfl, T1.out.bel⟩
 have HLK : Hid (a.sk.length = b.sk.length) := hlen
 have hlen2 : ((a.sk.length : Int) != (b.sk.length : Int)) = false := by simp [hlen]
 clear hlen
 go_enter Tryz.func51, Tryz.ntmps51
 go_wp2_with fail
 clear hW0 hW1 hba hbb a11 b11 a12 b12 hsz
 go_loopw [5] (fun i wr => ∃ m : Nat, m ≤ a.ws.length ∧ i = iw m ∧ Tw w ba bb #[iw a.k, uu a.c, uu a.n, uw a.sp, uu a.sl, uw a.ap, uu a.al, sd a.key, sd a.to, iw a.lim, .int .u8 (a.pt : Int), .slice wa a.ws.length wc, .slice sa a.sk.length sc] #[iw b.k, uu b.c, uu b.n, uw b.sp, uu b.sl, uw b.ap, uu b.al, sd b.key, sd b.to, iw b.lim, .int .u8 (b.pt : Int), .slice xa b.ws.length xc, .slice ta b.sk.length tc] 53 wr ∧ eqL eqW (a.ws.drop m) (b.ws.drop m) = eqL eqW a.ws b.ws) (fun i _ => a.ws.length - (intOf i).toNat)
 case atStart => exact ⟨0, Nat.zero_le _, rfl, T1.out, WE0.out⟩
 case round =>
  obtain ⟨m, hm, rfl, ht, he⟩ := hrel
  have HT : Hid (Tw w ba bb #[iw a.k, uu a.c, uu a.n, uw a.sp, uu a.sl, uw a.ap, uu a.al, sd a.key, sd a.to, iw a.lim, .int .u8 (a.pt : Int), .slice wa a.ws.length wc, .slice sa a.sk.length sc] #[iw b.k, uu b.c, uu b.n, uw b.sp, uu b.sl, uw b.ap, uu b.al, sd b.key, sd b.to, iw b.lim, .int .u8 (b.pt : Int), .slice xa b.ws.length xc, .slice ta b.sk.length tc] 53 wr) := ht
  have HE : Hid (eqL eqW (a.ws.drop m) (b.ws.drop m) = eqL eqW a.ws b.ws) := he
  clear ht he T1
  have a11 : wr.cell? ⟨ba, 11, none⟩ = some (.slice wa a.ws.length wc) := block_cell HT.out.xa rfl
  have b11 : wr.cell? ⟨bb, 11, none⟩ = some (.slice xa b.ws.length xc) := block_cell HT.out.xb rfl
  by_cases hml : m < a.ws.length
  ·obtain ⟨c1, o1, rfl, d0, d1, d2⟩ := HA.out wr HT.out.bel m hml
   obtain ⟨c2, o2, rfl, f0, f1, f2⟩ := HB.out wr HT.out.bel m (by have := HLW.out; omega)
   have hml1 : (m : Int) < a.ws.length := by omega
   have hml2 : (m : Int) < b.ws.length := by have := HLW.out; omega
   have HSm : Hid _ := WST.out HLW.out m hml
   have HQ : Hid (m + 1 ≤ a.ws.length) := hml
   have hq := run_neq65 (a.ws.getD m dw) (b.ws.getD m dw)
   obtain ⟨z, hz⟩ := xj (eqW (a.ws.getD m dw) (b.ws.getD m dw))
   rw [hz] at hq HSm
   clear hz
   generalize a.ws.getD m dw = x at *
   generalize b.ws.getD m dw = u at *
   have HF : Hid (wr.cell? ⟨ba, 11, none⟩ = some (.slice (some ⟨c1, o1, none⟩) a.ws.length wc) ∧ wr.cell? ⟨bb, 11, none⟩ = some (.slice (some ⟨c2, o2, none⟩) b.ws.length xc) ∧ wr.cell? ⟨c1, o1 + m * 3, none⟩ = some (sd x.key) ∧ wr.cell? ⟨c1, o1 + m * 3 + 1, none⟩ = some (sd x.val) ∧ wr.cell? ⟨c1, o1 + m * 3 + 2, none⟩ = some (.bool x.dead) ∧ wr.cell? ⟨c2, o2 + m * 3, none⟩ = some (sd u.key) ∧ wr.cell? ⟨c2, o2 + m * 3 + 1, none⟩ = some (sd u.val) ∧ wr.cell? ⟨c2, o2 + m * 3 + 2, none⟩ = some (.bool u.dead)) := ⟨a11, b11, d0, d1, d2, f0, f1, f2⟩
   clear hlen' hlen2
   go_upto_region 6 with fail
   go_region_held3 (fun W => W.cell? ⟨ba, 11, none⟩ = some (.slice (some ⟨c1, o1, none⟩) a.ws.length wc) ∧ W.cell? ⟨bb, 11, none⟩ = some (.slice (some ⟨c2, o2, none⟩) b.ws.length xc) ∧ W.cell? ⟨c1, o1 + m * 3, none⟩ = some (sd x.key) ∧ W.cell? ⟨c1, o1 + m * 3 + 1, none⟩ = some (sd x.val) ∧ W.cell? ⟨c1, o1 + m * 3 + 2, none⟩ = some (.bool x.dead) ∧ W.cell? ⟨c2, o2 + m * 3, none⟩ = some (sd u.key) ∧ W.cell? ⟨c2, o2 + m * 3 + 1, none⟩ = some (sd u.val) ∧ W.cell? ⟨c2, o2 + m * 3 + 2, none⟩ = some (.bool u.dead))
    (exact HF.out) (fail)
   rename_i hHeld
   clear hHeld a11 b11 d0 d1 d2 f0 f1 f2 hq HF
   cases z
   ·have HY : Hid (y = false) := by
     have h1 := HSm.out
     rw [HE.out] at h1
     rw [HS.out, h1]
     rfl
    go_wp2_with fail
    go_ret
    exact ⟨by rw [HY.out]; rfl, HT.out.bel.drew⟩
   ·have HE1 : Hid (eqL eqW (a.ws.drop (m + 1)) (b.ws.drop (m + 1)) = eqL eqW a.ws b.ws) := by
     have h1 := HSm.out
     rw [HE.out] at h1
     rw [h1]
     rfl
    go_wp2_with fail
    go_roundw
    case rel => exact ⟨m + 1, HQ.out, by go_num, HT.out.on (Below.refl _ _).drew, HE1.out⟩
    case measure => simp [intOf]; omega
  ·have hml1 : ¬ (m : Int) < a.ws.length := by omega
   have HW : Hid (eqL eqW a.ws b.ws = true) := HE.out.symm.trans (WEN.out HLW.out m (by omega))
   have HY : Hid (y = (eqL eqT a.sk b.sk && ((a.k == b.k) && (a.c == b.c && a.n == b.n) && (a.sp == b.sp && a.sl == b.sl) && (a.ap == b.ap && a.al == b.al) && (a.key == b.key) && (a.to == b.to) && (a.lim == b.lim) && (a.pt == b.pt)))) := by
    rw [HS.out, HW.out]
    rfl
   clear hlen' hlen2 b11
   go_wp2_with fail
   clear a11 HA HB WNL WST WEN WE0 HS HW HE hml hml1 hm
   go_loopw [6] (fun i wr => ∃ m : Nat, m ≤ a.sk.length ∧ i = iw m ∧ Tw w ba bb #[iw a.k, uu a.c, uu a.n, uw a.sp, uu a.sl, uw a.ap, uu a.al, sd a.key, sd a.to, iw a.lim, .int .u8 (a.pt : Int), .slice wa a.ws.length wc, .slice sa a.sk.length sc] #[iw b.k, uu b.c, uu b.n, uw b.sp, uu b.sl, uw b.ap, uu b.al, sd b.key, sd b.to, iw b.lim, .int .u8 (b.pt : Int), .slice xa b.ws.length xc, .slice ta b.sk.length tc] 53 wr ∧ eqL eqT (a.sk.drop m) (b.sk.drop m) = eqL eqT a.sk b.sk) (fun i _ => a.sk.length - (intOf i).toNat)
   case atStart => exact ⟨0, Nat.zero_le _, rfl, HT.out, KE0.out⟩
   case round =>
    obtain ⟨m, hm, rfl, ht, he⟩ := hrel
    clear HT
    have HT : Hid (Tw w ba bb #[iw a.k, uu a.c, uu a.n, uw a.sp, uu a.sl, uw a.ap, uu a.al, sd a.key, sd a.to, iw a.lim, .int .u8 (a.pt : Int), .slice wa a.ws.length wc, .slice sa a.sk.length sc] #[iw b.k, uu b.c, uu b.n, uw b.sp, uu b.sl, uw b.ap, uu b.al, sd b.key, sd b.to, iw b.lim, .int .u8 (b.pt : Int), .slice xa b.ws.length xc, .slice ta b.sk.length tc] 53 wr) := ht
    have HE : Hid (eqL eqT (a.sk.drop m) (b.sk.drop m) = eqL eqT a.sk b.sk) := he
    clear ht he
    have a12 : wr.cell? ⟨ba, 12, none⟩ = some (.slice sa a.sk.length sc) := block_cell HT.out.xa rfl
    have b12 : wr.cell? ⟨bb, 12, none⟩ = some (.slice ta b.sk.length tc) := block_cell HT.out.xb rfl
    by_cases hml : m < a.sk.length
    ·obtain ⟨c1, o1, rfl, d0, d1⟩ := KA.out wr HT.out.bel m hml
     obtain ⟨c2, o2, rfl, f0, f1⟩ := KB.out wr HT.out.bel m (by have := HLK.out; omega)
     have hml1 : (m : Int) < a.sk.length := by omega
     have hml2 : (m : Int) < b.sk.length := by have := HLK.out; omega
     have HSm : Hid _ := KST.out HLK.out m hml
     have HQ : Hid (m + 1 ≤ a.sk.length) := hml
     have hq := run_neq24 (a.sk.getD m dt) (b.sk.getD m dt)
     obtain ⟨z, hz⟩ := xj (eqT (a.sk.getD m dt) (b.sk.getD m dt))
     rw [hz] at hq HSm
     clear hz
     generalize a.sk.getD m dt = x at *
     generalize b.sk.getD m dt = u at *
     have HF : Hid (wr.cell? ⟨ba, 12, none⟩ = some (.slice (some ⟨c1, o1, none⟩) a.sk.length sc) ∧ wr.cell? ⟨bb, 12, none⟩ = some (.slice (some ⟨c2, o2, none⟩) b.sk.length tc) ∧ wr.cell? ⟨c1, o1 + m * 2, none⟩ = some (uu x.c) ∧ wr.cell? ⟨c1, o1 + m * 2 + 1, none⟩ = some (uu x.n) ∧ wr.cell? ⟨c2, o2 + m * 2, none⟩ = some (uu u.c) ∧ wr.cell? ⟨c2, o2 + m * 2 + 1, none⟩ = some (uu u.n)) := ⟨a12, b12, d0, d1, f0, f1⟩
     go_upto_region 11 with fail
     go_region_held3 (fun W => W.cell? ⟨ba, 12, none⟩ = some (.slice (some ⟨c1, o1, none⟩) a.sk.length sc) ∧ W.cell? ⟨bb, 12, none⟩ = some (.slice (some ⟨c2, o2, none⟩) b.sk.length tc) ∧ W.cell? ⟨c1, o1 + m * 2, none⟩ = some (uu x.c) ∧ W.cell? ⟨c1, o1 + m * 2 + 1, none⟩ = some (uu x.n) ∧ W.cell? ⟨c2, o2 + m * 2, none⟩ = some (uu u.c) ∧ W.cell? ⟨c2, o2 + m * 2 + 1, none⟩ = some (uu u.n))
      (exact HF.out) (fail)
     rename_i hHeld
     clear hHeld a12 b12 d0 d1 f0 f1 hq HF
     cases z
     ·have HZ : Hid (y = false) := by
       have h1 := HSm.out
       rw [HE.out] at h1
       rw [HY.out, h1]
       rfl
      go_wp2_with fail
      go_ret
      exact ⟨by rw [HZ.out]; rfl, HT.out.bel.drew⟩
     ·have HE1 : Hid (eqL eqT (a.sk.drop (m + 1)) (b.sk.drop (m + 1)) = eqL eqT a.sk b.sk) := by
       have h1 := HSm.out
       rw [HE.out] at h1
       rw [h1]
       rfl
      go_wp2_with fail
      go_roundw
      case rel => exact ⟨m + 1, HQ.out, by go_num, HT.out.on (Below.refl _ _).drew, HE1.out⟩
      case measure => simp [intOf]; omega
    ·have hml1 : ¬ (m : Int) < a.sk.length := by omega
     have HW : Hid (eqL eqT a.sk b.sk = true) := HE.out.symm.trans (KEN.out HLK.out m (by omega))
     have HZ : Hid (y = ((a.k == b.k) && (a.c == b.c && a.n == b.n) && (a.sp == b.sp && a.sl == b.sl) && (a.ap == b.ap && a.al == b.al) && (a.key == b.key) && (a.to == b.to) && (a.lim == b.lim) && (a.pt == b.pt))) := by
      rw [HY.out, HW.out]
      rfl
     clear b12
     have p0 : wr.cell? ⟨ba, 0, none⟩ = some (iw a.k) := block_cell HT.out.xa rfl
     have p1 : wr.cell? ⟨ba, 1, none⟩ = some (uu a.c) := block_cell HT.out.xa rfl
     have p2 : wr.cell? ⟨ba, 2, none⟩ = some (uu a.n) := block_cell HT.out.xa rfl
     have p3 : wr.cell? ⟨ba, 3, none⟩ = some (uw a.sp) := block_cell HT.out.xa rfl
     have p4 : wr.cell? ⟨ba, 4, none⟩ = some (uu a.sl) := block_cell HT.out.xa rfl
     have p5 : wr.cell? ⟨ba, 5, none⟩ = some (uw a.ap) := block_cell HT.out.xa rfl
     have p6 : wr.cell? ⟨ba, 6, none⟩ = some (uu a.al) := block_cell HT.out.xa rfl
     have p7 : wr.cell? ⟨ba, 7, none⟩ = some (sd a.key) := block_cell HT.out.xa rfl
     have p8 : wr.cell? ⟨ba, 8, none⟩ = some (sd a.to) := block_cell HT.out.xa rfl
     have p9 : wr.cell? ⟨ba, 9, none⟩ = some (iw a.lim) := block_cell HT.out.xa rfl
     have p10 : wr.cell? ⟨ba, 10, none⟩ = some (.int .u8 (a.pt : Int)) := block_cell HT.out.xa rfl
     have q0 : wr.cell? ⟨bb, 0, none⟩ = some (iw b.k) := block_cell HT.out.xb rfl
     have q1 : wr.cell? ⟨bb, 1, none⟩ = some (uu b.c) := block_cell HT.out.xb rfl
     have q2 : wr.cell? ⟨bb, 2, none⟩ = some (uu b.n) := block_cell HT.out.xb rfl
     have q3 : wr.cell? ⟨bb, 3, none⟩ = some (uw b.sp) := block_cell HT.out.xb rfl
     have q4 : wr.cell? ⟨bb, 4, none⟩ = some (uu b.sl) := block_cell HT.out.xb rfl
     have q5 : wr.cell? ⟨bb, 5, none⟩ = some (uw b.ap) := block_cell HT.out.xb rfl
     have q6 : wr.cell? ⟨bb, 6, none⟩ = some (uu b.al) := block_cell HT.out.xb rfl
     have q7 : wr.cell? ⟨bb, 7, none⟩ = some (sd b.key) := block_cell HT.out.xb rfl
     have q8 : wr.cell? ⟨bb, 8, none⟩ = some (sd b.to) := block_cell HT.out.xb rfl
     have q9 : wr.cell? ⟨bb, 9, none⟩ = some (iw b.lim) := block_cell HT.out.xb rfl
     have q10 : wr.cell? ⟨bb, 10, none⟩ = some (.int .u8 (b.pt : Int)) := block_cell HT.out.xb rfl
     have e1 := run_eql24 a.c a.n b.c b.n
     have e2 := run_eql27 a.sp a.sl b.sp b.sl
     have e3 := run_eql27 a.ap a.al b.ap b.al
     have e4 := bs_beq a.key b.key
     have e5 := bs_beq a.to b.to
     have e7 := nat_beq a.pt b.pt
     obtain ⟨z0, hz0⟩ := xj (a.k == b.k)
     obtain ⟨z1, hz1⟩ := xj (a.c == b.c && a.n == b.n)
     obtain ⟨z2, hz2⟩ := xj (a.sp == b.sp && a.sl == b.sl)
     obtain ⟨z3, hz3⟩ := xj (a.ap == b.ap && a.al == b.al)
     obtain ⟨z4, hz4⟩ := xj (a.key == b.key)
     obtain ⟨z5, hz5⟩ := xj (a.to == b.to)
     obtain ⟨z6, hz6⟩ := xj (a.lim == b.lim)
     obtain ⟨z7, hz7⟩ := xj (a.pt == b.pt)
     rw [hz0, hz1, hz2, hz3, hz4, hz5, hz6, hz7] at HZ
     rw [hz1] at e1
     rw [hz2] at e2
     rw [hz3] at e3
     rw [hz4] at e4
     rw [hz5] at e5
     rw [hz7] at e7
     clear hz1 hz2 hz3 hz4 hz5 hz7
     cases z0
     ·go_wp2_with fail
      go_ret
      exact ⟨by rw [HZ.out]; rfl, HT.out.bel⟩
     cases z1
     ·go_wp2_with fail
      go_ret
      exact ⟨by rw [HZ.out]; rfl, HT.out.bel⟩
     cases z2
     ·go_wp2_with fail
      go_ret
      exact ⟨by rw [HZ.out]; rfl, HT.out.bel⟩
     cases z3
     ·go_wp2_with fail
      go_ret
      exact ⟨by rw [HZ.out]; rfl, HT.out.bel⟩
     cases z4
     ·go_wp2_with fail
      go_ret
      exact ⟨by rw [HZ.out]; rfl, HT.out.bel⟩
     cases z5
     ·go_wp2_with fail
      go_ret
      exact ⟨by rw [HZ.out]; rfl, HT.out.bel⟩
     cases z6
     ·go_wp2_with fail
      go_ret
      exact ⟨by rw [HZ.out]; rfl, HT.out.bel⟩
     cases z7
     ·go_wp2_with fail
      go_ret
      exact ⟨by rw [HZ.out]; rfl, HT.out.bel⟩
     ·go_wp2_with fail
      go_ret
      exact ⟨by rw [HZ.out]; rfl, HT.out.bel⟩
end Go.Proofs.YtkdkgdollmmcnaaGreat
