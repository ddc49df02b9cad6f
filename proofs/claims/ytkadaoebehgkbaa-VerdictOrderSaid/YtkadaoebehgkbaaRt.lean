/-
  The document's Retire.
-/
import Derived.Test.YtkadaoebehgkbaaSam
namespace Go.Proofs.Ytkadaoebehgkbaa
open Go.RowKit

theorem ret_snoc {p l : Int} {L : List (Int × Int)} {K : Bk} {m : Nat} (h : m < K.length) : retB p l L (K.take (m + 1)) = if stayB p l L (K.getD m dv) = true then retB p l L (K.take m) ++ [K.getD m dv] else retB p l L (K.take m) := by
  have e : K.take (m + 1) = K.take m ++ [K.getD m dv] := by
    rw [List.take_succ_eq_append_getElem h]
    simp [List.getD, h]
  unfold retB
  rw [e, List.filter_append]
  by_cases hs : stayB p l L (K.getD m dv) = true
  · rw [if_pos hs, List.filter_cons_of_pos hs, List.filter_nil]
  · rw [if_neg hs, List.filter_cons_of_neg hs, List.filter_nil, List.append_nil]
theorem vd_ow {base n : Nat} {sa : Option Addr} {sc : Nat} {l : Bk} {w : World} (x : Vd) (ho : w.ownsRow base 37 8 (.slice sa n sc) n (rowC vdc l)) (hb : base ≤ w.heap.size) (hl : n < 1000000) :
    Ow base 37 8 (.slice sa n sc) n (rowC vdc l) (w.heap.size + 1) (.slice (some ⟨w.heap.size, 0, none⟩) 1 1) 1 (rowC vdc [x]) (w.alloc (.cells (vdc x).toArray 37)) :=
  ⟨World.ownsRow.alloc ho _, row_one vdc 8 vdc_len x 37 w (fun j u hj => block_cell (heap_alloc_new w _) (by simpa using hj)), rowC_cells vdc vdc_one _, Nat.le_trans hb (by simp), by omega⟩
/-- A round's row, and the verdict looked at. -/
structure Rs (W0 : World) (b : Nat) (v : Value) (R : Bk) (x : Vd) (W : World) : Prop where
  vd : VdAt W b 0 x
  bel : Below W0.heap.size W0 W
  own : W.ownsRow W0.heap.size 37 8 v R.length (rowC vdc R)
theorem Rs.on {W0 W W' : World} {b : Nat} {v : Value} {R : Bk} {x : Vd} (h : Rs W0 b v R x W) (hb : Below W.heap.size W W') : Rs W0 b v R x W' := ⟨h.vd.on hb, h.bel.trans (hb.mono h.bel.size), own_on h.own hb⟩
theorem Rs.new {W0 W : World} {v : Value} {R : Bk} (x : Vd) (hb : Below W0.heap.size W0 W) (ho : W.ownsRow W0.heap.size 37 8 v R.length (rowC vdc R)) : Rs W0 W.heap.size v R x (W.alloc (.cells #[.int .u32 x.c, .int .u32 x.n, .int .u64 x.sp, .int .u32 x.sl, .int .u64 x.ap, .int .u32 x.al, .int .u8 x.pt, .bool x.dn] 37)) := by
  have hx := heap_alloc_new W (.cells #[.int .u32 x.c, .int .u32 x.n, .int .u64 x.sp, .int .u32 x.sl, .int .u64 x.ap, .int .u32 x.al, .int .u8 x.pt, .bool x.dn] 37)
  exact ⟨⟨block_cell hx rfl, block_cell hx rfl, block_cell hx rfl, block_cell hx rfl, block_cell hx rfl, block_cell hx rfl, block_cell hx rfl, block_cell hx rfl⟩, hb.alloc hb.size _, World.ownsRow.alloc ho _⟩
/-- What the new row comes to: the box holds it. -/
theorem RbAt.put {B rb : Nat} {sl v' : Value} {K K' : Bk} {w w1 w5 : World} (h : RbAt B rb sl K w) (hb1 : Below w.heap.size w w1) (h5 : Below w1.heap.size w1 w5) (hown : w5.ownsRow w1.heap.size 37 8 v' K'.length (rowC vdc K')) (hs : SrtV K') : RbTo B rb sl K' w (w5.setCell ⟨rb, 0, none⟩ v') := by
  have hlt : rb < w.heap.size := (h.lt (.inl rfl)).2
  have h5' : RbAt B rb sl K w5 := (h.on hb1).on h5
  have hne : v'.ownBlock ≠ some rb := fun e => by
    have := (World.ownsRow.lt hown rb e).1
    have := hb1.size
    omega
  have hB : B ≤ w1.heap.size := by have := h.lo; have := hb1.size; omega
  refine ⟨v', ⟨block_set _ h5'.box, own_kept (own_le hown hB) (set_kept (fun k => k = rb) w5 ⟨rb, 0, none⟩ v' rfl) (fun k e he => hne (he ▸ e)), h.lo, hne, hs⟩, ?_, fun i hi => ?_⟩
  · have k1 : Kept (foot rb sl) w w5 := Kept.of_below (hb1.trans (h5.mono hb1.size))
    exact k1.trans (set_kept (foot rb sl) w5 ⟨rb, 0, none⟩ v' (.inl rfl)) (fun i hi => .inl hi)
  · rcases hi with rfl | hi
    · exact .inl (.inl rfl)
    · have := (World.ownsRow.lt hown i hi).1
      have := hb1.size
      exact .inr (by omega)

set_option maxHeartbeats 1600000 in
set_option maxRecDepth 100000 in
theorem retire14 (B rb : Nat) (sl : Value) (K : Bk) (p l : Int) (kv : Value) (L : List (Int × Int)) (w : World) (h : RbAt B rb sl K w) (hl : K.length < 100000) (hk : TsAt w.heap.size kv L w) :
    Calls Try.prog 14 #[.pointer (some ⟨rb, 0, none⟩), .agg #[.int .u64 p, .int .u32 l], kv] w fun e w' => e = .returned (.int .i64 ((K.length - (retB p l L K).length : Nat) : Int)) ∧ RbTo B rb sl (retB p l L K) w w' := by
  obtain ⟨i0, hin, hi0, hi1, hi2⟩ := info_parts info37
  obtain ⟨ao, cap, rfl, hlc, hcm⟩ := h.is.shape
  have HR : Hid (RbAt B rb (.slice ao K.length cap) K w) := h
  have hL9 : K.length < 9223372036854775808 := by omega
  have CL0 : Hid (∀ (a b : Int) W, _) := fun a b W => lessR a b p l W
  have CM0 : Hid (∀ x W, _) := fun x W => com22 x W
  have CK : Hid (∀ (a b : Int) W, Below w.heap.size w W → _) := fun a b W hb => among26 _ L kv a b W (RwAt.on hk hb) hb.size
  clear h hlc hcm hk
  go_enter Try.func14, Try.ntmps14
  go_wp2_with fail
  obtain ⟨W0, hW0⟩ : ∃ W0, w.alloc (.cells #[.int .u64 p, .int .u32 l] 35) = W0 := ⟨_, rfl⟩
  have HB0 : Hid (W0.heap[w.heap.size]? = some (.cells #[.int .u64 p, .int .u32 l] 35 (0, 0)) ∧ Below w.heap.size w W0) := by rw [← hW0]; exact ⟨heap_alloc_new w _, al _⟩
  rw [hW0]
  obtain ⟨bx, hbx⟩ : ∃ bx, w.heap.size = bx := ⟨_, rfl⟩
  have HBX : Hid (w.heap.size = bx) := hbx
  have CA0 : Hid (∀ (a b : Int) W, Below W0.heap.size W0 W → _) := fun a b W hb => CK.out a b W (HB0.out.2.trans (hb.mono HB0.out.2.size))
  have HEW : Hid (∀ W, Below W0.heap.size W0 W → W.cell? ⟨w.heap.size, 0, none⟩ = some (.int .u64 p) ∧ W.cell? ⟨w.heap.size, 1, none⟩ = some (.int .u32 l) ∧ W.cell? ⟨rb, 0, none⟩ = some (.slice ao K.length cap) ∧ ∀ i, i < K.length → ∃ b off, ao = some ⟨b, off, none⟩ ∧ VdAt W b (off + i * 8) (K.getD i dv)) := fun W hb => by
    have hx : W.heap[w.heap.size]? = some (.cells #[.int .u64 p, .int .u32 l] 35 (0, 0)) := by rw [hb.block _ (Array.getElem?_eq_some_iff.1 HB0.out.1).1]; exact HB0.out.1
    have hr := (HR.out.on HB0.out.2).on hb
    exact ⟨block_cell hx rfl, block_cell hx rfl, hr.cell, fun i hi => hr.is.el hi⟩
  rw [hbx] at HEW ⊢
  clear hW0 hbx CK
  go_loopw [7, 8] (fun vv i wr => ∃ m : Nat, m ≤ K.length ∧ i = .int .i64 m ∧ wr.ownsRow W0.heap.size 37 8 vv (retB p l L (K.take m)).length (rowC vdc (retB p l L (K.take m))) ∧ Below W0.heap.size W0 wr) (fun _ i _ => K.length - (intOf i).toNat)
  case atStart => exact ⟨0, Nat.zero_le _, rfl, own_nil _ _ _ _, Below.refl _ _⟩
  case round =>
    obtain ⟨m, hm, rfl, hown, hbr⟩ := hrel
    obtain ⟨sa, sc, rfl, -, -, -, -⟩ := rw_own hown
    have HO : Hid _ := hown
    have HB : Hid (Below W0.heap.size W0 wr) := hbr
    obtain ⟨x0, x1, d0, hel⟩ := HEW.out wr hbr
    clear hown hbr
    by_cases hml : m < K.length
    · obtain ⟨b, off, rfl, e0, e1, e2, e3, e4, e5, e6, e7⟩ := hel m hml
      have hml' : (m : Int) < K.length := by omega
      have hst := ret_snoc (p := p) (l := l) (L := L) hml
      have hln : (retB p l L (K.take m)).length < 100000 := by have h1 := ret_len p l L (K.take m); have h2 := List.length_take_le m K; omega
      obtain ⟨R, hR⟩ : ∃ R, retB p l L (K.take m) = R := ⟨_, rfl⟩
      obtain ⟨R1, hR1⟩ : ∃ R1, retB p l L (K.take (m + 1)) = R1 := ⟨_, rfl⟩
      rw [hR] at HO hst hln
      rw [hR1] at hst
      have HR1 : Hid (retB p l L (K.take (m + 1)) = R1) := hR1
      rw [hR]
      clear hR hR1 hel
      generalize K.getD m dv = x at *
      obtain ⟨xc, xn, xp, xq, yp, yq, pt, dn⟩ := x
      dsimp only at e0 e1 e2 e3 e4 e5 e6 e7
      obtain ⟨zl, hzl⟩ : ∃ z, lessB xp xq p l = z := ⟨_, rfl⟩
      obtain ⟨zm, hzm⟩ : ∃ z, cmB (Vd.mk xc xn xp xq yp yq pt dn) = z := ⟨_, rfl⟩
      obtain ⟨zc, hzc⟩ : ∃ z, L.contains (xc, xn) = z := ⟨_, rfl⟩
      obtain ⟨zs, hzs⟩ : ∃ z, stayB p l L (Vd.mk xc xn xp xq yp yq pt dn) = z := ⟨_, rfl⟩
      have HSb : Hid (zs = (!zl || (zm && !dn) || zc)) := by show _ = _; rw [← hzl, ← hzm, ← hzc, ← hzs]; rfl
      have HSt : Hid (zs = true → R1 = R ++ [(Vd.mk xc xn xp xq yp yq pt dn)]) := fun h => by rw [hst, if_pos (hzs.trans h)]
      have HSf : Hid (zs = false → R1 = R) := fun h => by rw [hst, if_neg (by rw [hzs, h]; simp)]
      have HI : Hid (Rs W0 wr.heap.size (.slice sa R.length sc) R (Vd.mk xc xn xp xq yp yq pt dn) (wr.alloc (.cells #[.int .u32 xc, .int .u32 xn, .int .u64 xp, .int .u32 xq, .int .u64 yp, .int .u32 yq, .int .u8 pt, .bool dn] 37))) := Rs.new (Vd.mk xc xn xp xq yp yq pt dn) HB.out HO.out
      have CL : Hid (∀ W : World, Calls Try.prog 29 #[.agg #[.int .u64 xp, .int .u32 xq], .agg #[.int .u64 p, .int .u32 l]] W fun e w' => e = .returned (.bool zl) ∧ Below W.heap.size W w') := fun W => by rw [← hzl]; exact CL0.out xp xq W
      have CM : Hid (∀ W : World, Calls Try.prog 21 #[.agg #[.int .u32 xc, .int .u32 xn, .int .u64 xp, .int .u32 xq, .int .u64 yp, .int .u32 yq, .int .u8 pt, .bool dn]] W fun e w' => e = .returned (.bool zm) ∧ Below W.heap.size W w') := fun W => by rw [← hzm]; exact CM0.out (Vd.mk xc xn xp xq yp yq pt dn) W
      have CA : Hid (∀ W : World, Below W0.heap.size W0 W → Calls Try.prog 30 #[kv, .agg #[.int .u32 xc, .int .u32 xn]] W fun e w' => e = .returned (.bool zc) ∧ Below W.heap.size W w') := fun W hb => by rw [← hzc]; exact CA0.out xc xn W hb
      clear hst CL0 CM0 CA0 hzl hzm hzc hzs HO
      have y0 : (wr.alloc (.cells #[.int .u32 xc, .int .u32 xn, .int .u64 xp, .int .u32 xq, .int .u64 yp, .int .u32 yq, .int .u8 pt, .bool dn] 37)).cell? ⟨bx, 0, none⟩ = some (.int .u64 p) := by rw [(al _).cell (World.block_lt_of_cell? _ _ x0)]; exact x0
      have y1 : (wr.alloc (.cells #[.int .u32 xc, .int .u32 xn, .int .u64 xp, .int .u32 xq, .int .u64 yp, .int .u32 yq, .int .u8 pt, .bool dn] 37)).cell? ⟨bx, 1, none⟩ = some (.int .u32 l) := by rw [(al _).cell (World.block_lt_of_cell? _ _ x1)]; exact x1
      go_wp2_with fail
      refine (CL.out _).mono ?_
      rintro e w1 ⟨rfl, hb1⟩
      have H1 : Hid (Rs W0 wr.heap.size (.slice sa R.length sc) R (Vd.mk xc xn xp xq yp yq pt dn) w1) := HI.out.on hb1
      clear hb1 CL HI y0 y1 x0 x1 d0 e0 e1 e2 e3 e4 e5 e6 e7
      cases zl
      · clear CM CA
        obtain ⟨i0, i1, i2, i3, i4, i5, i6, i7⟩ := H1.out.vd
        simp only [Nat.zero_add] at i0 i1 i2 i3 i4 i5 i6 i7
        have HOw : Hid (Ow W0.heap.size 37 8 (.slice sa R.length sc) R.length (rowC vdc R) (w1.heap.size + 1) (.slice (some ⟨w1.heap.size, 0, none⟩) 1 1) 1 (rowC vdc [(Vd.mk xc xn xp xq yp yq pt dn)]) (w1.alloc (.cells #[.int .u32 xc, .int .u32 xn, .int .u64 xp, .int .u32 xq, .int .u64 yp, .int .u32 yq, .int .u8 pt, .bool dn] 37))) := vd_ow (Vd.mk xc xn xp xq yp yq pt dn) H1.out.own H1.out.bel.size (by omega)
        have HS : Hid (R1 = R ++ [(Vd.mk xc xn xp xq yp yq pt dn)]) := HSt.out (by rw [HSb.out]; simp)
        have HBw : Hid (Below W0.heap.size W0 w1) := H1.out.bel
        clear HSb HSt HSf H1
        go_wp2_with (at_builtin; refine wpList_append_rw HOw.out Try.underlying27 hin hi0 hi1 hi2 rfl (by decide) (by decide) (.tmp 47) (.tmp 49) rfl rfl rfl rfl ?_)
        intro v' w4 hown hg hat
        have HB4 : Hid (Below W0.heap.size W0 w4) := below_own (HBw.out.alloc HBw.out.size _) HOw.out.size HOw.out.own hg
        obtain ⟨sa4, sc4, rfl, -, -, -, -⟩ := rw_own hown
        have HO4 : Hid (w4.ownsRow W0.heap.size 37 8 (.slice sa4 (R.length + 1) sc4) (R ++ [(Vd.mk xc xn xp xq yp yq pt dn)]).length (rowC vdc (R ++ [(Vd.mk xc xn xp xq yp yq pt dn)]))) := by
          rw [rowC_append, List.length_append]
          exact hown
        clear hown hg hat HOw i0 i1 i2 i3 i4 i5 i6 i7
        go_wp2_with fail
        go_roundw
        case rel => exact ⟨m + 1, by omega, by go_num, by rw [HR1.out, HS.out]; exact HO4.out, HB4.out⟩
        case measure => simp [intOf]; omega
      · obtain ⟨i0, i1, i2, i3, i4, i5, i6, i7⟩ := H1.out.vd
        simp only [Nat.zero_add] at i0 i1 i2 i3 i4 i5 i6 i7
        go_wp2_with fail
        refine (CM.out _).mono ?_
        rintro e w2 ⟨rfl, hb2⟩
        have H2 : Hid (Rs W0 wr.heap.size (.slice sa R.length sc) R (Vd.mk xc xn xp xq yp yq pt dn) w2) := H1.out.on hb2
        clear hb2 CM H1 i0 i1 i2 i3 i4 i5 i6 i7
        cases zm
        · skip
          obtain ⟨i0, i1, -, -, -, -, -, i7⟩ := H2.out.vd
          simp only [Nat.zero_add] at i0 i1 i7
          go_wp2_with fail
          refine (CA.out _ H2.out.bel).mono ?_
          rintro e w3 ⟨rfl, hb3⟩
          have H3 : Hid (Rs W0 wr.heap.size (.slice sa R.length sc) R (Vd.mk xc xn xp xq yp yq pt dn) w3) := H2.out.on hb3
          clear hb3 CA H2 i0 i1 i7
          cases zc
          · have HS : Hid (R1 = R) := HSf.out (by rw [HSb.out]; simp)
            clear HSb HSt HSf
            go_wp2_with fail
            go_roundw
            case rel => exact ⟨m + 1, by omega, by go_num, by rw [HR1.out, HS.out]; exact H3.out.own, H3.out.bel⟩
            case measure => simp [intOf]; omega
          · obtain ⟨i0, i1, i2, i3, i4, i5, i6, i7⟩ := H3.out.vd
            simp only [Nat.zero_add] at i0 i1 i2 i3 i4 i5 i6 i7
            have HOw : Hid (Ow W0.heap.size 37 8 (.slice sa R.length sc) R.length (rowC vdc R) (w3.heap.size + 1) (.slice (some ⟨w3.heap.size, 0, none⟩) 1 1) 1 (rowC vdc [(Vd.mk xc xn xp xq yp yq pt dn)]) (w3.alloc (.cells #[.int .u32 xc, .int .u32 xn, .int .u64 xp, .int .u32 xq, .int .u64 yp, .int .u32 yq, .int .u8 pt, .bool dn] 37))) := vd_ow (Vd.mk xc xn xp xq yp yq pt dn) H3.out.own H3.out.bel.size (by omega)
            have HS : Hid (R1 = R ++ [(Vd.mk xc xn xp xq yp yq pt dn)]) := HSt.out (by rw [HSb.out]; simp)
            have HBw : Hid (Below W0.heap.size W0 w3) := H3.out.bel
            clear HSb HSt HSf H3
            go_wp2_with (at_builtin; refine wpList_append_rw HOw.out Try.underlying27 hin hi0 hi1 hi2 rfl (by decide) (by decide) (.tmp 47) (.tmp 49) rfl rfl rfl rfl ?_)
            intro v' w4 hown hg hat
            have HB4 : Hid (Below W0.heap.size W0 w4) := below_own (HBw.out.alloc HBw.out.size _) HOw.out.size HOw.out.own hg
            obtain ⟨sa4, sc4, rfl, -, -, -, -⟩ := rw_own hown
            have HO4 : Hid (w4.ownsRow W0.heap.size 37 8 (.slice sa4 (R.length + 1) sc4) (R ++ [(Vd.mk xc xn xp xq yp yq pt dn)]).length (rowC vdc (R ++ [(Vd.mk xc xn xp xq yp yq pt dn)]))) := by
              rw [rowC_append, List.length_append]
              exact hown
            clear hown hg hat HOw i0 i1 i2 i3 i4 i5 i6 i7
            go_wp2_with fail
            go_roundw
            case rel => exact ⟨m + 1, by omega, by go_num, by rw [HR1.out, HS.out]; exact HO4.out, HB4.out⟩
            case measure => simp [intOf]; omega
        · cases dn
          · clear CA
            obtain ⟨i0, i1, i2, i3, i4, i5, i6, i7⟩ := H2.out.vd
            simp only [Nat.zero_add] at i0 i1 i2 i3 i4 i5 i6 i7
            have HOw : Hid (Ow W0.heap.size 37 8 (.slice sa R.length sc) R.length (rowC vdc R) (w2.heap.size + 1) (.slice (some ⟨w2.heap.size, 0, none⟩) 1 1) 1 (rowC vdc [(Vd.mk xc xn xp xq yp yq pt false)]) (w2.alloc (.cells #[.int .u32 xc, .int .u32 xn, .int .u64 xp, .int .u32 xq, .int .u64 yp, .int .u32 yq, .int .u8 pt, .bool false] 37))) := vd_ow (Vd.mk xc xn xp xq yp yq pt false) H2.out.own H2.out.bel.size (by omega)
            have HS : Hid (R1 = R ++ [(Vd.mk xc xn xp xq yp yq pt false)]) := HSt.out (by rw [HSb.out]; simp)
            have HBw : Hid (Below W0.heap.size W0 w2) := H2.out.bel
            clear HSb HSt HSf H2
            go_wp2_with (at_builtin; refine wpList_append_rw HOw.out Try.underlying27 hin hi0 hi1 hi2 rfl (by decide) (by decide) (.tmp 47) (.tmp 49) rfl rfl rfl rfl ?_)
            intro v' w4 hown hg hat
            have HB4 : Hid (Below W0.heap.size W0 w4) := below_own (HBw.out.alloc HBw.out.size _) HOw.out.size HOw.out.own hg
            obtain ⟨sa4, sc4, rfl, -, -, -, -⟩ := rw_own hown
            have HO4 : Hid (w4.ownsRow W0.heap.size 37 8 (.slice sa4 (R.length + 1) sc4) (R ++ [(Vd.mk xc xn xp xq yp yq pt false)]).length (rowC vdc (R ++ [(Vd.mk xc xn xp xq yp yq pt false)]))) := by
              rw [rowC_append, List.length_append]
              exact hown
            clear hown hg hat HOw i0 i1 i2 i3 i4 i5 i6 i7
            go_wp2_with fail
            go_roundw
            case rel => exact ⟨m + 1, by omega, by go_num, by rw [HR1.out, HS.out]; exact HO4.out, HB4.out⟩
            case measure => simp [intOf]; omega
          · skip
            obtain ⟨i0, i1, -, -, -, -, -, i7⟩ := H2.out.vd
            simp only [Nat.zero_add] at i0 i1 i7
            go_wp2_with fail
            refine (CA.out _ H2.out.bel).mono ?_
            rintro e w3 ⟨rfl, hb3⟩
            have H3 : Hid (Rs W0 wr.heap.size (.slice sa R.length sc) R (Vd.mk xc xn xp xq yp yq pt true) w3) := H2.out.on hb3
            clear hb3 CA H2 i0 i1 i7
            cases zc
            · have HS : Hid (R1 = R) := HSf.out (by rw [HSb.out]; simp)
              clear HSb HSt HSf
              go_wp2_with fail
              go_roundw
              case rel => exact ⟨m + 1, by omega, by go_num, by rw [HR1.out, HS.out]; exact H3.out.own, H3.out.bel⟩
              case measure => simp [intOf]; omega
            · obtain ⟨i0, i1, i2, i3, i4, i5, i6, i7⟩ := H3.out.vd
              simp only [Nat.zero_add] at i0 i1 i2 i3 i4 i5 i6 i7
              have HOw : Hid (Ow W0.heap.size 37 8 (.slice sa R.length sc) R.length (rowC vdc R) (w3.heap.size + 1) (.slice (some ⟨w3.heap.size, 0, none⟩) 1 1) 1 (rowC vdc [(Vd.mk xc xn xp xq yp yq pt true)]) (w3.alloc (.cells #[.int .u32 xc, .int .u32 xn, .int .u64 xp, .int .u32 xq, .int .u64 yp, .int .u32 yq, .int .u8 pt, .bool true] 37))) := vd_ow (Vd.mk xc xn xp xq yp yq pt true) H3.out.own H3.out.bel.size (by omega)
              have HS : Hid (R1 = R ++ [(Vd.mk xc xn xp xq yp yq pt true)]) := HSt.out (by rw [HSb.out]; simp)
              have HBw : Hid (Below W0.heap.size W0 w3) := H3.out.bel
              clear HSb HSt HSf H3
              go_wp2_with (at_builtin; refine wpList_append_rw HOw.out Try.underlying27 hin hi0 hi1 hi2 rfl (by decide) (by decide) (.tmp 47) (.tmp 49) rfl rfl rfl rfl ?_)
              intro v' w4 hown hg hat
              have HB4 : Hid (Below W0.heap.size W0 w4) := below_own (HBw.out.alloc HBw.out.size _) HOw.out.size HOw.out.own hg
              obtain ⟨sa4, sc4, rfl, -, -, -, -⟩ := rw_own hown
              have HO4 : Hid (w4.ownsRow W0.heap.size 37 8 (.slice sa4 (R.length + 1) sc4) (R ++ [(Vd.mk xc xn xp xq yp yq pt true)]).length (rowC vdc (R ++ [(Vd.mk xc xn xp xq yp yq pt true)]))) := by
                rw [rowC_append, List.length_append]
                exact hown
              clear hown hg hat HOw i0 i1 i2 i3 i4 i5 i6 i7
              go_wp2_with fail
              go_roundw
              case rel => exact ⟨m + 1, by omega, by go_num, by rw [HR1.out, HS.out]; exact HO4.out, HB4.out⟩
              case measure => simp [intOf]; omega
    · have hml' : ¬ (m : Int) < K.length := by omega
      have HZ : Hid (retB p l L (K.take m) = retB p l L K) := by show _ = _; rw [List.take_of_length_le (by omega)]
      have HLe : Hid ((retB p l L K).length ≤ K.length) := ret_len p l L K
      have HX : Hid (RbTo B rb (.slice ao K.length cap) (retB p l L K) w (wr.setCell ⟨rb, 0, none⟩ (.slice sa (retB p l L K).length sc))) := by
        have ho := HO.out
        rw [HZ.out] at ho
        exact HR.out.put HB0.out.2 HB.out ho (ret_srt HR.out.ok p l L)
      have f0 : wr.frozen? ⟨rb, 0, none⟩ = false := block_frozen ((HR.out.on HB0.out.2).on HB.out).box 0
      obtain ⟨R, hRe⟩ : ∃ R, retB p l L K = R := ⟨_, rfl⟩
      have HRe : Hid (retB p l L K = R) := hRe
      rw [HZ.out] at HO ⊢
      rw [hRe] at HO HX HLe ⊢
      clear hRe
      have hRl : R.length ≤ K.length := HLe.out
      clear hel HO
      go_wp2_with fail
      go_ret
      rw [HRe.out]
      exact ⟨by rw [show ((K.length - R.length : Nat) : Int) = (K.length : Int) - R.length from by omega]; rfl, HX.out⟩
end Go.Proofs.Ytkadaoebehgkbaa
