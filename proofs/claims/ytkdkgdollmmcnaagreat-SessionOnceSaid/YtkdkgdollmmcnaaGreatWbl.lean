import Derived.Test.YtkdkgdollmmcnaaGreatWbk
import Derived.Test.YtkdkgdollmmcnaaGreatWba
set_option maxHeartbeats 4000000
set_option maxRecDepth 100000
set_option linter.unusedVariables false
set_option linter.unusedSimpArgs false
namespace Go.Proofs.YtkdkgdollmmcnaaGreat
open Go.RowKit Go.Sort Go.Shelf
variable {M M' G N : Nat → Prop} {W W' w : World} {f f' : Fo} {X X' : Ss}
def letX (X : Ss) (x : Ax) : Lx := ⟨letF X x.a, x.vw, x.vs⟩
theorem letX_one {x : Ax} (h1 : x.vw.oneCell' = true) (h2 : x.vs.oneCell' = true) : ∀ u ∈ lxc (letX X x), u.oneCell' = true := fun u hu => by
 have k : u ∈ [Value.int .u32 (X.cl : Int), uu x.a.sh, uu x.a.sq, .bool false] ∨ u ∈ rqc x.a.q x.vw x.vs ∨ u ∈ zrc := by
  have e : lxc (letX X x) = [Value.int .u32 (X.cl : Int), uu x.a.sh, uu x.a.sq, .bool false] ++ (rqc x.a.q x.vw x.vs ++ zrc) := rfl
  rw [e] at hu
  rcases List.mem_append.1 hu with e | e
  ·exact .inl e
  ·exact .inr (List.mem_append.1 e)
 rcases k with k | k | k
 ·simp only [List.mem_cons, List.not_mem_nil, or_false] at k
  rcases k with rfl | rfl | rfl | rfl <;> rfl
 ·exact rqc_one h1 h2 u k
 ·simp only [zrc, List.mem_cons, List.not_mem_nil, or_false] at k
  rcases k with rfl | rfl | rfl | rfl | rfl | rfl | rfl | rfl | rfl | rfl | rfl | rfl | rfl | rfl <;> rfl
theorem posted_out {Lo Lm : List Bo} {x : Lx} {vo' : Value} (c : Cx M N w f X Lo Lm W) (hx : QF (f.Ex (Nm N Lm) X.act) x.l.q x.vw x.vs W ∧ x.l.an = false ∧ x.l.r = zR ∧ x.vw.oneCell' = true ∧ x.vs.oneCell' = true) (h2 : W'.ownsRow 0 55 31 vo' (f.lo.length + 1) (rowC lxc f.lo ++ lxc x)) (hg : W.grownBy W' f.vo.ownBlock) (hat : vo'.ownBlock = f.vo.ownBlock ∨ vo'.ownBlock = some W.heap.size) :
  To f (Nm N Lm) X.act W { f with vo := vo', lo := f.lo ++ [x] } { X with out := X.out ++ [x.l] } (W'.setCell ⟨f.sb, 9, none⟩ vo') := by
 have h := c.sc
 have hk := grown_kept hg
 have ks := set_kept' W' f.sb 9 vo'
 have hb9 : W'.heap[f.sb]? = some (.cells (sbA f X) 77 (0, 0)) := by rw [hk.block _ (lt_blk h.blk) (fun e => own_ne h.ro h.blk (by decide) e)]; exact h.blk
 have hkk : Kept f.Pg W (W'.setCell ⟨f.sb, 9, none⟩ vo') := (hk.mono (fun k e => .inr (.inr e))).trans ks (fun k e => .inl (.inl e))
 have k := SC.posted (X' := { X with out := X.out ++ [x.l] }) (va := f.va) (vo := vo') (la := f.la) (lo := f.lo ++ [x]) h hkk ?_ ?_ ?_ (fun k e => .inl e) ?_ ?_ (fun y hy => .inl hy) ?_
 ·exact k
 ·have := block_set (j := 9) vo' hb9
  exact this
 ·refine own_kept h.ra ((hk.mono (G := fun k => k = f.sb ∨ f.vo.ownBlock = some k) (fun k e => .inr e)).trans ks (fun k e => .inl (.inl e))) (fun k hv e => ?_)
  rcases e with e | e
  ·subst e
   exact own_ne h.ra h.blk (by decide) hv
  ·obtain ⟨c9, hc9⟩ := own_blk h.ro e
   exact own_ne h.ra hc9 (by decide) hv
 ·rw [List.length_append, rowC_append, rowC_one]
  exact own_kept h2 ks (fun k hv e => by subst e; exact own_ne h2 hb9 (by decide) hv)
 ·intro k e
  rcases hat with e2 | e2
  ·exact .inl (by rw [← e2]; exact e)
  ·rw [e2] at e
   injection e with e
   exact .inr (by omega)
 ·rw [← h.ea, List.map_append, ← h.eo]
  rfl
 ·intro y hy
  rcases List.mem_append.1 hy with e | e
  ·exact .inl e
  ·rw [List.mem_singleton] at e
   subst e
   exact .inr hx
theorem again20 (h : SC f N X w) (hn : Nok N f X.act w) (bd : Bd f X) (hlo : f.lo.length + f.la.length ≤ 1048576) : Calls Tryz.prog 20 #[pz f.sb] w fun e w' => e = .returned (.tuple #[]) ∧ ∃ vo, To f N X.act w { f with vo := vo, lo := f.lo ++ f.la.map (letX X) } (againF X) w' := by
 obtain ⟨i5, z5, kin, k1, k2, k3, k4⟩ := info55
 obtain ⟨ao, cap, hva, -, hlc, hcm, -⟩ := rw_own h.ra
 have HVA : Hid (f.va = .slice ao f.la.length cap) := hva
 have X0 : Hid (Cx (f.In X.act) N w f X [] [] w) := Cx.start h hn nb
 have p8 : w.cell? ⟨f.sb, 8, none⟩ = some (.slice ao f.la.length cap) := by rw [← hva]; exact block_cell h.blk rfl
 have HEA : Hid (X.asks = f.la.map Ax.a) := h.ea
 have HLO : Hid (f.lo.length + f.la.length ≤ 1048576) := hlo
 have hll : f.la.length < 9223372036854775808 := by omega
 clear h hn bd hva hlo
 go_enter Tryz.func20, Tryz.ntmps20
 go_wp2_with fail
 clear p8
 go_loopw [11] (fun i wr => ∃ (m : Nat) (vo : Value), m ≤ f.la.length ∧ i = iw (m : Int) ∧ Hid (Cx (f.In X.act) N w { f with vo := vo, lo := f.lo ++ (f.la.take m).map (letX X) } { X with out := X.out ++ (X.asks.take m).map (letF X) } [] [] wr)) (fun i _ => f.la.length - (intOf i).toNat)
 case atStart =>
  refine ⟨0, f.vo, Nat.zero_le _, rfl, ?_⟩
  have k := X0.out
  have e1 : ({ f with vo := f.vo, lo := f.lo ++ (f.la.take 0).map (letX X) } : Fo) = f := by simp
  have e2 : ({ X with out := X.out ++ (X.asks.take 0).map (letF X) } : Ss) = X := by simp
  rw [e1, e2]
  exact X0
 case round =>
  obtain ⟨m, vo, hmm, rfl, XM⟩ := hrel
  clear X0
  by_cases hml : m < f.la.length
  ·have hmi : (m : Int) < f.la.length := by omega
   have hm0 : ¬ (m : Int) < 0 := by omega
   have HM : Hid (m + 1 ≤ f.la.length) := hml
   obtain ⟨fm, hfm⟩ : ∃ fm : Fo, { f with vo := vo, lo := f.lo ++ (f.la.take m).map (letX X) } = fm := ⟨_, rfl⟩
   obtain ⟨Xm, hXm⟩ : ∃ Xm : Ss, { X with out := X.out ++ (X.asks.take m).map (letF X) } = Xm := ⟨_, rfl⟩
   have HFM : Hid ({ f with vo := vo, lo := f.lo ++ (f.la.take m).map (letX X) } = fm) := hfm
   have HXM : Hid ({ X with out := X.out ++ (X.asks.take m).map (letF X) } = Xm) := hXm
   rw [hfm, hXm] at XM
   have hsb : fm.sb = f.sb := by rw [← hfm]
   have HF3 : Hid (fm.la = f.la ∧ fm.va = f.va ∧ fm.vo = vo ∧ fm.lo.length = f.lo.length + m) := by show _ ∧ _; rw [← hfm]; exact ⟨rfl, rfl, rfl, by simp; omega⟩
   have HX3 : Hid (Xm.act = X.act ∧ Xm.cl = X.cl) := by show _ ∧ _; rw [← hXm]; exact ⟨rfl, rfl⟩
   clear hfm hXm
   obtain ⟨g, rfl⟩ : ∃ g, ao = some ⟨g, 0, none⟩ := by
    have k := XM.out.sc.ra
    rw [HF3.out.1, HF3.out.2.1, HVA.out] at k
    rcases k.2 with ⟨e, k0⟩ | ⟨g, cap, cur, e, -⟩
    ·omega
    ·injection e with e1
     exact ⟨g, e1⟩
   obtain ⟨x, hx⟩ := xj (f.la.getD m dax)
   have HXX : Hid (f.la.getD m dax = x) := hx
   have KX : Hid (AkIs (fm.Ex (Nm N []) Xm.act) fm Xm wr x) := by
    have k := XM.out.sc.ak x (by rw [HF3.out.1, ← hx]; exact getD_mem (d := dax) hml)
    exact k
   have ER : Hid (wr.rangeAt g (m * 33) (axc X.cl x)) := by
    have k := XM.out.sc.ra
    rw [HF3.out.1, HF3.out.2.1, HVA.out, HX3.out.2] at k
    have k2 := own_range (axc_len X.cl) dax k hml
    rw [hx] at k2
    exact k2
   clear hx
   have hall : Hid ((axc X.cl x).toArray.all (·.oneCell') = true) := all_oneCell_toArray (axc_one X.cl x KX.out.one.2.1 KX.out.one.2.2 KX.out.one.1)
   have X6 : Hid (Cx (f.In X.act) N w fm Xm [(wr.heap.size, (axc X.cl x).toArray, 99)] [] (wr.alloc (.cells (axc X.cl x).toArray 99))) := XM.out.new _ _
   obtain ⟨wb, hwb⟩ := xj (wr.alloc (.cells (axc X.cl x).toArray 99))
   rw [hwb] at X6
   have HQX : Hid (QF (fm.Ex (Nm N []) Xm.act) (letX X x).l.q (letX X x).vw (letX X x).vs wr) := KX.out.q
   clear XM
   go_upto_region 4 with (first
    | (refine wpList_load_mid rfl 99 _ rfl g (m * 33) rfl (axc X.cl x) _ ER.out Tryz.underlying99 rfl (by kernel_rfl) ?_)
    | (refine wpList_store_row rfl 99 _ _ rfl wr.heap.size (axc X.cl x).toArray rfl rfl 99 _ (heap_alloc_new wr _) (by kernel_rfl) rfl hall.out ?_; rewrite [World.setRow_alloc_new, hwb]))
   simp only [Act.put]
   have hbw : Below wr.heap.size wr wb := by rw [← hwb]; exact al _
   have HQ6 : Hid _ := HQX.out.on hbw
   clear hwb ER hall HQX hbw
   obtain ⟨bA, hbA⟩ := xj wr.heap.size
   rw [hbA] at X6 ⊢
   clear hbA
   obtain ⟨oa, oc, hvo, -, -, -, -⟩ := rw_own X6.out.sc.ro
   rw [HF3.out.2.2.1] at hvo
   have HVO : Hid (vo = .slice oa fm.lo.length oc) := hvo
   clear hvo
   have J7 : Hid (Cx (f.In X.act) N w fm Xm [(bA, (axc X.cl x).toArray, 99)] [] wb.drew) := X6.out.drew
   have J8 : Hid (Cx (f.In X.act) N w fm Xm [(bA, (axc X.cl x).toArray, 99)] [] (wb.drew.alloc (.cells (uu X.cl :: uu x.a.sh :: uu x.a.sq :: .bool false :: iw x.a.q.k :: uu x.a.q.c :: uu x.a.q.n :: uw x.a.q.sp :: uu x.a.q.sl :: uw x.a.q.ap :: uu x.a.q.al :: sd x.a.q.key :: sd x.a.q.to :: iw x.a.q.lim :: .int .u8 (x.a.q.pt : Int) :: x.vw :: x.vs :: iw 0 :: iw 0 :: .bool false :: su :: sy :: .int .u32 0 :: .int .u32 0 :: .int .u64 0 :: .int .u32 0 :: .int .u64 0 :: .int .u32 0 :: su :: .int .u64 0 :: .int .u32 0 :: []).toArray 55))) := J7.out.on (al _)
   have HK8 : Hid (QF (fm.Ex (Nm N []) Xm.act) (letX X x).l.q (letX X x).vw (letX X x).vs (wb.drew.alloc (.cells (uu X.cl :: uu x.a.sh :: uu x.a.sq :: .bool false :: iw x.a.q.k :: uu x.a.q.c :: uu x.a.q.n :: uw x.a.q.sp :: uu x.a.q.sl :: uw x.a.q.ap :: uu x.a.q.al :: sd x.a.q.key :: sd x.a.q.to :: iw x.a.q.lim :: .int .u8 (x.a.q.pt : Int) :: x.vw :: x.vs :: iw 0 :: iw 0 :: .bool false :: su :: sy :: .int .u32 0 :: .int .u32 0 :: .int .u64 0 :: .int .u32 0 :: .int .u64 0 :: .int .u32 0 :: su :: .int .u64 0 :: .int .u32 0 :: []).toArray 55)) ∧ (letX X x).l.an = false ∧ (letX X x).l.r = zR ∧ (letX X x).vw.oneCell' = true ∧ (letX X x).vs.oneCell' = true) := ⟨(HQ6.out.on (Below.refl _ _).drew).on (al _), rfl, rfl, KX.out.one.2.1, KX.out.one.2.2⟩
   have HO : Hid (Ow 0 55 31 (.slice oa fm.lo.length oc) fm.lo.length (rowC lxc fm.lo) (wb.drew.heap.size + 1) (.slice (some ⟨wb.drew.heap.size, 0, none⟩) 1 1) 1 (uu X.cl :: uu x.a.sh :: uu x.a.sq :: .bool false :: iw x.a.q.k :: uu x.a.q.c :: uu x.a.q.n :: uw x.a.q.sp :: uu x.a.q.sl :: uw x.a.q.ap :: uu x.a.q.al :: sd x.a.q.key :: sd x.a.q.to :: iw x.a.q.lim :: .int .u8 (x.a.q.pt : Int) :: x.vw :: x.vs :: iw 0 :: iw 0 :: .bool false :: su :: sy :: .int .u32 0 :: .int .u32 0 :: .int .u64 0 :: .int .u32 0 :: .int .u64 0 :: .int .u32 0 :: su :: .int .u64 0 :: .int .u32 0 :: []) (wb.drew.alloc (.cells (uu X.cl :: uu x.a.sh :: uu x.a.sq :: .bool false :: iw x.a.q.k :: uu x.a.q.c :: uu x.a.q.n :: uw x.a.q.sp :: uu x.a.q.sl :: uw x.a.q.ap :: uu x.a.q.al :: sd x.a.q.key :: sd x.a.q.to :: iw x.a.q.lim :: .int .u8 (x.a.q.pt : Int) :: x.vw :: x.vs :: iw 0 :: iw 0 :: .bool false :: su :: sy :: .int .u32 0 :: .int .u32 0 :: .int .u64 0 :: .int .u32 0 :: .int .u64 0 :: .int .u32 0 :: su :: .int .u64 0 :: .int .u32 0 :: []).toArray 55))) := by
    refine ⟨?_, ?_, letX_one (X := X) KX.out.one.2.1 KX.out.one.2.2, Nat.zero_le _, ?_⟩
    ·have k := J8.out.sc.ro
     rw [HF3.out.2.2.1, HVO.out] at k
     exact k
    ·refine ⟨_, 1, rfl, rfl, Nat.le_refl _, by omega, fun _ => ⟨_, 0, rfl, fun _ => by omega, fun j u hj => ?_⟩⟩
     rw [Nat.zero_add]
     exact block_cell (heap_alloc_new _ _) (by rw [List.getElem?_toArray]; exact hj)
    ·have k := HF3.out.2.2.2
     have := HLO.out
     omega
   clear X6 HQ6 KX
   have EQ1 : Hid ((f.la.take (m + 1)).map (letX X) = (f.la.take m).map (letX X) ++ [letX X x]) := by
    show _ = _
    rw [take_snoc (d := dax) hml, List.map_append, HXX.out]
    rfl
   have EQ2 : Hid ((X.asks.take (m + 1)).map (letF X) = (X.asks.take m).map (letF X) ++ [letF X x.a]) := by
    show _ = _
    rw [HEA.out, ← List.map_take, ← List.map_take, take_snoc (d := dax) hml, List.map_append, List.map_append, HXX.out]
    rfl
   refine wp_region_held_drew (S := (fun W => W.rangeAt bA 0 (uu X.cl :: uu x.a.sh :: uu x.a.sq :: .bool false :: iw x.a.q.k :: uu x.a.q.c :: uu x.a.q.n :: uw x.a.q.sp :: uu x.a.q.sl :: uw x.a.q.ap :: uu x.a.q.al :: sd x.a.q.key :: sd x.a.q.to :: iw x.a.q.lim :: .int .u8 (x.a.q.pt : Int) :: x.vw :: x.vs :: iw 0 :: iw 0 :: .bool false :: su :: sy :: .int .u32 0 :: .int .u32 0 :: .int .u64 0 :: .int .u32 0 :: .int .u64 0 :: .int .u32 0 :: su :: .int .u64 0 :: .int .u32 0 :: []))) (by kernel_rfl) (range_box (n := 31) (J7.out.bx (b := bA) (cs := (axc X.cl x).toArray) (ty := 99) (by simp))) (fun hHeld => ?_)
   refine tq 0 ?_
   refine tq 1 ?_
   refine tq 2 ?_
   refine tq 3 ?_
   refine tq 5 ?_
   refine tl 6 55 bA 0 (uu X.cl :: uu x.a.sh :: uu x.a.sq :: .bool false :: iw x.a.q.k :: uu x.a.q.c :: uu x.a.q.n :: uw x.a.q.sp :: uu x.a.q.sl :: uw x.a.q.ap :: uu x.a.q.al :: sd x.a.q.key :: sd x.a.q.to :: iw x.a.q.lim :: .int .u8 (x.a.q.pt : Int) :: x.vw :: x.vs :: iw 0 :: iw 0 :: .bool false :: su :: sy :: .int .u32 0 :: .int .u32 0 :: .int .u64 0 :: .int .u32 0 :: .int .u64 0 :: .int .u32 0 :: su :: .int .u64 0 :: .int .u32 0 :: []) (fun W hW => hW) Tryz.underlying55 ?_
   obtain ⟨V7, hV7⟩ := xj (wb.drew)
   rw [hV7] at J7 J8 HO HK8 ⊢
   have p9 : V7.cell? ⟨f.sb, 9, none⟩ = some (.slice oa fm.lo.length oc) := (by have k : V7.cell? ⟨fm.sb, 9, none⟩ = some fm.vo := block_cell J7.out.sc.blk rfl; rw [hsb, HF3.out.2.2.1, HVO.out] at k; exact k)
   obtain ⟨V8, hV8⟩ := xj (V7.alloc (.cells (uu X.cl :: uu x.a.sh :: uu x.a.sq :: .bool false :: iw x.a.q.k :: uu x.a.q.c :: uu x.a.q.n :: uw x.a.q.sp :: uu x.a.q.sl :: uw x.a.q.ap :: uu x.a.q.al :: sd x.a.q.key :: sd x.a.q.to :: iw x.a.q.lim :: .int .u8 (x.a.q.pt : Int) :: x.vw :: x.vs :: iw 0 :: iw 0 :: .bool false :: su :: sy :: .int .u32 0 :: .int .u32 0 :: .int .u64 0 :: .int .u32 0 :: .int .u64 0 :: .int .u32 0 :: su :: .int .u64 0 :: .int .u32 0 :: []).toArray 55))
   rw [hV8] at J8 HO HK8
   have q9 : V8.cell? ⟨f.sb, 9, none⟩ = some (.slice oa fm.lo.length oc) := (by have k : V8.cell? ⟨fm.sb, 9, none⟩ = some fm.vo := block_cell J8.out.sc.blk rfl; rw [hsb, HF3.out.2.2.1, HVO.out] at k; exact k)
   obtain ⟨bN, hbN⟩ := xj V7.heap.size
   rw [hbN] at HO
   refine wpAnyH_ready (rs := [4, 7]) (by kernel_rfl) (by simp) ?_
   refine AllReadyH.cons rfl (fun K hK => ?_) (AllReadyH.cons rfl (fun K hK => ?_) AllReadyH.nil)
   go_simp
   refine kj hK (range_box (n := 31) (J7.out.bx (b := bA) (cs := (axc X.cl x).toArray) (ty := 99) (by simp))) (fun hHeld => ?_)
   clear hK K
   refine rd 7 (fun K hK => ?_)
   go_simp
   refine kj hK (range_box (n := 31) (J8.out.bx (b := bA) (cs := (axc X.cl x).toArray) (ty := 99) (by simp))) (fun hHeld => ?_)
   clear hK K
   rotate_left 1
   go_simp
   refine kj hK (range_box (n := 31) (J8.out.bx (b := bA) (cs := (axc X.cl x).toArray) (ty := 99) (by simp))) (fun hHeld => ?_)
   clear hK K
   refine rd 4 (fun K hK => ?_)
   go_simp
   refine kj hK (range_box (n := 31) (J8.out.bx (b := bA) (cs := (axc X.cl x).toArray) (ty := 99) (by simp))) (fun hHeld => ?_)
   clear hK K
   all_goals
    refine rd 8 (fun K hK => ?_)
    refine Pla.step_append_rw HO.out Tryz.underlying46 kin k1 k2 k3 k4 (by decide) (by decide) (.tmp 19) (.tmp 22) (by rfl) (by rfl) (by rfl) (by rfl) ?_
    intro vo' w9 hown hg hat
    obtain ⟨ua, uc, hvo2, -, -, -, -⟩ := rw_own hown
    rw [← HVO.out, ← HF3.out.2.2.1] at hg hat
    have T9 : Hid (To fm (Nm N []) Xm.act V8 { fm with vo := vo', lo := fm.lo ++ [letX X x] } { Xm with out := Xm.out ++ [(letX X x).l] } (w9.setCell ⟨f.sb, 9, none⟩ vo')) := by
     rw [← hsb]
     exact posted_out J8.out HK8.out hown hg hat
    have hb9 : Kept (fun k => fm.vo.ownBlock = some k) V8 w9 := grown_kept hg
    have b9 : w9.heap[fm.sb]? = some (.cells (sbA fm Xm) 77 (0, 0)) := by rw [hb9.block _ (lt_blk J8.out.sc.blk) (fun e => own_ne J8.out.sc.ro J8.out.sc.blk (by decide) e)]; exact J8.out.sc.blk
    have x9 : Hid (w9.rangeAt bA 0 (uu X.cl :: uu x.a.sh :: uu x.a.sq :: .bool false :: iw x.a.q.k :: uu x.a.q.c :: uu x.a.q.n :: uw x.a.q.sp :: uu x.a.q.sl :: uw x.a.q.ap :: uu x.a.q.al :: sd x.a.q.key :: sd x.a.q.to :: iw x.a.q.lim :: .int .u8 (x.a.q.pt : Int) :: x.vw :: x.vs :: iw 0 :: iw 0 :: .bool false :: su :: sy :: .int .u32 0 :: .int .u32 0 :: .int .u64 0 :: .int .u32 0 :: .int .u64 0 :: .int .u32 0 :: su :: .int .u64 0 :: .int .u32 0 :: [])) := range_box (n := 31) (show w9.heap[bA]? = some (.cells (axc X.cl x).toArray 99 (0, 0)) by rw [hb9.block _ (lt_blk (J8.out.bx (b := bA) (cs := (axc X.cl x).toArray) (ty := 99) (by simp))) (fun e => own_ne J8.out.sc.ro (J8.out.bx (b := bA) (cs := (axc X.cl x).toArray) (ty := 99) (by simp)) (by decide) e)]; exact J8.out.bx (by simp))
    have s9 : w9.cell? ⟨fm.sb, 9, none⟩ = some fm.vo := block_cell b9 rfl
    have g9 : w9.frozen? ⟨fm.sb, 9, none⟩ = false := block_frozen b9 9
    rw [hsb, HF3.out.2.2.1, HVO.out] at s9
    rw [hsb] at g9
    rw [hvo2] at T9 ⊢
    clear hown hg hat hb9 b9 hvo2
    refine kj hK x9.out (fun hHeld => ?_)
    clear hK K
    refine tq 9 ?_
    refine tq 10 ?_
    refine rd 11 (fun K hK => ?_)
    go_simp
    obtain ⟨wz, hwz⟩ := xj (w9.setCell ⟨f.sb, 9, none⟩ (.slice ua (fm.lo.length + 1) uc))
    rw [hwz] at T9 ⊢
    have XZ : Hid _ := J8.out.next T9.out
    refine kj hK (range_box (n := 31) (XZ.out.bx (b := bA) (cs := (axc X.cl x).toArray) (ty := 99) (by simp))) (fun hHeld => ?_)
    clear hK K
    refine wpAnyH_done (by kernel_rfl) ?_ _
    have XW : Hid (∃ vo2, Cx (f.In X.act) N w { f with vo := vo2, lo := f.lo ++ (f.la.take (m + 1)).map (letX X) } { X with out := X.out ++ (X.asks.take (m + 1)).map (letF X) } [] [] wz) := by
     refine ⟨.slice ua (fm.lo.length + 1) uc, ?_⟩
     have k := XZ.out.less (Lo' := []) nb
     rw [EQ1.out, EQ2.out, ← List.append_assoc, ← List.append_assoc]
     rw [← HXM.out] at k
     rw [← HFM.out] at k ⊢
     exact k
    clear J7 J8 HO HK8 p9 q9 s9 g9 x9 hV8 hV7 hbN hHeld hwz T9 XZ EQ1 EQ2 HFM HXM HF3 HX3
    go_wp2_with fail
    go_roundw
    case measure =>
     show f.la.length - ((m : Int) + 1).toNat < f.la.length - ((m : Int)).toNat
     omega
    case rel =>
     obtain ⟨vo2, k⟩ := XW.out
     exact ⟨m + 1, vo2, HM.out, by simp, k⟩
  ·have hmi : ¬ (m : Int) < f.la.length := by omega
   have e1 : f.la.take m = f.la := List.take_of_length_le (by omega)
   have e2 : X.asks.take m = X.asks := List.take_of_length_le (by rw [HEA.out, List.length_map]; omega)
   have XZ : Hid _ := XM.out.to
   rw [e1, e2] at XZ
   clear XM
   go_wp2_with fail
   go_end0
   exact ⟨rfl, vo, XZ.out⟩
def dlx : Lx := ⟨zL, .nilFunc, .nilFunc⟩
theorem rowC_set1 {α : Type} {vc : α → List Value} {sz : Nat} (hsz : ∀ a, (vc a).length = sz) (d : α) : ∀ (L : List α) (i j : Nat), i < L.length → j < sz → ∀ (x : α) (u : Value), vc x = (vc (L.getD i d)).set j u → rowC vc (L.set i x) = (rowC vc L).set (i * sz + j) u
 | [], i, j, h, _, _, _, _ => absurd h (by simp)
 | a :: r, 0, j, h, hj, x, u, e => by
  rw [List.set_cons_zero, rowC_cons, rowC_cons, e, Nat.zero_mul, Nat.zero_add, List.set_append_left _ _ (by rw [hsz]; exact hj)]
  rfl
 | a :: r, i + 1, j, h, hj, x, u, e => by
  rw [List.set_cons_succ, rowC_cons, rowC_cons, rowC_set1 hsz d r i j (by simpa using h) hj x u e, List.set_append_right _ _ (by rw [hsz, Nat.succ_mul]; omega), hsz, show (i + 1) * sz + j - sz = i * sz + j from by rw [Nat.succ_mul]; omega]
theorem own_cell {base e sz g cap n j : Nat} {cs : List Value} (h : W.ownsRow base e sz (.slice (some ⟨g, 0, none⟩) n cap) n cs) (hj : j < cs.length) (u : Value) : (W.setCell ⟨g, j, none⟩ u).ownsRow base e sz (.slice (some ⟨g, 0, none⟩) n cap) n (cs.set j u) := by
 rcases h.2 with ⟨h0, _⟩ | ⟨g', cap', cur, h0, h1, h2, h3, h4, h5, h6⟩
 ·cases h0
 injection h0 with e1 _ e3
 injection e1 with e1
 injection e1 with e1
 subst e1; subst e3
 refine ⟨by rw [List.length_set]; exact h.1, .inr ⟨g, cap, cur.setIfInBounds j u, rfl, h1, block_set u h2, h3, h4, by simpa using h5, ?_⟩⟩
 rw [Array.toList_setIfInBounds, List.take_set, h6]
theorem SC.outed (h : SC f N X W) (hk : Kept (fun k => k = f.sb) W W') (hb : W'.heap[f.sb]? = some (.cells (sbA { f with vo := sy, lo := [] } { X with out := [] }) 77 (0, 0))) : SC { f with vo := sy, lo := [] } (fun k => N k ∨ f.vo.ownBlock = some k) { X with out := [] } W' ∧ Stay (fun k => k = f.sb) (f.Ex N X.act) (({ f with vo := sy, lo := [] } : Fo).Ex (fun k => N k ∨ f.vo.ownBlock = some k) X.act) W W' := by
 have hin : ∀ i, ({ f with vo := sy, lo := [] } : Fo).In X.act i → f.In X.act i := fun i e => by
  rcases e with e | e | e | e | e | e
  ·exact .inl e
  ·exact .inr (.inl e)
  ·cases e
  ·exact .inr (.inr (.inr (.inl e)))
  ·exact .inr (.inr (.inr (.inr (.inl e))))
  ·exact .inr (.inr (.inr (.inr (.inr e))))
 have s : Stay (fun k => k = f.sb) (f.Ex N X.act) (({ f with vo := sy, lo := [] } : Fo).Ex (fun k => N k ∨ f.vo.ownBlock = some k) X.act) W W' := ⟨hk, fun k e => .inr (.inl e), fun k _ e => by
  rcases e with (e | e) | e
  ·exact .inl e
  ·exact .inr (.inr (.inr (.inl e)))
  ·exact .inr (hin k e)⟩
 have B : ∀ {b : Nat} {cs : Array Value} {ty : TypeId}, W.heap[b]? = some (.cells cs ty (0, 0)) → ty ≠ 77 → W'.heap[b]? = some (.cells cs ty (0, 0)) := fun {b cs ty} e h1 => by rw [hk.block b (lt_blk e) (ne_tag e h.blk h1)]; exact e
 have O : ∀ {base e size : Nat} {v : Value} {n : Nat} {cs : List Value}, W.ownsRow base e size v n cs → e ≠ 77 → W'.ownsRow base e size v n cs := fun h0 h1 => own_kept h0 hk fun k hv e => by
  subst e
  exact own_ne h0 h.blk h1 hv
 exact ⟨⟨hb, fun a => ⟨B (h.tx a).1 (by decide), O (h.tx a).2 (by decide)⟩, O h.ra (by decide), own_nil _ _ _ _, h.ea, rfl, ⟨fun a => B (h.bx.l a) (by decide), fun a => ⟨B (h.bx.p a).1 (by decide), O (h.bx.p a).2.1 (by decide), (h.bx.p a).2.2.stay s⟩, fun a => ⟨B (h.bx.c a).1 (by decide), (h.bx.c a).2⟩, h.bx.le⟩, fun n a => B (h.gb n a) (by decide), h.gd, fun x hx => (h.ak x hx).stay s ⟨rfl, rfl, rfl, rfl, fun _ h => ⟨h, rfl⟩⟩ rfl (fun _ _ => rfl), (fun x hx => by cases hx)⟩, s⟩
theorem SC.out_ni (h : SC f N X W) {k : Nat} (hv : f.vo.ownBlock = some k) : ¬ ({ f with vo := sy, lo := [] } : Fo).In X.act k := fun e => by
 obtain ⟨c, hc⟩ := own_blk h.ro hv
 rcases e with e | e | e | ⟨ha, e | e⟩ | ⟨ho, e | e | e⟩ | ⟨n, hn, e⟩
 ·exact ne_tag hc h.blk (by decide) e
 ·exact own_ne h.ra hc (by decide) e
 ·cases e
 ·exact ne_tag hc (h.tx ha).1 (by decide) e
 ·exact own_ne (h.tx ha).2 hc (by decide) e
 ·have := h.bx.le
  have ho' : f.ok ≠ 0 := ho
  rcases (show f.ok = 1 ∨ f.ok = 2 by omega) with e2 | e2
  ·exact ne_tag hc (h.bx.p e2).1 (by decide) e
  ·exact ne_tag hc (h.bx.c e2).1 (by decide) e
 ·exact ne_tag hc (h.bx.l ho) (by decide) e
 ·have := h.bx.le
  have ho' : f.ok ≠ 0 := ho
  rcases (show f.ok = 1 ∨ f.ok = 2 by omega) with e2 | e2
  ·exact own_ne (h.bx.p e2).2.1 hc (by decide) e
  ·have e' : f.vp.ownBlock = some k := e
   rw [(h.bx.c e2).2] at e'
   cases e'
 ·exact ne_tag hc (h.gb n hn) (by decide) e
structure Oz (N : Nat → Prop) (w : World) (f : Fo) (X : Ss) (L : List Lx) (W : World) : Prop where
 sc : SC { f with vo := sy, lo := [] } (fun k => N k ∨ f.vo.ownBlock = some k) { X with out := [] } W
 kp : Kept (f.In X.act) w W
 own : W.ownsRow 0 55 31 f.vo L.length (rowC lxc L)
 el : L.map Lx.l = X.out
 qf : ∀ x ∈ L, QF (({ f with vo := sy, lo := [] } : Fo).Ex (fun k => N k ∨ f.vo.ownBlock = some k) X.act) x.l.q x.vw x.vs W ∧ x.l.an = false ∧ x.l.r = zR ∧ x.vw.oneCell' = true ∧ x.vs.oneCell' = true
 ni : ∀ k, f.vo.ownBlock = some k → ¬ ({ f with vo := sy, lo := [] } : Fo).In X.act k
 nl : ∀ k, N k → k < W.heap.size
theorem Oz.on {L : List Lx} (h : Oz N w f X L W) (hb : Below W.heap.size W W') : Oz N w f X L W' :=
 ⟨h.sc.on hb, h.kp.trans (Kept.of_below (F := fun _ => False) hb) (fun _ e => e.elim), own_on h.own hb, h.el, fun x hx => ⟨(h.qf x hx).1.on hb, (h.qf x hx).2⟩, h.ni, fun k e => Nat.lt_of_lt_of_le (h.nl k e) hb.size⟩
theorem Oz.cell {L : List Lx} {g cap m j : Nat} {u : Value} (h : Oz N w f X L W) (hg : f.vo = .slice (some ⟨g, 0, none⟩) L.length cap) (hm : m < L.length) (hu : (lxc (L.getD m dlx))[j]? = some u) : W.cell? ⟨g, m * 31 + j, none⟩ = some u := by
 have k := h.own
 rw [hg] at k
 exact own_range lxc_len dlx k hm j u hu
theorem Oz.froz {L : List Lx} {g cap : Nat} (h : Oz N w f X L W) (hg : f.vo = .slice (some ⟨g, 0, none⟩) L.length cap) (j : Nat) : W.frozen? ⟨g, j, none⟩ = false := by
 have k := h.own
 rw [hg] at k
 obtain ⟨cur, h1, -⟩ := own_there k
 exact block_frozen h1 j
theorem Oz.vw {L : List Lx} {g cap m : Nat} {v1 : Value} (h : Oz N w f X L W) (hg : f.vo = .slice (some ⟨g, 0, none⟩) L.length cap) (hm : m < L.length) (hb : Below W.heap.size W W') (hr : W'.ownsRow W.heap.size 70 3 v1 (L.getD m dlx).l.q.ws.length (rowC wrc (L.getD m dlx).l.q.ws)) : Oz N w f X (L.set m { L.getD m dlx with vw := v1 }) (W'.setCell ⟨g, m * 31 + 15, none⟩ v1) := by
 have hgb : f.vo.ownBlock = some g := by rw [hg]; rfl
 have k := h.on hb
 have ks := set_kept' W' g (m * 31 + 15) v1
 have hM : ∀ k, ({ f with vo := sy, lo := [] } : Fo).Ex (fun k => N k ∨ f.vo.ownBlock = some k) X.act k → k < W.heap.size := fun k e => by
  rcases e with (e | e) | e
  ·exact (h.nl k e)
  ·exact (World.ownsRow.lt h.own k e).2
  ·exact h.sc.lt e
 have st : Stay (fun k => k = g) (({ f with vo := sy, lo := [] } : Fo).Ex (fun k => N k ∨ f.vo.ownBlock = some k) X.act) (({ f with vo := sy, lo := [] } : Fo).Ex (fun k => N k ∨ f.vo.ownBlock = some k) X.act) W' (W'.setCell ⟨g, m * 31 + 15, none⟩ v1) := ⟨ks, fun k e => by subst e; exact .inl (.inr hgb), fun _ _ e => e⟩
 have o1 : v1.oneCell' = true := by
  obtain ⟨a, c, e, -⟩ := rw_own hr
  rw [e]
  rfl
 refine ⟨k.sc.poke ks (.inr hgb) (h.ni g hgb), k.kp.trans ks (fun i e => by subst e; exact .inl (.inr (.inr (.inl hgb)))), ?_, ?_, fun y hy => ?_, h.ni, fun j e => Nat.lt_of_lt_of_le (h.nl j e) (by have := hb.size; simpa using this)⟩
 ·have k2 := k.own
  rw [hg] at k2 ⊢
  rw [List.length_set, rowC_set1 lxc_len dlx L m 15 hm (by decide) _ v1 rfl]
  exact own_cell k2 (by rw [rowC_length lxc_len]; omega) v1
 ·rw [← h.el, List.map_set]
  apply List.ext_getElem?
  intro j
  rw [List.getElem?_set]
  split
  ·rename_i e
   subst e
   rw [List.length_map, if_pos hm, List.getElem?_map, List.getElem?_eq_getElem hm]
   simp [List.getD, List.getElem?_eq_getElem hm]
  ·rfl
 ·rcases List.mem_or_eq_of_mem_set hy with e | e
  ·exact ⟨(k.qf y e).1.stay st, (k.qf y e).2⟩
  ·subst e
   have kx := k.qf _ (getD_mem (d := dlx) hm)
   exact ⟨⟨(RwF.own hr hM).stay st (by decide), kx.1.sk.stay st (by decide)⟩, kx.2.1, kx.2.2.1, o1, kx.2.2.2.2⟩
theorem Oz.vs {L : List Lx} {g cap m : Nat} {v1 : Value} (h : Oz N w f X L W) (hg : f.vo = .slice (some ⟨g, 0, none⟩) L.length cap) (hm : m < L.length) (hb : Below W.heap.size W W') (hr : W'.ownsRow W.heap.size 38 2 v1 (L.getD m dlx).l.q.sk.length (rowC tnc (L.getD m dlx).l.q.sk)) : Oz N w f X (L.set m { L.getD m dlx with vs := v1 }) (W'.setCell ⟨g, m * 31 + 16, none⟩ v1) := by
 have hgb : f.vo.ownBlock = some g := by rw [hg]; rfl
 have k := h.on hb
 have ks := set_kept' W' g (m * 31 + 16) v1
 have hM : ∀ k, ({ f with vo := sy, lo := [] } : Fo).Ex (fun k => N k ∨ f.vo.ownBlock = some k) X.act k → k < W.heap.size := fun k e => by
  rcases e with (e | e) | e
  ·exact (h.nl k e)
  ·exact (World.ownsRow.lt h.own k e).2
  ·exact h.sc.lt e
 have st : Stay (fun k => k = g) (({ f with vo := sy, lo := [] } : Fo).Ex (fun k => N k ∨ f.vo.ownBlock = some k) X.act) (({ f with vo := sy, lo := [] } : Fo).Ex (fun k => N k ∨ f.vo.ownBlock = some k) X.act) W' (W'.setCell ⟨g, m * 31 + 16, none⟩ v1) := ⟨ks, fun k e => by subst e; exact .inl (.inr hgb), fun _ _ e => e⟩
 have o1 : v1.oneCell' = true := by
  obtain ⟨a, c, e, -⟩ := rw_own hr
  rw [e]
  rfl
 refine ⟨k.sc.poke ks (.inr hgb) (h.ni g hgb), k.kp.trans ks (fun i e => by subst e; exact .inl (.inr (.inr (.inl hgb)))), ?_, ?_, fun y hy => ?_, h.ni, fun j e => Nat.lt_of_lt_of_le (h.nl j e) (by have := hb.size; simpa using this)⟩
 ·have k2 := k.own
  rw [hg] at k2 ⊢
  rw [List.length_set, rowC_set1 lxc_len dlx L m 16 hm (by decide) _ v1 rfl]
  exact own_cell k2 (by rw [rowC_length lxc_len]; omega) v1
 ·rw [← h.el, List.map_set]
  apply List.ext_getElem?
  intro j
  rw [List.getElem?_set]
  split
  ·rename_i e
   subst e
   rw [List.length_map, if_pos hm, List.getElem?_map, List.getElem?_eq_getElem hm]
   simp [List.getD, List.getElem?_eq_getElem hm]
  ·rfl
 ·rcases List.mem_or_eq_of_mem_set hy with e | e
  ·exact ⟨(k.qf y e).1.stay st, (k.qf y e).2⟩
  ·subst e
   have kx := k.qf _ (getD_mem (d := dlx) hm)
   exact ⟨⟨kx.1.ws.stay st (by decide), (RwF.own hr hM).stay st (by decide)⟩, kx.2.1, kx.2.2.1, kx.2.2.2.1, o1⟩
theorem out13 (h : SC f N X w) (hn : Nok N f X.act w) (hl : ∀ x ∈ f.lo, x.l.q.ws.length ≤ 1000 ∧ x.l.q.sk.length ≤ 1000) : Calls Tryz.prog 13 #[pz f.sb] w fun e w' => e = .returned f.vo ∧ ∃ L, Oz N w f X L w' := by
 obtain ⟨oa, oc, hvo, -, hlc, hcm, -⟩ := rw_own h.ro
 have p9 : w.cell? ⟨f.sb, 9, none⟩ = some (.slice oa f.lo.length oc) := by rw [← hvo]; exact block_cell h.blk rfl
 have g9 : w.frozen? ⟨f.sb, 9, none⟩ = false := block_frozen h.blk 9
 have HZ : Hid (Oz N w f X f.lo (w.setCell ⟨f.sb, 9, none⟩ sy)) := by
  have ks := set_kept' w f.sb 9 sy
  obtain ⟨k1, k2⟩ := h.outed ks (by
   have := block_set (j := 9) sy h.blk
   exact this)
  exact ⟨k1, ks.mono (fun k e => .inl e), own_kept h.ro ks (fun k hv e => by subst e; exact own_ne h.ro h.blk (by decide) hv), h.eo.symm, fun x hx => ⟨(h.lk x hx).1.stay k2, (h.lk x hx).2⟩, fun k e => h.out_ni e, fun k e => Nat.lt_of_lt_of_le (hn k e).1 ks.size⟩
 obtain ⟨W1, hW1⟩ := xj (w.setCell ⟨f.sb, 9, none⟩ sy)
 rw [hW1] at HZ
 have HQL : Hid (∀ l ∈ f.lo.map Lx.l, l.q.ws.length ≤ 1000 ∧ l.q.sk.length ≤ 1000) := fun l hm => by
  obtain ⟨x, hx, rfl⟩ := List.mem_map.1 hm
  exact hl x hx
 have HEO : Hid (X.out = f.lo.map Lx.l) := h.eo
 have HVO : Hid (f.vo = .slice oa f.lo.length oc) := hvo
 have hll : f.lo.length < 9223372036854775808 := by omega
 rw [hvo]
 clear h hn hl hvo
 go_enter Tryz.func13, Tryz.ntmps13
 go_wp2_with fail
 clear p9 g9 hW1
 go_loopw [16] (fun i wr => ∃ (m : Nat) (L : List Lx), m ≤ f.lo.length ∧ i = iw (m : Int) ∧ L.length = f.lo.length ∧ Hid (Oz N w f X L wr)) (fun i _ => f.lo.length - (intOf i).toNat)
 case atStart => exact ⟨0, f.lo, Nat.zero_le _, rfl, rfl, HZ⟩
 case round =>
  obtain ⟨m, L, hmm, rfl, hL, HO⟩ := hrel
  clear HZ
  by_cases hml : m < f.lo.length
  ·have hmi : (m : Int) < f.lo.length := by omega
   have hm0 : ¬ (m : Int) < 0 := by omega
   have HM : Hid (m + 1 ≤ f.lo.length) := hml
   obtain ⟨g, rfl⟩ : ∃ g, oa = some ⟨g, 0, none⟩ := by
    have k := HO.out.own
    rw [HVO.out, hL] at k
    rcases k.2 with ⟨e, k0⟩ | ⟨g, cap, cur, e, -⟩
    ·omega
    ·injection e with e1
     exact ⟨g, e1⟩
   have HGL : Hid (f.vo = .slice (some ⟨g, 0, none⟩) L.length oc) := by show _ = _; rw [hL]; exact HVO.out
   have HML : Hid (m < L.length) := by show _ < _; omega
   have HLL : Hid (L.length = f.lo.length) := hL
   obtain ⟨x, hx⟩ := xj (L.getD m dlx)
   have HXX : Hid (L.getD m dlx = x) := hx
   have KX := HO.out.qf _ (getD_mem (d := dlx) HML.out)
   rw [hx] at KX
   have HLN : Hid (x.l.q.ws.length ≤ 1000 ∧ x.l.q.sk.length ≤ 1000) := by
    refine HQL.out x.l ?_
    rw [← HEO.out, ← HO.out.el, ← hx]
    exact List.mem_map_of_mem (getD_mem (d := dlx) HML.out)
   obtain ⟨wa, wc', hvw, -⟩ := KX.1.ws
   obtain ⟨sa, sc', hvs, -⟩ := KX.1.sk
   have c15 : wr.cell? ⟨g, m * 31 + 4 + 11, none⟩ = some (.slice wa x.l.q.ws.length wc') := by
    have k := HO.out.cell (j := 15) (u := x.vw) HGL.out HML.out (by rw [hx]; rfl)
    rw [hvw] at k
    exact k
   have z15 : wr.frozen? ⟨g, m * 31 + 4 + 11, none⟩ = false := HO.out.froz HGL.out _
   have C35 : Hid (1 = 1 → Calls Tryz.prog 35 #[.slice wa x.l.q.ws.length wc'] wr fun r w' => ∃ v', r = .returned v' ∧ w'.ownsRow wr.heap.size 70 3 v' x.l.q.ws.length (rowC wrc x.l.q.ws) ∧ Below wr.heap.size wr w') := fun _ => by
    have k := KX.1.ws.rw (by decide)
    rw [hvw] at k
    exact clone35 x.l.q.ws _ wr HLN.out.1 k
   clear KX hx hvw hvs
   go_wp2_with fail
   refine (C35.out (by trivial)).mono ?_
   rintro r w2 ⟨v1, rfl, hr1, hb1⟩
   obtain ⟨a1, c1, rfl, -⟩ := rw_own hr1
   have H2 : Hid (Oz N w f X L w2) := HO.out.on hb1
   have d15 : w2.cell? ⟨g, m * 31 + 4 + 11, none⟩ = some x.vw := H2.out.cell (j := 15) (u := x.vw) HGL.out HML.out (by rw [HXX.out]; rfl)
   have e15 : w2.frozen? ⟨g, m * 31 + 4 + 11, none⟩ = false := H2.out.froz HGL.out _
   have H3 : Hid (Oz N w f X (L.set m { x with vw := .slice a1 x.l.q.ws.length c1 }) (w2.setCell ⟨g, m * 31 + 15, none⟩ (.slice a1 x.l.q.ws.length c1))) := by
    have hr := hr1
    rw [← HXX.out] at hr ⊢
    exact HO.out.vw HGL.out HML.out hb1 hr
   obtain ⟨W3, hW3⟩ := xj (w2.setCell ⟨g, m * 31 + 4 + 11, none⟩ (.slice a1 x.l.q.ws.length c1))
   rw [show w2.setCell ⟨g, m * 31 + 15, none⟩ (.slice a1 x.l.q.ws.length c1) = W3 from hW3] at H3
   obtain ⟨x1, hx1⟩ : ∃ x1 : Lx, { x with vw := .slice a1 x.l.q.ws.length c1 } = x1 := ⟨_, rfl⟩
   rw [hx1] at H3
   have HX1 : Hid (x1.l = x.l ∧ x1.vs = x.vs) := by show _ ∧ _; rw [← hx1]; exact ⟨rfl, rfl⟩
   obtain ⟨L1, hL1⟩ := xj (L.set m x1)
   rw [hL1] at H3
   have hl1 : L1.length = L.length := by rw [← hL1, List.length_set]
   have HG1 : Hid (L1.getD m dlx = x1) := by
    show _ = _
    rw [← hL1, List.getD, List.getElem?_set_self (HML.out)]
    rfl
   have HM1 : Hid (m < L1.length) := by show _ < _; have := HML.out; omega
   have HGL1 : Hid (f.vo = .slice (some ⟨g, 0, none⟩) L1.length oc) := by show _ = _; rw [hl1]; exact HGL.out
   have HL1 : Hid (L1.length = f.lo.length) := hl1.trans HLL.out
   clear HO H2 hr1 hb1 hx1 hL1 hl1
   have KX1 := H3.out.qf _ (getD_mem (d := dlx) HM1.out)
   rw [HG1.out, HX1.out.1] at KX1
   obtain ⟨sa, sc', hvs, -⟩ := KX1.1.sk
   have c16 : W3.cell? ⟨g, m * 31 + 4 + 12, none⟩ = some (.slice sa x.l.q.sk.length sc') := by
    have k := H3.out.cell (j := 16) (u := x1.vs) HGL1.out HM1.out (by rw [HG1.out]; rfl)
    rw [hvs] at k
    exact k
   have C36 : Hid (1 = 1 → Calls Tryz.prog 36 #[.slice sa x.l.q.sk.length sc'] W3 fun r w' => ∃ v', r = .returned v' ∧ w'.ownsRow W3.heap.size 38 2 v' x.l.q.sk.length (rowC tnc x.l.q.sk) ∧ Below W3.heap.size W3 w') := fun _ => by
    have k := KX1.1.sk.rw (by decide)
    rw [hvs] at k
    exact clone36 x.l.q.sk _ W3 HLN.out.2 k
   obtain ⟨xv, hxv⟩ := xj x.vw
   rw [hxv] at d15
   clear KX1 hvs C35 hxv
   go_wp2_with fail
   refine (C36.out (by trivial)).mono ?_
   rintro r w4 ⟨v2, rfl, hr2, hb2⟩
   obtain ⟨a2, c2, rfl, -⟩ := rw_own hr2
   have H4 : Hid (Oz N w f X L1 w4) := H3.out.on hb2
   have d16 : w4.cell? ⟨g, m * 31 + 4 + 12, none⟩ = some x1.vs := H4.out.cell (j := 16) (u := x1.vs) HGL1.out HM1.out (by rw [HG1.out]; rfl)
   have e16 : w4.frozen? ⟨g, m * 31 + 4 + 12, none⟩ = false := H4.out.froz HGL1.out _
   have H5 : Hid (Oz N w f X (L1.set m { x1 with vs := .slice a2 x.l.q.sk.length c2 }) (w4.setCell ⟨g, m * 31 + 16, none⟩ (.slice a2 x.l.q.sk.length c2))) := by
    have hr := hr2
    rw [← HX1.out.1, ← HG1.out] at hr ⊢
    exact H3.out.vs HGL1.out HM1.out hb2 hr
   obtain ⟨W5, hW5⟩ := xj (w4.setCell ⟨g, m * 31 + 4 + 12, none⟩ (.slice a2 x.l.q.sk.length c2))
   rw [show w4.setCell ⟨g, m * 31 + 16, none⟩ (.slice a2 x.l.q.sk.length c2) = W5 from hW5] at H5
   clear H3 H4 hr2 hb2 C36 c15 z15 c16 d15 e15 hW3
   go_wp2_with fail
   go_roundw
   case measure =>
    show f.lo.length - ((m : Int) + 1).toNat < f.lo.length - ((m : Int)).toNat
    omega
   case rel => exact ⟨m + 1, _, HM.out, by simp, by rw [List.length_set]; exact HL1.out, H5⟩
  ·have hmi : ¬ (m : Int) < f.lo.length := by omega
   go_wp2_with fail
   go_ret
   exact ⟨rfl, L, HO.out⟩
end Go.Proofs.YtkdkgdollmmcnaaGreat
