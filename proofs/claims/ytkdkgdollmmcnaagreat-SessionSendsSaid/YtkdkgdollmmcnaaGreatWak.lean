import Derived.Test.YtkdkgdollmmcnaaGreatWaj
set_option maxHeartbeats 4000000
set_option maxRecDepth 100000
set_option linter.unusedVariables false
set_option linter.unusedSimpArgs false
namespace Go.Proofs.YtkdkgdollmmcnaaGreat
open Go.RowKit Go.Sort
variable {M M' G N : Nat → Prop} {W W' w : World} {f f' : Fo} {X X' : Ss}
theorem u32_of {n : Nat} (h : n < 4294967296) : IntKind.u32.wrap (n : Int) = (n : Int) := by
 have h1 : (0 : Int) ≤ n := by omega
 have h2 : (n : Int) < 4294967296 := by omega
 simp [IntKind.wrap, IntKind.bits, IntKind.signed]
 omega
theorem u32_succ {n : Nat} (h : n + 1 < 4294967296) : IntKind.u32.wrap ((n : Int) + 1) = ((n + 1 : Nat) : Int) := by
 rw [show ((n : Int) + 1) = ((n + 1 : Nat) : Int) from by omega]
 exact u32_of h
theorem rqc_one {q : Rq} {vw vs : Value} (h1 : vw.oneCell' = true) (h2 : vs.oneCell' = true) : ∀ u ∈ rqc q vw vs, u.oneCell' = true := fun u hu => by
 simp only [rqc, List.mem_cons, List.not_mem_nil, or_false] at hu
 rcases hu with rfl | rfl | rfl | rfl | rfl | rfl | rfl | rfl | rfl | rfl | rfl | rfl | rfl
 all_goals first | rfl | exact h1 | exact h2
def Fo.ask (f : Fo) (X : Ss) (a : Ak) (vw vs fv va vo : Value) : Fo := { f with va := va, vo := vo, la := f.la ++ [⟨{ a with sq := X.sq + 1 }, vw, vs, fv⟩], lo := f.lo ++ [⟨letF X { a with sq := X.sq + 1 }, vw, vs⟩] }
def Asked (f : Fo) (N : Nat → Prop) (X : Ss) (w : World) (a : Ak) (vw vs fv : Value) (e : Ending) (w' : World) : Prop := e = .returned (.tuple #[]) ∧ ∃ va vo, To f N X.act w (f.ask X a vw vs fv va vo) (askF X a) w'
structure Room (f : Fo) (X : Ss) : Prop where
 sq : X.sq + 1 < 4294967296
 la : f.la.length + 1 ≤ 1048576
 lo : f.lo.length + 1 ≤ 1048576
theorem post147 (h : SC f N X w) (rm : Room f X) (n : Nat) (a : Ak) (vw vs fv : Value) (qc : Array Value) (hqc : qc = (rqc a.q vw vs).toArray) (hsh : a.sh = n) (hn : n < 4294967296) (hk : AkIs (f.Ex N X.act) f X w ⟨{ a with sq := X.sq + 1 }, vw, vs, fv⟩) :
  Calls Tryz.prog 147 #[pz f.sb, iw (n : Int), .agg qc, .agg (List.toArray (.int .u32 0 :: .int .u32 0 :: .int .u32 0 :: .bool false :: iw 0 :: .int .u32 0 :: .int .u32 0 :: .int .u64 0 :: .int .u32 0 :: .int .u64 0 :: .int .u32 0 :: su :: su :: iw 0 :: .int .u8 0 :: sy :: sy :: iw 0 :: iw 0 :: .bool false :: su :: sy :: .int .u32 0 :: .int .u32 0 :: .int .u64 0 :: .int .u32 0 :: .int .u64 0 :: .int .u32 0 :: su :: .int .u64 0 :: .int .u32 0 :: .bool a.ch :: fv :: []))] w (Asked f N X w a vw vs fv) := by
 subst hqc
 subst hsh
 refine (post147w f w _ _ _ _ _ _ _ _ (.bool a.ch) fv _ _ _ _ _ _ _ _ _ _ _ _ _ (X.cl : Int) (X.sq : Int) ((X.sq + 1 : Nat) : Int) (a.sh : Int) (a.sh : Int) f.la.length f.lo.length _ _ h.blk h.ra h.ro rfl rfl (u32_succ rm.sq) (u32_of hn) (fun u hu => ?_) rm.la rm.lo).mono ?_
 ·have hu' : u ∈ rqc a.q vw vs ∨ u = .bool a.ch ∨ u = fv := by
   simp only [rqc, List.mem_cons, List.not_mem_nil, or_false] at hu ⊢
   rcases hu with e | e | e | e | e | e | e | e | e | e | e | e | e | e | e <;> simp [e]
  rcases hu' with hu | rfl | rfl
  ·exact rqc_one hk.one.2.1 hk.one.2.2 u hu
  ·rfl
  ·exact hk.one.1
 ·rintro e w' ⟨rfl, va', vo', hkp, hb, ra, ro, ba, bo⟩
  refine ⟨rfl, va', vo', ?_⟩
  have hla : (f.la ++ [(⟨{ a with sq := X.sq + 1 }, vw, vs, fv⟩ : Ax)]).length = f.la.length + 1 := by simp
  have hlo : (f.lo ++ [(⟨letF X { a with sq := X.sq + 1 }, vw, vs⟩ : Lx)]).length = f.lo.length + 1 := by simp
  refine SC.posted h hkp hb (by rw [hla, rowC_append, rowC_one]; exact ra) (by rw [hlo, rowC_append, rowC_one]; exact ro) ba bo ?_ (fun x hx => ?_) (fun x hx => ?_)
  ·simp only [askF, List.map_append, List.map_cons, List.map_nil, ← h.ea, ← h.eo]
  ·rcases List.mem_append.1 hx with hx | hx
   ·exact .inl hx
   ·rw [List.mem_singleton] at hx
    subst hx
    exact .inr hk
  ·rcases List.mem_append.1 hx with hx | hx
   ·exact .inl hx
   ·rw [List.mem_singleton] at hx
    subst hx
    exact .inr ⟨hk.q, rfl, rfl, hk.one.2⟩
theorem To.pre {W1 : World} {act : Bool} (hb : Below w.heap.size w W1) (h : To f N act W1 f' X' W) : To f N act w f' X' W :=
 ⟨h.sc, (Kept.of_below (F := f.In act) hb).trans h.kp (fun _ e => .inl e), fun i hi => (h.sub i hi).elim .inl (fun e => .inr (Nat.le_trans hb.size e))⟩
theorem AkIs.on {x : Ax} (h : AkIs M f X W x) (hb : Below W.heap.size W W') : AkIs M f X W' x :=
 h.stay (G := fun _ => False) (M' := M) ⟨Kept.of_below hb, fun _ e => e.elim, fun _ _ e => e⟩ (SameF.refl f) rfl (fun _ _ => rfl)
theorem QF.on {q : Rq} {vw vs : Value} (h : QF M q vw vs W) (hb : Below W.heap.size W W') : QF M q vw vs W' :=
 h.stay (G := fun _ => False) ⟨Kept.of_below hb, fun _ e => e.elim, fun _ _ e => e⟩
theorem DoAt.on {k : Int} {dv : Value} (h : DoAt M f W k dv) (hb : Below W.heap.size W W') : DoAt M f W' k dv :=
 h.stay (G := fun _ => False) ⟨Kept.of_below hb, fun _ e => e.elim, fun _ _ e => e⟩ (SameF.refl f)
theorem ask116 (h : SC f N X w) (rm : Room f X) (n : Nat) (a : Ak) (vw vs : Value) (fn : Fn) (fi cp qc : Array Value) (hqc : qc = (rqc a.q vw vs).toArray) (hsh : a.sh = n) (hch : a.ch = false) (hn : n < 4294967296) (hk : AkIs (f.Ex N X.act) f X w ⟨{ a with sq := X.sq + 1 }, vw, vs, .func fn fi cp⟩) :
  Calls Tryz.prog 116 #[pz f.sb, iw (n : Int), .agg qc, .func fn fi cp] w (Asked f N X w a vw vs (.func fn fi cp)) := by
 have hb : Hid (Below w.heap.size w (w.alloc (.cells qc 53))) := al _
 have hx : Hid ((w.alloc (.cells qc 53)).heap[w.heap.size]? = some (.cells qc 53 (0, 0))) := heap_alloc_new w _
 have hs : (Tryz.prog.info? 53).map (·.size) = some qc.size := by rw [hqc]; kernel_rfl
 have C : Hid (1 = 1 → Calls Tryz.prog 147 #[pz f.sb, iw (n : Int), .agg qc, .agg (List.toArray (.int .u32 0 :: .int .u32 0 :: .int .u32 0 :: .bool false :: iw 0 :: .int .u32 0 :: .int .u32 0 :: .int .u64 0 :: .int .u32 0 :: .int .u64 0 :: .int .u32 0 :: su :: su :: iw 0 :: .int .u8 0 :: sy :: sy :: iw 0 :: iw 0 :: .bool false :: su :: sy :: .int .u32 0 :: .int .u32 0 :: .int .u64 0 :: .int .u32 0 :: .int .u64 0 :: .int .u32 0 :: su :: .int .u64 0 :: .int .u32 0 :: .bool false :: .func fn fi cp :: []))] (w.alloc (.cells qc 53)) (Asked f N X (w.alloc (.cells qc 53)) a vw vs (.func fn fi cp))) := fun _ => by
  have := post147 (h.on hb.out) rm n a vw vs (.func fn fi cp) qc hqc hsh hn (hk.on hb.out)
  rw [hch] at this
  exact this
 obtain ⟨W1, hW1⟩ := xj (w.alloc (.cells qc 53))
 rw [hW1] at C hb hx
 obtain ⟨b, hbq⟩ := xj w.heap.size
 rw [hbq] at hx
 clear h rm hk hqc hsh hch
 go_enter Tryz.func116, Tryz.ntmps116
 go_wp2_with (refine wpList_load_row rfl 53 _ rfl b rfl 53 _ (0, 0) _ hx.out Tryz.underlying53 rfl hs ?_)
 refine (C.out (by trivial)).mono ?_
 rintro e w2 ⟨rfl, va, vo, ht⟩
 have HT : Hid _ := To.pre hb.out ht
 clear ht C hb hx hW1
 go_wp2_with fail
 go_end0
 exact ⟨rfl, va, vo, HT.out⟩
theorem chore132 (h : SC f N X w) (rm : Room f X) (n : Nat) (a : Ak) (vw vs : Value) (fn : Fn) (fi cp qc : Array Value) (hqc : qc = (rqc a.q vw vs).toArray) (hsh : a.sh = n) (hch : a.ch = true) (hn : n < 4294967296) (hk : AkIs (f.Ex N X.act) f X w ⟨{ a with sq := X.sq + 1 }, vw, vs, .func fn fi cp⟩) :
  Calls Tryz.prog 132 #[pz f.sb, iw (n : Int), .agg qc, .func fn fi cp] w (Asked f N X w a vw vs (.func fn fi cp)) := by
 have hb : Hid (Below w.heap.size w (w.alloc (.cells qc 53))) := al _
 have hx : Hid ((w.alloc (.cells qc 53)).heap[w.heap.size]? = some (.cells qc 53 (0, 0))) := heap_alloc_new w _
 have hs : (Tryz.prog.info? 53).map (·.size) = some qc.size := by rw [hqc]; kernel_rfl
 have C : Hid (1 = 1 → Calls Tryz.prog 147 #[pz f.sb, iw (n : Int), .agg qc, .agg (List.toArray (.int .u32 0 :: .int .u32 0 :: .int .u32 0 :: .bool false :: iw 0 :: .int .u32 0 :: .int .u32 0 :: .int .u64 0 :: .int .u32 0 :: .int .u64 0 :: .int .u32 0 :: su :: su :: iw 0 :: .int .u8 0 :: sy :: sy :: iw 0 :: iw 0 :: .bool false :: su :: sy :: .int .u32 0 :: .int .u32 0 :: .int .u64 0 :: .int .u32 0 :: .int .u64 0 :: .int .u32 0 :: su :: .int .u64 0 :: .int .u32 0 :: .bool true :: .func fn fi cp :: []))] (w.alloc (.cells qc 53)) (Asked f N X (w.alloc (.cells qc 53)) a vw vs (.func fn fi cp))) := fun _ => by
  have := post147 (h.on hb.out) rm n a vw vs (.func fn fi cp) qc hqc hsh hn (hk.on hb.out)
  rw [hch] at this
  exact this
 obtain ⟨W1, hW1⟩ := xj (w.alloc (.cells qc 53))
 rw [hW1] at C hb hx
 obtain ⟨b, hbq⟩ := xj w.heap.size
 rw [hbq] at hx
 clear h rm hk hqc hsh hch
 go_enter Tryz.func132, Tryz.ntmps132
 go_wp2_with (refine wpList_load_row rfl 53 _ rfl b rfl 53 _ (0, 0) _ hx.out Tryz.underlying53 rfl hs ?_)
 refine (C.out (by trivial)).mono ?_
 rintro e w2 ⟨rfl, va, vo, ht⟩
 have HT : Hid _ := To.pre hb.out ht
 clear ht C hb hx hW1
 go_wp2_with fail
 go_end0
 exact ⟨rfl, va, vo, HT.out⟩
theorem SC.fresh (h : SC f N X w) (hN : ∀ k, N k → k < w.heap.size) {b : Nat} (hb : w.heap.size ≤ b) : ¬ f.Ex N X.act b := fun e => by
 rcases e with e | e
 ·exact absurd (hN b e) (by omega)
 ·exact absurd (h.lt e) (by omega)
theorem four_new (w : World) (c1 c2 c3 c4 : Array Value) (t1 t2 t3 t4 : TypeId) : ∃ W, (((w.alloc (.cells c1 t1)).alloc (.cells c2 t2)).alloc (.cells c3 t3)).alloc (.cells c4 t4) = W ∧ Below w.heap.size w W ∧ W.heap[w.heap.size]? = some (.cells c1 t1 (0, 0)) ∧ W.heap[w.heap.size + 1]? = some (.cells c2 t2 (0, 0)) ∧ W.heap[w.heap.size + 2]? = some (.cells c3 t3 (0, 0)) ∧ W.heap[w.heap.size + 3]? = some (.cells c4 t4 (0, 0)) := by
 have b1 := al (W := w) (.cells c1 t1)
 have n1 := heap_alloc_new w (.cells c1 t1)
 have s1 := size_al w (.cells c1 t1)
 generalize w.alloc (.cells c1 t1) = W1 at *
 have b2 := al (W := W1) (.cells c2 t2)
 have n2 := heap_alloc_new W1 (.cells c2 t2)
 have s2 := size_al W1 (.cells c2 t2)
 generalize W1.alloc (.cells c2 t2) = W2 at *
 have b3 := al (W := W2) (.cells c3 t3)
 have n3 := heap_alloc_new W2 (.cells c3 t3)
 have s3 := size_al W2 (.cells c3 t3)
 generalize W2.alloc (.cells c3 t3) = W3 at *
 have b4 := al (W := W3) (.cells c4 t4)
 have n4 := heap_alloc_new W3 (.cells c4 t4)
 generalize W3.alloc (.cells c4 t4) = W4 at *
 refine ⟨_, rfl, ((b1.trans (b2.mono (by omega))).trans (b3.mono (by omega))).trans (b4.mono (by omega)), ?_, ?_, ?_, ?_⟩
 ·rw [b4.block _ (by omega), b3.block _ (by omega), b2.block _ (by omega)]
  exact n1
 ·rw [b4.block _ (by omega), b3.block _ (by omega), ← s1]
  exact n2
 ·rw [b4.block _ (by omega), show w.heap.size + 2 = W2.heap.size from by omega]
  exact n3
 ·rw [show w.heap.size + 3 = W3.heap.size from by omega]
  exact n4
theorem try80 (h : SC f N X w) (hN : ∀ k, N k → k < w.heap.size) (rm : Room f X) (n : Nat) (q : Rq) (vw vs : Value) (o1 : vw.oneCell' = true) (o2 : vs.oneCell' = true) (fn : Fn) (fi cp qc : Array Value) (hqc : qc = (rqc q vw vs).toArray) (hn : n < 4294967296) (hq : QF (f.Ex N X.act) q vw vs w) (hk : q.k ≤ 3) (hd : DoAt (f.Ex N X.act) f w q.k (.func fn fi cp)) :
  Calls Tryz.prog 80 #[pz f.sb, iw (n : Int), .agg qc, .func fn fi cp] w fun e w' => ∃ fv, Asked f N X w (akF n q) vw vs fv e w' := by
 obtain ⟨W4, hW4, hb, x1, x2, x3, x4⟩ := four_new w #[pz f.sb] #[iw (n : Int)] qc #[.func fn fi cp] 24 3 53 97
 have hs : (Tryz.prog.info? 53).map (·.size) = some qc.size := by rw [hqc]; kernel_rfl
 have ha : AkIs (f.Ex N X.act) f X W4 ⟨{ akF n q with sq := X.sq + 1 }, vw, vs, .func (.func 117) #[] #[pz w.heap.size, .pointer (some ⟨w.heap.size + 1, 0, none⟩), .pointer (some ⟨w.heap.size + 2, 0, none⟩), .pointer (some ⟨w.heap.size + 3, 0, none⟩)]⟩ := by
  refine ⟨hq.on hb, ⟨rfl, o1, o2⟩, fun _ _ _ => ⟨_, _, _, _, rfl, ⟨x1, h.fresh hN (by omega)⟩, ⟨x2, h.fresh hN (by omega)⟩, ⟨vw, vs, ⟨by have x := x3; rw [hqc] at x; exact x, h.fresh hN (by omega)⟩, hq.on hb⟩, _, ⟨x4, h.fresh hN (by omega)⟩, hd.on hb⟩, (fun _ e => by cases e), (fun _ e => by cases e), (fun _ _ e => ?_), (fun _ _ e => ?_), (fun e => by cases e), (fun e => by cases e)⟩
  ·simp only [akF] at e
   omega
  ·simp only [akF] at e
   omega
 have C : Hid (1 = 1 → Calls Tryz.prog 116 #[pz f.sb, iw (n : Int), .agg qc, .func (.func 117) #[] #[pz w.heap.size, .pointer (some ⟨w.heap.size + 1, 0, none⟩), .pointer (some ⟨w.heap.size + 2, 0, none⟩), .pointer (some ⟨w.heap.size + 3, 0, none⟩)]] W4 (Asked f N X W4 (akF n q) vw vs _)) := fun _ => ask116 (h.on hb) rm n (akF n q) vw vs (.func 117) #[] _ qc hqc rfl rfl hn ha
 have HB : Hid (Below w.heap.size w W4) := hb
 have p1 : W4.cell? ⟨w.heap.size, 0, none⟩ = some (pz f.sb) := block_cell x1 rfl
 have p2 : W4.cell? ⟨w.heap.size + 1, 0, none⟩ = some (iw (n : Int)) := block_cell x2 rfl
 have HX : Hid (W4.heap[w.heap.size + 2]? = some (.cells qc 53 (0, 0))) := x3
 clear h rm hq hd ha x1 x2 x3 x4 hb hqc hN
 go_enter Tryz.func80, Tryz.ntmps80
 go_wp2_with (refine wpList_load_row rfl 53 _ rfl (w.heap.size + 2) rfl 53 _ (0, 0) _ HX.out Tryz.underlying53 rfl hs ?_)
 refine (C.out (by trivial)).mono ?_
 rintro e w2 ⟨rfl, va, vo, ht⟩
 have HT : Hid _ := To.pre HB.out ht
 clear ht C HB HX hW4 p1 p2
 go_wp2_with fail
 go_end0
 exact ⟨_, rfl, va, vo, HT.out⟩
def rsc (r : Rs) (vp : Value) : List Value := [iw r.k, iw r.er, uu r.c, uu r.n, uw r.sp, uu r.sl, uw r.ap, uu r.al, .bool r.fd, sd r.val, vp]
theorem rsc_all (r : Rs) (vp : Value) (h : vp.oneCell' = true) : (rsc r vp).toArray.all (·.oneCell') = true := by
 have i1 : ∀ k n, (Value.int k n).oneCell' = true := fun _ _ => rfl
 have i2 : ∀ b, (Value.bool b).oneCell' = true := fun _ => rfl
 have i3 : ∀ b, (Value.string b).oneCell' = true := fun _ => rfl
 simp [rsc, i1, i2, i3, h]
def rsV (r : Rs) : Value := .agg (rsc r sy).toArray
theorem info41 : (Tryz.prog.info? 41).map (·.size) = some 11 := by kernel_rfl
theorem res11 {fn : Func} {p : Tmp} (hf : fn.results = #[.cell p 41]) {tmps : Array Value} {b : Nat} (hp : tmps.getD p undef = .pointer (some ⟨b, 0, none⟩)) {vs : Array Value} (hs : vs.size = 11) (h : W.heap[b]? = some (.cells vs 41 (0, 0))) : (results fn tmps).run Tryz.prog W = .ok (.agg vs) W :=
 results_cell_row hf tmps W b 41 vs (0, 0) _ hp h Tryz.underlying41 rfl (by rw [hs]; exact info41)
theorem setRow_kept (W : World) (b : Nat) (cs : Array Value) : Kept (fun k => k = b) W (W.setRow b cs) := by
 refine ⟨rfl, rfl, rfl, by simp [World.setRow], fun k hk hn => ?_⟩
 simp only [World.setRow]
 rw [Array.getElem?_modify, if_neg (fun e => hn e.symm)]
theorem setRow_at {b : Nat} {cs cs' : Array Value} {ty : TypeId} (h : W.heap[b]? = some (.cells cs ty (0, 0))) : (W.setRow b cs').heap[b]? = some (.cells cs' ty (0, 0)) := by
 simp only [World.setRow]
 rw [Array.getElem?_modify, if_pos rfl, h]
 rfl
theorem below_row {b : Nat} (h : Below w.heap.size w W) (hb : w.heap.size ≤ b) (cs : Array Value) : Below w.heap.size w (W.setRow b cs) := by
 have k := setRow_kept W b cs
 exact h.trans (k.below h.size (fun i e => by omega))
theorem two_new1 (w : World) (a b : Obj) : ((w.alloc a).alloc b).heap[w.heap.size]? = some a := by
 rw [(al (W := w.alloc a) b).block _ (by rw [size_al]; omega)]
 exact heap_alloc_new w a
theorem told74f (k e : Int) (h : SC f N X w) (ha : X.act = false) : Calls Tryz.prog 74 #[pz f.sb, iw k, iw e] w fun r w' => r = .returned (rsV { resF X k with er := e }) ∧ Below w.heap.size w w' := by
 have p6 : w.cell? ⟨f.sb, 6, none⟩ = some (.pointer none) := block_cell (h.blk) (by simp [sbA, vtV, ha])
 have hl : f.sb < w.heap.size := lt_blk h.blk
 have hr : Hid (resF X k = { zS with k := k }) := by show _ = _; unfold resF; rw [ha]; rfl
 clear h ha
 go_enter Tryz.func74, Tryz.ntmps74
 go_wp2_with fail
 refine bodyPost_ret (res11 rfl rfl rfl (two_new1 _ _ _)) rfl ?_
 exact ⟨by rw [hr.out]; rfl, (al _).trans ((al _).mono (al _).size)⟩
theorem told74t (k e : Int) (h : SC f N X w) (ha : X.act = true) : Calls Tryz.prog 74 #[pz f.sb, iw k, iw e] w fun r w' => r = .returned (rsV { resF X k with er := e }) ∧ Below w.heap.size w w' := by
 have p6 : w.cell? ⟨f.sb, 6, none⟩ = some (pz f.tb) := block_cell (h.blk) (by simp [sbA, vtV, ha])
 have t0 : w.cell? ⟨f.tb, 0, none⟩ = some (uu X.cl) := block_cell (h.tx ha).1 rfl
 have t1 : w.cell? ⟨f.tb, 1, none⟩ = some (uu X.n) := block_cell (h.tx ha).1 rfl
 have t2 : w.cell? ⟨f.tb, 2, none⟩ = some (uw X.sp) := block_cell (h.tx ha).1 rfl
 have t3 : w.cell? ⟨f.tb, 3, none⟩ = some (uu X.sl) := block_cell (h.tx ha).1 rfl
 have hl : f.sb < w.heap.size := lt_blk h.blk
 have hlt : f.tb < w.heap.size := lt_blk (h.tx ha).1
 have hr : Hid (resF X k = { zS with k := k, c := X.cl, n := X.n, sp := X.sp, sl := X.sl }) := by show _ = _; unfold resF; rw [ha]; rfl
 clear h ha
 go_enter Tryz.func74, Tryz.ntmps74
 go_upto_region 3 with fail
 go_region_held3 (fun W => W.cell? ⟨f.sb, 6, none⟩ = some (pz f.tb) ∧ W.cell? ⟨f.tb, 0, none⟩ = some (uu X.cl) ∧ W.cell? ⟨f.tb, 1, none⟩ = some (uu X.n) ∧ W.cell? ⟨f.tb, 2, none⟩ = some (uw X.sp) ∧ W.cell? ⟨f.tb, 3, none⟩ = some (uu X.sl))
  (go_keep) (fail)
 rename_i hHeld
 clear hHeld p6 t0 t1 t2 t3
 go_wp2_with fail
 refine bodyPost_ret (res11 rfl rfl rfl (two_new1 _ _ _)) rfl ?_
 exact ⟨by rw [hr.out]; rfl, ((al _).trans ((al _).mono (al _).size)).drew⟩
theorem told74 (k e : Int) (h : SC f N X w) : Calls Tryz.prog 74 #[pz f.sb, iw k, iw e] w fun r w' => r = .returned (rsV { resF X k with er := e }) ∧ Below w.heap.size w w' := by
 cases ha : X.act
 ·exact told74f k e h ha
 ·exact told74t k e h ha
theorem box_res {b : Nat} {vs : Array Value} (h : W.heap[b]? = some (.cells vs 41 (0, 0))) (hb : Below W.heap.size W W') : W'.heap[b]? = some (.cells vs 41 (0, 0)) := by rw [hb.block b (lt_blk h)]; exact h
theorem refuse28 (e : Int) (h : SC f N X w) : Calls Tryz.prog 28 #[pz f.sb, iw e] w fun r w' => r = .returned (rsV (badF X e)) ∧ Below w.heap.size w w' := by
 have B1 : Hid _ := bx_new w RZ 41
 obtain ⟨W1, hW1⟩ := xj (w.alloc (.cells RZ 41))
 rw [hW1] at B1
 have C : Hid (1 = 1 → Calls Tryz.prog 74 #[pz f.sb, iw 6, iw e] W1 fun r w' => r = .returned (rsV (badF X e)) ∧ Below W1.heap.size W1 w') := fun _ => told74 6 e (h.on B1.out.bel)
 obtain ⟨b, hb⟩ := xj w.heap.size
 rw [hb] at B1
 clear h
 go_enter Tryz.func28, Tryz.ntmps28
 go_wp2_with fail
 refine (C.out (by trivial)).mono ?_
 rintro r w2 ⟨rfl, hb2⟩
 have B2 : Hid _ := B1.out.on hb2
 clear hb2 C B1 hW1
 unfold rsV
 go_wp2_with (refine wpList_store_row rfl 41 _ _ rfl b _ rfl rfl 41 _ B2.out.x (by kernel_rfl) rfl (rsc_all _ _ rfl) ?_)
 refine bodyPost_ret (res11 rfl rfl rfl (setRow_at B2.out.x)) rfl ?_
 exact ⟨rfl, by have k := below_row B2.out.bel (b := b) (by omega) (rsc (badF X e) sy).toArray; first | exact k | (rw [hb] at k; exact k)⟩
theorem toldAt76 (k : Int) (p l : Nat) (h : SC f N X w) : Calls Tryz.prog 76 #[pz f.sb, iw k, .agg #[uw p, uu l]] w fun r w' => r = .returned (rsV { resF X k with ap := p, al := l }) ∧ Below w.heap.size w w' := by
 obtain ⟨Y, hY⟩ := xj (resF X k)
 have hz : Hid (Y.er = 0) := by show _ = _; rw [← hY]; unfold resF; split <;> rfl
 have C : Hid (∀ W, Below w.heap.size w W → Calls Tryz.prog 74 #[pz f.sb, iw k, iw 0] W fun r w' => r = .returned (rsV Y) ∧ Below W.heap.size W w') := fun W hb => by
  have c := told74 k 0 (h.on hb)
  rw [hY] at c
  have e : { Y with er := 0 } = Y := by
   have e := hz.out
   cases Y
   simp only at e
   subst e
   rfl
  rw [e] at c
  exact c
 rw [hY]
 clear h hY
 obtain ⟨k0, e0, c0, n0, sp0, sl0, ap0, al0, fd0, val0, ps0⟩ := Y
 have HB : Hid (Below w.heap.size w ((w.alloc (.cells #[uw p, uu l] 34)).alloc (.cells RZ 41))) := (al _).trans ((al _).mono (al _).size)
 go_enter Tryz.func76, Tryz.ntmps76
 go_wp2_with fail
 refine (C.out _ HB.out).mono ?_
 rintro r w2 ⟨rfl, hb2⟩
 have B2 : Hid (Below w.heap.size w w2) := HB.out.trans (hb2.mono HB.out.size)
 have X2 : Hid (w2.heap[w.heap.size + 1]? = some (.cells RZ 41 (0, 0))) := by
  show _ = _
  have z := heap_alloc_new (w.alloc (.cells #[uw p, uu l] 34)) (.cells RZ 41)
  rw [hb2.block _ (by rw [size_al, size_al]; omega), ← size_al w (.cells #[uw p, uu l] 34)]
  exact z
 have y0 : w2.cell? ⟨w.heap.size, 0, none⟩ = some (uw p) := block_cell (by rw [hb2.block _ (by rw [size_al, size_al]; omega)]; exact two_new1 _ _ _) rfl
 have y1 : w2.cell? ⟨w.heap.size, 1, none⟩ = some (uu l) := block_cell (by rw [hb2.block _ (by rw [size_al, size_al]; omega)]; exact two_new1 _ _ _) rfl
 have hlt : w.heap.size + 1 < w2.heap.size := lt_blk X2.out
 clear hb2 C HB
 unfold rsV rsc
 dsimp only
 have hls : w.heap.size < w2.heap.size := by omega
 go_upto_region 3 with fail
 have X3 : Hid _ := heap_alloc_new w2 (.cells (rsc ⟨k0, e0, c0, n0, sp0, sl0, p, l, fd0, val0, ps0⟩ sy).toArray 41)
 have R3 : Hid _ := box_res X2.out (al (W := w2) (.cells (rsc ⟨k0, e0, c0, n0, sp0, sl0, p, l, fd0, val0, ps0⟩ sy).toArray 41))
 have B3 : Hid _ := B2.out.trans ((al (W := w2) (.cells (rsc ⟨k0, e0, c0, n0, sp0, sl0, p, l, fd0, val0, ps0⟩ sy).toArray 41)).mono B2.out.size)
 unfold rsc at X3 R3 B3
 dsimp only at X3 R3 B3
 obtain ⟨b3, hb3⟩ := xj w2.heap.size
 rw [hb3] at X3
 obtain ⟨W3, hW3⟩ := xj (w2.alloc (.cells #[iw k0, iw e0, uu c0, uu n0, uw sp0, uu sl0, uw p, uu l, .bool fd0, sd val0, sy] 41))
 rw [hW3] at X3 R3 B3
 rw [hW3, hb3]
 clear X2 B2 y0 y1 hW3 hb3
 go_wp2_with (first
  | (refine wpList_load_row rfl 41 _ rfl b3 rfl 41 _ (0, 0) _ X3.out Tryz.underlying41 rfl (by kernel_rfl) ?_)
  | (refine wpList_store_row rfl 41 _ _ rfl (w.heap.size + 1) _ rfl rfl 41 _ R3.out (by kernel_rfl) rfl (rsc_all ⟨k0, e0, c0, n0, sp0, sl0, p, l, fd0, val0, ps0⟩ _ rfl) ?_))
 refine bodyPost_ret (res11 rfl rfl rfl (setRow_at R3.out)) rfl ?_
 exact ⟨rfl, below_row B3.out (by omega) _⟩
theorem toldValue78 (fd : Bool) (val : List UInt8) (h : SC f N X w) : Calls Tryz.prog 78 #[pz f.sb, .bool fd, sd val] w fun r w' => r = .returned (rsV { resF X 2 with fd := fd, val := val }) ∧ Below w.heap.size w w' := by
 obtain ⟨Y, hY⟩ := xj (resF X 2)
 have hz : Hid (Y.er = 0) := by show _ = _; rw [← hY]; unfold resF; split <;> rfl
 have C : Hid (∀ W, Below w.heap.size w W → Calls Tryz.prog 74 #[pz f.sb, iw 2, iw 0] W fun r w' => r = .returned (rsV Y) ∧ Below W.heap.size W w') := fun W hb => by
  have c := told74 2 0 (h.on hb)
  rw [hY] at c
  have e : { Y with er := 0 } = Y := by
   have e := hz.out
   cases Y
   simp only at e
   subst e
   rfl
  rw [e] at c
  exact c
 rw [hY]
 clear h hY
 obtain ⟨k0, e0, c0, n0, sp0, sl0, ap0, al0, fd0, val0, ps0⟩ := Y
 have HB : Hid (Below w.heap.size w (w.alloc (.cells RZ 41))) := al _
 go_enter Tryz.func78, Tryz.ntmps78
 go_wp2_with fail
 refine (C.out _ HB.out).mono ?_
 rintro r w2 ⟨rfl, hb2⟩
 have B2 : Hid (Below w.heap.size w w2) := HB.out.trans (hb2.mono HB.out.size)
 have X2 : Hid (w2.heap[w.heap.size]? = some (.cells RZ 41 (0, 0))) := box_res (heap_alloc_new w _) hb2
 have hlt : w.heap.size < w2.heap.size := lt_blk X2.out
 clear hb2 C HB
 unfold rsV rsc
 dsimp only
 go_upto_region 3 with fail
 have X3 : Hid _ := heap_alloc_new w2 (.cells (rsc ⟨k0, e0, c0, n0, sp0, sl0, ap0, al0, fd, val, ps0⟩ sy).toArray 41)
 have R3 : Hid _ := box_res X2.out (al (W := w2) (.cells (rsc ⟨k0, e0, c0, n0, sp0, sl0, ap0, al0, fd, val, ps0⟩ sy).toArray 41))
 have B3 : Hid _ := B2.out.trans ((al (W := w2) (.cells (rsc ⟨k0, e0, c0, n0, sp0, sl0, ap0, al0, fd, val, ps0⟩ sy).toArray 41)).mono B2.out.size)
 unfold rsc at X3 R3 B3
 dsimp only at X3 R3 B3
 obtain ⟨b3, hb3⟩ := xj w2.heap.size
 rw [hb3] at X3
 obtain ⟨W3, hW3⟩ := xj (w2.alloc (.cells #[iw k0, iw e0, uu c0, uu n0, uw sp0, uu sl0, uw ap0, uu al0, .bool fd, sd val, sy] 41))
 rw [hW3] at X3 R3 B3
 rw [hW3, hb3]
 clear X2 B2 hW3 hb3
 go_wp2_with (first
  | (refine wpList_load_row rfl 41 _ rfl b3 rfl 41 _ (0, 0) _ X3.out Tryz.underlying41 rfl (by kernel_rfl) ?_)
  | (refine wpList_store_row rfl 41 _ _ rfl w.heap.size _ rfl rfl 41 _ R3.out (by kernel_rfl) rfl (rsc_all ⟨k0, e0, c0, n0, sp0, sl0, ap0, al0, fd, val, ps0⟩ _ rfl) ?_))
 refine bodyPost_ret (res11 rfl rfl rfl (setRow_at R3.out)) rfl ?_
 exact ⟨rfl, below_row B3.out (by omega) _⟩
def rpc (r : Rp) (vp : Value) : List Value := [iw r.k, iw r.er, .bool r.fd, sd r.val, vp, uu r.c, uu r.n, uw r.sp, uu r.sl, uw r.ap, uu r.al, sd r.prim, uw r.np, uu r.nl]
theorem errorOf82 (r : Rp) (vp : Value) (w : World) : Calls Tryz.prog 82 #[.agg (rpc r vp).toArray] w fun e w' => e = .returned (iw (wrongF r)) ∧ Below w.heap.size w w' := by
 have X1 : (w.alloc (.cells (rpc r vp).toArray 49)).heap[w.heap.size]? = some (.cells (rpc r vp).toArray 49 (0, 0)) := heap_alloc_new w _
 have p0 : (w.alloc (.cells (rpc r vp).toArray 49)).cell? ⟨w.heap.size, 0, none⟩ = some (iw r.k) := block_cell X1 rfl
 have p1 : (w.alloc (.cells (rpc r vp).toArray 49)).cell? ⟨w.heap.size, 1, none⟩ = some (iw r.er) := block_cell X1 rfl
 have HB : Hid (Below w.heap.size w (w.alloc (.cells (rpc r vp).toArray 49))) := al _
 obtain ⟨W1, hW1⟩ := xj (w.alloc (.cells (rpc r vp).toArray 49))
 rw [hW1] at p0 p1 HB
 clear X1
 obtain ⟨b, hb⟩ := xj w.heap.size
 rw [hb] at p0 p1
 obtain ⟨z1, hz1⟩ : ∃ z : Bool, (r.k == 0) = z := ⟨_, rfl⟩
 obtain ⟨z2, hz2⟩ : ∃ z : Bool, (r.er == 0) = z := ⟨_, rfl⟩
 have HV : Hid (wrongF r = if z1 && !z2 then r.er else 2) := by
  show _ = _
  subst hz1 hz2
  unfold wrongF
  by_cases h1 : r.k = 0 <;> by_cases h2 : r.er = 0 <;> simp [h1, h2]
 cases z1 <;> cases z2
 all_goals
  rw [HV.out]
  clear HV
  have hy1 : (r.k != 0) = !(r.k == 0) := rfl
  rw [hz1] at hy1
  simp only [Bool.not_true, Bool.not_false, Bool.and_true, Bool.and_false, Bool.false_eq_true, if_false, if_true] at hy1 ⊢
  go_enter Tryz.func82, Tryz.ntmps82
  go_wp2_with fail
  go_ret
  exact ⟨by first | rfl | simp, by first | exact HB.out | (rw [← hb]; exact HB.out) | (rw [hb] at HB; exact HB.out)⟩
end Go.Proofs.YtkdkgdollmmcnaaGreat
