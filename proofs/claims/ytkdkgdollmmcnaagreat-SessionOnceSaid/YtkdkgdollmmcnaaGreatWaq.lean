import Derived.Test.YtkdkgdollmmcnaaGreatWap
set_option maxHeartbeats 4000000
set_option maxRecDepth 100000
set_option linter.unusedVariables false
set_option linter.unusedSimpArgs false
namespace Go.Proofs.YtkdkgdollmmcnaaGreat
open Go.RowKit Go.Sort Go.Shelf
variable {M M' G N : Nat → Prop} {W W' w : World} {f f' : Fo} {X X' : Ss}
theorem stop_eq (h : X.op.k = 6 → X.stg = 1) (e : Int) : stopR X e = stopF bt X e := by
 unfold stopR stopF
 split
 ·rename_i h6
  rw [if_pos (h h6)]
 ·rfl
theorem Un.le {k m : Nat} (u : Un f N X k w) (h : m ≤ k) : Un f N X m w := ⟨u.sc, u.nk, u.bd, u.act, u.ns, u.ws, u.rm.le h⟩
theorem Un.of {N0 : Nat → Prop} {w0 : World} {Lo Lm : List Bo} {k : Nat} (u : Un f N0 X k w0) (c : Cx M N w f X Lo Lm W) : Un f (Nm N Lm) X k W := ⟨c.sc, c.nok, u.bd, u.act, u.ns, u.ws, u.rm⟩
theorem Got.next {N0 : Nat → Prop} {Lo Lm : List Bo} {X2 : Ss} {r : Rs} {e : Ending} (c : Cx M N w f X Lo Lm W) (g : Got f (Nm N Lm) X W X2 r e W') : e = .returned (rsV r) ∧ ∃ f', Cx M N w f' X2 Lo Lm W' ∧ f'.sb = f.sb ∧ Bd f' X2 := by
 obtain ⟨h1, f', h2, h3, h4⟩ := g
 exact ⟨h1, f', c.next h2, h3, h4⟩
theorem shard_none {k : List UInt8} {n : Nat} (h : bt.home k n = none) : Pla.shardF k n = (0, 1) := by
 rcases Pla.shard_code k n with ⟨h1, _⟩ | ⟨h1, _⟩
 ·simp [bt, h1] at h
 ·exact h1
theorem shard_some {k : List UInt8} {n m : Nat} (h : bt.home k n = some m) : Pla.shardF k n = ((m : Int), 0) := by
 rcases Pla.shard_code k n with ⟨h1, _⟩ | ⟨h1, _⟩
 ·have h2 := (Pla.shard_range k n h1).1
  simp only [bt, h1, if_true, Option.some.injEq] at h
  have h3 : (Pla.shardF k n).1 = (m : Int) := by omega
  rw [← h3, ← h1]
 ·simp [bt, h1] at h
theorem home_lt {k : List UInt8} {n m : Nat} (h : bt.home k n = some m) : m < n := by
 have h1 := shard_some h
 have h2 := (Pla.shard_range k n (by rw [h1])).2
 rw [h1] at h2
 simp only at h2
 omega
theorem Cx.stay0 {f0 : Fo} {X0 : Ss} {Lo Lm : List Bo} (c : Cx (f0.In X0.act) N w f X Lo Lm W) : Stay (f0.In X0.act) (f0.Ex N X0.act) (f.Ex (Nm N Lm) X.act) w W := ⟨c.kp, fun k e => .inr e, fun k hk e => by
 rcases e with (e | ⟨p, hp, rfl⟩) | e
 ·exact .inl e
 ·exact absurd (c.hasm p hp).2.2 (by omega)
 ·rcases c.sub k e with e | e
  ·exact .inr e
  ·omega⟩
theorem push118n (u : Un f N X 9 w) (ho : X.op.k ≠ 0) (hst : X.op.k = 6 → X.stg = 1) (n : Nat) (q : Rq) (r : Rp) (vw vs vp : Value) (fn : Fn) (fi cp qc rc : Array Value) (hrc : rc = (rpc r vp).toArray) (hh : bt.home r.prim X.nsh = none) :
  Calls Tryz.prog 118 #[pz f.sb, iw (n : Int), .agg qc, .agg rc, .func fn fi cp] w (Got f N X w (stopF bt X 1).1 (stopF bt X 1).2) := by
 have X0 := (Cx.start (Lo := []) u.sc u.nk nb).box51 #[pz f.sb] 24 #[iw (n : Int)] 3 qc 53 rc 49 #[.func fn fi cp] 97 RZ 41
 obtain ⟨W1, hW1⟩ := xj ((((((w.alloc (.cells #[pz f.sb] 24)).alloc (.cells #[iw (n : Int)] 3)).alloc (.cells qc 53)).alloc (.cells rc 49)).alloc (.cells #[.func fn fi cp] 97)).alloc (.cells RZ 41))
 rw [hW1] at X0
 have HX : Hid (Cx (f.In X.act) N w f X [(w.heap.size + 4, #[.func fn fi cp], 97), (w.heap.size + 3, rc, 49), (w.heap.size + 2, qc, 53), (w.heap.size + 1, #[iw (n : Int)], 3), (w.heap.size, #[pz f.sb], 24)] [(w.heap.size + 5, RZ, 41)] W1) := X0
 have HU : Hid (Un f N X 9 w) := u
 rw [← stop_eq hst]
 obtain ⟨sf, hsf, ent, hcs⟩ := stop_fn f.sb X ho
 have HC : Hid (∀ (W : World), Cx (f.In X.act) N w f X [(w.heap.size + 4, #[.func fn fi cp], 97), (w.heap.size + 3, rc, 49), (w.heap.size + 2, qc, 53), (w.heap.size + 1, #[iw (n : Int)], 3), (w.heap.size, #[pz f.sb], 24)] [(w.heap.size + 5, RZ, 41)] W → Calls Tryz.prog sf #[pz f.sb, iw 1] W fun e w' => e = .returned (rsV (stopR X 1).2) ∧ ∃ f', Cx (f.In X.act) N w f' (stopR X 1).1 [] [(w.heap.size + 5, RZ, 41)] w' ∧ f'.sb = f.sb ∧ Bd f' (stopR X 1).1) := fun W c => (hcs f _ W 1 rfl ((HU.out.of c).le (by decide))).mono fun e w' g => Got.next (N0 := N) (c.less (Lo' := []) nb) g
 have SN : Hid (∀ W, Cx (f.In X.act) N w f X [(w.heap.size + 4, #[.func fn fi cp], 97), (w.heap.size + 3, rc, 49), (w.heap.size + 2, qc, 53), (w.heap.size + 1, #[iw (n : Int)], 3), (w.heap.size, #[pz f.sb], 24)] [(w.heap.size + 5, RZ, 41)] W → W.cell? ⟨w.heap.size, 0, none⟩ = some (pz f.sb) ∧ W.cell? ⟨f.sb, 1, none⟩ = some (iw (X.nsh : Int)) ∧ W.cell? ⟨f.sb, 7, none⟩ = some (.func (.func sf) #[pz f.sb] #[]) ∧ W.cell? ⟨w.heap.size + 3, 11, none⟩ = some (sd r.prim)) := fun W c =>
  ⟨c.bc, block_cell c.sc.blk rfl, block_cell c.sc.blk (by rw [← hsf]; rfl), block_cell (c.bx (cs := rc) (ty := 49) (by simp)) (by rw [hrc]; rfl)⟩
 have C26 : Hid (∀ W, 1 = 1 → Calls Tryz.prog 26 #[sd r.prim, iw (X.nsh : Int)] W fun e w' => e = .returned (.tuple #[iw 0, iw 1]) ∧ W = w') := fun W _ => by
  have c := Pla.shard11 r.prim (X.nsh : Int) W
  rw [shard_none hh] at c
  exact c
 clear u X0 hcs hsf ho hst hh hrc
 go_enter Tryz.func118, Tryz.ntmps118
 go_upto_region 1 with fail
 have HD : Hid _ := HX.out.drew
 go_region_held3 (fun W => W.cell? ⟨w.heap.size, 0, none⟩ = some (pz f.sb) ∧ W.cell? ⟨f.sb, 1, none⟩ = some (iw (X.nsh : Int)) ∧ W.cell? ⟨f.sb, 7, none⟩ = some (.func (.func sf) #[pz f.sb] #[]) ∧ W.cell? ⟨w.heap.size + 3, 11, none⟩ = some (sd r.prim))
  (first | exact SN.out _ HD.out)
  (first
  | (go_at_call 26; refine (C26.out _ (by trivial)).mono ?_; rintro e w2 ⟨rfl, rfl⟩))
 rename_i hHeld
 obtain ⟨p1, p2, p3, -⟩ := hHeld
 clear SN C26 HX hW1
 go_wp2_with fail
 refine (HC.out _ HD.out).mono ?_
 rintro e w2 ⟨rfl, f', x2, hsb, hbd⟩
 have X2 : Hid _ := x2
 have HF : Hid _ := And.intro hsb hbd
 clear x2 hsb hbd HC HD p1 p2 p3
 unfold rsV
 go_wp2_with (refine sr X2.out ?_)
 refine bj X2.out ?_
 exact ej X2.out HF.out
theorem Cx.swap {Lo Lm : List Bo} {a b : Bo} (h : Cx M N w f X (a :: b :: Lo) Lm W) : Cx M N w f X (b :: a :: Lo) Lm W := h.less (fun p hp => by
 simp only [List.mem_cons] at hp ⊢
 rcases hp with e | e | e
 ·exact .inr (.inl e)
 ·exact .inl e
 ·exact .inr (.inr e))
theorem push118s (u : Un f N X 9 w) (n : Nat) (q : Rq) (r : Rp) (vw vs vp : Value) (fn : Fn) (fi cp qc rc : Array Value) (hqc : qc = (rqc q vw vs).toArray) (hrc : rc = (rpc r vp).toArray) (hm : Nat) (hh : bt.home r.prim X.nsh = some hm) (pa pl : Nat) (hq : QF (f.Ex N X.act) q vw vs w) (hd : DoAt (f.Ex N X.act) f w q.k (.func fn fi cp)) (z3 : Bool) (hz3 : (q.k == 3) = z3) (hpa : if z3 then pa = 0 ∧ pl = 0 else pa = q.sp ∧ pl = q.sl) :
  Calls Tryz.prog 118 #[pz f.sb, iw (n : Int), .agg qc, .agg rc, .func fn fi cp] w (Got f N X w (askF X { akF hm { zQ with k := 7, c := r.c, n := r.n, sp := r.sp, sl := r.sl, key := r.prim, ap := pa, al := pl } with st := 1, lk := r, was := q, hm := n }) zS) := by
 have X0 := (Cx.start (Lo := []) u.sc u.nk nb).box51 #[pz f.sb] 24 #[iw (n : Int)] 3 qc 53 rc 49 #[.func fn fi cp] 97 RZ 41
 obtain ⟨W1, hW1⟩ := xj ((((((w.alloc (.cells #[pz f.sb] 24)).alloc (.cells #[iw (n : Int)] 3)).alloc (.cells qc 53)).alloc (.cells rc 49)).alloc (.cells #[.func fn fi cp] 97)).alloc (.cells RZ 41))
 rw [hW1] at X0
 have HX : Hid (Cx (f.In X.act) N w f X [(w.heap.size + 4, #[.func fn fi cp], 97), (w.heap.size + 3, rc, 49), (w.heap.size + 2, qc, 53), (w.heap.size + 1, #[iw (n : Int)], 3), (w.heap.size, #[pz f.sb], 24)] [(w.heap.size + 5, RZ, 41)] W1) := X0
 have HU : Hid (Un f N X 9 w) := u
 have SN : Hid (∀ W, Cx (f.In X.act) N w f X [(w.heap.size + 4, #[.func fn fi cp], 97), (w.heap.size + 3, rc, 49), (w.heap.size + 2, qc, 53), (w.heap.size + 1, #[iw (n : Int)], 3), (w.heap.size, #[pz f.sb], 24)] [(w.heap.size + 5, RZ, 41)] W → W.cell? ⟨w.heap.size, 0, none⟩ = some (pz f.sb) ∧ W.cell? ⟨f.sb, 1, none⟩ = some (iw (X.nsh : Int)) ∧ W.cell? ⟨w.heap.size + 3, 11, none⟩ = some (sd r.prim) ∧ W.cell? ⟨w.heap.size + 3, 5, none⟩ = some (uu r.c) ∧ W.cell? ⟨w.heap.size + 3, 6, none⟩ = some (uu r.n) ∧ W.cell? ⟨w.heap.size + 3, 7, none⟩ = some (uw r.sp) ∧ W.cell? ⟨w.heap.size + 3, 8, none⟩ = some (uu r.sl) ∧ W.cell? ⟨w.heap.size + 2, 0, none⟩ = some (iw q.k) ∧ W.cell? ⟨w.heap.size + 2, 3, none⟩ = some (uw q.sp) ∧ W.cell? ⟨w.heap.size + 2, 4, none⟩ = some (uu q.sl)) := fun W c => by
  have b3 := c.bx (b := w.heap.size + 3) (cs := rc) (ty := 49) (by simp)
  rw [hrc] at b3
  have b2 := c.bx (b := w.heap.size + 2) (cs := qc) (ty := 53) (by simp)
  rw [hqc] at b2
  exact ⟨c.bc, block_cell c.sc.blk rfl, block_cell b3 rfl, block_cell b3 rfl, block_cell b3 rfl, block_cell b3 rfl, block_cell b3 rfl, block_cell b2 rfl, block_cell b2 rfl, block_cell b2 rfl⟩
 have C26 : Hid (∀ W, 1 = 1 → Calls Tryz.prog 26 #[sd r.prim, iw (X.nsh : Int)] W fun e w' => e = .returned (.tuple #[iw (hm : Int), iw 0]) ∧ W = w') := fun W _ => by
  have c := Pla.shard11 r.prim (X.nsh : Int) W
  rw [shard_some hh] at c
  exact c
 have HQ : Hid (qc = (rqc q vw vs).toArray ∧ QF (f.Ex N X.act) q vw vs w ∧ DoAt (f.Ex N X.act) f w q.k (.func fn fi cp) ∧ hm < 4294967296) := ⟨hqc, hq, hd, by have := home_lt hh; have := u.ns; omega⟩
 have HRC : Hid (rc = (rpc r vp).toArray) := hrc
 clear hqc hrc hq hd u hh
 go_enter Tryz.func118, Tryz.ntmps118
 go_upto_region 1 with fail
 have HD : Hid _ := HX.out.drew
 go_region_held3 (fun W => W.cell? ⟨w.heap.size, 0, none⟩ = some (pz f.sb) ∧ W.cell? ⟨f.sb, 1, none⟩ = some (iw (X.nsh : Int)) ∧ W.cell? ⟨w.heap.size + 3, 11, none⟩ = some (sd r.prim) ∧ W.cell? ⟨w.heap.size + 3, 5, none⟩ = some (uu r.c) ∧ W.cell? ⟨w.heap.size + 3, 6, none⟩ = some (uu r.n) ∧ W.cell? ⟨w.heap.size + 3, 7, none⟩ = some (uw r.sp) ∧ W.cell? ⟨w.heap.size + 3, 8, none⟩ = some (uu r.sl) ∧ W.cell? ⟨w.heap.size + 2, 0, none⟩ = some (iw q.k) ∧ W.cell? ⟨w.heap.size + 2, 3, none⟩ = some (uw q.sp) ∧ W.cell? ⟨w.heap.size + 2, 4, none⟩ = some (uu q.sl))
  (first | exact SN.out _ HD.out)
  (first
  | (go_at_call 26; refine (C26.out _ (by trivial)).mono ?_; rintro e w2 ⟨rfl, rfl⟩))
 rename_i hHeld
 clear hHeld C26 HX hW1 X0
 obtain ⟨W2, hW2⟩ := xj W1.drew
 rw [hW2] at HD ⊢
 clear hW2
 go_upto_region 4 with fail
 have HA : Hid (Cx (f.In X.act) N w f X (((W2.alloc (.cells #[uu r.c, uu r.n] 38)).heap.size, #[uw r.sp, uu r.sl], 34) :: (W2.heap.size, #[uu r.c, uu r.n], 38) :: [(w.heap.size + 4, #[.func fn fi cp], 97), (w.heap.size + 3, rc, 49), (w.heap.size + 2, qc, 53), (w.heap.size + 1, #[iw (n : Int)], 3), (w.heap.size, #[pz f.sb], 24)]) [(w.heap.size + 5, RZ, 41)] ((W2.alloc (.cells #[uu r.c, uu r.n] 38)).alloc (.cells #[uw r.sp, uu r.sl] 34)).drew) := ((HD.out.new _ _).new _ _).drew
 have HB : Hid (Cx (f.In X.act) N w f X ((W2.heap.size, #[uw r.sp, uu r.sl], 34) :: ((W2.alloc (.cells #[uw r.sp, uu r.sl] 34)).heap.size, #[uu r.c, uu r.n], 38) :: [(w.heap.size + 4, #[.func fn fi cp], 97), (w.heap.size + 3, rc, 49), (w.heap.size + 2, qc, 53), (w.heap.size + 1, #[iw (n : Int)], 3), (w.heap.size, #[pz f.sb], 24)]) [(w.heap.size + 5, RZ, 41)] ((W2.alloc (.cells #[uw r.sp, uu r.sl] 34)).alloc (.cells #[uu r.c, uu r.n] 38)).drew) := ((HD.out.new _ _).new _ _).swap.drew
 rw [size_al] at HA HB
 have hlt3 : w.heap.size + 3 < W2.heap.size := lt_blk (HD.out.bx (b := w.heap.size + 3) (cs := rc) (ty := 49) (by simp))
 obtain ⟨y1, y2, y3, y4, y5, y6, y7, y8, y9, y10⟩ := SN.out _ HD.out
 go_cut [13, 14] (fun s13 s14 wc => ∃ bw bt, s13 = .pointer (some ⟨bw, 0, none⟩) ∧ s14 = .pointer (some ⟨bt, 0, none⟩) ∧ Hid (Cx (f.In X.act) N w f X ((bt, #[uw r.sp, uu r.sl], 34) :: (bw, #[uu r.c, uu r.n], 38) :: [(w.heap.size + 4, #[.func fn fi cp], 97), (w.heap.size + 3, rc, 49), (w.heap.size + 2, qc, 53), (w.heap.size + 1, #[iw (n : Int)], 3), (w.heap.size, #[pz f.sb], 24)]) [(w.heap.size + 5, RZ, 41)] wc))
 case first =>
  go_region_held3 (fun W => W.cell? ⟨w.heap.size + 3, 5, none⟩ = some (uu r.c) ∧ W.cell? ⟨w.heap.size + 3, 6, none⟩ = some (uu r.n) ∧ W.cell? ⟨w.heap.size + 3, 7, none⟩ = some (uw r.sp) ∧ W.cell? ⟨w.heap.size + 3, 8, none⟩ = some (uu r.sl))
   (go_keep) (fail)
  all_goals
   rename_i hHeld
   clear hHeld
   go_wp2_with fail
   go_meet
   case rel => first | exact ⟨_, _, rfl, rfl, HA⟩ | exact ⟨_, _, rfl, rfl, HB⟩
 case rest =>
  obtain ⟨bw, bt', rfl, rfl, HC⟩ := hcut
  clear HA HB HD hlt3 SN y1 y2 y3 y4 y5 y6 y7 y8 y9 y10
  have cs : wc.cell? ⟨w.heap.size, 0, none⟩ = some (pz f.sb) := HC.out.bc
  have cw : wc.cell? ⟨bw, 0, none⟩ = some (uu r.c) ∧ wc.cell? ⟨bw, 1, none⟩ = some (uu r.n) := ⟨HC.out.bc, HC.out.bc⟩
  have ct : wc.cell? ⟨bt', 0, none⟩ = some (uw r.sp) ∧ wc.cell? ⟨bt', 1, none⟩ = some (uu r.sl) := ⟨HC.out.bc, HC.out.bc⟩
  have cr : wc.cell? ⟨w.heap.size + 3, 11, none⟩ = some (sd r.prim) := block_cell (HC.out.bx (cs := rc) (ty := 49) (by simp)) (by rw [HRC.out]; rfl)
  have cq : wc.cell? ⟨w.heap.size + 2, 0, none⟩ = some (iw q.k) ∧ wc.cell? ⟨w.heap.size + 2, 3, none⟩ = some (uw q.sp) ∧ wc.cell? ⟨w.heap.size + 2, 4, none⟩ = some (uu q.sl) := by
   have b2 := HC.out.bx (b := w.heap.size + 2) (cs := qc) (ty := 53) (by simp)
   rw [HQ.out.1] at b2
   exact ⟨block_cell b2 rfl, block_cell b2 rfl, block_cell b2 rfl⟩
  obtain ⟨cw0, cw1⟩ := cw
  obtain ⟨ct0, ct1⟩ := ct
  obtain ⟨cq0, cq1, cq2⟩ := cq
  have lq : w.heap.size + 2 < wc.heap.size := World.block_lt_of_cell? _ _ cq0
  have hz4 : (q.k != 3) = !z3 := by rw [← hz3]; rfl
  cases z3
  ·obtain ⟨rfl, rfl⟩ := hpa
   go_upto_region 8 with fail
   have C1 : Hid (Cx (f.In X.act) N w f X ((wc.heap.size, #[iw 7, uu r.c, uu r.n, uw r.sp, uu r.sl, uw q.sp, uu q.sl, sd r.prim, su, iw 0, .int .u8 0, sy, sy], 53) :: (bt', #[uw r.sp, uu r.sl], 34) :: (bw, #[uu r.c, uu r.n], 38) :: [(w.heap.size + 4, #[.func fn fi cp], 97), (w.heap.size + 3, rc, 49), (w.heap.size + 2, qc, 53), (w.heap.size + 1, #[iw (n : Int)], 3), (w.heap.size, #[pz f.sb], 24)]) [(w.heap.size + 5, RZ, 41)] (wc.alloc (.cells #[iw 7, uu r.c, uu r.n, uw r.sp, uu r.sl, uw q.sp, uu q.sl, sd r.prim, su, iw 0, .int .u8 0, sy, sy] 53))) := HC.out.new _ _
   obtain ⟨WP, hWP⟩ := xj (wc.alloc (.cells #[iw 7, uu r.c, uu r.n, uw r.sp, uu r.sl, uw q.sp, uu q.sl, sd r.prim, su, iw 0, .int .u8 0, sy, sy] 53))
   rw [hWP] at C1
   rw [hWP]
   have hstay : Stay (f.In X.act) (f.Ex N X.act) (f.Ex (Nm N [(w.heap.size + 5, RZ, 41)]) X.act) w WP := C1.out.stay0
   have ha : AkIs (f.Ex (Nm N [(w.heap.size + 5, RZ, 41)]) X.act) f X WP ⟨{ { akF hm { zQ with k := 7, c := r.c, n := r.n, sp := r.sp, sl := r.sl, key := r.prim, ap := q.sp, al := q.sl } with st := 1, lk := r, was := q, hm := n } with sq := X.sq + 1 }, sy, sy, (.func (.func 148) #[] #[pz w.heap.size, .pointer (some ⟨w.heap.size + 1, 0, none⟩), .pointer (some ⟨w.heap.size + 2, 0, none⟩), pz bw, .pointer (some ⟨w.heap.size + 4, 0, none⟩), pz bt'])⟩ := by
    refine ⟨qf_nil _ _ _ rfl rfl, ⟨rfl, rfl, rfl⟩, (fun _ e => by cases e), (fun _ _ => ⟨_, _, _, _, _, _, rfl, ⟨C1.out.fx (by simp), C1.out.fx (by simp), ⟨vw, vs, ?_, HQ.out.2.1.stay hstay⟩, _, C1.out.fx (by simp), HQ.out.2.2.1.stay hstay (SameF.refl f)⟩, C1.out.fx (by simp), C1.out.fx (by simp)⟩), (fun _ e => by cases e), (fun _ e => by cases e), (fun _ e => by cases e), (fun e => by cases e), (fun e => by cases e)⟩
    have x := C1.out.fx (b := w.heap.size + 2) (cs := qc) (ty := 53) (by simp)
    rw [HQ.out.1] at x
    exact x
   have CA : Hid (1 = 1 → Calls Tryz.prog 116 #[pz f.sb, iw (hm : Int), .agg #[iw 7, uu r.c, uu r.n, uw r.sp, uu r.sl, uw q.sp, uu q.sl, sd r.prim, su, iw 0, .int .u8 0, sy, sy], (.func (.func 148) #[] #[pz w.heap.size, .pointer (some ⟨w.heap.size + 1, 0, none⟩), .pointer (some ⟨w.heap.size + 2, 0, none⟩), pz bw, .pointer (some ⟨w.heap.size + 4, 0, none⟩), pz bt'])] WP (Asked f _ X WP _ sy sy _)) := fun _ => ask116 C1.out.sc (HU.out.rm.room) hm _ sy sy (.func 148) #[] _ #[iw 7, uu r.c, uu r.n, uw r.sp, uu r.sl, uw q.sp, uu q.sl, sd r.prim, su, iw 0, .int .u8 0, sy, sy] rfl rfl rfl HQ.out.2.2.2 ha
   have p1 : WP.cell? ⟨w.heap.size, 0, none⟩ = some (pz f.sb) := C1.out.bc
   have p3 : Hid (WP.heap[wc.heap.size]? = some (.cells #[iw 7, uu r.c, uu r.n, uw r.sp, uu r.sl, uw q.sp, uu q.sl, sd r.prim, su, iw 0, .int .u8 0, sy, sy] 53 (0, 0))) := C1.out.bx (by simp)
   have HB : Hid (Bd f X) := HU.out.bd
   clear hstay ha HC HQ HU
   clear cs cw0 cw1 ct0 ct1 cr cq0 cq1 cq2 lq hz4
   go_wp2_with (refine wpList_load_row rfl 53 _ rfl wc.heap.size rfl 53 _ (0, 0) _ p3.out Tryz.underlying53 rfl (by kernel_rfl) ?_)
   refine (CA.out (by trivial)).mono ?_
   rintro e w2 ⟨rfl, va, vo, ht⟩
   have X2 : Hid _ := (C1.out.less (Lo' := []) nb).next ht
   clear ht CA C1 hWP p1 p3
   have hr := rsc_all zS sy rfl
   go_wp2_with (refine wpList_store_row rfl 41 _ _ rfl (w.heap.size + 5) (rsc zS sy).toArray rfl rfl 41 _ (X2.out.bm mc) (by kernel_rfl) rfl hr ?_)
   refine bj X2.out ?_
   exact ⟨rfl, _, (X2.out.poke (setRow_kept _ _ _) (setRow_at (X2.out.bm mc)) nb).to, rfl, HB.out.ask rfl⟩
  ·obtain ⟨rfl, rfl⟩ := hpa
   go_upto_region 8 with fail
   have C1 : Hid (Cx (f.In X.act) N w f X ((wc.heap.size, #[iw 7, uu r.c, uu r.n, uw r.sp, uu r.sl, .int .u64 0, .int .u32 0, sd r.prim, su, iw 0, .int .u8 0, sy, sy], 53) :: (bt', #[uw r.sp, uu r.sl], 34) :: (bw, #[uu r.c, uu r.n], 38) :: [(w.heap.size + 4, #[.func fn fi cp], 97), (w.heap.size + 3, rc, 49), (w.heap.size + 2, qc, 53), (w.heap.size + 1, #[iw (n : Int)], 3), (w.heap.size, #[pz f.sb], 24)]) [(w.heap.size + 5, RZ, 41)] (wc.alloc (.cells #[iw 7, uu r.c, uu r.n, uw r.sp, uu r.sl, .int .u64 0, .int .u32 0, sd r.prim, su, iw 0, .int .u8 0, sy, sy] 53))) := HC.out.new _ _
   obtain ⟨WP, hWP⟩ := xj (wc.alloc (.cells #[iw 7, uu r.c, uu r.n, uw r.sp, uu r.sl, .int .u64 0, .int .u32 0, sd r.prim, su, iw 0, .int .u8 0, sy, sy] 53))
   rw [hWP] at C1
   rw [hWP]
   have hstay : Stay (f.In X.act) (f.Ex N X.act) (f.Ex (Nm N [(w.heap.size + 5, RZ, 41)]) X.act) w WP := C1.out.stay0
   have ha : AkIs (f.Ex (Nm N [(w.heap.size + 5, RZ, 41)]) X.act) f X WP ⟨{ { akF hm { zQ with k := 7, c := r.c, n := r.n, sp := r.sp, sl := r.sl, key := r.prim, ap := 0, al := 0 } with st := 1, lk := r, was := q, hm := n } with sq := X.sq + 1 }, sy, sy, (.func (.func 148) #[] #[pz w.heap.size, .pointer (some ⟨w.heap.size + 1, 0, none⟩), .pointer (some ⟨w.heap.size + 2, 0, none⟩), pz bw, .pointer (some ⟨w.heap.size + 4, 0, none⟩), pz bt'])⟩ := by
    refine ⟨qf_nil _ _ _ rfl rfl, ⟨rfl, rfl, rfl⟩, (fun _ e => by cases e), (fun _ _ => ⟨_, _, _, _, _, _, rfl, ⟨C1.out.fx (by simp), C1.out.fx (by simp), ⟨vw, vs, ?_, HQ.out.2.1.stay hstay⟩, _, C1.out.fx (by simp), HQ.out.2.2.1.stay hstay (SameF.refl f)⟩, C1.out.fx (by simp), C1.out.fx (by simp)⟩), (fun _ e => by cases e), (fun _ e => by cases e), (fun _ e => by cases e), (fun e => by cases e), (fun e => by cases e)⟩
    have x := C1.out.fx (b := w.heap.size + 2) (cs := qc) (ty := 53) (by simp)
    rw [HQ.out.1] at x
    exact x
   have CA : Hid (1 = 1 → Calls Tryz.prog 116 #[pz f.sb, iw (hm : Int), .agg #[iw 7, uu r.c, uu r.n, uw r.sp, uu r.sl, .int .u64 0, .int .u32 0, sd r.prim, su, iw 0, .int .u8 0, sy, sy], (.func (.func 148) #[] #[pz w.heap.size, .pointer (some ⟨w.heap.size + 1, 0, none⟩), .pointer (some ⟨w.heap.size + 2, 0, none⟩), pz bw, .pointer (some ⟨w.heap.size + 4, 0, none⟩), pz bt'])] WP (Asked f _ X WP _ sy sy _)) := fun _ => ask116 C1.out.sc (HU.out.rm.room) hm _ sy sy (.func 148) #[] _ #[iw 7, uu r.c, uu r.n, uw r.sp, uu r.sl, .int .u64 0, .int .u32 0, sd r.prim, su, iw 0, .int .u8 0, sy, sy] rfl rfl rfl HQ.out.2.2.2 ha
   have p1 : WP.cell? ⟨w.heap.size, 0, none⟩ = some (pz f.sb) := C1.out.bc
   have p3 : Hid (WP.heap[wc.heap.size]? = some (.cells #[iw 7, uu r.c, uu r.n, uw r.sp, uu r.sl, .int .u64 0, .int .u32 0, sd r.prim, su, iw 0, .int .u8 0, sy, sy] 53 (0, 0))) := C1.out.bx (by simp)
   have HB : Hid (Bd f X) := HU.out.bd
   clear hstay ha HC HQ HU
   clear cs cw0 cw1 ct0 ct1 cr cq0 cq1 cq2 lq hz4
   go_wp2_with (refine wpList_load_row rfl 53 _ rfl wc.heap.size rfl 53 _ (0, 0) _ p3.out Tryz.underlying53 rfl (by kernel_rfl) ?_)
   refine (CA.out (by trivial)).mono ?_
   rintro e w2 ⟨rfl, va, vo, ht⟩
   have X2 : Hid _ := (C1.out.less (Lo' := []) nb).next ht
   clear ht CA C1 hWP p1 p3
   have hr := rsc_all zS sy rfl
   go_wp2_with (refine wpList_store_row rfl 41 _ _ rfl (w.heap.size + 5) (rsc zS sy).toArray rfl rfl 41 _ (X2.out.bm mc) (by kernel_rfl) rfl hr ?_)
   refine bj X2.out ?_
   exact ⟨rfl, _, (X2.out.poke (setRow_kept _ _ _) (setRow_at (X2.out.bm mc)) nb).to, rfl, HB.out.ask rfl⟩
theorem push118 (u : Un f N X 9 w) (ho : X.op.k ≠ 0) (hst : X.op.k = 6 → X.stg = 1) (n : Nat) (q : Rq) (r : Rp) (vw vs vp : Value) (fn : Fn) (fi cp qc rc : Array Value) (hqc : qc = (rqc q vw vs).toArray) (hrc : rc = (rpc r vp).toArray) (hsp : q.k ≠ 3 → q.sp = X.sp ∧ q.sl = X.sl) (hq : QF (f.Ex N X.act) q vw vs w) (hd : DoAt (f.Ex N X.act) f w q.k (.func fn fi cp)) (a : Ak) (haq : a.q = q) (hash : a.sh = n) :
  Calls Tryz.prog 118 #[pz f.sb, iw (n : Int), .agg qc, .agg rc, .func fn fi cp] w (Got f N X w (lockF bt X a r).1 (lockF bt X a r).2) := by
 unfold lockF
 cases hh : bt.home r.prim X.nsh with
 | none => exact push118n u ho hst n q r vw vs vp fn fi cp qc rc hrc hh
 | some hm =>
  dsimp only
  rw [haq, hash]
  by_cases h3 : q.k = 3
  ·rw [if_pos h3, if_pos h3]
   exact push118s u n q r vw vs vp fn fi cp qc rc hqc hrc hm hh 0 0 hq hd true (by simp [h3]) ⟨rfl, rfl⟩
  ·rw [if_neg h3, if_neg h3]
   obtain ⟨e1, e2⟩ := hsp h3
   rw [← e1, ← e2]
   exact push118s u n q r vw vs vp fn fi cp qc rc hqc hrc hm hh q.sp q.sl hq hd false (by simp [h3]) ⟨rfl, rfl⟩
end Go.Proofs.YtkdkgdollmmcnaaGreat
