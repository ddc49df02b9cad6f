import Derived.Test.YtkdkgdollmmcnaaGreatWbd
set_option maxHeartbeats 4000000
set_option maxRecDepth 100000
set_option linter.unusedVariables false
set_option linter.unusedSimpArgs false
namespace Go.Proofs.YtkdkgdollmmcnaaGreat
open Go.RowKit Go.Sort Go.Shelf
variable {M M' G N : Nat → Prop} {W W' w : World} {f f' : Fo} {X X' : Ss}
theorem neqN (w : World) : (binOp .neq 74 .nilFunc .nilFunc).run Tryz.prog w = .ok (.bool false) w := by first | rfl | kernel_rfl | simp [go_sem]
theorem neqF (fn : Fn) (fi cp : Array Value) (w : World) : (binOp .neq 74 (.func fn fi cp) .nilFunc).run Tryz.prog w = .ok (.bool true) w := by first | rfl | kernel_rfl | simp [go_sem]
theorem do11_busy (h : SC f N X w) (hn : Nok N f X.act w) (ph : Nat) (o : Op) (hi : X.op.k ≠ 0) (X2 : Ss) (r2 : Rs) (hc : ∀ N' W, SC f N' X W → Nok N' f X.act W → Calls Tryz.prog 28 #[pz f.sb, iw 40] W (Got f N' X W X2 r2)) : Calls Tryz.prog 11 #[pz f.sb, uw ph, .agg #[iw o.k, sd o.key, sd o.val, sd o.to, iw o.lim]] w (Got f N X w X2 r2) := by
 have X0 := (Cx.start (Lo := []) h hn nb).box11 #[iw o.k, sd o.key, sd o.val, sd o.to, iw o.lim] 44 RZ 41
 obtain ⟨W1, hW1⟩ := xj ((w.alloc (.cells #[iw o.k, sd o.key, sd o.val, sd o.to, iw o.lim] 44)).alloc (.cells RZ 41))
 rw [hW1] at X0
 have ob := X0.bx (b := w.heap.size) (cs := #[iw o.k, sd o.key, sd o.val, sd o.to, iw o.lim]) (ty := 44) (by simp)
 have o0 : W1.cell? ⟨w.heap.size, 0, none⟩ = some (iw o.k) := block_cell ob rfl
 have o1 : W1.cell? ⟨w.heap.size, 1, none⟩ = some (sd o.key) := block_cell ob rfl
 have o2 : W1.cell? ⟨w.heap.size, 2, none⟩ = some (sd o.val) := block_cell ob rfl
 have o3 : W1.cell? ⟨w.heap.size, 3, none⟩ = some (sd o.to) := block_cell ob rfl
 have o4 : W1.cell? ⟨w.heap.size, 4, none⟩ = some (iw o.lim) := block_cell ob rfl
 obtain ⟨sf, hsf, -, -⟩ := stop_fn f.sb X hi
 have p7 : W1.cell? ⟨f.sb, 7, none⟩ = some (.func (.func sf) #[pz f.sb] #[]) := block_cell X0.sc.blk (by rw [← hsf]; rfl)
 have eF := neqF (.func sf) #[pz f.sb] #[] W1
 clear hsf
 have p6 : 1 = 1 := rfl
 have HC := gh (hc _ W1 X0.sc X0.nok) X0
 clear h hn X0 ob hc hi
 go_enter Tryz.func11, Tryz.ntmps11
 go_wp2_with fail
 refine (HC.out (by trivial)).mono ?_
 rintro e w2 ⟨rfl, f', x2, hsb, hbd⟩
 have X2' : Hid _ := x2
 have HF : Hid _ := And.intro hsb hbd
 clear x2 hsb hbd HC p7 p6 o0 o1 o2 o3 o4 hW1
 unfold rsV
 go_wp2_with (refine sr X2'.out ?_)
 refine bj X2'.out ?_
 exact ej X2'.out HF.out
theorem do11_1 (h : SC f N X w) (hn : Nok N f X.act w) (ph : Nat) (o : Op) (hi : X.op.k = 0) (hk : o.k = 1) (X2 : Ss) (r2 : Rs) (hc : ∀ N' W, SC f N' X W → Nok N' f X.act W → Calls Tryz.prog 29 #[pz f.sb, uw ph] W (Got f N' X W X2 r2)) : Calls Tryz.prog 11 #[pz f.sb, uw ph, .agg #[iw o.k, sd o.key, sd o.val, sd o.to, iw o.lim]] w (Got f N X w X2 r2) := by
 have X0 := (Cx.start (Lo := []) h hn nb).box11 #[iw o.k, sd o.key, sd o.val, sd o.to, iw o.lim] 44 RZ 41
 obtain ⟨W1, hW1⟩ := xj ((w.alloc (.cells #[iw o.k, sd o.key, sd o.val, sd o.to, iw o.lim] 44)).alloc (.cells RZ 41))
 rw [hW1] at X0
 have ob := X0.bx (b := w.heap.size) (cs := #[iw o.k, sd o.key, sd o.val, sd o.to, iw o.lim]) (ty := 44) (by simp)
 have o0 : W1.cell? ⟨w.heap.size, 0, none⟩ = some (iw o.k) := block_cell ob rfl
 have o1 : W1.cell? ⟨w.heap.size, 1, none⟩ = some (sd o.key) := block_cell ob rfl
 have o2 : W1.cell? ⟨w.heap.size, 2, none⟩ = some (sd o.val) := block_cell ob rfl
 have o3 : W1.cell? ⟨w.heap.size, 3, none⟩ = some (sd o.to) := block_cell ob rfl
 have o4 : W1.cell? ⟨w.heap.size, 4, none⟩ = some (iw o.lim) := block_cell ob rfl
 have p7 : W1.cell? ⟨f.sb, 7, none⟩ = some .nilFunc := block_cell X0.sc.blk (by simp [sbA, vsV, hi])
 have eN := neqN W1
 have p6 : 1 = 1 := rfl
 have hb1 : (o.k == 1) = true := by rw [hk]; rfl
 have HC := gh (hc _ W1 X0.sc X0.nok) X0
 clear h hn X0 ob hc hi hk
 go_enter Tryz.func11, Tryz.ntmps11
 go_wp2_with fail
 refine (HC.out (by trivial)).mono ?_
 rintro e w2 ⟨rfl, f', x2, hsb, hbd⟩
 have X2' : Hid _ := x2
 have HF : Hid _ := And.intro hsb hbd
 clear x2 hsb hbd HC p7 p6 o0 o1 o2 o3 o4 hW1
 unfold rsV
 go_wp2_with (refine sr X2'.out ?_)
 refine bj X2'.out ?_
 exact ej X2'.out HF.out
theorem do11_none (h : SC f N X w) (hn : Nok N f X.act w) (ph : Nat) (o : Op) (hi : X.op.k = 0) (ha : X.act = false) (hk : o.k ≠ 1) (X2 : Ss) (r2 : Rs) (hc : ∀ N' W, SC f N' X W → Nok N' f X.act W → Calls Tryz.prog 28 #[pz f.sb, iw 41] W (Got f N' X W X2 r2)) : Calls Tryz.prog 11 #[pz f.sb, uw ph, .agg #[iw o.k, sd o.key, sd o.val, sd o.to, iw o.lim]] w (Got f N X w X2 r2) := by
 have X0 := (Cx.start (Lo := []) h hn nb).box11 #[iw o.k, sd o.key, sd o.val, sd o.to, iw o.lim] 44 RZ 41
 obtain ⟨W1, hW1⟩ := xj ((w.alloc (.cells #[iw o.k, sd o.key, sd o.val, sd o.to, iw o.lim] 44)).alloc (.cells RZ 41))
 rw [hW1] at X0
 have ob := X0.bx (b := w.heap.size) (cs := #[iw o.k, sd o.key, sd o.val, sd o.to, iw o.lim]) (ty := 44) (by simp)
 have o0 : W1.cell? ⟨w.heap.size, 0, none⟩ = some (iw o.k) := block_cell ob rfl
 have o1 : W1.cell? ⟨w.heap.size, 1, none⟩ = some (sd o.key) := block_cell ob rfl
 have o2 : W1.cell? ⟨w.heap.size, 2, none⟩ = some (sd o.val) := block_cell ob rfl
 have o3 : W1.cell? ⟨w.heap.size, 3, none⟩ = some (sd o.to) := block_cell ob rfl
 have o4 : W1.cell? ⟨w.heap.size, 4, none⟩ = some (iw o.lim) := block_cell ob rfl
 have p7 : W1.cell? ⟨f.sb, 7, none⟩ = some .nilFunc := block_cell X0.sc.blk (by simp [sbA, vsV, hi])
 have eN := neqN W1
 have p6 : W1.cell? ⟨f.sb, 6, none⟩ = some (.pointer none) := block_cell X0.sc.blk (by simp [sbA, vtV, ha])
 have hb1 : (o.k == 1) = false := by simp; exact hk
 have HC := gh (hc _ W1 X0.sc X0.nok) X0
 clear h hn X0 ob hc hi ha hk
 go_enter Tryz.func11, Tryz.ntmps11
 go_wp2_with fail
 refine (HC.out (by trivial)).mono ?_
 rintro e w2 ⟨rfl, f', x2, hsb, hbd⟩
 have X2' : Hid _ := x2
 have HF : Hid _ := And.intro hsb hbd
 clear x2 hsb hbd HC p7 p6 o0 o1 o2 o3 o4 hW1
 unfold rsV
 go_wp2_with (refine sr X2'.out ?_)
 refine bj X2'.out ?_
 exact ej X2'.out HF.out
theorem do11_2 (h : SC f N X w) (hn : Nok N f X.act w) (ph : Nat) (o : Op) (hi : X.op.k = 0) (ha : X.act = true) (hk : o.k = 2) (X2 : Ss) (r2 : Rs) (hc : ∀ N' W, SC f N' X W → Nok N' f X.act W → Calls Tryz.prog 30 #[pz f.sb, sd o.key] W (Got f N' X W X2 r2)) : Calls Tryz.prog 11 #[pz f.sb, uw ph, .agg #[iw o.k, sd o.key, sd o.val, sd o.to, iw o.lim]] w (Got f N X w X2 r2) := by
 have X0 := (Cx.start (Lo := []) h hn nb).box11 #[iw o.k, sd o.key, sd o.val, sd o.to, iw o.lim] 44 RZ 41
 obtain ⟨W1, hW1⟩ := xj ((w.alloc (.cells #[iw o.k, sd o.key, sd o.val, sd o.to, iw o.lim] 44)).alloc (.cells RZ 41))
 rw [hW1] at X0
 have ob := X0.bx (b := w.heap.size) (cs := #[iw o.k, sd o.key, sd o.val, sd o.to, iw o.lim]) (ty := 44) (by simp)
 have o0 : W1.cell? ⟨w.heap.size, 0, none⟩ = some (iw o.k) := block_cell ob rfl
 have o1 : W1.cell? ⟨w.heap.size, 1, none⟩ = some (sd o.key) := block_cell ob rfl
 have o2 : W1.cell? ⟨w.heap.size, 2, none⟩ = some (sd o.val) := block_cell ob rfl
 have o3 : W1.cell? ⟨w.heap.size, 3, none⟩ = some (sd o.to) := block_cell ob rfl
 have o4 : W1.cell? ⟨w.heap.size, 4, none⟩ = some (iw o.lim) := block_cell ob rfl
 have p7 : W1.cell? ⟨f.sb, 7, none⟩ = some .nilFunc := block_cell X0.sc.blk (by simp [sbA, vsV, hi])
 have eN := neqN W1
 have p6 : W1.cell? ⟨f.sb, 6, none⟩ = some (pz f.tb) := block_cell X0.sc.blk (by simp [sbA, vtV, ha])
 have hb1 : (o.k == 1) = false := by rw [hk]; rfl
 have hb2 : (o.k == 2) = true := by rw [hk]; rfl
 have HC := gh (hc _ W1 X0.sc X0.nok) X0
 clear h hn X0 ob hc hi ha hk
 go_enter Tryz.func11, Tryz.ntmps11
 go_wp2_with fail
 refine (HC.out (by trivial)).mono ?_
 rintro e w2 ⟨rfl, f', x2, hsb, hbd⟩
 have X2' : Hid _ := x2
 have HF : Hid _ := And.intro hsb hbd
 clear x2 hsb hbd HC p7 p6 o0 o1 o2 o3 o4 hW1
 unfold rsV
 go_wp2_with (refine sr X2'.out ?_)
 refine bj X2'.out ?_
 exact ej X2'.out HF.out
theorem do11_3 (h : SC f N X w) (hn : Nok N f X.act w) (ph : Nat) (o : Op) (hi : X.op.k = 0) (ha : X.act = true) (hk : o.k = 3) (X2 : Ss) (r2 : Rs) (hc : ∀ N' W, SC f N' X W → Nok N' f X.act W → Calls Tryz.prog 31 #[pz f.sb, .agg #[iw o.k, sd o.key, sd o.val, sd o.to, iw o.lim]] W (Got f N' X W X2 r2)) : Calls Tryz.prog 11 #[pz f.sb, uw ph, .agg #[iw o.k, sd o.key, sd o.val, sd o.to, iw o.lim]] w (Got f N X w X2 r2) := by
 have X0 := (Cx.start (Lo := []) h hn nb).box11 #[iw o.k, sd o.key, sd o.val, sd o.to, iw o.lim] 44 RZ 41
 obtain ⟨W1, hW1⟩ := xj ((w.alloc (.cells #[iw o.k, sd o.key, sd o.val, sd o.to, iw o.lim] 44)).alloc (.cells RZ 41))
 rw [hW1] at X0
 have ob := X0.bx (b := w.heap.size) (cs := #[iw o.k, sd o.key, sd o.val, sd o.to, iw o.lim]) (ty := 44) (by simp)
 have o0 : W1.cell? ⟨w.heap.size, 0, none⟩ = some (iw o.k) := block_cell ob rfl
 have o1 : W1.cell? ⟨w.heap.size, 1, none⟩ = some (sd o.key) := block_cell ob rfl
 have o2 : W1.cell? ⟨w.heap.size, 2, none⟩ = some (sd o.val) := block_cell ob rfl
 have o3 : W1.cell? ⟨w.heap.size, 3, none⟩ = some (sd o.to) := block_cell ob rfl
 have o4 : W1.cell? ⟨w.heap.size, 4, none⟩ = some (iw o.lim) := block_cell ob rfl
 have p7 : W1.cell? ⟨f.sb, 7, none⟩ = some .nilFunc := block_cell X0.sc.blk (by simp [sbA, vsV, hi])
 have eN := neqN W1
 have p6 : W1.cell? ⟨f.sb, 6, none⟩ = some (pz f.tb) := block_cell X0.sc.blk (by simp [sbA, vtV, ha])
 have hb1 : (o.k == 1) = false := by rw [hk]; rfl
 have hb2 : (o.k == 2) = false := by rw [hk]; rfl
 have hb3 : (o.k == 3) = true := by rw [hk]; rfl
 have HC := gh (hc _ W1 X0.sc X0.nok) X0
 clear h hn X0 ob hc hi ha hk
 go_enter Tryz.func11, Tryz.ntmps11
 go_wp2_with fail
 refine (HC.out (by trivial)).mono ?_
 rintro e w2 ⟨rfl, f', x2, hsb, hbd⟩
 have X2' : Hid _ := x2
 have HF : Hid _ := And.intro hsb hbd
 clear x2 hsb hbd HC p7 p6 o0 o1 o2 o3 o4 hW1
 unfold rsV
 go_wp2_with (refine sr X2'.out ?_)
 refine bj X2'.out ?_
 exact ej X2'.out HF.out
theorem do11_4 (h : SC f N X w) (hn : Nok N f X.act w) (ph : Nat) (o : Op) (hi : X.op.k = 0) (ha : X.act = true) (hk : o.k = 4) (X2 : Ss) (r2 : Rs) (hc : ∀ N' W, SC f N' X W → Nok N' f X.act W → Calls Tryz.prog 32 #[pz f.sb, .agg #[sd o.key, sd o.val, .bool false]] W (Got f N' X W X2 r2)) : Calls Tryz.prog 11 #[pz f.sb, uw ph, .agg #[iw o.k, sd o.key, sd o.val, sd o.to, iw o.lim]] w (Got f N X w X2 r2) := by
 have X0 := (Cx.start (Lo := []) h hn nb).box11 #[iw o.k, sd o.key, sd o.val, sd o.to, iw o.lim] 44 RZ 41
 obtain ⟨W1, hW1⟩ := xj ((w.alloc (.cells #[iw o.k, sd o.key, sd o.val, sd o.to, iw o.lim] 44)).alloc (.cells RZ 41))
 rw [hW1] at X0
 have ob := X0.bx (b := w.heap.size) (cs := #[iw o.k, sd o.key, sd o.val, sd o.to, iw o.lim]) (ty := 44) (by simp)
 have o0 : W1.cell? ⟨w.heap.size, 0, none⟩ = some (iw o.k) := block_cell ob rfl
 have o1 : W1.cell? ⟨w.heap.size, 1, none⟩ = some (sd o.key) := block_cell ob rfl
 have o2 : W1.cell? ⟨w.heap.size, 2, none⟩ = some (sd o.val) := block_cell ob rfl
 have o3 : W1.cell? ⟨w.heap.size, 3, none⟩ = some (sd o.to) := block_cell ob rfl
 have o4 : W1.cell? ⟨w.heap.size, 4, none⟩ = some (iw o.lim) := block_cell ob rfl
 have p7 : W1.cell? ⟨f.sb, 7, none⟩ = some .nilFunc := block_cell X0.sc.blk (by simp [sbA, vsV, hi])
 have eN := neqN W1
 have p6 : W1.cell? ⟨f.sb, 6, none⟩ = some (pz f.tb) := block_cell X0.sc.blk (by simp [sbA, vtV, ha])
 have hb1 : (o.k == 1) = false := by rw [hk]; rfl
 have hb2 : (o.k == 2) = false := by rw [hk]; rfl
 have hb3 : (o.k == 3) = false := by rw [hk]; rfl
 have hb4 : (o.k == 4) = true := by rw [hk]; rfl
 have HC := gh (hc _ W1 X0.sc X0.nok) X0
 clear h hn X0 ob hc hi ha hk
 go_enter Tryz.func11, Tryz.ntmps11
 go_wp2_with fail
 refine (HC.out (by trivial)).mono ?_
 rintro e w2 ⟨rfl, f', x2, hsb, hbd⟩
 have X2' : Hid _ := x2
 have HF : Hid _ := And.intro hsb hbd
 clear x2 hsb hbd HC p7 p6 o0 o1 o2 o3 o4 hW1
 unfold rsV
 go_wp2_with (refine sr X2'.out ?_)
 refine bj X2'.out ?_
 exact ej X2'.out HF.out
theorem do11_5 (h : SC f N X w) (hn : Nok N f X.act w) (ph : Nat) (o : Op) (hi : X.op.k = 0) (ha : X.act = true) (hk : o.k = 5) (X2 : Ss) (r2 : Rs) (hc : ∀ N' W, SC f N' X W → Nok N' f X.act W → Calls Tryz.prog 32 #[pz f.sb, .agg #[sd o.key, su, .bool true]] W (Got f N' X W X2 r2)) : Calls Tryz.prog 11 #[pz f.sb, uw ph, .agg #[iw o.k, sd o.key, sd o.val, sd o.to, iw o.lim]] w (Got f N X w X2 r2) := by
 have X0 := (Cx.start (Lo := []) h hn nb).box11 #[iw o.k, sd o.key, sd o.val, sd o.to, iw o.lim] 44 RZ 41
 obtain ⟨W1, hW1⟩ := xj ((w.alloc (.cells #[iw o.k, sd o.key, sd o.val, sd o.to, iw o.lim] 44)).alloc (.cells RZ 41))
 rw [hW1] at X0
 have ob := X0.bx (b := w.heap.size) (cs := #[iw o.k, sd o.key, sd o.val, sd o.to, iw o.lim]) (ty := 44) (by simp)
 have o0 : W1.cell? ⟨w.heap.size, 0, none⟩ = some (iw o.k) := block_cell ob rfl
 have o1 : W1.cell? ⟨w.heap.size, 1, none⟩ = some (sd o.key) := block_cell ob rfl
 have o2 : W1.cell? ⟨w.heap.size, 2, none⟩ = some (sd o.val) := block_cell ob rfl
 have o3 : W1.cell? ⟨w.heap.size, 3, none⟩ = some (sd o.to) := block_cell ob rfl
 have o4 : W1.cell? ⟨w.heap.size, 4, none⟩ = some (iw o.lim) := block_cell ob rfl
 have p7 : W1.cell? ⟨f.sb, 7, none⟩ = some .nilFunc := block_cell X0.sc.blk (by simp [sbA, vsV, hi])
 have eN := neqN W1
 have p6 : W1.cell? ⟨f.sb, 6, none⟩ = some (pz f.tb) := block_cell X0.sc.blk (by simp [sbA, vtV, ha])
 have hb1 : (o.k == 1) = false := by rw [hk]; rfl
 have hb2 : (o.k == 2) = false := by rw [hk]; rfl
 have hb3 : (o.k == 3) = false := by rw [hk]; rfl
 have hb4 : (o.k == 4) = false := by rw [hk]; rfl
 have hb5 : (o.k == 5) = true := by rw [hk]; rfl
 have HC := gh (hc _ W1 X0.sc X0.nok) X0
 clear h hn X0 ob hc hi ha hk
 go_enter Tryz.func11, Tryz.ntmps11
 go_wp2_with fail
 refine (HC.out (by trivial)).mono ?_
 rintro e w2 ⟨rfl, f', x2, hsb, hbd⟩
 have X2' : Hid _ := x2
 have HF : Hid _ := And.intro hsb hbd
 clear x2 hsb hbd HC p7 p6 o0 o1 o2 o3 o4 hW1
 unfold rsV
 go_wp2_with (refine sr X2'.out ?_)
 refine bj X2'.out ?_
 exact ej X2'.out HF.out
theorem do11_6 (h : SC f N X w) (hn : Nok N f X.act w) (ph : Nat) (o : Op) (hi : X.op.k = 0) (ha : X.act = true) (hk : o.k = 6) (X2 : Ss) (r2 : Rs) (hc : ∀ N' W, SC f N' X W → Nok N' f X.act W → Calls Tryz.prog 33 #[pz f.sb] W (Got f N' X W X2 r2)) : Calls Tryz.prog 11 #[pz f.sb, uw ph, .agg #[iw o.k, sd o.key, sd o.val, sd o.to, iw o.lim]] w (Got f N X w X2 r2) := by
 have X0 := (Cx.start (Lo := []) h hn nb).box11 #[iw o.k, sd o.key, sd o.val, sd o.to, iw o.lim] 44 RZ 41
 obtain ⟨W1, hW1⟩ := xj ((w.alloc (.cells #[iw o.k, sd o.key, sd o.val, sd o.to, iw o.lim] 44)).alloc (.cells RZ 41))
 rw [hW1] at X0
 have ob := X0.bx (b := w.heap.size) (cs := #[iw o.k, sd o.key, sd o.val, sd o.to, iw o.lim]) (ty := 44) (by simp)
 have o0 : W1.cell? ⟨w.heap.size, 0, none⟩ = some (iw o.k) := block_cell ob rfl
 have o1 : W1.cell? ⟨w.heap.size, 1, none⟩ = some (sd o.key) := block_cell ob rfl
 have o2 : W1.cell? ⟨w.heap.size, 2, none⟩ = some (sd o.val) := block_cell ob rfl
 have o3 : W1.cell? ⟨w.heap.size, 3, none⟩ = some (sd o.to) := block_cell ob rfl
 have o4 : W1.cell? ⟨w.heap.size, 4, none⟩ = some (iw o.lim) := block_cell ob rfl
 have p7 : W1.cell? ⟨f.sb, 7, none⟩ = some .nilFunc := block_cell X0.sc.blk (by simp [sbA, vsV, hi])
 have eN := neqN W1
 have p6 : W1.cell? ⟨f.sb, 6, none⟩ = some (pz f.tb) := block_cell X0.sc.blk (by simp [sbA, vtV, ha])
 have hb1 : (o.k == 1) = false := by rw [hk]; rfl
 have hb2 : (o.k == 2) = false := by rw [hk]; rfl
 have hb3 : (o.k == 3) = false := by rw [hk]; rfl
 have hb4 : (o.k == 4) = false := by rw [hk]; rfl
 have hb5 : (o.k == 5) = false := by rw [hk]; rfl
 have hb6 : (o.k == 6) = true := by rw [hk]; rfl
 have HC := gh (hc _ W1 X0.sc X0.nok) X0
 clear h hn X0 ob hc hi ha hk
 go_enter Tryz.func11, Tryz.ntmps11
 go_wp2_with fail
 refine (HC.out (by trivial)).mono ?_
 rintro e w2 ⟨rfl, f', x2, hsb, hbd⟩
 have X2' : Hid _ := x2
 have HF : Hid _ := And.intro hsb hbd
 clear x2 hsb hbd HC p7 p6 o0 o1 o2 o3 o4 hW1
 unfold rsV
 go_wp2_with (refine sr X2'.out ?_)
 refine bj X2'.out ?_
 exact ej X2'.out HF.out
theorem do11_7 (h : SC f N X w) (hn : Nok N f X.act w) (ph : Nat) (o : Op) (hi : X.op.k = 0) (ha : X.act = true) (hk : o.k = 7) (X2 : Ss) (r2 : Rs) (hc : ∀ N' W, SC f N' X W → Nok N' f X.act W → Calls Tryz.prog 34 #[pz f.sb] W (Got f N' X W X2 r2)) : Calls Tryz.prog 11 #[pz f.sb, uw ph, .agg #[iw o.k, sd o.key, sd o.val, sd o.to, iw o.lim]] w (Got f N X w X2 r2) := by
 have X0 := (Cx.start (Lo := []) h hn nb).box11 #[iw o.k, sd o.key, sd o.val, sd o.to, iw o.lim] 44 RZ 41
 obtain ⟨W1, hW1⟩ := xj ((w.alloc (.cells #[iw o.k, sd o.key, sd o.val, sd o.to, iw o.lim] 44)).alloc (.cells RZ 41))
 rw [hW1] at X0
 have ob := X0.bx (b := w.heap.size) (cs := #[iw o.k, sd o.key, sd o.val, sd o.to, iw o.lim]) (ty := 44) (by simp)
 have o0 : W1.cell? ⟨w.heap.size, 0, none⟩ = some (iw o.k) := block_cell ob rfl
 have o1 : W1.cell? ⟨w.heap.size, 1, none⟩ = some (sd o.key) := block_cell ob rfl
 have o2 : W1.cell? ⟨w.heap.size, 2, none⟩ = some (sd o.val) := block_cell ob rfl
 have o3 : W1.cell? ⟨w.heap.size, 3, none⟩ = some (sd o.to) := block_cell ob rfl
 have o4 : W1.cell? ⟨w.heap.size, 4, none⟩ = some (iw o.lim) := block_cell ob rfl
 have p7 : W1.cell? ⟨f.sb, 7, none⟩ = some .nilFunc := block_cell X0.sc.blk (by simp [sbA, vsV, hi])
 have eN := neqN W1
 have p6 : W1.cell? ⟨f.sb, 6, none⟩ = some (pz f.tb) := block_cell X0.sc.blk (by simp [sbA, vtV, ha])
 have hb1 : (o.k == 1) = false := by rw [hk]; rfl
 have hb2 : (o.k == 2) = false := by rw [hk]; rfl
 have hb3 : (o.k == 3) = false := by rw [hk]; rfl
 have hb4 : (o.k == 4) = false := by rw [hk]; rfl
 have hb5 : (o.k == 5) = false := by rw [hk]; rfl
 have hb6 : (o.k == 6) = false := by rw [hk]; rfl
 have hb7 : (o.k == 7) = true := by rw [hk]; rfl
 have HC := gh (hc _ W1 X0.sc X0.nok) X0
 clear h hn X0 ob hc hi ha hk
 go_enter Tryz.func11, Tryz.ntmps11
 go_wp2_with fail
 refine (HC.out (by trivial)).mono ?_
 rintro e w2 ⟨rfl, f', x2, hsb, hbd⟩
 have X2' : Hid _ := x2
 have HF : Hid _ := And.intro hsb hbd
 clear x2 hsb hbd HC p7 p6 o0 o1 o2 o3 o4 hW1
 unfold rsV
 go_wp2_with (refine sr X2'.out ?_)
 refine bj X2'.out ?_
 exact ej X2'.out HF.out
theorem do11_bad (h : SC f N X w) (hn : Nok N f X.act w) (ph : Nat) (o : Op) (hi : X.op.k = 0) (ha : X.act = true) (hk : o.k < 1 ∨ 7 < o.k) (X2 : Ss) (r2 : Rs) (hc : ∀ N' W, SC f N' X W → Nok N' f X.act W → Calls Tryz.prog 28 #[pz f.sb, iw 1] W (Got f N' X W X2 r2)) : Calls Tryz.prog 11 #[pz f.sb, uw ph, .agg #[iw o.k, sd o.key, sd o.val, sd o.to, iw o.lim]] w (Got f N X w X2 r2) := by
 have X0 := (Cx.start (Lo := []) h hn nb).box11 #[iw o.k, sd o.key, sd o.val, sd o.to, iw o.lim] 44 RZ 41
 obtain ⟨W1, hW1⟩ := xj ((w.alloc (.cells #[iw o.k, sd o.key, sd o.val, sd o.to, iw o.lim] 44)).alloc (.cells RZ 41))
 rw [hW1] at X0
 have ob := X0.bx (b := w.heap.size) (cs := #[iw o.k, sd o.key, sd o.val, sd o.to, iw o.lim]) (ty := 44) (by simp)
 have o0 : W1.cell? ⟨w.heap.size, 0, none⟩ = some (iw o.k) := block_cell ob rfl
 have o1 : W1.cell? ⟨w.heap.size, 1, none⟩ = some (sd o.key) := block_cell ob rfl
 have o2 : W1.cell? ⟨w.heap.size, 2, none⟩ = some (sd o.val) := block_cell ob rfl
 have o3 : W1.cell? ⟨w.heap.size, 3, none⟩ = some (sd o.to) := block_cell ob rfl
 have o4 : W1.cell? ⟨w.heap.size, 4, none⟩ = some (iw o.lim) := block_cell ob rfl
 have p7 : W1.cell? ⟨f.sb, 7, none⟩ = some .nilFunc := block_cell X0.sc.blk (by simp [sbA, vsV, hi])
 have eN := neqN W1
 have p6 : W1.cell? ⟨f.sb, 6, none⟩ = some (pz f.tb) := block_cell X0.sc.blk (by simp [sbA, vtV, ha])
 have hb1 : (o.k == 1) = false := by simp; omega
 have hb2 : (o.k == 2) = false := by simp; omega
 have hb3 : (o.k == 3) = false := by simp; omega
 have hb4 : (o.k == 4) = false := by simp; omega
 have hb5 : (o.k == 5) = false := by simp; omega
 have hb6 : (o.k == 6) = false := by simp; omega
 have hb7 : (o.k == 7) = false := by simp; omega
 have HC := gh (hc _ W1 X0.sc X0.nok) X0
 clear h hn X0 ob hc hi ha hk
 go_enter Tryz.func11, Tryz.ntmps11
 go_wp2_with fail
 refine (HC.out (by trivial)).mono ?_
 rintro e w2 ⟨rfl, f', x2, hsb, hbd⟩
 have X2' : Hid _ := x2
 have HF : Hid _ := And.intro hsb hbd
 clear x2 hsb hbd HC p7 p6 o0 o1 o2 o3 o4 hW1
 unfold rsV
 go_wp2_with (refine sr X2'.out ?_)
 refine bj X2'.out ?_
 exact ej X2'.out HF.out
theorem scan_snoc (s0 : Ss) (o : Op) : ∀ (m i : Nat) (s : Ss), scanAsks s0 o (m + 1) i s = askF (scanAsks s0 o m i s) (akF (i + m) (Rq.wt { zQ with k := 2, c := s0.cl, n := s0.n, sp := s0.sp, sl := s0.sl, key := o.key, lim := 32 } o.to))
 | 0, i, s => rfl
 | m + 1, i, s => by
  rw [scanAsks, scan_snoc s0 o m (i + 1), scanAsks, show i + 1 + m = i + (m + 1) by omega]
theorem scan_keep (s0 : Ss) (o : Op) : ∀ (m i : Nat) (s : Ss), (scanAsks s0 o m i s).act = s.act ∧ (scanAsks s0 o m i s).sq = s.sq + m ∧ (scanAsks s0 o m i s).nsh = s.nsh ∧ (scanAsks s0 o m i s).op = s.op ∧ (scanAsks s0 o m i s).left = s.left ∧ (scanAsks s0 o m i s).stg = s.stg
 | 0, i, s => ⟨rfl, rfl, rfl, rfl, rfl, rfl⟩
 | m + 1, i, s => by
  obtain ⟨h1, h2, h3, h4, h5, h6⟩ := scan_keep s0 o m i s
  rw [scan_snoc]
  exact ⟨h1, by show _ + 1 = _; rw [h2]; omega, h3, h4, h5, h6⟩
theorem SC.scan {Y : Ss} (h : SC f N Y W) (hc : ∀ a ∈ Y.asks, a.ch = true) (bx bl bo : Nat) (hb : Below W.heap.size W W') (h1 : W'.heap[bx]? = some (.cells #[sy] 39 (0, 0))) (h2 : W'.heap[bl]? = some (.cells #[iw (Y.nsh : Int)] 3 (0, 0))) (s1 : W.heap.size ≤ bx) (s2 : W.heap.size ≤ bl) (h3 : Fx (f.Ex N Y.act) W bo #[iw Y.op.k, sd Y.op.key, sd Y.op.val, sd Y.op.to, iw Y.op.lim] 44) : SC { f with ok := 1, xb := bx, lb := bl, ob := bo, oq := Y.op, lv := (Y.nsh : Int), vp := sy } N { Y with ps := [], left := (Y.nsh : Int) } W' ∧ ∀ i, i < W.heap.size → ({ f with ok := 1, xb := bx, lb := bl, ob := bo, oq := Y.op, lv := (Y.nsh : Int), vp := sy } : Fo).In Y.act i → f.In Y.act i := by
 have B : ∀ {b : Nat} {o : Obj}, W.heap[b]? = some o → W'.heap[b]? = some o := fun {b o} e => by rw [hb.block b (lt_blk e)]; exact e
 have hin : ∀ i, i < W.heap.size → ({ f with ok := 1, xb := bx, lb := bl, ob := bo, oq := Y.op, lv := (Y.nsh : Int), vp := sy } : Fo).In Y.act i → f.In Y.act i := fun i hi e => by
  rcases e with e | e | e | e | ⟨-, e | e | e⟩ | e
  ·exact .inl e
  ·exact .inr (.inl e)
  ·exact .inr (.inr (.inl e))
  ·exact .inr (.inr (.inr (.inl e)))
  ·exact absurd hi (by rw [show i = bx from e]; omega)
  ·exact absurd hi (by rw [show i = bl from e]; omega)
  ·cases e
  ·exact .inr (.inr (.inr (.inr (.inr e))))
 have s : Stay (fun _ => False) (f.Ex N Y.act) (({ f with ok := 1, xb := bx, lb := bl, ob := bo, oq := Y.op, lv := (Y.nsh : Int), vp := sy } : Fo).Ex N Y.act) W W' := ⟨Kept.of_below hb, fun _ e => e.elim, fun k hk e => e.elim .inl (fun e => .inr (hin k hk e))⟩
 refine ⟨⟨B h.blk, fun a => ⟨B (h.tx a).1, own_on (h.tx a).2 hb⟩, own_on h.ra hb, own_on h.ro hb, h.ea, h.eo, ⟨fun _ => h2, fun _ => ⟨h1, own_nil _ _ _ _, h3.stay s⟩, (fun e => by cases e), Nat.le_succ 1⟩, fun n a => B (h.gb n a), fun n a => ⟨fun _ e => absurd (lt_blk (h.gb n a)) (by rw [show f.gl n = bl from e]; omega), (h.gd n a).2⟩, fun x hx => ?_, fun x hx => ⟨(h.lk x hx).1.stay s, (h.lk x hx).2⟩⟩, hin⟩
 have hch : x.a.ch = true := hc _ (by rw [h.ea]; exact List.mem_map_of_mem hx)
 have k := h.ak x hx
 refine ⟨k.q.stay s, k.one, (fun e => by rw [hch] at e; cases e), (fun e => by rw [hch] at e; cases e), (fun e => by rw [hch] at e; cases e), (fun e => by rw [hch] at e; cases e), (fun e => by rw [hch] at e; cases e), fun e1 e2 => ?_, k.c0⟩
 obtain ⟨bf, b1, b2, b3, g1, g2, g3, g4, g5, g6⟩ := k.c5 e1 e2
 exact ⟨bf, b1, b2, b3, g1, g2, g3.stay s, g4.stay s, g5.stay s, g6.stay s⟩
theorem Cx.scan {Y : Ss} {Lo Lm : List Bo} (c : Cx M N w f Y Lo Lm W) (hc : ∀ a ∈ Y.asks, a.ch = true) (bx bl bo : Nat) (hb : Below W.heap.size W W') (h1 : W'.heap[bx]? = some (.cells #[sy] 39 (0, 0))) (h2 : W'.heap[bl]? = some (.cells #[iw (Y.nsh : Int)] 3 (0, 0))) (s1 : W.heap.size ≤ bx) (s2 : W.heap.size ≤ bl) (h3 : (bo, #[iw Y.op.k, sd Y.op.key, sd Y.op.val, sd Y.op.to, iw Y.op.lim], 44) ∈ Lo) : Cx M N w { f with ok := 1, xb := bx, lb := bl, ob := bo, oq := Y.op, lv := (Y.nsh : Int), vp := sy } { Y with ps := [], left := (Y.nsh : Int) } Lo Lm W' := by
 obtain ⟨k1, k2⟩ := c.sc.scan hc bx bl bo hb h1 h2 s1 s2 (c.fx h3)
 have hin : ∀ i, ({ f with ok := 1, xb := bx, lb := bl, ob := bo, oq := Y.op, lv := (Y.nsh : Int), vp := sy } : Fo).In Y.act i → f.In Y.act i ∨ W.heap.size ≤ i := fun i hi => by
  by_cases e : i < W.heap.size
  ·exact .inl (k2 i e hi)
  ·exact .inr (by omega)
 refine ⟨k1, fun i hi => (hin i hi).elim (c.sub i) (fun e => .inr (Nat.le_trans c.kp.size e)), c.kp.trans (Kept.of_below (F := M) hb) (fun i e => .inl e), fun p hp => ⟨by rw [hb.block _ (lt_blk (c.has p hp).1)]; exact (c.has p hp).1, fun e => (c.has p hp).2.1 (k2 _ (lt_blk (c.has p hp).1) e), (c.has p hp).2.2⟩, fun p hp => ⟨by rw [hb.block _ (lt_blk (c.hasm p hp).1)]; exact (c.hasm p hp).1, fun e => (c.hasm p hp).2.1 (k2 _ (lt_blk (c.hasm p hp).1) e), (c.hasm p hp).2.2⟩, c.nl⟩
theorem scan31a (u : Un f N X 9 w) (o : Op) (hl : 32 < o.key.length ∨ 32 < o.to.length) : Calls Tryz.prog 31 #[pz f.sb, .agg #[iw o.k, sd o.key, sd o.val, sd o.to, iw o.lim]] w (Got f N X w X (badF X 1)) := by
 have X0 := (Cx.start (Lo := []) u.sc u.nk nb).box21 #[pz f.sb] 24 #[iw o.k, sd o.key, sd o.val, sd o.to, iw o.lim] 44 RZ 41
 obtain ⟨W1, hW1⟩ := xj (((w.alloc (.cells #[pz f.sb] 24)).alloc (.cells #[iw o.k, sd o.key, sd o.val, sd o.to, iw o.lim] 44)).alloc (.cells RZ 41))
 rw [hW1] at X0
 have c1 : W1.cell? ⟨w.heap.size, 0, none⟩ = some (pz f.sb) := X0.bc
 have ob := X0.bx (b := w.heap.size + 1) (cs := #[iw o.k, sd o.key, sd o.val, sd o.to, iw o.lim]) (ty := 44) (by simp)
 have o1 : W1.cell? ⟨w.heap.size + 1, 1, none⟩ = some (sd o.key) := block_cell ob rfl
 have o3 : W1.cell? ⟨w.heap.size + 1, 3, none⟩ = some (sd o.to) := block_cell ob rfl
 have C2 : Hid (1 = 1 → Calls Tryz.prog 28 #[pz f.sb, iw 1] W1 fun r w' => r = .returned (rsV (badF X 1)) ∧ Cx (f.In X.act) N w f X [(w.heap.size + 1, #[iw o.k, sd o.key, sd o.val, sd o.to, iw o.lim], 44), (w.heap.size, #[pz f.sb], 24)] [(w.heap.size + 2, RZ, 41)] w') := fun _ => (refuse28 1 X0.sc).mono fun e w' ⟨h1, h2⟩ => ⟨h1, X0.on h2⟩
 have HBd : Hid (Bd f X) := u.bd
 have zk := bs_size o.key
 have zt := bs_size o.to
 clear u X0 ob
 by_cases h1 : 32 < o.key.length
 ·have h1i : (32 : Int) < (o.key.length : Int) := by omega
  clear hl
  go_enter Tryz.func31, Tryz.ntmps31
  go_wp2_with fail
  refine (C2.out (by trivial)).mono ?_
  rintro r w3 ⟨rfl, h3⟩
  have X3 : Hid _ := h3
  clear h3 C2 c1 o1 o3 hW1
  unfold rsV
  go_wp2_with (refine sr X3.out ?_)
  refine bj X3.out ?_
  exact ⟨rfl, _, (X3.out.poke (setRow_kept _ _ _) (setRow_at (X3.out.bm mc)) nb).to, rfl, HBd.out⟩
 ·have h1i : ¬ (32 : Int) < (o.key.length : Int) := by omega
  have h2i : (32 : Int) < (o.to.length : Int) := by omega
  clear hl
  go_enter Tryz.func31, Tryz.ntmps31
  go_wp2_with fail
  refine (C2.out (by trivial)).mono ?_
  rintro r w3 ⟨rfl, h3⟩
  have X3 : Hid _ := h3
  clear h3 C2 c1 o1 o3 hW1
  unfold rsV
  go_wp2_with (refine sr X3.out ?_)
  refine bj X3.out ?_
  exact ⟨rfl, _, (X3.out.poke (setRow_kept _ _ _) (setRow_at (X3.out.bm mc)) nb).to, rfl, HBd.out⟩
end Go.Proofs.YtkdkgdollmmcnaaGreat
