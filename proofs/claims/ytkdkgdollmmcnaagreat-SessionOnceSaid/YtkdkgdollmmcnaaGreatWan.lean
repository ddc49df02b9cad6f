import Derived.Laws.EntriesVeiled
import Derived.Test.YtkdkgdollmmcnaaGreatWam
import Derived.Test.YtkdkgdollmmcnaaGreatWal
set_option maxHeartbeats 4000000
set_option maxRecDepth 100000
set_option linter.unusedVariables false
set_option linter.unusedSimpArgs false
namespace Go.Proofs.YtkdkgdollmmcnaaGreat
open Go.RowKit Go.Sort Go.Shelf
variable {M M' G N : Nat → Prop} {W W' w : World} {f f' : Fo} {X X' : Ss}
def dax : Ax := ⟨akF 0 zQ, .nilFunc, .nilFunc, .nilFunc⟩
theorem axc_one (cl : Nat) (x : Ax) (h1 : x.vw.oneCell' = true) (h2 : x.vs.oneCell' = true) (h3 : x.fv.oneCell' = true) : ∀ u ∈ axc cl x, u.oneCell' = true := fun u hu => by
 simp only [axc, lec, List.mem_append, List.mem_cons, List.not_mem_nil, or_false] at hu
 rcases hu with (hu | hu | hu | hu | hu | hu) | hu | hu
 all_goals first | (subst hu; first | rfl | exact h3) | exact rqc_one h1 h2 u hu | skip
 simp only [zrc, List.mem_cons, List.not_mem_nil, or_false] at hu
 rcases hu with rfl | rfl | rfl | rfl | rfl | rfl | rfl | rfl | rfl | rfl | rfl | rfl | rfl | rfl <;> rfl
def okA (x : Ax) : Bool := x.vw.oneCell' && x.vs.oneCell' && x.fv.oneCell'
def axd (cl : Nat) (x : Ax) : List Value := if okA x then axc cl x else axc cl dax
theorem axd_len (cl : Nat) (x : Ax) : (axd cl x).length = 33 := by unfold axd; split <;> rfl
theorem axd_one (cl : Nat) (x : Ax) : ∀ u ∈ axd cl x, u.oneCell' = true := by
 unfold axd
 split
 ·rename_i h
  simp only [okA, Bool.and_eq_true] at h
  exact axc_one cl x h.1.1 h.1.2 h.2
 ·exact axc_one cl dax rfl rfl rfl
theorem row_axd {cl : Nat} {L : List Ax} (h : ∀ x ∈ L, okA x = true) : rowC (axd cl) L = rowC (axc cl) L := by
 unfold rowC
 induction L with
 | nil => rfl
 | cons a r ih =>
  rw [List.flatMap_cons, List.flatMap_cons, ih (fun x hx => h x (List.mem_cons_of_mem _ hx))]
  congr 1
  unfold axd
  rw [if_pos (h a mc)]
theorem SC.okA (h : SC f N X w) : ∀ x ∈ f.la, okA x = true := fun x hx => by
 have := (h.ak x hx).one
 unfold Go.Proofs.YtkdkgdollmmcnaaGreat.okA
 rw [this.1, this.2.1, this.2.2]
 rfl
theorem isop120 (cl : Nat) (x : Ax) (w : World) : Calls Tryz.prog 120 (#[.agg (axd cl x).toArray] ++ #[]) w fun e w' => e = .returned (.bool (if okA x then !x.a.ch else true)) ∧ Below w.heap.size w w' := by
 obtain ⟨z, hz⟩ := xj (axd cl x).toArray
 have h31 : z[31]? = some (.bool (if okA x then x.a.ch else false)) := by
  rw [← hz]
  unfold axd
  split <;> rfl
 have HV : Hid ((if okA x then !x.a.ch else true) = !(if okA x then x.a.ch else false)) := by show _ = _; split <;> rfl
 rw [HV.out, hz]
 generalize (if okA x then x.a.ch else false) = c at *
 have HX : Hid ((w.alloc (.cells z 99)).heap[w.heap.size]? = some (.cells z 99 (0, 0))) := heap_alloc_new w _
 have p31 : (w.alloc (.cells z 99)).cell? ⟨w.heap.size, 31, none⟩ = some (.bool c) := block_cell HX.out h31
 have HB : Hid (Below w.heap.size w (w.alloc (.cells z 99))) := al _
 clear hz h31 HX HV
 show Calls Tryz.prog 120 #[.agg z] w _
 go_enter Tryz.func120, Tryz.ntmps120
 go_wp2_with fail
 go_ret
 exact ⟨rfl, HB.out⟩
theorem ent120 : ∀ args w, (callFunc 120 args).run Tryz.prog w = .ok (.enter 120 args) w := enters_of Tryz.func120 (by kernel_rfl) rfl
def Fo.drop (f : Fo) (va : Value) : Fo := { f with va := va, la := f.la.filter fun x => x.a.ch }
theorem settle83 (h : SC f N X w) : Calls Tryz.prog 83 #[pz f.sb] w fun e w' => e = .returned (.tuple #[]) ∧ ∃ va, To f N X.act w (f.drop va) (dropF X) w' := by
 have hok := h.okA
 have hfe : (f.la.filter fun x => !(if okA x then !x.a.ch else true)) = f.la.filter fun x => x.a.ch := by
  apply List.filter_congr
  intro x hx
  rw [hok x hx]
  simp
 have hblk := h.blk
 have hlen : f.la.length ≤ 9223372036854775807 := by
  obtain ⟨ao, cap, e, -, h1, h2, -⟩ := rw_own h.ra
  omega
 have W1b : Hid ((w.setCell ⟨f.sb, 7, none⟩ .nilFunc).heap[f.sb]? = some (.cells (sbA f (dropF X)) 77 (0, 0))) := by
  show _ = _
  rw [block_set _ hblk]
  simp [sbA, dropF, vsV, zO]
 have K1 : Hid (Kept (fun k => k = f.sb) w (w.setCell ⟨f.sb, 7, none⟩ .nilFunc)) := set_kept' w f.sb 7 .nilFunc
 have R1 : Hid ((w.setCell ⟨f.sb, 7, none⟩ .nilFunc).ownsRow 0 99 33 f.va f.la.length (rowC (axd X.cl) f.la)) := by
  rw [row_axd hok]
  exact own_kept h.ra K1.out fun k hv e => by
   subst e
   exact own_ne h.ra h.blk (by decide) hv
 have p7 : w.cell? ⟨f.sb, 7, none⟩ = some (vsV f.sb X.op.k X.stg) := block_cell hblk rfl
 have g7 : w.frozen? ⟨f.sb, 7, none⟩ = false := block_frozen hblk 7
 obtain ⟨W1, hW1⟩ := xj (w.setCell ⟨f.sb, 7, none⟩ .nilFunc)
 rw [hW1] at W1b K1 R1
 have C : Hid (1 = 1 → Calls Tryz.prog 119 #[f.va, .func (.func 120) #[] #[]] W1 fun e w' => ∃ v', e = .returned v' ∧ w'.ownsRow 0 99 33 v' (f.la.filter fun x => x.a.ch).length (rowC (axc X.cl) (f.la.filter fun x => x.a.ch)) ∧ v'.ownBlock = f.va.ownBlock ∧ Kept (fun k => f.va.ownBlock = some k) W1 w') := fun _ => by
  have c := delf119 (axd X.cl) (axd_len X.cl) (axd_one X.cl) dax 120 #[] (fun x => if okA x then !x.a.ch else true) 0 f.la f.va W1 R1.out ent120 (fun x W _ => isop120 X.cl x W)
  rw [hfe, row_axd (fun x hx => hok x (List.mem_filter.1 hx).1)] at c
  exact c
 have p8 : W1.cell? ⟨f.sb, 8, none⟩ = some f.va := block_cell W1b.out rfl
 have hva : ∃ ao n cap, f.va = .slice ao n cap := by
  obtain ⟨ao, cap, e, -⟩ := rw_own h.ra
  exact ⟨ao, _, cap, e⟩
 have FIN : Hid (∀ (w2 : World) (v' : Value), w2.ownsRow 0 99 33 v' (f.la.filter fun x => x.a.ch).length (rowC (axc X.cl) (f.la.filter fun x => x.a.ch)) → v'.ownBlock = f.va.ownBlock → Kept (fun k => f.va.ownBlock = some k) W1 w2 → w2.cell? ⟨f.sb, 8, none⟩ = some f.va ∧ w2.frozen? ⟨f.sb, 8, none⟩ = false ∧ To f N X.act w (f.drop v') (dropF X) (w2.setCell ⟨f.sb, 8, none⟩ v')) := fun w2 v' h2 h3 h4 => by
  have hne : f.va.ownBlock ≠ some f.sb := own_ne R1.out W1b.out (by decide)
  have b2 : w2.heap[f.sb]? = some (.cells (sbA f (dropF X)) 77 (0, 0)) := by rw [h4.block _ (lt_blk W1b.out) hne]; exact W1b.out
  refine ⟨block_cell b2 rfl, block_frozen b2 8, ?_⟩
  have k3 := set_kept' w2 f.sb 8 v'
  have k0 : Kept (fun k => k = f.sb ∨ f.va.ownBlock = some k) w (w2.setCell ⟨f.sb, 8, none⟩ v') := ((K1.out.mono (G := fun k => k = f.sb ∨ f.va.ownBlock = some k) (fun i e => .inl e)).trans h4 (fun i e => .inl (.inr e))).trans k3 (fun i e => .inl (.inl e))
  have kk : Kept f.Pg w (w2.setCell ⟨f.sb, 8, none⟩ v') := k0.mono (fun i e => e.elim .inl (fun e => .inr (.inl e)))
  refine SC.posted (vo := f.vo) (lo := f.lo) h kk (by rw [block_set _ b2]; rfl) (own_kept h2 k3 fun k hv e => ?_) (own_kept h.ro k0 fun k hv e => ?_) (fun k hv => .inl (by rw [← h3]; exact hv)) (fun k hv => .inl hv) ?_ (fun x hx => .inl (List.mem_filter.1 hx).1) (fun x hx => .inl hx)
  ·subst e
   rw [h3] at hv
   exact hne hv
  ·rcases e with e | e
   ·subst e
    exact own_ne h.ro h.blk (by decide) hv
   ·obtain ⟨c1, e1⟩ := own_blk h.ro hv
    obtain ⟨c2, e2⟩ := own_blk h.ra e
    exact ne_tag e1 e2 (by decide) rfl
  ·simp only [dropF, h.ea, h.eo, List.filter_map]
   rfl
 obtain ⟨ao, n, cap, hva⟩ := hva
 rw [hva] at C p8 FIN
 generalize vsV f.sb X.op.k X.stg = v7 at *
 clear h hok hfe hblk W1b K1 R1 hva
 go_enter Tryz.func83, Tryz.ntmps83
 go_wp2_with fail
 refine (C.out (by trivial)).mono ?_
 rintro e w2 ⟨v', rfl, h2, h3, h4⟩
 obtain ⟨q8, r8, ht⟩ := FIN.out w2 v' h2 h3 h4
 have HT : Hid _ := ht
 obtain ⟨a2, c2, rfl, -⟩ := rw_own h2
 clear h2 h3 h4 ht C FIN hW1 p7 g7 p8
 go_wp2_with fail
 go_end0
 exact ⟨rfl, _, HT.out⟩
def cntA (L : List Ak) (n : Nat) : Nat := (L.filter fun a => a.ch && a.q.k == 5 && a.on == n).length
structure Bd (f : Fo) (X : Ss) : Prop where
 sc : X.op.k = 3 → f.ok = 1 ∧ f.lv = X.left ∧ f.oq = X.op
 co : X.op.k = 6 → X.stg = 1 → f.ok = 2 ∧ f.lv = X.left
 gs : ∀ n ∈ f.gs, f.gv n = (cntA X.asks n : Int)
def Got (f : Fo) (N : Nat → Prop) (X : Ss) (w : World) (X' : Ss) (r : Rs) (e : Ending) (w' : World) : Prop := e = .returned (rsV r) ∧ ∃ f', To f N X.act w f' X' w' ∧ f'.sb = f.sb ∧ Bd f' X'
theorem cnt_drop (L : List Ak) (n : Nat) : cntA (L.filter Ak.ch) n = cntA L n := by
 unfold cntA
 rw [List.filter_filter]
 congr 1
 apply List.filter_congr
 intro a _
 cases a.ch <;> simp
theorem Bd.drop {va : Value} (b : Bd f X) : Bd (f.drop va) (dropF X) :=
 ⟨fun e => by simp [dropF, zO] at e, fun e => by simp [dropF, zO] at e, fun n hn => by rw [show (dropF X).asks = X.asks.filter Ak.ch from rfl, cnt_drop]; exact b.gs n hn⟩
theorem SC.end (h : SC f N X W) (hk : Kept (fun k => k = f.sb) W W') (hb : W'.heap[f.sb]? = some (.cells (sbA f { X with act := false }) 77 (0, 0))) : To f N X.act W f { X with act := false } W' := by
 have hin : ∀ i, f.In false i → f.In X.act i := fun i hi => by
  rcases hi with e | e | e | ⟨e, _⟩ | e | e
  ·exact .inl e
  ·exact .inr (.inl e)
  ·exact .inr (.inr (.inl e))
  ·cases e
  ·exact .inr (.inr (.inr (.inr (.inl e))))
  ·exact .inr (.inr (.inr (.inr (.inr e))))
 have s : Stay (fun k => k = f.sb) (f.Ex N X.act) (f.Ex N false) W W' := ⟨hk, fun k e => .inr (.inl e), fun k _ e => e.elim .inl (fun e => .inr (hin k e))⟩
 have B : ∀ {b : Nat} {cs : Array Value} {ty : TypeId}, W.heap[b]? = some (.cells cs ty (0, 0)) → ty ≠ 77 → W'.heap[b]? = some (.cells cs ty (0, 0)) := fun {b cs ty} e h1 => by rw [hk.block b (lt_blk e) (ne_tag e h.blk h1)]; exact e
 have O : ∀ {base e size : Nat} {v : Value} {n : Nat} {cs : List Value}, W.ownsRow base e size v n cs → e ≠ 77 → W'.ownsRow base e size v n cs := fun h0 h1 => own_kept h0 hk fun k hv e => by
  subst e
  exact own_ne h0 h.blk h1 hv
 refine ⟨⟨hb, (fun a => by cases a), O h.ra (by decide), O h.ro (by decide), h.ea, h.eo, ⟨fun a => B (h.bx.l a) (by decide), fun a => ⟨B (h.bx.p a).1 (by decide), O (h.bx.p a).2.1 (by decide), (h.bx.p a).2.2.stay s⟩, fun a => ⟨B (h.bx.c a).1 (by decide), (h.bx.c a).2⟩, h.bx.le⟩, fun n a => B (h.gb n a) (by decide), h.gd, fun x hx => (h.ak x hx).stay s (SameF.refl f) rfl (fun _ _ => rfl), fun x hx => ⟨(h.lk x hx).1.stay s, (h.lk x hx).2⟩⟩, hk.mono (fun k e => .inl e), fun i hi => .inl (hin i hi)⟩
theorem fail79 (h : SC f N X w) (hn : Nok N f X.act w) (b : Bd f X) (er : Int) : Calls Tryz.prog 79 #[pz f.sb, iw er] w (Got f N X w (failF X er).1 (failF X er).2) := by
 have X0 : Hid (Cx (f.In X.act) N w f X [] [(w.heap.size, RZ, 41)] (w.alloc (.cells RZ 41))) := (Cx.start h hn nb).newm _ _
 obtain ⟨W1, hW1⟩ := xj (w.alloc (.cells RZ 41))
 rw [hW1] at X0
 obtain ⟨rb, hrb⟩ := xj w.heap.size
 rw [hrb] at X0
 have C : Hid (1 = 1 → Calls Tryz.prog 83 #[pz f.sb] W1 fun e w' => e = .returned (.tuple #[]) ∧ ∃ va, Cx (f.In X.act) N w (f.drop va) (dropF X) [] [(rb, RZ, 41)] w') := fun _ => (settle83 X0.out.sc).mono fun e w' ⟨h1, va, h2⟩ => ⟨h1, va, X0.out.next h2⟩
 have HR : Hid ((failF X er).1 = dropF X ∧ (failF X er).2 = badF (dropF X) er) := ⟨rfl, rfl⟩
 rw [HR.out.1, HR.out.2]
 have HBd : Hid (∀ va, Bd (f.drop va) (dropF X)) := fun va => b.drop
 clear h X0 HR b
 go_enter Tryz.func79, Tryz.ntmps79
 go_wp2_with fail
 refine (C.out (by trivial)).mono ?_
 rintro e w2 ⟨rfl, va, h2⟩
 have X2 : Hid _ := h2
 clear h2 C hW1
 have C2 : Hid (1 = 1 → Calls Tryz.prog 74 #[pz f.sb, iw 6, iw er] w2 fun r w' => r = .returned (rsV (badF (dropF X) er)) ∧ Cx (f.In X.act) N w (f.drop va) (dropF X) [] [(rb, RZ, 41)] w') := fun _ => (told74 6 er X2.out.sc).mono fun e w' ⟨h1, h2⟩ => ⟨h1, X2.out.on h2⟩
 clear X2
 go_wp2_with fail
 refine (C2.out (by trivial)).mono ?_
 rintro r w3 ⟨rfl, h3⟩
 have X3 : Hid _ := h3
 clear h3 C2
 unfold rsV
 go_wp2_with (refine wpList_store_row rfl 41 _ _ rfl rb _ rfl rfl 41 _ (X3.out.bm mc) (by kernel_rfl) rfl (rsc_all _ _ rfl) ?_)
 refine bodyPost_ret (res11 rfl rfl rfl (setRow_at (X3.out.bm mc))) rfl ?_
 exact ⟨rfl, _, (X3.out.poke (setRow_kept _ _ _) (setRow_at (X3.out.bm mc)) nb).to, rfl, HBd.out va⟩
theorem leave135 (h : SC f N X w) (hn : Nok N f X.act w) (b : Bd f X) (er : Int) : Calls Tryz.prog 135 #[pz f.sb, iw er] w (Got f N X w { dropF X with act := false } { resF X 7 with er := er }) := by
 have X0 : Hid (Cx (f.In X.act) N w f X [] [(w.heap.size, RZ, 41)] (w.alloc (.cells RZ 41))) := (Cx.start h hn nb).newm _ _
 obtain ⟨W1, hW1⟩ := xj (w.alloc (.cells RZ 41))
 rw [hW1] at X0
 obtain ⟨rb, hrb⟩ := xj w.heap.size
 rw [hrb] at X0
 have C : Hid (1 = 1 → Calls Tryz.prog 83 #[pz f.sb] W1 fun e w' => e = .returned (.tuple #[]) ∧ ∃ va, Cx (f.In X.act) N w (f.drop va) (dropF X) [] [(rb, RZ, 41)] w') := fun _ => (settle83 X0.out.sc).mono fun e w' ⟨h1, va, h2⟩ => ⟨h1, va, X0.out.next h2⟩
 have HBd : Hid (∀ va, Bd (f.drop va) { dropF X with act := false }) := fun va => ⟨(b.drop (va := va)).sc, (b.drop (va := va)).co, (b.drop (va := va)).gs⟩
 clear h X0 b
 go_enter Tryz.func135, Tryz.ntmps135
 go_wp2_with fail
 refine (C.out (by trivial)).mono ?_
 rintro e w2 ⟨rfl, va, h2⟩
 have X2 : Hid _ := h2
 clear h2 C hW1
 have C2 : Hid (1 = 1 → Calls Tryz.prog 74 #[pz f.sb, iw 7, iw er] w2 fun r w' => r = .returned (rsV { resF X 7 with er := er }) ∧ Cx (f.In X.act) N w (f.drop va) (dropF X) [] [(rb, RZ, 41)] w') := fun _ => (told74 7 er X2.out.sc).mono fun e w' ⟨h1, h2⟩ => ⟨h1, X2.out.on h2⟩
 clear X2
 go_wp2_with fail
 refine (C2.out (by trivial)).mono ?_
 rintro r w3 ⟨rfl, h3⟩
 have X4 : Hid (Cx (f.In X.act) N w (f.drop va) (dropF X) [(w3.heap.size, (rsc { resF X 7 with er := er } sy).toArray, 41)] [(rb, RZ, 41)] (w3.alloc (.cells (rsc { resF X 7 with er := er } sy).toArray 41))) := h3.new _ _
 obtain ⟨W4, hW4⟩ := xj (w3.alloc (.cells (rsc { resF X 7 with er := er } sy).toArray 41))
 rw [hW4] at X4
 have p6 : W4.cell? ⟨f.sb, 6, none⟩ = some (vtV f.tb X.act) := block_cell X4.out.sc.blk rfl
 have g6 : W4.frozen? ⟨f.sb, 6, none⟩ = false := block_frozen X4.out.sc.blk 6
 have X5 : Hid (Cx (f.In X.act) N w (f.drop va) { dropF X with act := false } [(w3.heap.size, (rsc { resF X 7 with er := er } sy).toArray, 41)] [(rb, RZ, 41)] (W4.setCell ⟨f.sb, 6, none⟩ (.pointer none))) := X4.out.next (X4.out.sc.end (set_kept' W4 f.sb 6 _) (block_set (j := 6) (.pointer none) X4.out.sc.blk))
 obtain ⟨W5, hW5⟩ := xj (W4.setCell ⟨f.sb, 6, none⟩ (.pointer none))
 rw [hW5] at X5
 generalize vtV f.tb X.act = v6 at *
 clear h3 C2 X4
 unfold rsV
 go_wp2_with (first
  | (refine wpList_store_row rfl 41 _ _ rfl w3.heap.size (rsc { resF X 7 with er := er } sy).toArray rfl rfl 41 _ (heap_alloc_new w3 _) (by kernel_rfl) rfl (rsc_all _ _ rfl) ?_; rewrite [World.setRow_alloc_new, hW4])
  | (refine wpList_load_row rfl 41 _ rfl w3.heap.size rfl 41 _ (0, 0) _ (X5.out.bx mc) Tryz.underlying41 rfl (by kernel_rfl) ?_)
  | (refine wpList_store_row rfl 41 _ _ rfl rb _ rfl rfl 41 _ (X5.out.bm mc) (by kernel_rfl) rfl (rsc_all _ _ rfl) ?_))
 refine bodyPost_ret (res11 rfl rfl rfl (setRow_at (X5.out.bm mc))) rfl ?_
 exact ⟨rfl, _, (X5.out.poke (setRow_kept _ _ _) (setRow_at (X5.out.bm mc)) nb).to, rfl, HBd.out va⟩
end Go.Proofs.YtkdkgdollmmcnaaGreat
