import Derived.Test.YtkdkgdollmmcnaaGreatWao
set_option maxHeartbeats 4000000
set_option maxRecDepth 100000
set_option linter.unusedVariables false
set_option linter.unusedSimpArgs false
namespace Go.Proofs.YtkdkgdollmmcnaaGreat
open Go.RowKit Go.Sort Go.Shelf
variable {M M' G N : Nat → Prop} {W W' w : World} {f f' : Fo} {X X' : Ss}
def choreN (q : Rq) (h : Nat) (ns : List Nat) (s : Ss) : Ss := ns.foldl (fun s n => askF s { akF n q with ch := true, oc := s.cl, on := s.n, fi := h }) s
theorem choreN_snoc (q : Rq) (h : Nat) (ns : List Nat) (n : Nat) (s : Ss) : choreN q h (ns ++ [n]) s = askF (choreN q h ns s) { akF n q with ch := true, oc := (choreN q h ns s).cl, on := (choreN q h ns s).n, fi := h } := by simp [choreN]
def pN : List (List Wr) → Nat → List Nat
 | [], _ => []
 | p :: l, i => if p.isEmpty then pN l (i + 1) else i :: pN l (i + 1)
theorem chores_all (q : Rq) (h : Nat) : ∀ (L : List (List Wr)) (i : Nat) (s : Ss), (choresF q none h L i s).1 = choreN q h (pN L i) s
 | [], i, s => rfl
 | p :: l, i, s => by
  unfold choresF pN
  cases hp : p.isEmpty
  ·simp only [Bool.false_eq_true, if_false, true_and, ne_eq, reduceCtorEq, not_false_eq_true, if_true]
   rw [chores_all q h l (i + 1)]
   rfl
  ·simp only [Bool.true_eq_false, false_and, if_false, if_true]
   exact chores_all q h l (i + 1) s
theorem pN_app : ∀ (L R : List (List Wr)) (i : Nat), pN (L ++ R) i = pN L i ++ pN R (i + L.length)
 | [], R, i => by simp [pN]
 | p :: l, R, i => by
  show (if p.isEmpty then pN (l ++ R) (i + 1) else i :: pN (l ++ R) (i + 1)) = (if p.isEmpty then pN l (i + 1) else i :: pN l (i + 1)) ++ pN R (i + (p :: l).length)
  rw [pN_app l R (i + 1), show i + 1 + l.length = i + (p :: l).length from by simp; omega]
  cases p.isEmpty <;> rfl
theorem pN_parts (L : List (List Wr)) : ∀ m, m ≤ L.length → pN (L.take m) 0 = partsN L m
 | 0, _ => by simp [pN, partsN]
 | m + 1, h => by
  rw [List.take_add_one, List.getElem?_eq_getElem (by omega), parts_succ]
  rw [show (some L[m]).toList = [L[m]] from rfl, pN_app, pN_parts L m (by omega)]
  have e : L.getD m [] = L[m] := by simp [List.getD, show m < L.length by omega]
  rw [e, List.length_take, Nat.min_eq_left (by omega), Nat.zero_add]
  unfold pN
  cases L[m].isEmpty <;> simp [pN]
theorem parts_all (L : List (List Wr)) : pN L 0 = partsN L L.length := by
 have := pN_parts L L.length (Nat.le_refl _)
 rw [List.take_of_length_le (Nat.le_refl _)] at this
 exact this
theorem choreN_keep (q : Rq) (h : Nat) : ∀ (ns : List Nat) (s : Ss), (choreN q h ns s).cl = s.cl ∧ (choreN q h ns s).n = s.n ∧ (choreN q h ns s).sp = s.sp ∧ (choreN q h ns s).sl = s.sl ∧ (choreN q h ns s).act = s.act ∧ (choreN q h ns s).ws = s.ws ∧ (choreN q h ns s).nsh = s.nsh ∧ (choreN q h ns s).op = s.op ∧ (choreN q h ns s).sq = s.sq + ns.length
 | [], s => ⟨rfl, rfl, rfl, rfl, rfl, rfl, rfl, rfl, rfl⟩
 | n :: ns, s => by
  have := choreN_keep q h ns (askF s { akF n q with ch := true, oc := s.cl, on := s.n, fi := h })
  obtain ⟨a, b, c, d, e, g, i, j, k⟩ := this
  refine ⟨a, b, c, d, e, g, i, j, ?_⟩
  show (choreN q h ns _).sq = _
  rw [k]
  simp [askF]
  omega
theorem Cx.add {Lo Lm : List Bo} (h : Cx M N w f X Lo Lm W) {g : Nat} {cs : Array Value} {ty : TypeId} (hg : W.heap[g]? = some (.cells cs ty (0, 0))) (h1 : ¬ f.In X.act g) (h2 : ¬ Nm N Lm g) : Cx M N w f X ((g, cs, ty) :: Lo) Lm W :=
 ⟨h.sc, h.sub, h.kp, fun p hp => by
  rcases List.mem_cons.1 hp with rfl | hp
  ·exact ⟨hg, h1, h2⟩
  ·exact h.has p hp, h.hasm, h.nl⟩
structure Rm (f : Fo) (X : Ss) (k : Nat) : Prop where
 sq : X.sq + k < 4294967296
 la : f.la.length + k ≤ 1048576
 lo : f.lo.length + k ≤ 1048576
theorem Rm.room {k : Nat} (h : Rm f X (k + 1)) : Room f X := ⟨by have := h.sq; omega, by have := h.la; omega, by have := h.lo; omega⟩
theorem Rm.ask {k : Nat} {a : Ak} {vw vs fv va vo : Value} (h : Rm f X (k + 1)) : Rm (f.ask X a vw vs fv va vo) (askF X a) k :=
 ⟨by have := h.sq; simp only [askF]; omega, by have := h.la; simp only [Fo.ask, List.length_append, List.length_cons, List.length_nil]; omega, by have := h.lo; simp only [Fo.ask, List.length_append, List.length_cons, List.length_nil]; omega⟩
theorem Rm.le {k m : Nat} (h : Rm f X k) (hm : m ≤ k) : Rm f X m := ⟨by have := h.sq; omega, by have := h.la; omega, by have := h.lo; omega⟩
theorem Rm.drop {k : Nat} {va : Value} (h : Rm f X k) : Rm (f.drop va) (dropF X) k :=
 ⟨h.sq, by have := h.la; have := List.length_filter_le (fun x : Ax => x.a.ch) f.la; simp only [Fo.drop]; omega, h.lo⟩
theorem qf_nil (M : Nat → Prop) (q : Rq) (W : World) (h1 : q.ws = []) (h2 : q.sk = []) : QF M q sy sy W := ⟨by rw [h1]; exact RwF.nil _ _ _, by rw [h2]; exact RwF.nil _ _ _⟩
theorem cnt_ask {X : Ss} {a : Ak} {n : Nat} (h : (a.ch && a.q.k == 5) = false) : cntA (askF X a).asks n = cntA X.asks n := by
 simp only [cntA, askF, List.filter_append]
 rw [show List.filter (fun x : Ak => x.ch && x.q.k == 5 && x.on == n) [{ a with sq := X.sq + 1 }] = [] from by simp [h]]
 simp
structure Lf (f f' : Fo) : Prop where
 sb : f'.sb = f.sb
 tb : f'.tb = f.tb
 vw : f'.vw = f.vw
 ok : f'.ok = f.ok
 xb : f'.xb = f.xb
 lb : f'.lb = f.lb
 ob : f'.ob = f.ob
 oq : f'.oq = f.oq
 lv : f'.lv = f.lv
 vp : f'.vp = f.vp
 gs : f'.gs = f.gs
 gl : f'.gl = f.gl
 gv : f'.gv = f.gv
theorem Lf.refl (f : Fo) : Lf f f := ⟨rfl, rfl, rfl, rfl, rfl, rfl, rfl, rfl, rfl, rfl, rfl, rfl, rfl⟩
theorem Lf.trans {a b c : Fo} (h : Lf a b) (k : Lf b c) : Lf a c := ⟨k.sb.trans h.sb, k.tb.trans h.tb, k.vw.trans h.vw, k.ok.trans h.ok, k.xb.trans h.xb, k.lb.trans h.lb, k.ob.trans h.ob, k.oq.trans h.oq, k.lv.trans h.lv, k.vp.trans h.vp, k.gs.trans h.gs, k.gl.trans h.gl, k.gv.trans h.gv⟩
theorem Lf.ask (f : Fo) (X : Ss) (a : Ak) (vw vs fv va vo : Value) : Lf f (f.ask X a vw vs fv va vo) := ⟨rfl, rfl, rfl, rfl, rfl, rfl, rfl, rfl, rfl, rfl, rfl, rfl, rfl⟩
theorem Lf.drop (f : Fo) (va : Value) : Lf f (f.drop va) := ⟨rfl, rfl, rfl, rfl, rfl, rfl, rfl, rfl, rfl, rfl, rfl, rfl, rfl⟩
theorem chore_is {X : Ss} {W : World} {n : Nat} {q : Rq} {h c m sq : Nat} (hq : q.k ≠ 5) (h1 : q.ws = []) (h2 : q.sk = []) : AkIs M f X W ⟨{ akF n q with sq := sq, ch := true, oc := c, on := m, fi := h }, sy, sy, .func (.func 134) #[] #[]⟩ :=
 ⟨qf_nil M q W h1 h2, ⟨rfl, rfl, rfl⟩, (fun e => by cases e), (fun e => by cases e), (fun e => by cases e), (fun e => by cases e), (fun e => by cases e), (fun _ e => absurd e hq), (fun _ _ => rfl)⟩
def RowN (ao : Option Addr) (ns : List Nat) (f : Fo) (act : Bool) (W : World) : Prop := ∀ m, m < ns.length → ∃ g, ao = some ⟨g, 0, none⟩ ∧ W.cell? ⟨g, m, none⟩ = some (iw ((ns.getD m 0 : Nat) : Int)) ∧ ¬ f.In act g
theorem RowN.next {ao : Option Addr} {ns : List Nat} {act : Bool} (h : RowN ao ns f act W) (t : To f N act W f' X' W') : RowN ao ns f' X'.act W' := fun m hm => by
 obtain ⟨g, e, h1, h2⟩ := h m hm
 refine ⟨g, e, t.kp.cell h1 h2, fun hi => ?_⟩
 rcases t.sub g hi with e | e
 ·exact h2 e
 ·exact absurd (World.block_lt_of_cell? _ _ h1) (by simp; omega)
theorem RowN.on {ao : Option Addr} {ns : List Nat} {act : Bool} (h : RowN ao ns f act W) (hb : Below W.heap.size W W') : RowN ao ns f act W' := fun m hm => by
 obtain ⟨g, e, h1, h2⟩ := h m hm
 exact ⟨g, e, (Kept.of_below (F := fun _ => False) hb).cell h1 (fun e => e), h2⟩
theorem RowN.new {ao : Option Addr} {ns : List Nat} {cap B : Nat} (hr : W.ownsRow B 3 1 (.slice ao ns.length cap) ns.length (rowC inc ns)) (hf : ∀ k, f.In X.act k → k < B) : RowN ao ns f X.act W := fun m hm => by
 rcases hr.2 with ⟨e, h0⟩ | ⟨g, cap', cur, e, hb, -⟩
 ·omega
 ·injection e with e
  subst e
  refine ⟨g, rfl, ?_, fun hi => absurd (hf g hi) (by omega)⟩
  have := World.ownsRow.cells hr (g := g) rfl m (iw ((ns.getD m 0 : Nat) : Int)) (by
   have := rowC_get inc_len 0 ns m 0 hm (by decide)
   rw [Nat.mul_one, Nat.add_zero] at this
   exact this)
  rw [Addr.add_lit, Nat.zero_add] at this
  exact this
theorem parts_lt {L : List (List Wr)} {m : Nat} : ∀ n ∈ partsN L m, n < m := fun n hn => by
 unfold partsN at hn
 exact List.mem_range.1 (List.mem_filter.1 hn).1
theorem getD_memN {L : List Nat} {i : Nat} (h : i < L.length) : L.getD i 0 ∈ L := by
 rw [List.getD, List.getElem?_eq_getElem h]
 exact List.getElem_mem h
theorem take_snoc {α : Type} {L : List α} {d : α} {m : Nat} (h : m < L.length) : L.take (m + 1) = L.take m ++ [L.getD m d] := by
 rw [List.take_add_one, List.getElem?_eq_getElem h]
 simp [List.getD, h]
structure Gk (f f' : Fo) (X X' : Ss) (k : Nat) : Prop where
 lf : Lf f f'
 rm : Rm f' X' k
 cn : ∀ n, cntA X'.asks n = cntA X.asks n
theorem giveUp88 (h : SC f N X w) (hn : Nok N f X.act w) (b : Bd f X) (ha : X.act = true) (hs : 1 ≤ X.nsh ∧ X.nsh ≤ 8) (hw : X.ws.length ≤ 1000) (rm : Rm f X 8) (er : Int) : Calls Tryz.prog 88 #[pz f.sb, iw er] w (Got f N X w (givenF bt X er).1 (givenF bt X er).2) := by
 have X0 : Hid (Cx (f.In X.act) N w f X [] [(w.heap.size, RZ, 41)] (w.alloc (.cells RZ 41))) := (Cx.start h hn nb).newm _ _
 obtain ⟨W1, hW1⟩ := xj (w.alloc (.cells RZ 41))
 rw [hW1] at X0
 obtain ⟨rb, hrb⟩ := xj w.heap.size
 rw [hrb] at X0
 have C : Hid (1 = 1 → Calls Tryz.prog 83 #[pz f.sb] W1 fun e w' => e = .returned (.tuple #[]) ∧ ∃ va, Cx (f.In X.act) N w (f.drop va) (dropF X) [] [(rb, RZ, 41)] w') := fun _ => (settle83 X0.out.sc).mono fun e w' ⟨h1, va, h2⟩ => ⟨h1, va, X0.out.next h2⟩
 obtain ⟨hm, hhm⟩ := xj (homeF bt X (priF X))
 have HR : Hid ((givenF bt X er).1 = { choreN (undoQ X) hm (partsN (bt.parts X.ws X.nsh) (bt.parts X.ws X.nsh).length) (dropF X) with act := false } ∧ (givenF bt X er).2 = { resF X 5 with er := er }) := by
  refine ⟨?_, rfl⟩
  rw [← parts_all, ← chores_all, ← hhm]
  rfl
 have HN8 : Hid (∀ n ∈ partsN (bt.parts X.ws X.nsh) (bt.parts X.ws X.nsh).length, n < 4294967296) := fun n hn => Nat.lt_of_lt_of_le (parts_lt n hn) (Nat.le_trans (Pla.split_len X.ws (X.nsh : Int)) (by decide))
 have HL8 : Hid ((partsN (bt.parts X.ws X.nsh) (bt.parts X.ws X.nsh).length).length ≤ 8) := Nat.le_trans (parts_len _ _) (Pla.split_len X.ws (X.nsh : Int))
 rw [HR.out.1, HR.out.2]
 have HH : Hid (Bd f X ∧ X.act = true ∧ (1 ≤ X.nsh ∧ X.nsh ≤ 8) ∧ X.ws.length ≤ 1000 ∧ Rm f X 8) := ⟨b, ha, hs, hw, rm⟩
 clear h X0 HR b hs hw rm hhm
 go_enter Tryz.func88, Tryz.ntmps88
 go_wp2_with fail
 refine (C.out (by trivial)).mono ?_
 rintro e w2 ⟨rfl, va, h2⟩
 have X2 : Hid _ := h2
 clear h2 C hW1
 have C2 : Hid (1 = 1 → Calls Tryz.prog 74 #[pz f.sb, iw 5, iw er] w2 fun r w' => r = .returned (rsV { resF X 5 with er := er }) ∧ Cx (f.In X.act) N w (f.drop va) (dropF X) [] [(rb, RZ, 41)] w') := fun _ => (told74 5 er X2.out.sc).mono fun e w' ⟨h1, h2⟩ => ⟨h1, X2.out.on h2⟩
 clear X2
 go_wp2_with fail
 refine (C2.out (by trivial)).mono ?_
 rintro r w3 ⟨rfl, h3⟩
 have X4 : Hid (Cx (f.In X.act) N w (f.drop va) (dropF X) [(w3.heap.size, (rsc { resF X 5 with er := er } sy).toArray, 41)] [(rb, RZ, 41)] (w3.alloc (.cells (rsc { resF X 5 with er := er } sy).toArray 41))) := h3.new _ _
 obtain ⟨W4, hW4⟩ := xj (w3.alloc (.cells (rsc { resF X 5 with er := er } sy).toArray 41))
 rw [hW4] at X4
 have C4 : Hid (1 = 1 → Calls Tryz.prog 89 #[pz f.sb] W4 fun r w' => (∃ v, r = .returned v ∧ w'.ownsRow W4.heap.size 3 1 v (partsN (bt.parts X.ws X.nsh) (bt.parts X.ws X.nsh).length).length (rowC inc (partsN (bt.parts X.ws X.nsh) (bt.parts X.ws X.nsh).length))) ∧ Below W4.heap.size W4 w') := fun _ => parts89 (f := f.drop va) (X := dropF X) X4.out.sc HH.out.2.1 HH.out.2.2.1 HH.out.2.2.2.1
 generalize hns : partsN (bt.parts X.ws X.nsh) (bt.parts X.ws X.nsh).length = ns at *
 clear h3 C2 hns
 unfold rsV
 go_wp2_with (refine wpList_store_row rfl 41 _ _ rfl w3.heap.size (rsc { resF X 5 with er := er } sy).toArray rfl rfl 41 _ (heap_alloc_new w3 _) (by kernel_rfl) rfl (rsc_all _ _ rfl) ?_; rewrite [World.setRow_alloc_new, hW4])
 refine (C4.out (by trivial)).mono ?_
 rintro r w5 ⟨⟨v5, rfl, hr5⟩, hb5⟩
 obtain ⟨ao, cap, rfl, -, hlc, hcm, -⟩ := rw_own hr5
 have X5 : Hid (Cx (f.In X.act) N w (f.drop va) (choreN (undoQ X) hm (ns.take 0) (dropF X)) [(w3.heap.size, (rsc { resF X 5 with er := er } sy).toArray, 41)] [(rb, RZ, 41)] w5) := by rw [List.take_zero]; exact X4.out.on hb5
 have R5 : Hid (RowN ao ns (f.drop va) X.act w5) := RowN.new (X := dropF X) hr5 (fun k hk => X4.out.sc.lt hk)
 have G5 : Hid (Gk f (f.drop va) (dropF X) (choreN (undoQ X) hm (ns.take 0) (dropF X)) (8 - 0)) := ⟨Lf.drop f va, HH.out.2.2.2.2.drop, fun n => by rw [List.take_zero]; rfl⟩
 clear hr5 hb5 C4 X4 hW4
 go_wp2_with fail
 have hlen : ns.length < 9223372036854775808 := by omega
 go_loopw [16] (fun i wr => ∃ (m : Nat) (f' : Fo), m ≤ ns.length ∧ i = iw m ∧ Hid (Cx (f.In X.act) N w f' (choreN (undoQ X) hm (ns.take m) (dropF X)) [(w3.heap.size, (rsc { resF X 5 with er := er } sy).toArray, 41)] [(rb, RZ, 41)] wr) ∧ Hid (RowN ao ns f' X.act wr) ∧ Hid (Gk f f' (dropF X) (choreN (undoQ X) hm (ns.take m) (dropF X)) (8 - m))) (fun i _ => ns.length - (intOf i).toNat)
 case atStart => exact ⟨0, f.drop va, Nat.zero_le _, rfl, X5, R5, G5⟩
 case round =>
  obtain ⟨m, f', hmm, rfl, XM, RM, GM⟩ := hrel
  clear X5 R5 G5
  obtain ⟨Xm, hXm⟩ := xj (choreN (undoQ X) hm (ns.take m) (dropF X))
  have HXm : Hid (choreN (undoQ X) hm (ns.take m) (dropF X) = Xm) := hXm
  rw [hXm] at XM GM
  have HKp : Hid (Xm.cl = X.cl ∧ Xm.n = X.n ∧ Xm.sp = X.sp ∧ Xm.sl = X.sl ∧ Xm.act = X.act) := by
   have := choreN_keep (undoQ X) hm (ns.take m) (dropF X)
   rw [hXm] at this
   exact ⟨this.1, this.2.1, this.2.2.1, this.2.2.2.1, this.2.2.2.2.1⟩
  clear hXm
  have HSB : f'.sb = f.sb := GM.out.lf.sb
  by_cases hml : m < ns.length
  ·have hml1 : (m : Int) < ns.length := by omega
   obtain ⟨g, rfl, hcg, -⟩ := RM.out m hml
   have hm0 : ¬ (m : Int) < 0 := by omega
   have HU : Hid (undoQ Xm = undoQ X) := by
    obtain ⟨e1, e2, e3, e4, -⟩ := HKp.out
    show _ = _
    unfold undoQ
    rw [e1, e2, e3, e4]
   have CU : Hid (1 = 1 → Calls Tryz.prog 133 #[pz f.sb] wr fun r w' => r = .returned (rqV (undoQ X)) ∧ Cx (f.In X.act) N w f' Xm [(w3.heap.size, (rsc { resF X 5 with er := er } sy).toArray, 41)] [(rb, RZ, 41)] w' ∧ RowN (some ⟨g, 0, none⟩) ns f' X.act w') := fun _ => by
    have c := undo133 XM.out.sc (by rw [HKp.out.2.2.2.2]; exact ha)
    rw [HU.out, HSB] at c
    exact c.mono fun e w' ⟨h1, h2⟩ => ⟨h1, XM.out.on h2, RM.out.on h2⟩
   have HM : Hid (m + 1 ≤ ns.length) := hml
   have HNm : Hid (ns.getD m 0 < 4294967296) := HN8.out _ (getD_memN hml)
   have HTS : Hid (ns.take (m + 1) = ns.take m ++ [ns.getD m 0]) := take_snoc hml
   obtain ⟨nm, hnm⟩ := xj (ns.getD m 0)
   rw [hnm] at hcg HNm HTS
   clear hnm XM RM
   go_wp2_with fail
   refine (CU.out (by trivial)).mono ?_
   rintro r w6 ⟨rfl, h6, r6⟩
   have X6 : Hid _ := h6
   have R6 : Hid _ := r6
   clear h6 r6 CU hcg
   have CC : Hid (1 = 1 → Calls Tryz.prog 132 #[pz f.sb, iw (nm : Int), .agg (rqc (undoQ X) sy sy).toArray, .func (.func 134) #[] #[]] w6 fun e w' => e = .returned (.tuple #[]) ∧ ∃ f2, Cx (f.In X.act) N w f2 (choreN (undoQ X) hm (ns.take (m + 1)) (dropF X)) [(w3.heap.size, (rsc { resF X 5 with er := er } sy).toArray, 41)] [(rb, RZ, 41)] w' ∧ RowN (some ⟨g, 0, none⟩) ns f2 X.act w' ∧ Gk f f2 (dropF X) (choreN (undoQ X) hm (ns.take (m + 1)) (dropF X)) (8 - (m + 1))) := fun _ => by
    have hk8 : 8 - m = (8 - (m + 1)) + 1 := by have := HL8.out; have := HM.out; omega
    have gm := GM.out
    rw [hk8] at gm
    have c := chore132 X6.out.sc gm.rm.room nm { akF nm (undoQ X) with ch := true, oc := Xm.cl, on := Xm.n, fi := hm } sy sy (.func 134) #[] #[] _ rfl rfl rfl HNm.out (chore_is (show (6 : Int) ≠ 5 by decide) rfl rfl)
    rw [HSB] at c
    refine c.mono ?_
    rintro e w' ⟨h1, va', vo', h2⟩
    refine ⟨h1, f'.ask Xm { akF nm (undoQ X) with ch := true, oc := Xm.cl, on := Xm.n, fi := hm } sy sy (.func (.func 134) #[] #[]) va' vo', ?_, ?_, ?_⟩
    ·rw [HTS.out, choreN_snoc, HXm.out]
     exact X6.out.next h2
    ·have r7 := R6.out
     rw [← HKp.out.2.2.2.2] at r7 ⊢
     have r8 := RowN.next r7 h2
     exact r8
    ·rw [HTS.out, choreN_snoc, HXm.out]
     exact ⟨gm.lf.trans (Lf.ask ..), gm.rm.ask, fun n => by rw [cnt_ask (by simp [akF, undoQ])]; exact gm.cn n⟩
   clear X6 R6 GM HXm HTS HU HKp
   unfold rqV
   go_wp2_with fail
   refine (CC.out (by trivial)).mono ?_
   rintro e w7 ⟨rfl, f2, x7, r7, g7⟩
   have X7 : Hid _ := x7
   have R7 : Hid _ := r7
   have G7 : Hid _ := g7
   clear x7 r7 g7 CC
   go_wp2_with fail
   go_roundw
   case rel => exact ⟨m + 1, f2, HM.out, by go_num, X7, R7, G7⟩
   case measure => simp [intOf]; omega
  ·have hml1 : ¬ (m : Int) < ns.length := by omega
   have hme : ns.take m = ns := List.take_of_length_le (by omega)
   rw [hme] at HXm
   have p6 : wr.cell? ⟨f.sb, 6, none⟩ = some (vtV f'.tb Xm.act) := by rw [← HSB]; exact block_cell XM.out.sc.blk rfl
   have g6 : wr.frozen? ⟨f.sb, 6, none⟩ = false := by rw [← HSB]; exact block_frozen XM.out.sc.blk 6
   have X7 : Hid (Cx (f.In X.act) N w f' { Xm with act := false } [(w3.heap.size, (rsc { resF X 5 with er := er } sy).toArray, 41)] [(rb, RZ, 41)] (wr.setCell ⟨f.sb, 6, none⟩ (.pointer none))) := by
    rw [← HSB]
    exact XM.out.next (XM.out.sc.end (set_kept' wr f'.sb 6 _) (block_set (j := 6) (.pointer none) XM.out.sc.blk))
   have HBd : Hid (Bd f' { Xm with act := false }) := by
    have k := choreN_keep (undoQ X) hm ns (dropF X)
    rw [HXm.out] at k
    have ko : Xm.op = zO := k.2.2.2.2.2.2.2.1
    refine ⟨fun e => ?_, fun e => ?_, fun n hn => ?_⟩
    ·rw [show ({ Xm with act := false } : Ss).op = Xm.op from rfl, ko] at e
     cases e
    ·rw [show ({ Xm with act := false } : Ss).op = Xm.op from rfl, ko] at e
     cases e
    ·rw [GM.out.lf.gv]
     rw [GM.out.lf.gs] at hn
     have := (HH.out.1.drop (va := va)).gs n hn
     rw [show (f.drop va).gv n = f.gv n from rfl] at this
     rw [this, show ({ Xm with act := false } : Ss).asks = Xm.asks from rfl, GM.out.cn n]
   generalize vtV f'.tb Xm.act = v6 at *
   obtain ⟨W7, hW7⟩ := xj (wr.setCell ⟨f.sb, 6, none⟩ (.pointer none))
   rw [hW7] at X7
   clear XM RM GM HKp hme
   go_wp2_with (first
    | (refine wpList_load_row rfl 41 _ rfl w3.heap.size rfl 41 _ (0, 0) _ (X7.out.bx mc) Tryz.underlying41 rfl (by kernel_rfl) ?_)
    | (refine wpList_store_row rfl 41 _ _ rfl rb _ rfl rfl 41 _ (X7.out.bm mc) (by kernel_rfl) rfl (rsc_all _ _ rfl) ?_))
   refine bj X7.out ?_
   rw [HXm.out]
   exact ⟨rfl, _, (X7.out.poke (setRow_kept _ _ _) (setRow_at (X7.out.bm mc)) nb).to, HSB, HBd.out⟩
theorem Cx.box51 {w0 : World} (h : Cx M N w f X [] [] w0) (c1 : Array Value) (t1 : TypeId) (c2 : Array Value) (t2 : TypeId) (c3 : Array Value) (t3 : TypeId) (c4 : Array Value) (t4 : TypeId) (c5 : Array Value) (t5 : TypeId) (c6 : Array Value) (t6 : TypeId) : Cx M N w f X [(w0.heap.size + 4, c5, t5), (w0.heap.size + 3, c4, t4), (w0.heap.size + 2, c3, t3), (w0.heap.size + 1, c2, t2), (w0.heap.size, c1, t1)] [(w0.heap.size + 5, c6, t6)] ((((((w0.alloc (.cells c1 t1)).alloc (.cells c2 t2)).alloc (.cells c3 t3)).alloc (.cells c4 t4)).alloc (.cells c5 t5)).alloc (.cells c6 t6)) := by
 have s0 : w0.heap.size = w0.heap.size := rfl
 have h1 := h.new c1 t1
 have s1 := size_al w0 (.cells c1 t1)
 have h2 := h1.new c2 t2
 have s2 := size_al (w0.alloc (.cells c1 t1)) (.cells c2 t2)
 rw [show (w0.alloc (.cells c1 t1)).heap.size = w0.heap.size + 1 from by omega] at h2 s2
 have h3 := h2.new c3 t3
 have s3 := size_al ((w0.alloc (.cells c1 t1)).alloc (.cells c2 t2)) (.cells c3 t3)
 rw [show ((w0.alloc (.cells c1 t1)).alloc (.cells c2 t2)).heap.size = w0.heap.size + 2 from by omega] at h3 s3
 have h4 := h3.new c4 t4
 have s4 := size_al (((w0.alloc (.cells c1 t1)).alloc (.cells c2 t2)).alloc (.cells c3 t3)) (.cells c4 t4)
 rw [show (((w0.alloc (.cells c1 t1)).alloc (.cells c2 t2)).alloc (.cells c3 t3)).heap.size = w0.heap.size + 3 from by omega] at h4 s4
 have h5 := h4.new c5 t5
 have s5 := size_al ((((w0.alloc (.cells c1 t1)).alloc (.cells c2 t2)).alloc (.cells c3 t3)).alloc (.cells c4 t4)) (.cells c5 t5)
 rw [show ((((w0.alloc (.cells c1 t1)).alloc (.cells c2 t2)).alloc (.cells c3 t3)).alloc (.cells c4 t4)).heap.size = w0.heap.size + 4 from by omega] at h5 s5
 have h6 := h5.newm c6 t6
 have s6 := size_al (((((w0.alloc (.cells c1 t1)).alloc (.cells c2 t2)).alloc (.cells c3 t3)).alloc (.cells c4 t4)).alloc (.cells c5 t5)) (.cells c6 t6)
 rw [show (((((w0.alloc (.cells c1 t1)).alloc (.cells c2 t2)).alloc (.cells c3 t3)).alloc (.cells c4 t4)).alloc (.cells c5 t5)).heap.size = w0.heap.size + 5 from by omega] at h6 s6
 exact h6
theorem Cx.box11 {w0 : World} (h : Cx M N w f X [] [] w0) (c1 : Array Value) (t1 : TypeId) (c2 : Array Value) (t2 : TypeId) : Cx M N w f X [(w0.heap.size, c1, t1)] [(w0.heap.size + 1, c2, t2)] ((w0.alloc (.cells c1 t1)).alloc (.cells c2 t2)) := by
 have s0 : w0.heap.size = w0.heap.size := rfl
 have h1 := h.new c1 t1
 have s1 := size_al w0 (.cells c1 t1)
 have h2 := h1.newm c2 t2
 have s2 := size_al (w0.alloc (.cells c1 t1)) (.cells c2 t2)
 rw [show (w0.alloc (.cells c1 t1)).heap.size = w0.heap.size + 1 from by omega] at h2 s2
 exact h2
theorem Cx.box21 {w0 : World} (h : Cx M N w f X [] [] w0) (c1 : Array Value) (t1 : TypeId) (c2 : Array Value) (t2 : TypeId) (c3 : Array Value) (t3 : TypeId) : Cx M N w f X [(w0.heap.size + 1, c2, t2), (w0.heap.size, c1, t1)] [(w0.heap.size + 2, c3, t3)] (((w0.alloc (.cells c1 t1)).alloc (.cells c2 t2)).alloc (.cells c3 t3)) := by
 have s0 : w0.heap.size = w0.heap.size := rfl
 have h1 := h.new c1 t1
 have s1 := size_al w0 (.cells c1 t1)
 have h2 := h1.new c2 t2
 have s2 := size_al (w0.alloc (.cells c1 t1)) (.cells c2 t2)
 rw [show (w0.alloc (.cells c1 t1)).heap.size = w0.heap.size + 1 from by omega] at h2 s2
 have h3 := h2.newm c3 t3
 have s3 := size_al ((w0.alloc (.cells c1 t1)).alloc (.cells c2 t2)) (.cells c3 t3)
 rw [show ((w0.alloc (.cells c1 t1)).alloc (.cells c2 t2)).heap.size = w0.heap.size + 2 from by omega] at h3 s3
 exact h3
def stopR (X : Ss) (e : Int) : Ss × Rs := if X.op.k = 6 then (if X.stg = 1 then givenF bt X e else ({ dropF X with act := false }, { resF X 7 with er := e })) else failF X e
structure Un (f : Fo) (N : Nat → Prop) (X : Ss) (k : Nat) (w : World) : Prop where
 sc : SC f N X w
 nk : Nok N f X.act w
 bd : Bd f X
 act : X.act = true
 ns : 1 ≤ X.nsh ∧ X.nsh ≤ 8
 ws : X.ws.length ≤ 1000
 rm : Rm f X k
theorem stop_fn (sb : Nat) (X : Ss) (ho : X.op.k ≠ 0) : ∃ fn, vsV sb X.op.k X.stg = .func (.func fn) #[pz sb] #[] ∧ (∀ args w, (callFunc fn args).run Tryz.prog w = .ok (.enter fn args) w) ∧ ∀ (f : Fo) (N : Nat → Prop) (W : World) (er : Int), f.sb = sb → Un f N X 8 W → Calls Tryz.prog fn #[pz sb, iw er] W (Got f N X W (stopR X er).1 (stopR X er).2) := by
 unfold vsV
 rw [if_neg ho]
 by_cases h6 : X.op.k = 6
 ·rw [if_pos h6]
  by_cases hs : X.stg = 1
  ·rw [if_pos hs]
   refine ⟨88, rfl, enters_of Tryz.func88 (by kernel_rfl) rfl, fun f N W er e u => ?_⟩
   subst e
   have c := giveUp88 u.sc u.nk u.bd u.act u.ns u.ws u.rm er
   unfold stopR
   rw [if_pos h6, if_pos hs]
   exact c
  ·rw [if_neg hs]
   refine ⟨135, rfl, enters_of Tryz.func135 (by kernel_rfl) rfl, fun f N W er e u => ?_⟩
   subst e
   have c := leave135 u.sc u.nk u.bd er
   unfold stopR
   rw [if_pos h6, if_neg hs]
   exact c
 ·rw [if_neg h6]
  refine ⟨79, rfl, enters_of Tryz.func79 (by kernel_rfl) rfl, fun f N W er e u => ?_⟩
  subst e
  have c := fail79 u.sc u.nk u.bd er
  unfold stopR
  rw [if_neg h6]
  exact c
theorem Bd.ask {a : Ak} {vw vs fv va vo : Value} (b : Bd f X) (h : (a.ch && a.q.k == 5) = false) : Bd (f.ask X a vw vs fv va vo) (askF X a) := ⟨b.sc, b.co, fun n hn => by rw [cnt_ask h]; exact b.gs n hn⟩
theorem unlock149 (u : Un f N X 9 w) (n : Nat) (hn : n < 4294967296) (q qe : Rq) (vw vs : Value) (fn : Fn) (fi cp qc ec : Array Value) (hqc : qc = (rqc q vw vs).toArray) (hec : ec = (rqc qe sy sy).toArray) (h1 : qe.ws = []) (h2 : qe.sk = []) (hq : QF (f.Ex N X.act) q vw vs w) (hd : DoAt (f.Ex N X.act) f w q.k (.func fn fi cp)) :
  Calls Tryz.prog 149 #[pz f.sb, iw (n : Int), .agg qc, .agg ec, .func fn fi cp] w (Got f N X w (askF X { akF n qe with st := 2, was := q, hm := n }) zS) := by
 have X0 := (Cx.start (Lo := []) u.sc u.nk nb).box51 #[pz f.sb] 24 #[iw (n : Int)] 3 qc 53 ec 53 #[.func fn fi cp] 97 RZ 41
 obtain ⟨W1, hW1⟩ := xj ((((((w.alloc (.cells #[pz f.sb] 24)).alloc (.cells #[iw (n : Int)] 3)).alloc (.cells qc 53)).alloc (.cells ec 53)).alloc (.cells #[.func fn fi cp] 97)).alloc (.cells RZ 41))
 rw [hW1] at X0
 have hb : Below w.heap.size w W1 := by
  rw [← hW1]
  exact (((((al _).trans ((al _).mono (by simp))).trans ((al _).mono (by simp; omega))).trans ((al _).mono (by simp; omega))).trans ((al _).mono (by simp; omega))).trans ((al _).mono (by simp; omega))
 have hst : Stay (fun _ => False) (f.Ex N X.act) (f.Ex (Nm N [(w.heap.size + 5, RZ, 41)]) X.act) w W1 := ⟨Kept.of_below hb, fun _ e => e.elim, fun k hk e => by
  rcases e with (e | ⟨p, hp, rfl⟩) | e
  ·exact .inl e
  ·rw [List.mem_singleton] at hp
   subst hp
   simp at hk
   omega
  ·exact .inr e⟩
 have ha : AkIs (f.Ex (Nm N [(w.heap.size + 5, RZ, 41)]) X.act) f X W1 ⟨{ { akF n qe with st := 2, was := q, hm := n } with sq := X.sq + 1 }, sy, sy, .func (.func 162) #[] #[pz w.heap.size, .pointer (some ⟨w.heap.size + 1, 0, none⟩), .pointer (some ⟨w.heap.size + 2, 0, none⟩), .pointer (some ⟨w.heap.size + 4, 0, none⟩)]⟩ := by
  refine ⟨qf_nil _ _ _ h1 h2, ⟨rfl, rfl, rfl⟩, (fun _ e => by cases e), (fun _ e => by cases e), fun _ _ => ⟨_, _, _, _, rfl, X0.fx (by simp), X0.fx (by simp), ⟨vw, vs, ?_, hq.stay hst⟩, _, X0.fx (by simp), hd.stay hst (SameF.refl f)⟩, (fun _ e => by cases e), (fun _ e => by cases e), (fun e => by cases e), (fun e => by cases e)⟩
  have x := X0.fx (b := w.heap.size + 2) (cs := qc) (ty := 53) (by simp)
  rw [hqc] at x
  exact x
 have HX : Hid _ := X0
 have C : Hid (1 = 1 → Calls Tryz.prog 116 #[pz f.sb, iw (n : Int), .agg ec, .func (.func 162) #[] #[pz w.heap.size, .pointer (some ⟨w.heap.size + 1, 0, none⟩), .pointer (some ⟨w.heap.size + 2, 0, none⟩), .pointer (some ⟨w.heap.size + 4, 0, none⟩)]] W1 (Asked f _ X W1 { akF n qe with st := 2, was := q, hm := n } sy sy _)) := fun _ => ask116 HX.out.sc (u.rm.room) n _ sy sy (.func 162) #[] _ ec hec rfl rfl hn ha
 have HB : Hid (Bd f X) := u.bd
 have hs : (Tryz.prog.info? 53).map (·.size) = some ec.size := by rw [hec]; kernel_rfl
 have p1 : W1.cell? ⟨w.heap.size, 0, none⟩ = some (pz f.sb) := HX.out.bc
 have p2 : W1.cell? ⟨w.heap.size + 1, 0, none⟩ = some (iw (n : Int)) := HX.out.bc
 have p3 : Hid (W1.heap[w.heap.size + 3]? = some (.cells ec 53 (0, 0))) := HX.out.bx (by simp)
 clear u X0 hb hst ha hq hd hqc hec
 go_enter Tryz.func149, Tryz.ntmps149
 go_wp2_with (refine wpList_load_row rfl 53 _ rfl (w.heap.size + 3) rfl 53 _ (0, 0) _ p3.out Tryz.underlying53 rfl hs ?_)
 refine (C.out (by trivial)).mono ?_
 rintro e w2 ⟨rfl, va, vo, ht⟩
 have X2 : Hid _ := (HX.out.less (Lo' := []) nb).next ht
 clear ht C HX hW1 p1 p2 p3
 have hr := rsc_all zS sy rfl
 go_wp2_with (refine wpList_store_row rfl 41 _ _ rfl (w.heap.size + 5) (rsc zS sy).toArray rfl rfl 41 _ (X2.out.bm mc) (by kernel_rfl) rfl hr ?_)
 refine bj X2.out ?_
 exact ⟨rfl, _, (X2.out.poke (setRow_kept _ _ _) (setRow_at (X2.out.bm mc)) nb).to, rfl, HB.out.ask rfl⟩
end Go.Proofs.YtkdkgdollmmcnaaGreat
