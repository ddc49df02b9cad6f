import Derived.Shelf.Abstract
import Derived.Test.YtdplfgcoaddbdaaGreatXbm
set_option maxHeartbeats 4000000
set_option maxRecDepth 100000
set_option linter.unusedVariables false
set_option linter.unusedSimpArgs false
namespace Go.Proofs.YtdplfgcoaddbdaaGreat.Lat
open Go.RowKit
theorem below_of{a b:Nat}{w w':World}(e:a=b)(h:Below a w w'):Below b w w':=e▸h
theorem bx6{W:World}{b:Nat}{a0 a1 a2 a3 a4 a5:Value}(v:Tm)(h0:W.heap[b]?=some (.cells #[a0,a1,a2,a3,a4,a5] 242 (0,0))):((((((W.setCell ⟨b,0,none⟩ (.int .u64 v.sp)).setCell ⟨b,1,none⟩ (.int .u32 v.sl)).setCell ⟨b,2,none⟩ (.int .u64 v.mp)).setCell ⟨b,3,none⟩ (.int .u32 v.ml)).setCell ⟨b,4,none⟩ (.string (bs v.prim))).setCell ⟨b,5,none⟩ (.slice v.sv.1 v.sv.2.1 v.sv.2.2)).heap[b]?=some (.cells #[.int .u64 v.sp,.int .u32 v.sl,.int .u64 v.mp,.int .u32 v.ml,.string (bs v.prim),.slice v.sv.1 v.sv.2.1 v.sv.2.2] 242 (0,0)):=by have h1:(W.setCell ⟨b,0,none⟩ (.int .u64 v.sp)).heap[b]?=some (.cells #[.int .u64 v.sp,a1,a2,a3,a4,a5] 242 (0,0)):=block_set _ h0;generalize W.setCell ⟨b,0,none⟩ (.int .u64 v.sp)=W1 at*;have h2:(W1.setCell ⟨b,1,none⟩ (.int .u32 v.sl)).heap[b]?=some (.cells #[.int .u64 v.sp,.int .u32 v.sl,a2,a3,a4,a5] 242 (0,0)):=block_set _ h1;generalize W1.setCell ⟨b,1,none⟩ (.int .u32 v.sl)=W2 at*;have h3:(W2.setCell ⟨b,2,none⟩ (.int .u64 v.mp)).heap[b]?=some (.cells #[.int .u64 v.sp,.int .u32 v.sl,.int .u64 v.mp,a3,a4,a5] 242 (0,0)):=block_set _ h2;generalize W2.setCell ⟨b,2,none⟩ (.int .u64 v.mp)=W3 at*;have h4:(W3.setCell ⟨b,3,none⟩ (.int .u32 v.ml)).heap[b]?=some (.cells #[.int .u64 v.sp,.int .u32 v.sl,.int .u64 v.mp,.int .u32 v.ml,a4,a5] 242 (0,0)):=block_set _ h3;generalize W3.setCell ⟨b,3,none⟩ (.int .u32 v.ml)=W4 at*;have h5:(W4.setCell ⟨b,4,none⟩ (.string (bs v.prim))).heap[b]?=some (.cells #[.int .u64 v.sp,.int .u32 v.sl,.int .u64 v.mp,.int .u32 v.ml,.string (bs v.prim),a5] 242 (0,0)):=block_set _ h4;generalize W4.setCell ⟨b,4,none⟩ (.string (bs v.prim))=W5 at*;have h6:(W5.setCell ⟨b,5,none⟩ (.slice v.sv.1 v.sv.2.1 v.sv.2.2)).heap[b]?=some (.cells #[.int .u64 v.sp,.int .u32 v.sl,.int .u64 v.mp,.int .u32 v.ml,.string (bs v.prim),.slice v.sv.1 v.sv.2.1 v.sv.2.2] 242 (0,0)):=block_set _ h5;exact h6
theorem six_kept(W:World)(b:Nat)(v:Tm):Kept (fun i=>i=b) W ((((((W.setCell ⟨b,0,none⟩ (.int .u64 v.sp)).setCell ⟨b,1,none⟩ (.int .u32 v.sl)).setCell ⟨b,2,none⟩ (.int .u64 v.mp)).setCell ⟨b,3,none⟩ (.int .u32 v.ml)).setCell ⟨b,4,none⟩ (.string (bs v.prim))).setCell ⟨b,5,none⟩ (.slice v.sv.1 v.sv.2.1 v.sv.2.2)):=by have t:∀{w1 w2 w3:World},Kept (fun i=>i=b) w1 w2->Kept (fun i=>i=b) w2 w3->Kept (fun i=>i=b) w1 w3:=fun h k=>h.trans k (fun i e=>.inl e);exact t (t (t (t (t (set_kept' _ _ _ _) (set_kept' _ _ _ _)) (set_kept' _ _ _ _)) (set_kept' _ _ _ _)) (set_kept' _ _ _ _)) (set_kept' _ _ _ _)
theorem bx5_kept(W:World)(b:Nat)(v:Cv):Kept (fun i=>i=b) W (((((W.setCell ⟨b,0,none⟩ (.int .u32 v.1.1)).setCell ⟨b,1,none⟩ (.int .u32 v.1.2)).setCell ⟨b,2,none⟩ (.string (bs v.2.key))).setCell ⟨b,3,none⟩ (.string (bs v.2.val))).setCell ⟨b,4,none⟩ (.bool v.2.dead)):=by have t:∀{w1 w2 w3:World},Kept (fun i=>i=b) w1 w2->Kept (fun i=>i=b) w2 w3->Kept (fun i=>i=b) w1 w3:=fun h k=>h.trans k (fun i e=>.inl e);exact t (t (t (t (set_kept' _ _ _ _) (set_kept' _ _ _ _)) (set_kept' _ _ _ _)) (set_kept' _ _ _ _)) (set_kept' _ _ _ _)
structure Ob(w:World)(bx bc:Nat)(v:Cv)(W:World):Prop where
 bel:Below w.heap.size w W
 b0:W.heap[bx]?=some (.cells #[.int .u32 0,.int .u32 0,.int .u64 0,.int .u32 0,.int .u64 0,.int .u32 0,.string ⟨#[]⟩,.string ⟨#[]⟩,.string ⟨#[]⟩,.bool false] 69 (0,0))
 b1:W.heap[bc]?=some (.cells #[.int .u32 v.1.1,.int .u32 v.1.2,.string (bs v.2.key),.string (bs v.2.val),.bool v.2.dead] 129 (0,0))
 low:w.heap.size<=bx
 ne:bx≠bc
theorem Ob.kept{w W W':World}{bx bc:Nat}{v:Cv}{F:Nat->Prop}(h:Ob w bx bc v W)(hk:Kept F W W')(h0:¬F bx)(h1:¬F bc)(hF:∀k,F k->w.heap.size<=k):Ob w bx bc v W':=
 ⟨h.bel.trans (hk.below h.bel.size hF),by rw[hk.block _ (gsz h.b0) h0];exact h.b0,by rw[hk.block _ (gsz h.b1) h1];exact h.b1,h.low,h.ne⟩
theorem Ob.on{w W W':World}{bx bc:Nat}{v:Cv}(h:Ob w bx bc v W)(hb:Below W.heap.size W W'):Ob w bx bc v W':=h.kept (Kept.of_below (F:=fun _=>False) hb) (fun h=>h) (fun h=>h) (fun _ h=>h.elim)
theorem ob_new{w W1 Wz:World}{bx:Nat}(v:Cv)(hb:Below w.heap.size w W1)(h0:W1.heap[bx]?=some (.cells #[.int .u32 0,.int .u32 0,.int .u64 0,.int .u32 0,.int .u64 0,.int .u32 0,.string ⟨#[]⟩,.string ⟨#[]⟩,.string ⟨#[]⟩,.bool false] 69 (0,0)))(hl:w.heap.size<=bx)(hz:W1.alloc (.cells #[.int .u32 0,.int .u32 0,.string ⟨#[]⟩,.string ⟨#[]⟩,.bool false] 129)=Wz):Ob w bx W1.heap.size v (((((Wz.setCell ⟨W1.heap.size,0,none⟩ (.int .u32 v.1.1)).setCell ⟨W1.heap.size,1,none⟩ (.int .u32 v.1.2)).setCell ⟨W1.heap.size,2,none⟩ (.string (bs v.2.key))).setCell ⟨W1.heap.size,3,none⟩ (.string (bs v.2.val))).setCell ⟨W1.heap.size,4,none⟩ (.bool v.2.dead)):=by
 have hlt:=(gsz h0);have hx:Wz.heap[W1.heap.size]?=some (.cells #[.int .u32 0,.int .u32 0,.string ⟨#[]⟩,.string ⟨#[]⟩,.bool false] 129 (0,0)):=by rw[<-hz];exact heap_alloc_new W1 _
 have h1:Wz.heap[bx]?=some (.cells #[.int .u32 0,.int .u32 0,.int .u64 0,.int .u32 0,.int .u64 0,.int .u32 0,.string ⟨#[]⟩,.string ⟨#[]⟩,.string ⟨#[]⟩,.bool false] 69 (0,0)):=by rw[<-hz,(al (W:=W1) _).block _ hlt];exact h0
 have hbz:Below w.heap.size w Wz:=by rw[<-hz];exact hb.alloc hb.size _
 have e:=bx5 v hx;have hk:=bx5_kept Wz W1.heap.size v;have hbl:=bx5_below v hbz hb.size;refine⟨hbl,?_,e,hl,Nat.ne_of_lt hlt⟩;rw[hk.block bx (gsz h1) (Nat.ne_of_lt hlt)];exact h1
theorem ob_terms{w W2 W3:World}{bx bc:Nat}{v:Cv}(tm:Tm)(h:Ob w bx bc v W2)(hz:W2.alloc (.cells #[.int .u64 0,.int .u32 0,.int .u64 0,.int .u32 0,.string ⟨#[]⟩,.slice none 0 0] 242)=W3):Ob w bx bc v ((((((W3.setCell ⟨W2.heap.size,0,none⟩ (.int .u64 tm.sp)).setCell ⟨W2.heap.size,1,none⟩ (.int .u32 tm.sl)).setCell ⟨W2.heap.size,2,none⟩ (.int .u64 tm.mp)).setCell ⟨W2.heap.size,3,none⟩ (.int .u32 tm.ml)).setCell ⟨W2.heap.size,4,none⟩ (.string (bs tm.prim))).setCell ⟨W2.heap.size,5,none⟩ (.slice tm.sv.1 tm.sv.2.1 tm.sv.2.2)).drew/\((((((W3.setCell ⟨W2.heap.size,0,none⟩ (.int .u64 tm.sp)).setCell ⟨W2.heap.size,1,none⟩ (.int .u32 tm.sl)).setCell ⟨W2.heap.size,2,none⟩ (.int .u64 tm.mp)).setCell ⟨W2.heap.size,3,none⟩ (.int .u32 tm.ml)).setCell ⟨W2.heap.size,4,none⟩ (.string (bs tm.prim))).setCell ⟨W2.heap.size,5,none⟩ (.slice tm.sv.1 tm.sv.2.1 tm.sv.2.2)).drew.heap[W2.heap.size]?=some (.cells #[.int .u64 tm.sp,.int .u32 tm.sl,.int .u64 tm.mp,.int .u32 tm.ml,.string (bs tm.prim),.slice tm.sv.1 tm.sv.2.1 tm.sv.2.2] 242 (0,0)):=by
 have h3:Ob w bx bc v W3:=by rw[<-hz];exact h.on (al _)
 have hx:W3.heap[W2.heap.size]?=some (.cells #[.int .u64 0,.int .u32 0,.int .u64 0,.int .u32 0,.string ⟨#[]⟩,.slice none 0 0] 242 (0,0)):=by rw[<-hz];exact heap_alloc_new W2 _
 have hk:=six_kept W3 W2.heap.size tm;have e:=bx6 tm hx;have n0:=(gsz h.b0);have n1:=(gsz h.b1);have r:=h3.kept hk (fun e=>by omega) (fun e=>by omega) (fun k e=>by rw[e];exact h.bel.size);generalize ((((((W3.setCell ⟨W2.heap.size,0,none⟩ (.int .u64 tm.sp)).setCell ⟨W2.heap.size,1,none⟩ (.int .u32 tm.sl)).setCell ⟨W2.heap.size,2,none⟩ (.int .u64 tm.mp)).setCell ⟨W2.heap.size,3,none⟩ (.int .u32 tm.ml)).setCell ⟨W2.heap.size,4,none⟩ (.string (bs tm.prim))).setCell ⟨W2.heap.size,5,none⟩ (.slice tm.sv.1 tm.sv.2.1 tm.sv.2.2))=X at*;exact⟨⟨r.bel.drew,r.b0,r.b1,r.low,r.ne⟩,e⟩
theorem of19{B p pm hb:Nat}{t:Tr}{m:Mm}{T:Tb}{w:World}(k:List UInt8)(h:Tx B p pm hb t m w)(hr:Rel t.toL m T):Calls Tryz.prog 105 #[.pointer (some ⟨p,0,none⟩),.string (bs k)] w fun e w'=>e=.returned (ofV k (getF k T))/\Below w.heap.size w w':=by
 have hgT:=hr.get k;obtain⟨W0,hW0⟩:=xj (w.alloc (.cells #[.int .u32 0,.int .u32 0,.int .u64 0,.int .u32 0,.int .u64 0,.int .u32 0,.string ⟨#[]⟩,.string ⟨#[]⟩,.string ⟨#[]⟩,.bool false] 69));have hb0:Below w.heap.size w W0:=by rw[<-hW0];exact al _
 have hx0:W0.heap[w.heap.size]?=some (.cells #[.int .u32 0,.int .u32 0,.int .u64 0,.int .u32 0,.int .u64 0,.int .u32 0,.string ⟨#[]⟩,.string ⟨#[]⟩,.string ⟨#[]⟩,.bool false] 69 (0,0)):=by rw[<-hW0];exact heap_alloc_new w _
 have h0:=h.on hb0;obtain⟨c0,-⟩:=h0.cells;have CG:Hid (1=1->Calls Tryz.prog 172 #[.pointer (some ⟨pm,0,none⟩),.string (bs k)] W0 fun e w'=>e=.returned (getV (getF k t.toL))/\Below W0.heap.size W0 w'):=fun _=>get13 k h0.map;obtain⟨bx,hbx⟩:=xj w.heap.size;have HLe:Hid (w.heap.size<=bx):=Nat.le_of_eq hbx;have HX:Hid (∀W1,Below W0.heap.size W0 W1->Tx B p pm hb t m W1/\Below w.heap.size w W1/\W1.heap[bx]?=some (.cells #[.int .u32 0,.int .u32 0,.int .u64 0,.int .u32 0,.int .u64 0,.int .u32 0,.string ⟨#[]⟩,.string ⟨#[]⟩,.string ⟨#[]⟩,.bool false] 69 (0,0))):=fun W1 hb1=>
  ⟨h0.on hb1,hb0.trans (hb1.mono hb0.size),by rw[<-hbx,hb1.block _ (gsz hx0)];exact hx0⟩
 clear h h0 hb0 hx0;cases hg:getF k t.toL with
 |none=>
  rw[hg]at hgT CG;rw[hgT];simp only[getV,zc,show bs []=⟨#[]⟩from rfl]at CG;simp only[Option.map_none];clear hr hgT hg;go_enter Tryz.func105,Tryz.ntmps105;go_wp2_with fail;refine(CG.out (by trivial)).mono ?_;rintro e w1 ⟨rfl,hb1⟩;obtain⟨Wz,hWz⟩:=xj (w1.alloc (.cells #[.int .u32 0,.int .u32 0,.string ⟨#[]⟩,.string ⟨#[]⟩,.bool false] 129));have HO:Hid _:=ob_new zc (HX.out w1 hb1).2.1 (HX.out w1 hb1).2.2 HLe.out hWz;have hxz:Wz.heap[w1.heap.size]?=some (.cells #[.int .u32 0,.int .u32 0,.string ⟨#[]⟩,.string ⟨#[]⟩,.bool false] 129 (0,0)):=by rw[<-hWz];exact heap_alloc_new w1 _
  clear hb1 CG HX;simp only[zc,show bs []=⟨#[]⟩from rfl]at HO;obtain⟨bc,hbc⟩:=xj w1.heap.size;rw[hbc]at HO hxz;have u0:Wz.cell? ⟨bc,0,none⟩=some (.int .u32 0):=block_cell hxz rfl;have u1:Wz.cell? ⟨bc,1,none⟩=some (.int .u32 0):=block_cell hxz rfl;have u2:Wz.cell? ⟨bc,2,none⟩=some (.string ⟨#[]⟩):=block_cell hxz rfl;have u3:Wz.cell? ⟨bc,3,none⟩=some (.string ⟨#[]⟩):=block_cell hxz rfl;have u4:Wz.cell? ⟨bc,4,none⟩=some (.bool false):=block_cell hxz rfl;have uf0:Wz.frozen? ⟨bc,0,none⟩=false:=block_frozen hxz 0;have uf1:Wz.frozen? ⟨bc,1,none⟩=false:=block_frozen hxz 1;have uf2:Wz.frozen? ⟨bc,2,none⟩=false:=block_frozen hxz 2;have uf3:Wz.frozen? ⟨bc,3,none⟩=false:=block_frozen hxz 3;have uf4:Wz.frozen? ⟨bc,4,none⟩=false:=block_frozen hxz 4;obtain⟨W2,hW2⟩:=xj (((((Wz.setCell ⟨bc,0,none⟩ (.int .u32 0)).setCell ⟨bc,1,none⟩ (.int .u32 0)).setCell ⟨bc,2,none⟩ (.string ⟨#[]⟩)).setCell ⟨bc,3,none⟩ (.string ⟨#[]⟩)).setCell ⟨bc,4,none⟩ (.bool false));rw[hW2]at HO;have HB0:=HO.out.b0;clear hxz;have z0:W2.cell? ⟨bx,0,none⟩=some (.int .u32 0):=block_cell HB0 rfl;have z1:W2.cell? ⟨bx,1,none⟩=some (.int .u32 0):=block_cell HB0 rfl;have z2:W2.cell? ⟨bx,2,none⟩=some (.int .u64 0):=block_cell HB0 rfl;have z3:W2.cell? ⟨bx,3,none⟩=some (.int .u32 0):=block_cell HB0 rfl;have z4:W2.cell? ⟨bx,4,none⟩=some (.int .u64 0):=block_cell HB0 rfl;have z5:W2.cell? ⟨bx,5,none⟩=some (.int .u32 0):=block_cell HB0 rfl;have z6:W2.cell? ⟨bx,6,none⟩=some (.string ⟨#[]⟩):=block_cell HB0 rfl;have z7:W2.cell? ⟨bx,7,none⟩=some (.string ⟨#[]⟩):=block_cell HB0 rfl;have z8:W2.cell? ⟨bx,8,none⟩=some (.string ⟨#[]⟩):=block_cell HB0 rfl;have z9:W2.cell? ⟨bx,9,none⟩=some (.bool false):=block_cell HB0 rfl;have f0:W2.frozen? ⟨bx,0,none⟩=false:=block_frozen HB0 0;have f1:W2.frozen? ⟨bx,1,none⟩=false:=block_frozen HB0 1;have f2:W2.frozen? ⟨bx,2,none⟩=false:=block_frozen HB0 2;have f3:W2.frozen? ⟨bx,3,none⟩=false:=block_frozen HB0 3;have f4:W2.frozen? ⟨bx,4,none⟩=false:=block_frozen HB0 4;have f5:W2.frozen? ⟨bx,5,none⟩=false:=block_frozen HB0 5;have f6:W2.frozen? ⟨bx,6,none⟩=false:=block_frozen HB0 6;have f7:W2.frozen? ⟨bx,7,none⟩=false:=block_frozen HB0 7;have f8:W2.frozen? ⟨bx,8,none⟩=false:=block_frozen HB0 8;have f9:W2.frozen? ⟨bx,9,none⟩=false:=block_frozen HB0 9;have HI:Hid _:=ten_set ([],zi) HB0;have HBw:Hid _:=ten_below ([],zi) HO.out.bel HLe.out;clear HB0;go_wp2_with fail;obtain⟨g0,g1,g2,g3,g4,g5,g6,g7,g8,g9⟩:=HI.out;simp only[Nat.zero_add,zi,ui,uw,sd,show bs []=⟨#[]⟩from rfl]at g0 g1 g2 g3 g4 g5 g6 g7 g8 g9;refine bodyPost_ret (v:=ofV k none) (by simp[results,Tryz.results105,go_sem,g0,g1,g2,g3,g4,g5,g6,g7,g8,g9,ofV,inV,zi,ui,uw,sd,show bs []=⟨#[]⟩from rfl]) rfl ?_;exact⟨rfl,HBw.out⟩
 |some v=>
  rw[hg]at hgT CG;have HK:Hid (v.2.key=k):=hr.key (k,v) ((getF_mem hr.srt).1 hg);rw[hgT];simp only[getV]at CG;simp only[Option.map_some,clI];obtain⟨tm,htm⟩:=xj ((getM v.1 m).getD zt);have HQ:Hid (∀W,Tx B p pm hb t m W->(Instr.lookup 124 (.map (some hb)) (.agg #[.int .u32 v.1.1,.int .u32 v.1.2]) false).run Tryz.prog W=.ok (.agg #[.int .u64 tm.sp,.int .u32 tm.sl,.int .u64 tm.mp,.int .u32 tm.ml,.string (bs tm.prim),.slice tm.sv.1 tm.sv.2.1 tm.sv.2.2]) W):=fun W hW=>by have:=run_look hW.gm v.1;rw[htm]at this;exact this
  rw[htm];clear hr hgT hg htm;go_enter Tryz.func105,Tryz.ntmps105;go_wp2_with fail;refine(CG.out (by trivial)).mono ?_;rintro e w1 ⟨rfl,hb1⟩;obtain⟨Wz,hWz⟩:=xj (w1.alloc (.cells #[.int .u32 0,.int .u32 0,.string ⟨#[]⟩,.string ⟨#[]⟩,.bool false] 129));have HO:Hid _:=ob_new v (HX.out w1 hb1).2.1 (HX.out w1 hb1).2.2 HLe.out hWz;have hxz:Wz.heap[w1.heap.size]?=some (.cells #[.int .u32 0,.int .u32 0,.string ⟨#[]⟩,.string ⟨#[]⟩,.bool false] 129 (0,0)):=by rw[<-hWz];exact heap_alloc_new w1 _
  have HT:Hid (Tx B p pm hb t m (((((Wz.setCell ⟨w1.heap.size,0,none⟩ (.int .u32 v.1.1)).setCell ⟨w1.heap.size,1,none⟩ (.int .u32 v.1.2)).setCell ⟨w1.heap.size,2,none⟩ (.string (bs v.2.key))).setCell ⟨w1.heap.size,3,none⟩ (.string (bs v.2.val))).setCell ⟨w1.heap.size,4,none⟩ (.bool v.2.dead))):=by
   have h1:=(HX.out w1 hb1).1;have h2:Tx B p pm hb t m Wz:=by rw[<-hWz];exact h1.on (al _)
   exact h2.kept (bx5_kept Wz w1.heap.size v) (fun i hi e=>by have:=(h1.lt hi).2;omega)
  clear hb1 CG HX;obtain⟨bc,hbc⟩:=xj w1.heap.size;rw[hbc]at HO hxz HT;have k0:Wz.cell? ⟨bc,0,none⟩=some (.int .u32 0):=block_cell hxz rfl;have k1:Wz.cell? ⟨bc,1,none⟩=some (.int .u32 0):=block_cell hxz rfl;have k2:Wz.cell? ⟨bc,2,none⟩=some (.string ⟨#[]⟩):=block_cell hxz rfl;have k3:Wz.cell? ⟨bc,3,none⟩=some (.string ⟨#[]⟩):=block_cell hxz rfl;have k4:Wz.cell? ⟨bc,4,none⟩=some (.bool false):=block_cell hxz rfl;have kf0:Wz.frozen? ⟨bc,0,none⟩=false:=block_frozen hxz 0;have kf1:Wz.frozen? ⟨bc,1,none⟩=false:=block_frozen hxz 1;have kf2:Wz.frozen? ⟨bc,2,none⟩=false:=block_frozen hxz 2;have kf3:Wz.frozen? ⟨bc,3,none⟩=false:=block_frozen hxz 3;have kf4:Wz.frozen? ⟨bc,4,none⟩=false:=block_frozen hxz 4;obtain⟨W2,hW2⟩:=xj (((((Wz.setCell ⟨bc,0,none⟩ (.int .u32 v.1.1)).setCell ⟨bc,1,none⟩ (.int .u32 v.1.2)).setCell ⟨bc,2,none⟩ (.string (bs v.2.key))).setCell ⟨bc,3,none⟩ (.string (bs v.2.val))).setCell ⟨bc,4,none⟩ (.bool v.2.dead));rw[hW2]at HO HT;clear hxz;obtain⟨W3,hW3⟩:=xj (W2.alloc (.cells #[.int .u64 0,.int .u32 0,.int .u64 0,.int .u32 0,.string ⟨#[]⟩,.slice none 0 0] 242));have HT3:Hid (Tx B p pm hb t m W3):=by rw[<-hW3];exact HT.out.on (al _)
  have HO3:Hid (Ob w bx bc v W3):=by rw[<-hW3];exact HO.out.on (al _)
  have hx3:W3.heap[W2.heap.size]?=some (.cells #[.int .u64 0,.int .u32 0,.int .u64 0,.int .u32 0,.string ⟨#[]⟩,.slice none 0 0] 242 (0,0)):=by rw[<-hW3];exact heap_alloc_new W2 _
  have HOt:Hid _:=ob_terms tm HO.out hW3;have q0:=HQ.out W2 HT.out;have q1:=HQ.out W2.drew (HT.out.on ((Below.refl _ _).drew));have q2:=HQ.out W3 HT3.out;have q3:=HQ.out W3.drew (HT3.out.on ((Below.refl _ _).drew));have HB1:=HO.out.b1;have HB3:=HO3.out.b1;have u0:W2.cell? ⟨bc,0,none⟩=some (.int .u32 v.1.1):=block_cell HB1 rfl;have u1:W2.cell? ⟨bc,1,none⟩=some (.int .u32 v.1.2):=block_cell HB1 rfl;have u2:W2.cell? ⟨bc,2,none⟩=some (.string (bs v.2.key)):=block_cell HB1 rfl;have u3:W2.cell? ⟨bc,3,none⟩=some (.string (bs v.2.val)):=block_cell HB1 rfl;have u4:W2.cell? ⟨bc,4,none⟩=some (.bool v.2.dead):=block_cell HB1 rfl;have v0:W3.cell? ⟨bc,0,none⟩=some (.int .u32 v.1.1):=block_cell HB3 rfl;have v1:W3.cell? ⟨bc,1,none⟩=some (.int .u32 v.1.2):=block_cell HB3 rfl;have v2:W3.cell? ⟨bc,2,none⟩=some (.string (bs v.2.key)):=block_cell HB3 rfl;have v3:W3.cell? ⟨bc,3,none⟩=some (.string (bs v.2.val)):=block_cell HB3 rfl;have v4:W3.cell? ⟨bc,4,none⟩=some (.bool v.2.dead):=block_cell HB3 rfl;have s0:W3.cell? ⟨W2.heap.size,0,none⟩=some (.int .u64 0):=block_cell hx3 rfl;have s1:W3.cell? ⟨W2.heap.size,1,none⟩=some (.int .u32 0):=block_cell hx3 rfl;have s2:W3.cell? ⟨W2.heap.size,2,none⟩=some (.int .u64 0):=block_cell hx3 rfl;have s3:W3.cell? ⟨W2.heap.size,3,none⟩=some (.int .u32 0):=block_cell hx3 rfl;have s4:W3.cell? ⟨W2.heap.size,4,none⟩=some (.string ⟨#[]⟩):=block_cell hx3 rfl;have s5:W3.cell? ⟨W2.heap.size,5,none⟩=some (.slice none 0 0):=block_cell hx3 rfl;have sf0:W3.frozen? ⟨W2.heap.size,0,none⟩=false:=block_frozen hx3 0;have sf1:W3.frozen? ⟨W2.heap.size,1,none⟩=false:=block_frozen hx3 1;have sf2:W3.frozen? ⟨W2.heap.size,2,none⟩=false:=block_frozen hx3 2;have sf3:W3.frozen? ⟨W2.heap.size,3,none⟩=false:=block_frozen hx3 3;have sf4:W3.frozen? ⟨W2.heap.size,4,none⟩=false:=block_frozen hx3 4;have sf5:W3.frozen? ⟨W2.heap.size,5,none⟩=false:=block_frozen hx3 5;have d1:=HT.out.cells.2;have d2:=HT3.out.cells.2;clear HB1 HB3 hx3 HQ HT HT3 HO HO3 c0;obtain⟨bt,hbt⟩:=xj W2.heap.size;rw[hbt]at HOt s0 sf0 s1 sf1 s2 sf2 s3 sf3 s4 sf4 s5 sf5;go_wp2_with fail;go_region;obtain⟨W4,hW4⟩:=xj ((((((W3.setCell ⟨bt,0,none⟩ (.int .u64 tm.sp)).setCell ⟨bt,1,none⟩ (.int .u32 tm.sl)).setCell ⟨bt,2,none⟩ (.int .u64 tm.mp)).setCell ⟨bt,3,none⟩ (.int .u32 tm.ml)).setCell ⟨bt,4,none⟩ (.string (bs tm.prim))).setCell ⟨bt,5,none⟩ (.slice tm.sv.1 tm.sv.2.1 tm.sv.2.2)).drew;rw[hW4]at HOt|-;clear hW4 hW3 hbt hW2 hWz hbc k0 kf0 k1 kf1 k2 kf2 k3 kf3 k4 kf4 d1 d2 q0 q1 q2 q3 u0 v0 u1 v1 u2 v2 u3 v3 u4 v4 s0 sf0 s1 sf1 s2 sf2 s3 sf3 s4 sf4 s5 sf5;have HB0:=HOt.out.1.b0;have HB1:=HOt.out.1.b1;have HB2:=HOt.out.2;have z0:W4.cell? ⟨bx,0,none⟩=some (.int .u32 0):=block_cell HB0 rfl;have z1:W4.cell? ⟨bx,1,none⟩=some (.int .u32 0):=block_cell HB0 rfl;have z2:W4.cell? ⟨bx,2,none⟩=some (.int .u64 0):=block_cell HB0 rfl;have z3:W4.cell? ⟨bx,3,none⟩=some (.int .u32 0):=block_cell HB0 rfl;have z4:W4.cell? ⟨bx,4,none⟩=some (.int .u64 0):=block_cell HB0 rfl;have z5:W4.cell? ⟨bx,5,none⟩=some (.int .u32 0):=block_cell HB0 rfl;have z6:W4.cell? ⟨bx,6,none⟩=some (.string ⟨#[]⟩):=block_cell HB0 rfl;have z7:W4.cell? ⟨bx,7,none⟩=some (.string ⟨#[]⟩):=block_cell HB0 rfl;have z8:W4.cell? ⟨bx,8,none⟩=some (.string ⟨#[]⟩):=block_cell HB0 rfl;have z9:W4.cell? ⟨bx,9,none⟩=some (.bool false):=block_cell HB0 rfl;have f0:W4.frozen? ⟨bx,0,none⟩=false:=block_frozen HB0 0;have f1:W4.frozen? ⟨bx,1,none⟩=false:=block_frozen HB0 1;have f2:W4.frozen? ⟨bx,2,none⟩=false:=block_frozen HB0 2;have f3:W4.frozen? ⟨bx,3,none⟩=false:=block_frozen HB0 3;have f4:W4.frozen? ⟨bx,4,none⟩=false:=block_frozen HB0 4;have f5:W4.frozen? ⟨bx,5,none⟩=false:=block_frozen HB0 5;have f6:W4.frozen? ⟨bx,6,none⟩=false:=block_frozen HB0 6;have f7:W4.frozen? ⟨bx,7,none⟩=false:=block_frozen HB0 7;have f8:W4.frozen? ⟨bx,8,none⟩=false:=block_frozen HB0 8;have f9:W4.frozen? ⟨bx,9,none⟩=false:=block_frozen HB0 9;have u0:W4.cell? ⟨bc,0,none⟩=some (.int .u32 v.1.1):=block_cell HB1 rfl;have u1:W4.cell? ⟨bc,1,none⟩=some (.int .u32 v.1.2):=block_cell HB1 rfl;have u2:W4.cell? ⟨bc,2,none⟩=some (.string (bs v.2.key)):=block_cell HB1 rfl;have u3:W4.cell? ⟨bc,3,none⟩=some (.string (bs v.2.val)):=block_cell HB1 rfl;have u4:W4.cell? ⟨bc,4,none⟩=some (.bool v.2.dead):=block_cell HB1 rfl;have s0:W4.cell? ⟨bt,0,none⟩=some (.int .u64 tm.sp):=block_cell HB2 rfl;have s1:W4.cell? ⟨bt,1,none⟩=some (.int .u32 tm.sl):=block_cell HB2 rfl;have s2:W4.cell? ⟨bt,2,none⟩=some (.int .u64 tm.mp):=block_cell HB2 rfl;have s3:W4.cell? ⟨bt,3,none⟩=some (.int .u32 tm.ml):=block_cell HB2 rfl;have s4:W4.cell? ⟨bt,4,none⟩=some (.string (bs tm.prim)):=block_cell HB2 rfl;have s5:W4.cell? ⟨bt,5,none⟩=some (.slice tm.sv.1 tm.sv.2.1 tm.sv.2.2):=block_cell HB2 rfl;have HI:Hid _:=ten_set (v.2.key,⟨v.1.1,v.1.2,tm.sp,tm.sl,tm.mp,tm.ml,tm.prim,v.2.val,v.2.dead⟩) HB0;have HBw:Hid _:=ten_below (v.2.key,⟨v.1.1,v.1.2,tm.sp,tm.sl,tm.mp,tm.ml,tm.prim,v.2.val,v.2.dead⟩) HOt.out.1.bel HLe.out;clear HB0 HB1 HB2 HOt;go_wp2_with fail;obtain⟨g0,g1,g2,g3,g4,g5,g6,g7,g8,g9⟩:=HI.out;simp only[Nat.zero_add]at g0 g1 g2 g3 g4 g5 g6 g7 g8 g9;refine bodyPost_ret (v:=ofV v.2.key (some ⟨v.1.1,v.1.2,tm.sp,tm.sl,tm.mp,tm.ml,tm.prim,v.2.val,v.2.dead⟩)) (by simp[results,Tryz.results105,go_sem,g0,g1,g2,g3,g4,g5,g6,g7,g8,g9,ofV,inV]) rfl ?_;exact⟨by rw[HK.out],below_of hbx HBw.out⟩
theorem claimed32{B p pm hb:Nat}{t:Tr}{m:Mm}{T:Tb}{w:World}(k:List UInt8)(h:Tx B p pm hb t m w)(hr:Rel t.toL m T):Calls Tryz.prog 140 #[.pointer (some ⟨p,0,none⟩),.string (bs k)] w fun e w'=>e=.returned (.bool (getF k T).isSome)/\Below w.heap.size w w':=by
 have hgT:=hr.get k;obtain⟨c0,-⟩:=h.cells;have CG:Hid (1=1->Calls Tryz.prog 172 #[.pointer (some ⟨pm,0,none⟩),.string (bs k)] w fun e w'=>∃v:Cv,e=.returned (.tuple #[.agg #[.int .u32 v.1.1,.int .u32 v.1.2,.string (bs v.2.key),.string (bs v.2.val),.bool v.2.dead],.bool (getF k T).isSome])/\Below w.heap.size w w'):=fun _=>by
  refine(get13 k h.map).mono ?_;rintro e w' ⟨rfl,hb⟩;cases hg:getF k t.toL with
  |none=>exact⟨zc,by rw[hgT,hg];rfl,hb⟩
  |some v=>exact⟨v,by rw[hgT,hg];rfl,hb⟩
 clear h hr hgT;generalize (getF k T).isSome=z at*;go_enter Tryz.func140,Tryz.ntmps140;go_wp2_with fail;refine(CG.out (by trivial)).mono ?_;rintro e w1 ⟨v,rfl,hb1⟩;have HB:Hid (∀o,Below w.heap.size w (w1.alloc o)):=fun o=>hb1.alloc hb1.size o;clear hb1 CG;go_wp2_with fail;go_ret;exact⟨rfl,HB.out _⟩
theorem ks_el{B:Nat}{ao:Option Addr}{cap n:Nat}{K:List (List UInt8)}{w:World}(h:RwAt B 1 (.slice ao n cap) n (kc K) w){i:Nat}(hi:i<K.length):∃b off,ao=some ⟨b,off,none⟩/\ce w b (off+i) (.string (bs (K.getD i []))):=by obtain⟨b,off,e,_,hc⟩:=RwAt.cellAt h (j:=i) (by rw[kc_length];exact hi);exact⟨b,off,e,hc i _ (by simp[kc,List.getD,hi])⟩
theorem int_snoc{T:Tb}{K:List (List UInt8)}{m:Nat}(h:m<K.length):intF T (K.take (m+1))=intF T (K.take m)++[(K.getD m [],(getF (K.getD m []) T).getD zi)]:=by rw[List.take_succ_eq_append_getElem h];simp only[intF,List.map_append,List.map_cons,List.map_nil,List.getD,List.getElem?_eq_getElem h,Option.getD_some]
theorem size_al(w:World)(o:Obj):(w.alloc o).heap.size=w.heap.size+1:=by simp
theorem intents48{B p pm hb:Nat}{t:Tr}{m:Mm}{T:Tb}{w:World}(K:List (List UInt8))(v:Value)(h:Tx B p pm hb t m w)(hr:Rel t.toL m T)(hK:RwAt w.heap.size 1 v K.length (kc K) w)(hin:∀k∈K,(getF k T).isSome=true)(hl:K.length<100000):
  Calls Tryz.prog 49 #[pz p,v] w fun e w'=>∃v',e=.returned v'/\w'.ownsRow w.heap.size 69 10 v' (intF T K).length (rowC inc (intF T K))/\Below w.heap.size w w':=by
 obtain⟨i0,hin0,hi0,hi1,hi2⟩:=info_parts info49;have HK:Hid (RwAt w.heap.size 1 v K.length (kc K) w):=hK;obtain⟨ao,cap,rfl,-,hlc,hcm,-⟩:=hK;have HOf:Hid (∀(i:Nat) W,i<K.length->Below w.heap.size w W->Calls Tryz.prog 105 #[pz p,.string (bs (K.getD i []))] W fun e w'=>∃x:Ii,e=.returned (.tuple #[inV (K.getD i [],x),.bool true])/\intF T (K.take (i+1))=intF T (K.take i)++[(K.getD i [],x)]/\Below W.heap.size W w'):=fun i W hi hb=>by
  refine(of19 (K.getD i []) (h.on hb) hr).mono ?_;rintro e w' ⟨rfl,hb'⟩;have hk:=hin (K.getD i []) (by rw[List.getD,List.getElem?_eq_getElem hi];exact List.getElem_mem hi);cases hg:getF (K.getD i []) T with
  |none=>rw[hg]at hk;cases hk
  |some x=>
   refine⟨x,rfl,?_,hb'⟩;rw[int_snoc hi,hg];rfl
 have HE:Hid (∀(i:Nat) W,i<K.length->Below w.heap.size w W->∃b off,ao=some ⟨b,off,none⟩/\ce W b (off+i) (.string (bs (K.getD i [])))):=fun i W hi hb=>ks_el (RwAt.on HK.out hb) hi;have hL9:K.length<9223372036854775808:=by omega
 have HLn:Hid (K.length<100000):=hl;clear h hr hin hl hlc hcm HK;go_enter Tryz.func49,Tryz.ntmps49;go_wp2_with fail;go_loopw [5,12] (fun vv i wr=>∃q:Nat,q<=K.length/\i=iw q/\wr.ownsRow w.heap.size 69 10 vv (intF T (K.take q)).length (rowC inc (intF T (K.take q)))/\Below w.heap.size w wr) (fun _ i _=>K.length-(intOf i).toNat)
 case atStart=>exact⟨0,Nat.zero_le _,rfl,own_nil _ _ _ _,Below.refl _ _⟩
 case round=>
  obtain⟨q,hq,rfl,hown,hbr⟩:=hrel;obtain⟨sa,sc,rfl,-,-,-,-⟩:=rw_own hown;have HO:Hid _:=hown;have HB:Hid (Below w.heap.size w wr):=hbr;clear hown hbr;by_cases hml:q<K.length
  ·obtain⟨b,off,rfl,e0⟩:=HE.out q wr hml HB.out;have hml':(q:Int)<K.length:=by omega
   have CO:Hid (1=1->_):=fun _=>HOf.out q wr hml HB.out;have hln:(intF T (K.take q)).length<100000:=by rw[int_len];have:=List.length_take_le q K;have:=HLn.out;omega
   obtain⟨R,hR⟩:=xj (intF T (K.take q));rw[hR]at HO hln CO;obtain⟨R1,hR1⟩:=xj (intF T (K.take (q+1)));rw[hR1]at CO;have HR1:Hid (intF T (K.take (q+1))=R1):=hR1;have HQ:Hid (q+1<=K.length):=hml;rw[hR];clear hR hR1 HE HOf hq;generalize K.getD q []=a at*;go_wp2_with fail;refine(CO.out (by trivial)).mono ?_;rintro e w2 ⟨s,rfl,hS,hb2⟩;have HS:Hid (R1=R++[(a,s)]):=hS;have HB2:Hid (Below w.heap.size w w2):=HB.out.trans (hb2.mono HB.out.size);have HOw:Hid (Ow w.heap.size 69 10 (.slice sa R.length sc) R.length (rowC inc R) ((w2.alloc (.cells (inc (a,s)).toArray 69)).heap.size+1) (.slice (some ⟨(w2.alloc (.cells (inc (a,s)).toArray 69)).heap.size,0,none⟩) 1 1) 1 (rowC inc [(a,s)]) ((w2.alloc (.cells (inc (a,s)).toArray 69)).alloc (.cells (inc (a,s)).toArray 69))):=in_ow (a,s) ((own_on HO.out hb2).alloc _) (Nat.le_trans HB2.out.size (by simp)) (by omega);have HBz:Hid (Below w.heap.size w ((w2.alloc (.cells (inc (a,s)).toArray 69)).alloc (.cells (inc (a,s)).toArray 69))):=(HB2.out.alloc HB2.out.size _).alloc (Nat.le_trans HB2.out.size (by simp)) _;clear hS hb2 HO HB HB2 CO e0;simp only[inV];simp only[inc]at HOw HBz;rw[size_al]at HOw;go_wp2_with (at_builtin;refine wpList_append_rw HOw.out Tryz.underlying47 hin0 hi0 hi1 hi2 rfl (by decide) (by decide) (.tmp 22) (.tmp 24) rfl rfl rfl rfl ?_);intro v' w4 hown hg hat;have HB4:Hid (Below w.heap.size w w4):=below_own HBz.out HOw.out.size HOw.out.own hg;obtain⟨sa4,sc4,rfl,-,-,-,-⟩:=rw_own hown;have HO4:Hid (w4.ownsRow w.heap.size 69 10 (.slice sa4 (R.length+1) sc4) (R++[(a,s)]).length (rowC inc (R++[(a,s)]))):=by rw[rowC_append,List.length_append];exact hown
   clear hown hg hat HOw HBz;go_wp2_with fail;go_roundw
   case rel=>exact⟨q+1,HQ.out,by go_num,by rw[HR1.out,HS.out];exact HO4.out,HB4.out⟩
   case measure=>simp[intOf];omega
  ·have hml':¬(q:Int)<K.length:=by omega
   have HZ:Hid (intF T K=intF T (K.take q)):=by show _=_;rw[List.take_of_length_le (by omega)]
   obtain⟨R,hR⟩:=xj (intF T (K.take q));rw[hR]at HO HZ;rw[hR];clear hR;go_wp2_with fail;go_ret;exact⟨_,rfl,by rw[HZ.out];exact HO.out,HB.out⟩
theorem key28(k:List UInt8)(w:World):Calls Tryz.prog 136 #[sd k] w fun e w'=>e=.returned (.bool (kOk k))/\w'=w:=by
 have hs:=bs_size k;by_cases h1:1<=k.length
 ·by_cases h2:k.length<=32
  ·have hk:kOk k=true:=by simp[kOk,h1,h2]
   rw[hk];have h1':(1:Int)<=k.length:=by omega
   have h2':(k.length:Int)<=32:=by omega
   clear hk;go_enter Tryz.func136,Tryz.ntmps136;go_wp2_with fail;go_ret;exact⟨rfl,rfl⟩
  ·have hk:kOk k=false:=by simp[kOk,h2]
   rw[hk];have h1':(1:Int)<=k.length:=by omega
   have h2':¬(k.length:Int)<=32:=by omega
   clear hk;go_enter Tryz.func136,Tryz.ntmps136;go_wp2_with fail;go_ret;exact⟨rfl,rfl⟩
 ·have hk:kOk k=false:=by simp[kOk,h1]
  rw[hk];have h1':¬(1:Int)<=k.length:=by omega
  clear hk;go_enter Tryz.func136,Tryz.ntmps136;go_wp2_with fail;go_ret;exact⟨rfl,rfl⟩
theorem right50(x:Wr)(w:World):Calls Tryz.prog 155 #[.agg #[sd x.key,sd x.val,.bool x.dead]] w fun e w'=>e=.returned (.bool (wOk x))/\Below w.heap.size w w':=by
 obtain⟨xk,xv,xd⟩:=x;dsimp only;have hs:=bs_size xv;have q0:((bs xv).toList==[])=xv.isEmpty:=by rw[bs_list];cases xv<;>rfl
 have CK:Hid (∀W,Calls Tryz.prog 136 #[sd xk] W fun e w'=>e=.returned (.bool (kOk xk))/\w'=W):=fun W=>key28 xk W;have HOk:Hid (∀kb,kOk xk=kb->∀eb,xv.isEmpty=eb->wOk ⟨xk,xv,xd⟩=(kb&&decide (xv.length<=256)&& !(xd&& !eb))):=fun kb h1 eb h2=>by subst h1 h2;rfl
 obtain⟨kb,hkb⟩:=xj (kOk xk);obtain⟨eb,heb⟩:=xj xv.isEmpty;rw[HOk.out kb hkb eb heb];rw[hkb]at CK;rw[heb]at q0;have HB:Hid (∀o,Below w.heap.size w (w.alloc o)):=fun o=>al o;clear hkb heb HOk;cases kb
 ·go_enter Tryz.func155,Tryz.ntmps155;go_wp2_with fail;refine(CK.out _).mono ?_;rintro e w1 ⟨rfl,rfl⟩;go_wp2_with fail;go_ret;exact⟨rfl,HB.out _⟩
 ·by_cases hv:(xv.length:Int)<=256
  ·have hv2:decide (xv.length<=256)=true:=by simp;omega
   rw[hv2];clear hv2;cases xd
   ·go_enter Tryz.func155,Tryz.ntmps155;go_wp2_with fail;refine(CK.out _).mono ?_;rintro e w1 ⟨rfl,rfl⟩;go_wp2_with fail;go_ret;exact⟨rfl,HB.out _⟩
   ·cases eb
    ·go_enter Tryz.func155,Tryz.ntmps155;go_wp2_with fail;refine(CK.out _).mono ?_;rintro e w1 ⟨rfl,rfl⟩;go_wp2_with fail;go_ret;exact⟨rfl,HB.out _⟩
    ·go_enter Tryz.func155,Tryz.ntmps155;go_wp2_with fail;refine(CK.out _).mono ?_;rintro e w1 ⟨rfl,rfl⟩;go_wp2_with fail;go_ret;exact⟨rfl,HB.out _⟩
  ·have hv2:decide (xv.length<=256)=false:=by simp;omega
   rw[hv2];clear hv2;go_enter Tryz.func155,Tryz.ntmps155;go_wp2_with fail;refine(CK.out _).mono ?_;rintro e w1 ⟨rfl,rfl⟩;go_wp2_with fail;go_ret;exact⟨rfl,HB.out _⟩
theorem above44(k:List UInt8)(w:World)(hl:k.length<1000):Calls Tryz.prog 204 #[sd k] w fun e w'=>e=.returned (.string (bs (k++[0])))/\w'=w:=by
 have hs:=bs_size k;have hd:=bs_data k;have hl':¬9223372036854775807<k.length+1:=by omega
 have e1:bs k++⟨#[0]⟩=bs (k++[0]):=by apply ByteArray.ext;simp[bs]
 go_enter Tryz.func204,Tryz.ntmps204;go_wp2_with fail;go_ret;exact⟨rfl,rfl⟩
theorem same51(x:Wr)(bp:Nat)(k:List UInt8)(w:World)(h:w.cell? ⟨bp,0,none⟩=some (sd k)):Calls Tryz.prog 156 #[.agg #[sd x.key,sd x.val,.bool x.dead],pz bp] w fun e w'=>e=.returned (.bool (x.key==k))/\Below w.heap.size w w':=by
 have hq:=bs_beq x.key k;obtain⟨W0,hW0⟩:=xj (w.alloc (.cells #[sd x.key,sd x.val,.bool x.dead] 67));have hb0:Below w.heap.size w W0:=by rw[<-hW0];exact al _
 have hx0:W0.heap[w.heap.size]?=some (.cells #[sd x.key,sd x.val,.bool x.dead] 67 (0,0)):=by rw[<-hW0];exact heap_alloc_new w _
 have z0:W0.cell? ⟨w.heap.size,0,none⟩=some (sd x.key):=block_cell hx0 rfl;have h0:W0.cell? ⟨bp,0,none⟩=some (sd k):=by rw[hb0.cell (World.block_lt_of_cell? _ _ h)];exact h
 have HB:Hid (Below w.heap.size w W0):=hb0;clear h hb0 hx0;generalize (x.key==k)=z at*;go_enter Tryz.func156,Tryz.ntmps156;go_wp2_with fail;go_ret;exact⟨rfl,HB.out⟩
theorem any_step{L:List Wr}{P:Wr->Bool}{m:Nat}(h:m<L.length):(L.drop m).any P=(P (L.getD m dw)||(L.drop (m+1)).any P):=by rw[List.drop_eq_getElem_cons h,List.any_cons,List.getD,List.getElem?_eq_getElem h];rfl
theorem index52(f:Nat)(cf:Array Value)(P:Wr->Bool)(L:List Wr)(v:Value)(w:World)(hL:WsAt w.heap.size v L w)(ef:∀args w,(callFunc f args).run Tryz.prog w=.ok (.enter f args) w)
  (HF:Hid (∀(x:Wr) W,Below w.heap.size w W->Calls Tryz.prog f (#[.agg #[sd x.key,sd x.val,.bool x.dead]]++cf) W fun e w'=>e=.returned (.bool (P x))/\Below W.heap.size W w')):
  Calls Tryz.prog 191 #[v,.func (.func f) #[] cf] w fun e w'=>∃i:Int,e=.returned (iw i)/\decide (0<=i)=L.any P/\Below w.heap.size w w':=by
 have HL:Hid (WsAt w.heap.size v L w):=hL;obtain⟨ao,cap,rfl,hlc,hcm⟩:=hL.shape;have hL9:L.length<9223372036854775808:=by omega
 have H0:Hid ((L.drop 0).any P=L.any P):=by show _=_;rw[List.drop_zero]
 have HE:Hid (∀W,Below w.heap.size w W->∀i,i<L.length->∃b off,ao=some ⟨b,off,none⟩/\WrAt W b (off+i*3) (L.getD i dw)):=fun W hW i hi=>(HL.out.on hW).el hi;obtain⟨y,hy⟩:=xj (L.any P);rw[hy]at H0|-;clear hL hlc hcm HL hy;go_enter Tryz.func191,Tryz.ntmps191;go_wp2_with fail;go_loopw [8] (fun i wr=>Below w.heap.size w wr/\∃m:Nat,m<=L.length/\i=iw m/\(L.drop m).any P=y) (fun i _=>L.length-(intOf i).toNat)
 case atStart=>exact⟨Below.refl _ _,0,Nat.zero_le _,rfl,H0.out⟩
 case round=>
  obtain⟨hbr,m,hm,rfl,hy⟩:=hrel;have HBr:Hid (Below w.heap.size w wr):=hbr;by_cases hml:m<L.length
  ·obtain⟨b,off,rfl,e0,e1,e2⟩:=HE.out wr hbr m hml;have hml':(m:Int)<L.length:=by omega
   have hm9:¬(m:Int)<0:=by omega
   have hst:=any_step (P:=P) hml;rw[hy]at hst;have HQ:Hid (m+1<=L.length):=hml;generalize L.getD m dw=x at*;have CF:Hid (1=1->_):=fun _=>HF.out x wr hbr;obtain⟨z,hz⟩:=xj (P x);rw[hz]at CF hst;clear hz hbr hy HE;cases z
   ·have HY:Hid ((L.drop (m+1)).any P=y):=by show _=_;rw[hst];rfl
    clear hst;go_wp2_with fail;refine(CF.out (by trivial)).mono ?_;rintro e w1 ⟨rfl,hb1⟩;have HB1:Hid (Below w.heap.size w w1):=HBr.out.trans (hb1.mono HBr.out.size);clear hb1 CF e0 e1 e2;go_wp2_with fail;go_roundw
    case rel=>exact⟨HB1.out,m+1,HQ.out,by go_num,HY.out⟩
    case measure=>simp[intOf];omega
   ·have hy1:y=true:=hst;subst hy1;clear hst;go_wp2_with fail;refine(CF.out (by trivial)).mono ?_;rintro e w1 ⟨rfl,hb1⟩;have HB1:Hid (Below w.heap.size w w1):=HBr.out.trans (hb1.mono HBr.out.size);clear hb1 CF e0 e1 e2;go_wp2_with fail;go_ret;exact⟨_,rfl,by simp,HB1.out⟩
  ·have hml':¬(m:Int)<L.length:=by omega
   have hy1:y=false:=by rw[<-hy,List.drop_eq_nil_of_le (by omega)];rfl
   subst hy1;clear hy hbr;go_wp2_with fail;go_ret;exact⟨_,rfl,by decide,HBr.out⟩
theorem cont30(f:Nat)(cf:Array Value)(P:Wr->Bool)(L:List Wr)(v:Value)(w:World)(hL:WsAt w.heap.size v L w)(ef:∀args w,(callFunc f args).run Tryz.prog w=.ok (.enter f args) w)
  (HF:Hid (∀(x:Wr) W,Below w.heap.size w W->Calls Tryz.prog f (#[.agg #[sd x.key,sd x.val,.bool x.dead]]++cf) W fun e w'=>e=.returned (.bool (P x))/\Below W.heap.size W w')):
  Calls Tryz.prog 138 #[v,.func (.func f) #[] cf] w fun e w'=>e=.returned (.bool (L.any P))/\Below w.heap.size w w':=by
 have CI:Hid (1=1->_):=fun _=>index52 f cf P L v w hL ef HF;obtain⟨ao,cap,rfl,hlc,hcm⟩:=hL.shape;clear hL HF ef hlc hcm;generalize L.any P=y at*;go_enter Tryz.func138,Tryz.ntmps138;go_wp2_with fail;refine(CI.out (by trivial)).mono ?_;rintro e w1 ⟨i,rfl,hi,hb1⟩;have HB:Hid _:=hb1;have HI:Hid (decide (0<=i)=y):=hi;clear CI hb1 hi;go_wp2_with fail;go_ret;exact⟨by rw[<-HI.out];rfl,HB.out⟩
theorem ltK_above:∀k x:List UInt8,ltK x (k++[0])= !ltK k x
 |[],[]=>by simp[ltK,Op.bytesLess]
 |[],a::r=>by
  have:¬a<0:=by rw[UInt8.not_lt];exact UInt8.zero_le
  cases r<;>simp[ltK,Op.bytesLess,this]
 |b::s,[]=>by simp[ltK,Op.bytesLess]
 |b::s,a::r=>by
  have ih:=ltK_above s r;unfold ltK at ih|-;simp only[List.cons_append,Op.bytesLess,ih];by_cases h1:a<b
  ·have h2:¬b<a:=fun h=>absurd (UInt8.lt_trans h1 h) (UInt8.lt_irrefl a);have h3:(b==a)=false:=by rw[beq_eq_false_iff_ne];rintro rfl;exact h2 h1
   simp[h1,h2,h3]
  ·by_cases h2:b<a
   ·have h3:(a==b)=false:=by rw[beq_eq_false_iff_ne];rintro rfl;exact h1 h2
    simp[h1,h2,h3]
   ·have h3:a=b:=by rw[UInt8.not_lt]at h1 h2;exact UInt8.le_antisymm h2 h1
    subst h3;simp[h1]
def rngT(lo hi:List UInt8)(T:Tb):Tb:=T.filter fun x=>inR lo hi x.1
theorem rngT_above{T:Tb}{lo hi k:List UInt8}(h:ltK k lo=false):rngT (k++[0]) hi T=(rngT lo hi T).filter (fun x=>ltK k x.1):=by
 unfold rngT;rw[List.filter_filter];congr 1;funext x;unfold inR;rw[ltK_above,Bool.not_not];cases h1:ltK k x.1
 ·simp
 ·have h2:ltK x.1 lo=false:=by
   cases h3:ltK x.1 lo
   ·rfl
   ·rw[ltK_trans h1 h3]at h;cases h
  simp[h2]
theorem rngT_lo{T:Tb}{lo hi:List UInt8}{x:List UInt8×Ii}(h:x∈rngT lo hi T):ltK x.1 lo=false:=by have:=(List.mem_filter.1 h).2;unfold inR at this;simp only[Bool.and_eq_true,Bool.not_eq_true']at this;exact this.1
theorem rngT_next{T:Tb}{lo hi:List UInt8}{i:Nat}(hS:Srt T)(h:i<(rngT lo hi T).length):rngT (((rngT lo hi T).getD i di).1++[0]) hi T=(rngT lo hi T).drop (i+1):=by
 have hm:(rngT lo hi T).getD i di∈rngT lo hi T:=getD_memT h;rw[rngT_above (rngT_lo hm)];have hs:Srt (rngT lo hi T):=filter_srt hS _;generalize hR:rngT lo hi T=R at*;have e:R=R.take i++R.getD i di::R.drop (i+1):=by rw[<-tdr_step h,List.take_append_drop]
 generalize R.getD i di=x at*;obtain⟨a,c⟩:=x;rw[e]at hs;obtain⟨-,-,h3,h4⟩:=srt_parts hs;conv=>lhs;rw[e]
 rw[List.filter_append,List.filter_cons];simp only[ltK_irrefl,Bool.false_eq_true,if_false];rw[List.filter_eq_nil_iff.2 (fun y hy=>by have:=ltK_asymm (h3 y hy);simp[this]),List.nil_append];exact List.filter_eq_self.2 (fun y hy=>h4 y hy)
theorem keys_part{T:Tb}{L:Kv Cv}(hk:T.map (·.1)=L.map (·.1)){lo hi:List UInt8}:keysF lo hi 32 L=((rngT lo hi T).take 32).map (·.1):=by
 have e:rangeF lo hi L=(rngT lo hi T).map (·.1):=by unfold rangeF rngT;rw[<-hk,List.filter_map];rfl
 unfold keysF;rw[e,List.map_take];rfl
def stQ(ap aq:Int)(but:List (Int×Int))(x:List UInt8×Ii):Bool:= !lessB ap aq x.2.mp x.2.ml&& !but.contains (x.2.c,x.2.n)
theorem first_rng(lo hi:List UInt8)(ap aq:Int)(but:List (Int×Int))(T:Tb):firstF lo hi ap aq but T=(rngT lo hi T).find? (stQ ap aq but):=by unfold firstF rngT;rw[List.find?_filter];congr 1;funext x;unfold standsB stQ;rw[lt_less,Bool.and_assoc];generalize inR lo hi x.1=a;generalize (!lessB ap aq x.2.mp x.2.ml&& !but.contains (x.2.c,x.2.n))=b;cases a<;>cases b<;>rfl
theorem find_at_i{R:Tb}{q:List UInt8×Ii->Bool}{m:Nat}(h:m<R.length)(hn:(R.take m).find? q=none)(hq:q (R.getD m di)=true):R.find? q=some (R.getD m di):=first_at h hn hq
theorem find_snoc{R:Tb}{q:List UInt8×Ii->Bool}{m:Nat}(h:m<R.length)(hn:(R.take m).find? q=none)(hq:q (R.getD m di)=false):(R.take (m+1)).find? q=none:=by rw[ttk_snoc h,List.find?_append,hn];generalize R.getD m di=x at*;simp[hq]
theorem part_found{R:Tb}{q:List UInt8×Ii->Bool}{m j:Nat}(hno:(R.take m).find? q=none)(hj:j<((R.drop m).take 32).length)(h1:(((R.drop m).take 32).take j).find? q=none)(h2:q (((R.drop m).take 32).getD j di)=true):R.find? q=some (((R.drop m).take 32).getD j di):=by
 have e:R.find? q=(R.take m++((R.drop m).take 32++(R.drop m).drop 32)).find? q:=by rw[List.take_append_drop,List.take_append_drop]
 rw[e,List.find?_append,hno,Option.none_or,List.find?_append,find_at_i hj h1 h2];rfl
theorem part_none{R:Tb}{q:List UInt8×Ii->Bool}{m:Nat}(hno:(R.take m).find? q=none)(h1:((R.drop m).take 32).find? q=none):(((R.drop m).take 32).length<32->R.find? q=none)/\(R.take (m+32)).find? q=none:=by
 have e1:(R.take (m+32)).find? q=none:=by rw[List.take_add,List.find?_append,hno,h1];rfl
 refine⟨fun h2=>?_,e1⟩;rw[List.length_take,List.length_drop]at h2
 rwa [List.take_of_length_le (by omega)]at e1
def leftT(hi:List UInt8)(T:Tb)(v:Value):Nat:=match v with
 |.string s=>(rngT s.data.toList hi T).length
 |_=>0
theorem leftT_bs(hi:List UInt8)(T:Tb)(k:List UInt8):leftT hi T (sd k)=(rngT k hi T).length:=by show(rngT (bs k).data.toList hi T).length=_;rw[bs_data]
theorem index59(B:Nat)(L:List (Int×Int))(v:Value)(c n:Int)(w:World)(h:TsAt B v L w)(hB:B<=w.heap.size):
  Calls Tryz.prog 242 #[v,.agg #[ui c,ui n]] w fun e w'=>∃i:Int,e=.returned (iw i)/\decide (0<=i)=L.contains (c,n)/\Below w.heap.size w w':=by
 obtain⟨ao,cap,rfl,hla,hma⟩:=h.shape;have HA:Hid (∀W,Below w.heap.size w W->∀i,i<L.length->∃b off,ao=some ⟨b,off,none⟩/\ce W b (off+i*2) (ui (L.getD i dtx).1)/\ce W b (off+i*2+1) (ui (L.getD i dtx).2)):=fun W hW i hi=>TsAt.el (RwAt.on h (hW.mono hB)) hi;have HS:Hid (∀m,m<L.length->(L.drop m).contains (c,n)=(((L.getD m dtx).1==c&&(L.getD m dtx).2==n)||(L.drop (m+1)).contains (c,n))):=fun m hm=>has_step hm;have HZ:Hid (∀m,L.length<=m->(L.drop m).contains (c,n)=false):=fun m hm=>by rw[List.drop_eq_nil_of_le hm];rfl
 have H0:Hid ((L.drop 0).contains (c,n)=L.contains (c,n)):=rfl;have hL9:L.length<9223372036854775808:=by omega
 have HX:Hid ((w.alloc (.cells #[ui c,ui n] 26)).heap[w.heap.size]?=some (.cells #[ui c,ui n] 26 (0,0))/\Below w.heap.size w (w.alloc (.cells #[ui c,ui n] 26))):=⟨heap_alloc_new w _,al _⟩;generalize L.contains (c,n)=y at*;clear h hla hma hB;go_enter Tryz.func242,Tryz.ntmps242;go_wp2_with fail;obtain⟨W0,hW0⟩:=xj (w.alloc (.cells #[ui c,ui n] 26));rw[hW0]at HX|-;obtain⟨bx,hbx⟩:=xj w.heap.size;have HBX:Hid (w.heap.size=bx):=hbx;have HC:Hid (∀W,Below W0.heap.size W0 W->ce W w.heap.size 0 (ui c)/\ce W w.heap.size 1 (ui n)/\Below w.heap.size w W):=fun W hb=>by
  have hx:W.heap[w.heap.size]?=some (.cells #[ui c,ui n] 26 (0,0)):=by rw[hb.block _ (gsz HX.out.1)];exact HX.out.1
  exact⟨block_cell hx rfl,block_cell hx rfl,HX.out.2.trans (hb.mono HX.out.2.size)⟩
 rw[hbx]at HC|-;clear hbx hW0 HX;go_loopw [8] (fun i wr=>Below W0.heap.size W0 wr/\∃m:Nat,m<=L.length/\i=iw m/\(L.drop m).contains (c,n)=y) (fun i _=>L.length-(intOf i).toNat)
 case atStart=>exact⟨Below.refl _ _,0,Nat.zero_le _,rfl,H0.out⟩
 case round=>
  obtain⟨hbr,m,hm,rfl,hy⟩:=hrel;have HBr:Hid _:=hbr;obtain⟨x0,x1,hbw⟩:=HC.out wr hbr;have HBw:Hid (Below w.heap.size w wr):=by rw[HBX.out];exact hbw
  by_cases hml:m<L.length
  ·obtain⟨b,off,rfl,e0,e1⟩:=HA.out wr HBw.out m hml;have hml':(m:Int)<L.length:=by omega
   have hst:=HS.out m hml;rw[hy]at hst;generalize L.getD m dtx=x at*;obtain⟨p,q⟩:=x;dsimp only at e0 e1 hst;have hq:=run_eql32 c n p q;rw[show(c==p&&n==q)=(p==c&&q==n)from by rw[show(c==p)=(p==c)from BEq.comm,show(n==q)=(q==n)from BEq.comm]]at hq;generalize (p==c&&q==n)=z at*;have HF:Hid (ce wr bx 0 (ui c)/\ce wr bx 1 (ui n)/\ce wr b (off+m*2) (ui p)/\ce wr b (off+m*2+1) (ui q)):=⟨x0,x1,e0,e1⟩;have HQ:Hid (m+1<=L.length):=hml;clear hbr hbw hy;go_upto_region 4 with fail
   go_region_held3 (fun W=>ce W bx 0 (ui c)/\ce W bx 1 (ui n)/\ce W b (off+m*2) (ui p)/\ce W b (off+m*2+1) (ui q)) (exact HF.out) (fail)
   rename_i hHeld;clear hHeld x0 x1 e0 e1 hq HF;cases z
   ·have HY:Hid ((L.drop (m+1)).contains (c,n)=y):=by show _=_;rw[hst];simp
    clear hst;go_wp2_with fail;go_roundw
    case rel=>exact⟨HBr.out.drew,m+1,HQ.out,by go_num,HY.out⟩
    case measure=>simp[intOf];omega
   ·have hy1:y=true:=by rw[hst];simp
    subst hy1;clear hst;go_wp2_with fail;go_ret;exact⟨_,rfl,by simp,HBw.out.drew⟩
  ·have hml':¬(m:Int)<L.length:=by omega
   have hz:=HZ.out m (by omega);rw[hy]at hz;subst hz;clear hbr hbw hy;go_wp2_with fail;go_ret;exact⟨_,rfl,by decide,HBw.out⟩
theorem contains43(B:Nat)(L:List (Int×Int))(v:Value)(c n:Int)(w:World)(h:TsAt B v L w)(hB:B<=w.heap.size):
  Calls Tryz.prog 203 #[v,.agg #[ui c,ui n]] w fun e w'=>e=.returned (.bool (L.contains (c,n)))/\Below w.heap.size w w':=by
 obtain⟨W0,hW0⟩:=xj (w.alloc (.cells #[ui c,ui n] 26));have hb0:Below w.heap.size w W0:=by rw[<-hW0];exact al _
 have hx0:W0.heap[w.heap.size]?=some (.cells #[ui c,ui n] 26 (0,0)):=by rw[<-hW0];exact heap_alloc_new w _
 have z0:ce W0 w.heap.size 0 (ui c):=block_cell hx0 rfl;have z1:ce W0 w.heap.size 1 (ui n):=block_cell hx0 rfl;have CI:Hid (1=1->Calls Tryz.prog 242 #[v,.agg #[ui c,ui n]] W0 fun e w'=>∃i:Int,e=.returned (iw i)/\Hid (decide (0<=i)=L.contains (c,n)/\Below w.heap.size w w')):=fun _=>by refine(index59 B L v c n W0 (RwAt.on h (hb0.mono hB)) (Nat.le_trans hB hb0.size)).mono ?_;rintro e w' ⟨i,rfl,hi,hb'⟩;exact⟨i,rfl,hi,hb0.trans (hb'.mono hb0.size)⟩
 obtain⟨ao,cap,rfl,hlc,hcm⟩:=h.shape;clear h hB hlc hcm hb0 hx0;generalize L.contains (c,n)=y at*;go_enter Tryz.func203,Tryz.ntmps203;go_wp2_with fail;refine(CI.out (by trivial)).mono ?_;rintro e w1 ⟨i,rfl,HI⟩;clear CI z0 z1 hW0;go_wp2_with fail;go_ret;exact⟨by rw[<-HI.out.1];rfl,HI.out.2⟩
end Go.Proofs.YtdplfgcoaddbdaaGreat.Lat
