import Derived.Test.YtdplfgcoaddbdaaGreatWbf
import Derived.Test.YtdplfgcoaddbdaaGreatWbl
import Derived.Test.YtdplfgcoaddbdaaGreatWbk
set_option maxHeartbeats 4000000
set_option maxRecDepth 100000
set_option linter.unusedVariables false
set_option linter.unusedSimpArgs false
namespace Go.Proofs.YtdplfgcoaddbdaaGreat
open Go.RowKit
variable {SA:TyS}{TA:TyT}{BA:TyB}
variable {f:Fp}{M:Nat->Prop}{X:Sd}{a:Int}{g:Nat}{D:Drm.Dr}{w w1 W W':World}{Lo:List (Nat×Obj)}
def Tgd(n:Nat)(v:Value)(W:World):Prop:=∀k,v.ownBlock=some k->n<=k/\∃cs ty,ty≠5/\W.heap[k]?=some (.cells cs ty (0,0))
theorem Tgd.le{m n:Nat}{v:Value}(h:Tgd n v W)(hl:m<=n):Tgd m v W:=fun k hk=>⟨Nat.le_trans hl (h k hk).1,(h k hk).2⟩
theorem Tgd.on{n:Nat}{v:Value}(h:Tgd n v W)(hb:Below W.heap.size W W'):Tgd n v W':=fun k hk=>by obtain⟨h1,cs,ty,h2,h3⟩:=h k hk;exact⟨h1,cs,ty,h2,by rw[hb.block k (lt_of_block h3)];exact h3⟩
structure RI(n:Nat)(S:Sto.Sk)(v:Value)(W:World):Prop where
 r:∃L,Sto.ItAt v L S W
 t:Tgd n v W
structure RT(n:Nat)(T:Lat.Tb)(v:Value)(W:World):Prop where
 r:Lat.IsAt W.heap.size v T W
 t:Tgd n v W
structure RK(n:Nat)(K:Ver.Bk)(v:Value)(W:World):Prop where
 r:Ver.VsAt W.heap.size v K W
 t:Tgd n v W
theorem RI.on{n:Nat}{S:Sto.Sk}{v:Value}(h:RI n S v W)(hb:Below W.heap.size W W'):RI n S v W':=by obtain⟨L,h1⟩:=h.r;exact⟨⟨L,h1.on hb⟩,h.t.on hb⟩
theorem RT.on{n:Nat}{T:Lat.Tb}{v:Value}(h:RT n T v W)(hb:Below W.heap.size W W'):RT n T v W':=⟨(RwAt.on h.r hb).le hb.size,h.t.on hb⟩
theorem RK.on{n:Nat}{K:Ver.Bk}{v:Value}(h:RK n K v W)(hb:Below W.heap.size W W'):RK n K v W':=⟨(RwAt.on h.r hb).le hb.size,h.t.on hb⟩
theorem items11(E:Env SA TA BA)(h:ShAt SA TA BA f M X a g D w)(ht:X.wt<9000):Calls Tryz.prog 11 #[pz f.sb] w fun e w'=>∃v,e=.returned v/\RI w.heap.size X.S v w'/\Below w.heap.size w w':=by
 have c:=h.cells.2.2.1;have C:Hid (1=1->Calls Tryz.prog 24 #[pz f.st] w fun e w'=>∃v,e=.returned v/\Hid (RI w.heap.size X.S v w')/\Hid (Below w.heap.size w w')):=fun _=>by refine(sh_items E h (by unfold Sd.wt at ht;omega)).mono ?_;rintro e w' ⟨v,L,rfl,h1,h2,h3⟩;exact⟨v,rfl,⟨⟨L,h1⟩,fun k hk=>⟨(h2 k hk).1,_,_,by decide,(h2 k hk).2.choose_spec⟩⟩,h3⟩
 clear h ht E;go_enter Tryz.func11,Tryz.ntmps11;go_wp2_with fail;refine(C.out (by trivial)).mono ?_;rintro e w' ⟨v,rfl,h1,h2⟩;go_wp2_with fail;go_ret;exact⟨v,rfl,h1.out,h2.out⟩
theorem intents12(E:Env SA TA BA)(h:ShAt SA TA BA f M X a g D w)(ht:X.wt<9000):Calls Tryz.prog 12 #[pz f.sb] w fun e w'=>∃v,e=.returned v/\RT w.heap.size X.T v w'/\Below w.heap.size w w':=by
 have c:=h.cells.2.2.2.1;have C:Hid (1=1->Calls Tryz.prog 25 #[pz f.la] w fun e w'=>∃v,e=.returned v/\Hid (RT w.heap.size X.T v w')/\Hid (Below w.heap.size w w')):=fun _=>by refine(sh_iall E h (by unfold Sd.wt at ht;omega)).mono ?_;rintro e w' ⟨v,rfl,h1,h2,h3⟩;exact⟨v,rfl,⟨h1,fun k hk=>⟨(h2 k hk).1,_,_,by decide,(h2 k hk).2.choose_spec⟩⟩,h3⟩
 clear h ht E;go_enter Tryz.func12,Tryz.ntmps12;go_wp2_with fail;refine(C.out (by trivial)).mono ?_;rintro e w' ⟨v,rfl,h1,h2⟩;go_wp2_with fail;go_ret;exact⟨v,rfl,h1.out,h2.out⟩
theorem verdicts13(E:Env SA TA BA)(h:ShAt SA TA BA f M X a g D w)(ht:X.wt<9000):Calls Tryz.prog 13 #[pz f.sb] w fun e w'=>∃v,e=.returned v/\RK w.heap.size X.K v w'/\Below w.heap.size w w':=by
 have c:=h.cells.2.2.2.2;have C:Hid (1=1->Calls Tryz.prog 26 #[pz f.ve] w fun e w'=>∃v,e=.returned v/\Hid (RK w.heap.size X.K v w')/\Hid (Below w.heap.size w w')):=fun _=>by refine(sh_vall E h (by unfold Sd.wt at ht;omega)).mono ?_;rintro e w' ⟨v,rfl,h1,h2,h3⟩;exact⟨v,rfl,⟨h1,fun k hk=>⟨(h2 k hk).1,_,_,by decide,(h2 k hk).2.choose_spec⟩⟩,h3⟩
 clear h ht E;go_enter Tryz.func13,Tryz.ntmps13;go_wp2_with fail;refine(C.out (by trivial)).mono ?_;rintro e w' ⟨v,rfl,h1,h2⟩;go_wp2_with fail;go_ret;exact⟨v,rfl,h1.out,h2.out⟩
theorem safe14(h:ShAt SA TA BA f M X a g D w):Calls Tryz.prog 14 #[pz f.sb] w fun e w'=>e=.returned (.agg #[uw X.sp,ui X.sl])/\Below w.heap.size w w':=by have c5:=h.nums.1;have c6:=h.nums.2.1;have hl:f.sb<w.heap.size:=World.block_lt_of_cell? _ _ c5;clear h;go_enter Tryz.func14,Tryz.ntmps14;go_wp2_with fail;refine bodyPost_ret (v:=.agg #[uw X.sp,ui X.sl]) ?_ rfl ⟨rfl,(Below.refl _ _).alloc (Nat.le_refl _) _⟩;exact results_cell_row rfl _ _ w.heap.size 28 _ (0,0) _ rfl (heap_alloc_new w _) Tryz.underlying28 rfl (by kernel_rfl)
theorem in_nov(E:Env SA TA BA)(h:ShAt SA TA BA f M X a g D w):∀k,M k->Sto.NoVe w k:=by
 obtain⟨M1,M2,M3,h,rfl⟩:=h;rintro k (rfl|rfl|rfl|e|e|e|⟨_,cs,fz,e⟩)
 ·exact Sto.noVe_tag h.blk (by intro cs fz e;injection e with _ e _;exact absurd e (by decide))
 ·exact Sto.noVe_tag h.lg.blk (by intro cs fz e;injection e with _ e _;exact absurd e (by decide))
 ·obtain⟨vs,hd⟩:=h.lg.drum;exact Sto.noVe_tag hd.blk (by intro cs fz e;injection e with _ e _;exact absurd e (by decide))
 ·exact E.I.nov h.s k e
 ·exact(E.tT h.t k e).2
 ·exact(E.tV h.v k e).2
 ·exact Sto.noVe_tag e (by intro cs fz e;injection e with _ e _;exact absurd e (by decide))
structure QIn(w:World)(q:Rq)(wa:Option Addr)(wc:Nat)(sa:Option Addr)(sc:Nat):Prop where
 ok:RqOk q
 ws:Lat.WsAt w.heap.size (.slice wa q.ws.length wc) q.ws w
 sk:TAt w.heap.size (.slice sa q.sk.length sc) q.sk w
theorem rw_lt{B size n cap:Nat}{ao:Option Addr}{cs:List Value}(h:RwAt B size (.slice ao n cap) n cs w)(hc:cs.length=n*size)(hs:0<size)(h0:0<n){k:Nat}(hk:(Value.slice ao n cap).ownBlock=some k):k<B:=by obtain⟨b,off,rfl,hb,-⟩:=h.cellAt (j:=0) (by rw[hc];exact Nat.mul_pos h0 hs);simp only[Value.ownBlock,Option.some.injEq]at hk;rw[<-hk];exact hb
def Kr(Lo:List (Nat×Obj))(W W':World):Prop:=∃G:Nat->Prop,Kept G W W'/\(∀k,G k->Sto.NoVe W k)/\∀p∈Lo,¬G p.1
theorem Tgd.kept{n:Nat}{v:Value}(h:Tgd n v W)(k:Kr Lo W W')(hl:∀k,v.ownBlock=some k->∃o,(k,o)∈Lo):Tgd n v W':=fun i hi=>by obtain⟨G,k1,-,k3⟩:=k;obtain⟨o,ho⟩:=hl i hi;obtain⟨h1,cs,ty,h2,h3⟩:=h i hi;exact⟨h1,cs,ty,h2,kept_obj h3 k1 (k3 _ ho)⟩
theorem rows_kept{B size n:Nat}{v:Value}{cs:List Value}(h:RwAt B size v n cs W)(hB:B=W.heap.size)(k:Kr Lo W W')(hl:∀k,v.ownBlock=some k->∃o,(k,o)∈Lo):RwAt W'.heap.size size v n cs W':=by obtain⟨G,k1,-,k3⟩:=k;exact(rw_keep h k1 (fun i e g=>by obtain⟨o,ho⟩:=hl i e;exact k3 _ ho g)).le (hB▸k1.size)
theorem RI.kept{n:Nat}{S:Sto.Sk}{v:Value}(h:RI n S v W)(k:Kr Lo W W')(hl:∀k,v.ownBlock=some k->∃o,(k,o)∈Lo):RI n S v W':=by obtain⟨L,h1,h2⟩:=h.r;refine⟨⟨L,rows_kept h1 rfl k hl,?_⟩,h.t.kept k hl⟩;obtain⟨G,k1,k2,-⟩:=k;exact Sto.Chs.kept k1 k2 h2
theorem RT.kept{n:Nat}{T:Lat.Tb}{v:Value}(h:RT n T v W)(k:Kr Lo W W')(hl:∀k,v.ownBlock=some k->∃o,(k,o)∈Lo):RT n T v W':=⟨rows_kept h.r rfl k hl,h.t.kept k hl⟩
theorem RK.kept{n:Nat}{K:Ver.Bk}{v:Value}(h:RK n K v W)(k:Kr Lo W W')(hl:∀k,v.ownBlock=some k->∃o,(k,o)∈Lo):RK n K v W':=⟨rows_kept h.r rfl k hl,h.t.kept k hl⟩
theorem ask8(E:Env SA TA BA)(hC:Cx SA TA BA f M w1 X a g D Lo W)(hM:∀k,M k->w.heap.size<=k)(hb:Below w.heap.size w w1)(G:Gd X)(ht:X.wt<8900)(u:Up D)(ph:Int)(h0:0<=ph)(h1:ph<=18446744073709551615){q:Rq}{wa sa:Option Addr}{wc sc:Nat}(hq:QIn w q wa wc sa sc):
  Calls Tryz.prog 8 #[pz f.sb,uw ph,rqV q wa wc sa sc] W fun e w'=>∃ao n cap,e=.returned (rpV (handF ph q X a D).1 (.slice ao n cap))/\Cx SA TA BA f M w1 (handF ph q X a D).2.1 a g (handF ph q X a D).2.2 Lo w'/\Lv X (handF ph q X a D).2/\Kr Lo W w':=by
 obtain⟨M',hS,h2,h3⟩:=hC.sh;have hbW:Below w.heap.size w W:=hb.trans (hC.kp.below (B:=w.heap.size) hb.size hM);have hlo:∀k,M' k->w.heap.size<=k:=fun k hk=>(h2 k hk).elim (hM k) (fun e=>Nat.le_trans hb.size e);have l1:∀(_:0<q.ws.length) (k:Nat),(Value.slice wa q.ws.length wc).ownBlock=some k->k<w.heap.size:=fun h0 k hk=>rw_lt hq.ws (rowC_length (vc:=Lat.wrc) (sz:=3) (fun _=>rfl) _) (by decide) h0 hk;have l2:∀(_:0<q.sk.length) (k:Nat),(Value.slice sa q.sk.length sc).ownBlock=some k->k<w.heap.size:=fun h0 k hk=>rw_lt hq.sk (rowC_length (vc:=Lat.txc) (sz:=2) (fun _=>rfl) _) (by decide) h0 hk;have hlv:Lv X (handF ph q X a D).2:=by obtain⟨M1,M2,M3,h,rfl⟩:=hS;exact ans_lv hq.ok (E.J.ok h.t) (E.I.sok h.s) G u h0
 refine(handle16 E (scan93 E) ph q wa wc sa sc hS ht G.ok h0 h1 hq.ok ⟨(RwAt.on hq.ws hbW).le hbW.size,fun p k hk hm=>?_⟩ ((RwAt.on hq.sk hbW).le hbW.size) (fun p k hk=>⟨fun hm=>?_,?_⟩)).mono ?_
 ·have:=hlo k hm;have:=l1 p k hk;omega
 ·have:=hlo k hm;have:=l2 p k hk;omega
 ·exact Nat.lt_of_lt_of_le (l2 p k hk) hbW.size
 ·rintro e w' ⟨ao,n,cap,rfl,-,hs⟩;exact⟨ao,n,cap,rfl,hC.next h2 h3 hs,hlv,M',hs.choose_spec.2.1,in_nov E hS,h3⟩
def refC(b:Nat)(p l:Int):Array Value:=#[pz b,.pointer (some ⟨b+1,0,none⟩),.pointer (some ⟨b+1+1,0,none⟩),uw p,ui l,uw 0,ui 0,uw 0,ui 0,sy]
theorem new21(w:World):Calls Tryz.prog 21 #[] w fun e w'=>e=.returned (.pointer (some ⟨w.heap.size+1+1+1,0,none⟩))/\w'=(((w.alloc (.cells #[sy] 90)).alloc (.cells #[sy] 54)).alloc (.cells #[sy] 92)).alloc (.cells (refC w.heap.size 0 0) 60):=by go_enter Tryz.func21,Tryz.ntmps21;go_wp2_with fail;go_ret;exact⟨rfl,rfl⟩
theorem Cx.grows(E:Env SA TA BA)(h:Cx SA TA BA f M w X a g D Lo W)(hb:Below W.heap.size W W')(L:List (Nat×Obj))(hL:∀p∈L,W.heap.size<=p.1/\∃cs ty,p.2=.cells cs ty (0,0)/\ty≠5/\W'.heap[p.1]?=some (.cells cs ty (0,0))):Cx SA TA BA f M w X a g D (L++Lo) W':=by
 obtain⟨⟨M',h1,h2,h3⟩,h4,h5⟩:=h;have hl:∀k,M' k->k<W.heap.size:=fun k hk=>h1.lt E hk;obtain⟨M1,M2,M3,hc,rfl⟩:=h1;refine⟨⟨_,⟨M1,M2,M3,hc.on E hb,rfl⟩,fun i hi=>?_,fun p hp hi=>?_⟩,h4.trans (Kept.of_below (F:=fun _=>False) hb) (fun _ e=>e.elim),fun p hp=>?_⟩
 ·rcases In_kept (G:=fun _=>False) (Kept.of_below hb) hi with e|e|e
  ·exact h2 i e
  ·exact .inr (Nat.le_trans h4.size e)
  ·exact e.elim
 ·rcases List.mem_append.1 hp with hp|hp
  ·obtain⟨q1,cs,ty,q2,q3,q4⟩:=hL p hp;rcases hi with e|e|e|e|e|e|⟨-,cs',fz,e⟩
   ·have:=hl _ (.inl e);omega
   ·have:=hl _ (.inr (.inl e));omega
   ·have:=hl _ (.inr (.inr (.inl e)));omega
   ·have:=hl _ (.inr (.inr (.inr (.inl e))));omega
   ·have:=hl _ (.inr (.inr (.inr (.inr (.inl e)))));omega
   ·have:=hl _ (.inr (.inr (.inr (.inr (.inr (.inl e))))));omega
   ·rw[q4]at e;injection e with e;injection e with _ e _;exact q3 e
  ·rcases In_kept (G:=fun _=>False) (Kept.of_below hb) hi with e|e|e
   ·exact h3 p hp e
   ·have:=h5.lt p hp;omega
   ·exact e.elim
 ·rcases List.mem_append.1 hp with hp|hp
  ·obtain⟨q1,cs,ty,q2,q3,q4⟩:=hL p hp;rw[q2];exact q4
  ·exact(h5.on hb) p hp
def objsOf(v:Value)(W:World):List (Nat×Obj):=match v.ownBlock with
 |none=>[]
 |some k=>match W.heap[k]?with
  |none=>[]
  |some o=>[(k,o)]
theorem objs_tgd{n:Nat}{v:Value}(h:Tgd n v W):(∀p∈objsOf v W,n<=p.1/\∃cs ty,p.2=.cells cs ty (0,0)/\ty≠5/\W.heap[p.1]?=some (.cells cs ty (0,0)))/\∀k,v.ownBlock=some k->∃o,(k,o)∈objsOf v W:=by
 unfold objsOf;cases hv:v.ownBlock with
 |none=>exact⟨fun p hp=>(by cases hp),fun k hk=>(by cases hk)⟩
 |some k=>
  obtain⟨h1,cs,ty,h2,h3⟩:=h k hv;dsimp only;rw[h3];refine⟨fun p hp=>?_,fun k' hk=>?_⟩
  ·obtain rfl:=List.mem_singleton.1 hp;exact⟨h1,cs,ty,rfl,h2,h3⟩
  ·injection hk with hk;subst hk;exact⟨_,List.mem_singleton.2 rfl⟩
structure Hw(n:Nat)(Y:Sd)(b:Nat)(vi vt vk:Value)(Lo:List (Nat×Obj))(W:World):Prop where
 i:RI n Y.S vi W
 t:RT n Y.T vt W
 k:RK n Y.K vk W
 m:∀k,(vi.ownBlock=some k->∃o,(k,o)∈Lo)/\(vt.ownBlock=some k->∃o,(k,o)∈Lo)/\(vk.ownBlock=some k->∃o,(k,o)∈Lo)
 o0:(b+1+1+1,Obj.cells (refC b Y.sp Y.sl) 60 (0,0))∈Lo
 o1:(b,Obj.cells #[vi] 90 (0,0))∈Lo
 o2:(b+1,Obj.cells #[vt] 54 (0,0))∈Lo
 o3:(b+1+1,Obj.cells #[vk] 92 (0,0))∈Lo
theorem Hw.kept{n b:Nat}{Y:Sd}{vi vt vk:Value}(h:Hw n Y b vi vt vk Lo W)(k:Kr Lo W W'):Hw n Y b vi vt vk Lo W':=⟨h.i.kept k (fun j=>(h.m j).1),h.t.kept k (fun j=>(h.m j).2.1),h.k.kept k (fun j=>(h.m j).2.2),h.m,h.o0,h.o1,h.o2,h.o3⟩
theorem Hw.on{n b:Nat}{Y:Sd}{vi vt vk:Value}(h:Hw n Y b vi vt vk Lo W)(k:Below W.heap.size W W'):Hw n Y b vi vt vk Lo W':=⟨h.i.on k,h.t.on k,h.k.on k,h.m,h.o0,h.o1,h.o2,h.o3⟩
theorem Hw.sub{n b:Nat}{Y:Sd}{vi vt vk:Value}{Lo':List (Nat×Obj)}(h:Hw n Y b vi vt vk Lo W)(k:∀p∈Lo,p∈Lo'):Hw n Y b vi vt vk Lo' W:=⟨h.i,h.t,h.k,fun j=>⟨fun e=>(h.m j).1 e |>.imp fun o ho=>k _ ho,fun e=>(h.m j).2.1 e |>.imp fun o ho=>k _ ho,fun e=>(h.m j).2.2 e |>.imp fun o ho=>k _ ho⟩,k _ h.o0,k _ h.o1,k _ h.o2,k _ h.o3⟩
structure Nw(w:World)(W:World):Prop where
 bel:Below w.heap.size w W
 o0:W.heap[w.heap.size+1+1+1]?=some (.cells (refC w.heap.size 0 0) 60 (0,0))
 o1:W.heap[w.heap.size]?=some (.cells #[sy] 90 (0,0))
 o2:W.heap[w.heap.size+1]?=some (.cells #[sy] 54 (0,0))
 o3:W.heap[w.heap.size+1+1]?=some (.cells #[sy] 92 (0,0))
theorem Nw.on(h:Nw w W)(hb:Below W.heap.size W W'):Nw w W':=⟨h.bel.trans (hb.mono h.bel.size),by rw[hb.block _ (lt_of_block h.o0)];exact h.o0,by rw[hb.block _ (lt_of_block h.o1)];exact h.o1,by rw[hb.block _ (lt_of_block h.o2)];exact h.o2,by rw[hb.block _ (lt_of_block h.o3)];exact h.o3⟩
theorem Nw.dr(h:Nw w W):Nw w W.drew:=h.on (Below.refl _ _).drew
theorem Nw.new(w:World):Nw w ((((w.alloc (.cells #[sy] 90)).alloc (.cells #[sy] 54)).alloc (.cells #[sy] 92)).alloc (.cells (refC w.heap.size 0 0) 60)):=by
 have z1:(w.alloc (.cells #[sy] 90)).heap.size=w.heap.size+1:=by simp
 have z2:((w.alloc (.cells #[sy] 90)).alloc (.cells #[sy] 54)).heap.size=w.heap.size+1+1:=by simp
 have z3:(((w.alloc (.cells #[sy] 90)).alloc (.cells #[sy] 54)).alloc (.cells #[sy] 92)).heap.size=w.heap.size+1+1+1:=by simp
 refine⟨((((Below.refl _ _).alloc (Nat.le_refl _) _).alloc (by rw[z1];omega) _).alloc (by rw[z2];omega) _).alloc (by rw[z3];omega) _,?_,?_,?_,?_⟩
 ·have:=heap_alloc_new (((w.alloc (.cells #[sy] 90)).alloc (.cells #[sy] 54)).alloc (.cells #[sy] 92)) (.cells (refC w.heap.size 0 0) 60);rw[z3]at this;exact this
 ·rw[Below.heap_alloc _ _ _ (by rw[z3];omega),Below.heap_alloc _ _ _ (by rw[z2];omega),Below.heap_alloc _ _ _ (by rw[z1];omega)];exact heap_alloc_new w _
 ·rw[Below.heap_alloc _ _ _ (by rw[z3];omega),Below.heap_alloc _ _ _ (by rw[z2];omega)];have:=heap_alloc_new (w.alloc (.cells #[sy] 90)) (.cells #[sy] 54);rw[z1]at this;exact this
 ·rw[Below.heap_alloc _ _ _ (by rw[z3];omega)];have:=heap_alloc_new ((w.alloc (.cells #[sy] 90)).alloc (.cells #[sy] 54)) (.cells #[sy] 92);rw[z2]at this;exact this
def fillW(b:Nat)(vi vt vk:Value)(p l:Int)(W:World):World:=((((W.setCell ⟨b,0,none⟩ vi).setCell ⟨b+1,0,none⟩ vt).setCell ⟨b+1+1,0,none⟩ vk).setCell ⟨b+1+1+1,3,none⟩ (uw p)).setCell ⟨b+1+1+1,4,none⟩ (ui l)
theorem fill_kept(b:Nat)(vi vt vk:Value)(p l:Int)(W:World):Kept (fun k=>b<=k/\k<b+4) W (fillW b vi vt vk p l W):=
 ((((set_k (Kept.refl _ _) 0 vi).mono (fun k e=>by subst e;omega)).trans ((set_k (Kept.refl _ _) 0 vt).mono (G:=fun k=>b<=k/\k<b+4) (fun k e=>by subst e;omega)) (fun k e=>.inl e)).trans ((set_k (Kept.refl _ _) 0 vk).mono (G:=fun k=>b<=k/\k<b+4) (fun k e=>by subst e;omega)) (fun k e=>.inl e)).trans ((set_k (set_k (Kept.refl _ _) 3 (uw p)) 4 (ui l)).mono (G:=fun k=>b<=k/\k<b+4) (fun k e=>by subst e;omega)) (fun k e=>.inl e)
theorem fill_blk{b:Nat}{vi vt vk:Value}{p l:Int}(h:Nw w W)(hb:w.heap.size=b):(fillW b vi vt vk p l W).heap[b]?=some (.cells #[vi] 90 (0,0))/\(fillW b vi vt vk p l W).heap[b+1]?=some (.cells #[vt] 54 (0,0))/\(fillW b vi vt vk p l W).heap[b+1+1]?=some (.cells #[vk] 92 (0,0))/\(fillW b vi vt vk p l W).heap[b+1+1+1]?=some (.cells (refC b p l) 60 (0,0)):=by
 subst hb;have H:∀(W:World) (c k o:Nat) (v:Value),k≠c->(W.setCell ⟨c,o,none⟩ v).heap[k]?=W.heap[k]?:=fun W c k o v hk=>Below.heap_setCell W ⟨c,o,none⟩ v k hk;refine⟨?_,?_,?_,?_⟩
 ·unfold fillW;rw[H _ _ _ _ _ (by omega),H _ _ _ _ _ (by omega),H _ _ _ _ _ (by omega),H _ _ _ _ _ (by omega)];exact Drm.blk_setCell (k:=0) h.o1
 ·unfold fillW;rw[H _ _ _ _ _ (by omega),H _ _ _ _ _ (by omega),H _ _ _ _ _ (by omega)];have g1:(W.setCell ⟨w.heap.size,0,none⟩ vi).heap[w.heap.size+1]?=some (.cells #[sy] 54 (0,0)):=by rw[H _ _ _ _ _ (by omega)];exact h.o2
  exact Drm.blk_setCell (k:=0) g1
 ·unfold fillW;rw[H _ _ _ _ _ (by omega),H _ _ _ _ _ (by omega)];have g1:((W.setCell ⟨w.heap.size,0,none⟩ vi).setCell ⟨w.heap.size+1,0,none⟩ vt).heap[w.heap.size+1+1]?=some (.cells #[sy] 92 (0,0)):=by rw[H _ _ _ _ _ (by omega),H _ _ _ _ _ (by omega)];exact h.o3
  exact Drm.blk_setCell (k:=0) g1
 ·unfold fillW;have g1:(((W.setCell ⟨w.heap.size,0,none⟩ vi).setCell ⟨w.heap.size+1,0,none⟩ vt).setCell ⟨w.heap.size+1+1,0,none⟩ vk).heap[w.heap.size+1+1+1]?=some (.cells (refC w.heap.size 0 0) 60 (0,0)):=by rw[H _ _ _ _ _ (by omega),H _ _ _ _ _ (by omega),H _ _ _ _ _ (by omega)];exact h.o0
  exact Drm.blk_setCell (k:=4) (Drm.blk_setCell (k:=3) g1)
theorem fill_has(E:Env SA TA BA)(hC:Cx SA TA BA f M w1 X a g D Lo w)(h:Nw w W){b:Nat}(hb:w.heap.size=b){vi vt vk:Value}(h1:RI (b+4) X.S vi W)(h2:RT (b+4) X.T vt W)(h3:RK (b+4) X.K vk W):
  ∃Lo',Cx SA TA BA f M w1 X a g D Lo' (fillW b vi vt vk X.sp X.sl W)/\(∀p∈Lo,p∈Lo')/\Hw (b+4) X b vi vt vk Lo' (fillW b vi vt vk X.sp X.sl W):=by
 have kp:=fill_kept b vi vt vk X.sp X.sl W;have B:=fill_blk (vi:=vi) (vt:=vt) (vk:=vk) (p:=X.sp) (l:=X.sl) h hb;have nv:∀k,(b<=k/\k<b+4)->Sto.NoVe W k:=fun k hk=>by
  rcases(by omega:k=b\/k=b+1\/k=b+1+1\/k=b+1+1+1)with rfl|rfl|rfl|rfl
  ·rw[<-hb];exact Sto.noVe_tag h.o1 (by intro cs fz e;injection e with _ e _;exact absurd e (by decide))
  ·rw[<-hb];exact Sto.noVe_tag h.o2 (by intro cs fz e;injection e with _ e _;exact absurd e (by decide))
  ·rw[<-hb];exact Sto.noVe_tag h.o3 (by intro cs fz e;injection e with _ e _;exact absurd e (by decide))
  ·rw[<-hb];exact Sto.noVe_tag h.o0 (by intro cs fz e;injection e with _ e _;exact absurd e (by decide))
 have T1:=objs_tgd h1.t;have T2:=objs_tgd h2.t;have T3:=objs_tgd h3.t;have kr:Kr (objsOf vi W++(objsOf vt W++objsOf vk W)) W (fillW b vi vt vk X.sp X.sl W):=⟨_,kp,nv,fun p hp e=>by
  rcases List.mem_append.1 hp with hp|hp
  ·have:=(T1.1 p hp).1;omega
  ·rcases List.mem_append.1 hp with hp|hp
   ·have:=(T2.1 p hp).1;omega
   ·have:=(T3.1 p hp).1;omega⟩
 have m1:∀k,vi.ownBlock=some k->∃o,(k,o)∈objsOf vi W++(objsOf vt W++objsOf vk W):=fun k hk=>(T1.2 k hk).imp fun o ho=>List.mem_append.2 (.inl ho);have m2:∀k,vt.ownBlock=some k->∃o,(k,o)∈objsOf vi W++(objsOf vt W++objsOf vk W):=fun k hk=>(T2.2 k hk).imp fun o ho=>List.mem_append.2 (.inr (List.mem_append.2 (.inl ho)));have m3:∀k,vk.ownBlock=some k->∃o,(k,o)∈objsOf vi W++(objsOf vt W++objsOf vk W):=fun k hk=>(T3.2 k hk).imp fun o ho=>List.mem_append.2 (.inr (List.mem_append.2 (.inr ho)));have bel:Below w.heap.size w (fillW b vi vt vk X.sp X.sl W):=h.bel.trans (kp.below (B:=w.heap.size) h.bel.size (fun k hk=>by omega));have KO:∀p:Nat×Obj,(b+4<=p.1/\∃cs ty,p.2=.cells cs ty (0,0)/\ty≠5/\W.heap[p.1]?=some (.cells cs ty (0,0)))->w.heap.size<=p.1/\∃cs ty,p.2=.cells cs ty (0,0)/\ty≠5/\(fillW b vi vt vk X.sp X.sl W).heap[p.1]?=some (.cells cs ty (0,0)):=fun p ⟨q1,cs,ty,q2,q3,q4⟩=>⟨by omega,cs,ty,q2,q3,kept_obj q4 kp (by omega)⟩;refine⟨_,hC.grows E bel ((b+1+1+1,Obj.cells (refC b X.sp X.sl) 60 (0,0))::(b,Obj.cells #[vi] 90 (0,0))::(b+1,Obj.cells #[vt] 54 (0,0))::(b+1+1,Obj.cells #[vk] 92 (0,0))::(objsOf vi W++(objsOf vt W++objsOf vk W))) (fun p hp=>?_),fun p hp=>List.mem_append.2 (.inr hp),?_⟩
 ·simp only[List.mem_cons,List.mem_append]at hp;rcases hp with rfl|rfl|rfl|rfl|hp|hp|hp
  ·exact⟨by dsimp only;omega,_,_,rfl,by decide,B.2.2.2⟩
  ·exact⟨by dsimp only;omega,_,_,rfl,by decide,B.1⟩
  ·exact⟨by dsimp only;omega,_,_,rfl,by decide,B.2.1⟩
  ·exact⟨by dsimp only;omega,_,_,rfl,by decide,B.2.2.1⟩
  ·exact KO p (T1.1 p hp)
  ·exact KO p (T2.1 p hp)
  ·exact KO p (T3.1 p hp)
 ·have up:∀p∈objsOf vi W++(objsOf vt W++objsOf vk W),p∈((b+1+1+1,Obj.cells (refC b X.sp X.sl) 60 (0,0))::(b,Obj.cells #[vi] 90 (0,0))::(b+1,Obj.cells #[vt] 54 (0,0))::(b+1+1,Obj.cells #[vk] 92 (0,0))::(objsOf vi W++(objsOf vt W++objsOf vk W)))++Lo:=fun p hp=>List.mem_append.2 (.inl (by simp only[List.mem_cons];exact .inr (.inr (.inr (.inr hp)))));exact⟨h1.kept kr m1,h2.kept kr m2,h3.kept kr m3,fun k=>⟨fun e=>(m1 k e).imp fun o ho=>up _ ho,fun e=>(m2 k e).imp fun o ho=>up _ ho,fun e=>(m3 k e).imp fun o ho=>up _ ho⟩,by simp,by simp,by simp,by simp⟩
theorem RI.le{m n:Nat}{S:Sto.Sk}{v:Value}(h:RI n S v W)(hl:m<=n):RI m S v W:=⟨h.r,h.t.le hl⟩
theorem RT.le{m n:Nat}{T:Lat.Tb}{v:Value}(h:RT n T v W)(hl:m<=n):RT m T v W:=⟨h.r,h.t.le hl⟩
theorem RK.le{m n:Nat}{K:Ver.Bk}{v:Value}(h:RK n K v W)(hl:m<=n):RK m K v W:=⟨h.r,h.t.le hl⟩
theorem has9(E:Env SA TA BA)(hC:Cx SA TA BA f M w1 X a g D Lo w)(ht:X.wt<9000):Calls Tryz.prog 9 #[pz f.sb] w fun e w'=>∃b vi vt vk Lo',e=.returned (.pointer (some ⟨b+1+1+1,0,none⟩))/\Cx SA TA BA f M w1 X a g D Lo' w'/\(∀p∈Lo,p∈Lo')/\Hw (b+4) X b vi vt vk Lo' w':=by
 have SH:∀W,Nw w W->∃M',ShAt SA TA BA f M' X a g D W:=fun W h=>⟨_,(hC.on E h.bel).sh.choose_spec.1⟩;have SZ:∀W,Nw w W->w.heap.size+4<=W.heap.size:=fun W h=>by have:=lt_of_block h.o0;omega
 have C0:Hid (1=1->_):=fun _=>new21 w;have C1:Hid (∀W,Nw w W->Calls Tryz.prog 11 #[pz f.sb] W fun e w'=>∃ao n cap,e=.returned (.slice ao n cap)/\Hid (RI (w.heap.size+4) X.S (.slice ao n cap) w'/\Nw w w')):=fun W h=>by obtain⟨M',hS⟩:=SH W h;refine(items11 E hS ht).mono ?_;rintro e w' ⟨v,rfl,h1,h2⟩;obtain⟨L,hL⟩:=h1.r;obtain⟨ao,cap,rfl,-⟩:=hL.shape;exact⟨ao,_,cap,rfl,h1.le (SZ W h),h.on h2⟩
 have C2:Hid (∀W vi,Hid (RI (w.heap.size+4) X.S vi W/\Nw w W)->Calls Tryz.prog 12 #[pz f.sb] W fun e w'=>∃ao n cap,e=.returned (.slice ao n cap)/\Hid (RI (w.heap.size+4) X.S vi w'/\RT (w.heap.size+4) X.T (.slice ao n cap) w'/\Nw w w')):=fun W vi h=>by obtain⟨M',hS⟩:=SH W h.out.2;refine(intents12 E hS ht).mono ?_;rintro e w' ⟨v,rfl,h1,h2⟩;obtain⟨ao,cap,rfl,-⟩:=h1.r.shape;exact⟨ao,_,cap,rfl,h.out.1.on h2,h1.le (SZ W h.out.2),h.out.2.on h2⟩
 have C3:Hid (∀W vi vt,Hid (RI (w.heap.size+4) X.S vi W/\RT (w.heap.size+4) X.T vt W/\Nw w W)->Calls Tryz.prog 13 #[pz f.sb] W fun e w'=>∃ao n cap,e=.returned (.slice ao n cap)/\Hid (RI (w.heap.size+4) X.S vi w'/\RT (w.heap.size+4) X.T vt w'/\RK (w.heap.size+4) X.K (.slice ao n cap) w'/\Nw w w')):=fun W vi vt h=>by obtain⟨M',hS⟩:=SH W h.out.2.2;refine(verdicts13 E hS ht).mono ?_;rintro e w' ⟨v,rfl,h1,h2⟩;obtain⟨ao,cap,rfl,-⟩:=h1.r.shape;exact⟨ao,_,cap,rfl,h.out.1.on h2,h.out.2.1.on h2,h1.le (SZ W h.out.2.2),h.out.2.2.on h2⟩
 have C4:Hid (∀W vi vt vk,Hid (RI (w.heap.size+4) X.S vi W/\RT (w.heap.size+4) X.T vt W/\RK (w.heap.size+4) X.K vk W/\Nw w W)->Calls Tryz.prog 14 #[pz f.sb] W fun e w'=>e=.returned (.agg #[uw X.sp,ui X.sl])/\Hid (RI (w.heap.size+4) X.S vi w'/\RT (w.heap.size+4) X.T vt w'/\RK (w.heap.size+4) X.K vk w'/\Nw w w')):=fun W vi vt vk h=>by obtain⟨M',hS⟩:=SH W h.out.2.2.2;refine(safe14 hS).mono ?_;rintro e w' ⟨rfl,h2⟩;exact⟨rfl,h.out.1.on h2,h.out.2.1.on h2,h.out.2.2.1.on h2,h.out.2.2.2.on h2⟩
 have FN:Hid (∀W vi vt vk,Hid (RI (w.heap.size+4) X.S vi W/\RT (w.heap.size+4) X.T vt W/\RK (w.heap.size+4) X.K vk W/\Nw w W)->∃Lo',Cx SA TA BA f M w1 X a g D Lo' (fillW w.heap.size vi vt vk X.sp X.sl W)/\(∀p∈Lo,p∈Lo')/\Hw (w.heap.size+4) X w.heap.size vi vt vk Lo' (fillW w.heap.size vi vt vk X.sp X.sl W)):=fun W vi vt vk h=>fill_has E hC h.out.2.2.2 rfl h.out.1 h.out.2.1 h.out.2.2.1;have N0:Hid (Nw w ((((w.alloc (.cells #[sy] 90)).alloc (.cells #[sy] 54)).alloc (.cells #[sy] 92)).alloc (.cells (refC w.heap.size 0 0) 60))):=Nw.new w;have CE:Hid (∀W,Nw w W->ce W (w.heap.size+1+1+1) 0 (pz w.heap.size)/\ce W (w.heap.size+1+1+1) 1 (.pointer (some ⟨w.heap.size+1,0,none⟩))/\ce W (w.heap.size+1+1+1) 2 (.pointer (some ⟨w.heap.size+1+1,0,none⟩))):=fun W h=>⟨Drm.blk_cell h.o0 rfl,Drm.blk_cell h.o0 rfl,Drm.blk_cell h.o0 rfl⟩;have FZ:Hid (∀W,Nw w W->W.frozen? ⟨w.heap.size,0,none⟩=false/\W.frozen? ⟨w.heap.size+1,0,none⟩=false/\W.frozen? ⟨w.heap.size+1+1,0,none⟩=false/\W.frozen? ⟨w.heap.size+1+1+1,3,none⟩=false/\W.frozen? ⟨w.heap.size+1+1+1,4,none⟩=false/\w.heap.size<W.heap.size):=fun W h=>⟨Drm.blk_free h.o1,Drm.blk_free h.o2,Drm.blk_free h.o3,Drm.blk_free h.o0,Drm.blk_free h.o0,lt_of_block h.o1⟩;have CI:Hid (∀W,Nw w W->∃u0 u1 u2 u3 u4,ce W w.heap.size 0 u0/\ce W (w.heap.size+1) 0 u1/\ce W (w.heap.size+1+1) 0 u2/\ce W (w.heap.size+1+1+1) 3 u3/\ce W (w.heap.size+1+1+1) 4 u4):=fun W h=>⟨_,_,_,_,_,Drm.blk_cell h.o1 rfl,Drm.blk_cell h.o2 rfl,Drm.blk_cell h.o3 rfl,Drm.blk_cell h.o0 rfl,Drm.blk_cell h.o0 rfl⟩;have QS:Hid (∀(W:World) (c o:Nat) (v:Value),(ce W (w.heap.size+1+1+1) 0 (pz w.heap.size)/\ce W (w.heap.size+1+1+1) 1 (.pointer (some ⟨w.heap.size+1,0,none⟩))/\ce W (w.heap.size+1+1+1) 2 (.pointer (some ⟨w.heap.size+1+1,0,none⟩)))->(c≠w.heap.size+1+1+1\/3<=o)->((W.setCell ⟨c,o,none⟩ v).cell? ⟨w.heap.size+1+1+1,0,none⟩=some (pz w.heap.size)/\(W.setCell ⟨c,o,none⟩ v).cell? ⟨w.heap.size+1+1+1,1,none⟩=some (.pointer (some ⟨w.heap.size+1,0,none⟩))/\(W.setCell ⟨c,o,none⟩ v).cell? ⟨w.heap.size+1+1+1,2,none⟩=some (.pointer (some ⟨w.heap.size+1+1,0,none⟩)))):=fun W c o v h hc=>by rw[World.cell?_setCell_other _ _ _ _ (by intro e;simp only[Addr.mk.injEq]at e;omega),World.cell?_setCell_other _ _ _ _ (by intro e;simp only[Addr.mk.injEq]at e;omega),World.cell?_setCell_other _ _ _ _ (by intro e;simp only[Addr.mk.injEq]at e;omega)];exact h
 clear hC ht SH SZ E;unfold fillW at FN;generalize w.heap.size=b at*;generalize f.sb=sb at*;go_enter Tryz.func9,Tryz.ntmps9;go_wp2_with fail;refine(C0.out (by trivial)).mono ?_;rintro e W1 ⟨rfl,rfl⟩;obtain⟨W1,hW1⟩:=xj ((((w.alloc (.cells #[sy] 90)).alloc (.cells #[sy] 54)).alloc (.cells #[sy] 92)).alloc (.cells (refC b 0 0) 60));rw[hW1]at N0|-;clear hW1 C0;go_upto_region 2 with fail
 obtain⟨e0,e1,e2⟩:=CE.out _ N0.out;go_region_held3 (fun W=>ce W (b+1+1+1) 0 (pz b)/\ce W (b+1+1+1) 1 (.pointer (some ⟨b+1,0,none⟩))/\ce W (b+1+1+1) 2 (.pointer (some ⟨b+1+1,0,none⟩))) (with_reducible repeat (first|exact CE.out _ N0.out|exact CE.out _ N0.out.dr|exact CE.out _ H5.out.2|exact CE.out _ H6.out.2.2|exact CE.out _ H7.out.2.2.2|exact CE.out _ H8.out.2.2.2|refine QS.out _ _ _ _ ?_ (by omega))) (first
  |(go_at_call 11;refine(C1.out _ N0.out.dr).mono ?_;rintro e w5 ⟨ia,im,ic,rfl,H5⟩)
  |(go_at_call 12;refine(C2.out _ _ H5).mono ?_;rintro e w6 ⟨ta,tm,tc,rfl,H6⟩)
  |(go_at_call 13;refine(C3.out _ _ _ H6).mono ?_;rintro e w7 ⟨ka,km,kc,rfl,H7⟩)
  |(go_at_call 14;refine(C4.out _ _ _ _ H7).mono ?_;rintro e w8 ⟨rfl,H8⟩;obtain⟨y1,y2,y3,y4,y5,y6⟩:=FZ.out _ H8.out.2.2.2;obtain⟨u0,u1,u2,u3,u4,x0,x1,x2,x3,x4⟩:=CI.out _ H8.out.2.2.2))
 rename_i hHeld;clear hHeld;go_wp2_with fail;go_ret;obtain⟨Lo',h1,h2,h3⟩:=FN.out _ _ _ _ H8;exact⟨_,_,_,_,_,rfl,h1,h2,h3⟩
end Go.Proofs.YtdplfgcoaddbdaaGreat
namespace Go.Proofs.YtdplfgcoaddbdaaGreat
open Go.RowKit
variable {w w1 W W':World}{Lo:List (Nat×Obj)}
theorem run_neq28(p l:Int)(w:World):(binOp .neq 28 (.agg #[uw p,ui l]) (.agg #[uw p,ui l])).run Tryz.prog w=.ok (.bool false) w:=by simp[go_sem]
structure Lk(w:World)(b:Nat)(vi vt vk:Value)(p l:Int)(W:World):Prop where
 c0:W.cell? ⟨b+1+1+1,0,none⟩=some (pz b)
 c1:W.cell? ⟨b+1+1+1,1,none⟩=some (.pointer (some ⟨b+1,0,none⟩))
 c2:W.cell? ⟨b+1+1+1,2,none⟩=some (.pointer (some ⟨b+1+1,0,none⟩))
 c3:W.cell? ⟨b+1+1+1,3,none⟩=some (uw p)
 c4:W.cell? ⟨b+1+1+1,4,none⟩=some (ui l)
 i:W.cell? ⟨b,0,none⟩=some vi
 t:W.cell? ⟨b+1,0,none⟩=some vt
 k:W.cell? ⟨b+1+1,0,none⟩=some vk
 q0:W.cell? ⟨w.heap.size,0,none⟩=some (uw p)
 q1:W.cell? ⟨w.heap.size,1,none⟩=some (ui l)
 bel:Below w.heap.size w W
theorem Lk.on{b:Nat}{vi vt vk:Value}{p l:Int}(h:Lk w b vi vt vk p l W)(hb:Below W.heap.size W W'):Lk w b vi vt vk p l W':=by
 have g:∀{c o:Nat} {u:Value},W.cell? ⟨c,o,none⟩=some u->W'.cell? ⟨c,o,none⟩=some u:=fun e=>by rw[hb.cell (World.block_lt_of_cell? _ _ e)];exact e
 exact⟨g h.c0,g h.c1,g h.c2,g h.c3,g h.c4,g h.i,g h.t,g h.k,g h.q0,g h.q1,h.bel.trans (hb.mono h.bel.size)⟩
theorem Lk.dr{b:Nat}{vi vt vk:Value}{p l:Int}(h:Lk w b vi vt vk p l W):Lk w b vi vt vk p l W.drew:=h.on (Below.refl _ _).drew
theorem like10{n n' b:Nat}{Y:Sd}{vi vt vk vi' vt' vk':Value}(hH:Has Lo w)(h:Hw n Y b vi vt vk Lo w)(hi:RI n' Y.S vi' w)(ht:RT n' Y.T vt' w)(hk:RK n' Y.K vk' w):
  Calls Tryz.prog 10 #[.pointer (some ⟨b+1+1+1,0,none⟩),vi',vt',vk',.agg #[uw Y.sp,ui Y.sl]] w fun e w'=>e=.returned (.bool true)/\Below w.heap.size w w':=by
 have C1:Hid (∀W,Below w.heap.size w W->Calls Tryz.prog 22 #[vi',vi] W fun e w'=>e=.returned (.bool true)/\Below W.heap.size W w'):=fun W hb=>by obtain⟨L1,g1⟩:=(hi.on hb).r;obtain⟨L2,g2⟩:=(h.i.on hb).r;exact Sto.same24 L1 L2 Y.S vi' vi W g1 g2
 have C2:Hid (∀W,Below w.heap.size w W->Calls Tryz.prog 23 #[vk',vk] W fun e w'=>e=.returned (.bool true)/\Below W.heap.size W w'):=fun W hb=>Ver.same17 _ _ Y.K vk' vk W (hk.on hb).r (h.k.on hb).r;obtain⟨ao,ca,rfl,hla,hma⟩:=ht.r.shape;obtain⟨bo,cb,rfl,hlb,hmb⟩:=h.t.r.shape;have HA:Hid (∀W,Below w.heap.size w W->∀i,i<Y.T.length->∃b off,ao=some ⟨b,off,none⟩/\Lat.InAt W b (off+i*10) (Y.T.getD i Lat.di)):=fun W hW i hi=>((ht.on hW).r).el hi;have HB:Hid (∀W,Below w.heap.size w W->∀i,i<Y.T.length->∃b off,bo=some ⟨b,off,none⟩/\Lat.InAt W b (off+i*10) (Y.T.getD i Lat.di)):=fun W hW i hi=>((h.t.on hW).r).el hi;have K0:Hid (Lk w b vi (.slice bo Y.T.length cb) vk Y.sp Y.sl (w.alloc (.cells #[uw Y.sp,ui Y.sl] 28))):=by have hb:Below w.heap.size w (w.alloc (.cells #[uw Y.sp,ui Y.sl] 28)):=al _;have hH':=hH.on hb;exact⟨hH'.cell h.o0 rfl,hH'.cell h.o0 rfl,hH'.cell h.o0 rfl,hH'.cell h.o0 rfl,hH'.cell h.o0 rfl,hH'.cell h.o1 rfl,hH'.cell h.o2 rfl,hH'.cell h.o3 rfl,Drm.blk_cell (heap_alloc_new w _) rfl,Drm.blk_cell (heap_alloc_new w _) rfl,hb⟩
 have hL9:Y.T.length<9223372036854775808:=by omega
 have q28:=run_neq28 Y.sp Y.sl;generalize Y.sp=sp at*;generalize Y.sl=sl at*;generalize Y.T=T at*;clear h hi ht hk hH hla hma hlb hmb;obtain⟨W0,hW0⟩:=xj (w.alloc (.cells #[uw sp,ui sl] 28));rw[hW0]at K0;obtain⟨c0,c1,c2,c3,c4,ci,ct,ck,q0,q1,-⟩:=K0.out;go_enter Tryz.func10,Tryz.ntmps10;go_upto_region 1 with fail
 (try rw[hW0])
 clear hW0;go_region_held3 (fun W=>W.cell? ⟨b+1+1+1,0,none⟩=some (pz b)/\W.cell? ⟨b+1+1+1,1,none⟩=some (.pointer (some ⟨b+1,0,none⟩))/\W.cell? ⟨b+1+1+1,2,none⟩=some (.pointer (some ⟨b+1+1,0,none⟩))/\W.cell? ⟨b+1+1+1,3,none⟩=some (uw sp)/\W.cell? ⟨b+1+1+1,4,none⟩=some (ui sl)/\W.cell? ⟨b,0,none⟩=some vi/\W.cell? ⟨b+1,0,none⟩=some (.slice bo T.length cb)/\W.cell? ⟨b+1+1,0,none⟩=some vk/\W.cell? ⟨w.heap.size,0,none⟩=some (uw sp)/\W.cell? ⟨w.heap.size,1,none⟩=some (ui sl)/\Lk w b vi (.slice bo T.length cb) vk sp sl W) ((with_reducible refine(fun(z:Lk w b vi (.slice bo T.length cb) vk sp sl _)=>⟨z.c0,z.c1,z.c2,z.c3,z.c4,z.i,z.t,z.k,z.q0,z.q1,z⟩) ?_;with_reducible repeat (first|exact K0.out|exact H5.out|exact H4.out|refine Lk.dr ?_))) (first
  |(go_at_call 22;refine(C1.out _ (by with_reducible repeat (first|exact K0.out.bel|exact K0.out.dr.bel))).mono ?_;rintro e w2 ⟨rfl,hb2⟩;have H4:Hid (Lk w b vi (.slice bo T.length cb) vk sp sl w2):=(by refine Lk.on ?_ hb2;with_reducible repeat (first|exact K0.out|refine Lk.dr ?_));clear hb2)
  |(go_at_call 23;refine(C2.out _ H4.out.bel).mono ?_;rintro e w3 ⟨rfl,hb3⟩;have H5:Hid (Lk w b vi (.slice bo T.length cb) vk sp sl w3):=H4.out.on hb3;clear hb3))
 rename_i hHeld;clear hHeld c0 c1 c2 c3 c4 ci ct ck q0 q1 C1 C2 K0 H4 q28;go_wp2_with fail;go_loopw [11] (fun i wr=>Lk w b vi (.slice bo T.length cb) vk sp sl wr/\∃m:Nat,m<=T.length/\i=iw m) (fun i _=>T.length-(intOf i).toNat)
 case atStart=>exact⟨H5.out,0,Nat.zero_le _,rfl⟩
 case round=>
  obtain⟨hlk,m,hm,rfl⟩:=hrel;have HL:Hid _:=hlk;clear H5;by_cases hml:m<T.length
  ·obtain⟨b1,o1,rfl,e0,e1,e2,e3,e4,e5,e6,e7,e8,e9⟩:=HA.out wr hlk.bel m hml;obtain⟨b2,o2,rfl,f0,f1,f2,f3,f4,f5,f6,f7,f8,f9⟩:=HB.out wr hlk.bel m hml;have hml':(m:Int)<T.length:=by omega
   generalize hx:T.getD m Lat.di=x at*;obtain⟨a,s⟩:=x;dsimp only at e0 e1 e2 e3 e4 e5 e6 e7 e8 e9 f0 f1 f2 f3 f4 f5 f6 f7 f8 f9;have hq:=Lat.run_neq49 s.c s.n s.sp s.sl s.mp s.ml s.prim a s.val s.dead;have HF:Hid (Lat.InAt wr b2 (o2+m*10) (a,s)):=⟨f0,f1,f2,f3,f4,f5,f6,f7,f8,f9⟩;clear hlk HA HB hx;go_upto_region 7 with fail
   obtain⟨W7,hW7⟩:=xj (wr.alloc (.cells (inC a s) 69));obtain⟨b7,hb7⟩:=xj wr.heap.size;have hbx:W7.heap[b7]?=some (.cells (inC a s) 69 (0,0)):=by rw[<-hW7,<-hb7];exact heap_alloc_new wr _
   have HBX:Hid _:=hbx;have BW:Hid (Below wr.heap.size wr ((W7.setCell ⟨b7,4,none⟩ (uw s.mp)).setCell ⟨b7,5,none⟩ (ui s.ml))):=by show Below _ _ _;rw[<-hW7,<-hb7];exact((al _).setCell (Nat.le_refl _) _).setCell (Nat.le_refl _) _
   have HL7:Hid (Lk w b vi (.slice (some ⟨b2,o2,none⟩) T.length cb) vk sp sl W7):=by show Lk _ _ _ _ _ _ _ _;rw[<-hW7];exact HL.out.on (al _)
   have HF7:Hid (Lat.InAt W7 b2 (o2+m*10) (a,s)):=by show Lat.InAt _ _ _ _;rw[<-hW7];exact HF.out.on (al _)
   (try rw[hW7,hb7])
   clear e0 e1 e2 e3 e4 e5 e6 e7 e8 e9 f0 f1 f2 f3 f4 f5 f6 f7 f8 f9 hW7 hb7;obtain⟨f0,f1,f2,f3,f4,f5,f6,f7,f8,f9⟩:=HF7.out;dsimp only at f0 f1 f2 f3 f4 f5 f6 f7 f8 f9;have c1:=HL7.out.c1;have ct:=HL7.out.t;have n4:W7.cell? ⟨b7,4,none⟩=some (uw s.mp):=Drm.blk_cell hbx rfl;have n5:W7.cell? ⟨b7,5,none⟩=some (ui s.ml):=Drm.blk_cell hbx rfl;have z4:W7.frozen? ⟨b7,4,none⟩=false:=Drm.blk_free hbx;have z5:W7.frozen? ⟨b7,5,none⟩=false:=Drm.blk_free hbx;clear hbx;go_upto_region 8 with fail
   obtain⟨W8,hW8⟩:=xj ((W7.setCell ⟨b7,4,none⟩ (uw s.mp)).setCell ⟨b7,5,none⟩ (ui s.ml));have hbx:W8.heap[b7]?=some (.cells (inC a s) 69 (0,0)):=by rw[<-hW8];exact Drm.blk_setCell (k:=5) (Drm.blk_setCell (k:=4) HBX.out)
   rw[hW8]at BW;(try rw[hW8])
   clear f0 f1 f2 f3 f4 f5 f6 f7 f8 f9 c1 ct n4 n5 z4 z5 hW8 HL7 HF7 HBX;have HL8:Hid (Lk w b vi (.slice (some ⟨b2,o2,none⟩) T.length cb) vk sp sl W8):=HL.out.on BW.out;have HS:Hid ((fun W=>W.cell? ⟨b7,0,none⟩=some (ui s.c)/\W.cell? ⟨b7,1,none⟩=some (ui s.n)/\W.cell? ⟨b7,2,none⟩=some (uw s.sp)/\W.cell? ⟨b7,3,none⟩=some (ui s.sl)/\W.cell? ⟨b7,4,none⟩=some (uw s.mp)/\W.cell? ⟨b7,5,none⟩=some (ui s.ml)/\W.cell? ⟨b7,6,none⟩=some (sd s.prim)/\W.cell? ⟨b7,7,none⟩=some (sd a)/\W.cell? ⟨b7,8,none⟩=some (sd s.val)/\W.cell? ⟨b7,9,none⟩=some (.bool s.dead)/\W.cell? ⟨b2,o2+m*10,none⟩=some (ui s.c)/\W.cell? ⟨b2,o2+m*10+1,none⟩=some (ui s.n)/\W.cell? ⟨b2,o2+m*10+2,none⟩=some (uw s.sp)/\W.cell? ⟨b2,o2+m*10+3,none⟩=some (ui s.sl)/\W.cell? ⟨b2,o2+m*10+4,none⟩=some (uw s.mp)/\W.cell? ⟨b2,o2+m*10+5,none⟩=some (ui s.ml)/\W.cell? ⟨b2,o2+m*10+6,none⟩=some (sd s.prim)/\W.cell? ⟨b2,o2+m*10+7,none⟩=some (sd a)/\W.cell? ⟨b2,o2+m*10+8,none⟩=some (sd s.val)/\W.cell? ⟨b2,o2+m*10+9,none⟩=some (.bool s.dead)/\W.cell? ⟨b+1+1+1,1,none⟩=some (.pointer (some ⟨b+1,0,none⟩))/\W.cell? ⟨b+1,0,none⟩=some (.slice (some ⟨b2,o2,none⟩) T.length cb)) W8):=by have z:=HF.out.on BW.out;exact⟨Drm.blk_cell hbx rfl,Drm.blk_cell hbx rfl,Drm.blk_cell hbx rfl,Drm.blk_cell hbx rfl,Drm.blk_cell hbx rfl,Drm.blk_cell hbx rfl,Drm.blk_cell hbx rfl,Drm.blk_cell hbx rfl,Drm.blk_cell hbx rfl,Drm.blk_cell hbx rfl,z.c0,z.c1,z.c2,z.c3,z.c4,z.c5,z.c6,z.c7,z.c8,z.c9,HL8.out.c1,HL8.out.t⟩
   clear hbx HF HL BW;obtain⟨n0,n1,n2,n3,n4,n5,n6,n7,n8,n9,f0,f1,f2,f3,f4,f5,f6,f7,f8,f9,c1,ct⟩:=HS.out;go_region_held3 (fun W=>W.cell? ⟨b7,0,none⟩=some (ui s.c)/\W.cell? ⟨b7,1,none⟩=some (ui s.n)/\W.cell? ⟨b7,2,none⟩=some (uw s.sp)/\W.cell? ⟨b7,3,none⟩=some (ui s.sl)/\W.cell? ⟨b7,4,none⟩=some (uw s.mp)/\W.cell? ⟨b7,5,none⟩=some (ui s.ml)/\W.cell? ⟨b7,6,none⟩=some (sd s.prim)/\W.cell? ⟨b7,7,none⟩=some (sd a)/\W.cell? ⟨b7,8,none⟩=some (sd s.val)/\W.cell? ⟨b7,9,none⟩=some (.bool s.dead)/\W.cell? ⟨b2,o2+m*10,none⟩=some (ui s.c)/\W.cell? ⟨b2,o2+m*10+1,none⟩=some (ui s.n)/\W.cell? ⟨b2,o2+m*10+2,none⟩=some (uw s.sp)/\W.cell? ⟨b2,o2+m*10+3,none⟩=some (ui s.sl)/\W.cell? ⟨b2,o2+m*10+4,none⟩=some (uw s.mp)/\W.cell? ⟨b2,o2+m*10+5,none⟩=some (ui s.ml)/\W.cell? ⟨b2,o2+m*10+6,none⟩=some (sd s.prim)/\W.cell? ⟨b2,o2+m*10+7,none⟩=some (sd a)/\W.cell? ⟨b2,o2+m*10+8,none⟩=some (sd s.val)/\W.cell? ⟨b2,o2+m*10+9,none⟩=some (.bool s.dead)/\W.cell? ⟨b+1+1+1,1,none⟩=some (.pointer (some ⟨b+1,0,none⟩))/\W.cell? ⟨b+1,0,none⟩=some (.slice (some ⟨b2,o2,none⟩) T.length cb)) (exact HS.out) (fail)
   rename_i hHeld;clear hHeld n0 n1 n2 n3 n4 n5 n6 n7 n8 n9 f0 f1 f2 f3 f4 f5 f6 f7 f8 f9 c1 ct HS;go_wp2_with fail;go_roundw
   case rel=>exact⟨HL8.out.dr,m+1,by omega,by go_num⟩
   case measure=>simp[intOf];omega
  ·have hml':¬(m:Int)<T.length:=by omega
   clear hlk HA HB;go_wp2_with fail;go_ret;exact⟨rfl,HL.out.bel⟩
end Go.Proofs.YtdplfgcoaddbdaaGreat
