import Derived.Test.YtdplfgcoaddbdaaGreatXbd
import Derived.Test.YtdplfgcoaddbdaaGreatXbi
set_option maxHeartbeats 4000000
set_option maxRecDepth 100000
set_option linter.unusedVariables false
set_option linter.unusedSimpArgs false
namespace Go.Proofs.YtdplfgcoaddbdaaGreat
open Go.RowKit
variable {SA:TyS}{TA:TyT}{BA:TyB}
variable {f:Fp}{M:Nat->Prop}{X:Sd}{a:Int}{g:Nat}{D:Drm.Dr}{w w1 W W':World}{Lo:List (Nat×Obj)}
def Tgd(n:Nat)(v:Value)(W:World):Prop:=∀k,v.ownBlock=some k->n<=k/\∃cs ty,ty≠5/\W.heap[k]?=some (.cells cs ty (0,0))
theorem Tgd.le{m n:Nat}{v:Value}(h:Tgd n v W)(hl:m<=n):Tgd m v W:=fun k hk=>⟨Nat.le_trans hl (h k hk).1,(h k hk).2⟩
theorem Tgd.on{n:Nat}{v:Value}(h:Tgd n v W)(hb:Below W.heap.size W W'):Tgd n v W':=fun k hk=>by obtain⟨h1,cs,ty,h2,h3⟩:=h k hk;exact⟨h1,cs,ty,h2,by rw[hb.block k (lt_of_block h3)];exact h3⟩
structure RI(n:Nat)(S:Sto.Sk)(v:Value)(W:World):Prop where
 r:∃L,Sto.ItAt v L S W
 t:Tgd n v W
structure RT(n:Nat)(T:Lat.Tb)(v:Value)(W:World):Prop where
 r:Lat.IsAt W.heap.size v T W
 t:Tgd n v W
theorem RI.on{n:Nat}{S:Sto.Sk}{v:Value}(h:RI n S v W)(hb:Below W.heap.size W W'):RI n S v W':=by obtain⟨L,h1⟩:=h.r;exact⟨⟨L,h1.on hb⟩,h.t.on hb⟩
theorem RT.on{n:Nat}{T:Lat.Tb}{v:Value}(h:RT n T v W)(hb:Below W.heap.size W W'):RT n T v W':=⟨(RwAt.on h.r hb).le hb.size,h.t.on hb⟩
theorem items11(E:Env SA TA BA)(h:ShAt SA TA BA f M X a g D w)(ht:X.wt<9000):Calls Tryz.prog 11 #[pz f.sb] w fun e w'=>∃v,e=.returned v/\RI w.heap.size X.S v w'/\Below w.heap.size w w':=by
 have c:=h.cells.2.2.1;have C:Hid (1=1->Calls Tryz.prog 24 #[pz f.st] w fun e w'=>∃v,e=.returned v/\Hid (RI w.heap.size X.S v w')/\Hid (Below w.heap.size w w')):=fun _=>by refine(sh_items E h (by unfold Sd.wt at ht;omega)).mono ?_;rintro e w' ⟨v,L,rfl,h1,h2,h3⟩;exact⟨v,rfl,⟨⟨L,h1⟩,fun k hk=>⟨(h2 k hk).1,_,_,by decide,(h2 k hk).2.choose_spec⟩⟩,h3⟩
 clear h ht E;go_enter Tryz.func11,Tryz.ntmps11;go_wp2_with fail;refine(C.out (by trivial)).mono ?_;rintro e w' ⟨v,rfl,h1,h2⟩;go_wp2_with fail;go_ret;exact⟨v,rfl,h1.out,h2.out⟩
theorem intents12(E:Env SA TA BA)(h:ShAt SA TA BA f M X a g D w)(ht:X.wt<9000):Calls Tryz.prog 12 #[pz f.sb] w fun e w'=>∃v,e=.returned v/\RT w.heap.size X.T v w'/\Below w.heap.size w w':=by
 have c:=h.cells.2.2.2.1;have C:Hid (1=1->Calls Tryz.prog 25 #[pz f.la] w fun e w'=>∃v,e=.returned v/\Hid (RT w.heap.size X.T v w')/\Hid (Below w.heap.size w w')):=fun _=>by refine(sh_iall E h (by unfold Sd.wt at ht;omega)).mono ?_;rintro e w' ⟨v,rfl,h1,h2,h3⟩;exact⟨v,rfl,⟨h1,fun k hk=>⟨(h2 k hk).1,_,_,by decide,(h2 k hk).2.choose_spec⟩⟩,h3⟩
 clear h ht E;go_enter Tryz.func12,Tryz.ntmps12;go_wp2_with fail;refine(C.out (by trivial)).mono ?_;rintro e w' ⟨v,rfl,h1,h2⟩;go_wp2_with fail;go_ret;exact⟨v,rfl,h1.out,h2.out⟩
theorem in_nov(E:Env SA TA BA)(h:ShAt SA TA BA f M X a g D w):∀k,M k->Sto.NoVe w k:=by
 obtain⟨M1,M2,M3,h,rfl⟩:=h;rintro k (rfl|rfl|rfl|e|e|e|⟨_,cs,fz,e⟩)
 ·exact Sto.noVe_tag h.blk (by intro cs fz e;injection e with _ e _;exact absurd e (by decide))
 ·exact Sto.noVe_tag h.lg.blk (by intro cs fz e;injection e with _ e _;exact absurd e (by decide))
 ·obtain⟨vs,hd⟩:=h.lg.drum;exact Sto.noVe_tag hd.blk (by intro cs fz e;injection e with _ e _;exact absurd e (by decide))
 ·exact E.I.nov h.s k e
 ·exact(E.tT h.t k e).2
 ·exact(E.tV h.v k e).2
 ·exact Sto.noVe_tag e (by intro cs fz e;injection e with _ e _;exact absurd e (by decide))
structure QIn(w:World)(q:Rq)(wa:Option Addr)(wc:Nat)(sa:Option Addr)(sc:Nat):Prop where
 ok:RqOk q
 ws:Lat.WsAt w.heap.size (.slice wa q.ws.length wc) q.ws w
 sk:TAt w.heap.size (.slice sa q.sk.length sc) q.sk w
theorem rw_lt{B size n cap:Nat}{ao:Option Addr}{cs:List Value}(h:RwAt B size (.slice ao n cap) n cs w)(hc:cs.length=n*size)(hs:0<size)(h0:0<n){k:Nat}(hk:(Value.slice ao n cap).ownBlock=some k):k<B:=by obtain⟨b,off,rfl,hb,-⟩:=h.cellAt (j:=0) (by rw[hc];exact Nat.mul_pos h0 hs);simp only[Value.ownBlock,Option.some.injEq]at hk;rw[<-hk];exact hb
def Kr(Lo:List (Nat×Obj))(W W':World):Prop:=∃G:Nat->Prop,Kept G W W'/\(∀k,G k->Sto.NoVe W k)/\∀p∈Lo,¬G p.1
theorem Tgd.kept{n:Nat}{v:Value}(h:Tgd n v W)(k:Kr Lo W W')(hl:∀k,v.ownBlock=some k->∃o,(k,o)∈Lo):Tgd n v W':=fun i hi=>by obtain⟨G,k1,-,k3⟩:=k;obtain⟨o,ho⟩:=hl i hi;obtain⟨h1,cs,ty,h2,h3⟩:=h i hi;exact⟨h1,cs,ty,h2,kept_obj h3 k1 (k3 _ ho)⟩
theorem rows_kept{B size n:Nat}{v:Value}{cs:List Value}(h:RwAt B size v n cs W)(hB:B=W.heap.size)(k:Kr Lo W W')(hl:∀k,v.ownBlock=some k->∃o,(k,o)∈Lo):RwAt W'.heap.size size v n cs W':=by obtain⟨G,k1,-,k3⟩:=k;exact(rw_keep h k1 (fun i e g=>by obtain⟨o,ho⟩:=hl i e;exact k3 _ ho g)).le (hB▸k1.size)
theorem RI.kept{n:Nat}{S:Sto.Sk}{v:Value}(h:RI n S v W)(k:Kr Lo W W')(hl:∀k,v.ownBlock=some k->∃o,(k,o)∈Lo):RI n S v W':=by obtain⟨L,h1,h2⟩:=h.r;refine⟨⟨L,rows_kept h1 rfl k hl,?_⟩,h.t.kept k hl⟩;obtain⟨G,k1,k2,-⟩:=k;exact Sto.Chs.kept k1 k2 h2
theorem RT.kept{n:Nat}{T:Lat.Tb}{v:Value}(h:RT n T v W)(k:Kr Lo W W')(hl:∀k,v.ownBlock=some k->∃o,(k,o)∈Lo):RT n T v W':=⟨rows_kept h.r rfl k hl,h.t.kept k hl⟩
theorem ask8(E:Env SA TA BA)(hC:Cx SA TA BA f M w1 X a g D Lo W)(hM:∀k,M k->w.heap.size<=k)(hb:Below w.heap.size w w1)(G:Gd X)(ht:X.wt<8900)(u:Up D)(ph:Int)(h0:0<=ph)(h1:ph<=18446744073709551615){q:Rq}{wa sa:Option Addr}{wc sc:Nat}(hq:QIn w q wa wc sa sc):
  Calls Tryz.prog 8 #[pz f.sb,uw ph,rqV q wa wc sa sc] W fun e w'=>∃ao n cap,e=.returned (rpV (handF ph q X a D).1 (.slice ao n cap))/\Cx SA TA BA f M w1 (handF ph q X a D).2.1 a g (handF ph q X a D).2.2 Lo w'/\Lv X (handF ph q X a D).2/\Kr Lo W w':=by
 obtain⟨M',hS,h2,h3⟩:=hC.sh;have hbW:Below w.heap.size w W:=hb.trans (hC.kp.below (B:=w.heap.size) hb.size hM);have hlo:∀k,M' k->w.heap.size<=k:=fun k hk=>(h2 k hk).elim (hM k) (fun e=>Nat.le_trans hb.size e);have l1:∀(_:0<q.ws.length) (k:Nat),(Value.slice wa q.ws.length wc).ownBlock=some k->k<w.heap.size:=fun h0 k hk=>rw_lt hq.ws (rowC_length (vc:=Lat.wrc) (sz:=3) (fun _=>rfl) _) (by decide) h0 hk;have l2:∀(_:0<q.sk.length) (k:Nat),(Value.slice sa q.sk.length sc).ownBlock=some k->k<w.heap.size:=fun h0 k hk=>rw_lt hq.sk (rowC_length (vc:=Lat.txc) (sz:=2) (fun _=>rfl) _) (by decide) h0 hk;have hlv:Lv X (handF ph q X a D).2:=by obtain⟨M1,M2,M3,h,rfl⟩:=hS;exact ans_lv hq.ok (E.J.ok h.t) (E.I.sok h.s) G u h0
 refine(handle16 E (scan93 E) ph q wa wc sa sc hS ht G.ok h0 h1 hq.ok ⟨(RwAt.on hq.ws hbW).le hbW.size,fun p k hk hm=>?_⟩ ((RwAt.on hq.sk hbW).le hbW.size) (fun p k hk=>⟨fun hm=>?_,?_⟩)).mono ?_
 ·have:=hlo k hm;have:=l1 p k hk;omega
 ·have:=hlo k hm;have:=l2 p k hk;omega
 ·exact Nat.lt_of_lt_of_le (l2 p k hk) hbW.size
 ·rintro e w' ⟨ao,n,cap,rfl,-,hs⟩;exact⟨ao,n,cap,rfl,hC.next h2 h3 hs,hlv,M',hs.choose_spec.2.1,in_nov E hS,h3⟩
def objsOf(v:Value)(W:World):List (Nat×Obj):=match v.ownBlock with
 |none=>[]
 |some k=>match W.heap[k]?with
  |none=>[]
  |some o=>[(k,o)]
theorem objs_tgd{n:Nat}{v:Value}(h:Tgd n v W):(∀p∈objsOf v W,n<=p.1/\∃cs ty,p.2=.cells cs ty (0,0)/\ty≠5/\W.heap[p.1]?=some (.cells cs ty (0,0)))/\∀k,v.ownBlock=some k->∃o,(k,o)∈objsOf v W:=by
 unfold objsOf;cases hv:v.ownBlock with
 |none=>exact⟨fun p hp=>(by cases hp),fun k hk=>(by cases hk)⟩
 |some k=>
  obtain⟨h1,cs,ty,h2,h3⟩:=h k hv;dsimp only;rw[h3];refine⟨fun p hp=>?_,fun k' hk=>?_⟩
  ·obtain rfl:=List.mem_singleton.1 hp;exact⟨h1,cs,ty,rfl,h2,h3⟩
  ·injection hk with hk;subst hk;exact⟨_,List.mem_singleton.2 rfl⟩
theorem RI.le{m n:Nat}{S:Sto.Sk}{v:Value}(h:RI n S v W)(hl:m<=n):RI m S v W:=⟨h.r,h.t.le hl⟩
theorem RT.le{m n:Nat}{T:Lat.Tb}{v:Value}(h:RT n T v W)(hl:m<=n):RT m T v W:=⟨h.r,h.t.le hl⟩
end Go.Proofs.YtdplfgcoaddbdaaGreat
