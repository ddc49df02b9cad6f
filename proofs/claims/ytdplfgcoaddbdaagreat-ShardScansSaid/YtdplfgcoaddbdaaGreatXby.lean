import Derived.ProofKit
import Derived.OpenShut
import Derived.Lib.SmallJoins
import Derived.SizedLaws
import Derived.ShutString
import Derived.Deep.Strs
import Derived.Test.YtdplfgcoaddbdaaGreatXbx
set_option maxHeartbeats 4000000
set_option maxRecDepth 100000
set_option linter.unusedVariables false
set_option linter.unusedSimpArgs false
namespace Go.Proofs.YtdplfgcoaddbdaaGreat
open Go.RowKit
variable {SA:TyS}{TA:TyT}{BA:TyB}
variable {f:Fp}{M:Nat->Prop}{X:Sd}{a:Int}{g:Nat}{D:Drm.Dr}{w w1 W W':World}{Lo L:List (Nat×Obj)}
def No5(o:Obj):Prop:=∀cs fz,o≠ .cells cs 5 fz
theorem no5_cells{cs:Array Value}{ty:TypeId}{fz:Nat×Nat}(h:ty≠5):No5 (.cells cs ty fz):=fun _ _ e=>by injection e with _ e _;exact h e
theorem Cx.wide{M2:Nat->Prop}(h:Cx SA TA BA f M w X a g D Lo W)(hM:∀k,M k->M2 k):Cx SA TA BA f M2 w X a g D Lo W:=by obtain⟨⟨M',h1,h2,h3⟩,h4,h5⟩:=h;exact⟨⟨M',h1,fun i e=>(h2 i e).imp_left (hM i),h3⟩,h4.mono hM,h5⟩
theorem Cx.also{b:Nat}{o:Obj}(h:Cx SA TA BA f M w X a g D Lo W)(hn:¬M b)(hl:b<w.heap.size)(ho:W.heap[b]?=some o):Cx SA TA BA f M w X a g D ((b,o)::Lo) W:=by
 obtain⟨⟨M',h1,h2,h3⟩,h4,h5⟩:=h;refine⟨⟨M',h1,h2,fun p hp e=>?_⟩,h4,fun p hp=>?_⟩
 ·rcases List.mem_cons.1 hp with rfl|hp
  ·rcases h2 _ e with e|e
   ·exact hn e
   ·dsimp only at e;omega
  ·exact h3 p hp e
 ·rcases List.mem_cons.1 hp with rfl|hp
  ·exact ho
  ·exact h5 p hp
theorem Cx.grow1(E:Env SA TA BA)(h:Cx SA TA BA f M w X a g D Lo W)(hb:Below W.heap.size W W'){r:Nat}{o:Obj}(hr:W.heap.size<=r)(ho:W'.heap[r]?=some o)(hn:No5 o):Cx SA TA BA f M w X a g D ((r,o)::Lo) W':=by
 obtain⟨⟨M',h1,h2,h3⟩,h4,h5⟩:=h;have hl:∀k,M' k->k<W.heap.size:=fun k hk=>h1.lt E hk;obtain⟨M1,M2,M3,hc,rfl⟩:=h1;refine⟨⟨_,⟨M1,M2,M3,hc.on E hb,rfl⟩,fun i hi=>?_,fun p hp hi=>?_⟩,h4.trans (Kept.of_below (F:=fun _=>False) hb) (fun _ e=>e.elim),fun p hp=>?_⟩
 ·rcases In_kept (G:=fun _=>False) (Kept.of_below hb) hi with e|e|e
  ·exact h2 i e
  ·exact .inr (Nat.le_trans h4.size e)
  ·exact e.elim
 ·rcases List.mem_cons.1 hp with rfl|hp
  ·have nl:∀k,k=r->¬k<W.heap.size:=fun k e=>by omega
   rcases hi with e|e|e|e|e|e|⟨-,cs',fz,e⟩
   ·exact nl _ rfl (hl _ (.inl e))
   ·exact nl _ rfl (hl _ (.inr (.inl e)))
   ·exact nl _ rfl (hl _ (.inr (.inr (.inl e))))
   ·exact nl _ rfl (hl _ (.inr (.inr (.inr (.inl e)))))
   ·exact nl _ rfl (hl _ (.inr (.inr (.inr (.inr (.inl e))))))
   ·exact nl _ rfl (hl _ (.inr (.inr (.inr (.inr (.inr (.inl e)))))))
   ·dsimp only at e;rw[ho]at e;injection e with e;exact hn _ _ e
  ·rcases In_kept (G:=fun _=>False) (Kept.of_below hb) hi with e|e|e
   ·exact h3 p hp e
   ·have:=h5.lt p hp;omega
   ·exact e.elim
 ·rcases List.mem_cons.1 hp with rfl|hp
  ·exact ho
  ·exact(h5.on hb) p hp
theorem Cx.swap(E:Env SA TA BA){b:Nat}{o o':Obj}(h:Cx SA TA BA f M w X a g D ((b,o)::L) W)(hv:Sto.NoVe W b)(hb:M b\/w.heap.size<=b)(hk:Kept (fun i=>i=b) W W')(ho:W'.heap[b]?=some o')(hn:No5 o')(hL:∀p∈L,p.1≠b):Cx SA TA BA f M w X a g D ((b,o')::L) W':=by
 obtain⟨⟨M',h1,h2,h3⟩,h4,h5⟩:=h;obtain⟨M1,M2,M3,hc,rfl⟩:=h1;have hM:¬f.In M1 M2 M3 W b:=h3 _ (List.mem_cons_self ..);refine⟨⟨_,⟨M1,M2,M3,hc.kept E hk (fun k hi e=>hM (e▸hi)) (fun k e=>e▸hv),rfl⟩,fun i hi=>?_,fun p hp hi=>?_⟩,h4.trans hk (fun i e=>e▸hb),fun p hp=>?_⟩
 ·rcases In_kept hk hi with e|e|e
  ·exact h2 i e
  ·exact .inr (Nat.le_trans h4.size e)
  ·exact e▸hb
 ·rcases List.mem_cons.1 hp with rfl|hp
  ·rcases hi with e|e|e|e|e|e|⟨-,cs',fz,e⟩
   ·exact hM (.inl e)
   ·exact hM (.inr (.inl e))
   ·exact hM (.inr (.inr (.inl e)))
   ·exact hM (.inr (.inr (.inr (.inl e))))
   ·exact hM (.inr (.inr (.inr (.inr (.inl e)))))
   ·exact hM (.inr (.inr (.inr (.inr (.inr (.inl e))))))
   ·dsimp only at e;rw[ho]at e;injection e with e;exact hn _ _ e
  ·rcases In_kept hk hi with e|e|e
   ·exact h3 p (List.mem_cons_of_mem _ hp) e
   ·have:=h5.lt p (List.mem_cons_of_mem _ hp);omega
   ·exact hL p hp e
 ·rcases List.mem_cons.1 hp with rfl|hp
  ·exact ho
  ·exact kept_obj (h5 p (List.mem_cons_of_mem _ hp)) hk (hL p hp)
theorem askp8(E:Env SA TA BA)(hC:Cx SA TA BA f M w1 X a g D Lo W)(hM:∀k,M k->w.heap.size<=k)(hb:Below w.heap.size w w1)(G:Gd X)(ht:X.wt<8900)(u:Up D)(ph:Int)(h0:0<=ph)(h1:ph<=18446744073709551615){q:Rq}{wa sa:Option Addr}{wc sc:Nat}(hq:QIn w q wa wc sa sc):
  Calls Tryz.prog 8 #[pz f.sb,uw ph,rqV q wa wc sa sc] W fun e w'=>∃ao n cap,e=.returned (rpV (handF ph q X a D).1 (.slice ao n cap))/\PrO W.heap.size (.slice ao n cap) (handF ph q X a D).1.prs w'/\Cx SA TA BA f M w1 (handF ph q X a D).2.1 a g (handF ph q X a D).2.2 Lo w'/\Lv X (handF ph q X a D).2/\Kr Lo W w':=by
 obtain⟨M',hS,h2,h3⟩:=hC.sh;have hbW:Below w.heap.size w W:=hb.trans (hC.kp.below (B:=w.heap.size) hb.size hM);have hlo:∀k,M' k->w.heap.size<=k:=fun k hk=>(h2 k hk).elim (hM k) (fun e=>Nat.le_trans hb.size e);have l1:∀(_:0<q.ws.length) (k:Nat),(Value.slice wa q.ws.length wc).ownBlock=some k->k<w.heap.size:=fun h0 k hk=>rw_lt hq.ws (rowC_length (vc:=Lat.wrc) (sz:=3) (fun _=>rfl) _) (by decide) h0 hk;have l2:∀(_:0<q.sk.length) (k:Nat),(Value.slice sa q.sk.length sc).ownBlock=some k->k<w.heap.size:=fun h0 k hk=>rw_lt hq.sk (rowC_length (vc:=Lat.txc) (sz:=2) (fun _=>rfl) _) (by decide) h0 hk;have hlv:Lv X (handF ph q X a D).2:=by obtain⟨M1,M2,M3,h,rfl⟩:=hS;exact ans_lv hq.ok (E.J.ok h.t) (E.I.sok h.s) G u h0
 refine(handle16 E (scan93 E) ph q wa wc sa sc hS ht G.ok h0 h1 hq.ok ⟨(RwAt.on hq.ws hbW).le hbW.size,fun p k hk hm=>?_⟩ ((RwAt.on hq.sk hbW).le hbW.size) (fun p k hk=>⟨fun hm=>?_,?_⟩)).mono ?_
 ·have:=hlo k hm;have:=l1 p k hk;omega
 ·have:=hlo k hm;have:=l2 p k hk;omega
 ·exact Nat.lt_of_lt_of_le (l2 p k hk) hbW.size
 ·rintro e w' ⟨ao,n,cap,rfl,hp,hs⟩;exact⟨ao,n,cap,rfl,hp,hC.next h2 h3 hs,hlv,M',hs.choose_spec.2.1,in_nov E hS,h3⟩
theorem PrO.kept{B:Nat}{v:Value}{P:List (List UInt8×List UInt8)}{F:Nat->Prop}(h:PrO B v P W)(hk:Kept F W W')(hF:∀k,v.ownBlock=some k->¬F k):PrO B v P W':=own_kept h hk hF
theorem PrO.on{B:Nat}{v:Value}{P:List (List UInt8×List UInt8)}(h:PrO B v P W)(hb:Below W.heap.size W W'):PrO B v P W':=h.kept (F:=fun _=>False) (Kept.of_below hb) (fun _ _ e=>e)
theorem PrO.shape{B:Nat}{v:Value}{P:List (List UInt8×List UInt8)}(h:PrO B v P W):∃ao cap,v=.slice ao P.length cap:=by
 rcases h.2 with⟨rfl,e⟩|⟨g,cap,cur,rfl,_⟩
 ·exact⟨none,0,by rw[e]⟩
 ·exact⟨_,_,rfl⟩
theorem PrO.tgd{B:Nat}{v:Value}{P:List (List UInt8×List UInt8)}(h:PrO B v P W):Tgd B v W:=fun k hk=>by
 rcases h.2 with⟨rfl,e⟩|⟨g,cap,cur,rfl,h1,h2,_⟩
 ·cases hk
 ·simp only[Value.ownBlock,Option.some.injEq]at hk;subst hk;exact⟨h1,_,_,by decide,h2⟩
theorem PrO.el{B:Nat}{ao:Option Addr}{cap:Nat}{P:List (List UInt8×List UInt8)}(h:PrO B (.slice ao P.length cap) P W){i:Nat}(hi:i<P.length):∃b,ao=some ⟨b,0,none⟩/\ce W b (i*2) (.string (bs (P.getD i ([],[])).1))/\ce W b (i*2+1) (.string (bs (P.getD i ([],[])).2)):=by
 obtain⟨g,cap',e⟩:∃g c,Value.slice ao P.length cap=.slice (some ⟨g,0,none⟩) P.length c:=by
  rcases h.2 with⟨_,e⟩|⟨g,c,cur,e,_⟩
  ·omega
  ·exact⟨g,c,e⟩
 injection e with e1 _ e2;subst e1;subst e2;obtain⟨h1,h2⟩:=Sto.prc_at P i hi;exact⟨g,rfl,(World.ownsRow.cellAt h (i*2) (by omega)).trans h1,(World.ownsRow.cellAt h (i*2+1) (by omega)).trans h2⟩
structure EnvP(SA:TyS)(TA:TyT)(BA:TyB):Prop where
 pS:∀{B p:Nat} {M:Nat->Prop} {S:Sto.Sk} {w:World},SA B p M S w->∀k,M k->∀cs,w.heap[k]?≠some (.cells cs 71 (0,0))
 pT:∀{B p:Nat} {M:Nat->Prop} {T:Lat.Tb} {w:World},TA B p M T w->∀k,M k->∀cs,w.heap[k]?≠some (.cells cs 71 (0,0))
 pV:∀{B p:Nat} {M:Nat->Prop} {K:Ver.Bk} {w:World},BA B p M K w->∀k,M k->∀cs,w.heap[k]?≠some (.cells cs 71 (0,0))
theorem tag_p{k:Nat}{cs:Array Value}{ty:TypeId}{fz:Nat×Nat}(h:w.heap[k]?=some (.cells cs ty fz))(h7:ty≠71):∀cs',w.heap[k]?≠some (.cells cs' 71 (0,0)):=fun cs' e=>by rw[h]at e;injection e with e;injection e with _ e _;exact h7 e
theorem map_p{k:Nat}{es:Array MapEntry}{cl:Nat}(h:w.heap[k]?=some (.map es cl)):∀cs',w.heap[k]?≠some (.cells cs' 71 (0,0)):=fun cs' e=>by rw[h]at e;cases e
theorem Cx.pair(P:EnvP SA TA BA)(h:Cx SA TA BA f M w X a g D Lo W){k:Nat}{cs:Array Value}(hk:W.heap[k]?=some (.cells cs 71 (0,0))):Cx SA TA BA f M w X a g D ((k,.cells cs 71 (0,0))::Lo) W:=by
 obtain⟨⟨M',h1,h2,h3⟩,h4,h5⟩:=h;refine⟨⟨M',h1,h2,fun p hp e=>?_⟩,h4,fun p hp=>?_⟩
 ·rcases List.mem_cons.1 hp with rfl|hp
  ·obtain⟨M1,M2,M3,hc,rfl⟩:=h1;rcases e with rfl|rfl|rfl|e|e|e|⟨_,cs',fz,e⟩
   ·exact tag_p hc.blk (by decide) _ hk
   ·exact tag_p hc.lg.blk (by decide) _ hk
   ·obtain⟨vs,hd⟩:=hc.lg.drum;exact tag_p hd.blk (by decide) _ hk
   ·exact P.pS hc.s _ e _ hk
   ·exact P.pT hc.t _ e _ hk
   ·exact P.pV hc.v _ e _ hk
   ·exact tag_p e (by decide) _ hk
  ·exact h3 p hp e
 ·rcases List.mem_cons.1 hp with rfl|hp
  ·exact hk
  ·exact h5 p hp
theorem Cx.pairs(P:EnvP SA TA BA)(h:Cx SA TA BA f M w X a g D Lo W){B:Nat}{v:Value}{L:List (List UInt8×List UInt8)}(hp:PrO B v L W):Cx SA TA BA f M w X a g D (objsOf v W++Lo) W/\∀k,v.ownBlock=some k->∃o,(k,o)∈objsOf v W:=by
 refine⟨?_,(objs_tgd hp.tgd).2⟩;rcases hp.2 with⟨rfl,e⟩|⟨g,cap,cur,rfl,h1,h2,_⟩
 ·exact h
 ·unfold objsOf;simp only[Value.ownBlock,h2];exact h.pair P h2
structure La(SA:TyS)(TA:TyT)(BA:TyB)(f:Fp)(M:Nat->Prop)(w1:World)(X:Sd)(D:Drm.Dr)(L:List (Nat×Obj))(v:Value)(P:List (List UInt8×List UInt8))(mb:Nat)(m:List (List UInt8))(W:World):Prop where
 cx:∃o,Cx SA TA BA f M w1 X 0 1 D ((mb,o)::L) W
 at_:Gs.AtS mb m W
 nd:m.Nodup
 lt:∀p∈L,p.1<mb
 mw:w1.heap.size<=mb
 pr:PrO 0 v P W
 po:∀k,v.ownBlock=some k->∃o,(k,o)∈L
variable {v:Value}{P:List (List UInt8×List UInt8)}{mb r:Nat}{m left:List (List UInt8)}
theorem map_no5{es:Array MapEntry}{cl:Nat}:No5 (.map es cl):=fun _ _ e=>by cases e
theorem La.on(E:Env SA TA BA)(h:La SA TA BA f M w1 X D L v P mb m W)(hb:Below W.heap.size W W'):La SA TA BA f M w1 X D L v P mb m W':=by obtain⟨o,h1⟩:=h.cx;exact⟨⟨o,h1.on E hb⟩,h.at_.on hb,h.nd,h.lt,h.mw,h.pr.on hb,h.po⟩
theorem La.start(E:Env SA TA BA)(h:Cx SA TA BA f M w1 X 0 1 D L W)(hp:PrO 0 v P W)(po:∀k,v.ownBlock=some k->∃o,(k,o)∈L):La SA TA BA f M w1 X D L v P W.heap.size [] (W.alloc (.map #[] 0)):=
 ⟨⟨_,h.grow1 E (al _) (Nat.le_refl _) (heap_alloc_new W _) map_no5⟩,Gs.At.new W,List.nodup_nil,h.has.lt,h.kp.size,hp.on (al _),po⟩
theorem nov_map{es:Array MapEntry}{cl:Nat}(h:W.heap[mb]?=some (.map es cl)):Sto.NoVe W mb:=Sto.noVe_tag h (fun cs' fz' e=>by cases e)
theorem po_ne(po:∀k,v.ownBlock=some k->∃o,(k,o)∈L)(lt:∀p∈L,p.1<mb):∀k,v.ownBlock=some k->¬k=mb:=fun k hk e=>by obtain⟨o,ho⟩:=po k hk;have:=lt _ ho;dsimp only at this;omega
theorem La.ins(E:Env SA TA BA)(h:La SA TA BA f M w1 X D L v P mb m W)(k:List UInt8):∃w',(Instr.mapUpdate 62 (.map (some mb)) (sd k) (.bool true)).run Tryz.prog W=.ok () w'/\La SA TA BA f M w1 X D L v P mb (Gs.ins k m) w'/\Kept (fun i=>i=mb) W w'/\Sto.NoVe W mb:=by obtain⟨w',h1,h2,h3,h4⟩:=Gs.AtS.ins h.at_ k Tryz.underlying62;obtain⟨o,hc⟩:=h.cx;obtain⟨es,cl,e1,_⟩:=h.at_;have h2':=h2;obtain⟨es',cl',e2,_⟩:=h2';have hv:=nov_map e1;exact⟨w',h1,⟨⟨_,hc.swap E hv (.inr h.mw) h3 e2 map_no5 (fun p hp e=>by have:=h.lt p hp;omega)⟩,h2,Gs.ins_nodup h.nd,h.lt,h.mw,h.pr.kept h3 (po_ne h.po h.lt),h.po⟩,h3,hv⟩
theorem RI.map1{n:Nat}{S:Sto.Sk}{u:Value}(h:RI n S u W)(hn:mb<n)(hk:Kept (fun i=>i=mb) W W')(hv:Sto.NoVe W mb):RI n S u W':=h.kept (Lo:=objsOf u W) ⟨_,hk,fun k e=>e▸hv,fun p hp e=>by have:=((objs_tgd h.t).1 p hp).1;omega⟩ (objs_tgd h.t).2
theorem RT.map1{n:Nat}{T:Lat.Tb}{u:Value}(h:RT n T u W)(hn:mb<n)(hk:Kept (fun i=>i=mb) W W')(hv:Sto.NoVe W mb):RT n T u W':=h.kept (Lo:=objsOf u W) ⟨_,hk,fun k e=>e▸hv,fun p hp e=>by have:=((objs_tgd h.t).1 p hp).1;omega⟩ (objs_tgd h.t).2
structure Lb(SA:TyS)(TA:TyT)(BA:TyB)(f:Fp)(M:Nat->Prop)(w1:World)(X:Sd)(D:Drm.Dr)(L:List (Nat×Obj))(v:Value)(P:List (List UInt8×List UInt8))(mb r:Nat)(m left:List (List UInt8))(Lo:List (Nat×Obj))(W:World):Prop where
 cx:∃o i,Cx SA TA BA f M w1 X 0 1 D (Lo++(r,i)::(mb,o)::L) W
 rg:Gs.Rg (fun x:List UInt8=>x) Gs.tv mb r m left W
 lt:∀p∈L,p.1<mb
 mw:w1.heap.size<=mb
 mr:mb<r
 pr:PrO 0 v P W
 po:∀k,v.ownBlock=some k->∃o,(k,o)∈L
theorem it_no5{b:Option Nat}{s c:Nat}{z:Array Nat}:No5 (.mapIter b s z c):=fun _ _ e=>by cases e
theorem Lb.start(E:Env SA TA BA)(h:La SA TA BA f M w1 X D L v P mb m W):∃w',(Instr.range 62 (.map (some mb))).run Tryz.prog W=.ok (pz W.heap.size) w'/\Lb SA TA BA f M w1 X D L v P mb W.heap.size m m [] w':=by obtain⟨w',h1,h2,h3,h4⟩:=Gs.run_range Tryz.underlying62 h.at_;obtain⟨o,hc⟩:=h.cx;have hb:Below W.heap.size W w':=(grown_kept h3).below (Nat.le_refl _) (fun k e=>by cases e);have hl:=h.at_.lt;have h2':=h2;obtain⟨es,clock,since,seen,c0,_,_,_,_,e5,_⟩:=h2';exact⟨w',h1,⟨o,_,hc.grow1 E hb (Nat.le_refl _) e5 it_no5⟩,h2,h.lt,h.mw,hl,h.pr.on hb,h.po⟩
theorem Lb.on(E:Env SA TA BA)(h:Lb SA TA BA f M w1 X D L v P mb r m left Lo W)(hb:Below W.heap.size W W'):Lb SA TA BA f M w1 X D L v P mb r m left Lo W':=by obtain⟨o,i,h1⟩:=h.cx;exact⟨⟨o,i,h1.on E hb⟩,h.rg.on hb,h.lt,h.mw,h.mr,h.pr.on hb,h.po⟩
theorem Lb.new(E:Env SA TA BA)(h:Lb SA TA BA f M w1 X D L v P mb r m left Lo W)(cs:Array Value)(ty:TypeId)(ht:ty≠5):Lb SA TA BA f M w1 X D L v P mb r m left ((W.heap.size,.cells cs ty (0,0))::Lo) (W.alloc (.cells cs ty (0,0))):=by obtain⟨o,i,h1⟩:=h.cx;exact⟨⟨o,i,h1.new E cs ty ht⟩,h.rg.on (al _),h.lt,h.mw,h.mr,h.pr.on (al _),h.po⟩
theorem Lb.less{Lo':List (Nat×Obj)}(h:Lb SA TA BA f M w1 X D L v P mb r m left Lo W)(hl:∀p∈Lo',p∈Lo):Lb SA TA BA f M w1 X D L v P mb r m left Lo' W:=by obtain⟨o,i,h1⟩:=h.cx;exact⟨⟨o,i,h1.less fun p hp=>(List.mem_append.1 hp).elim (fun e=>List.mem_append.2 (.inl (hl p e))) fun e=>List.mem_append.2 (.inr e)⟩,h.rg,h.lt,h.mw,h.mr,h.pr,h.po⟩
theorem Lb.cell(h:Lb SA TA BA f M w1 X D L v P mb r m left Lo W){b k:Nat}{cs:Array Value}{ty:TypeId}{u:Value}(hp:(b,Obj.cells cs ty (0,0))∈Lo\/(b,Obj.cells cs ty (0,0))∈L)(hk:cs[k]?=some u):ce W b k u:=by obtain⟨o,i,h1⟩:=h.cx;exact h1.has.cell (List.mem_append.2 (hp.imp_right fun e=>List.mem_cons_of_mem _ (List.mem_cons_of_mem _ e))) hk
theorem Lb.next(E:Env SA TA BA)(h:Lb SA TA BA f M w1 X D L v P mb r m left [] W)(ty:TypeId):
  (left=[]/\(Instr.next (pz r) false ty).run Tryz.prog W=.ok (.tuple #[.bool false]) W)\/
  ∃L1 x L2 w',left=L1++x::L2/\(Instr.next (pz r) false ty).run Tryz.prog W=.ok (.tuple #[.bool true,sd x,.bool true]) w'/\Lb SA TA BA f M w1 X D L v P mb r m (L1++L2) [] w'/\(Instr.entry (pz r)).run Tryz.prog w'=.ok (.tuple #[sd x,.bool true]) w':=by
 rcases h.rg.next ty with⟨e,h1⟩|⟨L1,x,L2,w',e,h1,h2,h3,h4,h5⟩
 ·exact .inl ⟨e,h1⟩
 ·refine .inr ⟨L1,x,L2,w',e,h1,?_,h5⟩;obtain⟨o,i,hc⟩:=h.cx;obtain⟨es,clock,since,seen,c0,_,_,_,_,e5,_⟩:=h.rg;have h2':=h2;obtain⟨es',clock',since',seen',c0',_,_,_,_,e5',_⟩:=h2';have hk:Kept (fun k=>k=r) W w':=(grown_kept h3).mono fun k e=>by injection e with e;exact e.symm
  have hmr:=h.mr;have hmw:=h.mw;exact⟨⟨o,_,hc.swap E (Sto.noVe_tag e5 (fun cs' fz' e=>by cases e)) (.inr (by omega)) hk e5' it_no5 (fun p hp=>by
   rcases List.mem_cons.1 hp with rfl|hp
   ·dsimp only;omega
   ·have:=h.lt p hp;omega)⟩,h2,h.lt,h.mw,h.mr,h.pr.kept hk (fun k hk e=>by obtain⟨o,ho⟩:=h.po k hk;have:=h.lt _ ho;dsimp only at this;omega),h.po⟩
theorem ge_ok{q:Rq}(hq:RqOk q){k:List UInt8}:RqOk (geQ q k):=
 have z {n:Int} (h:0<n):(0:Int)<=0/\(0:Int)<n:=⟨Int.le_refl _,h⟩
 ⟨⟨⟨by show(0:Int)<=99;omega,by show(99:Int)<4294967296;omega⟩,z (by omega)⟩,hq.s,⟨z (by omega),z (by omega)⟩,z (by omega)⟩
theorem Lb.ask(E:Env SA TA BA)(h:Lb SA TA BA f M w1 X D L v P mb r m left Lo W)(hM:∀k,M k->w.heap.size<=k)(hb:Below w.heap.size w w1)(G:Gd X)(ht:X.wt<8900)(u:Up D){ph:Int}(h0:0<=ph)(h1:ph<=18446744073709551615){q:Rq}(hq:RqOk q){rp:Rp}(s:Sc ph q rp X D){k:List UInt8}(hk:kOk k=true):
  Calls Tryz.prog 8 #[pz f.sb,uw ph,.agg #[iw 1,ui 99,ui 0,uw q.sp,ui q.sl,uw 0,ui 0,sd k,su,iw 0,ub 0,sy,sy]] W fun e w'=>∃z ao n cap,e=.returned (.agg (rpC z ao n cap))/\Hid (Lb SA TA BA f M w1 X D L v P mb r m left Lo w'/\z.k=(if lkB q X.T k then 3 else 1)/\(lkB q X.T k=false->z.found=(seK q X.S k).isSome/\z.val=(seK q X.S k).getD [])):=by
 obtain⟨o,i,hc⟩:=h.cx;have hqi:QIn w (geQ q k) none 0 none 0:=⟨ge_ok hq,RwAt.nil _ _ _,RwAt.nil _ _ _⟩;refine(askp8 E hc hM hb G ht u ph h0 h1 hqi).mono ?_;obtain⟨g1,g2,g3,g4⟩:=get_sc s u.2 hk;rintro e w' ⟨ao,n,cap,rfl,-,h2,-,hkr⟩;rw[g1]at h2;obtain⟨F,f1,f2,f3⟩:=hkr;have fr:¬F r:=f3 (r,i) (by simp);have fm:¬F mb:=f3 (mb,o) (by simp);exact⟨_,ao,n,cap,by rw[rp_is],⟨⟨o,i,h2⟩,h.rg.kept f1 fm fr,h.lt,h.mw,h.mr,h.pr.kept f1 (fun j hj=>by obtain⟨o',ho'⟩:=h.po j hj;exact f3 (j,o') (by simp[ho'])),h.po⟩,g2,g4⟩
def putQ(b:Nat)(W:World):World:=((((W.setCell ⟨b,0,none⟩ (iw 2)).setCell ⟨b,1,none⟩ (ui 99)).setCell ⟨b,2,none⟩ (ui 0)).setCell ⟨b,12,none⟩ sy).setCell ⟨b,9,none⟩ (iw 32)
theorem putQ_kept(b:Nat)(W:World):Kept (fun k=>k=b) W (putQ b W):=set_k (set_k (set_k (set_k (set_k (Kept.refl _ _) _ _) _ _) _ _) _ _) _ _
theorem putQ_at{b:Nat}{v0 v1 v2 v3 v4 v5 v6 v7 v8 v9 v10 v11 v12:Value}(h:W.heap[b]?=some (.cells #[v0,v1,v2,v3,v4,v5,v6,v7,v8,v9,v10,v11,v12] 32 (0,0))):(putQ b W).heap[b]?=some (.cells #[iw 2,ui 99,ui 0,v3,v4,v5,v6,v7,v8,iw 32,v10,v11,sy] 32 (0,0)):=
 Drm.blk_setCell (k:=9) (Drm.blk_setCell (k:=12) (Drm.blk_setCell (k:=2) (Drm.blk_setCell (k:=1) (Drm.blk_setCell (k:=0) h))))
theorem ask_scan(E:Env SA TA BA)(hC:Cx SA TA BA f M w1 X 0 1 D Lo W)(hM:∀k,M k->w.heap.size<=k)(hb:Below w.heap.size w w1)(G:Gd X)(ht:X.wt<=800)(u:Up D){ph:Int}(h0:0<=ph)(h1:ph<=18446744073709551615){q:Rq}{wa sa:Option Addr}{wc sc:Nat}(hq:QIn w q wa wc sa sc):
  Calls Tryz.prog 8 #[pz f.sb,uw ph,.agg #[iw 2,ui 99,ui 0,uw q.sp,ui q.sl,uw q.ap,ui q.al,sd q.key,sd q.hi,iw 32,ub q.pt,.slice wa q.ws.length wc,sy]] W fun e w'=>∃z X1 D1 a5 c5,e=.returned (.agg (rpC z a5 z.prs.length c5))/\Hid (PrO 0 (.slice a5 z.prs.length c5) z.prs w'/\Cx SA TA BA f M w1 X1 0 1 D1 Lo w'/\(Gd X1/\X1.wt<8900/\Up D1)/\(z.k≠0->Sc ph q z X1 D1)):=by
 have hqi:QIn w (scQ q) wa wc none 0:=⟨⟨⟨⟨by show(0:Int)<=99;omega,by show(99:Int)<4294967296;omega⟩,Int.le_refl _,by show(0:Int)<4294967296;omega⟩,hq.ok.s,hq.ok.a,hq.ok.p⟩,hq.ws,RwAt.nil _ _ _⟩;refine(askp8 E hC hM hb G (by omega) u ph h0 h1 hqi).mono ?_;rintro e w' ⟨ao,n,cap,rfl,hp,h2,h3,-⟩;obtain⟨ao',cap',e⟩:=hp.shape;injection e with e1 e2 e3;subst e1;subst e2;subst e3;exact⟨_,_,_,_,_,rfl,⟨hp.1,hp.2.imp id fun⟨g,c,cur,e,hb,r⟩=>⟨g,c,cur,e,Nat.zero_le _,r⟩⟩,h2,⟨h3.g,by have:=h3.w;omega,h3.u⟩,fun hn=>sc_of hn G.ok hq.ok.s⟩
theorem totS_len{S:Sto.Sk}(h:Sto.SOk S):S.length<=Sto.totS S:=by
 have:=h.all;clear h;unfold Sto.totS;induction S with
 |nil=>exact Nat.le_refl _
 |cons x S ih=>
  have h1:=ih fun y hy=>this y (List.mem_cons_of_mem _ hy);have h2:=List.length_pos_iff.2 (this x (List.mem_cons_self ..)).2;simp only[List.map_cons,List.sum_cons,List.length_cons];omega
theorem nodup_len:∀{l l':List (List UInt8)},l.Nodup->(∀k∈l,k∈l')->l.length<=l'.length
 |[],_,_,_=>Nat.zero_le _
 |x::l,l',h,hs=>by obtain⟨h1,h2⟩:=List.nodup_cons.1 h;have hx:=hs x (List.mem_cons_self ..);have:=nodup_len (l:=l) (l':=l'.erase x) h2 (fun k hk=>(List.mem_erase_of_ne (fun e:k=x=>h1 (e▸hk))).2 (hs k (List.mem_cons_of_mem _ hk)));rw[List.length_erase_of_mem hx]at this;have:=List.length_pos_of_mem hx;simp only[List.length_cons];omega
theorem gtr_lt(a b:List UInt8):(!Op.bytesLess (bs a).toList (bs b).toList&& !((bs a).toList==(bs b).toList))=ltK b a:=by
 rw[bs_list,bs_list];show(!ltK a b&& !(a==b))=ltK b a;cases h1:ltK a b
 ·cases h2:ltK b a
  ·rw[ltK_tri h1 h2];simp
  ·have:=ltK_ne h2;simp[Ne.symm this]
 ·rw[ltK_asymm h1];rfl
end Go.Proofs.YtdplfgcoaddbdaaGreat
namespace Go.Proofs.YtdplfgcoaddbdaaGreat
open Go.ChangeShapes Go.WideShapes Go.ChangeAt Go.RowKit Go.Joins Go.Deep
namespace Opn
theorem own:ownKnob Tryz.prog.godebug=none:=by kernel_rfl
theorem laidOut:laidOutB Tryz.prog=true:=by kernel_rfl
theorem c3:Tryz.prog.cellsOf 3=1:=by kernel_rfl
theorem c4:Tryz.prog.cellsOf 4=1:=by kernel_rfl
theorem cu8:Tryz.prog.cellsOf 5=1:=by kernel_rfl
theorem cStr:Tryz.prog.cellsOf 9=1:=by kernel_rfl
theorem cu64:Tryz.prog.cellsOf 23=1:=by kernel_rfl
theorem cu32:Tryz.prog.cellsOf 24=1:=by kernel_rfl
theorem cTs:Tryz.prog.cellsOf 28=2:=by kernel_rfl
theorem cTxn:Tryz.prog.cellsOf 26=2:=by kernel_rfl
theorem cWr:Tryz.prog.cellsOf 67=3:=by kernel_rfl
theorem cWs:Tryz.prog.cellsOf 29=1:=by kernel_rfl
theorem cTx:Tryz.prog.cellsOf 30=1:=by kernel_rfl
theorem cIs:Tryz.prog.cellsOf 78=1:=by kernel_rfl
theorem cRq:Tryz.prog.cellsOf 32=13:=by kernel_rfl
theorem cAc:Tryz.prog.cellsOf 80=17:=by kernel_rfl
section
variable {H:Type}{enc:TypeId×Value->H}{w:World}{base:Nat}{spare:Nat->Bool}{held:Bool}
theorem struct3{t:TypeId}{f0 f1 f2:Field}{fuel:Nat}{cs:List Value}{x:DataW H×List MemPlace}(ht:Tryz.prog.underlying t=some (.struct #[f0,f1,f2]))(h:DataW.trod enc Tryz.prog w base spare held fuel t cs=some x):
  ∃y0 y1 y2 n,x.1=.agg [y0.1,y1.1,y2.1]/\cs.length=Tryz.prog.cellsOf t/\DataW.trod enc Tryz.prog w base spare held n f0.type ((cs.drop f0.offset).take (Tryz.prog.cellsOf f0.type))=some y0/\DataW.trod enc Tryz.prog w base spare held n f1.type ((cs.drop f1.offset).take (Tryz.prog.cellsOf f1.type))=some y1/\DataW.trod enc Tryz.prog w base spare held n f2.type ((cs.drop f2.offset).take (Tryz.prog.cellsOf f2.type))=some y2:=by
 obtain⟨xs,n,_,rfl,hl,hlen,hf⟩:=DataW.trod_struct ht h;match xs,hlen with
 |[y0,y1,y2],_=>exact⟨y0,y1,y2,n,by simp,hl,by simpa using hf 0 f0 rfl,by simpa using hf 1 f1 rfl,by simpa using hf 2 f2 rfl⟩
theorem struct10{t:TypeId}{f0 f1 f2 f3 f4 f5 f6 f7 f8 f9:Field}{fuel:Nat}{cs:List Value}{x:DataW H×List MemPlace}(ht:Tryz.prog.underlying t=some (.struct #[f0,f1,f2,f3,f4,f5,f6,f7,f8,f9]))(h:DataW.trod enc Tryz.prog w base spare held fuel t cs=some x):
  ∃y0 y1 y2 y3 y4 y5 y6 y7 y8 y9 n,x.1=.agg [y0.1,y1.1,y2.1,y3.1,y4.1,y5.1,y6.1,y7.1,y8.1,y9.1]/\cs.length=Tryz.prog.cellsOf t/\DataW.trod enc Tryz.prog w base spare held n f0.type ((cs.drop f0.offset).take (Tryz.prog.cellsOf f0.type))=some y0/\DataW.trod enc Tryz.prog w base spare held n f1.type ((cs.drop f1.offset).take (Tryz.prog.cellsOf f1.type))=some y1/\DataW.trod enc Tryz.prog w base spare held n f2.type ((cs.drop f2.offset).take (Tryz.prog.cellsOf f2.type))=some y2/\DataW.trod enc Tryz.prog w base spare held n f3.type ((cs.drop f3.offset).take (Tryz.prog.cellsOf f3.type))=some y3/\DataW.trod enc Tryz.prog w base spare held n f4.type ((cs.drop f4.offset).take (Tryz.prog.cellsOf f4.type))=some y4/\DataW.trod enc Tryz.prog w base spare held n f5.type ((cs.drop f5.offset).take (Tryz.prog.cellsOf f5.type))=some y5/\DataW.trod enc Tryz.prog w base spare held n f6.type ((cs.drop f6.offset).take (Tryz.prog.cellsOf f6.type))=some y6/\DataW.trod enc Tryz.prog w base spare held n f7.type ((cs.drop f7.offset).take (Tryz.prog.cellsOf f7.type))=some y7/\DataW.trod enc Tryz.prog w base spare held n f8.type ((cs.drop f8.offset).take (Tryz.prog.cellsOf f8.type))=some y8/\DataW.trod enc Tryz.prog w base spare held n f9.type ((cs.drop f9.offset).take (Tryz.prog.cellsOf f9.type))=some y9:=by
 obtain⟨xs,n,_,rfl,hl,hlen,hf⟩:=DataW.trod_struct ht h;match xs,hlen with
 |[y0,y1,y2,y3,y4,y5,y6,y7,y8,y9],_=>exact⟨y0,y1,y2,y3,y4,y5,y6,y7,y8,y9,n,by simp,hl,by simpa using hf 0 f0 rfl,by simpa using hf 1 f1 rfl,by simpa using hf 2 f2 rfl,by simpa using hf 3 f3 rfl,by simpa using hf 4 f4 rfl,by simpa using hf 5 f5 rfl,by simpa using hf 6 f6 rfl,by simpa using hf 7 f7 rfl,by simpa using hf 8 f8 rfl,by simpa using hf 9 f9 rfl⟩
theorem struct5{t:TypeId}{f0 f1 f2 f3 f4:Field}{fuel:Nat}{cs:List Value}{x:DataW H×List MemPlace}(ht:Tryz.prog.underlying t=some (.struct #[f0,f1,f2,f3,f4]))(h:DataW.trod enc Tryz.prog w base spare held fuel t cs=some x):
  ∃y0 y1 y2 y3 y4 n,cs.length=Tryz.prog.cellsOf t/\DataW.trod enc Tryz.prog w base spare held n f0.type ((cs.drop f0.offset).take (Tryz.prog.cellsOf f0.type))=some y0/\DataW.trod enc Tryz.prog w base spare held n f1.type ((cs.drop f1.offset).take (Tryz.prog.cellsOf f1.type))=some y1/\DataW.trod enc Tryz.prog w base spare held n f2.type ((cs.drop f2.offset).take (Tryz.prog.cellsOf f2.type))=some y2/\DataW.trod enc Tryz.prog w base spare held n f3.type ((cs.drop f3.offset).take (Tryz.prog.cellsOf f3.type))=some y3/\DataW.trod enc Tryz.prog w base spare held n f4.type ((cs.drop f4.offset).take (Tryz.prog.cellsOf f4.type))=some y4:=by
 obtain⟨xs,n,_,rfl,hl,hlen,hf⟩:=DataW.trod_struct ht h;match xs,hlen with
 |[y0,y1,y2,y3,y4],_=>exact⟨y0,y1,y2,y3,y4,n,hl,by simpa using hf 0 f0 rfl,by simpa using hf 1 f1 rfl,by simpa using hf 2 f2 rfl,by simpa using hf 3 f3 rfl,by simpa using hf 4 f4 rfl⟩
theorem nat_of{k:IntKind}{q:Int}(hk:k=.u8\/k=.u32\/k=.u64)(h:(Lit.int k q).wf=true):∃n:Nat,q=n/\(k=.u8->n<256)/\(k=.u32->n<4294967296)/\(k=.u64->n<18446744073709551616):=by
 simp only[Lit.wf,Bool.and_eq_true,decide_eq_true_eq]at h;rcases hk with rfl|rfl|rfl
 ·have h1:(IntKind.u8.min:Int)=0:=by decide
  have h2:(IntKind.u8.max:Int)=255:=by decide
  exact⟨q.toNat,by omega,fun _=>(by omega),fun h=>(by cases h),fun h=>(by cases h)⟩
 ·have h1:(IntKind.u32.min:Int)=0:=by decide
  have h2:(IntKind.u32.max:Int)=4294967295:=by decide
  exact⟨q.toNat,by omega,fun h=>(by cases h),fun _=>(by omega),fun h=>(by cases h)⟩
 ·have h1:(IntKind.u64.min:Int)=0:=by decide
  have h2:(IntKind.u64.max:Int)=18446744073709551615:=by decide
  exact⟨q.toNat,by omega,fun h=>(by cases h),fun h=>(by cases h),fun _=>by omega⟩
theorem bs_self(s:ByteArray):bs s.data.toList=s:=by obtain⟨d⟩:=s;simp[bs]
theorem str_open{fuel:Nat}{cs:List Value}{x:DataW H×List MemPlace}(h:DataW.trod enc Tryz.prog w base spare held fuel 9 cs=some x):∃l:List UInt8,cs=[sd l]:=by obtain⟨s,e0,rfl,_⟩:=DataW.trod_string Tryz.underlying9 h;exact⟨s.data.toList,by show _=[Value.string (bs _)];rw[bs_self];exact e0⟩
theorem ts_open{fuel:Nat}{cs:List Value}{x:DataW H×List MemPlace}(h:DataW.trod enc Tryz.prog w base spare held fuel 28 cs=some x):∃p q:Int,cs=[uw p,ui q]/\Ts p q:=by
 obtain⟨y0,y1,n,rfl,hl,h0,h1⟩:=trod_struct2 Tryz.underlying28 h;rw[cTs]at hl;match cs,hl with
 |[c0,c1],_=>
  simp only[cu64,cu32,List.drop_zero,List.take_succ_cons,List.take_zero,List.drop_succ_cons]at h0 h1;obtain⟨p,e0,rfl,w0⟩:=DataW.trod_int Tryz.underlying23 h0;obtain⟨q,e1,rfl,w1⟩:=DataW.trod_int Tryz.underlying24 h1;obtain⟨p,rfl,-,-,r0⟩:=nat_of (.inr (.inr rfl)) w0;obtain⟨q,rfl,-,r1,-⟩:=nat_of (.inr (.inl rfl)) w1;simp only[List.cons.injEq,and_true]at e0 e1;subst e0 e1;have:=r0 rfl;have:=r1 rfl;exact⟨p,q,rfl,⟨by omega,by omega⟩,by omega,by omega⟩
theorem txn_open{fuel:Nat}{cs:List Value}{x:DataW H×List MemPlace}(h:DataW.trod enc Tryz.prog w base spare held fuel 26 cs=some x):∃p q:Int,cs=[ui p,ui q]/\Ver.R32 p/\Ver.R32 q:=by
 obtain⟨y0,y1,n,rfl,hl,h0,h1⟩:=trod_struct2 Tryz.underlying26 h;rw[cTxn]at hl;match cs,hl with
 |[c0,c1],_=>
  simp only[cu32,List.drop_zero,List.take_succ_cons,List.take_zero,List.drop_succ_cons]at h0 h1;obtain⟨p,e0,rfl,w0⟩:=DataW.trod_int Tryz.underlying24 h0;obtain⟨q,e1,rfl,w1⟩:=DataW.trod_int Tryz.underlying24 h1;obtain⟨p,rfl,-,r0,-⟩:=nat_of (.inr (.inl rfl)) w0;obtain⟨q,rfl,-,r1,-⟩:=nat_of (.inr (.inl rfl)) w1;simp only[List.cons.injEq,and_true]at e0 e1;subst e0 e1;have:=r0 rfl;have:=r1 rfl;exact⟨p,q,rfl,⟨by omega,by omega⟩,by omega,by omega⟩
theorem wr_open{fuel:Nat}{cs:List Value}{x:DataW H×List MemPlace}(h:DataW.trod enc Tryz.prog w base spare held fuel 67 cs=some x):∃u:Wr,cs=Lat.wrc u/\True:=by
 obtain⟨y0,y1,y2,n,hx,hl,h0,h1,h2⟩:=struct3 Tryz.underlying67 h;rw[cWr]at hl;match cs,hl with
 |[c0,c1,c2],_=>
  simp only[cStr,c4,List.drop_zero,List.take_succ_cons,List.take_zero,List.drop_succ_cons]at h0 h1 h2;obtain⟨k,e0⟩:=str_open h0;obtain⟨v,e1⟩:=str_open h1;obtain⟨d,e2,-⟩:=DataW.trod_bool Tryz.underlying4 h2;simp only[List.cons.injEq,and_true]at e0 e1 e2;subst e0 e1 e2;exact⟨⟨k,v,d⟩,rfl,trivial⟩
theorem tn_open{fuel:Nat}{cs:List Value}{x:DataW H×List MemPlace}(h:DataW.trod enc Tryz.prog w base spare held fuel 26 cs=some x):∃u:Int×Int,cs=Lat.txc u/\True:=by obtain⟨p,q,e,-⟩:=txn_open h;exact⟨(p,q),e,trivial⟩
theorem row_open{α:Type}(d:α)(vc:α->List Value)(size:Nat)(hsz:0<size)(hvc:∀a,(vc a).length=size){t e:TypeId}(ht:Tryz.prog.underlying t=some (.slice e))(hce:Tryz.prog.cellsOf e=size)
  (P:α->Prop) (hel:∀{n:Nat} {cs:List Value} {x:DataW H×List MemPlace},DataW.trod enc Tryz.prog w base (fun _=>true) held n e cs=some x->∃a,cs=vc a/\P a)
  {fuel:Nat} {v:Value} {x:DataW H×List MemPlace} (h:DataW.trod enc Tryz.prog w base (fun _=>true) held fuel t [v]=some x):
  ∃(L:List α) (ao:Option Addr) (cap:Nat),v=.slice ao L.length cap/\RwAt w.heap.size size (.slice ao L.length cap) L.length (L.flatMap vc) w/\(∀a∈L,P a):=by
 rcases open_slice ht h with⟨hcs,_⟩|⟨a,len,cap,m,n,D,Pl,hcs,_,hl,hm,hmm,hd,hx⟩
 ·simp at hcs;subst hcs;exact⟨[],none,0,rfl,RwAt.nil _ _ _,by simp⟩
 ·simp at hcs;subst hcs;rw[hce]at hx;obtain⟨b,off,spot⟩:=a;have hmc:m=cap:=by rw[hmm];rfl
  subst hmc;have each:∀i,i<m->∃f:α,P f/\(spot=none\/0<i)/\∀j u,(vc f)[j]?=some u->ce w b (off+i*size+j) u:=by
   intro i hi;obtain⟨cs',h1,h2⟩:=hx i (by omega);obtain⟨c,rfl,hP⟩:=hel h2;obtain⟨_,_,hc⟩:=World.cells?_some h1;have hsp:spot=none\/0<i:=by
    by_cases hi0:i=0
    ·left;subst hi0;have h0:=hc 0 hsz;rw[show(vc c)[0]?=some ((vc c)[0]'(by rw[hvc];exact hsz))from List.getElem?_eq_getElem _]at h0;simpa[Addr.add]using World.cell?_spot h0
    ·right;omega
   have ha:(⟨b,off,spot⟩:Addr).add (i*size)=⟨b,off+i*size,none⟩:=by
    rcases hsp with rfl|h0
    ·exact add_plain _ _ _
    ·have:0<i*size:=Nat.mul_pos h0 hsz;simp[Addr.add];omega
   refine⟨c,hP,hsp,fun j u hj=>?_⟩;have hjl:j<size:=by rw[<-hvc c];exact(List.getElem?_eq_some_iff.1 hj).1
   have:=hc j hjl;rw[ha,add_plain]at this;show w.cell? _=_;rw[this];exact hj
  haveI:Inhabited α:=⟨d⟩
  obtain⟨F,hF⟩:=choose_lt each;have hlen:((List.range len).map F).length=len:=by simp
  have hfl:∀(n:Nat),(((List.range n).map F).flatMap vc).length=n*size:=fun n=>by
   induction n with
   |zero=>simp
   |succ n ih=>rw[List.range_succ,List.map_append,List.flatMap_append,List.length_append,ih];simp[hvc,Nat.succ_mul]
  have hget:∀(n j:Nat) (u:Value),(((List.range n).map F).flatMap vc)[j]?=some u->∃i,i<n/\(vc (F i))[j-i*size]?=some u/\i*size<=j:=fun n=>by
   induction n with
   |zero=>intro j u h;simp at h
   |succ n ih=>
    intro j u h;rw[List.range_succ,List.map_append,List.flatMap_append]at h;by_cases hj:j<n*size
    ·rw[List.getElem?_append_left (by rw[hfl];exact hj)]at h;obtain⟨i,hi,r⟩:=ih j u h;exact⟨i,by omega,r⟩
    ·rw[List.getElem?_append_right (by rw[hfl];omega),hfl]at h;exact⟨n,by omega,by simpa using h,by omega⟩
  refine⟨(List.range len).map F,some ⟨b,off,spot⟩,m,by rw[hlen],⟨some ⟨b,off,spot⟩,m,rfl,by rw[hlen];exact hfl len,by rw[hlen];exact hl,by unfold maxLen at hm;omega,fun h0=>⟨b,off,?_,?_,?_⟩⟩,?_⟩
  ·rcases(hF 0 (by omega)).2.1 with rfl|h1
   ·rfl
   ·omega
  ·intro _;have h1:(vc (F 0))[0]?=some ((vc (F 0))[0]'(by rw[hvc];exact hsz)):=List.getElem?_eq_getElem _;exact World.block_lt_of_cell? _ _ ((hF 0 (by omega)).2.2 0 _ h1)
  ·intro j u hj;obtain⟨i,hi,hu,hle⟩:=hget len j u hj;have:=(hF i (by omega)).2.2 _ u hu;rw[show off+i*size+(j-i*size)=off+j from by omega]at this;exact this
  ·intro a ha;obtain⟨i,hi,rfl⟩:=List.mem_map.1 ha;exact(hF i (by have:=List.mem_range.1 hi;omega)).1
theorem rq_open{fuel:Nat}{cs:List Value}{x:DataW H×List MemPlace}(h:DataW.trod enc Tryz.prog w base (fun _=>true) held fuel 32 cs=some x):
  ∃(q:Rq) (wa sa:Option Addr) (wc sc:Nat),cs=[iw q.k,ui q.c,ui q.n,uw q.sp,ui q.sl,uw q.ap,ui q.al,sd q.key,sd q.hi,iw q.lim,ub q.pt,.slice wa q.ws.length wc,.slice sa q.sk.length sc]/\QIn w q wa wc sa sc:=by
 obtain⟨y0,y1,y2,y3,y4,y5,y6,y7,y8,y9,n,hx,hl,h0,h1,h2,h3,h4,h5,h6,h7,h8,h9⟩:=struct10 Tryz.underlying32 h;rw[cRq]at hl;match cs,hl with
 |[k0,k1,k2,k3,k4,k5,k6,k7,k8,k9,k10,k11,k12],_=>
  simp only[c3,cTxn,cTs,cStr,cu8,cWs,cTx,List.drop_zero,List.take_succ_cons,List.take_zero,List.drop_succ_cons]at h0 h1 h2 h3 h4 h5 h6 h7 h8 h9;obtain⟨k,e0,-,w0⟩:=DataW.trod_int Tryz.underlying3 h0;obtain⟨c,m,e1,r1⟩:=txn_open h1;obtain⟨sp,sl,e2,r2⟩:=ts_open h2;obtain⟨ap,al,e3,r3⟩:=ts_open h3;obtain⟨key,e4⟩:=str_open h4;obtain⟨tt,e5⟩:=str_open h5;obtain⟨lim,e6,-,w6⟩:=DataW.trod_int Tryz.underlying3 h6;obtain⟨pt,e7,-,w7⟩:=DataW.trod_int Tryz.underlying5 h7;obtain⟨L,ao,cap,e8,hL,-⟩:=row_open ⟨[],[],false⟩ Lat.wrc 3 (by omega) (fun _=>rfl) Tryz.underlying29 cWr (fun u=>True) wr_open h8;obtain⟨M,so,cas,e9,hM,-⟩:=row_open (0,0) Lat.txc 2 (by omega) (fun _=>rfl) Tryz.underlying30 cTxn (fun u=>True) tn_open h9;obtain⟨pt,rfl,r7,-,-⟩:=nat_of (.inl rfl) w7;simp only[List.cons.injEq,and_true]at e0 e1 e2 e3 e4 e5 e6 e7;obtain⟨e1,e1'⟩:=e1;obtain⟨e2,e2'⟩:=e2;obtain⟨e3,e3'⟩:=e3;subst e0 e1 e1' e2 e2' e3 e3' e4 e5 e6 e7 e8 e9;have:=r7 rfl;exact⟨⟨k,c,m,sp,sl,ap,al,key,tt,lim,pt,L,M⟩,ao,so,cap,cas,rfl,⟨⟨r1,r2,r3,by show(0:Int)<=(pt:Int);omega,by show(pt:Int)<256;omega⟩,hL,hM⟩⟩
theorem sl_open{t e:TypeId}(ht:Tryz.prog.underlying t=some (.slice e)){fuel:Nat}{v:Value}{x:DataW H×List MemPlace}(h:DataW.trod enc Tryz.prog w base (fun _=>true) held fuel t [v]=some x):∃ao n cp,v=.slice ao n cp:=by
 rcases open_slice ht h with⟨hcs,_⟩|⟨a,len',cap',m,n,D,Pl,hcs,_⟩
 ·simp at hcs;exact⟨_,_,_,hcs⟩
 ·simp at hcs;exact⟨_,_,_,hcs⟩
theorem act_open{fuel:Nat}{cs:List Value}{x:DataW H×List MemPlace}(h:DataW.trod enc Tryz.prog w base (fun _=>true) held fuel 80 cs=some x):∃a:Ac,cs=acc a/\AcOk w a:=by
 obtain⟨y0,y1,y2,y3,y4,n,hl,h0,h1,h2,h3,h4⟩:=struct5 Tryz.underlying80 h;rw[cAc]at hl;match cs,hl with
 |[k0,k1,k2,k3,k4,k5,k6,k7,k8,k9,k10,k11,k12,k13,k14,k15,k16],_=>
  simp only[c3,cu64,cRq,cIs,List.drop_zero,List.take_succ_cons,List.take_zero,List.drop_succ_cons]at h0 h1 h2 h3 h4;obtain⟨wh,e0,-,-⟩:=DataW.trod_int Tryz.underlying3 h0;obtain⟨nn,e1,-,-⟩:=DataW.trod_int Tryz.underlying3 h1;obtain⟨ph,e2,-,w2⟩:=DataW.trod_int Tryz.underlying23 h2;obtain⟨ph,rfl,-,-,r2⟩:=nat_of (.inr (.inr rfl)) w2;obtain⟨q,wa,sa,wc,sc,e3,hq⟩:=rq_open h3;obtain⟨ka,kn,kc,e4⟩:=sl_open Tryz.underlying78 h4;simp only[List.cons.injEq,and_true]at e0 e1 e2 e3;obtain⟨a0,a1,a2,a3,a4,a5,a6,a7,a8,a9,a10,a11,a12⟩:=e3;subst e0 e1 e2 a0 a1 a2 a3 a4 a5 a6 a7 a8 a9 a10 a11 a12 e4;have:=r2 rfl;exact⟨⟨wh,nn,ph,q,wa,wc,sa,sc,ka,kn,kc⟩,rfl,hq,by show(0:Int)<=(ph:Int)/\(ph:Int)<=_;omega⟩
theorem acts_open{fuel:Nat}{v:Value}{x:DataW H×List MemPlace}(h:DataW.trod enc Tryz.prog w base (fun _=>true) held fuel 22 [v]=some x):∃(L:List Ac) (ao:Option Addr) (cap:Nat),v=.slice ao L.length cap/\AcsAt w (.slice ao L.length cap) L:=by obtain⟨L,ao,cap,e,hr,h1⟩:=row_open dac acc 17 (by omega) acc_len Tryz.underlying22 cAc (fun a=>AcOk w a) act_open h;exact⟨L,ao,cap,e,hr,h1⟩
end
end Opn
end Go.Proofs.YtdplfgcoaddbdaaGreat
