import Derived.Test.YtnfpfbehebcdpaaGreatUbi
import Derived.Test.YtnfpfbehebcdpaaGreatUbd
import Derived.Test.YtnfpfbehebcdpaaGreatUbf
set_option maxHeartbeats 0
set_option maxRecDepth 99999
set_option linter.all false
namespace Go.Proofs.YtnfpfbehebcdpaaGreat
open Go.RowKit
variable {SA:TyS}{TA:TyT}{BA:TyB}
variable {f:Fp}{M:Nat->Prop}{X:Sd}{a:Int}{g:Nat}{D:Drm.Dr}{w w1 W W':World}{Lo:List (Nat×Obj)}
def Tgd(n:Nat)(v:Value)(W:World):Prop:=∀k,v.ownBlock=some k->n<=k/\∃cs ty,ty≠5/\W.heap[k]?=some (.cells cs ty (0,0))
def Tgd.on{n:Nat}{v:Value}(h:Tgd n v W)(hb:Bw W W'):Tgd n v W':=λk hk=>by obtain⟨h1,cs,ty,h2,h3⟩:=h k hk;exact⟨h1,cs,ty,h2,by rw[hb.block k (gp h3)];exact h3⟩
structure RI(n:Nat)(S:Sto.Sk)(v:Value)(W:World):Prop where
 r:∃L,Sto.ItAt v L S W
 t:Tgd n v W
structure RT(n:Nat)(T:Lat.Tb)(v:Value)(W:World):Prop where
 r:Lat.IsAt W.heap.size v T W
 t:Tgd n v W
def RT.on{n:Nat}{T:Lat.Tb}{v:Value}(h:RT n T v W)(hb:Bw W W'):RT n T v W':=⟨(RwAt.on h.r hb).le hb.size,h.t.on hb⟩
def auq(E:Env SA TA BA)(h:ShAt SA TA BA f M X a g D w)(ht:X.wt<9000):cpr 16 #[pz f.sb] w λe w'=>∃v,e=.returned v/\RI w.heap.size X.S v w'/\Bw w w':=by
 have c:=h.cells.2.2.1;have C:Hid (1=1->cpr 32 #[pz f.st] w λe w'=>∃v,e=.returned v/\Hid (RI w.heap.size X.S v w')/\Hid (Bw w w')):=λ_=>by refine(ae0 E h (by unfold Sd.wt at ht;omega)).mono ?_;rintro e w' ⟨v,L,rfl,h1,h2,h3⟩;exact⟨v,rfl,⟨⟨L,h1⟩,λk hk=>⟨(h2 k hk).1,_,_,by decide,(h2 k hk).2.choose_spec⟩⟩,h3⟩
 clear h ht E;go_enter Tryz.func16,Tryz.ntmps16;go_wp2_with fail;refine(C.out (by trivial)).mono ?_;rintro e w' ⟨v,rfl,h1,h2⟩;go_wp2_with fail;go_ret;exact⟨v,rfl,h1.out,h2.out⟩
def aqd(E:Env SA TA BA)(h:ShAt SA TA BA f M X a g D w):∀k,M k->Sto.NoVe w k:=by
 obtain⟨M1,M2,M3,h,rfl⟩:=h;rintro k (rfl|rfl|rfl|e|e|e|⟨_,cs,fz,e⟩)
 .exact Sto.Hy h.blk (by intro cs fz e;injection e with _ e _;exact absurd e (by decide))
 .exact Sto.Hy h.lg.blk (by intro cs fz e;injection e with _ e _;exact absurd e (by decide))
 .obtain⟨vs,hd⟩:=h.lg.drum;exact Sto.Hy hd.blk (by intro cs fz e;injection e with _ e _;exact absurd e (by decide))
 .exact E.I.nov h.s k e
 .exact(E.tT h.t k e).2
 .exact(E.tV h.v k e).2
 .exact bco
structure QIn(w:World)(q:Rq)(wa:Option Addr)(wc:Nat)(sa:Option Addr)(sc:Nat):Prop where
 ok:RqOk q
 ws:Lat.WsAt w.heap.size (.slice wa q.ws.length wc) q.ws w
 sk:TAt w.heap.size (.slice sa q.sk.length sc) q.sk w
def awq{B size n cap:Nat}{ao:Option Addr}{cs:List Value}(h:RwAt B size (.slice ao n cap) n cs w)(hc:cs.length=n*size)(hs:0<size)(h0:0<n){k:Nat}(hk:(Value.slice ao n cap).ownBlock=some k):k<B:=by obtain⟨b,off,rfl,hb,-⟩:=h.cellAt (j:=0) (by rw[hc];exact Nat.mul_pos h0 hs);simp only[Value.ownBlock,ja]at hk;rw[<-hk];exact hb
def Kr(Lo:List (Nat×Obj))(W W':World):Prop:=∃G:Nat->Prop,Kept G W W'/\(∀k,G k->Sto.NoVe W k)/\∀p∈Lo,¬G p.1
def Tgd.kept{n:Nat}{v:Value}(h:Tgd n v W)(k:Kr Lo W W')(hl:∀k,v.ownBlock=some k->∃o,(k,o)∈Lo):Tgd n v W':=λi hi=>by obtain⟨G,k1,-,k3⟩:=k;obtain⟨o,ho⟩:=hl i hi;obtain⟨h1,cs,ty,h2,h3⟩:=h i hi;exact⟨h1,cs,ty,h2,Ov h3 k1 (k3 _ ho)⟩
def ak9{B size n:Nat}{v:Value}{cs:List Value}(h:RwAt B size v n cs W)(hB:B=W.heap.size)(k:Kr Lo W W')(hl:∀k,v.ownBlock=some k->∃o,(k,o)∈Lo):RwAt W'.heap.size size v n cs W':=by obtain⟨G,k1,-,k3⟩:=k;exact(J5 h k1 (λi e g=>by obtain⟨o,ho⟩:=hl i e;exact k3 _ ho g)).le (hB▸k1.size)
def RT.kept{n:Nat}{T:Lat.Tb}{v:Value}(h:RT n T v W)(k:Kr Lo W W')(hl:∀k,v.ownBlock=some k->∃o,(k,o)∈Lo):RT n T v W':=⟨ak9 h.r rfl k hl,h.t.kept k hl⟩
def ask8(E:Env SA TA BA)(hC:Cx SA TA BA f M w1 X a g D Lo W)(hM:∀k,M k->w.heap.size<=k)(hb:Bw w w1)(G:Gd X)(ht:X.wt<8900)(u:Up D)(ph:Int)(h0:0<=ph)(h1:ph<=18446744073709551615){q:Rq}{wa sa:Option Addr}{wc sc:Nat}(hq:QIn w q wa wc sa sc):
  cpr 10 #[pz f.sb,uw ph,rqV q wa wc sa sc] W λe w'=>∃ao n cap,e=.returned (rpV (Hf ph q X a D).1 (.slice ao n cap))/\Cx SA TA BA f M w1 (Hf ph q X a D).2.1 a g (Hf ph q X a D).2.2 Lo w'/\Lv X (Hf ph q X a D).2/\Kr Lo W w':=by
 obtain⟨M',hS,h2,h3⟩:=hC.sh;have hbW:Bw w W:=hb.trans (hC.kp.below (B:=w.heap.size) hb.size hM);have hlo:∀k,M' k->w.heap.size<=k:=λk hk=>(h2 k hk).elim (hM k) (λe=>ak hb.size e);have l1:∀(_:0<q.ws.length) (k:Nat),(Value.slice wa q.ws.length wc).ownBlock=some k->k<w.heap.size:=λh0 k hk=>awq hq.ws (Kt (vc:=Lat.wrc) (sz:=3) (λ_=>rfl) _) (by decide) h0 hk;have l2:∀(_:0<q.sk.length) (k:Nat),(Value.slice sa q.sk.length sc).ownBlock=some k->k<w.heap.size:=λh0 k hk=>awq hq.sk (Kt (vc:=Lat.txc) (sz:=2) (λ_=>rfl) _) (by decide) h0 hk;have hlv:Lv X (Hf ph q X a D).2:=by obtain⟨M1,M2,M3,h,rfl⟩:=hS;exact azp hq.ok (E.J.ok h.t) (E.I.sok h.s) G u h0
 refine(Vk E (ac8 E) ph q wa wc sa sc hS ht G.ok h0 h1 hq.ok ⟨(RwAt.on hq.ws hbW).le hbW.size,λp k hk hm=>?_⟩ ((RwAt.on hq.sk hbW).le hbW.size) (λp k hk=>⟨λhm=>?_,?_⟩)).mono ?_
 .have:=hlo k hm;have:=l1 p k hk;omega
 .have:=hlo k hm;have:=l2 p k hk;omega
 .exact iy (l2 p k hk) hbW.size
 .rintro e w' ⟨ao,n,cap,rfl,-,hs⟩;exact⟨ao,n,cap,rfl,hC.next h2 h3 hs,hlv,M',hs.choose_spec.2.1,aqd E hS,h3⟩
def Cx.grows(E:Env SA TA BA)(h:Cx SA TA BA f M w X a g D Lo W)(hb:Bw W W')(L:List (Nat×Obj))(hL:∀p∈L,W.heap.size<=p.1/\∃cs ty,p.2=.cells cs ty (0,0)/\ty≠5/\W'.heap[p.1]?=some (.cells cs ty (0,0))):Cx SA TA BA f M w X a g D (L++Lo) W':=by
 obtain⟨⟨M',h1,h2,h3⟩,h4,h5⟩:=h;have hl:∀k,M' k->k<W.heap.size:=λk hk=>h1.lt E hk;obtain⟨M1,M2,M3,hc,rfl⟩:=h1;refine⟨⟨_,⟨M1,M2,M3,hc.on E hb,rfl⟩,λi hi=>?_,λp hp hi=>?_⟩,h4.trans (Kept.of_below (F:=λ_=>False) hb) (λ_ e=>e.elim),λp hp=>?_⟩
 .exact az2
 .rcases bu.1 hp with hp|hp
  .obtain⟨q1,cs,ty,q2,q3,q4⟩:=hL p hp;rcases hi with e|e|e|e|e|e|⟨-,cs',fz,e⟩
   .have:=hl _ (.inl e);omega
   .have:=hl _ (.inr (.inl e));omega
   .have:=hl _ (.inr (.inr (.inl e)));omega
   .have:=hl _ (.inr (.inr (.inr (.inl e))));omega
   .have:=hl _ (.inr (.inr (.inr (.inr (.inl e)))));omega
   .have:=hl _ (.inr (.inr (.inr (.inr (.inr (.inl e))))));omega
   .rw[q4]at e;injection e with e;injection e with _ e _;exact q3 e
  .exact az3
 .rcases bu.1 hp with hp|hp
  .obtain⟨q1,cs,ty,q2,q3,q4⟩:=hL p hp;rw[q2];exact q4
  .exact(h5.on hb) p hp
def ahj(v:Value)(W:World):List (Nat×Obj):=match v.ownBlock with
 |none=>[]
 |some k=>match W.heap[k]?with
  |none=>[]
  |some o=>[(k,o)]
def ao8{n:Nat}{v:Value}(h:Tgd n v W):(∀p∈ahj v W,n<=p.1/\∃cs ty,p.2=.cells cs ty (0,0)/\ty≠5/\W.heap[p.1]?=some (.cells cs ty (0,0)))/\∀k,v.ownBlock=some k->∃o,(k,o)∈ahj v W:=by
 unfold ahj;cases hv:v.ownBlock with
 |none=>exact⟨λp hp=>(by cases hp),λk hk=>(by cases hk)⟩
 |some k=>
  obtain⟨h1,cs,ty,h2,h3⟩:=h k hv;dsimp only;rw[h3];refine⟨λp hp=>?_,λk' hk=>?_⟩
  .obtain rfl:=jy.1 hp;exact⟨h1,cs,ty,rfl,h2,h3⟩
  .injection hk with hk;subst hk;exact⟨_,jy.2 rfl⟩
end Go.Proofs.YtnfpfbehebcdpaaGreat
namespace Go.Proofs.YtnfpfbehebcdpaaGreat
open Go.RowKit
variable {SA:TyS}{TA:TyT}{BA:TyB}
variable {f:Fp}{M:Nat->Prop}{X:Sd}{a:Int}{g:Nat}{D:Drm.Dr}{w w1 W W':World}{Lo L:List (Nat×Obj)}
def No5(o:Obj):Prop:=∀cs fz,o≠ .cells cs 5 fz
def alp{cs:Array Value}{ty:TypeId}{fz:Nat×Nat}(h:ty≠5):No5 (.cells cs ty fz):=λ_ _ e=>by injection e with _ e _;exact h e
def Cx.grow1(E:Env SA TA BA)(h:Cx SA TA BA f M w X a g D Lo W)(hb:Bw W W'){r:Nat}{o:Obj}(hr:W.heap.size<=r)(ho:W'.heap[r]?=some o)(hn:No5 o):Cx SA TA BA f M w X a g D ((r,o)::Lo) W':=by
 obtain⟨⟨M',h1,h2,h3⟩,h4,h5⟩:=h;have hl:∀k,M' k->k<W.heap.size:=λk hk=>h1.lt E hk;obtain⟨M1,M2,M3,hc,rfl⟩:=h1;refine⟨⟨_,⟨M1,M2,M3,hc.on E hb,rfl⟩,λi hi=>?_,λp hp hi=>?_⟩,h4.trans (Kept.of_below (F:=λ_=>False) hb) (λ_ e=>e.elim),λp hp=>?_⟩
 .exact az2
 .rcases au.1 hp with rfl|hp
  .have nl:∀k,k=r->¬k<W.heap.size:=λk e=>by omega
   rcases hi with e|e|e|e|e|e|⟨-,cs',fz,e⟩
   .exact nl _ rfl (hl _ (.inl e))
   .exact nl _ rfl (hl _ (.inr (.inl e)))
   .exact nl _ rfl (hl _ (.inr (.inr (.inl e))))
   .exact nl _ rfl (hl _ (.inr (.inr (.inr (.inl e)))))
   .exact nl _ rfl (hl _ (.inr (.inr (.inr (.inr (.inl e))))))
   .exact nl _ rfl (hl _ (.inr (.inr (.inr (.inr (.inr (.inl e)))))))
   .dsimp only at e;rw[ho]at e;injection e with e;exact hn _ _ e
  .exact az3
 .rcases au.1 hp with rfl|hp
  .exact ho
  .exact(h5.on hb) p hp
def Cx.swap(E:Env SA TA BA){b:Nat}{o o':Obj}(h:Cx SA TA BA f M w X a g D ((b,o)::L) W)(hv:Sto.NoVe W b)(hb:M b\/w.heap.size<=b)(hk:Kept (λi=>i=b) W W')(ho:W'.heap[b]?=some o')(hn:No5 o')(hL:∀p∈L,p.1≠b):Cx SA TA BA f M w X a g D ((b,o')::L) W':=by
 obtain⟨⟨M',h1,h2,h3⟩,h4,h5⟩:=h;obtain⟨M1,M2,M3,hc,rfl⟩:=h1;have hM:¬f.In M1 M2 M3 W b:=h3 _ (ji ..);refine⟨⟨_,⟨M1,M2,M3,hc.kept E hk (λk hi e=>hM (e▸hi)) (λk e=>e▸hv),rfl⟩,λi hi=>?_,λp hp hi=>?_⟩,h4.trans hk (λi e=>e▸hb),λp hp=>?_⟩
 .rcases Ja hk hi with e|e|e
  .exact h2 i e
  .exact .inr (ak h4.size e)
  .exact e▸hb
 .rcases au.1 hp with rfl|hp
  .rcases hi with e|e|e|e|e|e|⟨-,cs',fz,e⟩
   .exact hM (.inl e)
   .exact hM (.inr (.inl e))
   .exact hM (.inr (.inr (.inl e)))
   .exact hM (.inr (.inr (.inr (.inl e))))
   .exact hM (.inr (.inr (.inr (.inr (.inl e)))))
   .exact hM (.inr (.inr (.inr (.inr (.inr (.inl e))))))
   .dsimp only at e;rw[ho]at e;injection e with e;exact hn _ _ e
  .rcases Ja hk hi with e|e|e
   .exact h3 p (gy _ hp) e
   .have:=h5.lt p (gy _ hp);omega
   .exact hL p hp e
 .rcases au.1 hp with rfl|hp
  .exact ho
  .exact Ov (h5 p (gy _ hp)) hk (hL p hp)
end Go.Proofs.YtnfpfbehebcdpaaGreat
namespace Go.Proofs.YtnfpfbehebcdpaaGreat
open Go.RowKit
variable {SA:TyS}{TA:TyT}{BA:TyB}
variable {f:Fp}{M:Nat->Prop}{X X1:Sd}{a:Int}{g:Nat}{D:Drm.Dr}{w W W':World}{Lo:List (Nat×Obj)}{Ti:Lat.Tb}{v:Value}{k0 b:Nat}{lp ll:Int}
structure Wk(SA:TyS)(TA:TyT)(BA:TyB)(f:Fp)(M:Nat->Prop)(w:World)(X1:Sd)(a:Int)(g:Nat)(D:Drm.Dr)(Lo:List (Nat×Obj))(k0:Nat)(Ti:Lat.Tb)(v:Value)(b:Nat)(lp ll:Int)(W:World):Prop where
 cx:Cx SA TA BA f M w X1 a g D Lo W
 rt:RT k0 Ti v W
 po:∀k,v.ownBlock=some k->∃o,(k,o)∈Lo
 bx:(b,Obj.cells #[uw lp,ui ll] 38 (0,0))∈Lo
def Wk.on(E:Env SA TA BA)(h:Wk SA TA BA f M w X1 a g D Lo k0 Ti v b lp ll W)(hb:Bw W W'):Wk SA TA BA f M w X1 a g D Lo k0 Ti v b lp ll W':=⟨h.cx.on E hb,h.rt.on hb,h.po,h.bx⟩
def Wk.raise(E:Env SA TA BA)(h:Wk SA TA BA f M w X1 a g D Lo k0 Ti v b lp ll W)(ht:X1.T.length<10000)(h0:0<=lp/\0<=ll)(c n:Int):cpr 59 #[pz f.la,.agg #[ui c,ui n],.agg #[uw lp,ui ll]] W λe w'=>(∃r,e=.returned (.bool r))/\Wk SA TA BA f M w {X1 with T:=Lat.rseF c n lp ll X1.T} a g D Lo k0 Ti v b lp ll w':=by obtain⟨hc,hr,hp,hb⟩:=h;obtain⟨M',hS,h2,h3⟩:=hc.sh;refine(aez E c n lp ll hS ht h0).mono ?_;rintro e w' ⟨rfl,hs⟩;exact⟨⟨_,rfl⟩,hc.next h2 h3 hs,hr.kept (Lo:=Lo) ⟨M',hs.choose_spec.2.1,aqd E hS,h3⟩ hp,hp,hb⟩
def Wk.new(E:Env SA TA BA)(h:Wk SA TA BA f M w X1 a g D Lo k0 Ti v b lp ll W)(cs:Array Value)(ty:TypeId)(ht:ty≠5):Wk SA TA BA f M w X1 a g D ((W.heap.size,.cells cs ty (0,0))::Lo) k0 Ti v b lp ll (W.alloc (.cells cs ty (0,0))):=⟨h.cx.new E cs ty ht,h.rt.on (al _),λk hk=>(h.po k hk).imp λo ho=>gy _ ho,gy _ h.bx⟩
def Wk.drop{p:Nat×Obj}(h:Wk SA TA BA f M w X1 a g D (p::Lo) k0 Ti v b lp ll W)(hp:∀k,v.ownBlock=some k->∃o,(k,o)∈Lo)(hb:(b,Obj.cells #[uw lp,ui ll] 38 (0,0))∈Lo):Wk SA TA BA f M w X1 a g D Lo k0 Ti v b lp ll W:=⟨h.cx.less λp hp=>gy _ hp,h.rt,hp,hb⟩
def anc(q m:Int)(L T:Lat.Tb):(L.foldl (wk1 q m) T).length=T.length:=by have:=iq List.length (agk q m L T);simpa using this
def poke2(E:Env SA TA BA){v0 v1:Value}(h:Cx SA TA BA f M w X a g D [(b,.cells #[v0,v1] 38 (0,0))] W)(hb:w.heap.size<=b)(u0 u1:Value):Cx SA TA BA f M w X a g D [(b,.cells #[u0,u1] 38 (0,0))] ((W.setCell ⟨b,0,none⟩ u0).setCell ⟨b,1,none⟩ u1):=by have hh:=h.has _ (jy.2 rfl);have hk:Kept (λk=>k=b) W ((W.setCell ⟨b,0,none⟩ u0).setCell ⟨b,1,none⟩ u1):=Ll (Ll (Kept.refl _ _) _ _) _ _;have ho:((W.setCell ⟨b,0,none⟩ u0).setCell ⟨b,1,none⟩ u1).heap[b]?=some (.cells #[u0,u1] 38 (0,0)):=Drm.Aq (k:=1) (Drm.Aq (k:=0) hh);exact h.swap E (Sto.Hy hh (λcs' fz e=>by injection e with _ e _;exact absurd e (by decide))) (.inr hb) hk ho (alp (by decide)) (λp hp=>by cases hp)
def aw7(E:Env SA TA BA)(h:ShAt SA TA BA f M X a g D w)(ht:X.wt<9000)(hb:Ts X.bp X.bl):cpr 25 #[pz f.sb] w λe w'=>e=.returned (.tuple #[])/\ShTo SA TA BA f M w (Nh X) a g D w':=by
 obtain⟨z1,z2,z3,hz⟩:∃z1 z2 z3,Clk.Di X.bp X.bl=(z1,z2,z3):=⟨_,_,_,rfl⟩;have hzt:=Yv hb;rw[hz]at hzt;have H0:Hid (Cx SA TA BA f M w X a g D [] w):=Cx.start h;obtain⟨X0,hX0⟩:∃X0:Sd,({X with np:=X.bp,nl:=X.bl}:Sd)=X0:=⟨_,rfl⟩;have HX0:Hid (X0.T=X.T/\X0.bp=X.bp/\X0.bl=X.bl/\X.T.length<9000/\({X0 with T:=X.T.foldl (wk1 (wkT X).1 (wkT X).2) X.T}:Sd)=Nh X):=by rw[<-hX0];exact⟨rfl,rfl,rfl,by unfold Sd.wt at ht;omega,rfl⟩
 have HZ:Hid (Ts X.bp X.bl/\Ts z1 z2/\wkT X=if z3≠0 then(X.bp,X.bl)else(z1,z2)):=⟨hb,hzt,by unfold wkT;rw[hz]⟩;have CN:Hid (∀W,Cx SA TA BA f M w X0 a g D [] W->cpr 57 #[.agg #[uw X.bp,ui X.bl]] W λr w'=>r=.returned (.tuple #[.agg #[uw z1,ui z2],iw z3])/\Cx SA TA BA f M w X0 a g D [] w'):=λW hW=>(Clk.ahp X.bp X.bl W hb.1.1 hb.2.1).mono λr w' h=>by rw[hz]at h;exact⟨h.1,hW.on E h.2⟩
 have HN:Hid (∀W,Cx SA TA BA f M w X a g D [] W->Cx SA TA BA f M w X0 a g D [] ((W.setCell ⟨f.sb,7,none⟩ (uw X.bp)).setCell ⟨f.sb,8,none⟩ (ui X.bl))):=λW hW=>by rw[<-hX0];exact hW.aod E _ _
 have HE:Hid (Env SA TA BA):=E;obtain⟨c7,c8,c9,c10⟩:ce w f.sb 7 (uw X.np)/\ce w f.sb 8 (ui X.nl)/\ce w f.sb 9 (uw X.bp)/\ce w f.sb 10 (ui X.bl):=H0.out.nums.2.2;have f7:=H0.out.free 7;have f8:=H0.out.free 8;clear h E hz hb hzt ht hX0;go_enter Tryz.func25,Tryz.ntmps25;go_upto_region 1 with fail
 have H1:Hid _:=HN.out _ H0.out;obtain⟨W1,hW1⟩:=xj ((w.setCell ⟨f.sb,7,none⟩ (uw X.bp)).setCell ⟨f.sb,8,none⟩ (ui X.bl));rw[hW1]at H1|-;clear hW1 c7 c8 c9 c10 f7 f8 H0 HN;have c9:ce W1 f.sb 9 (uw X.bp):=by rw[<-HX0.out.2.1];exact H1.out.nums.2.2.2.2.1
 have c10:ce W1 f.sb 10 (ui X.bl):=by rw[<-HX0.out.2.2.1];exact H1.out.nums.2.2.2.2.2
 go_wp2_with fail;refine(CN.out _ H1.out).mono ?_;rintro e w2 ⟨rfl,h2⟩;have H2:Hid _:=h2;clear h2 H1 c9 c10 CN;go_upto_region 2 with fail
 obtain⟨W3,hW3⟩:=xj (w2.alloc (.cells #[uw z1,ui z2] 38));obtain⟨b,hbb⟩:=xj w2.heap.size;have H3:Hid (Cx SA TA BA f M w X0 a g D [(b,.cells #[uw z1,ui z2] 38 (0,0))] W3/\w.heap.size<=b):=by rw[<-hW3,<-hbb];exact⟨H2.out.new HE.out _ 38 (by decide),H2.out.kp.size⟩
 (try rw[hW3,hbb])
 clear hW3 hbb H2;obtain⟨lp,ll,hwk⟩:∃lp ll,wkT X=(lp,ll):=⟨_,_,rfl⟩;have HL:Hid ((lp,ll)=if z3≠0 then(X.bp,X.bl)else(z1,z2)):=by show _=_;rw[<-hwk];exact HZ.out.2.2
 have HW:Hid (({X0 with T:=X.T.foldl (wk1 lp ll) X.T}:Sd)=Nh X):=by have:=HX0.out.2.2.2.2;rw[hwk]at this;exact this
 clear hwk;have c9:ce W3 f.sb 9 (uw X.bp):=by rw[<-HX0.out.2.1];exact H3.out.1.nums.2.2.2.2.1
 have c10:ce W3 f.sb 10 (ui X.bl):=by rw[<-HX0.out.2.2.1];exact H3.out.1.nums.2.2.2.2.2
 have y0:ce W3 b 0 (uw z1):=H3.out.1.has.cell tq0 rfl;have y1:ce W3 b 1 (ui z2):=H3.out.1.has.cell tq0 rfl;have g0:W3.frozen? ⟨b,0,none⟩=false:=H3.out.1.has.free tq0;have g1:W3.frozen? ⟨b,1,none⟩=false:=H3.out.1.has.free tq0;have HSt:Hid (Cx SA TA BA f M w X0 a g D [(b,.cells #[uw X.bp,ui X.bl] 38 (0,0))] ((W3.setCell ⟨b,0,none⟩ (uw X.bp)).setCell ⟨b,1,none⟩ (ui X.bl))):=by exact poke2 HE.out H3.out.1 H3.out.2 _ _
 go_upto_if 22 with fail
 go_cut [] (λwc=>Cx SA TA BA f M w X0 a g D [(b,.cells #[uw lp,ui ll] 38 (0,0))] wc)
 case first=>
  by_cases h3:z3=0
  .subst h3;have HC:Hid (Cx SA TA BA f M w X0 a g D [(b,.cells #[uw lp,ui ll] 38 (0,0))] W3):=by have:=HL.out;rw[ag (by simp)]at this;simp only[ny]at this;rw[this.1,this.2];exact H3.out.1
   clear c9 c10 y0 y1 g0 g1 HSt HL;go_wp2_with fail;go_meet;exact HC.out
  .have h3':(z3 != 0)=true:=by simpa using h3
   have HC:Hid (Cx SA TA BA f M w X0 a g D [(b,.cells #[uw lp,ui ll] 38 (0,0))] ((W3.setCell ⟨b,0,none⟩ (uw X.bp)).setCell ⟨b,1,none⟩ (ui X.bl))):=by have:=HL.out;rw[ah h3]at this;simp only[ny]at this;rw[this.1,this.2];exact HSt.out
   clear HSt HL h3;go_wp2_with fail;go_meet;exact HC.out
 case rest=>
  have H4:Hid (Cx SA TA BA f M w X0 a g D [(b,.cells #[uw lp,ui ll] 38 (0,0))] wc):=hcut;have CA:Hid (1=1->cpr 58 #[pz f.la] wc λe w'=>∃ao cap Lo,e=.returned (.slice ao X.T.length cap)/\Hid (Wk SA TA BA f M w X0 a g D Lo wc.heap.size X.T (.slice ao X.T.length cap) b lp ll w')):=λ_=>by obtain⟨M',hS,-⟩:=H4.out.sh;refine(ai3 HE.out hS (by rw[HX0.out.1];have:=HX0.out.2.2.2.1;omega)).mono ?_;rintro e w' ⟨v,rfl,h1,h2,h3⟩;rw[HX0.out.1]at h1;obtain⟨ao,cap,rfl,-⟩:=h1.shape;have rt:RT wc.heap.size X.T (.slice ao X.T.length cap) w':=⟨h1,λk hk=>⟨(h2 k hk).1,_,_,by decide,(h2 k hk).2.choose_spec⟩⟩;obtain⟨o1,o2⟩:=ao8 rt.t;exact⟨ao,cap,_,rfl,H4.out.grows HE.out h3 _ o1,rt,λk hk=>by obtain⟨o,ho⟩:=o2 k hk;exact⟨o,bu.2 (.inl ho)⟩,bu.2 (.inr tq0)⟩
  have c3:ce wc f.sb 3 (pz f.la):=H4.out.ptrs.2.2.2.1;clear hcut HSt c9 c10 y0 y1 g0 g1 H3;go_wp2_with fail;refine(CA.out (by trivial)).mono ?_;rintro e w5 ⟨ao,cap,Lo,rfl,H5⟩;have h63:X.T.length<9223372036854775808:=by have:=HX0.out.2.2.2.1;omega
  have H5b:Hid ((∀k,(Value.slice ao X.T.length cap).ownBlock=some k->∃o,(k,o)∈Lo)/\(b,Obj.cells #[uw lp,ui ll] 38 (0,0))∈Lo):=⟨H5.out.po,H5.out.bx⟩;have Hpos:Hid (0<=lp/\0<=ll):=by
   have h1:=HL.out;have h2:=HZ.out;split at h1
   .simp only[ny]at h1;exact⟨by rw[h1.1];exact h2.1.1.1,by rw[h1.2];exact h2.1.2.1⟩
   .simp only[ny]at h1;exact⟨by rw[h1.1];exact h2.2.1.1.1,by rw[h1.2];exact h2.2.1.2.1⟩
  clear CA H4 c3 HL HZ;generalize wc.heap.size=k0 at H5;go_wp2_with fail;go_loopw [33] (λi wr=>∃j:Nat,j<=X.T.length/\i=iw j/\Wk SA TA BA f M w {X0 with T:=(X.T.take j).foldl (wk1 lp ll) X.T} a g D Lo k0 X.T (.slice ao X.T.length cap) b lp ll wr) (λi _=>X.T.length-(intOf i).toNat)
  case atStart=>
   refine⟨0,eu _,rfl,?_⟩;have e:({X0 with T:=(X.T.take 0).foldl (wk1 lp ll) X.T}:Sd)=X0:=by rw[List.take_zero,List.foldl_nil,<-HX0.out.1]
   rw[e];exact H5.out
  case round=>
   clear H5;obtain⟨j,hj,rfl,hw⟩:=hrel;have HWk:Hid (Wk SA TA BA f M w {X0 with T:=(X.T.take j).foldl (wk1 lp ll) X.T} a g D Lo k0 X.T (.slice ao X.T.length cap) b lp ll wr):=hw;by_cases hjl:j<X.T.length
   .have hjl':(j:Int)<X.T.length:=by omega
    obtain⟨bt,off,rfl,hin⟩:=hw.rt.r.el hjl;have HT:Hid (X.T.take (j+1)=X.T.take j++[X.T.getD j Lat.di]):=by show _=_;rw[xq,bf hjl];simp[List.getD,hjl]
    obtain⟨x,hx⟩:=xj (X.T.getD j Lat.di);rw[hx]at hin HT;obtain⟨e0,e1,e2,e3,e4,e5,e6,e7,e8,e9⟩:=hin;clear hw hx;obtain⟨T1,hT1⟩:=xj ((X.T.take j).foldl (wk1 lp ll) X.T);have HT1:Hid ((X.T.take (j+1)).foldl (wk1 lp ll) X.T=(if x.1=x.2.prim then Lat.rseF x.2.c x.2.n lp ll T1 else T1)/\T1.length<10000):=by refine⟨by rw[HT.out,List.foldl_append,hT1];rfl,?_⟩;rw[<-hT1,anc];have:=HX0.out.2.2.2.1;omega
    rw[hT1]at HWk;clear hT1 HT;go_upto_region 7 with fail
    obtain⟨We,hWe⟩:=xj (wr.alloc (.cells (inC x.1 x.2) 155));obtain⟨be,hbe⟩:=xj wr.heap.size;have H6:Hid (Wk SA TA BA f M w {X0 with T:=T1} a g D ((be,.cells (inC x.1 x.2) 155 (0,0))::Lo) k0 X.T (.slice (some ⟨bt,off,none⟩) X.T.length cap) b lp ll We):=by rw[<-hWe,<-hbe];exact HWk.out.new HE.out _ 155 (by decide)
    (try rw[hWe,hbe])
    clear hWe hbe HWk e0 e1 e2 e3 e4 e5 e6 e7 e8 e9;have d7:ce We be 7 (sd x.1):=H6.out.cx.has.cell tq0 rfl;have d6:ce We be 6 (sd x.2.prim):=H6.out.cx.has.cell tq0 rfl;have q1:=Ol x.1 x.2.prim;have HBk:Hid (∀X1 W,Wk SA TA BA f M w X1 a g D ((be,.cells (inC x.1 x.2) 155 (0,0))::Lo) k0 X.T (.slice (some ⟨bt,off,none⟩) X.T.length cap) b lp ll W->Wk SA TA BA f M w X1 a g D Lo k0 X.T (.slice (some ⟨bt,off,none⟩) X.T.length cap) b lp ll W):=λX1 W h=>h.drop H5b.out.1 H5b.out.2;by_cases hp:x.1=x.2.prim
    .have hp':(x.1==x.2.prim)=true:=by simpa using hp
     rw[hp']at q1;have HT2:Hid ((X.T.take (j+1)).foldl (wk1 lp ll) X.T=Lat.rseF x.2.c x.2.n lp ll T1):=by have:=HT1.out.1;rw[ah hp]at this;exact this
     have SH:Hid (∀X1 W,Wk SA TA BA f M w X1 a g D ((be,.cells (inC x.1 x.2) 155 (0,0))::Lo) k0 X.T (.slice (some ⟨bt,off,none⟩) X.T.length cap) b lp ll W->ce W f.sb 3 (pz f.la)/\ce W be 0 (ui x.2.c)/\ce W be 1 (ui x.2.n)/\ce W b 0 (uw lp)/\ce W b 1 (ui ll)):=λX1 W h=>⟨h.cx.ptrs.2.2.2.1,h.cx.has.cell tq0 rfl,h.cx.has.cell tq0 rfl,h.cx.has.cell h.bx rfl,h.cx.has.cell h.bx rfl⟩;have DW:Hid (∀X1 W,Wk SA TA BA f M w X1 a g D ((be,.cells (inC x.1 x.2) 155 (0,0))::Lo) k0 X.T (.slice (some ⟨bt,off,none⟩) X.T.length cap) b lp ll W->Wk SA TA BA f M w X1 a g D ((be,.cells (inC x.1 x.2) 155 (0,0))::Lo) k0 X.T (.slice (some ⟨bt,off,none⟩) X.T.length cap) b lp ll W.drew):=λX1 W h=>h.on HE.out (aj _ _).drew;have CRs:Hid (∀W,Wk SA TA BA f M w {X0 with T:=T1} a g D ((be,.cells (inC x.1 x.2) 155 (0,0))::Lo) k0 X.T (.slice (some ⟨bt,off,none⟩) X.T.length cap) b lp ll W->cpr 59 #[pz f.la,.agg #[ui x.2.c,ui x.2.n],.agg #[uw lp,ui ll]] W λe w'=>(∃r,e=.returned (.bool r))/\Wk SA TA BA f M w {X0 with T:=Lat.rseF x.2.c x.2.n lp ll T1} a g D ((be,.cells (inC x.1 x.2) 155 (0,0))::Lo) k0 X.T (.slice (some ⟨bt,off,none⟩) X.T.length cap) b lp ll w'):=λW h=>h.raise HE.out HT1.out.2 Hpos.out _ _;clear hp HT1;go_wp2_with fail;go_region_held3 (λW=>ce W f.sb 3 (pz f.la)/\ce W be 0 (ui x.2.c)/\ce W be 1 (ui x.2.n)/\ce W b 0 (uw lp)/\ce W b 1 (ui ll)) (first|exact SH.out _ _ H6.out|exact SH.out _ _ (DW.out _ _ H6.out)|exact SH.out _ _ H7.out) (first
      |(go_at_call 59;refine(CRs.out _ (DW.out _ _ H6.out)).mono ?_;rintro e w7 ⟨⟨r,rfl⟩,hq⟩;have H7:Hid _:=hq;clear hq))
     rename_i hHeld;clear hHeld CRs SH DW H6;go_wp2_with fail;go_roundw
     case rel=>exact⟨j+1,by omega,by go_num,by rw[HT2.out];exact HBk.out _ _ H7.out⟩
     case measure=>simp[intOf];omega
    .have hp':(x.1==x.2.prim)=false:=by simpa using hp
     rw[hp']at q1;have HT2:Hid ((X.T.take (j+1)).foldl (wk1 lp ll) X.T=T1):=by have:=HT1.out.1;rw[ag hp]at this;exact this
     clear hp HT1;go_wp2_with fail;go_roundw
     case rel=>exact⟨j+1,by omega,by go_num,by rw[HT2.out];exact HBk.out _ _ H6.out⟩
     case measure=>simp[intOf];omega
   .have hjl':¬(j:Int)<X.T.length:=by omega
    have HTo:Hid (ShTo SA TA BA f M w (Nh X) a g D wr):=by have:=HWk.out.cx.to;rw[ay (by omega),HW.out]at this;exact this
    clear hw HWk;go_wp2_with fail;go_end0
    exact⟨rfl,HTo.out⟩
end Go.Proofs.YtnfpfbehebcdpaaGreat
namespace Go.Proofs.YtnfpfbehebcdpaaGreat
open Go.RowKit
variable {SA:TyS}{TA:TyT}{BA:TyB}
variable {f:Fp}{M:Nat->Prop}{X:Sd}{a:Int}{g:Nat}{D:Drm.Dr}{w w1 w2 w3 w4 W W':World}{Lo:List (Nat×Obj)}{pb lb st la ve:Nat}{M1 M2 M3:Nat->Prop}
def Dk(pb:Nat)(w:World)(k:Nat):Prop:=k=pb\/(pb<=k/\ByR w k)
def akg(h:Drm.Kept pb w W):Kept (Dk pb w) w W:=af6 h
def Dk.back{k:Nat}(h:Kept (Dk pb w) w W)(hk:Dk pb W k):Dk pb w k\/w.heap.size<=k:=by
 by_cases hl:k<w.heap.size
 .by_cases hd:Dk pb w k
  .exact .inl hd
  .rcases hk with e|⟨e,e2⟩
   .exact .inl (.inl e)
   .exact .inl (.inr ⟨e,Vu h e2 hl hd⟩)
 .exact .inr (by omega)
def aq8(h:Kept (Dk pb w) w W)(h2:Kept (Dk pb W) W W'):Kept (Dk pb w) w W':=h.trans h2 λi hi=>Dk.back h hi
def Cx.re{f2:Fp}{M2:Nat->Prop}{X2:Sd}{a2:Int}{g2:Nat}{D2:Drm.Dr}(h:Cx SA TA BA f M w X a g D Lo W)(h2:ShAt SA TA BA f2 M2 X2 a2 g2 D2 W')(hk:Kept (Dk f.pb W) W W')(hM:∀i,M2 i->Dk f.pb W i\/W.heap.size<=i):Cx SA TA BA f2 M w X2 a2 g2 D2 Lo W':=by
 obtain⟨⟨M',h3,h4,h5⟩,h6,h7⟩:=h;obtain⟨N1,N2,N3,hc,rfl⟩:=h3;have hd:∀i,Dk f.pb W i->f.In N1 N2 N3 W i:=λi hi=>hi.elim (λe=>.inr (.inr (.inl e))) (λe=>.inr (.inr (.inr (.inr (.inr (.inr e))))));refine⟨⟨M2,h2,λi hi=>?_,λp hp hi=>?_⟩,h6.trans hk (λi hi=>h4 i (hd i hi)),λp hp=>Ov (h7 p hp) hk (λe=>h5 p hp (hd _ e))⟩
 .rcases hM i hi with e|e
  .exact h4 i (hd i e)
  .exact .inr (ak h6.size e)
 .rcases hM _ hi with e|e
  .exact h5 p hp (hd _ e)
  .have:=h7.lt p hp;omega
def aqj{c n p l:Int}(h:Gd X)(hn:Ts p l):Gd {X with T:=Lat.rseF c n p l X.T}:=by
 have hz:∀y∈Lat.rseF c n p l X.T,∃x∈X.T,y=x\/y=(x.1,Lat.Hg c n p l x.2):=λy hy=>by
  exact bbv
 have o:=h.ok;refine⟨⟨o.s,o.n,o.b,?_,?_,o.k⟩,?_,h.ky⟩
 .intro z hz';exact bag
 .intro y hy;exact bbk
 .intro y hy;obtain⟨x,hx,rfl|rfl⟩:=hz y hy
  .exact h.ri _ hx
  .have:=h.ri x hx;dsimp only;rw[(Fh _ _ _ _ x.2).2.2.1,(Fh _ _ _ _ x.2).2.2.2.1];exact this
def awy{q m:Int}(hn:Ts q m):∀(L:Lat.Tb) {X:Sd},Gd X->Gd {X with T:=L.foldl (wk1 q m) X.T}
 |[],_,h=>h
 |x::L,X,h=>by
  rw[List.foldl_cons];refine awy hn L (X:={X with T:=wk1 q m X.T x}) ?_;unfold wk1;split
  .exact aqj h hn
  .exact h
def au6(h:Gd X):Gd (Nh X)/\(Nh X).wt=X.wt:=by
 have hw:Ts (wkT X).1 (wkT X).2:=by
  unfold wkT;split
  .exact h.ok.b
  .exact Yv h.ok.b
 refine⟨?_,?_⟩
 .exact awy hw X.T (X:={X with np:=X.bp,nl:=X.bl}) ⟨⟨h.ok.s,h.ok.b,h.ok.b,h.ok.t,h.ok.i,h.ok.k⟩,h.ri,h.ky⟩
 .have:=anc (wkT X).1 (wkT X).2 X.T X.T;unfold Sd.wt Nh;dsimp only;omega
def ah2{e:Ent.En}(he:Ent.EnOk e/\e.k<=7)(hw:(Ent.Bj e).2=0)(hT:Lat.TOk X.T)(hS:Sto.SOk X.S)(h:Gd X):Gd (Bc e X)/\(Bc e X).wt<=X.wt+16:=by
 have hr:Ent.Eo e=true:=by
  exact bc9
 have hk:=(Ent.G5 hr).1.1;by_cases h1:e.k=1
 .have hb:=he.1.ap;unfold Bc;rw[ah h1];exact⟨⟨⟨h.ok.s,h.ok.n,⟨⟨by dsimp only;omega,by dsimp only;omega⟩,by dsimp only;omega,by dsimp only;omega⟩,h.ok.t,h.ok.i,h.ok.k⟩,h.ri,h.ky⟩,Nat.le_add_right _ _⟩
 .exact ace he.1 ⟨by omega,he.2⟩ hT hS h
def sc90(pb lb st la ve:Nat):Obj:=.cells #[pz pb,pz lb,pz st,pz la,pz ve,uw 0,ui 0,uw 0,ui 0,uw 0,ui 0] 90 (0,0)
def mk90(E:Env SA TA BA)(h1:Lgs.LgAt lb pb a g D w1)(hO:D.Ok)(h2:SA w1.heap.size st M1 [] w2)(b2:Bw w1 w2)(h3:TA w2.heap.size la M2 [] w3)(b3:Bw w2 w3)(h4:BA w3.heap.size ve M3 [] w4)(b4:Bw w3 w4):
  ∃M,ShAt SA TA BA ⟨pb,w4.heap.size,pb,lb,st,la,ve,w1.heap.size,w2.heap.size,w3.heap.size⟩ M Sd.new a g D (w4.alloc (sc90 pb lb st la ve))/\∀i,M i->Dk pb w1 i\/i=lb\/w1.heap.size<=i:=by
 have kA:=al (W:=w4) (sc90 pb lb st la ve);have b24:Bw w2 (w4.alloc (sc90 pb lb st la ve)):=b3.trans ((b4.trans (kA.mono b4.size)).mono b3.size);have b34:Bw w3 (w4.alloc (sc90 pb lb st la ve)):=b4.trans (kA.mono b4.size);have b14:Bw w1 (w4.alloc (sc90 pb lb st la ve)):=b2.trans (b24.mono b2.size);have s12:=b2.size;have s23:=b3.size;have s34:=b4.size;have hlb:=Lgs.Md.lt h1.blk;have hpl:=h1.ne;have e1:=E.I.lt h2;have e2:=E.J.lt h3;have e3:=E.V.lt h4;refine⟨_,⟨M1,M2,M3,⟨ae w4 _,Su h1 (Kept.of_below (F:=λ_=>False) b14) (λh=>h) (λh=>h) (λ_ _ _ h=>h),hO,E.I.keep h2 (Kept.of_below (F:=λ_=>False) b24) (λ_ _ h=>h) (λ_ h=>h.elim),E.J.keep h3 (Kept.of_below (F:=λ_=>False) b34) (λ_ _ h=>h),E.V.keep h4 (Kept.of_below (F:=λ_=>False) kA) (λ_ _ h=>h),λk m1 m2=>?_,λk m1 m3=>?_,λk m2 m3=>?_,λk hk=>?_,⟨?_,?_⟩,⟨?_,?_,?_,?_,?_⟩⟩,rfl⟩,λi hi=>?_⟩
 .have:=e1 k m1;have:=e2 k m2;omega
 .have:=e1 k m1;have:=e3 k m3;omega
 .have:=e2 k m2;have:=e3 k m3;omega
 .show k≠w4.heap.size/\k≠lb/\k≠pb;rcases hk with hk|hk|hk
  .have:=e1 k hk;exact⟨by omega,by omega,by omega⟩
  .have:=e2 k hk;exact⟨by omega,by omega,by omega⟩
  .have:=e3 k hk;exact⟨by omega,by omega,by omega⟩
 rotate_right
 .rcases hi with e|e|e|e|e|e|⟨e,e2⟩
  .dsimp only at e;exact .inr (.inr (by omega))
  .exact .inr (.inl e)
  .exact .inl (.inl e)
  .exact .inr (.inr (e1 i e).1)
  .exact .inr (.inr (by have:=(e2 i e).1;omega))
  .exact .inr (.inr (by have:=(e3 i e).1;omega))
  .by_cases hl:i<w1.heap.size
   .exact .inl (.inr ⟨e,Vu (Kept.of_below (F:=λ_=>False) b14) e2 hl (λh=>h)⟩)
   .exact .inr (.inr (by omega))
 all_goals (dsimp only;omega)
def ay9:Gd Sd.new:=⟨⟨⟨⟨by decide,by decide⟩,by decide,by decide⟩,⟨⟨by decide,by decide⟩,by decide,by decide⟩,⟨⟨by decide,by decide⟩,by decide,by decide⟩,λ_ h=>by simp[Eh,Sd.new]at h,λ_ h=>(by cases h),λ_ h=>(by cases h)⟩,λ_ h=>(by cases h),λ_ h=>(by cases h)⟩
def abv{D0:Drm.Dr}(h:D0.Ok):(Lgs.Qm D0).2.2.Ok:=by
 have h1:=Lgs.aaw h (Lgs.Ap D0 4).1 4;unfold Lgs.Qm;repeat' split
 all_goals first|exact h1|exact ap2 h1 _ _ _|exact h1.trim _ _
end Go.Proofs.YtnfpfbehebcdpaaGreat
namespace Go.Proofs.YtnfpfbehebcdpaaGreat
open Go.RowKit
variable {SA:TyS}{TA:TyT}{BA:TyB}
variable {f:Fp}{M:Nat->Prop}{X:Sd}{a:Int}{g:Nat}{D:Drm.Dr}{w w1 W W':World}{Lo:List (Nat×Obj)}{es:List Ent.En}{e:Ent.En}{j:Nat}
structure Rr(V:Value)(R:List Bi)(Lo:List (Nat×Obj)):Prop where
 el:∃ao cp,V=.slice ao R.length cp/\∀W,Has Lo W->∀j,j<R.length->∃b off,ao=some ⟨b,off,none⟩/\ce W b (off+j) (.string (bs (R.getD j [])))
def rr_of{B:Nat}{V:Value}{R:List Bi}(h:Lgs.TxAt B V R W):∃Lo,Has Lo W/\Rr V R Lo/\∀p∈Lo,B<=p.1/\∃cs,p.2=.cells cs 9 (0,0):=by
 have hc:∀gg,V.ownBlock=some gg->∀j,j<R.length->ce W gg (0+j) (.string (bs (R.getD j []))):=λgg hg j hj=>by have:=World.ownsRow.cells h (g:=gg) hg j (.string (bs (R.getD j []))) (by simp[Lgs.sl,List.getD,qm,bf hj]);rw[uo]at this;exact this
 rcases h.2 with⟨rfl,h0⟩|⟨gg,cap,cur,rfl,hg,hh,-⟩
 .exact⟨[],(λp hp=>by cases hp),⟨none,0,by rw[h0],λW _ j hj=>by omega⟩,λp hp=>by cases hp⟩
 .refine⟨[(gg,.cells cur 9 (0,0))],Has.one hh,⟨_,cap,rfl,λW2 h2 j hj=>⟨gg,0,rfl,?_⟩⟩,λp hp=>?_⟩
  .have h3:=hc gg rfl j hj;have h4:=h2 _ (jy.2 rfl);dsimp only at h4;unfold ce World.cell? at h3|-;rw[h4];rw[hh]at h3;exact h3
  .rw[jy.1 hp];exact⟨hg,cur,rfl⟩
structure Op(SA:TyS)(TA:TyT)(BA:TyB)(f:Fp)(M:Nat->Prop)(w:World)(a:Int)(g:Nat)(D:Drm.Dr)(es:List Ent.En)(Lo:List (Nat×Obj))(j:Nat)(W:World):Prop where
 cx:Cx SA TA BA f M w (Rep (es.take j)) a g D Lo W
 gd:Gd (Rep (es.take j))
 wt:(Rep (es.take j)).wt<=16*j
def Op.read(E:Env SA TA BA)(h:Op SA TA BA f M w a g D es Lo j W)(he:Ent.EnOk e)(hw:(Ent.Bj e).2=0):cpr 23 #[.string (bs (Ent.Bj e).1)] W λr w'=>∃ao cp Lo',r=.returned (.tuple #[enV e ao cp,iw 0])/\Op SA TA BA f M w a g D es Lo' j w'/\(∀p∈Lo,p∈Lo')/\(∀k,(Value.slice ao e.ws.length cp).ownBlock=some k->∃o,(k,o)∈Lo')/\Bw W w'/\Lat.WsAt w'.heap.size (.slice ao e.ws.length cp) e.ws w':=by
 have hr:Ent.Eo e=true:=by
  exact bc9
 have e1:(Ent.Bj e).1=Ent.Iu e:=by unfold Ent.Bj;rw[ah hr]
 rw[e1];refine(E.E.rd e W hr he).mono ?_;rintro r w' ⟨h1,ao,cp,rfl,h4,B,h5,h6⟩;obtain⟨Lo',k1,k2,k3⟩:=h.cx.row E h1 (Lj h6 h5) (by decide);exact⟨ao,cp,Lo',rfl,⟨k1,h.gd,h.wt⟩,k2,k3,h1,h4⟩
def Op.new(E:Env SA TA BA)(h:Op SA TA BA f M w a g D es Lo j W)(cs:Array Value)(ty:TypeId)(ht:ty≠5):Op SA TA BA f M w a g D es ((W.heap.size,.cells cs ty (0,0))::Lo) j (W.alloc (.cells cs ty (0,0))):=⟨h.cx.new E cs ty ht,h.gd,h.wt⟩
def Op.less{Lo':List (Nat×Obj)}(h:Op SA TA BA f M w a g D es Lo j W)(hl:∀p∈Lo',p∈Lo):Op SA TA BA f M w a g D es Lo' j W:=⟨h.cx.less hl,h.gd,h.wt⟩
def Op.foll(E:Env SA TA BA)(h:Op SA TA BA f M w a g D es Lo j W)(hj:es[j]?=some e)(he:Ent.EnOk e/\e.k<=7)(hw:(Ent.Bj e).2=0)(hlen:16*es.length<9000){ao:Option Addr}{cp:Nat}(hr:Lat.WsAt W.heap.size (.slice ao e.ws.length cp) e.ws W)(hp:∀k,(Value.slice ao e.ws.length cp).ownBlock=some k->∃o,(k,o)∈Lo):cpr 24 #[pz f.sb,enV e ao cp] W λr w'=>r=.returned (.tuple #[])/\Op SA TA BA f M w a g D es Lo (j+1) w':=by
 have hj':=(gu.1 hj).1;have hrt:Ent.Eo e=true:=by
  exact bc9
 have et:Rep (es.take (j+1))=Bc e (Rep (es.take j)):=by rw[xq,hj,Option.toList_some,Zu]
 obtain⟨M',hS,h2,h3⟩:=h.cx.sh;have hto:Lat.TOk (Rep (es.take j)).T/\Sto.SOk (Rep (es.take j)).S:=by obtain⟨N1,N2,N3,hc,-⟩:=hS;exact⟨E.J.ok hc.t,E.I.sok hc.s⟩
 have hg:=ah2 he hw hto.1 hto.2 h.gd;refine(afz E e ao cp hS (by have:=h.wt;omega) h.gd.ok.t he.1 hrt ⟨hr,λ_ k hk hm=>?_⟩).mono ?_
 .obtain⟨o,ho⟩:=hp k hk;exact h3 _ ho hm
 .rintro r w' ⟨rfl,hs⟩;exact⟨rfl,by rw[et];exact h.cx.next h2 h3 hs,by rw[et];exact hg.1,by rw[et];have:=hg.2;have:=h.wt;omega⟩
end Go.Proofs.YtnfpfbehebcdpaaGreat
namespace Go.Proofs.YtnfpfbehebcdpaaGreat
open Go.RowKit
variable {SA:TyS}{TA:TyT}{BA:TyB}
variable {f:Fp}{M:Nat->Prop}{X:Sd}{a:Int}{g:Nat}{D:Drm.Dr}{w w1 W W':World}{Lo:List (Nat×Obj)}{pb:Nat}
def ao5(E:Env SA TA BA){es:List Ent.En}{D0:Drm.Dr}(hD:Drm.Ak pb D0 w)(hOk:D0.Ok)(hdn:D0.down=false)(ho:Lgs.Qm D0=(0,(a,g,enc es),D))(hok1:D.Ok)(hes:∀e∈es,(Ent.Bj e).2=0/\Ent.EnOk e/\e.k<=7)(hlen:16*es.length<9000):
  cpr 8 #[pz pb] w λr w'=>∃f M,r=.returned (.tuple #[pz f.sb,iw 0])/\Hid (ShAt SA TA BA f M (Nh (Rep es)) a g D w'/\f.pb=pb/\Kept (Dk pb w) w w'/\(∀i,M i->Dk pb w i\/w.heap.size<=i)/\Gd (Nh (Rep es))/\(Nh (Rep es)).wt<=16*es.length):=by
 have hel:(enc es).length=es.length:=by simp[enc]
 have CO:Hid (1=1->cpr 19 #[pz pb] w λe w'=>∃lb ao cp,e=.returned (.tuple #[pz lb,.slice ao es.length cp,iw 0])/\Hid (Lgs.LgAt lb pb a g D w'/\Lgs.TxAt w.heap.size (.slice ao es.length cp) (enc es) w'/\w.heap.size<=lb/\Kept (Dk pb w) w w')):=λ_=>by refine(Lgs.at1 pb w hD hOk hdn ho).mono ?_;rintro e w' ⟨lb,V,rfl,h1,h2,h3,h4⟩;obtain⟨ao,cp,rfl⟩:=Lgs.J9 h2;rw[hel]at h2;exact⟨lb,ao,cp,by rw[hel],h1,h2,h3,akg h4⟩
 have CS:Hid (∀W:World,1=1->_):=λW _=>E.I.new W;have CT:Hid (∀W:World,1=1->_):=λW _=>E.J.new W;have CV:Hid (∀W:World,1=1->_):=λW _=>E.V.new W;have MK:Hid (∀(lb st la ve:Nat) (ao:Option Addr) (cp:Nat) (M1 M2 M3:Nat->Prop) (w1 w2 w3 w4:World),Lgs.LgAt lb pb a g D w1/\Lgs.TxAt w.heap.size (.slice ao es.length cp) (enc es) w1/\w.heap.size<=lb/\Kept (Dk pb w) w w1->SA w1.heap.size st M1 [] w2/\Bw w1 w2->TA w2.heap.size la M2 [] w3/\Bw w2 w3->BA w3.heap.size ve M3 [] w4/\Bw w3 w4->∃F M Lo,F.sb=w4.heap.size/\Hid (Op SA TA BA F M (w4.alloc (sc90 pb lb st la ve)) a g D es Lo 0 (w4.alloc (sc90 pb lb st la ve))/\Rr (.slice ao es.length cp) (enc es) Lo/\F.pb=pb/\Kept (Dk pb w) w (w4.alloc (sc90 pb lb st la ve))/\∀i,M i->Dk pb w i\/w.heap.size<=i)):=λlb st la ve ao cp M1 M2 M3 w1 w2 w3 w4 ⟨h1,h2,h3,h4⟩ ⟨a2,b2⟩ ⟨a3,b3⟩ ⟨a4,b4⟩=>by
  obtain⟨M,k1,k2⟩:=mk90 E h1 hok1 a2 b2 a3 b3 a4 b4;have b14:Bw w1 (w4.alloc (sc90 pb lb st la ve)):=b2.trans ((b3.trans ((b4.trans ((al _).mono b4.size)).mono b3.size)).mono b2.size);obtain⟨Lo,l1,l2,l3⟩:=rr_of h2;refine⟨_,M,Lo,rfl,⟨⟨⟨M,k1,λi hi=>.inl hi,λp hp hm=>?_⟩,Kept.refl _ _,l1.on b14⟩,by simpa[Rep]using ay9,by simp[Rep,Sd.wt,Sd.new,Sto.totS]⟩,l2,rfl,h4.trans (Kept.of_below (F:=λ_=>False) b14) (λ_ h=>h.elim),λi hi=>?_⟩
  .obtain⟨l4,cs,l5⟩:=l3 p hp;have l6:=l1 p hp;rw[l5]at l6;have nb:∀{o:Obj},w1.heap[p.1]?=some o->(∀cs fz,o≠ .cells cs 9 fz)->False:=λh hn=>by rw[l6]at h;injection h with h;exact hn _ _ h.symm
   rcases k2 _ hm with(e|⟨-,cs',fz,e⟩)|e|e
   .obtain⟨vs,hd⟩:=h1.drum;exact nb (e▸hd.blk) (λ_ _ e=>by injection e with _ e _;exact absurd e (by decide))
   .exact nb e (λ_ _ e=>by injection e with _ e _;exact absurd e (by decide))
   .exact nb (e▸h1.blk) (λ_ _ e=>by injection e with _ e _;exact absurd e (by decide))
   .have:=l1.lt p hp;omega
  .rcases k2 i hi with e|e|e
   .exact Dk.back h4 e
   .exact .inr (e▸h3)
   .exact .inr (ak h4.size e)
 have HE:Hid (Env SA TA BA):=E;have HES:Hid (∀e∈es,(Ent.Bj e).2=0/\Ent.EnOk e/\e.k<=7):=hes;have HEL:Hid (16*es.length<9000/\(enc es).length=es.length/\∀j,(enc es).getD j []=((es[j]?).map λe=>(Ent.Bj e).1).getD []):=⟨hlen,hel,λj=>by simp[enc,List.getD]⟩;clear hD hOk ho hok1 E hes hdn hel hlen;go_enter Tryz.func8,Tryz.ntmps8;go_wp2_with fail;refine(CO.out (by trivial)).mono ?_;rintro e w1 ⟨lb,ao,cp,rfl,H1⟩;clear CO;go_wp2_with fail;refine(CS.out _ (by trivial)).mono ?_;rintro e w2 ⟨st,M1,rfl,h2,hb2⟩;have H2:Hid (SA w1.heap.size st M1 [] w2/\Bw w1 w2):=⟨h2,hb2⟩;clear h2 hb2 CS;go_wp2_with fail;refine(CT.out _ (by trivial)).mono ?_;rintro e w3 ⟨la,M2,rfl,h3,hb3⟩;have H3:Hid (TA w2.heap.size la M2 [] w3/\Bw w2 w3):=⟨h3,hb3⟩;clear h3 hb3 CT;go_wp2_with fail;refine(CV.out _ (by trivial)).mono ?_;rintro e w4 ⟨ve,M3,rfl,h4,hb4⟩;obtain⟨F,M,Lo,hsb,H5⟩:=MK.out lb st la ve ao cp M1 M2 M3 w1 w2 w3 w4 H1.out H2.out H3.out ⟨h4,hb4⟩;unfold sc90 at H5;clear h4 hb4 CV MK H1 H2 H3;go_upto_region 5 with fail
 obtain⟨W5,hW5⟩:=xj (w4.alloc (.cells #[pz pb,pz lb,pz st,pz la,pz ve,uw 0,ui 0,uw 0,ui 0,uw 0,ui 0] 90));rw[hW5,<-hsb];have H5b:Hid (Op SA TA BA F M W5 a g D es Lo 0 W5/\Rr (.slice ao es.length cp) (enc es) Lo/\F.pb=pb/\Kept (Dk pb w) w W5/\∀i,M i->Dk pb w i\/w.heap.size<=i):=by rw[<-hW5];exact H5.out
 clear hW5 hsb H5;have hl63:es.length<9223372036854775808:=by have:=HEL.out.1;omega
 go_wp2_with fail;go_loopw [30] (λi wr=>∃j:Nat,j<=es.length/\i=iw j/\Op SA TA BA F M W5 a g D es Lo j wr) (λi _=>es.length-(intOf i).toNat)
 case atStart=>exact⟨0,eu _,rfl,H5b.out.1⟩
 case round=>
  obtain⟨j,hj,rfl,hw⟩:=hrel;have HO:Hid (Op SA TA BA F M W5 a g D es Lo j wr):=hw;clear hw;by_cases hjl:j<es.length
  .have hjl':(j:Int)<es.length:=by omega
   obtain⟨e,he⟩:∃e,es[j]?=some e:=⟨_,bf hjl⟩;have hee:=HES.out e (xh he);have HX:=H5b.out.2.1.el;obtain⟨ao',cp',hs,hc⟩:=HX;injection hs with hs1 hs0 hs2;clear hs0;subst hs1 hs2;obtain⟨b,off,rfl,hcell⟩:=hc wr HO.out.cx.has j (by rw[HEL.out.2.1];exact hjl);rw[HEL.out.2.2,he]at hcell;have hcl:ce wr b (off+j) (.string (bs (Ent.Bj e).1)):=hcell;clear hc hcell;have CR:Hid (1=1->_):=λ_=>HO.out.read HE.out hee.2.1 hee.1;have CF:Hid (∀ao cp Lo2 W,Op SA TA BA F M W5 a g D es Lo2 j W->Lat.WsAt W.heap.size (.slice ao e.ws.length cp) e.ws W->(∀k,(Value.slice ao e.ws.length cp).ownBlock=some k->∃o,(k,o)∈Lo2)->cpr 24 #[pz F.sb,.agg (enC e ao cp)] W λr w'=>r=.returned (.tuple #[])/\Op SA TA BA F M W5 a g D es Lo2 (j+1) w'):=λao cp Lo2 W h1 h2 h3=>h1.foll HE.out he hee.2 hee.1 HEL.out.1 h2 h3;clear hee he;go_wp2_with fail;refine(CR.out (by trivial)).mono ?_;rintro r w2 ⟨ao2,cp2,Lo2,rfl,q1,q2,q3,q4,q5⟩;have HQ:Hid (Op SA TA BA F M W5 a g D es Lo2 j w2/\(∀p∈Lo,p∈Lo2)/\(∀k,(Value.slice ao2 e.ws.length cp2).ownBlock=some k->∃o,(k,o)∈Lo2)/\Lat.WsAt w2.heap.size (.slice ao2 e.ws.length cp2) e.ws w2):=⟨q1,q2,q3,q5⟩;clear q1 q2 q3 q4 q5 CR hcl HO;unfold enV;go_upto_region 9 with fail
   obtain⟨W3,hW3⟩:=xj (w2.alloc (.cells (enC e ao2 cp2) 92));obtain⟨be,hbe⟩:=xj w2.heap.size;have H3:Hid (Op SA TA BA F M W5 a g D es ((be,.cells (enC e ao2 cp2) 92 (0,0))::Lo2) j W3/\Lat.WsAt W3.heap.size (.slice ao2 e.ws.length cp2) e.ws W3):=by rw[<-hW3,<-hbe];exact⟨HQ.out.1.new HE.out _ 92 (by decide),(RwAt.on HQ.out.2.2.2 (al _)).le (al _).size⟩
   rw[hW3,hbe];clear hW3 hbe;have d0:ce W3 be 0 (iw e.k):=H3.out.1.cx.has.cell tq0 rfl;have d1:ce W3 be 1 (ui e.c):=H3.out.1.cx.has.cell tq0 rfl;have d2:ce W3 be 2 (ui e.n):=H3.out.1.cx.has.cell tq0 rfl;have d3:ce W3 be 3 (uw e.sp):=H3.out.1.cx.has.cell tq0 rfl;have d4:ce W3 be 4 (ui e.sl):=H3.out.1.cx.has.cell tq0 rfl;have d5:ce W3 be 5 (uw e.ap):=H3.out.1.cx.has.cell tq0 rfl;have d6:ce W3 be 6 (ui e.al):=H3.out.1.cx.has.cell tq0 rfl;have d7:ce W3 be 7 (uw e.mp):=H3.out.1.cx.has.cell tq0 rfl;have d8:ce W3 be 8 (ui e.ml):=H3.out.1.cx.has.cell tq0 rfl;have d9:ce W3 be 9 (sd e.prim):=H3.out.1.cx.has.cell tq0 rfl;have d10:ce W3 be 10 (ub e.pt):=H3.out.1.cx.has.cell tq0 rfl;have d11:ce W3 be 11 (.bool e.dn):=H3.out.1.cx.has.cell tq0 rfl;have d12:ce W3 be 12 (.slice ao2 e.ws.length cp2):=H3.out.1.cx.has.cell tq0 rfl;go_wp2_with fail;refine(CF.out _ _ _ _ H3.out.1 H3.out.2 (λk hk=>(HQ.out.2.2.1 k hk).imp λo ho=>gy _ ho)).mono ?_;rintro r w6 ⟨rfl,q6⟩;have H6:Hid (Op SA TA BA F M W5 a g D es Lo (j+1) w6):=q6.less λp hp=>gy _ (HQ.out.2.1 p hp);clear q6 d0 d1 d2 d3 d4 d5 d6 d7 d8 d9 d10 d11 d12 H3 HQ CF;go_wp2_with fail;go_roundw
   case rel=>exact⟨j+1,by omega,by go_num,H6.out⟩
   case measure=>simp[intOf];omega
  .have hjl':¬(j:Int)<es.length:=by omega
   have CW:Hid (1=1->cpr 25 #[pz F.sb] wr λr w'=>r=.returned (.tuple #[])/\Hid (∃M',ShAt SA TA BA F M' (Nh (Rep es)) a g D w'/\F.pb=pb/\Kept (Dk pb w) w w'/\(∀i,M' i->Dk pb w i\/w.heap.size<=i)/\Gd (Nh (Rep es))/\(Nh (Rep es)).wt<=16*es.length)):=λ_=>by
    have ej:es.take j=es:=ay (by omega);obtain⟨hc,hg,ht⟩:=HO.out;rw[ej]at hc hg ht;obtain⟨M',hS,h2,h3⟩:=hc.sh;have l:=HEL.out.1;refine(aw7 HE.out hS (by omega) hg.ok.b).mono ?_;rintro r w' ⟨rfl,hs⟩;obtain⟨M2,k1,k2,k3⟩:=(hc.next h2 h3 hs).to;obtain⟨-,-,r3,r4,r5⟩:=H5b.out;have gw:=au6 hg;refine⟨rfl,M2,k1,r3,r4.trans k2 r5,λi hi=>?_,gw.1,by rw[gw.2];omega⟩;rcases k3 i hi with e|e
    .exact r5 i e
    .exact .inr (ak r4.size e)
   clear HO;go_wp2_with fail;refine(CW.out (by trivial)).mono ?_;rintro e w6 ⟨rfl,H6⟩;clear CW;go_wp2_with fail
   go_ret2
   obtain⟨M6,h6⟩:=H6.out;exact⟨F,M6,rfl,h6⟩
end Go.Proofs.YtnfpfbehebcdpaaGreat
namespace Go.Proofs.YtnfpfbehebcdpaaGreat
open Go.RowKit
variable {SA:TyS}{TA:TyT}{BA:TyB}
variable {f:Fp}{X:Sd}{a g pb sb N:Nat}{D:Drm.Dr}{w w1 W W':World}{Lo:List (Nat×Obj)}{t:Bool}{c n p l:Int}
def ahy{R:List Bi}{a g:Nat}(h:Lgs.Holds D a g R)(m:Int):Lgs.Holds {D with fuel:=m} a g R:=⟨h.lt,h.there,h.log,h.sure,h.alone⟩
end Go.Proofs.YtnfpfbehebcdpaaGreat
namespace Go.Proofs.YtnfpfbehebcdpaaGreat
open Go.RowKit
variable {w w1 W W':World}
structure Ac where
 what:Int
 n:Int
 ph:Int
 q:Rq
 wa:Option Addr
 wc:Nat
 sa:Option Addr
 sc:Nat
 ka:Option Addr
 ks:List Int
 kc:Nat
def acc(x:Ac):List Value:=[iw x.what,iw x.n,uw x.ph,iw x.q.k,ui x.q.c,ui x.q.n,uw x.q.sp,ui x.q.sl,uw x.q.ap,ui x.q.al,sd x.q.key,sd x.q.hi,iw x.q.lim,ub x.q.pt,.slice x.wa x.q.ws.length x.wc,.slice x.sa x.q.sk.length x.sc,.slice x.ka x.ks.length x.kc]
def dac:Ac:=⟨0,0,0,⟨0,0,0,0,0,0,0,[],[],0,0,[],[]⟩,none,0,none,0,none,[],0⟩
structure AcOk(w:World)(x:Ac):Prop where
 q:QIn w x.q x.wa x.wc x.sa x.sc
 ph:0<=x.ph/\x.ph<=18446744073709551615
 n: -9223372036854775808<=x.n/\x.n<=9223372036854775807
 k:RwAt w.heap.size 1 (.slice x.ka x.ks.length x.kc) x.ks.length (x.ks.flatMap λz=>[iw z]) w
 kb:∀z∈x.ks,-9223372036854775808<=z/\z<=9223372036854775807
def AnyB(e:Ending):Prop:=∃r,e=.returned (.bool r)
def ael(x:Ac):(acc x).length=17:=rfl
def N9(w:World)(v:Value)(L:List Ac):Prop:=RwAt w.heap.size 17 v L.length (rowC acc L) w/\∀x∈L,AcOk w x
def AcAt(b off:Nat)(x:Ac)(W:World):Prop:=∀k u,(acc x)[k]?=some u->ce W b (off+k) u
def N9.el{L:List Ac}{ao:Option Addr}{cap:Nat}(h:N9 w (.slice ao L.length cap) L)(hb:Bw w W){i:Nat}(hi:i<L.length):∃b off,ao=some ⟨b,off,none⟩/\AcAt b (off+i*17) (L.getD i dac) W/\AcOk w (L.getD i dac):=by
 obtain⟨b,off,e,hc⟩:=O6 ael dac (by omega) rfl (h.1.on hb) hi;refine⟨b,off,e,λk u hk=>hc k u ?_ hk,h.2 _ ?_⟩
 .have:=(gu.1 hk).1;rw[ael]at this;exact this
 .rw[List.getD,bf hi];exact rq hi
def AcAt.all{b off:Nat}{x:Ac}(h:AcAt b off x W):ce W b off (iw x.what)/\ce W b (off+1) (iw x.n)/\ce W b (off+2) (uw x.ph)/\ce W b (off+3) (iw x.q.k)/\ce W b (off+4) (ui x.q.c)/\ce W b (off+5) (ui x.q.n)/\ce W b (off+6) (uw x.q.sp)/\ce W b (off+7) (ui x.q.sl)/\ce W b (off+8) (uw x.q.ap)/\ce W b (off+9) (ui x.q.al)/\ce W b (off+10) (sd x.q.key)/\ce W b (off+11) (sd x.q.hi)/\ce W b (off+12) (iw x.q.lim)/\ce W b (off+13) (ub x.q.pt)/\ce W b (off+14) (.slice x.wa x.q.ws.length x.wc)/\ce W b (off+15) (.slice x.sa x.q.sk.length x.sc)/\ce W b (off+16) (.slice x.ka x.ks.length x.kc):=
 ⟨h 0 _ rfl,h 1 _ rfl,h 2 _ rfl,h 3 _ rfl,h 4 _ rfl,h 5 _ rfl,h 6 _ rfl,h 7 _ rfl,h 8 _ rfl,h 9 _ rfl,h 10 _ rfl,h 11 _ rfl,h 12 _ rfl,h 13 _ rfl,h 14 _ rfl,h 15 _ rfl,h 16 _ rfl⟩
def ae3{f:Int->Value}:∀ks:List Int,ks.flatMap (λz=>[f z])=ks.map f
 |[]=>rfl
 |z::ks=>by rw[List.flatMap_cons,ae3 ks];rfl
def AcOk.keep{x:Ac}(h:AcOk w x)(hb:Bw w W){pb:Nat}(hp:w.heap.size<=pb):Drm.Ru pb (.slice x.ka x.ks.length x.kc) x.ks W/\(∀i,-9223372036854775808<=x.ks.getD i 0/\x.ks.getD i 0<=9223372036854775807)/\x.ks.length<=9223372036854775807:=by
 obtain⟨ao,cap,e,hl,hc1,hc2,hr⟩:=h.k.on hb;refine⟨⟨_,_,rfl,λh0=>?_⟩,λi=>?_,by omega⟩
 .injection e with e1 _ e2;obtain⟨b,off,e3,hlt,hcell⟩:=hr (by omega);have:=hlt h0;refine⟨b,off,e1.trans e3,by omega,λi hi=>hcell i _ ?_,.inl (by omega)⟩;rw[ae3,qm,bf hi];simp[List.getD,hi]
 .by_cases hi:i<x.ks.length
  .rw[List.getD,bf hi];exact h.kb _ (rq hi)
  .rw[List.getD,tu (by omega)];simp
def an5{L:List Ac}{ao:Option Addr}{cap:Nat}(h:N9 w (.slice ao L.length cap) L):cpr 9 #[.slice ao L.length cap] w λe w'=>AnyB e/\Bw w w':=by
 have HA:Hid (∀W,Bw w W->∀i,i<L.length->∃b off,ao=some ⟨b,off,none⟩/\AcAt b (off+i*17) (L.getD i dac) W/\AcOk w (L.getD i dac)):=λW hW i hi=>h.el hW hi;have hL9:L.length<9223372036854775808:=by obtain⟨_,_,e,_,h1,h2,_⟩:=h.1;injection e with _ _ e;omega
 clear h;go_enter Tryz.func9,Tryz.ntmps9;go_wp2_with fail;go_loopw [3,8] (λs3 i wr=>(∃z:Int,s3=iw z)/\Bw w wr/\∃m:Nat,m<=L.length/\i=iw m) (λ_ i _=>L.length-(intOf i).toNat)
 case atStart=>exact⟨⟨_,rfl⟩,aj _ _,0,eu _,rfl⟩
 case round=>
  obtain⟨⟨z,rfl⟩,hbr,m,hm,rfl⟩:=hrel;have HBr:Hid _:=hbr;by_cases hml:m<L.length
  .obtain⟨b,off,rfl,hat,hok⟩:=HA.out wr hbr m hml;have hml':(m:Int)<L.length:=by omega
   generalize L.getD m dac=x at*;have ze0:=hat.all;clear hbr HA hat hok;go_upto_region 5 with fail
   have HB5:Hid (Bw w (wr.alloc (.cells #[iw x.what,iw x.n,uw x.ph,iw x.q.k,ui x.q.c,ui x.q.n,uw x.q.sp,ui x.q.sl,uw x.q.ap,ui x.q.al,sd x.q.key,sd x.q.hi,iw x.q.lim,ub x.q.pt,.slice x.wa x.q.ws.length x.wc,.slice x.sa x.q.sk.length x.sc,.slice x.ka x.ks.length x.kc] 45))):=HBr.out.trans ((al _).mono HBr.out.size);obtain⟨W5,hW5⟩:=xj (wr.alloc (.cells #[iw x.what,iw x.n,uw x.ph,iw x.q.k,ui x.q.c,ui x.q.n,uw x.q.sp,ui x.q.sl,uw x.q.ap,ui x.q.al,sd x.q.key,sd x.q.hi,iw x.q.lim,ub x.q.pt,.slice x.wa x.q.ws.length x.wc,.slice x.sa x.q.sk.length x.sc,.slice x.ka x.ks.length x.kc] 45));obtain⟨b5,hb5⟩:=xj wr.heap.size;have hbx:W5.heap[b5]?=some (.cells #[iw x.what,iw x.n,uw x.ph,iw x.q.k,ui x.q.c,ui x.q.n,uw x.q.sp,ui x.q.sl,uw x.q.ap,ui x.q.al,sd x.q.key,sd x.q.hi,iw x.q.lim,ub x.q.pt,.slice x.wa x.q.ws.length x.wc,.slice x.sa x.q.sk.length x.sc,.slice x.ka x.ks.length x.kc] 45 (0,0)):=by rw[<-hW5,<-hb5];exact ae wr _
   rw[hW5]at HB5;(try rw[hW5,hb5])
   clear hW5 hb5 HBr ze0;have n10:ce W5 b5 10 (sd x.q.key):=Drm.Ae hbx rfl;have n11:ce W5 b5 11 (sd x.q.hi):=Drm.Ae hbx rfl;have n14:ce W5 b5 14 (.slice x.wa x.q.ws.length x.wc):=Drm.Ae hbx rfl;have n15:ce W5 b5 15 (.slice x.sa x.q.sk.length x.sc):=Drm.Ae hbx rfl;clear hbx;generalize x.q.ws.length=lw at*;generalize x.q.sk.length=ls at*;generalize x.ks.length=lk at*;go_upto_region 6 with fail
   obtain⟨y,hy⟩:=xj (wrap64 (z+wrap64 (wrap64 (wrap64 ((lw:Int)+wrap64 ((ls:Int)/4))+((bs x.q.key).size:Int))+((bs x.q.hi).size:Int))));rw[hy];clear hy n10 n11 n15;by_cases h1:(20000:Int)<y
   .go_wp2_with fail;go_ret;exact⟨⟨_,rfl⟩,HB5.out⟩
   .by_cases h2:(40:Int)<lw
    .go_wp2_with fail;go_ret;exact⟨⟨_,rfl⟩,HB5.out⟩
    .go_wp2_with fail;go_roundw
     case rel=>exact⟨⟨_,rfl⟩,HB5.out,m+1,by omega,by go_num⟩
     case measure=>simp[intOf];omega
  .have hml':¬(m:Int)<L.length:=by omega
   clear hbr HA;go_wp2_with fail;go_ret;exact⟨⟨_,rfl⟩,HBr.out⟩
