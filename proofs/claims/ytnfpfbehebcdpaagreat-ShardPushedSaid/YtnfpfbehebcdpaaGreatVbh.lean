import Derived.Test.YtnfpfbehebcdpaaGreatVbg
import Derived.Test.YtnfpfbehebcdpaaGreatVbd
set_option maxHeartbeats 0
set_option maxRecDepth 99999
set_option linter.all false
namespace Go.Proofs.YtnfpfbehebcdpaaGreat
open Go.RowKit
variable {SA:TyS}{TA:TyT}{BA:TyB}
variable {f:Fp}{M:Nat->Prop}{X:Sd}{a:Int}{g:Nat}{D:Drm.Dr}{w w1 W W':World}{Lo:List (Nat×Obj)}
def Tgd(n:Nat)(v:Value)(W:World):Prop:=∀k,v.ownBlock=some k->n<=k/\∃cs ty,ty≠5/\W.heap[k]?=some (.cells cs ty (0,0))
def Tgd.on{n:Nat}{v:Value}(h:Tgd n v W)(hb:Bw W W'):Tgd n v W':=λk hk=>by obtain⟨h1,cs,ty,h2,h3⟩:=h k hk;exact⟨h1,cs,ty,h2,by rw[hb.block k (gq h3)];exact h3⟩
structure RI(n:Nat)(S:Sto.Sk)(v:Value)(W:World):Prop where
 r:∃L,Sto.ItAt v L S W
 t:Tgd n v W
structure RT(n:Nat)(T:Lat.Tb)(v:Value)(W:World):Prop where
 r:Lat.IsAt W.heap.size v T W
 t:Tgd n v W
def RT.on{n:Nat}{T:Lat.Tb}{v:Value}(h:RT n T v W)(hb:Bw W W'):RT n T v W':=⟨(RwAt.on h.r hb).le hb.size,h.t.on hb⟩
def auq(E:Env SA TA BA)(h:ShAt SA TA BA f M X a g D w)(ht:X.wt<9000):cpr 16 #[pz f.sb] w λe w'=>∃v,e=.returned v/\RI w.heap.size X.S v w'/\Bw w w':=by
 have c:=h.cells.2.2.1;have C:Hid (1=1->cpr 32 #[pz f.st] w λe w'=>∃v,e=.returned v/\Hid (RI w.heap.size X.S v w')/\Hid (Bw w w')):=λ_=>by refine(ae0 E h (by unfold Sd.wt at ht;omega)).mono ?_;rintro e w' ⟨v,L,rfl,h1,h2,h3⟩;exact⟨v,rfl,⟨⟨L,h1⟩,λk hk=>⟨(h2 k hk).1,_,_,by decide,(h2 k hk).2.choose_spec⟩⟩,h3⟩
 clear h ht E;go_enter Tryz.func16,Tryz.ntmps16;go_wp2_with fail;refine(C.out (by trivial)).mono ?_;rintro e w' ⟨v,rfl,h1,h2⟩;go_wp2_with fail;go_ret;exact⟨v,rfl,h1.out,h2.out⟩
def aqd(E:Env SA TA BA)(h:ShAt SA TA BA f M X a g D w):∀k,M k->Sto.NoVe w k:=by
 obtain⟨M1,M2,M3,h,rfl⟩:=h;rintro k (rfl|rfl|rfl|e|e|e|⟨_,cs,fz,e⟩)
 .exact Sto.Hy h.blk (by intro cs fz e;injection e with _ e _;exact absurd e (by decide))
 .exact Sto.Hy h.lg.blk (by intro cs fz e;injection e with _ e _;exact absurd e (by decide))
 .obtain⟨vs,hd⟩:=h.lg.drum;exact Sto.Hy hd.blk (by intro cs fz e;injection e with _ e _;exact absurd e (by decide))
 .exact E.I.nov h.s k e
 .exact(E.tT h.t k e).2
 .exact(E.tV h.v k e).2
 .exact bdk
structure QIn(w:World)(q:Rq)(wa:Option Addr)(wc:Nat)(sa:Option Addr)(sc:Nat):Prop where
 ok:RqOk q
 ws:Lat.WsAt w.heap.size (.slice wa q.ws.length wc) q.ws w
 sk:TAt w.heap.size (.slice sa q.sk.length sc) q.sk w
def awq{B size n cap:Nat}{ao:Option Addr}{cs:List Value}(h:RwAt B size (.slice ao n cap) n cs w)(hc:cs.length=n*size)(hs:0<size)(h0:0<n){k:Nat}(hk:(Value.slice ao n cap).ownBlock=some k):k<B:=by obtain⟨b,off,rfl,hb,-⟩:=h.cellAt (j:=0) (by rw[hc];exact Nat.mul_pos h0 hs);simp only[Value.ownBlock,ja]at hk;rw[<-hk];exact hb
def Kr(Lo:List (Nat×Obj))(W W':World):Prop:=∃G:Nat->Prop,Kept G W W'/\(∀k,G k->Sto.NoVe W k)/\∀p∈Lo,¬G p.1
def Tgd.kept{n:Nat}{v:Value}(h:Tgd n v W)(k:Kr Lo W W')(hl:∀k,v.ownBlock=some k->∃o,(k,o)∈Lo):Tgd n v W':=λi hi=>by obtain⟨G,k1,-,k3⟩:=k;obtain⟨o,ho⟩:=hl i hi;obtain⟨h1,cs,ty,h2,h3⟩:=h i hi;exact⟨h1,cs,ty,h2,Ov h3 k1 (k3 _ ho)⟩
def ak9{B size n:Nat}{v:Value}{cs:List Value}(h:RwAt B size v n cs W)(hB:B=W.heap.size)(k:Kr Lo W W')(hl:∀k,v.ownBlock=some k->∃o,(k,o)∈Lo):RwAt W'.heap.size size v n cs W':=by obtain⟨G,k1,-,k3⟩:=k;exact(J5 h k1 (λi e g=>by obtain⟨o,ho⟩:=hl i e;exact k3 _ ho g)).le (hB▸k1.size)
def RT.kept{n:Nat}{T:Lat.Tb}{v:Value}(h:RT n T v W)(k:Kr Lo W W')(hl:∀k,v.ownBlock=some k->∃o,(k,o)∈Lo):RT n T v W':=⟨ak9 h.r rfl k hl,h.t.kept k hl⟩
def ask8(E:Env SA TA BA)(hC:Cx SA TA BA f M w1 X a g D Lo W)(hM:∀k,M k->w.heap.size<=k)(hb:Bw w w1)(G:Gd X)(ht:X.wt<8900)(u:Up D)(ph:Int)(h0:0<=ph)(h1:ph<=18446744073709551615){q:Rq}{wa sa:Option Addr}{wc sc:Nat}(hq:QIn w q wa wc sa sc):
  cpr 10 #[pz f.sb,uw ph,rqV q wa wc sa sc] W λe w'=>∃ao n cap,e=.returned (rpV (Hf ph q X a D).1 (.slice ao n cap))/\Cx SA TA BA f M w1 (Hf ph q X a D).2.1 a g (Hf ph q X a D).2.2 Lo w'/\Lv X (Hf ph q X a D).2/\Kr Lo W w':=by
 obtain⟨M',hS,h2,h3⟩:=hC.sh;have hbW:Bw w W:=hb.trans (hC.kp.below (B:=w.heap.size) hb.size hM);have hlo:∀k,M' k->w.heap.size<=k:=λk hk=>(h2 k hk).elim (hM k) (λe=>ak hb.size e);have l1:∀(_:0<q.ws.length) (k:Nat),(Value.slice wa q.ws.length wc).ownBlock=some k->k<w.heap.size:=λh0 k hk=>awq hq.ws (Kt (vc:=Lat.wrc) (sz:=3) (λ_=>rfl) _) (by decide) h0 hk;have l2:∀(_:0<q.sk.length) (k:Nat),(Value.slice sa q.sk.length sc).ownBlock=some k->k<w.heap.size:=λh0 k hk=>awq hq.sk (Kt (vc:=Lat.txc) (sz:=2) (λ_=>rfl) _) (by decide) h0 hk;have hlv:Lv X (Hf ph q X a D).2:=by obtain⟨M1,M2,M3,h,rfl⟩:=hS;exact azp hq.ok (E.J.ok h.t) (E.I.sok h.s) G u h0
 refine(Vk E (ac8 E) ph q wa wc sa sc hS ht G.ok h0 h1 hq.ok ⟨(RwAt.on hq.ws hbW).le hbW.size,λp k hk hm=>?_⟩ ((RwAt.on hq.sk hbW).le hbW.size) (λp k hk=>⟨λhm=>?_,?_⟩)).mono ?_
 .have:=hlo k hm;have:=l1 p k hk;omega
 .have:=hlo k hm;have:=l2 p k hk;omega
 .exact iy (l2 p k hk) hbW.size
 .rintro e w' ⟨ao,n,cap,rfl,-,hs⟩;exact⟨ao,n,cap,rfl,hC.next h2 h3 hs,hlv,M',hs.choose_spec.2.1,aqd E hS,h3⟩
def Cx.grows(E:Env SA TA BA)(h:Cx SA TA BA f M w X a g D Lo W)(hb:Bw W W')(L:List (Nat×Obj))(hL:∀p∈L,W.heap.size<=p.1/\∃cs ty,p.2=.cells cs ty (0,0)/\ty≠5/\W'.heap[p.1]?=some (.cells cs ty (0,0))):Cx SA TA BA f M w X a g D (L++Lo) W':=by
 obtain⟨⟨M',h1,h2,h3⟩,h4,h5⟩:=h;have hl:∀k,M' k->k<W.heap.size:=λk hk=>h1.lt E hk;obtain⟨M1,M2,M3,hc,rfl⟩:=h1;refine⟨⟨_,⟨M1,M2,M3,hc.on E hb,rfl⟩,λi hi=>?_,λp hp hi=>?_⟩,h4.trans (Kept.of_below (F:=λ_=>False) hb) (λ_ e=>e.elim),λp hp=>?_⟩
 .exact bap
 .rcases bu.1 hp with hp|hp
  .obtain⟨q1,cs,ty,q2,q3,q4⟩:=hL p hp;rcases hi with e|e|e|e|e|e|⟨-,cs',fz,e⟩
   .have:=hl _ (.inl e);omega
   .have:=hl _ (.inr (.inl e));omega
   .have:=hl _ (.inr (.inr (.inl e)));omega
   .have:=hl _ (.inr (.inr (.inr (.inl e))));omega
   .have:=hl _ (.inr (.inr (.inr (.inr (.inl e)))));omega
   .have:=hl _ (.inr (.inr (.inr (.inr (.inr (.inl e))))));omega
   .rw[q4]at e;injection e with e;injection e with _ e _;exact q3 e
  .exact bas
 .rcases bu.1 hp with hp|hp
  .obtain⟨q1,cs,ty,q2,q3,q4⟩:=hL p hp;rw[q2];exact q4
  .exact(h5.on hb) p hp
def ahj(v:Value)(W:World):List (Nat×Obj):=match v.ownBlock with
 |none=>[]
 |some k=>match W.heap[k]?with
  |none=>[]
  |some o=>[(k,o)]
def ao8{n:Nat}{v:Value}(h:Tgd n v W):(∀p∈ahj v W,n<=p.1/\∃cs ty,p.2=.cells cs ty (0,0)/\ty≠5/\W.heap[p.1]?=some (.cells cs ty (0,0)))/\∀k,v.ownBlock=some k->∃o,(k,o)∈ahj v W:=by
 unfold ahj;cases hv:v.ownBlock with
 |none=>exact⟨λp hp=>(by cases hp),λk hk=>(by cases hk)⟩
 |some k=>
  obtain⟨h1,cs,ty,h2,h3⟩:=h k hv;dsimp only;rw[h3];refine⟨λp hp=>?_,λk' hk=>?_⟩
  .obtain rfl:=kw.1 hp;exact⟨h1,cs,ty,rfl,h2,h3⟩
  .injection hk with hk;subst hk;exact⟨_,kw.2 rfl⟩
end Go.Proofs.YtnfpfbehebcdpaaGreat
namespace Go.Proofs.YtnfpfbehebcdpaaGreat
open Go.RowKit
variable {SA:TyS}{TA:TyT}{BA:TyB}
variable {f:Fp}{M:Nat->Prop}{X:Sd}{a:Int}{g:Nat}{D:Drm.Dr}{w w1 W W':World}{Lo L:List (Nat×Obj)}
def No5(o:Obj):Prop:=∀cs fz,o≠ .cells cs 5 fz
def alp{cs:Array Value}{ty:TypeId}{fz:Nat×Nat}(h:ty≠5):No5 (.cells cs ty fz):=λ_ _ e=>by injection e with _ e _;exact h e
def Cx.swap(E:Env SA TA BA){b:Nat}{o o':Obj}(h:Cx SA TA BA f M w X a g D ((b,o)::L) W)(hv:Sto.NoVe W b)(hb:M b\/w.heap.size<=b)(hk:Kept (λi=>i=b) W W')(ho:W'.heap[b]?=some o')(hn:No5 o')(hL:∀p∈L,p.1≠b):Cx SA TA BA f M w X a g D ((b,o')::L) W':=by
 obtain⟨⟨M',h1,h2,h3⟩,h4,h5⟩:=h;obtain⟨M1,M2,M3,hc,rfl⟩:=h1;have hM:¬f.In M1 M2 M3 W b:=h3 _ (jd ..);refine⟨⟨_,⟨M1,M2,M3,hc.kept E hk (λk hi e=>hM (e▸hi)) (λk e=>e▸hv),rfl⟩,λi hi=>?_,λp hp hi=>?_⟩,h4.trans hk (λi e=>e▸hb),λp hp=>?_⟩
 .rcases Ja hk hi with e|e|e
  .exact h2 i e
  .exact .inr (ak h4.size e)
  .exact e▸hb
 .rcases az.1 hp with rfl|hp
  .rcases hi with e|e|e|e|e|e|⟨-,cs',fz,e⟩
   .exact hM (.inl e)
   .exact hM (.inr (.inl e))
   .exact hM (.inr (.inr (.inl e)))
   .exact hM (.inr (.inr (.inr (.inl e))))
   .exact hM (.inr (.inr (.inr (.inr (.inl e)))))
   .exact hM (.inr (.inr (.inr (.inr (.inr (.inl e))))))
   .dsimp only at e;rw[ho]at e;injection e with e;exact hn _ _ e
  .rcases Ja hk hi with e|e|e
   .exact h3 p (eu _ hp) e
   .have:=h5.lt p (eu _ hp);omega
   .exact hL p hp e
 .rcases az.1 hp with rfl|hp
  .exact ho
  .exact Ov (h5 p (eu _ hp)) hk (hL p hp)
end Go.Proofs.YtnfpfbehebcdpaaGreat
namespace Go.Proofs.YtnfpfbehebcdpaaGreat
open Go.RowKit
variable {SA:TyS}{TA:TyT}{BA:TyB}
variable {f:Fp}{M:Nat->Prop}{X X1:Sd}{a:Int}{g:Nat}{D:Drm.Dr}{w W W':World}{Lo:List (Nat×Obj)}{Ti:Lat.Tb}{v:Value}{k0 b:Nat}{lp ll:Int}
structure Wk(SA:TyS)(TA:TyT)(BA:TyB)(f:Fp)(M:Nat->Prop)(w:World)(X1:Sd)(a:Int)(g:Nat)(D:Drm.Dr)(Lo:List (Nat×Obj))(k0:Nat)(Ti:Lat.Tb)(v:Value)(b:Nat)(lp ll:Int)(W:World):Prop where
 cx:Cx SA TA BA f M w X1 a g D Lo W
 rt:RT k0 Ti v W
 po:∀k,v.ownBlock=some k->∃o,(k,o)∈Lo
 bx:(b,Obj.cells #[uw lp,ui ll] 38 (0,0))∈Lo
def Wk.on(E:Env SA TA BA)(h:Wk SA TA BA f M w X1 a g D Lo k0 Ti v b lp ll W)(hb:Bw W W'):Wk SA TA BA f M w X1 a g D Lo k0 Ti v b lp ll W':=⟨h.cx.on E hb,h.rt.on hb,h.po,h.bx⟩
def Wk.raise(E:Env SA TA BA)(h:Wk SA TA BA f M w X1 a g D Lo k0 Ti v b lp ll W)(ht:X1.T.length<10000)(h0:0<=lp/\0<=ll)(c n:Int):cpr 59 #[pz f.la,.agg #[ui c,ui n],.agg #[uw lp,ui ll]] W λe w'=>(∃r,e=.returned (.bool r))/\Wk SA TA BA f M w {X1 with T:=Lat.rseF c n lp ll X1.T} a g D Lo k0 Ti v b lp ll w':=by obtain⟨hc,hr,hp,hb⟩:=h;obtain⟨M',hS,h2,h3⟩:=hc.sh;refine(aez E c n lp ll hS ht h0).mono ?_;rintro e w' ⟨rfl,hs⟩;exact⟨⟨_,rfl⟩,hc.next h2 h3 hs,hr.kept (Lo:=Lo) ⟨M',hs.choose_spec.2.1,aqd E hS,h3⟩ hp,hp,hb⟩
def Wk.new(E:Env SA TA BA)(h:Wk SA TA BA f M w X1 a g D Lo k0 Ti v b lp ll W)(cs:Array Value)(ty:TypeId)(ht:ty≠5):Wk SA TA BA f M w X1 a g D ((W.heap.size,.cells cs ty (0,0))::Lo) k0 Ti v b lp ll (W.alloc (.cells cs ty (0,0))):=⟨h.cx.new E cs ty ht,h.rt.on (al _),λk hk=>(h.po k hk).imp λo ho=>eu _ ho,eu _ h.bx⟩
def Wk.drop{p:Nat×Obj}(h:Wk SA TA BA f M w X1 a g D (p::Lo) k0 Ti v b lp ll W)(hp:∀k,v.ownBlock=some k->∃o,(k,o)∈Lo)(hb:(b,Obj.cells #[uw lp,ui ll] 38 (0,0))∈Lo):Wk SA TA BA f M w X1 a g D Lo k0 Ti v b lp ll W:=⟨h.cx.less λp hp=>eu _ hp,h.rt,hp,hb⟩
def anc(q m:Int)(L T:Lat.Tb):(L.foldl (wk1 q m) T).length=T.length:=by have:=iq List.length (agk q m L T);simpa using this
def poke2(E:Env SA TA BA){v0 v1:Value}(h:Cx SA TA BA f M w X a g D [(b,.cells #[v0,v1] 38 (0,0))] W)(hb:w.heap.size<=b)(u0 u1:Value):Cx SA TA BA f M w X a g D [(b,.cells #[u0,u1] 38 (0,0))] ((W.setCell ⟨b,0,none⟩ u0).setCell ⟨b,1,none⟩ u1):=by have hh:=h.has _ (kw.2 rfl);have hk:Kept (λk=>k=b) W ((W.setCell ⟨b,0,none⟩ u0).setCell ⟨b,1,none⟩ u1):=Ll (Ll (Kept.refl _ _) _ _) _ _;have ho:((W.setCell ⟨b,0,none⟩ u0).setCell ⟨b,1,none⟩ u1).heap[b]?=some (.cells #[u0,u1] 38 (0,0)):=Drm.Aq (k:=1) (Drm.Aq (k:=0) hh);exact h.swap E (Sto.Hy hh (λcs' fz e=>by injection e with _ e _;exact absurd e (by decide))) (.inr hb) hk ho (alp (by decide)) (λp hp=>by cases hp)
def aw7(E:Env SA TA BA)(h:ShAt SA TA BA f M X a g D w)(ht:X.wt<9000)(hb:Ts X.bp X.bl):cpr 25 #[pz f.sb] w λe w'=>e=.returned (.tuple #[])/\ShTo SA TA BA f M w (Nh X) a g D w':=by
 obtain⟨z1,z2,z3,hz⟩:∃z1 z2 z3,Clk.Di X.bp X.bl=(z1,z2,z3):=⟨_,_,_,rfl⟩;have hzt:=Yv hb;rw[hz]at hzt;have H0:Hid (Cx SA TA BA f M w X a g D [] w):=Cx.start h;obtain⟨X0,hX0⟩:∃X0:Sd,({X with np:=X.bp,nl:=X.bl}:Sd)=X0:=⟨_,rfl⟩;have HX0:Hid (X0.T=X.T/\X0.bp=X.bp/\X0.bl=X.bl/\X.T.length<9000/\({X0 with T:=X.T.foldl (wk1 (wkT X).1 (wkT X).2) X.T}:Sd)=Nh X):=by rw[<-hX0];exact⟨rfl,rfl,rfl,by unfold Sd.wt at ht;omega,rfl⟩
 have HZ:Hid (Ts X.bp X.bl/\Ts z1 z2/\wkT X=if z3≠0 then(X.bp,X.bl)else(z1,z2)):=⟨hb,hzt,by unfold wkT;rw[hz]⟩;have CN:Hid (∀W,Cx SA TA BA f M w X0 a g D [] W->cpr 57 #[.agg #[uw X.bp,ui X.bl]] W λr w'=>r=.returned (.tuple #[.agg #[uw z1,ui z2],iw z3])/\Cx SA TA BA f M w X0 a g D [] w'):=λW hW=>(Clk.ahp X.bp X.bl W hb.1.1 hb.2.1).mono λr w' h=>by rw[hz]at h;exact⟨h.1,hW.on E h.2⟩
 have HN:Hid (∀W,Cx SA TA BA f M w X a g D [] W->Cx SA TA BA f M w X0 a g D [] ((W.setCell ⟨f.sb,7,none⟩ (uw X.bp)).setCell ⟨f.sb,8,none⟩ (ui X.bl))):=λW hW=>by rw[<-hX0];exact hW.aod E _ _
 have HE:Hid (Env SA TA BA):=E;obtain⟨c7,c8,c9,c10⟩:ce w f.sb 7 (uw X.np)/\ce w f.sb 8 (ui X.nl)/\ce w f.sb 9 (uw X.bp)/\ce w f.sb 10 (ui X.bl):=H0.out.nums.2.2;have f7:=H0.out.free 7;have f8:=H0.out.free 8;clear h E hz hb hzt ht hX0;go_enter Tryz.func25,Tryz.ntmps25;go_upto_region 1 with fail
 have H1:Hid _:=HN.out _ H0.out;obtain⟨W1,hW1⟩:=xj ((w.setCell ⟨f.sb,7,none⟩ (uw X.bp)).setCell ⟨f.sb,8,none⟩ (ui X.bl));rw[hW1]at H1|-;clear hW1 c7 c8 c9 c10 f7 f8 H0 HN;have c9:ce W1 f.sb 9 (uw X.bp):=by rw[<-HX0.out.2.1];exact H1.out.nums.2.2.2.2.1
 have c10:ce W1 f.sb 10 (ui X.bl):=by rw[<-HX0.out.2.2.1];exact H1.out.nums.2.2.2.2.2
 go_wp2_with fail;refine(CN.out _ H1.out).mono ?_;rintro e w2 ⟨rfl,h2⟩;have H2:Hid _:=h2;clear h2 H1 c9 c10 CN;go_upto_region 2 with fail
 obtain⟨W3,hW3⟩:=xj (w2.alloc (.cells #[uw z1,ui z2] 38));obtain⟨b,hbb⟩:=xj w2.heap.size;have H3:Hid (Cx SA TA BA f M w X0 a g D [(b,.cells #[uw z1,ui z2] 38 (0,0))] W3/\w.heap.size<=b):=by rw[<-hW3,<-hbb];exact⟨H2.out.new HE.out _ 38 (by decide),H2.out.kp.size⟩
 (try rw[hW3,hbb])
 clear hW3 hbb H2;obtain⟨lp,ll,hwk⟩:∃lp ll,wkT X=(lp,ll):=⟨_,_,rfl⟩;have HL:Hid ((lp,ll)=if z3≠0 then(X.bp,X.bl)else(z1,z2)):=by show _=_;rw[<-hwk];exact HZ.out.2.2
 have HW:Hid (({X0 with T:=X.T.foldl (wk1 lp ll) X.T}:Sd)=Nh X):=by have:=HX0.out.2.2.2.2;rw[hwk]at this;exact this
 clear hwk;have c9:ce W3 f.sb 9 (uw X.bp):=by rw[<-HX0.out.2.1];exact H3.out.1.nums.2.2.2.2.1
 have c10:ce W3 f.sb 10 (ui X.bl):=by rw[<-HX0.out.2.2.1];exact H3.out.1.nums.2.2.2.2.2
 have y0:ce W3 b 0 (uw z1):=H3.out.1.has.cell tq0 rfl;have y1:ce W3 b 1 (ui z2):=H3.out.1.has.cell tq0 rfl;have g0:W3.frozen? ⟨b,0,none⟩=false:=H3.out.1.has.free tq0;have g1:W3.frozen? ⟨b,1,none⟩=false:=H3.out.1.has.free tq0;have HSt:Hid (Cx SA TA BA f M w X0 a g D [(b,.cells #[uw X.bp,ui X.bl] 38 (0,0))] ((W3.setCell ⟨b,0,none⟩ (uw X.bp)).setCell ⟨b,1,none⟩ (ui X.bl))):=by exact poke2 HE.out H3.out.1 H3.out.2 _ _
 go_upto_if 22 with fail
 go_cut [] (λwc=>Cx SA TA BA f M w X0 a g D [(b,.cells #[uw lp,ui ll] 38 (0,0))] wc)
 case first=>
  by_cases h3:z3=0
  .subst h3;have HC:Hid (Cx SA TA BA f M w X0 a g D [(b,.cells #[uw lp,ui ll] 38 (0,0))] W3):=by have:=HL.out;rw[ag (by simp)]at this;simp only[jl]at this;rw[this.1,this.2];exact H3.out.1
   clear c9 c10 y0 y1 g0 g1 HSt HL;go_wp2_with fail;go_meet;exact HC.out
  .have h3':(z3 != 0)=true:=by simpa using h3
   have HC:Hid (Cx SA TA BA f M w X0 a g D [(b,.cells #[uw lp,ui ll] 38 (0,0))] ((W3.setCell ⟨b,0,none⟩ (uw X.bp)).setCell ⟨b,1,none⟩ (ui X.bl))):=by have:=HL.out;rw[ah h3]at this;simp only[jl]at this;rw[this.1,this.2];exact HSt.out
   clear HSt HL h3;go_wp2_with fail;go_meet;exact HC.out
 case rest=>
  have H4:Hid (Cx SA TA BA f M w X0 a g D [(b,.cells #[uw lp,ui ll] 38 (0,0))] wc):=hcut;have CA:Hid (1=1->cpr 58 #[pz f.la] wc λe w'=>∃ao cap Lo,e=.returned (.slice ao X.T.length cap)/\Hid (Wk SA TA BA f M w X0 a g D Lo wc.heap.size X.T (.slice ao X.T.length cap) b lp ll w')):=λ_=>by obtain⟨M',hS,-⟩:=H4.out.sh;refine(ai3 HE.out hS (by rw[HX0.out.1];have:=HX0.out.2.2.2.1;omega)).mono ?_;rintro e w' ⟨v,rfl,h1,h2,h3⟩;rw[HX0.out.1]at h1;obtain⟨ao,cap,rfl,-⟩:=h1.shape;have rt:RT wc.heap.size X.T (.slice ao X.T.length cap) w':=⟨h1,λk hk=>⟨(h2 k hk).1,_,_,by decide,(h2 k hk).2.choose_spec⟩⟩;obtain⟨o1,o2⟩:=ao8 rt.t;exact⟨ao,cap,_,rfl,H4.out.grows HE.out h3 _ o1,rt,λk hk=>by obtain⟨o,ho⟩:=o2 k hk;exact⟨o,bu.2 (.inl ho)⟩,bu.2 (.inr tq0)⟩
  have c3:ce wc f.sb 3 (pz f.la):=H4.out.ptrs.2.2.2.1;clear hcut HSt c9 c10 y0 y1 g0 g1 H3;go_wp2_with fail;refine(CA.out (by trivial)).mono ?_;rintro e w5 ⟨ao,cap,Lo,rfl,H5⟩;have h63:X.T.length<9223372036854775808:=by have:=HX0.out.2.2.2.1;omega
  have H5b:Hid ((∀k,(Value.slice ao X.T.length cap).ownBlock=some k->∃o,(k,o)∈Lo)/\(b,Obj.cells #[uw lp,ui ll] 38 (0,0))∈Lo):=⟨H5.out.po,H5.out.bx⟩;have Hpos:Hid (0<=lp/\0<=ll):=by
   have h1:=HL.out;have h2:=HZ.out;split at h1
   .simp only[jl]at h1;exact⟨by rw[h1.1];exact h2.1.1.1,by rw[h1.2];exact h2.1.2.1⟩
   .simp only[jl]at h1;exact⟨by rw[h1.1];exact h2.2.1.1.1,by rw[h1.2];exact h2.2.1.2.1⟩
  clear CA H4 c3 HL HZ;generalize wc.heap.size=k0 at H5;go_wp2_with fail;go_loopw [33] (λi wr=>∃j:Nat,j<=X.T.length/\i=iw j/\Wk SA TA BA f M w {X0 with T:=(X.T.take j).foldl (wk1 lp ll) X.T} a g D Lo k0 X.T (.slice ao X.T.length cap) b lp ll wr) (λi _=>X.T.length-(intOf i).toNat)
  case atStart=>
   refine⟨0,gp _,rfl,?_⟩;have e:({X0 with T:=(X.T.take 0).foldl (wk1 lp ll) X.T}:Sd)=X0:=by rw[xy,List.foldl_nil,<-HX0.out.1]
   rw[e];exact H5.out
  case round=>
   clear H5;obtain⟨j,hj,rfl,hw⟩:=hrel;have HWk:Hid (Wk SA TA BA f M w {X0 with T:=(X.T.take j).foldl (wk1 lp ll) X.T} a g D Lo k0 X.T (.slice ao X.T.length cap) b lp ll wr):=hw;by_cases hjl:j<X.T.length
   .have hjl':(j:Int)<X.T.length:=by omega
    obtain⟨bt,off,rfl,hin⟩:=hw.rt.r.el hjl;have HT:Hid (X.T.take (j+1)=X.T.take j++[X.T.getD j Lat.di]):=by show _=_;rw[xg,bf hjl];simp[List.getD,hjl]
    obtain⟨x,hx⟩:=xj (X.T.getD j Lat.di);rw[hx]at hin HT;obtain⟨e0,e1,e2,e3,e4,e5,e6,e7,e8,e9⟩:=hin;clear hw hx;obtain⟨T1,hT1⟩:=xj ((X.T.take j).foldl (wk1 lp ll) X.T);have HT1:Hid ((X.T.take (j+1)).foldl (wk1 lp ll) X.T=(if x.1=x.2.prim then Lat.rseF x.2.c x.2.n lp ll T1 else T1)/\T1.length<10000):=by refine⟨by rw[HT.out,List.foldl_append,hT1];rfl,?_⟩;rw[<-hT1,anc];have:=HX0.out.2.2.2.1;omega
    rw[hT1]at HWk;clear hT1 HT;go_upto_region 7 with fail
    obtain⟨We,hWe⟩:=xj (wr.alloc (.cells (inC x.1 x.2) 155));obtain⟨be,hbe⟩:=xj wr.heap.size;have H6:Hid (Wk SA TA BA f M w {X0 with T:=T1} a g D ((be,.cells (inC x.1 x.2) 155 (0,0))::Lo) k0 X.T (.slice (some ⟨bt,off,none⟩) X.T.length cap) b lp ll We):=by rw[<-hWe,<-hbe];exact HWk.out.new HE.out _ 155 (by decide)
    (try rw[hWe,hbe])
    clear hWe hbe HWk e0 e1 e2 e3 e4 e5 e6 e7 e8 e9;have d7:ce We be 7 (sd x.1):=H6.out.cx.has.cell tq0 rfl;have d6:ce We be 6 (sd x.2.prim):=H6.out.cx.has.cell tq0 rfl;have q1:=Ol x.1 x.2.prim;have HBk:Hid (∀X1 W,Wk SA TA BA f M w X1 a g D ((be,.cells (inC x.1 x.2) 155 (0,0))::Lo) k0 X.T (.slice (some ⟨bt,off,none⟩) X.T.length cap) b lp ll W->Wk SA TA BA f M w X1 a g D Lo k0 X.T (.slice (some ⟨bt,off,none⟩) X.T.length cap) b lp ll W):=λX1 W h=>h.drop H5b.out.1 H5b.out.2;by_cases hp:x.1=x.2.prim
    .have hp':(x.1==x.2.prim)=true:=by simpa using hp
     rw[hp']at q1;have HT2:Hid ((X.T.take (j+1)).foldl (wk1 lp ll) X.T=Lat.rseF x.2.c x.2.n lp ll T1):=by have:=HT1.out.1;rw[ah hp]at this;exact this
     have SH:Hid (∀X1 W,Wk SA TA BA f M w X1 a g D ((be,.cells (inC x.1 x.2) 155 (0,0))::Lo) k0 X.T (.slice (some ⟨bt,off,none⟩) X.T.length cap) b lp ll W->ce W f.sb 3 (pz f.la)/\ce W be 0 (ui x.2.c)/\ce W be 1 (ui x.2.n)/\ce W b 0 (uw lp)/\ce W b 1 (ui ll)):=λX1 W h=>⟨h.cx.ptrs.2.2.2.1,h.cx.has.cell tq0 rfl,h.cx.has.cell tq0 rfl,h.cx.has.cell h.bx rfl,h.cx.has.cell h.bx rfl⟩;have DW:Hid (∀X1 W,Wk SA TA BA f M w X1 a g D ((be,.cells (inC x.1 x.2) 155 (0,0))::Lo) k0 X.T (.slice (some ⟨bt,off,none⟩) X.T.length cap) b lp ll W->Wk SA TA BA f M w X1 a g D ((be,.cells (inC x.1 x.2) 155 (0,0))::Lo) k0 X.T (.slice (some ⟨bt,off,none⟩) X.T.length cap) b lp ll W.drew):=λX1 W h=>h.on HE.out (ai _ _).drew;have CRs:Hid (∀W,Wk SA TA BA f M w {X0 with T:=T1} a g D ((be,.cells (inC x.1 x.2) 155 (0,0))::Lo) k0 X.T (.slice (some ⟨bt,off,none⟩) X.T.length cap) b lp ll W->cpr 59 #[pz f.la,.agg #[ui x.2.c,ui x.2.n],.agg #[uw lp,ui ll]] W λe w'=>(∃r,e=.returned (.bool r))/\Wk SA TA BA f M w {X0 with T:=Lat.rseF x.2.c x.2.n lp ll T1} a g D ((be,.cells (inC x.1 x.2) 155 (0,0))::Lo) k0 X.T (.slice (some ⟨bt,off,none⟩) X.T.length cap) b lp ll w'):=λW h=>h.raise HE.out HT1.out.2 Hpos.out _ _;clear hp HT1;go_wp2_with fail;go_region_held3 (λW=>ce W f.sb 3 (pz f.la)/\ce W be 0 (ui x.2.c)/\ce W be 1 (ui x.2.n)/\ce W b 0 (uw lp)/\ce W b 1 (ui ll)) (first|exact SH.out _ _ H6.out|exact SH.out _ _ (DW.out _ _ H6.out)|exact SH.out _ _ H7.out) (first
      |(go_at_call 59;refine(CRs.out _ (DW.out _ _ H6.out)).mono ?_;rintro e w7 ⟨⟨r,rfl⟩,hq⟩;have H7:Hid _:=hq;clear hq))
     rename_i hHeld;clear hHeld CRs SH DW H6;go_wp2_with fail;go_roundw
     case rel=>exact⟨j+1,by omega,by go_num,by rw[HT2.out];exact HBk.out _ _ H7.out⟩
     case measure=>simp[intOf];omega
    .have hp':(x.1==x.2.prim)=false:=by simpa using hp
     rw[hp']at q1;have HT2:Hid ((X.T.take (j+1)).foldl (wk1 lp ll) X.T=T1):=by have:=HT1.out.1;rw[ag hp]at this;exact this
     clear hp HT1;go_wp2_with fail;go_roundw
     case rel=>exact⟨j+1,by omega,by go_num,by rw[HT2.out];exact HBk.out _ _ H6.out⟩
     case measure=>simp[intOf];omega
   .have hjl':¬(j:Int)<X.T.length:=by omega
    have HTo:Hid (ShTo SA TA BA f M w (Nh X) a g D wr):=by have:=HWk.out.cx.to;rw[au (by omega),HW.out]at this;exact this
    clear hw HWk;go_wp2_with fail;go_end0
    exact⟨rfl,HTo.out⟩
