import Derived.ProofKit
import Derived.OpenShut
import Derived.Lib.SmallJoins
import Derived.SizedLaws
import Derived.ShutString
import Derived.Deep.Strs
import Derived.Test.YtnfpfbehebcdpaaGreatUbk
import Derived.Test.YtnfpfbehebcdpaaGreatUbe
set_option maxHeartbeats 0
set_option maxRecDepth 99999
set_option linter.all false
namespace Go.Proofs.YtnfpfbehebcdpaaGreat
open Go.RowKit
variable {SA:TyS}{TA:TyT}{BA:TyB}
variable {w W:World}{c n p l:Int}
def DB2:Drm.Dr:=(Lgs.Qm (Drm.Dr.new 200000)).2.2
def open2:Lgs.Qm (Drm.Dr.new 200000)=(0,(((0:Nat):Int),1,enc []),DB2):=by kernel_rfl
def holds2:Lgs.Holds DB2 0 1 (enc []):=⟨by decide,by kernel_rfl,⟨by decide,(λr h=>by cases h),[],[],rfl,by kernel_rfl⟩,by kernel_rfl,λi h1 h2=>by
 rcases(by omega:i=1\/i=2\/i=3)with rfl|rfl|rfl
 all_goals kernel_rfl⟩
def N9.on{v:Value}{L:List Ac}(h:N9 w v L)(hb:Bw w W):N9 W v L:=⟨(RwAt.on h.1 hb).le hb.size,λx hx=>⟨⟨(h.2 x hx).q.ok,(RwAt.on (h.2 x hx).q.ws hb).le hb.size,(RwAt.on (h.2 x hx).q.sk hb).le hb.size⟩,(h.2 x hx).ph,(h.2 x hx).n,(RwAt.on (h.2 x hx).k hb).le hb.size,(h.2 x hx).kb⟩⟩
end Go.Proofs.YtnfpfbehebcdpaaGreat
namespace Go.Proofs.YtnfpfbehebcdpaaGreat
open Go.RowKit
variable {SA:TyS}{TA:TyT}{BA:TyB}
variable {f:Fp}{X:Sd}{a g pb sb bm N:Nat}{D:Drm.Dr}{w w1 W W':World}{Lo:List (Nat×Obj)}{φ m:List Fa}
def kf(x:Fa):Int×Int:=(x.c,x.n)
def vf(x:Fa):Value:=.agg #[uw x.p,ui x.l]
def df:Fa:=⟨0,0,0,0⟩
def Mo(o:Obj)(m:List Fa):Prop:=∃es clock,o=.map es clock/\Ver.Gv.Ek kf vf es.toList m/\(es.toList.map (·.born)).Nodup/\∀e∈es.toList,e.born<clock
def Mo.at{o:Obj}(h:Mo o m)(ho:W.heap[bm]?=some o):Ver.Gv.At kf vf bm m W:=by obtain⟨es,cl,rfl,h⟩:=h;exact⟨es,cl,ho,h⟩
def mo_of(h:Ver.Gv.At kf vf bm m W):∃o,W.heap[bm]?=some o/\Mo o m:=by obtain⟨es,cl,ho,h⟩:=h;exact⟨_,ho,es,cl,rfl,h⟩
def Mo.no5{o:Obj}(h:Mo o m):No5 o:=by obtain⟨es,cl,rfl,h⟩:=h;intro cs fz e;cases e
def Mo.nove{o:Obj}(h:Mo o m)(ho:W.heap[bm]?=some o):Sto.NoVe W bm:=by obtain⟨es,cl,rfl,h⟩:=h;intro off x hx;have:=hx.c0;unfold World.cell? at this;rw[ho]at this;cases this
def run_lookf(h:Ver.Gv.At kf vf bm m W)(c n:Int):(Instr.lookup 66 (.map (some bm)) (.agg #[ui c,ui n]) true).run Tryz.prog W=.ok (.tuple #[vf ((m.find? (Ver.Gv.isK kf (c,n))).getD df),.bool (m.find? (Ver.Gv.isK kf (c,n))).isSome]) W:=by
 show(Instr.lookup 66 (.map (some bm)) (Ver.Gv.kx (c,n)) true).run Tryz.prog W=_;obtain⟨es,cl,h1,h2,_⟩:=h;cases hg:m.find? (Ver.Gv.isK kf (c,n))with
 |none=>
  simp[Instr.lookup,jw Tryz.underlying66,jf h1,Ver.Gv.Em,Ver.Gv.Ej (c,n) h2,Ver.Gv.Vg (i:=0) hg,Result.andThen];rfl
 |some t=>
  obtain⟨j,g1,_⟩:=Ver.Gv.Q7 (i:=0) hg;simp[Instr.lookup,jw Tryz.underlying66,jf h1,Ver.Gv.Em,Ver.Gv.Ej (c,n) h2,g1,Result.andThen]
def run_updf(h:Ver.Gv.At kf vf bm m W)(v:Fa)(hv:∀x∈m,x.c=v.c->x.n=v.n->x.p=v.p/\x.l=v.l):∃w' m',(Instr.mapUpdate 66 (.map (some bm)) (.agg #[ui v.c,ui v.n]) (.agg #[uw v.p,ui v.l])).run Tryz.prog W=.ok () w'/\Ver.Gv.At kf vf bm m' w'/\Kept (λi=>i=bm) W w'/\∀x∈m',x∈v::m:=by
 cases hg:m.find? (Ver.Gv.isK kf (kf v))with
 |none=>
  obtain⟨w',h1,h2,h3,_⟩:=Ver.Gv.ae2 Tryz.underlying66 h v hg;refine⟨w',_,h1,h2,h3,λx hx=>?_⟩;rcases bu.1 hx with hx|hx
  .exact .tail _ hx
  .rw[jy.1 hx];exact .head _
 |some x=>
  obtain⟨w',j,h1,h4,h2,h3,_⟩:=Ver.Gv.ae1 Tryz.underlying66 h v hg;refine⟨w',_,h1,h2,h3,λy hy=>?_⟩;rcases List.mem_or_eq_of_mem_set hy with hy|hy
  .exact .tail _ hy
  .rw[hy];exact .head _
structure Qs(SA:TyS)(TA:TyT)(BA:TyB)(w:World)(pb bm:Nat)(φ m:List Fa)(N:Nat)(f:Fp)(X:Sd)(a g:Nat)(D:Drm.Dr)(o:Obj)(Lo:List (Nat×Obj))(W:World):Prop where
 cx:Cx SA TA BA f (λi=>w.heap.size<=i) w X a g D ((bm,o)::Lo) W
 pe:f.pb=pb
 gd:Gd X
 wt:X.wt<=16*N
 jv:Jv φ N a g 1 X D
 mo:Mo o m
 lc:∀p∈Lo,∃cs ty,p.2=.cells cs ty (0,0)
 bl:w.heap.size<=bm
def Qn(SA:TyS)(TA:TyT)(BA:TyB)(w:World)(pb bm:Nat)(φ m:List Fa)(N sb:Nat)(Lo:List (Nat×Obj))(W:World):Prop:=∃f X a g D o,f.sb=sb/\Qs SA TA BA w pb bm φ m N f X a g D o Lo W
def Qf(SA:TyS)(TA:TyT)(BA:TyB)(w:World)(pb bm:Nat)(φ m:List Fa)(N:Nat)(Lo:List (Nat×Obj))(W:World):Prop:=∃f X a g D o D1 es W1,Qs SA TA BA w pb bm φ m N f X a g D o Lo W1/\Kept (Dk pb W1) W1 W/\Drm.Ak pb D1 W/\D1.Ok/\D1.down=false/\Lgs.Yf D1 (enc es) 1/\EsW N es/\Fo φ (Rep es)
def Jv.sub{φ':List Fa}(J:Jv φ N a g 1 X D)(h:∀x∈φ',x∈φ):Jv φ' N a g 1 X D:=by have F:∀{X:Sd},Fo φ X->Fo φ' X:=λk=>⟨k.b,k.v,k.i,k.k,λx hx=>k.f x (h x hx)⟩;exact⟨F J.mm,J.dr.imp id λk=>⟨k.d,k.ok,λkeep=>(k.es keep).imp λes e=>⟨e.1,e.2.1,F e.2.2⟩⟩⟩
def Qn.on(E:Env SA TA BA)(h:Qn SA TA BA w pb bm φ m N sb Lo W)(hb:Bw W W'):Qn SA TA BA w pb bm φ m N sb Lo W':=by obtain⟨f,X,a,g,D,o,e,h⟩:=h;exact⟨f,X,a,g,D,o,e,h.cx.on E hb,h.pe,h.gd,h.wt,h.jv,h.mo,h.lc,h.bl⟩
def Qn.new(E:Env SA TA BA)(h:Qn SA TA BA w pb bm φ m N sb Lo W)(cs:Array Value)(ty:TypeId)(ht:ty≠5):Qn SA TA BA w pb bm φ m N sb ((W.heap.size,.cells cs ty (0,0))::Lo) (W.alloc (.cells cs ty (0,0))):=by
 obtain⟨f,X,a,g,D,o,e,h⟩:=h;refine⟨f,X,a,g,D,o,e,(h.cx.new E cs ty ht).less λp hp=>?_,h.pe,h.gd,h.wt,h.jv,h.mo,λp hp=>?_,h.bl⟩
 .exact ba7
 .rcases au.1 hp with rfl|hp
  .exact⟨_,_,rfl⟩
  .exact h.lc p hp
def Qn.less{Lo':List (Nat×Obj)}(h:Qn SA TA BA w pb bm φ m N sb Lo W)(hl:∀p∈Lo',p∈Lo):Qn SA TA BA w pb bm φ m N sb Lo' W:=by obtain⟨f,X,a,g,D,o,e,h⟩:=h;exact⟨f,X,a,g,D,o,e,h.cx.less λp hp=>(au.1 hp).elim (λe=>e▸ .head _) λhp=>.tail _ (hl p hp),h.pe,h.gd,h.wt,h.jv,h.mo,λp hp=>h.lc p (hl p hp),h.bl⟩
def Qn.has(h:Qn SA TA BA w pb bm φ m N sb Lo W):Has Lo W:=by obtain⟨f,X,a,g,D,o,e,h⟩:=h;exactλp hp=>h.cx.has p (.tail _ hp)
def Qn.bel(h:Qn SA TA BA w pb bm φ m N sb Lo W):Bw w W:=by obtain⟨f,X,a,g,D,o,e,h⟩:=h;exact h.cx.kp.below (ai _) (λ_ h=>h)
def Qn.up{N':Nat}(h:Qn SA TA BA w pb bm φ m N sb Lo W)(hN:N<=N'):Qn SA TA BA w pb bm φ m N' sb Lo W:=by obtain⟨f,X,a,g,D,o,e,h⟩:=h;exact⟨f,X,a,g,D,o,e,h.cx,h.pe,h.gd,ak h.wt (Nat.mul_le_mul_left _ hN),h.jv.up hN,h.mo,h.lc,h.bl⟩
def Qn.sub{φ':List Fa}(h:Qn SA TA BA w pb bm φ m N sb Lo W)(hs:∀x∈φ',x∈φ):Qn SA TA BA w pb bm φ' m N sb Lo W:=by obtain⟨f,X,a,g,D,o,e,h⟩:=h;exact⟨f,X,a,g,D,o,e,h.cx,h.pe,h.gd,h.wt,h.jv.sub hs,h.mo,h.lc,h.bl⟩
def Qn.look(h:Qn SA TA BA w pb bm φ m N sb Lo W)(c n:Int):(Instr.lookup 66 (.map (some bm)) (.agg #[ui c,ui n]) true).run Tryz.prog W=.ok (.tuple #[vf ((m.find? (Ver.Gv.isK kf (c,n))).getD df),.bool (m.find? (Ver.Gv.isK kf (c,n))).isSome]) W:=by obtain⟨f,X,a,g,D,o,e,h⟩:=h;exact run_lookf (h.mo.at (h.cx.has _ tq0)) c n
def Qn.tell(E:Env SA TA BA)(h:Qn SA TA BA w pb bm φ m N sb Lo W)(v:Fa)(hv:∀x∈m,x.c=v.c->x.n=v.n->x.p=v.p/\x.l=v.l):∃w' m',(Instr.mapUpdate 66 (.map (some bm)) (.agg #[ui v.c,ui v.n]) (.agg #[uw v.p,ui v.l])).run Tryz.prog W=.ok () w'/\(∀x∈m',x∈v::m)/\Qn SA TA BA w pb bm φ m' N sb Lo w':=by obtain⟨f,X,a,g,D,o,e,h⟩:=h;have ho:=h.cx.has _ tq0;obtain⟨w',m',r1,r2,r3,r4⟩:=run_updf (h.mo.at ho) v hv;obtain⟨o',o1,o2⟩:=mo_of r2;refine⟨w',m',r1,r4,f,X,a,g,D,o',e,h.cx.swap E (h.mo.nove ho) (.inr h.bl) r3 o1 o2.no5 (λp hp e=>?_),h.pe,h.gd,h.wt,h.jv,o2,h.lc,h.bl⟩;obtain⟨cs,ty,e2⟩:=h.lc p hp;have h2:=h.cx.has p (.tail _ hp);dsimp only at ho;rw[e,ho,e2]at h2;injection h2 with h2;obtain⟨es,cl,rfl,_⟩:=h.mo;cases h2
def Qn.poke(E:Env SA TA BA){b:Nat}{cs cs':Array Value}{ty:TypeId}(h:Qn SA TA BA w pb bm φ m N sb ((b,.cells cs ty (0,0))::Lo) W)(ht:ty≠5/\ty≠63)(hb:w.heap.size<=b)(hk:Kept (λi=>i=b) W W')(ho:W'.heap[b]?=some (.cells cs' ty (0,0)))(hL:∀p∈Lo,p.1≠b):Qn SA TA BA w pb bm φ m N sb ((b,.cells cs' ty (0,0))::Lo) W':=by
 obtain⟨f,X,a,g,D,o,e,h⟩:=h;have hbo:W.heap[b]?=some (.cells cs ty (0,0)):=h.cx.has (b,.cells cs ty (0,0)) tq1;have hm:W.heap[bm]?=some o:=h.cx.has (bm,o) tq0;have hne:bm≠b:=λe=>by rw[e,hbo]at hm;injection hm with hm;obtain⟨es,cl,rfl,_⟩:=h.mo;cases hm
 have c1:Cx SA TA BA f (λi=>w.heap.size<=i) w X a g D ((b,.cells cs ty (0,0))::(bm,o)::Lo) W:=h.cx.less λp hp=>by
  exact ba7
 have nv:Sto.NoVe W b:=λoff x hx=>by obtain⟨cs2,fz,e⟩:=hx.ty;rw[hbo]at e;injection e with e;injection e with _ e _;exact ht.2 e
 have c2:=c1.swap E nv (.inr hb) hk ho (alp ht.1) (λp hp=>by
  rcases au.1 hp with rfl|hp
  .exact hne
  .exact hL p hp)
 refine⟨f,X,a,g,D,o,e,c2.less λp hp=>?_,h.pe,h.gd,h.wt,h.jv,h.mo,λp hp=>?_,h.bl⟩
 .exact ba7
 .rcases au.1 hp with rfl|hp
  .exact⟨_,_,rfl⟩
  .exact h.lc p (.tail _ hp)
def Qn.ask(E:Env SA TA BA)(h:Qn SA TA BA w pb bm m m N sb Lo W)(hN:N<=500)(ph:Int)(h0:0<=ph)(h1:ph<=18446744073709551615){q:Rq}{wa sa:Option Addr}{wc sc:Nat}(hq:QIn w q wa wc sa sc)(hk:q.k≠5/\q.k≠9)(hs:q.k≠1->q.k≠2->q.sp=stN q.n/\q.sl=0):
  cpr 10 #[pz sb,uw ph,rqV q wa wc sa sc] W λe w'=>∃r ao n cap,e=.returned (rpV r (.slice ao n cap))/\Hid ((r.k=5\/r.k=6->∀x∈m,x.c=q.c->x.n=q.n->x.p=r.ap/\x.l=r.al)/\(r.k=5->(r.ap==0&&r.al==0)=false)/\Qn SA TA BA w pb bm m m (N+3) sb Lo w'/\(r.k=5\/(r.k=6/\q.k≠4)->Qn SA TA BA w pb bm (⟨q.c,q.n,r.ap,r.al⟩::m) m (N+3) sb Lo w')):=by
 obtain⟨f,X,a,g,D,o,rfl,h⟩:=h;refine(ask8 E h.cx (λ_ h=>h) (aj _ _) h.gd (by have:=h.wt;omega) trivial ph h0 h1 hq).mono ?_;rintro e w' ⟨ao,n,cap,rfl,h2,h3,-⟩;have R:=ans_rs (f:=ph) hq.ok h.gd.ok h0 hk hs h.jv;have hw:(Hf ph q X a D).2.1.wt<=16*(N+3):=by have:=h3.w;have:=h.wt;omega
 refine⟨_,ao,n,cap,rfl,R.s,R.nz,⟨f,_,a,g,_,o,rfl,h2,h.pe,h3.g,hw,R.j,h.mo,h.lc,h.bl⟩,λe=>?_⟩;obtain⟨u1,u2⟩:=R.u e;exact⟨f,_,a,g,_,o,rfl,h2,h.pe,h3.g,hw,R.j.more u1 u2,h.mo,h.lc,h.bl⟩
def Qn.fuel(E:Env SA TA BA)(h:Qn SA TA BA w pb bm φ m N sb Lo W)(k:Int)(h0: -9223372036854775808<=k)(h1:k<=9223372036854775807):
  cpr 11 #[pz pb,iw k] W λe w'=>e=.returned (.tuple #[])/\Qn SA TA BA w pb bm φ m N sb Lo w':=by
 obtain⟨f,X,a,g,D,o,rfl,h⟩:=h;obtain⟨M',⟨M1,M2,M3,hc,rfl⟩,h2,h3⟩:=h.cx.sh;have hp:=h.pe;refine(Drm.aza pb D k W (hp▸hc.lg.drum)).mono ?_;rintro e w' ⟨rfl,hd,hk⟩;rw[<-hp]at hd hk;have hlb:w'.heap[f.lb]?=W.heap[f.lb]?:=by
  refine(akg hk).block _ (Lgs.Md.lt hc.lg.blk) ?_;rintro(e|⟨-,cs,fz,e⟩)
  .have:=hc.lg.ne;omega
  .rw[show W.heap[f.lb]?=_ from hc.lg.blk]at e;injection e with e;injection e with _ e _;exact absurd e (by decide)
 have lg':Lgs.LgAt f.lb f.pb a g {D with fuel:=k} w':=⟨hlb.trans hc.lg.blk,hd,hc.lg.ne⟩;have hto:=to_l E hc lg' (hc.ok.Yz k h0 h1) ((akg hk).mono λk e=>.inr e);refine⟨rfl,f,X,a,g,_,o,rfl,h.cx.next h2 h3 hto,hp,h.gd,h.wt,⟨h.jv.mm,?_⟩,h.mo,h.lc,h.bl⟩;rcases h.jv.dr with k1|k1
 .obtain⟨es,e1,e2⟩:=k1.es;exact .inl ⟨k1.d,k1.ok.Yz k h0 h1,k1.le,es,ahy e1 k,e2⟩
 .exact .inr ⟨k1.d,k1.ok.Yz k h0 h1,k1.es⟩
def Qn.fall(h:Qn SA TA BA w pb bm φ m N sb Lo W){kv:Value}{keep:List Int}(hK:Drm.Ru pb kv keep W)(hk0:∀i,-9223372036854775808<=keep.getD i 0/\keep.getD i 0<=9223372036854775807)(hkl:keep.length<=9223372036854775807):
  cpr 12 #[pz pb,kv] W λe w'=>e=.returned (.tuple #[])/\Qf SA TA BA w pb bm φ m N Lo w':=by
 obtain⟨f,X,a,g,D,o,rfl,h⟩:=h;obtain⟨M',⟨M1,M2,M3,hc,rfl⟩,h2,h3⟩:=h.cx.sh;have hp:=h.pe;refine(Drm.azb pb D kv keep W (hp▸hc.lg.drum) hc.ok hK hk0 hkl).mono ?_;rintro e w' ⟨rfl,hd,hk⟩;obtain⟨es,e1,e2,e3⟩:∃es,Lgs.Yf (D.fall keep) (enc es) 1/\EsW N es/\Fo φ (Rep es):=by
  rcases h.jv.dr with k|k
  .obtain⟨es,k1,k2,k3⟩:=k.es;exact⟨es,Lgs.Yc k1 k.ok k.le keep,k3,h.jv.mm.rl k2.symm⟩
  .exact k.es keep
 exact⟨rfl,f,X,a,g,D,o,_,es,W,h,akg hk,hd,hc.ok.fall keep,rfl,e1,e2,e3⟩
def Qf.open(E:Env SA TA BA)(h:Qf SA TA BA w pb bm φ m N Lo W)(hN:N<=500):
  cpr 8 #[pz pb] W λe w'=>∃sb,e=.returned (.tuple #[pz sb,iw 0])/\Hid (Qn SA TA BA w pb bm φ m N sb Lo w'):=by
 obtain⟨f,X,a,g,D,o,D1,es,W1,h,hk,hd,hO,hdn,⟨a',g',hg,D',o1,o2,o3,-⟩,he,hF⟩:=h;have hl:=he.len;have hO':D'.Ok:=by have:=abv hO;rw[o1]at this;exact this
 refine(ao5 E hd hO hdn o1 hO' (λe h=>⟨he.wr e h,he.ok e h⟩) (by omega)).mono ?_;rintro e w' ⟨f2,M2,rfl,H⟩;obtain⟨k1,k2,k3,k4,k5,k6⟩:=H.out;have hk':Kept (Dk f.pb W1) W1 w':=by rw[h.pe];exact aq8 hk k3
 refine⟨_,rfl,f2,_,a',g',D',o,rfl,h.cx.re k1 hk' (λi hi=>?_),k2,k5,by omega,wake_jv he hF o3 hO' hg o2,h.mo,h.lc,h.bl⟩;rw[h.pe];rcases k4 i hi with e|e
 .exact Dk.back hk e
 .exact .inr (ak hk.size e)
def Qn.items(E:Env SA TA BA)(h:Qn SA TA BA w pb bm φ m N sb Lo W)(hN:N<=500):
  cpr 16 #[pz sb] W λe w'=>∃(S:Sto.Sk) (ao:Option Addr) (cap:Nat),e=.returned (.slice ao S.length cap)/\S.length<9223372036854775808/\Hid ((∃L,Sto.ItAt (.slice ao S.length cap) L S w')/\(∀x∈S,∀u∈x.2,∀y∈φ,y.c=u.c->y.n=u.n->y.p=u.p/\y.l=u.l)/\Bw W w'):=by
 obtain⟨f,X,a,g,D,o,rfl,h⟩:=h;obtain⟨M',hS,-⟩:=h.cx.sh;refine(auq E hS (by have:=h.wt;omega)).mono ?_;rintro e w' ⟨v,rfl,h1,h2⟩;obtain⟨L,h3⟩:=h1.r;have hl:=h3.2.len;obtain⟨ao,cap,rfl,-,k1,k2,-⟩:=h3.1;rw[hl]at*;refine⟨X.S,ao,cap,rfl,by omega,⟨L,h3⟩,λx hx u hu y hy e1 e2=>?_,h2⟩;obtain⟨d,d1,d2,d3,-⟩:=h.jv.mm.v x hx u hu;rcases h.jv.mm.f y hy with⟨d',f1,f2,f3⟩|⟨-,-,f3,-⟩
 .rw[e1,e2,d1]at f1;injection f1 with f1;subst f1;exact⟨f2.symm.trans d2,f3.symm.trans d3⟩
 .rw[e1,e2,d1]at f3;cases f3
def fates_open(E:Env SA TA BA)(hd:Drm.Ak w.heap.size (Drm.Dr.new 200000) W)(hb:Bw w W):
  cpr 8 #[pz w.heap.size] W λe w'=>∃sb,e=.returned (.tuple #[pz sb,iw 0])/\Hid (Bw w w'/\∀W,Bw w' W->Qn SA TA BA w w.heap.size W.heap.size [] [] 0 sb [] (W.alloc (.map #[] 0))):=by
 have hO:=Drm.Dr.Ok.new 200000 (by decide) (by decide);have hO':DB2.Ok:=abv hO;refine(ao5 E hd hO rfl open2 hO' (es:=[]) (λe h=>by cases h) (by decide)).mono ?_;rintro e w' ⟨f,M,rfl,H⟩;obtain⟨k1,k2,k3,k4,k5,k6⟩:=H.out;have ge:∀i,Dk w.heap.size W i\/W.heap.size<=i->w.heap.size<=i:=λi hi=>by have:=hb.size;rcases hi with(e|⟨e,-⟩)|e<;>omega
 have hb2:Bw w w':=hb.trans (k3.below hb.size λk hk=>ge k (.inl hk));have cx:Cx SA TA BA f (λi=>w.heap.size<=i) w (Nh (Rep [])) 0 1 DB2 [] w':=⟨⟨M,k1,λi hi=>.inl (ge i (k4 i hi)),(λp hp=>by cases hp)⟩,Kept.Xa hb2,(λp hp=>by cases hp)⟩;refine⟨_,rfl,hb2,λW2 hW2=>?_⟩;have m0:Fo [] (Rep []):=⟨tq,(λx hx=>by cases hx),(λx hx=>by cases hx),(λx hx=>by cases hx),(λx hx=>by cases hx)⟩;have bs:=(hb2.trans (hW2.mono hb2.size)).size;exact⟨f,_,0,1,DB2,.map #[] 0,rfl,(cx.on E hW2).grow1 E (al _) (ai _) (ae W2 _) (λcs fz e=>by cases e),k2,k5,k6,wake_jv (es:=[]) ⟨(λe h=>by cases h),(λe h=>by cases h),ai _⟩ m0 (by kernel_rfl) hO' (ai _) holds2,⟨#[],0,rfl,rfl,by simp,by simp⟩,(λp hp=>by cases hp),bs⟩
end Go.Proofs.YtnfpfbehebcdpaaGreat
namespace Go.Proofs.YtnfpfbehebcdpaaGreat
open Go.RowKit
variable {SA:TyS}{TA:TyT}{BA:TyB}
variable {w W:World}
abbrev c17(x:Ac):Array Value:=#[iw x.what,iw x.n,uw x.ph,iw x.q.k,ui x.q.c,ui x.q.n,uw x.q.sp,ui x.q.sl,uw x.q.ap,ui x.q.al,sd x.q.key,sd x.q.hi,iw x.q.lim,ub x.q.pt,.slice x.wa x.q.ws.length x.wc,.slice x.sa x.q.sk.length x.sc,.slice x.ka x.ks.length x.kc]
abbrev q13(x:Ac)(sp sl:Int):Array Value:=#[iw x.q.k,ui x.q.c,ui x.q.n,uw sp,ui sl,uw x.q.ap,ui x.q.al,sd x.q.key,sd x.q.hi,iw x.q.lim,ub x.q.pt,.slice x.wa x.q.ws.length x.wc,.slice x.sa x.q.sk.length x.sc]
def eqb_same(p l:Int):Clk.eqB p l p l=true:=by simp[Clk.eqB]
def st_rem{n:Int}(h:Ver.R32 n):n.tmod 50=n%50/\0<=n%50/\n%50<50:=by have h0:0<=n:=h.1;refine⟨Int.tmod_eq_emod_of_nonneg h0,by omega,by omega⟩
def fates4(E:Env SA TA BA){A:List Ac}{aa:Option Addr}{ca:Nat}(hA:N9 w (.slice aa A.length ca) A):
  cpr 4 #[.slice aa A.length ca] w λe w'=>e=.returned (.bool true)/\Bw w w':=by
 have CA:Hid (∀W:World,1=1->_):=λW _=>azo E W;have CS:Hid (∀W:World,Bw w W->cpr 9 #[.slice aa A.length ca] W λe w'=>AnyB e/\Bw W w'):=λW hb=>an5 (hA.on hb);have CN:Hid (∀W:World,1=1->_):=λW _=>Drm.Yi 200000 W (by decide) (by decide);have CO:Hid (∀w W:World,Drm.Ak w.heap.size (Drm.Dr.new 200000) W->Bw w W->cpr 8 #[pz w.heap.size] W λe w'=>∃sb,e=.returned (.tuple #[pz sb,iw 0])/\Hid (Bw w w'/\∀W,Bw w' W->Qn SA TA BA w w.heap.size W.heap.size [] [] 0 sb [] (W.alloc (.map #[] 0)))):=λw W hd hb=>fates_open E hd hb;have HX:Hid (N9 w (.slice aa A.length ca) A):=hA;have HE:Hid (Env SA TA BA):=E;have hA63:A.length<9223372036854775808:=by obtain⟨_,_,e,_,h1,h2,_⟩:=hA.1;injection e with _ _ e;omega
 clear E hA;go_enter Tryz.func4,Tryz.ntmps4;go_wp2_with fail;refine(CA.out _ (by trivial)).mono ?_;rintro e W1 ⟨rfl,hb1⟩;have H1:Hid (Bw w W1):=hb1;have HX1:Hid (N9 W1 (.slice aa A.length ca) A):=HX.out.on hb1;clear hb1 CA;go_wp2_with fail;refine(CN.out _ (by trivial)).mono ?_;rintro e W2 ⟨rfl,hd,hb2⟩;have HD:Hid (Drm.Ak W1.heap.size (Drm.Dr.new 200000) W2/\Bw W1 W2):=⟨hd,hb2⟩;clear hd hb2 CN;go_wp2_with fail;refine(CO.out W1 W2 HD.out.1 HD.out.2).mono ?_;rintro e W3 ⟨sb,rfl,H3⟩;obtain⟨pb,hpb⟩:=xj W1.heap.size;have H4:Hid (Bw W1 W3/\∀W,Bw W3 W->Qn SA TA BA W1 pb W.heap.size [] [] 0 sb [] (W.alloc (.map #[] 0))):=by rw[<-hpb];exact H3
 have HPB:Hid (W1.heap.size=pb):=hpb;clear HD CO H3;go_wp2_with fail;refine(CS.out _ (H1.out.trans (H4.out.1.mono H1.out.size))).mono ?_;rintro e W4 ⟨⟨r4,rfl⟩,hb4⟩;have HB4:Hid (Bw W3 W4):=hb4;clear hb4 CS;cases r4
 .go_wp2_with fail;go_ret;exact⟨rfl,(H1.out.trans (H4.out.1.mono H1.out.size)).trans (HB4.out.mono (H1.out.trans (H4.out.1.mono H1.out.size)).size)⟩
 have hmm:=@run_makeMap Tryz.prog;go_upto_region 8 with fail
 obtain⟨W5,hW5⟩:=xj (W4.alloc (.map #[] 0));obtain⟨bm,hbm⟩:=xj W4.heap.size;have H5:Hid (Qn SA TA BA W1 pb bm [] [] 0 sb [] W5):=by rw[<-hW5,<-hbm];exact H4.out.2 W4 HB4.out
 (try rw[hW5,hbm])
 clear hW5 hbm H4 HB4 hmm;have HR:Hid (∀{bm N sb:Nat} {φ m:List Fa} {Lo:List (Nat×Obj)} {W:World},Qn SA TA BA W1 pb bm φ m N sb Lo W->Bw w W):=λh=>H1.out.trans (h.bel.mono H1.out.size);go_upto_block 0 with fail
 go_cut [5] (λs5 wc=>∃(sb:Nat) (m:List Fa),s5=.pointer (some ⟨sb,0,none⟩)/\Qn SA TA BA W1 pb bm m m 180 sb [] wc)
 case first=>
  as_aux_lemma=>
  go_wp2_with fail;go_loopw [5,43] (λs5 i wr=>∃(j sb:Nat) (m:List Fa),j<=A.length/\j<=60/\i=iw j/\s5=.pointer (some ⟨sb,0,none⟩)/\Qn SA TA BA W1 pb bm m m (3*j) sb [] wr) (λ_ i _=>A.length-(intOf i).toNat)
  case atStart=>exact⟨0,sb,[],by omega,by omega,rfl,rfl,H5.out⟩
  case round=>
   clear H5;obtain⟨j,sb,m,hj,hj60,rfl,rfl,hw⟩:=hrel;have HP:Hid (Qn SA TA BA W1 pb bm m m (3*j) sb [] wr):=hw;clear hw;by_cases hjl:j<A.length
   .have hjl':(j:Int)<A.length:=by omega
    obtain⟨b,off,rfl,hat,hok⟩:=HX1.out.el HP.out.bel hjl;generalize A.getD j dac=x at*;have HOK:Hid (AcOk W1 x):=hok;obtain⟨e0,e1,e2,e3,e4,e5,e6,e7,e8,e9,e10,e11,e12,e13,e14,e15,e16⟩:=hat.all;clear hat hok;go_upto_region 11 with fail
    obtain⟨W5,hW5⟩:=xj (wr.alloc (.cells (c17 x) 45));obtain⟨b5,hb5⟩:=xj wr.heap.size;have H5:Hid (Qn SA TA BA W1 pb bm m m (3*j) sb [(b5,.cells (c17 x) 45 (0,0))] W5):=by rw[<-hW5,<-hb5];exact HP.out.new HE.out _ 45 (by decide)
    (try rw[hW5,hb5])
    clear e0 e1 e2 e3 e4 e5 e6 e7 e8 e9 e10 e11 e12 e13 e14 e15 e16 hW5 hb5 HP;have h5:=H5.out.has;have n0:ce W5 b5 0 (iw x.what):=h5.cell tq0 rfl;by_cases h60:j=60
    .subst h60;clear h5;go_wp2_with fail;go_meet;exact⟨sb,m,rfl,H5.out.less λp hp=>by cases hp⟩
    .have h61:((j:Int)==60)=false:=by rw[jb];omega
     by_cases hw0:x.what=0
     .as_aux_lemma=>
      rw[hw0]at n0;have n3:ce W5 b5 3 (iw x.q.k):=h5.cell tq0 rfl;have n4:ce W5 b5 4 (ui x.q.c):=h5.cell tq0 rfl;have n5:ce W5 b5 5 (ui x.q.n):=h5.cell tq0 rfl;have n6:ce W5 b5 6 (uw x.q.sp):=h5.cell tq0 rfl;have n7:ce W5 b5 7 (ui x.q.sl):=h5.cell tq0 rfl;have n8:ce W5 b5 8 (uw x.q.ap):=h5.cell tq0 rfl;have n9:ce W5 b5 9 (ui x.q.al):=h5.cell tq0 rfl;have n10:ce W5 b5 10 (sd x.q.key):=h5.cell tq0 rfl;have n11:ce W5 b5 11 (sd x.q.hi):=h5.cell tq0 rfl;have n12:ce W5 b5 12 (iw x.q.lim):=h5.cell tq0 rfl;have n13:ce W5 b5 13 (ub x.q.pt):=h5.cell tq0 rfl;have n14:ce W5 b5 14 (.slice x.wa x.q.ws.length x.wc):=h5.cell tq0 rfl;have n15:ce W5 b5 15 (.slice x.sa x.q.sk.length x.sc):=h5.cell tq0 rfl;clear h5;go_upto_region 15 with fail
      obtain⟨W6,hW6⟩:=xj (W5.alloc (.cells (q13 x x.q.sp x.q.sl) 42));obtain⟨b6,hb6⟩:=xj W5.heap.size;have H6:Hid (Qn SA TA BA W1 pb bm m m (3*j) sb [(b6,.cells (q13 x x.q.sp x.q.sl) 42 (0,0)),(b5,.cells (c17 x) 45 (0,0))] W6/\b5≠b6/\W1.heap.size<=b6):=by rw[<-hW6,<-hb6];refine⟨H5.out.new HE.out _ 42 (by decide),?_,H5.out.bel.size⟩;have:=H5.out.has.lt _ tq0;dsimp only at this;omega
      (try rw[hW6,hb6])
      clear n0 n3 n4 n5 n6 n7 n8 n9 n10 n11 n12 n13 n14 n15 hW6 hb6 H5;have h6:=H6.out.1.has;have n0:ce W6 b6 0 (iw x.q.k):=h6.cell tq0 rfl;have n2:ce W6 b6 2 (ui x.q.n):=h6.cell tq0 rfl;have n3:ce W6 b6 3 (uw x.q.sp):=h6.cell tq0 rfl;have n4:ce W6 b6 4 (ui x.q.sl):=h6.cell tq0 rfl;have z3:W6.frozen? ⟨b6,3,none⟩=false:=Sto.Ad (h6 _ tq0) 3;have z4:W6.frozen? ⟨b6,4,none⟩=false:=Sto.Ad (h6 _ tq0) 4;clear h6;by_cases k9:x.q.k=9
      .rw[k9]at n0;exact bam
      by_cases k5:x.q.k=5
      .rw[k5]at n0;exact bam
      have k9':(x.q.k==9)=false:=by rw[jb];exact k9
      have k5':(x.q.k==5)=false:=by rw[jb];exact k5
      have HKK:Hid (x.q.k≠5/\x.q.k≠9):=⟨k5,k9⟩;clear k9 k5;go_upto_region 16 with fail
      go_cut [71] (λs wc=>∃bq:Bool,s=.bool bq/\Hid ((x.q.k != 1&&x.q.k != 2)=bq)/\wc=W6)
      case first=>
       by_cases k1:x.q.k=1
       .rw[k1]at n0;go_wp2_with fail;go_meet;exact⟨false,rfl,(by show _=_;rw[k1];rfl),rfl⟩
       have k1':(x.q.k==1)=false:=by rw[jb];exact k1
       by_cases k2:x.q.k=2
       .rw[k2]at n0;go_wp2_with fail;go_meet;exact⟨false,rfl,(by show _=_;rw[k2];rfl),rfl⟩
       have k2':(x.q.k==2)=false:=by rw[jb];exact k2
       go_wp2_with fail;go_meet;exact⟨_,rfl,rfl,rfl⟩
      case rest=>
      obtain⟨bq,rfl,HBQ,rfl⟩:=hcut;go_upto_if 71 with fail
      go_cut [] (λwc=>∃sp sl:Int,Hid ((x.q.k≠1->x.q.k≠2->sp=stN x.q.n/\sl=0)/\Ts sp sl/\Qn SA TA BA W1 pb bm m m (3*j) sb [(b6,.cells (q13 x sp sl) 42 (0,0)),(b5,.cells (c17 x) 45 (0,0))] wc))
      case first=>
       cases bq
       .go_wp2_with fail;go_meet;exact⟨x.q.sp,x.q.sl,λh1 h2=>(by have:=HBQ.out;simp[h1,h2]at this),HOK.out.q.ok.s,H6.out.1⟩
       have HN:Hid (Ver.R32 x.q.n):=HOK.out.q.ok.c.2;obtain⟨r1,r2,r3⟩:=st_rem HN.out;have H7:Hid (Qn SA TA BA W1 pb bm m m (3*j) sb [(b6,.cells (q13 x (x.q.n%50+3) 0) 42 (0,0)),(b5,.cells (c17 x) 45 (0,0))] ((wc.setCell ⟨b6,3,none⟩ (uw (x.q.n%50+3))).setCell ⟨b6,4,none⟩ (ui 0))):=by have hb:wc.heap[b6]?=some (.cells (q13 x x.q.sp x.q.sl) 42 (0,0)):=H6.out.1.has _ tq0;refine H6.out.1.poke HE.out (by decide) H6.out.2.2 ((Sto.Ai wc b6 3 _).trans (Sto.Ai _ b6 4 _) (λi e=>.inl e)) (Sto.Af _ (Sto.Af _ hb)) (λp hp=>?_);rw[jy.1 hp];exact H6.out.2.1
       go_wp2_with fail;go_meet;exact⟨stN x.q.n,0,λ_ _=>⟨rfl,rfl⟩,⟨⟨by unfold stN;omega,by unfold stN;omega⟩,by decide,by decide⟩,H7.out⟩
      case rest=>
      obtain⟨sp,sl,h7⟩:=hcut;have H7:Hid ((x.q.k≠1->x.q.k≠2->sp=stN x.q.n/\sl=0)/\Ts sp sl/\Qn SA TA BA W1 pb bm m m (3*j) sb [(b6,.cells (q13 x sp sl) 42 (0,0)),(b5,.cells (c17 x) 45 (0,0))] wc):=h7;clear h7 HBQ H6 n0 n2 n3 n4 z3 z4 k9' k5';have h7:=H7.out.2.2.has;have n2:ce wc b5 2 (uw x.ph):=h7.cell tq1 rfl;have q0:ce wc b6 0 (iw x.q.k):=h7.cell tq0 rfl;have q1:ce wc b6 1 (ui x.q.c):=h7.cell tq0 rfl;have q2:ce wc b6 2 (ui x.q.n):=h7.cell tq0 rfl;have q3:ce wc b6 3 (uw sp):=h7.cell tq0 rfl;have q4:ce wc b6 4 (ui sl):=h7.cell tq0 rfl;have q5:ce wc b6 5 (uw x.q.ap):=h7.cell tq0 rfl;have q6:ce wc b6 6 (ui x.q.al):=h7.cell tq0 rfl;have q7:ce wc b6 7 (sd x.q.key):=h7.cell tq0 rfl;have q8:ce wc b6 8 (sd x.q.hi):=h7.cell tq0 rfl;have q9:ce wc b6 9 (iw x.q.lim):=h7.cell tq0 rfl;have q10:ce wc b6 10 (ub x.q.pt):=h7.cell tq0 rfl;have q11:ce wc b6 11 (.slice x.wa x.q.ws.length x.wc):=h7.cell tq0 rfl;have q12:ce wc b6 12 (.slice x.sa x.q.sk.length x.sc):=h7.cell tq0 rfl;have CH:Hid (1=1->cpr 10 #[pz sb,uw x.ph,.agg (q13 x sp sl)] wc λe w'=>∃(r:Rp) (ao:Option Addr) (nn cap:Nat),e=.returned (.agg (rpD r ao nn cap))/\Hid ((r.k=5\/r.k=6->∀y∈m,y.c=x.q.c->y.n=x.q.n->y.p=r.ap/\y.l=r.al)/\(r.k=5->(r.ap==0&&r.al==0)=false)/\Qn SA TA BA W1 pb bm m m (3*j+3) sb [(b6,.cells (q13 x sp sl) 42 (0,0)),(b5,.cells (c17 x) 45 (0,0))] w'/\(r.k=5\/(r.k=6/\x.q.k≠4)->Qn SA TA BA W1 pb bm (⟨x.q.c,x.q.n,r.ap,r.al⟩::m) m (3*j+3) sb [(b6,.cells (q13 x sp sl) 42 (0,0)),(b5,.cells (c17 x) 45 (0,0))] w'))):=λ_=>H7.out.2.2.ask HE.out (by omega) x.ph HOK.out.ph.1 HOK.out.ph.2 (q:={x.q with sp:=sp,sl:=sl}) ⟨⟨HOK.out.q.ok.c,H7.out.2.1,HOK.out.q.ok.a,HOK.out.q.ok.p⟩,HOK.out.q.ws,HOK.out.q.sk⟩ HKK.out H7.out.1;clear h7;go_wp2_with fail;refine(CH.out (by trivial)).mono ?_;rintro e w8 ⟨r,ao,nn,cap,rfl,H8⟩;clear CH n2 q0 q1 q2 q3 q4 q5 q6 q7 q8 q9 q10 q11 q12 H7;go_upto_region 19 with fail
      obtain⟨W9,hW9⟩:=xj (w8.alloc (.cells (rpD r ao nn cap) 48));obtain⟨b8,hb8⟩:=xj w8.heap.size;have H9:Hid ((r.k=5\/r.k=6->∀y∈m,y.c=x.q.c->y.n=x.q.n->y.p=r.ap/\y.l=r.al)/\(r.k=5->(r.ap==0&&r.al==0)=false)/\Qn SA TA BA W1 pb bm m m (3*j+3) sb [(b8,.cells (rpD r ao nn cap) 48 (0,0)),(b6,.cells (q13 x sp sl) 42 (0,0)),(b5,.cells (c17 x) 45 (0,0))] W9/\(r.k=5\/(r.k=6/\x.q.k≠4)->Qn SA TA BA W1 pb bm (⟨x.q.c,x.q.n,r.ap,r.al⟩::m) m (3*j+3) sb [(b8,.cells (rpD r ao nn cap) 48 (0,0)),(b6,.cells (q13 x sp sl) 42 (0,0)),(b5,.cells (c17 x) 45 (0,0))] W9)):=by rw[<-hW9,<-hb8];exact⟨H8.out.1,H8.out.2.1,H8.out.2.2.1.new HE.out _ 48 (by decide),λe=>(H8.out.2.2.2 e).new HE.out _ 48 (by decide)⟩
      (try rw[hW9,hb8])
      clear hW9 hb8 H8;have h9:=H9.out.2.2.1.has;have z0:ce W9 b8 0 (iw r.k):=h9.cell tq0 rfl;have hl:=H9.out.2.2.1.look x.q.c x.q.n;obtain⟨fv,hfv⟩:=xj ((m.find? (Ver.Gv.isK kf (x.q.c,x.q.n))).getD df);obtain⟨fb,hfb⟩:=xj (m.find? (Ver.Gv.isK kf (x.q.c,x.q.n))).isSome;have HF:Hid (fb=true->fv∈m/\fv.c=x.q.c/\fv.n=x.q.n):=λe=>by rw[e]at hfb;obtain⟨y,hy⟩:=Option.isSome_iff_exists.1 hfb;rw[hy]at hfv;have h2:=List.find?_some hy;simp only[Ver.Gv.isK,kf,jc,ny]at h2;rw[<-hfv];exact⟨List.mem_of_find?_eq_some hy,h2⟩
      rw[hfv,hfb]at hl;clear hfv hfb;have HQ:Hid (∀{φ m':List Fa} {N:Nat} {Lo:List (Nat×Obj)} {W:World},Qn SA TA BA W1 pb bm φ m' N sb Lo W->N<=3*j+3->Qn SA TA BA W1 pb bm φ m' (3*(j+1)) sb [] W):=λh hN=>(h.less λp hp=>by cases hp).up (by omega);by_cases h5:r.k=5
      .as_aux_lemma=>
       rw[h5]at z0;have y1:ce W9 b6 1 (ui x.q.c):=h9.cell tq1 rfl;have y2:ce W9 b6 2 (ui x.q.n):=h9.cell tq1 rfl;clear h9;have hl1:(Instr.lookup 66 (.map (some bm)) (.agg #[ui x.q.c,ui x.q.n]) true).run Tryz.prog W9=.ok (.tuple #[.agg #[uw fv.p,ui fv.l],.bool fb]) W9:=hl;clear hl;go_upto_region 21 with fail
       obtain⟨W10,hW10⟩:=xj (W9.alloc (.cells #[uw fv.p,ui fv.l] 38));obtain⟨b10,hb10⟩:=xj W9.heap.size;have H10:Hid (Qn SA TA BA W1 pb bm m m (3*j+3) sb [(b10,.cells #[uw fv.p,ui fv.l] 38 (0,0)),(b8,.cells (rpD r ao nn cap) 48 (0,0)),(b6,.cells (q13 x sp sl) 42 (0,0)),(b5,.cells (c17 x) 45 (0,0))] W10/\(r.k=5\/(r.k=6/\x.q.k≠4)->Qn SA TA BA W1 pb bm (⟨x.q.c,x.q.n,r.ap,r.al⟩::m) m (3*j+3) sb [(b10,.cells #[uw fv.p,ui fv.l] 38 (0,0)),(b8,.cells (rpD r ao nn cap) 48 (0,0)),(b6,.cells (q13 x sp sl) 42 (0,0)),(b5,.cells (c17 x) 45 (0,0))] W10)):=by rw[<-hW10,<-hb10];exact⟨H9.out.2.2.1.new HE.out _ 38 (by decide),λe=>(H9.out.2.2.2 e).new HE.out _ 38 (by decide)⟩
       have HK:Hid ((∀y∈m,y.c=x.q.c->y.n=x.q.n->y.p=r.ap/\y.l=r.al)/\(r.k=5->(r.ap==0&&r.al==0)=false)):=⟨H9.out.1 (.inl h5),H9.out.2.1⟩;(try rw[hW10,hb10])
       clear hW10 hb10 hl1 H9 z0 y1 y2;have h10:=H10.out.1.has;have z0:ce W10 b8 0 (iw 5):=by rw[<-h5];exact h10.cell tq1 rfl
       have z9:ce W10 b8 9 (uw r.ap):=h10.cell tq1 rfl;have z10:ce W10 b8 10 (ui r.al):=h10.cell tq1 rfl;have y0:ce W10 b6 0 (iw x.q.k):=h10.cell tq2 rfl;have y1:ce W10 b6 1 (ui x.q.c):=h10.cell tq2 rfl;have y2:ce W10 b6 2 (ui x.q.n):=h10.cell tq2 rfl;have x0:ce W10 b10 0 (uw fv.p):=h10.cell tq0 rfl;have x1:ce W10 b10 1 (ui fv.l):=h10.cell tq0 rfl;clear h10;have hz:∀W:World,(binOp .eql 38 (.agg #[uw r.ap,ui r.al]) (.agg #[uw 0,ui 0])).run Tryz.prog W=.ok (.bool (r.ap==0&&r.al==0)) W:=λW=>Clk.ak7 r.ap r.al 0 0 W;have hne:∀W:World,(binOp .neq 38 (.agg #[uw r.ap,ui r.al]) (.agg #[uw r.ap,ui r.al])).run Tryz.prog W=.ok (.bool false) W:=λW=>by rw[Clk.ak5,eqb_same];rfl
       have HV:Hid (fb=true->fv.p=r.ap/\fv.l=r.al):=λe=>HK.out.1 fv (HF.out e).1 (HF.out e).2.1 (HF.out e).2.2;go_cut [117] (λs wc=>s=.bool false/\wc=W10)
       case first=>
        have hz0:=HK.out.2 h5;rw[hz0]at hz;exact bbb
       case rest=>
       obtain⟨rfl,rfl⟩:=hcut;clear x0 x1 hz hne HV HF;obtain⟨w11,m',hu,hs,h11⟩:=(H10.out.2 (.inl h5)).tell HE.out ⟨x.q.c,x.q.n,r.ap,r.al⟩ HK.out.1;exact ayu
      have h5':(r.k==5)=false:=by rw[jb];exact h5
      by_cases h6:r.k=6
      .as_aux_lemma=>
       rw[h6]at z0;have y1:ce W9 b6 1 (ui x.q.c):=h9.cell tq1 rfl;have y2:ce W9 b6 2 (ui x.q.n):=h9.cell tq1 rfl;clear h9;have hl1:(Instr.lookup 66 (.map (some bm)) (.agg #[ui x.q.c,ui x.q.n]) true).run Tryz.prog W9=.ok (.tuple #[.agg #[uw fv.p,ui fv.l],.bool fb]) W9:=hl;clear hl;go_upto_region 21 with fail
       obtain⟨W10,hW10⟩:=xj (W9.alloc (.cells #[uw fv.p,ui fv.l] 38));obtain⟨b10,hb10⟩:=xj W9.heap.size;have H10:Hid (Qn SA TA BA W1 pb bm m m (3*j+3) sb [(b10,.cells #[uw fv.p,ui fv.l] 38 (0,0)),(b8,.cells (rpD r ao nn cap) 48 (0,0)),(b6,.cells (q13 x sp sl) 42 (0,0)),(b5,.cells (c17 x) 45 (0,0))] W10/\(r.k=5\/(r.k=6/\x.q.k≠4)->Qn SA TA BA W1 pb bm (⟨x.q.c,x.q.n,r.ap,r.al⟩::m) m (3*j+3) sb [(b10,.cells #[uw fv.p,ui fv.l] 38 (0,0)),(b8,.cells (rpD r ao nn cap) 48 (0,0)),(b6,.cells (q13 x sp sl) 42 (0,0)),(b5,.cells (c17 x) 45 (0,0))] W10)):=by rw[<-hW10,<-hb10];exact⟨H9.out.2.2.1.new HE.out _ 38 (by decide),λe=>(H9.out.2.2.2 e).new HE.out _ 38 (by decide)⟩
       have HK:Hid ((∀y∈m,y.c=x.q.c->y.n=x.q.n->y.p=r.ap/\y.l=r.al)/\(r.k=5->(r.ap==0&&r.al==0)=false)):=⟨H9.out.1 (.inr h6),H9.out.2.1⟩;(try rw[hW10,hb10])
       clear hW10 hb10 hl1 H9 z0 y1 y2;have h10:=H10.out.1.has;have z0:ce W10 b8 0 (iw 6):=by rw[<-h6];exact h10.cell tq1 rfl
       have z9:ce W10 b8 9 (uw r.ap):=h10.cell tq1 rfl;have z10:ce W10 b8 10 (ui r.al):=h10.cell tq1 rfl;have y0:ce W10 b6 0 (iw x.q.k):=h10.cell tq2 rfl;have y1:ce W10 b6 1 (ui x.q.c):=h10.cell tq2 rfl;have y2:ce W10 b6 2 (ui x.q.n):=h10.cell tq2 rfl;have x0:ce W10 b10 0 (uw fv.p):=h10.cell tq0 rfl;have x1:ce W10 b10 1 (ui fv.l):=h10.cell tq0 rfl;clear h10;have hz:∀W:World,(binOp .eql 38 (.agg #[uw r.ap,ui r.al]) (.agg #[uw 0,ui 0])).run Tryz.prog W=.ok (.bool (r.ap==0&&r.al==0)) W:=λW=>Clk.ak7 r.ap r.al 0 0 W;have hne:∀W:World,(binOp .neq 38 (.agg #[uw r.ap,ui r.al]) (.agg #[uw r.ap,ui r.al])).run Tryz.prog W=.ok (.bool false) W:=λW=>by rw[Clk.ak5,eqb_same];rfl
       have HV:Hid (fb=true->fv.p=r.ap/\fv.l=r.al):=λe=>HK.out.1 fv (HF.out e).1 (HF.out e).2.1 (HF.out e).2.2;go_cut [117] (λs wc=>s=.bool false/\wc=W10)
       case first=>
        have hz0:=hne;exact bbb
       case rest=>
       obtain⟨rfl,rfl⟩:=hcut;clear x0 x1 hz hne HV HF;by_cases q4:x.q.k=4
       .rw[q4]at y0;go_wp2_with fail;go_roundw
        case rel=>exact⟨j+1,sb,m,by omega,by omega,by go_num,rfl,HQ.out H10.out.1 (by omega)⟩
        case measure=>simp[intOf];omega
       have q4':(x.q.k==4)=false:=by rw[jb];exact q4
       have q4n:(x.q.k != 4)=true:=by rw[bne,q4'];rfl
       obtain⟨w11,m',hu,hs,h11⟩:=(H10.out.2 (.inr ⟨h6,q4⟩)).tell HE.out ⟨x.q.c,x.q.n,r.ap,r.al⟩ HK.out.1;exact ayu
      have h6':(r.k==6)=false:=by rw[jb];exact h6
      have h5n:(r.k != 5)=true:=by rw[bne,h5'];rfl
      have h6n:(r.k != 6)=true:=by rw[bne,h6'];rfl
      go_wp2_with fail;go_roundw
      case rel=>exact⟨j+1,sb,m,by omega,by omega,by go_num,rfl,HQ.out H9.out.2.2.1 (by omega)⟩
      case measure=>simp[intOf];omega
     .have hw0':(x.what==0)=false:=by rw[jb];exact hw0
      have HQ:Hid (∀{sb N:Nat} {Lo:List (Nat×Obj)} {W:World},Qn SA TA BA W1 pb bm m m N sb Lo W->N<=3*j->Qn SA TA BA W1 pb bm m m (3*(j+1)) sb [] W):=λh hN=>(h.less λp hp=>by cases hp).up (by omega);by_cases hw1:x.what=1
      .as_aux_lemma=>
       rw[hw1]at n0;have n1:ce W5 b5 1 (iw x.n):=h5.cell tq0 rfl;have CH:Hid (1=1->cpr 11 #[pz pb,iw x.n] W5 λe w'=>e=.returned (.tuple #[])/\Hid (Qn SA TA BA W1 pb bm m m (3*j) sb [(b5,.cells (c17 x) 45 (0,0))] w')):=λ_=>H5.out.fuel HE.out x.n HOK.out.n.1 HOK.out.n.2;clear h5 H5 hw0 hw0' hw1;go_wp2_with fail;refine(CH.out (by trivial)).mono ?_;rintro e w6 ⟨rfl,H6⟩;clear n0 n1 CH;go_wp2_with fail;go_roundw
       case rel=>exact⟨j+1,sb,m,by omega,by omega,by go_num,rfl,HQ.out H6.out (by omega)⟩
       case measure=>simp[intOf];omega
      .have hw1':(x.what==1)=false:=by rw[jb];exact hw1
       by_cases hw2:x.what=2
       .as_aux_lemma=>
        rw[hw2]at n0;have n16:ce W5 b5 16 (.slice x.ka x.ks.length x.kc):=h5.cell tq0 rfl;have CH:Hid (1=1->cpr 12 #[pz pb,.slice x.ka x.ks.length x.kc] W5 λe w'=>e=.returned (.tuple #[])/\Hid (Qf SA TA BA W1 pb bm m m (3*j) [(b5,.cells (c17 x) 45 (0,0))] w')):=λ_=>by obtain⟨k1,k2,k3⟩:=HOK.out.keep H5.out.bel (pb:=pb) (by rw[HPB.out];exact ai _);exact H5.out.fall k1 k2 k3
        clear h5 H5 hw0 hw0' hw1 hw1' hw2;go_wp2_with fail;refine(CH.out (by trivial)).mono ?_;rintro e w6 ⟨rfl,H6⟩;have CI:Hid (1=1->_):=λ_=>H6.out.open HE.out (by omega);clear n0 n16 CH H6;go_wp2_with fail;refine(CI.out (by trivial)).mono ?_;rintro e w7 ⟨sb2,rfl,H7⟩;clear CI;go_wp2_with fail;go_roundw
        case rel=>exact⟨j+1,sb2,m,by omega,by omega,by go_num,rfl,HQ.out H7.out (by omega)⟩
        case measure=>simp[intOf];omega
       .have hw2':(x.what==2)=false:=by rw[jb];exact hw2
        clear h5 hw0 hw1 hw2;go_wp2_with fail;go_roundw
        case rel=>exact⟨j+1,sb,m,by omega,by omega,by go_num,rfl,HQ.out H5.out (by omega)⟩
        case measure=>simp[intOf];omega
   .have hjl':¬(j:Int)<A.length:=by omega
    go_wp2_with fail;go_meet;exact⟨sb,m,rfl,HP.out.up (by omega)⟩
 case rest=>
  as_aux_lemma=>
  obtain⟨sb,m,rfl,h6⟩:=hcut;have H6:Hid (Qn SA TA BA W1 pb bm m m 180 sb [] wc):=h6;have CI:Hid (1=1->_):=λ_=>H6.out.items HE.out (by omega);clear h6 H5 HX HX1;go_wp2_with fail;refine(CI.out (by trivial)).mono ?_;rintro e W6 ⟨S,ao,cap,rfl,hS63,HI⟩;have HT:Hid (∀i,i<S.length->∀j,j<(S.getD i Sto.ds).2.length->∀y∈m,y.c=((S.getD i Sto.ds).2.getD j Sto.dv).c->y.n=((S.getD i Sto.ds).2.getD j Sto.dv).n->y.p=((S.getD i Sto.ds).2.getD j Sto.dv).p/\y.l=((S.getD i Sto.ds).2.getD j Sto.dv).l):=λi hi j hj=>by
   have a1:S.getD i Sto.ds∈S:=by rw[List.getD,bf hi];exact rq hi
   have a2:(S.getD i Sto.ds).2.getD j Sto.dv∈(S.getD i Sto.ds).2:=by generalize (S.getD i Sto.ds).2=C at*;rw[List.getD,bf hj];exact rq hj
   exact HI.out.2.1 _ a1 _ a2
  have HIt:Hid (∀W,Bw W6 W->∃L,Sto.ItAt (.slice ao S.length cap) L S W):=λW hb=>HI.out.1.imp λL h=>h.on hb;have HG:Hid (∀W,Bw W6 W->Bw w W/\Qn SA TA BA W1 pb bm m m 180 sb [] W):=λW hb=>by have h:=(H6.out.on HE.out HI.out.2.2).on HE.out hb;exact⟨HR.out h,h⟩
  clear CI HI H6 HR HE HPB H1;go_wp2_with fail;go_loopw [154] (λi wr=>∃j:Nat,j<=S.length/\i=iw j/\Bw W6 wr) (λi _=>S.length-(intOf i).toNat)
  case atStart=>exact⟨0,eu _,rfl,aj _ _⟩
  case round=>
   obtain⟨i,hi,rfl,hbr⟩:=hrel;have HBr:Hid (Bw W6 wr):=hbr;clear hbr;by_cases hil:i<S.length
   .have hil':(i:Int)<S.length:=by omega
    obtain⟨L,hit⟩:=HIt.out wr HBr.out;obtain⟨b,off,ca2,cc,rfl,e0,e1,hvs⟩:=hit.el hil;have HTi:Hid _:=HT.out i hil;have HVs:Hid (Sto.VsAt wr.heap.size (.slice ca2 (S.getD i Sto.ds).2.length cc) (S.getD i Sto.ds).2 wr):=hvs;generalize S.getD i Sto.ds=y at*;clear hit hvs;go_upto_region 36 with fail
    obtain⟨W7,hW7⟩:=xj (wr.alloc (.cells #[sd y.1,.slice ca2 y.2.length cc] 61));obtain⟨bi,hbi⟩:=xj wr.heap.size;have q1:ce W7 bi 1 (.slice ca2 y.2.length cc):=by rw[<-hW7,<-hbi];exact Drm.Ae (ae wr _) rfl
    have HB7:Hid (Bw W6 W7/\Sto.VsAt W7.heap.size (.slice ca2 y.2.length cc) y.2 W7):=by rw[<-hW7];exact⟨HBr.out.trans ((al _).mono HBr.out.size),(HVs.out.on (al _)).le (al _).size⟩
    have hy63:y.2.length<9223372036854775808:=by obtain⟨_,_,e,h1,h2,_⟩:=HVs.out;injection e with _ _ e;omega
    (try rw[hW7,hbi])
    clear hW7 hbi e0 e1 HVs;go_wp2_with fail;go_loopw [161] (λi wr=>∃j:Nat,j<=y.2.length/\i=iw j/\Bw W7 wr) (λi _=>y.2.length-(intOf i).toNat)
    case atStart=>exact⟨0,eu _,rfl,aj _ _⟩
    case round=>
     clear q1;obtain⟨j,hj,rfl,hbr⟩:=hrel;have HBs:Hid (Bw W7 wr):=hbr;clear hbr;by_cases hjl:j<y.2.length
     .have hjl':(j:Int)<y.2.length:=by omega
      obtain⟨b,off,rfl,hlt,ve⟩:=(HB7.out.2.on HBs.out).el hjl;have HTj:Hid _:=HTi.out j hjl;generalize y.2.getD j Sto.dv=u at*;obtain⟨e0,e1,e2,e3,e4,e5,-⟩:=ve;clear hlt;go_upto_region 39 with fail
      obtain⟨W8,hW8⟩:=xj (wr.alloc (.cells #[uw u.p,ui u.l,ui u.c,ui u.n,sd u.val,.bool u.dead] 63));obtain⟨bv,hbv⟩:=xj wr.heap.size;have hh:W8.heap[bv]?=some (.cells #[uw u.p,ui u.l,ui u.c,ui u.n,sd u.val,.bool u.dead] 63 (0,0)):=by rw[<-hW8,<-hbv];exact ae wr _
      have HB8:Hid (Bw W7 W8/\W8.heap[bv]?=some (.cells #[uw u.p,ui u.l,ui u.c,ui u.n,sd u.val,.bool u.dead] 63 (0,0))):=by refine⟨?_,hh⟩;rw[<-hW8];exact HBs.out.trans ((al _).mono HBs.out.size)
      (try rw[hW8,hbv])
      clear hW8 hbv e0 e1 e2 e3 e4 e5 HBs;have q2:ce W8 bv 2 (ui u.c):=Drm.Ae hh rfl;have q3:ce W8 bv 3 (ui u.n):=Drm.Ae hh rfl;have HQ8:Hid (Qn SA TA BA W1 pb bm m m 180 sb [] W8):=(HG.out W8 (HB7.out.1.trans (HB8.out.1.mono HB7.out.1.size))).2;have hl:=HQ8.out.look u.c u.n;obtain⟨fv,hfv⟩:=xj ((m.find? (Ver.Gv.isK kf (u.c,u.n))).getD df);obtain⟨fb,hfb⟩:=xj (m.find? (Ver.Gv.isK kf (u.c,u.n))).isSome;have HF:Hid (fb=true->fv.p=u.p/\fv.l=u.l):=λe=>by rw[e]at hfb;obtain⟨y,hy⟩:=Option.isSome_iff_exists.1 hfb;rw[hy]at hfv;have h2:=List.find?_some hy;simp only[Ver.Gv.isK,kf,jc,ny]at h2;rw[<-hfv];exact HTj.out _ (List.mem_of_find?_eq_some hy) h2.1 h2.2
      rw[hfv,hfb]at hl;clear hfv hfb hh;have hl1:(Instr.lookup 66 (.map (some bm)) (.agg #[ui u.c,ui u.n]) true).run Tryz.prog W8=.ok (.tuple #[.agg #[uw fv.p,ui fv.l],.bool fb]) W8:=hl;clear hl;go_upto_region 40 with fail
      obtain⟨W9,hW9⟩:=xj (W8.alloc (.cells #[uw fv.p,ui fv.l] 38));obtain⟨b9,hb9⟩:=xj W8.heap.size;have x0:ce W9 b9 0 (uw fv.p):=by rw[<-hW9,<-hb9];exact Drm.Ae (ae W8 _) rfl
      have x1:ce W9 b9 1 (ui fv.l):=by rw[<-hW9,<-hb9];exact Drm.Ae (ae W8 _) rfl
      have h9:W9.heap[bv]?=some (.cells #[uw u.p,ui u.l,ui u.c,ui u.n,sd u.val,.bool u.dead] 63 (0,0)):=by rw[<-hW9];exact Ov HB8.out.2 (Kept.of_below (F:=λ_=>False) (al _)) (λe=>e)
      have HB9:Hid (Bw W7 W9):=by rw[<-hW9];exact HB8.out.1.trans ((al _).mono HB8.out.1.size)
      (try rw[hW9,hb9])
      clear hW9 hb9 hl1 q2 q3 HB8 HQ8;have q0:ce W9 bv 0 (uw u.p):=Drm.Ae h9 rfl;have q1:ce W9 bv 1 (ui u.l):=Drm.Ae h9 rfl;clear h9;have hne:∀W:World,(binOp .neq 38 (.agg #[uw u.p,ui u.l]) (.agg #[uw u.p,ui u.l])).run Tryz.prog W=.ok (.bool false) W:=λW=>by rw[Clk.ak5,eqb_same];rfl
      cases fb
      .exact bbz
      .obtain⟨v1,v2⟩:=HF.out rfl;rw[v1]at x0;rw[v2]at x1;exact bbz
     .have hjl':¬(j:Int)<y.2.length:=by omega
      have HB9:Hid (Bw W6 wr):=HB7.out.1.trans (HBs.out.mono HB7.out.1.size);go_wp2_with fail;go_roundw
      case rel=>exact⟨i+1,by omega,by go_num,HB9.out⟩
      case measure=>simp[intOf];omega
   .have hil':¬(i:Int)<S.length:=by omega
    go_wp2_with fail;go_ret;exact⟨rfl,(HG.out _ HBr.out).1⟩
end Go.Proofs.YtnfpfbehebcdpaaGreat
namespace Go.Proofs.YtnfpfbehebcdpaaGreat
open Go.ChangeShapes Go.WideShapes Go.ChangeAt Go.RowKit Go.Joins Go.Deep
namespace Opn
def own:ownKnob Tryz.prog.godebug=none:=by kernel_rfl
def laidOut:laidOutB Tryz.prog=true:=by kernel_rfl
def c3:Tryz.prog.cellsOf 3=1:=by kernel_rfl
def c4:Tryz.prog.cellsOf 4=1:=by kernel_rfl
def cu8:Tryz.prog.cellsOf 5=1:=by kernel_rfl
def cStr:Tryz.prog.cellsOf 9=1:=by kernel_rfl
def cu64:Tryz.prog.cellsOf 33=1:=by kernel_rfl
def cu32:Tryz.prog.cellsOf 34=1:=by kernel_rfl
def cTs:Tryz.prog.cellsOf 38=2:=by kernel_rfl
def cTxn:Tryz.prog.cellsOf 36=2:=by kernel_rfl
def cWr:Tryz.prog.cellsOf 106=3:=by kernel_rfl
def cWs:Tryz.prog.cellsOf 39=1:=by kernel_rfl
def cTx:Tryz.prog.cellsOf 40=1:=by kernel_rfl
def cIs:Tryz.prog.cellsOf 43=1:=by kernel_rfl
def cRq:Tryz.prog.cellsOf 42=13:=by kernel_rfl
def cAc:Tryz.prog.cellsOf 45=17:=by kernel_rfl
section
variable {H:Type}{enc:TypeId×Value->H}{w:World}{base:Nat}{spare:Nat->Bool}{held:Bool}
def asl{t:TypeId}{f0 f1 f2:Field}{fuel:Nat}{cs:List Value}{x:DataW H×List MemPlace}(ht:Tryz.prog.underlying t=some (.struct #[f0,f1,f2]))(h:DataW.trod enc Tryz.prog w base spare held fuel t cs=some x):
  ∃y0 y1 y2 n,x.1=.agg [y0.1,y1.1,y2.1]/\cs.length=Tryz.prog.cellsOf t/\DataW.trod enc Tryz.prog w base spare held n f0.type ((cs.drop f0.offset).take (Tryz.prog.cellsOf f0.type))=some y0/\DataW.trod enc Tryz.prog w base spare held n f1.type ((cs.drop f1.offset).take (Tryz.prog.cellsOf f1.type))=some y1/\DataW.trod enc Tryz.prog w base spare held n f2.type ((cs.drop f2.offset).take (Tryz.prog.cellsOf f2.type))=some y2:=by
 obtain⟨xs,n,_,rfl,hl,hlen,hf⟩:=DataW.trod_struct ht h;match xs,hlen with
 |[y0,y1,y2],_=>exact⟨y0,y1,y2,n,by simp,hl,by simpa using hf 0 f0 rfl,by simpa using hf 1 f1 rfl,by simpa using hf 2 f2 rfl⟩
def anw{t:TypeId}{f0 f1 f2 f3 f4 f5 f6 f7 f8 f9:Field}{fuel:Nat}{cs:List Value}{x:DataW H×List MemPlace}(ht:Tryz.prog.underlying t=some (.struct #[f0,f1,f2,f3,f4,f5,f6,f7,f8,f9]))(h:DataW.trod enc Tryz.prog w base spare held fuel t cs=some x):
  ∃y0 y1 y2 y3 y4 y5 y6 y7 y8 y9 n,x.1=.agg [y0.1,y1.1,y2.1,y3.1,y4.1,y5.1,y6.1,y7.1,y8.1,y9.1]/\cs.length=Tryz.prog.cellsOf t/\DataW.trod enc Tryz.prog w base spare held n f0.type ((cs.drop f0.offset).take (Tryz.prog.cellsOf f0.type))=some y0/\DataW.trod enc Tryz.prog w base spare held n f1.type ((cs.drop f1.offset).take (Tryz.prog.cellsOf f1.type))=some y1/\DataW.trod enc Tryz.prog w base spare held n f2.type ((cs.drop f2.offset).take (Tryz.prog.cellsOf f2.type))=some y2/\DataW.trod enc Tryz.prog w base spare held n f3.type ((cs.drop f3.offset).take (Tryz.prog.cellsOf f3.type))=some y3/\DataW.trod enc Tryz.prog w base spare held n f4.type ((cs.drop f4.offset).take (Tryz.prog.cellsOf f4.type))=some y4/\DataW.trod enc Tryz.prog w base spare held n f5.type ((cs.drop f5.offset).take (Tryz.prog.cellsOf f5.type))=some y5/\DataW.trod enc Tryz.prog w base spare held n f6.type ((cs.drop f6.offset).take (Tryz.prog.cellsOf f6.type))=some y6/\DataW.trod enc Tryz.prog w base spare held n f7.type ((cs.drop f7.offset).take (Tryz.prog.cellsOf f7.type))=some y7/\DataW.trod enc Tryz.prog w base spare held n f8.type ((cs.drop f8.offset).take (Tryz.prog.cellsOf f8.type))=some y8/\DataW.trod enc Tryz.prog w base spare held n f9.type ((cs.drop f9.offset).take (Tryz.prog.cellsOf f9.type))=some y9:=by
 obtain⟨xs,n,_,rfl,hl,hlen,hf⟩:=DataW.trod_struct ht h;match xs,hlen with
 |[y0,y1,y2,y3,y4,y5,y6,y7,y8,y9],_=>exact⟨y0,y1,y2,y3,y4,y5,y6,y7,y8,y9,n,by simp,hl,by simpa using hf 0 f0 rfl,by simpa using hf 1 f1 rfl,by simpa using hf 2 f2 rfl,by simpa using hf 3 f3 rfl,by simpa using hf 4 f4 rfl,by simpa using hf 5 f5 rfl,by simpa using hf 6 f6 rfl,by simpa using hf 7 f7 rfl,by simpa using hf 8 f8 rfl,by simpa using hf 9 f9 rfl⟩
def aix{t:TypeId}{f0 f1 f2 f3 f4:Field}{fuel:Nat}{cs:List Value}{x:DataW H×List MemPlace}(ht:Tryz.prog.underlying t=some (.struct #[f0,f1,f2,f3,f4]))(h:DataW.trod enc Tryz.prog w base spare held fuel t cs=some x):
  ∃y0 y1 y2 y3 y4 n,cs.length=Tryz.prog.cellsOf t/\DataW.trod enc Tryz.prog w base spare held n f0.type ((cs.drop f0.offset).take (Tryz.prog.cellsOf f0.type))=some y0/\DataW.trod enc Tryz.prog w base spare held n f1.type ((cs.drop f1.offset).take (Tryz.prog.cellsOf f1.type))=some y1/\DataW.trod enc Tryz.prog w base spare held n f2.type ((cs.drop f2.offset).take (Tryz.prog.cellsOf f2.type))=some y2/\DataW.trod enc Tryz.prog w base spare held n f3.type ((cs.drop f3.offset).take (Tryz.prog.cellsOf f3.type))=some y3/\DataW.trod enc Tryz.prog w base spare held n f4.type ((cs.drop f4.offset).take (Tryz.prog.cellsOf f4.type))=some y4:=by
 obtain⟨xs,n,_,rfl,hl,hlen,hf⟩:=DataW.trod_struct ht h;match xs,hlen with
 |[y0,y1,y2,y3,y4],_=>exact⟨y0,y1,y2,y3,y4,n,hl,by simpa using hf 0 f0 rfl,by simpa using hf 1 f1 rfl,by simpa using hf 2 f2 rfl,by simpa using hf 3 f3 rfl,by simpa using hf 4 f4 rfl⟩
def Bh{k:IntKind}{q:Int}(hk:k=.u8\/k=.u32\/k=.u64)(h:(Lit.int k q).wf=true):∃n:Nat,q=n/\(k=.u8->n<256)/\(k=.u32->n<4294967296)/\(k=.u64->n<18446744073709551616):=by
 simp only[Lit.wf,cu,jc]at h;rcases hk with rfl|rfl|rfl
 .have h1:(IntKind.u8.min:Int)=0:=by decide
  have h2:(IntKind.u8.max:Int)=255:=by decide
  exact⟨q.toNat,by omega,λ_=>(by omega),λh=>(by cases h),λh=>(by cases h)⟩
 .have h1:(IntKind.u32.min:Int)=0:=by decide
  have h2:(IntKind.u32.max:Int)=4294967295:=by decide
  exact⟨q.toNat,by omega,λh=>(by cases h),λ_=>(by omega),λh=>(by cases h)⟩
 .have h1:(IntKind.u64.min:Int)=0:=by decide
  have h2:(IntKind.u64.max:Int)=18446744073709551615:=by decide
  exact⟨q.toNat,by omega,λh=>(by cases h),λh=>(by cases h),λ_=>by omega⟩
def avs(s:ByteArray):bs s.data.toList=s:=by obtain⟨d⟩:=s;simp[bs]
def Uz{fuel:Nat}{cs:List Value}{x:DataW H×List MemPlace}(h:DataW.trod enc Tryz.prog w base spare held fuel 9 cs=some x):∃l:Bi,cs=[sd l]:=by obtain⟨s,e0,rfl,_⟩:=DataW.trod_string Tryz.underlying9 h;exact⟨s.data.toList,by show _=[Value.string (bs _)];rw[avs];exact e0⟩
def acw{fuel:Nat}{cs:List Value}{x:DataW H×List MemPlace}(h:DataW.trod enc Tryz.prog w base spare held fuel 38 cs=some x):∃p q:Int,cs=[uw p,ui q]/\Ts p q:=by
 obtain⟨y0,y1,n,rfl,hl,h0,h1⟩:=trod_struct2 Tryz.underlying38 h;rw[cTs]at hl;match cs,hl with
 |[c0,c1],_=>
  simp only[cu64,cu32,qx,ou,List.take_zero,oh]at h0 h1;obtain⟨p,e0,rfl,w0⟩:=uf Tryz.underlying33 h0;obtain⟨q,e1,rfl,w1⟩:=uf Tryz.underlying34 h1;obtain⟨p,rfl,-,-,r0⟩:=Bh (.inr (.inr rfl)) w0;exact bas
def Y8{fuel:Nat}{cs:List Value}{x:DataW H×List MemPlace}(h:DataW.trod enc Tryz.prog w base spare held fuel 36 cs=some x):∃p q:Int,cs=[ui p,ui q]/\Ver.R32 p/\Ver.R32 q:=by
 obtain⟨y0,y1,n,rfl,hl,h0,h1⟩:=trod_struct2 Tryz.underlying36 h;rw[cTxn]at hl;match cs,hl with
 |[c0,c1],_=>
  simp only[cu32,qx,ou,List.take_zero,oh]at h0 h1;obtain⟨p,e0,rfl,w0⟩:=uf Tryz.underlying34 h0;obtain⟨q,e1,rfl,w1⟩:=uf Tryz.underlying34 h1;obtain⟨p,rfl,-,r0,-⟩:=Bh (.inr (.inl rfl)) w0;exact bas
def ar8{fuel:Nat}{cs:List Value}{x:DataW H×List MemPlace}(h:DataW.trod enc Tryz.prog w base spare held fuel 106 cs=some x):∃u:Wr,cs=Lat.wrc u/\True:=by
 obtain⟨y0,y1,y2,n,hx,hl,h0,h1,h2⟩:=asl Tryz.underlying106 h;rw[cWr]at hl;match cs,hl with
 |[c0,c1,c2],_=>
  simp only[cStr,c4,qx,ou,List.take_zero,oh]at h0 h1 h2;obtain⟨k,e0⟩:=Uz h0;obtain⟨v,e1⟩:=Uz h1;obtain⟨d,e2,-⟩:=DataW.trod_bool Tryz.underlying4 h2;simp only[pg,and_true]at e0 e1 e2;subst e0 e1 e2;exact⟨⟨k,v,d⟩,rfl,trivial⟩
def asf{fuel:Nat}{cs:List Value}{x:DataW H×List MemPlace}(h:DataW.trod enc Tryz.prog w base spare held fuel 36 cs=some x):∃u:Int×Int,cs=Lat.txc u/\True:=by obtain⟨p,q,e,-⟩:=Y8 h;exact⟨(p,q),e,trivial⟩
def U4{α:Type}(d:α)(vc:α->List Value)(size:Nat)(hsz:0<size)(hvc:∀a,(vc a).length=size){t e:TypeId}(ht:Tryz.prog.underlying t=some (.slice e))(hce:Tryz.prog.cellsOf e=size)
  (P:α->Prop) (hel:∀{n:Nat} {cs:List Value} {x:DataW H×List MemPlace},DataW.trod enc Tryz.prog w base (λ_=>true) held n e cs=some x->∃a,cs=vc a/\P a)
  {fuel:Nat} {v:Value} {x:DataW H×List MemPlace} (h:DataW.trod enc Tryz.prog w base (λ_=>true) held fuel t [v]=some x):
  ∃(L:List α) (ao:Option Addr) (cap:Nat),v=.slice ao L.length cap/\RwAt w.heap.size size (.slice ao L.length cap) L.length (L.flatMap vc) w/\(∀a∈L,P a):=by
 rcases open_slice ht h with⟨hcs,_⟩|⟨a,len,cap,m,n,D,Pl,hcs,_,hl,hm,hmm,hd,hx⟩
 .simp at hcs;subst hcs;exact⟨[],none,0,rfl,RwAt.nil _ _ _,by simp⟩
 .simp at hcs;subst hcs;rw[hce]at hx;obtain⟨b,off,spot⟩:=a;have hmc:m=cap:=by rw[hmm];rfl
  subst hmc;have each:∀i,i<m->∃f:α,P f/\(spot=none\/0<i)/\∀j u,(vc f)[j]?=some u->ce w b (off+i*size+j) u:=by
   intro i hi;obtain⟨cs',h1,h2⟩:=hx i (by omega);obtain⟨c,rfl,hP⟩:=hel h2;obtain⟨_,_,hc⟩:=World.cells?_some h1;have hsp:spot=none\/0<i:=by
    by_cases hi0:i=0
    .left;subst hi0;have h0:=hc 0 hsz;rw[show(vc c)[0]?=some ((vc c)[0]'(by rw[hvc];exact hsz))from bf _]at h0;simpa[Addr.add]using World.cell?_spot h0
    .right;omega
   have ha:(⟨b,off,spot⟩:Addr).add (i*size)=⟨b,off+i*size,none⟩:=by
    rcases hsp with rfl|h0
    .exact add_plain _ _ _
    .have:0<i*size:=Nat.mul_pos h0 hsz;simp[Addr.add];omega
   refine⟨c,hP,hsp,λj u hj=>?_⟩;have hjl:j<size:=by rw[<-hvc c];exact(gu.1 hj).1
   have:=hc j hjl;rw[ha,add_plain]at this;show w.cell? _=_;rw[this];exact hj
  haveI:Inhabited α:=⟨d⟩
  obtain⟨F,hF⟩:=choose_lt each;have hlen:((List.range len).map F).length=len:=by simp
  have hfl:∀(n:Nat),(((List.range n).map F).flatMap vc).length=n*size:=λn=>by
   induction n with
   |zero=>simp
   |succ n ih=>rw[List.range_succ,mi,List.flatMap_append,af,ih];simp[hvc,Nat.succ_mul]
  have hget:∀(n j:Nat) (u:Value),(((List.range n).map F).flatMap vc)[j]?=some u->∃i,i<n/\(vc (F i))[j-i*size]?=some u/\i*size<=j:=λn=>by
   induction n with
   |zero=>intro j u h;simp at h
   |succ n ih=>
    intro j u h;rw[List.range_succ,mi,List.flatMap_append]at h;by_cases hj:j<n*size
    .rw[List.getElem?_append_left (by rw[hfl];exact hj)]at h;obtain⟨i,hi,r⟩:=ih j u h;exact⟨i,by omega,r⟩
    .rw[List.getElem?_append_right (by rw[hfl];omega),hfl]at h;exact⟨n,by omega,by simpa using h,by omega⟩
  refine⟨(List.range len).map F,some ⟨b,off,spot⟩,m,by rw[hlen],⟨some ⟨b,off,spot⟩,m,rfl,by rw[hlen];exact hfl len,by rw[hlen];exact hl,by unfold maxLen at hm;omega,λh0=>⟨b,off,?_,?_,?_⟩⟩,?_⟩
  .rcases(hF 0 (by omega)).2.1 with rfl|h1
   .rfl
   .omega
  .intro _;have h1:(vc (F 0))[0]?=some ((vc (F 0))[0]'(by rw[hvc];exact hsz)):=bf _;exact ed _ _ ((hF 0 (by omega)).2.2 0 _ h1)
  .intro j u hj;obtain⟨i,hi,hu,hle⟩:=hget len j u hj;have:=(hF i (by omega)).2.2 _ u hu;rw[show off+i*size+(j-i*size)=off+j from by omega]at this;exact this
  .intro a ha;obtain⟨i,hi,rfl⟩:=je.1 ha;exact(hF i (by have:=List.mem_range.1 hi;omega)).1
def atd{fuel:Nat}{cs:List Value}{x:DataW H×List MemPlace}(h:DataW.trod enc Tryz.prog w base (λ_=>true) held fuel 42 cs=some x):
  ∃(q:Rq) (wa sa:Option Addr) (wc sc:Nat),cs=[iw q.k,ui q.c,ui q.n,uw q.sp,ui q.sl,uw q.ap,ui q.al,sd q.key,sd q.hi,iw q.lim,ub q.pt,.slice wa q.ws.length wc,.slice sa q.sk.length sc]/\QIn w q wa wc sa sc:=by
 obtain⟨y0,y1,y2,y3,y4,y5,y6,y7,y8,y9,n,hx,hl,h0,h1,h2,h3,h4,h5,h6,h7,h8,h9⟩:=anw Tryz.underlying42 h;rw[cRq]at hl;match cs,hl with
 |[k0,k1,k2,k3,k4,k5,k6,k7,k8,k9,k10,k11,k12],_=>
  simp only[c3,cTxn,cTs,cStr,cu8,cWs,cTx,qx,ou,List.take_zero,oh]at h0 h1 h2 h3 h4 h5 h6 h7 h8 h9;obtain⟨k,e0,-,w0⟩:=uf Tryz.underlying3 h0;obtain⟨c,m,e1,r1⟩:=Y8 h1;obtain⟨sp,sl,e2,r2⟩:=acw h2;obtain⟨ap,al,e3,r3⟩:=acw h3;obtain⟨key,e4⟩:=Uz h4;obtain⟨tt,e5⟩:=Uz h5;obtain⟨lim,e6,-,w6⟩:=uf Tryz.underlying3 h6;obtain⟨pt,e7,-,w7⟩:=uf Tryz.underlying5 h7;obtain⟨L,ao,cap,e8,hL,-⟩:=U4 ⟨[],[],false⟩ Lat.wrc 3 (by omega) (λ_=>rfl) Tryz.underlying39 cWr (λu=>True) ar8 h8;obtain⟨M,so,cas,e9,hM,-⟩:=U4 (0,0) Lat.txc 2 (by omega) (λ_=>rfl) Tryz.underlying40 cTxn (λu=>True) asf h9;obtain⟨pt,rfl,r7,-,-⟩:=Bh (.inl rfl) w7;simp only[pg,and_true]at e0 e1 e2 e3 e4 e5 e6 e7;obtain⟨e1,e1'⟩:=e1;obtain⟨e2,e2'⟩:=e2;obtain⟨e3,e3'⟩:=e3;subst e0 e1 e1' e2 e2' e3 e3' e4 e5 e6 e7 e8 e9;have:=r7 rfl;exact⟨⟨k,c,m,sp,sl,ap,al,key,tt,lim,pt,L,M⟩,ao,so,cap,cas,rfl,⟨⟨r1,r2,r3,by show(0:Int)<=(pt:Int);omega,by show(pt:Int)<256;omega⟩,hL,hM⟩⟩
def aqa{z:Int}(h:(Lit.int .i64 z).wf=true): -9223372036854775808<=z/\z<=9223372036854775807:=by
 simp only[Lit.wf,cu,jc]at h;have h1:IntKind.i64.min= -9223372036854775808:=by decide
 have h2:IntKind.i64.max=9223372036854775807:=by decide
 omega
def auy{fuel:Nat}{cs:List Value}{x:DataW H×List MemPlace}(h:DataW.trod enc Tryz.prog w base spare held fuel 3 cs=some x):∃z:Int,cs=[iw z]/\ -9223372036854775808<=z/\z<=9223372036854775807:=by obtain⟨z,e,-,wf⟩:=uf Tryz.underlying3 h;exact⟨z,e,aqa wf⟩
def ar0{fuel:Nat}{cs:List Value}{x:DataW H×List MemPlace}(h:DataW.trod enc Tryz.prog w base (λ_=>true) held fuel 45 cs=some x):∃a:Ac,cs=acc a/\AcOk w a:=by
 obtain⟨y0,y1,y2,y3,y4,n,hl,h0,h1,h2,h3,h4⟩:=aix Tryz.underlying45 h;rw[cAc]at hl;match cs,hl with
 |[k0,k1,k2,k3,k4,k5,k6,k7,k8,k9,k10,k11,k12,k13,k14,k15,k16],_=>
  simp only[c3,cu64,cRq,cIs,qx,ou,List.take_zero,oh]at h0 h1 h2 h3 h4;obtain⟨wh,e0,-,-⟩:=uf Tryz.underlying3 h0;obtain⟨nn,e1,-,w1⟩:=uf Tryz.underlying3 h1;obtain⟨ph,e2,-,w2⟩:=uf Tryz.underlying33 h2;obtain⟨ph,rfl,-,-,r2⟩:=Bh (.inr (.inr rfl)) w2;obtain⟨q,wa,sa,wc,sc,e3,hq⟩:=atd h3;obtain⟨ks,ka,kc,e4,hk,hb⟩:=U4 0 (λz=>[iw z]) 1 (by omega) (λ_=>rfl) Tryz.underlying43 c3 (λz=> -9223372036854775808<=z/\z<=9223372036854775807) auy h4;simp only[pg,and_true]at e0 e1 e2 e3;obtain⟨a0,a1,a2,a3,a4,a5,a6,a7,a8,a9,a10,a11,a12⟩:=e3;subst e0 e1 e2 a0 a1 a2 a3 a4 a5 a6 a7 a8 a9 a10 a11 a12 e4;have:=r2 rfl;exact⟨⟨wh,nn,ph,q,wa,wc,sa,sc,ka,ks,kc⟩,rfl,hq,(by show(0:Int)<=(ph:Int)/\(ph:Int)<=_;omega),aqa w1,hk,hb⟩
def acn{fuel:Nat}{v:Value}{x:DataW H×List MemPlace}(h:DataW.trod enc Tryz.prog w base (λ_=>true) held fuel 22 [v]=some x):∃(L:List Ac) (ao:Option Addr) (cap:Nat),v=.slice ao L.length cap/\N9 w (.slice ao L.length cap) L:=by obtain⟨L,ao,cap,e,hr,h1⟩:=U4 dac acc 17 (by omega) ael Tryz.underlying22 cAc (λa=>AcOk w a) ar0 h;exact⟨L,ao,cap,e,hr,h1⟩
end
