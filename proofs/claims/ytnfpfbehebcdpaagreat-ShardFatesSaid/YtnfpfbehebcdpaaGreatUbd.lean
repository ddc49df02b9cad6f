import Derived.Test.YtnfpfbehebcdpaaGreatUbb
import Derived.Test.YtnfpfbehebcdpaaGreatUbc
set_option maxHeartbeats 0
set_option maxRecDepth 99999
set_option linter.all false
namespace Go.Proofs.YtnfpfbehebcdpaaGreat
variable {X R:Sd}{D:Drm.Dr}{c n p l:Int}{t:Bool}{a g G N N':Nat}
def enc(es:List Ent.En):List Bi:=es.map λe=>(Ent.Bj e).1
end Go.Proofs.YtnfpfbehebcdpaaGreat
namespace Go.Proofs.YtnfpfbehebcdpaaGreat
variable {X R:Sd}{D:Drm.Dr}{c n p l:Int}{t:Bool}{a g G N:Nat}
def wkT(X:Sd):Int×Int:=if(Clk.Di X.bp X.bl).2.2≠0 then(X.bp,X.bl)else((Clk.Di X.bp X.bl).1,(Clk.Di X.bp X.bl).2.1)
def wk1(q m:Int)(T:Lat.Tb)(x:Bi×Lat.Ii):Lat.Tb:=if x.1=x.2.prim then Lat.rseF x.2.c x.2.n q m T else T
def Nh(X:Sd):Sd:={X with np:=X.bp,nl:=X.bl,T:=X.T.foldl (wk1 (wkT X).1 (wkT X).2) X.T}
def aja(ec en q m:Int)(T:Lat.Tb):(Lat.rseF ec en q m T).map stpI=T.map stpI:=((Rl.refl {Sd.new with T:=T}).raise ec en q m).T
def agk(q m:Int):∀(L:Lat.Tb) (T:Lat.Tb),(L.foldl (wk1 q m) T).map stpI=T.map stpI
 |[],_=>rfl
 |x::L,T=>by
  rw[List.foldl_cons,agk q m L];unfold wk1;split
  .exact aja _ _ _ _ _
  .rfl
end Go.Proofs.YtnfpfbehebcdpaaGreat
namespace Go.Proofs.YtnfpfbehebcdpaaGreat
variable {X R:Sd}{a:Int}{D:Drm.Dr}
def stN(n:Int):Int:=n%50+3
structure Fa where
 c:Int
 n:Int
 p:Int
 l:Int
def Ft(X:Sd)(f:Fa):Prop:=(∃v,Ver.getB f.c f.n X.K=some v/\v.ap=f.p/\v.al=f.l)\/(f.p=0/\f.l=0/\Ver.getB f.c f.n X.K=none/\Clk.Ar (stN f.n) 0 X.sp X.sl=true/\∀x∈X.T,x.2.c=f.c->x.2.n=f.n->False)
structure Fo(φ:List Fa)(X:Sd):Prop where
 b:Ver.SrtV X.K
 v:∀x∈X.S,∀u∈x.2,∃d,Ver.getB u.c u.n X.K=some d/\d.ap=u.p/\d.al=u.l/\Ver.cmB d=true
 i:∀x∈X.T,x.2.sp=stN x.2.n/\x.2.sl=0
 k:∀d∈X.K,d.sp=stN d.n/\d.sl=0/\d.dn=false
 f:∀f∈φ,Ft X f
structure Gf(R:Sd)(e:Ent.En):Prop where
 t:e.k=2->(e.sp:Int)=stN e.n/\(e.sl:Int)=0/\Clk.Ar e.sp e.sl R.sp R.sl=false
 v:e.k=3->((e.ap:Int)==0&&(e.al:Int)==0)=false/\Ver.okV ⟨e.c,e.n,e.sp,e.sl,e.ap,e.al,e.pt,false⟩=true/\Ver.getB e.c e.n R.K=none/\(∃x∈R.T,x.2.c=e.c/\x.2.n=e.n)/\(e.sp:Int)=stN e.n/\(e.sl:Int)=0
 u:e.k=5->Ver.okV ⟨e.c,e.n,e.sp,e.sl,0,0,0,false⟩=true/\Ver.getB e.c e.n R.K=none/\(e.sp:Int)=stN e.n/\(e.sl:Int)=0
 s:e.k=6->Clk.Ar R.sp R.sl e.ap e.al=true
 k:e.k=1\/e.k=2\/e.k=3\/e.k=5\/e.k=6
def set_ins{v:Ver.Vd}{K:Ver.Bk}(h0:Ver.getB v.c v.n K=none)(h1:Ver.okV v=true):(Ver.setB v K).1=Ver.insB v K:=by unfold Ver.setB;rw[ah h1,h0]
def get_old{v d:Ver.Vd}{K:Ver.Bk}{c n:Int}(h0:Ver.getB v.c v.n K=none)(hd:Ver.getB c n K=some d):Ver.getB c n (Ver.insB v K)=some d:=by
 rw[Ver.get_ins h0,ag]
 .exact hd
 .intro e;obtain⟨e1,e2⟩:=Ver.adl.1 e;rw[<-e1,<-e2,h0]at hd;cases hd
def get_own{v:Ver.Vd}{K:Ver.Bk}{c n:Int}(h0:Ver.getB v.c v.n K=none)(h1:v.c=c)(h2:v.n=n):Ver.getB c n (Ver.insB v K)=some v:=by rw[Ver.get_ins h0,ah (Ver.adl.2 ⟨h1,h2⟩)]
def get_else{v:Ver.Vd}{K:Ver.Bk}{c n:Int}(h0:Ver.getB v.c v.n K=none)(hn:¬(v.c=c/\v.n=n))(hd:Ver.getB c n K=none):Ver.getB c n (Ver.insB v K)=none:=by rw[Ver.get_ins h0,ag (λe=>hn (Ver.adl.1 e))];exact hd
def Fo.book{φ:List Fa}(h:Fo φ R){v:Ver.Vd}{S:Sto.Sk}{T:Lat.Tb}(h0:Ver.getB v.c v.n R.K=none)(h2:v.sp=stN v.n/\v.sl=0/\v.dn=false)
  (hS:∀x∈S,∀u∈x.2,(u.c=v.c/\u.n=v.n/\u.p=v.ap/\u.l=v.al/\Ver.cmB v=true)\/∃y∈R.S,u∈y.2) (hT:∀x∈T,x∈R.T)
  (hf:∀f∈φ,f.c=v.c->f.n=v.n->(∀x∈R.T,x.2.c=f.c->x.2.n=f.n->False)->v.ap=f.p/\v.al=f.l\/(∃x∈R.T,x.2.c=f.c/\x.2.n=f.n)) (hz:∀f∈φ,f.c=v.c->f.n=v.n->f.p=0->f.l=0->(v.ap=0/\v.al=0)\/(∃x∈R.T,x.2.c=v.c/\x.2.n=v.n)):Fo φ {R with S:=S,T:=T,K:=Ver.insB v R.K}:=by
 refine⟨Ver.aj7 h.b h0,λx hx u hu=>?_,λx hx=>h.i x (hT x hx),λd hd=>?_,λf hf'=>?_⟩
 .rcases hS x hx u hu with⟨e1,e2,e3,e4,e5⟩|⟨y,hy,e⟩
  .exact⟨v,get_own h0 e1.symm e2.symm,e3.symm,e4.symm,e5⟩
  .obtain⟨d,d1,d2⟩:=h.v y hy u e;exact⟨d,get_old h0 d1,d2⟩
 .rcases Ver.adz.1 hd with rfl|hd
  .exact h2
  .exact h.k d hd
 .rcases h.f f hf' with⟨d,d1,d2⟩|⟨f1,f2,f3,f4,f5⟩
  .exact .inl ⟨d,get_old h0 d1,d2⟩
  .by_cases hb:v.c=f.c/\v.n=f.n
   .rcases hz f hf' hb.1.symm hb.2.symm f1 f2 with⟨z1,z2⟩|⟨x,hx,x1,x2⟩
    .exact .inl ⟨v,get_own h0 hb.1 hb.2,z1.trans f1.symm,z2.trans f2.symm⟩
    .exact(f5 x hx (x1.trans hb.1) (x2.trans hb.2)).elim
   .exact .inr ⟨f1,f2,get_else h0 hb f3,f4,λx hx=>f5 x (hT x hx)⟩
def Fo.follow{φ:List Fa}{e:Ent.En}(g:Gf R e)(h:Fo φ R):Fo φ (Bc e R):=by
 unfold Bc fixF;split
 .exact⟨h.b,h.v,h.i,h.k,h.f⟩
 split
 .next k=>
  obtain⟨g1,g2,g3⟩:=g.t k;have key:∀x∈(Lat.layF (Lat.Ag e.sp e.sl&&Lat.Ag e.mp e.ml&&kOk e.prim) e.c e.n e.sp e.sl e.mp e.ml e.prim e.ws R.T).1,x∈R.T\/(x.2.c=e.c/\x.2.n=e.n/\x.2.sp=e.sp/\x.2.sl=e.sl):=λx hx=>by
   rcases Lat.Na (Lat.Ag e.sp e.sl&&Lat.Ag e.mp e.ml&&kOk e.prim) e.c e.n e.sp e.sl e.mp e.ml e.prim e.ws R.T with⟨z,h1,_⟩|⟨h1,_⟩<;>rw[h1]at hx
   .exact .inl hx
   .rcases Nv hx with hx|⟨w,_,rfl⟩
    .exact .inl hx
    .exact .inr ⟨rfl,rfl,rfl,rfl⟩
  refine⟨h.b,h.v,λx hx=>?_,h.k,λf hf=>?_⟩
  .rcases key x hx with hx|⟨_,e2,e3,e4⟩
   .exact h.i x hx
   .rw[e2,e3,e4];exact⟨g1,g2⟩
  .rcases h.f f hf with⟨d,d1⟩|⟨f1,f2,f3,f4,f5⟩
   .exact .inl ⟨d,d1⟩
   .refine .inr ⟨f1,f2,f3,f4,λx hx x1 x2=>?_⟩;rcases key x hx with hx|⟨_,e2,_,_⟩
    .exact f5 x hx x1 x2
    .rw[g1,g2,<-e2,x2,f4]at g3;cases g3
 split
 .next k=>
  obtain⟨g1,g2,g3,⟨y,hy,y1,y2⟩,g5,g6⟩:=g.v k;rw[set_ins (v:=⟨e.c,e.n,e.sp,e.sl,e.ap,e.al,e.pt,false⟩) g3 g2];exact h.book (v:=⟨e.c,e.n,e.sp,e.sl,e.ap,e.al,e.pt,false⟩) g3 ⟨g5,g6,rfl⟩ (λx hx u hu=>(ajh x hx u hu).imp (λ⟨a,b,c,d⟩=>⟨a,b,c,d,by unfold Ver.cmB;rw[g1];rfl⟩) id) Nr (λf _ e1 e2 _=>.inr ⟨y,hy,y1.trans e1.symm,y2.trans e2.symm⟩) (λf _ _ _ _ _=>.inr ⟨y,hy,y1,y2⟩)
 split
 .next k=>have:=g.k;omega
 split
 .next k=>
  obtain⟨g1,g2,g3,g4⟩:=g.u k;rw[set_ins (v:=⟨e.c,e.n,e.sp,e.sl,0,0,0,false⟩) g2 g1];refine h.book (v:=⟨e.c,e.n,e.sp,e.sl,0,0,0,false⟩) g2 ⟨g3,g4,rfl⟩ (λx hx u hu=>.inr ⟨x,hx,hu⟩) Nr (λf hf e1 e2 e3=>?_) (λf _ _ _ _ _=>.inl ⟨rfl,rfl⟩);rcases h.f f hf with⟨d,d1,_⟩|⟨f1,f2,_⟩
  .rw[show f.c=(e.c:Int)from e1,show f.n=(e.n:Int)from e2,g2]at d1;cases d1
  .exact .inl ⟨f1.symm,f2.symm⟩
 split
 .next k=>
  have g1:=g.s k;have stay:∀d∈R.K,Ver.cmB d=true->Ver.anx e.ap e.al (Eh R.T) d=true:=λd hd hc=>by unfold Ver.anx;rw[hc,(h.k d hd).2.2];simp
  refine⟨Ver.ret_srt h.b _ _ _,λx hx u hu=>?_,h.i,λd hd=>h.k d (jh.1 hd).1,λf hf=>?_⟩
  .obtain⟨y,hy,e⟩:=List.mem_filterMap.1 hx;unfold Sto.Pi at e;split at e
   .cases e
   .injection e with e;subst e;obtain⟨d,d1,d2⟩:=h.v y hy u (aoy u hu);refine⟨d,?_,d2⟩;show Ver.getB u.c u.n (R.K.filter _)=_;rw[Ver.Hw h.b,d1];exact ah (stay d (Ver.get_mem d1).1 d2.2.2)
  .rcases h.f f hf with⟨d,d1,d2,d3⟩|⟨f1,f2,f3,f4,f5⟩
   .cases hs:Ver.anx e.ap e.al (Eh R.T) d with
    |true=>
     refine .inl ⟨d,?_,d2,d3⟩;show Ver.getB f.c f.n (R.K.filter _)=_;rw[Ver.Hw h.b,d1];exact ah hs
    |false=>
     obtain⟨m1,m2,m3⟩:=Ver.get_mem d1;obtain⟨k1,k2,k3⟩:=h.k d m1;have hcm:Ver.cmB d=false:=by
      cases hc:Ver.cmB d with
      |false=>rfl
      |true=>rw[stay d m1 hc]at hs;cases hs
     unfold Ver.anx at hs;rw[Bool.or_eq_false_iff,Bool.or_eq_false_iff]at hs;obtain⟨⟨s1,-⟩,s3⟩:=hs;simp only[Ver.cmB,Bool.not_eq_false',cu,uq]at hcm;refine .inr ⟨d2.symm.trans hcm.1,d3.symm.trans hcm.2,?_,?_,λx hx x1 x2=>?_⟩
     .show Ver.getB f.c f.n (R.K.filter _)=_;rw[Ver.Hw h.b,d1];refine ag ?_;unfold Ver.anx;rw[Bool.or_eq_true,Bool.or_eq_true,ug,ug];refine⟨⟨by rw[s1];simp,by simp[Ver.cmB,hcm]⟩,by rw[s3];simp⟩
     .show Clk.Ar (stN f.n) 0 (e.ap:Int) (e.al:Int)=true;rw[<-m3,<-k1,<-k2];exact(Bool.not_eq_false' .. ▸s1:Ver.Ar d.sp d.sl e.ap e.al=true)
     .have:(Eh R.T).contains (d.c,d.n)=true:=by rw[List.contains_iff_mem];exact je.2 ⟨x,hx,by rw[x1,x2,m2,m3]⟩
      rw[this]at s3;cases s3
   .refine .inr ⟨f1,f2,?_,?_,f5⟩
    .show Ver.getB f.c f.n (R.K.filter _)=_;rw[Ver.Hw h.b,f3]
    .show Clk.Ar (stN f.n) 0 (e.ap:Int) (e.al:Int)=true;rw[Clk.Hm]at*;omega
 .next k1 k2 k3 k4 k5 k6=>have:=g.k;omega
def Rl.symm(h:Rl X R):Rl R X:=⟨h.S.symm,h.T.symm,h.K.symm,h.sp.symm,h.sl.symm,h.bp.symm,h.bl.symm⟩
def stp_in{T U:Lat.Tb}(h:T.map stpI=U.map stpI){x:Bi×Lat.Ii}(hx:x∈T):∃y∈U,y.2.c=x.2.c/\y.2.n=x.2.n/\y.2.sp=x.2.sp/\y.2.sl=x.2.sl:=by
 have:stpI x∈U.map stpI:=by rw[<-h];exact je.2 ⟨x,hx,rfl⟩
 obtain⟨y,hy,e⟩:=je.1 this;exact⟨y,hy,iq (λz=>z.2.c) e,iq (λz=>z.2.n) e,iq (λz=>z.2.sp) e,iq (λz=>z.2.sl) e⟩
def Ft.rl{f:Fa}(h:Rl X R)(F:Ft R f):Ft X f:=by
 rcases F with F|⟨f1,f2,f3,f4,f5⟩
 .exact .inl (by rw[h.K];exact F)
 .refine .inr ⟨f1,f2,by rw[h.K];exact f3,by rw[h.sp,h.sl];exact f4,λx hx x1 x2=>?_⟩;obtain⟨y,hy,y1,y2,_⟩:=stp_in h.T hx;exact f5 y hy (y1.trans x1) (y2.trans x2)
def Fo.rl{φ:List Fa}(h:Rl X R)(F:Fo φ R):Fo φ X:=⟨by rw[h.K];exact F.b,by rw[h.K,h.S];exact F.v,λx hx=>by obtain⟨y,hy,_,y2,y3,y4⟩:=stp_in h.T hx;have:=F.i y hy;rw[y2,y3,y4]at this;exact this,by rw[h.K];exact F.k,λf hf=>(F.f f hf).rl h⟩
end Go.Proofs.YtnfpfbehebcdpaaGreat
namespace Go.Proofs.YtnfpfbehebcdpaaGreat
variable {X R:Sd}{D:Drm.Dr}{φ:List Fa}{a g G N N':Nat}
def Fo.same{X':Sd}(s:Ik X X')(h:Fo φ X):Fo φ X':=by obtain⟨s1,s2,s3,s4,s5⟩:=s;refine⟨by rw[s3];exact h.b,by rw[s1,s3];exact h.v,by rw[s2];exact h.i,by rw[s3];exact h.k,λf hf=>?_⟩;have:=h.f f hf;unfold Ft at this|-;rw[s2,s3,s4,s5];exact this
structure EsW(N:Nat)(es:List Ent.En):Prop where
 wr:∀e∈es,(Ent.Bj e).2=0
 ok:∀e∈es,Ent.EnOk e/\e.k<=7
 len:es.length<=N
def EsW.up{es:List Ent.En}(h:EsW N es)(hN:N<=N'):EsW N' es:=⟨h.wr,h.ok,ak h.len hN⟩
def EsW.snoc{es:List Ent.En}{e:Ent.En}(h:EsW N es)(ho:Ent.EnOk e/\e.k<=7)(hw:(Ent.Bj e).2=0):EsW (N+1) (es++[e]):=
 ⟨λx hx=>(bu.1 hx).elim (h.wr x) λhx=>by rw[jy.1 hx];exact hw,λx hx=>(bu.1 hx).elim (h.ok x) λhx=>by rw[jy.1 hx];exact ho,by rw[af];exact Nat.add_le_add_right h.len 1⟩
structure Hp(N a g G:Nat)(X:Sd)(D:Drm.Dr):Prop where
 d:D.down=false
 ok:D.Ok
 le:g<=G
 es:∃es,Lgs.Holds D a g (enc es)/\Rl X (Rep es)/\EsW N es
structure Hq(φ:List Fa)(N G:Nat)(D:Drm.Dr):Prop where
 d:D.down=true
 ok:D.Ok
 es:∀keep,∃es,Lgs.Yf (D.fall keep) (enc es) G/\EsW N es/\Fo φ (Rep es)
structure Jv(φ:List Fa)(N a g G:Nat)(X:Sd)(D:Drm.Dr):Prop where
 mm:Fo φ X
 dr:Hp N a g G X D\/Hq φ N G D
def Hp.up(h:Hp N a g G X D)(hN:N<=N'):Hp N' a g G X D:=⟨h.d,h.ok,h.le,h.es.imp λes h=>⟨h.1,h.2.1,h.2.2.up hN⟩⟩
def Hq.up(h:Hq φ N G D)(hN:N<=N'):Hq φ N' G D:=⟨h.d,h.ok,λk=>(h.es k).imp λes h=>⟨h.1,h.2.1.up hN,h.2.2⟩⟩
def Jv.up(h:Jv φ N a g G X D)(hN:N<=N'):Jv φ N' a g G X D:=⟨h.mm,h.dr.imp (λh=>h.up hN) λh=>h.up hN⟩
def Hp.to(h:Hp N a g G X D)(m:Fo φ X)(hN:N<=N'):Jv φ N' a g G X D:=⟨m,.inl (h.up hN)⟩
def note_jv{e:Ent.En}(m:Fo φ X)(h:Hp N a g G X D)(ho:Ent.EnOk e/\e.k<=7)(gd:Gf X e):((Az e X a D).1=0->Hp (N+1) a g G (Bc e X) (Az e X a D).2.2/\(Az e X a D).2.1=Bc e X)/\((Az e X a D).1≠0->(Az e X a D).2.1=X/\(Hp (N+1) a g G X (Az e X a D).2.2\/Hq φ (N+1) G (Az e X a D).2.2)):=by
 obtain⟨hd,hO,hG,es,h1,h2,h3⟩:=h;unfold Az;split
 .next h0=>exact⟨λe=>absurd e h0,λ_=>⟨rfl,.inl ⟨hd,hO,hG,es,h1,h2,h3.up (yt N)⟩⟩⟩
 next h0=>
 have hw:(Ent.Bj e).2=0:=qh.1 h0;have hO':=Lgs.Uo hO a (Ent.Bj e).1;have sn:=h3.snoc ho hw;have h3':=h3.up (yt N);have en:enc (es++[e])=enc es++[(Ent.Bj e).1]:=by simp[enc]
 rcases Lgs.aek (r:=(Ent.Bj e).1) h1 hd hO hG with⟨k1,_,k3,k4,_⟩|⟨k1,k2⟩|⟨k1,_,k3,k4⟩
 .rw[ag (by rw[k1];simp)];exact⟨λ_=>⟨⟨k4,hO',hG,es++[e],by rw[en];exact k3,by rw[Zu];exact h2.follow e,sn⟩,rfl⟩,λe=>absurd rfl e⟩
 .rw[ah (by rcases k1 with⟨k,_⟩|⟨k,_⟩<;>rw[k]<;>decide)];refine⟨λe=>?_,λ_=>⟨rfl,.inl ?_⟩⟩
  .dsimp only at e;rcases k1 with⟨k,_⟩|⟨k,_⟩<;>rw[k]at e<;>cases e
  .dsimp only;rw[k2];exact⟨hd,hO,hG,es,h1,h2,h3'⟩
 .rw[ah (by rw[k1];decide)];refine⟨λe=>?_,λ_=>⟨rfl,.inr ⟨k3,hO',λkeep=>?_⟩⟩⟩
  .dsimp only at e;rw[k1]at e;cases e
  .rcases k4 keep with k|k
   .exact⟨es,k,h3',m.rl h2.symm⟩
   .exact⟨es++[e],by rw[en];exact k,sn,by rw[Zu];exact(m.follow gd).rl (h2.follow e).symm⟩
def Jv.note{e:Ent.En}(m:Fo φ X)(h:Hp N a g G X D)(ho:Ent.EnOk e/\e.k<=7)(gd:Gf X e):Jv φ (N+1) a g G (Az e X a D).2.1 (Az e X a D).2.2:=by
 obtain⟨h1,h2⟩:=note_jv m h ho gd;by_cases e0:(Az e X a D).1=0
 .obtain⟨k1,k2⟩:=h1 e0;rw[k2];exact⟨m.follow gd,.inl k1⟩
 .obtain⟨k1,k2⟩:=h2 e0;rw[k1];exact⟨m,k2⟩
def Hp.clock{q m:Int}(h:Hp N a g G X D):Hp N a g G {X with np:=q,nl:=m} D:=by obtain⟨h1,h2,h3,es,h4,h5,h6⟩:=h;exact⟨h1,h2,h3,es,h4,h5.clock q m,h6⟩
def gf_bound(p l:Int):Gf X (Ei p l):=⟨λk=>absurd k (by show¬(1:Int)=2;omega),λk=>absurd k (by show¬(1:Int)=3;omega),λk=>absurd k (by show¬(1:Int)=5;omega),λk=>absurd k (by show¬(1:Int)=6;omega),.inl rfl⟩
def adv_jv{q m:Int}(hp:Ts q m)(hX:XOk X)(hm:Fo φ X)(h:Hp N a g G X D):
  Jv φ (N+1) a g G (advF q m X a D).2.1 (advF q m X a D).2.2/\((advF q m X a D).1=0->Hp (N+1) a g G (advF q m X a D).2.1 (advF q m X a D).2.2):=by
 have ho:Ent.EnOk (Ei (Clk.Be q m).1 (Clk.Be q m).2)/\(Ei (Clk.Be q m).1 (Clk.Be q m).2).k<=7:=⟨afe (O4 hp),by show(1:Int)<=7;omega⟩;obtain⟨k1,k2⟩:=note_jv (a:=a) (D:=D) hm h ho (gf_bound _ _);have iv:=Jv.note (a:=a) (D:=D) hm h ho (gf_bound _ _);have hup:=h.up (yt N);have sm:=(aih (a:=a) (D:=D) hp hX).1;have hm':=hm.same sm;unfold advF at hm'|-;split
 .split
  .next e=>exact⟨iv,λe2=>absurd e2 e⟩
  .next e=>
   have e0:=qh.1 e;obtain⟨j1,j2⟩:=k1 e0;have hu:Hp (N+1) a g G {(Az (Ei (Clk.Be q m).1 (Clk.Be q m).2) X a D).2.1 with np:=q,nl:=m} (Az (Ei (Clk.Be q m).1 (Clk.Be q m).2) X a D).2.2:=by rw[j2];exact j1.clock
   rename_i e1;rw[ah e1,ag e]at hm';exact⟨⟨hm',.inl hu⟩,λ_=>hu⟩
 .next e1=>
  rw[ag e1]at hm';exact⟨⟨hm',.inl hup.clock⟩,λ_=>hup.clock⟩
def hear_jv{f q m:Int}(hq:Ts q m)(hX:XOk X)(hm:Fo φ X)(h:Hp N a g G X D):
  Jv φ (N+1) a g G (Ah f q m X a D).2.1 (Ah f q m X a D).2.2/\((Ah f q m X a D).1=0->Hp (N+1) a g G (Ah f q m X a D).2.1 (Ah f q m X a D).2.2):=by
 unfold Ah;split
 .next e=>exact⟨h.to hm (yt N),λe2=>absurd e2 e⟩
 .exact adv_jv (Q3 hX.n hq) hX hm h
structure Rs(φ:List Fa)(N a g G:Nat)(q:Rq)(z:Rp×Sd×Drm.Dr):Prop where
 j:Jv φ N a g G z.2.1 z.2.2
 s:z.1.k=5\/z.1.k=6->(∀f∈φ,f.c=q.c->f.n=q.n->f.p=z.1.ap/\f.l=z.1.al)
 nz:z.1.k=5->(z.1.ap==0&&z.1.al==0)=false
 u:z.1.k=5\/(z.1.k=6/\q.k≠4)->Hp N a g G z.2.1 z.2.2/\Ft z.2.1 ⟨q.c,q.n,z.1.ap,z.1.al⟩
def Rs.no{q:Rq}{r:Rp}{X':Sd}{D':Drm.Dr}(h:Jv φ N a g G X' D')(k5:r.k≠5)(k6:r.k≠6):Rs φ N a g G q (r,X',D'):=
 ⟨h,λe=>(e.elim k5 k6).elim,λe=>(k5 e).elim,λe=>(e.elim k5 λe=>k6 e.1).elim⟩
def Rs.up{q:Rq}{z:Rp×Sd×Drm.Dr}(h:Rs φ N a g G q z)(hN:N<=N'):Rs φ N' a g G q z:=⟨h.j.up hN,h.s,h.nz,λe=>⟨(h.u e).1.up hN,(h.u e).2⟩⟩
def Fo.none{f:Fa}{c n:Int}(h:Fo φ X)(hf:f∈φ)(h0:Ver.getB c n X.K=none)(h1:f.c=c)(h2:f.n=n):f.p=0/\f.l=0/\∀x∈X.T,x.2.c=c->x.2.n=n->False:=by
 rcases h.f f hf with⟨d,d1,_⟩|⟨f1,f2,f3,f4,f5⟩
 .rw[h1,h2,h0]at d1;cases d1
 .exact⟨f1,f2,λx hx a b=>f5 x hx (a.trans h1.symm) (b.trans h2.symm)⟩
def Rs.known{q:Rq}{r:Rp}(m:Fo φ X)(h:Hp N a g G X D)(hk:Cj q.c q.n X=some r):Rs φ N a g G q (r,X,D):=by
 unfold Cj at hk;split at hk
 .next v hv=>
  injection hk with hk;have hr:r.ap=v.ap/\r.al=v.al/\(r.k=5->(r.ap==0&&r.al==0)=false):=by
   cases hc:Ver.cmB v with
   |true=>
    rw[hc]at hk;subst hk;refine⟨rfl,rfl,λ_=>?_⟩;show(v.ap==0&&v.al==0)=false;simpa only[Ver.cmB,Bool.not_eq_true']using hc
   |false=>
    rw[hc]at hk;subst hk;simp only[Ver.cmB,Bool.not_eq_false',cu,uq]at hc;exact⟨hc.1.symm,hc.2.symm,λe=>by cases e⟩
  refine⟨h.to m (ai _),λ_ f hf e1 e2=>?_,hr.2.2,λ_=>⟨h,.inl ⟨v,hv,hr.1.symm,hr.2.1.symm⟩⟩⟩;show f.p=r.ap/\f.l=r.al;rw[hr.1,hr.2.1];rcases m.f f hf with⟨d,d1,d2,d3⟩|⟨_,_,f3,_⟩
  .rw[e1,e2,hv]at d1;injection d1 with d1;subst d1;exact⟨d2.symm,d3.symm⟩
  .rw[e1,e2,hv]at f3;cases f3
 .next hn=>
  obtain⟨u,hu,rfl⟩:=o8.1 hk;have h1:=List.mem_of_find?_eq_some hu;have h2:=List.find?_some hu;simp only[cu,uq]at h2;obtain⟨x,hx,hux⟩:=List.mem_flatMap.1 h1;obtain⟨d,d1,_⟩:=m.v x hx u hux;rw[h2.1,h2.2,hn]at d1;cases d1
def okv_undo(c n:Int){sp sl:Int}(h1:sp=stN n)(h2:sl=0):Ver.okV ⟨c,n,sp,sl,0,0,0,false⟩=true:=by
 subst h1 h2;simp only[Ver.okV,Ver.Ag,Ver.cmB,stN];have:n%50+3<=281474976710656:=by omega
 simp[this]
def give_rs{q:Rq}{sp sl:Int}(hc:Ver.R32 q.c/\Ver.R32 q.n)(hs:Ts sp sl)(h1:sp=stN q.n)(h2:sl=0)(hk:Cj q.c q.n X=none)(m:Fo φ X)(h:Hp N a g G X D):Rs φ (N+1) a g G q (Fz q.c q.n sp sl X a D):=by
 have h0:=known_none hk;have ec:((La q.c q.n sp sl).c:Int)=q.c:=Bh hc.1.1;have en:((La q.c q.n sp sl).n:Int)=q.n:=Bh hc.2.1;have es:((La q.c q.n sp sl).sp:Int)=sp:=Bh hs.1.1;have el:((La q.c q.n sp sl).sl:Int)=sl:=Bh hs.2.1;have ok:Ver.okV ⟨(La q.c q.n sp sl).c,(La q.c q.n sp sl).n,(La q.c q.n sp sl).sp,(La q.c q.n sp sl).sl,0,0,0,false⟩=true:=okv_undo _ _ (by rw[es,en];exact h1) (by rw[el];exact h2);have gd:Gf X (La q.c q.n sp sl):=⟨λk=>absurd k (by show¬(5:Int)=2;omega),λk=>absurd k (by show¬(5:Int)=3;omega),λ_=>⟨ok,by rw[ec,en];exact h0,by rw[es,en];exact h1,by rw[el];exact h2⟩,λk=>absurd k (by show¬(5:Int)=6;omega),.inr (.inr (.inr (.inl rfl)))⟩;have ho:Ent.EnOk (La q.c q.n sp sl)/\(La q.c q.n sp sl).k<=7:=⟨adh hc hs,by show(5:Int)<=7;omega⟩;have J:=Jv.note (a:=a) (D:=D) m h ho gd;have S:∀f∈φ,f.c=q.c->f.n=q.n->f.p=0/\f.l=0:=λf hf e1 e2=>⟨(m.none hf h0 e1 e2).1,(m.none hf h0 e1 e2).2.1⟩;unfold Fz;split
 .split
  .exact Rs.no J (by show¬(0:Int)=5;omega) (by show¬(0:Int)=6;omega)
  .next e=>
   obtain⟨j1,j2⟩:=(note_jv (a:=a) (D:=D) m h ho gd).1 (qh.1 e);refine⟨J,λ_=>S,λk=>absurd k (by show¬(6:Int)=5;omega),λ_=>⟨by show Hp _ _ _ _ (Az _ _ _ _).2.1 _;rw[j2];exact j1,?_⟩⟩;show Ft (Az _ _ _ _).2.1 ⟨q.c,q.n,0,0⟩;rw[j2];refine .inl ⟨⟨(La q.c q.n sp sl).c,(La q.c q.n sp sl).n,(La q.c q.n sp sl).sp,(La q.c q.n sp sl).sl,0,0,0,false⟩,?_,rfl,rfl⟩;show Ver.getB q.c q.n (Ver.setB ⟨(La q.c q.n sp sl).c,(La q.c q.n sp sl).n,(La q.c q.n sp sl).sp,(La q.c q.n sp sl).sl,0,0,0,false⟩ X.K).1=_;have g0:Ver.getB (La q.c q.n sp sl).c (La q.c q.n sp sl).n X.K=none:=by rw[ec,en];exact h0
   rw[set_ins (v:=⟨(La q.c q.n sp sl).c,(La q.c q.n sp sl).n,(La q.c q.n sp sl).sp,(La q.c q.n sp sl).sl,0,0,0,false⟩) g0 ok];exact get_own (v:=⟨(La q.c q.n sp sl).c,(La q.c q.n sp sl).n,(La q.c q.n sp sl).sp,(La q.c q.n sp sl).sl,0,0,0,false⟩) g0 ec en
 .next e=>
  rw[Bool.or_eq_true,ug]at e;obtain⟨e1,e2⟩:=e;have e1:ownF q.c q.n X=none:=by simpa using e1
  have e2:Clk.Ar sp sl X.sp X.sl=true:=by simpa using e2
  refine⟨h.to m (yt N),λ_=>S,λk=>absurd k (by show¬(6:Int)=5;omega),λ_=>⟨h.up (yt N),.inr ⟨rfl,rfl,h0,by rw[<-h1,<-h2];exact e2,of_by (own_none e1)⟩⟩⟩
def hind_rs{f:Int}{q:Rq}{lo hi:Bi}(hq:Ts q.sp q.sl)(hX:XOk X)(hm:Fo φ X)(h:Hp N a g G X D):Jv φ (N+1) a g G (Cm f q lo hi X a D).2.1 (Cm f q lo hi X a D).2.2/\∀r,(Cm f q lo hi X a D).1=some r->r.k≠5/\r.k≠6:=by
 have:=(hear_jv (f:=f) hq hX hm h).1;unfold Cm;split
 .exact⟨h.to hm (yt N),λr e=>by injection e with e;subst e;exact⟨by show¬(0:Int)=5;omega,by show¬(0:Int)=6;omega⟩⟩
 split
 .exact⟨this,λr e=>by injection e with e;subst e;exact⟨by show¬(0:Int)=5;omega,by show¬(0:Int)=6;omega⟩⟩
 .exact⟨this,λr e=>by obtain⟨x,_,rfl⟩:=o8.1 e;exact⟨by show¬(3:Int)=5;omega,by show¬(3:Int)=6;omega⟩⟩
def cont_no{k:Bi}{sp sl:Int}{r:Rp}(h:Ij k sp sl X=some r):r.k≠5/\r.k≠6:=by
 unfold Ij at h;split at h
 .injection h with h;subst h;exact⟨by show¬(3:Int)=5;omega,by show¬(3:Int)=6;omega⟩
 split at h
 .injection h with h;subst h;exact⟨by show¬(10:Int)=5;omega,by show¬(10:Int)=6;omega⟩
 split at h
 .injection h with h;subst h;exact⟨by show¬(0:Int)=5;omega,by show¬(0:Int)=6;omega⟩
 .cases h
def Rs.err{q:Rq}{e:Int}{X':Sd}{D':Drm.Dr}(h:Jv φ N a g G X' D'):Rs φ N a g G q (Cb e,X',D'):=Rs.no h (by show¬(0:Int)=5;omega) (by show¬(0:Int)=6;omega)
def Rs.said{q:Rq}{k p l:Int}{X':Sd}{D':Drm.Dr}(h:Jv φ N a g G X' D')(hk:k≠5/\k≠6):Rs φ N a g G q (Fv k p l,X',D'):=Rs.no h hk.1 hk.2
def lay_rs{f:Int}{q:Rq}(hq:RqOk q)(hX:XOk X)(hf:0<=f)(hs:q.sp=stN q.n/\q.sl=0)(hr:kOk q.key=true/\Bf q.ws=true)(m:Fo φ X)(h:Hp N a g G X D):Rs φ (N+3) a g G q (Oa f q X a D):=by
 have J0:=h.to m (N':=N+3) (by omega);unfold Oa;split
 .exact Rs.err J0
 next e0=>
 split
 .next r hk=>exact(Rs.known m h hk).up (by omega)
 split
 .exact Rs.said J0 (by decide)
 split
 .next r hc=>
  obtain⟨w,_,hw⟩:=List.exists_of_findSome?_eq_some hc;exact Rs.no J0 (cont_no hw).1 (cont_no hw).2
 dsimp only;have H:=hear_jv (f:=f) hq.s hX m h;have sS:=L8 (f:=f) (a:=a) (D:=D) hq.s hX;split
 .exact(Rs.err H.1).up (by omega)
 next e1=>
 have u1:=H.2 (qh.1 e1);obtain⟨t1,t2,t3,ht⟩:∃t1 t2 t3,Clk.Ir (Ah f q.sp q.sl X a D).2.1.np (Ah f q.sp q.sl X a D).2.1.nl f=(t1,t2,t3):=⟨_,_,_,rfl⟩;have tt:=acx sS.2.n hf;rw[ht]at tt|-;dsimp only at tt|-;split
 .exact(Rs.err H.1).up (by omega)
 have V:=adv_jv (a:=a) (D:=(Ah f q.sp q.sl X a D).2.2) tt sS.2 H.1.mm u1;have sV:=aih (a:=a) (D:=(Ah f q.sp q.sl X a D).2.2) tt sS.2;split
 .exact(Rs.err V.1).up (by omega)
 next e3=>
 have gd:Gf (advF t1 t2 (Ah f q.sp q.sl X a D).2.1 a (Ah f q.sp q.sl X a D).2.2).2.1 (eLay q.c q.n q.sp q.sl t1 t2 q.key q.ws):=⟨λ_=>⟨?_,?_,?_⟩,λk=>absurd k (by show¬(2:Int)=3;omega),λk=>absurd k (by show¬(2:Int)=5;omega),λk=>absurd k (by show¬(2:Int)=6;omega),.inr (.inl rfl)⟩
 .have J:=Jv.note (a:=a) V.1.mm (V.2 (qh.1 e3)) ⟨ahh hq.c hq.s tt hr.1 hr.2,by show(2:Int)<=7;omega⟩ gd;split
  .exact Rs.err J
  .exact Rs.said J (by decide)
 .show((q.sp.toNat:Nat):Int)=stN ((q.n.toNat:Nat):Int);rw[Bh hq.s.1.1,Bh hq.c.2.1];exact hs.1
 .show((q.sl.toNat:Nat):Int)=0;rw[Bh hq.s.2.1];exact hs.2
 .show Clk.Ar ((q.sp.toNat:Nat):Int) ((q.sl.toNat:Nat):Int) _ _=false;rw[Bh hq.s.1.1,Bh hq.s.2.1,sV.1.sp,sV.1.sl,sS.1.sp,sS.1.sl];simpa using e0
def dec_rs{f:Int}{q:Rq}(hq:RqOk q)(hX:XOk X)(hk4:q.k=4)(hz:(q.ap==0&&q.al==0)=false)(hra:Clk.Ag q.ap q.al=true)(m:Fo φ X)(h:Hp N a g G X D):Rs φ (N+3) a g G q (Oe f q X a D):=by
 have J0:=h.to m (N':=N+3) (by omega);unfold Oe;split
 .next r hk=>exact(Rs.known m h hk).up (by omega)
 next hk=>
 have h0:=known_none hk;split
 .exact⟨J0,λ_ f hf e1 e2=>⟨(m.none hf h0 e1 e2).1,(m.none hf h0 e1 e2).2.1⟩,λk=>absurd k (by show¬(6:Int)=5;omega),λk=>by
   rcases k with k|k
   .exact absurd k (by show¬(6:Int)=5;omega)
   .exact absurd hk4 k.2⟩
 next x hx=>
 have ow:=Pj hx;split
 .exact Rs.err J0
 split
 .exact Rs.said J0 (by decide)
 dsimp only;have H:=hear_jv (f:=f) hq.a hX m h;have sA:=(L8 (f:=f) (a:=a) (D:=D) hq.a hX).1;split
 .exact(Rs.err H.1).up (by omega)
 next e1=>
 have u1:=H.2 (qh.1 e1);have ec:((Ie q.c q.n x.2.sp x.2.sl q.ap q.al q.pt).c:Int)=q.c:=Bh hq.c.1.1;have en:((Ie q.c q.n x.2.sp x.2.sl q.ap q.al q.pt).n:Int)=q.n:=Bh hq.c.2.1;have es:((Ie q.c q.n x.2.sp x.2.sl q.ap q.al q.pt).sp:Int)=x.2.sp:=Bh (hX.i x ow.1).1.1.1;have el:((Ie q.c q.n x.2.sp x.2.sl q.ap q.al q.pt).sl:Int)=x.2.sl:=Bh (hX.i x ow.1).1.2.1;have ea:((Ie q.c q.n x.2.sp x.2.sl q.ap q.al q.pt).ap:Int)=q.ap:=Bh hq.a.1.1;have eb:((Ie q.c q.n x.2.sp x.2.sl q.ap q.al q.pt).al:Int)=q.al:=Bh hq.a.2.1;have ho:Ent.EnOk (Ie q.c q.n x.2.sp x.2.sl q.ap q.al q.pt)/\(Ie q.c q.n x.2.sp x.2.sl q.ap q.al q.pt).k<=7:=⟨Wy hq.c (hX.i x ow.1).1 hq.a hq.p,by show(3:Int)<=7;omega⟩;have k3:(Ie q.c q.n x.2.sp x.2.sl q.ap q.al q.pt).k=3:=rfl;generalize Ie q.c q.n x.2.sp x.2.sl q.ap q.al q.pt=e at*;have hi:=m.i x ow.1;rw[ow.2.2]at hi;have g0:Ver.getB e.c e.n (Ah f q.ap q.al X a D).2.1.K=none:=by rw[ec,en,sA.K];exact h0
 have ok:Ver.okV ⟨e.c,e.n,e.sp,e.sl,e.ap,e.al,e.pt,false⟩=true:=by
  simp only[Ver.okV,Ver.Ag,Ver.cmB,es,el,ea,eb,hi.1,hi.2,stN,hz];have h1:q.n%50+3<=281474976710656:=by omega
  have h2:q.ap<=281474976710656/\q.al<=4095:=by simpa[Clk.Ag]using hra
  simp[h1,h2]
 have gd:Gf (Ah f q.ap q.al X a D).2.1 e:=⟨λk=>by omega,λ_=>⟨by rw[ea,eb];exact hz,ok,g0,⟨x,by rw[sA.T];exact ow.1,ow.2.1.trans ec.symm,ow.2.2.trans en.symm⟩,by rw[es,en];exact hi.1,by rw[el];exact hi.2⟩,λk=>by omega,λk=>by omega,.inr (.inr (.inl k3))⟩;have J:=Jv.note (a:=a) H.1.mm u1 ho gd;split
 .exact(Rs.err J).up (by omega)
 .next e2=>
  obtain⟨j1,j2⟩:=(note_jv (a:=a) H.1.mm u1 ho gd).1 (qh.1 e2);refine⟨J.up (by omega),λ_ f' hf' e1 e2=>((m.none hf' h0 e1 e2).2.2 x ow.1 ow.2.1 ow.2.2).elim,λ_=>hz,λ_=>⟨(by show Hp _ _ _ _ (Az _ _ _ _).2.1 _;rw[j2];exact j1.up (by omega)),?_⟩⟩;show Ft (Az _ _ _ _).2.1 ⟨q.c,q.n,q.ap,q.al⟩;rw[j2];refine .inl ⟨⟨e.c,e.n,e.sp,e.sl,e.ap,e.al,e.pt,false⟩,?_,ea,eb⟩;unfold Bc;rw[ag (by omega),ag (by omega),ah k3];show Ver.getB q.c q.n (Ver.setB ⟨e.c,e.n,e.sp,e.sl,e.ap,e.al,e.pt,false⟩ _).1=_;rw[set_ins (v:=⟨e.c,e.n,e.sp,e.sl,e.ap,e.al,e.pt,false⟩) g0 ok];exact get_own (v:=⟨e.c,e.n,e.sp,e.sl,e.ap,e.al,e.pt,false⟩) g0 ec en
def pus_rs{f:Int}{q:Rq}(hq:RqOk q)(hX:XOk X)(hs:q.sp=stN q.n/\q.sl=0)(m:Fo φ X)(h:Hp N a g G X D):Rs φ (N+3) a g G q (Kw f q X a D):=by
 have J0:=h.to m (N':=N+3) (by omega);unfold Kw;split
 .next r hk=>exact(Rs.known m h hk).up (by omega)
 next hk=>
 split
 .exact(give_rs hq.c hq.s hs.1 hs.2 hk m h).up (by omega)
 next x hx=>
 have ow:=Pj hx;have hi:=m.i x ow.1;rw[ow.2.2]at hi;split
 .exact Rs.err J0
 split
 .exact(give_rs hq.c (hX.i x ow.1).1 hi.1 hi.2 hk m h).up (by omega)
 split
 .exact Rs.said J0 (by decide)
 split
 .exact Rs.err J0
 dsimp only;have H:=hear_jv (f:=f) hq.a hX m h;split
 .exact(Rs.err H.1).up (by omega)
 next e1=>
 obtain⟨h1,h2,h3,es,h4,h5,h6⟩:=H.2 (qh.1 e1);exact Rs.said ⟨H.1.mm.rl ((Rl.refl _).raise _ _ _ _),.inl ⟨h1,h2,h3,es,h4,h5.raise _ _ _ _,h6.up (by omega)⟩⟩ (by decide)
def ans_rs{f:Int}{q:Rq}(hq:RqOk q)(hX:XOk X)(hf:0<=f)(hk:q.k≠5/\q.k≠9)(hs:q.k≠1->q.k≠2->q.sp=stN q.n/\q.sl=0)(J:Jv φ N a g G X D):Rs φ (N+3) a g G q (ansF f q X a D):=by
 unfold ansF;split
 .exact Rs.err (J.up (by omega))
 next hr=>
 obtain⟨m,h|h⟩:=J;rotate_left
 .rw[ah h.d];exact Rs.err ⟨m,.inr (h.up (by omega))⟩
 have J0:=h.to m (N':=N+3) (by omega);rw[ag (by rw[h.d];simp)];have hr2:Et q=true:=by simpa using hr
 unfold Et at hr2;simp only[cu,jc]at hr2;obtain⟨⟨⟨⟨r1,r2⟩,r3⟩,r5⟩,r6⟩:=hr2;split
 .obtain⟨j1,j2⟩:=hind_rs (f:=f) (lo:=q.key) (hi:=q.key++[0]) hq.s hX m h;unfold getFn;split
  .next r hr=>exact(Rs.no j1 (j2 r hr).1 (j2 r hr).2).up (by omega)
  .exact(Rs.no j1 (by show¬(1:Int)=5;omega) (by show¬(1:Int)=6;omega)).up (by omega)
 next k1=>
 split
 .obtain⟨j1,j2⟩:=hind_rs (f:=f) (lo:=q.key) (hi:=q.hi) hq.s hX m h;unfold Ib;split
  .next r hr=>exact(Rs.no j1 (j2 r hr).1 (j2 r hr).2).up (by omega)
  .exact(Rs.no j1 (by show¬(2:Int)=5;omega) (by show¬(2:Int)=6;omega)).up (by omega)
 next k2=>
 have hs:=hs k1 k2;split
 .next k3=>
  rw[ag (by omega),ah k3,cu]at r6;exact lay_rs hq hX hf hs r6 m h
 split
 .next k4=>
  rw[ag (by omega),ag (by omega),ah (.inl k4)]at r6;exact dec_rs hq hX k4 (by simpa only[Bool.not_eq_true']using r6) r3 m h
 split
 .next k5=>exact absurd k5 hk.1
 split
 .unfold Nj;split
  .next r hk=>exact(Rs.known m h hk).up (by omega)
  .next hk=>exact(give_rs hq.c hq.s hs.1 hs.2 hk m h).up (by omega)
 split
 .exact pus_rs hq hX hs m h
 split
 .unfold Nq;split
  .exact Rs.said J0 (by decide)
  next e0=>
  have J:=Jv.note (a:=a) (D:=D) (e:=Lc q.ap q.al) m h ⟨adi hq.a,by show(6:Int)<=7;omega⟩ ⟨λk=>absurd k (by show¬(6:Int)=2;omega),λk=>absurd k (by show¬(6:Int)=3;omega),λk=>absurd k (by show¬(6:Int)=5;omega),λ_=>?_,.inr (.inr (.inr (.inr rfl)))⟩
  .split
   .exact(Rs.err J).up (by omega)
   .exact(Rs.said J (by decide)).up (by omega)
  .show Clk.Ar X.sp X.sl ((q.ap.toNat:Nat):Int) ((q.al.toNat:Nat):Int)=true;rw[Bh hq.a.1.1,Bh hq.a.2.1];simpa using e0
 .next k8=>exact absurd (show q.k=9 by omega) hk.2
def Jv.more{f:Fa}(J:Jv φ N a g G X D)(h:Hp N a g G X D)(hf:Ft X f):Jv (f::φ) N a g G X D:=⟨⟨J.mm.b,J.mm.v,J.mm.i,J.mm.k,λx hx=>(au.1 hx).elim (λe=>e▸hf) (J.mm.f x)⟩,.inl h⟩
def wake_jv{es:List Ent.En}(h:EsW N es)(m:Fo φ (Rep es)){D':Drm.Dr}(hd:D'.down=false)(hO:D'.Ok)(hG:g<=G)(hH:Lgs.Holds D' a g (enc es)):Jv φ N a g G (Nh (Rep es)) D':=by have rl:Rl (Nh (Rep es)) (Rep es):=⟨rfl,agk _ _ _ _,rfl,rfl,rfl,rfl,rfl⟩;exact⟨m.rl rl,.inl ⟨hd,hO,hG,es,hH,rl,h⟩⟩
