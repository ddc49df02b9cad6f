import Derived.Test.YtdplfgcoaddbdaaGreatWbe
set_option maxHeartbeats 4000000
set_option maxRecDepth 100000
set_option linter.unusedVariables false
set_option linter.unusedSimpArgs false
namespace Go.Proofs.YtdplfgcoaddbdaaGreat
variable {X:Sd}{a:Int}{D:Drm.Dr}
def Up(D:Drm.Dr):Prop:=D.fuel<0/\D.down=false
theorem Up.step(h:Up D)(a:Int)(r:Drm.Pt->Int)(t:Drm.Pt->Drm.Pt):Up (D.step a r t).2:=by
 unfold Drm.Dr.step;repeat' split
 ·exact h
 ·exact h
 ·exact h
 ·next e=>exact absurd e (by have:=h.1;omega)
 ·refine⟨?_,h.2⟩;show(if 0<D.fuel then D.fuel-1 else D.fuel)<0;have:=h.1;split<;>omega
theorem Up.put(h:Up D)(a:Int)(s:List UInt8):Up (Lgs.putF D a s).2:=by
 unfold Lgs.putF;split
 ·exact h.step _ _ _
 ·exact Up.step (h.step _ _ _) _ _ _
theorem Up.app(h:Up D)(a:Int)(r:List UInt8):Up (Lgs.appendF D a r).2:=by
 unfold Lgs.appendF;split
 ·exact h
 ·exact h.put _ _
theorem Up.lay(h:Up D)(a:Int)(g:Nat)(R:List (List UInt8)):Up (Lgs.layF D a g R).2:=by
 unfold Lgs.layF;split
 ·exact h.step _ _ _
 ·exact Up.put (h.step _ _ _) _ _
structure Gd(X:Sd):Prop where
 ok:XOk X
 ri:∀x∈X.T,Clk.rightB x.2.sp x.2.sl=true
 ky:∀x∈X.S,kOk x.1=true
theorem Gd.same{X':Sd}(h:Gd X)(s:SameD X X')(o:XOk X'):Gd X':=⟨o,by rw[s.T];exact h.ri,by rw[s.S];exact h.ky⟩
theorem ky_puts{c n ap al:Int}:∀{L:Lat.Tb} {S:Sto.Sk},(∀x∈S,kOk x.1=true)->∀x∈putsF c n ap al L S,kOk x.1=true
 |[],_,h=>h
 |y::r,S,h=>ky_puts (L:=r) (fun x hx=>by
  unfold Sto.putS at hx;split at hx
  ·next e=>
   split at hx
   ·rcases setF_keys hx with rfl|hx
    ·exact e
    ·exact h x hx
   ·exact h x hx
  ·exact h x hx)
theorem ky_prune{p l:Int}{S:Sto.Sk}(h:∀x∈S,kOk x.1=true):∀x∈Sto.pruneS p l S,kOk x.1=true:=fun x hx=>by
 obtain⟨y,hy,e⟩:=List.mem_filterMap.1 hx;unfold Sto.prune1 at e;split at e
 ·cases e
 ·injection e with e;subst e;exact h y hy
theorem rgt_sub{T U:Lat.Tb}(h:Ver.RgT (holdF T))(hs:∀x∈U,x∈T):Ver.RgT (holdF U):=fun y hy=>by obtain⟨x,hx,rfl⟩:=List.mem_map.1 hy;exact h _ (List.mem_map.2 ⟨x,hs x hx,rfl⟩)
theorem set_mem{v x:Ver.Vd}{K:Ver.Bk}(h:x∈(Ver.setB v K).1):x=v\/x∈K:=by
 unfold Ver.setB at h;split at h
 ·split at h
  ·exact .inr h
  ·exact Ver.ins_mem.1 h
 ·exact .inr h
theorem done_mem{c n:Int}{x:Ver.Vd}{K:Ver.Bk}(h:x∈(Ver.doneB c n K).1):x∈K\/∃y∈K,x={y with dn:=true}:=by
 unfold Ver.doneB at h;split at h
 ·split at h
  ·obtain⟨y,hy,rfl⟩:=List.mem_map.1 h;split
   ·exact .inr ⟨y,hy,rfl⟩
   ·exact .inl hy
  ·exact .inl h
 ·exact .inl h
theorem laid_mem{f:Wr->Lat.Ii}{x:List UInt8×Lat.Ii}:∀{l:List Wr} {T:Lat.Tb},x∈Lat.laidF f l T->x∈T\/∃w∈l,x=(w.key,f w)
 |[],_,h=>.inl h
 |w::l,T,h=>by
  rcases laid_mem (l:=l) h with h|⟨y,hy,e⟩
  ·rcases setF_keys h with h|h
   ·exact .inr ⟨w,List.mem_cons_self ..,h⟩
   ·exact .inl h
  ·exact .inr ⟨y,List.mem_cons_of_mem _ hy,e⟩
theorem rest_sub{c n:Int}{T:Lat.Tb}:∀x∈Lat.restF c n T,x∈T:=fun _ h=>(List.mem_filter.1 h).1
theorem Gd.cut(h:Gd X)(c n:Int){S:Sto.Sk}{K:Ver.Bk}(hK:∀v∈K,Ver.RgV v)(hs:∀x∈S,kOk x.1=true):Gd {X with S:=S,T:=Lat.restF c n X.T,K:=K}:=
 ⟨⟨h.ok.s,h.ok.n,h.ok.b,rgt_sub h.ok.t rest_sub,fun x hx=>h.ok.i x (rest_sub x hx),hK⟩,fun x hx=>h.ri x (rest_sub x hx),hs⟩
theorem Gd.book(h:Gd X){K:Ver.Bk}(hK:∀v∈K,Ver.RgV v):Gd {X with K:=K}:=⟨⟨h.ok.s,h.ok.n,h.ok.b,h.ok.t,h.ok.i,hK⟩,h.ri,h.ky⟩
theorem set_rg{v:Ver.Vd}{K:Ver.Bk}(hv:Ver.RgV v)(hK:∀v∈K,Ver.RgV v):∀x∈(Ver.setB v K).1,Ver.RgV x:=fun x hx=>by
 rcases set_mem hx with rfl|h
 ·exact hv
 ·exact hK x h
theorem follow_gd{e:Ent.En}(he:Ent.EnOk e)(hk:2<=e.k/\e.k<=7)(hT:Lat.TOk X.T)(hS:Sto.SOk X.S)(h:Gd X):Gd (followF e X)/\(followF e X).wt<=X.wt+16:=by
 obtain⟨r1,r2,r3,r4,r5⟩:=rgV_of he;have hm:=he.mp;have hs:=he.sp;have hb:=Lat.by_rest e.c e.n X.T;unfold followF;rw[if_neg (by omega)];split
 ·constructor
  ·refine⟨⟨h.ok.s,h.ok.n,h.ok.b,?_,?_,h.ok.k⟩,?_,h.ky⟩;all_goals
    rcases Lat.lay_cases (Lat.rightB e.sp e.sl&&Lat.rightB e.mp e.ml&&kOk e.prim) e.c e.n e.sp e.sl e.mp e.ml e.prim e.ws X.T with⟨z,h1,_⟩|⟨h1,_,h2,_⟩<;>dsimp only<;>rw[h1]
   ·exact h.ok.t
   ·intro y hy;obtain⟨x,hx,rfl⟩:=List.mem_map.1 hy;rcases laid_mem hx with hx|⟨w,_,rfl⟩
    ·exact h.ok.t _ (List.mem_map.2 ⟨x,hx,rfl⟩)
    ·exact r4
   ·exact h.ok.i
   ·intro x hx;rcases laid_mem hx with hx|⟨w,_,rfl⟩
    ·exact h.ok.i x hx
    ·exact⟨⟨⟨by show(0:Int)<=(e.sp:Int);omega,by show(e.sp:Int)<_;omega⟩,by show(0:Int)<=(e.sl:Int);omega,by show(e.sl:Int)<_;omega⟩,⟨by show(0:Int)<=(e.mp:Int);omega,by show(e.mp:Int)<_;omega⟩,by show(0:Int)<=(e.ml:Int);omega,by show(e.ml:Int)<_;omega⟩
   ·exact h.ri
   ·intro x hx;rcases laid_mem hx with hx|⟨w,_,rfl⟩
    ·exact h.ri x hx
    ·simp only[Bool.and_eq_true]at h2;exact h2.1.1
  ·have:=Lat.len_lay hT (Lat.rightB e.sp e.sl&&Lat.rightB e.mp e.ml&&kOk e.prim) e.c e.n e.sp e.sl e.mp e.ml e.prim e.ws;unfold Sd.wt;dsimp only;omega
 split
 ·refine⟨h.cut _ _ (set_rg r2 h.ok.k) (ky_puts h.ky),?_⟩;have h1:=puts_tot (c:=e.c) (n:=e.n) (ap:=e.ap) (al:=e.al) (L:=Lat.byF e.c e.n X.T) hS;have h2:=Ver.set_len ⟨e.c,e.n,e.sp,e.sl,e.ap,e.al,e.pt,false⟩ X.K;unfold Sd.wt fixF;dsimp only;omega
 split
 ·refine⟨h.cut _ _ h.ok.k (ky_puts h.ky),?_⟩;have h1:=puts_tot (c:=e.c) (n:=e.n) (ap:=e.ap) (al:=e.al) (L:=Lat.byF e.c e.n X.T) hS;unfold Sd.wt fixF;dsimp only;omega
 split
 ·refine⟨h.cut _ _ (set_rg r3 h.ok.k) h.ky,?_⟩;have h2:=Ver.set_len ⟨e.c,e.n,e.sp,e.sl,0,0,0,false⟩ X.K;unfold Sd.wt;dsimp only;omega
 split
 ·refine⟨⟨⟨⟨⟨r5.1.1,r5.1.2⟩,r5.2.1,r5.2.2⟩,h.ok.n,h.ok.b,h.ok.t,h.ok.i,fun v hv=>h.ok.k v (List.mem_filter.1 hv).1⟩,h.ri,ky_prune h.ky⟩,?_⟩;have h1:=Sto.tot_prune e.ap e.al (S:=X.S) hS.all;have h2:=Ver.ret_len e.ap e.al (holdF X.T) X.K;unfold Sd.wt;dsimp only;omega
 split
 ·refine⟨h.book (fun v hv=>?_),?_⟩
  ·rcases done_mem hv with hv|⟨y,hy,rfl⟩
   ·exact h.ok.k v hv
   ·have:=h.ok.k y hy;exact⟨this.c,this.n,this.sp,this.sl,this.ap,this.al,this.pt⟩
  ·unfold Sd.wt;dsimp only;rw[Ver.doneB_len];omega
 ·omega
theorem note_gd{e:Ent.En}(he:Ent.EnOk e)(hk:2<=e.k/\e.k<=7)(hT:Lat.TOk X.T)(hS:Sto.SOk X.S)(h:Gd X)(u:Up D):Gd (noteF e X a D).2.1/\(noteF e X a D).2.1.wt<=X.wt+16/\Up (noteF e X a D).2.2:=by
 unfold noteF;split
 ·exact⟨h,by dsimp only;omega,u⟩
 split
 ·exact⟨h,by dsimp only;omega,u.app _ _⟩
 ·obtain⟨h1,h2⟩:=follow_gd he hk hT hS h;exact⟨h1,h2,u.app _ _⟩
theorem Up.bound(u:Up D)(p l:Int):Up (noteF (eBound p l) X a D).2.2:=by
 unfold noteF;split
 ·exact u
 split<;>exact u.app _ _
theorem adv_gd{p l:Int}(hp:Ts p l)(h:Gd X)(u:Up D):Gd (advF p l X a D).2.1/\SameD X (advF p l X a D).2.1/\Up (advF p l X a D).2.2:=by
 obtain⟨h1,h2⟩:=adv_ok (a:=a) (D:=D) hp h.ok;refine⟨h.same h1 h2,h1,?_⟩;unfold advF;split
 ·split<;>exact u.bound _ _
 ·exact u
theorem hear_gd{f p l:Int}(hp:Ts p l)(h:Gd X)(u:Up D):Gd (hearF f p l X a D).2.1/\SameD X (hearF f p l X a D).2.1/\Up (hearF f p l X a D).2.2:=by
 unfold hearF;split
 ·exact⟨h,SameD.refl X,u⟩
 ·exact adv_gd (merge_ts h.ok.n hp) h u
end Go.Proofs.YtdplfgcoaddbdaaGreat
namespace Go.Proofs.YtdplfgcoaddbdaaGreat
variable {X:Sd}{a f:Int}{D:Drm.Dr}{q:Rq}
structure Tw(A B:Rp×Sd×Drm.Dr):Prop where
 k:B.1.k=A.1.k
 ap:B.1.ap=A.1.ap
 al:B.1.al=A.1.al
 c:B.1.c=A.1.c
 n:B.1.n=A.1.n
 s:SameD A.2.1 B.2.1
theorem Tw.refl(A:Rp×Sd×Drm.Dr):Tw A A:=⟨rfl,rfl,rfl,rfl,rfl,SameD.refl _⟩
theorem Tw.of{F:Sd->Drm.Dr->Rp×Sd×Drm.Dr}{r:Rp}(h:F X D=(r,X,D)):Tw (F X D) (F (F X D).2.1 (F X D).2.2):=by rw[show(F X D).2.1=X from by rw[h],show(F X D).2.2=D from by rw[h]];exact Tw.refl _
theorem Tw.to{F:Sd->Drm.Dr->Rp×Sd×Drm.Dr}{r:Rp}{X1:Sd}{D1:Drm.Dr}(h:F X D=(r,X1,D1))(h1:F X1 D1=(r,X1,D1)):Tw (F X D) (F (F X D).2.1 (F X D).2.2):=by rw[show(F X D).2.1=X1 from by rw[h],show(F X D).2.2=D1 from by rw[h],h,h1];exact Tw.refl _
theorem note_zero{e:Ent.En}(h:(noteF e X a D).1=0):(noteF e X a D).2.1=followF e X:=by
 unfold noteF at h|-;split at h
 ·next h1=>exact absurd h h1
 ·next h1=>
  rw[if_neg h1];split at h
  ·next h2=>exact absurd h h2
  ·next h2=>rw[if_neg h2]
theorem known_same{c n:Int}{X':Sd}(hK:X'.K=X.K)(hS:X'.S=X.S):knownF c n X'=knownF c n X:=by unfold knownF;rw[hK,hS]
theorem known_none{c n:Int}(h:knownF c n X=none):Ver.getB c n X.K=none:=by
 unfold knownF at h;cases hg:Ver.getB c n X.K with
 |none=>rfl
 |some v=>rw[hg]at h;cases h
theorem own_has{c n:Int}{x:List UInt8×Lat.Ii}(h:ownF c n X=some x):x∈X.T/\x.2.c=c/\x.2.n=n:=by have h1:=List.mem_filter.1 (List.mem_of_mem_head? h);have h2:=h1.2;simp only[Lat.ofBy,Bool.and_eq_true,beq_iff_eq]at h2;exact⟨h1.1,h2⟩
theorem own_none{c n:Int}(h:ownF c n X=none):Lat.byF c n X.T=[]:=by simpa[ownF]using h
theorem set_known{v:Ver.Vd}{X1:Sd}(hg:Ver.getB v.c v.n X.K=none)(hv:Ver.okV v=true)(h:X1.K=(Ver.setB v X.K).1):knownF v.c v.n X1=some (if Ver.cmB v then saidR 5 v.ap v.al else kinR 6):=by
 have hK:X1.K=Ver.insB v X.K:=by rw[h];unfold Ver.setB;rw[if_pos hv,hg]
 unfold knownF;rw[hK,Ver.get_ins hg,if_pos (Ver.ofN_iff.2 ⟨rfl,rfl⟩)]
theorem r32_of{c:Int}(h:Ver.R32 c):((c.toNat:Nat):Int)=c:=nat_of h.1
theorem hear_again{p l:Int}{X1:Sd}{D1:Drm.Dr}(h:(hearF f p l X a D).1=0)(hp:Ts p l)(hX:XOk X)(e1:X1.np=(hearF f p l X a D).2.1.np)(e2:X1.nl=(hearF f p l X a D).2.1.nl)(e3:X1.bp=(hearF f p l X a D).2.1.bp)(e4:X1.bl=(hearF f p l X a D).2.1.bl):hearF f p l X1 a D1=(0,X1,D1):=by
 unfold hearF at h e1 e2 e3 e4;split at h
 ·next h1=>exact absurd h h1
 next h1=>
 rw[if_neg h1]at e1 e2 e3 e4;obtain⟨m1,m2,m3,hm⟩:∃m1 m2 m3,Clk.mergeF X.np X.nl f p l=(m1,m2,m3):=⟨_,_,_,rfl⟩;rw[hm]at h h1 e1 e2 e3 e4;dsimp only at h h1 e1 e2 e3 e4;have h0:m3=0:=Decidable.not_not.1 h1;subst h0;have hr:Clk.rightB X.np X.nl=true/\Clk.rightB p l=true/\Clk.beyB p f 1000=false/\Clk.maxF X.np X.nl p l=(m1,m2):=by
  unfold Clk.mergeF at hm;split at hm
  ·next g=>
   simp only[Bool.and_eq_true]at g;split at hm
   ·simp at hm
   ·next g2=>exact⟨g.1,g.2,by simpa using g2,by simp only[Prod.mk.injEq]at hm;exact Prod.ext hm.1 hm.2.1⟩
  ·simp at hm
 obtain⟨r1,r2,r3,r4⟩:=hr;have rm:m1<=281474976710656/\m2<=4095/\Clk.lessB m1 m2 p l=false:=by
  unfold Clk.maxF at r4;rw[Clk.rightB_iff]at r1 r2;split at r4
  ·next g=>
   obtain⟨rfl,rfl⟩:=Prod.mk.inj r4;exact⟨r2.1,r2.2,Clk.lessB_not.2 (by omega)⟩
  ·next g=>
   obtain⟨rfl,rfl⟩:=Prod.mk.inj r4;exact⟨r1.1,r1.2,by simpa using g⟩
 have hm2:Clk.mergeF m1 m2 f p l=(m1,m2,0):=by unfold Clk.mergeF;rw[Clk.rightB_iff.2 ⟨rm.1,rm.2.1⟩,r2,r3];unfold Clk.maxF;rw[rm.2.2];rfl
 have hv:X1.np=m1/\X1.nl=m2/\Clk.lessB X1.bp X1.bl m1 m2=false:=by
  unfold advF at h e1 e2 e3 e4;split at h
  ·next g=>
   rw[if_pos g]at e1 e2 e3 e4;split at h
   ·next g2=>exact absurd h g2
   ·next g2=>
    rw[if_neg g2]at e1 e2 e3 e4;have g3:=note_zero (Decidable.not_not.1 g2);have g4:=merge_ts (fp:=f) hX.n hp;rw[hm]at g4;have g5:=bound_ts g4;dsimp only at e1 e2 e3 e4 g5;rw[g3,follow_bound]at e3 e4;dsimp only at e3 e4;rw[nat_of g5.1.1]at e3;rw[nat_of g5.2.1]at e4;refine⟨e1,e2,?_⟩;rw[e3,e4];unfold Clk.boundF;rw[Clk.rightB_iff.2 ⟨rm.1,rm.2.1⟩,if_pos rfl];refine Clk.lessB_not.2 ?_;dsimp only;omega
  ·next g=>
   rw[if_neg g]at e1 e2 e3 e4;refine⟨e1,e2,?_⟩;rw[e3,e4];simpa using g
 unfold hearF;rw[hv.1,hv.2.1,hm2];dsimp only;rw[if_neg (by simp)];unfold advF;rw[hv.2.2,if_neg (by simp)];congr 1;obtain⟨S,T,K,sp,sl,np,nl,bp,bl⟩:=X1;obtain⟨rfl,rfl,-⟩:=hv;rfl
theorem rf_k{e:Int}{Y:Sd×Drm.Dr}(h:((refR e,Y):Rp×Sd×Drm.Dr).1.k≠0):False:=h rfl
theorem lay_twice(hq:RqOk q)(hr:Lat.rightB q.sp q.sl=true)(hk:kOk q.key=true)(hw:rightW q.ws=true)(hT:Srt X.T)(h:Gd X)(hf:0<=f)(h0:(layFn f q X a D).1.k≠0):Tw (layFn f q X a D) (layFn f q (layFn f q X a D).2.1 a (layFn f q X a D).2.2):=by
 cases e1:Clk.lessB q.sp q.sl X.sp X.sl with
 |true=>unfold layFn at h0;rw[e1,if_pos rfl]at h0;exact absurd rfl h0
 |false=>
 cases e2:knownF q.c q.n X with
 |some r=>exact Tw.of (F:=fun X D=>layFn f q X a D) (r:=r) (by(try dsimp only);unfold layFn;rw[e1,e2];rfl)
 |none=>
 cases e3:ownF q.c q.n X with
 |some x=>exact Tw.of (F:=fun X D=>layFn f q X a D) (r:=saidR 4 x.2.mp x.2.ml) (by(try dsimp only);unfold layFn;rw[e1,e2,e3];rfl)
 |none=>
 cases e4:q.ws.findSome? (fun w=>contF w.key q.sp q.sl X)with
 |some r=>exact Tw.of (F:=fun X D=>layFn f q X a D) (r:=r) (by(try dsimp only);unfold layFn;rw[e1,e2,e3];(try dsimp only);rw[if_neg (by simp),e4])
 |none=>
 have L:layFn f q X a D=(let h:=hearF f q.sp q.sl X a D;if h.1≠0 then(refR h.1,h.2)else
    let t:=Clk.tickF h.2.1.np h.2.1.nl f
    if t.2.2≠0 then(refR t.2.2,h.2)else
    let v:=advF t.1 t.2.1 h.2.1 a h.2.2
    if v.1≠0 then(refR v.1,v.2)else
    let o:=noteF (eLay q.c q.n q.sp q.sl t.1 t.2.1 q.key q.ws) v.2.1 a v.2.2
    if o.1≠0 then(refR o.1,o.2)else(saidR 4 t.1 t.2.1,o.2)):=by
  conv=>lhs;unfold layFn
  rw[e1,e2,e3];dsimp only;rw[if_neg (by simp),e4]
 obtain⟨H,hH⟩:=xj (hearF f q.sp q.sl X a D);have g1:=hear_ok (f:=f) (a:=a) (D:=D) hq.s h.ok;rw[hH]at g1;rw[L]at h0;dsimp only at L h0;rw[hH]at L h0;split at h0
 ·exact(rf_k h0).elim
 next k1=>
 rw[if_neg k1]at L;obtain⟨t,ht⟩:=xj (Clk.tickF H.2.1.np H.2.1.nl f);have g2:=tick_ts g1.2.n hf;rw[ht]at g2 L h0;split at h0
 ·exact(rf_k h0).elim
 next k2=>
 rw[if_neg k2]at L;obtain⟨V,hV⟩:=xj (advF t.1 t.2.1 H.2.1 a H.2.2);have g3:=adv_ok (a:=a) (D:=H.2.2) g2 g1.2;rw[hV]at g3 L h0;split at h0
 ·exact(rf_k h0).elim
 next k3=>
 rw[if_neg k3]at L;split at h0
 ·exact(rf_k h0).elim
 next k4=>
 rw[if_neg k4]at L;have hn:=note_zero (Decidable.not_not.1 k4);obtain⟨O,hO⟩:=xj (noteF (eLay q.c q.n q.sp q.sl t.1 t.2.1 q.key q.ws) V.2.1 a V.2.2);rw[hO]at L hn;have sm:=SameD.trans g1.1 g3.1;have rt:Lat.rightB t.1 t.2.1=true:=by
  have k2':t.2.2=0:=Decidable.not_not.1 k2;rw[<-ht]at k2'|-;unfold Clk.tickF at k2'|-;split at k2'
  ·next g=>
   rw[if_pos g];split at k2'
   ·next g4=>
    rw[if_pos g4];split at k2'
    ·next g5=>rw[if_pos g5];simp[Lat.rightB,g4]
    ·next g5=>
     rw[if_neg g5];have z:=Clk.rightB_iff.1 g;unfold Clk.nextF at k2'|-;rw[if_pos g]at k2'|-;split at k2'
     ·next g6=>rw[if_pos g6];simp[Lat.rightB];omega
     ·next g6=>
      rw[if_neg g6];split at k2'
      ·next g7=>rw[if_pos g7];simp[Lat.rightB];omega
      ·simp at k2'
   ·simp at k2'
  ·simp at k2'
 have hnew:Lat.NewK q.ws X.T:=fun w hw'=>by
  have:=List.findSome?_eq_none_iff.1 e4 w hw';unfold contF at this;split at this
  ·cases this
  ·next g=>exact g
 have hby:=own_none e3;have hT1:O.2.1.T=Lat.laidF (Lat.mkI q.c q.n q.sp q.sl t.1 t.2.1 q.key) q.ws X.T/\O.2.1.S=X.S/\O.2.1.K=X.K/\O.2.1.sp=X.sp/\O.2.1.sl=X.sl:=by rw[hn];unfold followF;rw[if_neg (by show¬(2:Int)=1;omega),if_pos (by rfl)];dsimp only[eLay];rw[r32_of hq.c.1,r32_of hq.c.2,nat_of hq.s.1.1,nat_of hq.s.2.1,nat_of g2.1.1,nat_of g2.2.1,hr,rt,hk,sm.T];refine⟨?_,sm.S,sm.K,sm.sp,sm.sl⟩;unfold Lat.layF;rw[hw,if_pos (by rfl),hby,List.isEmpty_nil,Bool.true_and,if_pos];exact List.all_eq_true.2 fun w hw'=>by rw[hnew w hw'];rfl
 obtain⟨t1,t2,t3,t4,t5⟩:=hT1;have hown:∃x,ownF q.c q.n O.2.1=some x/\x.2.mp=t.1/\x.2.ml=t.2.1:=by
  have hlen:=(Lat.lay_counts (r:=true) (c:=q.c) (n:=q.n) (sp:=q.sp) (sl:=q.sl) (mp:=t.1) (ml:=t.2.1) (prim:=q.key) (l:=q.ws) hT).2;have hl:Lat.layF true q.c q.n q.sp q.sl t.1 t.2.1 q.key q.ws X.T=(O.2.1.T,0):=by rw[t1];unfold Lat.layF;rw[hw,if_pos (by rfl),hby,List.isEmpty_nil,Bool.true_and,if_pos];exact List.all_eq_true.2 fun w hw'=>by rw[hnew w hw'];rfl
  rw[hl,hby]at hlen;have h1:=(Lat.right_parts hw).2.2.1;cases ho:Lat.byF q.c q.n O.2.1.T with
  |nil=>
   dsimp only at hlen;rw[ho]at hlen;simp at hlen;omega
  |cons x r=>
   have hx:x∈Lat.byF q.c q.n O.2.1.T:=by rw[ho];exact List.mem_cons_self ..
   obtain⟨m1,m2⟩:=List.mem_filter.1 hx;refine⟨x,by unfold ownF;rw[ho];rfl,?_⟩;rw[t1]at m1;rcases laid_mem m1 with m|⟨w,_,rfl⟩
   ·have:x∈Lat.byF q.c q.n X.T:=List.mem_filter.2 ⟨m,m2⟩;rw[hby]at this;cases this
   ·exact⟨rfl,rfl⟩
 obtain⟨x,o1,o2,o3⟩:=hown;refine Tw.to (F:=fun X D=>layFn f q X a D) L ?_;(try dsimp only)
 unfold layFn;rw[t4,t5,e1,known_same t3 t2,e2,o1];dsimp only;rw[if_neg (by simp),o2,o3]
theorem dec_twice(hq:RqOk q)(hr:Lat.rightB q.ap q.al=true)(hz:(q.ap==0&&q.al==0)=false)(h:Gd X)(h0:(decFn f q X a D).1.k≠0):Tw (decFn f q X a D) (decFn f q (decFn f q X a D).2.1 a (decFn f q X a D).2.2):=by
 cases e2:knownF q.c q.n X with
 |some r=>exact Tw.of (F:=fun X D=>decFn f q X a D) (r:=r) (by(try dsimp only);unfold decFn;rw[e2])
 |none=>
 cases e3:ownF q.c q.n X with
 |none=>exact Tw.of (F:=fun X D=>decFn f q X a D) (r:=kinR 6) (by(try dsimp only);unfold decFn;rw[e2,e3])
 |some x=>
 cases e4:primF x.2 X with
 |false=>unfold decFn at h0;rw[e2,e3]at h0;dsimp only at h0;rw[if_pos e4]at h0;exact absurd rfl h0
 |true=>
 cases e5:Clk.lessB q.ap q.al x.2.mp x.2.ml with
 |true=>exact Tw.of (F:=fun X D=>decFn f q X a D) (r:=saidR 7 x.2.mp x.2.ml) (by(try dsimp only);unfold decFn;rw[e2,e3];dsimp only;rw[e4,e5];rfl)
 |false=>
 have L:decFn f q X a D=(let h:=hearF f q.ap q.al X a D;if h.1≠0 then(refR h.1,h.2)else
   let o:=noteF (eCommit q.c q.n x.2.sp x.2.sl q.ap q.al q.pt) h.2.1 a h.2.2
   if o.1≠0 then(refR o.1,o.2)else(saidR 5 q.ap q.al,o.2)):=by
  conv=>lhs;unfold decFn
  rw[e2,e3];dsimp only;rw[e4,e5];rfl
 obtain⟨H,hH⟩:=xj (hearF f q.ap q.al X a D);have g1:=hear_ok (f:=f) (a:=a) (D:=D) hq.a h.ok;rw[hH]at g1;rw[L]at h0;dsimp only at L h0;rw[hH]at L h0;split at h0
 ·exact(rf_k h0).elim
 next k1=>
 rw[if_neg k1]at L;split at h0
 ·exact(rf_k h0).elim
 next k4=>
 rw[if_neg k4]at L;have hn:=note_zero (Decidable.not_not.1 k4);obtain⟨O,hO⟩:=xj (noteF (eCommit q.c q.n x.2.sp x.2.sl q.ap q.al q.pt) H.2.1 a H.2.2);rw[hO]at L hn;have hx:=own_has e3;have hi:=(h.ok.i x hx.1).1;have hv:Ver.okV ⟨q.c,q.n,x.2.sp,x.2.sl,q.ap,q.al,q.pt,false⟩=true:=by have:=h.ri x hx.1;unfold Ver.okV Ver.cmB;dsimp only;rw[show Ver.rightB x.2.sp x.2.sl=true from this,show Ver.rightB q.ap q.al=true from hr,hz];rfl
 have hK:O.2.1.K=(Ver.setB ⟨q.c,q.n,x.2.sp,x.2.sl,q.ap,q.al,q.pt,false⟩ X.K).1:=by rw[hn];unfold followF;rw[if_neg (by show¬(3:Int)=1;omega),if_neg (by show¬(3:Int)=2;omega),if_pos (by rfl)];dsimp only[eCommit];rw[r32_of hq.c.1,r32_of hq.c.2,nat_of hi.1.1,nat_of hi.2.1,nat_of hq.a.1.1,nat_of hq.a.2.1,nat_of hq.p.1,g1.1.K]
 have hkn:=set_known (X:=X) (known_none e2) hv hK;refine Tw.to (F:=fun X D=>decFn f q X a D) L ?_;(try dsimp only)
 unfold decFn;dsimp only at hkn;rw[hkn];unfold Ver.cmB;dsimp only;rw[hz];rfl
theorem app_eq(f:Int)(q:Rq)(X:Sd)(a:Int):∃b:Bool,∀(X':Sd) (D:Drm.Dr),X'.K=X.K->appFn f q X' a D=if b=true then(kinR 9,X',D)else match ownF q.c q.n X' with
  |none=>(kinR 9,X',D)
  |some x=>
   if primF x.2 X'||Clk.lessB q.ap q.al x.2.mp x.2.ml then(refR 1,X',D)else
   let h:=hearF f q.ap q.al X' a D
   if h.1≠0 then(refR h.1,h.2)else
   let o:=noteF (eApply q.c q.n q.ap q.al) h.2.1 a h.2.2
   if o.1≠0 then(refR o.1,o.2)else(kinR 9,o.2):=by
 cases hg:Ver.getB q.c q.n X.K with
 |none=>exact⟨false,fun X' D e=>by unfold appFn;rw[e,hg];rfl⟩
 |some v=>exact⟨!Ver.cmB v,fun X' D e=>by unfold appFn;rw[e,hg];rfl⟩
theorem app_twice(hq:RqOk q)(h0:(appFn f q X a D).1.k≠0)(h:Gd X):Tw (appFn f q X a D) (appFn f q (appFn f q X a D).2.1 a (appFn f q X a D).2.2):=by
 obtain⟨b,hb⟩:=app_eq f q X a;have L:=hb X D rfl;cases b with
 |true=>exact Tw.of (F:=fun X D=>appFn f q X a D) (r:=kinR 9) (by rw[L];rfl)
 |false=>
 rw[if_neg (by simp)]at L;cases e3:ownF q.c q.n X with
 |none=>exact Tw.of (F:=fun X D=>appFn f q X a D) (r:=kinR 9) (by rw[L,e3])
 |some x=>
 rw[e3]at L;dsimp only at L;cases e4:(primF x.2 X||Clk.lessB q.ap q.al x.2.mp x.2.ml)with
 |true=>rw[L,if_pos e4]at h0;exact absurd rfl h0
 |false=>
 rw[if_neg (by rw[e4];simp)]at L;obtain⟨H,hH⟩:=xj (hearF f q.ap q.al X a D);have g1:=hear_ok (f:=f) (a:=a) (D:=D) hq.a h.ok;rw[hH]at g1 L;rw[L]at h0;split at h0
 ·exact(rf_k h0).elim
 next k1=>
 rw[if_neg k1]at L;split at h0
 ·exact(rf_k h0).elim
 next k4=>
 rw[if_neg k4]at L;have hn:=note_zero (Decidable.not_not.1 k4);obtain⟨O,hO⟩:=xj (noteF (eApply q.c q.n q.ap q.al) H.2.1 a H.2.2);rw[hO]at L hn;have hK:O.2.1.K=X.K/\O.2.1.T=Lat.restF q.c q.n X.T:=by rw[hn];unfold followF;rw[if_neg (by show¬(4:Int)=1;omega),if_neg (by show¬(4:Int)=2;omega),if_neg (by show¬(4:Int)=3;omega),if_pos (by rfl)];dsimp only[eApply,fixF];rw[r32_of hq.c.1,r32_of hq.c.2,g1.1.T];exact⟨g1.1.K,rfl⟩
 refine Tw.to (F:=fun X D=>appFn f q X a D) L ?_;rw[hb _ _ hK.1,if_neg (by simp)];unfold ownF;rw[hK.2,Lat.by_after];rfl
theorem give_known{c n sp sl:Int}(hc:Ver.R32 c/\Ver.R32 n)(hs:Ts sp sl)(hr:Ver.rightB sp sl=true)(hk:knownF c n X=none)(h0:(giveF c n sp sl X a D).1.k≠0):giveF c n sp sl X a D=(kinR 6,X,D)\/∃X1 D1,giveF c n sp sl X a D=(kinR 6,X1,D1)/\knownF c n X1=some (kinR 6):=by
 unfold giveF at h0|-;split at h0
 ·next e=>
  rw[if_pos e];split at h0
  ·exact(rf_k h0).elim
  ·next k1=>
   rw[if_neg k1];refine .inr ⟨_,_,rfl,?_⟩;have hn:=note_zero (Decidable.not_not.1 k1);have hv:Ver.okV ⟨c,n,sp,sl,0,0,0,false⟩=true:=by unfold Ver.okV Ver.cmB;dsimp only;rw[hr];rfl
   have hK:(noteF (eUndo c n sp sl) X a D).2.1.K=(Ver.setB ⟨c,n,sp,sl,0,0,0,false⟩ X.K).1:=by rw[hn];unfold followF;rw[if_neg (by show¬(5:Int)=1;omega),if_neg (by show¬(5:Int)=2;omega),if_neg (by show¬(5:Int)=3;omega),if_neg (by show¬(5:Int)=4;omega),if_pos (by rfl)];dsimp only[eUndo];rw[r32_of hc.1,r32_of hc.2,nat_of hs.1.1,nat_of hs.2.1]
   exact set_known (X:=X) (known_none hk) hv hK
 ·next e=>rw[if_neg e];exact .inl rfl
theorem und_twice(hq:RqOk q)(hr:Ver.rightB q.sp q.sl=true)(h0:(undFn q X a D).1.k≠0):Tw (undFn q X a D) (undFn q (undFn q X a D).2.1 a (undFn q X a D).2.2):=by
 cases e2:knownF q.c q.n X with
 |some r=>exact Tw.of (F:=fun X D=>undFn q X a D) (r:=r) (by(try dsimp only);unfold undFn;rw[e2])
 |none=>
  have L:undFn q X a D=giveF q.c q.n q.sp q.sl X a D:=by unfold undFn;rw[e2]
  rw[L]at h0;rcases give_known hq.c hq.s hr e2 h0 with g|⟨X1,D1,g,g1⟩
  ·exact Tw.of (F:=fun X D=>undFn q X a D) (L.trans g)
  ·exact Tw.to (F:=fun X D=>undFn q X a D) (L.trans g) (by(try dsimp only);unfold undFn;rw[g1])
theorem saf_twice(hq:RqOk q)(h0:(safFn q X a D).1.k≠0):Tw (safFn q X a D) (safFn q (safFn q X a D).2.1 a (safFn q X a D).2.2):=by
 cases e1:Clk.lessB X.sp X.sl q.ap q.al with
 |false=>exact Tw.of (F:=fun X D=>safFn q X a D) (r:=saidR 9 X.sp X.sl) (by(try dsimp only);unfold safFn;rw[if_pos e1])
 |true=>
  have L:safFn q X a D=if(noteF (eSafe q.ap q.al) X a D).1≠0 then(refR (noteF (eSafe q.ap q.al) X a D).1,(noteF (eSafe q.ap q.al) X a D).2)else(saidR 9 q.ap q.al,(noteF (eSafe q.ap q.al) X a D).2):=by
   conv=>lhs;unfold safFn
   rw[if_neg (by rw[e1];simp)]
  rw[L]at h0;split at h0
  ·exact(rf_k h0).elim
  next k1=>
  rw[if_neg k1]at L;have hn:=note_zero (Decidable.not_not.1 k1);obtain⟨O,hO⟩:=xj (noteF (eSafe q.ap q.al) X a D);rw[hO]at L hn;have hs:O.2.1.sp=q.ap/\O.2.1.sl=q.al:=by rw[hn];unfold followF;rw[if_neg (by show¬(6:Int)=1;omega),if_neg (by show¬(6:Int)=2;omega),if_neg (by show¬(6:Int)=3;omega),if_neg (by show¬(6:Int)=4;omega),if_neg (by show¬(6:Int)=5;omega),if_pos (by rfl)];exact⟨nat_of hq.a.1.1,nat_of hq.a.2.1⟩
  refine Tw.to (F:=fun X D=>safFn q X a D) L ?_;(try dsimp only)
  unfold safFn;rw[hs.1,hs.2,if_pos (Clk.lessB_not.2 (by omega))]
theorem don_eq(q:Rq)(X:Sd)(a:Int)(D:Drm.Dr):(donFn q X a D=(kinR 9,X,D))\/((∃v,Ver.getB q.c q.n X.K=some v/\Ver.cmB v=true)/\donFn q X a D=if(noteF (eDone q.c q.n) X a D).1≠0 then(refR (noteF (eDone q.c q.n) X a D).1,(noteF (eDone q.c q.n) X a D).2)else(kinR 9,(noteF (eDone q.c q.n) X a D).2)):=by
 unfold donFn;cases hg:Ver.getB q.c q.n X.K with
 |none=>exact .inl rfl
 |some v=>
  dsimp only;by_cases hv:(Ver.cmB v&& !v.dn)=false
  ·exact .inl (if_pos hv)
  ·have hc:Ver.cmB v=true:=by
    cases h:Ver.cmB v with
    |true=>rfl
    |false=>rw[h]at hv;exact absurd rfl hv
   exact .inr ⟨⟨v,rfl,hc⟩,if_neg hv⟩
theorem don_twice(hq:RqOk q)(h0:(donFn q X a D).1.k≠0):Tw (donFn q X a D) (donFn q (donFn q X a D).2.1 a (donFn q X a D).2.2):=by
 rcases don_eq q X a D with L|⟨⟨v,e5,e1⟩,L⟩
 ·exact Tw.of (F:=fun X D=>donFn q X a D) L
 ·rw[L]at h0;split at h0
  ·exact(rf_k h0).elim
  next k1=>
  rw[if_neg k1]at L;have hn:=note_zero (Decidable.not_not.1 k1);obtain⟨O,hO⟩:=xj (noteF (eDone q.c q.n) X a D);rw[hO]at L hn;have hK:O.2.1.K=Ver.mkDone q.c q.n X.K:=by rw[hn];unfold followF;rw[if_neg (by show¬(7:Int)=1;omega),if_neg (by show¬(7:Int)=2;omega),if_neg (by show¬(7:Int)=3;omega),if_neg (by show¬(7:Int)=4;omega),if_neg (by show¬(7:Int)=5;omega),if_neg (by show¬(7:Int)=6;omega),if_pos (by rfl)];dsimp only[eDone];rw[r32_of hq.c.1,r32_of hq.c.2];unfold Ver.doneB;rw[e5];dsimp only;rw[if_pos e1]
  refine Tw.to (F:=fun X D=>donFn q X a D) L ?_;have hv:=(Ver.get_mem e5).2;have hg:Ver.getB q.c q.n O.2.1.K=some {v with dn:=true}:=by rw[hK,Ver.get_done,e5];simp[Ver.ofN,hv]
  show donFn q O.2.1 a O.2.2=_;unfold donFn;rw[hg];dsimp only;rw[if_pos (by simp)]
theorem raise_twice(c n p l:Int)(x:Lat.Ii):Lat.raise1 c n p l (Lat.raise1 c n p l x)=Lat.raise1 c n p l x:=by
 unfold Lat.raise1;split
 ·next h=>
  rw[if_neg];simp only[Lat.ltT,Bool.and_eq_true,Bool.or_eq_true,decide_eq_true_eq];omega
 ·rfl
theorem raise_map(c n p l:Int)(T:Lat.Tb):Lat.raiseF c n p l (Lat.raiseF c n p l T)=Lat.raiseF c n p l T:=by unfold Lat.raiseF;rw[List.map_map];exact List.map_congr_left fun x _=>by simp only[Function.comp];rw[raise_twice]
theorem raise_max{c n p l:Int}{x:Lat.Ii}(h:Lat.ofBy c n x=true):((Lat.raise1 c n p l x).mp,(Lat.raise1 c n p l x).ml)=Clk.maxF x.mp x.ml p l:=by
 unfold Lat.raise1 Clk.maxF;rw[h,Bool.true_and];have e:Lat.ltT x.mp x.ml p l=Clk.lessB x.mp x.ml p l:=by unfold Lat.ltT Clk.lessB;by_cases h1:x.mp<p<;>by_cases h2:x.mp=p<;>by_cases h3:x.ml<l<;>simp[h1,h2,h3]
 rw[e];split<;>rfl
theorem raise_rest(c n p l:Int)(x:Lat.Ii):(Lat.raise1 c n p l x).c=x.c/\(Lat.raise1 c n p l x).n=x.n/\(Lat.raise1 c n p l x).sp=x.sp/\(Lat.raise1 c n p l x).sl=x.sl/\(Lat.raise1 c n p l x).prim=x.prim:=by unfold Lat.raise1;split<;>exact⟨rfl,rfl,rfl,rfl,rfl⟩
theorem max_twice(a b p l:Int):Clk.maxF (Clk.maxF a b p l).1 (Clk.maxF a b p l).2 p l=Clk.maxF a b p l:=by
 unfold Clk.maxF;split
 ·next h=>rw[if_neg (by simp[Clk.lessB])]
 ·rfl
theorem by_raise(c n p l:Int)(T:Lat.Tb):Lat.byF c n (Lat.raiseF c n p l T)=(Lat.byF c n T).map fun x=>(x.1,Lat.raise1 c n p l x.2):=by unfold Lat.byF Lat.raiseF;rw[List.filter_map];congr 2;funext x;exact Lat.raise_of
theorem next_right{p l:Int}(h:(Clk.nextF p l).2.2=0):Lat.rightB (Clk.nextF p l).1 (Clk.nextF p l).2.1=true:=by
 unfold Clk.nextF at h|-;split at h
 ·next g=>
  rw[if_pos g];have:=Clk.rightB_iff.1 g;split at h
  ·next g1=>rw[if_pos g1];simp[Lat.rightB];omega
  ·next g1=>
   rw[if_neg g1];split at h
   ·next g2=>rw[if_pos g2];simp[Lat.rightB];omega
   ·simp at h
 ·simp at h
theorem pus_twice(hq:RqOk q)(hr:Ver.rightB q.sp q.sl=true)(h:Gd X)(h0:(pusFn f q X a D).1.k≠0):Tw (pusFn f q X a D) (pusFn f q (pusFn f q X a D).2.1 a (pusFn f q X a D).2.2):=by
 cases e2:knownF q.c q.n X with
 |some r=>exact Tw.of (F:=fun X D=>pusFn f q X a D) (r:=r) (by(try dsimp only);unfold pusFn;rw[e2])
 |none=>
 have GV:∀sp sl,Ts sp sl->Ver.rightB sp sl=true->pusFn f q X a D=giveF q.c q.n sp sl X a D->Tw (pusFn f q X a D) (pusFn f q (pusFn f q X a D).2.1 a (pusFn f q X a D).2.2):=fun sp sl g1 g2 L=>by
  rw[L]at h0;rcases give_known hq.c g1 g2 e2 h0 with g|⟨X1,D1,g,g1⟩
  ·exact Tw.of (F:=fun X D=>pusFn f q X a D) (L.trans g)
  ·exact Tw.to (F:=fun X D=>pusFn f q X a D) (L.trans g) (by(try dsimp only);unfold pusFn;rw[g1])
 cases e3:ownF q.c q.n X with
 |none=>exact GV q.sp q.sl hq.s hr (by unfold pusFn;rw[e2,e3])
 |some x=>
 cases e4:primF x.2 X with
 |false=>unfold pusFn at h0;rw[e2,e3]at h0;dsimp only at h0;rw[if_pos e4]at h0;exact absurd rfl h0
 |true=>
 have hx:=own_has e3;cases e5:Clk.lateB x.2.sp f with
 |true=>exact GV x.2.sp x.2.sl (h.ok.i x hx.1).1 (h.ri x hx.1) (by unfold pusFn;rw[e2,e3];dsimp only;rw[e4,e5];rfl)
 |false=>
 cases e6:(q.ap==0&&q.al==0)with
 |true=>exact Tw.of (F:=fun X D=>pusFn f q X a D) (r:=saidR 8 x.2.mp x.2.ml) (by(try dsimp only);unfold pusFn;rw[e2,e3];dsimp only;rw[e4,e5,e6];rfl)
 |false=>
 by_cases e7:(Clk.nextF q.ap q.al).2.2=0
 case neg=>unfold pusFn at h0;rw[e2,e3]at h0;dsimp only at h0;rw[e4,e5,e6,if_neg (by simp),if_neg (by simp),if_neg (by simp),if_pos e7]at h0;exact absurd rfl h0
 case pos=>
 obtain⟨N,hN⟩:=xj (Clk.nextF q.ap q.al);have hnr:=next_right e7;obtain⟨H,hH⟩:=xj (hearF f q.ap q.al X a D);have L:pusFn f q X a D=if H.1≠0 then(refR H.1,H.2)else(saidR 8 (Clk.maxF x.2.mp x.2.ml N.1 N.2.1).1 (Clk.maxF x.2.mp x.2.ml N.1 N.2.1).2,{H.2.1 with T:=Lat.rseF q.c q.n N.1 N.2.1 H.2.1.T},H.2.2):=by
  conv=>lhs;unfold pusFn
  rw[e2,e3];dsimp only;rw[e4,e5,e6,if_neg (by simp),if_neg (by simp),if_neg (by simp),if_neg (by simpa using e7),hH,hN]
 have g1:=hear_ok (f:=f) (a:=a) (D:=D) hq.a h.ok;rw[hH]at g1;rw[hN]at hnr e7;rw[L]at h0;split at h0
 ·exact(rf_k h0).elim
 next k1=>
 rw[if_neg k1]at L;refine Tw.to (F:=fun X D=>pusFn f q X a D) L ?_;have hT:Lat.rseF q.c q.n N.1 N.2.1 H.2.1.T=Lat.raiseF q.c q.n N.1 N.2.1 X.T:=by have hl:0<(Lat.byF q.c q.n X.T).length:=List.length_pos_of_mem (List.mem_of_mem_head? e3);unfold Lat.rseF Lat.rseB;rw[g1.1.T,hnr,decide_eq_true hl];rfl
 rw[hT];have own2:ownF q.c q.n {H.2.1 with T:=Lat.raiseF q.c q.n N.1 N.2.1 X.T}=some (x.1,Lat.raise1 q.c q.n N.1 N.2.1 x.2):=by unfold ownF at e3|-;dsimp only;rw[by_raise,List.head?_map,e3];rfl
 obtain⟨y,hy⟩:=xj (Lat.raise1 q.c q.n N.1 N.2.1 x.2);have hof:Lat.ofBy q.c q.n x.2=true:=by simp[Lat.ofBy,hx.2]
 have hm:=raise_max (p:=N.1) (l:=N.2.1) hof;have hs:=raise_rest q.c q.n N.1 N.2.1 x.2;rw[hy]at own2 hm hs;have pr2:primF y {H.2.1 with T:=Lat.raiseF q.c q.n N.1 N.2.1 X.T}=true:=by
  unfold primF at e4|-;dsimp only;rw[hs.2.2.2.2,Lat.raise_get];cases hg:getF x.2.prim X.T with
  |none=>rw[hg]at e4;cases e4
  |some z=>
   rw[hg]at e4;dsimp only[Option.map]at e4|-;rw[(raise_rest q.c q.n N.1 N.2.1 z).1,(raise_rest q.c q.n N.1 N.2.1 z).2.1,hs.1,hs.2.1];exact e4
 have ha:=hear_again (f:=f) (a:=a) (D:=D) (X1:={H.2.1 with T:=Lat.raiseF q.c q.n N.1 N.2.1 X.T}) (D1:=H.2.2) (by rw[hH];exact Decidable.not_not.1 k1) hq.a h.ok (by rw[hH]) (by rw[hH]) (by rw[hH]) (by rw[hH]);have kn:knownF q.c q.n {H.2.1 with T:=Lat.raiseF q.c q.n N.1 N.2.1 X.T}=none:=(known_same (X:=X) g1.1.K g1.1.S).trans e2;dsimp only;unfold pusFn;rw[kn,own2];dsimp only;rw[pr2,hs.2.2.1,e5,e6,hN,if_neg (by simp),if_neg (by simp),if_neg (by simp),if_neg (by simpa using e7),ha];dsimp only;rw[if_neg (by simp),show Clk.maxF y.mp y.ml N.1 N.2.1=Clk.maxF x.2.mp x.2.ml N.1 N.2.1 from by rw[show y.mp=(Clk.maxF x.2.mp x.2.ml N.1 N.2.1).1 from congrArg Prod.fst hm,show y.ml=(Clk.maxF x.2.mp x.2.ml N.1 N.2.1).2 from congrArg Prod.snd hm,max_twice]];have hT2:Lat.rseF q.c q.n N.1 N.2.1 (Lat.raiseF q.c q.n N.1 N.2.1 X.T)=Lat.raiseF q.c q.n N.1 N.2.1 X.T:=by
  unfold Lat.rseF;split
  ·exact raise_map _ _ _ _ _
  ·rfl
 rw[hT2]
theorem ans_twice(hq:RqOk q)(hk:q.k≠1/\q.k≠2)(hT:Srt X.T)(h:Gd X)(hf:0<=f)(u:∀X',(ansF f q X a D).2.1=X'->(ansF f q X a D).2.2.down=false)(h0:(ansF f q X a D).1.k≠0):Tw (ansF f q X a D) (ansF f q (ansF f q X a D).2.1 a (ansF f q X a D).2.2):=by
 cases hr:rightQ q with
 |false=>unfold ansF at h0;rw[if_pos hr]at h0;exact absurd rfl h0
 |true=>
 cases hd:D.down with
 |true=>unfold ansF at h0;rw[hr,hd]at h0;exact absurd rfl h0
 |false=>
 have hu:=u _ rfl;have hr2:=hr;unfold rightQ at hr2;simp only[Bool.and_eq_true,decide_eq_true_eq]at hr2;obtain⟨⟨⟨⟨⟨r1,r2⟩,r3⟩,r4⟩,r5⟩,r6⟩:=hr2;have G:∀F:Sd->Drm.Dr->Rp×Sd×Drm.Dr,(∀X D,D.down=false->ansF f q X a D=F X D)->((F X D).1.k≠0->Tw (F X D) (F (F X D).2.1 (F X D).2.2))->Tw (ansF f q X a D) (ansF f q (ansF f q X a D).2.1 a (ansF f q X a D).2.2):=fun F hF hw=>by have e:=hF X D hd;rw[hF (ansF f q X a D).2.1 (ansF f q X a D).2.2 hu,e];exact hw (by rw[<-e];exact h0)
 have A:∀X D,D.down=false->ansF f q X a D=if q.k=3 then layFn f q X a D else if q.k=4 then decFn f q X a D else if q.k=5 then appFn f q X a D else if q.k=6 then undFn q X a D else if q.k=7 then pusFn f q X a D else if q.k=8 then safFn q X a D else donFn q X a D:=fun X D hd=>by
  conv=>lhs;unfold ansF
  rw[if_neg (by rw[hr];simp),if_neg (by rw[hd];simp),if_neg hk.1,if_neg hk.2]
 by_cases k3:q.k=3
 ·rw[if_neg (by omega),if_pos k3,Bool.and_eq_true]at r6;exact G _ (fun X D h=>by rw[A X D h,if_pos k3]) (lay_twice hq r3 r6.1 r6.2 hT h hf)
 by_cases k4:q.k=4
 ·rw[if_neg (by omega),if_neg k3,if_pos (.inl k4)]at r6;exact G _ (fun X D h=>by rw[A X D h,if_neg k3,if_pos k4]) (dec_twice hq r4 (by cases e:(q.ap==0&&q.al==0)with|true=>rw[e]at r6;cases r6|false=>rfl) h)
 by_cases k5:q.k=5
 ·exact G _ (fun X D h=>by rw[A X D h,if_neg k3,if_neg k4,if_pos k5]) (fun z=>app_twice hq z h)
 by_cases k6:q.k=6
 ·exact G _ (fun X D h=>by rw[A X D h,if_neg k3,if_neg k4,if_neg k5,if_pos k6]) (und_twice hq r3)
 by_cases k7:q.k=7
 ·exact G _ (fun X D h=>by rw[A X D h,if_neg k3,if_neg k4,if_neg k5,if_neg k6,if_pos k7]) (pus_twice hq r3 h)
 by_cases k8:q.k=8
 ·exact G _ (fun X D h=>by rw[A X D h,if_neg k3,if_neg k4,if_neg k5,if_neg k6,if_neg k7,if_pos k8]) (saf_twice hq)
 ·exact G _ (fun X D h=>by rw[A X D h,if_neg k3,if_neg k4,if_neg k5,if_neg k6,if_neg k7,if_neg k8]) (don_twice hq)
structure Lv(X:Sd)(A:Sd×Drm.Dr):Prop where
 g:Gd A.1
 w:A.1.wt<=X.wt+16
 u:Up A.2
theorem Lv.refl(h:Gd X)(u:Up D):Lv X (X,D):=⟨h,Nat.le_add_right _ _,u⟩
theorem Lv.note{e:Ent.En}{X1:Sd}{D1:Drm.Dr}(s:SameD X X1)(he:Ent.EnOk e)(hk:2<=e.k/\e.k<=7)(hT:Lat.TOk X.T)(hS:Sto.SOk X.S)(h:Gd X1)(u:Up D1):Lv X (noteF e X1 a D1).2:=by obtain⟨h1,h2,h3⟩:=note_gd (a:=a) he hk (by rw[s.T];exact hT) (by rw[s.S];exact hS) h u;exact⟨h1,by rw[s.wt]at h2;exact h2,h3⟩
theorem lv_give{c n sp sl:Int}(hc:Ver.R32 c/\Ver.R32 n)(hs:Ts sp sl)(hT:Lat.TOk X.T)(hS:Sto.SOk X.S)(h:Gd X)(u:Up D):Lv X (giveF c n sp sl X a D).2:=by
 have:=Lv.note (a:=a) (SameD.refl X) (ok_undo hc hs) (by show(2:Int)<=5/\(5:Int)<=7;omega) hT hS h u;unfold giveF;split
 ·split<;>exact this
 ·exact Lv.refl h u
theorem lv_hear{p l:Int}(hp:Ts p l)(h:Gd X)(u:Up D):Lv X (hearF f p l X a D).2:=by obtain⟨h1,h2,h3⟩:=hear_gd (f:=f) (a:=a) hp h u;exact⟨h1,by rw[h2.wt];omega,h3⟩
theorem lv_hind{lo hi:List UInt8}(hq:RqOk q)(h:Gd X)(u:Up D):Lv X (hindF f q lo hi X a D).2:=by
 have:=lv_hear (f:=f) (a:=a) hq.s h u;unfold hindF;split
 ·exact Lv.refl h u
 split<;>exact this
theorem ans_lv(hq:RqOk q)(hT:Lat.TOk X.T)(hS:Sto.SOk X.S)(h:Gd X)(u:Up D)(hf:0<=f):Lv X (ansF f q X a D).2:=by
 have R:=Lv.refl h u;have NT:∀e X1 D1,SameD X X1->Ent.EnOk e->2<=e.k/\e.k<=7->Gd X1->Up D1->Lv X (noteF e X1 a D1).2:=fun e X1 D1 s he hk h u=>Lv.note s he hk hT hS h u;have HS:=hear_gd (f:=f) (a:=a) hq.s h u;have HA:=hear_gd (f:=f) (a:=a) hq.a h u;have LS:=lv_hear (f:=f) (a:=a) hq.s h u;have LA:=lv_hear (f:=f) (a:=a) hq.a h u;cases hr:rightQ q with
 |false=>unfold ansF;rw[if_pos hr];exact R
 |true=>
 have hr2:=hr;unfold rightQ at hr2;simp only[Bool.and_eq_true,decide_eq_true_eq]at hr2;obtain⟨-,r6⟩:=hr2;unfold ansF;rw[if_neg (by rw[hr];simp),if_neg (by rw[u.2];simp)];split
 ·unfold getFn;split<;>exact lv_hind hq h u
 split
 ·unfold scanFn;split<;>exact lv_hind hq h u
 split
 ·next k3=>
  rw[if_neg (by omega),if_pos k3,Bool.and_eq_true]at r6;unfold layFn;split
  ·exact R
  split
  ·exact R
  split
  ·exact R
  split
  ·exact R
  dsimp only;split
  ·exact LS
  split
  ·exact LS
  have g2:=tick_ts HS.1.ok.n hf;have AV:=adv_gd (a:=a) g2 HS.1 HS.2.2;split
  ·exact⟨AV.1,by rw[AV.2.1.wt,HS.2.1.wt];omega,AV.2.2⟩
  split<;>exact NT _ _ _ (HS.2.1.trans AV.2.1) (ok_lay hq.c hq.s g2 r6.1 r6.2) (by show(2:Int)<=2/\(2:Int)<=7;omega) AV.1 AV.2.2
 split
 ·unfold decFn;split
  ·exact R
  split
  ·exact R
  next x e3=>
  have hi:=(h.ok.i x (own_has e3).1).1;split
  ·exact R
  split
  ·exact R
  dsimp only;split
  ·exact LA
  split<;>exact NT _ _ _ HA.2.1 (ok_commit hq.c hi hq.a hq.p) (by show(2:Int)<=3/\(3:Int)<=7;omega) HA.1 HA.2.2
 split
 ·obtain⟨b,hb⟩:=app_eq f q X a;rw[hb X D rfl];split
  ·exact R
  split
  ·exact R
  split
  ·exact R
  dsimp only;split
  ·exact LA
  split<;>exact NT _ _ _ HA.2.1 (ok_apply hq.c hq.a) (by show(2:Int)<=4/\(4:Int)<=7;omega) HA.1 HA.2.2
 split
 ·unfold undFn;split
  ·exact R
  ·exact lv_give hq.c hq.s hT hS h u
 split
 ·unfold pusFn;split
  ·exact R
  split
  ·exact lv_give hq.c hq.s hT hS h u
  next x e3=>
  have hi:=(h.ok.i x (own_has e3).1).1;split
  ·exact R
  split
  ·exact lv_give hq.c hi hT hS h u
  split
  ·exact R
  split
  ·exact R
  dsimp only;split
  ·exact LA
  ·have hn:=next_ts hq.a;have hz:∀y∈Lat.rseF q.c q.n (Clk.nextF q.ap q.al).1 (Clk.nextF q.ap q.al).2.1 (hearF f q.ap q.al X a D).2.1.T,∃x∈(hearF f q.ap q.al X a D).2.1.T,y=x\/y=(x.1,Lat.raise1 q.c q.n (Clk.nextF q.ap q.al).1 (Clk.nextF q.ap q.al).2.1 x.2):=fun y hy=>by
    unfold Lat.rseF at hy;split at hy
    ·obtain⟨x,hx,rfl⟩:=List.mem_map.1 hy;exact⟨x,hx,.inr rfl⟩
    ·exact⟨y,hy,.inl rfl⟩
   have o:=HA.1.ok;refine⟨⟨⟨o.s,o.n,o.b,?_,?_,o.k⟩,?_,HA.1.ky⟩,?_,HA.2.2⟩
   ·intro z hz';obtain⟨y,hy,rfl⟩:=List.mem_map.1 hz';obtain⟨x,hx,rfl|rfl⟩:=hz y hy
    ·exact o.t _ (List.mem_map.2 ⟨_,hx,rfl⟩)
    ·have:=o.t _ (List.mem_map.2 ⟨x,hx,rfl⟩);dsimp only;rw[(raise_rest _ _ _ _ x.2).1,(raise_rest _ _ _ _ x.2).2.1];exact this
   ·intro y hy;obtain⟨x,hx,rfl|rfl⟩:=hz y hy
    ·exact o.i _ hx
    ·have:=o.i x hx;dsimp only;unfold Lat.raise1;split
     ·exact⟨this.1,hn⟩
     ·exact this
   ·intro y hy;obtain⟨x,hx,rfl|rfl⟩:=hz y hy
    ·exact HA.1.ri _ hx
    ·have:=HA.1.ri x hx;dsimp only;rw[(raise_rest _ _ _ _ x.2).2.2.1,(raise_rest _ _ _ _ x.2).2.2.2.1];exact this
   ·have hl:(Lat.rseF q.c q.n (Clk.nextF q.ap q.al).1 (Clk.nextF q.ap q.al).2.1 (hearF f q.ap q.al X a D).2.1.T).length=(hearF f q.ap q.al X a D).2.1.T.length:=by
     unfold Lat.rseF;split
     ·exact Lat.len_raise _ _ _ _ _
     ·rfl
    have:=HA.2.1.wt;unfold Sd.wt at this|-;dsimp only;omega
 split
 ·unfold safFn;split
  ·exact R
  split<;>exact NT _ _ _ (SameD.refl X) (ok_safe hq.a) (by show(2:Int)<=6/\(6:Int)<=7;omega) h u
 ·rcases don_eq q X a D with L|⟨-,L⟩<;>rw[L]
  ·exact R
  ·split<;>exact NT _ _ _ (SameD.refl X) (ok_done hq.c) (by show(2:Int)<=7/\(7:Int)<=7;omega) h u
end Go.Proofs.YtdplfgcoaddbdaaGreat
