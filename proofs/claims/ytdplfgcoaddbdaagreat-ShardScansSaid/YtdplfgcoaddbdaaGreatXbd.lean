import Derived.Test.YtdplfgcoaddbdaaGreatXbc
set_option maxHeartbeats 4000000
set_option maxRecDepth 100000
set_option linter.unusedVariables false
set_option linter.unusedSimpArgs false
namespace Go.Proofs.YtdplfgcoaddbdaaGreat
variable {X:Sd}{a:Int}{D:Drm.Dr}
def Up(D:Drm.Dr):Prop:=D.fuel<0/\D.down=false
theorem Up.step(h:Up D)(a:Int)(r:Drm.Pt->Int)(t:Drm.Pt->Drm.Pt):Up (D.step a r t).2:=by
 unfold Drm.Dr.step;repeat' split
 ·exact h
 ·exact h
 ·exact h
 ·next e=>exact absurd e (by have:=h.1;omega)
 ·refine⟨?_,h.2⟩;show(if 0<D.fuel then D.fuel-1 else D.fuel)<0;have:=h.1;split<;>omega
theorem Up.put(h:Up D)(a:Int)(s:List UInt8):Up (Lgs.putF D a s).2:=by
 unfold Lgs.putF;split
 ·exact h.step _ _ _
 ·exact Up.step (h.step _ _ _) _ _ _
theorem Up.app(h:Up D)(a:Int)(r:List UInt8):Up (Lgs.appendF D a r).2:=by
 unfold Lgs.appendF;split
 ·exact h
 ·exact h.put _ _
theorem Up.lay(h:Up D)(a:Int)(g:Nat)(R:List (List UInt8)):Up (Lgs.layF D a g R).2:=by
 unfold Lgs.layF;split
 ·exact h.step _ _ _
 ·exact Up.put (h.step _ _ _) _ _
structure Gd(X:Sd):Prop where
 ok:XOk X
 ri:∀x∈X.T,Clk.rightB x.2.sp x.2.sl=true
 ky:∀x∈X.S,kOk x.1=true
theorem Gd.same{X':Sd}(h:Gd X)(s:SameD X X')(o:XOk X'):Gd X':=⟨o,by rw[s.T];exact h.ri,by rw[s.S];exact h.ky⟩
theorem ky_puts{c n ap al:Int}:∀{L:Lat.Tb} {S:Sto.Sk},(∀x∈S,kOk x.1=true)->∀x∈putsF c n ap al L S,kOk x.1=true
 |[],_,h=>h
 |y::r,S,h=>ky_puts (L:=r) (fun x hx=>by
  unfold Sto.putS at hx;split at hx
  ·next e=>
   split at hx
   ·rcases setF_keys hx with rfl|hx
    ·exact e
    ·exact h x hx
   ·exact h x hx
  ·exact h x hx)
theorem ky_prune{p l:Int}{S:Sto.Sk}(h:∀x∈S,kOk x.1=true):∀x∈Sto.pruneS p l S,kOk x.1=true:=fun x hx=>by
 obtain⟨y,hy,e⟩:=List.mem_filterMap.1 hx;unfold Sto.prune1 at e;split at e
 ·cases e
 ·injection e with e;subst e;exact h y hy
theorem rgt_sub{T U:Lat.Tb}(h:Ver.RgT (holdF T))(hs:∀x∈U,x∈T):Ver.RgT (holdF U):=fun y hy=>by obtain⟨x,hx,rfl⟩:=List.mem_map.1 hy;exact h _ (List.mem_map.2 ⟨x,hs x hx,rfl⟩)
theorem set_mem{v x:Ver.Vd}{K:Ver.Bk}(h:x∈(Ver.setB v K).1):x=v\/x∈K:=by
 unfold Ver.setB at h;split at h
 ·split at h
  ·exact .inr h
  ·exact Ver.ins_mem.1 h
 ·exact .inr h
theorem done_mem{c n:Int}{x:Ver.Vd}{K:Ver.Bk}(h:x∈(Ver.doneB c n K).1):x∈K\/∃y∈K,x={y with dn:=true}:=by
 unfold Ver.doneB at h;split at h
 ·split at h
  ·obtain⟨y,hy,rfl⟩:=List.mem_map.1 h;split
   ·exact .inr ⟨y,hy,rfl⟩
   ·exact .inl hy
  ·exact .inl h
 ·exact .inl h
theorem laid_mem{f:Wr->Lat.Ii}{x:List UInt8×Lat.Ii}:∀{l:List Wr} {T:Lat.Tb},x∈Lat.laidF f l T->x∈T\/∃w∈l,x=(w.key,f w)
 |[],_,h=>.inl h
 |w::l,T,h=>by
  rcases laid_mem (l:=l) h with h|⟨y,hy,e⟩
  ·rcases setF_keys h with h|h
   ·exact .inr ⟨w,List.mem_cons_self ..,h⟩
   ·exact .inl h
  ·exact .inr ⟨y,List.mem_cons_of_mem _ hy,e⟩
theorem rest_sub{c n:Int}{T:Lat.Tb}:∀x∈Lat.restF c n T,x∈T:=fun _ h=>(List.mem_filter.1 h).1
theorem Gd.cut(h:Gd X)(c n:Int){S:Sto.Sk}{K:Ver.Bk}(hK:∀v∈K,Ver.RgV v)(hs:∀x∈S,kOk x.1=true):Gd {X with S:=S,T:=Lat.restF c n X.T,K:=K}:=
 ⟨⟨h.ok.s,h.ok.n,h.ok.b,rgt_sub h.ok.t rest_sub,fun x hx=>h.ok.i x (rest_sub x hx),hK⟩,fun x hx=>h.ri x (rest_sub x hx),hs⟩
theorem Gd.book(h:Gd X){K:Ver.Bk}(hK:∀v∈K,Ver.RgV v):Gd {X with K:=K}:=⟨⟨h.ok.s,h.ok.n,h.ok.b,h.ok.t,h.ok.i,hK⟩,h.ri,h.ky⟩
theorem set_rg{v:Ver.Vd}{K:Ver.Bk}(hv:Ver.RgV v)(hK:∀v∈K,Ver.RgV v):∀x∈(Ver.setB v K).1,Ver.RgV x:=fun x hx=>by
 rcases set_mem hx with rfl|h
 ·exact hv
 ·exact hK x h
theorem follow_gd{e:Ent.En}(he:Ent.EnOk e)(hk:2<=e.k/\e.k<=7)(hT:Lat.TOk X.T)(hS:Sto.SOk X.S)(h:Gd X):Gd (followF e X)/\(followF e X).wt<=X.wt+16:=by
 obtain⟨r1,r2,r3,r4,r5⟩:=rgV_of he;have hm:=he.mp;have hs:=he.sp;have hb:=Lat.by_rest e.c e.n X.T;unfold followF;rw[if_neg (by omega)];split
 ·constructor
  ·refine⟨⟨h.ok.s,h.ok.n,h.ok.b,?_,?_,h.ok.k⟩,?_,h.ky⟩;all_goals
    rcases Lat.lay_cases (Lat.rightB e.sp e.sl&&Lat.rightB e.mp e.ml&&kOk e.prim) e.c e.n e.sp e.sl e.mp e.ml e.prim e.ws X.T with⟨z,h1,_⟩|⟨h1,_,h2,_⟩<;>dsimp only<;>rw[h1]
   ·exact h.ok.t
   ·intro y hy;obtain⟨x,hx,rfl⟩:=List.mem_map.1 hy;rcases laid_mem hx with hx|⟨w,_,rfl⟩
    ·exact h.ok.t _ (List.mem_map.2 ⟨x,hx,rfl⟩)
    ·exact r4
   ·exact h.ok.i
   ·intro x hx;rcases laid_mem hx with hx|⟨w,_,rfl⟩
    ·exact h.ok.i x hx
    ·exact⟨⟨⟨by show(0:Int)<=(e.sp:Int);omega,by show(e.sp:Int)<_;omega⟩,by show(0:Int)<=(e.sl:Int);omega,by show(e.sl:Int)<_;omega⟩,⟨by show(0:Int)<=(e.mp:Int);omega,by show(e.mp:Int)<_;omega⟩,by show(0:Int)<=(e.ml:Int);omega,by show(e.ml:Int)<_;omega⟩
   ·exact h.ri
   ·intro x hx;rcases laid_mem hx with hx|⟨w,_,rfl⟩
    ·exact h.ri x hx
    ·simp only[Bool.and_eq_true]at h2;exact h2.1.1
  ·have:=Lat.len_lay hT (Lat.rightB e.sp e.sl&&Lat.rightB e.mp e.ml&&kOk e.prim) e.c e.n e.sp e.sl e.mp e.ml e.prim e.ws;unfold Sd.wt;dsimp only;omega
 split
 ·refine⟨h.cut _ _ (set_rg r2 h.ok.k) (ky_puts h.ky),?_⟩;have h1:=puts_tot (c:=e.c) (n:=e.n) (ap:=e.ap) (al:=e.al) (L:=Lat.byF e.c e.n X.T) hS;have h2:=Ver.set_len ⟨e.c,e.n,e.sp,e.sl,e.ap,e.al,e.pt,false⟩ X.K;unfold Sd.wt fixF;dsimp only;omega
 split
 ·refine⟨h.cut _ _ h.ok.k (ky_puts h.ky),?_⟩;have h1:=puts_tot (c:=e.c) (n:=e.n) (ap:=e.ap) (al:=e.al) (L:=Lat.byF e.c e.n X.T) hS;unfold Sd.wt fixF;dsimp only;omega
 split
 ·refine⟨h.cut _ _ (set_rg r3 h.ok.k) h.ky,?_⟩;have h2:=Ver.set_len ⟨e.c,e.n,e.sp,e.sl,0,0,0,false⟩ X.K;unfold Sd.wt;dsimp only;omega
 split
 ·refine⟨⟨⟨⟨⟨r5.1.1,r5.1.2⟩,r5.2.1,r5.2.2⟩,h.ok.n,h.ok.b,h.ok.t,h.ok.i,fun v hv=>h.ok.k v (List.mem_filter.1 hv).1⟩,h.ri,ky_prune h.ky⟩,?_⟩;have h1:=Sto.tot_prune e.ap e.al (S:=X.S) hS.all;have h2:=Ver.ret_len e.ap e.al (holdF X.T) X.K;unfold Sd.wt;dsimp only;omega
 split
 ·refine⟨h.book (fun v hv=>?_),?_⟩
  ·rcases done_mem hv with hv|⟨y,hy,rfl⟩
   ·exact h.ok.k v hv
   ·have:=h.ok.k y hy;exact⟨this.c,this.n,this.sp,this.sl,this.ap,this.al,this.pt⟩
  ·unfold Sd.wt;dsimp only;rw[Ver.doneB_len];omega
 ·omega
theorem note_gd{e:Ent.En}(he:Ent.EnOk e)(hk:2<=e.k/\e.k<=7)(hT:Lat.TOk X.T)(hS:Sto.SOk X.S)(h:Gd X)(u:Up D):Gd (noteF e X a D).2.1/\(noteF e X a D).2.1.wt<=X.wt+16/\Up (noteF e X a D).2.2:=by
 unfold noteF;split
 ·exact⟨h,by dsimp only;omega,u⟩
 split
 ·exact⟨h,by dsimp only;omega,u.app _ _⟩
 ·obtain⟨h1,h2⟩:=follow_gd he hk hT hS h;exact⟨h1,h2,u.app _ _⟩
theorem Up.bound(u:Up D)(p l:Int):Up (noteF (eBound p l) X a D).2.2:=by
 unfold noteF;split
 ·exact u
 split<;>exact u.app _ _
theorem adv_gd{p l:Int}(hp:Ts p l)(h:Gd X)(u:Up D):Gd (advF p l X a D).2.1/\SameD X (advF p l X a D).2.1/\Up (advF p l X a D).2.2:=by
 obtain⟨h1,h2⟩:=adv_ok (a:=a) (D:=D) hp h.ok;refine⟨h.same h1 h2,h1,?_⟩;unfold advF;split
 ·split<;>exact u.bound _ _
 ·exact u
theorem hear_gd{f p l:Int}(hp:Ts p l)(h:Gd X)(u:Up D):Gd (hearF f p l X a D).2.1/\SameD X (hearF f p l X a D).2.1/\Up (hearF f p l X a D).2.2:=by
 unfold hearF;split
 ·exact⟨h,SameD.refl X,u⟩
 ·exact adv_gd (merge_ts h.ok.n hp) h u
end Go.Proofs.YtdplfgcoaddbdaaGreat
namespace Go.Proofs.YtdplfgcoaddbdaaGreat
variable {X:Sd}{a f:Int}{D:Drm.Dr}{q:Rq}
theorem note_zero{e:Ent.En}(h:(noteF e X a D).1=0):(noteF e X a D).2.1=followF e X:=by
 unfold noteF at h|-;split at h
 ·next h1=>exact absurd h h1
 ·next h1=>
  rw[if_neg h1];split at h
  ·next h2=>exact absurd h h2
  ·next h2=>rw[if_neg h2]
theorem own_has{c n:Int}{x:List UInt8×Lat.Ii}(h:ownF c n X=some x):x∈X.T/\x.2.c=c/\x.2.n=n:=by have h1:=List.mem_filter.1 (List.mem_of_mem_head? h);have h2:=h1.2;simp only[Lat.ofBy,Bool.and_eq_true,beq_iff_eq]at h2;exact⟨h1.1,h2⟩
theorem hear_again{p l:Int}{X1:Sd}{D1:Drm.Dr}(h:(hearF f p l X a D).1=0)(hp:Ts p l)(hX:XOk X)(e1:X1.np=(hearF f p l X a D).2.1.np)(e2:X1.nl=(hearF f p l X a D).2.1.nl)(e3:X1.bp=(hearF f p l X a D).2.1.bp)(e4:X1.bl=(hearF f p l X a D).2.1.bl):hearF f p l X1 a D1=(0,X1,D1):=by
 unfold hearF at h e1 e2 e3 e4;split at h
 ·next h1=>exact absurd h h1
 next h1=>
 rw[if_neg h1]at e1 e2 e3 e4;obtain⟨m1,m2,m3,hm⟩:∃m1 m2 m3,Clk.mergeF X.np X.nl f p l=(m1,m2,m3):=⟨_,_,_,rfl⟩;rw[hm]at h h1 e1 e2 e3 e4;dsimp only at h h1 e1 e2 e3 e4;have h0:m3=0:=Decidable.not_not.1 h1;subst h0;have hr:Clk.rightB X.np X.nl=true/\Clk.rightB p l=true/\Clk.beyB p f 1000=false/\Clk.maxF X.np X.nl p l=(m1,m2):=by
  unfold Clk.mergeF at hm;split at hm
  ·next g=>
   simp only[Bool.and_eq_true]at g;split at hm
   ·simp at hm
   ·next g2=>exact⟨g.1,g.2,by simpa using g2,by simp only[Prod.mk.injEq]at hm;exact Prod.ext hm.1 hm.2.1⟩
  ·simp at hm
 obtain⟨r1,r2,r3,r4⟩:=hr;have rm:m1<=281474976710656/\m2<=4095/\Clk.lessB m1 m2 p l=false:=by
  unfold Clk.maxF at r4;rw[Clk.rightB_iff]at r1 r2;split at r4
  ·next g=>
   obtain⟨rfl,rfl⟩:=Prod.mk.inj r4;exact⟨r2.1,r2.2,Clk.lessB_not.2 (by omega)⟩
  ·next g=>
   obtain⟨rfl,rfl⟩:=Prod.mk.inj r4;exact⟨r1.1,r1.2,by simpa using g⟩
 have hm2:Clk.mergeF m1 m2 f p l=(m1,m2,0):=by unfold Clk.mergeF;rw[Clk.rightB_iff.2 ⟨rm.1,rm.2.1⟩,r2,r3];unfold Clk.maxF;rw[rm.2.2];rfl
 have hv:X1.np=m1/\X1.nl=m2/\Clk.lessB X1.bp X1.bl m1 m2=false:=by
  unfold advF at h e1 e2 e3 e4;split at h
  ·next g=>
   rw[if_pos g]at e1 e2 e3 e4;split at h
   ·next g2=>exact absurd h g2
   ·next g2=>
    rw[if_neg g2]at e1 e2 e3 e4;have g3:=note_zero (Decidable.not_not.1 g2);have g4:=merge_ts (fp:=f) hX.n hp;rw[hm]at g4;have g5:=bound_ts g4;dsimp only at e1 e2 e3 e4 g5;rw[g3,follow_bound]at e3 e4;dsimp only at e3 e4;rw[nat_of g5.1.1]at e3;rw[nat_of g5.2.1]at e4;refine⟨e1,e2,?_⟩;rw[e3,e4];unfold Clk.boundF;rw[Clk.rightB_iff.2 ⟨rm.1,rm.2.1⟩,if_pos rfl];refine Clk.lessB_not.2 ?_;dsimp only;omega
  ·next g=>
   rw[if_neg g]at e1 e2 e3 e4;refine⟨e1,e2,?_⟩;rw[e3,e4];simpa using g
 unfold hearF;rw[hv.1,hv.2.1,hm2];dsimp only;rw[if_neg (by simp)];unfold advF;rw[hv.2.2,if_neg (by simp)];congr 1;obtain⟨S,T,K,sp,sl,np,nl,bp,bl⟩:=X1;obtain⟨rfl,rfl,-⟩:=hv;rfl
theorem app_eq(f:Int)(q:Rq)(X:Sd)(a:Int):∃b:Bool,∀(X':Sd) (D:Drm.Dr),X'.K=X.K->appFn f q X' a D=if b=true then(kinR 9,X',D)else match ownF q.c q.n X' with
  |none=>(kinR 9,X',D)
  |some x=>
   if primF x.2 X'||Clk.lessB q.ap q.al x.2.mp x.2.ml then(refR 1,X',D)else
   let h:=hearF f q.ap q.al X' a D
   if h.1≠0 then(refR h.1,h.2)else
   let o:=noteF (eApply q.c q.n q.ap q.al) h.2.1 a h.2.2
   if o.1≠0 then(refR o.1,o.2)else(kinR 9,o.2):=by
 cases hg:Ver.getB q.c q.n X.K with
 |none=>exact⟨false,fun X' D e=>by unfold appFn;rw[e,hg];rfl⟩
 |some v=>exact⟨!Ver.cmB v,fun X' D e=>by unfold appFn;rw[e,hg];rfl⟩
theorem don_eq(q:Rq)(X:Sd)(a:Int)(D:Drm.Dr):(donFn q X a D=(kinR 9,X,D))\/((∃v,Ver.getB q.c q.n X.K=some v/\Ver.cmB v=true)/\donFn q X a D=if(noteF (eDone q.c q.n) X a D).1≠0 then(refR (noteF (eDone q.c q.n) X a D).1,(noteF (eDone q.c q.n) X a D).2)else(kinR 9,(noteF (eDone q.c q.n) X a D).2)):=by
 unfold donFn;cases hg:Ver.getB q.c q.n X.K with
 |none=>exact .inl rfl
 |some v=>
  dsimp only;by_cases hv:(Ver.cmB v&& !v.dn)=false
  ·exact .inl (if_pos hv)
  ·have hc:Ver.cmB v=true:=by
    cases h:Ver.cmB v with
    |true=>rfl
    |false=>rw[h]at hv;exact absurd rfl hv
   exact .inr ⟨⟨v,rfl,hc⟩,if_neg hv⟩
theorem raise_rest(c n p l:Int)(x:Lat.Ii):(Lat.raise1 c n p l x).c=x.c/\(Lat.raise1 c n p l x).n=x.n/\(Lat.raise1 c n p l x).sp=x.sp/\(Lat.raise1 c n p l x).sl=x.sl/\(Lat.raise1 c n p l x).prim=x.prim:=by unfold Lat.raise1;split<;>exact⟨rfl,rfl,rfl,rfl,rfl⟩
structure Lv(X:Sd)(A:Sd×Drm.Dr):Prop where
 g:Gd A.1
 w:A.1.wt<=X.wt+16
 u:Up A.2
theorem Lv.refl(h:Gd X)(u:Up D):Lv X (X,D):=⟨h,Nat.le_add_right _ _,u⟩
theorem Lv.note{e:Ent.En}{X1:Sd}{D1:Drm.Dr}(s:SameD X X1)(he:Ent.EnOk e)(hk:2<=e.k/\e.k<=7)(hT:Lat.TOk X.T)(hS:Sto.SOk X.S)(h:Gd X1)(u:Up D1):Lv X (noteF e X1 a D1).2:=by obtain⟨h1,h2,h3⟩:=note_gd (a:=a) he hk (by rw[s.T];exact hT) (by rw[s.S];exact hS) h u;exact⟨h1,by rw[s.wt]at h2;exact h2,h3⟩
theorem lv_give{c n sp sl:Int}(hc:Ver.R32 c/\Ver.R32 n)(hs:Ts sp sl)(hT:Lat.TOk X.T)(hS:Sto.SOk X.S)(h:Gd X)(u:Up D):Lv X (giveF c n sp sl X a D).2:=by
 have:=Lv.note (a:=a) (SameD.refl X) (ok_undo hc hs) (by show(2:Int)<=5/\(5:Int)<=7;omega) hT hS h u;unfold giveF;split
 ·split<;>exact this
 ·exact Lv.refl h u
theorem lv_hear{p l:Int}(hp:Ts p l)(h:Gd X)(u:Up D):Lv X (hearF f p l X a D).2:=by obtain⟨h1,h2,h3⟩:=hear_gd (f:=f) (a:=a) hp h u;exact⟨h1,by rw[h2.wt];omega,h3⟩
theorem lv_hind{lo hi:List UInt8}(hq:RqOk q)(h:Gd X)(u:Up D):Lv X (hindF f q lo hi X a D).2:=by
 have:=lv_hear (f:=f) (a:=a) hq.s h u;unfold hindF;split
 ·exact Lv.refl h u
 split<;>exact this
theorem ans_lv(hq:RqOk q)(hT:Lat.TOk X.T)(hS:Sto.SOk X.S)(h:Gd X)(u:Up D)(hf:0<=f):Lv X (ansF f q X a D).2:=by
 have R:=Lv.refl h u;have NT:∀e X1 D1,SameD X X1->Ent.EnOk e->2<=e.k/\e.k<=7->Gd X1->Up D1->Lv X (noteF e X1 a D1).2:=fun e X1 D1 s he hk h u=>Lv.note s he hk hT hS h u;have HS:=hear_gd (f:=f) (a:=a) hq.s h u;have HA:=hear_gd (f:=f) (a:=a) hq.a h u;have LS:=lv_hear (f:=f) (a:=a) hq.s h u;have LA:=lv_hear (f:=f) (a:=a) hq.a h u;cases hr:rightQ q with
 |false=>unfold ansF;rw[if_pos hr];exact R
 |true=>
 have hr2:=hr;unfold rightQ at hr2;simp only[Bool.and_eq_true,decide_eq_true_eq]at hr2;obtain⟨-,r6⟩:=hr2;unfold ansF;rw[if_neg (by rw[hr];simp),if_neg (by rw[u.2];simp)];split
 ·unfold getFn;split<;>exact lv_hind hq h u
 split
 ·unfold scanFn;split<;>exact lv_hind hq h u
 split
 ·next k3=>
  rw[if_neg (by omega),if_pos k3,Bool.and_eq_true]at r6;unfold layFn;split
  ·exact R
  split
  ·exact R
  split
  ·exact R
  split
  ·exact R
  dsimp only;split
  ·exact LS
  split
  ·exact LS
  have g2:=tick_ts HS.1.ok.n hf;have AV:=adv_gd (a:=a) g2 HS.1 HS.2.2;split
  ·exact⟨AV.1,by rw[AV.2.1.wt,HS.2.1.wt];omega,AV.2.2⟩
  split<;>exact NT _ _ _ (HS.2.1.trans AV.2.1) (ok_lay hq.c hq.s g2 r6.1 r6.2) (by show(2:Int)<=2/\(2:Int)<=7;omega) AV.1 AV.2.2
 split
 ·unfold decFn;split
  ·exact R
  split
  ·exact R
  next x e3=>
  have hi:=(h.ok.i x (own_has e3).1).1;split
  ·exact R
  split
  ·exact R
  dsimp only;split
  ·exact LA
  split<;>exact NT _ _ _ HA.2.1 (ok_commit hq.c hi hq.a hq.p) (by show(2:Int)<=3/\(3:Int)<=7;omega) HA.1 HA.2.2
 split
 ·obtain⟨b,hb⟩:=app_eq f q X a;rw[hb X D rfl];split
  ·exact R
  split
  ·exact R
  split
  ·exact R
  dsimp only;split
  ·exact LA
  split<;>exact NT _ _ _ HA.2.1 (ok_apply hq.c hq.a) (by show(2:Int)<=4/\(4:Int)<=7;omega) HA.1 HA.2.2
 split
 ·unfold undFn;split
  ·exact R
  ·exact lv_give hq.c hq.s hT hS h u
 split
 ·unfold pusFn;split
  ·exact R
  split
  ·exact lv_give hq.c hq.s hT hS h u
  next x e3=>
  have hi:=(h.ok.i x (own_has e3).1).1;split
  ·exact R
  split
  ·exact lv_give hq.c hi hT hS h u
  split
  ·exact R
  split
  ·exact R
  dsimp only;split
  ·exact LA
  ·have hn:=next_ts hq.a;have hz:∀y∈Lat.rseF q.c q.n (Clk.nextF q.ap q.al).1 (Clk.nextF q.ap q.al).2.1 (hearF f q.ap q.al X a D).2.1.T,∃x∈(hearF f q.ap q.al X a D).2.1.T,y=x\/y=(x.1,Lat.raise1 q.c q.n (Clk.nextF q.ap q.al).1 (Clk.nextF q.ap q.al).2.1 x.2):=fun y hy=>by
    unfold Lat.rseF at hy;split at hy
    ·obtain⟨x,hx,rfl⟩:=List.mem_map.1 hy;exact⟨x,hx,.inr rfl⟩
    ·exact⟨y,hy,.inl rfl⟩
   have o:=HA.1.ok;refine⟨⟨⟨o.s,o.n,o.b,?_,?_,o.k⟩,?_,HA.1.ky⟩,?_,HA.2.2⟩
   ·intro z hz';obtain⟨y,hy,rfl⟩:=List.mem_map.1 hz';obtain⟨x,hx,rfl|rfl⟩:=hz y hy
    ·exact o.t _ (List.mem_map.2 ⟨_,hx,rfl⟩)
    ·have:=o.t _ (List.mem_map.2 ⟨x,hx,rfl⟩);dsimp only;rw[(raise_rest _ _ _ _ x.2).1,(raise_rest _ _ _ _ x.2).2.1];exact this
   ·intro y hy;obtain⟨x,hx,rfl|rfl⟩:=hz y hy
    ·exact o.i _ hx
    ·have:=o.i x hx;dsimp only;unfold Lat.raise1;split
     ·exact⟨this.1,hn⟩
     ·exact this
   ·intro y hy;obtain⟨x,hx,rfl|rfl⟩:=hz y hy
    ·exact HA.1.ri _ hx
    ·have:=HA.1.ri x hx;dsimp only;rw[(raise_rest _ _ _ _ x.2).2.2.1,(raise_rest _ _ _ _ x.2).2.2.2.1];exact this
   ·have hl:(Lat.rseF q.c q.n (Clk.nextF q.ap q.al).1 (Clk.nextF q.ap q.al).2.1 (hearF f q.ap q.al X a D).2.1.T).length=(hearF f q.ap q.al X a D).2.1.T.length:=by
     unfold Lat.rseF;split
     ·exact Lat.len_raise _ _ _ _ _
     ·rfl
    have:=HA.2.1.wt;unfold Sd.wt at this|-;dsimp only;omega
 split
 ·unfold safFn;split
  ·exact R
  split<;>exact NT _ _ _ (SameD.refl X) (ok_safe hq.a) (by show(2:Int)<=6/\(6:Int)<=7;omega) h u
 ·rcases don_eq q X a D with L|⟨-,L⟩<;>rw[L]
  ·exact R
  ·split<;>exact NT _ _ _ (SameD.refl X) (ok_done hq.c) (by show(2:Int)<=7/\(7:Int)<=7;omega) h u
end Go.Proofs.YtdplfgcoaddbdaaGreat
