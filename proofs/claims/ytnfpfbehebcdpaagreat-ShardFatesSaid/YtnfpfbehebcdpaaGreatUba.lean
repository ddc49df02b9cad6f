import Derived.Test.YtnfpfbehebcdpaaGreatUay
set_option maxHeartbeats 0
set_option maxRecDepth 99999
set_option linter.all false
namespace Go.Proofs.YtnfpfbehebcdpaaGreat
open Go.RowKit
variable {X:Sd}{a:Int}{D:Drm.Dr}{w W W':World}
structure Ik(X X':Sd):Prop where
 S:X'.S=X.S
 T:X'.T=X.T
 K:X'.K=X.K
 sp:X'.sp=X.sp
 sl:X'.sl=X.sl
def Ik.refl(X:Sd):Ik X X:=⟨rfl,rfl,rfl,rfl,rfl⟩
def Ik.trans{X Y Z:Sd}(h:Ik X Y)(k:Ik Y Z):Ik X Z:=⟨k.S.trans h.S,k.T.trans h.T,k.K.trans h.K,k.sp.trans h.sp,k.sl.trans h.sl⟩
def Ik.wt{X X':Sd}(h:Ik X X'):X'.wt=X.wt:=by unfold Sd.wt;rw[h.S,h.T,h.K]
def Vq(p l:Int)(X:Sd):Bc (Ei p l) X={X with bp:=(p.toNat:Int),bl:=(l.toNat:Int)}:=by unfold Bc;rw[ah (show(Ei p l).k=1 from rfl)];rfl
def ahm{p l:Int}(hp:Ts p l)(hX:XOk X):Ik X (Az (Ei p l) X a D).2.1/\XOk (Az (Ei p l) X a D).2.1/\(Az (Ei p l) X a D).2.1.np=X.np/\(Az (Ei p l) X a D).2.1.nl=X.nl:=by
 unfold Az;split
 .exact⟨Ik.refl X,hX,rfl,rfl⟩
 split
 .exact⟨Ik.refl X,hX,rfl,rfl⟩
 .rw[Vq,Bh hp.1.1,Bh hp.2.1];exact⟨⟨rfl,rfl,rfl,rfl,rfl⟩,⟨hX.s,hX.n,hp,hX.t,hX.i,hX.k⟩,rfl,rfl⟩
def aih{p l:Int}(hp:Ts p l)(hX:XOk X):Ik X (advF p l X a D).2.1/\XOk (advF p l X a D).2.1:=by
 have hb:=ahm (a:=a) (D:=D) (O4 hp) hX;unfold advF;split
 .split
  .exact⟨hb.1,hb.2.1⟩
  .exact⟨⟨hb.1.S,hb.1.T,hb.1.K,hb.1.sp,hb.1.sl⟩,⟨hb.2.1.s,hp,hb.2.1.b,hb.2.1.t,hb.2.1.i,hb.2.1.k⟩⟩
 .exact⟨⟨rfl,rfl,rfl,rfl,rfl⟩,⟨hX.s,hp,hX.b,hX.t,hX.i,hX.k⟩⟩
def L8{f p l:Int}(hp:Ts p l)(hX:XOk X):Ik X (Ah f p l X a D).2.1/\XOk (Ah f p l X a D).2.1:=by
 unfold Ah;split
 .exact⟨Ik.refl X,hX⟩
 .exact aih (Q3 hX.n hp) hX
def Yv{p l:Int}(h:Ts p l):Ts (Clk.Di p l).1 (Clk.Di p l).2.1:=by
 have h1:=h.1;have h2:=h.2;have z:Ts 0 0:=⟨⟨by decide,by decide⟩,by decide,by decide⟩;unfold Clk.Di;repeat' split
 all_goals first|exact z|(simp_all [Clk.Ag];refine⟨⟨?_,?_⟩,?_,?_⟩<;>first|omega|(simp;omega))
def acx{p l f:Int}(h:Ts p l)(hf:0<=f):Ts (Clk.Ir p l f).1 (Clk.Ir p l f).2.1:=by
 have z:Ts 0 0:=⟨⟨by decide,by decide⟩,by decide,by decide⟩;have hn:=Yv h;unfold Clk.Ir;repeat' split
 all_goals first|exact z|exact hn|(refine⟨⟨hf,?_⟩,?_,?_⟩<;>simp_all<;>omega)
def Nw(o:Option Rp):∃r z,knV o=.tuple #[rpV r sy,.bool z]/\z=o.isSome/\(∀x,o=some x->r=x):=by
 exact bae
def Oz(o:Option (Bi×Lat.Ii)):∃x z,Lat.fsV o=.tuple #[Lat.inV x,.bool z]/\z=o.isSome/\(∀y,o=some y->x=y):=by
 exact bae
def ave{c n sp sl mp ml:Int}{prim:Bi}{ws:List Wr}{ao:Option Addr}{cp:Nat}(hc:Ver.R32 c/\Ver.R32 n)(hs:Ts sp sl)(hm:Ts mp ml):enV (eLay c n sp sl mp ml prim ws) ao cp=.agg #[iw 2,ui c,ui n,uw sp,ui sl,uw 0,ui 0,uw mp,ui ml,sd prim,ub 0,.bool false,.slice ao ws.length cp]:=by unfold enV eLay;dsimp only;rw[Bh hc.1.1,Bh hc.2.1,Bh hs.1.1,Bh hs.2.1,Bh hm.1.1,Bh hm.2.1];rfl
def ah7{c n sp sl ap al pt:Int}(hc:Ver.R32 c/\Ver.R32 n)(hs:Ts sp sl)(ha:Ts ap al)(hp:Ver.R8 pt):enV (Ie c n sp sl ap al pt) none 0=.agg #[iw 3,ui c,ui n,uw sp,ui sl,uw ap,ui al,uw 0,ui 0,su,ub pt,.bool false,sy]:=by unfold enV Ie;dsimp only;rw[Bh hc.1.1,Bh hc.2.1,Bh hs.1.1,Bh hs.2.1,Bh ha.1.1,Bh ha.2.1,Bh hp.1];rfl
def amk{c n ap al:Int}(hc:Ver.R32 c/\Ver.R32 n)(ha:Ts ap al):enV (I4 c n ap al) none 0=.agg #[iw 4,ui c,ui n,uw 0,ui 0,uw ap,ui al,uw 0,ui 0,su,ub 0,.bool false,sy]:=by unfold enV I4;dsimp only;rw[Bh hc.1.1,Bh hc.2.1,Bh ha.1.1,Bh ha.2.1];rfl
def aq2{c n sp sl:Int}(hc:Ver.R32 c/\Ver.R32 n)(hs:Ts sp sl):enV (La c n sp sl) none 0=.agg #[iw 5,ui c,ui n,uw sp,ui sl,uw 0,ui 0,uw 0,ui 0,su,ub 0,.bool false,sy]:=by unfold enV La;dsimp only;rw[Bh hc.1.1,Bh hc.2.1,Bh hs.1.1,Bh hs.2.1];rfl
def aq3{p l:Int}(h:Ts p l):enV (Lc p l) none 0=.agg #[iw 6,ui 0,ui 0,uw 0,ui 0,uw p,ui l,uw 0,ui 0,su,ub 0,.bool false,sy]:=by unfold enV Lc;dsimp only;rw[Bh h.1.1,Bh h.2.1];rfl
def aq4{c n:Int}(hc:Ver.R32 c/\Ver.R32 n):enV (I7 c n) none 0=.agg #[iw 7,ui c,ui n,uw 0,ui 0,uw 0,ui 0,uw 0,ui 0,su,ub 0,.bool false,sy]:=by unfold enV I7;dsimp only;rw[Bh hc.1.1,Bh hc.2.1];rfl
def J6{x:Int}(h:Ver.R32 x):x.toNat<4294967296:=by have:=h.1;have:=h.2;omega
def ahh{c n sp sl mp ml:Int}{prim:Bi}{ws:List Wr}(hc:Ver.R32 c/\Ver.R32 n)(hs:Ts sp sl)(hm:Ts mp ml)(hk:kOk prim=true)(hw:Bf ws=true):Ent.EnOk (eLay c n sp sl mp ml prim ws):=by
 have h1:=Lat.Jc hw;have h2:prim.length<=32:=by simp[kOk]at hk;exact hk.2
 refine aab (by omega) ⟨J6 hc.1,J6 hc.2⟩ (Qp hs) (by omega) (Qp hm) (by omega) (by omega) (by have:=h1.2.2.2;omega) (λx hx=>?_);have h3:=h1.1 x hx;simp only[wOk,kOk,cu,jc]at h3;exact⟨by omega,by omega⟩
def Wy{c n sp sl ap al pt:Int}(hc:Ver.R32 c/\Ver.R32 n)(hs:Ts sp sl)(ha:Ts ap al)(hp:Ver.R8 pt):Ent.EnOk (Ie c n sp sl ap al pt):=
 aab (by omega) ⟨J6 hc.1,J6 hc.2⟩ (Qp hs) (Qp ha) (by omega) (by simp) (by have:=hp.1;have:=hp.2;omega) (by simp) (λw hw=>by cases hw)
def aac{c n ap al:Int}(hc:Ver.R32 c/\Ver.R32 n)(ha:Ts ap al):Ent.EnOk (I4 c n ap al):=
 aab (by omega) ⟨J6 hc.1,J6 hc.2⟩ (by omega) (Qp ha) (by omega) (by simp) (by omega) (by simp) (λw hw=>by cases hw)
def adh{c n sp sl:Int}(hc:Ver.R32 c/\Ver.R32 n)(hs:Ts sp sl):Ent.EnOk (La c n sp sl):=
 aab (by omega) ⟨J6 hc.1,J6 hc.2⟩ (Qp hs) (by omega) (by omega) (by simp) (by omega) (by simp) (λw hw=>by cases hw)
def adi{p l:Int}(h:Ts p l):Ent.EnOk (Lc p l):=aab (by omega) (by omega) (by omega) (Qp h) (by omega) (by simp) (by omega) (by simp) (λw hw=>by cases hw)
def adk{c n:Int}(hc:Ver.R32 c/\Ver.R32 n):Ent.EnOk (I7 c n):=
 aab (by omega) ⟨J6 hc.1,J6 hc.2⟩ (by omega) (by omega) (by omega) (by simp) (by omega) (by simp) (λw hw=>by cases hw)
