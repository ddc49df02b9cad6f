import Derived.Test.YtdplfgcoaddbdaaGreatXba
set_option maxHeartbeats 4000000
set_option maxRecDepth 100000
set_option linter.unusedVariables false
set_option linter.unusedSimpArgs false
namespace Go.Proofs.YtdplfgcoaddbdaaGreat
open Go.RowKit
variable {X:Sd}{a:Int}{D:Drm.Dr}{w W W':World}
structure SameD(X X':Sd):Prop where
 S:X'.S=X.S
 T:X'.T=X.T
 K:X'.K=X.K
 sp:X'.sp=X.sp
 sl:X'.sl=X.sl
theorem SameD.refl(X:Sd):SameD X X:=⟨rfl,rfl,rfl,rfl,rfl⟩
theorem SameD.trans{X Y Z:Sd}(h:SameD X Y)(k:SameD Y Z):SameD X Z:=⟨k.S.trans h.S,k.T.trans h.T,k.K.trans h.K,k.sp.trans h.sp,k.sl.trans h.sl⟩
theorem SameD.wt{X X':Sd}(h:SameD X X'):X'.wt=X.wt:=by unfold Sd.wt;rw[h.S,h.T,h.K]
theorem follow_bound(p l:Int)(X:Sd):followF (eBound p l) X={X with bp:=(p.toNat:Int),bl:=(l.toNat:Int)}:=by unfold followF;rw[if_pos (show(eBound p l).k=1 from rfl)];rfl
theorem note_bound{p l:Int}(hp:Ts p l)(hX:XOk X):SameD X (noteF (eBound p l) X a D).2.1/\XOk (noteF (eBound p l) X a D).2.1/\(noteF (eBound p l) X a D).2.1.np=X.np/\(noteF (eBound p l) X a D).2.1.nl=X.nl:=by
 unfold noteF;split
 ·exact⟨SameD.refl X,hX,rfl,rfl⟩
 split
 ·exact⟨SameD.refl X,hX,rfl,rfl⟩
 ·rw[follow_bound,nat_of hp.1.1,nat_of hp.2.1];exact⟨⟨rfl,rfl,rfl,rfl,rfl⟩,⟨hX.s,hX.n,hp,hX.t,hX.i,hX.k⟩,rfl,rfl⟩
theorem adv_ok{p l:Int}(hp:Ts p l)(hX:XOk X):SameD X (advF p l X a D).2.1/\XOk (advF p l X a D).2.1:=by
 have hb:=note_bound (a:=a) (D:=D) (bound_ts hp) hX;unfold advF;split
 ·split
  ·exact⟨hb.1,hb.2.1⟩
  ·exact⟨⟨hb.1.S,hb.1.T,hb.1.K,hb.1.sp,hb.1.sl⟩,⟨hb.2.1.s,hp,hb.2.1.b,hb.2.1.t,hb.2.1.i,hb.2.1.k⟩⟩
 ·exact⟨⟨rfl,rfl,rfl,rfl,rfl⟩,⟨hX.s,hp,hX.b,hX.t,hX.i,hX.k⟩⟩
theorem hear_ok{f p l:Int}(hp:Ts p l)(hX:XOk X):SameD X (hearF f p l X a D).2.1/\XOk (hearF f p l X a D).2.1:=by
 unfold hearF;split
 ·exact⟨SameD.refl X,hX⟩
 ·exact adv_ok (merge_ts hX.n hp) hX
theorem next_ts{p l:Int}(h:Ts p l):Ts (Clk.nextF p l).1 (Clk.nextF p l).2.1:=by
 have h1:=h.1;have h2:=h.2;have z:Ts 0 0:=⟨⟨by decide,by decide⟩,by decide,by decide⟩;unfold Clk.nextF;repeat' split
 all_goals first|exact z|(simp_all [Clk.rightB];refine⟨⟨?_,?_⟩,?_,?_⟩<;>first|omega|(simp;omega))
theorem tick_ts{p l f:Int}(h:Ts p l)(hf:0<=f):Ts (Clk.tickF p l f).1 (Clk.tickF p l f).2.1:=by
 have z:Ts 0 0:=⟨⟨by decide,by decide⟩,by decide,by decide⟩;have hn:=next_ts h;unfold Clk.tickF;repeat' split
 all_goals first|exact z|exact hn|(refine⟨⟨hf,?_⟩,?_,?_⟩<;>simp_all<;>omega)
theorem kn_parts(o:Option Rp):∃r z,knV o=.tuple #[rpV r sy,.bool z]/\z=o.isSome/\(∀x,o=some x->r=x):=by
 cases o with
 |none=>exact⟨_,_,rfl,rfl,fun x e=>by cases e⟩
 |some x=>exact⟨_,_,rfl,rfl,fun x e=>by injection e⟩
theorem fs_parts(o:Option (List UInt8×Lat.Ii)):∃x z,Lat.fsV o=.tuple #[Lat.inV x,.bool z]/\z=o.isSome/\(∀y,o=some y->x=y):=by
 cases o with
 |none=>exact⟨_,_,rfl,rfl,fun x e=>by cases e⟩
 |some x=>exact⟨_,_,rfl,rfl,fun x e=>by injection e⟩
theorem enV_lay{c n sp sl mp ml:Int}{prim:List UInt8}{ws:List Wr}{ao:Option Addr}{cp:Nat}(hc:Ver.R32 c/\Ver.R32 n)(hs:Ts sp sl)(hm:Ts mp ml):enV (eLay c n sp sl mp ml prim ws) ao cp=.agg #[iw 2,ui c,ui n,uw sp,ui sl,uw 0,ui 0,uw mp,ui ml,sd prim,ub 0,.bool false,.slice ao ws.length cp]:=by unfold enV eLay;dsimp only;rw[nat_of hc.1.1,nat_of hc.2.1,nat_of hs.1.1,nat_of hs.2.1,nat_of hm.1.1,nat_of hm.2.1];rfl
theorem enV_commit{c n sp sl ap al pt:Int}(hc:Ver.R32 c/\Ver.R32 n)(hs:Ts sp sl)(ha:Ts ap al)(hp:Ver.R8 pt):enV (eCommit c n sp sl ap al pt) none 0=.agg #[iw 3,ui c,ui n,uw sp,ui sl,uw ap,ui al,uw 0,ui 0,su,ub pt,.bool false,sy]:=by unfold enV eCommit;dsimp only;rw[nat_of hc.1.1,nat_of hc.2.1,nat_of hs.1.1,nat_of hs.2.1,nat_of ha.1.1,nat_of ha.2.1,nat_of hp.1];rfl
theorem enV_apply{c n ap al:Int}(hc:Ver.R32 c/\Ver.R32 n)(ha:Ts ap al):enV (eApply c n ap al) none 0=.agg #[iw 4,ui c,ui n,uw 0,ui 0,uw ap,ui al,uw 0,ui 0,su,ub 0,.bool false,sy]:=by unfold enV eApply;dsimp only;rw[nat_of hc.1.1,nat_of hc.2.1,nat_of ha.1.1,nat_of ha.2.1];rfl
theorem enV_undo{c n sp sl:Int}(hc:Ver.R32 c/\Ver.R32 n)(hs:Ts sp sl):enV (eUndo c n sp sl) none 0=.agg #[iw 5,ui c,ui n,uw sp,ui sl,uw 0,ui 0,uw 0,ui 0,su,ub 0,.bool false,sy]:=by unfold enV eUndo;dsimp only;rw[nat_of hc.1.1,nat_of hc.2.1,nat_of hs.1.1,nat_of hs.2.1];rfl
theorem enV_safe{p l:Int}(h:Ts p l):enV (eSafe p l) none 0=.agg #[iw 6,ui 0,ui 0,uw 0,ui 0,uw p,ui l,uw 0,ui 0,su,ub 0,.bool false,sy]:=by unfold enV eSafe;dsimp only;rw[nat_of h.1.1,nat_of h.2.1];rfl
theorem enV_done{c n:Int}(hc:Ver.R32 c/\Ver.R32 n):enV (eDone c n) none 0=.agg #[iw 7,ui c,ui n,uw 0,ui 0,uw 0,ui 0,uw 0,ui 0,su,ub 0,.bool false,sy]:=by unfold enV eDone;dsimp only;rw[nat_of hc.1.1,nat_of hc.2.1];rfl
theorem r32_nat{x:Int}(h:Ver.R32 x):x.toNat<4294967296:=by have:=h.1;have:=h.2;omega
theorem ok_lay{c n sp sl mp ml:Int}{prim:List UInt8}{ws:List Wr}(hc:Ver.R32 c/\Ver.R32 n)(hs:Ts sp sl)(hm:Ts mp ml)(hk:kOk prim=true)(hw:rightW ws=true):Ent.EnOk (eLay c n sp sl mp ml prim ws):=by
 have h1:=Lat.right_parts hw;have h2:prim.length<=32:=by simp[kOk]at hk;exact hk.2
 refine ok_en (by omega) ⟨r32_nat hc.1,r32_nat hc.2⟩ (ts_nat hs) (by omega) (ts_nat hm) (by omega) (by omega) (by have:=h1.2.2.2;omega) (fun x hx=>?_);have h3:=h1.1 x hx;simp only[wOk,kOk,Bool.and_eq_true,decide_eq_true_eq]at h3;exact⟨by omega,by omega⟩
theorem ok_commit{c n sp sl ap al pt:Int}(hc:Ver.R32 c/\Ver.R32 n)(hs:Ts sp sl)(ha:Ts ap al)(hp:Ver.R8 pt):Ent.EnOk (eCommit c n sp sl ap al pt):=
 ok_en (by omega) ⟨r32_nat hc.1,r32_nat hc.2⟩ (ts_nat hs) (ts_nat ha) (by omega) (by simp) (by have:=hp.1;have:=hp.2;omega) (by simp) (fun w hw=>by cases hw)
theorem ok_apply{c n ap al:Int}(hc:Ver.R32 c/\Ver.R32 n)(ha:Ts ap al):Ent.EnOk (eApply c n ap al):=
 ok_en (by omega) ⟨r32_nat hc.1,r32_nat hc.2⟩ (by omega) (ts_nat ha) (by omega) (by simp) (by omega) (by simp) (fun w hw=>by cases hw)
theorem ok_undo{c n sp sl:Int}(hc:Ver.R32 c/\Ver.R32 n)(hs:Ts sp sl):Ent.EnOk (eUndo c n sp sl):=
 ok_en (by omega) ⟨r32_nat hc.1,r32_nat hc.2⟩ (ts_nat hs) (by omega) (by omega) (by simp) (by omega) (by simp) (fun w hw=>by cases hw)
theorem ok_safe{p l:Int}(h:Ts p l):Ent.EnOk (eSafe p l):=ok_en (by omega) (by omega) (by omega) (ts_nat h) (by omega) (by simp) (by omega) (by simp) (fun w hw=>by cases hw)
theorem ok_done{c n:Int}(hc:Ver.R32 c/\Ver.R32 n):Ent.EnOk (eDone c n):=
 ok_en (by omega) ⟨r32_nat hc.1,r32_nat hc.2⟩ (by omega) (by omega) (by omega) (by simp) (by omega) (by simp) (fun w hw=>by cases hw)
end Go.Proofs.YtdplfgcoaddbdaaGreat
