import Derived.Test.YtnfpfbehebcdpaaGreatUay
set_option maxHeartbeats 0
set_option maxRecDepth 99999
set_option linter.all false
namespace Go.Proofs.YtnfpfbehebcdpaaGreat
open Go.RowKit
variable {SA:TyS}{TA:TyT}{BA:TyB}{f:Fp}{M:Nat->Prop}{X:Sd}{a:Int}{g:Nat}{D:Drm.Dr}{w:World}
def V7(E:Env SA TA BA)(h:ShAt SA TA BA f M X a g D w)(k:Int)(q:Rq)(wa:Option Addr)(wc:Nat)(sa:Option Addr)(sc:Nat):∃b1 Lo,b1=w.heap.size+1/\Lo=[(b1,Obj.cells (zC 0 0 0 0) 48 (0,0)),(w.heap.size,Obj.cells (rqC k q wa wc sa sc) 42 (0,0))]/\
  Hid (Cx SA TA BA f M w X a g D Lo ((w.alloc (.cells (rqC k q wa wc sa sc) 42)).alloc (.cells (zC 0 0 0 0) 48)))/\
  Hid (∀(X:Sd) (D:Drm.Dr) W,Cx SA TA BA f M w X a g D Lo W->W.heap[b1]?=some (.cells (zC 0 0 0 0) 48 (0,0)))/\
  Hid (∀(X:Sd) (D:Drm.Dr) W (v0 v1 v2 v3 v4 v5 v6 v7 v8 v9 v10 v11 v12 v13:Value),Cx SA TA BA f M w X a g D Lo W->ShTo SA TA BA f M w X a g D (s14 W b1 v0 v1 v2 v3 v4 v5 v6 v7 v8 v9 v10 v11 v12 v13))/\
  Hid (∀(X:Sd) (D:Drm.Dr) W W',Cx SA TA BA f M w X a g D Lo W->Bz W W'->Cx SA TA BA f M w X a g D Lo W')/\
  Hid (∀(X:Sd) (D:Drm.Dr) W cs,Cx SA TA BA f M w X a g D Lo W->Cx SA TA BA f M w X a g D ((W.heap.size,.cells cs 38 (0,0))::Lo) (W.alloc (.cells cs 38 (0,0))))/\
  Hid (∀e W,cpr 26 #[iw e] W λr w'=>r=.returned (.agg (zC 0 e 0 0))/\Bw W w')/\
  Hid (∀k p l W,cpr 139 #[iw k,.agg #[uw p,ui l]] W λe w'=>e=.returned (.agg (zC k 0 p l))/\Bw W w'):=by
 refine⟨_,_,rfl,rfl,?_,λX D W hW=>hW.has _ tq0,λX D W v0 v1 v2 v3 v4 v5 v6 v7 v8 v9 v10 v11 v12 v13 hW=>hW.awr E tq0 (by omega),λX D W W' hW hb=>hW.on E hb,λX D W cs hW=>hW.new E cs 38 (by decide),λe W=>Wq e W,λk p l W=>ac9 k p l W⟩;show Cx _ _ _ _ _ _ _ _ _ _ _ _;have h1:=((Cx.start h).new E (rqC k q wa wc sa sc) 42 (by decide)).new E (zC 0 0 0 0) 48 (by decide);rw[Jf]at h1;exact h1
def setb{b1:Nat}{k:Int}{q:Rq}{wa sa:Option Addr}{wc sc:Nat}{Lo:List (Nat×Obj)}{W0:World}(_h:Hid (Cx SA TA BA f M w X a g D Lo W0))(hLo:Lo=[(b1,Obj.cells (zC 0 0 0 0) 48 (0,0)),(w.heap.size,Obj.cells (rqC k q wa wc sa sc) 42 (0,0))]):Hid (∀(X:Sd) (D:Drm.Dr) W,Cx SA TA BA f M w X a g D Lo W->ce W w.heap.size 0 (iw k)/\ce W w.heap.size 1 (ui q.c)/\ce W w.heap.size 2 (ui q.n)/\ce W w.heap.size 3 (uw q.sp)/\ce W w.heap.size 4 (ui q.sl)/\ce W w.heap.size 5 (uw q.ap)/\ce W w.heap.size 6 (ui q.al)/\ce W w.heap.size 7 (sd q.key)/\ce W w.heap.size 8 (sd q.hi)/\ce W w.heap.size 9 (iw q.lim)/\ce W w.heap.size 10 (ub q.pt)/\ce W w.heap.size 11 (.slice wa q.ws.length wc)/\ce W w.heap.size 12 (.slice sa q.sk.length sc)):=λX D W hW=>by subst hLo;have c:∀{j:Nat} {u:Value},(rqC k q wa wc sa sc)[j]?=some u->ce W w.heap.size j u:=λe=>hW.has.cell tq1 e;exact⟨c rfl,c rfl,c rfl,c rfl,c rfl,c rfl,c rfl,c rfl,c rfl,c rfl,c rfl,c rfl,c rfl⟩
