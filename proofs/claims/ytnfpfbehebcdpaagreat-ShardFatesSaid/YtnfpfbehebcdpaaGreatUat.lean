import Derived.Test.YtnfpfbehebcdpaaGreatUas
set_option maxHeartbeats 0
set_option maxRecDepth 99999
set_option linter.all false
namespace Go.Proofs.YtnfpfbehebcdpaaGreat
abbrev TyS:Type:=Nat->Nat->(Nat->Prop)->Sto.Sk->World->Prop
abbrev TyT:Type:=Nat->Nat->(Nat->Prop)->Lat.Tb->World->Prop
abbrev TyB:Type:=Nat->Nat->(Nat->Prop)->Ver.Bk->World->Prop
abbrev rqC(k:Int)(q:Rq)(wa:Option Addr)(wc:Nat)(sa:Option Addr)(sc:Nat):Array Value:=#[.int .i64 k,.int .u32 q.c,.int .u32 q.n,.int .u64 q.sp,.int .u32 q.sl,.int .u64 q.ap,.int .u32 q.al,.string (bs q.key),.string (bs q.hi),.int .i64 q.lim,.int .u8 q.pt,.slice wa q.ws.length wc,.slice sa q.sk.length sc]
abbrev rpD(r:Rp)(a:Option Addr)(n c:Nat):Array Value:=#[.int .i64 r.k,.int .i64 r.err,.bool r.found,.string (bs r.val),.slice a n c,.int .u32 r.c,.int .u32 r.n,.int .u64 r.sp,.int .u32 r.sl,.int .u64 r.ap,.int .u32 r.al,.string (bs r.prim),.int .u64 r.np,.int .u32 r.nl]
abbrev zC(k e p l:Int):Array Value:=#[.int .i64 k,.int .i64 e,.bool false,.string ⟨#[]⟩,.slice none 0 0,.int .u32 0,.int .u32 0,.int .u64 0,.int .u32 0,.int .u64 p,.int .u32 l,.string ⟨#[]⟩,.int .u64 0,.int .u32 0]
abbrev s14(W:World)(b:Nat)(v0 v1 v2 v3 v4 v5 v6 v7 v8 v9 v10 v11 v12 v13:Value):World:=(((((((((((((W.setCell ⟨b,0,none⟩ v0).setCell ⟨b,1,none⟩ v1).setCell ⟨b,2,none⟩ v2).setCell ⟨b,3,none⟩ v3).setCell ⟨b,4,none⟩ v4).setCell ⟨b,5,none⟩ v5).setCell ⟨b,6,none⟩ v6).setCell ⟨b,7,none⟩ v7).setCell ⟨b,8,none⟩ v8).setCell ⟨b,9,none⟩ v9).setCell ⟨b,10,none⟩ v10).setCell ⟨b,11,none⟩ v11).setCell ⟨b,12,none⟩ v12).setCell ⟨b,13,none⟩ v13
abbrev inC(k:Bi)(x:Lat.Ii):Array Value:=#[.int .u32 x.c,.int .u32 x.n,.int .u64 x.sp,.int .u32 x.sl,.int .u64 x.mp,.int .u32 x.ml,.string (bs x.prim),.string (bs k),.string (bs x.val),.bool x.dead]
abbrev vdC(y:Ver.Vd):Array Value:=#[.int .u32 y.c,.int .u32 y.n,.int .u64 y.sp,.int .u32 y.sl,.int .u64 y.ap,.int .u32 y.al,.int .u8 y.pt,.bool y.dn]
abbrev enC(e:Ent.En)(a:Option Addr)(c:Nat):Array Value:=#[.int .i64 e.k,.int .u32 (e.c:Int),.int .u32 (e.n:Int),.int .u64 (e.sp:Int),.int .u32 (e.sl:Int),.int .u64 (e.ap:Int),.int .u32 (e.al:Int),.int .u64 (e.mp:Int),.int .u32 (e.ml:Int),.string (bs e.prim),.int .u8 (e.pt:Int),.bool e.dn,.slice a e.ws.length c]
