import Derived.Test.YtnfpfbehebcdpaaGreatProg
import Derived.WalkKit
import Derived.Test.YtnfpfbehebcdpaaGreatUaa
set_option maxHeartbeats 0
set_option maxRecDepth 99999
set_option linter.all false
namespace Go.Proofs.YtnfpfbehebcdpaaGreat
abbrev ui(n:Int):Value:=.int .u32 n
abbrev uw(n:Int):Value:=.int .u64 n
abbrev ub(n:Int):Value:=.int .u8 n
abbrev iw(n:Int):Value:=.int .i64 n
abbrev sd(l:List UInt8):Value:=.string (bs l)
abbrev su:Value:=.string ⟨#[]⟩
abbrev sy:Value:=.slice none 0 0
abbrev pz(b:Nat):Value:=.pointer (some ⟨b,0,none⟩)
abbrev ce(W:World)(b k:Nat)(v:Value):Prop:=W.cell? ⟨b,k,none⟩=some v
def xj{α:Sort _}(a:α):∃b,a=b:=⟨a,rfl⟩
def bkc{w:World}{b j:Nat}{cs:Array Value}{ty:TypeId}{u:Value}(h:w.heap[b]?=some (.cells cs ty (0,0)))(hj:cs[j]?=some u):w.cell? ⟨b,j,none⟩=some u:=by unfold World.cell?;rw[h];exact hj
def bk2{W:World}{b t:Nat}{v0 v1:Value}(h:W.heap[b]?=some (.cells #[v0,v1] t (0,0))):ce W b 0 v0/\ce W b 1 v1:=⟨bkc h rfl,bkc h rfl⟩
def bk3{W:World}{b t:Nat}{v0 v1 v2:Value}(h:W.heap[b]?=some (.cells #[v0,v1,v2] t (0,0))):ce W b 0 v0/\ce W b 1 v1/\ce W b 2 v2:=⟨bkc h rfl,bkc h rfl,bkc h rfl⟩
def bk6{W:World}{b t:Nat}{v0 v1 v2 v3 v4 v5:Value}(h:W.heap[b]?=some (.cells #[v0,v1,v2,v3,v4,v5] t (0,0))):ce W b 0 v0/\ce W b 1 v1/\ce W b 2 v2/\ce W b 3 v3/\ce W b 4 v4/\ce W b 5 v5:=⟨bkc h rfl,bkc h rfl,bkc h rfl,bkc h rfl,bkc h rfl,bkc h rfl⟩
def bk8{W:World}{b t:Nat}{v0 v1 v2 v3 v4 v5 v6 v7:Value}(h:W.heap[b]?=some (.cells #[v0,v1,v2,v3,v4,v5,v6,v7] t (0,0))):ce W b 0 v0/\ce W b 1 v1/\ce W b 2 v2/\ce W b 3 v3/\ce W b 4 v4/\ce W b 5 v5/\ce W b 6 v6/\ce W b 7 v7:=⟨bkc h rfl,bkc h rfl,bkc h rfl,bkc h rfl,bkc h rfl,bkc h rfl,bkc h rfl,bkc h rfl⟩
def bk10{W:World}{b t:Nat}{v0 v1 v2 v3 v4 v5 v6 v7 v8 v9:Value}(h:W.heap[b]?=some (.cells #[v0,v1,v2,v3,v4,v5,v6,v7,v8,v9] t (0,0))):ce W b 0 v0/\ce W b 1 v1/\ce W b 2 v2/\ce W b 3 v3/\ce W b 4 v4/\ce W b 5 v5/\ce W b 6 v6/\ce W b 7 v7/\ce W b 8 v8/\ce W b 9 v9:=⟨bkc h rfl,bkc h rfl,bkc h rfl,bkc h rfl,bkc h rfl,bkc h rfl,bkc h rfl,bkc h rfl,bkc h rfl,bkc h rfl⟩
def bk13{W:World}{b t:Nat}{v0 v1 v2 v3 v4 v5 v6 v7 v8 v9 v10 v11 v12:Value}(h:W.heap[b]?=some (.cells #[v0,v1,v2,v3,v4,v5,v6,v7,v8,v9,v10,v11,v12] t (0,0))):ce W b 0 v0/\ce W b 1 v1/\ce W b 2 v2/\ce W b 3 v3/\ce W b 4 v4/\ce W b 5 v5/\ce W b 6 v6/\ce W b 7 v7/\ce W b 8 v8/\ce W b 9 v9/\ce W b 10 v10/\ce W b 11 v11/\ce W b 12 v12:=⟨bkc h rfl,bkc h rfl,bkc h rfl,bkc h rfl,bkc h rfl,bkc h rfl,bkc h rfl,bkc h rfl,bkc h rfl,bkc h rfl,bkc h rfl,bkc h rfl,bkc h rfl⟩
def gsz{α:Type _}{a:Array α}{i:Nat}{x:α}(h:a[i]?=some x):i<a.size:=(Array.getElem?_eq_some_iff.1 h).1
abbrev Bi:=List UInt8
abbrev cpr:=Calls Tryz.prog
abbrev Bw(w w':World):Prop:=RowKit.Below w.heap.size w w'
def al{W:World}(o:Obj):RowKit.Below W.heap.size W (W.alloc o):=(RowKit.Below.refl _ _).alloc (Nat.le_refl _) _
def tq0{α:Type}{a:α}{l:List α}:a∈a::l:=.head _
def tq1{α:Type}{a b:α}{l:List α}:a∈b::a::l:=.tail _ (.head _)
def tq2{α:Type}{a b c:α}{l:List α}:a∈b::c::a::l:=.tail _ (.tail _ (.head _))
def tq3{α:Type}{a b c d:α}{l:List α}:a∈b::c::d::a::l:=.tail _ (.tail _ (.tail _ (.head _)))
