import Derived.Test.YtnfpfbehebcdpaaGreatUaw
import Derived.Test.YtnfpfbehebcdpaaGreatUak
import Derived.Test.YtnfpfbehebcdpaaGreatUbs
import Derived.Test.YtnfpfbehebcdpaaGreatUbn
import Derived.Test.YtnfpfbehebcdpaaGreatUbp
set_option maxHeartbeats 0
set_option maxRecDepth 99999
set_option linter.all false
namespace Go.Proofs.YtnfpfbehebcdpaaGreat
open Go.RowKit
def Qr{w:World}{k:Nat}{cs:Array Value}{ty:TypeId}{fz:Nat×Nat}(h:w.heap[k]?=some (.cells cs ty fz))(h5:ty≠5):¬ByR w k:=by rintro⟨cs',fz',h'⟩;rw[h]at h';injection h' with h';injection h' with _ e _;exact h5 e
def Zc{w:World}{k:Nat}{cs:Array Value}{ty:TypeId}{fz:Nat×Nat}(h:w.heap[k]?=some (.cells cs ty fz))(h9:ty≠63):Sto.NoVe w k:=
 Sto.Hy h (λcs' fz' e=>by injection e with _ e _;exact h9 e)
def apv{w:World}{k:Nat}{es:Array MapEntry}{cl:Nat}(h:w.heap[k]?=some (.map es cl)):¬ByR w k/\Sto.NoVe w k:=by refine⟨?_,Sto.Hy h (λcs' fz' e=>by cases e)⟩;rintro⟨cs',fz',h'⟩;rw[h]at h';cases h'
def asn{w:World}{t:Sto.Tr}:Sto.TrAt Sto.nl t w->∀b∈t.blocks,∃cs,w.heap[b]?=some (.cells cs Sto.nl.ty (0,0)):=by
 induction t using Sto.Tr.ind with
 |nil=>
  intro _ b hb;simp[Sto.Tr.blocks]at hb
 |node c l k v x r ihl ihr=>
  intro h b hb;obtain⟨h1,h2,h3⟩:=h;simp only[Sto.Tr.blocks,au,bu]at hb;rcases hb with rfl|hb|hb
  .exact⟨_,h1⟩
  .exact ihl h2 b hb
  .exact ihr h3 b hb
def aup{w:World}{t:Lat.Tr}:Lat.TrAt Lat.nl t w->∀b∈t.blocks,∃cs,w.heap[b]?=some (.cells cs Lat.nl.ty (0,0)):=by
 induction t using Lat.Tr.ind with
 |nil=>
  intro _ b hb;simp[Lat.Tr.blocks]at hb
 |node c l k v x r ihl ihr=>
  intro h b hb;obtain⟨h1,h2,h3⟩:=h;simp only[Lat.Tr.blocks,au,bu]at hb;rcases hb with rfl|hb|hb
  .exact⟨_,h1⟩
  .exact ihl h2 b hb
  .exact ihr h3 b hb
def env:Env Sto.SoAt Lat.TabAt Ver.BoAt where
 I:=Sto.aex
 J:=Lat.anu
 V:=Ver.avv
 E:=Ent.aq0
 tS:=by
  rintro B p M S w ⟨q,t,h,rfl⟩ k hk;rcases hk with e|e|e
  .subst e;exact Qr h.box (by decide)
  .subst e;exact Qr h.mc.mp.box (by decide)
  .obtain⟨cs,h1⟩:=asn h.mc.mp.ok k e;exact Qr h1 (by decide)
 tT:=by
  rintro B p M T w ⟨pm,hb,t,m,h,_,rfl⟩ k hk;rcases hk with e|e|(e|e)|⟨x,hx,e⟩
  .subst e;exact⟨Qr h.box (by decide),Zc h.box (by decide)⟩
  .subst e;obtain⟨es,cl,h1,_⟩:=h.gm;exact apv h1
  .subst e;exact⟨Qr h.map.box (by decide),Zc h.map.box (by decide)⟩
  .obtain⟨cs,h1⟩:=aup h.map.ok k e;exact⟨Qr h1 (by decide),Zc h1 (by decide)⟩
  .obtain⟨cs,h1⟩:=(h.rows x hx).tg k e;exact⟨Qr h1 (by decide),Zc h1 (by decide)⟩
 tV:=by
  rintro B p M K w ⟨hb,m,h,hM⟩ k hk;rcases(hM k).1 hk with e|e
  .subst e;exact⟨Qr h.box (by decide),Zc h.box (by decide)⟩
  .subst e;obtain⟨es,cl,h1,_⟩:=h.map;exact apv h1
