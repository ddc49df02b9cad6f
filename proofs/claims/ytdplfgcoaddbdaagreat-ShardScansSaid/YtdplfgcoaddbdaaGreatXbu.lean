import Derived.Test.YtdplfgcoaddbdaaGreatXaw
import Derived.Test.YtdplfgcoaddbdaaGreatXak
import Derived.Test.YtdplfgcoaddbdaaGreatXbq
import Derived.Test.YtdplfgcoaddbdaaGreatXbt
import Derived.Test.YtdplfgcoaddbdaaGreatXbl
set_option maxHeartbeats 4000000
set_option maxRecDepth 100000
set_option linter.unusedVariables false
set_option linter.unusedSimpArgs false
namespace Go.Proofs.YtdplfgcoaddbdaaGreat
open Go.RowKit
theorem tag_ne{w:World}{k:Nat}{cs:Array Value}{ty:TypeId}{fz:Nat×Nat}(h:w.heap[k]?=some (.cells cs ty fz))(h5:ty≠5):¬ByR w k:=by rintro⟨cs',fz',h'⟩;rw[h]at h';injection h' with h';injection h' with _ e _;exact h5 e
theorem tag_nv{w:World}{k:Nat}{cs:Array Value}{ty:TypeId}{fz:Nat×Nat}(h:w.heap[k]?=some (.cells cs ty fz))(h9:ty≠120):Sto.NoVe w k:=
 Sto.noVe_tag h (fun cs' fz' e=>by injection e with _ e _;exact h9 e)
theorem map_ne{w:World}{k:Nat}{es:Array MapEntry}{cl:Nat}(h:w.heap[k]?=some (.map es cl)):¬ByR w k/\Sto.NoVe w k:=by refine⟨?_,Sto.noVe_tag h (fun cs' fz' e=>by cases e)⟩;rintro⟨cs',fz',h'⟩;rw[h]at h';cases h'
theorem sto_tag{w:World}{t:Sto.Tr}:Sto.TrAt Sto.nl t w->∀b∈t.blocks,∃cs,w.heap[b]?=some (.cells cs Sto.nl.ty (0,0)):=by
 induction t using Sto.Tr.ind with
 |nil=>
  intro _ b hb;simp[Sto.Tr.blocks]at hb
 |node c l k v x r ihl ihr=>
  intro h b hb;obtain⟨h1,h2,h3⟩:=h;simp only[Sto.Tr.blocks,List.mem_cons,List.mem_append]at hb;rcases hb with rfl|hb|hb
  ·exact⟨_,h1⟩
  ·exact ihl h2 b hb
  ·exact ihr h3 b hb
theorem lat_tag{w:World}{t:Lat.Tr}:Lat.TrAt Lat.nl t w->∀b∈t.blocks,∃cs,w.heap[b]?=some (.cells cs Lat.nl.ty (0,0)):=by
 induction t using Lat.Tr.ind with
 |nil=>
  intro _ b hb;simp[Lat.Tr.blocks]at hb
 |node c l k v x r ihl ihr=>
  intro h b hb;obtain⟨h1,h2,h3⟩:=h;simp only[Lat.Tr.blocks,List.mem_cons,List.mem_append]at hb;rcases hb with rfl|hb|hb
  ·exact⟨_,h1⟩
  ·exact ihl h2 b hb
  ·exact ihr h3 b hb
theorem env:Env Sto.SoAt Lat.TabAt Ver.BoAt where
 I:=Sto.storeIfs
 J:=Lat.tableIfl
 V:=Ver.bookIfv
 E:=Ent.entryIfe
 tS:=by
  rintro B p M S w ⟨q,t,h,rfl⟩ k hk;rcases hk with e|e|e
  ·subst e;exact tag_ne h.box (by decide)
  ·subst e;exact tag_ne h.mc.mp.box (by decide)
  ·obtain⟨cs,h1⟩:=sto_tag h.mc.mp.ok k e;exact tag_ne h1 (by decide)
 tT:=by
  rintro B p M T w ⟨pm,hb,t,m,h,_,rfl⟩ k hk;rcases hk with e|e|(e|e)|⟨x,hx,e⟩
  ·subst e;exact⟨tag_ne h.box (by decide),tag_nv h.box (by decide)⟩
  ·subst e;obtain⟨es,cl,h1,_⟩:=h.gm;exact map_ne h1
  ·subst e;exact⟨tag_ne h.map.box (by decide),tag_nv h.map.box (by decide)⟩
  ·obtain⟨cs,h1⟩:=lat_tag h.map.ok k e;exact⟨tag_ne h1 (by decide),tag_nv h1 (by decide)⟩
  ·obtain⟨cs,h1⟩:=(h.rows x hx).tg k e;exact⟨tag_ne h1 (by decide),tag_nv h1 (by decide)⟩
 tV:=by
  rintro B p M K w ⟨hb,m,h,hM⟩ k hk;rcases(hM k).1 hk with e|e
  ·subst e;exact⟨tag_ne h.box (by decide),tag_nv h.box (by decide)⟩
  ·subst e;obtain⟨es,cl,h1,_⟩:=h.map;exact map_ne h1
end Go.Proofs.YtdplfgcoaddbdaaGreat
