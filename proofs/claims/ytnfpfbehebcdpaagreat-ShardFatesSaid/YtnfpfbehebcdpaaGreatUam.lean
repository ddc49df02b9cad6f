import Derived.ScopeJumps
import Derived.WalkMore
import Derived.Test.YtnfpfbehebcdpaaGreatUal
set_option maxHeartbeats 0
set_option maxRecDepth 99999
set_option linter.all false
namespace Go.Proofs.YtnfpfbehebcdpaaGreat.Lat
open Go.RowKit
def Tr.Dq(t:Tr):∃o,t.ptr=.pointer o:=by
 exact bcm
structure Nd(b:Nat)(l r:Tr)(k:Bi)(v:Cv)(x:Nat)(w:World):Prop where
 ok:TrAt nl (.node b l k v x r) w
 nd:(Tr.node b l k v x r).blocks.Nodup
 hl:Hk l
 hr:Hk r
 few:l.toL.length+r.toL.length<200000
def Nd.bl{b:Nat}{l r:Tr}{k:Bi}{v:Cv}{x:Nat}{w:World}(h:Nd b l r k v x w):0<=l.hi/\l.hi<=1000000:=by have:=h.hl.bounds;have:=h.few;omega
def Nd.br{b:Nat}{l r:Tr}{k:Bi}{v:Cv}{x:Nat}{w:World}(h:Nd b l r k v x w):0<=r.hi/\r.hi<=1000000:=by have:=h.hr.bounds;have:=h.few;omega
def Nd.measure{b:Nat}{l r:Tr}{k:Bi}{v:Cv}{x:Nat}{w:World}(h:Nd b l r k v x w):
  cpr 242 #[pz b] w λe w'=>e=.returned (.tuple #[])/\Nd b l r k v (1+max l.hn r.hn) w'/\Kept (λi=>i=b) w w':=by
 exact baf
def rotl{b c:Nat}{l m r:Tr}{k q:Bi}{v u:Cv}{x y:Nat}{w:World}(h:TrAt nl (.node b l k v x (.node c m q u y r)) w)(hn:(Tr.node b l k v x (.node c m q u y r)).blocks.Nodup)(hl:Hk l)(hm:Hk m)(hr:Hk r)(few:l.toL.length+m.toL.length+r.toL.length<100000):
  Nd b l m k v x ((w.setCell ⟨b,7,none⟩ m.ptr).setCell ⟨c,6,none⟩ (pz b))/\Kept (λi=>i=b\/i=c) w ((w.setCell ⟨b,7,none⟩ m.ptr).setCell ⟨c,6,none⟩ (pz b))/\(∀W',Nd b l m k v (1+max l.hn m.hn) W'->Kept (λi=>i=b) ((w.setCell ⟨b,7,none⟩ m.ptr).setCell ⟨c,6,none⟩ (pz b)) W'->Nd c (.node b l k v (1+max l.hn m.hn) m) r q u y W'):=by
 exact aka
def ahu{b c:Nat}{l m r:Tr}{k q:Bi}{v u:Cv}{x y:Nat}{w:World}(h:TrAt nl (.node b l k v x (.node c m q u y r)) w)(hn:(Tr.node b l k v x (.node c m q u y r)).blocks.Nodup)(hl:Hk l)(hm:Hk m)(hr:Hk r)(few:l.toL.length+m.toL.length+r.toL.length<100000):
  cpr 240 #[pz b] w λe w'=>∃x' y',e=.returned (pz c)/\TrAt nl (.node c (.node b l k v x' m) q u y' r) w'/\Hk (.node c (.node b l k v x' m) q u y' r)/\Kept (λi=>i=b\/i=c) w w':=by
 obtain⟨-,-,-,b3',-⟩:=Ba h.1;have b3:ce w b 7 (pz c):=b3';obtain⟨-,-,c2,-,-⟩:=Ba h.2.2.1;have fb:=Ad h.1 7;have fc:=Ad h.2.2.1 6;have H:Hid _:=rotl h hn hl hm hr few;exact ae8
def rotr{b c:Nat}{l m r:Tr}{k q:Bi}{v u:Cv}{x y:Nat}{w:World}(h:TrAt nl (.node b (.node c l q u y m) k v x r) w)(hn:(Tr.node b (.node c l q u y m) k v x r).blocks.Nodup)(hl:Hk l)(hm:Hk m)(hr:Hk r)(few:l.toL.length+m.toL.length+r.toL.length<100000):
  Nd b m r k v x ((w.setCell ⟨b,6,none⟩ m.ptr).setCell ⟨c,7,none⟩ (pz b))/\Kept (λi=>i=b\/i=c) w ((w.setCell ⟨b,6,none⟩ m.ptr).setCell ⟨c,7,none⟩ (pz b))/\(∀W',Nd b m r k v (1+max m.hn r.hn) W'->Kept (λi=>i=b) ((w.setCell ⟨b,6,none⟩ m.ptr).setCell ⟨c,7,none⟩ (pz b)) W'->Nd c l (.node b m k v (1+max m.hn r.hn) r) q u y W'):=by
 exact ale
def adb{b c:Nat}{l m r:Tr}{k q:Bi}{v u:Cv}{x y:Nat}{w:World}(h:TrAt nl (.node b (.node c l q u y m) k v x r) w)(hn:(Tr.node b (.node c l q u y m) k v x r).blocks.Nodup)(hl:Hk l)(hm:Hk m)(hr:Hk r)(few:l.toL.length+m.toL.length+r.toL.length<100000):
  cpr 241 #[pz b] w λe w'=>∃x' y',e=.returned (pz c)/\TrAt nl (.node c l q u y' (.node b m k v x' r)) w'/\Hk (.node c l q u y' (.node b m k v x' r))/\Kept (λi=>i=b\/i=c) w w':=by
 obtain⟨-,-,b3',-,-⟩:=Ba h.1;have b3:ce w b 6 (pz c):=b3';obtain⟨-,-,-,c2,-⟩:=Ba h.2.1.1;have fb:=Ad h.1 6;have fc:=Ad h.2.1.1 7;have H:Hid _:=rotr h hn hl hm hr few;have hbc:b≠c:=by intro e;subst e;simp[Tr.blocks]at hn
 exact alh
structure Tg(t:Tr)(L:Kv Cv)(w:World)(t':Tr)(w':World):Prop where
 ok:TrAt nl t' w'
 hk:Hk t'
 nd:t'.blocks.Nodup
 el:t'.toL=L
 sub:∀i∈t'.blocks,i∈t.blocks\/w.heap.size<=i
 kept:Kept (λi=>i∈t.blocks) w w'
def Ns{a b:List Nat}(h:a.Nodup)(p:∀i,a.count i=b.count i):b.Nodup:=(xw (ry.2 p)).1 h
def O3{a b:List Nat}(p:∀i,a.count i=b.count i){i:Nat}(h:i∈b):i∈a:=(List.Perm.mem_iff (ry.2 p)).2 h
def Sw.kept{F:Nat->Prop}{w W w':World}(s:Sw w W)(h:Kept F W w'):Kept F w w':=⟨h.os.trans s.os,h.tape.trans s.tape,h.output.trans s.output,by have:=h.size;rw[s.heap]at this;exact this,λk hk hF=>by rw[h.block k (by rw[s.heap];exact hk) hF,s.heap]⟩
def Sw.tg{t t':Tr}{L:Kv Cv}{w W w':World}(s:Sw w W)(h:Tg t L W t' w'):Tg t L w t' w':=⟨h.ok,h.hk,h.nd,h.el,λi hi=>by have:=h.sub i hi;rw[s.heap]at this;exact this,s.kept h.kept⟩
def Nd.sw{b:Nat}{l r:Tr}{k:Bi}{v:Cv}{x:Nat}{w W:World}(h:Nd b l r k v x w)(s:Sw w W):Nd b l r k v x W:=⟨h.ok.sw s,h.nd,h.hl,h.hr,h.few⟩
def Tg.after{t t1 t2:Tr}{L:Kv Cv}{w W w2:World}(hs:∀i∈t1.blocks,i∈t.blocks\/w.heap.size<=i)(hk:Kept (λi=>i∈t.blocks) w W)(g:Tg t1 L W t2 w2):Tg t L w t2 w2:=
 ⟨g.ok,g.hk,g.nd,g.el,λi hi=>by
  rcases g.sub i hi with h|h
  .exact hs i h
  .exact .inr (ak hk.size h),hk.trans g.kept hs⟩
def Tg.agx{b:Nat}{l r l':Tr}{k:Bi}{v:Cv}{x:Nat}{L:Kv Cv}{w w1:World}(h:TrAt nl (.node b l k v x r) w)(hn:(Tr.node b l k v x r).blocks.Nodup)(g:Tg l L w l' w1):
  TrAt nl (.node b l' k v x r) (w1.setCell ⟨b,6,none⟩ l'.ptr)/\(Tr.node b l' k v x r).blocks.Nodup/\(∀i∈(Tr.node b l' k v x r).blocks,i∈(Tr.node b l k v x r).blocks\/w.heap.size<=i)/\Kept (λi=>i∈(Tr.node b l k v x r).blocks) w (w1.setCell ⟨b,6,none⟩ l'.ptr):=by
 exact ap1
def Tg.ac2{b:Nat}{l r r':Tr}{k:Bi}{v:Cv}{x:Nat}{L:Kv Cv}{w w1:World}(h:TrAt nl (.node b l k v x r) w)(hn:(Tr.node b l k v x r).blocks.Nodup)(g:Tg r L w r' w1):
  TrAt nl (.node b l k v x r') (w1.setCell ⟨b,7,none⟩ r'.ptr)/\(Tr.node b l k v x r').blocks.Nodup/\(∀i∈(Tr.node b l k v x r').blocks,i∈(Tr.node b l k v x r).blocks\/w.heap.size<=i)/\Kept (λi=>i∈(Tr.node b l k v x r).blocks) w (w1.setCell ⟨b,7,none⟩ r'.ptr):=by
 exact apy
def Nd.mtg{b:Nat}{l r:Tr}{k:Bi}{v:Cv}{x:Nat}{w:World}(h:Nd b l r k v x w):
  cpr 242 #[pz b] w λe w'=>e=.returned (.tuple #[])/\∃t',Tr.ptr t'=.pointer (some ⟨b,0,none⟩)/\Tg (.node b l k v x r) (l.toL++(k,v)::r.toL) w t' w':=by
 exact bah
def aag{b c:Nat}{l m r:Tr}{k q:Bi}{v u:Cv}{x y:Nat}{w:World}(h:TrAt nl (.node b l k v x (.node c m q u y r)) w)(hn:(Tr.node b l k v x (.node c m q u y r)).blocks.Nodup)(hl:Hk l)(hm:Hk m)(hr:Hk r)(few:l.toL.length+m.toL.length+r.toL.length<100000):
  cpr 240 #[pz b] w λe w'=>∃x' y',e=.returned (pz c)/\Tg (.node b l k v x (.node c m q u y r)) (l.toL++(k,v)::(m.toL++(q,u)::r.toL)) w (.node c (.node b l k v x' m) q u y' r) w':=by
 refine(ahu h hn hl hm hr few).mono ?_;rintro e w' ⟨x',y',rfl,h1,h2,hk⟩;have hp:∀i,(Tr.node b l k v x (.node c m q u y r)).blocks.count i=(Tr.node c (.node b l k v x' m) q u y' r).blocks.count i:=λi=>by simp only[Tr.blocks,xu,uy];omega
 exact az6
def Ug{b c:Nat}{l m r:Tr}{k q:Bi}{v u:Cv}{x y:Nat}{w:World}(h:TrAt nl (.node b (.node c l q u y m) k v x r) w)(hn:(Tr.node b (.node c l q u y m) k v x r).blocks.Nodup)(hl:Hk l)(hm:Hk m)(hr:Hk r)(few:l.toL.length+m.toL.length+r.toL.length<100000):
  cpr 241 #[pz b] w λe w'=>∃x' y',e=.returned (pz c)/\Tg (.node b (.node c l q u y m) k v x r) ((l.toL++(q,u)::m.toL)++(k,v)::r.toL) w (.node c l q u y' (.node b m k v x' r)) w':=by
 refine(adb h hn hl hm hr few).mono ?_;rintro e w' ⟨x',y',rfl,h1,h2,hk⟩;have hp:∀i,(Tr.node b (.node c l q u y m) k v x r).blocks.count i=(Tr.node c l q u y' (.node b m k v x' r)).blocks.count i:=λi=>by simp only[Tr.blocks,xu,uy];omega
 exact az6
def Om{b:Nat}{l r:Tr}{k:Bi}{v:Cv}{x:Nat}{w:World}(h:Nd b l r k v x w)(e2:l.hi-r.hi≠2)(e3:l.hi-r.hi≠ -2):
  cpr 214 #[.pointer (some ⟨b,0,none⟩)] w λe w'=>∃t',e=.returned t'.ptr/\Tg (.node b l k v x r) (l.toL++(k,v)::r.toL) w t' w':=by
 obtain⟨-,-,b2,b3,-⟩:=Ba h.ok.1;have C1:Hid (∀W,Sw w W->cpr 239 #[l.ptr] W λe w'=>e=.returned (.int .i64 l.hi)/\w'=W):=λW hs=>Fj l W (h.ok.2.1.sw hs);have C2:Hid (∀W,Sw w W->cpr 239 #[r.ptr] W λe w'=>e=.returned (.int .i64 r.hi)/\w'=W):=λW hs=>Fj r W (h.ok.2.2.sw hs);obtain⟨hl0,hl1⟩:=h.bl;obtain⟨hr0,hr1⟩:=h.br;have q2:(l.hi-r.hi==2)=false:=by simp;omega
 have q3:(l.hi-r.hi== -2)=false:=by simp;omega
 have CM:Hid (∀W,Sw w W->cpr 242 #[.pointer (some ⟨b,0,none⟩)] W λe w'=>e=.returned (.tuple #[])/\∃t',Tr.ptr t'=.pointer (some ⟨b,0,none⟩)/\Tg (.node b l k v x r) (l.toL++(k,v)::r.toL) w t' w'):=by intro W hs;refine(h.sw hs).mtg.mono ?_;rintro e w' ⟨rfl,t',ht,g⟩;exact⟨rfl,t',ht,hs.tg g⟩
 clear h e2 e3;generalize l.toL++(k,v)::r.toL=L at*;generalize Tr.node b l k v x r=t at*;generalize l.ptr=lp at*;generalize r.ptr=rp at*;generalize l.hi=hl at*;generalize r.hi=hr at*;go_enter Tryz.func214,Tryz.ntmps214;go_wp2_with fail
 go_quiet (first|(go_at_call_of 239 (lp);exact bz (C1.out _ ((Sw.refl _).drewN _)))|(go_at_call_of 239 (rp);exact bz (C2.out _ ((Sw.refl _).drewN _))))
 exact ba0
def Qk{b c:Nat}{r ll lr:Tr}{k q:Bi}{v u:Cv}{x y:Nat}{w:World}(h:Nd b (.node c ll q u y lr) r k v x w)(few:ll.toL.length+lr.toL.length+r.toL.length<99999)(e2:(y:Int)-r.hi=2):
  cpr 214 #[.pointer (some ⟨b,0,none⟩)] w λe w'=>∃t',e=.returned t'.ptr/\Tg (.node b (.node c ll q u y lr) k v x r) ((ll.toL++(q,u)::lr.toL)++(k,v)::r.toL) w t' w':=by
 obtain⟨-,-,b2',b3',-⟩:=Ba h.ok.1;have bc:w.cell? ⟨b,6,none⟩=some (.pointer (some ⟨c,0,none⟩)):=b2';have bo:w.cell? ⟨b,7,none⟩=some r.ptr:=b3';clear b2' b3';obtain⟨-,-,c2,c3,-⟩:=Ba h.ok.2.1.1;have C1:Hid (∀W,Sw w W->cpr 239 #[.pointer (some ⟨c,0,none⟩)] W λe w'=>e=.returned (.int .i64 y)/\w'=W):=λW hs=>Fj (.node c ll q u y lr) W (h.ok.2.1.sw hs);have C2:Hid (∀W,Sw w W->cpr 239 #[r.ptr] W λe w'=>e=.returned (.int .i64 r.hi)/\w'=W):=λW hs=>Fj r W (h.ok.2.2.sw hs);have C3:Hid (∀W,Sw w W->cpr 239 #[ll.ptr] W λe w'=>e=.returned (.int .i64 ll.hi)/\w'=W):=λW hs=>Fj ll W (h.ok.2.1.2.1.sw hs);have C4:Hid (∀W,Sw w W->cpr 239 #[lr.ptr] W λe w'=>e=.returned (.int .i64 lr.hi)/\w'=W):=λW hs=>Fj lr W (h.ok.2.1.2.2.sw hs);obtain⟨hy0,hy1⟩:0<=(y:Int)/\(y:Int)<=1000000:=h.bl;obtain⟨hr0,hr1⟩:=h.br;obtain⟨-,hll,hlr⟩:=h.hl;have hoth:=h.hr;have q2:((y:Int)-r.hi==2)=true:=by simp;omega
 by_cases hlt:ll.hi<lr.hi
 .obtain⟨d,dm,dq,du,dy,dr,hd⟩:=Hk.node (t:=lr) (by have:=hll.bounds;omega);have fb:=Ad h.ok.1 6;have CT:Hid (∀W,Sw w W->cpr 240 #[.pointer (some ⟨c,0,none⟩)] W λe w1=>e=.returned (.pointer (some ⟨d,0,none⟩))/\w1.cell? ⟨b,6,none⟩=some (.pointer (some ⟨c,0,none⟩))/\w1.frozen? ⟨b,6,none⟩=false/\cpr 241 #[.pointer (some ⟨b,0,none⟩)] (w1.setCell ⟨b,6,none⟩ (.pointer (some ⟨d,0,none⟩))) λe w2=>∃t',e=.returned t'.ptr/\Tg (.node b (.node c ll q u y lr) k v x r) ((ll.toL++(q,u)::lr.toL)++(k,v)::r.toL) w t' w2):=by
   exact ar9
  clear h hd hll hlr hoth few e2;generalize (ll.toL++(q,u)::lr.toL)++(k,v)::r.toL=L at*;generalize Tr.node b (.node c ll q u y lr) k v x r=t at*;generalize (y:Int)=yi at*;generalize r.ptr=op at*;generalize ll.ptr=llp at*;generalize lr.ptr=lrp at*;generalize r.hi=ho at*;generalize ll.hi=llh at*;generalize lr.hi=lrh at*;go_enter Tryz.func214,Tryz.ntmps214;go_wp2_with fail
  go_quiet (first|(go_at_call_of 239 (Value.pointer (some ⟨c,0,none⟩));exact bz (C1.out _ ((Sw.refl _).drewN _)))|(go_at_call_of 239 (op);exact bz (C2.out _ ((Sw.refl _).drewN _))))
  have HS:Hid (Sw w (w.drewN nq)):=(Sw.refl _).drewN _;have bc':(w.drewN nq).cell? ⟨b,6,none⟩=some (.pointer (some ⟨c,0,none⟩)):=bc;have c2':(w.drewN nq).cell? ⟨c,6,none⟩=some llp:=c2;have c3':(w.drewN nq).cell? ⟨c,7,none⟩=some lrp:=c3;generalize w.drewN nq=W at*;go_wp2_with fail
  go_quiet (first|(go_at_call_of 239 (llp);exact bz (C3.out _ (HS.out.drewN _)))|(go_at_call_of 239 (lrp);exact bz (C4.out _ (HS.out.drewN _))))
  exact amc
 .have CT:Hid (∀W,Sw w W->cpr 241 #[.pointer (some ⟨b,0,none⟩)] W λe w'=>∃t',e=.returned (.pointer (some ⟨c,0,none⟩))/\Tr.ptr t'=.pointer (some ⟨c,0,none⟩)/\Tg (.node b (.node c ll q u y lr) k v x r) ((ll.toL++(q,u)::lr.toL)++(k,v)::r.toL) w t' w'):=by intro W hs;have hW:=h.sw hs;refine(Ug hW.ok hW.nd hll hlr hoth (by omega)).mono ?_;rintro e w' ⟨x',y',rfl,g⟩;exact⟨_,rfl,rfl,hs.tg g⟩
  clear h hll hlr hoth few e2;generalize (ll.toL++(q,u)::lr.toL)++(k,v)::r.toL=L at*;generalize Tr.node b (.node c ll q u y lr) k v x r=t at*;generalize (y:Int)=yi at*;generalize r.ptr=op at*;generalize ll.ptr=llp at*;generalize lr.ptr=lrp at*;generalize r.hi=ho at*;generalize ll.hi=llh at*;generalize lr.hi=lrh at*;go_enter Tryz.func214,Tryz.ntmps214;go_wp2_with fail
  go_quiet (first|(go_at_call_of 239 (Value.pointer (some ⟨c,0,none⟩));exact bz (C1.out _ ((Sw.refl _).drewN _)))|(go_at_call_of 239 (op);exact bz (C2.out _ ((Sw.refl _).drewN _))))
  have HS:Hid (Sw w (w.drewN nq)):=(Sw.refl _).drewN _;have bc':(w.drewN nq).cell? ⟨b,6,none⟩=some (.pointer (some ⟨c,0,none⟩)):=bc;have c2':(w.drewN nq).cell? ⟨c,6,none⟩=some llp:=c2;have c3':(w.drewN nq).cell? ⟨c,7,none⟩=some lrp:=c3;generalize w.drewN nq=W at*;go_wp2_with fail
  go_quiet (first|(go_at_call_of 239 (llp);exact bz (C3.out _ (HS.out.drewN _)))|(go_at_call_of 239 (lrp);exact bz (C4.out _ (HS.out.drewN _))))
  exact atm
def Qj{b c:Nat}{l ll lr:Tr}{k q:Bi}{v u:Cv}{x y:Nat}{w:World}(h:Nd b l (.node c ll q u y lr) k v x w)(few:l.toL.length+ll.toL.length+lr.toL.length<99999)(e2:l.hi-(y:Int)= -2):
  cpr 214 #[.pointer (some ⟨b,0,none⟩)] w λe w'=>∃t',e=.returned t'.ptr/\Tg (.node b l k v x (.node c ll q u y lr)) (l.toL++(k,v)::(ll.toL++(q,u)::lr.toL)) w t' w':=by
 obtain⟨-,-,b2',b3',-⟩:=Ba h.ok.1;have bc:w.cell? ⟨b,7,none⟩=some (.pointer (some ⟨c,0,none⟩)):=b3';have bo:w.cell? ⟨b,6,none⟩=some l.ptr:=b2';clear b2' b3';obtain⟨-,-,c2,c3,-⟩:=Ba h.ok.2.2.1;have C1:Hid (∀W,Sw w W->cpr 239 #[.pointer (some ⟨c,0,none⟩)] W λe w'=>e=.returned (.int .i64 y)/\w'=W):=λW hs=>Fj (.node c ll q u y lr) W (h.ok.2.2.sw hs);have C2:Hid (∀W,Sw w W->cpr 239 #[l.ptr] W λe w'=>e=.returned (.int .i64 l.hi)/\w'=W):=λW hs=>Fj l W (h.ok.2.1.sw hs);have C3:Hid (∀W,Sw w W->cpr 239 #[ll.ptr] W λe w'=>e=.returned (.int .i64 ll.hi)/\w'=W):=λW hs=>Fj ll W (h.ok.2.2.2.1.sw hs);have C4:Hid (∀W,Sw w W->cpr 239 #[lr.ptr] W λe w'=>e=.returned (.int .i64 lr.hi)/\w'=W):=λW hs=>Fj lr W (h.ok.2.2.2.2.sw hs);obtain⟨hy0,hy1⟩:0<=(y:Int)/\(y:Int)<=1000000:=h.br;obtain⟨hr0,hr1⟩:=h.bl;obtain⟨-,hll,hlr⟩:=h.hr;have hoth:=h.hl;have q2:(l.hi-(y:Int)== -2)=true:=by simp;omega
 by_cases hlt:lr.hi<ll.hi
 .obtain⟨d,dm,dq,du,dy,dr,hd⟩:=Hk.node (t:=ll) (by have:=hlr.bounds;omega);have fb:=Ad h.ok.1 7;have CT:Hid (∀W,Sw w W->cpr 241 #[.pointer (some ⟨c,0,none⟩)] W λe w1=>e=.returned (.pointer (some ⟨d,0,none⟩))/\w1.cell? ⟨b,7,none⟩=some (.pointer (some ⟨c,0,none⟩))/\w1.frozen? ⟨b,7,none⟩=false/\cpr 240 #[.pointer (some ⟨b,0,none⟩)] (w1.setCell ⟨b,7,none⟩ (.pointer (some ⟨d,0,none⟩))) λe w2=>∃t',e=.returned t'.ptr/\Tg (.node b l k v x (.node c ll q u y lr)) (l.toL++(k,v)::(ll.toL++(q,u)::lr.toL)) w t' w2):=by
   exact aql
  clear h hd hll hlr hoth few e2;generalize l.toL++(k,v)::(ll.toL++(q,u)::lr.toL)=L at*;generalize Tr.node b l k v x (.node c ll q u y lr)=t at*;generalize (y:Int)=yi at*;generalize l.ptr=op at*;generalize ll.ptr=llp at*;generalize lr.ptr=lrp at*;generalize l.hi=ho at*;generalize ll.hi=llh at*;generalize lr.hi=lrh at*;go_enter Tryz.func214,Tryz.ntmps214;go_wp2_with fail
  go_quiet (first|(go_at_call_of 239 (Value.pointer (some ⟨c,0,none⟩));exact bz (C1.out _ ((Sw.refl _).drewN _)))|(go_at_call_of 239 (op);exact bz (C2.out _ ((Sw.refl _).drewN _))))
  have HS:Hid (Sw w (w.drewN nq)):=(Sw.refl _).drewN _;have bc':(w.drewN nq).cell? ⟨b,7,none⟩=some (.pointer (some ⟨c,0,none⟩)):=bc;have c2':(w.drewN nq).cell? ⟨c,6,none⟩=some llp:=c2;have c3':(w.drewN nq).cell? ⟨c,7,none⟩=some lrp:=c3;generalize w.drewN nq=W at*;go_wp2_with fail
  go_quiet (first|(go_at_call_of 239 (llp);exact bz (C3.out _ (HS.out.drewN _)))|(go_at_call_of 239 (lrp);exact bz (C4.out _ (HS.out.drewN _))))
  go_wp2_with fail;exact anb
 .have CT:Hid (∀W,Sw w W->cpr 240 #[.pointer (some ⟨b,0,none⟩)] W λe w'=>∃t',e=.returned (.pointer (some ⟨c,0,none⟩))/\Tr.ptr t'=.pointer (some ⟨c,0,none⟩)/\Tg (.node b l k v x (.node c ll q u y lr)) (l.toL++(k,v)::(ll.toL++(q,u)::lr.toL)) w t' w'):=by intro W hs;have hW:=h.sw hs;refine(aag hW.ok hW.nd hoth hll hlr (by omega)).mono ?_;rintro e w' ⟨x',y',rfl,g⟩;exact⟨_,rfl,rfl,hs.tg g⟩
  clear h hll hlr hoth few e2;generalize l.toL++(k,v)::(ll.toL++(q,u)::lr.toL)=L at*;generalize Tr.node b l k v x (.node c ll q u y lr)=t at*;generalize (y:Int)=yi at*;generalize l.ptr=op at*;generalize ll.ptr=llp at*;generalize lr.ptr=lrp at*;generalize l.hi=ho at*;generalize ll.hi=llh at*;generalize lr.hi=lrh at*;go_enter Tryz.func214,Tryz.ntmps214;go_wp2_with fail
  go_quiet (first|(go_at_call_of 239 (Value.pointer (some ⟨c,0,none⟩));exact bz (C1.out _ ((Sw.refl _).drewN _)))|(go_at_call_of 239 (op);exact bz (C2.out _ ((Sw.refl _).drewN _))))
  have HS:Hid (Sw w (w.drewN nq)):=(Sw.refl _).drewN _;have bc':(w.drewN nq).cell? ⟨b,7,none⟩=some (.pointer (some ⟨c,0,none⟩)):=bc;have c2':(w.drewN nq).cell? ⟨c,6,none⟩=some llp:=c2;have c3':(w.drewN nq).cell? ⟨c,7,none⟩=some lrp:=c3;generalize w.drewN nq=W at*;go_wp2_with fail
  go_quiet (first|(go_at_call_of 239 (llp);exact bz (C3.out _ (HS.out.drewN _)))|(go_at_call_of 239 (lrp);exact bz (C4.out _ (HS.out.drewN _))))
  exact atm
def Gg{b:Nat}{l r:Tr}{k:Bi}{v:Cv}{x:Nat}{w:World}(h:Nd b l r k v x w)(few:l.toL.length+r.toL.length<100000):
  cpr 214 #[.pointer (some ⟨b,0,none⟩)] w λe w'=>∃t',e=.returned t'.ptr/\Tg (.node b l k v x r) (l.toL++(k,v)::r.toL) w t' w':=by
 exact azs
def Ef(J:Nat->Act->World->Prop)(Q:Exit->Act->World->Prop):Exit->Act->World->Prop
 |.goto l,a,w=>J l a w
 |e,a,w=>Q e a w
def Io{P:Program}{a:Act}{w:World}{Q:Exit->Act->World->Prop}{c:Code}(J:Nat->Act->World->Prop)(μ:Nat->Act->World->Nat)
  (pass:∀l a w,J l a w->∃rest,findLabel c l=some (Code.skip.seq rest)/\rest.wp P (Ef (λl' a' w'=>J l' a' w'/\μ l' a' w'<μ l a w) Q) a w)
  (first:(∀l a w rest,findLabel c l=some (Code.skip.seq rest)->J l a w->rest.wp P (Ef J Q) a w)->c.wp P (Ef J Q) a w):(Code.scope c).wp P Q a w:=by
 exact zn
def aa6(p:Nat)(key:Bi)(o:Value)(a:Act):Prop:=
 ∃u6 u7 u8 u9 u10 u11 u12 u13 u14 u15 u16 u17 u18 u19 u20 u21 u22 u23 u24 u25 u26 u27 u28 u29 u30 u31 u32 u33 u34 u35 u36:Value,a={tmps:=#[pz p,sd key,undef,undef,.pointer none,o,u6,u7,u8,u9,u10,u11,u12,u13,u14,u15,u16,u17,u18,u19,u20,u21,u22,u23,u24,u25,u26,u27,u28,u29,u30,u31,u32,u33,u34,u35,u36],defers:=[]}
def Um{p:Nat}{key:Bi}{o:Value}{u6 u7 u8 u9 u10 u11 u12 u13 u14 u15 u16 u17 u18 u19 u20 u21 u22 u23 u24 u25 u26 u27 u28 u29 u30 u31 u32 u33 u34 u35 u36:Value}:aa6 p key o {tmps:=#[pz p,sd key,undef,undef,.pointer none,o,u6,u7,u8,u9,u10,u11,u12,u13,u14,u15,u16,u17,u18,u19,u20,u21,u22,u23,u24,u25,u26,u27,u28,u29,u30,u31,u32,u33,u34,u35,u36],defers:=[]}:=
 ⟨u6,u7,u8,u9,u10,u11,u12,u13,u14,u15,u16,u17,u18,u19,u20,u21,u22,u23,u24,u25,u26,u27,u28,u29,u30,u31,u32,u33,u34,u35,u36,rfl⟩
def Oh:Option Nat->Value
 |none=>.pointer none
 |some b=>.pointer (some ⟨b,0,none⟩)
def Uk(p:Nat)(key:Bi)(t:Tr)(w:World)(h0:w.cell? ⟨p,0,none⟩=some t.ptr)(ht:TrAt nl t w):
  cpr 177 #[pz p,sd key] w λe w'=>e=.returned (Oh (Ce key t))/\w'=w:=by
 exact abz
def ad8{b:Nat}{l r:Tr}{k:Bi}{v:Cv}{x:Nat}{w:World}(h:TrAt nl (.node b l k v x r) w):
  cpr 225 #[pz b] w λe w'=>∃c q u y m s,e=.returned (pz c)/\w'=w/\w.heap[c]?=some (.cells (nl.cells q u y m s) nl.ty (0,0))/\c∈(Tr.node b l k v x r).blocks/\∃R,(Tr.node b l k v x r).toL=(q,u)::R:=by
 exact ajf
def Wu(lo hi:Bi)(L:Kv Cv):(Aw lo hi L).length<=L.length:=by unfold Aw;exact ak (List.length_filter_le _ _) (by simp)
def Ri{k:Bi}:∀{L:Kv Cv},getF k L=none->cutF k L=L
 |[],_=>rfl
 |(a,v)::r,h=>by
  unfold getF at h;split at h
  .cases h
  .rename_i e;unfold cutF;rw[ag e,Ri h]
def gatF(lim:Nat)(K A:List Bi):List Bi:=K++A.take (lim-K.length)
def Vo(lim:Nat)(K:List Bi):gatF lim K []=K:=by simp[gatF]
def Rh{lim:Nat}{K:List Bi}(h:lim<=K.length)(A:List Bi):gatF lim K A=K:=by unfold gatF;rw[show lim-K.length=0 by omega];simp
def Nz(lim:Nat)(K A C:List Bi):gatF lim K (A++C)=gatF lim (gatF lim K A) C:=by unfold gatF;rw[List.take_append,gq,af,ig];congr 3;omega
def ad6(lim:Nat)(K:List Bi)(k:Bi):gatF lim K [k]=if K.length<lim then K++[k]else K:=by
 exact bb5
def ad7(lim:Nat)(K A:List Bi):(gatF lim K A).length<=K.length+A.length:=by unfold gatF;rw[af,ig];omega
def Xj(lo hi:Bi)(limit:Int)(L:Kv Cv):gatF limit.toNat [] (Aw lo hi L)=Ho lo hi limit L:=by simp[gatF,Ho]
def aaz{lo hi:Bi}{A R:Kv Cv}{k:Bi}{u:Cv}(hs:Srt (A++(k,u)::R))(h:ltK lo k=false):Aw lo hi A=[]:=by obtain⟨_,_,h1,_⟩:=Dp hs;refine O9 λx hx=>?_;have:=ajy (h1 x hx) h;simp[inR,this]
def aa4{lo hi:Bi}{A R:Kv Cv}{k:Bi}{u:Cv}(hs:Srt (A++(k,u)::R))(h0:hi.isEmpty=false)(h:ltK k hi=false):Aw lo hi ((k,u)::R)=[]:=by
 exact ba5
def aaq{lo hi:Bi}{A R:Kv Cv}{k:Bi}{u:Cv}{lim:Nat}{K:List Bi}(hs:Srt (A++(k,u)::R))(h0:hi.isEmpty=false)(h:ltK k hi=false):gatF lim K (Aw lo hi (A++(k,u)::R))=gatF lim K (Aw lo hi A):=by rw[Lu,aa4 hs h0 h,jo]
def ahz{lo hi:Bi}{A R:Kv Cv}{k:Bi}{u:Cv}{lim:Nat}{K:List Bi}(h:(hi.isEmpty||ltK k hi)=true):
  gatF lim K (Aw lo hi (A++(k,u)::R))=gatF lim (if ltK k lo=false/\(gatF lim K (Aw lo hi A)).length<lim then gatF lim K (Aw lo hi A)++[k]else gatF lim K (Aw lo hi A)) (Aw lo hi R):=by
 exact bb9
def TrAt.below{Y:Lay}{t:Tr}{B:Nat}{w w':World}(h:TrAt Y t w)(hb:Below B w w')(hB:∀b∈t.blocks,b<B):TrAt Y t w':=TrAt.kept (Kept.Xa hb) h (λb hb' e=>by have:=hB b hb';omega)
def aap(B:Nat)(lo hi:Bi)(limit:Int)(t:Tr):∀(K:List Bi) (vs:Value) (w:World),TrAt nl t w->(∀b∈t.blocks,b<B)->Srt t.toL->B<=w.heap.size->w.ownsRow B 9 1 vs K.length (kc K)->K.length+t.toL.length<1000000->
  cpr 188 #[t.ptr,vs,sd lo,sd hi,iw limit] w λe w'=>∃v',e=.returned v'/\w'.ownsRow B 9 1 v' (gatF limit.toNat K (Aw lo hi t.toL)).length (kc (gatF limit.toNat K (Aw lo hi t.toL)))/\Below B w w':=by
 exact yz
def agl(key:Bi)(v:Cv)(t:Tr):∀(w:World),TrAt nl t w->t.blocks.Nodup->Hk t->Srt t.toL->getF key t.toL=none->t.toL.length<100000->
  cpr 178 #[t.ptr,sd key,.agg #[ui v.1.1,ui v.1.2,sd v.2.key,sd v.2.val,.bool v.2.dead]] w λe w'=>∃t',e=.returned t'.ptr/\Tg t (setF key v t.toL) w t' w':=by
 induction t using Tr.ind with
 |nil=>
  intro w _ _ _ _ _ _;simp only[Tr.ptr];obtain⟨W,hW⟩:=xj (w.alloc (.cells #[ui v.1.1,ui v.1.2,sd v.2.key,sd v.2.val,.bool v.2.dead] 123));have hb:Bw w W:=by rw[<-hW];exact al _
  have HG:Hid (Tg .nil (setF key v (Tr.toL .nil)) w (.node W.heap.size .nil key v 1 .nil) (W.alloc (.cells #[sd key,ui v.1.1,ui v.1.2,sd v.2.key,sd v.2.val,.bool v.2.dead,.pointer none,.pointer none,iw 1] 274))):=
   ⟨TrAt.new (Y:=nl) (l:=.nil) (r:=.nil) trivial trivial key v 1,⟨rfl,trivial,trivial⟩,by simp[Tr.blocks],rfl,λi hi=>by simp[Tr.blocks]at hi;exact .inr (by rw[hi];exact hb.size),Kept.of_below (hb.trans ((al _).mono hb.size))⟩
  have hsz:W.heap.size=w.heap.size+1:=by rw[<-hW];simp
  rw[hsz,<-hW]at HG;clear hb hW hsz;have y0:(w.alloc (.cells #[ui v.1.1,ui v.1.2,sd v.2.key,sd v.2.val,.bool v.2.dead] 123)).cell? ⟨w.heap.size,0,none⟩=some (ui v.1.1):=Aa (ae w _) rfl;have y1:(w.alloc (.cells #[ui v.1.1,ui v.1.2,sd v.2.key,sd v.2.val,.bool v.2.dead] 123)).cell? ⟨w.heap.size,1,none⟩=some (ui v.1.2):=Aa (ae w _) rfl;have y2:(w.alloc (.cells #[ui v.1.1,ui v.1.2,sd v.2.key,sd v.2.val,.bool v.2.dead] 123)).cell? ⟨w.heap.size,2,none⟩=some (sd v.2.key):=Aa (ae w _) rfl;have y3:(w.alloc (.cells #[ui v.1.1,ui v.1.2,sd v.2.key,sd v.2.val,.bool v.2.dead] 123)).cell? ⟨w.heap.size,3,none⟩=some (sd v.2.val):=Aa (ae w _) rfl;have y4:(w.alloc (.cells #[ui v.1.1,ui v.1.2,sd v.2.key,sd v.2.val,.bool v.2.dead] 123)).cell? ⟨w.heap.size,4,none⟩=some (.bool v.2.dead):=Aa (ae w _) rfl;go_enter Tryz.func178,Tryz.ntmps178;go_wp2_with fail;go_ret;exact⟨_,rfl,HG.out⟩
 |node b l k u x r ihl ihr=>
  intro w ha hn hk hs hg hf;obtain⟨hs1,hs2,_,_⟩:=Dp hs;have hg0:=hg;simp only[Tr.toL]at hg0;rw[Ez hs]at hg0;have hn':=hn;rw[Tr.blocks,gz,ik]at hn';have hf':=hf;simp only[Tr.toL,af,bg]at hf';obtain⟨c0,-,c2,c3,-⟩:=Ba (ha.on (al (W:=w) (.cells #[ui v.1.1,ui v.1.2,sd v.2.key,sd v.2.val,.bool v.2.dead] 123))).1;have b1:=bl key k;have y0:(w.alloc (.cells #[ui v.1.1,ui v.1.2,sd v.2.key,sd v.2.val,.bool v.2.dead] 123)).cell? ⟨w.heap.size,0,none⟩=some (ui v.1.1):=Aa (ae w _) rfl;have y1:(w.alloc (.cells #[ui v.1.1,ui v.1.2,sd v.2.key,sd v.2.val,.bool v.2.dead] 123)).cell? ⟨w.heap.size,1,none⟩=some (ui v.1.2):=Aa (ae w _) rfl;have y2:(w.alloc (.cells #[ui v.1.1,ui v.1.2,sd v.2.key,sd v.2.val,.bool v.2.dead] 123)).cell? ⟨w.heap.size,2,none⟩=some (sd v.2.key):=Aa (ae w _) rfl;have y3:(w.alloc (.cells #[ui v.1.1,ui v.1.2,sd v.2.key,sd v.2.val,.bool v.2.dead] 123)).cell? ⟨w.heap.size,3,none⟩=some (sd v.2.val):=Aa (ae w _) rfl;have y4:(w.alloc (.cells #[ui v.1.1,ui v.1.2,sd v.2.key,sd v.2.val,.bool v.2.dead] 123)).cell? ⟨w.heap.size,4,none⟩=some (.bool v.2.dead):=Aa (ae w _) rfl;by_cases h1:ltK key k=true
  .rw[ah h1]at hg0;have CW:Hid (∀W,Sw (w.alloc (.cells #[ui v.1.1,ui v.1.2,sd v.2.key,sd v.2.val,.bool v.2.dead] 123)) W->cpr 178 #[l.ptr,sd key,.agg #[ui v.1.1,ui v.1.2,sd v.2.key,sd v.2.val,.bool v.2.dead]] W λe w1=>∃o,e=.returned (.pointer o)/\w1.cell? ⟨b,6,none⟩=some l.ptr/\w1.frozen? ⟨b,6,none⟩=false/\Hid (∀W3,Sw (w1.setCell ⟨b,6,none⟩ (.pointer o)) W3->cpr 214 #[pz b] W3 λe w2=>∃t',e=.returned t'.ptr/\Tg (.node b l k u x r) (setF key v (Tr.node b l k u x r).toL) w t' w2)):=by
    intro W hsw;have ha':=(ha.on (al (W:=w) (.cells #[ui v.1.1,ui v.1.2,sd v.2.key,sd v.2.val,.bool v.2.dead] 123))).sw hsw;refine(ihl W ha'.2.1 hn'.2.1 hk.2.1 hs1 hg0 (by omega)).mono ?_;rintro e w1 ⟨s',rfl,g⟩;obtain⟨o,ho⟩:=s'.Dq;have hb1:w1.heap[b]?=W.heap[b]?:=g.kept.block b (gsz ha'.1) (λhi=>hn'.1 (by simp[hi]));obtain⟨o1,o2,o3,o4⟩:=Tg.agx ha' hn g;rw[ho]at o1 o4;have hlen:s'.toL.length=l.toL.length+1:=by rw[g.el,J7 hs1,hg0];rfl
    refine⟨o,by rw[ho],Aa (hb1.trans ha'.1) rfl,Ad (hb1.trans ha'.1) _,λW3 hs3=>?_⟩;have hN:Nd b s' r k u x W3:=(Nd.mk o1 o2 g.hk hk.2.2 (by omega)).sw hs3;refine(Gg hN (by omega)).mono ?_;rintro e w2 ⟨t',rfl,g2⟩;refine⟨t',rfl,Tg.after (λi hi=>.inl hi) (Kept.of_below (al (W:=w) (.cells #[ui v.1.1,ui v.1.2,sd v.2.key,sd v.2.val,.bool v.2.dead] 123))) (hsw.tg (Tg.after o3 o4 (hs3.tg ?_)))⟩;simp only[Tr.toL];rw[Ju hs,ah h1,<-g.el];exact g2
   have q1:Op.bytesLess (bs key).toList (bs k).toList=true:=by rw[b1];exact h1
   have f2:(w.alloc (.cells #[ui v.1.1,ui v.1.2,sd v.2.key,sd v.2.val,.bool v.2.dead] 123)).frozen? ⟨b,6,none⟩=false:=Ad (TrAt.on ha (al (W:=w) (.cells #[ui v.1.1,ui v.1.2,sd v.2.key,sd v.2.val,.bool v.2.dead] 123))).1 _;clear ihl ihr ha hn hk hs hg hf hs1 hs2 hg0 hn' hf' b1 h1;exact awj
  .rw[ag h1]at hg0;have h2:ltK k key=true:=by
    by_cases h2:ltK k key=true
    .exact h2
    .rw[ag h2]at hg0;cases hg0
   rw[ah h2]at hg0;have CW:Hid (∀W,Sw (w.alloc (.cells #[ui v.1.1,ui v.1.2,sd v.2.key,sd v.2.val,.bool v.2.dead] 123)) W->cpr 178 #[r.ptr,sd key,.agg #[ui v.1.1,ui v.1.2,sd v.2.key,sd v.2.val,.bool v.2.dead]] W λe w1=>∃o,e=.returned (.pointer o)/\w1.cell? ⟨b,7,none⟩=some r.ptr/\w1.frozen? ⟨b,7,none⟩=false/\Hid (∀W3,Sw (w1.setCell ⟨b,7,none⟩ (.pointer o)) W3->cpr 214 #[pz b] W3 λe w2=>∃t',e=.returned t'.ptr/\Tg (.node b l k u x r) (setF key v (Tr.node b l k u x r).toL) w t' w2)):=by
    intro W hsw;have ha':=(ha.on (al (W:=w) (.cells #[ui v.1.1,ui v.1.2,sd v.2.key,sd v.2.val,.bool v.2.dead] 123))).sw hsw;refine(ihr W ha'.2.2 hn'.2.2.1 hk.2.2 hs2 hg0 (by omega)).mono ?_;rintro e w1 ⟨s',rfl,g⟩;obtain⟨o,ho⟩:=s'.Dq;have hb1:w1.heap[b]?=W.heap[b]?:=g.kept.block b (gsz ha'.1) (λhi=>hn'.1 (by simp[hi]));obtain⟨o1,o2,o3,o4⟩:=Tg.ac2 ha' hn g;rw[ho]at o1 o4;have hlen:s'.toL.length=r.toL.length+1:=by rw[g.el,J7 hs2,hg0];rfl
    refine⟨o,by rw[ho],Aa (hb1.trans ha'.1) rfl,Ad (hb1.trans ha'.1) _,λW3 hs3=>?_⟩;have hN:Nd b l s' k u x W3:=(Nd.mk o1 o2 hk.2.1 g.hk (by omega)).sw hs3;refine(Gg hN (by omega)).mono ?_;rintro e w2 ⟨t',rfl,g2⟩;refine⟨t',rfl,Tg.after (λi hi=>.inl hi) (Kept.of_below (al (W:=w) (.cells #[ui v.1.1,ui v.1.2,sd v.2.key,sd v.2.val,.bool v.2.dead] 123))) (hsw.tg (Tg.after o3 o4 (hs3.tg ?_)))⟩;simp only[Tr.toL];rw[Ju hs,ag h1,ah h2,<-g.el];exact g2
   have q1:Op.bytesLess (bs key).toList (bs k).toList=false:=by rw[b1];simpa using h1
   have f2:(w.alloc (.cells #[ui v.1.1,ui v.1.2,sd v.2.key,sd v.2.val,.bool v.2.dead] 123)).frozen? ⟨b,7,none⟩=false:=Ad (TrAt.on ha (al (W:=w) (.cells #[ui v.1.1,ui v.1.2,sd v.2.key,sd v.2.val,.bool v.2.dead] 123))).1 _;clear ihl ihr ha hn hk hs hg hf hs1 hs2 hg0 hn' hf' b1 h1 h2;exact awj
