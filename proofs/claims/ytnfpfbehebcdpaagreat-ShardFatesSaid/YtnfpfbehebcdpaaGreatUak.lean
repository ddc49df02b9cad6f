import Derived.Test.YtnfpfbehebcdpaaGreatUaj
set_option maxHeartbeats 0
set_option maxRecDepth 99999
set_option linter.all false
namespace Go.Proofs.YtnfpfbehebcdpaaGreat.Sto
open Go.RowKit
structure Slp(B p q bx:Nat)(t:Tr)(sp sl:Int)(v:Value)(K:List Bi)(w:World)(T:Sk)(t':Tr)(W:World):Prop where
 so:So B p q t' T W
 new:∀i,I5 p q t' i->I5 p q t i\/w.heap.size<=i
 kept:Kept (I5 p q t) w W
 x:W.heap[bx]?=some (.cells #[uw sp,ui sl] 38 (0,0))
 xn:¬I5 p q t' bx
 own:W.ownsRow w.heap.size 9 1 v K.length (kc K)
 on:∀k,v.ownBlock=some k->¬I5 p q t' k
def ahg{base e size n k:Nat}{v:Value}{cs:List Value}{w:World}(h:w.ownsRow base e size v n cs)(hk:v.ownBlock=some k):base<=k/\k<w.heap.size:=jm h k hk
def Slp.step{B p q bx:Nat}{t t':Tr}{sp sl:Int}{v:Value}{K:List Bi}{w W W':World}{T:Sk}(h:Slp B p q bx t sp sl v K w T t' W)(hb:Bw W W'):Slp B p q bx t sp sl v K w T t' W':=
 ⟨h.so.on hb,h.new,h.kept.trans (Kept.of_below (F:=λ_=>False) hb) (λ_ h=>h.elim),by rw[hb.block bx (gsz h.x)];exact h.x,h.xn,Jy h.own hb,h.on⟩
def Slp.post{B p q bx:Nat}{t t':Tr}{sp sl:Int}{v:Value}{K:List Bi}{w W W':World}{T T':Sk}(h:Slp B p q bx t sp sl v K w T t' W)(hp:aem B q t' T' W W')(hkl:∀x∈T',x.1.length<=32):∃t'',Slp B p q bx t sp sl v K w T' t'' W':=by
 obtain⟨t'',h1,hk,hn⟩:=h.so.post hp hkl;have hs:=h.kept.size;refine⟨t'',h1,λi hi=>?_,h.kept.trans hk h.new,?_,λhf=>?_,Gt h.own hk h.on,λk hk' hf=>?_⟩
 .rcases hn i hi with e|e
  .exact h.new i e
  .exact .inr (by omega)
 .rw[hk.block bx (gsz h.x) h.xn];exact h.x
 .rcases hn bx hf with e|e
  .exact h.xn e
  .have:=(gsz h.x);omega
 .rcases hn k hf with e|e
  .exact h.on k hk' e
  .have:=(ahg h.own hk').2;omega
def Slp.key{B p q bx:Nat}{t t':Tr}{sp sl:Int}{ao:Option Addr}{n cap:Nat}{K:List Bi}{w W:World}{T:Sk}(hn:n=K.length)(h:Slp B p q bx t sp sl (.slice ao n cap) K w T t' W){m:Nat}(hm:m<n):∃b off,ao=some ⟨b,off,none⟩/\ce W b (off+m) (.string (bs (K.getD m []))):=by subst hn;obtain⟨b,off,e,_,hc⟩:=RwAt.cellAt (Bl h.own) (j:=m) (by rw[Nb];exact hm);exact⟨b,off,e,hc m _ (by simp[kc,List.getD,hm])⟩
def Slp.stamp{B p q bx:Nat}{t t':Tr}{sp sl:Int}{v:Value}{K:List Bi}{w W:World}{T:Sk}(h:Slp B p q bx t sp sl v K w T t' W):ce W bx 0 (uw sp)/\ce W bx 1 (ui sl)/\ce W p 0 (pz q):=⟨Aa h.x rfl,Aa h.x rfl,h.so.cell⟩
def Slp.out{B p q bx:Nat}{t t':Tr}{sp sl:Int}{v:Value}{K:List Bi}{w W:World}{T:Sk}(h:Slp B p q bx t sp sl v K w T t' W):X3 B p (I5 p q t) T w W:=⟨_,⟨q,t',h.so,rfl⟩,h.kept,h.new⟩
def Slp.begin{B p q:Nat}{t:Tr}{sp sl:Int}{v:Value}{K:List Bi}{w W W':World}{S:Sk}(h:So B p q t S w)(hx:W.heap[w.heap.size]?=some (.cells #[uw sp,ui sl] 38 (0,0)))(hb:Bw w W)(ho:W'.ownsRow W.heap.size 9 1 v K.length (kc K))(hb':Bw W W'):Slp B p q w.heap.size t sp sl v K w S t W':=by
 have hbb:=hb.trans (hb'.mono hb.size);refine⟨h.on hbb,λi hi=>.inl hi,Kept.of_below hbb,?_,λhf=>?_,Lj ho hb.size,λk hk hf=>?_⟩
 .rw[hb'.block w.heap.size (gsz hx)];exact hx
 .have:=(h.lt _ hf).2;omega
 .have h1:=(ahg ho hk).1;have:=(h.lt _ hf).2;have:=hb.size;omega
def aoz{p l:Int}{S:Sk}(m:Nat)(h:∀x∈S,x.1.length<=32):∀x∈prT p l S m,x.1.length<=32:=λx hx=>by
 unfold prT at hx;rcases bu.1 hx with hx|hx
 .obtain⟨y,hy,rfl,_⟩:=Ph.1 hx;exact h y (uk hy)
 .exact h x (List.mem_of_mem_drop hx)
def an2{B p q:Nat}{t:Tr}{S:Sk}{w:World}(sp sl:Int)(h:So B p q t S w)(ht:totS S<10000):
  cpr 52 #[pz p,.agg #[uw sp,ui sl]] w λe w'=>e=.returned (iw (Ky sp sl S))/\X3 B p (I5 p q t) (Ed sp sl S) w w':=by
 have HS:Hid (So B p q t S w):=h;have HX:Hid ((w.alloc (.cells #[uw sp,ui sl] 38)).heap[w.heap.size]?=some (.cells #[uw sp,ui sl] 38 (0,0))/\Bw w (w.alloc (.cells #[uw sp,ui sl] 38))):=⟨ae w _,al _⟩;have HT:Hid (totS S<10000):=ht;have CK:Hid (∀W,Bw w W->cpr 80 #[pz p] W λe w'=>∃ka kp,e=.returned (.slice ka S.length kp)/\w'.ownsRow W.heap.size 9 1 (.slice ka S.length kp) (S.map (·.1)).length (kc (S.map (·.1)))/\Bw W w'):=λW hb=>ai2 (h.on hb) ht;clear h ht;go_enter Tryz.func52,Tryz.ntmps52;go_wp2_with fail;refine(CK.out _ HX.out.2).mono ?_;rintro e W2 ⟨ka,kp,rfl,ho2,hb2⟩;have HL:Hid (Slp B p q w.heap.size t sp sl (.slice ka S.length kp) (S.map (·.1)) w S t W2):=Slp.begin HS.out HX.out.1 HX.out.2 ho2 hb2;have HSok:Hid (SOk S):=HS.out.mc.sok;have HKl:Hid (∀x∈S,x.1.length<=32):=HS.out.kl;clear ho2 hb2 HX CK HS;have hkp:S.length<10000:=by have:=U9 HSok.out.all;have:=HT.out;omega
 generalize hbx:w.heap.size=bx at*;have HBX:Hid _:=hbx;clear hbx;go_wp2_with fail;go_loopw [5,13] (λn i wr=>∃(m:Nat) (t':Tr),m<=S.length/\i=iw m/\n=iw (Ky sp sl (S.take m))/\Slp B p q bx t sp sl (.slice ka S.length kp) (S.map (·.1)) w (prT sp sl S m) t' wr) (λ_ i _=>S.length-(intOf i).toNat)
 case atStart=>exact⟨0,t,eu _,rfl,rfl,HL.out⟩
 case round=>
  obtain⟨m,t',hm,rfl,rfl,hsl⟩:=hrel;have H3:Hid _:=hsl;clear hsl HL;by_cases hml:m<S.length
  .have hml':(m:Int)<S.length:=by omega
   have hgn:=al7 (p:=sp) (l:=sl) hml;have hch:Ch (S.getD m ds).2:=(HSok.out.all _ (getD_mem hml)).1;have HPC:Hid (Ch (Dc (S.getD m ds).2 sp sl)):=(Z5 hch sp sl).2;have hple:=afa hch sp sl;have hgb:Ky sp sl (S.take m)<1000000:=by have:=akc (p:=sp) (l:=sl) (S:=S.take m);have:=ann S m;have:=HT.out;omega
   have hcl:(S.getD m ds).2.length<=1000:=hch.len;have HTm:Hid (totS (prT sp sl S m)<10000):=by show _<_;have:=att (p:=sp) (l:=sl) m HSok.out;have:=HT.out;omega
   have HSet:Hid (¬Dc (S.getD m ds).2 sp sl=[]->setF (S.getD m ds).1 (Dc (S.getD m ds).2 sp sl) (prT sp sl S m)=prT sp sl S (m+1)):=atv HSok.out hml;have HCut:Hid (Dc (S.getD m ds).2 sp sl=[]->cutF (S.getD m ds).1 (prT sp sl S m)=prT sp sl S (m+1)):=atw HSok.out hml;have HCh:Hid (A8 (S.getD m ds).1 (prT sp sl S m)=(S.getD m ds).2):=ali HSok.out hml;obtain⟨b,off,rfl,e0⟩:=H3.out.key (by simp) hml;rw[adp S hml]at e0;obtain⟨gn1,hgn1⟩:=xj (Ky sp sl (S.take (m+1)));have HGn:Hid (Ky sp sl (S.take (m+1))=gn1):=hgn1;rw[hgn1]at hgn;clear hgn1;generalize Ky sp sl (S.take m)=gn at*;generalize S.getD m ds=x at*;obtain⟨a,c⟩:=x;dsimp only at e0 hgn HSet HCut HPC hple hch hcl HCh;have CG:Hid (1=1->cpr 82 #[pz p,sd a] wr λe w'=>∃ao cap,e=.returned (.slice ao c.length cap)/\VsAt w'.heap.size (.slice ao c.length cap) c w'/\Slp B p q bx t sp sl (.slice (some ⟨b,off,none⟩) S.length kp) (S.map (·.1)) w (prT sp sl S m) t' w'):=λ_=>by have:=abj a H3.out.so;rw[HCh.out]at this;refine Calls.mono this ?_;rintro e w' ⟨ao,cap,rfl,hv,hb⟩;exact⟨ao,cap,rfl,hv,H3.out.step hb⟩
   have CP:Hid (∀W ao cap,VsAt W.heap.size (.slice ao c.length cap) c W->Slp B p q bx t sp sl (.slice (some ⟨b,off,none⟩) S.length kp) (S.map (·.1)) w (prT sp sl S m) t' W->cpr 120 #[.slice ao c.length cap,.agg #[uw sp,ui sl]] W λe w'=>∃ao2 cap2,e=.returned (.slice ao2 (Dc c sp sl).length cap2)/\VsAt w'.heap.size (.slice ao2 (Dc c sp sl).length cap2) (Dc c sp sl) w'/\Slp B p q bx t sp sl (.slice (some ⟨b,off,none⟩) S.length kp) (S.map (·.1)) w (prT sp sl S m) t' w'):=λW ao cap hv hs=>by refine(atq W.heap.size c _ sp sl W hv (ai _)).mono ?_;rintro e w' ⟨v',rfl,hv',hb⟩;obtain⟨ao2,cap2,rfl,h9⟩:=hv';exact⟨ao2,cap2,rfl,⟨ao2,cap2,rfl,h9⟩,hs.step hb⟩
   have CC:Hid (∀W,Slp B p q bx t sp sl (.slice (some ⟨b,off,none⟩) S.length kp) (S.map (·.1)) w (prT sp sl S m) t' W->Dc c sp sl=[]->cpr 121 #[pz q,sd a] W λe w'=>∃g t'',e=.returned (.bool g)/\Slp B p q bx t sp sl (.slice (some ⟨b,off,none⟩) S.length kp) (S.map (·.1)) w (prT sp sl S (m+1)) t'' w'):=λW hs hD=>by refine(aym a hs.so.mc HTm.out).mono ?_;rintro e w' ⟨rfl,hp⟩;rw[HCut.out hD]at hp;obtain⟨t'',h9⟩:=hs.post hp (aoz (m+1) HKl.out);exact⟨_,t'',rfl,h9⟩
   have CS:Hid (∀W ao cap,Slp B p q bx t sp sl (.slice (some ⟨b,off,none⟩) S.length kp) (S.map (·.1)) w (prT sp sl S m) t' W->VsAt W.heap.size (.slice ao (Dc c sp sl).length cap) (Dc c sp sl) W->¬Dc c sp sl=[]->cpr 122 #[pz q,sd a,.slice ao (Dc c sp sl).length cap] W λe w'=>∃t'',e=.returned (.tuple #[])/\Slp B p q bx t sp sl (.slice (some ⟨b,off,none⟩) S.length kp) (S.map (·.1)) w (prT sp sl S (m+1)) t'' w'):=λW ao cap hs hv hD=>by refine(apq a hs.so.mc HTm.out hv HPC.out hD).mono ?_;rintro e w' ⟨rfl,hp⟩;rw[HSet.out hD]at hp;obtain⟨t'',h9⟩:=hs.post hp (aoz (m+1) HKl.out);exact⟨t'',rfl,h9⟩
   generalize Dc c sp sl=D at*;have hdl:D.length<=1000:=by omega
   have HGe:Hid ((gn:Int)+(c.length-D.length)=gn1):=by show _=_;omega
   obtain⟨y0,y1,y2⟩:=H3.out.stamp;clear HSet HCut HPC hgn HCh HTm hch;go_wp2_with fail;refine(CG.out (by trivial)).mono ?_;rintro e w4 ⟨ao,cap,rfl,hv4,h4⟩;have H4:Hid (VsAt w4.heap.size (.slice ao c.length cap) c w4/\Slp B p q bx t sp sl (.slice (some ⟨b,off,none⟩) S.length kp) (S.map (·.1)) w (prT sp sl S m) t' w4):=⟨hv4,h4⟩;clear hv4 h4 CG e0 y0 y1 y2 H3;obtain⟨y0,y1,y2⟩:=H4.out.2.stamp;go_wp2_with fail;refine(CP.out _ _ _ H4.out.1 H4.out.2).mono ?_;rintro e w5 ⟨ao2,cap2,rfl,hv5,h5⟩;have H5:Hid (VsAt w5.heap.size (.slice ao2 D.length cap2) D w5/\Slp B p q bx t sp sl (.slice (some ⟨b,off,none⟩) S.length kp) (S.map (·.1)) w (prT sp sl S m) t' w5):=⟨hv5,h5⟩;clear hv5 h5 CP y0 y1 y2 H4;obtain⟨y0,y1,y2⟩:=H5.out.2.stamp;by_cases hD:D=[]
   .have CX:Hid (1=1->_):=λ_=>CC.out w5 H5.out.2 hD;have hD0:D.length=0:=by rw[hD];rfl
    generalize D.length=dn at*;subst hD0;clear CC CS;go_wp2_with fail;refine(CX.out (by trivial)).mono ?_;rintro e w6 ⟨g6,t6,rfl,h6⟩;have H6:Hid _:=h6;clear h6 CX y0 y1 y2 H5;go_wp2_with fail;go_roundw
    case rel=>exact⟨m+1,t6,by omega,by go_num,by rw[HGn.out,<-HGe.out];simp,H6.out⟩
    case measure=>simp[intOf];omega
   .have CX:Hid (1=1->_):=λ_=>CS.out w5 ao2 cap2 H5.out.2 H5.out.1 hD;have hD0:((D.length:Int)==0)=false:=by rw[jb];have:=List.length_pos_iff.2 hD;omega
    clear CC CS;go_wp2_with fail;refine(CX.out (by trivial)).mono ?_;rintro e w6 ⟨t6,rfl,h6⟩;have H6:Hid _:=h6;clear h6 CX y0 y1 y2 H5;go_wp2_with fail;go_roundw
    case rel=>exact⟨m+1,t6,by omega,by go_num,by rw[HGn.out,<-HGe.out],H6.out⟩
    case measure=>simp[intOf];omega
  .have hml':¬(m:Int)<S.length:=by omega
   have HZ:Hid (Ky sp sl (S.take m)=Ky sp sl S/\X3 B p (I5 p q t) (Ed sp sl S) w wr):=by have h9:=H3.out.out;rw[ajj (by omega)]at h9;exact⟨by rw[ay (by omega)],h9⟩
   clear H3;go_wp2_with fail;go_ret;rw[HZ.out.1];exact⟨rfl,HZ.out.2⟩
def adw{ka:Option Addr}{n kp:Nat}{K:List Bi}{B0:Nat}{W2 W:World}(hn:n=K.length)(ho:W2.ownsRow B0 9 1 (.slice ka n kp) K.length (kc K))(hb:Bw W2 W){m:Nat}(hm:m<n):∃b off,ka=some ⟨b,off,none⟩/\ce W b (off+m) (.string (bs (K.getD m []))):=by subst hn;obtain⟨b,off,e,_,hc⟩:=RwAt.cellAt (RwAt.on (Bl ho) hb) (j:=m) (by rw[Nb];exact hm);exact⟨b,off,e,hc m _ (by simp[kc,List.getD,hm])⟩
def amu(B:Nat)(C:List Ve)(v:Value)(w:World)(hv:VsAt B v C w)(hB:B<=w.heap.size)(hl:C.length<=1048576):
  cpr 81 #[v] w λe w'=>∃v',e=.returned v'/\Hr w.heap.size v' C w'/\Bw w w':=by
 have hv':=hv;obtain⟨ao,cap,rfl,hlc,hcm,hx⟩:=hv;have H:Hid (VsAt B (.slice ao C.length cap) C w):=hv';have q22:∀(w:World) (a:Option Addr) (n c n' c':Nat),(binOp .eql 59 (.slice a n c) (.slice none n' c')).run Tryz.prog w=.ok (.bool a.isNone) w:=λw a n c n' c'=>Lib.run_eql_slice_nil w _ _ a n c n' c' Tryz.underlying59;cases ao with
 |none=>
  have h0:C=[]:=by
   exact bch
  subst h0;clear hx hv';go_enter Tryz.func81,Tryz.ntmps81;go_wp2;go_ret;exact⟨_,rfl,Hr.nil _ _,aj _ _⟩
 |some ad=>
  clear hx hv';have HL:Hid _:=hl;have HB:Hid _:=hB;have HM:Hid (Hr w.heap.size (.slice (some ⟨w.heap.size,0,none⟩) 0 0) [] (w.alloc (.cells #[] 63))):=Hr.made _ w (ai _);clear hl hB hlc hcm;go_enter Tryz.func81,Tryz.ntmps81;go_wp2_with (at_builtin;refine Jt rfl _ _ rfl w.heap.size w.heap.size [] C _ _ rfl rfl HM.out ((H.out.le HB.out).on ((aj _ w).alloc (ai _) _)) (by simp) (by simpa using HL.out) ?_);intro v' w1 hown hg;have HO:Hid (Hr w.heap.size v' C w1):=hown;have HG:Hid (Bw w w1):=below_grown ((aj _ w).alloc (ai _) _) (by simp) HM.out hg;clear hown hg;go_wp2;go_ret;exact⟨_,rfl,HO.out,HG.out⟩
def Apt(row:Option Nat)(L:Kv Sv):Prop:=∀x∈L,∀a:Addr,x.2.1=some a->0<x.2.2.1->row≠some a.block
def Chs.apart{w w':World}{row:Option Nat}(hk:Kept (λk=>row=some k) w w'):∀{L:Kv Sv} {S:Sk},Chs w L S->Apt row L->Chs w' L S
 |[],[],_,_=>trivial
 |(k,s)::L,(q,c)::S,h,ha=>by refine⟨h.1,?_,Chs.apart hk h.2.2 (λx hx=>ha x (gy _ hx))⟩;obtain⟨ao,cap,e,h1,h2,h3⟩:=h.2.1;refine⟨ao,cap,e,h1,h2,λh0=>?_⟩;obtain⟨b,off,e1,hb,hc⟩:=h3 h0;simp only[svV,ku]at e;refine⟨b,off,e1,λh=>iy (hb h) hk.size,λi hi=>(hc i hi).kept hk (λhg=>ha (k,s) (by simp) ⟨b,off,none⟩ (by rw[e.1,e1]) (by show 0<s.2.1;rw[e.2.1];omega) hg)⟩
def Chs.blk{w:World}:∀{L:Kv Sv} {S:Sk},Chs w L S->Apt (some w.heap.size) L
 |[],[],_=>λ_ h=>by cases h
 |(k,s)::L,(q,c)::S,h=>λx hx a ha h0=>by
  rcases au.1 hx with rfl|hx
  .obtain⟨ao,cap,e,h1,h2,h3⟩:=h.2.1;simp only[svV,ku]at e;dsimp only at ha h0;obtain⟨b,off,e1,hb,_⟩:=h3 (by omega);rw[e.1,e1]at ha;injection ha with ha;subst ha;have:=hb (by omega);intro h9;injection h9 with h9;simp only at h9;omega
  .exact Chs.blk h.2.2 x hx a ha h0
def Chs.snoc{w:World}{k:Bi}{s:Sv}{c:List Ve}(hv:VsAt w.heap.size (svV s) c w):∀{L:Kv Sv} {S:Sk},Chs w L S->Chs w (L++[(k,s)]) (S++[(k,c)])
 |[],[],_=>⟨rfl,hv,trivial⟩
 |(_,_)::_,(_,_)::_,h=>⟨h.1,h.2.1,Chs.snoc hv h.2.2⟩
structure Iw(W2:World)(S:Sk)(m:Nat)(vv:Value)(L:Kv Sv)(W:World):Prop where
 len:L.length=m
 chs:Chs W L (S.take m)
 apt:Apt vv.ownBlock L
 own:W.ownsRow W2.heap.size 61 2 vv m (itc L)
 bel:Bw W2 W
def Iw.on{W2 W W':World}{S:Sk}{m:Nat}{vv:Value}{L:Kv Sv}(h:Iw W2 S m vv L W)(hb:Bw W W'):Iw W2 S m vv L W':=
 ⟨h.len,h.chs.on hb,h.apt,Jy h.own hb,h.bel.trans (hb.mono h.bel.size)⟩
def Iw.snoc{W2 W W':World}{S:Sk}{m:Nat}{vv v':Value}{L:Kv Sv}{a:Bi}{s:Sv}{c:List Ve}(h:Iw W2 S m vv L W)(hS:S.take (m+1)=S.take m++[(a,c)])(hv:VsAt W.heap.size (svV s) c W)(hs:∀ad:Addr,s.1=some ad->vv.ownBlock≠some ad.block)
  (hown:W'.ownsRow W2.heap.size 61 2 v' (m+1) (itc (L++[(a,s)]))) (hg:W.grownBy W' vv.ownBlock) (hat:v'.ownBlock=vv.ownBlock\/v'.ownBlock=some W.heap.size):Iw W2 S (m+1) v' (L++[(a,s)]) W':=by
 have hap:Apt vv.ownBlock (L++[(a,s)]):=λx hx ad h1 h2=>by
  rcases bu.1 hx with hx|hx
  .exact h.apt x hx ad h1 h2
  .simp only[jy]at hx;subst hx;exact hs ad h1
 have hch:Chs W (L++[(a,s)]) (S.take (m+1)):=by rw[hS];exact Chs.snoc hv h.chs
 refine⟨by simp[h.len],hch.apart (Ny hg) hap,?_,hown,J4 h.bel h.bel.size h.own hg⟩;rcases hat with e|e
 .rw[e];exact hap
 .rw[e];exact hch.blk
def Iw.begin(W2:World)(S:Sk):Iw W2 S 0 sy [] W2:=⟨rfl,trivial,(λ_ h=>by cases h),Ip _ _ _ _,aj _ _⟩
def adg{w:World}{base e size n k:Nat}{v:Value}{cs:List Value}(h:w.ownsRow base e size v n cs)(hk:v.ownBlock=some k):∃c,w.heap[k]?=some (.cells c e (0,0)):=by
 exact bbp
def Yq{base e size n k:Nat}{v:Value}{cs:List Value}{w:World}(h:w.ownsRow base e size v n cs)(hk:v.ownBlock=some k):k<w.heap.size:=(jm h k hk).2
def an3{B p q:Nat}{t:Tr}{S:Sk}{w:World}(h:So B p q t S w)(ht:totS S<10000):
  cpr 32 #[pz p] w λe w'=>∃v' L,e=.returned v'/\ItAt v' L S w'/\(∀k,v'.ownBlock=some k->w.heap.size<=k/\∃cs,w'.heap[k]?=some (.cells cs 61 (0,0)))/\Bw w w':=by
 obtain⟨i0,hin,hi0,hi1,hi2⟩:=qc ay2;have HS:Hid (So B p q t S w):=h;have HT:Hid (totS S<10000):=ht;have CK:Hid (1=1->_):=λ_=>ai2 h ht;clear h ht;go_enter Tryz.func32,Tryz.ntmps32;go_wp2_with fail;refine(CK.out (by trivial)).mono ?_;rintro e W2 ⟨ka,kp,rfl,ho2,hb2⟩;have H2:Hid (W2.ownsRow w.heap.size 9 1 (.slice ka S.length kp) (S.map (·.1)).length (kc (S.map (·.1)))/\Bw w W2):=⟨ho2,hb2⟩;have HS2:Hid (So B p q t S W2):=HS.out.on hb2;have hkp:S.length<10000:=by have:=U9 HS.out.mc.sok.all;have:=HT.out;omega
 clear ho2 hb2 CK HS;go_wp2_with fail;go_loopw [3,9] (λvv i wr=>∃(m:Nat) (L:Kv Sv),m<=S.length/\i=iw m/\Iw W2 S m vv L wr) (λ_ i _=>S.length-(intOf i).toNat)
 case atStart=>exact⟨0,[],eu _,rfl,Iw.begin W2 S⟩
 case round=>
  obtain⟨m,L,hm,rfl,hiw⟩:=hrel;obtain⟨sa,sc,rfl,-,-,-,-⟩:=Bl hiw.own;have HI:Hid (Iw W2 S m (.slice sa m sc) L wr):=hiw;clear hiw;by_cases hml:m<S.length
  .obtain⟨b,off,rfl,e0⟩:=adw (by simp) H2.out.1 HI.out.bel hml;have hml':(m:Int)<S.length:=by omega
   rw[adp S hml]at e0;have HCh:Hid (A8 (S.getD m ds).1 S=(S.getD m ds).2):=Xt HS2.out.mc.sok (getD_mem hml);have HTk:Hid (S.take (m+1)=S.take m++[S.getD m ds]):=Qs hml;have hcl:(S.getD m ds).2.length<=1000:=(HS2.out.mc.sok.all _ (getD_mem hml)).1.len;generalize S.getD m ds=x at*;obtain⟨a,c⟩:=x;dsimp only at e0 HCh hcl;have CG:Hid (1=1->cpr 82 #[pz p,sd a] wr λe w'=>∃ao cap,e=.returned (.slice ao c.length cap)/\VsAt w'.heap.size (.slice ao c.length cap) c w'/\Iw W2 S m (.slice sa m sc) L w'):=λ_=>by have:=abj a (HS2.out.on HI.out.bel);rw[HCh.out]at this;refine Calls.mono this ?_;rintro e w' ⟨ao,cap,rfl,hv,hb⟩;exact⟨ao,cap,rfl,hv,HI.out.on hb⟩
   have CC:Hid (∀W ao cap,VsAt W.heap.size (.slice ao c.length cap) c W->Iw W2 S m (.slice sa m sc) L W->cpr 81 #[.slice ao c.length cap] W λe w'=>∃s1 s3,e=.returned (.slice s1 c.length s3)/\VsAt w'.heap.size (svV (s1,c.length,s3)) c w'/\(∀ad:Addr,s1=some ad->(Value.slice sa m sc).ownBlock≠some ad.block)/\Iw W2 S m (.slice sa m sc) L w'):=λW ao cap hv hi=>by refine(amu W.heap.size c _ W hv (ai _) (by omega)).mono ?_;rintro e w' ⟨v',rfl,ho,hb⟩;have hv':=ho.at;obtain⟨s1,s3,rfl,h9⟩:=hv';refine⟨s1,s3,rfl,⟨s1,s3,rfl,h9⟩,λad had hbk=>?_,hi.on hb⟩;subst had;have h1:=Yq hi.own hbk;have h2:=(jm ho ad.block rfl).1;omega
   clear hcl;go_wp2_with fail;refine(CG.out (by trivial)).mono ?_;rintro e w3 ⟨ao,cap,rfl,hv3,hi3⟩;have H3:Hid (VsAt w3.heap.size (.slice ao c.length cap) c w3/\Iw W2 S m (.slice sa m sc) L w3):=⟨hv3,hi3⟩;clear hv3 hi3 CG HI e0;go_wp2_with fail;refine(CC.out _ _ _ H3.out.1 H3.out.2).mono ?_;rintro e w4 ⟨s1,s3,rfl,hv4,hs4,hi4⟩;have H4:Hid (VsAt w4.heap.size (svV (s1,c.length,s3)) c w4/\(∀ad:Addr,s1=some ad->(Value.slice sa m sc).ownBlock≠some ad.block)/\Iw W2 S m (.slice sa m sc) L w4):=⟨hv4,hs4,hi4⟩;have HOw:Hid (Ow W2.heap.size 61 2 (.slice sa m sc) m (itc L) (w4.heap.size+1) (.slice (some ⟨w4.heap.size,0,none⟩) 1 1) 1 (itc [(a,s1,c.length,s3)]) (w4.alloc (.cells #[sd a,.slice s1 c.length s3] 61))):=it_ow a (s1,c.length,s3) hi4.own hi4.bel.size (by omega);clear hv4 hs4 hi4 CC H3;go_wp2_with (at_builtin;refine Ea HOw.out Tryz.underlying57 hin hi0 hi1 hi2 rfl (by decide) (by decide) (.tmp 13) (.tmp 20) rfl rfl rfl rfl ?_);intro v' w5 hown hg hat;have HI5:Hid (Iw W2 S (m+1) v' (L++[(a,s1,c.length,s3)]) w5):=by have hbl:Bw w4 (w4.alloc (.cells #[sd a,.slice s1 c.length s3] 61)):=al _;refine Iw.snoc (H4.out.2.2.on hbl) HTk.out ((VsAt.on H4.out.1 hbl).le hbl.size) H4.out.2.1 ?_ hg (by simpa using hat);rw[ahw];exact hown
   clear hown hg hat HOw H4;go_wp2_with fail;go_roundw
   case rel=>exact⟨m+1,_,by omega,by go_num,HI5.out⟩
   case measure=>simp[intOf];omega
  .have hml':¬(m:Int)<S.length:=by omega
   have HZ:Hid (ItAt (.slice sa m sc) L S wr/\(∀k,(Value.slice sa m sc).ownBlock=some k->w.heap.size<=k/\∃cs,wr.heap[k]?=some (.cells cs 61 (0,0)))/\Bw w wr):=by have h1:=Bl HI.out.own;have h4:∀k,(Value.slice sa m sc).ownBlock=some k->w.heap.size<=k/\∃cs,wr.heap[k]?=some (.cells cs 61 (0,0)):=λk hk=>⟨ak H2.out.2.size (jm HI.out.own k hk).1,adg HI.out.own hk⟩;have h2:=HI.out.chs;rw[ay (by omega)]at h2;have h3:=HI.out.len;subst h3;exact⟨⟨h1,h2⟩,h4,H2.out.2.trans (HI.out.bel.mono H2.out.2.size)⟩
   go_wp2_with fail;go_ret;exact⟨_,rfl,⟨L,HZ.out.1⟩,HZ.out.2⟩
def an4{B p q:Nat}{t:Tr}{S:Sk}{w:World}(k:Bi)(pp l:Int)(h:So B p q t S w):cpr 135 #[pz p,sd k,.agg #[uw pp,ui l]] w λe w'=>e=.returned (.tuple #[.string (bs (getV (seeF (A8 k S) pp l)).1),.bool (getV (seeF (A8 k S) pp l)).2])/\Bw w w':=
 aqi _ k pp l w (λ_ hb=>abj k (h.on hb))
def auf{B q:Nat}{t:Tr}{S:Sk}{w:World}(lo hi:Bi)(h:Mc B q t S w)(ht:totS S<10000):cpr 160 #[pz q,sd lo,sd hi,iw 32] w λe w'=>∃ka kp,e=.returned (.slice ka ((rngS lo hi S).take 32).length kp)/\w'.ownsRow w.heap.size 9 1 (.slice ka ((rngS lo hi S).take 32).length kp) (((rngS lo hi S).take 32).map (·.1)).length (kc (((rngS lo hi S).take 32).map (·.1)))/\Bw w w':=by have:=ajt lo hi 32 h ht;rw[Xe]at this;refine Calls.mono this ?_;rintro e w' ⟨v',rfl,ho,hb⟩;obtain⟨ao,cap,rfl,_⟩:=Bl ho;rw[mr]at ho|-;exact⟨ao,cap,rfl,ho,hb⟩
def al9{p l:Int}{A:List (Bi×Bi)}{Q:Sk}{m n:Nat}(h:(A++scT p l Q m).length=n):(A++Fa p l Q).take n=A++scT p l Q m:=by obtain⟨R,hR⟩:=as8 p l Q m;rw[hR,<-gq,<-h,List.take_left'];rfl
def aqn{p l:Int}{A:List (Bi×Bi)}{Q:Sk}{m n:Nat}(hm:Q.length<=m)(h:(A++scT p l Q m).length<=n):(A++Fa p l Q).take n=A++scT p l Q m:=by
 have e:scT p l Q m=Fa p l Q:=by unfold scT;rw[ay hm]
 rw[e]at h|-;exact ay h
structure Gl(w:World)(F:Nat->Prop)(W0:World)(bx:Nat)(tp tl:Int)(kv:Value)(K:List Bi)(vv:Value)(A:List (Bi×Bi))(W:World):Prop where
 own:W.ownsRow w.heap.size 323 2 vv A.length (prc A)
 keys:W.ownsRow w.heap.size 9 1 kv K.length (kc K)
 x:W.heap[bx]?=some (.cells #[uw tp,ui tl] 38 (0,0))
 bel:Bw w W
 kn:∀k,vv.ownBlock=some k->kv.ownBlock≠some k
 xn:vv.ownBlock≠some bx
 kept:Kept F W0 W
 new:∀k,vv.ownBlock=some k->F k\/W0.heap.size<=k
def Gl.on{w W0 W W':World}{F:Nat->Prop}{bx:Nat}{tp tl:Int}{kv vv:Value}{K:List Bi}{A:List (Bi×Bi)}(h:Gl w F W0 bx tp tl kv K vv A W)(hb:Bw W W'):Gl w F W0 bx tp tl kv K vv A W':=
 ⟨Jy h.own hb,Jy h.keys hb,by rw[hb.block bx (gsz h.x)];exact h.x,h.bel.trans (hb.mono h.bel.size),h.kn,h.xn,h.kept.trans (Kept.of_below (F:=λ_=>False) hb) (λ_ h=>h.elim),h.new⟩
def Gl.snoc{w W0 W W':World}{F:Nat->Prop}{bx:Nat}{tp tl:Int}{kv vv v':Value}{K:List Bi}{A A':List (Bi×Bi)}(h:Gl w F W0 bx tp tl kv K vv A W)
  (hown:W'.ownsRow w.heap.size 323 2 v' A'.length (prc A')) (hg:W.grownBy W' vv.ownBlock) (hat:v'.ownBlock=vv.ownBlock\/v'.ownBlock=some W.heap.size):Gl w F W0 bx tp tl kv K v' A' W':=by
 have hk:=Ny hg;have hxl:=(gsz h.x);refine⟨hown,Gt h.keys hk (λk hk' hv=>h.kn k hv hk'),by rw[hk.block bx hxl h.xn];exact h.x,J4 h.bel h.bel.size h.own hg,λk hk' hkv=>?_,λhx=>?_,h.kept.trans hk h.new,λk hk'=>?_⟩
 .rcases hat with e|e
  .exact h.kn k (e▸hk') hkv
  .rw[e]at hk';injection hk' with hk';subst hk';have:=Yq h.keys hkv;omega
 .rcases hat with e|e
  .exact h.xn (e▸hx)
  .rw[e]at hx;injection hx with hx;omega
 .rcases hat with e|e
  .exact h.new k (e▸hk')
  .rw[e]at hk';injection hk' with hk';subst hk';exact .inr h.kept.size
def Gl.stamp{w W0 W:World}{F:Nat->Prop}{bx:Nat}{tp tl:Int}{kv vv:Value}{K:List Bi}{A:List (Bi×Bi)}(h:Gl w F W0 bx tp tl kv K vv A W):ce W bx 0 (uw tp)/\ce W bx 1 (ui tl):=⟨Aa h.x rfl,Aa h.x rfl⟩
def Gl.key{w W0 W:World}{F:Nat->Prop}{bx:Nat}{tp tl:Int}{ka:Option Addr}{n kp:Nat}{vv:Value}{K:List Bi}{A:List (Bi×Bi)}(hn:n=K.length)(h:Gl w F W0 bx tp tl (.slice ka n kp) K vv A W){m:Nat}(hm:m<n):∃b off,ka=some ⟨b,off,none⟩/\ce W b (off+m) (.string (bs (K.getD m []))):=adw hn h.keys (aj _ _) hm
def agh(w:World)(F:Nat->Prop)(W:World)(kv:Value)(K:List Bi)(A:List (Bi×Bi))(sa:Option Addr)(sc:Nat)(w':World):Prop:=
 w'.ownsRow w.heap.size 323 2 (.slice sa A.length sc) A.length (prc A)/\w'.ownsRow w.heap.size 9 1 kv K.length (kc K)/\Bw w w'/\Kept F W w'/\∀k,(Value.slice sa A.length sc).ownBlock=some k->F k\/W.heap.size<=k
def Gl.post{w W0 W W1:World}{F:Nat->Prop}{bx:Nat}{tp tl:Int}{kv:Value}{sa:Option Addr}{sc:Nat}{K:List Bi}{A:List (Bi×Bi)}(h:Gl w F W0 bx tp tl kv K (.slice sa A.length sc) A W)(hb:Bw W1 W0):agh w F W1 kv K A sa sc W:=
 ⟨h.own,h.keys,h.bel,(Kept.of_below (F:=F) hb).trans h.kept (λ_ h=>.inl h),λk hk=>by rcases h.new k hk with e|e;exact .inl e;exact .inr (ak hb.size e)⟩
def aqm{B p q:Nat}{t:Tr}{S:Sk}{w:World}(tp tl mx:Int)(h:So B p q t S w)(Q:Sk)(hQ:∀m,m<Q.length->A8 (Q.getD m ds).1 S=(Q.getD m ds).2)(hQl:Q.length<=32)(A:List (Bi×Bi))(hA:A.length<=mx.toNat)(hmx:mx<=32)(sa:Option Addr)(sc:Nat)(ka:Option Addr)(kp:Nat)(W:World)
  (hb:Bw w W) (ho:W.ownsRow w.heap.size 323 2 (.slice sa A.length sc) A.length (prc A)) (hk:W.ownsRow w.heap.size 9 1 (.slice ka Q.length kp) (Q.map (·.1)).length (kc (Q.map (·.1)))) (hap:∀k,(Value.slice sa A.length sc).ownBlock=some k->(Value.slice ka Q.length kp).ownBlock≠some k):
  cpr 192 #[pz p,.slice sa A.length sc,.slice ka Q.length kp,.agg #[uw tp,ui tl],iw mx] W λe w'=>∃sa' sc',e=.returned (.slice sa' ((A++Fa tp tl Q).take mx.toNat).length sc')/\agh w (λk=>(Value.slice sa A.length sc).ownBlock=some k) W (.slice ka Q.length kp) (Q.map (·.1)) ((A++Fa tp tl Q).take mx.toNat) sa' sc' w':=by
 obtain⟨i0,hin,hi0,hi1,hi2⟩:=qc ay1;have HS:Hid (So B p q t S w):=h;obtain⟨F,hF⟩:=xj (λk=>(Value.slice sa A.length sc).ownBlock=some k);have HG:Hid (Gl w F (W.alloc (.cells #[uw tp,ui tl] 38)) W.heap.size tp tl (.slice ka Q.length kp) (Q.map (·.1)) (.slice sa A.length sc) A (W.alloc (.cells #[uw tp,ui tl] 38))):=by
  have ha:Bw W (W.alloc (.cells #[uw tp,ui tl] 38)):=al _;refine⟨Jy ho ha,Jy hk ha,ae W _,hb.trans (ha.mono hb.size),hap,λhx=>?_,Kept.refl _ _,λk hk=>.inl ?_⟩
  .have:=Yq ho hx;omega
  .rw[<-hF];exact hk
 have HW:Hid (Bw W (W.alloc (.cells #[uw tp,ui tl] 38))):=al _;have HStep:Hid (∀m,m<Q.length->scT tp tl Q (m+1)=scT tp tl Q m++(match seeF (Q.getD m ds).2 tp tl with
  |some s=>[((Q.getD m ds).1,s)]
  |none=>[])):=λm hm=>aoh hm
 have HFull:Hid (∀m,(A++scT tp tl Q m).length=mx.toNat->(A++Fa tp tl Q).take mx.toNat=A++scT tp tl Q m):=λm e=>al9 e;have HEnd:Hid (∀m,Q.length<=m->(A++scT tp tl Q m).length<=mx.toNat->(A++Fa tp tl Q).take mx.toNat=A++scT tp tl Q m):=λm hm e=>aqn hm e;have H0:Hid (A++scT tp tl Q 0=A):=by show A++[]=A;simp
 have HA:Hid (A.length<=mx.toNat):=hA;have HC:Hid (∀m,m<Q.length->A8 (Q.getD m ds).1 S=(Q.getD m ds).2):=hQ;rw[hF];generalize (A++Fa tp tl Q).take mx.toNat=Y at*;clear h hb ho hk hap hF hQ hA;go_enter Tryz.func192,Tryz.ntmps192;go_wp2_with fail;obtain⟨W0,hW0⟩:=xj (W.alloc (.cells #[uw tp,ui tl] 38));rw[hW0]at HG HW|-;clear hW0;obtain⟨bx,hbx⟩:=xj W.heap.size;rw[hbx]at HG|-;have HBX:Hid (W.heap.size=bx):=hbx;clear hbx;go_loopw [1,17] (λvv i wr=>∃m:Nat,m<=Q.length/\i=iw m/\(A++scT tp tl Q m).length<=mx.toNat/\Gl w F W0 bx tp tl (.slice ka Q.length kp) (Q.map (·.1)) vv (A++scT tp tl Q m) wr) (λ_ i _=>Q.length-(intOf i).toNat)
 case atStart=>exact⟨0,eu _,rfl,by rw[H0.out];exact HA.out,by rw[H0.out];exact HG.out⟩
 case round=>
  obtain⟨m,hm,rfl,hle,hgl⟩:=hrel;obtain⟨va,vc,rfl,-,-,-,-⟩:=Bl hgl.own;have HL:Hid (Gl w F W0 bx tp tl (.slice ka Q.length kp) (Q.map (·.1)) (.slice va (A++scT tp tl Q m).length vc) (A++scT tp tl Q m) wr):=hgl;have HLe:Hid ((A++scT tp tl Q m).length<=mx.toNat):=hle;clear hgl hle HG HA;obtain⟨x0,x1⟩:=HL.out.stamp;by_cases hml:m<Q.length
  .have hml':(m:Int)<Q.length:=by omega
   obtain⟨b,off,rfl,e0⟩:=HL.out.key (by simp) hml;rw[adp Q hml]at e0;have hst:A++scT tp tl Q (m+1)=(A++scT tp tl Q m)++(match seeF (Q.getD m ds).2 tp tl with
    |some s=>[((Q.getD m ds).1,s)]
    |none=>[]):=by rw[HStep.out m hml,gq]
   have HFm:Hid _:=HFull.out m;have CG:Hid (1=1->cpr 135 #[pz p,.string (bs (Q.getD m ds).1),.agg #[uw tp,ui tl]] wr λe w'=>e=.returned (.tuple #[.string (bs (getV (seeF (Q.getD m ds).2 tp tl)).1),.bool (getV (seeF (Q.getD m ds).2 tp tl)).2])/\Bw wr w'):=λ_=>by have:=an4 (Q.getD m ds).1 tp tl (HS.out.on HL.out.bel);rw[HC.out m hml]at this;exact this
   obtain⟨A0,hA0⟩:=xj (A++scT tp tl Q m);obtain⟨A1,hA1⟩:=xj (A++scT tp tl Q (m+1));rw[hA0]at HL HLe hst HFm;rw[hA1]at hst;have HA1:Hid (A++scT tp tl Q (m+1)=A1):=hA1;rw[hA0];clear hA0 hA1;generalize Q.getD m ds=x at*;obtain⟨a,c⟩:=x;dsimp only at e0 hst CG;have hll:A0.length<100000:=by have:=HLe.out;omega
   by_cases hroom:(A0.length:Int)<mx
   .have hr1':¬mx<=(A0.length:Int):=by omega
    have HL1:Hid (A0.length+1<=mx.toNat):=by show _<=_;omega
    generalize seeF c tp tl=y at*;cases y with
    |none=>
     have HS3:Hid (A1=A0):=by show _=_;rw[hst];simp
     clear hst;dsimp only[getV]at CG;go_wp2_with fail;refine(CG.out (by trivial)).mono ?_;rintro e w3 ⟨rfl,hb3⟩;have HL3:Hid (Gl w F W0 bx tp tl (.slice (some ⟨b,off,none⟩) Q.length kp) (Q.map (·.1)) (.slice va A0.length vc) A0 w3):=HL.out.on hb3;clear hb3 CG x0 x1 e0 HL;go_wp2_with fail;go_roundw
     case rel=>exact⟨m+1,by omega,by go_num,by rw[HA1.out,HS3.out];exact HLe.out,by rw[HA1.out,HS3.out];exact HL3.out⟩
     case measure=>simp[intOf];omega
    |some s=>
     have HS3:Hid (A1=A0++[(a,s)]):=hst;clear hst;dsimp only[getV]at CG;go_wp2_with fail;refine(CG.out (by trivial)).mono ?_;rintro e w3 ⟨rfl,hb3⟩;have HL3:Hid (Gl w F W0 bx tp tl (.slice (some ⟨b,off,none⟩) Q.length kp) (Q.map (·.1)) (.slice va A0.length vc) A0 w3):=HL.out.on hb3;have HOw:Hid (Ow w.heap.size 323 2 (.slice va A0.length vc) A0.length (prc A0) (w3.heap.size+1) (.slice (some ⟨w3.heap.size,0,none⟩) 1 1) 1 (prc [(a,s)]) (w3.alloc (.cells #[sd a,sd s] 323))):=pr_ow a s HL3.out.own HL3.out.bel.size (by omega);clear hb3 CG x0 x1 e0 HL;go_wp2_with (at_builtin;refine Ea HOw.out Tryz.underlying46 hin hi0 hi1 hi2 rfl (by decide) (by decide) (.tmp 33) (.tmp 37) rfl rfl rfl rfl ?_);intro v' w4 hown hg hat;have HL4:Hid (Gl w F W0 bx tp tl (.slice (some ⟨b,off,none⟩) Q.length kp) (Q.map (·.1)) v' (A0++[(a,s)]) w4):=by refine Gl.snoc (HL3.out.on (al _)) ?_ hg (by simpa using hat);rw[ahe,af];exact hown
     obtain⟨sa4,sc4,rfl,-,-,-,-⟩:=Bl hown;clear hown hg hat HOw HL3;go_wp2_with fail;go_roundw
     case rel=>exact⟨m+1,by omega,by go_num,by rw[HA1.out,HS3.out];simpa using HL1.out,by rw[HA1.out,HS3.out];exact HL4.out⟩
     case measure=>simp[intOf];omega
   .have hr1':mx<=(A0.length:Int):=by omega
    have HY:Hid (Y=A0):=HFm.out (by have:=HLe.out;omega);have HP:Hid (agh w F W (.slice (some ⟨b,off,none⟩) Q.length kp) (Q.map (·.1)) A0 va vc wr):=HL.out.post HW.out;clear hroom hst CG HFm;go_wp2_with fail;rw[HY.out];go_ret;exact⟨_,_,rfl,HP.out⟩
  .have hml':¬(m:Int)<Q.length:=by omega
   have HY:Hid (Y=A++scT tp tl Q m):=HEnd.out m (by omega) HLe.out;have HP:Hid (agh w F W (.slice ka Q.length kp) (Q.map (·.1)) (A++scT tp tl Q m) va vc wr):=HL.out.post HW.out;generalize A++scT tp tl Q m=A0 at*;go_wp2_with fail;rw[HY.out];go_ret;exact⟨_,_,rfl,HP.out⟩
structure Scw(w:World)(bx:Nat)(tp tl:Int)(vv:Value)(A:List (Bi×Bi))(W:World):Prop where
 own:W.ownsRow w.heap.size 323 2 vv A.length (prc A)
 x:W.heap[bx]?=some (.cells #[uw tp,ui tl] 38 (0,0))
 bel:Bw w W
 xn:vv.ownBlock≠some bx
def Scw.on{w W W':World}{bx:Nat}{tp tl:Int}{vv:Value}{A:List (Bi×Bi)}(h:Scw w bx tp tl vv A W)(hb:Bw W W'):Scw w bx tp tl vv A W':=
 ⟨Jy h.own hb,by rw[hb.block bx (gsz h.x)];exact h.x,h.bel.trans (hb.mono h.bel.size),h.xn⟩
def Scw.stamp{w W:World}{bx:Nat}{tp tl:Int}{vv:Value}{A:List (Bi×Bi)}(h:Scw w bx tp tl vv A W):ce W bx 0 (uw tp)/\ce W bx 1 (ui tl):=⟨Aa h.x rfl,Aa h.x rfl⟩
def Scw.next{w W W':World}{bx:Nat}{tp tl:Int}{vv kv:Value}{K:List Bi}{A A':List (Bi×Bi)}{sa:Option Addr}{sc:Nat}(h:Scw w bx tp tl vv A W)(hp:agh w (λk=>vv.ownBlock=some k) W kv K A' sa sc W'):Scw w bx tp tl (.slice sa A'.length sc) A' W':=by
 have hxl:=(gsz h.x);obtain⟨h1,_,h3,h4,h5⟩:=hp;refine⟨h1,by rw[h4.block bx hxl h.xn];exact h.x,h3,λhx=>?_⟩;rcases h5 bx hx with e|e
 .exact h.xn e
 .omega
def aj0(hi:Bi)(S:Sk):Value->Nat
 |.string b=>(rngS b.data.toList hi S).length
 |_=>0
def aai(hi lo:Bi)(S:Sk):aj0 hi S (sd lo)=(rngS lo hi S).length:=by show(rngS (bs lo).data.toList hi S).length=_;rw[D6]
def asv{B p q:Nat}{t:Tr}{S:Sk}{w:World}(lo hi:Bi)(tp tl limit:Int)(h:So B p q t S w)(ht:totS S<10000):
  cpr 136 #[pz p,sd lo,sd hi,.agg #[uw tp,ui tl],iw limit] w λe w'=>∃v',e=.returned v'/\w'.ownsRow w.heap.size 323 2 v' (Np lo hi tp tl limit S).length (prc (Np lo hi tp tl limit S))/\Bw w w':=by
 have HS:Hid (So B p q t S w):=h;have HT:Hid (totS S<10000):=ht;have HX:Hid (Scw w w.heap.size tp tl sy [] (w.alloc (.cells #[uw tp,ui tl] 38))):=⟨Ip _ _ _ _,ae w _,al _,λh=>by cases h⟩;have HFull:Hid (∀m,((Fa tp tl ((rngS lo hi S).take m)).take (min limit 32).toNat).length=(min limit 32).toNat->Np lo hi tp tl limit S=(Fa tp tl ((rngS lo hi S).take m)).take (min limit 32).toNat):=λm e=>alm e;have HEnd:Hid (∀m,(rngS lo hi S).length<=m->Np lo hi tp tl limit S=(Fa tp tl ((rngS lo hi S).take m)).take (min limit 32).toNat):=λm hm=>ao0 hm;obtain⟨mx,hmx⟩:=xj (min limit 32);have hm32:mx<=32:=by omega
 rw[hmx]at HFull HEnd;have H0:Hid ((Fa tp tl ((rngS lo hi S).take 0)).take mx.toNat=[]):=by show _=_;simp[Fa]
 generalize Np lo hi tp tl limit S=Y at*;have HR:Hid (rngS lo hi S=(rngS lo hi S).drop 0):=rfl;generalize hRR:rngS lo hi S=R at HFull HEnd H0 HR;have HR0:Hid (rngS lo hi S=R.drop 0):=hRR;clear h ht hRR HR;go_enter Tryz.func136,Tryz.ntmps136;go_upto_region 4 with fail
 go_cut [4] (λs4 wc=>s4=iw mx/\wc=w.alloc (.cells #[uw tp,ui tl] 38))
 case first=>
  go_wp2_with fail;all_goals
   go_meet;refine⟨?_,rfl⟩;rw[<-hmx];congr 1;omega
 case rest=>
  obtain⟨rfl,rfl⟩:=hcut;clear hmx;obtain⟨W0,hW0⟩:=xj (w.alloc (.cells #[uw tp,ui tl] 38));rw[hW0]at HX|-;clear hW0;obtain⟨bx,hbx⟩:=xj w.heap.size;rw[hbx]at HX|-;have HBX:Hid (w.heap.size=bx):=hbx;clear hbx;go_wp2_with fail;go_loopw [1,11] (λf vv wr=>∃(m:Nat) (lw:Bi),f=sd lw/\rngS lw hi S=R.drop m/\Scw w bx tp tl vv ((Fa tp tl (R.take m)).take mx.toNat) wr) (λf _ _=>aj0 hi S f)
  case atStart=>exact⟨0,lo,rfl,HR0.out,by rw[H0.out];exact HX.out⟩
  case round=>
   obtain⟨m,lw,rfl,hrn,hsw⟩:=hrel;obtain⟨va,vc,rfl,-,-,-,-⟩:=Bl hsw.own;obtain⟨A,hA⟩:=xj ((Fa tp tl (R.take m)).take mx.toNat);have hAl:A.length<=mx.toNat:=by rw[<-hA];exact List.length_take_le _ _
   have HFm:Hid _:=HFull.out m;have HPt:Hid _:=alj tp tl R m mx.toNat;rw[hA]at hsw HFm HPt|-;have HAl:Hid _:=hAl;have HW:Hid (Scw w bx tp tl (.slice va A.length vc) A wr):=hsw;have HRn:Hid (rngS lw hi S=R.drop m):=hrn;have hA32:A.length<=32:=by omega
   clear hA hsw hrn HX hAl HR0 H0 HFull;by_cases hroom:(A.length:Int)<mx
   .have c0:=(HS.out.on HW.out.bel).cell;have CK:Hid (1=1->_):=λ_=>auf lw hi (HS.out.on HW.out.bel).mc HT.out;have HNx:Hid (31<(rngS lw hi S).length->rngS (((rngS lw hi S).getD 31 ds).1++[0]) hi S=(rngS lw hi S).drop 32):=λh=>alb HS.out.mc.sok.srt h;have HCh:Hid (∀i,i<((rngS lw hi S).take 32).length->A8 (((rngS lw hi S).take 32).getD i ds).1 S=(((rngS lw hi S).take 32).getD i ds).2):=λi hi'=>by refine Xt HS.out.mc.sok ?_;exact(jh.1 (uk (getD_mem hi'))).1
    have HKl:Hid (∀i,i<((rngS lw hi S).take 32).length->(((rngS lw hi S).take 32).getD i ds).1.length<=32):=λi hi'=>HS.out.kl _ (jh.1 (uk (getD_mem hi'))).1;have HLf:=aai hi lw S;rw[HRn.out]at CK HNx HCh HKl HLf;obtain⟨Q,hQ⟩:=xj ((R.drop m).take 32);have hQl:Q.length<=32:=by rw[<-hQ];exact List.length_take_le _ _
    have HQe:Hid (Q.length<32->R.length<=m+32):=λh=>by rw[<-hQ,ig,jr]at h;omega
    have HQ31:Hid (Q.length=32->31<(R.drop m).length/\Q.getD 31 ds=(R.drop m).getD 31 ds):=λh=>by rw[<-hQ,ig]at h;refine⟨by omega,?_⟩;rw[<-hQ];simp[List.getD]
    rw[hQ]at CK HPt HCh HKl;clear hQ;have CG:Hid (∀W ka kp,Bw w W->W.ownsRow w.heap.size 323 2 (.slice va A.length vc) A.length (prc A)->W.ownsRow w.heap.size 9 1 (.slice ka Q.length kp) (Q.map (·.1)).length (kc (Q.map (·.1)))->(∀k,(Value.slice va A.length vc).ownBlock=some k->(Value.slice ka Q.length kp).ownBlock≠some k)->_):=λW ka kp hb ho hk hap=>aqm tp tl mx HS.out Q HCh.out hQl A HAl.out hm32 va vc ka kp W hb ho hk hap;rw[HPt.out]at CG;obtain⟨A1,hA1⟩:=xj ((Fa tp tl (R.take (m+32))).take mx.toNat);have HA1:Hid (A1=(Fa tp tl (R.take (m+32))).take mx.toNat):=hA1.symm;have HEm:Hid (R.length<=m+32->Y=A1):=λh=>by rw[HEnd.out _ h,hA1]
    rw[hA1]at CG;clear hA1 HPt HCh HFm;obtain⟨x0,x1⟩:=HW.out.stamp;go_wp2_with fail;refine(CK.out (by trivial)).mono ?_;rintro e w1 ⟨ka,kp,rfl,hk1,hb1⟩;have H1:Hid (Scw w bx tp tl (.slice va A.length vc) A w1):=HW.out.on hb1;have CX:Hid (1=1->_):=λ_=>CG.out w1 ka kp H1.out.bel H1.out.own (Lj hk1 HW.out.bel.size) (λk h2 h3=>by have:=Yq HW.out.own h2;have:=(ahg hk1 h3).1;omega)
    clear hb1 hk1 CK CG c0 HW x0 x1;obtain⟨x0,x1⟩:=H1.out.stamp;go_wp2_with fail;refine(CX.out (by trivial)).mono ?_;rintro e w2 ⟨sa,sc,rfl,hp⟩;have H2:Hid (Scw w bx tp tl (.slice sa A1.length sc) A1 w2):=H1.out.next hp;have HK2:Hid (w2.ownsRow w.heap.size 9 1 (.slice ka Q.length kp) (Q.map (·.1)).length (kc (Q.map (·.1)))):=hp.2.1;clear hp CX H1 x0 x1;by_cases hq:Q.length<32
    .have hq':(Q.length:Int)<32:=by omega
     have HY:Hid (Y=A1):=HEm.out (HQe.out hq);go_wp2_with fail;rw[HY.out];go_ret;exact⟨_,rfl,H2.out.own,H2.out.bel⟩
    .have hq2:Q.length=32:=by omega
     obtain⟨h31,hq31⟩:=HQ31.out hq2;have HNx':=HNx.out h31;have hkl31:=HKl.out 31 (by omega);obtain⟨b,off,rfl,e0⟩:=adw (m:=31) (by simp) HK2.out (aj _ _) (by omega);rw[adp Q (by omega),hq31]at e0;rw[hq31]at hkl31;obtain⟨k,hk⟩:=xj ((R.drop m).getD 31 ds).1;rw[hk]at e0 hkl31 HNx';have CA:Hid (∀W,_):=λW=>awh k W hkl31;have HMe:Hid (aj0 hi S (.string (bs (k++[0])))<aj0 hi S (sd lw)/\rngS (k++[0]) hi S=R.drop (m+32)):=by
      have e1:rngS (k++[0]) hi S=R.drop (m+32):=by rw[HNx',List.drop_drop]
      refine⟨?_,e1⟩;rw[aai,aai,e1,HRn.out,jr,jr];rw[jr]at h31;omega
     generalize Q.length=ql at*;subst hq2;clear HNx' hkl31 hk hq31 h31 HLf;go_wp2_with fail;refine(CA.out _).mono ?_;rintro e w3 ⟨rfl,rfl⟩;go_wp2_with fail;go_roundw
     case rel=>exact⟨m+32,k++[0],rfl,HMe.out.2,by rw[<-HA1.out];exact H2.out⟩
     case measure=>exact HMe.out.1
   .have hr1':¬(A.length:Int)<mx:=hroom;have HY:Hid (Y=A):=HFm.out (by have:=HAl.out;omega);clear hroom;go_wp2_with fail;rw[HY.out];go_ret;exact⟨_,rfl,HW.out.own,HW.out.bel⟩
def aex:Ifs SoAt where
 lt:=by rintro B p M S w ⟨q,t,h,rfl⟩;exact h.lt
 nov:=by rintro B p M S w ⟨q,t,h,rfl⟩;exact h.ahn
 keep:=by rintro B p M G S w w' ⟨q,t,h,rfl⟩ hk h1 hG;exact⟨q,t,h.kept hk h1 hG,rfl⟩
 sok:=by rintro B p M S w ⟨q,t,h,rfl⟩;exact h.mc.sok
 new:=axp
 put:=by rintro B p M S w k x ⟨q,t,h,rfl⟩ ht;exact axo k x h ht
 prune:=by rintro B p M S w tt u ⟨q,t,h,rfl⟩ ht;exact an2 tt u h ht
 get:=by rintro B p M S w k tt u ⟨q,t,h,rfl⟩ _;exact an4 k tt u h
 newest:=by rintro B p M S w k ⟨q,t,h,rfl⟩ _;exact afl _ k w (λ_ hb=>abj k (h.on hb))
 count:=by rintro B p M S w k ⟨q,t,h,rfl⟩ _;exact aia _ k w (λ_ hb=>abj k (h.on hb))
 scan:=by rintro B p M S w lo hi tt u limit ⟨q,t,h,rfl⟩ ht;exact asv lo hi tt u limit h ht
 items:=by rintro B p M S w ⟨q,t,h,rfl⟩ ht;exact an3 h ht
#print axioms aex
