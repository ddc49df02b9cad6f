import Derived.Shelf.Abstract
import Derived.Test.YtnfpfbehebcdpaaGreatUbq
set_option maxHeartbeats 0
set_option maxRecDepth 99999
set_option linter.all false
namespace Go.Proofs.YtnfpfbehebcdpaaGreat.Lat
open Go.RowKit
structure Cs(B p pm hb:Nat)(t0:Tr)(m:Mm)(w:World)(bx:Nat)(c n:Int)(v:Value)(X:Tb)(L:Kv Cv)(t:Tr)(W:World):Prop where
 tx:Tx B p pm hb t m W
 el:t.toL=L
 sub:∀i,C9 pm t i->C9 pm t0 i\/w.heap.size<=i
 kp:Kept (D5 p pm hb t0 m) w W
 row:W.ownsRow w.heap.size 155 10 v X.length (rowC inc X)
 rn:∀k,v.ownBlock=some k->¬C9 pm t k/\w.heap.size<=k/\k<W.heap.size/\k≠p/\k≠hb
 b0:W.heap[bx]?=some (.cells #[ui c,ui n] 36 (0,0))
 bn:¬C9 pm t bx/\w.heap.size<=bx/\bx≠p/\bx≠hb
def Cs.on{B p pm hb:Nat}{t0 t:Tr}{m:Mm}{w W W':World}{bx:Nat}{c n:Int}{v:Value}{X:Tb}{L:Kv Cv}(h:Cs B p pm hb t0 m w bx c n v X L t W)(hb':Bw W W'):Cs B p pm hb t0 m w bx c n v X L t W':=
 ⟨h.tx.on hb',h.el,h.sub,h.kp.trans (Kept.of_below (F:=λ_=>False) hb') (λ_ e=>e.elim),Jy h.row hb',λk hk=>by obtain⟨a,b,c,d⟩:=h.rn k hk;exact⟨a,b,iy c hb'.size,d⟩,by rw[hb'.block _ (gsz h.b0)];exact h.b0,h.bn⟩
def azi{B p pm hb:Nat}{t0 t:Tr}{m:Mm}{w W:World}{bx:Nat}{c n:Int}{v:Value}{X:Tb}{L:Kv Cv}(h:Cs B p pm hb t0 m w bx c n v X L t W)(hl:L.length<100000)(k:Bi):cpr 119 #[pz pm,sd k] W λe w'=>∃z,e=.returned (.bool z)/\∃t',Cs B p pm hb t0 m w bx c n v X (cutF k L) t' w':=by
 refine(arc k h.tx.map (by rw[h.el];exact hl)).mono ?_;rintro e w' ⟨rfl,hp⟩;obtain⟨t',he,ht,hk,hn⟩:=h.tx.claims hp;rw[h.el]at he;have hs:=h.kp.size;have new:∀k,k<W.heap.size->¬C9 pm t k->¬C9 pm t' k:=λk h1 h2 h3=>by
  rcases hn k h3 with e|e
  .exact h2 e
  .omega
 have hbl:=(gsz h.b0);refine⟨_,rfl,t',ht,he,λi hi=>?_,h.kp.trans hk (λi hi=>?_),Gt h.row hk (λk e=>(h.rn k e).1),λk e=>?_,?_,new bx hbl h.bn.1,h.bn.2⟩
 .rcases hn i hi with e|e
  .exact h.sub i e
  .exact .inr (ak hs e)
 .rcases h.sub i hi with e|e
  .exact .inl (.inr (.inr (.inl e)))
  .exact .inr e
 .obtain⟨a1,a2,a3,a4⟩:=h.rn k e;exact⟨new k a3 a1,a2,iy a3 hk.size,a4⟩
 .rw[hk.block bx hbl h.bn.1];exact h.b0
def Xl{p pm hb:Nat}{t0 t:Tr}{m m':Mm}{S:Nat}(h:∀i,C9 pm t i->C9 pm t0 i\/S<=i)(hm:∀x∈m',∀i,(svV x.2).ownBlock=some i->(∃y∈m,(svV y.2).ownBlock=some i)\/S<=i):∀i,D5 p pm hb t m' i->D5 p pm hb t0 m i\/S<=i:=λi hi=>by
 rcases hi with e|e|e|⟨x,hx,e⟩
 .exact .inl (.inl e)
 .exact .inl (.inr (.inl e))
 .rcases h i e with e|e
  .exact .inl (.inr (.inr (.inl e)))
  .exact .inr e
 .rcases hm x hx i e with e|e
  .exact .inl (.inr (.inr (.inr e)))
  .exact .inr e
def ard{B p pm hb:Nat}{t0 t:Tr}{m m':Mm}{w W W':World}{bx:Nat}{c n:Int}{v:Value}{X T':Tb}{L:Kv Cv}(h:Cs B p pm hb t0 m w bx c n v X L t W)(hg:Rw hb m' W')(hk:Kept (λi=>i=hb) W W')(hm:∀x∈m',x∈m)(hr:Rel L m' T'):
  IsAt W'.heap.size v X W'/\(∀k,v.ownBlock=some k->w.heap.size<=k)/\∃M',TabAt B p M' T' W'/\Kept (D5 p pm hb t0 m) w W'/\∀i,M' i->D5 p pm hb t0 m i\/w.heap.size<=i:=by
 refine⟨Bl (Gt h.row hk (λk e=>(h.rn k e).2.2.2.2)),λk e=>(h.rn k e).2.1,D5 p pm hb t m',⟨pm,hb,t,m',h.tx.terms hg hk (λx hx=>.inl ⟨x,hm x hx,rfl,rfl⟩),by rw[h.el];exact hr,rfl⟩,h.kp.trans hk (λi e=>.inl (.inr (.inl e))),Xl h.sub (λx hx i e=>.inl ⟨x,hm x hx,e⟩)⟩
def cut13{B p pm hb:Nat}{t:Tr}{m:Mm}{T:Tb}{w:World}(c n:Int)(h:Tx B p pm hb t m w)(hr:Rel t.toL m T)(hl:T.length<10000):cpr 51 #[pz p,.agg #[ui c,ui n]] w λe w'=>∃v',e=.returned v'/\IsAt w'.heap.size v' (byF c n T) w'/\(∀k,v'.ownBlock=some k->w.heap.size<=k)/\∃M',TabAt B p M' (Ee c n T) w'/\Kept (D5 p pm hb t m) w w'/\∀i,M' i->D5 p pm hb t m i\/w.heap.size<=i:=by
 obtain⟨W0,hW0⟩:=xj (w.alloc (.cells #[ui c,ui n] 36));have hb0:Bw w W0:=by rw[<-hW0];exact al _
 have hx0:W0.heap[w.heap.size]?=some (.cells #[ui c,ui n] 36 (0,0)):=by rw[<-hW0];exact ae w _
 have z0:ce W0 w.heap.size 0 (ui c):=Aa hx0 rfl;have z1:ce W0 w.heap.size 1 (ui n):=Aa hx0 rfl;obtain⟨bx,hbx⟩:=xj w.heap.size;have hll:t.toL.length<10000:=by rw[hr.len];exact hl
 have CB:Hid (1=1->cpr 72 #[pz p,.agg #[ui c,ui n]] W0 λe w'=>∃ao cap,e=.returned (.slice ao (byF c n T).length cap)/\Hid (Cs B p pm hb t m w bx c n (.slice ao (byF c n T).length cap) (byF c n T) t.toL t w')):=λ_=>by
  have h0:=h.on hb0;refine(by21 c n h0 hr hl).mono ?_;rintro e w' ⟨v',rfl,ho,hb'⟩;obtain⟨sa,sc,rfl,-,-,-,-⟩:=Bl ho;have hbw:Bw w w':=hb0.trans (hb'.mono hb0.size);have hf:∀i,D5 p pm hb t m i->i<w.heap.size:=λi hi=>(h.lt hi).2;refine⟨sa,sc,rfl,h.on hbw,rfl,λi hi=>.inl hi,Kept.of_below hbw,Lj ho hb0.size,λk e=>?_,?_,?_⟩
  .have hk:=jm ho k e;have hk1:w.heap.size<=k:=ak hb0.size hk.1;exact⟨λe2=>by have:=hf k (.inr (.inr (.inl e2)));omega,hk1,hk.2,λe2=>by have:=hf k (.inl e2);omega,λe2=>by have:=hf k (.inr (.inl e2));omega⟩
  .rw[<-hbx,hb'.block _ (gsz hx0)];exact hx0
  .rw[<-hbx];exact⟨λe2=>by have:=hf _ (.inr (.inr (.inl e2)));omega,ai _,λe2=>by have:=hf _ (.inl e2);omega,λe2=>by have:=hf _ (.inr (.inl e2));omega⟩
 have HR:Hid (Rel t.toL m T):=hr;have HEnd:Hid (∀v t' W,Cs B p pm hb t m w bx c n v (byF c n T) (Jr ((byF c n T).map (·.1)) t.toL) t' W->(0<(byF c n T).length->∃w',(∀ty:TypeId,(Builtin.delete_ #[124,36] ty #[.map (some hb),.agg #[ui c,ui n]]).run Tryz.prog W.drew=.ok (.tuple #[]) w')/\(IsAt w'.heap.size v (byF c n T) w'/\(∀k,v.ownBlock=some k->w.heap.size<=k)/\∃M',TabAt B p M' (Ee c n T) w'/\Kept (D5 p pm hb t m) w w'/\∀i,M' i->D5 p pm hb t m i\/w.heap.size<=i))/\(¬0<(byF c n T).length->(IsAt W.heap.size v (byF c n T) W/\(∀k,v.ownBlock=some k->w.heap.size<=k)/\∃M',TabAt B p M' (Ee c n T) W/\Kept (D5 p pm hb t m) w W/\∀i,M' i->D5 p pm hb t m i\/w.heap.size<=i))):=λv t' W hc=>by
  refine⟨λh0=>?_,λh0=>?_⟩
  .have hc':=hc.on (aj W.heap.size W).drew;obtain⟨w',hrun,hg,hk⟩:=atb hc'.tx.gm (c,n);exact⟨w',hrun,ard hc' hg hk (λx hx=>(aeb m).subset hx) (hr.cut c n)⟩
  .have hnil:byF c n T=[]:=qo.1 (by omega);have hrel:Rel (Jr ((byF c n T).map (·.1)) t.toL) m (Ee c n T):=by rw[rest_none hnil,hnil];exact hr
   exact ard hc hc.tx.gm (Kept.refl _ _) (λx hx=>hx) hrel
 have hXl:(byF c n T).length<10000:=by have:=aht c n T;omega
 have HLL:Hid (t.toL.length<10000):=hll;rw[hbx]at z0 z1;have HBX:Hid (w.heap.size=bx):=hbx;clear h hr hb0 hx0 hl hll;generalize hX:byF c n T=X at*;generalize Ee c n T=T' at*;generalize hF:D5 p pm hb t m=F at*;clear hX hF;generalize ht0:t.toL=L at*;clear ht0;go_enter Tryz.func51,Tryz.ntmps51;go_wp2_with fail;refine(CB.out (by trivial)).mono ?_;rintro e w1 ⟨ao,cap,rfl,HC⟩;clear CB z0 z1 hW0 hbx;go_wp2_with fail;go_loopw [13] (λi wr=>∃q:Nat,q<=X.length/\i=iw q/\∃t',Cs B p pm hb t m w bx c n (.slice ao X.length cap) X (Jr ((X.take q).map (·.1)) L) t' wr) (λi _=>X.length-(intOf i).toNat)
 case atStart=>exact⟨0,eu _,rfl,t,HC.out⟩
 case round=>
  obtain⟨q,hq,rfl,t',hcs⟩:=hrel;have HS:Hid (Cs B p pm hb t m w bx c n (.slice ao X.length cap) X (Jr ((X.take q).map (·.1)) L) t' wr):=hcs;clear hcs HC;by_cases hml:q<X.length
  .obtain⟨b,off,rfl,e0,e1,e2,e3,e4,e5,e6,e7,e8,e9⟩:=IsAt.el (Bl HS.out.row) hml;have hml':(q:Int)<X.length:=by omega
   have HQ:Hid (q+1<=X.length):=hml;have hsn:(X.take (q+1)).map (·.1)=(X.take q).map (·.1)++[(X.getD q di).1]:=by rw[Uw hml];simp
   have HSn:Hid (Jr ((X.take (q+1)).map (·.1)) L=cutF (X.getD q di).1 (Jr ((X.take q).map (·.1)) L)):=by show _=_;rw[hsn,ach]
   have d0:=HS.out.tx.cells.1;clear hsn hq;generalize X.getD q di=x at*;obtain⟨a,s⟩:=x;dsimp only at e0 e1 e2 e3 e4 e5 e6 e7 e8 e9 HSn;obtain⟨Wa,hWa⟩:=xj (wr.alloc (.cells #[ui s.c,ui s.n,uw s.sp,ui s.sl,uw s.mp,ui s.ml,sd s.prim,sd a,sd s.val,.bool s.dead] 155));have hxa:Wa.heap[wr.heap.size]?=some (.cells #[ui s.c,ui s.n,uw s.sp,ui s.sl,uw s.mp,ui s.ml,sd s.prim,sd a,sd s.val,.bool s.dead] 155 (0,0)):=by rw[<-hWa];exact ae wr _
   have hba:Bw wr Wa:=by rw[<-hWa];exact al _
   have ka:ce Wa wr.heap.size 7 (sd a):=Aa hxa rfl;have da:ce Wa p 0 (pz pm):=(HS.out.tx.on hba).cells.1;have CC:Hid (∀W,Sw Wa W->cpr 119 #[pz pm,sd a] W λe w'=>∃z,e=.returned (.bool z)/\Hid (∃t',Cs B p pm hb t m w bx c n (.slice (some ⟨b,off,none⟩) X.length cap) X (Jr ((X.take (q+1)).map (·.1)) L) t' w')):=λW hs=>by have hw:=(HS.out.on hba).on (hs.below _);refine(azi hw (by have:=aki ((X.take q).map (·.1)) L;have:=HLL.out;omega) a).mono ?_;rintro e w' ⟨z,rfl,t2,h2⟩;exact⟨z,rfl,t2,by rw[HSn.out];exact h2⟩
   obtain⟨by2,hby2⟩:=xj wr.heap.size;rw[hby2]at ka;clear hxa hba HS HSn;go_wp2_with fail;go_region_with (go_at_call 119;refine(CC.out _ ?_).mono ?_;exact Sw.drew (Sw.refl _);rintro e w2 ⟨z,rfl,HE⟩)
   all_goals
    clear CC d0 da ka hWa hby2 e0 e1 e2 e3 e4 e5 e6 e7 e8 e9;go_wp2_with fail;go_roundw
    case rel=>exact⟨q+1,HQ.out,by go_num,HE.out⟩
    case measure=>simp[intOf];omega
  .have hml':¬(q:Int)<X.length:=by omega
   have hqx:X.take q=X:=ay (by omega);rw[hqx]at HS;obtain⟨g1,g2⟩:=HEnd.out _ _ _ HS.out;by_cases hX0:0<X.length
   .have hX0':(0:Int)<X.length:=by omega
    obtain⟨w',hrun,hend⟩:=g1 hX0;have HEn:Hid _:=hend;have d1:=HS.out.tx.cells.2;obtain⟨y0,y1⟩:=bk2 HS.out.b0;clear g1 g2 hend HS HEnd hqx hq hml;go_wp2_with fail;go_region;go_wp2_with fail;go_ret;exact⟨_,rfl,HEn.out⟩
   .have hX0':¬(0:Int)<X.length:=by omega
    have HEn:Hid _:=g2 hX0;clear g1 g2 HS HEnd hqx hq hml;go_wp2_with fail;go_ret;exact⟨_,rfl,HEn.out⟩
def aj2(k:Bi)(w:World):cpr 110 #[sd k] w λe w'=>e=.returned (.bool (kOk k))/\w'=w:=by
 have hs:=Bq k;by_cases h1:1<=k.length
 .by_cases h2:k.length<=32
  .have hk:kOk k=true:=by simp[kOk,h1,h2]
   rw[hk];have h1':(1:Int)<=k.length:=by omega
   have h2':(k.length:Int)<=32:=by omega
   clear hk;exact arx
  .have hk:kOk k=false:=by simp[kOk,h2]
   rw[hk];have h1':(1:Int)<=k.length:=by omega
   have h2':¬(k.length:Int)<=32:=by omega
   clear hk;exact arx
 .have hk:kOk k=false:=by simp[kOk,h1]
  rw[hk];have h1':¬(1:Int)<=k.length:=by omega
  clear hk;exact arx
def ada(x:Wr)(w:World):cpr 173 #[.agg #[sd x.key,sd x.val,.bool x.dead]] w λe w'=>e=.returned (.bool (wOk x))/\Bw w w':=by
 exact aob
def awi(k:Bi)(w:World)(hl:k.length<1000):cpr 232 #[sd k] w λe w'=>e=.returned (.string (bs (k++[0])))/\w'=w:=by
 have hs:=Bq k;have hd:=D6 k;have hl':¬9223372036854775807<k.length+1:=by omega
 have e1:bs k++⟨#[0]⟩=bs (k++[0]):=by apply ByteArray.ext;simp[bs]
 go_enter Tryz.func232,Tryz.ntmps232;exact az4
def ag0(x:Wr)(bp:Nat)(k:Bi)(w:World)(h:w.cell? ⟨bp,0,none⟩=some (sd k)):cpr 174 #[.agg #[sd x.key,sd x.val,.bool x.dead],pz bp] w λe w'=>e=.returned (.bool (x.key==k))/\Bw w w':=by
 exact ax3
def aa1{L:List Wr}{P:Wr->Bool}{m:Nat}(h:m<L.length):(L.drop m).any P=(P (L.getD m dw)||(L.drop (m+1)).any P):=by rw[ng h,List.any_cons,List.getD,bf h];rfl
def ad1(f:Nat)(cf:Array Value)(P:Wr->Bool)(L:List Wr)(v:Value)(w:World)(hL:WsAt w.heap.size v L w)(ef:∀args w,(callFunc f args).run Tryz.prog w=.ok (.enter f args) w)
  (HF:Hid (∀(x:Wr) W,Bw w W->cpr f (#[.agg #[sd x.key,sd x.val,.bool x.dead]]++cf) W λe w'=>e=.returned (.bool (P x))/\Bw W w')):
  cpr 175 #[v,.func (.func f) #[] cf] w λe w'=>∃i:Int,e=.returned (iw i)/\decide (0<=i)=L.any P/\Bw w w':=by
 have HL:Hid (WsAt w.heap.size v L w):=hL;obtain⟨ao,cap,rfl,hlc,hcm⟩:=hL.shape;have hL9:L.length<9223372036854775808:=by omega
 have H0:Hid ((L.drop 0).any P=L.any P):=by show _=_;rw[qx]
 have HE:Hid (∀W,Bw w W->∀i,i<L.length->∃b off,ao=some ⟨b,off,none⟩/\Gm W b (off+i*3) (L.getD i dw)):=λW hW i hi=>(HL.out.on hW).el hi;obtain⟨y,hy⟩:=xj (L.any P);rw[hy]at H0|-;clear hL hlc hcm HL hy;go_enter Tryz.func175,Tryz.ntmps175;go_wp2_with fail;go_loopw [8] (λi wr=>Bw w wr/\∃m:Nat,m<=L.length/\i=iw m/\(L.drop m).any P=y) (λi _=>L.length-(intOf i).toNat)
 case atStart=>exact⟨aj _ _,0,eu _,rfl,H0.out⟩
 case round=>
  exact aor
def aee(f:Nat)(cf:Array Value)(P:Wr->Bool)(L:List Wr)(v:Value)(w:World)(hL:WsAt w.heap.size v L w)(ef:∀args w,(callFunc f args).run Tryz.prog w=.ok (.enter f args) w)
  (HF:Hid (∀(x:Wr) W,Bw w W->cpr f (#[.agg #[sd x.key,sd x.val,.bool x.dead]]++cf) W λe w'=>e=.returned (.bool (P x))/\Bw W w')):
  cpr 112 #[v,.func (.func f) #[] cf] w λe w'=>e=.returned (.bool (L.any P))/\Bw w w':=by
 exact az7
def Ou:∀k x:Bi,ltK x (k++[0])= !ltK k x
 |[],[]=>by simp[ltK,Op.bytesLess]
 |[],a::r=>by
  have:¬a<0:=by rw[UInt8.not_lt];exact UInt8.zero_le
  cases r<;>simp[ltK,Op.bytesLess,this]
 |b::s,[]=>by simp[ltK,Op.bytesLess]
 |b::s,a::r=>by
  exact az5
def rngT(lo hi:Bi)(T:Tb):Tb:=T.filter λx=>inR lo hi x.1
def ag3{T:Tb}{lo hi k:Bi}(h:ltK k lo=false):rngT (k++[0]) hi T=(rngT lo hi T).filter (λx=>ltK k x.1):=by
 unfold rngT;exact bak
def ate{T:Tb}{lo hi:Bi}{x:Bi×Ii}(h:x∈rngT lo hi T):ltK x.1 lo=false:=by have:=(jh.1 h).2;unfold inR at this;simp only[cu,Bool.not_eq_true']at this;exact this.1
def ala{T:Tb}{lo hi:Bi}{i:Nat}(hS:Srt T)(h:i<(rngT lo hi T).length):rngT (((rngT lo hi T).getD i di).1++[0]) hi T=(rngT lo hi T).drop (i+1):=by
 have hm:(rngT lo hi T).getD i di∈rngT lo hi T:=Xi h;rw[ag3 (ate hm)];have hs:Srt (rngT lo hi T):=Gf hS _;generalize hR:rngT lo hi T=R at*;have e:R=R.take i++R.getD i di::R.drop (i+1):=by rw[<-aeu h,jg]
 generalize R.getD i di=x at*;obtain⟨a,c⟩:=x;rw[e]at hs;obtain⟨-,-,h3,h4⟩:=Dp hs;conv=>lhs;rw[e]
 rw[List.filter_append,yf];simp only[Ey,o7,if_false];rw[xx.2 (λy hy=>by have:=Ot (h3 y hy);simp[this]),mf];exact o5.2 (λy hy=>h4 y hy)
def Xe{T:Tb}{L:Kv Cv}(hk:T.map (·.1)=L.map (·.1)){lo hi:Bi}:Ho lo hi 32 L=((rngT lo hi T).take 32).map (·.1):=by
 have e:Aw lo hi L=(rngT lo hi T).map (·.1):=by unfold Aw rngT;rw[<-hk,List.filter_map];rfl
 unfold Ho;rw[e,List.map_take];rfl
def stQ(ap aq:Int)(but:List (Int×Int))(x:Bi×Ii):Bool:= !Ar ap aq x.2.mp x.2.ml&& !but.contains (x.2.c,x.2.n)
def ame(lo hi:Bi)(ap aq:Int)(but:List (Int×Int))(T:Tb):Oj lo hi ap aq but T=(rngT lo hi T).find? (stQ ap aq but):=by unfold Oj rngT;rw[List.find?_filter];congr 1;funext x;unfold aiz stQ;rw[ajv,Bool.and_assoc];generalize inR lo hi x.1=a;generalize (!Ar ap aq x.2.mp x.2.ml&& !but.contains (x.2.c,x.2.n))=b;cases a<;>cases b<;>rfl
def amh{R:Tb}{q:Bi×Ii->Bool}{m:Nat}(h:m<R.length)(hn:(R.take m).find? q=none)(hq:q (R.getD m di)=true):R.find? q=some (R.getD m di):=aqu h hn hq
def amg{R:Tb}{q:Bi×Ii->Bool}{m:Nat}(h:m<R.length)(hn:(R.take m).find? q=none)(hq:q (R.getD m di)=false):(R.take (m+1)).find? q=none:=by rw[Uw h,qj,hn];generalize R.getD m di=x at*;simp[hq]
def ahf{R:Tb}{q:Bi×Ii->Bool}{m j:Nat}(hno:(R.take m).find? q=none)(hj:j<((R.drop m).take 32).length)(h1:(((R.drop m).take 32).take j).find? q=none)(h2:q (((R.drop m).take 32).getD j di)=true):R.find? q=some (((R.drop m).take 32).getD j di):=by
 have e:R.find? q=(R.take m++((R.drop m).take 32++(R.drop m).drop 32)).find? q:=by rw[jg,jg]
 rw[e,qj,hno,Option.none_or,qj,amh hj h1 h2];rfl
def alk{R:Tb}{q:Bi×Ii->Bool}{m:Nat}(hno:(R.take m).find? q=none)(h1:((R.drop m).take 32).find? q=none):(((R.drop m).take 32).length<32->R.find? q=none)/\(R.take (m+32)).find? q=none:=by
 have e1:(R.take (m+32)).find? q=none:=by rw[List.take_add,qj,hno,h1];rfl
 refine⟨λh2=>?_,e1⟩;rw[ig,jr]at h2
 rwa [ay (by omega)]at e1
def afn(hi:Bi)(T:Tb)(v:Value):Nat:=match v with
 |.string s=>(rngT s.data.toList hi T).length
 |_=>0
def afm(hi:Bi)(T:Tb)(k:Bi):afn hi T (sd k)=(rngT k hi T).length:=by show(rngT (bs k).data.toList hi T).length=_;rw[D6]
def auw(B:Nat)(L:List (Int×Int))(v:Value)(c n:Int)(w:World)(h:TsAt B v L w)(hB:B<=w.heap.size):
  cpr 254 #[v,.agg #[ui c,ui n]] w λe w'=>∃i:Int,e=.returned (iw i)/\decide (0<=i)=L.contains (c,n)/\Below w.heap.size w w':=by
 obtain⟨ao,cap,rfl,hla,hma⟩:=h.shape;have HA:Hid (∀W,Below w.heap.size w W->∀i,i<L.length->∃b off,ao=some ⟨b,off,none⟩/\ce W b (off+i*2) (ui (L.getD i dtx).1)/\ce W b (off+i*2+1) (ui (L.getD i dtx).2)):=λW hW i hi=>TsAt.el (RwAt.on h (hW.mono hB)) hi;have HS:Hid (∀m,m<L.length->(L.drop m).contains (c,n)=(((L.getD m dtx).1==c&&(L.getD m dtx).2==n)||(L.drop (m+1)).contains (c,n))):=λm hm=>aqg hm;have HZ:Hid (∀m,L.length<=m->(L.drop m).contains (c,n)=false):=λm hm=>by rw[xy hm];rfl
 have H0:Hid ((L.drop 0).contains (c,n)=L.contains (c,n)):=rfl;have hL9:L.length<9223372036854775808:=by omega
 have HX:Hid ((w.alloc (.cells #[ui c,ui n] 36)).heap[w.heap.size]?=some (.cells #[ui c,ui n] 36 (0,0))/\Below w.heap.size w (w.alloc (.cells #[ui c,ui n] 36))):=⟨ae w _,al _⟩;generalize L.contains (c,n)=y at*;clear h hla hma hB;go_enter Tryz.func254,Tryz.ntmps254;go_wp2_with fail;obtain⟨W0,hW0⟩:=xj (w.alloc (.cells #[ui c,ui n] 36));rw[hW0]at HX|-;obtain⟨bx,hbx⟩:=xj w.heap.size;have HBX:Hid (w.heap.size=bx):=hbx;have HC:Hid (∀W,Below W0.heap.size W0 W->ce W w.heap.size 0 (ui c)/\ce W w.heap.size 1 (ui n)/\Below w.heap.size w W):=λW hb=>by
  have hx:W.heap[w.heap.size]?=some (.cells #[ui c,ui n] 36 (0,0)):=by rw[hb.block _ (gsz HX.out.1)];exact HX.out.1
  exact⟨Aa hx rfl,Aa hx rfl,HX.out.2.trans (hb.mono HX.out.2.size)⟩
 rw[hbx]at HC|-;clear hbx hW0 HX;go_loopw [8] (λi wr=>Below W0.heap.size W0 wr/\∃m:Nat,m<=L.length/\i=iw m/\(L.drop m).contains (c,n)=y) (λi _=>L.length-(intOf i).toNat)
 case atStart=>exact⟨aj _ _,0,eu _,rfl,H0.out⟩
 case round=>
  obtain⟨hbr,m,hm,rfl,hy⟩:=hrel;have HBr:Hid _:=hbr;obtain⟨x0,x1,hbw⟩:=HC.out wr hbr;have HBw:Hid (Below w.heap.size w wr):=by rw[HBX.out];exact hbw
  by_cases hml:m<L.length
  .obtain⟨b,off,rfl,e0,e1⟩:=HA.out wr HBw.out m hml;have hml':(m:Int)<L.length:=by omega
   have hst:=HS.out m hml;rw[hy]at hst;generalize L.getD m dtx=x at*;obtain⟨p,q⟩:=x;dsimp only at e0 e1 hst;have hq:=Wi c n p q;rw[show(c==p&&n==q)=(p==c&&q==n)from by rw[show(c==p)=(p==c)from BEq.comm,show(n==q)=(q==n)from BEq.comm]]at hq;generalize (p==c&&q==n)=z at*;have HF:Hid (ce wr bx 0 (ui c)/\ce wr bx 1 (ui n)/\ce wr b (off+m*2) (ui p)/\ce wr b (off+m*2+1) (ui q)):=⟨x0,x1,e0,e1⟩;have HQ:Hid (m+1<=L.length):=hml;clear hbr hbw hy;go_upto_region 4 with fail
   go_region_held3 (λW=>ce W bx 0 (ui c)/\ce W bx 1 (ui n)/\ce W b (off+m*2) (ui p)/\ce W b (off+m*2+1) (ui q)) (exact HF.out) (fail)
   rename_i hHeld;clear hHeld x0 x1 e0 e1 hq HF;cases z
   .have HY:Hid ((L.drop (m+1)).contains (c,n)=y):=by show _=_;rw[hst];simp
    clear hst;go_wp2_with fail;go_roundw
    case rel=>exact⟨HBr.out.drew,m+1,HQ.out,by go_num,HY.out⟩
    case measure=>simp[intOf];omega
   .have hy1:y=true:=by rw[hst];simp
    subst hy1;clear hst;go_wp2_with fail;go_ret;exact⟨_,rfl,by simp,HBw.out.drew⟩
  .have hml':¬(m:Int)<L.length:=by omega
   have hz:=HZ.out m (by omega);rw[hy]at hz;subst hz;clear hbr hbw hy;go_wp2_with fail;go_ret;exact⟨_,rfl,by decide,HBw.out⟩
def aid(B:Nat)(L:List (Int×Int))(v:Value)(c n:Int)(w:World)(h:TsAt B v L w)(hB:B<=w.heap.size):
  cpr 231 #[v,.agg #[ui c,ui n]] w λe w'=>e=.returned (.bool (L.contains (c,n)))/\Below w.heap.size w w':=by
 obtain⟨W0,hW0⟩:=xj (w.alloc (.cells #[ui c,ui n] 36));have hb0:Below w.heap.size w W0:=by rw[<-hW0];exact al _
 have hx0:W0.heap[w.heap.size]?=some (.cells #[ui c,ui n] 36 (0,0)):=by rw[<-hW0];exact ae w _
 have z0:ce W0 w.heap.size 0 (ui c):=Aa hx0 rfl;have z1:ce W0 w.heap.size 1 (ui n):=Aa hx0 rfl;have CI:Hid (1=1->cpr 254 #[v,.agg #[ui c,ui n]] W0 λe w'=>∃i:Int,e=.returned (iw i)/\Hid (decide (0<=i)=L.contains (c,n)/\Below w.heap.size w w')):=λ_=>by refine(auw B L v c n W0 (RwAt.on h (hb0.mono hB)) (ak hB hb0.size)).mono ?_;rintro e w' ⟨i,rfl,hi,hb'⟩;exact⟨i,rfl,hi,hb0.trans (hb'.mono hb0.size)⟩
 obtain⟨ao,cap,rfl,hlc,hcm⟩:=h.shape;clear h hB hlc hcm hb0 hx0;generalize L.contains (c,n)=y at*;go_enter Tryz.func231,Tryz.ntmps231;go_wp2_with fail;refine(CI.out (by trivial)).mono ?_;rintro e w1 ⟨i,rfl,HI⟩;clear CI z0 z1 hW0;go_wp2_with fail;go_ret;exact⟨by rw[<-HI.out.1];rfl,HI.out.2⟩
def aqy{bx:Nat}{ap aq:Int}{w W:World}(x:Bi×Ii)(h:Fb bx ap aq w W)(e:w.heap.size=bx):Below w.heap.size w ((((((((((W.setCell ⟨bx+1,0,none⟩ (ui x.2.c)).setCell ⟨bx+1,1,none⟩ (ui x.2.n)).setCell ⟨bx+1,2,none⟩ (uw x.2.sp)).setCell ⟨bx+1,3,none⟩ (ui x.2.sl)).setCell ⟨bx+1,4,none⟩ (uw x.2.mp)).setCell ⟨bx+1,5,none⟩ (ui x.2.ml)).setCell ⟨bx+1,6,none⟩ (sd x.2.prim)).setCell ⟨bx+1,7,none⟩ (sd x.1)).setCell ⟨bx+1,8,none⟩ (sd x.2.val)).setCell ⟨bx+1,9,none⟩ (.bool x.2.dead)):=by
 have hb:Below w.heap.size w W:=by rw[e];exact h.bel
 exact V4 x hb (by omega)
def ava{B p pm hb:Nat}{t:Tr}{m0:Mm}{T:Tb}{w:World}(lo hi:Bi)(ap aq:Int)(but:List (Int×Int))(v:Value)(h:Tx B p pm hb t m0 w)(hr:Rel t.toL m0 T)(hl:T.length<10000)(hv:TsAt w.heap.size v but w):cpr 190 #[pz p,sd lo,sd hi,.agg #[uw ap,ui aq],v] w λe w'=>e=.returned (fsV (Oj lo hi ap aq but T))/\Below w.heap.size w w':=by
 obtain⟨va,vc,rfl,-,-⟩:=hv.shape;rw[ame];obtain⟨q,hq⟩:=xj (stQ ap aq but);have HQ:Hid (∀x:Bi×Ii,q x=(!Ar ap aq x.2.mp x.2.ml&& !but.contains (x.2.c,x.2.n))):=λx=>by rw[<-hq];rfl
 rw[hq];clear hq;obtain⟨R,hR⟩:=xj (rngT lo hi T);rw[hR];have HR0:Hid (rngT lo hi T=R.drop 0):=by show _=_;rw[qx];exact hR
 have HMem:Hid (∀y∈R,y∈T):=λy hy=>by rw[<-hR]at hy;exact(jh.1 hy).1
 clear hR;obtain⟨Y,hY⟩:=xj (R.find? q);have HY:Hid (R.find? q=Y):=hY;rw[hY];clear hY;have HX:Hid (Fb w.heap.size ap aq w ((w.alloc (.cells #[uw ap,ui aq] 38)).alloc (.cells #[ui 0,ui 0,uw 0,ui 0,uw 0,ui 0,su,su,su,.bool false] 155))):=by obtain⟨h1,h2,h3⟩:=aks w (.cells #[uw ap,ui aq] 38) (.cells #[ui 0,ui 0,uw 0,ui 0,uw 0,ui 0,su,su,su,.bool false] 155);exact⟨h1,h2,h3⟩
 obtain⟨bx,hbx⟩:=xj w.heap.size;rw[hbx]at HX;have HBX:Hid (w.heap.size=bx):=hbx;have HT:Hid (∀W,Fb bx ap aq w W->Tx B p pm hb t m0 W):=λW hW=>h.on (by unfold Bw;rw[hbx];exact hW.bel);have HNx:Hid (∀(lw:Bi) (m:Nat),rngT lw hi T=R.drop m->¬((R.drop m).take 32).length<32->rngT ((((R.drop m).take 32).getD 31 di).1++[0]) hi T=R.drop (m+32)):=λlw m he hn=>by
  have hlen:31<(rngT lw hi T).length:=by rw[he];rw[ig]at hn;omega
  have e1:((R.drop m).take 32).getD 31 di=(rngT lw hi T).getD 31 di:=by rw[he,List.getD,List.getD,List.getElem?_take_of_lt (by omega)]
  rw[e1,ala hr.ok.srt hlen,he,List.drop_drop]
 have HLen:Hid (∀y∈T,y.1.length<=32):=λy hy=>by have:=hr.ok.keys y hy;simp only[kOk,cu,jc]at this;exact this.2
 have CK:Hid (∀(lw:Bi) (m:Nat) W,Hid (Fb bx ap aq w W)->rngT lw hi T=R.drop m->cpr 130 #[pz pm,sd lw,sd hi,iw 32] W λe w'=>∃ao cap,e=.returned (.slice ao ((R.drop m).take 32).length cap)/\Hid (RwAt w'.heap.size 1 (.slice ao ((R.drop m).take 32).length cap) ((R.drop m).take 32).length (kc (((R.drop m).take 32).map (·.1))) w'/\Fb bx ap aq w w')):=λlw m W hW he=>by have htx:=HT.out W hW.out;refine(adx lw hi 32 htx.map (by rw[hr.len];omega)).mono ?_;rintro e w' ⟨v',rfl,ho,hb'⟩;rw[Xe hr.keys,he]at ho;have ho':=Bl ho;rw[mr]at ho';obtain⟨sa,sc,rfl,-,-,-,-⟩:=ho';exact⟨sa,sc,rfl,by have:=Bl ho;rw[mr]at this;exact this,hW.out.on hbx hb'⟩
 have CO:Hid (∀(y:Bi×Ii) W,y∈T->Hid (Fb bx ap aq w W)->cpr 187 #[pz p,sd y.1] W λe w'=>e=.returned (.tuple #[.agg #[ui y.2.c,ui y.2.n,uw y.2.sp,ui y.2.sl,uw y.2.mp,ui y.2.ml,sd y.2.prim,sd y.1,sd y.2.val,.bool y.2.dead],.bool true])/\Hid (Below W.heap.size W w')):=λy W hy hW=>by refine(of19 y.1 (HT.out W hW.out) hr).mono ?_;rintro e w' ⟨rfl,hb'⟩;rw[(Dy hr.ok.srt).2 hy];exact⟨rfl,hb'⟩
 have CL:Hid (∀mp ml W,cpr 84 #[.agg #[uw ap,ui aq],.agg #[uw mp,ui ml]] W λe w'=>e=.returned (.bool (Ar ap aq mp ml))/\Below W.heap.size W w'):=λmp ml W=>Ya ap aq mp ml W;have CA:Hid (∀c n W,Hid (Fb bx ap aq w W)->cpr 231 #[.slice va but.length vc,.agg #[ui c,ui n]] W λe w'=>e=.returned (.bool (but.contains (c,n)))/\Below W.heap.size W w'):=λc n W hW=>aid w.heap.size but _ c n W (RwAt.on hv (by rw[hbx];exact hW.out.bel)) (by rw[hbx];exact ak (Nat.le_of_eq hbx.symm) hW.out.bel.size);clear h hr hv hl;go_enter Tryz.func190,Tryz.ntmps190;go_wp2_with fail;obtain⟨W0,hW0⟩:=xj ((w.alloc (.cells #[uw ap,ui aq] 38)).alloc (.cells #[ui 0,ui 0,uw 0,ui 0,uw 0,ui 0,su,su,su,.bool false] 155));rw[hW0]at HX|-;clear hW0 hbx;go_loopw [1] (λf wr=>∃(m:Nat) (lw:Bi),f=sd lw/\rngT lw hi T=R.drop m/\(R.take m).find? q=none/\Fb bx ap aq w wr) (λf _=>afn hi T f)
 case atStart=>exact⟨0,lo,rfl,HR0.out,rfl,HX.out⟩
 case round=>
  obtain⟨m,lw,rfl,hrng,hno,hfb⟩:=hrel;have HF:Hid (Fb bx ap aq w wr):=hfb;have HRng:Hid (rngT lw hi T=R.drop m):=hrng;have HNo:Hid ((R.take m).find? q=none):=hno;have HNext:Hid (¬((R.drop m).take 32).length<32->rngT ((((R.drop m).take 32).getD 31 di).1++[0]) hi T=R.drop (m+32)):=HNx.out lw m hrng;have HLf:Hid (afn hi T (sd lw)=(R.drop m).length):=by show _=_;rw[afm,hrng]
  have d0:=(HT.out wr hfb).cells.1;have CKK:Hid (1=1->_):=λ_=>CK.out lw m wr HF hrng;clear hrng hno hfb HX HR0 CK HNx;go_wp2_with fail;refine(CKK.out (by trivial)).mono ?_;rintro e w2 ⟨ao,cap,rfl,HK⟩;have HQm:Hid (∀y∈(R.drop m).take 32,y∈T):=λy hy=>HMem.out y (List.mem_of_mem_drop (uk hy));have HFound:Hid (∀j,j<((R.drop m).take 32).length->(((R.drop m).take 32).take j).find? q=none->q (((R.drop m).take 32).getD j di)=true->R.find? q=some (((R.drop m).take 32).getD j di)):=λj hj h1 h2=>ahf HNo.out hj h1 h2;have HAll:Hid ((((R.drop m).take 32).take ((R.drop m).take 32).length).find? q=none->(((R.drop m).take 32).length<32->R.find? q=none)/\(R.take (m+32)).find? q=none):=λh1=>alk HNo.out (by rw[um]at h1;exact h1);have HSz:Hid (((R.drop m).take 32).length<=32/\(¬((R.drop m).take 32).length<32->(R.drop (m+32)).length<(R.drop m).length)):=by rw[ig];refine⟨by omega,λh1=>?_⟩;rw[jr,jr]at*;omega
  clear CKK d0 HF;generalize hQ:(R.drop m).take 32=Q at*;clear hQ;rw[HY.out]at HFound HAll;go_wp2_with fail;go_loopw [29] (λi wq=>∃j:Nat,j<=Q.length/\i=iw j/\(Q.take j).find? q=none/\Fb bx ap aq w wq/\Below w2.heap.size w2 wq) (λi _=>Q.length-(intOf i).toNat)
  case atStart=>exact⟨0,eu _,rfl,rfl,HK.out.2,aj _ _⟩
  case round=>
   obtain⟨j,hj,rfl,hnj,hfj,hbj⟩:=hrel;have HFj:Hid _:=hfj;have HBj:Hid _:=hbj;have HNj:Hid _:=hnj;have hq32:Q.length<=32:=HSz.out.1;by_cases hjl:j<Q.length
   .obtain⟨b,off,rfl,e0⟩:=ap6 (RwAt.on HK.out.1 hbj) (i:=j) (by rw[mr];exact hjl);rw[show(Q.map (·.1)).getD j []=(Q.getD j di).1 from by simp[List.getD,hjl]]at e0;have hjl':(j:Int)<Q.length:=by omega
    have HJ:Hid (j+1<=Q.length):=hjl;have hQj:=HQ.out (Q.getD j di);have HFd:Hid (q (Q.getD j di)=true->Y=some (Q.getD j di)):=HFound.out j hjl hnj;have HGo:Hid (q (Q.getD j di)=false->(Q.take (j+1)).find? q=none):=λh1=>amg hjl hnj h1;have CX:Hid (1=1->_):=λ_=>CO.out (Q.getD j di) wr (HQm.out _ (Xi hjl)) HFj;clear hnj hfj hbj HFound HAll HSz HNext HNo HLf HRng;generalize Q.getD j di=x at*;obtain⟨k,s⟩:=x;dsimp only at e0 hQj CX;go_wp2_with fail;refine(CX.out (by trivial)).mono ?_;rintro e w3 ⟨rfl,hb3⟩;obtain⟨Wa,hWa⟩:=xj (w3.alloc (.cells #[ui s.c,ui s.n,uw s.sp,ui s.sl,uw s.mp,ui s.ml,sd s.prim,sd k,sd s.val,.bool s.dead] 155));have hia:abe Wa w3.heap.size 0 (k,s):=by rw[<-hWa];exact ay6 w3 k s
    have hba:Below wr.heap.size wr Wa:=by rw[<-hWa];exact hb3.out.alloc hb3.out.size _
    have HFa:Hid (Fb bx ap aq w Wa):=HFj.out.on HBX.out hba;have HBa:Hid (Below w2.heap.size w2 Wa):=HBj.out.trans (hba.mono HBj.out.size);obtain⟨ba,hbaq⟩:=xj w3.heap.size;rw[hbaq]at hia;have HIa:Hid (abe Wa ba 0 (k,s)):=hia;obtain⟨i0,i1,i2,i3,i4,i5,i6,i7,i8,i9⟩:=hia;simp only[ni]at i0 i1 i2 i3 i4 i5 i6 i7 i8 i9;obtain⟨f0,f1⟩:=HFa.out.two;have CLL:Hid (1=1->_):=λ_=>CL.out s.mp s.ml Wa;obtain⟨z,hz⟩:=xj (Ar ap aq s.mp s.ml);rw[hz]at CLL hQj;clear hz hb3 hba CX HFj HBj e0;cases z with
    |true=>
     have HG:Hid ((Q.take (j+1)).find? q=none):=HGo.out (by rw[hQj];rfl);clear hQj HFd HGo;go_wp2_with fail;refine(CLL.out (by trivial)).mono ?_;rintro e w4 ⟨rfl,hb4⟩;have HF4:Hid (Fb bx ap aq w w4):=HFa.out.on HBX.out hb4;have HB4:Hid (Below w2.heap.size w2 w4):=HBa.out.trans (hb4.mono HBa.out.size);clear hb4 CLL i0 i1 i2 i3 i4 i5 i6 i7 i8 i9 f0 f1 hWa hbaq HIa HFa HBa;go_wp2_with fail;go_roundw
     case rel=>exact⟨j+1,HJ.out,by go_num,HG.out,HF4.out,HB4.out⟩
     case measure=>simp[intOf];omega
    |false=>
     go_wp2_with fail;refine(CLL.out (by trivial)).mono ?_;rintro e w4 ⟨rfl,hb4⟩;have HF4:Hid (Fb bx ap aq w w4):=HFa.out.on HBX.out hb4;have HB4:Hid (Below w2.heap.size w2 w4):=HBa.out.trans (hb4.mono HBa.out.size);have HI4:Hid (abe w4 ba 0 (k,s)):=HIa.out.on hb4;obtain⟨g0,g1,-,-,-,-,-,-,-,-⟩:=HI4.out;simp only[ni]at g0 g1;have CAA:Hid (1=1->_):=λ_=>CA.out s.c s.n w4 HF4;obtain⟨z,hz⟩:=xj (but.contains (s.c,s.n));rw[hz]at CAA hQj;clear hz hb4 CLL i0 i1 i2 i3 i4 i5 i6 i7 i8 i9 f0 f1 hWa hbaq HIa HFa HBa;cases z with
     |true=>
      have HG:Hid ((Q.take (j+1)).find? q=none):=HGo.out (by rw[hQj];rfl);clear hQj HFd HGo;go_wp2_with fail;refine(CAA.out (by trivial)).mono ?_;rintro e w5 ⟨rfl,hb5⟩;have HF5:Hid (Fb bx ap aq w w5):=HF4.out.on HBX.out hb5;have HB5:Hid (Below w2.heap.size w2 w5):=HB4.out.trans (hb5.mono HB4.out.size);clear hb5 CAA g0 g1 HF4 HB4 HI4;go_wp2_with fail;go_roundw
      case rel=>exact⟨j+1,HJ.out,by go_num,HG.out,HF5.out,HB5.out⟩
      case measure=>simp[intOf];omega
     |false=>
      have hY:Y=some (k,s):=HFd.out (by rw[hQj];rfl);subst hY;clear hQj HFd HGo;go_wp2_with fail;refine(CAA.out (by trivial)).mono ?_;rintro e w5 ⟨rfl,hb5⟩;have HF5:Hid (Fb bx ap aq w w5):=HF4.out.on HBX.out hb5;have HI5:Hid (abe w5 ba 0 (k,s)):=HI4.out.on hb5;obtain⟨i0,i1,i2,i3,i4,i5,i6,i7,i8,i9⟩:=HI5.out;simp only[ni]at i0 i1 i2 i3 i4 i5 i6 i7 i8 i9;have HB1:=HF5.out.b1;have zz0:=bk10 HB1;have f0:w5.frozen? ⟨bx+1,0,none⟩=false:=Ad HB1 0;have f1:w5.frozen? ⟨bx+1,1,none⟩=false:=Ad HB1 1;have f2:w5.frozen? ⟨bx+1,2,none⟩=false:=Ad HB1 2;have f3:w5.frozen? ⟨bx+1,3,none⟩=false:=Ad HB1 3;have f4:w5.frozen? ⟨bx+1,4,none⟩=false:=Ad HB1 4;have f5:w5.frozen? ⟨bx+1,5,none⟩=false:=Ad HB1 5;have f6:w5.frozen? ⟨bx+1,6,none⟩=false:=Ad HB1 6;have f7:w5.frozen? ⟨bx+1,7,none⟩=false:=Ad HB1 7;have f8:w5.frozen? ⟨bx+1,8,none⟩=false:=Ad HB1 8;have f9:w5.frozen? ⟨bx+1,9,none⟩=false:=Ad HB1 9;have HP:Hid _:=Ym (k,s) HB1;have HBw:Hid _:=aqy (k,s) HF5.out HBX.out;clear hb5 CAA g0 g1 HF4 HB4 HI4 HB1 HF5 HI5;go_wp2_with fail;obtain⟨g0,g1,g2,g3,g4,g5,g6,g7,g8,g9⟩:=HP.out;simp only[ni]at g0 g1 g2 g3 g4 g5 g6 g7 g8 g9;refine az (v:=fsV (some (k,s))) (by simp[results,Tryz.results190,go_sem,g0,g1,g2,g3,g4,g5,g6,g7,g8,g9,fsV,inV]) rfl ?_;exact⟨rfl,HBw.out⟩
   .have hjl':¬(j:Int)<Q.length:=by omega
    have hjq:j=Q.length:=by omega
    obtain⟨k1,k2⟩:=HAll.out (hjq▸hnj);clear hnj hfj hbj hj HFound;by_cases hfull:Q.length<32
    .have hfull':(Q.length:Int)<32:=by omega
     have hY:Y=none:=k1 hfull;subst hY;have HB1:=HFj.out.b1;have zz0:=bk10 HB1;have f0:wr.frozen? ⟨bx+1,0,none⟩=false:=Ad HB1 0;have f1:wr.frozen? ⟨bx+1,1,none⟩=false:=Ad HB1 1;have f2:wr.frozen? ⟨bx+1,2,none⟩=false:=Ad HB1 2;have f3:wr.frozen? ⟨bx+1,3,none⟩=false:=Ad HB1 3;have f4:wr.frozen? ⟨bx+1,4,none⟩=false:=Ad HB1 4;have f5:wr.frozen? ⟨bx+1,5,none⟩=false:=Ad HB1 5;have f6:wr.frozen? ⟨bx+1,6,none⟩=false:=Ad HB1 6;have f7:wr.frozen? ⟨bx+1,7,none⟩=false:=Ad HB1 7;have f8:wr.frozen? ⟨bx+1,8,none⟩=false:=Ad HB1 8;have f9:wr.frozen? ⟨bx+1,9,none⟩=false:=Ad HB1 9;have HP:Hid _:=Ym ([],zi) HB1;have HBw:Hid _:=aqy ([],zi) HFj.out HBX.out;clear HB1 k1 k2 HNj;go_wp2_with fail;obtain⟨g0,g1,g2,g3,g4,g5,g6,g7,g8,g9⟩:=HP.out;simp only[ni,zi,ui,uw,sd,show bs []=⟨#[]⟩from rfl]at g0 g1 g2 g3 g4 g5 g6 g7 g8 g9;refine az (v:=fsV none) (by simp[results,Tryz.results190,go_sem,g0,g1,g2,g3,g4,g5,g6,g7,g8,g9,fsV,inV,zi,ui,uw,sd,show bs []=⟨#[]⟩from rfl]) rfl ?_;exact⟨rfl,HBw.out⟩
    .have h32:Q.length=32:=by have:=HSz.out.1;omega
     obtain⟨b,off,rfl,e0⟩:=ap6 (RwAt.on HK.out.1 HBj.out) (i:=31) (by rw[mr];omega);rw[show(Q.map (·.1)).getD 31 []=(Q.getD 31 di).1 from by simp[List.getD,show 31<Q.length by omega]]at e0;have HN2:Hid (rngT ((Q.getD 31 di).1++[0]) hi T=R.drop (m+32)):=HNext.out hfull;have hkl:(Q.getD 31 di).1.length<1000:=by have:=HLen.out (Q.getD 31 di) (HQm.out _ (Xi (by omega)));omega
     have HK2:Hid _:=k2;have HMs:Hid ((R.drop (m+32)).length<(R.drop m).length):=HSz.out.2 hfull;have CU:Hid (1=1->_):=λ_=>awi (Q.getD 31 di).1 wr hkl;clear k1 k2 HNj hkl hfull HNext HSz HAll HQm;generalize (Q.getD 31 di).1=k at*;have HRl:Hid (∃m' lw',Value.string (bs (k++[0]))=sd lw'/\rngT lw' hi T=R.drop m'/\(R.take m').find? q=none/\Fb bx ap aq w wr):=⟨m+32,k++[0],rfl,HN2.out,HK2.out,HFj.out⟩;have HMe:Hid (afn hi T (.string (bs (k++[0])))<afn hi T (sd lw)):=by show _<_;rw[afm,HN2.out,HLf.out];exact HMs.out
     obtain rfl:j=32:=by omega
     rw[h32];clear hjq hjl hjl' HN2 HK2 HMs HLf hq32;go_wp2_with fail;refine(CU.out (by trivial)).mono ?_;rintro e w5 ⟨rfl,rfl⟩;clear CU e0 h32;go_wp2_with fail;go_roundw
     case rel=>exact HRl.out
     case measure=>exact HMe.out
def aa2{L:List Wr}{k:Bi}{m:Nat}(hm:m<=L.length):((L.take m).any λa=>a.key==k)=true↔∃i,i<m/\(L.getD i dw).key=k:=by
 exact azr
def WsAt.tk{B:Nat}{ao:Option Addr}{cap:Nat}{L:List Wr}{w:World}(h:WsAt B (.slice ao L.length cap) L w){m:Nat}(hm:m<=L.length):WsAt B (.slice ao m cap) (L.take m) w:=by have:=RwAt.take h hm;rw[Wl Rx]at this;unfold WsAt;rw[ig,yj hm];exact this
def aq1:∀args w,(callFunc 174 args).run Tryz.prog w=.ok (.enter 174 args) w:=enters_of Tryz.func174 (by kernel_rfl) rfl
def ent31:∀args w,(callFunc 113 args).run Tryz.prog w=.ok (.enter 113 args) w:=enters_of Tryz.func113 (by kernel_rfl) rfl
def Sm(B:Nat)(L:List Wr)(v:Value)(w:World)(h:WsAt B v L w)(hB:B<=w.heap.size):
  cpr 108 #[v] w λe w'=>e=.returned (.bool (Bf L))/\Bw w w':=by
 obtain⟨ao,cap,rfl,hlc,hcm⟩:=h.shape;have HW:Hid (∀W,Bw w W->WsAt w.heap.size (.slice ao L.length cap) L W):=λW hW=>RwAt.le (h.on (hW.mono hB)) hB;have HE:Hid (∀W,Bw w W->∀i,i<L.length->∃b off,ao=some ⟨b,off,none⟩/\Gm W b (off+i*3) (L.getD i dw)):=λW hW i hi=>(HW.out W hW).el hi;have HBad:Hid (∀m,m<L.length->wOk (L.getD m dw)=false->Bf L=false):=λm hm hw=>Wp hm hw;have HTw:Hid (∀k m,k<m->m<L.length->(L.getD k dw).key=(L.getD m dw).key->Bf L=false):=λk m hk hm he=>Qy hk hm he;have HEnd:Hid (RtN L L.length->Bf L=(decide (1<=L.length)&&decide (L.length<=16))):=Wn;have HSz:Hid (¬(1<=L.length/\L.length<=16)->Bf L=false):=λhn=>by
  exact bca
 exact zl
def new9(w:World):cpr 21 #[] w λe w'=>∃p M,e=.returned (pz p)/\TabAt w.heap.size p M [] w'/\Bw w w':=by
 have hmm:=@run_makeMap Tryz.prog;have CN:Hid (1=1->cpr 40 #[] w λe w'=>∃pm,e=.returned (pz pm)/\Hid (∃t,Mp w.heap.size pm t w'/\t.toL=[]/\Bw w w')):=λ_=>by refine(Yi w).mono ?_;rintro e w' ⟨pm,F,rfl,⟨t,hm,hl,_⟩,hb⟩;exact⟨pm,rfl,t,hm,hl,hb⟩
 have HT:Hid (∀pm w1,(∃t,Mp w.heap.size pm t w1/\t.toL=[]/\Bw w w1)->TabAt w.heap.size (w1.alloc (.map #[] 0)).heap.size (D5 (w1.alloc (.map #[] 0)).heap.size pm w1.heap.size .nil []) [] ((w1.alloc (.map #[] 0)).alloc (.cells #[pz pm,.map (some w1.heap.size)] 126))/\Bw w ((w1.alloc (.map #[] 0)).alloc (.cells #[pz pm,.map (some w1.heap.size)] 126))):=λpm w1=>by
  rintro⟨t,hm,hl,hb⟩;have ht:t=.nil:=by
   cases t using Tr.cas with
   |nil=>rfl
   |node b l k v x r=>simp[Tr.toL]at hl
  subst ht;have hpl:=(gsz hm.box);have b1:Bw w1 (w1.alloc (.map #[] 0)):=al _;have b2:Below (w1.alloc (.map #[] 0)).heap.size (w1.alloc (.map #[] 0)) ((w1.alloc (.map #[] 0)).alloc (.cells #[pz pm,.map (some w1.heap.size)] 126)):=al _;have s1:(w1.alloc (.map #[] 0)).heap.size=w1.heap.size+1:=Lt _ _;have hbb:Bw w ((w1.alloc (.map #[] 0)).alloc (.cells #[pz pm,.map (some w1.heap.size)] 126)):=(hb.trans (b1.mono hb.size)).trans (b2.mono (by rw[s1];have:=hb.size;omega));refine⟨⟨pm,w1.heap.size,.nil,[],⟨ae _ _,?_,?_,by simp,?_⟩,Rel.nil,rfl⟩,hbb⟩
  .exact(hm.kept (Kept.of_below (F:=λ_=>False) b1) (λh=>h) (λ_ _ h=>h)).kept (Kept.of_below (F:=λ_=>False) b2) (λh=>h) (λ_ _ h=>h)
  .exact(Rw.new w1).kept (Kept.of_below (F:=λ_=>False) b2) (λh=>h)
  .refine⟨by omega,by omega,by omega,by simp[Tr.blocks],by simp[Tr.blocks],?_,hb.size⟩;rw[s1];have:=hb.size;omega
 go_enter Tryz.func21,Tryz.ntmps21;go_wp2_with fail;refine(CN.out (by trivial)).mono ?_;rintro e w1 ⟨pm,rfl,HM⟩;obtain⟨h1,h2⟩:=HT.out pm w1 HM.out;have HX:Hid _:=jq h1 h2;clear CN HT HM h1 h2;rw[Lt]at HX;go_wp2_with fail;go_ret;exact⟨_,_,rfl,HX.out⟩
def lay31{B p pm hb:Nat}{t:Tr}{m:Mm}{T:Tb}{w:World}(x:Wr)(b6:Nat)(h:Tx B p pm hb t m w)(hr:Rel t.toL m T)(h6:w.cell? ⟨b6,0,none⟩=some (pz p)):cpr 113 #[.agg #[sd x.key,sd x.val,.bool x.dead],pz b6] w λe w'=>e=.returned (.bool (getF x.key T).isSome)/\Bw w w':=by
 obtain⟨W0,hW0⟩:=xj (w.alloc (.cells #[sd x.key,sd x.val,.bool x.dead] 106));have hb0:Bw w W0:=by rw[<-hW0];exact al _
 have hx0:W0.heap[w.heap.size]?=some (.cells #[sd x.key,sd x.val,.bool x.dead] 106 (0,0)):=by rw[<-hW0];exact ae w _
 have z0:W0.cell? ⟨w.heap.size,0,none⟩=some (sd x.key):=Aa hx0 rfl;have y0:W0.cell? ⟨b6,0,none⟩=some (pz p):=by rw[hb0.cell (ed _ _ h6)];exact h6
 have CC:Hid (1=1->cpr 114 #[pz p,sd x.key] W0 λe w'=>e=.returned (.bool (getF x.key T).isSome)/\Hid (Bw w w')):=λ_=>by refine(amv x.key (h.on hb0) hr).mono ?_;rintro e w' ⟨rfl,hb'⟩;exact⟨rfl,hb0.trans (hb'.mono hb0.size)⟩
 clear h hr h6 hb0 hx0;generalize (getF x.key T).isSome=z at*;go_enter Tryz.func113,Tryz.ntmps113;go_wp2_with fail;refine(CC.out (by trivial)).mono ?_;rintro e w1 ⟨rfl,HB⟩;clear CC z0 y0 hW0;go_wp2_with fail;go_ret;exact⟨rfl,HB.out⟩
