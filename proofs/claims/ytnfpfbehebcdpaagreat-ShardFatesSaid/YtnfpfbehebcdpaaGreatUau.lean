import Derived.Shelf.Strings.Builder1
import Derived.Laws.AppendOwnNone
import Derived.Lib.QuietBelow
import Derived.Deep.RegionHeld3
import Derived.Test.YtnfpfbehebcdpaaGreatUaq
set_option maxHeartbeats 0
set_option maxRecDepth 99999
set_option linter.all false
namespace Go.Proofs.YtnfpfbehebcdpaaGreat.Lgs
open Go.RowKit
def akn:(Tryz.prog.info? 261).map (·.size)=some 2:=by kernel_rfl
def avw:liesAt Tryz.prog Tryz.prog.depth 261 (2/Tryz.prog.cellsOf 261) 0 261 1=true:=by kernel_rfl
def aeg(b:Nat)(w:World)(h0:w.cell? ⟨b,0,none⟩=some (pz b)):
  cpr 212 #[pz b] w λe w'=>e=.returned (.tuple #[])/\w'=w:=by
 obtain⟨j,hj,_⟩:=o8.1 akn;go_enter Tryz.func212,Tryz.ntmps212;go_wp2;rw[Lib.run_neq_ptr_same w _ Tryz.underlying259 hj];go_wp2;go_end0
 exact⟨rfl,rfl⟩
def abb(b:Nat)(w:World)(h0:w.cell? ⟨b,0,none⟩=some (.pointer none))(hsh:w.shape? b=some (261,2))(hfz:w.frozen? ⟨b,0,none⟩=false):
  cpr 212 #[pz b] w λe w'=>e=.returned (.tuple #[])/\w'=w.setCell ⟨b,0,none⟩ (pz b):=by
 obtain⟨j,hj,hjs⟩:=o8.1 akn;go_enter Tryz.func212,Tryz.ntmps212;go_wp2;rw[Lib.run_to_unsafe w ⟨b,0,none⟩ Tryz.underlying259 Tryz.underlying327 hj (by rw[hjs];decide) hsh (Nat.zero_lt_succ 1)];simp only[Result.andThen];rw[Oper.upon_value];go_wp2;rw[run_callFunc_extern Tryz.func238 (by kernel_rfl) (by kernel_rfl) (by kernel_rfl) (e:=Extern.AbiNoEscape.same) (by kernel_rfl)];rw[Lib.run_noEscape];simp only[Result.andThen];rw[Oper.upon_value];go_wp2;rw[Lib.run_from_unsafe w ⟨b,0,none⟩ Tryz.underlying327 Tryz.underlying259 hj hsh avw];simp only[Result.andThen];rw[Oper.upon_value];go_wp2;go_end0
 exact⟨rfl,rfl⟩
def avo(B b:Nat)(bs:List Value)(w:World)(h:Lib.IsBuilder 261 5 B b bs w):
  cpr 212 #[pz b] w λe w'=>e=.returned (.tuple #[])/\(Lib.BuilderAt 261 5 B b (pz b) bs w'/\Below B w w'):=by
 rcases h with h|h
 .refine(abb b w h.cell0 h.shape h.frozen0).mono ?_;rintro e w' ⟨rfl,rfl⟩;exact⟨rfl,h.used _,(aj B w).setCell (p:=⟨b,0,none⟩) h.1 _⟩
 .refine(aeg b w h.cell0).mono ?_;rintro e w' ⟨rfl,rfl⟩;exact⟨rfl,h,aj B _⟩
def ar2(B b:Nat)(bs:List Value)(s:ByteArray)(w:World)(h:Lib.IsBuilder 261 5 B b bs w)(hlen:bs.length+s.size<=140737488355328)(hBw:B<=w.heap.size):
  cpr 170 #[pz b,.string s] w λe w'=>e=.returned (.tuple #[iw s.size,.nilIface])/\(Lib.BuilderAt 261 5 B b (pz b) (bs++Lib.strCells s) w'/\Below B w w'):=by
 obtain⟨i0,hi,hz0,hz1,hz2⟩:=qc info5;go_enter Tryz.func170,Tryz.ntmps170;go_wp2_with (go_at_call 212;refine(avo B b bs _ h).mono ?_);rintro e w1 ⟨rfl,h1,hb1⟩;obtain⟨hB,v,hbk,hown,hne⟩:=h1;have c0:w1.cell? ⟨b,0,none⟩=some (pz b):=by rw[Lib.cell_of_heap hbk];rfl
 have c1:w1.cell? ⟨b,1,none⟩=some v:=by rw[Lib.cell_of_heap hbk];rfl
 go_wp2_with (at_builtin;refine Lib.wpList_append_own_string _ rfl _ _ 73 9 rfl B 5 i0 Tryz.underlying73 Tryz.underlying9 hi hz0 hz1 hz2 _ _ _ rfl hown s rfl ?c3 ?c4 ?c5 ?_);case c3=>unfold maxLen;omega
 case c4=>omega
 case c5=>have:=hb1.size;omega
 intro v' w2 hown' hgrow _;have hlt:b<w1.heap.size:=gp hbk;have hb2:w2.heap[b]?=some (.cells #[pz b,v] 261 (0,0)):=by rw[hgrow.block b hlt (λe=>hne e.symm)];exact hbk
 have d0:w2.cell? ⟨b,0,none⟩=some (pz b):=by rw[Lib.cell_of_heap hb2];rfl
 have d1:w2.cell? ⟨b,1,none⟩=some v:=by rw[Lib.cell_of_heap hb2];rfl
 have f1:w2.frozen? ⟨b,1,none⟩=false:=Lib.frozen_of_heap hb2 1;obtain⟨ao,n',cap,rfl⟩:∃ao n' cap,v'=.slice ao n' cap:=by
  rcases hown'.2 with⟨hv,_⟩|⟨g,cap,cur,hv,_⟩
  .exact⟨_,_,_,hv⟩
  .exact⟨_,_,_,hv⟩
 go_wp2
 go_ret2
 refine⟨rfl,?_,?_⟩
 .exact Lib.BuilderAt.put (T:=261) (e:=5) hB hb2 (bs':=bs++Lib.strCells s) (by simpa[Lib.strCells_length]using hown') (by decide)
 .exact(hb1.grown hgrow (by have:=hb1.size;omega) (λk hk=>(hown.lt k hk).1)).setCell (p:=⟨b,1,none⟩) hB _
def ana(w:World):Gm w.heap.size [] (w.alloc (.cells #[sy] 163)):=⟨_,ae w _,qi _ _ _ _⟩
def ap0(rb:Nat)(st:St)(w:World)(h:RdAt 191 rb st w):cpr 236 #[pz rb] w λe w'=>e=.returned (iw st.l.length)/\w=w':=by have zc0:=Fg h;have hs:=Bq st.l;go_enter Tryz.func236,Tryz.ntmps236;go_wp2;go_ret;exact⟨rfl,rfl⟩
def Xx(a b:Bi):bs a++bs b=bs (a++b):=by apply akm;simp[bs]
def aty(w:World)(X:Int)(k base:Nat)(hk:k<256)(hX:X=(k:Int))(hb:base<=w.heap.size):
  (w.alloc (.cells #[ub X] 5)).ownsRow base 5 1 (.slice (some ⟨w.heap.size,0,none⟩) 1 1) [UInt8.ofNat k].length (cl [UInt8.ofNat k]):=by
 refine⟨by simp[cl],.inr ⟨w.heap.size,1,#[ub X],rfl,hb,ae w _,ai _,by unfold maxLen;omega,rfl,?_⟩⟩;rw[arl k hk,hX];rfl
open Go.RowKit Go.Sort
def avt(l:Bi):(⟨#[215]⟩:ByteArray)++bs l=bs (215::l):=Xx [215] l
def aw6(p:Bi)(w:World)(hp:p.length<=16384):
  cpr 213 #[sd p] w λe w'=>e=.returned (.tuple #[.string (bs (Aj p)),iw 0])/\Bw w w':=by
 have hs:=Bq p;have h':¬(16384:Int)<p.length:=by omega
 have hbl:(bs (Au p)).size=sz p.length+p.length:=by rw[Bq,Lr]
 have hz:=Ux hp;go_enter Tryz.func213,Tryz.ntmps213;go_wp2_with fail;obtain⟨pb,hpb⟩:∃pb,pb=w.heap.size:=⟨_,rfl⟩;have hA:=ant pb [] (bs p) (w.alloc (.cells #[sy] 163)) (by rw[hpb];exact ana w) (by simp;omega);rw[<-hpb];refine hA.mono ?_;clear hA;rintro e w2 ⟨rfl,h1,k1⟩;rw[mf,hs,D6]at h1;have H1:Hid (Gm pb (Au p) w2/\Bw w w2):=⟨h1,(al _).trans (k1.below.mono (by omega))⟩;clear h1 k1 hpb;have hm:=avt (Au p);have hm2:bs (215::Au p)++bs (four (crc (Au p)))=bs (Aj p):=Xx _ _;have hml:(bs (215::Au p)).size=sz p.length+p.length+1:=by rw[Bq,bg,Lr]
 have hfl:(bs (four (crc (Au p)))).size=4:=Bq _;have hsl:∀w,cpr 237 #[.string (bs (Au p))] w λe w'=>e=.returned (.string (bs (four (crc (Au p)))))/\Bw w w':=λw=>by have:=aog (bs (Au p)) w (by omega);rw[D6]at this;exact this
 have HS:Hid (∀w,1=1->cpr 237 #[.string (bs (Au p))] w λe w'=>e=.returned (.string (bs (four (crc (Au p)))))/\Bw w w'):=λw _=>hsl w;clear hsl;obtain⟨G,hG⟩:∃G,G=Aj p:=⟨_,rfl⟩;rw[<-hG]at hm2;have HG:Hid (G=Aj p):=hG;clear hG;generalize four (crc (Au p))=F at*;generalize Au p=B at*;go_wp2_with (first
  |(go_at_call 77;refine(aeh pb _ _ H1.out.1).mono ?_;rintro e w3 ⟨rfl,rfl⟩)
  |(go_at_call 237;refine(HS.out _ (by trivial)).mono ?_;rintro e w3 ⟨rfl,hb⟩;have HB:Hid (Bw w w3):=H1.out.2.trans (hb.mono H1.out.2.size);clear hb))
 go_ret2
 rw[<-HG.out];exact⟨rfl,HB.out⟩
def aro(l:Bi)(a b:Nat):(bs l).extract a b=bs ((l.drop a).take (b-a)):=by apply akm;rw[Lib.extract_data,D6]
def below_drewN{B:Nat}{a w:World}(h:Below B a w)(n:Nat):Below B a (w.drewN n):=⟨h.os,h.tape,h.output,h.size,h.block⟩
def ado(x:Bi×Nat×Nat):Value:=.tuple #[sd x.1,iw x.2.1,iw x.2.2]
def ayi(l:Bi)(w:World)(hl:l.length<9223372036854775807):
  cpr 206 #[sd l] w λe w'=>e=.returned (ado (D8 l))/\Below w.heap.size w w':=by
 cases l with
 |nil=>
  have hb:=Iq;go_enter Tryz.func206,Tryz.ntmps206;go_wp2
  go_ret3
  exact⟨rfl,aj _ _⟩
 |cons b r=>
  have hb:(bs (b::r)).toList.isEmpty=false:=by rw[Jo];rfl
  have hsz:(bs (b::r)).size=r.length+1:=by rw[Bq];rfl
  have hsz0:0<(bs (b::r)).size:=by omega
  have hget:(bs (b::r))[0]'hsz0=b:=rfl;have hb256:=Tj b;have hl2:r.length+1<9223372036854775807:=hl;by_cases hb0:b.toNat=215
  .have hb0':((b.toNat:Int) != (((⟨#[215]⟩:ByteArray)[0]'(by decide)).toNat:Int))=false:=by rw[show(((⟨#[215]⟩:ByteArray)[0]'(by decide)).toNat)=215 from rfl];simp;omega
   have hbe:b=215:=UInt8.toNat.inj hb0;have hdr:=J8 (b::r) 1;rw[hsz,oh,qx]at hdr;have hdef:D8 (b::r)=if(Cf 0 16384 ⟨r,0⟩).2.e≠0 then([],0,(Cf 0 16384 ⟨r,0⟩).2.e)else
     if(Cf 0 16384 ⟨r,0⟩).2.l.length<4 then([],0,4)else
     if(Cf 0 16384 ⟨r,0⟩).2.l.take 4≠four (crc (Au (Cf 0 16384 ⟨r,0⟩).1))then([],0,5)else
     ((Cf 0 16384 ⟨r,0⟩).1,(Aj (Cf 0 16384 ⟨r,0⟩).1).length,0):=by
    rw[D8,ag (by simp),ag (by simp[hbe])];rfl
   have hok:=λh=>(aiw (least:=0) (most:=16384) (st:=⟨r,0⟩) h).2;have htx:=λrb w h=>acy rb ⟨r,0⟩ 0 16384 w h (by show r.length<_;omega) (by decide) (by decide) (by decide) (by decide);obtain⟨⟨p,L,x⟩,hf⟩:∃f,f=Cf 0 16384 ⟨r,0⟩:=⟨_,rfl⟩;rw[<-hf]at hdef hok htx;dsimp only at hdef hok htx;clear hf;have HD:Hid _:=hdef;have HOK:Hid (x=0->r=Au p++L):=hok;have HT:Hid (∀rb w,RdAt 191 rb ⟨r,0⟩ w->cpr 100 #[pz rb,iw 0,iw 16384] w λe w'=>e=.returned (sd p)/\RdAt 191 rb ⟨L,x⟩ w'/\Ff rb w w'):=htx;clear hdef hok htx hbe hb0;go_enter Tryz.func206,Tryz.ntmps206;go_wp2_with fail
   go_quiet (fail)
   go_wp2_with fail;refine(apm r _).mono ?_;rintro e w1 ⟨rfl,h1,k1⟩;obtain⟨rb,hrb⟩:∃rb,rb=w.heap.size:=⟨_,rfl⟩;simp only[Bw,World.heap_drewN,<-hrb]at h1 k1|-;have H1:Hid (RdAt 191 rb ⟨r,0⟩ w1/\Below rb w w1):=⟨h1,(below_drewN (aj _ _) _).trans k1⟩;have HRB:Hid (rb=w.heap.size):=hrb;clear h1 k1 hrb;go_wp2_with fail;refine(HT.out rb _ H1.out.1).mono ?_;rintro e w2 ⟨rfl,h1,k1⟩;have H2:Hid (RdAt 191 rb ⟨L,x⟩ w2/\Below rb w w2):=⟨h1,H1.out.2.trans (k1.below (ai _) (by have:=H1.out.1.lt;omega))⟩;clear h1 k1 H1 HT;go_wp2_with fail;refine(Kz rb _ _ H2.out.1).mono ?_;rintro e w3 ⟨rfl,rfl⟩;dsimp only;by_cases hx:x=0
   .subst hx;go_wp2_with fail;refine(ap0 rb _ _ H2.out.1).mono ?_;rintro e w3 ⟨rfl,rfl⟩;dsimp only;by_cases hL:L.length<4
    .have hL':(L.length:Int)<4:=by omega
     go_wp2
     go_ret3
     rw[HD.out,ag (by simp),ah hL,<-HRB.out];exact⟨rfl,H2.out.2⟩
    .have hL':¬(L.length:Int)<4:=by omega
     have hrt:=HOK.out (by trivial);have htl:=Lr p;have hrl:=iq List.length hrt;rw[af]at hrl;obtain⟨E,hE⟩:∃E,E=(Au p).length+1:=⟨_,rfl⟩;have hszE:(bs (b::r)).size=E+L.length:=by omega
     have hx1:(bs (b::r)).extract E (E+4)=bs (L.take 4):=by rw[aro,hrt,hE,oh,List.drop_left,Nat.add_sub_cancel_left]
     have hx2:(bs (b::r)).extract 1 E=bs (Au p):=by rw[aro,hrt,hE,oh,qx,Nat.add_sub_cancel,List.take_left]
     have hsl:∀w,cpr 237 #[.string (bs (Au p))] w λe w'=>e=.returned (.string (bs (four (crc (Au p)))))/\Below w.heap.size w w':=λw=>by have:=aog (bs (Au p)) w (by rw[Bq];omega);rw[D6]at this;exact this
     have hfl:(Aj p).length=E+4:=by rw[Gx,hE,htl]
     have HFL:Hid ((Aj p).length=E+4):=hfl;have hEb:E+L.length<9223372036854775807:=by omega
     have hE1:1<=E:=by omega
     clear hrt htl hrl hE hsz hfl;have HSL:Hid (∀w,1=1->cpr 237 #[.string (bs (Au p))] w λe w'=>e=.returned (.string (bs (four (crc (Au p)))))/\Below w.heap.size w w'):=λw _=>hsl w;clear hsl;go_wp2_with (go_at_call 236;refine(ap0 rb _ _ H2.out.1).mono ?_;rintro e w3 ⟨rfl,rfl⟩);obtain⟨F,hF⟩:∃F,F=four (crc (Au p)):=⟨_,rfl⟩;have cS:∀d os,cpr 237 #[.string (bs (Au p))] (grow (redrawn w2 d) os) λe w''=>e=.returned (sd F)/\∃p:Regrown,w''=grow (redrawn w2 p.d) p.os:=λd os=>by rw[hF];exact Calls.regrown_of (HSL.out _ (by trivial))
     have HF:Hid (F=four (crc (Au p))):=hF;clear hF HSL;have h04:(0:Int)<=(E:Int)+4:=by omega
     have hE4:(E:Int)<=(E:Int)+4:=by omega
     have htn:((E:Int)+4).toNat=E+4:=by omega
     have hEL:(E:Int)<=(E:Int)+(L.length:Int):=by omega
     have h1E:(1:Int)<=(E:Int):=by omega
     refine wp_region_quiet_below (by kernel_rfl) (by kernel_rfl) ?_
     quiet_step (fail)
     quiet_step (fail)
     quiet_step (fail)
     quiet_step (fail)
     quiet_step (fail)
     quiet_step (fail)
     quiet_step (fail)
     quiet_step (exact cS _ _)
     quiet_step (fail)
     refine wpQuiet_nil ?_;intro _ hw';obtain⟨⟨dq,osq⟩,hw''⟩:=hw';subst hw'';have HB5:Hid (Below rb w (grow (redrawn w2 dq) osq)):=H2.out.2.trans ((below_regrown w2 dq osq).mono (by have:=H2.out.1.lt;omega));clear cS h04 hE4 htn;by_cases hq:L.take 4=F
     .have ht:((bs (L.take 4)).toList==(bs F).toList)=true:=by rw[Gqf,Gqf,D6,D6,hq];simp
      have HQ:Hid (L.take 4=F):=hq;rw[ht];clear hq ht;go_wp2
      go_ret3
      rw[HD.out,ag (by simp),ag hL,ag (by rw[HQ.out,HF.out];simp),HFL.out,<-HRB.out];exact⟨rfl,HB5.out⟩
     .have ht:((bs (L.take 4)).toList==(bs F).toList)=false:=by rw[Gqf,Gqf,D6,D6];simpa using hq
      have HQ:Hid (¬L.take 4=F):=hq;rw[ht];clear hq ht;go_wp2
      go_ret3
      rw[HD.out,ag (by simp),ag hL,ah (by rw[<-HF.out];exact HQ.out),<-HRB.out];exact⟨rfl,HB5.out⟩
   .have hx':((x:Int) != 0)=true:=by simp;omega
    go_wp2
    go_ret3
    rw[HD.out,ah hx,<-HRB.out];exact⟨rfl,H2.out.2⟩
  .have hb0':((b.toNat:Int) != (((⟨#[215]⟩:ByteArray)[0]'(by decide)).toNat:Int))=true:=by rw[show(((⟨#[215]⟩:ByteArray)[0]'(by decide)).toNat)=215 from rfl];simp;omega
   have hdef:D8 (b::r)=([],0,2):=by rw[D8,ag (by simp),ah];intro e;simp only[List.headD_cons]at e;rw[e]at hb0;exact hb0 rfl
   have HD:Hid _:=hdef;clear hdef hb0;go_enter Tryz.func206,Tryz.ntmps206;go_wp2_with fail
   go_quiet (fail)
   go_wp2
   go_ret3
   rw[HD.out];exact⟨rfl,below_drewN (aj _ _) _⟩
def end89(rb:Nat)(st:St)(w:World)(h:RdAt 191 rb st w):cpr 46 #[pz rb] w λe w'=>e=.returned (iw (Tu st))/\w=w':=by
 exact avp
def aw5(k:Nat)(r:Bi)(w:World)(hk:k<256)(hr:r.length<16384):
  cpr 171 #[ub k,sd r] w λe w'=>e=.returned (.string (bs (Aj (UInt8.ofNat k::r))))/\Below w.heap.size w w':=by
 have hcv:(convert 73 9 (.slice (some ⟨w.heap.size,0,none⟩) 1 1)).run Tryz.prog (w.alloc (.cells #[ub k] 5))=.ok (.string (bs [UInt8.ofNat k])) (w.alloc (.cells #[ub k] 5)):=Qw (aty w k k w.heap.size hk rfl (ai _));have hcat:bs [UInt8.ofNat k]++bs r=bs (UInt8.ofNat k::r):=Xx _ _;have h1:(bs [UInt8.ofNat k]).size=1:=Bq _;have h2:(bs r).size=r.length:=Bq _;have HW:Hid (∀w,1=1->cpr 213 #[.string (bs (UInt8.ofNat k::r))] w λe w'=>e=.returned (.tuple #[.string (bs (Aj (UInt8.ofNat k::r))),iw 0])/\Below w.heap.size w w'):=λw _=>aw6 _ w (by rw[bg];omega);generalize bs (Aj (UInt8.ofNat k::r))=F at*;generalize bs (UInt8.ofNat k::r)=X at*;generalize bs [UInt8.ofNat k]=K at*;go_enter Tryz.func171,Tryz.ntmps171;go_wp2_with (go_at_call 213;refine(HW.out _ (by trivial)).mono ?_;rintro e w2 ⟨rfl,hb⟩);go_ret;exact⟨rfl,(al _).trans (hb.mono (by simp))⟩
def nxVal(x:UInt8×Bi×Nat):Value:=.tuple #[ub x.1.toNat,sd x.2.1,iw x.2.2]
def aho(l:Bi)(w:World)(hl:l.length<9223372036854775807):
  cpr 164 #[sd l] w λe w'=>e=.returned (nxVal (nx l))/\Below w.heap.size w w':=by
 have HN:Hid (∀w,1=1->cpr 206 #[sd l] w λe w'=>e=.returned (ado (D8 l))/\Below w.heap.size w w'):=λw _=>ayi l w hl;obtain⟨p,t,x,hf⟩:∃p t x,D8 l=(p,t,x):=⟨_,_,_,rfl⟩;have hnx:nx l=if x≠0\/p=[]then(0,[],0)else(p.headD 0,p.tail,t):=by unfold nx;rw[hf]
 rw[hnx];rw[hf]at HN;unfold ado at HN;dsimp only at HN;by_cases hx:x=0
 .subst hx;cases p with
  |nil=>
   rw[ah (.inr rfl)];have hb:=Iq;exact baz
  |cons b r=>
   rw[ag (by simp)];have hb:(bs (b::r)).toList.isEmpty=false:=by rw[Jo];rfl
   have hs:(bs (b::r)).size=r.length+1:=Bq _;have hg:(bs (b::r)).data[0]?=some b:=by simp[bs]
   have hd:(bs (b::r)).extract 1 (r.length+1)=bs r:=by rw[<-hs];exact J8 (b::r) 1
   have HD:Hid _:=hd;clear hd hg;clear hf hnx;go_enter Tryz.func164,Tryz.ntmps164;go_wp2_with (go_at_call 206;refine(HN.out _ (by trivial)).mono ?_;rintro e w2 ⟨rfl,hb2⟩)
   go_quiet (fail)
   go_wp2
   go_ret3
   refine⟨?_,below_drewN hb2 _⟩;show Ending.returned (.tuple #[ub ((bs (b::r))[0].toNat:Int),.string ((bs (b::r)).extract 1 (r.length+1)),iw (t:Int)])=_;rw[HD.out];rfl
 .rw[ah (.inl hx)];have hx':((x:Int) != 0)=true:=by simp;omega
  exact baz
def aba(l:Bi):Bool:=decide (Tu (rdNum 18446744073709551615 ⟨l,0⟩).2=0)
def aln{l:Bi}(h:aba l=true):numOf l=some (rdNum 18446744073709551615 ⟨l,0⟩).1:=by unfold numOf;rw[ah (of_decide_eq_true h)]
def apd{l:Bi}(h:aba l=false):numOf l=none:=by unfold numOf;rw[ag (of_decide_eq_false h)]
def apc(l:Bi)(w:World)(hl:l.length<9223372036854775807):
  cpr 165 #[sd l] w λe w'=>e=.returned (.tuple #[uw (rdNum 18446744073709551615 ⟨l,0⟩).1,.bool (aba l)])/\Below w.heap.size w w':=by
 have hn:aba l=decide (Tu (rdNum 18446744073709551615 ⟨l,0⟩).2=0):=rfl;rw[hn];clear hn;have hl2:(⟨l,0⟩:St).l.length<9223372036854775808:=by show l.length<_;omega
 generalize hst:(⟨l,0⟩:St)=st at*;obtain⟨n,s1,hr⟩:∃n s1,rdNum 18446744073709551615 st=(n,s1):=⟨_,_,rfl⟩;obtain⟨x,hx⟩:=xj (Tu s1);rw[hr,hx];dsimp only;obtain⟨bx,hbx⟩:=xj ((x:Int)==0);have hbx2:decide (x=0)=bx:=by rw[<-hbx];by_cases h:x=0<;>simp[h]
 rw[hbx2];clear hbx2;obtain⟨rb,hrb⟩:∃rb,rb=w.heap.size:=⟨_,rfl⟩;rw[<-hrb];have HRB:Hid (rb=w.heap.size):=hrb;clear hrb;go_enter Tryz.func165,Tryz.ntmps165;go_wp2_with fail;refine(apm l w).mono ?_;unfold Bw;rw[<-HRB.out];rintro e w1 ⟨rfl,hR,hB⟩;rw[hst]at hR;go_wp2_with fail;refine(aaf rb st 18446744073709551615 w1 hR hl2).mono ?_;rw[hr];rintro e w2 ⟨rfl,hR2,hS⟩;dsimp only at hR2|-;have HB:Hid (Below rb w w2):=hB.trans ⟨hS.os,hS.tape,hS.output,hS.size,λk hk=>hS.block k (by have:=gp hR;omega) (by omega)⟩;have HE:Hid (1=1->cpr 46 #[pz rb] w2 λe w'=>e=.returned (iw x)/\w2=w'):=λ_=>hx▸end89 rb s1 w2 hR2;clear hR hR2 hS hB hr hx hst;go_wp2_with (go_at_call 46;refine(HE.out (by trivial)).mono ?_;rintro e w3 ⟨rfl,rfl⟩)
 go_ret2
 exact⟨rfl,HB.out⟩
def info9:(Tryz.prog.info? 9).map (λi=>(i.zero,i.size,i.bytes))=some (some su,1,16):=by kernel_rfl
def sl(L:List Bi):List Value:=L.map λp=>Value.string (bs p)
def asw(L:List Bi)(p:Bi):sl (L++[p])=sl L++[sd p]:=by simp[sl]
def TxAt(B:Nat)(v:Value)(L:List Bi)(w:World):Prop:=w.ownsRow B 9 1 v L.length (sl L)
def J9{B:Nat}{v:Value}{L:List Bi}{w:World}(h:TxAt B v L w):∃ao cp,v=.slice ao L.length cp:=by
 rcases h.2 with⟨rfl,h0⟩|⟨g,cap,cur,rfl,_⟩
 .exact⟨none,0,by rw[h0]⟩
 .exact⟨_,_,rfl⟩
def TxAt.on{B:Nat}{v:Value}{L:List Bi}{w w':World}(h:TxAt B v L w)(hb:Bw w w'):TxAt B v L w':=by
 refine⟨h.1,?_⟩;rcases h.2 with h2|⟨g,cap,cur,hv,hg,hh,r⟩
 .exact .inl h2
 .exact .inr ⟨g,cap,cur,hv,hg,by rw[hb.block g (gp hh),hh],r⟩
def Y9(B:Nat)(w:World):TxAt B sy [] w:=qi _ _ _ _
def aiy(s:ByteArray):∀u∈[Value.string s],u.oneCell'=true:=by intro u hu;simp at hu;subst hu;rfl
open Drm (Dr Pt Ak Bd)
def Yp{D:Dr}(h:D.Ok)(a:Int)(s:Bi):(putF D a s).2.Ok:=by
 unfold putF;split
 .exact h.write a s
 .exact(h.write a s).sync a
def awu(pb:Nat)(D:Dr)(a:Int)(s:Bi)(w:World)(hD:Ak pb D w)(hOk:D.Ok):cpr 89 #[pz pb,iw a,sd s] w λe w'=>e=.returned (iw (putF D a s).1)/\Ak pb (putF D a s).2 w'/\Drm.Kept pb w w':=by
 obtain⟨x,D1,hx⟩:∃x D1,D.write a s=(x,D1):=⟨_,_,rfl⟩;have hok1:D1.Ok:=by have:=hOk.write a s;rw[hx]at this;exact this
 have HW:Hid (1=1->cpr 168 #[pz pb,iw a,sd s] w λe w'=>e=.returned (iw x)/\Ak pb D1 w'/\Drm.Kept pb w w'):=λ_=>by have:=Drm.ar6 pb D a s w hD hOk;rw[hx]at this;exact this
 by_cases h0:x=0
 .subst h0;have hp:putF D a s=D1.sync a:=by unfold putF;rw[hx];simp
  rw[hp];obtain⟨y,D2,hy⟩:∃y D2,D1.sync a=(y,D2):=⟨_,_,rfl⟩;have HS:Hid (∀w1,Ak pb D1 w1->cpr 169 #[pz pb,iw a] w1 λe w'=>e=.returned (iw y)/\Ak pb D2 w'/\Drm.Kept pb w1 w'):=λw1 h1=>by have:=Drm.axk pb D1 a w1 h1 hok1;rw[hy]at this;exact this
  rw[hy];dsimp only;clear hp hx hy hok1 hD hOk;go_enter Tryz.func89,Tryz.ntmps89;go_wp2_with fail;refine(HW.out (by trivial)).mono ?_;rintro e w1 ⟨rfl,h1,k1⟩;have HS1:Hid (1=1->cpr 169 #[pz pb,iw a] w1 λe w'=>e=.returned (iw y)/\Ak pb D2 w'/\Drm.Kept pb w1 w'):=λ_=>HS.out w1 h1;clear h1;go_wp2_with (go_at_call 169;refine(HS1.out (by trivial)).mono ?_;rintro e w2 ⟨rfl,h2,k2⟩);go_ret;exact⟨rfl,h2,k1.trans k2⟩
 .have hp:putF D a s=(x,D1):=by unfold putF;rw[hx];simp[h0]
  rw[hp];dsimp only;have hx':(x != 0)=true:=by simp[h0]
  clear hp hx hok1 hD hOk h0;go_enter Tryz.func89,Tryz.ntmps89;go_wp2_with (go_at_call 168;refine(HW.out (by trivial)).mono ?_;rintro e w1 ⟨rfl,h1,k1⟩);go_ret;exact⟨rfl,h1,k1⟩
def au1(D:Dr)(k:Nat)(hk:k<4):D.has k=(D.p k).there:=by unfold Drm.Dr.has;simp;omega
def aaw{D:Dr}(h:D.Ok)(kept:Int)(k:Nat):(Cc D kept k).2.Ok:=by
 induction k with
 |zero=>exact h
 |succ k ih=>
  rw[Cc];split
  .exact ih
  .split
   .exact ih
   .exact ih.cut _
def amn{D:Dr}{kept:Int}{k:Nat}(h:(Cc D kept k).1≠0)(n:Nat):Cc D kept (k+n)=Cc D kept k:=by
 induction n with
 |zero=>rfl
 |succ n ih=>rw[<-Nat.add_assoc,Cc,ih,ah h]
def ah9{D:Dr}{kept:Int}{k:Nat}(hk:k<=4)(h:(Cc D kept k).1≠0):Cc D kept 4=Cc D kept k:=by
 have:=amn h (4-k)
 rwa [Nat.add_sub_of_le hk]at this
def cut27(pb:Nat)(D:Dr)(kept:Int)(w:World)(hD:Ak pb D w)(hOk:D.Ok):cpr 36 #[pz pb,iw kept] w λe w'=>e=.returned (iw (Cc D kept 4).1)/\Ak pb (Cc D kept 4).2 w'/\Drm.Kept pb w w':=by
 have H0:Hid (Ak pb D w/\D.Ok):=⟨hD,hOk⟩;clear hD hOk;go_enter Tryz.func36,Tryz.ntmps36;go_wp2_with fail;go_loopw [7] (λi wr=>∃k:Nat,k<=4/\i=iw k/\(Cc D kept k).1=0/\Ak pb (Cc D kept k).2 wr/\Drm.Kept pb w wr) (λi _=>4-(intOf i).toNat)
 case atStart=>exact⟨0,by omega,rfl,rfl,H0.out.1,Drm.Kept.refl _ _⟩
 case round=>
  obtain⟨k,hk,rfl,he,hwr,hkept⟩:=hrel;have HR:Hid (Ak pb (Cc D kept k).2 wr/\Drm.Kept pb w wr/\(Cc D kept k).1=0):=⟨hwr,hkept,he⟩;clear hwr hkept he;by_cases hlt:k<4
  .have hsucc:Cc D kept (k+1)=if(k:Int)=kept\/(Cc D kept k).2.has k=false then Cc D kept k else(Cc D kept k).2.cut k:=by rw[Cc,ag (by rw[HR.out.2.2];simp)]
   have hok:=aaw H0.out.2 kept k;by_cases hkk:(k:Int)=kept
   .have hs:Cc D kept (k+1)=Cc D kept k:=by rw[hsucc,ah (.inl hkk)]
    have HS:Hid _:=hs;have hb:((k:Int)==kept)=true:=by simp[hkk]
    clear hsucc hok hs hkk;go_wp2_with fail;exact bba
   .have hb:((k:Int)==kept)=false:=by simp[hkk]
    obtain⟨D1,hD1⟩:=xj (Cc D kept k).2;have HH:Hid (1=1->cpr 85 #[pz pb,iw k] wr λe w'=>e=.returned (.bool (D1.has k))/\wr=w'):=λ_=>hD1▸Drm.awx pb _ k wr HR.out.1;have HCt:Hid (1=1->cpr 79 #[pz pb,iw k] wr λe w'=>e=.returned (iw (D1.cut k).1)/\Ak pb (D1.cut k).2 w'/\Drm.Kept pb wr w'):=λ_=>hD1▸Drm.cut38 pb _ k wr HR.out.1 hok;rw[hD1]at hsucc;have HD1:Hid _:=hD1;clear hD1 hok;obtain⟨hh,hhh⟩:=xj (D1.has k);rw[hhh]at HH hsucc;clear hhh;cases hh with
    |false=>
     have hs:Cc D kept (k+1)=Cc D kept k:=by rw[hsucc,ah (.inr rfl)]
     have HS:Hid _:=hs;clear hsucc hs hkk HCt;go_wp2_with (go_at_call 85;refine(HH.out (by trivial)).mono ?_;rintro e w1 ⟨rfl,rfl⟩);exact bba
    |true=>
     have hs:Cc D kept (k+1)=D1.cut k:=by rw[hsucc,ag (by simp[hkk])]
     obtain⟨x,D2,hx⟩:∃x D2,D1.cut k=(x,D2):=⟨_,_,rfl⟩;rw[hx]at hs HCt;have HS:Hid _:=hs;clear hsucc hs hkk hx;by_cases hx0:x=0
     .subst hx0;go_wp2_with (first
       |(go_at_call 85;refine(HH.out (by trivial)).mono ?_;rintro e w1 ⟨rfl,rfl⟩)
       |(go_at_call 79;refine(HCt.out (by trivial)).mono ?_;rintro e w1 ⟨rfl,h1,k1⟩;have H1:Hid _:=jq h1 k1;clear h1 k1))
      go_roundw
      case rel=>exact⟨k+1,by omega,by go_num,by rw[HS.out],by rw[HS.out];exact H1.out.1,HR.out.2.1.trans H1.out.2⟩
      case measure=>simp[intOf];omega
     .have hx':(x != 0)=true:=by simp[hx0]
      have HX:Hid (x≠0):=hx0;clear hx0;go_wp2_with (first
       |(go_at_call 85;refine(HH.out (by trivial)).mono ?_;rintro e w1 ⟨rfl,rfl⟩)
       |(go_at_call 79;refine(HCt.out (by trivial)).mono ?_;rintro e w1 ⟨rfl,h1,k1⟩;have H1:Hid _:=jq h1 k1;clear h1 k1))
      go_ret;rw[ah9 (k:=k+1) (by omega) (by rw[HS.out];exact HX.out),HS.out];exact⟨rfl,H1.out.1,HR.out.2.1.trans H1.out.2⟩
  .have HE:Hid (k=4):=(by omega:k=4);go_wp2;go_ret;obtain⟨h1,h2,h3⟩:=HR.out;rw[HE.out]at h1 h3;rw[h3];exact⟨rfl,h1,h2⟩
end Go.Proofs.YtnfpfbehebcdpaaGreat.Lgs
namespace Go.Proofs
open Go.Shelf
def Tryz.lays169_ren:Go.Shelf.Ren:=⟨λ|169=>172|n=>n,λ|70=>259|9=>9|0=>0|72=>261|37=>73|127=>304|3=>3|5=>5|n=>n,λ|n=>n⟩
def Tryz.lays169:Go.Proofs.Lays.n169 Tryz.prog Tryz.lays169_ren:={mixed:=by kernel_rfl,f169:=Tryz.func172.trans (congrArg some (by kernel_rfl)),t0:=Tryz.underlying0,a0:=Tryz.isAgg0,z0:=Tryz.sizeOf0,v0:=Tryz.zeroValue0,t3:=Tryz.underlying3,a3:=Tryz.isAgg3,z3:=Tryz.sizeOf3,v3:=Tryz.zeroValue3,t9:=Tryz.underlying9,a9:=Tryz.isAgg9,z9:=Tryz.sizeOf9,v9:=Tryz.zeroValue9,t37:=Tryz.underlying73,a37:=Tryz.isAgg73,z37:=Tryz.sizeOf73,v37:=Tryz.zeroValue73,t70:=Tryz.underlying259,a70:=Tryz.isAgg259,z70:=Tryz.sizeOf259,v70:=Tryz.zeroValue259,t72:=Tryz.underlying261,a72:=Tryz.isAgg261,z72:=Tryz.sizeOf261,v72:=Tryz.zeroValue261,t127:=Tryz.underlying304,a127:=Tryz.isAgg304,z127:=Tryz.sizeOf304,v127:=Tryz.zeroValue304}
def Tryz.Builder_Extra_169:Builder.Extra Tryz.prog Tryz.lays169_ren:={sizeBuilder:=by kernel_rfl,liesBuilder:=by kernel_rfl,t5:=Tryz.underlying5,a5:=Tryz.isAgg5,z5:=Tryz.sizeOf5,v5:=Tryz.zeroValue5,infoByte:=by kernel_rfl,cellsByte:=by kernel_rfl,sizeByte:=by kernel_rfl,neB5:=by decide}
open Go.RowKit in
def Tryz.Builder_String_any(B b:Nat)(l:List UInt8)(w:World)(h:Lib.IsBuilder 261 5 B b (Lib.byteCells l) w)(hBw:B<=w.heap.size):
  Calls Tryz.prog 172 #[.pointer (some ⟨b,0,none⟩)] w λe w'=>e=.returned (.string ⟨l.toArray⟩)/\Below B w w':=Any.Builder_String_any Tryz.lays169 Tryz.Builder_Extra_169 B b l w h hBw
end Go.Proofs
namespace Go.Proofs.YtnfpfbehebcdpaaGreat.Lgs
open Go.RowKit Go.Sort
open Drm (Dr Pt Ak Bd)
def N8(pb:Nat)(v:Value)(R:List Bi)(w:World):Prop:=
 ∃ao cap,v=.slice ao R.length cap/\(0<R.length->∃b o,ao=some ⟨b,o,none⟩/\b≠pb/\(∀i,i<R.length->w.cell? ⟨b,o+i,none⟩=some (.string (bs (R.getD i []))))/\(b<pb\/∃cs fz,w.heap[b]?=some (.cells cs 9 fz)))
theorem _root_.Go.Proofs.YtnfpfbehebcdpaaGreat.Drm.Kept.of_below{pb:Nat}{w w':World}(hp:pb<w.heap.size)(h:Below w.heap.size w w'):Drm.Kept pb w w':=
 ⟨h.mono (og hp),λk o hk _ _=>by rw[h.block k (gp hk)];exact hk⟩
def N8.nil(pb:Nat)(w:World):N8 pb sy [] w:=⟨none,0,rfl,λh=>absurd h (by simp)⟩
def N8.kept{pb:Nat}{v:Value}{R:List Bi}{w w':World}(h:N8 pb v R w)(hk:Drm.Kept pb w w'):N8 pb v R w':=by
 obtain⟨ao,cap,rfl,h⟩:=h;refine⟨ao,cap,rfl,λh0=>?_⟩;obtain⟨b,o,rfl,hne,hc,hor⟩:=h h0;have hblk:w'.heap[b]?=w.heap[b]?:=by
  rcases hor with h1|⟨cs,fz,h1⟩
  .exact hk.below.block b h1
  .rw[h1];exact hk.other b _ h1 hne (by intro cs' fz' e;injection e with _ e _;exact absurd e (by decide))
 refine⟨b,o,rfl,hne,λi hi=>?_,?_⟩
 .have:=hc i hi;unfold World.cell? at this|-;dsimp only at this|-;rw[hblk];exact this
 .rcases hor with h1|⟨cs,fz,h1⟩
  .exact .inl h1
  .exact .inr ⟨cs,fz,by rw[hblk];exact h1⟩
def Ye(R:List Bi)(k:Nat)(h:k<R.length):copies (R.take (k+1))=copies (R.take k)++Aj (67::R.getD k []):=by
 have e:R.take (k+1)=R.take k++[R.getD k []]:=by rw[xq];simp[bf h,List.getD]
 rw[e,af9]
def aib(R:List Bi)(k:Nat)(h:Fit R)(hk:k<=R.length):(copies (R.take k)).length<=16020*k:=by
 induction k with
 |zero=>simp[copies]
 |succ k ih=>
  rw[Ye R k (by omega),af,Gx,bg];have h1:=ih (by omega);have h2:=h (R.getD k []) (by simp[List.getD,bf (by omega:k<R.length)]);have h3:=Ux (n:=(R.getD k []).length+1) (by omega);omega
def Qo(bb:Nat)(l:Bi)(w:World):Prop:=Lib.IsBuilder 261 5 bb bb (cl l) w
def aw0{bb:Nat}{p:Value}{l:List Value}{w w':World}(h:Lib.BuilderAt 261 5 bb bb p l w)(hb:Below w.heap.size w w'):Lib.BuilderAt 261 5 bb bb p l w':=by have hlt:=h.lt;obtain⟨h1,v,h2,h3,h4⟩:=h;exact⟨h1,v,by rw[hb.block bb hlt,h2],h3.kept (row:=none) ⟨hb.os,hb.tape,hb.output,hb.size,λk hk _=>hb.block k hk⟩ (by cases v.ownBlock<;>simp),h4⟩
def Qo.on{bb:Nat}{l:Bi}{w w':World}(h:Qo bb l w)(hb:Below w.heap.size w w'):Qo bb l w':=by
 rcases h with h|h
 .exact .inl (aw0 h hb)
 .exact .inr (aw0 h hb)
def Qo.lt{bb:Nat}{l:Bi}{w:World}(h:Qo bb l w):bb<w.heap.size:=by
 rcases h with h|h
 .exact h.lt
 .exact h.lt
def azn(w:World):Qo w.heap.size [] (w.alloc (.cells #[.pointer none,sy] 261)):=
 .inl ⟨ai _,_,ae w _,qi _ _ _ _,by simp[Value.ownBlock]⟩
def aej(bb:Nat)(l s:Bi)(w:World)(h:Qo bb l w)(hl:l.length+s.length<=140737488355328):
  cpr 170 #[pz bb,sd s] w λe w'=>e=.returned (.tuple #[iw s.length,.nilIface])/\Qo bb (l++s) w'/\Below bb w w':=by
 have:=ar2 bb bb (cl l) (bs s) w h (by rw[Xp,Bq];exact hl) (og h.lt);refine this.mono ?_;rintro e w' ⟨rfl,h1,h2⟩;refine⟨by rw[Bq],.inr ?_,h2⟩;rw[Xq];rw[X6,D6]at h1;exact h1
def Yl(K:Int)(k:Nat)(c:UInt8)(r:Bi)(w:World)(hK:(k:Int)=K)(hc:UInt8.ofNat k=c)(hk:k<256)(hr:r.length<16384):
  cpr 171 #[ub K,sd r] w λe w'=>e=.returned (.string (bs (Aj (c::r))))/\Below w.heap.size w w':=by
 subst hK hc;exact aw5 k r w hk hr
def ay7(pb g:Nat)(R:List Bi)(v:Value)(w:World)(hg:g<18446744073709551616)(hR:Fit R)(hn:R.length<=1000)(hv:N8 pb v R w):
  cpr 90 #[uw g,v] w λe w'=>e=.returned (.string (bs (F9 g R)))/\Below w.heap.size w w':=by
 obtain⟨ao,cap,rfl,hvx⟩:=hv;have hnf:(Am g).length<=9:=by rw[Eg];exact aew hg
 have hfg:(Aj (71::Am g)).length<=20:=by rw[Gx,bg];have:=Ux (n:=(Am g).length+1) (by omega);omega
 go_enter Tryz.func90,Tryz.ntmps90;go_wp2_with fail;obtain⟨nb,hnb⟩:∃nb,nb=w.heap.size:=⟨_,rfl⟩;have h72:=abx nb [] g (w.alloc (.cells #[sy] 163)) hg (by rw[hnb];exact ana w) (by simp);rw[<-hnb];refine h72.mono ?_;clear h72;rintro e w1 ⟨rfl,h1,k1⟩;rw[mf]at h1;have H1:Hid (Gm nb (Am g) w1/\Below nb w w1/\nb=w.heap.size):=⟨h1,by rw[hnb];exact(al _).trans (k1.below.mono (by omega)),hnb⟩;clear h1 k1 hnb;have hnf2:=hnf;generalize hNF:Am g=nf at*;go_wp2_with fail;obtain⟨bb,hbb⟩:∃bb,bb=w1.heap.size:=⟨_,rfl⟩;have hw2:Qo bb [] (w1.alloc (.cells #[.pointer none,sy] 261)):=by rw[hbb];exact azn w1
 have hb2:Below nb w (w1.alloc (.cells #[.pointer none,sy] 261)):=H1.out.2.1.alloc (by rw[H1.out.2.2];exact H1.out.2.1.size) _;have hwr2:Gm nb nf (w1.alloc (.cells #[.pointer none,sy] 261)):=H1.out.1.alloc _;have hnb2:nb<=bb:=by rw[hbb,H1.out.2.2];exact H1.out.2.1.size
 rw[<-hbb];generalize w1.alloc (.cells #[.pointer none,sy] 261)=w2 at*;refine(aeh nb nf w2 hwr2).mono ?_;rintro e w2' ⟨rfl,rfl⟩;have H2:Hid (Qo bb [] w2/\Below nb w w2/\nb=w.heap.size):=⟨hw2,hb2,H1.out.2.2⟩;clear hw2 hb2 hwr2 hbb H1;go_wp2_with fail;obtain⟨FG,hFG⟩:∃FG,FG=Aj (71::nf):=⟨_,rfl⟩;have hWG:=Yl 71 71 71 nf w2 rfl rfl (by decide) (by omega);rw[<-hFG]at hfg hWG;have HFG:Hid (FG=Aj (71::nf)/\Am g=nf):=⟨hFG,hNF⟩;refine hWG.mono ?_;clear hWG hFG hNF;rintro e w3 ⟨rfl,hb3⟩;have H3:Hid (Qo bb [] w3/\Below nb w w3/\nb=w.heap.size):=⟨H2.out.1.on hb3,H2.out.2.1.trans (hb3.mono (by have:=H2.out.1.lt;omega)),H2.out.2.2⟩;clear H2 hb3;go_wp2_with fail;refine(aej bb [] FG w3 H3.out.1 (by simp;omega)).mono ?_;rintro e w4 ⟨rfl,h4,hb4⟩;rw[mf]at h4;have H4:Hid (Qo bb FG w4/\Below nb w w4/\nb=w.heap.size/\FG=Aj (71::nf)/\Am g=nf):=⟨h4,H3.out.2.1.trans (hb4.mono hnb2),H3.out.2.2,HFG.out⟩;clear H3 hb4 h4;go_wp2_with fail;go_loopw [16] (λi wr=>∃k:Nat,k<=R.length/\i=iw k/\Qo bb (FG++copies (R.take k)) wr/\Below nb w wr) (λi _=>R.length-(intOf i).toNat)
 case atStart=>exact⟨0,by omega,rfl,by rw[List.take_zero,show copies []=[]from rfl,jo];exact H4.out.1,H4.out.2.1⟩
 case round=>
  obtain⟨k,hk,rfl,hwr,hbel⟩:=hrel;have HR:Hid (Qo bb (FG++copies (R.take k)) wr/\Below nb w wr/\bb<wr.heap.size):=⟨hwr,hbel,hwr.lt⟩;have hcl:=aib R k hR hk;clear hwr hbel;by_cases hlt:k<R.length
  .obtain⟨b,o,rfl,hne,hc,hor⟩:=hvx (by omega);have hck:wr.cell? ⟨b,o+k,none⟩=some (.string (bs (R.getD k []))):=by have h1:=hc k hlt;have h2:b<w.heap.size:=ed _ _ h1;unfold World.cell? at h1|-;dsimp only at h1|-;rw[HR.out.2.1.block b (by rw[H4.out.2.2.1];exact h2)];exact h1
   have hrk:(R.getD k []).length<=16000:=hR _ (by simp[List.getD,bf hlt]);have HT:Hid (copies (R.take (k+1))=copies (R.take k)++Aj (67::R.getD k [])):=Ye R k hlt;have hfl:(Aj (67::R.getD k [])).length<=16020:=by rw[Gx,bg];have:=Ux (n:=(R.getD k []).length+1) (by omega);omega
   clear hc hor hvx;generalize copies (R.take k)=CP at*;generalize R.getD k []=rk at*;have HW:Hid (∀w,1=1->cpr 171 #[ub 67,sd rk] w λe w'=>e=.returned (.string (bs (Aj (67::rk))))/\Below w.heap.size w w'):=λw _=>Yl 67 67 67 rk w rfl rfl (by decide) (by omega);generalize Aj (67::rk)=FK at*;go_wp2_with fail;refine(HW.out _ (by trivial)).mono ?_;rintro e w5 ⟨rfl,hb5⟩;have H5:Hid (Qo bb (FG++CP) w5/\Below nb w w5):=⟨HR.out.1.on hb5,HR.out.2.1.trans (hb5.mono (by have:=HR.out.2.2;omega))⟩;clear hb5;go_wp2_with fail;refine(aej bb (FG++CP) FK w5 H5.out.1 (by rw[af];omega)).mono ?_;rintro e w6 ⟨rfl,h6,hb6⟩;have H6:Hid (Qo bb (FG++copies (R.take (k+1))) w6/\Below nb w w6):=⟨by rw[HT.out,<-gq];exact h6,H5.out.2.trans (hb6.mono hnb2)⟩;clear h6 hb6;go_wp2_with fail;go_roundw
   case rel=>exact⟨k+1,by omega,by go_num,H6.out.1,H6.out.2⟩
   case measure=>simp[intOf];omega
  .have hkR:R.take k=R:=ay (by omega);rw[hkR]at HR hcl;have HW:Hid (∀w,1=1->cpr 171 #[ub 69,su] w λe w'=>e=.returned (.string (bs (Aj [69])))/\Below w.heap.size w w'):=λw _=>Yl 69 69 69 [] w rfl rfl (by decide) (by decide);have hE:(Aj [69]).length=7:=by rw[Gx];rfl
   have HH:Hid (F9 g R=FG++(copies R++Aj [69])):=by show _=_;unfold F9;rw[H4.out.2.2.2.1,<-H4.out.2.2.2.2]
   clear hkR hvx;generalize copies R=CP at*;generalize Aj [69]=FE at*;go_wp2_with fail;refine(HW.out _ (by trivial)).mono ?_;rintro e w5 ⟨rfl,hb5⟩;have H5:Hid (Qo bb (FG++CP) w5/\Below nb w w5):=⟨HR.out.1.on hb5,HR.out.2.1.trans (hb5.mono (by have:=HR.out.2.2;omega))⟩;clear hb5;go_wp2_with fail;refine(aej bb (FG++CP) FE w5 H5.out.1 (by rw[af];omega)).mono ?_;rintro e w6 ⟨rfl,h6,hb6⟩;have H6:Hid (Qo bb (FG++CP++FE) w6/\Below nb w w6):=⟨h6,H5.out.2.trans (hb6.mono hnb2)⟩;clear h6 hb6;go_wp2_with fail;refine(Tryz.Builder_String_any bb bb (FG++CP++FE) w6 H6.out.1 (og H6.out.1.lt)).mono ?_;rintro e w7 ⟨rfl,hb7⟩;have H7:Hid (Below nb w w7):=H6.out.2.trans (hb7.mono hnb2);clear hb7;go_wp2_with fail;go_ret;rw[HH.out,<-H4.out.2.2.1];exact⟨rfl,H7.out⟩
def lay28(pb:Nat)(D:Dr)(a:Int)(g:Nat)(R:List Bi)(v:Value)(w:World)(hD:Ak pb D w)(hOk:D.Ok)(hg:g<18446744073709551616)(hR:Fit R)(hn:R.length<=1000)(hv:N8 pb v R w):
  cpr 37 #[pz pb,iw a,uw g,v] w λe w'=>e=.returned (iw (layF D a g R).1)/\Ak pb (layF D a g R).2 w'/\Drm.Kept pb w w':=by
 obtain⟨x,D1,hx⟩:∃x D1,D.lay a=(x,D1):=⟨_,_,rfl⟩;have hok1:D1.Ok:=by have:=hOk.lay a;rw[hx]at this;exact this
 have HL:Hid (1=1->cpr 88 #[pz pb,iw a] w λe w'=>e=.returned (iw x)/\Ak pb D1 w'/\Drm.Kept pb w w'):=λ_=>by have:=Drm.lay11 pb D a w hD hOk;rw[hx]at this;exact this
 by_cases h0:x=0
 .subst h0;have hp:layF D a g R=putF D1 a (F9 g R):=by unfold layF;rw[hx];simp
  rw[hp];have HH:Hid (∀w1,N8 pb v R w1->cpr 90 #[uw g,v] w1 λe w'=>e=.returned (.string (bs (F9 g R)))/\Below w1.heap.size w1 w'):=λw1 h1=>ay7 pb g R v w1 hg hR hn h1;have HP:Hid (∀w1,Ak pb D1 w1->cpr 89 #[pz pb,iw a,.string (bs (F9 g R))] w1 λe w'=>e=.returned (iw (putF D1 a (F9 g R)).1)/\Ak pb (putF D1 a (F9 g R)).2 w'/\Drm.Kept pb w1 w'):=λw1 h1=>awu pb D1 a _ w1 h1 hok1;have HV:Hid (N8 pb v R w):=hv;clear hp hx hok1 hD hOk hv hR;generalize (putF D1 a (F9 g R)).1=y at*;generalize (putF D1 a (F9 g R)).2=D2 at*;generalize bs (F9 g R)=HB at*;go_enter Tryz.func37,Tryz.ntmps37;go_wp2_with fail;refine(HL.out (by trivial)).mono ?_;rintro e w1 ⟨rfl,h1,k1⟩;have H1:Hid (Ak pb D1 w1/\Drm.Kept pb w w1/\N8 pb v R w1):=⟨h1,k1,HV.out.kept k1⟩;clear h1 k1;go_wp2_with fail;refine(HH.out _ H1.out.2.2).mono ?_;rintro e w2 ⟨rfl,hb2⟩;have H2:Hid (Ak pb D1 w2/\Drm.Kept pb w w2):=⟨H1.out.1.on hb2,H1.out.2.1.trans (Drm.Kept.of_below H1.out.1.lt hb2)⟩;clear hb2;go_wp2_with fail;refine(HP.out _ H2.out.1).mono ?_;rintro e w3 ⟨rfl,h3,k3⟩;have H3:Hid (Ak pb D2 w3/\Drm.Kept pb w w3):=⟨h3,H2.out.2.trans k3⟩;clear h3 k3;go_wp2_with fail;go_ret;exact⟨rfl,H3.out⟩
 .have hp:layF D a g R=(x,D1):=by unfold layF;rw[hx];simp[h0]
  rw[hp];dsimp only;have hx':(x != 0)=true:=by simp[h0]
  clear hp hx hok1 hD hOk h0 hv hR;go_enter Tryz.func37,Tryz.ntmps37;go_wp2_with (go_at_call 88;refine(HL.out (by trivial)).mono ?_;rintro e w1 ⟨rfl,h1,k1⟩);go_ret;exact⟨rfl,h1,k1⟩
def Md(lb pb:Nat)(a:Int)(g:Nat)(w:World):Prop:=w.heap[lb]?=some (.cells #[pz pb,iw a,uw g] 115 (0,0))
structure LgAt(lb pb:Nat)(a:Int)(g:Nat)(D:Dr)(w:World):Prop where
 blk:Md lb pb a g w
 drum:Ak pb D w
 ne:pb<lb
section
variable {lb pb g:Nat}{a:Int}{D:Dr}{w:World}
def Md.lt(h:Md lb pb a g w):lb<w.heap.size:=gp h
def Md.cells(h:Md lb pb a g w):w.cell? ⟨lb,0,none⟩=some (pz pb)/\w.cell? ⟨lb,1,none⟩=some (iw a)/\w.cell? ⟨lb,2,none⟩=some (uw g)/\∀k,w.frozen? ⟨lb,k,none⟩=false:=by unfold Md at h;refine⟨?_,?_,?_,λk=>?_⟩<;>simp[World.cell?,World.frozen?,h]
def Md.on{w':World}(h:Md lb pb a g w)(hb:Bw w w'):Md lb pb a g w':=by unfold Md;rw[hb.block lb h.lt];exact h
def Md.kept{w':World}(h:Md lb pb a g w)(hne:pb<lb)(hk:Drm.Kept pb w w'):Md lb pb a g w':=
 hk.other lb _ h (by omega) (by intro cs fz e;injection e with _ e _;exact absurd e (by decide))
def LgAt.on{w':World}(h:LgAt lb pb a g D w)(hb:Bw w w'):LgAt lb pb a g D w':=⟨h.blk.on hb,h.drum.on hb,h.ne⟩
def LgAt.kept{D':Dr}{w':World}(h:LgAt lb pb a g D w)(hd:Ak pb D' w')(hk:Drm.Kept pb w w'):LgAt lb pb a g D' w':=⟨h.blk.kept h.ne hk,hd,h.ne⟩
end
def Uo{D:Dr}(h:D.Ok)(a:Int)(r:Bi):(Bv D a r).2.Ok:=by
 unfold Bv;split
 .exact h
 .exact Yp h _ _
def aru(lb pb g:Nat)(a:Int)(D:Dr)(r:Bi)(w:World)(h:LgAt lb pb a g D w)(hOk:D.Ok):
  cpr 198 #[pz lb,sd r] w λe w'=>e=.returned (iw (Bv D a r).1)/\LgAt lb pb a g (Bv D a r).2 w'/\Drm.Kept pb w w':=by
 have hs:(bs r).size=r.length:=Bq _;by_cases hl:16000<r.length
 .have hp:Bv D a r=(3,D):=by unfold Bv;rw[ah hl]
  rw[hp];dsimp only;have hl':(16000:Int)<r.length:=by omega
  have H:Hid _:=h;clear hp h hOk;go_enter Tryz.func198,Tryz.ntmps198;go_wp2;go_ret;exact⟨rfl,H.out,Drm.Kept.refl _ _⟩
 .have hp:Bv D a r=putF D a (Aj (82::r)):=by unfold Bv;rw[ag hl]
  rw[hp];have hl':¬(16000:Int)<r.length:=by omega
  obtain⟨c0,c1,c2,cf⟩:=h.blk.cells;have HW:Hid (∀w,1=1->cpr 171 #[ub 82,sd r] w λe w'=>e=.returned (.string (bs (Aj (82::r))))/\Bw w w'):=λw _=>Yl 82 82 82 r w rfl rfl (by decide) (by omega);have HP:Hid (∀w1,Ak pb D w1->cpr 89 #[pz pb,iw a,.string (bs (Aj (82::r)))] w1 λe w'=>e=.returned (iw (putF D a (Aj (82::r))).1)/\Ak pb (putF D a (Aj (82::r))).2 w'/\Drm.Kept pb w1 w'):=λw1 h1=>awu pb D a _ w1 h1 hOk;have H:Hid _:=h;clear hp h hOk;generalize putF D a (Aj (82::r))=y at*;obtain⟨x,D1⟩:=y;generalize bs (Aj (82::r))=F at*;dsimp only at HP|-;clear cf;go_enter Tryz.func198,Tryz.ntmps198;go_wp2_with fail;go_region_held3 (λw'=>w'.cell? ⟨lb,0,none⟩=some (pz pb)/\w'.cell? ⟨lb,1,none⟩=some (iw a)/\Hid (Md lb pb a g w')) (first|exact⟨c0,c1,H.out.blk⟩|exact⟨(H.out.blk.on (aj _ _).drew).cells.1,(H.out.blk.on (aj _ _).drew).cells.2.1,H.out.blk.on (aj _ _).drew⟩|exact⟨H1.out.1.blk.cells.1,H1.out.1.blk.cells.2.1,H1.out.1.blk⟩|exact⟨H2.out.1.blk.cells.1,H2.out.1.blk.cells.2.1,H2.out.1.blk⟩) (first
   |(go_at_call 171;refine(HW.out _ (by trivial)).mono ?_;rintro e W1 ⟨rfl,hb1⟩;have H1:Hid (LgAt lb pb a g D W1/\Bw w W1):=⟨(H.out.on (aj _ _).drew).on hb1,((aj _ _).drew).trans hb1⟩;clear hb1)
   |(go_at_call 89;refine(HP.out _ H1.out.1.drum).mono ?_;rintro e W2 ⟨rfl,h2,k2⟩;have H2:Hid (LgAt lb pb a g D1 W2/\Drm.Kept pb w W2):=⟨H1.out.1.kept h2 k2,(Drm.Kept.of_below H.out.drum.lt H1.out.2).trans k2⟩;clear h2 k2))
  go_wp2_with fail;go_ret;exact⟨rfl,H2.out⟩
