import Derived.Test.YtdplfgcoaddbdaaGreatXaj
set_option maxHeartbeats 4000000
set_option maxRecDepth 100000
set_option linter.unusedVariables false
set_option linter.unusedSimpArgs false
namespace Go.Proofs.YtdplfgcoaddbdaaGreat.Sto
open Go.RowKit
theorem so_get{B p q:Nat}{t:Tr}{S:Sk}{w:World}(k:List UInt8)(pp l:Int)(h:So B p q t S w):Calls Tryz.prog 85 #[pz p,sd k,.agg #[uw pp,ui l]] w fun e w'=>e=.returned (.tuple #[.string (bs (getV (seeF (chainF k S) pp l)).1),.bool (getV (seeF (chainF k S) pp l)).2])/\Below w.heap.size w w':=
 get15_of _ k pp l w (fun _ hb=>so_of k (h.on hb))
theorem mc_part{B q:Nat}{t:Tr}{S:Sk}{w:World}(lo hi:List UInt8)(h:Mc B q t S w)(ht:totS S<10000):Calls Tryz.prog 102 #[pz q,sd lo,sd hi,iw 32] w fun e w'=>∃ka kp,e=.returned (.slice ka ((rngS lo hi S).take 32).length kp)/\w'.ownsRow w.heap.size 9 1 (.slice ka ((rngS lo hi S).take 32).length kp) (((rngS lo hi S).take 32).map (·.1)).length (kc (((rngS lo hi S).take 32).map (·.1)))/\Below w.heap.size w w':=by have:=mc_keys lo hi 32 h ht;rw[keys_part]at this;refine Calls.mono this ?_;rintro e w' ⟨v',rfl,ho,hb⟩;obtain⟨ao,cap,rfl,_⟩:=rw_own ho;rw[List.length_map]at ho|-;exact⟨ao,cap,rfl,ho,hb⟩
theorem gath_full{p l:Int}{A:List (List UInt8×List UInt8)}{Q:Sk}{m n:Nat}(h:(A++scT p l Q m).length=n):(A++scanR p l Q).take n=A++scT p l Q m:=by obtain⟨R,hR⟩:=scT_pre p l Q m;rw[hR,<-List.append_assoc,<-h,List.take_left'];rfl
theorem gath_end{p l:Int}{A:List (List UInt8×List UInt8)}{Q:Sk}{m n:Nat}(hm:Q.length<=m)(h:(A++scT p l Q m).length<=n):(A++scanR p l Q).take n=A++scT p l Q m:=by
 have e:scT p l Q m=scanR p l Q:=by unfold scT;rw[List.take_of_length_le hm]
 rw[e]at h|-;exact List.take_of_length_le h
structure Gl(w:World)(F:Nat->Prop)(W0:World)(bx:Nat)(tp tl:Int)(kv:Value)(K:List (List UInt8))(vv:Value)(A:List (List UInt8×List UInt8))(W:World):Prop where
 own:W.ownsRow w.heap.size 71 2 vv A.length (prc A)
 keys:W.ownsRow w.heap.size 9 1 kv K.length (kc K)
 x:W.heap[bx]?=some (.cells #[uw tp,ui tl] 28 (0,0))
 bel:Below w.heap.size w W
 kn:∀k,vv.ownBlock=some k->kv.ownBlock≠some k
 xn:vv.ownBlock≠some bx
 kept:Kept F W0 W
 new:∀k,vv.ownBlock=some k->F k\/W0.heap.size<=k
theorem Gl.on{w W0 W W':World}{F:Nat->Prop}{bx:Nat}{tp tl:Int}{kv vv:Value}{K:List (List UInt8)}{A:List (List UInt8×List UInt8)}(h:Gl w F W0 bx tp tl kv K vv A W)(hb:Below W.heap.size W W'):Gl w F W0 bx tp tl kv K vv A W':=
 ⟨own_on h.own hb,own_on h.keys hb,by rw[hb.block bx (gsz h.x)];exact h.x,h.bel.trans (hb.mono h.bel.size),h.kn,h.xn,h.kept.trans (Kept.of_below (F:=fun _=>False) hb) (fun _ h=>h.elim),h.new⟩
theorem Gl.snoc{w W0 W W':World}{F:Nat->Prop}{bx:Nat}{tp tl:Int}{kv vv v':Value}{K:List (List UInt8)}{A A':List (List UInt8×List UInt8)}(h:Gl w F W0 bx tp tl kv K vv A W)
  (hown:W'.ownsRow w.heap.size 71 2 v' A'.length (prc A')) (hg:W.grownBy W' vv.ownBlock) (hat:v'.ownBlock=vv.ownBlock\/v'.ownBlock=some W.heap.size):Gl w F W0 bx tp tl kv K v' A' W':=by
 have hk:=grown_kept hg;have hxl:=(gsz h.x);refine⟨hown,own_kept h.keys hk (fun k hk' hv=>h.kn k hv hk'),by rw[hk.block bx hxl h.xn];exact h.x,below_own h.bel h.bel.size h.own hg,fun k hk' hkv=>?_,fun hx=>?_,h.kept.trans hk h.new,fun k hk'=>?_⟩
 ·rcases hat with e|e
  ·exact h.kn k (e▸hk') hkv
  ·rw[e]at hk';injection hk' with hk';subst hk';have:=own_blk h.keys hkv;omega
 ·rcases hat with e|e
  ·exact h.xn (e▸hx)
  ·rw[e]at hx;injection hx with hx;omega
 ·rcases hat with e|e
  ·exact h.new k (e▸hk')
  ·rw[e]at hk';injection hk' with hk';subst hk';exact .inr h.kept.size
theorem Gl.stamp{w W0 W:World}{F:Nat->Prop}{bx:Nat}{tp tl:Int}{kv vv:Value}{K:List (List UInt8)}{A:List (List UInt8×List UInt8)}(h:Gl w F W0 bx tp tl kv K vv A W):ce W bx 0 (uw tp)/\ce W bx 1 (ui tl):=⟨block_cell h.x rfl,block_cell h.x rfl⟩
theorem Gl.key{w W0 W:World}{F:Nat->Prop}{bx:Nat}{tp tl:Int}{ka:Option Addr}{n kp:Nat}{vv:Value}{K:List (List UInt8)}{A:List (List UInt8×List UInt8)}(hn:n=K.length)(h:Gl w F W0 bx tp tl (.slice ka n kp) K vv A W){m:Nat}(hm:m<n):∃b off,ka=some ⟨b,off,none⟩/\ce W b (off+m) (.string (bs (K.getD m []))):=keys_at hn h.keys (Below.refl _ _) hm
def GPost(w:World)(F:Nat->Prop)(W:World)(kv:Value)(K:List (List UInt8))(A:List (List UInt8×List UInt8))(sa:Option Addr)(sc:Nat)(w':World):Prop:=
 w'.ownsRow w.heap.size 71 2 (.slice sa A.length sc) A.length (prc A)/\w'.ownsRow w.heap.size 9 1 kv K.length (kc K)/\Below w.heap.size w w'/\Kept F W w'/\∀k,(Value.slice sa A.length sc).ownBlock=some k->F k\/W.heap.size<=k
theorem Gl.post{w W0 W W1:World}{F:Nat->Prop}{bx:Nat}{tp tl:Int}{kv:Value}{sa:Option Addr}{sc:Nat}{K:List (List UInt8)}{A:List (List UInt8×List UInt8)}(h:Gl w F W0 bx tp tl kv K (.slice sa A.length sc) A W)(hb:Below W1.heap.size W1 W0):GPost w F W1 kv K A sa sc W:=
 ⟨h.own,h.keys,h.bel,(Kept.of_below (F:=F) hb).trans h.kept (fun _ h=>.inl h),fun k hk=>by rcases h.new k hk with e|e;exact .inl e;exact .inr (Nat.le_trans hb.size e)⟩
theorem gather45{B p q:Nat}{t:Tr}{S:Sk}{w:World}(tp tl mx:Int)(h:So B p q t S w)(Q:Sk)(hQ:∀m,m<Q.length->chainF (Q.getD m ds).1 S=(Q.getD m ds).2)(hQl:Q.length<=32)(A:List (List UInt8×List UInt8))(hA:A.length<=mx.toNat)(hmx:mx<=32)(sa:Option Addr)(sc:Nat)(ka:Option Addr)(kp:Nat)(W:World)
  (hb:Below w.heap.size w W) (ho:W.ownsRow w.heap.size 71 2 (.slice sa A.length sc) A.length (prc A)) (hk:W.ownsRow w.heap.size 9 1 (.slice ka Q.length kp) (Q.map (·.1)).length (kc (Q.map (·.1)))) (hap:∀k,(Value.slice sa A.length sc).ownBlock=some k->(Value.slice ka Q.length kp).ownBlock≠some k):
  Calls Tryz.prog 161 #[pz p,.slice sa A.length sc,.slice ka Q.length kp,.agg #[uw tp,ui tl],iw mx] W fun e w'=>∃sa' sc',e=.returned (.slice sa' ((A++scanR tp tl Q).take mx.toNat).length sc')/\GPost w (fun k=>(Value.slice sa A.length sc).ownBlock=some k) W (.slice ka Q.length kp) (Q.map (·.1)) ((A++scanR tp tl Q).take mx.toNat) sa' sc' w':=by
 obtain⟨i0,hin,hi0,hi1,hi2⟩:=info_parts info59;have HS:Hid (So B p q t S w):=h;obtain⟨F,hF⟩:=xj (fun k=>(Value.slice sa A.length sc).ownBlock=some k);have HG:Hid (Gl w F (W.alloc (.cells #[uw tp,ui tl] 28)) W.heap.size tp tl (.slice ka Q.length kp) (Q.map (·.1)) (.slice sa A.length sc) A (W.alloc (.cells #[uw tp,ui tl] 28))):=by
  have ha:Below W.heap.size W (W.alloc (.cells #[uw tp,ui tl] 28)):=al _;refine⟨own_on ho ha,own_on hk ha,heap_alloc_new W _,hb.trans (ha.mono hb.size),hap,fun hx=>?_,Kept.refl _ _,fun k hk=>.inl ?_⟩
  ·have:=own_blk ho hx;omega
  ·rw[<-hF];exact hk
 have HW:Hid (Below W.heap.size W (W.alloc (.cells #[uw tp,ui tl] 28))):=al _;have HStep:Hid (∀m,m<Q.length->scT tp tl Q (m+1)=scT tp tl Q m++(match seeF (Q.getD m ds).2 tp tl with
  |some s=>[((Q.getD m ds).1,s)]
  |none=>[])):=fun m hm=>scT_step hm
 have HFull:Hid (∀m,(A++scT tp tl Q m).length=mx.toNat->(A++scanR tp tl Q).take mx.toNat=A++scT tp tl Q m):=fun m e=>gath_full e;have HEnd:Hid (∀m,Q.length<=m->(A++scT tp tl Q m).length<=mx.toNat->(A++scanR tp tl Q).take mx.toNat=A++scT tp tl Q m):=fun m hm e=>gath_end hm e;have H0:Hid (A++scT tp tl Q 0=A):=by show A++[]=A;simp
 have HA:Hid (A.length<=mx.toNat):=hA;have HC:Hid (∀m,m<Q.length->chainF (Q.getD m ds).1 S=(Q.getD m ds).2):=hQ;rw[hF];generalize (A++scanR tp tl Q).take mx.toNat=Y at*;clear h hb ho hk hap hF hQ hA;go_enter Tryz.func161,Tryz.ntmps161;go_wp2_with fail;obtain⟨W0,hW0⟩:=xj (W.alloc (.cells #[uw tp,ui tl] 28));rw[hW0]at HG HW|-;clear hW0;obtain⟨bx,hbx⟩:=xj W.heap.size;rw[hbx]at HG|-;have HBX:Hid (W.heap.size=bx):=hbx;clear hbx;go_loopw [1,17] (fun vv i wr=>∃m:Nat,m<=Q.length/\i=iw m/\(A++scT tp tl Q m).length<=mx.toNat/\Gl w F W0 bx tp tl (.slice ka Q.length kp) (Q.map (·.1)) vv (A++scT tp tl Q m) wr) (fun _ i _=>Q.length-(intOf i).toNat)
 case atStart=>exact⟨0,Nat.zero_le _,rfl,by rw[H0.out];exact HA.out,by rw[H0.out];exact HG.out⟩
 case round=>
  obtain⟨m,hm,rfl,hle,hgl⟩:=hrel;obtain⟨va,vc,rfl,-,-,-,-⟩:=rw_own hgl.own;have HL:Hid (Gl w F W0 bx tp tl (.slice ka Q.length kp) (Q.map (·.1)) (.slice va (A++scT tp tl Q m).length vc) (A++scT tp tl Q m) wr):=hgl;have HLe:Hid ((A++scT tp tl Q m).length<=mx.toNat):=hle;clear hgl hle HG HA;obtain⟨x0,x1⟩:=HL.out.stamp;by_cases hml:m<Q.length
  ·have hml':(m:Int)<Q.length:=by omega
   obtain⟨b,off,rfl,e0⟩:=HL.out.key (by simp) hml;rw[map_at Q hml]at e0;have hst:A++scT tp tl Q (m+1)=(A++scT tp tl Q m)++(match seeF (Q.getD m ds).2 tp tl with
    |some s=>[((Q.getD m ds).1,s)]
    |none=>[]):=by rw[HStep.out m hml,List.append_assoc]
   have HFm:Hid _:=HFull.out m;have CG:Hid (1=1->Calls Tryz.prog 85 #[pz p,.string (bs (Q.getD m ds).1),.agg #[uw tp,ui tl]] wr fun e w'=>e=.returned (.tuple #[.string (bs (getV (seeF (Q.getD m ds).2 tp tl)).1),.bool (getV (seeF (Q.getD m ds).2 tp tl)).2])/\Below wr.heap.size wr w'):=fun _=>by have:=so_get (Q.getD m ds).1 tp tl (HS.out.on HL.out.bel);rw[HC.out m hml]at this;exact this
   obtain⟨A0,hA0⟩:=xj (A++scT tp tl Q m);obtain⟨A1,hA1⟩:=xj (A++scT tp tl Q (m+1));rw[hA0]at HL HLe hst HFm;rw[hA1]at hst;have HA1:Hid (A++scT tp tl Q (m+1)=A1):=hA1;rw[hA0];clear hA0 hA1;generalize Q.getD m ds=x at*;obtain⟨a,c⟩:=x;dsimp only at e0 hst CG;have hll:A0.length<100000:=by have:=HLe.out;omega
   by_cases hroom:(A0.length:Int)<mx
   ·have hr1':¬mx<=(A0.length:Int):=by omega
    have HL1:Hid (A0.length+1<=mx.toNat):=by show _<=_;omega
    generalize seeF c tp tl=y at*;cases y with
    |none=>
     have HS3:Hid (A1=A0):=by show _=_;rw[hst];simp
     clear hst;dsimp only[getV]at CG;go_wp2_with fail;refine(CG.out (by trivial)).mono ?_;rintro e w3 ⟨rfl,hb3⟩;have HL3:Hid (Gl w F W0 bx tp tl (.slice (some ⟨b,off,none⟩) Q.length kp) (Q.map (·.1)) (.slice va A0.length vc) A0 w3):=HL.out.on hb3;clear hb3 CG x0 x1 e0 HL;go_wp2_with fail;go_roundw
     case rel=>exact⟨m+1,by omega,by go_num,by rw[HA1.out,HS3.out];exact HLe.out,by rw[HA1.out,HS3.out];exact HL3.out⟩
     case measure=>simp[intOf];omega
    |some s=>
     have HS3:Hid (A1=A0++[(a,s)]):=hst;clear hst;dsimp only[getV]at CG;go_wp2_with fail;refine(CG.out (by trivial)).mono ?_;rintro e w3 ⟨rfl,hb3⟩;have HL3:Hid (Gl w F W0 bx tp tl (.slice (some ⟨b,off,none⟩) Q.length kp) (Q.map (·.1)) (.slice va A0.length vc) A0 w3):=HL.out.on hb3;have HOw:Hid (Ow w.heap.size 71 2 (.slice va A0.length vc) A0.length (prc A0) (w3.heap.size+1) (.slice (some ⟨w3.heap.size,0,none⟩) 1 1) 1 (prc [(a,s)]) (w3.alloc (.cells #[sd a,sd s] 71))):=pr_ow a s HL3.out.own HL3.out.bel.size (by omega);clear hb3 CG x0 x1 e0 HL;go_wp2_with (at_builtin;refine wpList_append_rw HOw.out Tryz.underlying38 hin hi0 hi1 hi2 rfl (by decide) (by decide) (.tmp 33) (.tmp 37) rfl rfl rfl rfl ?_);intro v' w4 hown hg hat;have HL4:Hid (Gl w F W0 bx tp tl (.slice (some ⟨b,off,none⟩) Q.length kp) (Q.map (·.1)) v' (A0++[(a,s)]) w4):=by refine Gl.snoc (HL3.out.on (al _)) ?_ hg (by simpa using hat);rw[prc_append,List.length_append];exact hown
     obtain⟨sa4,sc4,rfl,-,-,-,-⟩:=rw_own hown;clear hown hg hat HOw HL3;go_wp2_with fail;go_roundw
     case rel=>exact⟨m+1,by omega,by go_num,by rw[HA1.out,HS3.out];simpa using HL1.out,by rw[HA1.out,HS3.out];exact HL4.out⟩
     case measure=>simp[intOf];omega
   ·have hr1':mx<=(A0.length:Int):=by omega
    have HY:Hid (Y=A0):=HFm.out (by have:=HLe.out;omega);have HP:Hid (GPost w F W (.slice (some ⟨b,off,none⟩) Q.length kp) (Q.map (·.1)) A0 va vc wr):=HL.out.post HW.out;clear hroom hst CG HFm;go_wp2_with fail;rw[HY.out];go_ret;exact⟨_,_,rfl,HP.out⟩
  ·have hml':¬(m:Int)<Q.length:=by omega
   have HY:Hid (Y=A++scT tp tl Q m):=HEnd.out m (by omega) HLe.out;have HP:Hid (GPost w F W (.slice ka Q.length kp) (Q.map (·.1)) (A++scT tp tl Q m) va vc wr):=HL.out.post HW.out;generalize A++scT tp tl Q m=A0 at*;go_wp2_with fail;rw[HY.out];go_ret;exact⟨_,_,rfl,HP.out⟩
structure Scw(w:World)(bx:Nat)(tp tl:Int)(vv:Value)(A:List (List UInt8×List UInt8))(W:World):Prop where
 own:W.ownsRow w.heap.size 71 2 vv A.length (prc A)
 x:W.heap[bx]?=some (.cells #[uw tp,ui tl] 28 (0,0))
 bel:Below w.heap.size w W
 xn:vv.ownBlock≠some bx
theorem Scw.on{w W W':World}{bx:Nat}{tp tl:Int}{vv:Value}{A:List (List UInt8×List UInt8)}(h:Scw w bx tp tl vv A W)(hb:Below W.heap.size W W'):Scw w bx tp tl vv A W':=
 ⟨own_on h.own hb,by rw[hb.block bx (gsz h.x)];exact h.x,h.bel.trans (hb.mono h.bel.size),h.xn⟩
theorem Scw.stamp{w W:World}{bx:Nat}{tp tl:Int}{vv:Value}{A:List (List UInt8×List UInt8)}(h:Scw w bx tp tl vv A W):ce W bx 0 (uw tp)/\ce W bx 1 (ui tl):=⟨block_cell h.x rfl,block_cell h.x rfl⟩
theorem Scw.next{w W W':World}{bx:Nat}{tp tl:Int}{vv kv:Value}{K:List (List UInt8)}{A A':List (List UInt8×List UInt8)}{sa:Option Addr}{sc:Nat}(h:Scw w bx tp tl vv A W)(hp:GPost w (fun k=>vv.ownBlock=some k) W kv K A' sa sc W'):Scw w bx tp tl (.slice sa A'.length sc) A' W':=by
 have hxl:=(gsz h.x);obtain⟨h1,_,h3,h4,h5⟩:=hp;refine⟨h1,by rw[h4.block bx hxl h.xn];exact h.x,h3,fun hx=>?_⟩;rcases h5 bx hx with e|e
 ·exact h.xn e
 ·omega
def leftS(hi:List UInt8)(S:Sk):Value->Nat
 |.string b=>(rngS b.data.toList hi S).length
 |_=>0
theorem leftS_bs(hi lo:List UInt8)(S:Sk):leftS hi S (sd lo)=(rngS lo hi S).length:=by show(rngS (bs lo).data.toList hi S).length=_;rw[bs_data]
theorem so_scan{B p q:Nat}{t:Tr}{S:Sk}{w:World}(lo hi:List UInt8)(tp tl limit:Int)(h:So B p q t S w)(ht:totS S<10000):
  Calls Tryz.prog 86 #[pz p,sd lo,sd hi,.agg #[uw tp,ui tl],iw limit] w fun e w'=>∃v',e=.returned v'/\w'.ownsRow w.heap.size 71 2 v' (scanS lo hi tp tl limit S).length (prc (scanS lo hi tp tl limit S))/\Below w.heap.size w w':=by
 have HS:Hid (So B p q t S w):=h;have HT:Hid (totS S<10000):=ht;have HX:Hid (Scw w w.heap.size tp tl sy [] (w.alloc (.cells #[uw tp,ui tl] 28))):=⟨own_nil _ _ _ _,heap_alloc_new w _,al _,fun h=>by cases h⟩;have HFull:Hid (∀m,((scanR tp tl ((rngS lo hi S).take m)).take (min limit 32).toNat).length=(min limit 32).toNat->scanS lo hi tp tl limit S=(scanR tp tl ((rngS lo hi S).take m)).take (min limit 32).toNat):=fun m e=>part_full e;have HEnd:Hid (∀m,(rngS lo hi S).length<=m->scanS lo hi tp tl limit S=(scanR tp tl ((rngS lo hi S).take m)).take (min limit 32).toNat):=fun m hm=>part_end hm;obtain⟨mx,hmx⟩:=xj (min limit 32);have hm32:mx<=32:=by omega
 rw[hmx]at HFull HEnd;have H0:Hid ((scanR tp tl ((rngS lo hi S).take 0)).take mx.toNat=[]):=by show _=_;simp[scanR]
 generalize scanS lo hi tp tl limit S=Y at*;have HR:Hid (rngS lo hi S=(rngS lo hi S).drop 0):=rfl;generalize hRR:rngS lo hi S=R at HFull HEnd H0 HR;have HR0:Hid (rngS lo hi S=R.drop 0):=hRR;clear h ht hRR HR;go_enter Tryz.func86,Tryz.ntmps86;go_upto_region 4 with fail
 go_cut [4] (fun s4 wc=>s4=iw mx/\wc=w.alloc (.cells #[uw tp,ui tl] 28))
 case first=>
  go_wp2_with fail;all_goals
   go_meet;refine⟨?_,rfl⟩;rw[<-hmx];congr 1;omega
 case rest=>
  obtain⟨rfl,rfl⟩:=hcut;clear hmx;obtain⟨W0,hW0⟩:=xj (w.alloc (.cells #[uw tp,ui tl] 28));rw[hW0]at HX|-;clear hW0;obtain⟨bx,hbx⟩:=xj w.heap.size;rw[hbx]at HX|-;have HBX:Hid (w.heap.size=bx):=hbx;clear hbx;go_wp2_with fail;go_loopw [1,11] (fun f vv wr=>∃(m:Nat) (lw:List UInt8),f=sd lw/\rngS lw hi S=R.drop m/\Scw w bx tp tl vv ((scanR tp tl (R.take m)).take mx.toNat) wr) (fun f _ _=>leftS hi S f)
  case atStart=>exact⟨0,lo,rfl,HR0.out,by rw[H0.out];exact HX.out⟩
  case round=>
   obtain⟨m,lw,rfl,hrn,hsw⟩:=hrel;obtain⟨va,vc,rfl,-,-,-,-⟩:=rw_own hsw.own;obtain⟨A,hA⟩:=xj ((scanR tp tl (R.take m)).take mx.toNat);have hAl:A.length<=mx.toNat:=by rw[<-hA];exact List.length_take_le _ _
   have HFm:Hid _:=HFull.out m;have HPt:Hid _:=part_take tp tl R m mx.toNat;rw[hA]at hsw HFm HPt|-;have HAl:Hid _:=hAl;have HW:Hid (Scw w bx tp tl (.slice va A.length vc) A wr):=hsw;have HRn:Hid (rngS lw hi S=R.drop m):=hrn;have hA32:A.length<=32:=by omega
   clear hA hsw hrn HX hAl HR0 H0 HFull;by_cases hroom:(A.length:Int)<mx
   ·have c0:=(HS.out.on HW.out.bel).cell;have CK:Hid (1=1->_):=fun _=>mc_part lw hi (HS.out.on HW.out.bel).mc HT.out;have HNx:Hid (31<(rngS lw hi S).length->rngS (((rngS lw hi S).getD 31 ds).1++[0]) hi S=(rngS lw hi S).drop 32):=fun h=>rngS_next HS.out.mc.sok.srt h;have HCh:Hid (∀i,i<((rngS lw hi S).take 32).length->chainF (((rngS lw hi S).take 32).getD i ds).1 S=(((rngS lw hi S).take 32).getD i ds).2):=fun i hi'=>by refine chain_mem HS.out.mc.sok ?_;exact(List.mem_filter.1 (List.mem_of_mem_take (getD_mem hi'))).1
    have HKl:Hid (∀i,i<((rngS lw hi S).take 32).length->(((rngS lw hi S).take 32).getD i ds).1.length<=32):=fun i hi'=>HS.out.kl _ (List.mem_filter.1 (List.mem_of_mem_take (getD_mem hi'))).1;have HLf:=leftS_bs hi lw S;rw[HRn.out]at CK HNx HCh HKl HLf;obtain⟨Q,hQ⟩:=xj ((R.drop m).take 32);have hQl:Q.length<=32:=by rw[<-hQ];exact List.length_take_le _ _
    have HQe:Hid (Q.length<32->R.length<=m+32):=fun h=>by rw[<-hQ,List.length_take,List.length_drop]at h;omega
    have HQ31:Hid (Q.length=32->31<(R.drop m).length/\Q.getD 31 ds=(R.drop m).getD 31 ds):=fun h=>by rw[<-hQ,List.length_take]at h;refine⟨by omega,?_⟩;rw[<-hQ];simp[List.getD]
    rw[hQ]at CK HPt HCh HKl;clear hQ;have CG:Hid (∀W ka kp,Below w.heap.size w W->W.ownsRow w.heap.size 71 2 (.slice va A.length vc) A.length (prc A)->W.ownsRow w.heap.size 9 1 (.slice ka Q.length kp) (Q.map (·.1)).length (kc (Q.map (·.1)))->(∀k,(Value.slice va A.length vc).ownBlock=some k->(Value.slice ka Q.length kp).ownBlock≠some k)->_):=fun W ka kp hb ho hk hap=>gather45 tp tl mx HS.out Q HCh.out hQl A HAl.out hm32 va vc ka kp W hb ho hk hap;rw[HPt.out]at CG;obtain⟨A1,hA1⟩:=xj ((scanR tp tl (R.take (m+32))).take mx.toNat);have HA1:Hid (A1=(scanR tp tl (R.take (m+32))).take mx.toNat):=hA1.symm;have HEm:Hid (R.length<=m+32->Y=A1):=fun h=>by rw[HEnd.out _ h,hA1]
    rw[hA1]at CG;clear hA1 HPt HCh HFm;obtain⟨x0,x1⟩:=HW.out.stamp;go_wp2_with fail;refine(CK.out (by trivial)).mono ?_;rintro e w1 ⟨ka,kp,rfl,hk1,hb1⟩;have H1:Hid (Scw w bx tp tl (.slice va A.length vc) A w1):=HW.out.on hb1;have CX:Hid (1=1->_):=fun _=>CG.out w1 ka kp H1.out.bel H1.out.own (own_le hk1 HW.out.bel.size) (fun k h2 h3=>by have:=own_blk HW.out.own h2;have:=(own_lt hk1 h3).1;omega)
    clear hb1 hk1 CK CG c0 HW x0 x1;obtain⟨x0,x1⟩:=H1.out.stamp;go_wp2_with fail;refine(CX.out (by trivial)).mono ?_;rintro e w2 ⟨sa,sc,rfl,hp⟩;have H2:Hid (Scw w bx tp tl (.slice sa A1.length sc) A1 w2):=H1.out.next hp;have HK2:Hid (w2.ownsRow w.heap.size 9 1 (.slice ka Q.length kp) (Q.map (·.1)).length (kc (Q.map (·.1)))):=hp.2.1;clear hp CX H1 x0 x1;by_cases hq:Q.length<32
    ·have hq':(Q.length:Int)<32:=by omega
     have HY:Hid (Y=A1):=HEm.out (HQe.out hq);go_wp2_with fail;rw[HY.out];go_ret;exact⟨_,rfl,H2.out.own,H2.out.bel⟩
    ·have hq2:Q.length=32:=by omega
     obtain⟨h31,hq31⟩:=HQ31.out hq2;have HNx':=HNx.out h31;have hkl31:=HKl.out 31 (by omega);obtain⟨b,off,rfl,e0⟩:=keys_at (m:=31) (by simp) HK2.out (Below.refl _ _) (by omega);rw[map_at Q (by omega),hq31]at e0;rw[hq31]at hkl31;obtain⟨k,hk⟩:=xj ((R.drop m).getD 31 ds).1;rw[hk]at e0 hkl31 HNx';have CA:Hid (∀W,_):=fun W=>above46 k W hkl31;have HMe:Hid (leftS hi S (.string (bs (k++[0])))<leftS hi S (sd lw)/\rngS (k++[0]) hi S=R.drop (m+32)):=by
      have e1:rngS (k++[0]) hi S=R.drop (m+32):=by rw[HNx',List.drop_drop]
      refine⟨?_,e1⟩;rw[leftS_bs,leftS_bs,e1,HRn.out,List.length_drop,List.length_drop];rw[List.length_drop]at h31;omega
     generalize Q.length=ql at*;subst hq2;clear HNx' hkl31 hk hq31 h31 HLf;go_wp2_with fail;refine(CA.out _).mono ?_;rintro e w3 ⟨rfl,rfl⟩;go_wp2_with fail;go_roundw
     case rel=>exact⟨m+32,k++[0],rfl,HMe.out.2,by rw[<-HA1.out];exact H2.out⟩
     case measure=>exact HMe.out.1
   ·have hr1':¬(A.length:Int)<mx:=hroom;have HY:Hid (Y=A):=HFm.out (by have:=HAl.out;omega);clear hroom;go_wp2_with fail;rw[HY.out];go_ret;exact⟨_,rfl,HW.out.own,HW.out.bel⟩
theorem storeIfs:Ifs SoAt where
 lt:=by rintro B p M S w ⟨q,t,h,rfl⟩;exact h.lt
 nov:=by rintro B p M S w ⟨q,t,h,rfl⟩;exact h.noVe
 keep:=by rintro B p M G S w w' ⟨q,t,h,rfl⟩ hk h1 hG;exact⟨q,t,h.kept hk h1 hG,rfl⟩
 sok:=by rintro B p M S w ⟨q,t,h,rfl⟩;exact h.mc.sok
 new:=so_new
 put:=by rintro B p M S w k x ⟨q,t,h,rfl⟩ ht;exact so_put k x h ht
 prune:=by rintro B p M S w tt u ⟨q,t,h,rfl⟩ ht;exact so_prune tt u h ht
 get:=by rintro B p M S w k tt u ⟨q,t,h,rfl⟩ _;exact so_get k tt u h
 newest:=by rintro B p M S w k ⟨q,t,h,rfl⟩ _;exact newest17_of _ k w (fun _ hb=>so_of k (h.on hb))
 count:=by rintro B p M S w k ⟨q,t,h,rfl⟩ _;exact count19_of _ k w (fun _ hb=>so_of k (h.on hb))
 scan:=by rintro B p M S w lo hi tt u limit ⟨q,t,h,rfl⟩ ht;exact so_scan lo hi tt u limit h ht
 items:=by rintro B p M S w ⟨q,t,h,rfl⟩ ht;exact so_items h ht
#print axioms storeIfs
end Go.Proofs.YtdplfgcoaddbdaaGreat.Sto
