/- LgC, LgD, LgE (joined). -/
import Derived.Test.YtfplgfodoiiobaaGreatDoorD26
open Option renaming none→O,some→M
open Go.Value renaming int→I,slice→Z,pointer→U
open Go.IntKind renaming i64→V
open Go.Obj renaming cells→C
open Go.Ending renaming returned→G
open Go renaming World→F,Value→Y,Calls→H
open Go.Proofs.Tryz renaming prog→K
open Go.Proofs.Tryz
namespace Go.Proofs.YtfplgfodoiiobaaGreatDoor
set_option maxHeartbeats 4000000
set_option maxRecDepth 100000
open Go.RowKit
abbrev AcM:=@Go.ByteArray.toList_eq
abbrev AcX:=@List.mem_cons_of_mem
variable {s s':Sc}{ep n k:Int}{w:F}{ps:Nat->Addr}{lp db N:Nat}{fv:Y}{rs:List FR}{fs dU:List bC}
theorem ZE {d q a b c:Int}{text:ByteArray}(h:aU w db s fv rs)(hL:w.heap[lp]?=M (jM db ep))(hG:Gl w ps)(hO:pJ 998 s (plain rs))(_he0:0<=ep)(_he1:ep<=1000)(Sl: -9223372036854775808<=d)(Pn:d<=9223372036854775807)(hq:0<=q)(xL:q<256)(hd:cO d)(ha:cO a)(hb:cO b)(hc:cO c)(CV:text.size≠0)(oM:text.size<=1000000)(hE:(bW s (plain rs) 1 text).1≠0):
 H K 87 #[U (M ⟨lp,0,O⟩),I V d,iC q a b c,.string text] w fun e w'=> ∃v,e=G v/\oC w w' ps db fv rs 2 v (bW s (plain rs) 1 text):=by
 have HR:Hid (∀W,H K 134 #[I V d,.agg #[I .u8 q,I V a,I V b,I V c]] W fun e w'=> ∃ad cap,e=G (Z (M ad) 22 cap)/\pG w' (M ad) (fF q d a b c).data.toList/\(∃aS f,w'.heap[ad.block]?=M (C aS 5 f))/\aL W w'):=fun W=>by
  refine(Nq hq xL hd ha hb hc).mono ?_;rintro e w' ⟨v,rfl,bD,hg⟩;obtain⟨ao,cap,rfl,hr,iI,hn,hx⟩:=bI.form bD;have jw:(fF q d a b c).data.toList.length=22:=by have:=qC q d a b c;simpa using this
  cases ao with
  |none=>obtain⟨e,-⟩:=hn rfl;omega
  |some ad=>
   obtain⟨k1,k2,aS,Rf,hk⟩:=hx ad rfl;rw[jw];exact⟨_,_,rfl,hr,⟨aS,_,hk⟩,hg⟩
 obtain⟨w1,iY⟩:∃w1,w1=w.alloc (C #[I .u8 q,I V a,I V b,I V c] 99):=⟨_,rfl⟩;have G1:aL w w1:=by rw[iY];exact(aL.refl w).alloc _
 have KG:Uo w1 lp w.heap.size db ep q a b c:=⟨(G1.block _ (aM hL)).trans hL,by rw[iY];exact Aaf w _⟩;have HI:Hid (H K 132 #[I V d] w1 fun e w'=> ∃s:ByteArray,e=G (.string s)/\s.size<=100/\aL w1 w'):=CU (hG.aN G1) Sl Pn;have yJ:Hid (aL w w1):=G1;have KH:Hid (Uo w1 lp w.heap.size db ep q a b c):=KG
 have hne:text.toList.isEmpty=false:=by
  rw[AcM];cases hz:text.data.toList with
  |nil=>exact absurd (show text.size=0 by have:=congrArg List.length hz;simpa using this) CV
  |cons x l=>rfl
 unfold iC;clear hL KG G1;go_enter func87,ntmps87;go_upto_region 1 with fail;rw[<-iY];clear iY;go_upto_region 3 with(go_at_call 132;refine HI.out.mono ?_;rintro e w2 ⟨sx,rfl,hsx,kR⟩;have Ng:∀(p:ByteArray) (w:F),p.size<=100->(Op.stringOp .add p sx).run K w= .ok (.string (p++sx)) w:=fun p w hp=>AaT w _ _ (by omega);have VA:=fun w=>Ng ⟨#[99,104,97,110,103,101,32]⟩ w (by decide);clear Ng);have KI:Uo w2 lp w.heap.size db ep q a b c:=KH.out.aN kR;obtain⟨x0,x1,x2,x3,x4⟩:=KI.cells;obtain⟨cap,w3,hcv,Gn,ht3,oK⟩:=Un w2 text
 have HA3:Hid (H K 133 #[U (M ⟨db,0,O⟩),I V 1,Z (M ⟨w2.heap.size,0,O⟩) text.size cap] w3 fun e w'=> ∃v,e=G v/\oC w w' ps db fv rs 1 v (bW s (plain rs) 1 text)/\Gl w' ps/\Uo w' lp w.heap.size db ep q a b c):=by
  refine(xA (n:=1) (cap:=cap) (((h.aN yJ.out).aN kR).aN oK) (((hG.xR.aN yJ.out).aN kR).aN oK) hO.cK hO.Cu hO.inv (by have:=hO.len;rw[bN]at this;omega) CV (by omega) Gn ht3).mono ?_;rintro e w' ⟨v,rfl,dV,dP,k1,k2,k3,k4⟩;exact⟨v,rfl,⟨dV,dP,k1,k2,(Dk.bX (yJ.out.then (kR.then oK))).trans k3,k4.vF⟩,(((hG.aN yJ.out).aN kR).aN oK).dk (((h.aN yJ.out).aN kR).aN oK) k3,(KI.aN oK).dk (((h.aN yJ.out).aN kR).aN oK) k3⟩
 clear KI Gn ht3 HI KH
 have HT:Hid (∀W v (sx:ByteArray),oC w W ps db fv rs 1 v (bW s (plain rs) 1 text)->H K 81 #[.string sx,v] W fun e w'=> ∃v',e=G v'/\oC w w' ps db fv rs 2 v' (bW s (plain rs) 1 text)):=fun W v sx hv=>by
  obtain⟨dV,dP,k1,k2,k3,k4⟩:=hv;refine(Hr k4).mono ?_;rintro e w' ⟨v',rfl,m1,m2⟩;exact⟨v',rfl,dV,dP,k1.aN m2,k2,k3.Ht m2,m1⟩
 have HE:Hid ((bW s (plain rs) 1 text).1≠0):=hE;clear h hG hO hE;go_upto_region 4 with(go_at_call 133;refine HA3.out.mono ?_;rintro e w4 ⟨v,rfl,hv,-,-⟩);obtain⟨t,bb,rfl⟩:∃t b,v= .iface t (U (M b)):=by obtain⟨dV,dP,k1,k2,k3,k4⟩:=hv;exact k4.yes HE.out
 have Ri:=HT.out w4 _ (⟨#[99,104,97,110,103,101,32]⟩++sx) hv;have HV:Hid (oC w w4 ps db fv rs 1 (.iface t (U (M bb))) (bW s (plain rs) 1 text)):=hv;clear hv HT;go_wp2_with (go_at_call 81;refine Ri.mono ?_;rintro e w5 ⟨v',rfl,hv'⟩);go_ret;exact⟨_,rfl,hv'⟩
theorem ZF {d q a b c:Int}{text:ByteArray}(h:aU w db s fv rs)(hL:w.heap[lp]?=M (jM db ep))(hG:Gl w ps)(hO:pJ 998 s (plain rs))(yD:0<=ep)(Hu:ep<=1000)(Sl: -9223372036854775808<=d)(Pn:d<=9223372036854775807)(hq:0<=q)(xL:q<256)(hd:cO d)(ha:cO a)(hb:cO b)(hc:cO c)(CV:text.size≠0)(oM:text.size<=1000000)(hE:(bW s (plain rs) 1 text).1=0):
 H K 87 #[U (M ⟨lp,0,O⟩),I V d,iC q a b c,.string text] w fun e w'=> ∃v,e=G v/\oC w w' ps db fv rs 2 v (bW (bW s (plain rs) 1 text).2.1 (bW s (plain rs) 1 text).2.2 (10+ep) (fF q d a b c)):=by
 have jy:pJ 999 (bW s (plain rs) 1 text).2.1 (bW s (plain rs) 1 text).2.2:=hO.add (by omega) CV;have UQ:Hid (∃s2 Uq,s2=(bW s (plain rs) 1 text).2.1/\Uq=(bW s (plain rs) 1 text).2.2):=⟨_,_,rfl,rfl⟩;obtain⟨s2,Uq,es2,ef2⟩:=UQ.out;rw[<-es2,<-ef2]at jy ⊢;have HES:Hid (s2=(bW s (plain rs) 1 text).2.1/\Uq=(bW s (plain rs) 1 text).2.2):=⟨es2,ef2⟩;have HE:Hid ((bW s (plain rs) 1 text).1=0):=hE;clear es2 ef2 UQ hE
 have HR:Hid (∀W,H K 134 #[I V d,.agg #[I .u8 q,I V a,I V b,I V c]] W fun e w'=> ∃ad cap,e=G (Z (M ad) 22 cap)/\pG w' (M ad) (fF q d a b c).data.toList/\(∃aS f,w'.heap[ad.block]?=M (C aS 5 f))/\aL W w'):=fun W=>by
  refine(Nq hq xL hd ha hb hc).mono ?_;rintro e w' ⟨v,rfl,bD,hg⟩;obtain⟨ao,cap,rfl,hr,iI,hn,hx⟩:=bI.form bD;have jw:(fF q d a b c).data.toList.length=22:=by have:=qC q d a b c;simpa using this
  cases ao with
  |none=>obtain⟨e,-⟩:=hn rfl;omega
  |some ad=>
   obtain⟨k1,k2,aS,Rf,hk⟩:=hx ad rfl;rw[jw];exact⟨_,_,rfl,hr,⟨aS,_,hk⟩,hg⟩
 obtain⟨w1,iY⟩:∃w1,w1=w.alloc (C #[I .u8 q,I V a,I V b,I V c] 99):=⟨_,rfl⟩;have G1:aL w w1:=by rw[iY];exact(aL.refl w).alloc _
 have KG:Uo w1 lp w.heap.size db ep q a b c:=⟨(G1.block _ (aM hL)).trans hL,by rw[iY];exact Aaf w _⟩;have HI:Hid (H K 132 #[I V d] w1 fun e w'=> ∃s:ByteArray,e=G (.string s)/\s.size<=100/\aL w1 w'):=CU (hG.aN G1) Sl Pn;have yJ:Hid (aL w w1):=G1;have KH:Hid (Uo w1 lp w.heap.size db ep q a b c):=KG
 have hne:text.toList.isEmpty=false:=by
  rw[AcM];cases hz:text.data.toList with
  |nil=>exact absurd (show text.size=0 by have:=congrArg List.length hz;simpa using this) CV
  |cons x l=>rfl
 unfold iC;clear hL KG G1;go_enter func87,ntmps87;go_upto_region 1 with fail;rw[<-iY];clear iY;go_upto_region 3 with(go_at_call 132;refine HI.out.mono ?_;rintro e w2 ⟨sx,rfl,hsx,kR⟩;have Ng:∀(p:ByteArray) (w:F),p.size<=100->(Op.stringOp .add p sx).run K w= .ok (.string (p++sx)) w:=fun p w hp=>AaT w _ _ (by omega);have VA:=fun w=>Ng ⟨#[99,104,97,110,103,101,32]⟩ w (by decide);clear Ng);have KI:Uo w2 lp w.heap.size db ep q a b c:=KH.out.aN kR;obtain⟨x0,x1,x2,x3,x4⟩:=KI.cells;obtain⟨cap,w3,hcv,Gn,ht3,oK⟩:=Un w2 text
 have HA3:Hid (H K 133 #[U (M ⟨db,0,O⟩),I V 1,Z (M ⟨w2.heap.size,0,O⟩) text.size cap] w3 fun e w'=> ∃v,e=G v/\oC w w' ps db fv rs 1 v (bW s (plain rs) 1 text)/\Gl w' ps/\Uo w' lp w.heap.size db ep q a b c):=by
  refine(xA (n:=1) (cap:=cap) (((h.aN yJ.out).aN kR).aN oK) (((hG.xR.aN yJ.out).aN kR).aN oK) hO.cK hO.Cu hO.inv (by have:=hO.len;rw[bN]at this;omega) CV (by omega) Gn ht3).mono ?_;rintro e w' ⟨v,rfl,dV,dP,k1,k2,k3,k4⟩;exact⟨v,rfl,⟨dV,dP,k1,k2,(Dk.bX (yJ.out.then (kR.then oK))).trans k3,k4.vF⟩,(((hG.aN yJ.out).aN kR).aN oK).dk (((h.aN yJ.out).aN kR).aN oK) k3,(KI.aN oK).dk (((h.aN yJ.out).aN kR).aN oK) k3⟩
 clear KI Gn ht3 HI KH;clear h hG hO;go_upto_region 4 with(go_at_call 133;refine HA3.out.mono ?_;rintro e w4 ⟨v,rfl,hv,Ww,KI⟩);clear kR oK hcv;obtain⟨fv2,rs2,vY,hp2,YL,hv2⟩:=hv;rw[HE.out]at hv2;obtain rfl:=hv2.no;rw[<-HES.out.1]at vY;rw[<-HES.out.2]at hp2;subst hp2;have HWB:Hid (Uo w4 lp w.heap.size db ep q a b c):=KI;have HJ:Hid (∀W,aL w4 W->H K 88 #[U (M ⟨lp,0,O⟩)] W fun e w'=>e=G (I V (10+ep))/\w'=W):=fun W hW=>qB (KI.aN hW).1 yD (by omega)
 have HA:Hid (∀W ad cap,aL w4 W->pG W (M ad) (fF q d a b c).data.toList->(∃aS f,W.heap[ad.block]?=M (C aS 5 f))->H K 133 #[U (M ⟨db,0,O⟩),I V (10+ep),Z (M ad) 22 cap] W fun e w'=> ∃v,e=G v/\oC w w' ps db fv rs 1 v (bW s2 (plain rs2) (10+ep) (fF q d a b c))):=fun W ad cap hW hr ht=>by
  have jw:=qC q d a b c;have:=xA (n:=10+ep) (cap:=cap) (vY.aN hW) (Ww.xR.aN hW) jy.cK jy.Cu jy.inv (by have:=jy.len;rw[bN]at this;omega) (by omega) (by omega) hr ht;rw[jw]at this;refine this.mono ?_;rintro e w' ⟨v,rfl,dV,dP,k1,k2,k3,k4⟩;exact⟨v,rfl,dV,dP,k1,k2,YL.trans ((Dk.bX hW).trans k3),k4.vF⟩
 have HT:Hid (∀W v (sx:ByteArray),oC w W ps db fv rs 1 v (bW s2 (plain rs2) (10+ep) (fF q d a b c))->H K 81 #[.string sx,v] W fun e w'=> ∃v',e=G v'/\oC w w' ps db fv rs 2 v' (bW s2 (plain rs2) (10+ep) (fF q d a b c))):=fun W v sx hv=>by
  obtain⟨dV,dP,k1,k2,k3,k4⟩:=hv;refine(Hr k4).mono ?_;rintro e w' ⟨v',rfl,m1,m2⟩;exact⟨v',rfl,dV,dP,k1.aN m2,k2,k3.Ht m2,m1⟩
 obtain⟨y0,y1,y2,y3,y4⟩:=KI.cells;clear KI vY Ww jy yJ HA3 x0 x1 x2 x3 x4 YL;go_upto_region 6 with fail
 go_region_law (first
  |(refine cB (by rfl) 88 _ _ (by rfl) _ (by simp[Act.eval,Act.put];done) Oa ((HJ.out _ (by repeat (first|exact aL.refl _|exact hgR|refine aL.drew ?_))).mono ?_);rintro v w' ⟨rfl,rfl⟩;refine⟨_,rfl,?_⟩)|(refine cB (by rfl) 134 _ _ (by rfl) _ (by simp[Act.eval];done) KF ((HR.out _).mono ?_);rintro v wR ⟨ad,cap,rfl,hrR,htR,hgR'⟩;have hgR:aL w4 wR:=aL.then (by repeat (first|exact aL.refl _|refine aL.drew ?_)) hgR';obtain⟨z0,z1,z2,z3,z4⟩:=(Uo.aN HWB.out hgR).cells;refine⟨_,rfl,?_⟩)|(refine cB (by rfl) 133 _ _ (by rfl) _ (by simp[Act.eval];done) Ob ((HA.out _ ad cap hgR hrR htR).mono ?_);rintro v wA ⟨vA,rfl,hvA⟩;refine⟨_,rfl,?_⟩)|(refine cB (by rfl) 81 _ _ (by rfl) _ (by simp[Act.eval];done) e_at ((HT.out wA vA (⟨#[99,104,97,110,103,101,32]⟩++sx) hvA).mono ?_);rintro v wT ⟨vT,rfl,hvT⟩;refine⟨_,rfl,?_⟩))
 all_goals go_wp2_with fail
 all_goals go_ret
 all_goals exact⟨_,rfl,hvT⟩
theorem ZG (ha:0<=s.after):0<=(bY s fs n).2.1.after:=by
 unfold bY;split
 ·exact ha
 ·simp only;split
  ·exact tZ ha
  ·exact tZ ha
theorem cut_aft (ha:0<=s.after):0<=(bJ s fs n k).2.1.after:=by
 unfold bJ;split
 ·exact ha
 ·simp only;split
  ·exact tZ ha
  ·exact tZ ha
theorem pJ.flush (h:pJ N s fs)(n:Int):pJ N (bY s fs n).2.1 (bY s fs n).2.2:=by
 have ha:=ZG (fs:=fs) (n:=n) h.Cu;have hl:=h.len;rcases qI h.cK h.inv n with⟨s',dU,e,hd,hI,hle,-⟩|⟨s',dU,e,hd⟩
 ·rw[e]at ha ⊢;exact⟨hd.2.2.2,ha,hI.room hd.1.2.2.1,by simp only;omega⟩
 ·rw[e]at ha ⊢;exact⟨hd.2.2.1,ha,hd.2.2.2.1.room hd.1.2.2.1,by have:=hd.2.2.2.2;simp only;omega⟩
theorem Qa (f:bC):∀l:List bC,vB l->(∃g∈l,g.1=f.1)->(iO l f).length=l.length
 | [],_,h=>by obtain⟨g,hg,-⟩:=h;simp at hg
 |g::r,hs,h=>by
  unfold vB at hs;rw[AbE]at hs;obtain⟨x,hx,ex⟩:=h;unfold iO;split
  ·rename_i bP;rcases AaF.1 hx with rfl|hx
   ·omega
   ·have:=hs.1.1 x hx;omega
  ·split
   ·simp
   ·rename_i h1 h2;rcases AaF.1 hx with rfl|hx
    ·exact absurd ex h2
    ·have:=Qa f r ⟨hs.1.2,fun y hy=>hs.2 y (AcX _ hy)⟩ ⟨x,hx,ex⟩;simp[this]
theorem cut_len {room:Int}(h:fM room fs)(n:Int)(hk:0<=k)(YL:k<((aO fs n).size:Int)):(Tp fs n k).length<=fs.length:=by
 unfold Tp;split
 ·exact Acn _ _
 ·refine Nat.le_of_eq (Qa _ fs h.sort ?_);cases hf:fQ fs n with
  |none=>
   have hb:aO fs n=⟨#[]⟩:=by
    have hp:=Ko fs n;rw[hf]at hp;unfold aO;cases hq:qX fs n with
    |none=>rfl
    |some i=>
     rw[hq]at hp;simp only[Option.bind_some]at hp;simp[hp]
   rw[hb]at YL;have:((⟨#[]⟩:ByteArray).size:Int)=0:=rfl;omega
  |some f=>
   unfold fQ at hf;exact⟨f,List.mem_of_find?_eq_some hf,by simpa using List.find?_some hf⟩
theorem pJ.cut (h:pJ N s fs)(n:Int)(hk:0<=k):pJ N (bJ s fs n k).2.1 (bJ s fs n k).2.2:=by
 have ha:=cut_aft (fs:=fs) (n:=n) (k:=k) h.Cu;have hl:=h.len;rcases Qz h.cK h.inv n hk with⟨-,e⟩|⟨YL,s',e,hd,hI⟩|⟨-,s',dU,e,hd⟩
 ·rw[e]at ha ⊢;exact⟨h.cK,ha,h.inv,hl⟩
 ·rw[e]at ha ⊢;exact⟨hd.2.2.2,ha,hI.room hd.1.2.2.1,by have:=cut_len h.inv n hk YL;simp only;omega⟩
 ·rw[e]at ha ⊢;exact⟨hd.2.2.1,ha,hd.2.2.2.1.room hd.1.2.2.1,by have:=hd.2.2.2.2;simp only;omega⟩
def uD (s:Sc)(fs:List bC)(ep:Int):Nat->Bool×Sc×List bC
 |0=>(true,s,fs)
 |k+1=>bY (uD s fs ep k).2.1 (uD s fs ep k).2.2 (if k=0 then 1 else 10+ep)
def rX (s:Sc)(fs:List bC)(ep:Int):Int×Sc×List bC:=
 if (uD s fs ep 1).1=false then (10,(uD s fs ep 1).2)else (if (uD s fs ep 2).1 then 0 else 10,(uD s fs ep 2).2)
theorem O_ (h:pJ N s fs):∀k,pJ N (uD s fs ep k).2.1 (uD s fs ep k).2.2
 |0=>h
 |k+1=>(O_ h k).flush _
def SyB (w wr:F)(ps:Nat->Addr)(lp rb db:Nat)(ep:Int)(fv:Y)(rs:List FR)(s':Sc)(dU:List bC):Prop:=
 wr.heap[lp]?=M (jM db ep)/\wr.heap[rb]?=M (C #[I V 1,I V (10+ep)] 3 (0,0))/\Gl wr ps/\∃dV dP,aU wr db s' dV dP/\plain dP=dU/\Dk w wr (DX db fv rs) (DX db dV dP)
theorem sync_pg (h:aU w db s fv rs)(hL:w.heap[lp]?=M (jM db ep))(hG:Gl w ps)(hO:pJ 1000 s (plain rs))(yD:0<=ep)(Hu:ep<=1000):
 H K 55 #[U (M ⟨lp,0,O⟩)] w fun e w'=> ∃v,e=G v/\oC w w' ps db fv rs 2 v (rX s (plain rs) ep):=by
 have hJ:=qB hL yD (by omega)
 have HS:Hid (SyB w (w.alloc (C #[I V 1,I V (10+ep)] 3)) ps lp w.heap.size db ep fv rs s (plain rs)):=by
  have g:=(aL.refl w).alloc (C #[I V 1,I V (10+ep)] 3);exact⟨(g.block _ (aM hL)).trans hL,Aaf w _,hG.aN g,fv,rs,h.aN g,rfl,Dk.bX g⟩
 have HF:Hid (∀wr s' dU n,SyB w wr ps lp w.heap.size db ep fv rs s' dU->pJ 1000 s' dU->H K 89 #[U (M ⟨db,0,O⟩),I V n] wr fun e w'=> ∃v,e=G v/\SyB w w' ps lp w.heap.size db ep fv rs (bY s' dU n).2.1 (bY s' dU n).2.2/\JM w' ps v (bY s' dU n).1):=fun wr s' dU n hs kP=>by
  obtain⟨a1,a2,a3,dV,dP,a4,rfl,a6⟩:=hs;refine(Ub a4 a3.xR kP.cK kP.Cu kP.inv (by have:=kP.len;rw[bN]at this;omega)).mono ?_;rintro e w' ⟨v,rfl,fv2,rs2,b1,b2,b3,b4⟩;exact⟨v,rfl,⟨b3.1.at a1 (a4.other a1 (by decide) (by decide) (by decide) (by decide)),b3.1.at a2 (a4.other a2 (by decide) (by decide) (by decide) (by decide)),a3.dk a4 b3,fv2,rs2,b1,b2,a6.trans b3⟩,b4⟩
 have HO:=O_ (ep:=ep) hO;clear h hG hO;go_enter func55,ntmps55;go_wp2_with (go_at_call 88;refine hJ.mono ?_;rintro e w ⟨rfl,rfl⟩)
 go_loopw [4,5,10] (fun _ _ i wr=> ∃k:Nat,k<=2/\i=I V (k:Int)/\Hid (∀j,j<=k->(uD s (plain rs) ep j).1=true)/\Hid (SyB w wr ps lp w.heap.size db ep fv rs (uD s (plain rs) ep k).2.1 (uD s (plain rs) ep k).2.2)) (fun _ _ i _=>2-(intOf i).toNat)
 case atStart=>exact⟨0,Aap _,rfl,(fun j hj=>by have e:j=0:=(by omega);subst e;rfl),HS⟩
 case round=>
  obtain⟨k,hk,rfl,HT,HW⟩:=hrel;by_cases bP:k<2
  ·have Xc:(k:Int)<2:=(by omega);have h0:(0:Int)<=(k:Int):=(by omega);obtain⟨c0,-⟩:=gU HW.out.1
   have hcell:wr.cell? ⟨w.heap.size,k,O⟩=M (I V (if k=0 then 1 else 10+ep)):=by
    have:=HW.out.2.1;have e:k=0\/k=1:=(by omega);rcases e with rfl|rfl<;>simp[World.cell?,this]
   have fT:=HF.out wr _ _ (if k=0 then 1 else 10+ep) HW.out (HO k);have HN:Hid (uD s (plain rs) ep (k+1)=bY (uD s (plain rs) ep k).2.1 (uD s (plain rs) ep k).2.2 (if k=0 then 1 else 10+ep)):=rfl;rw[<-HN.out]at fT;generalize (if k=0 then (1:Int)else 10+ep)=nn at hcell fT;cases hb:(uD s (plain rs) ep (k+1)).1 with
   |true=>
    have HT1:Hid (∀j,j<=k+1->(uD s (plain rs) ep j).1=true):=fun j hj=>by
     by_cases e:j=k+1
     ·rw[e];exact hb
     ·exact HT.out j (by omega)
    have QO:H K 89 #[U (M ⟨db,0,O⟩),I V nn] wr fun e w'=>e=G .nilIface/\Hid (SyB w w' ps lp w.heap.size db ep fv rs (uD s (plain rs) ep (k+1)).2.1 (uD s (plain rs) ep (k+1)).2.2):=fT.mono (by
     rintro e w' ⟨v,rfl,a,b⟩;rw[hb]at b;rcases b with⟨-,rfl⟩|⟨b,-⟩
     ·exact⟨rfl,a⟩
     ·cases b)
    clear fT hb HF HO HS hJ hL;go_wp2_with (go_at_call 89;refine QO.mono ?_;rintro e w4 ⟨rfl,qU⟩);go_roundw
    case rel=>exact⟨k+1,by omega,by go_num,HT1,qU⟩
    case measure=>simp[intOf];omega
   |false=>
    have HR:Hid (rX s (plain rs) ep=(10,(uD s (plain rs) ep (k+1)).2)):=by
     show _=_;unfold rX;have e:k=0\/k=1:=(by omega);rcases e with rfl|rfl
     ·rw[Aad hb]
     ·have h1:=HT.out 1 (by omega);rw[Aaa (by rw[h1];simp),hb];rfl
    have QO:H K 89 #[U (M ⟨db,0,O⟩),I V nn] wr fun e w'=> ∃b,e=G (.iface 290 (U (M ⟨b,0,O⟩)))/\Hid (oC w w' ps db fv rs 1 (.iface 290 (U (M ⟨b,0,O⟩))) (10,(uD s (plain rs) ep (k+1)).2)):=fT.mono (by
     rintro e w' ⟨v,rfl,a,b⟩;rw[hb]at b;have hl:=b.vF;rcases b with⟨b,-⟩|⟨-,b0,nm,num,rfl,-⟩
     ·cases b
     ·obtain⟨-,-,-,dV,dP,a4,a5,a6⟩:=a;exact⟨b0,rfl,dV,dP,a4,a5,a6,hl⟩)
    have HA:Hid (∀W b,oC w W ps db fv rs 1 (.iface 290 (U (M ⟨b,0,O⟩))) (10,(uD s (plain rs) ep (k+1)).2)->H K 81 #[.string ⟨#[115,121,110,99]⟩,.iface 290 (U (M ⟨b,0,O⟩))] W fun e w'=> ∃v',e=G v'/\oC w w' ps db fv rs 2 v' (10,(uD s (plain rs) ep (k+1)).2)):=fun W b hv=>by
     obtain⟨dV,dP,k1,k2,k3,k4⟩:=hv;refine(Hr k4).mono ?_;rintro e w' ⟨v',rfl,m1,m2⟩;exact⟨v',rfl,dV,dP,k1.aN m2,k2,k3.Ht m2,m1⟩
    clear fT hb HF HO HS hJ hL;go_wp2_with (first|(go_at_call 89;refine QO.mono ?_;rintro e w4 ⟨b4,rfl,qU⟩)|(go_at_call 81;refine(HA.out _ _ qU.out).mono ?_;rintro e w5 ⟨v5,rfl,hv5⟩));go_ret;rw[HR.out];exact⟨_,rfl,hv5⟩
  ·have e2:k=2:=(by omega);subst e2
   have HR:Hid (rX s (plain rs) ep=(0,(uD s (plain rs) ep 2).2)):=by
    show _=_;unfold rX;have h1:=HT.out 1 (by omega);have h2:=HT.out 2 (by omega);rw[Aaa (by rw[h1];simp),h2];rfl
   have HV:Hid (oC w wr ps db fv rs 2 .nilIface (0,(uD s (plain rs) ep 2).2)):=by
    obtain⟨-,-,-,dV,dP,a4,a5,a6⟩:=HW.out;exact⟨dV,dP,a4,a5,a6,Aac ⟨rfl,rfl⟩⟩
   clear HF HO HS hJ hL HW
   go_wp2
   go_ret;rw[HR.out];exact⟨_,rfl,HV.out⟩
def zP (w wr:F)(ps:Nat->Addr)(lp db:Nat)(ep:Int)(fv:Y)(rs:List FR)(s':Sc)(dU:List bC):Prop:=
 wr.heap[lp]?=M (jM db ep)/\Gl wr ps/\∃dV dP,aU wr db s' dV dP/\plain dP=dU/\Dk w wr (DX db fv rs) (DX db dV dP)
theorem zP.aN {wr w':F}(h:zP w wr ps lp db ep fv rs s' dU)(hg:aL wr w'):zP w w' ps lp db ep fv rs s' dU:=by
 obtain⟨a,b,dV,dP,c,d,e⟩:=h;exact⟨(hg.block _ (aM a)).trans a,b.aN hg,dV,dP,c.aN hg,d,e.Ht hg⟩
theorem zP.start (h:aU w db s fv rs)(hL:w.heap[lp]?=M (jM db ep))(hG:Gl w ps):zP w w ps lp db ep fv rs s (plain rs):=
 ⟨hL,hG,fv,rs,h,rfl,Dk.refl _ _⟩
def KJ (wr w':F):Prop:=∀(b:Nat) (aS:Array Y) (t:TypeId) (f:Nat×Nat),wr.heap[b]?=M (C aS t f)->t≠137->t≠155->t≠157->t≠5->w'.heap[b]?=M (C aS t f)
theorem zP.res {wr:F}(h:zP w wr ps lp db ep fv rs s' dU):∃dV dP,aU wr db s' dV dP/\plain dP=dU/\∀(w':F) (v:Y) (r:Bool×Sc×List bC),sH wr w' ps db dV dP v r->zP w w' ps lp db ep fv rs r.2.1 r.2.2/\JM w' ps v r.1/\KJ wr w':=by
 obtain⟨a,b,dV,dP,c,d,e⟩:=h;refine⟨dV,dP,c,d,?_⟩;rintro w' v r ⟨fv2,rs2,c2,d2,e2,f2⟩;exact⟨⟨e2.1.at a (c.other a (by decide) (by decide) (by decide) (by decide)),b.dk c e2,fv2,rs2,c2,d2,e.trans e2⟩,f2,fun bb aS t f hb h1 h2 h3 h4=>e2.1.at hb (c.other hb h1 h2 h3 h4)⟩
theorem QS {k:Nat}(h:aU w db s fv rs)(hL:w.heap[lp]?=M (jM db ep))(hG:Gl w ps)(hO:pJ 1000 s (plain rs)):
 H K 128 #[U (M ⟨lp,0,O⟩),I V n,I V (k:Int)] w fun e w'=> ∃v,e=G v/\sH w w' ps db fv rs v (bJ s (plain rs) n (k:Int)):=by
 have hl:rs.length<=1000:=by have:=hO.len;rw[bN]at this;exact this
 have hlen:=Fj (n:=n) h hO.inv.sort.1 (by omega);obtain⟨c0,-⟩:=gU hL;by_cases h1:(aO (plain rs) n).size<=k
 ·have HE:Hid (sH w w ps db fv rs .nilIface (bJ s (plain rs) n (k:Int))):=by
   have e:bJ s (plain rs) n (k:Int)=(true,s,plain rs):=(by unfold bJ;rw[Aad (by omega)]);rw[e];exact⟨fv,rs,h,rfl,Dk.refl _ _,Aac ⟨rfl,rfl⟩⟩
  have Mr:((aO (plain rs) n).size:Int)<=(k:Int):=by omega
  clear h hL hG hO;go_enter func128,ntmps128;go_wp2_with (go_at_call 124;refine hlen.mono ?_;rintro e w ⟨rfl,rfl⟩);go_ret;exact⟨_,rfl,HE.out⟩
 ·have Mr:¬((aO (plain rs) n).size:Int)<=(k:Int):=by omega
  by_cases h2:k=0
  ·have hR:Hid (H K 127 #[U (M ⟨db,0,O⟩),I V n] w fun e w'=> ∃v,e=G v/\sH w w' ps db fv rs v (bJ s (plain rs) n (k:Int))):=by
    rw[h2];exact Np h hG.xR hO.cK hO.Cu hO.inv hl
   have h2':((k:Int)==0)=true:=(by rw[beq_iff_eq];omega);clear h hL hG hO;generalize (aO (plain rs) n).size=z at*;go_enter func128,ntmps128;go_wp2_with (first|(go_at_call 124;refine hlen.mono ?_;rintro e w ⟨rfl,rfl⟩)|(go_at_call 127;refine hR.out.mono ?_;rintro e w5 ⟨v,rfl,hv⟩));go_ret;exact⟨_,rfl,hv⟩
  ·have hR:Hid (H K 194 #[U (M ⟨db,0,O⟩),I V n,I V (k:Int)] w fun e w'=> ∃v,e=G v/\sH w w' ps db fv rs v (bJ s (plain rs) n (k:Int))):=cut_pg h hG.xR hO.cK hO.Cu hO.inv hl (by omega) (by omega);have h2':((k:Int)==0)=false:=(by rw[Aat];omega);clear h hL hG hO;generalize (aO (plain rs) n).size=z at*;go_enter func128,ntmps128;go_wp2_with (first|(go_at_call 124;refine hlen.mono ?_;rintro e w ⟨rfl,rfl⟩)|(go_at_call 194;refine hR.out.mono ?_;rintro e w5 ⟨v,rfl,hv⟩));go_ret;exact⟨_,rfl,hv⟩
def sJ (fs:List bC)(ep:Int):List Int:=(fs.map (fun f=>f.1)).filter (fun n=>n !=1 && n !=2 && n !=10+ep)
def qM (s:Sc)(fs:List bC)(ep j b:Int):Int×Sc×List bC:=
 if (gB s fs (sJ fs ep)).1=false then (10,(gB s fs (sJ fs ep)).2)else
 if (bJ (gB s fs (sJ fs ep)).2.1 (gB s fs (sJ fs ep)).2.2 (10+ep) j).1=false then (10,(bJ (gB s fs (sJ fs ep)).2.1 (gB s fs (sJ fs ep)).2.2 (10+ep) j).2)else
 (if (bJ (bJ (gB s fs (sJ fs ep)).2.1 (gB s fs (sJ fs ep)).2.2 (10+ep) j).2.1 (bJ (gB s fs (sJ fs ep)).2.1 (gB s fs (sJ fs ep)).2.2 (10+ep) j).2.2 1 b).1 then 0 else 10,(bJ (bJ (gB s fs (sJ fs ep)).2.1 (gB s fs (sJ fs ep)).2.2 (10+ep) j).2.1 (bJ (gB s fs (sJ fs ep)).2.1 (gB s fs (sJ fs ep)).2.2 (10+ep) j).2.2 1 b).2)
def Qn (s:Sc)(fs:List bC)(ep:Int)(ns:List Int)(k:Nat)(s':Sc)(dU:List bC):Prop:=gB s fs (ns.filter (fun n=>n !=1 && n !=2 && n !=10+ep))=gB s' dU ((ns.drop k).filter (fun n=>n !=1 && n !=2 && n !=10+ep))
theorem Qn.skip {ns:List Int}{k:Nat}(h:Qn s fs ep ns k s' dU)(hk:ns[k]?=M n)(hn:n=1\/n=2\/n=10+ep):Qn s fs ep ns (k+1) s' dU:=by
 obtain⟨bP,he⟩:=Aae.1 hk;unfold Qn at h ⊢;rw[h,AaQ bP,he,List.filter_cons_of_neg];rcases hn with rfl|rfl|rfl<;>simp
theorem Qn.step {ns:List Int}{k:Nat}(h:Qn s fs ep ns k s' dU)(hk:ns[k]?=M n)(h1:n≠1)(h2:n≠2)(h3:n≠10+ep):((bJ s' dU n 0).1=true->Qn s fs ep ns (k+1) (bJ s' dU n 0).2.1 (bJ s' dU n 0).2.2)/\((bJ s' dU n 0).1=false->gB s fs (ns.filter (fun n=>n !=1 && n !=2 && n !=10+ep))=bJ s' dU n 0):=by
 obtain⟨bP,he⟩:=Aae.1 hk;unfold Qn at h ⊢;rw[h,AaQ bP,he,List.filter_cons_of_pos (by simp[h1,h2,h3])];refine⟨fun e=>?_,fun e=>?_⟩
 ·conv=>lhs;unfold gB
  simp only;rw[Aad e]
 ·conv=>lhs;unfold gB
  simp only;rw[Aaa (by rw[e];simp)]
theorem tidy_pg {j b:Nat}(h:aU w db s fv rs)(hL:w.heap[lp]?=M (jM db ep))(hG:Gl w ps)(hO:pJ 1000 s (plain rs))(yD:0<=ep)(Hu:ep<=1000):
 H K 83 #[U (M ⟨lp,0,O⟩),I V (j:Int),I V (b:Int)] w fun e w'=> ∃v,e=G v/\oC w w' ps db fv rs 1 v (qM s (plain rs) ep (j:Int) (b:Int)):=by
 have hl:rs.length<=1000:=by have:=hO.len;rw[bN]at this;exact this
 have hN:=QB h (by omega);obtain⟨c0,-⟩:=gU hL;have HS:Hid (zP w w ps lp db ep fv rs s (plain rs)):=zP.start h hL hG;have HJ:Hid (∀W s' dU,zP w W ps lp db ep fv rs s' dU->H K 88 #[U (M ⟨lp,0,O⟩)] W fun e w'=>e=G (I V (10+ep))/\w'=W):=fun W s' dU hW=>qB hW.1 yD (by omega)
 have HRm:Hid (∀W s' dU n,zP w W ps lp db ep fv rs s' dU->pJ 1000 s' dU->H K 127 #[U (M ⟨db,0,O⟩),I V n] W fun e w'=> ∃v,e=G v/\zP w w' ps lp db ep fv rs (bJ s' dU n 0).2.1 (bJ s' dU n 0).2.2/\JM w' ps v (bJ s' dU n 0).1/\KJ W w'):=fun W s' dU n hW kP=>by
  have CW:=hW.2.1;obtain⟨dV,dP,k1,rfl,k3⟩:=hW.res;refine(Np k1 CW.xR kP.cK kP.Cu kP.inv (by have:=kP.len;rw[bN]at this;exact this)).mono ?_;rintro e w' ⟨v,rfl,hr⟩;exact⟨v,rfl,k3 w' v _ hr⟩
 have HSh:Hid (∀W s' dU n (k:Nat),zP w W ps lp db ep fv rs s' dU->pJ 1000 s' dU->H K 128 #[U (M ⟨lp,0,O⟩),I V n,I V (k:Int)] W fun e w'=> ∃v,e=G v/\zP w w' ps lp db ep fv rs (bJ s' dU n (k:Int)).2.1 (bJ s' dU n (k:Int)).2.2/\JM w' ps v (bJ s' dU n (k:Int)).1):=fun W s' dU n k hW kP=>by
  have CW:=hW.2.1;have hLW:=hW.1;obtain⟨dV,dP,k1,rfl,k3⟩:=hW.res;refine(QS k1 hLW CW kP).mono ?_;rintro e w' ⟨v,rfl,hr⟩;exact⟨v,rfl,(k3 w' v _ hr).1,(k3 w' v _ hr).2.1⟩
 have HLg:Hid (∀W s' dU v (ok:Bool) D,zP w W ps lp db ep fv rs s' dU->JM W ps v ok->1<=D->oC w W ps db fv rs D v (if ok then 0 else 10,s',dU)):=fun W s' dU v ok D hW hv hD=>by
  obtain⟨-,-,dV,dP,a,b,c⟩:=hW;refine⟨dV,dP,a,b,c,?_⟩;rcases hv.vF with h|⟨d,k,h1,h2⟩
  ·exact Aac h
  ·exact Aab ⟨d,k,by omega,h2⟩
 generalize hns:(plain rs).map (fun f=>f.1)=ns at hN;have HNS:Hid _:=hns;have hnl:ns.length<=1000:=by rw[<-hns,AbL,bN];exact hl
 have jr:Hid _:=hO;clear h hL hG hO hns;go_enter func83,ntmps83;go_upto_region 2 with(go_at_call 126;refine hN.mono ?_;rintro e w1 ⟨v1,rfl,bD,iJ⟩;obtain⟨nao,ncap,rfl,hnr,-,hnn,-⟩:=iZ.form bD)
 have HRow:Hid (∀k n,ns[k]?=M n->∃g off aS,nao=M ⟨g,off,O⟩/\w1.heap[g]?=M (C aS 3 (0,0))/\aS[off+k]?=M (I V n)):=fun k n hk=>by
  obtain⟨bP,he⟩:=Aae.1 hk;rcases bD.2 with⟨e,e2⟩|⟨g,cap,aS,e,-,hh,h4,-,h6,h7⟩
  ·omega
  ·cases e
   refine⟨g,0,aS,rfl,hh,?_⟩;have h8:(ns.map (Value.int V))[k]?=M (I V n):=(by rw[Abk,hk];rfl);rw[<-h7,AbC]at h8;rw[Ach];split at h8
   ·simpa using h8
   ·cases h8
 have HS1:Hid _:=HS.out.aN iJ;clear hN hnr bD iJ HS c0 hnn
 go_loopw [8,9,17,22] (fun _ _ i _ wr=> ∃(k:Nat) (s':Sc) (dU:List bC),k<=ns.length/\i=I V (k:Int)/\Hid (Qn s (plain rs) ep ns k s' dU)/\Hid (zP w wr ps lp db ep fv rs s' dU)/\Hid (pJ 1000 s' dU)/\Hid (∀(g:Nat) (aS:Array Y),w1.heap[g]?=M (Obj.cells aS 3 (0,0))->wr.heap[g]?=M (Obj.cells aS 3 (0,0)))) (fun _ _ i _ _=>ns.length-(intOf i).toNat)
 case atStart=>exact⟨0,s,plain rs,Aap _,rfl,(by show Qn _ _ _ _ _ _ _;unfold Qn;rw[Abr]),HS1,jr,fun _ _ h=>h⟩
 case round=>
  obtain⟨k,s',dU,hk,rfl,HT,HW,HK,HR⟩:=hrel;by_cases bP:k<ns.length
  ·obtain⟨n,hn⟩:∃n,ns[k]?=M n:=⟨_,Aag bP⟩;obtain⟨g,off,aS,rfl,hg,ZH⟩:=HRow.out k n hn;have hcell:wr.cell? ⟨g,off+k,O⟩=M (I V n):=(by simp[World.cell?,HR.out g aS hg,ZH]);have i1:(0:Int)<=(k:Int):=(by omega);have i2:(k:Int)<(ns.length:Int):=(by omega);obtain⟨c0,-⟩:=gU HW.out.1;have hj:=HJ.out wr s' dU HW.out;by_cases e1:n=1
   ·have HT1:Hid _:=HT.out.skip hn (Aac e1);subst e1;clear hn hg ZH
    go_wp2
    go_roundw
    case rel=>exact⟨k+1,s',dU,by omega,by go_num,HT1,HW,HK,HR⟩
    case measure=>simp[intOf];omega
   ·by_cases e2:n=2
    ·have HT1:Hid _:=HT.out.skip hn (Aab (Aac e2));subst e2;clear hn hg ZH
     go_wp2
     go_roundw
     case rel=>exact⟨k+1,s',dU,by omega,by go_num,HT1,HW,HK,HR⟩
     case measure=>simp[intOf];omega
    ·have rV:(n==1)=false:=Aat.2 e1;have Di:(n==2)=false:=Aat.2 e2;by_cases e3:n=10+ep
     ·have HT1:Hid _:=HT.out.skip hn (Aab (Aab e3));have e3':(n==10+ep)=true:=beq_iff_eq.2 e3;clear hn hg ZH e3;go_wp2_with (go_at_call 88;refine hj.mono ?_;rintro e wr ⟨rfl,rfl⟩);go_roundw
      case rel=>exact⟨k+1,s',dU,by omega,by go_num,HT1,HW,HK,HR⟩
      case measure=>simp[intOf];omega
     ·have e3':(n==10+ep)=false:=Aat.2 e3;obtain⟨t1,t2⟩:=HT.out.step hn e1 e2 e3;have hrm:=HRm.out wr s' dU n HW.out HK.out;have HK2:Hid _:=HK.out.cut n (AaZ 0);cases hb:(bJ s' dU n 0).1 with
      |true=>
       have HT1:Hid _:=t1 hb
       have hrm2:H K 127 #[U (M ⟨db,0,O⟩),I V n] wr fun e w'=>e=G .nilIface/\Hid (zP w w' ps lp db ep fv rs (bJ s' dU n 0).2.1 (bJ s' dU n 0).2.2)/\Hid (KJ wr w'):=hrm.mono (by
        rintro e w' ⟨v,rfl,a,b,c⟩;rw[hb]at b;rcases b with⟨-,rfl⟩|⟨b,-⟩
        ·exact⟨rfl,a,c⟩
        ·cases b)
       clear hrm hb t1 t2 hn hg ZH;go_wp2_with (first|(go_at_call 88;refine hj.mono ?_;rintro e wr ⟨rfl,rfl⟩)|(go_at_call 127;refine hrm2.mono ?_;rintro e w4 ⟨rfl,qU,hk4⟩));go_roundw
       case rel=>exact⟨k+1,_,_,by omega,by go_num,HT1,qU,HK2,fun g aS hg=>hk4.out g aS 3 (0,0) (HR.out g aS hg) (by decide) (by decide) (by decide) (by decide)⟩
       case measure=>simp[intOf];omega
      |false=>
       have HE:Hid (qM s (plain rs) ep (j:Int) (b:Int)=(10,(bJ s' dU n 0).2)):=by
        show _=_;have e:=t2 hb;rw[<-HNS.out]at e;have e':gB s (plain rs) (sJ (plain rs) ep)=bJ s' dU n 0:=e;unfold qM;rw[e',Aad hb]
       have hrm2:H K 127 #[U (M ⟨db,0,O⟩),I V n] wr fun e w'=> ∃b0,e=G (.iface 290 (U (M ⟨b0,0,O⟩)))/\Hid (oC w w' ps db fv rs 1 (.iface 290 (U (M ⟨b0,0,O⟩))) (10,(bJ s' dU n 0).2)):=hrm.mono (by
        rintro e w' ⟨v,rfl,a,b,c⟩;rw[hb]at b;have hl:=HLg.out w' _ _ v false 1 a b (Aak _);rcases b with⟨b,-⟩|⟨-,b0,nm,num,rfl,-⟩
        ·cases b
        ·exact⟨b0,rfl,hl⟩)
       clear hrm hb t1 t2 hn hg ZH;go_wp2_with (first|(go_at_call 88;refine hj.mono ?_;rintro e wr ⟨rfl,rfl⟩)|(go_at_call 127;refine hrm2.mono ?_;rintro e w4 ⟨b4,rfl,qU⟩));go_ret;rw[HE.out];exact⟨_,rfl,qU.out⟩
  ·have e1:ns.drop k=[]:=Acz (by omega)
   have HC:Hid (gB s (plain rs) (sJ (plain rs) ep)=(true,s',dU)):=by
    have:=HT.out;unfold Qn at this;rw[e1,<-HNS.out]at this;exact this
   have hj:=HJ.out wr s' dU HW.out;have hsh:=HSh.out wr s' dU (10+ep) j HW.out HK.out;have HK2:Hid (pJ 1000 (bJ s' dU (10+ep) (j:Int)).2.1 (bJ s' dU (10+ep) (j:Int)).2.2):=HK.out.cut _ (by omega);clear e1 HT HRm;cases hb:(bJ s' dU (10+ep) (j:Int)).1 with
   |true=>
    have hsh1:H K 128 #[U (M ⟨lp,0,O⟩),I V (10+ep),I V (j:Int)] wr fun e w'=>e=G .nilIface/\Hid (zP w w' ps lp db ep fv rs (bJ s' dU (10+ep) (j:Int)).2.1 (bJ s' dU (10+ep) (j:Int)).2.2):=hsh.mono (by
     rintro e w' ⟨v,rfl,a,b⟩;rw[hb]at b;rcases b with⟨-,rfl⟩|⟨b,-⟩
     ·exact⟨rfl,a⟩
     ·cases b)
    have HE:Hid (qM s (plain rs) ep (j:Int) (b:Int)=(if (bJ (bJ s' dU (10+ep) (j:Int)).2.1 (bJ s' dU (10+ep) (j:Int)).2.2 1 (b:Int)).1 then 0 else 10,(bJ (bJ s' dU (10+ep) (j:Int)).2.1 (bJ s' dU (10+ep) (j:Int)).2.2 1 (b:Int)).2)):=by
     show _=_;unfold qM;rw[HC.out];simp only;rw[Aaa (by simp),Aaa (by rw[hb];simp)]
    generalize bJ s' dU (10+ep) (j:Int)=r2 at*;clear hsh hb HC
    have P_:Hid (∀w4,zP w w4 ps lp db ep fv rs r2.2.1 r2.2.2->H K 128 #[U (M ⟨lp,0,O⟩),I V 1,I V (b:Int)] w4 fun e w'=> ∃v,e=G v/\oC w w' ps db fv rs 1 v (if (bJ r2.2.1 r2.2.2 1 (b:Int)).1 then 0 else 10,(bJ r2.2.1 r2.2.2 1 (b:Int)).2)):=fun w4 h4=>(HSh.out w4 _ _ 1 b h4 HK2.out).mono (by
     rintro e w' ⟨v,rfl,x,y⟩;exact⟨v,rfl,HLg.out w' _ _ v _ 1 x y (Aak _)⟩)
    clear HSh HLg HJ;go_wp2_with (first|(go_at_call 88;refine hj.mono ?_;clear hj;rintro e wr ⟨rfl,rfl⟩)|(go_at_call 128;refine hsh1.mono ?_;clear hsh1;rintro e w4 ⟨rfl,qU⟩;have hsh2:=P_.out w4 qU.out)|(go_at_call 128;refine hsh2.mono ?_;rintro e w5 ⟨v5,rfl,Ab⟩));go_ret;rw[HE.out];exact⟨_,rfl,Ab⟩
   |false=>
    have hsh1:H K 128 #[U (M ⟨lp,0,O⟩),I V (10+ep),I V (j:Int)] wr fun e w'=> ∃b0,e=G (.iface 290 (U (M ⟨b0,0,O⟩)))/\Hid (oC w w' ps db fv rs 1 (.iface 290 (U (M ⟨b0,0,O⟩))) (10,(bJ s' dU (10+ep) (j:Int)).2)):=hsh.mono (by
     rintro e w' ⟨v,rfl,a,b⟩;rw[hb]at b;have hl:=HLg.out w' _ _ v false 1 a b (Aak _);rcases b with⟨b,-⟩|⟨-,b0,nm,num,rfl,-⟩
     ·cases b
     ·exact⟨b0,rfl,hl⟩)
    have HE:Hid (qM s (plain rs) ep (j:Int) (b:Int)=(10,(bJ s' dU (10+ep) (j:Int)).2)):=by
     show _=_;unfold qM;rw[HC.out];simp only;rw[Aaa (by simp),Aad hb]
    clear hsh hb HC HSh HLg HJ;go_wp2_with (first|(go_at_call 88;refine hj.mono ?_;clear hj;rintro e wr ⟨rfl,rfl⟩)|(go_at_call 128;refine hsh1.mono ?_;rintro e w4 ⟨b4,rfl,qU⟩));go_ret;rw[HE.out];exact⟨_,rfl,qU.out⟩
end Go.Proofs.YtfplgfodoiiobaaGreatDoor
