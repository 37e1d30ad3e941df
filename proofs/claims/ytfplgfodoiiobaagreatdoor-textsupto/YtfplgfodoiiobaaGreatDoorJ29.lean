/- LgC, LgD, LgE (joined). -/
import Derived.Test.YtfplgfodoiiobaaGreatDoorJ28
open Option renaming none→O,some→M
open Go.Value renaming int→I,slice→Z,pointer→U
open Go.IntKind renaming i64→V
open Go.Obj renaming cells→C
open Go.Ending renaming returned→G
open Go renaming World→F,Value→Y,Calls→H
open Go.Proofs.Tryz renaming prog→K
namespace Go.Proofs.YtfplgfodoiiobaaGreatDoor
set_option maxHeartbeats 4000000
set_option maxRecDepth 100000
open Go.RowKit
variable {s s':Sc}{ep n k:Int}{w:F}{ps:Nat->Addr}{lp db N:Nat}{fv:Y}{rs:List FR}{fs fZ:List bE}
theorem VN {d q a b c:Int}{text:ByteArray}(h:aW w db s fv rs)(hL:w.heap[lp]?=M (kQ db ep))(hG:Gl w ps)(hO:uP 998 s (plain rs))(_he0:0<=ep)(_he1:ep<=1000)(Uy: -9223372036854775808<=d)(Ze:d<=9223372036854775807)(hq:0<=q)(rE:q<256)(hd:bN d)(ha:bN a)(hb:bN b)(hc:bN c)(GQ:text.size≠0)(mU:text.size<=1000000)(hE:(bQ s (plain rs) 1 text).1≠0):
 H K 87 #[U (M ⟨lp,0,O⟩),I V d,iD q a b c,.string text] w fun e w'=> ∃v,e=G v/\pG w w' ps db fv rs 2 v (bQ s (plain rs) 1 text):=by
 have HR:Hid (∀W,H K 134 #[I V d,.agg #[I .u8 q,I V a,I V b,I V c]] W fun e w'=> ∃ad cap,e=G (Z (M ad) 22 cap)/\qQ w' (M ad) (dL q d a b c).data.toList/\(∃aS f,w'.heap[ad.block]?=M (C aS 5 f))/\aL W w'):=fun W=>by
  refine(Lu hq rE hd ha hb hc).mono ?_;rintro e w' ⟨v,rfl,bA,hg⟩;obtain⟨ao,cap,rfl,hr,iL,hn,hx⟩:=dI.form bA;have YG:(dL q d a b c).data.toList.length=22:=by have:=pI q d a b c;simpa using this
  cases ao with
  |none=>obtain⟨e,-⟩:=hn rfl;omega
  |some ad=>
   obtain⟨k1,k2,aS,KO,hk⟩:=hx ad rfl;rw[YG];exact⟨_,_,rfl,hr,⟨aS,_,hk⟩,hg⟩
 obtain⟨w1,jJ⟩:∃w1,w1=w.alloc (C #[I .u8 q,I V a,I V b,I V c] 99):=⟨_,rfl⟩;have G1:aL w w1:=by rw[jJ];exact(aL.refl w).alloc _
 have GK:Sy w1 lp w.heap.size db ep q a b c:=⟨(G1.block _ (aM hL)).trans hL,by rw[jJ];exact heap_alloc_new w _⟩;have HI:Hid (H K 132 #[I V d] w1 fun e w'=> ∃s:ByteArray,e=G (.string s)/\s.size<=100/\aL w1 w'):=Zp (hG.aN G1) Uy Ze;have yU:Hid (aL w w1):=G1;have GL:Hid (Sy w1 lp w.heap.size db ep q a b c):=GK
 have hne:text.toList.isEmpty=false:=by
  rw[ByteArray.toList_eq];cases hz:text.data.toList with
  |nil=>exact absurd (show text.size=0 by have:=congrArg List.length hz;simpa using this) GQ
  |cons x l=>rfl
 unfold iD;clear hL GK G1;go_enter Tryz.func87,Tryz.ntmps87
 go_upto_region 1 with fail
 rw[<-jJ];clear jJ
 go_upto_region 3 with(go_at_call 132;refine HI.out.mono ?_;rintro e w2 ⟨sx,rfl,hsx,kJ⟩;have Lj:∀(p:ByteArray) (w:F),p.size<=100->(Op.stringOp .add p sx).run K w= .ok (.string (p++sx)) w:=fun p w hp=>run_string_add_sum w _ _ (by omega);have hadd2:=fun w=>Lj ⟨#[99,104,97,110,103,101,32]⟩ w (by decide);clear Lj)
 have GN:Sy w2 lp w.heap.size db ep q a b c:=GL.out.aN kJ;obtain⟨x0,x1,x2,x3,x4⟩:=GN.cells;obtain⟨cap,w3,hcv,Ki,ht3,yE⟩:=Sw w2 text
 have HA3:Hid (H K 133 #[U (M ⟨db,0,O⟩),I V 1,Z (M ⟨w2.heap.size,0,O⟩) text.size cap] w3 fun e w'=> ∃v,e=G v/\pG w w' ps db fv rs 1 v (bQ s (plain rs) 1 text)/\Gl w' ps/\Sy w' lp w.heap.size db ep q a b c):=by
  refine(Ad (n:=1) (cap:=cap) (((h.aN yU.out).aN kJ).aN yE) (((hG.Ep.aN yU.out).aN kJ).aN yE) hO.dX hO.Ov hO.inv (by have:=hO.len;rw[bW]at this;omega) GQ (by omega) Ki ht3).mono ?_;rintro e w' ⟨v,rfl,fO,eZ,k1,k2,k3,k4⟩;exact⟨v,rfl,⟨fO,eZ,k1,k2,(Dk.dJ (yU.out.then (kJ.then yE))).trans k3,k4.Cs⟩,(((hG.aN yU.out).aN kJ).aN yE).dk (((h.aN yU.out).aN kJ).aN yE) k3,(GN.aN yE).dk (((h.aN yU.out).aN kJ).aN yE) k3⟩
 clear GN Ki ht3 HI GL
 have HT:Hid (∀W v (sx:ByteArray),pG w W ps db fv rs 1 v (bQ s (plain rs) 1 text)->H K 81 #[.string sx,v] W fun e w'=> ∃v',e=G v'/\pG w w' ps db fv rs 2 v' (bQ s (plain rs) 1 text)):=fun W v sx hv=>by
  obtain⟨fO,eZ,k1,k2,k3,k4⟩:=hv;refine(Nv k4).mono ?_;rintro e w' ⟨v',rfl,m1,m2⟩;exact⟨v',rfl,fO,eZ,k1.aN m2,k2,k3.Jo m2,m1⟩
 have HE:Hid ((bQ s (plain rs) 1 text).1≠0):=hE;clear h hG hO hE
 go_upto_region 4 with(go_at_call 133;refine HA3.out.mono ?_;rintro e w4 ⟨v,rfl,hv,-,-⟩)
 obtain⟨t,bb,rfl⟩:∃t b,v= .iface t (U (M b)):=by obtain⟨fO,eZ,k1,k2,k3,k4⟩:=hv;exact k4.yes HE.out
 have RA:=HT.out w4 _ (⟨#[99,104,97,110,103,101,32]⟩++sx) hv;have HV:Hid (pG w w4 ps db fv rs 1 (.iface t (U (M bb))) (bQ s (plain rs) 1 text)):=hv;clear hv HT
 go_wp2_with (go_at_call 81;refine RA.mono ?_;rintro e w5 ⟨v',rfl,hv'⟩)
 go_ret;exact⟨_,rfl,hv'⟩
theorem VO {d q a b c:Int}{text:ByteArray}(h:aW w db s fv rs)(hL:w.heap[lp]?=M (kQ db ep))(hG:Gl w ps)(hO:uP 998 s (plain rs))(Gs:0<=ep)(CU:ep<=1000)(Uy: -9223372036854775808<=d)(Ze:d<=9223372036854775807)(hq:0<=q)(rE:q<256)(hd:bN d)(ha:bN a)(hb:bN b)(hc:bN c)(GQ:text.size≠0)(mU:text.size<=1000000)(hE:(bQ s (plain rs) 1 text).1=0):
 H K 87 #[U (M ⟨lp,0,O⟩),I V d,iD q a b c,.string text] w fun e w'=> ∃v,e=G v/\pG w w' ps db fv rs 2 v (bQ (bQ s (plain rs) 1 text).2.1 (bQ s (plain rs) 1 text).2.2 (10+ep) (dL q d a b c)):=by
 have YH:uP 999 (bQ s (plain rs) 1 text).2.1 (bQ s (plain rs) 1 text).2.2:=hO.add (by omega) GQ;have RG:Hid (∃s2 Zq,s2=(bQ s (plain rs) 1 text).2.1/\Zq=(bQ s (plain rs) 1 text).2.2):=⟨_,_,rfl,rfl⟩;obtain⟨s2,Zq,es2,ef2⟩:=RG.out;rw[<-es2,<-ef2]at YH ⊢;have HES:Hid (s2=(bQ s (plain rs) 1 text).2.1/\Zq=(bQ s (plain rs) 1 text).2.2):=⟨es2,ef2⟩;have HE:Hid ((bQ s (plain rs) 1 text).1=0):=hE;clear es2 ef2 RG hE
 have HR:Hid (∀W,H K 134 #[I V d,.agg #[I .u8 q,I V a,I V b,I V c]] W fun e w'=> ∃ad cap,e=G (Z (M ad) 22 cap)/\qQ w' (M ad) (dL q d a b c).data.toList/\(∃aS f,w'.heap[ad.block]?=M (C aS 5 f))/\aL W w'):=fun W=>by
  refine(Lu hq rE hd ha hb hc).mono ?_;rintro e w' ⟨v,rfl,bA,hg⟩;obtain⟨ao,cap,rfl,hr,iL,hn,hx⟩:=dI.form bA;have YG:(dL q d a b c).data.toList.length=22:=by have:=pI q d a b c;simpa using this
  cases ao with
  |none=>obtain⟨e,-⟩:=hn rfl;omega
  |some ad=>
   obtain⟨k1,k2,aS,KO,hk⟩:=hx ad rfl;rw[YG];exact⟨_,_,rfl,hr,⟨aS,_,hk⟩,hg⟩
 obtain⟨w1,jJ⟩:∃w1,w1=w.alloc (C #[I .u8 q,I V a,I V b,I V c] 99):=⟨_,rfl⟩;have G1:aL w w1:=by rw[jJ];exact(aL.refl w).alloc _
 have GK:Sy w1 lp w.heap.size db ep q a b c:=⟨(G1.block _ (aM hL)).trans hL,by rw[jJ];exact heap_alloc_new w _⟩;have HI:Hid (H K 132 #[I V d] w1 fun e w'=> ∃s:ByteArray,e=G (.string s)/\s.size<=100/\aL w1 w'):=Zp (hG.aN G1) Uy Ze;have yU:Hid (aL w w1):=G1;have GL:Hid (Sy w1 lp w.heap.size db ep q a b c):=GK
 have hne:text.toList.isEmpty=false:=by
  rw[ByteArray.toList_eq];cases hz:text.data.toList with
  |nil=>exact absurd (show text.size=0 by have:=congrArg List.length hz;simpa using this) GQ
  |cons x l=>rfl
 unfold iD;clear hL GK G1;go_enter Tryz.func87,Tryz.ntmps87
 go_upto_region 1 with fail
 rw[<-jJ];clear jJ
 go_upto_region 3 with(go_at_call 132;refine HI.out.mono ?_;rintro e w2 ⟨sx,rfl,hsx,kJ⟩;have Lj:∀(p:ByteArray) (w:F),p.size<=100->(Op.stringOp .add p sx).run K w= .ok (.string (p++sx)) w:=fun p w hp=>run_string_add_sum w _ _ (by omega);have hadd2:=fun w=>Lj ⟨#[99,104,97,110,103,101,32]⟩ w (by decide);clear Lj)
 have GN:Sy w2 lp w.heap.size db ep q a b c:=GL.out.aN kJ;obtain⟨x0,x1,x2,x3,x4⟩:=GN.cells;obtain⟨cap,w3,hcv,Ki,ht3,yE⟩:=Sw w2 text
 have HA3:Hid (H K 133 #[U (M ⟨db,0,O⟩),I V 1,Z (M ⟨w2.heap.size,0,O⟩) text.size cap] w3 fun e w'=> ∃v,e=G v/\pG w w' ps db fv rs 1 v (bQ s (plain rs) 1 text)/\Gl w' ps/\Sy w' lp w.heap.size db ep q a b c):=by
  refine(Ad (n:=1) (cap:=cap) (((h.aN yU.out).aN kJ).aN yE) (((hG.Ep.aN yU.out).aN kJ).aN yE) hO.dX hO.Ov hO.inv (by have:=hO.len;rw[bW]at this;omega) GQ (by omega) Ki ht3).mono ?_;rintro e w' ⟨v,rfl,fO,eZ,k1,k2,k3,k4⟩;exact⟨v,rfl,⟨fO,eZ,k1,k2,(Dk.dJ (yU.out.then (kJ.then yE))).trans k3,k4.Cs⟩,(((hG.aN yU.out).aN kJ).aN yE).dk (((h.aN yU.out).aN kJ).aN yE) k3,(GN.aN yE).dk (((h.aN yU.out).aN kJ).aN yE) k3⟩
 clear GN Ki ht3 HI GL;clear h hG hO
 go_upto_region 4 with(go_at_call 133;refine HA3.out.mono ?_;rintro e w4 ⟨v,rfl,hv,KQ,GN⟩)
 clear kJ yE hcv;obtain⟨fv2,rs2,pR,hp2,UU,hv2⟩:=hv;rw[HE.out]at hv2;obtain rfl:=hv2.no;rw[<-HES.out.1]at pR;rw[<-HES.out.2]at hp2;subst hp2;have HWB:Hid (Sy w4 lp w.heap.size db ep q a b c):=GN;have HJ:Hid (∀W,aL w4 W->H K 88 #[U (M ⟨lp,0,O⟩)] W fun e w'=>e=G (I V (10+ep))/\w'=W):=fun W hW=>rR (GN.aN hW).1 Gs (by omega)
 have HA:Hid (∀W ad cap,aL w4 W->qQ W (M ad) (dL q d a b c).data.toList->(∃aS f,W.heap[ad.block]?=M (C aS 5 f))->H K 133 #[U (M ⟨db,0,O⟩),I V (10+ep),Z (M ad) 22 cap] W fun e w'=> ∃v,e=G v/\pG w w' ps db fv rs 1 v (bQ s2 (plain rs2) (10+ep) (dL q d a b c))):=fun W ad cap hW hr ht=>by
  have YG:=pI q d a b c;have:=Ad (n:=10+ep) (cap:=cap) (pR.aN hW) (KQ.Ep.aN hW) YH.dX YH.Ov YH.inv (by have:=YH.len;rw[bW]at this;omega) (by omega) (by omega) hr ht;rw[YG]at this;refine this.mono ?_;rintro e w' ⟨v,rfl,fO,eZ,k1,k2,k3,k4⟩;exact⟨v,rfl,fO,eZ,k1,k2,UU.trans ((Dk.dJ hW).trans k3),k4.Cs⟩
 have HT:Hid (∀W v (sx:ByteArray),pG w W ps db fv rs 1 v (bQ s2 (plain rs2) (10+ep) (dL q d a b c))->H K 81 #[.string sx,v] W fun e w'=> ∃v',e=G v'/\pG w w' ps db fv rs 2 v' (bQ s2 (plain rs2) (10+ep) (dL q d a b c))):=fun W v sx hv=>by
  obtain⟨fO,eZ,k1,k2,k3,k4⟩:=hv;refine(Nv k4).mono ?_;rintro e w' ⟨v',rfl,m1,m2⟩;exact⟨v',rfl,fO,eZ,k1.aN m2,k2,k3.Jo m2,m1⟩
 obtain⟨y0,y1,y2,y3,y4⟩:=GN.cells;clear GN pR KQ YH yU HA3 x0 x1 x2 x3 x4 UU
 go_upto_region 6 with fail
 go_region_law (first
  |(refine eD (by rfl) 88 _ _ (by rfl) _ (by simp[Act.eval,Act.put];done) Xt ((HJ.out _ (by repeat (first|exact aL.refl _|exact hgR|refine aL.drew ?_))).mono ?_);rintro v w' ⟨rfl,rfl⟩;refine⟨_,rfl,?_⟩)|(refine eD (by rfl) 134 _ _ (by rfl) _ (by simp[Act.eval];done) GJ ((HR.out _).mono ?_);rintro v wR ⟨ad,cap,rfl,hrR,htR,hgR'⟩;have hgR:aL w4 wR:=aL.then (by repeat (first|exact aL.refl _|refine aL.drew ?_)) hgR';obtain⟨z0,z1,z2,z3,z4⟩:=(Sy.aN HWB.out hgR).cells;refine⟨_,rfl,?_⟩)|(refine eD (by rfl) 133 _ _ (by rfl) _ (by simp[Act.eval];done) Xu ((HA.out _ ad cap hgR hrR htR).mono ?_);rintro v wA ⟨vA,rfl,hvA⟩;refine⟨_,rfl,?_⟩)|(refine eD (by rfl) 81 _ _ (by rfl) _ (by simp[Act.eval];done) e_at ((HT.out wA vA (⟨#[99,104,97,110,103,101,32]⟩++sx) hvA).mono ?_);rintro v wT ⟨vT,rfl,hvT⟩;refine⟨_,rfl,?_⟩))
 all_goals go_wp2_with fail
 all_goals go_ret
 all_goals exact⟨_,rfl,hvT⟩
theorem VP (ha:0<=s.after):0<=(dH s fs n).2.1.after:=by
 unfold dH;split
 ·exact ha
 ·simp only;split
  ·exact zA ha
  ·exact zA ha
theorem cut_aft (ha:0<=s.after):0<=(bP s fs n k).2.1.after:=by
 unfold bP;split
 ·exact ha
 ·simp only;split
  ·exact zA ha
  ·exact zA ha
theorem uP.flush (h:uP N s fs)(n:Int):uP N (dH s fs n).2.1 (dH s fs n).2.2:=by
 have ha:=VP (fs:=fs) (n:=n) h.Ov;have hl:=h.len;rcases Li h.dX h.inv n with⟨s',fZ,e,hd,hI,hle,-⟩|⟨s',fZ,e,hd⟩
 ·rw[e]at ha ⊢;exact⟨hd.2.2.2,ha,hI.room hd.1.2.2.1,by simp only;omega⟩
 ·rw[e]at ha ⊢;exact⟨hd.2.2.1,ha,hd.2.2.2.1.room hd.1.2.2.1,by have:=hd.2.2.2.2;simp only;omega⟩
theorem Nw (f:bE):∀l:List bE,xM l->(∃g∈l,g.1=f.1)->(mQ l f).length=l.length
 | [],_,h=>by obtain⟨g,hg,-⟩:=h;simp at hg
 |g::r,hs,h=>by
  unfold xM at hs;rw[List.pairwise_cons]at hs;obtain⟨x,hx,ex⟩:=h;unfold mQ;split
  ·rename_i bT;rcases List.mem_cons.1 hx with rfl|hx
   ·omega
   ·have:=hs.1.1 x hx;omega
  ·split
   ·simp
   ·rename_i h1 h2;rcases List.mem_cons.1 hx with rfl|hx
    ·exact absurd ex h2
    ·have:=Nw f r ⟨hs.1.2,fun y hy=>hs.2 y (List.mem_cons_of_mem _ hy)⟩ ⟨x,hx,ex⟩;simp[this]
theorem cut_len {room:Int}(h:gN room fs)(n:Int)(hk:0<=k)(UU:k<((aP fs n).size:Int)):(Rq fs n k).length<=fs.length:=by
 unfold Rq;split
 ·exact List.length_filter_le _ _
 ·refine Nat.le_of_eq (Nw _ fs h.sort ?_);cases hf:iB fs n with
  |none=>
   have hb:aP fs n=⟨#[]⟩:=by
    have hp:=Im fs n;rw[hf]at hp;unfold aP;cases hq:qH fs n with
    |none=>rfl
    |some i=>
     rw[hq]at hp;simp only[Option.bind_some]at hp;simp[hp]
   rw[hb]at UU;have:((⟨#[]⟩:ByteArray).size:Int)=0:=rfl;omega
  |some f=>
   unfold iB at hf;exact⟨f,List.mem_of_find?_eq_some hf,by simpa using List.find?_some hf⟩
theorem uP.cut (h:uP N s fs)(n:Int)(hk:0<=k):uP N (bP s fs n k).2.1 (bP s fs n k).2.2:=by
 have ha:=cut_aft (fs:=fs) (n:=n) (k:=k) h.Ov;have hl:=h.len;rcases QM h.dX h.inv n hk with⟨-,e⟩|⟨UU,s',e,hd,hI⟩|⟨-,s',fZ,e,hd⟩
 ·rw[e]at ha ⊢;exact⟨h.dX,ha,h.inv,hl⟩
 ·rw[e]at ha ⊢;exact⟨hd.2.2.2,ha,hI.room hd.1.2.2.1,by have:=cut_len h.inv n hk UU;simp only;omega⟩
 ·rw[e]at ha ⊢;exact⟨hd.2.2.1,ha,hd.2.2.2.1.room hd.1.2.2.1,by have:=hd.2.2.2.2;simp only;omega⟩
def sO (s:Sc)(fs:List bE)(ep:Int):Nat->Bool×Sc×List bE
 |0=>(true,s,fs)
 |k+1=>dH (sO s fs ep k).2.1 (sO s fs ep k).2.2 (if k=0 then 1 else 10+ep)
def rC (s:Sc)(fs:List bE)(ep:Int):Int×Sc×List bE:=
 if (sO s fs ep 1).1=false then (10,(sO s fs ep 1).2)else (if (sO s fs ep 2).1 then 0 else 10,(sO s fs ep 2).2)
theorem sw (h:uP N s fs):∀k,uP N (sO s fs ep k).2.1 (sO s fs ep k).2.2
 |0=>h
 |k+1=>(sw h k).flush _
def SyB (w wr:F)(ps:Nat->Addr)(lp rb db:Nat)(ep:Int)(fv:Y)(rs:List FR)(s':Sc)(fZ:List bE):Prop:=
 wr.heap[lp]?=M (kQ db ep)/\wr.heap[rb]?=M (C #[I V 1,I V (10+ep)] 3 (0,0))/\Gl wr ps/\∃fO eZ,aW wr db s' fO eZ/\plain eZ=fZ/\Dk w wr (DX db fv rs) (DX db fO eZ)
theorem sync_pg (h:aW w db s fv rs)(hL:w.heap[lp]?=M (kQ db ep))(hG:Gl w ps)(hO:uP 1000 s (plain rs))(Gs:0<=ep)(CU:ep<=1000):
 H K 55 #[U (M ⟨lp,0,O⟩)] w fun e w'=> ∃v,e=G v/\pG w w' ps db fv rs 2 v (rC s (plain rs) ep):=by
 have hJ:=rR hL Gs (by omega)
 have HS:Hid (SyB w (w.alloc (C #[I V 1,I V (10+ep)] 3)) ps lp w.heap.size db ep fv rs s (plain rs)):=by
  have g:=(aL.refl w).alloc (C #[I V 1,I V (10+ep)] 3);exact⟨(g.block _ (aM hL)).trans hL,heap_alloc_new w _,hG.aN g,fv,rs,h.aN g,rfl,Dk.dJ g⟩
 have HF:Hid (∀wr s' fZ n,SyB w wr ps lp w.heap.size db ep fv rs s' fZ->uP 1000 s' fZ->H K 89 #[U (M ⟨db,0,O⟩),I V n] wr fun e w'=> ∃v,e=G v/\SyB w w' ps lp w.heap.size db ep fv rs (dH s' fZ n).2.1 (dH s' fZ n).2.2/\FM w' ps v (dH s' fZ n).1):=fun wr s' fZ n hs kI=>by
  obtain⟨a1,a2,a3,fO,eZ,a4,rfl,a6⟩:=hs;refine(mo a4 a3.Ep kI.dX kI.Ov kI.inv (by have:=kI.len;rw[bW]at this;omega)).mono ?_;rintro e w' ⟨v,rfl,fv2,rs2,b1,b2,b3,b4⟩;exact⟨v,rfl,⟨b3.1.at a1 (a4.other a1 (by decide) (by decide) (by decide) (by decide)),b3.1.at a2 (a4.other a2 (by decide) (by decide) (by decide) (by decide)),a3.dk a4 b3,fv2,rs2,b1,b2,a6.trans b3⟩,b4⟩
 have HO:=sw (ep:=ep) hO;clear h hG hO;go_enter Tryz.func55,Tryz.ntmps55
 go_wp2_with (go_at_call 88;refine hJ.mono ?_;rintro e w ⟨rfl,rfl⟩)
 go_loopw [4,5,10] (fun _ _ i wr=> ∃k:Nat,k<=2/\i=I V (k:Int)/\Hid (∀j,j<=k->(sO s (plain rs) ep j).1=true)/\Hid (SyB w wr ps lp w.heap.size db ep fv rs (sO s (plain rs) ep k).2.1 (sO s (plain rs) ep k).2.2)) (fun _ _ i _=>2-(intOf i).toNat)
 case atStart=>exact⟨0,Nat.zero_le _,rfl,(fun j hj=>by have e:j=0:=(by omega);subst e;rfl),HS⟩
 case round=>
  obtain⟨k,hk,rfl,HT,HW⟩:=hrel;by_cases bT:k<2
  ·have VL:(k:Int)<2:=by omega
   have h0:(0:Int)<=(k:Int):=by omega
   obtain⟨c0,-⟩:=iT HW.out.1
   have hcell:wr.cell? ⟨w.heap.size,k,O⟩=M (I V (if k=0 then 1 else 10+ep)):=by
    have:=HW.out.2.1;have e:k=0\/k=1:=by omega
    rcases e with rfl|rfl<;>simp[World.cell?,this]
   have fT:=HF.out wr _ _ (if k=0 then 1 else 10+ep) HW.out (HO k);have HN:Hid (sO s (plain rs) ep (k+1)=dH (sO s (plain rs) ep k).2.1 (sO s (plain rs) ep k).2.2 (if k=0 then 1 else 10+ep)):=rfl;rw[<-HN.out]at fT;generalize (if k=0 then (1:Int)else 10+ep)=nn at hcell fT;cases hb:(sO s (plain rs) ep (k+1)).1 with
   |true=>
    have HT1:Hid (∀j,j<=k+1->(sO s (plain rs) ep j).1=true):=fun j hj=>by
     by_cases e:j=k+1
     ·rw[e];exact hb
     ·exact HT.out j (by omega)
    have NN:H K 89 #[U (M ⟨db,0,O⟩),I V nn] wr fun e w'=>e=G .nilIface/\Hid (SyB w w' ps lp w.heap.size db ep fv rs (sO s (plain rs) ep (k+1)).2.1 (sO s (plain rs) ep (k+1)).2.2):=fT.mono (by
     rintro e w' ⟨v,rfl,a,b⟩;rw[hb]at b;rcases b with⟨-,rfl⟩|⟨b,-⟩
     ·exact⟨rfl,a⟩
     ·cases b)
    clear fT hb HF HO HS hJ hL
    go_wp2_with (go_at_call 89;refine NN.mono ?_;rintro e w4 ⟨rfl,Am⟩)
    go_roundw
    case rel=>exact⟨k+1,by omega,by go_num,HT1,Am⟩
    case measure=>simp[intOf];omega
   |false=>
    have HR:Hid (rC s (plain rs) ep=(10,(sO s (plain rs) ep (k+1)).2)):=by
     show _=_;unfold rC;have e:k=0\/k=1:=by omega
     rcases e with rfl|rfl
     ·rw[if_pos hb]
     ·have h1:=HT.out 1 (by omega);rw[if_neg (by rw[h1];simp),hb];rfl
    have NN:H K 89 #[U (M ⟨db,0,O⟩),I V nn] wr fun e w'=> ∃b,e=G (.iface 290 (U (M ⟨b,0,O⟩)))/\Hid (pG w w' ps db fv rs 1 (.iface 290 (U (M ⟨b,0,O⟩))) (10,(sO s (plain rs) ep (k+1)).2)):=fT.mono (by
     rintro e w' ⟨v,rfl,a,b⟩;rw[hb]at b;have hl:=b.Cs;rcases b with⟨b,-⟩|⟨-,b0,nm,num,rfl,-⟩
     ·cases b
     ·obtain⟨-,-,-,fO,eZ,a4,a5,a6⟩:=a;exact⟨b0,rfl,fO,eZ,a4,a5,a6,hl⟩)
    have HA:Hid (∀W b,pG w W ps db fv rs 1 (.iface 290 (U (M ⟨b,0,O⟩))) (10,(sO s (plain rs) ep (k+1)).2)->H K 81 #[.string ⟨#[115,121,110,99]⟩,.iface 290 (U (M ⟨b,0,O⟩))] W fun e w'=> ∃v',e=G v'/\pG w w' ps db fv rs 2 v' (10,(sO s (plain rs) ep (k+1)).2)):=fun W b hv=>by
     obtain⟨fO,eZ,k1,k2,k3,k4⟩:=hv;refine(Nv k4).mono ?_;rintro e w' ⟨v',rfl,m1,m2⟩;exact⟨v',rfl,fO,eZ,k1.aN m2,k2,k3.Jo m2,m1⟩
    clear fT hb HF HO HS hJ hL
    go_wp2_with (first|(go_at_call 89;refine NN.mono ?_;rintro e w4 ⟨b4,rfl,Am⟩)|(go_at_call 81;refine(HA.out _ _ Am.out).mono ?_;rintro e w5 ⟨v5,rfl,hv5⟩))
    go_ret;rw[HR.out];exact⟨_,rfl,hv5⟩
  ·have e2:k=2:=by omega
   subst e2
   have HR:Hid (rC s (plain rs) ep=(0,(sO s (plain rs) ep 2).2)):=by
    show _=_;unfold rC;have h1:=HT.out 1 (by omega);have h2:=HT.out 2 (by omega);rw[if_neg (by rw[h1];simp),h2];rfl
   have HV:Hid (pG w wr ps db fv rs 2 .nilIface (0,(sO s (plain rs) ep 2).2)):=by
    obtain⟨-,-,-,fO,eZ,a4,a5,a6⟩:=HW.out;exact⟨fO,eZ,a4,a5,a6,Or.inl ⟨rfl,rfl⟩⟩
   clear HF HO HS hJ hL HW
   go_wp2_with fail
   go_ret;rw[HR.out];exact⟨_,rfl,HV.out⟩
def yA (w wr:F)(ps:Nat->Addr)(lp db:Nat)(ep:Int)(fv:Y)(rs:List FR)(s':Sc)(fZ:List bE):Prop:=
 wr.heap[lp]?=M (kQ db ep)/\Gl wr ps/\∃fO eZ,aW wr db s' fO eZ/\plain eZ=fZ/\Dk w wr (DX db fv rs) (DX db fO eZ)
theorem yA.aN {wr w':F}(h:yA w wr ps lp db ep fv rs s' fZ)(hg:aL wr w'):yA w w' ps lp db ep fv rs s' fZ:=by
 obtain⟨a,b,fO,eZ,c,d,e⟩:=h;exact⟨(hg.block _ (aM a)).trans a,b.aN hg,fO,eZ,c.aN hg,d,e.Jo hg⟩
theorem yA.start (h:aW w db s fv rs)(hL:w.heap[lp]?=M (kQ db ep))(hG:Gl w ps):yA w w ps lp db ep fv rs s (plain rs):=
 ⟨hL,hG,fv,rs,h,rfl,Dk.refl _ _⟩
def RP (wr w':F):Prop:=∀(b:Nat) (aS:Array Y) (t:TypeId) (f:Nat×Nat),wr.heap[b]?=M (C aS t f)->t≠137->t≠155->t≠157->t≠5->w'.heap[b]?=M (C aS t f)
theorem yA.res {wr:F}(h:yA w wr ps lp db ep fv rs s' fZ):∃fO eZ,aW wr db s' fO eZ/\plain eZ=fZ/\∀(w':F) (v:Y) (r:Bool×Sc×List bE),Jd wr w' ps db fO eZ v r->yA w w' ps lp db ep fv rs r.2.1 r.2.2/\FM w' ps v r.1/\RP wr w':=by
 obtain⟨a,b,fO,eZ,c,d,e⟩:=h;refine⟨fO,eZ,c,d,?_⟩;rintro w' v r ⟨fv2,rs2,c2,d2,e2,f2⟩;exact⟨⟨e2.1.at a (c.other a (by decide) (by decide) (by decide) (by decide)),b.dk c e2,fv2,rs2,c2,d2,e.trans e2⟩,f2,fun bb aS t f hb h1 h2 h3 h4=>e2.1.at hb (c.other hb h1 h2 h3 h4)⟩
theorem NP {k:Nat}(h:aW w db s fv rs)(hL:w.heap[lp]?=M (kQ db ep))(hG:Gl w ps)(hO:uP 1000 s (plain rs)):
 H K 128 #[U (M ⟨lp,0,O⟩),I V n,I V (k:Int)] w fun e w'=> ∃v,e=G v/\Jd w w' ps db fv rs v (bP s (plain rs) n (k:Int)):=by
 have hl:rs.length<=1000:=by have:=hO.len;rw[bW]at this;exact this
 have hlen:=Du (n:=n) h hO.inv.sort.1 (by omega);obtain⟨c0,-⟩:=iT hL;by_cases h1:(aP (plain rs) n).size<=k
 ·have HE:Hid (Jd w w ps db fv rs .nilIface (bP s (plain rs) n (k:Int))):=by
   have e:bP s (plain rs) n (k:Int)=(true,s,plain rs):=by unfold bP;rw[if_pos (by omega)]
   rw[e];exact⟨fv,rs,h,rfl,Dk.refl _ _,Or.inl ⟨rfl,rfl⟩⟩
  have Kt:((aP (plain rs) n).size:Int)<=(k:Int):=by omega
  clear h hL hG hO;go_enter Tryz.func128,Tryz.ntmps128
  go_wp2_with (go_at_call 124;refine hlen.mono ?_;rintro e w ⟨rfl,rfl⟩)
  go_ret;exact⟨_,rfl,HE.out⟩
 ·have Kt:¬((aP (plain rs) n).size:Int)<=(k:Int):=by omega
  by_cases h2:k=0
  ·have hR:Hid (H K 127 #[U (M ⟨db,0,O⟩),I V n] w fun e w'=> ∃v,e=G v/\Jd w w' ps db fv rs v (bP s (plain rs) n (k:Int))):=by
    rw[h2];exact Xl h hG.Ep hO.dX hO.Ov hO.inv hl
   have h2':((k:Int)==0)=true:=by rw[beq_iff_eq];omega
   clear h hL hG hO;generalize (aP (plain rs) n).size=z at*;go_enter Tryz.func128,Tryz.ntmps128
   go_wp2_with (first|(go_at_call 124;refine hlen.mono ?_;rintro e w ⟨rfl,rfl⟩)|(go_at_call 127;refine hR.out.mono ?_;rintro e w5 ⟨v,rfl,hv⟩))
   go_ret;exact⟨_,rfl,hv⟩
  ·have hR:Hid (H K 194 #[U (M ⟨db,0,O⟩),I V n,I V (k:Int)] w fun e w'=> ∃v,e=G v/\Jd w w' ps db fv rs v (bP s (plain rs) n (k:Int))):=cut_pg h hG.Ep hO.dX hO.Ov hO.inv hl (by omega) (by omega);have h2':((k:Int)==0)=false:=by rw[beq_eq_false_iff_ne];omega
   clear h hL hG hO;generalize (aP (plain rs) n).size=z at*;go_enter Tryz.func128,Tryz.ntmps128
   go_wp2_with (first|(go_at_call 124;refine hlen.mono ?_;rintro e w ⟨rfl,rfl⟩)|(go_at_call 194;refine hR.out.mono ?_;rintro e w5 ⟨v,rfl,hv⟩))
   go_ret;exact⟨_,rfl,hv⟩
def rT (fs:List bE)(ep:Int):List Int:=(fs.map (fun f=>f.1)).filter (fun n=>n !=1 && n !=2 && n !=10+ep)
def pW (s:Sc)(fs:List bE)(ep j b:Int):Int×Sc×List bE:=
 if (gB s fs (rT fs ep)).1=false then (10,(gB s fs (rT fs ep)).2)else
 if (bP (gB s fs (rT fs ep)).2.1 (gB s fs (rT fs ep)).2.2 (10+ep) j).1=false then (10,(bP (gB s fs (rT fs ep)).2.1 (gB s fs (rT fs ep)).2.2 (10+ep) j).2)else
 (if (bP (bP (gB s fs (rT fs ep)).2.1 (gB s fs (rT fs ep)).2.2 (10+ep) j).2.1 (bP (gB s fs (rT fs ep)).2.1 (gB s fs (rT fs ep)).2.2 (10+ep) j).2.2 1 b).1 then 0 else 10,(bP (bP (gB s fs (rT fs ep)).2.1 (gB s fs (rT fs ep)).2.2 (10+ep) j).2.1 (bP (gB s fs (rT fs ep)).2.1 (gB s fs (rT fs ep)).2.2 (10+ep) j).2.2 1 b).2)
def Er (s:Sc)(fs:List bE)(ep:Int)(ns:List Int)(k:Nat)(s':Sc)(fZ:List bE):Prop:=gB s fs (ns.filter (fun n=>n !=1 && n !=2 && n !=10+ep))=gB s' fZ ((ns.drop k).filter (fun n=>n !=1 && n !=2 && n !=10+ep))
theorem Er.skip {ns:List Int}{k:Nat}(h:Er s fs ep ns k s' fZ)(hk:ns[k]?=M n)(hn:n=1\/n=2\/n=10+ep):Er s fs ep ns (k+1) s' fZ:=by
 obtain⟨bT,he⟩:=List.getElem?_eq_some_iff.1 hk;unfold Er at h ⊢;rw[h,List.drop_eq_getElem_cons bT,he,List.filter_cons_of_neg];rcases hn with rfl|rfl|rfl<;>simp
theorem Er.step {ns:List Int}{k:Nat}(h:Er s fs ep ns k s' fZ)(hk:ns[k]?=M n)(h1:n≠1)(h2:n≠2)(h3:n≠10+ep):((bP s' fZ n 0).1=true->Er s fs ep ns (k+1) (bP s' fZ n 0).2.1 (bP s' fZ n 0).2.2)/\((bP s' fZ n 0).1=false->gB s fs (ns.filter (fun n=>n !=1 && n !=2 && n !=10+ep))=bP s' fZ n 0):=by
 obtain⟨bT,he⟩:=List.getElem?_eq_some_iff.1 hk;unfold Er at h ⊢;rw[h,List.drop_eq_getElem_cons bT,he,List.filter_cons_of_pos (by simp[h1,h2,h3])];refine⟨fun e=>?_,fun e=>?_⟩
 ·conv=>lhs;unfold gB
  simp only;rw[if_pos e]
 ·conv=>lhs;unfold gB
  simp only;rw[if_neg (by rw[e];simp)]
theorem tidy_pg {j b:Nat}(h:aW w db s fv rs)(hL:w.heap[lp]?=M (kQ db ep))(hG:Gl w ps)(hO:uP 1000 s (plain rs))(Gs:0<=ep)(CU:ep<=1000):
 H K 83 #[U (M ⟨lp,0,O⟩),I V (j:Int),I V (b:Int)] w fun e w'=> ∃v,e=G v/\pG w w' ps db fv rs 1 v (pW s (plain rs) ep (j:Int) (b:Int)):=by
 have hl:rs.length<=1000:=by have:=hO.len;rw[bW]at this;exact this
 have hN:=MZ h (by omega);obtain⟨c0,-⟩:=iT hL;have HS:Hid (yA w w ps lp db ep fv rs s (plain rs)):=yA.start h hL hG;have HJ:Hid (∀W s' fZ,yA w W ps lp db ep fv rs s' fZ->H K 88 #[U (M ⟨lp,0,O⟩)] W fun e w'=>e=G (I V (10+ep))/\w'=W):=fun W s' fZ hW=>rR hW.1 Gs (by omega)
 have HRm:Hid (∀W s' fZ n,yA w W ps lp db ep fv rs s' fZ->uP 1000 s' fZ->H K 127 #[U (M ⟨db,0,O⟩),I V n] W fun e w'=> ∃v,e=G v/\yA w w' ps lp db ep fv rs (bP s' fZ n 0).2.1 (bP s' fZ n 0).2.2/\FM w' ps v (bP s' fZ n 0).1/\RP W w'):=fun W s' fZ n hW kI=>by
  have Zr:=hW.2.1;obtain⟨fO,eZ,k1,rfl,k3⟩:=hW.res;refine(Xl k1 Zr.Ep kI.dX kI.Ov kI.inv (by have:=kI.len;rw[bW]at this;exact this)).mono ?_;rintro e w' ⟨v,rfl,hr⟩;exact⟨v,rfl,k3 w' v _ hr⟩
 have HSh:Hid (∀W s' fZ n (k:Nat),yA w W ps lp db ep fv rs s' fZ->uP 1000 s' fZ->H K 128 #[U (M ⟨lp,0,O⟩),I V n,I V (k:Int)] W fun e w'=> ∃v,e=G v/\yA w w' ps lp db ep fv rs (bP s' fZ n (k:Int)).2.1 (bP s' fZ n (k:Int)).2.2/\FM w' ps v (bP s' fZ n (k:Int)).1):=fun W s' fZ n k hW kI=>by
  have Zr:=hW.2.1;have hLW:=hW.1;obtain⟨fO,eZ,k1,rfl,k3⟩:=hW.res;refine(NP k1 hLW Zr kI).mono ?_;rintro e w' ⟨v,rfl,hr⟩;exact⟨v,rfl,(k3 w' v _ hr).1,(k3 w' v _ hr).2.1⟩
 have HLg:Hid (∀W s' fZ v (ok:Bool) D,yA w W ps lp db ep fv rs s' fZ->FM W ps v ok->1<=D->pG w W ps db fv rs D v (if ok then 0 else 10,s',fZ)):=fun W s' fZ v ok D hW hv hD=>by
  obtain⟨-,-,fO,eZ,a,b,c⟩:=hW;refine⟨fO,eZ,a,b,c,?_⟩;rcases hv.Cs with h|⟨d,k,h1,h2⟩
  ·exact Or.inl h
  ·exact Or.inr ⟨d,k,by omega,h2⟩
 generalize hns:(plain rs).map (fun f=>f.1)=ns at hN;have HNS:Hid ((plain rs).map (fun f=>f.1)=ns):=hns;have hnl:ns.length<=1000:=by rw[<-hns,List.length_map,bW];exact hl
 have YE:Hid (uP 1000 s (plain rs)):=hO;clear h hL hG hO hns;go_enter Tryz.func83,Tryz.ntmps83
 go_upto_region 2 with(go_at_call 126;refine hN.mono ?_;rintro e w1 ⟨v1,rfl,bA,iH⟩;obtain⟨nao,ncap,rfl,hnr,-,hnn,-⟩:=iP.form bA)
 have HRow:Hid (∀k n,ns[k]?=M n->∃g off aS,nao=M ⟨g,off,O⟩/\w1.heap[g]?=M (C aS 3 (0,0))/\aS[off+k]?=M (I V n)):=fun k n hk=>by
  obtain⟨bT,he⟩:=List.getElem?_eq_some_iff.1 hk;rcases bA.2 with⟨e,e2⟩|⟨g,cap,aS,e,-,hh,h4,-,h6,h7⟩
  ·omega
  ·cases e
   refine⟨g,0,aS,rfl,hh,?_⟩;have h8:(ns.map (Value.int V))[k]?=M (I V n):=by rw[List.getElem?_map,hk];rfl
   rw[<-h7,List.getElem?_take]at h8;rw[Nat.zero_add];split at h8
   ·simpa using h8
   ·cases h8
 have HS1:Hid (yA w w1 ps lp db ep fv rs s (plain rs)):=HS.out.aN iH;clear hN hnr bA iH HS c0 hnn
 go_loopw [8,9,17,22] (fun _ _ i _ wr=> ∃(k:Nat) (s':Sc) (fZ:List bE),k<=ns.length/\i=I V (k:Int)/\Hid (Er s (plain rs) ep ns k s' fZ)/\Hid (yA w wr ps lp db ep fv rs s' fZ)/\Hid (uP 1000 s' fZ)/\Hid (∀(g:Nat) (aS:Array Y),w1.heap[g]?=M (Obj.cells aS 3 (0,0))->wr.heap[g]?=M (Obj.cells aS 3 (0,0)))) (fun _ _ i _ _=>ns.length-(intOf i).toNat)
 case atStart=>exact⟨0,s,plain rs,Nat.zero_le _,rfl,(by show Er _ _ _ _ _ _ _;unfold Er;rw[List.drop_zero]),HS1,YE,fun _ _ h=>h⟩
 case round=>
  obtain⟨k,s',fZ,hk,rfl,HT,HW,HK,HR⟩:=hrel;by_cases bT:k<ns.length
  ·obtain⟨n,hn⟩:∃n,ns[k]?=M n:=⟨_,List.getElem?_eq_getElem bT⟩;obtain⟨g,off,aS,rfl,hg,VQ⟩:=HRow.out k n hn;have hcell:wr.cell? ⟨g,off+k,O⟩=M (I V n):=by simp[World.cell?,HR.out g aS hg,VQ]
   have i1:(0:Int)<=(k:Int):=by omega
   have i2:(k:Int)<(ns.length:Int):=by omega
   obtain⟨c0,-⟩:=iT HW.out.1;have hj:=HJ.out wr s' fZ HW.out;by_cases e1:n=1
   ·have HT1:Hid (Er s (plain rs) ep ns (k+1) s' fZ):=HT.out.skip hn (Or.inl e1);subst e1;clear hn hg VQ
    go_wp2_with fail
    go_roundw
    case rel=>exact⟨k+1,s',fZ,by omega,by go_num,HT1,HW,HK,HR⟩
    case measure=>simp[intOf];omega
   ·by_cases e2:n=2
    ·have HT1:Hid (Er s (plain rs) ep ns (k+1) s' fZ):=HT.out.skip hn (Or.inr (Or.inl e2));subst e2;clear hn hg VQ
     go_wp2_with fail
     go_roundw
     case rel=>exact⟨k+1,s',fZ,by omega,by go_num,HT1,HW,HK,HR⟩
     case measure=>simp[intOf];omega
    ·have Au:(n==1)=false:=beq_eq_false_iff_ne.2 e1;have La:(n==2)=false:=beq_eq_false_iff_ne.2 e2;by_cases e3:n=10+ep
     ·have HT1:Hid (Er s (plain rs) ep ns (k+1) s' fZ):=HT.out.skip hn (Or.inr (Or.inr e3));have e3':(n==10+ep)=true:=beq_iff_eq.2 e3;clear hn hg VQ e3
      go_wp2_with (go_at_call 88;refine hj.mono ?_;rintro e wr ⟨rfl,rfl⟩)
      go_roundw
      case rel=>exact⟨k+1,s',fZ,by omega,by go_num,HT1,HW,HK,HR⟩
      case measure=>simp[intOf];omega
     ·have e3':(n==10+ep)=false:=beq_eq_false_iff_ne.2 e3;obtain⟨t1,t2⟩:=HT.out.step hn e1 e2 e3;have hrm:=HRm.out wr s' fZ n HW.out HK.out;have HK2:Hid (uP 1000 (bP s' fZ n 0).2.1 (bP s' fZ n 0).2.2):=HK.out.cut n (Int.le_refl 0);cases hb:(bP s' fZ n 0).1 with
      |true=>
       have HT1:Hid (Er s (plain rs) ep ns (k+1) (bP s' fZ n 0).2.1 (bP s' fZ n 0).2.2):=t1 hb
       have hrm2:H K 127 #[U (M ⟨db,0,O⟩),I V n] wr fun e w'=>e=G .nilIface/\Hid (yA w w' ps lp db ep fv rs (bP s' fZ n 0).2.1 (bP s' fZ n 0).2.2)/\Hid (RP wr w'):=hrm.mono (by
        rintro e w' ⟨v,rfl,a,b,c⟩;rw[hb]at b;rcases b with⟨-,rfl⟩|⟨b,-⟩
        ·exact⟨rfl,a,c⟩
        ·cases b)
       clear hrm hb t1 t2 hn hg VQ
       go_wp2_with (first|(go_at_call 88;refine hj.mono ?_;rintro e wr ⟨rfl,rfl⟩)|(go_at_call 127;refine hrm2.mono ?_;rintro e w4 ⟨rfl,Am,hk4⟩))
       go_roundw
       case rel=>exact⟨k+1,_,_,by omega,by go_num,HT1,Am,HK2,fun g aS hg=>hk4.out g aS 3 (0,0) (HR.out g aS hg) (by decide) (by decide) (by decide) (by decide)⟩
       case measure=>simp[intOf];omega
      |false=>
       have HE:Hid (pW s (plain rs) ep (j:Int) (b:Int)=(10,(bP s' fZ n 0).2)):=by
        show _=_;have e:=t2 hb;rw[<-HNS.out]at e;have e':gB s (plain rs) (rT (plain rs) ep)=bP s' fZ n 0:=e;unfold pW;rw[e',if_pos hb]
       have hrm2:H K 127 #[U (M ⟨db,0,O⟩),I V n] wr fun e w'=> ∃b0,e=G (.iface 290 (U (M ⟨b0,0,O⟩)))/\Hid (pG w w' ps db fv rs 1 (.iface 290 (U (M ⟨b0,0,O⟩))) (10,(bP s' fZ n 0).2)):=hrm.mono (by
        rintro e w' ⟨v,rfl,a,b,c⟩;rw[hb]at b;have hl:=HLg.out w' _ _ v false 1 a b (Nat.le_refl _);rcases b with⟨b,-⟩|⟨-,b0,nm,num,rfl,-⟩
        ·cases b
        ·exact⟨b0,rfl,hl⟩)
       clear hrm hb t1 t2 hn hg VQ
       go_wp2_with (first|(go_at_call 88;refine hj.mono ?_;rintro e wr ⟨rfl,rfl⟩)|(go_at_call 127;refine hrm2.mono ?_;rintro e w4 ⟨b4,rfl,Am⟩))
       go_ret;rw[HE.out];exact⟨_,rfl,Am.out⟩
  ·have e1:ns.drop k=[]:=List.drop_eq_nil_of_le (by omega)
   have HC:Hid (gB s (plain rs) (rT (plain rs) ep)=(true,s',fZ)):=by
    have:=HT.out;unfold Er at this;rw[e1,<-HNS.out]at this;exact this
   have hj:=HJ.out wr s' fZ HW.out;have hsh:=HSh.out wr s' fZ (10+ep) j HW.out HK.out;have HK2:Hid (uP 1000 (bP s' fZ (10+ep) (j:Int)).2.1 (bP s' fZ (10+ep) (j:Int)).2.2):=HK.out.cut _ (by omega);clear e1 HT HRm;cases hb:(bP s' fZ (10+ep) (j:Int)).1 with
   |true=>
    have hsh1:H K 128 #[U (M ⟨lp,0,O⟩),I V (10+ep),I V (j:Int)] wr fun e w'=>e=G .nilIface/\Hid (yA w w' ps lp db ep fv rs (bP s' fZ (10+ep) (j:Int)).2.1 (bP s' fZ (10+ep) (j:Int)).2.2):=hsh.mono (by
     rintro e w' ⟨v,rfl,a,b⟩;rw[hb]at b;rcases b with⟨-,rfl⟩|⟨b,-⟩
     ·exact⟨rfl,a⟩
     ·cases b)
    have HE:Hid (pW s (plain rs) ep (j:Int) (b:Int)=(if (bP (bP s' fZ (10+ep) (j:Int)).2.1 (bP s' fZ (10+ep) (j:Int)).2.2 1 (b:Int)).1 then 0 else 10,(bP (bP s' fZ (10+ep) (j:Int)).2.1 (bP s' fZ (10+ep) (j:Int)).2.2 1 (b:Int)).2)):=by
     show _=_;unfold pW;rw[HC.out];simp only;rw[if_neg (by simp),if_neg (by rw[hb];simp)]
    generalize bP s' fZ (10+ep) (j:Int)=r2 at*;clear hsh hb HC
    have tu:Hid (∀w4,yA w w4 ps lp db ep fv rs r2.2.1 r2.2.2->H K 128 #[U (M ⟨lp,0,O⟩),I V 1,I V (b:Int)] w4 fun e w'=> ∃v,e=G v/\pG w w' ps db fv rs 1 v (if (bP r2.2.1 r2.2.2 1 (b:Int)).1 then 0 else 10,(bP r2.2.1 r2.2.2 1 (b:Int)).2)):=fun w4 h4=>(HSh.out w4 _ _ 1 b h4 HK2.out).mono (by
     rintro e w' ⟨v,rfl,x,y⟩;exact⟨v,rfl,HLg.out w' _ _ v _ 1 x y (Nat.le_refl _)⟩)
    clear HSh HLg HJ
    go_wp2_with (first|(go_at_call 88;refine hj.mono ?_;clear hj;rintro e wr ⟨rfl,rfl⟩)|(go_at_call 128;refine hsh1.mono ?_;clear hsh1;rintro e w4 ⟨rfl,Am⟩;have hsh2:=tu.out w4 Am.out)|(go_at_call 128;refine hsh2.mono ?_;rintro e w5 ⟨v5,rfl,Na⟩))
    go_ret;rw[HE.out];exact⟨_,rfl,Na⟩
   |false=>
    have hsh1:H K 128 #[U (M ⟨lp,0,O⟩),I V (10+ep),I V (j:Int)] wr fun e w'=> ∃b0,e=G (.iface 290 (U (M ⟨b0,0,O⟩)))/\Hid (pG w w' ps db fv rs 1 (.iface 290 (U (M ⟨b0,0,O⟩))) (10,(bP s' fZ (10+ep) (j:Int)).2)):=hsh.mono (by
     rintro e w' ⟨v,rfl,a,b⟩;rw[hb]at b;have hl:=HLg.out w' _ _ v false 1 a b (Nat.le_refl _);rcases b with⟨b,-⟩|⟨-,b0,nm,num,rfl,-⟩
     ·cases b
     ·exact⟨b0,rfl,hl⟩)
    have HE:Hid (pW s (plain rs) ep (j:Int) (b:Int)=(10,(bP s' fZ (10+ep) (j:Int)).2)):=by
     show _=_;unfold pW;rw[HC.out];simp only;rw[if_neg (by simp),if_pos hb]
    clear hsh hb HC HSh HLg HJ
    go_wp2_with (first|(go_at_call 88;refine hj.mono ?_;clear hj;rintro e wr ⟨rfl,rfl⟩)|(go_at_call 128;refine hsh1.mono ?_;rintro e w4 ⟨b4,rfl,Am⟩))
    go_ret;rw[HE.out];exact⟨_,rfl,Am.out⟩
end Go.Proofs.YtfplgfodoiiobaaGreatDoor
