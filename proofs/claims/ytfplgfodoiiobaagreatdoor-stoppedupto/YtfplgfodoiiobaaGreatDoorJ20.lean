/- LgC, LgD, LgE (joined). -/
import Derived.Test.YtfplgfodoiiobaaGreatDoorJ19
open Option renaming none→O,some→M
open Go.Value renaming int→I,slice→Z,pointer→U
open Go.IntKind renaming i64→V
open Go.Obj renaming cells→C
open Go.Ending renaming returned→G
open Go renaming World→F,Value→Y,Calls→H
open Go.Proofs.Tryz renaming prog→K
namespace Go.Proofs.YtfplgfodoiiobaaGreatDoor
set_option maxHeartbeats 4000000
set_option maxRecDepth 100000
open Go.RowKit
variable {s s':Sc}{ep n k:Int}{w:F}{ps:Nat->Addr}{lp db N:Nat}{fv:Y}{rs:List FR}{fs bN:List bF}
theorem XP {d q a b c:Int}{text:ByteArray}(h:aP w db s fv rs)(hL:w.heap[lp]?=M (iA db ep))(hG:Gl w ps)(hO:mZ 998 s (plain rs))(_he0:0<=ep)(_he1:ep<=1000)(Wt: -9223372036854775808<=d)(DL:d<=9223372036854775807)(hq:0<=q)(xA:q<256)(hd:bS d)(ha:bS a)(hb:bS b)(hc:bS c)(hx0:text.size≠0)(ay:text.size<=1000000)(hE:(dJ s (plain rs) 1 text).1≠0):
 H K 87 #[U (M ⟨lp,0,O⟩),I V d,fQ q a b c,.string text] w fun e w'=> ∃v,e=G v/\lQ w w' ps db fv rs 2 v (dJ s (plain rs) 1 text):=by
 have HR:Hid (∀W,H K 134 #[I V d,.agg #[I .u8 q,I V a,I V b,I V c]] W fun e w'=> ∃ad cap,e=G (Z (M ad) 22 cap)/\mU w' (M ad) (fO q d a b c).data.toList/\(∃aT f,w'.heap[ad.block]?=M (C aT 5 f))/\aJ W w'):=fun W=>by
  refine(Ji hq xA hd ha hb hc).mono ?_;rintro e w' ⟨v,rfl,cZ,hg⟩;obtain⟨ao,cap,rfl,hr,gX,hn,hx⟩:=bC.form cZ;have h22:(fO q d a b c).data.toList.length=22:=by have:=nT q d a b c;simpa using this
  cases ao with
  |none=>obtain⟨e,-⟩:=hn rfl;omega
  |some ad=>
   obtain⟨k1,k2,aT,Nj,hk⟩:=hx ad rfl;rw[h22];exact⟨_,_,rfl,hr,⟨aT,_,hk⟩,hg⟩
 obtain⟨w1,dU⟩:∃w1,w1=w.alloc (C #[I .u8 q,I V a,I V b,I V c] 99):=⟨_,rfl⟩;have G1:aJ w w1:=by rw[dU];exact(aJ.refl w).alloc _
 have GX:Qk w1 lp w.heap.size db ep q a b c:=⟨(G1.block _ (aK hL)).trans hL,by rw[dU];exact heap_alloc_new w _⟩;have HI:Hid (H K 132 #[I V d] w1 fun e w'=> ∃s:ByteArray,e=G (.string s)/\s.size<=100/\aJ w1 w'):=Zl (hG.aM G1) Wt DL;have qQ:Hid (aJ w w1):=G1;have GY:Hid (Qk w1 lp w.heap.size db ep q a b c):=GX
 have hne:text.toList.isEmpty=false:=by
  rw[ByteArray.toList_eq];cases hz:text.data.toList with
  |nil=>exact absurd (show text.size=0 by have:=congrArg List.length hz;simpa using this) hx0
  |cons x l=>rfl
 unfold fQ;clear hL GX G1;go_enter Tryz.func87,Tryz.ntmps87
 go_upto_region 1 with fail
 rw[<-dU];clear dU
 go_upto_region 3 with(go_at_call 132;refine HI.out.mono ?_;rintro e w2 ⟨sx,rfl,hsx,jL⟩;have Um:∀(p:ByteArray) (w:F),p.size<=100->(Op.stringOp .add p sx).run K w= .ok (.string (p++sx)) w:=fun p w hp=>run_string_add_sum w _ _ (by omega);have TW:=fun w=>Um ⟨#[99,104,97,110,103,101,32]⟩ w (by decide);clear Um)
 have GZ:Qk w2 lp w.heap.size db ep q a b c:=GY.out.aM jL;obtain⟨x0,x1,x2,x3,x4⟩:=GZ.cells;obtain⟨cap,w3,hcv,Lr,ht3,jT⟩:=Qi w2 text
 have HA3:Hid (H K 133 #[U (M ⟨db,0,O⟩),I V 1,Z (M ⟨w2.heap.size,0,O⟩) text.size cap] w3 fun e w'=> ∃v,e=G v/\lQ w w' ps db fv rs 1 v (dJ s (plain rs) 1 text)/\Gl w' ps/\Qk w' lp w.heap.size db ep q a b c):=by
  refine(uI (n:=1) (cap:=cap) (((h.aM qQ.out).aM jL).aM jT) (((hG.uM.aM qQ.out).aM jL).aM jT) hO.bK hO.qC hO.inv (by have:=hO.len;rw[bE]at this;omega) hx0 (by omega) Lr ht3).mono ?_;rintro e w' ⟨v,rfl,dN,dH,k1,k2,k3,k4⟩;exact⟨v,rfl,⟨dN,dH,k1,k2,(Dk.bH (qQ.out.then (jL.then jT))).trans k3,k4.rH⟩,(((hG.aM qQ.out).aM jL).aM jT).dk (((h.aM qQ.out).aM jL).aM jT) k3,(GZ.aM jT).dk (((h.aM qQ.out).aM jL).aM jT) k3⟩
 clear GZ Lr ht3 HI GY
 have HT:Hid (∀W v (sx:ByteArray),lQ w W ps db fv rs 1 v (dJ s (plain rs) 1 text)->H K 81 #[.string sx,v] W fun e w'=> ∃v',e=G v'/\lQ w w' ps db fv rs 2 v' (dJ s (plain rs) 1 text)):=fun W v sx hv=>by
  obtain⟨dN,dH,k1,k2,k3,k4⟩:=hv;refine(Ci k4).mono ?_;rintro e w' ⟨v',rfl,m1,m2⟩;exact⟨v',rfl,dN,dH,k1.aM m2,k2,k3.Cj m2,m1⟩
 have HE:Hid ((dJ s (plain rs) 1 text).1≠0):=hE;clear h hG hO hE
 go_upto_region 4 with(go_at_call 133;refine HA3.out.mono ?_;rintro e w4 ⟨v,rfl,hv,-,-⟩)
 obtain⟨t,bb,rfl⟩:∃t b,v= .iface t (U (M b)):=by obtain⟨dN,dH,k1,k2,k3,k4⟩:=hv;exact k4.yes HE.out
 have Nl:=HT.out w4 _ (⟨#[99,104,97,110,103,101,32]⟩++sx) hv;have HV:Hid (lQ w w4 ps db fv rs 1 (.iface t (U (M bb))) (dJ s (plain rs) 1 text)):=hv;clear hv HT
 go_wp2_with (go_at_call 81;refine Nl.mono ?_;rintro e w5 ⟨v',rfl,hv'⟩)
 go_ret;exact⟨_,rfl,hv'⟩
theorem XQ {d q a b c:Int}{text:ByteArray}(h:aP w db s fv rs)(hL:w.heap[lp]?=M (iA db ep))(hG:Gl w ps)(hO:mZ 998 s (plain rs))(vL:0<=ep)(Ck:ep<=1000)(Wt: -9223372036854775808<=d)(DL:d<=9223372036854775807)(hq:0<=q)(xA:q<256)(hd:bS d)(ha:bS a)(hb:bS b)(hc:bS c)(hx0:text.size≠0)(ay:text.size<=1000000)(hE:(dJ s (plain rs) 1 text).1=0):
 H K 87 #[U (M ⟨lp,0,O⟩),I V d,fQ q a b c,.string text] w fun e w'=> ∃v,e=G v/\lQ w w' ps db fv rs 2 v (dJ (dJ s (plain rs) 1 text).2.1 (dJ s (plain rs) 1 text).2.2 (10+ep) (fO q d a b c)):=by
 have ax:mZ 999 (dJ s (plain rs) 1 text).2.1 (dJ s (plain rs) 1 text).2.2:=hO.add (by omega) hx0;have ai:Hid (∃s2 uw,s2=(dJ s (plain rs) 1 text).2.1/\uw=(dJ s (plain rs) 1 text).2.2):=⟨_,_,rfl,rfl⟩;obtain⟨s2,uw,es2,ef2⟩:=ai.out;rw[<-es2,<-ef2]at ax ⊢;have HES:Hid (s2=(dJ s (plain rs) 1 text).2.1/\uw=(dJ s (plain rs) 1 text).2.2):=⟨es2,ef2⟩;have HE:Hid ((dJ s (plain rs) 1 text).1=0):=hE;clear es2 ef2 ai hE
 have HR:Hid (∀W,H K 134 #[I V d,.agg #[I .u8 q,I V a,I V b,I V c]] W fun e w'=> ∃ad cap,e=G (Z (M ad) 22 cap)/\mU w' (M ad) (fO q d a b c).data.toList/\(∃aT f,w'.heap[ad.block]?=M (C aT 5 f))/\aJ W w'):=fun W=>by
  refine(Ji hq xA hd ha hb hc).mono ?_;rintro e w' ⟨v,rfl,cZ,hg⟩;obtain⟨ao,cap,rfl,hr,gX,hn,hx⟩:=bC.form cZ;have h22:(fO q d a b c).data.toList.length=22:=by have:=nT q d a b c;simpa using this
  cases ao with
  |none=>obtain⟨e,-⟩:=hn rfl;omega
  |some ad=>
   obtain⟨k1,k2,aT,Nj,hk⟩:=hx ad rfl;rw[h22];exact⟨_,_,rfl,hr,⟨aT,_,hk⟩,hg⟩
 obtain⟨w1,dU⟩:∃w1,w1=w.alloc (C #[I .u8 q,I V a,I V b,I V c] 99):=⟨_,rfl⟩;have G1:aJ w w1:=by rw[dU];exact(aJ.refl w).alloc _
 have GX:Qk w1 lp w.heap.size db ep q a b c:=⟨(G1.block _ (aK hL)).trans hL,by rw[dU];exact heap_alloc_new w _⟩;have HI:Hid (H K 132 #[I V d] w1 fun e w'=> ∃s:ByteArray,e=G (.string s)/\s.size<=100/\aJ w1 w'):=Zl (hG.aM G1) Wt DL;have qQ:Hid (aJ w w1):=G1;have GY:Hid (Qk w1 lp w.heap.size db ep q a b c):=GX
 have hne:text.toList.isEmpty=false:=by
  rw[ByteArray.toList_eq];cases hz:text.data.toList with
  |nil=>exact absurd (show text.size=0 by have:=congrArg List.length hz;simpa using this) hx0
  |cons x l=>rfl
 unfold fQ;clear hL GX G1;go_enter Tryz.func87,Tryz.ntmps87
 go_upto_region 1 with fail
 rw[<-dU];clear dU
 go_upto_region 3 with(go_at_call 132;refine HI.out.mono ?_;rintro e w2 ⟨sx,rfl,hsx,jL⟩;have Um:∀(p:ByteArray) (w:F),p.size<=100->(Op.stringOp .add p sx).run K w= .ok (.string (p++sx)) w:=fun p w hp=>run_string_add_sum w _ _ (by omega);have TW:=fun w=>Um ⟨#[99,104,97,110,103,101,32]⟩ w (by decide);clear Um)
 have GZ:Qk w2 lp w.heap.size db ep q a b c:=GY.out.aM jL;obtain⟨x0,x1,x2,x3,x4⟩:=GZ.cells;obtain⟨cap,w3,hcv,Lr,ht3,jT⟩:=Qi w2 text
 have HA3:Hid (H K 133 #[U (M ⟨db,0,O⟩),I V 1,Z (M ⟨w2.heap.size,0,O⟩) text.size cap] w3 fun e w'=> ∃v,e=G v/\lQ w w' ps db fv rs 1 v (dJ s (plain rs) 1 text)/\Gl w' ps/\Qk w' lp w.heap.size db ep q a b c):=by
  refine(uI (n:=1) (cap:=cap) (((h.aM qQ.out).aM jL).aM jT) (((hG.uM.aM qQ.out).aM jL).aM jT) hO.bK hO.qC hO.inv (by have:=hO.len;rw[bE]at this;omega) hx0 (by omega) Lr ht3).mono ?_;rintro e w' ⟨v,rfl,dN,dH,k1,k2,k3,k4⟩;exact⟨v,rfl,⟨dN,dH,k1,k2,(Dk.bH (qQ.out.then (jL.then jT))).trans k3,k4.rH⟩,(((hG.aM qQ.out).aM jL).aM jT).dk (((h.aM qQ.out).aM jL).aM jT) k3,(GZ.aM jT).dk (((h.aM qQ.out).aM jL).aM jT) k3⟩
 clear GZ Lr ht3 HI GY;clear h hG hO
 go_upto_region 4 with(go_at_call 133;refine HA3.out.mono ?_;rintro e w4 ⟨v,rfl,hv,ZY,GZ⟩)
 clear jL jT hcv;obtain⟨fv2,rs2,hD2,hp2,WX,hv2⟩:=hv;rw[HE.out]at hv2;obtain rfl:=hv2.no;rw[<-HES.out.1]at hD2;rw[<-HES.out.2]at hp2;subst hp2;have HWB:Hid (Qk w4 lp w.heap.size db ep q a b c):=GZ;have HJ:Hid (∀W,aJ w4 W->H K 88 #[U (M ⟨lp,0,O⟩)] W fun e w'=>e=G (I V (10+ep))/\w'=W):=fun W hW=>nR (GZ.aM hW).1 vL (by omega)
 have HA:Hid (∀W ad cap,aJ w4 W->mU W (M ad) (fO q d a b c).data.toList->(∃aT f,W.heap[ad.block]?=M (C aT 5 f))->H K 133 #[U (M ⟨db,0,O⟩),I V (10+ep),Z (M ad) 22 cap] W fun e w'=> ∃v,e=G v/\lQ w w' ps db fv rs 1 v (dJ s2 (plain rs2) (10+ep) (fO q d a b c))):=fun W ad cap hW hr ht=>by
  have h22:=nT q d a b c;have:=uI (n:=10+ep) (cap:=cap) (hD2.aM hW) (ZY.uM.aM hW) ax.bK ax.qC ax.inv (by have:=ax.len;rw[bE]at this;omega) (by omega) (by omega) hr ht;rw[h22]at this;refine this.mono ?_;rintro e w' ⟨v,rfl,dN,dH,k1,k2,k3,k4⟩;exact⟨v,rfl,dN,dH,k1,k2,WX.trans ((Dk.bH hW).trans k3),k4.rH⟩
 have HT:Hid (∀W v (sx:ByteArray),lQ w W ps db fv rs 1 v (dJ s2 (plain rs2) (10+ep) (fO q d a b c))->H K 81 #[.string sx,v] W fun e w'=> ∃v',e=G v'/\lQ w w' ps db fv rs 2 v' (dJ s2 (plain rs2) (10+ep) (fO q d a b c))):=fun W v sx hv=>by
  obtain⟨dN,dH,k1,k2,k3,k4⟩:=hv;refine(Ci k4).mono ?_;rintro e w' ⟨v',rfl,m1,m2⟩;exact⟨v',rfl,dN,dH,k1.aM m2,k2,k3.Cj m2,m1⟩
 obtain⟨y0,y1,y2,y3,y4⟩:=GZ.cells;clear GZ hD2 ZY ax qQ HA3 x0 x1 x2 x3 x4 WX
 go_upto_region 6 with fail
 go_region_law (first
  |(refine bM (by rfl) 88 _ _ (by rfl) _ (by simp[Act.eval,Act.put];done) Jt ((HJ.out _ (by repeat (first|exact aJ.refl _|exact hgR|refine aJ.drew ?_))).mono ?_);rintro v w' ⟨rfl,rfl⟩;refine⟨_,rfl,?_⟩)|(refine bM (by rfl) 134 _ _ (by rfl) _ (by simp[Act.eval];done) GV ((HR.out _).mono ?_);rintro v wR ⟨ad,cap,rfl,hrR,htR,hgR'⟩;have hgR:aJ w4 wR:=aJ.then (by repeat (first|exact aJ.refl _|refine aJ.drew ?_)) hgR';obtain⟨z0,z1,z2,z3,z4⟩:=(Qk.aM HWB.out hgR).cells;refine⟨_,rfl,?_⟩)|(refine bM (by rfl) 133 _ _ (by rfl) _ (by simp[Act.eval];done) Ju ((HA.out _ ad cap hgR hrR htR).mono ?_);rintro v wA ⟨vA,rfl,hvA⟩;refine⟨_,rfl,?_⟩)|(refine bM (by rfl) 81 _ _ (by rfl) _ (by simp[Act.eval];done) e_at ((HT.out wA vA (⟨#[99,104,97,110,103,101,32]⟩++sx) hvA).mono ?_);rintro v wT ⟨vT,rfl,hvT⟩;refine⟨_,rfl,?_⟩))
 all_goals go_wp2_with fail
 all_goals go_ret
 all_goals exact⟨_,rfl,hvT⟩
theorem XR (ha:0<=s.after):0<=(bQ s fs n).2.1.after:=by
 unfold bQ;split
 ·exact ha
 ·simp only;split
  ·exact qU ha
  ·exact qU ha
theorem cut_aft (ha:0<=s.after):0<=(bR s fs n k).2.1.after:=by
 unfold bR;split
 ·exact ha
 ·simp only;split
  ·exact qU ha
  ·exact qU ha
theorem mZ.flush (h:mZ N s fs)(n:Int):mZ N (bQ s fs n).2.1 (bQ s fs n).2.2:=by
 have ha:=XR (fs:=fs) (n:=n) h.qC;have hl:=h.len;rcases Aq h.bK h.inv n with⟨s',bN,e,hd,hI,hle,-⟩|⟨s',bN,e,hd⟩
 ·rw[e]at ha ⊢;exact⟨hd.2.2.2,ha,hI.room hd.1.2.2.1,by simp only;omega⟩
 ·rw[e]at ha ⊢;exact⟨hd.2.2.1,ha,hd.2.2.2.1.room hd.1.2.2.1,by have:=hd.2.2.2.2;simp only;omega⟩
theorem Ls (f:bF):∀l:List bF,qO l->(∃g∈l,g.1=f.1)->(iR l f).length=l.length
 | [],_,h=>by obtain⟨g,hg,-⟩:=h;simp at hg
 |g::r,hs,h=>by
  unfold qO at hs;rw[List.pairwise_cons]at hs;obtain⟨x,hx,ex⟩:=h;unfold iR;split
  ·rename_i bV;rcases List.mem_cons.1 hx with rfl|hx
   ·omega
   ·have:=hs.1.1 x hx;omega
  ·split
   ·simp
   ·rename_i h1 h2;rcases List.mem_cons.1 hx with rfl|hx
    ·exact absurd ex h2
    ·have:=Ls f r ⟨hs.1.2,fun y hy=>hs.2 y (List.mem_cons_of_mem _ hy)⟩ ⟨x,hx,ex⟩;simp[this]
theorem cut_len {room:Int}(h:dY room fs)(n:Int)(hk:0<=k)(WX:k<((aL fs n).size:Int)):(Fu fs n k).length<=fs.length:=by
 unfold Fu;split
 ·exact List.length_filter_le _ _
 ·refine Nat.le_of_eq (Ls _ fs h.sort ?_);cases hf:eO fs n with
  |none=>
   have hb:aL fs n=⟨#[]⟩:=by
    have hp:=Ff fs n;rw[hf]at hp;unfold aL;cases hq:vP fs n with
    |none=>rfl
    |some i=>
     rw[hq]at hp;simp only[Option.bind_some]at hp;simp[hp]
   rw[hb]at WX;have:((⟨#[]⟩:ByteArray).size:Int)=0:=rfl;omega
  |some f=>
   unfold eO at hf;exact⟨f,List.mem_of_find?_eq_some hf,by simpa using List.find?_some hf⟩
theorem mZ.cut (h:mZ N s fs)(n:Int)(hk:0<=k):mZ N (bR s fs n k).2.1 (bR s fs n k).2.2:=by
 have ha:=cut_aft (fs:=fs) (n:=n) (k:=k) h.qC;have hl:=h.len;rcases Ng h.bK h.inv n hk with⟨-,e⟩|⟨WX,s',e,hd,hI⟩|⟨-,s',bN,e,hd⟩
 ·rw[e]at ha ⊢;exact⟨h.bK,ha,h.inv,hl⟩
 ·rw[e]at ha ⊢;exact⟨hd.2.2.2,ha,hI.room hd.1.2.2.1,by have:=cut_len h.inv n hk WX;simp only;omega⟩
 ·rw[e]at ha ⊢;exact⟨hd.2.2.1,ha,hd.2.2.2.1.room hd.1.2.2.1,by have:=hd.2.2.2.2;simp only;omega⟩
def qV (s:Sc)(fs:List bF)(ep:Int):Nat->Bool×Sc×List bF
 |0=>(true,s,fs)
 |k+1=>bQ (qV s fs ep k).2.1 (qV s fs ep k).2.2 (if k=0 then 1 else 10+ep)
def pO (s:Sc)(fs:List bF)(ep:Int):Int×Sc×List bF:=
 if (qV s fs ep 1).1=false then (10,(qV s fs ep 1).2)else (if (qV s fs ep 2).1 then 0 else 10,(qV s fs ep 2).2)
theorem uy (h:mZ N s fs):∀k,mZ N (qV s fs ep k).2.1 (qV s fs ep k).2.2
 |0=>h
 |k+1=>(uy h k).flush _
def SyB (w wr:F)(ps:Nat->Addr)(lp rb db:Nat)(ep:Int)(fv:Y)(rs:List FR)(s':Sc)(bN:List bF):Prop:=
 wr.heap[lp]?=M (iA db ep)/\wr.heap[rb]?=M (C #[I V 1,I V (10+ep)] 3 (0,0))/\Gl wr ps/\∃dN dH,aP wr db s' dN dH/\plain dH=bN/\Dk w wr (DX db fv rs) (DX db dN dH)
theorem sync_pg (h:aP w db s fv rs)(hL:w.heap[lp]?=M (iA db ep))(hG:Gl w ps)(hO:mZ 1000 s (plain rs))(vL:0<=ep)(Ck:ep<=1000):
 H K 55 #[U (M ⟨lp,0,O⟩)] w fun e w'=> ∃v,e=G v/\lQ w w' ps db fv rs 2 v (pO s (plain rs) ep):=by
 have hJ:=nR hL vL (by omega)
 have HS:Hid (SyB w (w.alloc (C #[I V 1,I V (10+ep)] 3)) ps lp w.heap.size db ep fv rs s (plain rs)):=by
  have g:=(aJ.refl w).alloc (C #[I V 1,I V (10+ep)] 3);exact⟨(g.block _ (aK hL)).trans hL,heap_alloc_new w _,hG.aM g,fv,rs,h.aM g,rfl,Dk.bH g⟩
 have HF:Hid (∀wr s' bN n,SyB w wr ps lp w.heap.size db ep fv rs s' bN->mZ 1000 s' bN->H K 89 #[U (M ⟨db,0,O⟩),I V n] wr fun e w'=> ∃v,e=G v/\SyB w w' ps lp w.heap.size db ep fv rs (bQ s' bN n).2.1 (bQ s' bN n).2.2/\FV w' ps v (bQ s' bN n).1):=fun wr s' bN n hs kR=>by
  obtain⟨a1,a2,a3,dN,dH,a4,rfl,a6⟩:=hs;refine(Pv a4 a3.uM kR.bK kR.qC kR.inv (by have:=kR.len;rw[bE]at this;omega)).mono ?_;rintro e w' ⟨v,rfl,fv2,rs2,b1,b2,b3,b4⟩;exact⟨v,rfl,⟨b3.1.at a1 (a4.other a1 (by decide) (by decide) (by decide) (by decide)),b3.1.at a2 (a4.other a2 (by decide) (by decide) (by decide) (by decide)),a3.dk a4 b3,fv2,rs2,b1,b2,a6.trans b3⟩,b4⟩
 have HO:=uy (ep:=ep) hO;clear h hG hO;go_enter Tryz.func55,Tryz.ntmps55
 go_wp2_with (go_at_call 88;refine hJ.mono ?_;rintro e w ⟨rfl,rfl⟩)
 go_loopw [4,5,10] (fun _ _ i wr=> ∃k:Nat,k<=2/\i=I V (k:Int)/\Hid (∀j,j<=k->(qV s (plain rs) ep j).1=true)/\Hid (SyB w wr ps lp w.heap.size db ep fv rs (qV s (plain rs) ep k).2.1 (qV s (plain rs) ep k).2.2)) (fun _ _ i _=>2-(intOf i).toNat)
 case atStart=>exact⟨0,Nat.zero_le _,rfl,(fun j hj=>by have e:j=0:=(by omega);subst e;rfl),HS⟩
 case round=>
  obtain⟨k,hk,rfl,HT,HW⟩:=hrel;by_cases bV:k<2
  ·have Ul:(k:Int)<2:=by omega
   have h0:(0:Int)<=(k:Int):=by omega
   obtain⟨c0,-⟩:=fJ HW.out.1
   have hcell:wr.cell? ⟨w.heap.size,k,O⟩=M (I V (if k=0 then 1 else 10+ep)):=by
    have:=HW.out.2.1;have e:k=0\/k=1:=by omega
    rcases e with rfl|rfl<;>simp[World.cell?,this]
   have eP:=HF.out wr _ _ (if k=0 then 1 else 10+ep) HW.out (HO k);have HN:Hid (qV s (plain rs) ep (k+1)=bQ (qV s (plain rs) ep k).2.1 (qV s (plain rs) ep k).2.2 (if k=0 then 1 else 10+ep)):=rfl;rw[<-HN.out]at eP;generalize (if k=0 then (1:Int)else 10+ep)=nn at hcell eP;cases hb:(qV s (plain rs) ep (k+1)).1 with
   |true=>
    have HT1:Hid (∀j,j<=k+1->(qV s (plain rs) ep j).1=true):=fun j hj=>by
     by_cases e:j=k+1
     ·rw[e];exact hb
     ·exact HT.out j (by omega)
    have PS:H K 89 #[U (M ⟨db,0,O⟩),I V nn] wr fun e w'=>e=G .nilIface/\Hid (SyB w w' ps lp w.heap.size db ep fv rs (qV s (plain rs) ep (k+1)).2.1 (qV s (plain rs) ep (k+1)).2.2):=eP.mono (by
     rintro e w' ⟨v,rfl,a,b⟩;rw[hb]at b;rcases b with⟨-,rfl⟩|⟨b,-⟩
     ·exact⟨rfl,a⟩
     ·cases b)
    clear eP hb HF HO HS hJ hL
    go_wp2_with (go_at_call 89;refine PS.mono ?_;rintro e w4 ⟨rfl,Tt⟩)
    go_roundw
    case rel=>exact⟨k+1,by omega,by go_num,HT1,Tt⟩
    case measure=>simp[intOf];omega
   |false=>
    have HR:Hid (pO s (plain rs) ep=(10,(qV s (plain rs) ep (k+1)).2)):=by
     show _=_;unfold pO;have e:k=0\/k=1:=by omega
     rcases e with rfl|rfl
     ·rw[if_pos hb]
     ·have h1:=HT.out 1 (by omega);rw[if_neg (by rw[h1];simp),hb];rfl
    have PS:H K 89 #[U (M ⟨db,0,O⟩),I V nn] wr fun e w'=> ∃b,e=G (.iface 290 (U (M ⟨b,0,O⟩)))/\Hid (lQ w w' ps db fv rs 1 (.iface 290 (U (M ⟨b,0,O⟩))) (10,(qV s (plain rs) ep (k+1)).2)):=eP.mono (by
     rintro e w' ⟨v,rfl,a,b⟩;rw[hb]at b;have hl:=b.rH;rcases b with⟨b,-⟩|⟨-,b0,nm,num,rfl,-⟩
     ·cases b
     ·obtain⟨-,-,-,dN,dH,a4,a5,a6⟩:=a;exact⟨b0,rfl,dN,dH,a4,a5,a6,hl⟩)
    have HA:Hid (∀W b,lQ w W ps db fv rs 1 (.iface 290 (U (M ⟨b,0,O⟩))) (10,(qV s (plain rs) ep (k+1)).2)->H K 81 #[.string ⟨#[115,121,110,99]⟩,.iface 290 (U (M ⟨b,0,O⟩))] W fun e w'=> ∃v',e=G v'/\lQ w w' ps db fv rs 2 v' (10,(qV s (plain rs) ep (k+1)).2)):=fun W b hv=>by
     obtain⟨dN,dH,k1,k2,k3,k4⟩:=hv;refine(Ci k4).mono ?_;rintro e w' ⟨v',rfl,m1,m2⟩;exact⟨v',rfl,dN,dH,k1.aM m2,k2,k3.Cj m2,m1⟩
    clear eP hb HF HO HS hJ hL
    go_wp2_with (first|(go_at_call 89;refine PS.mono ?_;rintro e w4 ⟨b4,rfl,Tt⟩)|(go_at_call 81;refine(HA.out _ _ Tt.out).mono ?_;rintro e w5 ⟨v5,rfl,hv5⟩))
    go_ret;rw[HR.out];exact⟨_,rfl,hv5⟩
  ·have e2:k=2:=by omega
   subst e2
   have HR:Hid (pO s (plain rs) ep=(0,(qV s (plain rs) ep 2).2)):=by
    show _=_;unfold pO;have h1:=HT.out 1 (by omega);have h2:=HT.out 2 (by omega);rw[if_neg (by rw[h1];simp),h2];rfl
   have HV:Hid (lQ w wr ps db fv rs 2 .nilIface (0,(qV s (plain rs) ep 2).2)):=by
    obtain⟨-,-,-,dN,dH,a4,a5,a6⟩:=HW.out;exact⟨dN,dH,a4,a5,a6,Or.inl ⟨rfl,rfl⟩⟩
   clear HF HO HS hJ hL HW
   go_wp2_with fail
   go_ret;rw[HR.out];exact⟨_,rfl,HV.out⟩
def vS (w wr:F)(ps:Nat->Addr)(lp db:Nat)(ep:Int)(fv:Y)(rs:List FR)(s':Sc)(bN:List bF):Prop:=
 wr.heap[lp]?=M (iA db ep)/\Gl wr ps/\∃dN dH,aP wr db s' dN dH/\plain dH=bN/\Dk w wr (DX db fv rs) (DX db dN dH)
theorem vS.aM {wr w':F}(h:vS w wr ps lp db ep fv rs s' bN)(hg:aJ wr w'):vS w w' ps lp db ep fv rs s' bN:=by
 obtain⟨a,b,dN,dH,c,d,e⟩:=h;exact⟨(hg.block _ (aK a)).trans a,b.aM hg,dN,dH,c.aM hg,d,e.Cj hg⟩
theorem vS.start (h:aP w db s fv rs)(hL:w.heap[lp]?=M (iA db ep))(hG:Gl w ps):vS w w ps lp db ep fv rs s (plain rs):=
 ⟨hL,hG,fv,rs,h,rfl,Dk.refl _ _⟩
def IB (wr w':F):Prop:=∀(b:Nat) (aT:Array Y) (t:TypeId) (f:Nat×Nat),wr.heap[b]?=M (C aT t f)->t≠137->t≠155->t≠157->t≠5->w'.heap[b]?=M (C aT t f)
theorem vS.res {wr:F}(h:vS w wr ps lp db ep fv rs s' bN):∃dN dH,aP wr db s' dN dH/\plain dH=bN/\∀(w':F) (v:Y) (r:Bool×Sc×List bF),pY wr w' ps db dN dH v r->vS w w' ps lp db ep fv rs r.2.1 r.2.2/\FV w' ps v r.1/\IB wr w':=by
 obtain⟨a,b,dN,dH,c,d,e⟩:=h;refine⟨dN,dH,c,d,?_⟩;rintro w' v r ⟨fv2,rs2,c2,d2,e2,f2⟩;exact⟨⟨e2.1.at a (c.other a (by decide) (by decide) (by decide) (by decide)),b.dk c e2,fv2,rs2,c2,d2,e.trans e2⟩,f2,fun bb aT t f hb h1 h2 h3 h4=>e2.1.at hb (c.other hb h1 h2 h3 h4)⟩
theorem PU {k:Nat}(h:aP w db s fv rs)(hL:w.heap[lp]?=M (iA db ep))(hG:Gl w ps)(hO:mZ 1000 s (plain rs)):
 H K 128 #[U (M ⟨lp,0,O⟩),I V n,I V (k:Int)] w fun e w'=> ∃v,e=G v/\pY w w' ps db fv rs v (bR s (plain rs) n (k:Int)):=by
 have hl:rs.length<=1000:=by have:=hO.len;rw[bE]at this;exact this
 have hlen:=Aw (n:=n) h hO.inv.sort.1 (by omega);obtain⟨c0,-⟩:=fJ hL;by_cases h1:(aL (plain rs) n).size<=k
 ·have HE:Hid (pY w w ps db fv rs .nilIface (bR s (plain rs) n (k:Int))):=by
   have e:bR s (plain rs) n (k:Int)=(true,s,plain rs):=by unfold bR;rw[if_pos (by omega)]
   rw[e];exact⟨fv,rs,h,rfl,Dk.refl _ _,Or.inl ⟨rfl,rfl⟩⟩
  have Tn:((aL (plain rs) n).size:Int)<=(k:Int):=by omega
  clear h hL hG hO;go_enter Tryz.func128,Tryz.ntmps128
  go_wp2_with (go_at_call 124;refine hlen.mono ?_;rintro e w ⟨rfl,rfl⟩)
  go_ret;exact⟨_,rfl,HE.out⟩
 ·have Tn:¬((aL (plain rs) n).size:Int)<=(k:Int):=by omega
  by_cases h2:k=0
  ·have hR:Hid (H K 127 #[U (M ⟨db,0,O⟩),I V n] w fun e w'=> ∃v,e=G v/\pY w w' ps db fv rs v (bR s (plain rs) n (k:Int))):=by
    rw[h2];exact Jh h hG.uM hO.bK hO.qC hO.inv hl
   have h2':((k:Int)==0)=true:=by rw[beq_iff_eq];omega
   clear h hL hG hO;generalize (aL (plain rs) n).size=z at*;go_enter Tryz.func128,Tryz.ntmps128
   go_wp2_with (first|(go_at_call 124;refine hlen.mono ?_;rintro e w ⟨rfl,rfl⟩)|(go_at_call 127;refine hR.out.mono ?_;rintro e w5 ⟨v,rfl,hv⟩))
   go_ret;exact⟨_,rfl,hv⟩
  ·have hR:Hid (H K 194 #[U (M ⟨db,0,O⟩),I V n,I V (k:Int)] w fun e w'=> ∃v,e=G v/\pY w w' ps db fv rs v (bR s (plain rs) n (k:Int))):=cut_pg h hG.uM hO.bK hO.qC hO.inv hl (by omega) (by omega);have h2':((k:Int)==0)=false:=by rw[beq_eq_false_iff_ne];omega
   clear h hL hG hO;generalize (aL (plain rs) n).size=z at*;go_enter Tryz.func128,Tryz.ntmps128
   go_wp2_with (first|(go_at_call 124;refine hlen.mono ?_;rintro e w ⟨rfl,rfl⟩)|(go_at_call 194;refine hR.out.mono ?_;rintro e w5 ⟨v,rfl,hv⟩))
   go_ret;exact⟨_,rfl,hv⟩
def wL (fs:List bF)(ep:Int):List Int:=(fs.map (fun f=>f.1)).filter (fun n=>n !=1 && n !=2 && n !=10+ep)
def oO (s:Sc)(fs:List bF)(ep j b:Int):Int×Sc×List bF:=
 if (fF s fs (wL fs ep)).1=false then (10,(fF s fs (wL fs ep)).2)else
 if (bR (fF s fs (wL fs ep)).2.1 (fF s fs (wL fs ep)).2.2 (10+ep) j).1=false then (10,(bR (fF s fs (wL fs ep)).2.1 (fF s fs (wL fs ep)).2.2 (10+ep) j).2)else
 (if (bR (bR (fF s fs (wL fs ep)).2.1 (fF s fs (wL fs ep)).2.2 (10+ep) j).2.1 (bR (fF s fs (wL fs ep)).2.1 (fF s fs (wL fs ep)).2.2 (10+ep) j).2.2 1 b).1 then 0 else 10,(bR (bR (fF s fs (wL fs ep)).2.1 (fF s fs (wL fs ep)).2.2 (10+ep) j).2.1 (bR (fF s fs (wL fs ep)).2.1 (fF s fs (wL fs ep)).2.2 (10+ep) j).2.2 1 b).2)
def Br (s:Sc)(fs:List bF)(ep:Int)(ns:List Int)(k:Nat)(s':Sc)(bN:List bF):Prop:=fF s fs (ns.filter (fun n=>n !=1 && n !=2 && n !=10+ep))=fF s' bN ((ns.drop k).filter (fun n=>n !=1 && n !=2 && n !=10+ep))
theorem Br.skip {ns:List Int}{k:Nat}(h:Br s fs ep ns k s' bN)(hk:ns[k]?=M n)(hn:n=1\/n=2\/n=10+ep):Br s fs ep ns (k+1) s' bN:=by
 obtain⟨bV,he⟩:=List.getElem?_eq_some_iff.1 hk;unfold Br at h ⊢;rw[h,List.drop_eq_getElem_cons bV,he,List.filter_cons_of_neg];rcases hn with rfl|rfl|rfl<;>simp
theorem Br.step {ns:List Int}{k:Nat}(h:Br s fs ep ns k s' bN)(hk:ns[k]?=M n)(h1:n≠1)(h2:n≠2)(h3:n≠10+ep):((bR s' bN n 0).1=true->Br s fs ep ns (k+1) (bR s' bN n 0).2.1 (bR s' bN n 0).2.2)/\((bR s' bN n 0).1=false->fF s fs (ns.filter (fun n=>n !=1 && n !=2 && n !=10+ep))=bR s' bN n 0):=by
 obtain⟨bV,he⟩:=List.getElem?_eq_some_iff.1 hk;unfold Br at h ⊢;rw[h,List.drop_eq_getElem_cons bV,he,List.filter_cons_of_pos (by simp[h1,h2,h3])];refine⟨fun e=>?_,fun e=>?_⟩
 ·conv=>lhs;unfold fF
  simp only;rw[if_pos e]
 ·conv=>lhs;unfold fF
  simp only;rw[if_neg (by rw[e];simp)]
theorem tidy_pg {j b:Nat}(h:aP w db s fv rs)(hL:w.heap[lp]?=M (iA db ep))(hG:Gl w ps)(hO:mZ 1000 s (plain rs))(vL:0<=ep)(Ck:ep<=1000):
 H K 83 #[U (M ⟨lp,0,O⟩),I V (j:Int),I V (b:Int)] w fun e w'=> ∃v,e=G v/\lQ w w' ps db fv rs 1 v (oO s (plain rs) ep (j:Int) (b:Int)):=by
 have hl:rs.length<=1000:=by have:=hO.len;rw[bE]at this;exact this
 have hN:=OU h (by omega);obtain⟨c0,-⟩:=fJ hL;have HS:Hid (vS w w ps lp db ep fv rs s (plain rs)):=vS.start h hL hG;have HJ:Hid (∀W s' bN,vS w W ps lp db ep fv rs s' bN->H K 88 #[U (M ⟨lp,0,O⟩)] W fun e w'=>e=G (I V (10+ep))/\w'=W):=fun W s' bN hW=>nR hW.1 vL (by omega)
 have HRm:Hid (∀W s' bN n,vS w W ps lp db ep fv rs s' bN->mZ 1000 s' bN->H K 127 #[U (M ⟨db,0,O⟩),I V n] W fun e w'=> ∃v,e=G v/\vS w w' ps lp db ep fv rs (bR s' bN n 0).2.1 (bR s' bN n 0).2.2/\FV w' ps v (bR s' bN n 0).1/\IB W w'):=fun W s' bN n hW kR=>by
  have Zm:=hW.2.1;obtain⟨dN,dH,k1,rfl,k3⟩:=hW.res;refine(Jh k1 Zm.uM kR.bK kR.qC kR.inv (by have:=kR.len;rw[bE]at this;exact this)).mono ?_;rintro e w' ⟨v,rfl,hr⟩;exact⟨v,rfl,k3 w' v _ hr⟩
 have HSh:Hid (∀W s' bN n (k:Nat),vS w W ps lp db ep fv rs s' bN->mZ 1000 s' bN->H K 128 #[U (M ⟨lp,0,O⟩),I V n,I V (k:Int)] W fun e w'=> ∃v,e=G v/\vS w w' ps lp db ep fv rs (bR s' bN n (k:Int)).2.1 (bR s' bN n (k:Int)).2.2/\FV w' ps v (bR s' bN n (k:Int)).1):=fun W s' bN n k hW kR=>by
  have Zm:=hW.2.1;have hLW:=hW.1;obtain⟨dN,dH,k1,rfl,k3⟩:=hW.res;refine(PU k1 hLW Zm kR).mono ?_;rintro e w' ⟨v,rfl,hr⟩;exact⟨v,rfl,(k3 w' v _ hr).1,(k3 w' v _ hr).2.1⟩
 have HLg:Hid (∀W s' bN v (ok:Bool) D,vS w W ps lp db ep fv rs s' bN->FV W ps v ok->1<=D->lQ w W ps db fv rs D v (if ok then 0 else 10,s',bN)):=fun W s' bN v ok D hW hv hD=>by
  obtain⟨-,-,dN,dH,a,b,c⟩:=hW;refine⟨dN,dH,a,b,c,?_⟩;rcases hv.rH with h|⟨d,k,h1,h2⟩
  ·exact Or.inl h
  ·exact Or.inr ⟨d,k,by omega,h2⟩
 generalize hns:(plain rs).map (fun f=>f.1)=ns at hN;have HNS:Hid ((plain rs).map (fun f=>f.1)=ns):=hns;have hnl:ns.length<=1000:=by rw[<-hns,List.length_map,bE];exact hl
 have HOK:Hid (mZ 1000 s (plain rs)):=hO;clear h hL hG hO hns;go_enter Tryz.func83,Tryz.ntmps83
 go_upto_region 2 with(go_at_call 126;refine hN.mono ?_;rintro e w1 ⟨v1,rfl,cZ,kL⟩;obtain⟨nao,ncap,rfl,hnr,-,hnn,-⟩:=Mh.form cZ)
 have HRow:Hid (∀k n,ns[k]?=M n->∃g off aT,nao=M ⟨g,off,O⟩/\w1.heap[g]?=M (C aT 3 (0,0))/\aT[off+k]?=M (I V n)):=fun k n hk=>by
  obtain⟨bV,he⟩:=List.getElem?_eq_some_iff.1 hk;rcases cZ.2 with⟨e,e2⟩|⟨g,cap,aT,e,-,hh,h4,-,h6,h7⟩
  ·omega
  ·cases e
   refine⟨g,0,aT,rfl,hh,?_⟩;have h8:(ns.map (Value.int V))[k]?=M (I V n):=by rw[List.getElem?_map,hk];rfl
   rw[<-h7,List.getElem?_take]at h8;rw[Nat.zero_add];split at h8
   ·simpa using h8
   ·cases h8
 have HS1:Hid (vS w w1 ps lp db ep fv rs s (plain rs)):=HS.out.aM kL;clear hN hnr cZ kL HS c0 hnn
 go_loopw [8,9,17,22] (fun _ _ i _ wr=> ∃(k:Nat) (s':Sc) (bN:List bF),k<=ns.length/\i=I V (k:Int)/\Hid (Br s (plain rs) ep ns k s' bN)/\Hid (vS w wr ps lp db ep fv rs s' bN)/\Hid (mZ 1000 s' bN)/\Hid (∀(g:Nat) (aT:Array Y),w1.heap[g]?=M (Obj.cells aT 3 (0,0))->wr.heap[g]?=M (Obj.cells aT 3 (0,0)))) (fun _ _ i _ _=>ns.length-(intOf i).toNat)
 case atStart=>exact⟨0,s,plain rs,Nat.zero_le _,rfl,(by show Br _ _ _ _ _ _ _;unfold Br;rw[List.drop_zero]),HS1,HOK,fun _ _ h=>h⟩
 case round=>
  obtain⟨k,s',bN,hk,rfl,HT,HW,HK,HR⟩:=hrel;by_cases bV:k<ns.length
  ·obtain⟨n,hn⟩:∃n,ns[k]?=M n:=⟨_,List.getElem?_eq_getElem bV⟩;obtain⟨g,off,aT,rfl,hg,IC⟩:=HRow.out k n hn;have hcell:wr.cell? ⟨g,off+k,O⟩=M (I V n):=by simp[World.cell?,HR.out g aT hg,IC]
   have i1:(0:Int)<=(k:Int):=by omega
   have i2:(k:Int)<(ns.length:Int):=by omega
   obtain⟨c0,-⟩:=fJ HW.out.1;have hj:=HJ.out wr s' bN HW.out;by_cases e1:n=1
   ·have HT1:Hid (Br s (plain rs) ep ns (k+1) s' bN):=HT.out.skip hn (Or.inl e1);subst e1;clear hn hg IC
    go_wp2_with fail
    go_roundw
    case rel=>exact⟨k+1,s',bN,by omega,by go_num,HT1,HW,HK,HR⟩
    case measure=>simp[intOf];omega
   ·by_cases e2:n=2
    ·have HT1:Hid (Br s (plain rs) ep ns (k+1) s' bN):=HT.out.skip hn (Or.inr (Or.inl e2));subst e2;clear hn hg IC
     go_wp2_with fail
     go_roundw
     case rel=>exact⟨k+1,s',bN,by omega,by go_num,HT1,HW,HK,HR⟩
     case measure=>simp[intOf];omega
    ·have e1':(n==1)=false:=beq_eq_false_iff_ne.2 e1;have e2':(n==2)=false:=beq_eq_false_iff_ne.2 e2;by_cases e3:n=10+ep
     ·have HT1:Hid (Br s (plain rs) ep ns (k+1) s' bN):=HT.out.skip hn (Or.inr (Or.inr e3));have e3':(n==10+ep)=true:=beq_iff_eq.2 e3;clear hn hg IC e3
      go_wp2_with (go_at_call 88;refine hj.mono ?_;rintro e wr ⟨rfl,rfl⟩)
      go_roundw
      case rel=>exact⟨k+1,s',bN,by omega,by go_num,HT1,HW,HK,HR⟩
      case measure=>simp[intOf];omega
     ·have e3':(n==10+ep)=false:=beq_eq_false_iff_ne.2 e3;obtain⟨t1,t2⟩:=HT.out.step hn e1 e2 e3;have hrm:=HRm.out wr s' bN n HW.out HK.out;have HK2:Hid (mZ 1000 (bR s' bN n 0).2.1 (bR s' bN n 0).2.2):=HK.out.cut n (Int.le_refl 0);cases hb:(bR s' bN n 0).1 with
      |true=>
       have HT1:Hid (Br s (plain rs) ep ns (k+1) (bR s' bN n 0).2.1 (bR s' bN n 0).2.2):=t1 hb
       have hrm2:H K 127 #[U (M ⟨db,0,O⟩),I V n] wr fun e w'=>e=G .nilIface/\Hid (vS w w' ps lp db ep fv rs (bR s' bN n 0).2.1 (bR s' bN n 0).2.2)/\Hid (IB wr w'):=hrm.mono (by
        rintro e w' ⟨v,rfl,a,b,c⟩;rw[hb]at b;rcases b with⟨-,rfl⟩|⟨b,-⟩
        ·exact⟨rfl,a,c⟩
        ·cases b)
       clear hrm hb t1 t2 hn hg IC
       go_wp2_with (first|(go_at_call 88;refine hj.mono ?_;rintro e wr ⟨rfl,rfl⟩)|(go_at_call 127;refine hrm2.mono ?_;rintro e w4 ⟨rfl,Tt,hk4⟩))
       go_roundw
       case rel=>exact⟨k+1,_,_,by omega,by go_num,HT1,Tt,HK2,fun g aT hg=>hk4.out g aT 3 (0,0) (HR.out g aT hg) (by decide) (by decide) (by decide) (by decide)⟩
       case measure=>simp[intOf];omega
      |false=>
       have HE:Hid (oO s (plain rs) ep (j:Int) (b:Int)=(10,(bR s' bN n 0).2)):=by
        show _=_;have e:=t2 hb;rw[<-HNS.out]at e;have e':fF s (plain rs) (wL (plain rs) ep)=bR s' bN n 0:=e;unfold oO;rw[e',if_pos hb]
       have hrm2:H K 127 #[U (M ⟨db,0,O⟩),I V n] wr fun e w'=> ∃b0,e=G (.iface 290 (U (M ⟨b0,0,O⟩)))/\Hid (lQ w w' ps db fv rs 1 (.iface 290 (U (M ⟨b0,0,O⟩))) (10,(bR s' bN n 0).2)):=hrm.mono (by
        rintro e w' ⟨v,rfl,a,b,c⟩;rw[hb]at b;have hl:=HLg.out w' _ _ v false 1 a b (Nat.le_refl _);rcases b with⟨b,-⟩|⟨-,b0,nm,num,rfl,-⟩
        ·cases b
        ·exact⟨b0,rfl,hl⟩)
       clear hrm hb t1 t2 hn hg IC
       go_wp2_with (first|(go_at_call 88;refine hj.mono ?_;rintro e wr ⟨rfl,rfl⟩)|(go_at_call 127;refine hrm2.mono ?_;rintro e w4 ⟨b4,rfl,Tt⟩))
       go_ret;rw[HE.out];exact⟨_,rfl,Tt.out⟩
  ·have e1:ns.drop k=[]:=List.drop_eq_nil_of_le (by omega)
   have HC:Hid (fF s (plain rs) (wL (plain rs) ep)=(true,s',bN)):=by
    have:=HT.out;unfold Br at this;rw[e1,<-HNS.out]at this;exact this
   have hj:=HJ.out wr s' bN HW.out;have hsh:=HSh.out wr s' bN (10+ep) j HW.out HK.out;have HK2:Hid (mZ 1000 (bR s' bN (10+ep) (j:Int)).2.1 (bR s' bN (10+ep) (j:Int)).2.2):=HK.out.cut _ (by omega);clear e1 HT HRm;cases hb:(bR s' bN (10+ep) (j:Int)).1 with
   |true=>
    have hsh1:H K 128 #[U (M ⟨lp,0,O⟩),I V (10+ep),I V (j:Int)] wr fun e w'=>e=G .nilIface/\Hid (vS w w' ps lp db ep fv rs (bR s' bN (10+ep) (j:Int)).2.1 (bR s' bN (10+ep) (j:Int)).2.2):=hsh.mono (by
     rintro e w' ⟨v,rfl,a,b⟩;rw[hb]at b;rcases b with⟨-,rfl⟩|⟨b,-⟩
     ·exact⟨rfl,a⟩
     ·cases b)
    have HE:Hid (oO s (plain rs) ep (j:Int) (b:Int)=(if (bR (bR s' bN (10+ep) (j:Int)).2.1 (bR s' bN (10+ep) (j:Int)).2.2 1 (b:Int)).1 then 0 else 10,(bR (bR s' bN (10+ep) (j:Int)).2.1 (bR s' bN (10+ep) (j:Int)).2.2 1 (b:Int)).2)):=by
     show _=_;unfold oO;rw[HC.out];simp only;rw[if_neg (by simp),if_neg (by rw[hb];simp)]
    generalize bR s' bN (10+ep) (j:Int)=r2 at*;clear hsh hb HC
    have HS2:Hid (∀w4,vS w w4 ps lp db ep fv rs r2.2.1 r2.2.2->H K 128 #[U (M ⟨lp,0,O⟩),I V 1,I V (b:Int)] w4 fun e w'=> ∃v,e=G v/\lQ w w' ps db fv rs 1 v (if (bR r2.2.1 r2.2.2 1 (b:Int)).1 then 0 else 10,(bR r2.2.1 r2.2.2 1 (b:Int)).2)):=fun w4 h4=>(HSh.out w4 _ _ 1 b h4 HK2.out).mono (by
     rintro e w' ⟨v,rfl,x,y⟩;exact⟨v,rfl,HLg.out w' _ _ v _ 1 x y (Nat.le_refl _)⟩)
    clear HSh HLg HJ
    go_wp2_with (first|(go_at_call 88;refine hj.mono ?_;clear hj;rintro e wr ⟨rfl,rfl⟩)|(go_at_call 128;refine hsh1.mono ?_;clear hsh1;rintro e w4 ⟨rfl,Tt⟩;have hsh2:=HS2.out w4 Tt.out)|(go_at_call 128;refine hsh2.mono ?_;rintro e w5 ⟨v5,rfl,xE⟩))
    go_ret;rw[HE.out];exact⟨_,rfl,xE⟩
   |false=>
    have hsh1:H K 128 #[U (M ⟨lp,0,O⟩),I V (10+ep),I V (j:Int)] wr fun e w'=> ∃b0,e=G (.iface 290 (U (M ⟨b0,0,O⟩)))/\Hid (lQ w w' ps db fv rs 1 (.iface 290 (U (M ⟨b0,0,O⟩))) (10,(bR s' bN (10+ep) (j:Int)).2)):=hsh.mono (by
     rintro e w' ⟨v,rfl,a,b⟩;rw[hb]at b;have hl:=HLg.out w' _ _ v false 1 a b (Nat.le_refl _);rcases b with⟨b,-⟩|⟨-,b0,nm,num,rfl,-⟩
     ·cases b
     ·exact⟨b0,rfl,hl⟩)
    have HE:Hid (oO s (plain rs) ep (j:Int) (b:Int)=(10,(bR s' bN (10+ep) (j:Int)).2)):=by
     show _=_;unfold oO;rw[HC.out];simp only;rw[if_neg (by simp),if_pos hb]
    clear hsh hb HC HSh HLg HJ
    go_wp2_with (first|(go_at_call 88;refine hj.mono ?_;clear hj;rintro e wr ⟨rfl,rfl⟩)|(go_at_call 128;refine hsh1.mono ?_;rintro e w4 ⟨b4,rfl,Tt⟩))
    go_ret;rw[HE.out];exact⟨_,rfl,Tt.out⟩
end Go.Proofs.YtfplgfodoiiobaaGreatDoor
