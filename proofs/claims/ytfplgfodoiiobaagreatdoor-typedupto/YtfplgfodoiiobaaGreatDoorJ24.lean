/- LgC, LgD (joined). -/
import Derived.Test.YtfplgfodoiiobaaGreatDoorJ23
open Option renaming none→O,some→M
open Go.Value renaming int→I,slice→Z,pointer→U
open Go.IntKind renaming i64→V
open Go.Obj renaming cells→C
open Go.Ending renaming returned→G
open Go renaming World→F,Value→Y,Calls→H
open Go.Proofs.Tryz renaming prog→K
namespace Go.Proofs.YtfplgfodoiiobaaGreatDoor
set_option maxHeartbeats 4000000
set_option maxRecDepth 100000
open Go.RowKit
variable {s:Sc}{fs:List bE}{ep k:Int}{w:F}{ps:Nat->Addr}{lp db N:Nat}{fv:Y}{rs:List FR}
theorem QJ {d q a b c:Int}{text:ByteArray}(h:aS w db s fv rs)(hL:w.heap[lp]?=M (gT db ep))(hG:Gl w ps)(hO:lY 998 s (plain rs))(_he0:0<=ep)(_he1:ep<=1000)(EG: -9223372036854775808<=d)(MI:d<=9223372036854775807)(hq:0<=q)(zS:q<256)(hd:bQ d)(ha:bQ a)(hb:bQ b)(hc:bQ c)(jq:text.size≠0)(TF:text.size<=1000000)(hE:(dR s (plain rs) 1 text).1≠0):
 H K 87 #[U (M ⟨lp,0,O⟩),I V d,fK q a b c,.string text] w fun e w'=> ∃v,e=G v/\kL w w' ps db fv rs 2 v (dR s (plain rs) 1 text):=by
 have HR:Hid (∀W,H K 134 #[I V d,.agg #[I .u8 q,I V a,I V b,I V c]] W fun e w'=> ∃ad cap,e=G (Z (M ad) 22 cap)/\lZ w' (M ad) (fU q d a b c).data.toList/\(∃aQ f,w'.heap[ad.block]?=M (C aQ 5 f))/\aK W w'):=fun W=>by
  refine(Hg hq zS hd ha hb hc).mono ?_;rintro e w' ⟨v,rfl,cZ,hg⟩;obtain⟨ao,cap,rfl,hr,gG,hn,hx⟩:=bB.form cZ;have jo:(fU q d a b c).data.toList.length=22:=by have:=mQ q d a b c;simpa using this
  cases ao with
  |none=>obtain⟨e,-⟩:=hn rfl;omega
  |some ad=>
   obtain⟨k1,k2,aQ,Ki,hk⟩:=hx ad rfl;rw[jo];exact⟨_,_,rfl,hr,⟨aQ,_,hk⟩,hg⟩
 obtain⟨w1,dU⟩:∃w1,w1=w.alloc (C #[I .u8 q,I V a,I V b,I V c] 99):=⟨_,rfl⟩;have G1:aK w w1:=by rw[dU];exact(aK.refl w).alloc _
 have AX:Nv w1 lp w.heap.size db ep q a b c:=⟨(G1.block _ (aL hL)).trans hL,by rw[dU];exact heap_alloc_new w _⟩;have HI:Hid (H K 132 #[I V d] w1 fun e w'=> ∃s:ByteArray,e=G (.string s)/\s.size<=100/\aK w1 w'):=Vf (hG.aM G1) EG MI;have pW:Hid (aK w w1):=G1;have AY:Hid (Nv w1 lp w.heap.size db ep q a b c):=AX
 have hne:text.toList.isEmpty=false:=by
  rw[ByteArray.toList_eq];cases hz:text.data.toList with
  |nil=>exact absurd (show text.size=0 by have:=congrArg List.length hz;simpa using this) jq
  |cons x l=>rfl
 unfold fK;clear hL AX G1;go_enter Tryz.func87,Tryz.ntmps87
 go_upto_region 1 with fail
 rw[<-dU];clear dU
 go_upto_region 3 with(go_at_call 132;refine HI.out.mono ?_;rintro e w2 ⟨sx,rfl,hsx,jA⟩;have AZ:∀(p:ByteArray) (w:F),p.size<=100->(Op.stringOp .add p sx).run K w= .ok (.string (p++sx)) w:=fun p w hp=>run_string_add_sum w _ _ (by omega);have MJ:=fun w=>AZ ⟨#[99,104,97,110,103,101,32]⟩ w (by decide);clear AZ)
 have BA:Nv w2 lp w.heap.size db ep q a b c:=AY.out.aM jA;obtain⟨x0,x1,x2,x3,x4⟩:=BA.cells;obtain⟨cap,w3,hcv,Jm,wm,jI⟩:=Nt w2 text
 have HA3:Hid (H K 133 #[U (M ⟨db,0,O⟩),I V 1,Z (M ⟨w2.heap.size,0,O⟩) text.size cap] w3 fun e w'=> ∃v,e=G v/\kL w w' ps db fv rs 1 v (dR s (plain rs) 1 text)/\Gl w' ps/\Nv w' lp w.heap.size db ep q a b c):=by
  refine(sI (n:=1) (cap:=cap) (((h.aM pW.out).aM jA).aM jI) (((hG.sM.aM pW.out).aM jA).aM jI) hO.dN hO.Fx hO.inv (by have:=hO.len;rw[bG]at this;omega) jq (by omega) Jm wm).mono ?_;rintro e w' ⟨v,rfl,dI,dH,k1,k2,k3,k4⟩;exact⟨v,rfl,⟨dI,dH,k1,k2,(Dk.bI (pW.out.then (jA.then jI))).trans k3,k4.rP⟩,(((hG.aM pW.out).aM jA).aM jI).dk (((h.aM pW.out).aM jA).aM jI) k3,(BA.aM jI).dk (((h.aM pW.out).aM jA).aM jI) k3⟩
 clear BA Jm wm HI AY
 have HT:Hid (∀W v (sx:ByteArray),kL w W ps db fv rs 1 v (dR s (plain rs) 1 text)->H K 81 #[.string sx,v] W fun e w'=> ∃v',e=G v'/\kL w w' ps db fv rs 2 v' (dR s (plain rs) 1 text)):=fun W v sx hv=>by
  obtain⟨dI,dH,k1,k2,k3,k4⟩:=hv;refine(Az k4).mono ?_;rintro e w' ⟨v',rfl,m1,m2⟩;exact⟨v',rfl,dI,dH,k1.aM m2,k2,k3.Ba m2,m1⟩
 have HE:Hid ((dR s (plain rs) 1 text).1≠0):=hE;clear h hG hO hE
 go_upto_region 4 with(go_at_call 133;refine HA3.out.mono ?_;rintro e w4 ⟨v,rfl,hv,-,-⟩)
 obtain⟨t,bb,rfl⟩:∃t b,v= .iface t (U (M b)):=by obtain⟨dI,dH,k1,k2,k3,k4⟩:=hv;exact k4.yes HE.out
 have Kk:=HT.out w4 _ (⟨#[99,104,97,110,103,101,32]⟩++sx) hv;have HV:Hid (kL w w4 ps db fv rs 1 (.iface t (U (M bb))) (dR s (plain rs) 1 text)):=hv;clear hv HT
 go_wp2_with (go_at_call 81;refine Kk.mono ?_;rintro e w5 ⟨v',rfl,hv'⟩)
 go_ret;exact⟨_,rfl,hv'⟩
theorem QK {d q a b c:Int}{text:ByteArray}(h:aS w db s fv rs)(hL:w.heap[lp]?=M (gT db ep))(hG:Gl w ps)(hO:lY 998 s (plain rs))(uO:0<=ep)(Bb:ep<=1000)(EG: -9223372036854775808<=d)(MI:d<=9223372036854775807)(hq:0<=q)(zS:q<256)(hd:bQ d)(ha:bQ a)(hb:bQ b)(hc:bQ c)(jq:text.size≠0)(TF:text.size<=1000000)(hE:(dR s (plain rs) 1 text).1=0):
 H K 87 #[U (M ⟨lp,0,O⟩),I V d,fK q a b c,.string text] w fun e w'=> ∃v,e=G v/\kL w w' ps db fv rs 2 v (dR (dR s (plain rs) 1 text).2.1 (dR s (plain rs) 1 text).2.2 (10+ep) (fU q d a b c)):=by
 have TD:lY 999 (dR s (plain rs) 1 text).2.1 (dR s (plain rs) 1 text).2.2:=hO.add (by omega) jq;have SV:Hid (∃s2 fs2,s2=(dR s (plain rs) 1 text).2.1/\fs2=(dR s (plain rs) 1 text).2.2):=⟨_,_,rfl,rfl⟩;obtain⟨s2,fs2,es2,ef2⟩:=SV.out;rw[<-es2,<-ef2]at TD ⊢;have HES:Hid (s2=(dR s (plain rs) 1 text).2.1/\fs2=(dR s (plain rs) 1 text).2.2):=⟨es2,ef2⟩;have HE:Hid ((dR s (plain rs) 1 text).1=0):=hE;clear es2 ef2 SV hE
 have HR:Hid (∀W,H K 134 #[I V d,.agg #[I .u8 q,I V a,I V b,I V c]] W fun e w'=> ∃ad cap,e=G (Z (M ad) 22 cap)/\lZ w' (M ad) (fU q d a b c).data.toList/\(∃aQ f,w'.heap[ad.block]?=M (C aQ 5 f))/\aK W w'):=fun W=>by
  refine(Hg hq zS hd ha hb hc).mono ?_;rintro e w' ⟨v,rfl,cZ,hg⟩;obtain⟨ao,cap,rfl,hr,gG,hn,hx⟩:=bB.form cZ;have jo:(fU q d a b c).data.toList.length=22:=by have:=mQ q d a b c;simpa using this
  cases ao with
  |none=>obtain⟨e,-⟩:=hn rfl;omega
  |some ad=>
   obtain⟨k1,k2,aQ,Ki,hk⟩:=hx ad rfl;rw[jo];exact⟨_,_,rfl,hr,⟨aQ,_,hk⟩,hg⟩
 obtain⟨w1,dU⟩:∃w1,w1=w.alloc (C #[I .u8 q,I V a,I V b,I V c] 99):=⟨_,rfl⟩;have G1:aK w w1:=by rw[dU];exact(aK.refl w).alloc _
 have AX:Nv w1 lp w.heap.size db ep q a b c:=⟨(G1.block _ (aL hL)).trans hL,by rw[dU];exact heap_alloc_new w _⟩;have HI:Hid (H K 132 #[I V d] w1 fun e w'=> ∃s:ByteArray,e=G (.string s)/\s.size<=100/\aK w1 w'):=Vf (hG.aM G1) EG MI;have pW:Hid (aK w w1):=G1;have AY:Hid (Nv w1 lp w.heap.size db ep q a b c):=AX
 have hne:text.toList.isEmpty=false:=by
  rw[ByteArray.toList_eq];cases hz:text.data.toList with
  |nil=>exact absurd (show text.size=0 by have:=congrArg List.length hz;simpa using this) jq
  |cons x l=>rfl
 unfold fK;clear hL AX G1;go_enter Tryz.func87,Tryz.ntmps87
 go_upto_region 1 with fail
 rw[<-dU];clear dU
 go_upto_region 3 with(go_at_call 132;refine HI.out.mono ?_;rintro e w2 ⟨sx,rfl,hsx,jA⟩;have AZ:∀(p:ByteArray) (w:F),p.size<=100->(Op.stringOp .add p sx).run K w= .ok (.string (p++sx)) w:=fun p w hp=>run_string_add_sum w _ _ (by omega);have MJ:=fun w=>AZ ⟨#[99,104,97,110,103,101,32]⟩ w (by decide);clear AZ)
 have BA:Nv w2 lp w.heap.size db ep q a b c:=AY.out.aM jA;obtain⟨x0,x1,x2,x3,x4⟩:=BA.cells;obtain⟨cap,w3,hcv,Jm,wm,jI⟩:=Nt w2 text
 have HA3:Hid (H K 133 #[U (M ⟨db,0,O⟩),I V 1,Z (M ⟨w2.heap.size,0,O⟩) text.size cap] w3 fun e w'=> ∃v,e=G v/\kL w w' ps db fv rs 1 v (dR s (plain rs) 1 text)/\Gl w' ps/\Nv w' lp w.heap.size db ep q a b c):=by
  refine(sI (n:=1) (cap:=cap) (((h.aM pW.out).aM jA).aM jI) (((hG.sM.aM pW.out).aM jA).aM jI) hO.dN hO.Fx hO.inv (by have:=hO.len;rw[bG]at this;omega) jq (by omega) Jm wm).mono ?_;rintro e w' ⟨v,rfl,dI,dH,k1,k2,k3,k4⟩;exact⟨v,rfl,⟨dI,dH,k1,k2,(Dk.bI (pW.out.then (jA.then jI))).trans k3,k4.rP⟩,(((hG.aM pW.out).aM jA).aM jI).dk (((h.aM pW.out).aM jA).aM jI) k3,(BA.aM jI).dk (((h.aM pW.out).aM jA).aM jI) k3⟩
 clear BA Jm wm HI AY;clear h hG hO
 go_upto_region 4 with(go_at_call 133;refine HA3.out.mono ?_;rintro e w4 ⟨v,rfl,hv,SN,BA⟩)
 clear jA jI hcv;obtain⟨fv2,wo,ru,L_,VR,hv2⟩:=hv;rw[HE.out]at hv2;obtain rfl:=hv2.no;rw[<-HES.out.1]at ru;rw[<-HES.out.2]at L_;subst L_;have HWB:Hid (Nv w4 lp w.heap.size db ep q a b c):=BA;have HJ:Hid (∀W,aK w4 W->H K 88 #[U (M ⟨lp,0,O⟩)] W fun e w'=>e=G (I V (10+ep))/\w'=W):=fun W hW=>mP (BA.aM hW).1 uO (by omega)
 have HA:Hid (∀W ad cap,aK w4 W->lZ W (M ad) (fU q d a b c).data.toList->(∃aQ f,W.heap[ad.block]?=M (C aQ 5 f))->H K 133 #[U (M ⟨db,0,O⟩),I V (10+ep),Z (M ad) 22 cap] W fun e w'=> ∃v,e=G v/\kL w w' ps db fv rs 1 v (dR s2 (plain wo) (10+ep) (fU q d a b c))):=fun W ad cap hW hr ht=>by
  have jo:=mQ q d a b c;have:=sI (n:=10+ep) (cap:=cap) (ru.aM hW) (SN.sM.aM hW) TD.dN TD.Fx TD.inv (by have:=TD.len;rw[bG]at this;omega) (by omega) (by omega) hr ht;rw[jo]at this;refine this.mono ?_;rintro e w' ⟨v,rfl,dI,dH,k1,k2,k3,k4⟩;exact⟨v,rfl,dI,dH,k1,k2,VR.trans ((Dk.bI hW).trans k3),k4.rP⟩
 have HT:Hid (∀W v (sx:ByteArray),kL w W ps db fv rs 1 v (dR s2 (plain wo) (10+ep) (fU q d a b c))->H K 81 #[.string sx,v] W fun e w'=> ∃v',e=G v'/\kL w w' ps db fv rs 2 v' (dR s2 (plain wo) (10+ep) (fU q d a b c))):=fun W v sx hv=>by
  obtain⟨dI,dH,k1,k2,k3,k4⟩:=hv;refine(Az k4).mono ?_;rintro e w' ⟨v',rfl,m1,m2⟩;exact⟨v',rfl,dI,dH,k1.aM m2,k2,k3.Ba m2,m1⟩
 obtain⟨y0,y1,y2,y3,y4⟩:=BA.cells;clear BA ru SN TD pW HA3 x0 x1 x2 x3 x4 VR
 go_upto_region 6 with fail
 go_region_law (first
  |(refine bK (by rfl) 88 _ _ (by rfl) _ (by simp[Act.eval,Act.put];done) Ia ((HJ.out _ (by repeat (first|exact aK.refl _|exact hgR|refine aK.drew ?_))).mono ?_);rintro v w' ⟨rfl,rfl⟩;refine⟨_,rfl,?_⟩)|(refine bK (by rfl) 134 _ _ (by rfl) _ (by simp[Act.eval];done) AV ((HR.out _).mono ?_);rintro v wR ⟨ad,cap,rfl,hrR,htR,hgR'⟩;have hgR:aK w4 wR:=aK.then (by repeat (first|exact aK.refl _|refine aK.drew ?_)) hgR';obtain⟨z0,z1,z2,z3,z4⟩:=(Nv.aM HWB.out hgR).cells;refine⟨_,rfl,?_⟩)|(refine bK (by rfl) 133 _ _ (by rfl) _ (by simp[Act.eval];done) Ib ((HA.out _ ad cap hgR hrR htR).mono ?_);rintro v wA ⟨vA,rfl,hvA⟩;refine⟨_,rfl,?_⟩)|(refine bK (by rfl) 81 _ _ (by rfl) _ (by simp[Act.eval];done) e_at ((HT.out wA vA (⟨#[99,104,97,110,103,101,32]⟩++sx) hvA).mono ?_);rintro v wT ⟨vT,rfl,hvT⟩;refine⟨_,rfl,?_⟩))
 all_goals go_wp2_with fail
 all_goals go_ret
 all_goals exact⟨_,rfl,hvT⟩
theorem QL {n:Int}(ha:0<=s.after):0<=(bV s fs n).2.1.after:=by
 unfold bV;split
 ·exact ha
 ·simp only;split
  ·exact pY ha
  ·exact pY ha
theorem wu {n:Int}(ha:0<=s.after):0<=(bW s fs n k).2.1.after:=by
 unfold bW;split
 ·exact ha
 ·simp only;split
  ·exact pY ha
  ·exact pY ha
theorem lY.flush (h:lY N s fs)(n:Int):lY N (bV s fs n).2.1 (bV s fs n).2.2:=by
 have ha:=QL (fs:=fs) (n:=n) h.Fx;have hl:=h.len;rcases zW h.dN h.inv n with⟨s',bZ,e,hd,hI,hle,-⟩|⟨s',bZ,e,hd⟩
 ·rw[e]at ha ⊢;exact⟨hd.2.2.2,ha,hI.room hd.1.2.2.1,by simp only;omega⟩
 ·rw[e]at ha ⊢;exact⟨hd.2.2.1,ha,hd.2.2.2.1.room hd.1.2.2.1,by have:=hd.2.2.2.2;simp only;omega⟩
theorem Jo (f:bE):∀l:List bE,pQ l->(∃g∈l,g.1=f.1)->(iN l f).length=l.length
 | [],_,h=>by obtain⟨g,hg,-⟩:=h;simp at hg
 |g::r,hs,h=>by
  unfold pQ at hs;rw[List.pairwise_cons]at hs;obtain⟨x,hx,ex⟩:=h;unfold iN;split
  ·rename_i bS;rcases List.mem_cons.1 hx with rfl|hx
   ·omega
   ·have:=hs.1.1 x hx;omega
  ·split
   ·simp
   ·rename_i h1 h2;rcases List.mem_cons.1 hx with rfl|hx
    ·exact absurd ex h2
    ·have:=Jo f r ⟨hs.1.2,fun y hy=>hs.2 y (List.mem_cons_of_mem _ hy)⟩ ⟨x,hx,ex⟩;simp[this]
theorem wz {room:Int}(h:eO room fs)(n:Int)(hk:0<=k)(VR:k<((aN fs n).size:Int)):(Gs fs n k).length<=fs.length:=by
 unfold Gs;split
 ·exact List.length_filter_le _ _
 ·refine Nat.le_of_eq (Jo _ fs h.sort ?_);cases hf:eF fs n with
  |none=>
   have hb:aN fs n=⟨#[]⟩:=by
    have hp:=Dt fs n;rw[hf]at hp;unfold aN;cases hq:wG fs n with
    |none=>rfl
    |some i=>
     rw[hq]at hp;simp only[Option.bind_some]at hp;simp[hp]
   rw[hb]at VR;have:((⟨#[]⟩:ByteArray).size:Int)=0:=rfl;omega
  |some f=>
   unfold eF at hf;exact⟨f,List.mem_of_find?_eq_some hf,by simpa using List.find?_some hf⟩
theorem lY.cut (h:lY N s fs)(n:Int)(hk:0<=k):lY N (bW s fs n k).2.1 (bW s fs n k).2.2:=by
 have ha:=wu (fs:=fs) (n:=n) (k:=k) h.Fx;have hl:=h.len;rcases Ke h.dN h.inv n hk with⟨-,e⟩|⟨VR,s',e,hd,hI⟩|⟨-,s',bZ,e,hd⟩
 ·rw[e]at ha ⊢;exact⟨h.dN,ha,h.inv,hl⟩
 ·rw[e]at ha ⊢;exact⟨hd.2.2.2,ha,hI.room hd.1.2.2.1,by have:=wz h.inv n hk VR;simp only;omega⟩
 ·rw[e]at ha ⊢;exact⟨hd.2.2.1,ha,hd.2.2.2.1.room hd.1.2.2.1,by have:=hd.2.2.2.2;simp only;omega⟩
def qA (s:Sc)(fs:List bE)(ep:Int):Nat->Bool×Sc×List bE
 |0=>(true,s,fs)
 |k+1=>bV (qA s fs ep k).2.1 (qA s fs ep k).2.2 (if k=0 then 1 else 10+ep)
def oK (s:Sc)(fs:List bE)(ep:Int):Int×Sc×List bE:=
 if (qA s fs ep 1).1=false then (10,(qA s fs ep 1).2)else (if (qA s fs ep 2).1 then 0 else 10,(qA s fs ep 2).2)
theorem XF (h:lY N s fs):∀k,lY N (qA s fs ep k).2.1 (qA s fs ep k).2.2
 |0=>h
 |k+1=>(XF h k).flush _
def SyB (w wr:F)(ps:Nat->Addr)(lp rb db:Nat)(ep:Int)(fv:Y)(rs:List FR)(s':Sc)(bZ:List bE):Prop:=
 wr.heap[lp]?=M (gT db ep)/\wr.heap[rb]?=M (C #[I V 1,I V (10+ep)] 3 (0,0))/\Gl wr ps/\∃dI dH,aS wr db s' dI dH/\plain dH=bZ/\Dk w wr (DX db fv rs) (DX db dI dH)
theorem xg (h:aS w db s fv rs)(hL:w.heap[lp]?=M (gT db ep))(hG:Gl w ps)(hO:lY 1000 s (plain rs))(uO:0<=ep)(Bb:ep<=1000):
 H K 55 #[U (M ⟨lp,0,O⟩)] w fun e w'=> ∃v,e=G v/\kL w w' ps db fv rs 2 v (oK s (plain rs) ep):=by
 have hJ:=mP hL uO (by omega)
 have HS:Hid (SyB w (w.alloc (C #[I V 1,I V (10+ep)] 3)) ps lp w.heap.size db ep fv rs s (plain rs)):=by
  have g:=(aK.refl w).alloc (C #[I V 1,I V (10+ep)] 3);exact⟨(g.block _ (aL hL)).trans hL,heap_alloc_new w _,hG.aM g,fv,rs,h.aM g,rfl,Dk.bI g⟩
 have HF:Hid (∀wr s' bZ n,SyB w wr ps lp w.heap.size db ep fv rs s' bZ->lY 1000 s' bZ->H K 89 #[U (M ⟨db,0,O⟩),I V n] wr fun e w'=> ∃v,e=G v/\SyB w w' ps lp w.heap.size db ep fv rs (bV s' bZ n).2.1 (bV s' bZ n).2.2/\Zv w' ps v (bV s' bZ n).1):=fun wr s' bZ n hs kV=>by
  obtain⟨a1,a2,a3,dI,dH,a4,rfl,a6⟩:=hs;refine(Nc a4 a3.sM kV.dN kV.Fx kV.inv (by have:=kV.len;rw[bG]at this;omega)).mono ?_;rintro e w' ⟨v,rfl,fv2,wo,b1,b2,b3,b4⟩;exact⟨v,rfl,⟨b3.1.at a1 (a4.other a1 (by decide) (by decide) (by decide) (by decide)),b3.1.at a2 (a4.other a2 (by decide) (by decide) (by decide) (by decide)),a3.dk a4 b3,fv2,wo,b1,b2,a6.trans b3⟩,b4⟩
 have HO:=XF (ep:=ep) hO;clear h hG hO;go_enter Tryz.func55,Tryz.ntmps55
 go_wp2_with (go_at_call 88;refine hJ.mono ?_;rintro e w ⟨rfl,rfl⟩)
 go_loopw [4,5,10] (fun _ _ i wr=> ∃k:Nat,k<=2/\i=I V (k:Int)/\Hid (∀j,j<=k->(qA s (plain rs) ep j).1=true)/\Hid (SyB w wr ps lp w.heap.size db ep fv rs (qA s (plain rs) ep k).2.1 (qA s (plain rs) ep k).2.2)) (fun _ _ i _=>2-(intOf i).toNat)
 case atStart=>exact⟨0,Nat.zero_le _,rfl,(fun j hj=>by have e:j=0:=(by omega);subst e;rfl),HS⟩
 case round=>
  obtain⟨k,hk,rfl,HT,HW⟩:=hrel;by_cases bS:k<2
  ·have Qx:(k:Int)<2:=by omega
   have h0:(0:Int)<=(k:Int):=by omega
   obtain⟨c0,-⟩:=fF HW.out.1
   have hcell:wr.cell? ⟨w.heap.size,k,O⟩=M (I V (if k=0 then 1 else 10+ep)):=by
    have:=HW.out.2.1;have e:k=0\/k=1:=by omega
    rcases e with rfl|rfl<;>simp[World.cell?,this]
   have dZ:=HF.out wr _ _ (if k=0 then 1 else 10+ep) HW.out (HO k);have HN:Hid (qA s (plain rs) ep (k+1)=bV (qA s (plain rs) ep k).2.1 (qA s (plain rs) ep k).2.2 (if k=0 then 1 else 10+ep)):=rfl;rw[<-HN.out]at dZ;generalize (if k=0 then (1:Int)else 10+ep)=nn at hcell dZ;cases hb:(qA s (plain rs) ep (k+1)).1 with
   |true=>
    have xh:Hid (∀j,j<=k+1->(qA s (plain rs) ep j).1=true):=fun j hj=>by
     by_cases e:j=k+1
     ·rw[e];exact hb
     ·exact HT.out j (by omega)
    have IQ:H K 89 #[U (M ⟨db,0,O⟩),I V nn] wr fun e w'=>e=G .nilIface/\Hid (SyB w w' ps lp w.heap.size db ep fv rs (qA s (plain rs) ep (k+1)).2.1 (qA s (plain rs) ep (k+1)).2.2):=dZ.mono (by
     rintro e w' ⟨v,rfl,a,b⟩;rw[hb]at b;rcases b with⟨-,rfl⟩|⟨b,-⟩
     ·exact⟨rfl,a⟩
     ·cases b)
    clear dZ hb HF HO HS hJ hL
    go_wp2_with (go_at_call 89;refine IQ.mono ?_;rintro e w4 ⟨rfl,Qe⟩)
    go_roundw
    case rel=>exact⟨k+1,by omega,by go_num,xh,Qe⟩
    case measure=>simp[intOf];omega
   |false=>
    have HR:Hid (oK s (plain rs) ep=(10,(qA s (plain rs) ep (k+1)).2)):=by
     show _=_;unfold oK;have e:k=0\/k=1:=by omega
     rcases e with rfl|rfl
     ·rw[if_pos hb]
     ·have h1:=HT.out 1 (by omega);rw[if_neg (by rw[h1];simp),hb];rfl
    have IQ:H K 89 #[U (M ⟨db,0,O⟩),I V nn] wr fun e w'=> ∃b,e=G (.iface 290 (U (M ⟨b,0,O⟩)))/\Hid (kL w w' ps db fv rs 1 (.iface 290 (U (M ⟨b,0,O⟩))) (10,(qA s (plain rs) ep (k+1)).2)):=dZ.mono (by
     rintro e w' ⟨v,rfl,a,b⟩;rw[hb]at b;have hl:=b.rP;rcases b with⟨b,-⟩|⟨-,b0,nm,num,rfl,-⟩
     ·cases b
     ·obtain⟨-,-,-,dI,dH,a4,a5,a6⟩:=a;exact⟨b0,rfl,dI,dH,a4,a5,a6,hl⟩)
    have HA:Hid (∀W b,kL w W ps db fv rs 1 (.iface 290 (U (M ⟨b,0,O⟩))) (10,(qA s (plain rs) ep (k+1)).2)->H K 81 #[.string ⟨#[115,121,110,99]⟩,.iface 290 (U (M ⟨b,0,O⟩))] W fun e w'=> ∃v',e=G v'/\kL w w' ps db fv rs 2 v' (10,(qA s (plain rs) ep (k+1)).2)):=fun W b hv=>by
     obtain⟨dI,dH,k1,k2,k3,k4⟩:=hv;refine(Az k4).mono ?_;rintro e w' ⟨v',rfl,m1,m2⟩;exact⟨v',rfl,dI,dH,k1.aM m2,k2,k3.Ba m2,m1⟩
    clear dZ hb HF HO HS hJ hL
    go_wp2_with (first|(go_at_call 89;refine IQ.mono ?_;rintro e w4 ⟨b4,rfl,Qe⟩)|(go_at_call 81;refine(HA.out _ _ Qe.out).mono ?_;rintro e w5 ⟨v5,rfl,hv5⟩))
    go_ret;rw[HR.out];exact⟨_,rfl,hv5⟩
  ·have e2:k=2:=by omega
   subst e2
   have HR:Hid (oK s (plain rs) ep=(0,(qA s (plain rs) ep 2).2)):=by
    show _=_;unfold oK;have h1:=HT.out 1 (by omega);have h2:=HT.out 2 (by omega);rw[if_neg (by rw[h1];simp),h2];rfl
   have HV:Hid (kL w wr ps db fv rs 2 .nilIface (0,(qA s (plain rs) ep 2).2)):=by
    obtain⟨-,-,-,dI,dH,a4,a5,a6⟩:=HW.out;exact⟨dI,dH,a4,a5,a6,Or.inl ⟨rfl,rfl⟩⟩
   clear HF HO HS hJ hL HW
   go_wp2_with fail
   go_ret;rw[HR.out];exact⟨_,rfl,HV.out⟩
end Go.Proofs.YtfplgfodoiiobaaGreatDoor
