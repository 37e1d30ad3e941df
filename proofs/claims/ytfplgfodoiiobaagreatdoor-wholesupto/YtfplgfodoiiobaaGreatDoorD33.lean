/- LgR, LgS, LgT (joined). -/
import Derived.Test.YtfplgfodoiiobaaGreatDoorD32
open Option renaming none→O,some→M
open Go.Value renaming int→I,slice→Z,pointer→U
open Go.IntKind renaming i64→V
open Go.Obj renaming cells→C
open Go.Ending renaming returned→G
open Go renaming World→F,Value→Y,Calls→H
open Go.Proofs.Tryz renaming prog→K
open Go.Proofs.Tryz
namespace Go.Proofs.YtfplgfodoiiobaaGreatDoor
set_option maxHeartbeats 1500000
set_option maxRecDepth 100000
open Go.RowKit
abbrev Acv:=@List.mem_map_of_mem
variable {ep:Int}{qb fb lp db cap n k:Nat}{ad:Addr}{W w:F}{s:Sc}{ps:Nat->Addr}{fv:Y}{rs:List FR}
theorem Lp {l:List Ed}(h:∀e∈l,e.2.1.length<=10000/\e.2.2.length<=10000):(l.flatMap NP).length<=200000*l.length:=by
 induction l with
 |nil=>simp
 |cons e l ih=>
  have h1:=ih (fun e' Im=>h e' (by simp[Im]));have h2:=h e (by simp);rw[AdK,Aah];simp only[NP,Aah,dL,vM,Aao];omega
def Y_ (w:F)(B:Nat)(x:bS)(es:List Ed):Prop:=∃raw:List fP,(∀W,Below B w W->FH W x.1 raw)/\x.2.1=raw.length/\raw.length=es.length/\∀(i:Nat) (r:fP) (e:Ed),raw[i]?=M r->es[i]?=M e->r.1=e.1/\∀W,Below B w W->bH W r.2.1 e.2.1/\bH W r.2.2 e.2.2
theorem Y_.of {w0:F}{x:bS}{es:List Ed}(h:dR w0 x es)(hg:aL w0 w):Y_ w w0.heap.size x es:=by
 obtain⟨raw,h1,h2,-,h4,h5⟩:=h;refine⟨raw,fun W hW=>h1.aN (kV hg hW),h2,h4,fun i r e a b=>⟨(h5 i r e a b).1,fun W hW=>?_⟩⟩;have:=(h5 i r e a b).aN (kV hg hW);exact⟨this.2.1,this.2.2⟩
theorem VN {B:Nat}{v:Y}{l:List UInt8}{x:bS}{es:List Ed}(h:bI w B v l)(hB:B<=w.heap.size)(hx:Y_ w B x es)(hp:∀e∈es,(0<=e.1/\e.1<4294967296)/\(∀p∈e.2.1,(0<=p.1/\p.1<4294967296)/\(0<=p.2/\p.2<4294967296))/\(∀p∈e.2.2,(0<=p.1/\p.1<4294967296)/\(0<=p.2/\p.2<4294967296))/\e.2.1.length<=10000/\e.2.2.length<=10000)(NJ:es.length<=100)(hl:l.length<=100000000):
 H K 146 #[v,x.v] w fun e w'=> ∃v',e=G v'/\bI w' B v' (l++oD es)/\wC w w' v v':=by
 obtain⟨xo,xn,xc⟩:=x;obtain⟨raw,oM,Vz,Gg,NR⟩:=hx;simp only at oM Vz;have hn:xn=es.length:=by omega
 subst hn
 have HR:Hid (∀(k:Nat) (e:Ed),es[k]?=M e->∃r:fP,r.1=e.1/\(∀W,Below B w W->(bH W r.2.1 e.2.1/\bH W r.2.2 e.2.2)/\∃b off,xo=M ⟨b,off,O⟩/\W.cell? ⟨b,off+k*3,O⟩=M (I V r.1)/\W.cell? ⟨b,off+k*3+1,O⟩=M r.2.1.v/\W.cell? ⟨b,off+k*3+2,O⟩=M r.2.2.v)):=fun k e he=>by
  have bP:k<raw.length:=by rw[Gg];exact(Aae.1 he).1
  obtain⟨r,hr⟩:∃r,raw[k]?=M r:=⟨_,Aag bP⟩;refine⟨r,(NR k r e hr he).1,fun W hW=>⟨(NR k r e hr he).2 W hW,?_⟩⟩;rcases(oM W hW).1 with h0|⟨b,off,h0,hc⟩
  ·rw[h0]at bP;simp at bP
  ·obtain⟨e1,e2,e3⟩:=Lj hr;exact⟨b,off,h0,hc _ _ e1,hc _ _ e2,hc _ _ e3⟩
 have HN:Hid (∀W v' (l':List UInt8) n,bI W B v' l'->B<=W.heap.size->0<=n->n<4294967296->l'.length<=900000000->H K 144 #[v',I V n] W fun e w'=> ∃sM,e=G sM/\bI w' B sM (l'++fJ n)/\wC W w' v' sM):=fun W v' l' n h1 h2 h3 h4 h5=>DK h1 h2 h3 h4 h5;have HP:Hid (∀W v' (l':List UInt8) x1 x2 x3 ps,bI W B v' l'->B<=W.heap.size->(∀W',Below B W W'->bH W' (x1,x2,x3) ps)->(∀p∈ps,(0<=p.1/\p.1<4294967296)/\(0<=p.2/\p.2<4294967296))->ps.length<=10000->l'.length<=500000000->H K 145 #[v',Z x1 x2 x3] W fun e w'=> ∃sM,e=G sM/\bI w' B sM (l'++lI ps)/\wC W w' v' sM):=fun W v' l' x1 x2 x3 ps h1 h2 h3 h4 h5 h6=>VL (x:=(x1,x2,x3)) h1 h2 h3 h4 (by omega) h6;have Mg:=HN.out w v l (es.length:Int) h hB (by omega) (by omega) (by omega);obtain⟨ao,cap,ev,-⟩:=bI.form h;have HV:Hid (bI w B v l):=h;subst ev;simp only[bS.v];clear h oM Vz Gg NR;go_enter func146,ntmps146;go_wp2_with (go_at_call 144;refine Mg.mono ?_;rintro e w1 ⟨v1,rfl,Bb,hF1⟩);have HO1:Hid (bI w1 B v1 (l++fJ (es.length:Int))/\wC w w1 (Value.slice ao l.length cap) v1):=⟨Bb,hF1⟩;clear Bb hF1 Mg
 go_loopw [0,6,13] (fun v _ i wr=> ∃k:Nat,k<=es.length/\i=I V (k:Int)/\Hid (bI wr B v (l++fJ (es.length:Int)++(es.take k).flatMap NP)/\wC w wr (Value.slice ao l.length cap) v)) (fun _ _ i _=>es.length-(intOf i).toNat)
 case atStart=>exact⟨0,Aap _,rfl,by simpa using HO1.out.1,HO1.out.2⟩
 case round=>
  obtain⟨k,hk,rfl,HO⟩:=hrel;obtain⟨nI,kX,ev,-⟩:=bI.form HO.out.1;have HBL:Hid (Below B w wr):=HO.out.2.below HV.out hB;have jW:B<=wr.heap.size:=Aam hB HBL.out.size;by_cases bP:k<es.length
  ·obtain⟨e,Hu⟩:∃e,es[k]?=M e:=⟨_,Aag bP⟩;obtain⟨b1,b2,b3,b4,b5⟩:=hp e (Aai Hu)
   have HFL:Hid ((l++fJ (es.length:Int)++(es.take k).flatMap NP).length<=200000000):=by
    have:=Lp (l:=es.take k) (fun e' Im=>(hp e' (AaX Im)).2.2.2);rw[Aaw]at this;show _<=_;rw[Aah,Aah,dL];omega
   obtain⟨r,uP,hrW⟩:=HR.out k e Hu;obtain⟨-,b,off,rfl,d1,d2,d3⟩:=hrW wr HBL.out
   have HNX:Hid ((es.take (k+1)).flatMap NP=(es.take k).flatMap NP++(fJ e.1++lI e.2.1++lI e.2.2)):=by
    show _=_;obtain⟨Rh,he⟩:=Aae.1 Hu;rw[Aau Rh,Ada,he];simp[NP]
   have i1:(0:Int)<=(k:Int):=(by omega);have i2:(k:Int)<(es.length:Int):=(by omega);obtain⟨r1,⟨x1,x2,x3⟩,⟨y1,y2,y3⟩⟩:=r;simp only[bS.v]at d1 d2 d3 uP;subst uP;have HLX:Hid (∀W,Below B wr W->bH W (x1,x2,x3) e.2.1/\bH W (y1,y2,y3) e.2.2):=fun W hW=>(hrW W (kV HBL.out hW)).1;generalize PE:(l++fJ (es.length:Int)++(es.take k).flatMap NP)=L at*;have T_:Hid ((l++fJ (es.length:Int)++(es.take k).flatMap NP)=L):=PE;obtain⟨e1,la,lb⟩:=e;simp only at b1 b2 b3 b4 b5 HLX HNX d1 d2 d3;subst ev;clear PE hrW Hu;have HOA:Hid (bI (wr.alloc (C #[I V e1,Z x1 x2 x3,Z y1 y2 y3] 261)) B (Z nI L.length kX) L):=bI.alloc HO.out.1 _;have Js:=HN.out _ _ L e1 HOA.out (by simp;omega) b1.1 b1.2 (by have:=HFL.out;omega);have HOB:Hid (∀gq,(Value.slice nI L.length kX).ownBlock=M gq->gq<wr.heap.size):=fun gq hgq=>(bI.lt HO.out.1 gq hgq).2;have Ro:Hid (aL wr (wr.alloc (C #[I V e1,Z x1 x2 x3,Z y1 y2 y3] 261))):=(aL.refl wr).alloc _;have qZ:=Aaf wr (C #[I V e1,Z x1 x2 x3,Z y1 y2 y3] 261);go_upto_region 5 with fail;generalize (wr.alloc (C #[I V e1,Z x1 x2 x3,Z y1 y2 y3] 261))=wq at*;have jk:Hid (wq.heap[wr.heap.size]?=M (C #[I V e1,Z x1 x2 x3,Z y1 y2 y3] 261 (0,0))):=qZ;obtain⟨x0,-⟩:=iM qZ;have HSQ:Hid (B<=wq.heap.size):=Aam jW Ro.out.le
   have Wi:Hid (∀w5 v5,bI w5 B v5 (L++fJ e1)->wC wq w5 (Z nI L.length kX) v5->w5.cell? ⟨wr.heap.size,1,O⟩=M (Z x1 x2 x3)/\H K 145 #[v5,Z x1 x2 x3] w5 fun e w'=> ∃sM,e=G sM/\bI w' B sM (L++fJ e1++lI la)/\wC w5 w' v5 sM):=fun w5 v5 h1 h2=>by
    have nJ:=h2.at jk.out (fun e=>by have:=HOB.out _ e;omega);have Qj:=h2.below HOA.out HSQ.out;refine⟨(iM nJ).2.1,HP.out w5 v5 _ x1 x2 x3 la h1 (Aam HSQ.out h2.1.1.1) (fun W hW=>(HLX.out W (kV (kV ⟨Ro.out.os,Ro.out.tape,Ro.out.output,Ro.out.size,fun q hq=>Ro.out.block q (by omega)⟩ Qj) hW)).1) b2 b4 (by rw[Aah,dL];have:=HFL.out;omega)⟩
   have HN3:Hid (∀w5 v5 w6 v6,bI w5 B v5 (L++fJ e1)->wC wq w5 (Z nI L.length kX) v5->bI w6 B v6 (L++fJ e1++lI la)->wC w5 w6 v5 v6->w6.cell? ⟨wr.heap.size,2,O⟩=M (Z y1 y2 y3)/\H K 145 #[v6,Z y1 y2 y3] w6 fun e w'=> ∃sM,e=G sM/\bI w' B sM (L++fJ e1++lI la++lI lb)/\wC w6 w' v6 sM):=fun w5 v5 w6 v6 h1 h2 h3 h4=>by
    have h5:=h2.trans h4;have Gs:=h5.at jk.out (fun e=>by have:=HOB.out _ e;omega);have Qj:=h5.below HOA.out HSQ.out;refine⟨(iM Gs).2.2.1,HP.out w6 v6 _ y1 y2 y3 lb h3 (Aam HSQ.out h5.1.1.1) (fun W hW=>(HLX.out W (kV (kV ⟨Ro.out.os,Ro.out.tape,Ro.out.output,Ro.out.size,fun q hq=>Ro.out.block q (by omega)⟩ Qj) hW)).2) b3 b5 (by rw[Aah,Aah,dL,vM];have:=HFL.out;omega)⟩
   clear qZ d1 d2 d3 HN HP HR;go_upto_region 6 with(go_at_call 144;refine Js.mono ?_;rintro e w5 ⟨v5,rfl,Wy,NK⟩);obtain⟨y1',Ox⟩:=Wi.out w5 v5 Wy NK;clear Js x0 Wi;go_upto_region 7 with(go_at_call 145;refine Ox.mono ?_;rintro e w6 ⟨v6,rfl,hO6,hF6⟩);obtain⟨y2',Pb⟩:=HN3.out w5 v5 w6 v6 Wy NK hO6 hF6;clear Ox y1' HN3;go_wp2_with (go_at_call 145;refine Pb.mono ?_;rintro e w7 ⟨v7,rfl,hO7,hF7⟩);have NQ:Hid (bI w7 B v7 (L++fJ e1++lI la++lI lb)/\wC w w7 (Value.slice ao l.length cap) v7):=⟨hO7,(((HO.out.2.aN Ro.out).trans NK).trans hF6).trans hF7⟩;clear hO6 hF6 NK Wy hO7 hF7 Pb y2';go_roundw
   case rel=>
    refine⟨k+1,by omega,by go_num,?_,NQ.out.2⟩;rw[HNX.out,<-AaJ,<-AaJ,<-AaJ,T_.out];exact NQ.out.1
   case measure=>simp[intOf];omega
  ·have e1:es.take k=es:=Aaq (by omega);subst ev
   have NQ:Hid (bI wr B (Z nI (l++fJ (es.length:Int)++(es.take k).flatMap NP).length kX) (l++oD es)/\wC w wr (Value.slice ao l.length cap) (Z nI (l++fJ (es.length:Int)++(es.take k).flatMap NP).length kX)):=by
    have:=HO.out;refine⟨?_,this.2⟩;have h1:=this.1;have e2:l++fJ (es.length:Int)++(es.take k).flatMap NP=l++oD es:=(by rw[e1];simp[oD]);rw[e2]at h1 ⊢;exact h1
   clear HO;generalize (l++fJ (es.length:Int)++(es.take k).flatMap NP).length=LL at*;go_wp2_with fail;go_ret;exact⟨_,rfl,NQ.out.1,NQ.out.2⟩
def QY (ep dn bf:Int)(k:Nat):List UInt8:=[75]++([ep,dn,bf].take k).flatMap fJ
def NS (ep:Int)(m:dD):List UInt8:=QY ep m.2.2.2.1 m.2.2.2.2 3++lI m.1++oD m.2.1++oD m.2.2.1
def Qc (ep:Int)(m:dD):List UInt8:=NS ep m++fJ (kD (NS ep m))
def KV (p:Int×Int):Prop:=(0<=p.1/\p.1<4294967296)/\(0<=p.2/\p.2<4294967296)
theorem Rq (ep dn bf:Int)(hk:k<=3):(QY ep dn bf k).length=1+4*k:=by
 rcases(by omega:k=0\/k=1\/k=2\/k=3)with rfl|rfl|rfl|rfl<;>rfl
theorem Eh {m:dD}{depth:Nat}(h:eD m depth):(∀p∈m.1,KV p)/\∀e,(e∈m.2.1\/e∈m.2.2.1)->(0<=e.1/\e.1<4294967296)/\(∀p∈e.2.1,KV p)/\(∀p∈e.2.2,KV p)/\e.2.1.length<=10000/\e.2.2.length<=10000:=by
 have hb:=h.Ch
 have key:∀ {l:List (Int×Int)},tQ m.2.2.2.2 l->∀p∈l,KV p:=fun hl p hp=>by
  obtain⟨a,b,c,d⟩:=hl p hp;unfold KV;omega
 have fit:∀(l:List (Int×Int×Int)) (n:Int),n<=5000->(∀x∈l,0<=x.1/\0<=x.2.1/\0<=x.2.2)->lU l n=true->∀x∈l,x.1<=5000/\x.2.1<=5000/\x.2.2<=5000:=by
  intro l
  induction l with
  |nil=>intro n _ _ _ x hx;simp at hx
  |cons y l ih=>
   obtain⟨p,a,b⟩:=y;intro n hn h0 hf x hx;rw[rD]at hf;have h1:=h0 (p,a,b) (by simp);simp only at h1;rcases AaF.1 hx with rfl|hx
   ·simp only;omega
   ·exact ih _ hf.2.1 (fun z hz=>h0 z (by simp[hz])) hf.2.2 x hx
 refine⟨key h.text,fun e he=>?_⟩;rcases he with he|he
 ·obtain⟨q1,q2,q3⟩:=h.jA e he
  have hh:=fit _ _ h.long (fun x hx=>by
   obtain⟨e0,h0,rfl⟩:=AaY.1 hx;obtain⟨r1,r2,r3⟩:=h.jA e0 h0;exact⟨r1,zF r3,zF r2⟩) h.IC (tN e) (Acv he)
  simp only[tN]at hh;have l1:=Nh q2;have l2:=Nh q3;exact⟨⟨q1,by omega⟩,key q2,key q3,by omega,by omega⟩
 ·obtain⟨q1,q2,q3⟩:=h.jO e he
  have hh:=fit _ _ h.long (fun x hx=>by
   obtain⟨e0,h0,rfl⟩:=AaY.1 hx;obtain⟨r1,r2,r3⟩:=h.jO e0 h0;exact⟨r1,zF r2,zF r3⟩) h.XQ (pE e) (Acv he)
  simp only[pE]at hh;have l1:=Nh q2;have l2:=Nh q3;exact⟨⟨q1,by omega⟩,key q2,key q3,by omega,by omega⟩
theorem Xf {m:dD}{depth:Nat}{t u r:bS}(ht:bH w t m.1)(hu:dR w u m.2.1)(hr:dR w r m.2.2.1)(hg:eD m depth)(hd:depth<=100)(yD:0<=ep)(Hu:ep<=1000)(hD:m.2.2.2.1<=4000000000):
 H K 91 #[I V ep,JZ m.2.2.2.1 m.2.2.2.2 t u r] w fun e w'=> ∃v',e=G v'/\bI w' w.heap.size v' (Qc ep m)/\aL w w':=by
 have Sl:=hg.done;have uU:=hg.Dt;have dY:=hg.Ch;have Gh:=hg.few;have Il:=hg.Wq;have Gz:=hg.IB;obtain⟨gp,ge⟩:=Eh hg;obtain⟨t1,t2,t3⟩:=t;obtain⟨u1,u2,u3⟩:=u;obtain⟨r1,r2,r3⟩:=r;have HN:Hid (∀W v' (l':List UInt8) n,bI W w.heap.size v' l'->w.heap.size<=W.heap.size->0<=n->n<4294967296->l'.length<=900000000->H K 144 #[v',I V n] W fun e w'=> ∃sM,e=G sM/\bI w' w.heap.size sM (l'++fJ n)/\wC W w' v' sM):=fun W v' l' n h1 h2 h3 h4 h5=>DK h1 h2 h3 h4 h5;have HP:Hid (∀W v' (l':List UInt8),bI W w.heap.size v' l'->aL w W->l'.length<=100->H K 145 #[v',Z t1 t2 t3] W fun e w'=> ∃sM,e=G sM/\bI w' w.heap.size sM (l'++lI m.1)/\wC W w' v' sM):=fun W v' l' h1 h2 h3=>VL (x:=(t1,t2,t3)) h1 h2.le (fun W' hW=>ht.aN (kV h2 hW)) gp (by omega) (by omega);have HU:Hid (∀W v' (l':List UInt8),bI W w.heap.size v' l'->aL w W->l'.length<=50000->H K 146 #[v',Z u1 u2 u3] W fun e w'=> ∃sM,e=G sM/\bI w' w.heap.size sM (l'++oD m.2.1)/\wC W w' v' sM):=fun W v' l' h1 h2 h3=>VN (x:=(u1,u2,u3)) h1 h2.le (Y_.of hu h2) (fun e he=>ge e (Aac he)) (by omega) (by omega);have HRD:Hid (∀W v' (l':List UInt8),bI W w.heap.size v' l'->aL w W->l'.length<=30000000->H K 146 #[v',Z r1 r2 r3] W fun e w'=> ∃sM,e=G sM/\bI w' w.heap.size sM (l'++oD m.2.2.1)/\wC W w' v' sM):=fun W v' l' h1 h2 h3=>VN (x:=(r1,r2,r3)) h1 h2.le (Y_.of hr h2) (fun e he=>ge e (Aab he)) (by omega) (by omega)
 have HSE:Hid (∀W v' (l':List UInt8),bI W w.heap.size v' l'->aL w W->l'.length<=900000000->H K 147 #[v'] W fun e w'=> ∃sM,e=G sM/\bI w' w.heap.size sM (l'++fJ (kD l'))/\aL w w'):=fun W v' l' h1 h2 h3=>(TJ h1 h2.le h3).mono (by
  rintro e w' ⟨sM,rfl,k1,k2,k3⟩;exact⟨sM,rfl,k1,La h2 h1 k2⟩)
 have HLE:Hid ((oD m.2.1).length<=25000000):=by
  have:=Lp (l:=m.2.1) (fun e he=>(ge e (Aac he)).2.2.2);show _<=_;unfold oD;rw[Aah,dL];omega
 have Qb:Hid (Qc ep m=(QY ep m.2.2.2.1 m.2.2.2.2 3++lI m.1++oD m.2.1++oD m.2.2.1)++fJ (kD (QY ep m.2.2.2.1 m.2.2.2.2 3++lI m.1++oD m.2.1++oD m.2.2.1))):=rfl
 have HLR:Hid ((oD m.2.2.1).length<=25000000):=by
  have:=Lp (l:=m.2.2.1) (fun e he=>(ge e (Aab he)).2.2.2);show _<=_;unfold oD;rw[Aah,dL];omega
 have HLP:Hid ((lI m.1).length<=40000):=by show _<=_;rw[vM];omega
 generalize m.2.2.2.1=dn at*;generalize m.2.2.2.2=bf at*;generalize Qc ep m=CS at*;generalize lI m.1=PB at*;generalize oD m.2.1=UB at*;generalize oD m.2.2.1=RB at*;obtain⟨w3,NM⟩:∃w3,w3=((w.alloc (C #[I V dn,I V bf,Z t1 t2 t3,Z u1 u2 u3,Z r1 r2 r3] 105)).alloc (C #[I .u8 75] 5)).alloc (C #[I V ep,I V dn,I V bf] 3):=⟨_,rfl⟩;have hG3:aL w w3:=by rw[NM];exact(((aL.refl w).alloc _).alloc _).alloc _
 have k1:w3.heap[w.heap.size]?=M (C #[I V dn,I V bf,Z t1 t2 t3,Z u1 u2 u3,Z r1 r2 r3] 105 (0,0)):=by
  rw[NM,Abv _ _ (by simp;omega),Abv _ _ (by simp)];exact Aaf w _
 have k3:w3.heap[w.heap.size+1+1]?=M (C #[I V ep,I V dn,I V bf] 3 (0,0)):=by
  rw[NM];have:=Aaf ((w.alloc (C #[I V dn,I V bf,Z t1 t2 t3,Z u1 u2 u3,Z r1 r2 r3] 105)).alloc (C #[I .u8 75] 5)) (C #[I V ep,I V dn,I V bf] 3);rwa[AaG,AaG]at this
 have HO3:Hid (bI w3 w.heap.size (Z (M ⟨w.heap.size+1,0,O⟩) 1 1) [75]):=by
  have:=Aco (base:=w.heap.size) (e:=5) (size:=1) (w.alloc (C #[I V dn,I V bf,Z t1 t2 t3,Z u1 u2 u3,Z r1 r2 r3] 105)) #[I .u8 75] 1 (by simp) (by unfold maxLen;omega) rfl;rw[AaG]at this;rw[NM];exact bI.of (n:=1) (Aay this _)
 have HK:Hid (∀W v',wC w3 W (Z (M ⟨w.heap.size+1,0,O⟩) 1 1) v'->(W.cell? ⟨w.heap.size,2,O⟩=M (Z t1 t2 t3)/\W.cell? ⟨w.heap.size,3,O⟩=M (Z u1 u2 u3)/\W.cell? ⟨w.heap.size,4,O⟩=M (Z r1 r2 r3))/\(W.cell? ⟨w.heap.size+1+1,0,O⟩=M (I V ep)/\W.cell? ⟨w.heap.size+1+1,1,O⟩=M (I V dn)/\W.cell? ⟨w.heap.size+1+1,2,O⟩=M (I V bf))/\aL w W):=fun W v' hF=>by
  have h1:=hF.at k1 (by simp[Value.ownBlock]);have h3:=hF.at k3 (by simp[Value.ownBlock]);obtain⟨⟨-,-,a2,a3,a4⟩,-⟩:=rH h1;refine⟨⟨a2,a3,a4⟩,by simp[World.cell?,h3],?_⟩;exact kV hG3 (hF.below HO3.out hG3.le)
 unfold JZ;simp only[bS.v];clear ht hu hr hg k1 k3 gp ge;go_enter func91,ntmps91;go_upto_region 3 with fail;rw[<-NM];clear NM
 go_loopw [5,7,16] (fun v _ i wr=> ∃k:Nat,k<=3/\i=I V (k:Int)/\Hid (bI wr w.heap.size v (QY ep dn bf k)/\wC w3 wr (Z (M ⟨w.heap.size+1,0,O⟩) 1 1) v)) (fun _ _ i _=>3-(intOf i).toNat)
 case atStart=>exact⟨0,Aap _,rfl,HO3.out,wC.refl _ _⟩
 case round=>
  obtain⟨k,hk,rfl,HO⟩:=hrel;obtain⟨⟨a2,a3,a4⟩,⟨c0,c1,c2⟩,hGr⟩:=HK.out wr _ HO.out.2;have HGR:Hid (aL w wr):=hGr;clear hGr;by_cases bP:k<3
  ·have Xc:(k:Int)<3:=(by omega);have i1:(0:Int)<=(k:Int):=by omega
   obtain⟨x,hx,hxb,hcx⟩:∃x,QY ep dn bf (k+1)=QY ep dn bf k++fJ x/\(0<=x/\x<4294967296)/\wr.cell? ⟨w.heap.size+1+1,k,O⟩=M (I V x):=by
    rcases(by omega:k=0\/k=1\/k=2)with rfl|rfl|rfl
    ·exact⟨ep,rfl,⟨by omega,by omega⟩,c0⟩
    ·exact⟨dn,rfl,⟨by omega,by omega⟩,c1⟩
    ·exact⟨bf,rfl,⟨by omega,by omega⟩,c2⟩
   have HX:Hid _:=hx;have hn:=HN.out wr _ _ x HO.out.1 HGR.out.le hxb.1 hxb.2 (by rw[Rq _ _ _ hk];omega);obtain⟨nI,kX,ev,-⟩:=bI.form HO.out.1;rw[Rq _ _ _ hk]at ev;subst ev;clear hx c0 c1 c2 a2 a3 a4;go_wp2_with (go_at_call 144;refine hn.mono ?_;rintro e w5 ⟨v5,rfl,Wy,NK⟩);have NQ:Hid (bI w5 w.heap.size v5 (QY ep dn bf k++fJ x)/\wC w3 w5 (Z (M ⟨w.heap.size+1,0,O⟩) 1 1) v5):=⟨Wy,HO.out.2.trans NK⟩;clear Wy NK hn;go_roundw
   case rel=>
    refine⟨k+1,by omega,by go_num,?_,NQ.out.2⟩;rw[HX.out];exact NQ.out.1
   case measure=>simp[intOf];omega
  ·have Xc:¬(k:Int)<3:=(by omega);have e3:k=3:=(by omega);subst e3;have Qu:=Rq ep dn bf (k:=3) (by omega);have HKL:Hid _:=Qu;have hp:=HP.out wr _ _ HO.out.1 HGR.out (by omega);obtain⟨nI,kX,ev,-⟩:=bI.form HO.out.1;rw[Qu]at ev;subst ev
   have HK2:Hid (∀w5 v5,bI w5 w.heap.size v5 (QY ep dn bf 3++PB)->wC w3 w5 (Z (M ⟨w.heap.size+1,0,O⟩) 1 1) v5->w5.cell? ⟨w.heap.size,3,O⟩=M (Z u1 u2 u3)/\H K 146 #[v5,Z u1 u2 u3] w5 fun e w'=> ∃sM,e=G sM/\bI w' w.heap.size sM (QY ep dn bf 3++PB++UB)/\wC w5 w' v5 sM):=fun w5 v5 h1 h2=>by
    obtain⟨⟨-,b3,-⟩,-,eO⟩:=HK.out w5 _ h2;exact⟨b3,HU.out w5 v5 _ h1 eO (by rw[Aah,HKL.out];have:=HLP.out;omega)⟩
   have HK3:Hid (∀w6 v6,bI w6 w.heap.size v6 (QY ep dn bf 3++PB++UB)->wC w3 w6 (Z (M ⟨w.heap.size+1,0,O⟩) 1 1) v6->w6.cell? ⟨w.heap.size,4,O⟩=M (Z r1 r2 r3)/\H K 146 #[v6,Z r1 r2 r3] w6 fun e w'=> ∃sM,e=G sM/\bI w' w.heap.size sM (QY ep dn bf 3++PB++UB++RB)/\wC w6 w' v6 sM):=fun w6 v6 h1 h2=>by
    obtain⟨⟨-,-,b4⟩,-,eO⟩:=HK.out w6 _ h2;exact⟨b4,HRD.out w6 v6 _ h1 eO (by rw[Aah,Aah,HKL.out];have:=HLP.out;have:=HLE.out;omega)⟩
   have HK4:Hid (∀w7 v7,bI w7 w.heap.size v7 (QY ep dn bf 3++PB++UB++RB)->wC w3 w7 (Z (M ⟨w.heap.size+1,0,O⟩) 1 1) v7->H K 147 #[v7] w7 fun e w'=> ∃sM,e=G sM/\bI w' w.heap.size sM CS/\aL w w'):=fun w7 v7 h1 h2=>by
    obtain⟨-,-,eO⟩:=HK.out w7 _ h2;have:=HSE.out w7 v7 _ h1 eO (by rw[Aah,Aah,Aah,HKL.out];have:=HLP.out;have:=HLE.out;have:=HLR.out;omega);rw[<-Qb.out]at this;exact this
   have ZC:Hid (wC w3 wr (Z (M ⟨w.heap.size+1,0,O⟩) 1 1) (Z nI 13 kX)):=HO.out.2;clear Qu HO HK HN HP HU HRD HSE Qb c0 c1 c2 a3 a4;go_upto_region 8 with(go_at_call 145;refine hp.mono ?_;rintro e w5 ⟨v5,rfl,Wy,NK⟩);have hF5':=ZC.out.trans NK;obtain⟨y3,hue⟩:=HK2.out w5 v5 Wy hF5';clear hp a2 NK Wy HK2;go_upto_region 9 with(go_at_call 146;refine hue.mono ?_;rintro e w6 ⟨v6,rfl,hO6,hF6⟩);have hF6':=hF5'.trans hF6;obtain⟨y4,Fe⟩:=HK3.out w6 v6 hO6 hF6';clear hue y3 hF6 hO6 HK3 hF5';go_upto_region 10 with(go_at_call 146;refine Fe.mono ?_;rintro e w7 ⟨v7,rfl,hO7,hF7⟩);have hse:=HK4.out w7 v7 hO7 (hF6'.trans hF7);clear Fe y4 hF7 hO7 HK4 hF6';go_wp2_with (go_at_call 147;refine hse.mono ?_;rintro e w8 ⟨v8,rfl,hO8,hG8⟩);go_ret;exact⟨v8,rfl,hO8,hG8⟩
theorem Z_ {fs:List bC}{n t:Int}(ha:0<=s.after):0<=(lD s fs n t).2.1.after:=by
 unfold lD;split
 ·exact ha
 ·simp only;split
  ·exact tZ ha
  ·exact tZ ha
structure mo (W:F)(qb fb lp db:Nat)(ep:Int)(ad:Addr)(n cap:Nat):Prop where
 lg:W.heap[qb]?=M (C #[U (M ⟨lp,0,O⟩)] 85 (0,0))
 fl:W.heap[fb]?=M (C #[Z (M ad) n cap] 153 (0,0))
 vF:W.heap[lp]?=M (jM db ep)
theorem mo.keep {W':F}(h:mo W qb fb lp db ep ad n cap)(hk:KJ W W'):mo W' qb fb lp db ep ad n cap:=
 ⟨hk _ _ _ _ h.lg (by decide) (by decide) (by decide) (by decide),hk _ _ _ _ h.fl (by decide) (by decide) (by decide) (by decide),hk _ _ _ _ h.vF (by decide) (by decide) (by decide) (by decide)⟩
theorem mo.cells (h:mo W qb fb lp db ep ad n cap):W.cell? ⟨qb,0,O⟩=M (U (M ⟨lp,0,O⟩))/\W.cell? ⟨fb,0,O⟩=M (Z (M ad) n cap)/\W.cell? ⟨lp,0,O⟩=M (U (M ⟨db,0,O⟩))/\W.cell? ⟨lp,1,O⟩=M (I V ep):=by
 obtain⟨h1,h2,h3⟩:=h;exact⟨by simp[World.cell?,h1],by simp[World.cell?,h2],(gU h3).1,(gU h3).2.1⟩
theorem aAa (h:mo W qb fb lp db ep ad n cap)(hD:aU W db s fv rs)(hG:Gl W ps)(hO:pJ 1000 s (plain rs)):
 H K 138 #[U (M ⟨qb,0,O⟩)] W fun e w'=> ∃v,e=G v/\sH W w' ps db fv rs v (bY s (plain rs) 1):=by
 obtain⟨c0,-,c2,-⟩:=h.cells;have hF:Hid (H K 89 #[U (M ⟨db,0,O⟩),I V 1] W fun e w'=> ∃v,e=G v/\sH W w' ps db fv rs v (bY s (plain rs) 1)):=Ub hD hG.xR hO.cK hO.Cu hO.inv (by have:=hO.len;rw[bN]at this;exact this);clear h hD hG hO;go_enter func138,ntmps138;go_wp2_with (go_at_call 89;refine hF.out.mono ?_;rintro e w4 ⟨v,rfl,hv⟩);go_ret;exact⟨v,rfl,hv⟩
theorem aAb (h:mo W qb fb lp db ep ad n cap)(hD:aU W db s fv rs)(hG:Gl W ps)(hO:pJ 1000 s (plain rs)):
 H K 140 #[U (M ⟨qb,0,O⟩)] W fun e w'=> ∃v,e=G v/\sH W w' ps db fv rs v (bY s (plain rs) 3):=by
 obtain⟨c0,-,c2,-⟩:=h.cells;have hF:Hid (H K 89 #[U (M ⟨db,0,O⟩),I V 3] W fun e w'=> ∃v,e=G v/\sH W w' ps db fv rs v (bY s (plain rs) 3)):=Ub hD hG.xR hO.cK hO.Cu hO.inv (by have:=hO.len;rw[bN]at this;exact this);clear h hD hG hO;go_enter func140,ntmps140;go_wp2_with (go_at_call 89;refine hF.out.mono ?_;rintro e w4 ⟨v,rfl,hv⟩);go_ret;exact⟨v,rfl,hv⟩
theorem aAc (h:mo W qb fb lp db ep ad n cap)(hD:aU W db s fv rs)(hG:Gl W ps)(hO:pJ 1000 s (plain rs)):
 H K 141 #[U (M ⟨qb,0,O⟩)] W fun e w'=> ∃v,e=G v/\sH W w' ps db fv rs v (lD s (plain rs) 3 2):=by
 obtain⟨c0,-,c2,-⟩:=h.cells;have hF:Hid (H K 142 #[U (M ⟨db,0,O⟩),I V 3,I V 2] W fun e w'=> ∃v,e=G v/\sH W w' ps db fv rs v (lD s (plain rs) 3 2)):=move_pg hD hG.xR hO.cK hO.Cu hO.inv (by have:=hO.len;rw[bN]at this;exact this);clear h hD hG hO;go_enter func141,ntmps141;go_wp2_with (go_at_call 142;refine hF.out.mono ?_;rintro e w4 ⟨v,rfl,hv⟩);go_ret;exact⟨v,rfl,hv⟩
theorem ZN:∀(args:Array Y) (w:F),(callFunc 127 args).run K w= .ok (.enter 127 args) w:=enters_of func127 (by kernel_rfl) rfl
theorem aAd (h:mo W qb fb lp db ep ad n cap)(hD:aU W db s fv rs)(hG:Gl W ps)(hO:pJ 1000 s (plain rs))(yD:0<=ep)(Hu:ep<=1000):
 H K 143 #[U (M ⟨qb,0,O⟩)] W fun e w'=> ∃v,e=G v/\sH W w' ps db fv rs v (bJ s (plain rs) (10+ep) 0):=by
 obtain⟨c0,-,c2,-⟩:=h.cells
 have HF:Hid (∀W',aL W W'->H K 127 #[U (M ⟨db,0,O⟩),I V (10+ep)] W' fun e w'=> ∃v,e=G v/\sH W w' ps db fv rs v (bJ s (plain rs) (10+ep) 0)):=fun W' hW=>(Np (hD.aN hW) (hG.aN hW).xR hO.cK hO.Cu hO.inv (by have:=hO.len;rw[bN]at this;exact this)).mono (by
  rintro e w' ⟨v,rfl,dV,dP,k1,k2,k3,k4⟩;exact⟨v,rfl,dV,dP,k1,k2,(Dk.bX hW).trans k3,k4⟩)
 have HJ:Hid (∀W',aL W W'->H K 88 #[U (M ⟨lp,0,O⟩)] W' fun e w'=>e=G (I V (10+ep))/\w'=W'):=fun W' hW=>qB ((hW.block _ (aM h.vF)).trans h.vF) yD (by omega);clear h hD hG hO;go_enter func143,ntmps143;go_wp2_with fail
 go_region_law (first
  |(refine cB (by rfl) 88 _ _ (by rfl) _ (by simp[Act.eval,Act.put];done) Oa ((HJ.out _ (by repeat (first|exact aL.refl _|refine aL.drew ?_))).mono ?_);rintro v w' ⟨rfl,rfl⟩;refine⟨_,rfl,?_⟩)|(refine cB (by rfl) 127 _ _ (by rfl) _ (by simp[Act.eval];done) ZN ((HF.out _ (by repeat (first|exact aL.refl _|refine aL.drew ?_))).mono ?_);rintro v wA ⟨vA,rfl,hvA⟩;refine⟨_,rfl,?_⟩))
 all_goals go_wp2_with fail
 all_goals go_ret
 all_goals exact⟨_,rfl,hvA⟩
theorem aAe {b:ByteArray}(h:mo W qb fb lp db ep ad b.size cap)(hD:aU W db s fv rs)(hG:Gl W ps)(hO:pJ 1000 s (plain rs))(uU:b.size≠0)(hb:b.size<=1000000000)(hr:pG W (M ad) b.data.toList)(Ua:∃aS f,W.heap[ad.block]?=M (C aS 5 f)):
 H K 139 #[U (M ⟨qb,0,O⟩),U (M ⟨fb,0,O⟩)] W fun e w'=> ∃v,e=G v/\oC W w' ps db fv rs 1 v (bW s (plain rs) 3 b):=by
 obtain⟨c0,c1,c2,-⟩:=h.cells
 have HF:Hid (∀W',aL W W'->H K 133 #[U (M ⟨db,0,O⟩),I V 3,Z (M ad) b.size cap] W' fun e w'=> ∃v,e=G v/\oC W w' ps db fv rs 1 v (bW s (plain rs) 3 b)):=fun W' hW=>by
  obtain⟨aS,f,Ua⟩:=Ua;refine(xA (n:=3) (cap:=cap) (hD.aN hW) (hG.aN hW).xR hO.cK hO.Cu hO.inv (by have:=hO.len;rw[bN]at this;exact this) uU hb (hr.aN hW) ⟨aS,f,(hW.block _ (aM Ua)).trans Ua⟩).mono ?_;rintro e w' ⟨v,rfl,dV,dP,k1,k2,k3,k4⟩;exact⟨v,rfl,dV,dP,k1,k2,(Dk.bX hW).trans k3,k4.vF⟩
 clear h hD hG hO hr Ua;generalize b.size=bz at*;go_enter func139,ntmps139;go_wp2_with fail
 go_region_law (first
  |(refine cB (by rfl) 133 _ _ (by rfl) _ (by simp[Act.eval];done) Ob ((HF.out _ (by repeat (first|exact aL.refl _|refine aL.drew ?_))).mono ?_);rintro v wA ⟨vA,rfl,hvA⟩;refine⟨_,rfl,?_⟩))
 all_goals go_wp2_with fail
 all_goals go_ret
 all_goals exact⟨_,rfl,hvA⟩
def uV (r:Bool×Sc×List bC):Int×Sc×List bC:=(if r.1 then 0 else 10,r.2)
theorem sH.leg {w':F}{v:Y}{r:Bool×Sc×List bC}(h:sH w w' ps db fv rs v r):oC w w' ps db fv rs 1 v (uV r):=by
 obtain⟨dV,dP,k1,k2,k3,k4⟩:=h;exact⟨dV,dP,k1,k2,k3,k4.vF⟩
def Ei (ep:Int)(b:ByteArray)(s:Sc)(fs:List bC):Nat->Int×Sc×List bC
 |0=>uV (bY s fs 1)
 |1=>bW s fs 3 b
 |2=>uV (bY s fs 3)
 |3=>uV (lD s fs 3 2)
 |_=>uV (bJ s fs (10+ep) 0)
def Qd:Nat->Nat
 |0=>138
 |1=>139
 |2=>140
 |3=>141
 |_=>143
def AB (qb fb:Nat):Nat->Array Y
 |1=>#[U (M ⟨qb,0,O⟩),U (M ⟨fb,0,O⟩)]
 |_=>#[U (M ⟨qb,0,O⟩)]
theorem aAf {b:ByteArray}(hk:k<5)(h:mo W qb fb lp db ep ad b.size cap)(hD:aU W db s fv rs)(hG:Gl W ps)(hO:pJ 1000 s (plain rs))(uU:b.size≠0)(hb:b.size<=1000000000)(hr:pG W (M ad) b.data.toList)(Ua:∃aS f,W.heap[ad.block]?=M (C aS 5 f))(yD:0<=ep)(Hu:ep<=1000):
 H K (Qd k) (AB qb fb k) W fun e w'=> ∃v,e=G v/\oC W w' ps db fv rs 1 v (Ei ep b s (plain rs) k):=by
 rcases(by omega:k=0\/k=1\/k=2\/k=3\/k=4)with rfl|rfl|rfl|rfl|rfl
 ·exact(aAa h hD hG hO).mono (by rintro e w' ⟨v,rfl,hv⟩;exact⟨v,rfl,hv.leg⟩)
 ·exact aAe h hD hG hO uU hb hr Ua
 ·exact(aAb h hD hG hO).mono (by rintro e w' ⟨v,rfl,hv⟩;exact⟨v,rfl,hv.leg⟩)
 ·exact(aAc h hD hG hO).mono (by rintro e w' ⟨v,rfl,hv⟩;exact⟨v,rfl,hv.leg⟩)
 ·exact(aAd h hD hG hO yD Hu).mono (by rintro e w' ⟨v,rfl,hv⟩;exact⟨v,rfl,hv.leg⟩)
theorem e_stepn (k:Nat):∀(args:Array Y) (w:F),(callFunc (Qd k) args).run K w= .ok (.enter (Qd k) args) w:=by
 match k with
 |0=>exact enters_of func138 (by kernel_rfl) rfl
 |1=>exact enters_of func139 (by kernel_rfl) rfl
 |2=>exact enters_of func140 (by kernel_rfl) rfl
 |3=>exact enters_of func141 (by kernel_rfl) rfl
 |k+4=>exact enters_of func143 (by kernel_rfl) rfl
def Bn (qb fb:Nat):Y:= .agg #[.func (.func 138) #[] #[U (M ⟨qb,0,O⟩)],.func (.func 139) #[] #[U (M ⟨qb,0,O⟩),U (M ⟨fb,0,O⟩)],.func (.func 140) #[] #[U (M ⟨qb,0,O⟩)],.func (.func 141) #[] #[U (M ⟨qb,0,O⟩)],.func (.func 143) #[] #[U (M ⟨qb,0,O⟩)]]
theorem aAg (w:F)(hk:k<5):(Instr.index 151 (Bn qb fb) (I V (k:Int))).run K w= .ok (.func (.func (Qd k)) #[] (AB qb fb k)) w:=by
 rcases(by omega:k=0\/k=1\/k=2\/k=3\/k=4)with rfl|rfl|rfl|rfl|rfl<;>rfl
theorem QZ:H K 90 #[U (M ⟨lp,0,O⟩),Z (M ad) n cap] w fun e w'=> ∃qb fb:Nat,e=G (Bn qb fb)/\w'.heap[qb]?=M (C #[U (M ⟨lp,0,O⟩)] 85 (0,0))/\w'.heap[fb]?=M (C #[Z (M ad) n cap] 153 (0,0))/\w.heap.size<=qb/\aL w w':=by
 unfold Bn;go_enter func90,ntmps90;go_wp2_with fail;refine Aan (v:=Bn w.heap.size (w.heap.size+1)) (by simp[results,results90,go_sem,Bn]) rfl ?_
 have h1:(w.alloc (C #[U (M ⟨lp,0,O⟩)] 85)).alloc (C #[Z (M ad) n cap] 153)|>.heap[w.heap.size+1]?=M (C #[Z (M ad) n cap] 153 (0,0)):=by
  have:=Aaf (w.alloc (C #[U (M ⟨lp,0,O⟩)] 85)) (C #[Z (M ad) n cap] 153);rwa[AaG]at this
 refine⟨w.heap.size,w.heap.size+1,rfl,?_,?_,Aak _,(((aL.refl w).alloc _).alloc _).alloc _⟩
 ·rw[Abv _ _ (by simp;omega),Abv _ _ (by simp)];exact Aaf w _
 ·rw[Abv _ _ (by simp)];exact h1
end Go.Proofs.YtfplgfodoiiobaaGreatDoor
