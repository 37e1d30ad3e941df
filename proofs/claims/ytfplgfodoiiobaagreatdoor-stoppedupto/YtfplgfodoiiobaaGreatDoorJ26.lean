/- LgR, LgS (joined). -/
import Derived.Test.YtfplgfodoiiobaaGreatDoorJ25
open Option renaming none→O,some→M
open Go.Value renaming int→I,slice→Z
open Go.IntKind renaming i64→V
open Go.Obj renaming cells→C
open Go.Ending renaming returned→G
open Go renaming World→F,Value→Y,Calls→H
open Go.Proofs.Tryz renaming prog→K
namespace Go.Proofs.YtfplgfodoiiobaaGreatDoor
set_option maxHeartbeats 1500000
set_option maxRecDepth 100000
open Go.RowKit
variable {w:F}
theorem Gt {l:List Ed}(h:∀e∈l,e.2.1.length<=10000/\e.2.2.length<=10000):(l.flatMap Zv).length<=200000*l.length:=by
 induction l with
 |nil=>simp
 |cons e l ih=>
  have h1:=ih (fun e' Fq=>h e' (by simp[Fq]));have h2:=h e (by simp);rw[List.flatMap_cons,List.length_append];simp only[Zv,List.length_append,bO,sH,List.length_cons];omega
def xg (w:F)(B:Nat)(x:gN)(es:List Ed):Prop:=∃raw:List iB,(∀W,Below B w W->DJ W x.1 raw)/\x.2.1=raw.length/\raw.length=es.length/\∀(i:Nat) (r:iB) (e:Ed),raw[i]?=M r->es[i]?=M e->r.1=e.1/\∀W,Below B w W->bI W r.2.1 e.2.1/\bI W r.2.2 e.2.2
theorem xg.of {w0:F}{x:gN}{es:List Ed}(h:dG w0 x es)(hg:aJ w0 w):xg w w0.heap.size x es:=by
 obtain⟨raw,h1,h2,-,h4,h5⟩:=h;refine⟨raw,fun W hW=>h1.aM (jC hg hW),h2,h4,fun i r e a b=>⟨(h5 i r e a b).1,fun W hW=>?_⟩⟩;have:=(h5 i r e a b).aM (jC hg hW);exact⟨this.2.1,this.2.2⟩
theorem UL {B:Nat}{v:Y}{l:List UInt8}{x:gN}{es:List Ed}(h:bC w B v l)(hB:B<=w.heap.size)(hx:xg w B x es)(hp:∀e∈es,(0<=e.1/\e.1<4294967296)/\(∀p∈e.2.1,(0<=p.1/\p.1<4294967296)/\(0<=p.2/\p.2<4294967296))/\(∀p∈e.2.2,(0<=p.1/\p.1<4294967296)/\(0<=p.2/\p.2<4294967296))/\e.2.1.length<=10000/\e.2.2.length<=10000)(WQ:es.length<=100)(hl:l.length<=100000000):
 H K 146 #[v,x.v] w fun e w'=> ∃v',e=G v'/\bC w' B v' (l++nU es)/\tC w w' v v':=by
 obtain⟨xo,xn,xc⟩:=x;obtain⟨raw,ay,hx2,hx3,hx4⟩:=hx;simp only at ay hx2;have hn:xn=es.length:=by omega
 subst hn
 have HR:Hid (∀(k:Nat) (e:Ed),es[k]?=M e->∃r:iB,r.1=e.1/\(∀W,Below B w W->(bI W r.2.1 e.2.1/\bI W r.2.2 e.2.2)/\∃b off,xo=M ⟨b,off,O⟩/\W.cell? ⟨b,off+k*3,O⟩=M (I V r.1)/\W.cell? ⟨b,off+k*3+1,O⟩=M r.2.1.v/\W.cell? ⟨b,off+k*3+2,O⟩=M r.2.2.v)):=fun k e he=>by
  have bV:k<raw.length:=by rw[hx3];exact(List.getElem?_eq_some_iff.1 he).1
  obtain⟨r,hr⟩:∃r,raw[k]?=M r:=⟨_,List.getElem?_eq_getElem bV⟩;refine⟨r,(hx4 k r e hr he).1,fun W hW=>⟨(hx4 k r e hr he).2 W hW,?_⟩⟩;rcases(ay W hW).1 with h0|⟨b,off,h0,hc⟩
  ·rw[h0]at bV;simp at bV
  ·obtain⟨e1,e2,e3⟩:=Gp hr;exact⟨b,off,h0,hc _ _ e1,hc _ _ e2,hc _ _ e3⟩
 have HN:Hid (∀W v' (l':List UInt8) n,bC W B v' l'->B<=W.heap.size->0<=n->n<4294967296->l'.length<=900000000->H K 144 #[v',I V n] W fun e w'=> ∃qF,e=G qF/\bC w' B qF (l'++dV n)/\tC W w' v' qF):=fun W v' l' n h1 h2 h3 h4 h5=>Zw h1 h2 h3 h4 h5
 have HP:Hid (∀W v' (l':List UInt8) x1 x2 x3 ps,bC W B v' l'->B<=W.heap.size->(∀W',Below B W W'->bI W' (x1,x2,x3) ps)->(∀p∈ps,(0<=p.1/\p.1<4294967296)/\(0<=p.2/\p.2<4294967296))->ps.length<=10000->l'.length<=500000000->H K 145 #[v',Z x1 x2 x3] W fun e w'=> ∃qF,e=G qF/\bC w' B qF (l'++qE ps)/\tC W w' v' qF):=fun W v' l' x1 x2 x3 ps h1 h2 h3 h4 h5 h6=>UK (x:=(x1,x2,x3)) h1 h2 h3 h4 (by omega) h6
 have Yo:=HN.out w v l (es.length:Int) h hB (by omega) (by omega) (by omega);obtain⟨ao,cap,ev,-⟩:=bC.form h;have HV:Hid (bC w B v l):=h;subst ev;simp only[gN.v];clear h ay hx2 hx3 hx4;go_enter Tryz.func146,Tryz.ntmps146
 go_wp2_with (go_at_call 144;refine Yo.mono ?_;rintro e w1 ⟨v1,rfl,xL,hF1⟩)
 have HO1:Hid (bC w1 B v1 (l++dV (es.length:Int))/\tC w w1 (Value.slice ao l.length cap) v1):=⟨xL,hF1⟩;clear xL hF1 Yo
 go_loopw [0,6,13] (fun v _ i wr=> ∃k:Nat,k<=es.length/\i=I V (k:Int)/\Hid (bC wr B v (l++dV (es.length:Int)++(es.take k).flatMap Zv)/\tC w wr (Value.slice ao l.length cap) v)) (fun _ _ i _=>es.length-(intOf i).toNat)
 case atStart=>exact⟨0,Nat.zero_le _,rfl,by simpa using HO1.out.1,HO1.out.2⟩
 case round=>
  obtain⟨k,hk,rfl,HO⟩:=hrel;obtain⟨yI,kJ,ev,-⟩:=bC.form HO.out.1;have HBL:Hid (Below B w wr):=HO.out.2.below HV.out hB;have gQ:B<=wr.heap.size:=Nat.le_trans hB HBL.out.size;by_cases bV:k<es.length
  ·obtain⟨e,Ck⟩:∃e,es[k]?=M e:=⟨_,List.getElem?_eq_getElem bV⟩;obtain⟨b1,b2,b3,b4,b5⟩:=hp e (List.mem_of_getElem? Ck)
   have HFL:Hid ((l++dV (es.length:Int)++(es.take k).flatMap Zv).length<=200000000):=by
    have:=Gt (l:=es.take k) (fun e' Fq=>(hp e' (List.mem_of_mem_take Fq)).2.2.2);rw[List.length_take]at this;show _<=_;rw[List.length_append,List.length_append,bO];omega
   obtain⟨r,yK,hrW⟩:=HR.out k e Ck;obtain⟨-,b,off,rfl,d1,d2,d3⟩:=hrW wr HBL.out
   have HNX:Hid ((es.take (k+1)).flatMap Zv=(es.take k).flatMap Zv++(dV e.1++qE e.2.1++qE e.2.2)):=by
    show _=_;obtain⟨Uc,he⟩:=List.getElem?_eq_some_iff.1 Ck;rw[List.take_succ_eq_append_getElem Uc,List.flatMap_append,he];simp[Zv]
   have i1:(0:Int)<=(k:Int):=by omega
   have i2:(k:Int)<(es.length:Int):=by omega
   obtain⟨r1,⟨x1,x2,x3⟩,⟨y1,y2,y3⟩⟩:=r;simp only[gN.v]at d1 d2 d3 yK;subst yK;have HLX:Hid (∀W,Below B wr W->bI W (x1,x2,x3) e.2.1/\bI W (y1,y2,y3) e.2.2):=fun W hW=>(hrW W (jC HBL.out hW)).1
   generalize hLL:(l++dV (es.length:Int)++(es.take k).flatMap Zv)=L at*;have HLL:Hid ((l++dV (es.length:Int)++(es.take k).flatMap Zv)=L):=hLL;obtain⟨e1,la,lb⟩:=e;simp only at b1 b2 b3 b4 b5 HLX HNX d1 d2 d3;subst ev;clear hLL hrW Ck;have HOA:Hid (bC (wr.alloc (C #[I V e1,Z x1 x2 x3,Z y1 y2 y3] 261)) B (Z yI L.length kJ) L):=bC.alloc HO.out.1 _;have pQ:=HN.out _ _ L e1 HOA.out (by simp;omega) b1.1 b1.2 (by have:=HFL.out;omega);have HOB:Hid (∀gq,(Value.slice yI L.length kJ).ownBlock=M gq->gq<wr.heap.size):=fun gq hgq=>(bC.lt HO.out.1 gq hgq).2
   have Nv:Hid (aJ wr (wr.alloc (C #[I V e1,Z x1 x2 x3,Z y1 y2 y3] 261))):=(aJ.refl wr).alloc _;have Ba:=heap_alloc_new wr (C #[I V e1,Z x1 x2 x3,Z y1 y2 y3] 261)
   go_upto_region 5 with fail
   generalize (wr.alloc (C #[I V e1,Z x1 x2 x3,Z y1 y2 y3] 261))=wq at*;have HBX:Hid (wq.heap[wr.heap.size]?=M (C #[I V e1,Z x1 x2 x3,Z y1 y2 y3] 261 (0,0))):=Ba;obtain⟨x0,-⟩:=gF Ba;have HSQ:Hid (B<=wq.heap.size):=Nat.le_trans gQ Nv.out.le
   have Tk:Hid (∀w5 v5,bC w5 B v5 (L++dV e1)->tC wq w5 (Z yI L.length kJ) v5->w5.cell? ⟨wr.heap.size,1,O⟩=M (Z x1 x2 x3)/\H K 145 #[v5,Z x1 x2 x3] w5 fun e w'=> ∃qF,e=G qF/\bC w' B qF (L++dV e1++qE la)/\tC w5 w' v5 qF):=fun w5 v5 h1 h2=>by
    have rG:=h2.at HBX.out (fun e=>by have:=HOB.out _ e;omega);have Jw:=h2.below HOA.out HSQ.out;refine⟨(gF rG).2.1,HP.out w5 v5 _ x1 x2 x3 la h1 (Nat.le_trans HSQ.out h2.1.1.1) (fun W hW=>(HLX.out W (jC (jC ⟨Nv.out.os,Nv.out.tape,Nv.out.output,Nv.out.size,fun q hq=>Nv.out.block q (by omega)⟩ Jw) hW)).1) b2 b4 (by rw[List.length_append,bO];have:=HFL.out;omega)⟩
   have HN3:Hid (∀w5 v5 w6 v6,bC w5 B v5 (L++dV e1)->tC wq w5 (Z yI L.length kJ) v5->bC w6 B v6 (L++dV e1++qE la)->tC w5 w6 v5 v6->w6.cell? ⟨wr.heap.size,2,O⟩=M (Z y1 y2 y3)/\H K 145 #[v6,Z y1 y2 y3] w6 fun e w'=> ∃qF,e=G qF/\bC w' B qF (L++dV e1++qE la++qE lb)/\tC w6 w' v6 qF):=fun w5 v5 w6 v6 h1 h2 h3 h4=>by
    have h5:=h2.trans h4;have hb6:=h5.at HBX.out (fun e=>by have:=HOB.out _ e;omega);have Jw:=h5.below HOA.out HSQ.out;refine⟨(gF hb6).2.2.1,HP.out w6 v6 _ y1 y2 y3 lb h3 (Nat.le_trans HSQ.out h5.1.1.1) (fun W hW=>(HLX.out W (jC (jC ⟨Nv.out.os,Nv.out.tape,Nv.out.output,Nv.out.size,fun q hq=>Nv.out.block q (by omega)⟩ Jw) hW)).2) b3 b5 (by rw[List.length_append,List.length_append,bO,sH];have:=HFL.out;omega)⟩
   clear Ba d1 d2 d3 HN HP HR
   go_upto_region 6 with(go_at_call 144;refine pQ.mono ?_;rintro e w5 ⟨v5,rfl,Ug,ML⟩)
   obtain⟨y1',oW⟩:=Tk.out w5 v5 Ug ML;clear pQ x0 Tk
   go_upto_region 7 with(go_at_call 145;refine oW.mono ?_;rintro e w6 ⟨v6,rfl,hO6,hF6⟩)
   obtain⟨y2',Wz⟩:=HN3.out w5 v5 w6 v6 Ug ML hO6 hF6;clear oW y1' HN3
   go_wp2_with (go_at_call 145;refine Wz.mono ?_;rintro e w7 ⟨v7,rfl,hO7,hF7⟩)
   have MR:Hid (bC w7 B v7 (L++dV e1++qE la++qE lb)/\tC w w7 (Value.slice ao l.length cap) v7):=⟨hO7,(((HO.out.2.aM Nv.out).trans ML).trans hF6).trans hF7⟩;clear hO6 hF6 ML Ug hO7 hF7 Wz y2';go_roundw
   case rel=>
    refine⟨k+1,by omega,by go_num,?_,MR.out.2⟩;rw[HNX.out,<-List.append_assoc,<-List.append_assoc,<-List.append_assoc,HLL.out];exact MR.out.1
   case measure=>simp[intOf];omega
  ·have e1:es.take k=es:=List.take_of_length_le (by omega);subst ev
   have MR:Hid (bC wr B (Z yI (l++dV (es.length:Int)++(es.take k).flatMap Zv).length kJ) (l++nU es)/\tC w wr (Value.slice ao l.length cap) (Z yI (l++dV (es.length:Int)++(es.take k).flatMap Zv).length kJ)):=by
    have:=HO.out;refine⟨?_,this.2⟩;have h1:=this.1;have e2:l++dV (es.length:Int)++(es.take k).flatMap Zv=l++nU es:=by rw[e1];simp[nU]
    rw[e2]at h1 ⊢;exact h1
   clear HO;generalize (l++dV (es.length:Int)++(es.take k).flatMap Zv).length=LL at*
   go_wp2_with fail
   go_ret;exact⟨_,rfl,MR.out.1,MR.out.2⟩
def DN (ep dn bf:Int)(k:Nat):List UInt8:=[75]++([ep,dn,bf].take k).flatMap dV
def IX (ep:Int)(m:bT):List UInt8:=DN ep m.2.2.2.1 m.2.2.2.2 3++qE m.1++nU m.2.1++nU m.2.2.1
def xU (ep:Int)(m:bT):List UInt8:=IX ep m++dV (kH (IX ep m))
def xh (p:Int×Int):Prop:=(0<=p.1/\p.1<4294967296)/\(0<=p.2/\p.2<4294967296)
theorem Bd (ep dn bf:Int){k:Nat}(hk:k<=3):(DN ep dn bf k).length=1+4*k:=by
 rcases(by omega:k=0\/k=1\/k=2\/k=3)with rfl|rfl|rfl|rfl<;>rfl
theorem IY {m:bT}{depth:Nat}(h:dM m depth):(∀p∈m.1,xh p)/\∀e,(e∈m.2.1\/e∈m.2.2.1)->(0<=e.1/\e.1<4294967296)/\(∀p∈e.2.1,xh p)/\(∀p∈e.2.2,xh p)/\e.2.1.length<=10000/\e.2.2.length<=10000:=by
 have hb:=h.uD
 have key:∀ {l:List (Int×Int)},mV m.2.2.2.2 l->∀p∈l,xh p:=fun hl p hp=>by
  obtain⟨a,b,c,d⟩:=hl p hp;unfold xh;omega
 have fit:∀(l:List (Int×Int×Int)) (n:Int),n<=5000->(∀x∈l,0<=x.1/\0<=x.2.1/\0<=x.2.2)->oZ l n=true->∀x∈l,x.1<=5000/\x.2.1<=5000/\x.2.2<=5000:=by
  intro l
  induction l with
  |nil=>intro n _ _ _ x hx;simp at hx
  |cons y l ih=>
   obtain⟨p,a,b⟩:=y;intro n hn h0 hf x hx;rw[mW]at hf;have h1:=h0 (p,a,b) (by simp);simp only at h1;rcases List.mem_cons.1 hx with rfl|hx
   ·simp only;omega
   ·exact ih _ hf.2.1 (fun z hz=>h0 z (by simp[hz])) hf.2.2 x hx
 refine⟨key h.text,fun e he=>?_⟩;rcases he with he|he
 ·obtain⟨q1,q2,q3⟩:=h.lK e he
  have hh:=fit _ _ h.long (fun x hx=>by
   obtain⟨e0,h0,rfl⟩:=List.mem_map.1 hx;obtain⟨r1,r2,r3⟩:=h.lK e0 h0;exact⟨r1,pJ r3,pJ r2⟩) h.Ub (qP e) (List.mem_map_of_mem he)
  simp only[qP]at hh;have l1:=Iz q2;have l2:=Iz q3;exact⟨⟨q1,by omega⟩,key q2,key q3,by omega,by omega⟩
 ·obtain⟨q1,q2,q3⟩:=h.nJ e he
  have hh:=fit _ _ h.long (fun x hx=>by
   obtain⟨e0,h0,rfl⟩:=List.mem_map.1 hx;obtain⟨r1,r2,r3⟩:=h.nJ e0 h0;exact⟨r1,pJ r2,pJ r3⟩) h.EP (mM e) (List.mem_map_of_mem he)
  simp only[mM]at hh;have l1:=Iz q2;have l2:=Iz q3;exact⟨⟨q1,by omega⟩,key q2,key q3,by omega,by omega⟩
theorem Uq {ep:Int}{m:bT}{depth:Nat}{t u r:gN}(ht:bI w t m.1)(hu:dG w u m.2.1)(hr:dG w r m.2.2.1)(hg:dM m depth)(hd:depth<=100)(vL:0<=ep)(Ck:ep<=1000)(hD:m.2.2.2.1<=4000000000):
 H K 91 #[I V ep,GQ m.2.2.2.1 m.2.2.2.2 t u r] w fun e w'=> ∃v',e=G v'/\bC w' w.heap.size v' (xU ep m)/\aJ w w':=by
 have Wt:=hg.done;have kT:=hg.zL;have bX:=hg.uD;have Jy:=hg.few;have Uk:=hg.Da;have TS:=hg.Iy;obtain⟨gp,ge⟩:=IY hg;obtain⟨t1,t2,t3⟩:=t;obtain⟨u1,u2,u3⟩:=u;obtain⟨r1,r2,r3⟩:=r;have HN:Hid (∀W v' (l':List UInt8) n,bC W w.heap.size v' l'->w.heap.size<=W.heap.size->0<=n->n<4294967296->l'.length<=900000000->H K 144 #[v',I V n] W fun e w'=> ∃qF,e=G qF/\bC w' w.heap.size qF (l'++dV n)/\tC W w' v' qF):=fun W v' l' n h1 h2 h3 h4 h5=>Zw h1 h2 h3 h4 h5
 have HP:Hid (∀W v' (l':List UInt8),bC W w.heap.size v' l'->aJ w W->l'.length<=100->H K 145 #[v',Z t1 t2 t3] W fun e w'=> ∃qF,e=G qF/\bC w' w.heap.size qF (l'++qE m.1)/\tC W w' v' qF):=fun W v' l' h1 h2 h3=>UK (x:=(t1,t2,t3)) h1 h2.le (fun W' hW=>ht.aM (jC h2 hW)) gp (by omega) (by omega)
 have HU:Hid (∀W v' (l':List UInt8),bC W w.heap.size v' l'->aJ w W->l'.length<=50000->H K 146 #[v',Z u1 u2 u3] W fun e w'=> ∃qF,e=G qF/\bC w' w.heap.size qF (l'++nU m.2.1)/\tC W w' v' qF):=fun W v' l' h1 h2 h3=>UL (x:=(u1,u2,u3)) h1 h2.le (xg.of hu h2) (fun e he=>ge e (Or.inl he)) (by omega) (by omega)
 have HRD:Hid (∀W v' (l':List UInt8),bC W w.heap.size v' l'->aJ w W->l'.length<=30000000->H K 146 #[v',Z r1 r2 r3] W fun e w'=> ∃qF,e=G qF/\bC w' w.heap.size qF (l'++nU m.2.2.1)/\tC W w' v' qF):=fun W v' l' h1 h2 h3=>UL (x:=(r1,r2,r3)) h1 h2.le (xg.of hr h2) (fun e he=>ge e (Or.inr he)) (by omega) (by omega)
 have HSE:Hid (∀W v' (l':List UInt8),bC W w.heap.size v' l'->aJ w W->l'.length<=900000000->H K 147 #[v'] W fun e w'=> ∃qF,e=G qF/\bC w' w.heap.size qF (l'++dV (kH l'))/\aJ w w'):=fun W v' l' h1 h2 h3=>(TB h1 h2.le h3).mono (by
  rintro e w' ⟨qF,rfl,k1,k2,k3⟩;exact⟨qF,rfl,k1,Gb h2 h1 k2⟩)
 have HLE:Hid ((nU m.2.1).length<=25000000):=by
  have:=Gt (l:=m.2.1) (fun e he=>(ge e (Or.inl he)).2.2.2);show _<=_;unfold nU;rw[List.length_append,bO];omega
 have HCK:Hid (xU ep m=(DN ep m.2.2.2.1 m.2.2.2.2 3++qE m.1++nU m.2.1++nU m.2.2.1)++dV (kH (DN ep m.2.2.2.1 m.2.2.2.2 3++qE m.1++nU m.2.1++nU m.2.2.1))):=rfl
 have HLR:Hid ((nU m.2.2.1).length<=25000000):=by
  have:=Gt (l:=m.2.2.1) (fun e he=>(ge e (Or.inr he)).2.2.2);show _<=_;unfold nU;rw[List.length_append,bO];omega
 have HLP:Hid ((qE m.1).length<=40000):=by show _<=_;rw[sH];omega
 generalize m.2.2.2.1=dn at*;generalize m.2.2.2.2=bf at*;generalize xU ep m=CS at*;generalize qE m.1=PB at*;generalize nU m.2.1=UB at*;generalize nU m.2.2.1=RB at*;obtain⟨w3,XF⟩:∃w3,w3=((w.alloc (C #[I V dn,I V bf,Z t1 t2 t3,Z u1 u2 u3,Z r1 r2 r3] 105)).alloc (C #[I .u8 75] 5)).alloc (C #[I V ep,I V dn,I V bf] 3):=⟨_,rfl⟩;have hG3:aJ w w3:=by rw[XF];exact(((aJ.refl w).alloc _).alloc _).alloc _
 have k1:w3.heap[w.heap.size]?=M (C #[I V dn,I V bf,Z t1 t2 t3,Z u1 u2 u3,Z r1 r2 r3] 105 (0,0)):=by
  rw[XF,heap_alloc_old _ _ (by simp;omega),heap_alloc_old _ _ (by simp)];exact heap_alloc_new w _
 have k3:w3.heap[w.heap.size+1+1]?=M (C #[I V ep,I V dn,I V bf] 3 (0,0)):=by
  rw[XF];have:=heap_alloc_new ((w.alloc (C #[I V dn,I V bf,Z t1 t2 t3,Z u1 u2 u3,Z r1 r2 r3] 105)).alloc (C #[I .u8 75] 5)) (C #[I V ep,I V dn,I V bf] 3);rwa[World.size_alloc,World.size_alloc]at this
 have HO3:Hid (bC w3 w.heap.size (Z (M ⟨w.heap.size+1,0,O⟩) 1 1) [75]):=by
  have:=World.ownsRow_lit (base:=w.heap.size) (e:=5) (size:=1) (w.alloc (C #[I V dn,I V bf,Z t1 t2 t3,Z u1 u2 u3,Z r1 r2 r3] 105)) #[I .u8 75] 1 (by simp) (by unfold maxLen;omega) rfl;rw[World.size_alloc]at this;rw[XF];exact bC.of (n:=1) (World.ownsRow.alloc this _)
 have HK:Hid (∀W v',tC w3 W (Z (M ⟨w.heap.size+1,0,O⟩) 1 1) v'->(W.cell? ⟨w.heap.size,2,O⟩=M (Z t1 t2 t3)/\W.cell? ⟨w.heap.size,3,O⟩=M (Z u1 u2 u3)/\W.cell? ⟨w.heap.size,4,O⟩=M (Z r1 r2 r3))/\(W.cell? ⟨w.heap.size+1+1,0,O⟩=M (I V ep)/\W.cell? ⟨w.heap.size+1+1,1,O⟩=M (I V dn)/\W.cell? ⟨w.heap.size+1+1,2,O⟩=M (I V bf))/\aJ w W):=fun W v' hF=>by
  have h1:=hF.at k1 (by simp[Value.ownBlock]);have h3:=hF.at k3 (by simp[Value.ownBlock]);obtain⟨⟨-,-,a2,a3,a4⟩,-⟩:=oP h1;refine⟨⟨a2,a3,a4⟩,by simp[World.cell?,h3],?_⟩;exact jC hG3 (hF.below HO3.out hG3.le)
 unfold GQ;simp only[gN.v];clear ht hu hr hg k1 k3 gp ge;go_enter Tryz.func91,Tryz.ntmps91
 go_upto_region 3 with fail
 rw[<-XF];clear XF
 go_loopw [5,7,16] (fun v _ i wr=> ∃k:Nat,k<=3/\i=I V (k:Int)/\Hid (bC wr w.heap.size v (DN ep dn bf k)/\tC w3 wr (Z (M ⟨w.heap.size+1,0,O⟩) 1 1) v)) (fun _ _ i _=>3-(intOf i).toNat)
 case atStart=>exact⟨0,Nat.zero_le _,rfl,HO3.out,tC.refl _ _⟩
 case round=>
  obtain⟨k,hk,rfl,HO⟩:=hrel;obtain⟨⟨a2,a3,a4⟩,⟨c0,c1,c2⟩,hGr⟩:=HK.out wr _ HO.out.2;have HGR:Hid (aJ w wr):=hGr;clear hGr;by_cases bV:k<3
  ·have Ul:(k:Int)<3:=by omega
   have i1:(0:Int)<=(k:Int):=by omega
   obtain⟨x,hx,hxb,hcx⟩:∃x,DN ep dn bf (k+1)=DN ep dn bf k++dV x/\(0<=x/\x<4294967296)/\wr.cell? ⟨w.heap.size+1+1,k,O⟩=M (I V x):=by
    rcases(by omega:k=0\/k=1\/k=2)with rfl|rfl|rfl
    ·exact⟨ep,rfl,⟨by omega,by omega⟩,c0⟩
    ·exact⟨dn,rfl,⟨by omega,by omega⟩,c1⟩
    ·exact⟨bf,rfl,⟨by omega,by omega⟩,c2⟩
   have HX:Hid (DN ep dn bf (k+1)=DN ep dn bf k++dV x):=hx;have hn:=HN.out wr _ _ x HO.out.1 HGR.out.le hxb.1 hxb.2 (by rw[Bd _ _ _ hk];omega);obtain⟨yI,kJ,ev,-⟩:=bC.form HO.out.1;rw[Bd _ _ _ hk]at ev;subst ev;clear hx c0 c1 c2 a2 a3 a4
   go_wp2_with (go_at_call 144;refine hn.mono ?_;rintro e w5 ⟨v5,rfl,Ug,ML⟩)
   have MR:Hid (bC w5 w.heap.size v5 (DN ep dn bf k++dV x)/\tC w3 w5 (Z (M ⟨w.heap.size+1,0,O⟩) 1 1) v5):=⟨Ug,HO.out.2.trans ML⟩;clear Ug ML hn;go_roundw
   case rel=>
    refine⟨k+1,by omega,by go_num,?_,MR.out.2⟩;rw[HX.out];exact MR.out.1
   case measure=>simp[intOf];omega
  ·have Ul:¬(k:Int)<3:=by omega
   have e3:k=3:=by omega
   subst e3;have hkl:=Bd ep dn bf (k:=3) (by omega);have HKL:Hid ((DN ep dn bf 3).length=13):=hkl;have hp:=HP.out wr _ _ HO.out.1 HGR.out (by omega);obtain⟨yI,kJ,ev,-⟩:=bC.form HO.out.1;rw[hkl]at ev;subst ev
   have HK2:Hid (∀w5 v5,bC w5 w.heap.size v5 (DN ep dn bf 3++PB)->tC w3 w5 (Z (M ⟨w.heap.size+1,0,O⟩) 1 1) v5->w5.cell? ⟨w.heap.size,3,O⟩=M (Z u1 u2 u3)/\H K 146 #[v5,Z u1 u2 u3] w5 fun e w'=> ∃qF,e=G qF/\bC w' w.heap.size qF (DN ep dn bf 3++PB++UB)/\tC w5 w' v5 qF):=fun w5 v5 h1 h2=>by
    obtain⟨⟨-,b3,-⟩,-,dK⟩:=HK.out w5 _ h2;exact⟨b3,HU.out w5 v5 _ h1 dK (by rw[List.length_append,HKL.out];have:=HLP.out;omega)⟩
   have HK3:Hid (∀w6 v6,bC w6 w.heap.size v6 (DN ep dn bf 3++PB++UB)->tC w3 w6 (Z (M ⟨w.heap.size+1,0,O⟩) 1 1) v6->w6.cell? ⟨w.heap.size,4,O⟩=M (Z r1 r2 r3)/\H K 146 #[v6,Z r1 r2 r3] w6 fun e w'=> ∃qF,e=G qF/\bC w' w.heap.size qF (DN ep dn bf 3++PB++UB++RB)/\tC w6 w' v6 qF):=fun w6 v6 h1 h2=>by
    obtain⟨⟨-,-,b4⟩,-,dK⟩:=HK.out w6 _ h2;exact⟨b4,HRD.out w6 v6 _ h1 dK (by rw[List.length_append,List.length_append,HKL.out];have:=HLP.out;have:=HLE.out;omega)⟩
   have HK4:Hid (∀w7 v7,bC w7 w.heap.size v7 (DN ep dn bf 3++PB++UB++RB)->tC w3 w7 (Z (M ⟨w.heap.size+1,0,O⟩) 1 1) v7->H K 147 #[v7] w7 fun e w'=> ∃qF,e=G qF/\bC w' w.heap.size qF CS/\aJ w w'):=fun w7 v7 h1 h2=>by
    obtain⟨-,-,dK⟩:=HK.out w7 _ h2;have:=HSE.out w7 v7 _ h1 dK (by rw[List.length_append,List.length_append,List.length_append,HKL.out];have:=HLP.out;have:=HLE.out;have:=HLR.out;omega);rw[<-HCK.out]at this;exact this
   have XM:Hid (tC w3 wr (Z (M ⟨w.heap.size+1,0,O⟩) 1 1) (Z yI 13 kJ)):=HO.out.2;clear hkl HO HK HN HP HU HRD HSE HCK c0 c1 c2 a3 a4
   go_upto_region 8 with(go_at_call 145;refine hp.mono ?_;rintro e w5 ⟨v5,rfl,Ug,ML⟩)
   have hF5':=XM.out.trans ML;obtain⟨y3,hue⟩:=HK2.out w5 v5 Ug hF5';clear hp a2 ML Ug HK2
   go_upto_region 9 with(go_at_call 146;refine hue.mono ?_;rintro e w6 ⟨v6,rfl,hO6,hF6⟩)
   have hF6':=hF5'.trans hF6;obtain⟨y4,GJ⟩:=HK3.out w6 v6 hO6 hF6';clear hue y3 hF6 hO6 HK3 hF5'
   go_upto_region 10 with(go_at_call 146;refine GJ.mono ?_;rintro e w7 ⟨v7,rfl,hO7,hF7⟩)
   have hse:=HK4.out w7 v7 hO7 (hF6'.trans hF7);clear GJ y4 hF7 hO7 HK4 hF6'
   go_wp2_with (go_at_call 147;refine hse.mono ?_;rintro e w8 ⟨v8,rfl,hO8,hG8⟩)
   go_ret;exact⟨v8,rfl,hO8,hG8⟩
end Go.Proofs.YtfplgfodoiiobaaGreatDoor
