/- LgQ, LgR, LgS (joined). -/
import Derived.Test.YtfplgfodoiiobaaGreatDoorJ30
open Option renaming none→O,some→M
open Go.Value renaming int→I,slice→Z
open Go.IntKind renaming i64→V
open Go.Obj renaming cells→C
open Go.Ending renaming returned→G
open Go renaming World→F,Value→Y,Calls→H
open Go.Proofs.Tryz renaming prog→K
namespace Go.Proofs.YtfplgfodoiiobaaGreatDoor
set_option maxHeartbeats 1500000
set_option maxRecDepth 100000
open Go.RowKit
variable {v:Y}{w a b c:F}{B:Nat}{l:List UInt8}{x:dS}
def rT (w w':F)(v v':Y):Prop:=(Fr w w' (fun b=>v.ownBlock=M b)/\(w'.os=w.os/\w'.tape=w.tape/\w'.output=w.output))/\∀b,v'.ownBlock=M b->v.ownBlock=M b\/w.heap.size<=b
theorem rT.refl (w:F)(v:Y):rT w w v v:=⟨⟨Fr.refl _ _,rfl,rfl,rfl⟩,fun _ h=>Or.inl h⟩
theorem rT.trans {v1 v2:Y}(h1:rT a b v v1)(h2:rT b c v1 v2):rT a c v v2:=by
 obtain⟨⟨⟨a1,a2⟩,a3,a4,a5⟩,a6⟩:=h1;obtain⟨⟨⟨b1,b2⟩,b3,b4,b5⟩,b6⟩:=h2;refine⟨⟨⟨Nat.le_trans a1 b1,fun k hk hn=>?_⟩,b3.trans a3,b4.trans a4,b5.trans a5⟩,fun k hk=>?_⟩
 ·rw[b2 k (Nat.lt_of_lt_of_le hk a1) (fun e=>?_),a2 k hk hn];rcases a6 k e with h|h
  ·exact hn h
  ·omega
 ·rcases b6 k hk with h|h
  ·exact a6 k h
  ·exact Or.inr (Nat.le_trans a1 h)
theorem rT.aM {v1:Y}(h1:rT a b v v1)(hg:aK b c):rT a c v v1:=h1.trans ⟨⟨Fr.bT hg _,hg.os,hg.tape,hg.output⟩,fun _ h=>Or.inl h⟩
theorem rT.at {w':F}{v':Y}{b:Nat}{o:Obj}(h:rT w w' v v')(hb:w.heap[b]?=M o)(hn:¬v.ownBlock=M b):w'.heap[b]?=M o:=h.1.1.at hb hn
theorem rT.below {w':F}{v':Y}(h:rT w w' v v')(ho:bB w B v l)(hB:B<=w.heap.size):Below B w w':=
 ⟨h.1.2.1,h.1.2.2.1,h.1.2.2.2,h.1.1.1,fun k hk=>h.1.1.2 k (by omega) (fun e=>by have:=(bB.lt ho k e).1;omega)⟩
theorem iQ (h1:Below B a b)(h2:Below B b c):Below B a c:=⟨h2.os.trans h1.os,h2.tape.trans h1.tape,h2.output.trans h1.output,Nat.le_trans h1.size h2.size,fun k hk=>(h2.block k hk).trans (h1.block k hk)⟩
def IZ (p:Int×Int):List UInt8:=dQ p.1++dQ p.2
def oZ (l:List (Int×Int)):List UInt8:=dQ (l.length:Int)++l.flatMap IZ
def Vq (e:Ed):List UInt8:=dQ e.1++oZ e.2.1++oZ e.2.2
def mU (l:List Ed):List UInt8:=dQ (l.length:Int)++l.flatMap Vq
theorem qZ (l:List (Int×Int)):(oZ l).length=4+8*l.length:=by
 unfold oZ;rw[List.length_append,bL];congr 1
 induction l with
 |nil=>rfl
 |cons p l ih=>rw[List.flatMap_cons,List.length_append,ih];simp[IZ,bL];omega
theorem Vr {n:Int}(h:bB w B v l)(hB:B<=w.heap.size)(h0:0<=n)(h1:n<4294967296)(hl:l.length<=900000000):
 H K 144 #[v,I V n] w fun e w'=> ∃v',e=G v'/\bB w' B v' (l++dQ n)/\rT w w' v v':=by
 have HA:=zZ h hB h0 h1 hl;obtain⟨ao,cap,ev,-⟩:=bB.form h;subst ev;have zx:IntKind.u32.wrap n=n:=by rw[IntKind.wrap_u32];omega
 clear h;go_enter Tryz.func144,Tryz.ntmps144
 go_wp2_with (go_at_call 214;refine HA.mono ?_;rintro e w5 ⟨v5,rfl,Qs,dY,wL⟩)
 go_ret;exact⟨v5,rfl,Qs,⟨⟨Fr.jC dY,dY.os,dY.tape,dY.output⟩,fun b hb=>wL.elim (fun h=>Or.inl (h ▸ hb)) (fun h=>Or.inr (h b hb))⟩⟩
theorem JA (B:Nat)(w:F):Below B w w:=⟨rfl,rfl,rfl,Nat.le_refl _,fun _ _=>rfl⟩
theorem MX {ps:List (Int×Int)}(h:bB w B v l)(hB:B<=w.heap.size)(hx:∀W,Below B w W->bF W x ps)(hp:∀p∈ps,(0<=p.1/\p.1<4294967296)/\(0<=p.2/\p.2<4294967296))(PD:ps.length<=100000)(hl:l.length<=500000000):
 H K 145 #[v,x.v] w fun e w'=> ∃v',e=G v'/\bB w' B v' (l++oZ ps)/\rT w w' v v':=by
 obtain⟨xo,xn,xc⟩:=x;have hn:xn=ps.length:=(hx w (JA B w)).2.1;subst hn;have HR:Hid (∀W,Below B w W->Jz W xo ps):=fun W hW=>(hx W hW).1.1
 have HN:Hid (∀W v' (l':List UInt8) n,bB W B v' l'->B<=W.heap.size->0<=n->n<4294967296->l'.length<=900000000->H K 144 #[v',I V n] W fun e w'=> ∃pE,e=G pE/\bB w' B pE (l'++dQ n)/\rT W w' v' pE):=fun W v' l' n h1 h2 h3 h4 h5=>Vr h1 h2 h3 h4 h5
 have Uj:=HN.out w v l (ps.length:Int) h hB (by omega) (by omega) (by omega);obtain⟨ao,cap,ev,-⟩:=bB.form h;have HV:Hid (bB w B v l):=h;subst ev;simp only[dS.v];clear h hx;generalize hvv:Value.slice ao l.length cap=vv at*;have HVV:Hid (Value.slice ao l.length cap=vv):=hvv;go_enter Tryz.func145,Tryz.ntmps145;subst hvv
 go_wp2_with (go_at_call 144;refine Uj.mono ?_;rintro e w1 ⟨v1,rfl,wS,je⟩)
 have HO1:Hid (bB w1 B v1 (l++dQ (ps.length:Int))/\rT w w1 (Value.slice ao l.length cap) v1):=⟨wS,je⟩;clear wS je Uj HVV
 go_loopw [0,6,13] (fun v _ i wr=> ∃k:Nat,k<=ps.length/\i=I V (k:Int)/\Hid (bB wr B v (l++dQ (ps.length:Int)++(ps.take k).flatMap IZ)/\rT w wr (Value.slice ao l.length cap) v)) (fun _ _ i _=>ps.length-(intOf i).toNat)
 case atStart=>exact⟨0,Nat.zero_le _,rfl,by simpa using HO1.out.1,HO1.out.2⟩
 case round=>
  obtain⟨k,hk,rfl,HO⟩:=hrel;obtain⟨xU,jT,ev,-⟩:=bB.form HO.out.1;have HBL:Hid (Below B w wr):=HO.out.2.below HV.out hB;have iU:B<=wr.heap.size:=Nat.le_trans hB HBL.out.size;by_cases bS:k<ps.length
  ·obtain⟨p,hp1⟩:∃p,ps[k]?=M p:=⟨_,List.getElem?_eq_getElem bS⟩;have QV:=hp p (List.mem_of_getElem? hp1)
   have hflen:(l++dQ (ps.length:Int)++(ps.take k).flatMap IZ).length=l.length+4+8*k:=by
    have:=qZ (ps.take k);unfold oZ at this;rw[List.length_append,bL,List.length_take]at this;rw[List.length_append,List.length_append,bL];omega
   rcases HR.out wr HBL.out with jq|⟨b,off,rfl,hc⟩
   ·rw[jq]at bS;simp at bS
   ·obtain⟨d1,d2⟩:=hc k bS;have Fw:ps.getD k (0,0)=p:=by simp[List.getD_eq_getElem?_getD,hp1]
    rw[Fw]at d1 d2
    have zi:Hid ((ps.take (k+1)).flatMap IZ=(ps.take k).flatMap IZ++(dQ p.1++dQ p.2)):=by
     show _=_;obtain⟨GD,he⟩:=List.getElem?_eq_some_iff.1 hp1;rw[List.take_succ_eq_append_getElem GD,List.flatMap_append,he];simp[IZ]
    have i1:(0:Int)<=(k:Int):=by omega
    have i2:(k:Int)<(ps.length:Int):=by omega
    obtain⟨p1,p2⟩:=p;simp only at d1 d2 zi QV;generalize hLL:(l++dQ (ps.length:Int)++(ps.take k).flatMap IZ)=L at*;have HLL:Hid ((l++dQ (ps.length:Int)++(ps.take k).flatMap IZ)=L):=hLL;clear hLL;subst ev;have HFL:Hid (L.length=l.length+4+8*k):=hflen;clear hflen;have HOA:Hid (bB (wr.alloc (C #[I V p1,I V p2] 114)) B (Z xU L.length jT) L):=bB.alloc HO.out.1 _;have xO:=HN.out _ _ L p1 HOA.out (by simp;omega) QV.1.1 QV.1.2 (by have:=HFL.out;omega);have HOB:Hid (∀gq,(Value.slice xU L.length jT).ownBlock=M gq->gq<wr.heap.size):=fun gq hgq=>(bB.lt HO.out.1 gq hgq).2
    have Ku:Hid (aK wr (wr.alloc (C #[I V p1,I V p2] 114))):=(aK.refl wr).alloc _;have Ad:=heap_alloc_new wr (C #[I V p1,I V p2] 114);clear hp1 hc Fw
    go_upto_region 5 with fail
    generalize (wr.alloc (C #[I V p1,I V p2] 114))=wq at*;have x0:wq.cell? ⟨wr.heap.size,0,O⟩=M (I V p1):=by simp[World.cell?,Ad]
    have jm:Hid (wq.heap[wr.heap.size]?=M (C #[I V p1,I V p2] 114 (0,0))):=Ad
    have Qc:Hid (∀w5 v5,bB w5 B v5 (L++dQ p1)->rT wq w5 (Z xU L.length jT) v5->w5.cell? ⟨wr.heap.size,1,O⟩=M (I V p2)/\H K 144 #[v5,I V p2] w5 fun e w'=> ∃pE,e=G pE/\bB w' B pE (L++dQ p1++dQ p2)/\rT w5 w' v5 pE):=fun w5 v5 h1 h2=>by
     have qK:=h2.at jm.out (fun e=>by have:=HOB.out _ e;omega);refine⟨by simp[World.cell?,qK],HN.out w5 v5 _ p2 h1 ?_ QV.2.1 QV.2.2 (by rw[List.length_append,bL];have:=HFL.out;omega)⟩;have:=h2.1.1.1;have:=Ku.out.le;omega
    clear Ad d1 d2 HN
    go_upto_region 6 with(go_at_call 144;refine xO.mono ?_;rintro e w5 ⟨v5,rfl,Qs,ED⟩)
    obtain⟨y1,uY⟩:=Qc.out w5 v5 Qs ED;clear xO x0 Qc
    go_wp2_with (go_at_call 144;refine uY.mono ?_;rintro e w6 ⟨v6,rfl,hO6,zk⟩)
    have EJ:Hid (bB w6 B v6 (L++dQ p1++dQ p2)/\rT w w6 (Value.slice ao l.length cap) v6):=⟨hO6,((HO.out.2.aM Ku.out).trans ED).trans zk⟩;clear hO6 zk ED Qs uY;go_roundw
    case rel=>
     refine⟨k+1,by omega,by go_num,?_,EJ.out.2⟩;rw[zi.out,<-List.append_assoc,<-List.append_assoc,HLL.out];exact EJ.out.1
    case measure=>simp[intOf];omega
  ·have e1:ps.take k=ps:=List.take_of_length_le (by omega);subst ev
   have EJ:Hid (bB wr B (Z xU (l++dQ (ps.length:Int)++(ps.take k).flatMap IZ).length jT) (l++oZ ps)/\rT w wr (Value.slice ao l.length cap) (Z xU (l++dQ (ps.length:Int)++(ps.take k).flatMap IZ).length jT)):=by
    have:=HO.out;refine⟨?_,this.2⟩;have h1:=this.1;have e2:l++dQ (ps.length:Int)++(ps.take k).flatMap IZ=l++oZ ps:=by rw[e1];simp[oZ]
    rw[e2]at h1 ⊢;exact h1
   clear HO;generalize (l++dQ (ps.length:Int)++(ps.take k).flatMap IZ).length=LL at*
   go_wp2_with fail
   go_ret;exact⟨_,rfl,EJ.out.1,EJ.out.2⟩
theorem Ey {l:List Ed}(h:∀e∈l,e.2.1.length<=10000/\e.2.2.length<=10000):(l.flatMap Vq).length<=200000*l.length:=by
 induction l with
 |nil=>simp
 |cons e l ih=>
  have h1:=ih (fun e' Dw=>h e' (by simp[Dw]));have h2:=h e (by simp);rw[List.flatMap_cons,List.length_append];simp only[Vq,List.length_append,bL,qZ,List.length_cons];omega
def XT (w:F)(B:Nat)(x:dS)(es:List Ed):Prop:=∃raw:List fH,(∀W,Below B w W->Xn W x.1 raw)/\x.2.1=raw.length/\raw.length=es.length/\∀(i:Nat) (r:fH) (e:Ed),raw[i]?=M r->es[i]?=M e->r.1=e.1/\∀W,Below B w W->bF W r.2.1 e.2.1/\bF W r.2.2 e.2.2
theorem XT.of {w0:F}{es:List Ed}(h:cO w0 x es)(hg:aK w0 w):XT w w0.heap.size x es:=by
 obtain⟨raw,h1,h2,-,h4,h5⟩:=h;refine⟨raw,fun W hW=>h1.aM (iQ hg hW),h2,h4,fun i r e a b=>⟨(h5 i r e a b).1,fun W hW=>?_⟩⟩;have:=(h5 i r e a b).aM (iQ hg hW);exact⟨this.2.1,this.2.2⟩
theorem MZ {es:List Ed}(h:bB w B v l)(hB:B<=w.heap.size)(hx:XT w B x es)(hp:∀e∈es,(0<=e.1/\e.1<4294967296)/\(∀p∈e.2.1,(0<=p.1/\p.1<4294967296)/\(0<=p.2/\p.2<4294967296))/\(∀p∈e.2.2,(0<=p.1/\p.1<4294967296)/\(0<=p.2/\p.2<4294967296))/\e.2.1.length<=10000/\e.2.2.length<=10000)(PD:es.length<=100)(hl:l.length<=100000000):
 H K 146 #[v,x.v] w fun e w'=> ∃v',e=G v'/\bB w' B v' (l++mU es)/\rT w w' v v':=by
 obtain⟨xo,xn,xc⟩:=x;obtain⟨raw,TF,hx2,hx3,hx4⟩:=hx;simp only at TF hx2;have hn:xn=es.length:=by omega
 subst hn
 have HR:Hid (∀(k:Nat) (e:Ed),es[k]?=M e->∃r:fH,r.1=e.1/\(∀W,Below B w W->(bF W r.2.1 e.2.1/\bF W r.2.2 e.2.2)/\∃b off,xo=M ⟨b,off,O⟩/\W.cell? ⟨b,off+k*3,O⟩=M (I V r.1)/\W.cell? ⟨b,off+k*3+1,O⟩=M r.2.1.v/\W.cell? ⟨b,off+k*3+2,O⟩=M r.2.2.v)):=fun k e he=>by
  have bS:k<raw.length:=by rw[hx3];exact(List.getElem?_eq_some_iff.1 he).1
  obtain⟨r,hr⟩:∃r,raw[k]?=M r:=⟨_,List.getElem?_eq_getElem bS⟩;refine⟨r,(hx4 k r e hr he).1,fun W hW=>⟨(hx4 k r e hr he).2 W hW,?_⟩⟩;rcases(TF W hW).1 with h0|⟨b,off,h0,hc⟩
  ·rw[h0]at bS;simp at bS
  ·obtain⟨e1,e2,e3⟩:=Et hr;exact⟨b,off,h0,hc _ _ e1,hc _ _ e2,hc _ _ e3⟩
 have HN:Hid (∀W v' (l':List UInt8) n,bB W B v' l'->B<=W.heap.size->0<=n->n<4294967296->l'.length<=900000000->H K 144 #[v',I V n] W fun e w'=> ∃pE,e=G pE/\bB w' B pE (l'++dQ n)/\rT W w' v' pE):=fun W v' l' n h1 h2 h3 h4 h5=>Vr h1 h2 h3 h4 h5
 have HP:Hid (∀W v' (l':List UInt8) x1 x2 x3 ps,bB W B v' l'->B<=W.heap.size->(∀W',Below B W W'->bF W' (x1,x2,x3) ps)->(∀p∈ps,(0<=p.1/\p.1<4294967296)/\(0<=p.2/\p.2<4294967296))->ps.length<=10000->l'.length<=500000000->H K 145 #[v',Z x1 x2 x3] W fun e w'=> ∃pE,e=G pE/\bB w' B pE (l'++oZ ps)/\rT W w' v' pE):=fun W v' l' x1 x2 x3 ps h1 h2 h3 h4 h5 h6=>MX (x:=(x1,x2,x3)) h1 h2 h3 h4 (by omega) h6
 have Uj:=HN.out w v l (es.length:Int) h hB (by omega) (by omega) (by omega);obtain⟨ao,cap,ev,-⟩:=bB.form h;have HV:Hid (bB w B v l):=h;subst ev;simp only[dS.v];clear h TF hx2 hx3 hx4;go_enter Tryz.func146,Tryz.ntmps146
 go_wp2_with (go_at_call 144;refine Uj.mono ?_;rintro e w1 ⟨v1,rfl,wS,je⟩)
 have HO1:Hid (bB w1 B v1 (l++dQ (es.length:Int))/\rT w w1 (Value.slice ao l.length cap) v1):=⟨wS,je⟩;clear wS je Uj
 go_loopw [0,6,13] (fun v _ i wr=> ∃k:Nat,k<=es.length/\i=I V (k:Int)/\Hid (bB wr B v (l++dQ (es.length:Int)++(es.take k).flatMap Vq)/\rT w wr (Value.slice ao l.length cap) v)) (fun _ _ i _=>es.length-(intOf i).toNat)
 case atStart=>exact⟨0,Nat.zero_le _,rfl,by simpa using HO1.out.1,HO1.out.2⟩
 case round=>
  obtain⟨k,hk,rfl,HO⟩:=hrel;obtain⟨xU,jT,ev,-⟩:=bB.form HO.out.1;have HBL:Hid (Below B w wr):=HO.out.2.below HV.out hB;have iU:B<=wr.heap.size:=Nat.le_trans hB HBL.out.size;by_cases bS:k<es.length
  ·obtain⟨e,Bb⟩:∃e,es[k]?=M e:=⟨_,List.getElem?_eq_getElem bS⟩;obtain⟨b1,b2,b3,b4,b5⟩:=hp e (List.mem_of_getElem? Bb)
   have HFL:Hid ((l++dQ (es.length:Int)++(es.take k).flatMap Vq).length<=200000000):=by
    have:=Ey (l:=es.take k) (fun e' Dw=>(hp e' (List.mem_of_mem_take Dw)).2.2.2);rw[List.length_take]at this;show _<=_;rw[List.length_append,List.length_append,bL];omega
   obtain⟨r,wF,hrW⟩:=HR.out k e Bb;obtain⟨-,b,off,rfl,d1,d2,d3⟩:=hrW wr HBL.out
   have zi:Hid ((es.take (k+1)).flatMap Vq=(es.take k).flatMap Vq++(dQ e.1++oZ e.2.1++oZ e.2.2)):=by
    show _=_;obtain⟨GD,he⟩:=List.getElem?_eq_some_iff.1 Bb;rw[List.take_succ_eq_append_getElem GD,List.flatMap_append,he];simp[Vq]
   have i1:(0:Int)<=(k:Int):=by omega
   have i2:(k:Int)<(es.length:Int):=by omega
   obtain⟨r1,⟨x1,x2,x3⟩,⟨y1,y2,y3⟩⟩:=r;simp only[dS.v]at d1 d2 d3 wF;subst wF;have HLX:Hid (∀W,Below B wr W->bF W (x1,x2,x3) e.2.1/\bF W (y1,y2,y3) e.2.2):=fun W hW=>(hrW W (iQ HBL.out hW)).1
   generalize hLL:(l++dQ (es.length:Int)++(es.take k).flatMap Vq)=L at*;have HLL:Hid ((l++dQ (es.length:Int)++(es.take k).flatMap Vq)=L):=hLL;obtain⟨e1,la,lb⟩:=e;simp only at b1 b2 b3 b4 b5 HLX zi d1 d2 d3;subst ev;clear hLL hrW Bb;have HOA:Hid (bB (wr.alloc (C #[I V e1,Z x1 x2 x3,Z y1 y2 y3] 261)) B (Z xU L.length jT) L):=bB.alloc HO.out.1 _;have xO:=HN.out _ _ L e1 HOA.out (by simp;omega) b1.1 b1.2 (by have:=HFL.out;omega);have HOB:Hid (∀gq,(Value.slice xU L.length jT).ownBlock=M gq->gq<wr.heap.size):=fun gq hgq=>(bB.lt HO.out.1 gq hgq).2
   have Ku:Hid (aK wr (wr.alloc (C #[I V e1,Z x1 x2 x3,Z y1 y2 y3] 261))):=(aK.refl wr).alloc _;have Ad:=heap_alloc_new wr (C #[I V e1,Z x1 x2 x3,Z y1 y2 y3] 261)
   go_upto_region 5 with fail
   generalize (wr.alloc (C #[I V e1,Z x1 x2 x3,Z y1 y2 y3] 261))=wq at*;have jm:Hid (wq.heap[wr.heap.size]?=M (C #[I V e1,Z x1 x2 x3,Z y1 y2 y3] 261 (0,0))):=Ad;obtain⟨x0,-⟩:=gD Ad;have HSQ:Hid (B<=wq.heap.size):=Nat.le_trans iU Ku.out.le
   have Qc:Hid (∀w5 v5,bB w5 B v5 (L++dQ e1)->rT wq w5 (Z xU L.length jT) v5->w5.cell? ⟨wr.heap.size,1,O⟩=M (Z x1 x2 x3)/\H K 145 #[v5,Z x1 x2 x3] w5 fun e w'=> ∃pE,e=G pE/\bB w' B pE (L++dQ e1++oZ la)/\rT w5 w' v5 pE):=fun w5 v5 h1 h2=>by
    have qK:=h2.at jm.out (fun e=>by have:=HOB.out _ e;omega);have Xq:=h2.below HOA.out HSQ.out;refine⟨(gD qK).2.1,HP.out w5 v5 _ x1 x2 x3 la h1 (Nat.le_trans HSQ.out h2.1.1.1) (fun W hW=>(HLX.out W (iQ (iQ ⟨Ku.out.os,Ku.out.tape,Ku.out.output,Ku.out.size,fun q hq=>Ku.out.block q (by omega)⟩ Xq) hW)).1) b2 b4 (by rw[List.length_append,bL];have:=HFL.out;omega)⟩
   have HN3:Hid (∀w5 v5 w6 v6,bB w5 B v5 (L++dQ e1)->rT wq w5 (Z xU L.length jT) v5->bB w6 B v6 (L++dQ e1++oZ la)->rT w5 w6 v5 v6->w6.cell? ⟨wr.heap.size,2,O⟩=M (Z y1 y2 y3)/\H K 145 #[v6,Z y1 y2 y3] w6 fun e w'=> ∃pE,e=G pE/\bB w' B pE (L++dQ e1++oZ la++oZ lb)/\rT w6 w' v6 pE):=fun w5 v5 w6 v6 h1 h2 h3 h4=>by
    have h5:=h2.trans h4;have hb6:=h5.at jm.out (fun e=>by have:=HOB.out _ e;omega);have Xq:=h5.below HOA.out HSQ.out;refine⟨(gD hb6).2.2.1,HP.out w6 v6 _ y1 y2 y3 lb h3 (Nat.le_trans HSQ.out h5.1.1.1) (fun W hW=>(HLX.out W (iQ (iQ ⟨Ku.out.os,Ku.out.tape,Ku.out.output,Ku.out.size,fun q hq=>Ku.out.block q (by omega)⟩ Xq) hW)).2) b3 b5 (by rw[List.length_append,List.length_append,bL,qZ];have:=HFL.out;omega)⟩
   clear Ad d1 d2 d3 HN HP HR
   go_upto_region 6 with(go_at_call 144;refine xO.mono ?_;rintro e w5 ⟨v5,rfl,Qs,ED⟩)
   obtain⟨y1',uY⟩:=Qc.out w5 v5 Qs ED;clear xO x0 Qc
   go_upto_region 7 with(go_at_call 145;refine uY.mono ?_;rintro e w6 ⟨v6,rfl,hO6,zk⟩)
   obtain⟨y2',Vi⟩:=HN3.out w5 v5 w6 v6 Qs ED hO6 zk;clear uY y1' HN3
   go_wp2_with (go_at_call 145;refine Vi.mono ?_;rintro e w7 ⟨v7,rfl,hO7,Z_⟩)
   have EJ:Hid (bB w7 B v7 (L++dQ e1++oZ la++oZ lb)/\rT w w7 (Value.slice ao l.length cap) v7):=⟨hO7,(((HO.out.2.aM Ku.out).trans ED).trans zk).trans Z_⟩;clear hO6 zk ED Qs hO7 Z_ Vi y2';go_roundw
   case rel=>
    refine⟨k+1,by omega,by go_num,?_,EJ.out.2⟩;rw[zi.out,<-List.append_assoc,<-List.append_assoc,<-List.append_assoc,HLL.out];exact EJ.out.1
   case measure=>simp[intOf];omega
  ·have e1:es.take k=es:=List.take_of_length_le (by omega);subst ev
   have EJ:Hid (bB wr B (Z xU (l++dQ (es.length:Int)++(es.take k).flatMap Vq).length jT) (l++mU es)/\rT w wr (Value.slice ao l.length cap) (Z xU (l++dQ (es.length:Int)++(es.take k).flatMap Vq).length jT)):=by
    have:=HO.out;refine⟨?_,this.2⟩;have h1:=this.1;have e2:l++dQ (es.length:Int)++(es.take k).flatMap Vq=l++mU es:=by rw[e1];simp[mU]
    rw[e2]at h1 ⊢;exact h1
   clear HO;generalize (l++dQ (es.length:Int)++(es.take k).flatMap Vq).length=LL at*
   go_wp2_with fail
   go_ret;exact⟨_,rfl,EJ.out.1,EJ.out.2⟩
def Xr (ep dn bf:Int)(k:Nat):List UInt8:=[75]++([ep,dn,bf].take k).flatMap dQ
def BP (ep:Int)(m:bR):List UInt8:=Xr ep m.2.2.2.1 m.2.2.2.2 3++oZ m.1++mU m.2.1++mU m.2.2.1
def zC (ep:Int)(m:bR):List UInt8:=BP ep m++dQ (jR (BP ep m))
def XU (p:Int×Int):Prop:=(0<=p.1/\p.1<4294967296)/\(0<=p.2/\p.2<4294967296)
theorem Af (ep dn bf:Int){k:Nat}(hk:k<=3):(Xr ep dn bf k).length=1+4*k:=by
 rcases(by omega:k=0\/k=1\/k=2\/k=3)with rfl|rfl|rfl|rfl<;>rfl
theorem BQ {m:bR}{depth:Nat}(h:dJ m depth):(∀p∈m.1,XU p)/\∀e,(e∈m.2.1\/e∈m.2.2.1)->(0<=e.1/\e.1<4294967296)/\(∀p∈e.2.1,XU p)/\(∀p∈e.2.2,XU p)/\e.2.1.length<=10000/\e.2.2.length<=10000:=by
 have hb:=h.tC
 have key:∀ {l:List (Int×Int)},lV m.2.2.2.2 l->∀p∈l,XU p:=fun hl p hp=>by
  obtain⟨a,b,c,d⟩:=hl p hp;unfold XU;omega
 have fit:∀(l:List (Int×Int×Int)) (n:Int),n<=5000->(∀x∈l,0<=x.1/\0<=x.2.1/\0<=x.2.2)->oG l n=true->∀x∈l,x.1<=5000/\x.2.1<=5000/\x.2.2<=5000:=by
  intro l
  induction l with
  |nil=>intro n _ _ _ x hx;simp at hx
  |cons y l ih=>
   obtain⟨p,a,b⟩:=y;intro n hn h0 hf x hx;rw[lW]at hf;have h1:=h0 (p,a,b) (by simp);simp only at h1;rcases List.mem_cons.1 hx with rfl|hx
   ·simp only;omega
   ·exact ih _ hf.2.1 (fun z hz=>h0 z (by simp[hz])) hf.2.2 x hx
 refine⟨key h.text,fun e he=>?_⟩;rcases he with he|he
 ·obtain⟨q1,q2,q3⟩:=h.lN e he
  have hh:=fit _ _ h.long (fun x hx=>by
   obtain⟨e0,h0,rfl⟩:=List.mem_map.1 hx;obtain⟨r1,r2,r3⟩:=h.lN e0 h0;exact⟨r1,oI r3,oI r2⟩) h.Qo (pU e) (List.mem_map_of_mem he)
  simp only[pU]at hh;have l1:=Gu q2;have l2:=Gu q3;exact⟨⟨q1,by omega⟩,key q2,key q3,by omega,by omega⟩
 ·obtain⟨q1,q2,q3⟩:=h.nT e he
  have hh:=fit _ _ h.long (fun x hx=>by
   obtain⟨e0,h0,rfl⟩:=List.mem_map.1 hx;obtain⟨r1,r2,r3⟩:=h.nT e0 h0;exact⟨r1,oI r2,oI r3⟩) h.Yu (lK e) (List.mem_map_of_mem he)
  simp only[lK]at hh;have l1:=Gu q2;have l2:=Gu q3;exact⟨⟨q1,by omega⟩,key q2,key q3,by omega,by omega⟩
theorem Ra {ep:Int}{m:bR}{depth:Nat}{t u r:dS}(ht:bF w t m.1)(hu:cO w u m.2.1)(hr:cO w r m.2.2.1)(hg:dJ m depth)(hd:depth<=100)(uO:0<=ep)(Bb:ep<=1000)(hD:m.2.2.2.1<=4000000000):
 H K 91 #[I V ep,AO m.2.2.2.1 m.2.2.2.2 t u r] w fun e w'=> ∃v',e=G v'/\bB w' w.heap.size v' (zC ep m)/\aK w w':=by
 have EG:=hg.done;have lG:=hg.yT;have bX:=hg.tC;have Oi:=hg.few;have Qw:=hg.Br;have SY:=hg.Gq;obtain⟨gp,ge⟩:=BQ hg;obtain⟨t1,t2,t3⟩:=t;obtain⟨u1,u2,u3⟩:=u;obtain⟨r1,r2,r3⟩:=r;have HN:Hid (∀W v' (l':List UInt8) n,bB W w.heap.size v' l'->w.heap.size<=W.heap.size->0<=n->n<4294967296->l'.length<=900000000->H K 144 #[v',I V n] W fun e w'=> ∃pE,e=G pE/\bB w' w.heap.size pE (l'++dQ n)/\rT W w' v' pE):=fun W v' l' n h1 h2 h3 h4 h5=>Vr h1 h2 h3 h4 h5
 have HP:Hid (∀W v' (l':List UInt8),bB W w.heap.size v' l'->aK w W->l'.length<=100->H K 145 #[v',Z t1 t2 t3] W fun e w'=> ∃pE,e=G pE/\bB w' w.heap.size pE (l'++oZ m.1)/\rT W w' v' pE):=fun W v' l' h1 h2 h3=>MX (x:=(t1,t2,t3)) h1 h2.le (fun W' hW=>ht.aM (iQ h2 hW)) gp (by omega) (by omega)
 have HU:Hid (∀W v' (l':List UInt8),bB W w.heap.size v' l'->aK w W->l'.length<=50000->H K 146 #[v',Z u1 u2 u3] W fun e w'=> ∃pE,e=G pE/\bB w' w.heap.size pE (l'++mU m.2.1)/\rT W w' v' pE):=fun W v' l' h1 h2 h3=>MZ (x:=(u1,u2,u3)) h1 h2.le (XT.of hu h2) (fun e he=>ge e (Or.inl he)) (by omega) (by omega)
 have HRD:Hid (∀W v' (l':List UInt8),bB W w.heap.size v' l'->aK w W->l'.length<=30000000->H K 146 #[v',Z r1 r2 r3] W fun e w'=> ∃pE,e=G pE/\bB w' w.heap.size pE (l'++mU m.2.2.1)/\rT W w' v' pE):=fun W v' l' h1 h2 h3=>MZ (x:=(r1,r2,r3)) h1 h2.le (XT.of hr h2) (fun e he=>ge e (Or.inr he)) (by omega) (by omega)
 have HSE:Hid (∀W v' (l':List UInt8),bB W w.heap.size v' l'->aK w W->l'.length<=900000000->H K 147 #[v'] W fun e w'=> ∃pE,e=G pE/\bB w' w.heap.size pE (l'++dQ (jR l'))/\aK w w'):=fun W v' l' h1 h2 h3=>(LK h1 h2.le h3).mono (by
  rintro e w' ⟨pE,rfl,k1,k2,k3⟩;exact⟨pE,rfl,k1,Ei h2 h1 k2⟩)
 have HLE:Hid ((mU m.2.1).length<=25000000):=by
  have:=Ey (l:=m.2.1) (fun e he=>(ge e (Or.inl he)).2.2.2);show _<=_;unfold mU;rw[List.length_append,bL];omega
 have HCK:Hid (zC ep m=(Xr ep m.2.2.2.1 m.2.2.2.2 3++oZ m.1++mU m.2.1++mU m.2.2.1)++dQ (jR (Xr ep m.2.2.2.1 m.2.2.2.2 3++oZ m.1++mU m.2.1++mU m.2.2.1))):=rfl
 have HLR:Hid ((mU m.2.2.1).length<=25000000):=by
  have:=Ey (l:=m.2.2.1) (fun e he=>(ge e (Or.inr he)).2.2.2);show _<=_;unfold mU;rw[List.length_append,bL];omega
 have HLP:Hid ((oZ m.1).length<=40000):=by show _<=_;rw[qZ];omega
 generalize m.2.2.2.1=dn at*;generalize m.2.2.2.2=bf at*;generalize zC ep m=CS at*;generalize oZ m.1=PB at*;generalize mU m.2.1=UB at*;generalize mU m.2.2.1=RB at*;obtain⟨w3,PZ⟩:∃w3,w3=((w.alloc (C #[I V dn,I V bf,Z t1 t2 t3,Z u1 u2 u3,Z r1 r2 r3] 105)).alloc (C #[I .u8 75] 5)).alloc (C #[I V ep,I V dn,I V bf] 3):=⟨_,rfl⟩;have hG3:aK w w3:=by rw[PZ];exact(((aK.refl w).alloc _).alloc _).alloc _
 have k1:w3.heap[w.heap.size]?=M (C #[I V dn,I V bf,Z t1 t2 t3,Z u1 u2 u3,Z r1 r2 r3] 105 (0,0)):=by
  rw[PZ,heap_alloc_old _ _ (by simp;omega),heap_alloc_old _ _ (by simp)];exact heap_alloc_new w _
 have k3:w3.heap[w.heap.size+1+1]?=M (C #[I V ep,I V dn,I V bf] 3 (0,0)):=by
  rw[PZ];have:=heap_alloc_new ((w.alloc (C #[I V dn,I V bf,Z t1 t2 t3,Z u1 u2 u3,Z r1 r2 r3] 105)).alloc (C #[I .u8 75] 5)) (C #[I V ep,I V dn,I V bf] 3);rwa[World.size_alloc,World.size_alloc]at this
 have HO3:Hid (bB w3 w.heap.size (Z (M ⟨w.heap.size+1,0,O⟩) 1 1) [75]):=by
  have:=World.ownsRow_lit (base:=w.heap.size) (e:=5) (size:=1) (w.alloc (C #[I V dn,I V bf,Z t1 t2 t3,Z u1 u2 u3,Z r1 r2 r3] 105)) #[I .u8 75] 1 (by simp) (by unfold maxLen;omega) rfl;rw[World.size_alloc]at this;rw[PZ];exact bB.of (n:=1) (World.ownsRow.alloc this _)
 have HK:Hid (∀W v',rT w3 W (Z (M ⟨w.heap.size+1,0,O⟩) 1 1) v'->(W.cell? ⟨w.heap.size,2,O⟩=M (Z t1 t2 t3)/\W.cell? ⟨w.heap.size,3,O⟩=M (Z u1 u2 u3)/\W.cell? ⟨w.heap.size,4,O⟩=M (Z r1 r2 r3))/\(W.cell? ⟨w.heap.size+1+1,0,O⟩=M (I V ep)/\W.cell? ⟨w.heap.size+1+1,1,O⟩=M (I V dn)/\W.cell? ⟨w.heap.size+1+1,2,O⟩=M (I V bf))/\aK w W):=fun W v' hF=>by
  have h1:=hF.at k1 (by simp[Value.ownBlock]);have h3:=hF.at k3 (by simp[Value.ownBlock]);obtain⟨⟨-,-,a2,a3,a4⟩,-⟩:=nY h1;refine⟨⟨a2,a3,a4⟩,by simp[World.cell?,h3],?_⟩;exact iQ hG3 (hF.below HO3.out hG3.le)
 unfold AO;simp only[dS.v];clear ht hu hr hg k1 k3 gp ge;go_enter Tryz.func91,Tryz.ntmps91
 go_upto_region 3 with fail
 rw[<-PZ];clear PZ
 go_loopw [5,7,16] (fun v _ i wr=> ∃k:Nat,k<=3/\i=I V (k:Int)/\Hid (bB wr w.heap.size v (Xr ep dn bf k)/\rT w3 wr (Z (M ⟨w.heap.size+1,0,O⟩) 1 1) v)) (fun _ _ i _=>3-(intOf i).toNat)
 case atStart=>exact⟨0,Nat.zero_le _,rfl,HO3.out,rT.refl _ _⟩
 case round=>
  obtain⟨k,hk,rfl,HO⟩:=hrel;obtain⟨⟨a2,a3,a4⟩,⟨c0,c1,c2⟩,hGr⟩:=HK.out wr _ HO.out.2;have HGR:Hid (aK w wr):=hGr;clear hGr;by_cases bS:k<3
  ·have Qx:(k:Int)<3:=by omega
   have i1:(0:Int)<=(k:Int):=by omega
   obtain⟨x,hx,hxb,hcx⟩:∃x,Xr ep dn bf (k+1)=Xr ep dn bf k++dQ x/\(0<=x/\x<4294967296)/\wr.cell? ⟨w.heap.size+1+1,k,O⟩=M (I V x):=by
    rcases(by omega:k=0\/k=1\/k=2)with rfl|rfl|rfl
    ·exact⟨ep,rfl,⟨by omega,by omega⟩,c0⟩
    ·exact⟨dn,rfl,⟨by omega,by omega⟩,c1⟩
    ·exact⟨bf,rfl,⟨by omega,by omega⟩,c2⟩
   have HX:Hid (Xr ep dn bf (k+1)=Xr ep dn bf k++dQ x):=hx;have hn:=HN.out wr _ _ x HO.out.1 HGR.out.le hxb.1 hxb.2 (by rw[Af _ _ _ hk];omega);obtain⟨xU,jT,ev,-⟩:=bB.form HO.out.1;rw[Af _ _ _ hk]at ev;subst ev;clear hx c0 c1 c2 a2 a3 a4
   go_wp2_with (go_at_call 144;refine hn.mono ?_;rintro e w5 ⟨v5,rfl,Qs,ED⟩)
   have EJ:Hid (bB w5 w.heap.size v5 (Xr ep dn bf k++dQ x)/\rT w3 w5 (Z (M ⟨w.heap.size+1,0,O⟩) 1 1) v5):=⟨Qs,HO.out.2.trans ED⟩;clear Qs ED hn;go_roundw
   case rel=>
    refine⟨k+1,by omega,by go_num,?_,EJ.out.2⟩;rw[HX.out];exact EJ.out.1
   case measure=>simp[intOf];omega
  ·have Qx:¬(k:Int)<3:=by omega
   have e3:k=3:=by omega
   subst e3;have KV:=Af ep dn bf (k:=3) (by omega);have HKL:Hid ((Xr ep dn bf 3).length=13):=KV;have hp:=HP.out wr _ _ HO.out.1 HGR.out (by omega);obtain⟨xU,jT,ev,-⟩:=bB.form HO.out.1;rw[KV]at ev;subst ev
   have xq:Hid (∀w5 v5,bB w5 w.heap.size v5 (Xr ep dn bf 3++PB)->rT w3 w5 (Z (M ⟨w.heap.size+1,0,O⟩) 1 1) v5->w5.cell? ⟨w.heap.size,3,O⟩=M (Z u1 u2 u3)/\H K 146 #[v5,Z u1 u2 u3] w5 fun e w'=> ∃pE,e=G pE/\bB w' w.heap.size pE (Xr ep dn bf 3++PB++UB)/\rT w5 w' v5 pE):=fun w5 v5 h1 h2=>by
    obtain⟨⟨-,b3,-⟩,-,dY⟩:=HK.out w5 _ h2;exact⟨b3,HU.out w5 v5 _ h1 dY (by rw[List.length_append,HKL.out];have:=HLP.out;omega)⟩
   have HK3:Hid (∀w6 v6,bB w6 w.heap.size v6 (Xr ep dn bf 3++PB++UB)->rT w3 w6 (Z (M ⟨w.heap.size+1,0,O⟩) 1 1) v6->w6.cell? ⟨w.heap.size,4,O⟩=M (Z r1 r2 r3)/\H K 146 #[v6,Z r1 r2 r3] w6 fun e w'=> ∃pE,e=G pE/\bB w' w.heap.size pE (Xr ep dn bf 3++PB++UB++RB)/\rT w6 w' v6 pE):=fun w6 v6 h1 h2=>by
    obtain⟨⟨-,-,b4⟩,-,dY⟩:=HK.out w6 _ h2;exact⟨b4,HRD.out w6 v6 _ h1 dY (by rw[List.length_append,List.length_append,HKL.out];have:=HLP.out;have:=HLE.out;omega)⟩
   have W_:Hid (∀w7 v7,bB w7 w.heap.size v7 (Xr ep dn bf 3++PB++UB++RB)->rT w3 w7 (Z (M ⟨w.heap.size+1,0,O⟩) 1 1) v7->H K 147 #[v7] w7 fun e w'=> ∃pE,e=G pE/\bB w' w.heap.size pE CS/\aK w w'):=fun w7 v7 h1 h2=>by
    obtain⟨-,-,dY⟩:=HK.out w7 _ h2;have:=HSE.out w7 v7 _ h1 dY (by rw[List.length_append,List.length_append,List.length_append,HKL.out];have:=HLP.out;have:=HLE.out;have:=HLR.out;omega);rw[<-HCK.out]at this;exact this
   have QH:Hid (rT w3 wr (Z (M ⟨w.heap.size+1,0,O⟩) 1 1) (Z xU 13 jT)):=HO.out.2;clear KV HO HK HN HP HU HRD HSE HCK c0 c1 c2 a3 a4
   go_upto_region 8 with(go_at_call 145;refine hp.mono ?_;rintro e w5 ⟨v5,rfl,Qs,ED⟩)
   have hF5':=QH.out.trans ED;obtain⟨y3,hue⟩:=xq.out w5 v5 Qs hF5';clear hp a2 ED Qs xq
   go_upto_region 9 with(go_at_call 146;refine hue.mono ?_;rintro e w6 ⟨v6,rfl,hO6,zk⟩)
   have hF6':=hF5'.trans zk;obtain⟨y4,Yk⟩:=HK3.out w6 v6 hO6 hF6';clear hue y3 zk hO6 HK3 hF5'
   go_upto_region 10 with(go_at_call 146;refine Yk.mono ?_;rintro e w7 ⟨v7,rfl,hO7,Z_⟩)
   have hse:=W_.out w7 v7 hO7 (hF6'.trans Z_);clear Yk y4 Z_ hO7 W_ hF6'
   go_wp2_with (go_at_call 147;refine hse.mono ?_;rintro e w8 ⟨v8,rfl,hO8,hG8⟩)
   go_ret;exact⟨v8,rfl,hO8,hG8⟩
end Go.Proofs.YtfplgfodoiiobaaGreatDoor
