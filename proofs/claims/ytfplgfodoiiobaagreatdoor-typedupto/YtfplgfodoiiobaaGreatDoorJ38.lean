/- JnD, QlQ, QlR (joined). -/
import Derived.Test.YtfplgfodoiiobaaGreatDoorJ32
import Derived.Test.YtfplgfodoiiobaaGreatDoorJ37
open Option renaming none→O,some→M
open Go.Value renaming int→I,pointer→U
open Go.IntKind renaming i64→V
open Go.Obj renaming cells→C
open Go.Ending renaming returned→G
open Go renaming World→F,Calls→H
open Go.Proofs.Tryz renaming prog→K
namespace Go.Proofs.YtfplgfodoiiobaaGreatDoor
set_option maxHeartbeats 1000000
open Go.RowKit
variable {fs:List bE}{s:Sc}{m:bR}{w:F}{qp:Nat}{X:Nat->Prop}{D n pos b q a c:Int}{ps:Nat->Addr}{text:ByteArray}
theorem BK.m_ (h:BK s fs):lY 50 s fs:=⟨h.dN,h.Fx,h.inv,h.len⟩
theorem lY.bk (h:lY 50 s fs):BK s fs:=⟨h.dN,h.Fx,h.inv,h.len⟩
theorem res_eq (fs:List bE)(depth:Nat):Ew fs depth=lM (aN fs 2) ((aN fs 1).size:Int) depth:=by
 unfold Ew;by_cases hz:(aN fs 2).size=0
 ·rw[if_pos hz];unfold lM;rw[if_pos hz]
 ·rw[if_neg hz,XY hz];cases uQ (aN fs 2).data.toList ((aN fs 1).size:Int)<;>rfl
theorem Lb {room:Int}(h:eO room fs)(hz:(aN fs n).size=0):∀f∈fs,f.1≠n:=by
 intro f hf e;rw[dO]at hz;cases hg:eF fs n with
 |none=>
  unfold eF at hg;rw[List.find?_eq_none]at hg;exact hg f hf (by simp[e])
 |some g=>
  rw[hg]at hz;exact h.sort.2 g (pR hg).1 hz
theorem oth_eq {room:Int}(h:eO room fs){e:Int}(h0:e=0->(aN fs 2).size=0):vQ fs e=Gp fs e:=by
 unfold vQ Gp;refine List.filter_congr ?_;intro n hn;obtain⟨f,hf,rfl⟩:=List.mem_map.1 hn;by_cases he:e=0
 ·have h2:=Lb h (h0 he) f hf;have h3:(f.1 !=2)=true:=by simp[h2]
  simp[he,h3]
 ·cases h1:(f.1 !=1)<;>cases h2:(f.1 !=2)<;>cases h3:(f.1 !=10+e)<;>simp[he]
theorem Pd {depth:Nat}{em:Int×bR}(h:Ew fs depth=M em)(hb:((aN fs 1).size:Int)<=1000000):(em.1=0->(aN fs 2).size=0)/\dJ em.2 depth/\em.2.2.2.2.1<=1000000000/\em.2.2.2.2.2<=((aN fs 1).size:Int)/\0<=em.1/\em.1<=999:=by
 unfold Ew at h;by_cases hz:(aN fs 2).size=0
 ·rw[if_pos hz]at h;simp only[Option.some.injEq]at h;subst h;exact⟨fun _=>hz,Oe depth,by simp,by simp,by simp,by simp⟩
 ·rw[if_neg hz]at h;cases hc:uQ (aN fs 2).data.toList ((aN fs 1).size:Int)with
  |none=>rw[hc]at h;cases h
  |some q=>
   rw[hc]at h;simp only[Option.some.injEq]at h;subst h;obtain⟨e,m⟩:=q;obtain⟨k1,k2,k3,k4,-⟩:=Od hc hb depth;exact⟨fun e0=>by simp only at e0;omega,k2,k3,k4,by simp only;omega,by simp only;omega⟩
theorem ZL (ho:s.aX=false)(hI:eO s.room fs)(hb:((aN fs 1).size:Int)<=1000000):
 uK (s,fs,m)=match Ew fs s.depth.toNat with
  |none=>((s,fs,m),11)
  |some em=>(if (Am { s with aX:=true } fs s.depth.toNat em).1=0 then ({ (Am { s with aX:=true } fs s.depth.toNat em).2.1 with ro:=false,aZ:=em.1 },(Am { s with aX:=true } fs s.depth.toNat em).2.2,(qY fs s.depth.toNat em).1)else ((Am { s with aX:=true } fs s.depth.toNat em).2.1,(Am { s with aX:=true } fs s.depth.toNat em).2.2,m),(Am { s with aX:=true } fs s.depth.toNat em).1):=by
 unfold uK;simp only;rw[if_neg (by simp[ho]),<-res_eq];cases hr:Ew fs s.depth.toNat with
 |none=>rfl
 |some em=>
  obtain⟨h0,-⟩:=Pd hr hb;simp only
  have hM:qY fs s.depth.toNat em=nP ((aN fs 1).size:Int) s.depth.toNat ((aN fs (10+em.1)).data.toList.length / 22+1) em.2 (aN fs (10+em.1)).data.toList:=by
   unfold qY;rw[YA];have:(aN fs (10+em.1)).data.toList.length=(aN fs (10+em.1)).size:=by rw[Array.length_toList];rfl
   rw[this]
  rw[<-hM];unfold Am nX;rw[oth_eq hI h0];generalize qY fs s.depth.toNat em=g;generalize gH { s with aX:=true } fs (Gp fs em.1)=r;by_cases c1:r.1=false
  ·simp[c1]
  ·simp only[if_neg c1];generalize bW r.2.1 r.2.2 (10+em.1) ((22*g.2:Nat):Int)=r2;by_cases c2:r2.1=false
   ·simp[c2]
   ·simp only[if_neg c2];generalize bW r2.2.1 r2.2.2 1 g.1.2.2.2.2=r3;cases c3:r3.1 with
    |false=>simp
    |true=>simp
theorem CZ {buf:Int}(hb:buf<=1000000)(depth:Nat):∀(k:Nat) (m:bR) (l:List UInt8),dJ m depth->m.2.2.2.2<=buf->dJ (vV buf depth k m l).1 depth/\(vV buf depth k m l).1.2.2.2.1<=m.2.2.2.1+(k:Int)/\(vV buf depth k m l).1.2.2.2.2<=buf
 |0,m,l,hg,hm=>⟨hg,by simp[vV],hm⟩
 |k+1,m,l,hg,hm=>by
  unfold vV;cases hr:vU m l buf depth with
  |none=>exact⟨hg,by simp only;omega,hm⟩
  |some m'=>
   obtain⟨-,h1,h2,h3⟩:=Tk hr hg hb;obtain⟨i1,i2,i3⟩:=CZ hb depth k m' (l.drop 22) h1 (by omega);exact⟨i1,by simp only;omega,i3⟩
theorem JW (hB:BK s fs)(n:Int){k:Int}(h0:0<=k):
 BK (bW s fs n k).2.1 (bW s fs n k).2.2/\gY s (bW s fs n k).2.1/\(((bW s fs n k).1=true/\(bW s fs n k).2.1.aX=s.aX/\(bW s fs n k).2.1.ro=s.ro/\(∀f∈(bW s fs n k).2.2,(∃g∈fs,g.1=f.1)/\(k=0->f.1≠n))/\((aN (bW s fs n k).2.2 n).size:Int)<=k/\((aN (bW s fs n k).2.2 n).size:Int)=min k ((aN fs n).size:Int)/\∀j,j≠n->aN (bW s fs n k).2.2 j=aN fs j)\/((bW s fs n k).1=false/\(bW s fs n k).2.1.aX=false)):=by
 have hD:=(hB.m_.cut n h0).bk;rcases Ke hB.dN hB.inv n h0 with⟨h1,e⟩|⟨h1,s',e,hd,hI⟩|⟨h1,s',bZ,e,hd⟩
 ·rw[e]at hD ⊢;refine⟨hD,gY.refl s,Or.inl ⟨rfl,rfl,rfl,fun f hf=>⟨⟨f,hf,rfl⟩,fun hk=>?_⟩,h1,by simp only;omega,fun _ _=>rfl⟩⟩;exact Lb hB.inv (by omega) f hf
 ·rw[e]at hD ⊢
  have hz:((aN (Gs fs n k) n).size:Int)=k:=by
   rw[Ih hB.inv.sort,if_pos rfl];exact extract_size _ h0 (by omega)
  refine⟨hD,hd.1,Or.inl ⟨rfl,hd.2.1,hd.2.2.1,fun f hf=>?_,by simp only;omega,by simp only;omega,fun j hj=>?_⟩⟩
  ·rcases NK hf with⟨h2,h3⟩|⟨h2,h3⟩
   ·refine⟨?_,fun hk=>(h2 hk).elim⟩;rw[h3];cases hg:eF fs n with
    |none=>
     rw[dO,hg]at h1;have:((⟨#[]⟩:ByteArray).size:Int)=0:=rfl;simp only[Option.map_none,Option.getD_none]at h1;omega
    |some g=>exact⟨g,pR hg⟩
   ·exact⟨⟨f,h2,rfl⟩,h3⟩
  ·simp only;rw[Ih hB.inv.sort,if_neg (fun e=>hj e.symm)]
 ·rw[e]at hD ⊢;exact⟨hD,hd.1,Or.inr ⟨rfl,hd.2.1⟩⟩
theorem NM:∀(l:List Int) {s:Sc} {fs:List bE},BK s fs->
 BK (gH s fs l).2.1 (gH s fs l).2.2/\gY s (gH s fs l).2.1/\(((gH s fs l).1=true/\(gH s fs l).2.1.aX=s.aX/\(gH s fs l).2.1.ro=s.ro/\(∀f∈(gH s fs l).2.2,(∃g∈fs,g.1=f.1)/\f.1 ∉ l)/\∀j,j ∉ l->aN (gH s fs l).2.2 j=aN fs j)\/((gH s fs l).1=false/\(gH s fs l).2.1.aX=false))
 | [],s,fs,hB=>⟨hB,gY.refl s,Or.inl ⟨rfl,rfl,rfl,fun f hf=>⟨⟨f,hf,rfl⟩,by simp⟩,fun _ _=>rfl⟩⟩
 |n::l,s,fs,hB=>by
  obtain⟨k1,k2,k3⟩:=JW hB n (k:=0) (Int.le_refl _);unfold gH;simp only;rcases k3 with⟨q1,q2,q3,q4,-,-,q5⟩|⟨q1,q2⟩
  ·rw[if_pos q1];obtain⟨j1,j2,j3⟩:=NM l k1;refine⟨j1,k2.trans j2,?_⟩;rcases j3 with⟨r1,r2,r3,r4,r5⟩|r
   ·refine Or.inl ⟨r1,r2.trans q2,r3.trans q3,fun f hf=>?_,fun j hj=>?_⟩
    ·obtain⟨⟨g,hg,eg⟩,h2⟩:=r4 f hf;obtain⟨⟨g',yE,eg'⟩,h3⟩:=q4 g hg;refine⟨⟨g',yE,eg'.trans eg⟩,?_⟩;simp only[List.mem_cons,not_or];exact⟨by rw[<-eg];exact h3 rfl,h2⟩
    ·simp only[List.mem_cons,not_or]at hj;rw[r5 j hj.2,q5 j hj.1]
   ·exact Or.inr r
  ·rw[if_neg (by rw[q1];simp)];exact⟨k1,k2,Or.inr ⟨q1,q2⟩⟩
theorem gs_opn (hB:BK s fs)(ep:Int)(j:Nat)(hb:0<=b):
 BK (nX s fs ep (j:Int) b).2.1 (nX s fs ep (j:Int) b).2.2/\gY s (nX s fs ep (j:Int) b).2.1/\(((nX s fs ep (j:Int) b).1=0/\(nX s fs ep (j:Int) b).2.1.aX=s.aX)\/((nX s fs ep (j:Int) b).1≠0/\(nX s fs ep (j:Int) b).2.1.aX=false)):=by
 unfold nX;obtain⟨j1,j2,j3⟩:=NM (vQ fs ep) hB;generalize gH s fs (vQ fs ep)=r at*;rcases j3 with⟨q1,q2,-⟩|⟨q1,q2⟩
 ·simp only[q1,Bool.true_eq_false,if_false];obtain⟨k1,k2,k3⟩:=JW j1 (10+ep) (k:=(j:Int)) (by omega);generalize bW r.2.1 r.2.2 (10+ep) (j:Int)=r2 at*;rcases k3 with⟨p1,p2,-⟩|⟨p1,p2⟩
  ·simp only[p1,Bool.true_eq_false,if_false];obtain⟨i1,i2,i3⟩:=JW k1 1 (k:=b) hb;generalize bW r2.2.1 r2.2.2 1 b=r3 at*;rcases i3 with⟨t1,t2,-⟩|⟨t1,t2⟩
   ·simp only[t1,if_true];exact⟨i1,(j2.trans k2).trans i2,Or.inl ⟨by simp,(t2.trans p2).trans q2⟩⟩
   ·simp only[t1,Bool.false_eq_true,if_false];exact⟨i1,(j2.trans k2).trans i2,Or.inr ⟨by simp,t2⟩⟩
  ·simp only[p1,if_true];exact⟨k1,j2.trans k2,Or.inr ⟨by simp,p2⟩⟩
 ·simp only[q1,if_true];exact⟨j1,j2,Or.inr ⟨by simp,q2⟩⟩
theorem n_ {depth:Nat}{em:Int×bR}(h:Ew fs depth=M em)(hb:((aN fs 1).size:Int)<=1000000):0<=(qY fs depth em).1.2.2.2.2:=by
 obtain⟨-,z1,-,z3,-⟩:=Pd h hb;exact(CZ hb depth ((aN fs (10+em.1)).size / 22+1) em.2 (aN fs (10+em.1)).data.toList z1 z3).1.yT
theorem lY.more {N aJ:Nat}(h:lY N s fs)(hn:N<=aJ):lY aJ s fs:=⟨h.dN,h.Fx,h.inv,Nat.le_trans h.len hn⟩
theorem Bf.same {w':F}(h:uR w qp s fs m X)(hg:aK w w'):Bf w w' qp X (s,fs,m):=⟨X,h.aM hg,Dk.bI hg⟩
theorem DC {db:Nat}{most depth:Int}(h:w.heap[qp]?=M (xC most depth db O)):
 H K 54 #[U (M ⟨qp,0,O⟩),.agg #[I .u8 q,I V a,I V b,I V c],.string text] w fun e w'=>e=G (I V 3)/\aK w w':=by
 obtain⟨w1,dU⟩:∃w1,w1=(w.alloc (C #[I .u8 q,I V a,I V b,I V c] 99)).alloc (C #[.string text] 9):=⟨_,rfl⟩;have G1:aK w w1:=by rw[dU];exact((aK.refl w).alloc _).alloc _
 have hM:=Ah ((G1.block _ (aL h)).trans h);clear h;go_enter Tryz.func54,Tryz.ntmps54
 go_upto_region 1 with fail
 rw[<-dU];clear dU
 go_wp2_with (go_at_call 52;refine hM.mono ?_;rintro e w' ⟨rfl,rfl⟩)
 go_ret;exact⟨rfl,G1⟩
theorem RO {db sp lp dp:Nat}{most depth:Int}(h:w.heap[qp]?=M (xC most depth db (M sp)))(hs:w.heap[sp]?=M (qH lp dp true)):
 H K 54 #[U (M ⟨qp,0,O⟩),.agg #[I .u8 q,I V a,I V b,I V c],.string text] w fun e w'=>e=G (I V 4)/\aK w w':=by
 obtain⟨w1,dU⟩:∃w1,w1=(w.alloc (C #[I .u8 q,I V a,I V b,I V c] 99)).alloc (C #[.string text] 9):=⟨_,rfl⟩;have G1:aK w w1:=by rw[dU];exact((aK.refl w).alloc _).alloc _
 have hM:=vX ((G1.block _ (aL h)).trans h) ((G1.block _ (aL hs)).trans hs);rw[if_pos rfl]at hM;clear h hs;go_enter Tryz.func54,Tryz.ntmps54
 go_upto_region 1 with fail
 rw[<-dU];clear dU
 go_wp2_with (go_at_call 52;refine hM.mono ?_;rintro e w' ⟨rfl,rfl⟩)
 go_ret;exact⟨rfl,G1⟩
def yD (x:St)(q a b c:Int)(text:ByteArray):St×Int:=if x.1.aX=false then (x,3)else if x.1.ro then (x,4)else Ff x q a b c text
theorem Lc (h:uR w qp s fs m X)(hG:Gl w ps)(hS:GS (s,fs,m) D)(hD:D<=1999999999)(Kn: -9223372036854770000<=c)(hc:c<=9223372036854770000)(hb:b<=9223372036854775807)(hx:text.size=0\/(text.size:Int)=c):
 H K 54 #[U (M ⟨qp,0,O⟩),.agg #[I .u8 q,I V a,I V b,I V c],.string text] w fun e w'=>e=G (I V (yD (s,fs,m) q a b c text).2)/\Bf w w' qp X (yD (s,fs,m) q a b c text).1:=by
 have h0:=h;rcases h with⟨ho,db,fv,rs,h1,rfl,h3,rfl⟩|⟨ho,db,fv,rs,sp,lp,dp,tb,h1,rfl,rfl⟩
 ·have e:yD (s,plain rs,m) q a b c text=((s,plain rs,m),3):=by unfold yD;rw[if_pos ho]
  rw[e];refine(DC h3).mono ?_;rintro e w' ⟨rfl,hg⟩;exact⟨rfl,Bf.same h0 hg⟩
 ·cases hr:s.ro with
  |true=>
   have e:yD (s,plain rs,m) q a b c text=((s,plain rs,m),4):=by unfold yD;simp only;rw[if_neg (by simp[ho]),if_pos hr]
   rw[e];rw[hr]at h1;refine(RO h1.qu h1.xD).mono ?_;rintro e w' ⟨rfl,hg⟩;exact⟨rfl,Bf.same h0 hg⟩
  |false=>
   have e:yD (s,plain rs,m) q a b c text=Ff (s,plain rs,m) q a b c text:=by unfold yD;simp only;rw[if_neg (by simp[ho]),if_neg (by simp[hr])]
   rw[e];rw[hr]at h1;have hd:=hS.done ho;simp only at hd;refine(ZC h1 hG ho hr (hS.bk.m_.more (by omega)) (hS.OT ho) (by omega) Kn hc hb hx).mono ?_;rintro e w' ⟨r,rfl,rfl,hq⟩;exact⟨rfl,hq⟩
def zJ (kind pos:Int):Int:=if kind=73\/kind=68 then pos else 0
def Cn (fs:List bE)(kind n:Int):Int:=if kind=73 then ((aN fs 1).size:Int)else if kind=68 then n else 0
def zK (kind:Int)(text:ByteArray):Int:=if kind=73 then (text.size:Int)else 0
theorem Ld {kind:Int}(hS:GS (s,fs,m) D)(hk:kind=73\/kind=68\/kind=85\/kind=82)(ht:kind≠73->text.size=0):
 iW (s,fs,m) kind pos n text=yD (s,fs,m) kind (zJ kind pos) (Cn fs kind n) (zK kind text) text:=by
 unfold iW yD;by_cases ho:s.aX=false
 ·rw[if_pos ho,if_pos ho]
 ·rw[if_neg ho,if_neg ho];have Gy:s.aX=true:=by simpa using ho
  by_cases hr:s.ro=true
  ·rw[if_pos hr,if_pos hr]
  ·rw[if_neg hr,if_neg hr];have wF:s.ro=false:=by simpa using hr
   have hb:=hS.Pb Gy wF;simp only at hb
   have hm:mJ m kind (zJ kind pos) (Cn fs kind n) (zK kind text) s.most=(gQ m kind (zJ kind pos) (Cn fs kind n) (zK kind text) s.most s.depth.toNat).2:=by
    refine Vx ?_;unfold zJ Cn zK;rcases hk with rfl|rfl|rfl|rfl
    ·exact Or.inl ⟨rfl,by simpa using hb.symm⟩
    ·exact Or.inr (Or.inl ⟨rfl,by simp⟩)
    ·exact Or.inr (Or.inr ⟨Or.inl rfl,by simp,by simp,by simp⟩)
    ·exact Or.inr (Or.inr ⟨Or.inr rfl,by simp,by simp,by simp⟩)
   have eA:(if kind=73\/kind=68 then pos else 0)=zJ kind pos:=rfl;have eB:(if kind=73 then ((aN fs 1).size:Int)else if kind=68 then n else 0)=Cn fs kind n:=rfl;have eC:(if kind=73 then (text.size:Int)else 0)=zK kind text:=rfl;unfold Ff;simp only[eA,eB,eC];rw[hm];by_cases hE:(gQ m kind (zJ kind pos) (Cn fs kind n) (zK kind text) s.most s.depth.toNat).2≠0
   ·rw[if_pos hE,if_pos hE]
   ·rw[if_neg hE,if_neg hE];have Xt:(gQ m kind (zJ kind pos) (Cn fs kind n) (zK kind text) s.most s.depth.toNat).2=0:=by omega
    have rR:=(Wo Xt).1;rw[rR];unfold EI;by_cases Qg:kind=73
    ·have hz:text.size≠0:=by
      intro hz;have Kn:zK kind text=0:=by unfold zK;rw[if_pos Qg,hz];rfl
      rw[Kn]at Xt;unfold gQ at Xt;rw[if_pos Qg]at Xt;unfold sW at Xt;by_cases c1:zJ kind pos<0\/sz m.1<zJ kind pos
      ·rw[if_pos c1]at Xt;simp at Xt
      ·rw[if_neg c1,if_pos (by omega)]at Xt;simp at Xt
     simp only[if_neg hz,if_pos Qg];have hsame:(dR s fs 1 text).2.1.aZ=s.aZ:=(Fe hS.bk.m_ (n:=1) (by omega) hz Gy wF).2.2.2.2;by_cases hq:(dR s fs 1 text).1≠0
     ·rw[if_pos hq,if_pos hq,if_neg hq]
     ·rw[if_neg hq,if_neg hq,hsame]
    ·simp only[if_pos (ht Qg),if_neg Qg,ne_eq,not_true_eq_false,if_false]
theorem o_ (h:uR w qp s fs m X)(hG:Gl w ps)(hS:GS (s,fs,m) D)(hD:D<=1999999999)(hn:n<=9223372036854775807):
 H K 44 #[U (M ⟨qp,0,O⟩),I V pos,I V n] w fun e w'=>e=G (I V (iW (s,fs,m) 68 pos n ⟨#[]⟩).2)/\Bf w w' qp X (iW (s,fs,m) 68 pos n ⟨#[]⟩).1:=by
 rw[Ld hS (Or.inr (Or.inl rfl)) (fun _=>rfl)];have e1:zJ 68 pos=pos:=by simp[zJ]
 have e2:Cn fs 68 n=n:=by simp[Cn]
 have e3:zK 68 ⟨#[]⟩=0:=by simp[zK]
 rw[e1,e2,e3];have hc:=Lc (q:=68) (a:=pos) (b:=n) (c:=0) (text:=⟨#[]⟩) h hG hS hD (by omega) (by omega) hn (Or.inl rfl);generalize yD (s,fs,m) 68 pos n 0 ⟨#[]⟩=R at*;clear h hG hS e1 e2 e3;go_enter Tryz.func44,Tryz.ntmps44
 go_wp2_with (go_at_call 54;refine hc.mono ?_;rintro e w' ⟨rfl,hq⟩)
 go_ret;exact⟨rfl,hq⟩
theorem qundo (h:uR w qp s fs m X)(hG:Gl w ps)(hS:GS (s,fs,m) D)(hD:D<=1999999999):
 H K 29 #[U (M ⟨qp,0,O⟩)] w fun e w'=>e=G (I V (iW (s,fs,m) 85 pos n ⟨#[]⟩).2)/\Bf w w' qp X (iW (s,fs,m) 85 pos n ⟨#[]⟩).1:=by
 rw[Ld hS (Or.inr (Or.inr (Or.inl rfl))) (fun _=>rfl)];have e1:zJ 85 pos=0:=by simp[zJ]
 have e2:Cn fs 85 n=0:=by simp[Cn]
 have e3:zK 85 ⟨#[]⟩=0:=by simp[zK]
 rw[e1,e2,e3];have hc:=Lc (q:=85) (a:=0) (b:=0) (c:=0) (text:=⟨#[]⟩) h hG hS hD (by omega) (by omega) (by omega) (Or.inl rfl);generalize yD (s,fs,m) 85 0 0 0 ⟨#[]⟩=R at*;clear h hG hS e1 e2 e3;go_enter Tryz.func29,Tryz.ntmps29
 go_wp2_with (go_at_call 54;refine hc.mono ?_;rintro e w' ⟨rfl,hq⟩)
 go_ret;exact⟨rfl,hq⟩
theorem qredo (h:uR w qp s fs m X)(hG:Gl w ps)(hS:GS (s,fs,m) D)(hD:D<=1999999999):
 H K 46 #[U (M ⟨qp,0,O⟩)] w fun e w'=>e=G (I V (iW (s,fs,m) 82 pos n ⟨#[]⟩).2)/\Bf w w' qp X (iW (s,fs,m) 82 pos n ⟨#[]⟩).1:=by
 rw[Ld hS (Or.inr (Or.inr (Or.inr rfl))) (fun _=>rfl)];have e1:zJ 82 pos=0:=by simp[zJ]
 have e2:Cn fs 82 n=0:=by simp[Cn]
 have e3:zK 82 ⟨#[]⟩=0:=by simp[zK]
 rw[e1,e2,e3];have hc:=Lc (q:=82) (a:=0) (b:=0) (c:=0) (text:=⟨#[]⟩) h hG hS hD (by omega) (by omega) (by omega) (Or.inl rfl);generalize yD (s,fs,m) 82 0 0 0 ⟨#[]⟩=R at*;clear h hG hS e1 e2 e3;go_enter Tryz.func46,Tryz.ntmps46
 go_wp2_with (go_at_call 54;refine hc.mono ?_;rintro e w' ⟨rfl,hq⟩)
 go_ret;exact⟨rfl,hq⟩
theorem p_ (h:uR w qp s fs m X)(hG:Gl w ps)(hS:GS (s,fs,m) D)(hD:D<=1999999999)(ht:text.size<=140737488355328):
 H K 28 #[U (M ⟨qp,0,O⟩),I V pos,.string text] w fun e w'=>e=G (I V (iW (s,fs,m) 73 pos n text).2)/\Bf w w' qp X (iW (s,fs,m) 73 pos n text).1:=by
 rw[Ld hS (Or.inl rfl) (fun e=>(e rfl).elim)];have e1:zJ 73 pos=pos:=by simp[zJ]
 have e2:Cn fs 73 n=((aN fs 1).size:Int):=by simp[Cn]
 have e3:zK 73 text=(text.size:Int):=by simp[zK]
 rw[e1,e2,e3];clear e1 e2 e3;have qJ:=kI hS.bk.inv 1;have JV:=hS.bk.dN.sF;simp only at qJ JV;have hc:=Lc (q:=73) (a:=pos) (b:=((aN fs 1).size:Int)) (c:=(text.size:Int)) (text:=text) h hG hS hD (by omega) (by omega) (by omega) (Or.inr rfl);have h0:=h;rcases h with⟨ho,db,fv,rs,h1,rfl,h3,rfl⟩|⟨ho,db,fv,rs,sp,lp,dp,tb,h1,rfl,rfl⟩
 ·have hM:=Ah h3;have e:yD (s,plain rs,m) 73 pos ((aN (plain rs) 1).size:Int) (text.size:Int) text=((s,plain rs,m),3):=by unfold yD;rw[if_pos ho]
  rw[e];have HQ:Hid (uR w qp s (plain rs) m (JS qp db fv rs)):=h0;clear hc h0 hG hS h1 h3 e;go_enter Tryz.func28,Tryz.ntmps28
  go_wp2_with (go_at_call 52;refine hM.mono ?_;rintro e w' ⟨rfl,rfl⟩)
  go_ret;exact⟨rfl,Bf.same HQ.out (aK.refl _)⟩
 ·have hM:=vX h1.qu h1.xD;cases hr:s.ro with
  |true=>
   have e:yD (s,plain rs,m) 73 pos ((aN (plain rs) 1).size:Int) (text.size:Int) text=((s,plain rs,m),4):=by unfold yD;simp only;rw[if_neg (by simp[ho]),if_pos hr]
   rw[e];rw[hr,if_pos rfl]at hM;have HQ:Hid (uR w qp s (plain rs) m (La qp db fv rs sp lp dp tb)):=h0;clear hc h0 hG hS h1 e hr ho;go_enter Tryz.func28,Tryz.ntmps28
   go_wp2_with (go_at_call 52;refine hM.mono ?_;rintro e w' ⟨rfl,rfl⟩)
   go_ret;exact⟨rfl,Bf.same HQ.out (aK.refl _)⟩
  |false=>
   rw[hr]at hM;simp only[if_neg (show ¬(false=true) by decide)]at hM;have hb:=hS.Pb ho hr;simp only at hb;have hB:=wX h1.Ty;rw[hb]at hB;obtain⟨-,-,-,c3,-⟩:=eG h1.qu;obtain⟨-,d1,-⟩:=iM h1.xD;simp only[Option.map_some]at c3;generalize yD (s,plain rs,m) 73 pos ((aN (plain rs) 1).size:Int) (text.size:Int) text=R at*;generalize ((aN (plain rs) 1).size:Int)=bz at*;clear h0 hG hS h1 hr ho hb qJ JV;go_enter Tryz.func28,Tryz.ntmps28
   go_wp2_with (first|(go_at_call 52;refine hM.mono ?_;rintro e w' ⟨rfl,rfl⟩)|(go_at_call 53;refine hB.mono ?_;rintro e w' ⟨rfl,rfl⟩)|(go_at_call 54;refine hc.mono ?_;rintro e w' ⟨rfl,hq⟩))
   go_ret;exact⟨rfl,hq⟩
theorem r_ (hB:BK s fs)(ho:s.aX=true)(hr:s.ro=false):RJ (oK s fs s.aZ).2.1 (oK s fs s.aZ).1/\gY s (oK s fs s.aZ).2.1/\∀m,nQ (s,fs,m)=(((oK s fs s.aZ).2.1,(oK s fs s.aZ).2.2,m),(oK s fs s.aZ).1):=by
 have e1:qA s fs s.aZ 1=bV s fs 1:=rfl;have e2:qA s fs s.aZ 2=bV (bV s fs 1).2.1 (bV s fs 1).2.2 (10+s.aZ):=rfl;obtain⟨k1,k2,k3⟩:=zI hB 1
 have hS:∀m,nQ (s,fs,m)=(((oK s fs s.aZ).2.1,(oK s fs s.aZ).2.2,m),(oK s fs s.aZ).1):=fun m=>by
  unfold nQ oK;simp only;rw[if_neg (by simp[ho]),if_neg (by simp[hr]),e1,e2,k2.2.2.2];split<;>rfl
 refine⟨?_,?_,hS⟩
 ·unfold oK;rw[e1,e2];rcases k3 with⟨q1,q2,q3,-⟩|⟨q1,q2⟩
  ·rw[if_neg (by rw[q1];simp)];obtain⟨-,-,j3⟩:=zI k1 (10+s.aZ);rcases j3 with⟨r1,r2,r3,-⟩|⟨r1,r2⟩
   ·rw[if_pos r1];exact Or.inr (Or.inr ⟨by simp,by simp,(r2.trans q2).trans ho,(r3.trans q3).trans hr⟩)
   ·rw[if_neg (by rw[r1];simp)];exact Or.inl ⟨rfl,r2⟩
  ·rw[if_pos q1];exact Or.inl ⟨rfl,q2⟩
 ·unfold oK;rw[e1,e2];split
  ·exact k2
  ·exact k2.trans (zI k1 (10+s.aZ)).2.1
theorem qsync (h:uR w qp s fs m X)(hG:Gl w ps)(hS:GS (s,fs,m) D):
 H K 30 #[U (M ⟨qp,0,O⟩)] w fun e w'=>e=G (I V (nQ (s,fs,m)).2)/\Bf w w' qp X (nQ (s,fs,m)).1:=by
 have h0:=h;have uO:=hS.bk.dN.uM;have Bb:=hS.bk.dN.Gr;simp only at uO Bb;rcases h with⟨ho,db,fv,rs,h1,rfl,h3,rfl⟩|⟨ho,db,fv,rs,sp,lp,dp,tb,h1,rfl,rfl⟩
 ·have hM:=Ah h3;have e:nQ (s,plain rs,m)=((s,plain rs,m),3):=by unfold nQ;rw[if_pos ho]
  rw[e];have HQ:Hid (uR w qp s (plain rs) m (JS qp db fv rs)):=h0;clear h0 hG hS h1 h3 e;go_enter Tryz.func30,Tryz.ntmps30
  go_wp2_with (go_at_call 52;refine hM.mono ?_;rintro e w' ⟨rfl,rfl⟩)
  go_ret;exact⟨rfl,Bf.same HQ.out (aK.refl _)⟩
 ·have hM:=vX h1.qu h1.xD;cases hr:s.ro with
  |true=>
   have e:nQ (s,plain rs,m)=((s,plain rs,m),4):=by unfold nQ;simp only;rw[if_neg (by simp[ho]),if_pos hr]
   rw[e];rw[hr,if_pos rfl]at hM;have HQ:Hid (uR w qp s (plain rs) m (La qp db fv rs sp lp dp tb)):=h0;clear h0 hG hS h1 e hr ho;go_enter Tryz.func30,Tryz.ntmps30
   go_wp2_with (go_at_call 52;refine hM.mono ?_;rintro e w' ⟨rfl,rfl⟩)
   go_ret;exact⟨rfl,Bf.same HQ.out (aK.refl _)⟩
  |false=>
   rw[hr]at hM h1;simp only[if_neg (show ¬(false=true) by decide)]at hM;obtain⟨hF,hSm,hEq⟩:=r_ hS.bk ho hr;have hY:=xg h1.disk h1.rP hG (hS.bk.m_.more (by omega)) uO (by omega);simp only at hF hSm hEq;rw[hEq m];generalize oK s (plain rs) s.aZ=r at*;obtain⟨-,-,-,c3,-⟩:=eG h1.qu;obtain⟨d0,-,-⟩:=iM h1.xD;simp only[Option.map_some]at c3
   have HY:Hid (H K 55 #[U (M ⟨lp,0,O⟩)] w fun e w'=> ∃v,e=G v/\H K 49 #[U (M ⟨qp,0,O⟩),v] w' fun e w2=>e=G (I V r.1)/\Bf w w2 qp (La qp db fv rs sp lp dp tb) (r.2.1,r.2.2,m)):=by
    refine hY.mono ?_;rintro e w' ⟨v,rfl,dI,dH,k1,k2,k3,k4⟩;obtain⟨TH,TA⟩:=h1.dk k1 k3 hSm;refine⟨v,rfl,?_⟩;rw[<-k2];exact NJ TH hF (sQ (hG.dk h1.disk k3) k4 (by omega)) TA
   clear hY h0 hG hS h1 hr ho hF hSm hEq;go_enter Tryz.func30,Tryz.ntmps30
   go_wp2_with (first|(go_at_call 52;refine hM.mono ?_;rintro e w' ⟨rfl,rfl⟩)|(go_at_call 55;refine HY.out.mono ?_;rintro e w' ⟨v,rfl,hA⟩)|(go_at_call 49;refine hA.mono ?_;rintro e w2 ⟨rfl,hq⟩))
   go_ret;exact⟨rfl,hq⟩
end Go.Proofs.YtfplgfodoiiobaaGreatDoor
