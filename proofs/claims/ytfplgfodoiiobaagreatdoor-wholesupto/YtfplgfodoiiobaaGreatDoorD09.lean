/- RefK, RefL, RefM, RefN, RefO (joined). -/
import Derived.Test.YtfplgfodoiiobaaGreatDoorD08
open Option renaming none→O,some→M
open Go.Value renaming int→I,slice→Z,pointer→U
open Go.IntKind renaming i64→V
open Go.Obj renaming cells→C
open Go.Ending renaming returned→G
open Go renaming World→F,Value→Y,Calls→H
open Go.Proofs.Tryz renaming prog→K
open Go.Proofs.Tryz
namespace Go.Proofs.YtfplgfodoiiobaaGreatDoor
set_option maxHeartbeats 1000000
set_option maxRecDepth 100000
open Go.RowKit
abbrev AcN:=@Go.World.cell?_setCell_far
abbrev AbR:=@Go.World.news_of_block
abbrev AcQ:=@List.filter_append
abbrev Acn:=@List.length_filter_le
abbrev Abb:=@List.map_append
abbrev AbL:=@List.length_map
variable {w:F}{xb n i k:Nat}{s:Sc}{f:bS}{r:fC}{l fs:List bC}{m:dD}{ao:Option Addr}
theorem qY {B c:Nat}(h:tF w B (Z ao n c) l):jB w (ao,n,c) l:=by
 have h':=h;rcases h.2 with⟨e,h3⟩|⟨g,cap,aS,e,hg,hh,-⟩
 ·cases e
  exact⟨⟨Aac (Aax h3),(fun _ e=>by cases e)⟩,h3.symm,fun _=>⟨rfl,rfl⟩⟩
 ·cases e
  refine⟨⟨Aab ⟨g,0,rfl,fun j u hu=>?_⟩,(fun a e=>by cases e;exact⟨aS,hh⟩)⟩,rfl,(fun e=>by cases e)⟩;have:=AcY h' rfl j u hu;cases j with
  |zero=>simpa[Addr.add]using this
  |succ j=>simpa[Addr.add]using this
theorem Gu {B c:Nat}(h:tF w B (Z ao n c) l):Sy B (ao,n,c):=by
 intro a e;simp only at e;subst e;rcases h.2 with⟨e,-⟩|⟨g,cap,aS,e,hg,-⟩
 ·cases e
 ·cases e;exact hg
theorem far3 {g b j:Nat}{x y z:Y}(h:g≠b):(((w.setCell ⟨g,i,O⟩ x).setCell ⟨g,j,O⟩ y).setCell ⟨g,k,O⟩ z).cell? ⟨b,n,O⟩=w.cell? ⟨b,n,O⟩:=by
 rw[AcN _ _ _ _ h,AcN _ _ _ _ h,AcN _ _ _ _ h]
theorem swap_eq (A aG:List bC)(f g:bC):(List.set (A++ [g]++f::aG) (A.length+1) g).set A.length f=A++f::(g::aG):=by
 rw[AaJ,AbV _ _ (by omega),AbV _ _ (by omega)];simp
theorem TQ {fx:bS}{la ca:Nat}(h:w.heap[xb]?=M (bO s fx r))(hr:Vy w ao l)(e1:la=l.length)(hl:l.length<=100000):
 H K 228 #[U (M ⟨xb,0,O⟩),Z ao la ca] w fun e w'=>e=G (.tuple #[])/\∃(f':bS) (w1:F),w'=w1.setCell ⟨xb,3,O⟩ f'.v/\jB w1 f' (rQ l)/\Below w.heap.size w w1/\Sy w.heap.size f':=by
 subst e1;have uf:=aM h;have HX:Hid (w.heap[xb]?=M (bO s fx r)):=h;clear h;go_enter func228,ntmps228;go_wp2_with fail
 go_loopw [4,5] (fun v i wr=> ∃k:Nat,k<=l.length/\i=I V (k:Int)/\tF wr w.heap.size v (rQ (l.take k))/\Below w.heap.size w wr) (fun _ i _=>l.length-(intOf i).toNat)
 case atStart=>exact⟨0,Aap _,rfl,AaI _ _ _ _,AaS _ _⟩
 case round=>
  obtain⟨k,hk,rfl,bD,hB⟩:=hrel;have Ow:=tu l k;by_cases bP:k<l.length
  ·obtain⟨⟨fn,fb,fs⟩,hf⟩:∃f,l[k]?=M f:=⟨_,Aag bP⟩;have HT:Hid (rQ (l.take (k+1))=if fb.size=0 then rQ (l.take k)else oW (rQ (l.take k)) (fn,fb,fs)):=Yf hf;obtain⟨b,off,rfl,c1,c2,c3⟩:=(hr.aN hB).at hf;simp only at c1 c2 c3;have i1:(0:Int)<=(k:Int):=(by omega);have i2:(k:Int)<(l.length:Int):=(by omega);generalize rQ (l.take k)=out at bD Ow HT;clear hf hr;by_cases hz:fb.size=0
   ·have hz':((fb.size:Int)==0)=true:=(by simp[hz]);go_wp2_with fail;go_roundw
    case rel=>exact⟨k+1,by omega,by go_num,by rw[HT.out,Aad hz];exact bD,hB⟩
    case measure=>simp[intOf];omega
   ·have hz':((fb.size:Int)==0)=false:=(by rw[Aat];omega);have oP:¬((fb.size:Int)=0):=(by omega);have hs:=hB.size;go_upto_region 6 with(at_builtin;go_must (refine nU (by rfl) (.tmp 21) (.tmp 26) (by rfl) w.heap.size _ out (fn,fb,fs) (by rfl) (by exact Aay bD _) _ _ _ (by rfl) (by rfl) (by exact AbR (Aaf wr _)) (by omega) (by simp;omega) ?_);intro v5 w5 dK eO);have B5:Below w.heap.size w w5:=(lZ hB (aP _ _) (by omega)).grown eO (by simp;omega) (fun k e=>(AaA bD k e).1);obtain⟨x5,n5,p5,rfl⟩:=rY dK
    have Kh:n5=out.length+1:=by
     obtain⟨g,-,e,-⟩:=dK.at (k:=out.length) (f:=(fn,fb,fs)) (by simp);simpa using e
    subst Kh;clear eO c1 c2 c3 bD hB hs;go_wp2_with fail
    go_loopw [6] (fun q wi=> ∃A aG:List bC,q=I V (A.length:Int)/\wP out (fn,fb,fs) A aG/\tF wi w.heap.size (Z x5 (out.length+1) p5) (A++(fn,fb,fs)::aG)/\A.length+aG.length=out.length/\Below w.heap.size w wi) (fun q _=>(intOf q).toNat)
    case atStart=>exact⟨out,[],by go_num,wP.start _ _,dK,by simp,B5⟩
    case round=>
     clear dK B5;obtain⟨A,aG,rfl,hI,nD,hAC,B6⟩:=hrel;rcases List.eq_nil_or_concat A with rfl|⟨A',⟨gn,gb,gs⟩,hAe⟩
     ·have g0:¬((0:Int)<0):=(by omega);have d0:decide ((0:Int)<0)=false:=(by simp);simp only[AcC];have HI:Hid (oW out (fn,fb,fs)=(fn,fb,fs)::aG):=hI.stop0;go_wp2_with fail;go_quiet (fail);go_wp2_with fail;go_roundw
      case rel=>exact⟨k+1,by omega,by go_num,by rw[HT.out,Aaa hz,HI.out];exact nD,bB B6 _⟩
      case measure=>simp[intOf];omega
     ·rw[List.concat_eq_append]at hAe;subst hAe;obtain⟨g,rfl,-,jg,hglt,p1,p2,p3,pf⟩:=nD.at (k:=A'.length) (f:=(gn,gb,gs)) (by simp);obtain⟨g',eg,-,-,-,q1,q2,q3,-⟩:=nD.at (k:=A'.length+1) (f:=(fn,fb,fs)) (by simp);cases eg
      simp only at p1 p2 p3 q1 q2 q3;have hAl:(A'++ [(gn,gb,gs)]).length=A'.length+1:=(by simp);have hAC':A'.length+1+aG.length=out.length:=(by rw[<-hAC];simp);have hlen:(((A'++ [(gn,gb,gs)]).length:Nat):Int)=(A'.length:Int)+1:=(by rw[hAl];rfl);rw[hlen];have HA:Hid ((((A'++ [(gn,gb,gs)]).length:Nat):Int)=(A'.length:Int)+1):=hlen;have HC:Hid ((A'++ [(gn,gb,gs)]).length+aG.length=out.length):=hAC;clear hlen hAl hAC;have j0:(0:Int)<(A'.length:Int)+1:=(by omega);have j1:(0:Int)<=(A'.length:Int)+1:=(by omega);have j2:(A'.length:Int)+1<(out.length:Int)+1:=(by omega);have j3:(0:Int)<=(A'.length:Int):=(by omega);have j4:(A'.length:Int)<(out.length:Int)+1:=(by omega);have pf':=pf;by_cases Rz:fn<gn
      ·go_wp2_with fail;go_quiet (fail);have B7:Below w.heap.size w (wr.drewN nq):=bB B6 _;have yX:tF (wr.drewN nq) w.heap.size (Z (M ⟨g,0,O⟩) (out.length+1) p5) (A'++ [(gn,gb,gs)]++(fn,fb,fs)::aG):=nD;have hglt7:g<(wr.drewN nq).heap.size:=hglt;clear nD B6 p1 p2 p3 q1 q2 q3 pf pf' hglt;generalize wr.drewN nq=wq at*;obtain⟨g',eg,-,-,-,p1,p2,p3,pf⟩:=yX.at (k:=A'.length) (f:=(gn,gb,gs)) (by simp);cases eg
       obtain⟨g',eg,-,-,-,q1,q2,q3,-⟩:=yX.at (k:=A'.length+1) (f:=(fn,fb,fs)) (by simp);cases eg
       simp only at p1 p2 p3 q1 q2 q3;have ne1:wq.heap.size≠g:=(by omega);have u1:=pf ((A'.length+1)*3);have u2:=pf ((A'.length+1)*3+1);have u3:=pf ((A'.length+1)*3+2);have u4:=pf (A'.length*3);have u5:=pf (A'.length*3+1);have u6:=pf (A'.length*3+2);clear pf;go_upto_region 10 with fail;have B8:Below w.heap.size w (wq.alloc (C #[I V fn,.string fb,I V fs] 193)):=aQ B7 (aP _ _);have Dl:tF (wq.alloc (C #[I V fn,.string fb,I V fs] 193)) w.heap.size (Z (M ⟨g,0,O⟩) (out.length+1) p5) (A'++ [(gn,gb,gs)]++(fn,fb,fs)::aG):=Aay yX _;have k0:(wq.alloc (C #[I V fn,.string fb,I V fs] 193)).cell? ⟨wq.heap.size,0,O⟩=M (I V fn):=(by simp);have k1:(wq.alloc (C #[I V fn,.string fb,I V fs] 193)).cell? ⟨wq.heap.size,1,O⟩=M (.string fb):=(by simp);have k2:(wq.alloc (C #[I V fn,.string fb,I V fs] 193)).cell? ⟨wq.heap.size,2,O⟩=M (I V fs):=(by simp);clear yX B7 p1 p2 p3 q1 q2 q3 u1 u2 u3 u4 u5 u6;generalize wq.alloc (C #[I V fn,.string fb,I V fs] 193)=wz at*;obtain⟨g',eg,-,-,-,p1,p2,p3,pf⟩:=Dl.at (k:=A'.length) (f:=(gn,gb,gs)) (by simp);cases eg
       obtain⟨g',eg,-,-,-,q1,q2,q3,-⟩:=Dl.at (k:=A'.length+1) (f:=(fn,fb,fs)) (by simp);cases eg
       simp only at p1 p2 p3 q1 q2 q3;have u1:=pf ((A'.length+1)*3);have u2:=pf ((A'.length+1)*3+1);have u3:=pf ((A'.length+1)*3+2);have sV:=Dl.store (k:=A'.length+1) (gn,gb,gs) (by simp);have Mh:=sV.store (k:=A'.length) (fn,fb,fs) (by simp);have B9:=(((((B8.setCell (p:=⟨g,(A'.length+1)*3,O⟩) jg (I V gn)).setCell (p:=⟨g,(A'.length+1)*3+1,O⟩) jg (.string gb)).setCell (p:=⟨g,(A'.length+1)*3+2,O⟩) jg (I V gs)).setCell (p:=⟨g,A'.length*3,O⟩) jg (I V fn)).setCell (p:=⟨g,A'.length*3+1,O⟩) jg (.string fb)).setCell (p:=⟨g,A'.length*3+2,O⟩) jg (I V fs);have HS:Hid ((List.set (A'++ [(gn,gb,gs)]++(fn,fb,fs)::aG) (A'.length+1) (gn,gb,gs)).set A'.length (fn,fb,fs)=A'++(fn,fb,fs)::((gn,gb,gs)::aG)):=swap_eq A' aG _ _;go_upto_region 11 with fail;obtain⟨g',eg,-,-,-,r1,r2,r3,rf⟩:=sV.at (k:=A'.length) (f:=(gn,gb,gs)) (by simp);cases eg
       have t0:=(far3 (Aca ne1):(((wz.setCell ⟨g,(A'.length+1)*3,O⟩ (I V gn)).setCell ⟨g,(A'.length+1)*3+1,O⟩ (.string gb)).setCell ⟨g,(A'.length+1)*3+2,O⟩ (I V gs)).cell? ⟨wq.heap.size,0,O⟩=_).trans k0;have t1:=(far3 (Aca ne1):(((wz.setCell ⟨g,(A'.length+1)*3,O⟩ (I V gn)).setCell ⟨g,(A'.length+1)*3+1,O⟩ (.string gb)).setCell ⟨g,(A'.length+1)*3+2,O⟩ (I V gs)).cell? ⟨wq.heap.size,1,O⟩=_).trans k1;have t2:=(far3 (Aca ne1):(((wz.setCell ⟨g,(A'.length+1)*3,O⟩ (I V gn)).setCell ⟨g,(A'.length+1)*3+1,O⟩ (.string gb)).setCell ⟨g,(A'.length+1)*3+2,O⟩ (I V gs)).cell? ⟨wq.heap.size,2,O⟩=_).trans k2;simp only at r1 r2 r3;have v1:=rf (A'.length*3);have v2:=rf (A'.length*3+1);have v3:=rf (A'.length*3+2);rw[HS.out]at Mh;clear rf sV p1 p2 p3 q1 q2 q3 u1 u2 u3 pf k0 k1 k2 Dl B8;generalize ((wz.setCell ⟨g,(A'.length+1)*3,O⟩ (I V gn)).setCell ⟨g,(A'.length+1)*3+1,O⟩ (.string gb)).setCell ⟨g,(A'.length+1)*3+2,O⟩ (I V gs)=wy at*;go_wp2_with fail;go_roundw
       case rel=>exact⟨A',(gn,gb,gs)::aG,by go_num,hI.next Rz,Mh,by simp;omega,B9⟩
       case measure=>simp[intOf]
      ·have HI:Hid (oW out (fn,fb,fs)=A'++ [(gn,gb,gs)]++(fn,fb,fs)::aG):=hI.stop Rz;go_wp2_with fail;go_quiet (fail);go_wp2_with fail;go_roundw
       case rel=>exact⟨k+1,by omega,by go_num,by rw[HT.out,Aaa hz,HI.out];exact nD,bB B6 _⟩
       case measure=>simp[intOf];omega
  ·have e1:l.take k=l:=Aaq (by omega);rw[e1]at bD;obtain⟨y0,-,-,-⟩:w.cell? ⟨xb,3,O⟩=M fx.v/\w.frozen? ⟨xb,3,O⟩=false/\True/\True:=⟨jR HX.out,by simp[World.frozen?,HX.out,bO],trivial,trivial⟩;have y1:wr.cell? ⟨xb,3,O⟩=M fx.v:=AaB hB y0;have y2:wr.frozen? ⟨xb,3,O⟩=false:=(by rw[World.frozen?_of_block (w:=w) (hB.block xb uf)];simp[World.frozen?,HX.out,bO]);obtain⟨x9,n9,c9,rfl⟩:=rY bD;have BQ:=qY bD;have Sz:=Gu bD;clear bD y0;go_wp2_with fail;go_end0;exact⟨rfl,(x9,n9,c9),wr,rfl,BQ,hB,Sz⟩
def pI (n but:Int)(g:bC):Bool:=g.1 !=n && g.1 !=but
def pQ (l:List bC)(f:bC)(but:Int):List bC:=rQ (l.filter (pI f.1 but)++ [f])
theorem GN {g:bC}(h:l[k]?=M g)(p:bC->Bool):(l.take (k+1)).filter p=(l.take k).filter p++(if p g then [g]else []):=by
 have bP:=(Aae.1 h).1;rw[Aau bP,AcQ,(Aae.1 h).2];simp[List.filter_cons]
theorem Ta (l:List bC)(p:bC->Bool):(l.filter p).length<=l.length:=Acn p l
theorem Qy {fx:bS}{f:bC}{but:Int}(h:w.heap[xb]?=M (bO s fx r))(hf:jB w fx fs)(hl:fs.length<=90000):
 H K 176 #[U (M ⟨xb,0,O⟩),.agg #[I V f.1,.string f.2.1,I V f.2.2],I V but] w fun e w'=>e=G (.tuple #[])/\∃(f':bS) (w1:F),w'=w1.setCell ⟨xb,3,O⟩ f'.v/\jB w1 f' (pQ fs f but)/\Below w.heap.size w w1/\Sy w.heap.size f':=by
 have uf:=aM h;have c3:=jR h;have HX:Hid (w.heap[xb]?=M (bO s fx r)):=h;obtain⟨fo,fl,fc⟩:=fx;obtain⟨h1,h2,h3⟩:=hf;simp only at h1 h2 h3;subst h2;simp only[bS.v]at c3;obtain⟨fn,fb,dU⟩:=f;simp only;clear h;go_enter func176,ntmps176;go_wp2_with fail;have qZ:=aP w (C #[I V fn,.string fb,I V dU] 193);have x0:(w.alloc (C #[I V fn,.string fb,I V dU] 193)).cell? ⟨w.heap.size,0,O⟩=M (I V fn):=by simp
 have x1:(w.alloc (C #[I V fn,.string fb,I V dU] 193)).cell? ⟨w.heap.size,1,O⟩=M (.string fb):=by simp
 have x2:(w.alloc (C #[I V fn,.string fb,I V dU] 193)).cell? ⟨w.heap.size,2,O⟩=M (I V dU):=by simp
 have jW:=AaG w (C #[I V fn,.string fb,I V dU] 193);generalize w.alloc (C #[I V fn,.string fb,I V dU] 193)=wa at*
 go_loopw [6,7] (fun v i wr=> ∃k:Nat,k<=fs.length/\i=I V (k:Int)/\tF wr wa.heap.size v ((fs.take k).filter (pI fn but))/\Below wa.heap.size wa wr) (fun _ i _=>fs.length-(intOf i).toNat)
 case atStart=>exact⟨0,Aap _,rfl,AaI _ _ _ _,AaS _ _⟩
 case round=>
  obtain⟨k,hk,rfl,bD,hB⟩:=hrel;have hBw:=aQ qZ hB;have Ow:=Ta (fs.take k) (pI fn but);have Vv:(fs.take k).length<=fs.length:=by rw[Aaw];omega
  have d3:=AaB hBw c3;have z0:=AaB hB x0;have z1:=AaB hB x1;have z2:=AaB hB x2;by_cases bP:k<fs.length
  ·obtain⟨⟨gn,gb,gs⟩,hg⟩:∃g,fs[k]?=M g:=⟨_,Aag bP⟩;have HT:Hid ((fs.take (k+1)).filter (pI fn but)=(fs.take k).filter (pI fn but)++(if pI fn but (gn,gb,gs)then [(gn,gb,gs)]else [])):=GN hg _;obtain⟨b,off,rfl,p1,p2,p3⟩:=(h1.aN hBw).at hg;simp only at p1 p2 p3;have i1:(0:Int)<=(k:Int):=(by omega);have i2:(k:Int)<(fs.length:Int):=(by omega);generalize (fs.take k).filter (pI fn but)=out at bD Ow HT;clear hg h1 c3 x0 x1 x2;by_cases e1:gn=fn
   ·subst e1;have hd:(gn !=gn)=false:=(by simp);have HO:Hid (pI gn but (gn,gb,gs)=false):=(by show _=_;simp[pI]);go_wp2_with fail;go_quiet (fail);go_wp2_with fail;go_roundw
    case rel=>exact⟨k+1,by omega,by go_num,by rw[HT.out,HO.out,Aaa (by simp),AcP];exact bD,bB hB _⟩
    case measure=>simp[intOf];omega
   ·have hd:(gn !=fn)=true:=(by simp[e1]);by_cases e2:gn=but
    ·subst e2;have Yg:(gn !=gn)=false:=(by simp);have HO:Hid (pI fn gn (gn,gb,gs)=false):=(by show _=_;simp[pI]);go_wp2_with fail;go_quiet (fail);go_wp2_with fail;go_roundw
     case rel=>exact⟨k+1,by omega,by go_num,by rw[HT.out,HO.out,Aaa (by simp),AcP];exact bD,bB hB _⟩
     case measure=>simp[intOf];omega
    ·have Yg:(gn !=but)=true:=(by simp[e2]);have HO:Hid (pI fn but (gn,gb,gs)=true):=(by show _=_;simp[pI,e1,e2]);go_wp2_with fail;go_quiet (fail);have sW:tF (wr.drewN nq) wa.heap.size u6 out:=bD;have NH:Below wa.heap.size wa (wr.drewN nq):=bB hB _;have p1':(wr.drewN nq).cell? ⟨b,off+k*3,O⟩=M (I V gn):=p1;have p2':(wr.drewN nq).cell? ⟨b,off+k*3+1,O⟩=M (.string gb):=p2;have p3':(wr.drewN nq).cell? ⟨b,off+k*3+2,O⟩=M (I V gs):=p3;have d3':(wr.drewN nq).cell? ⟨xb,3,O⟩=M (Z (M ⟨b,off,O⟩) fs.length fc):=d3;clear bD hB hBw p1 p2 p3 d3 z0 z1 z2;generalize wr.drewN nq=wq at*;have hs:=NH.size;go_wp2_with (at_builtin;go_must (refine nU (by rfl) (.tmp 40) (.tmp 48) (by rfl) wa.heap.size _ out (gn,gb,gs) (by rfl) (by exact Aay sW _) _ _ _ (by rfl) (by rfl) (by exact AbR (Aaf wq _)) (by omega) (by simp;omega) ?_);intro v5 w5 dK eO);go_roundw
     case rel=>exact⟨k+1,by omega,by go_num,by rw[HT.out,HO.out,Aad rfl];exact dK,(lZ NH (aP _ _) (by omega)).grown eO (by simp;omega) (fun k e=>(AaA sW k e).1)⟩
     case measure=>simp[intOf];omega
  ·have e1:fs.take k=fs:=Aaq (by omega);rw[e1]at bD;have hlf:=Ta fs (pI fn but);have hs:=hB.size;clear h1 c3 x0 x1 x2;go_upto_region 8 with(at_builtin;go_must (refine nU (by rfl) (.tmp 50) (.tmp 52) (by rfl) wa.heap.size _ (fs.filter (pI fn but)) (fn,fb,dU) (by rfl) (by exact Aay bD _) _ _ _ (by rfl) (by rfl) (by exact AbR (Aaf wr _)) (by omega) (by simp;omega) ?_);intro v5 w5 dK eO);have B5:Below wa.heap.size wa w5:=(lZ hB (aP _ _) (by omega)).grown eO (by simp;omega) (fun k e=>(AaA bD k e).1);have B5w:=aQ qZ B5;obtain⟨x9,n9,c9,rfl⟩:=rY dK;obtain⟨k1,k2,k3⟩:=qY dK;simp only at k1 k2 k3;subst k2;have hx5:w5.heap[xb]?=M (bO s (fo,fs.length,fc) r):=(B5w.block xb uf).trans HX.out;clear eO dK bD hB hBw z0 z1 z2 d3;go_wp2_with fail;refine(TQ (l:=fs.filter (pI fn but)++ [(fn,fb,dU)]) hx5 k1 (by rw[Aah];rfl) (by rw[Aah];simp;omega)).mono ?_;rintro e w6 ⟨rfl,f',w7,rfl,BQ,hb7,Sz⟩;go_wp2_with fail;go_end0;exact⟨rfl,f',w7,rfl,BQ,aQ B5w hb7,fun a e=>Aam B5w.size (Sz a e)⟩
theorem jB.fr {w':F}{X:Nat->Prop}{x:bS}(h:jB w x l)(hF:Fr w w' X)(hx:∀b aS,w.heap[b]?=M (C aS 193 (0,0))->¬X b):jB w' x l:=⟨h.1.fr hF hx,h.2⟩
theorem dZ.fr {w':F}{X:Nat->Prop}(h:dZ w r m)(hF:Fr w w' X)(hx:∀b aS,w.heap[b]?=M (C aS 114 (0,0))->¬X b)(hy:∀b aS,w.heap[b]?=M (C aS 302 (0,0))->¬X b):dZ w' r m:=
 ⟨h.1.fr hF hx,h.2.1.fr hF hx hy,h.2.2.1.fr hF hx hy,h.2.2.2⟩
theorem Ff (h:w.heap[xb]?=M (bO s f r)):∀(b:Nat) (aS:Array Y) (t:TypeId) (g:Nat×Nat),t≠189->w.heap[b]?=M (C aS t g)->¬(b=xb):=
 fun b aS t g e hb hx=>by subst hx;exact bU hb h (gH e)
theorem jB.jC {v:Y}{x:bS}(hf:jB w x l)(h:w.heap[xb]?=M (bO s f r)):jB (w.setCell ⟨xb,i,O⟩ v) x l:=
 hf.fr (Fr.set w ⟨xb,i,O⟩ v) (fun b aS e=>Ff h _ _ _ _ (by decide) e)
theorem dZ.jC {r':fC}{v:Y}(hm:dZ w r' m)(h:w.heap[xb]?=M (bO s f r)):dZ (w.setCell ⟨xb,i,O⟩ v) r' m:=
 hm.fr (Fr.set w ⟨xb,i,O⟩ v) (fun b aS e=>Ff h _ _ _ _ (by decide) e) (fun b aS e=>Ff h _ _ _ _ (by decide) e)
theorem rZ {f':bS}(h:w.heap[xb]?=M (bO s f r)):(w.setCell ⟨xb,3,O⟩ f'.v).heap[xb]?=M (bO s f' r):=by rw[Aaj w xb 3 _ _ _ h];rfl
theorem Tc (b:Bool)(h:w.heap[xb]?=M (bO s f r)):(w.setCell ⟨xb,4,O⟩ (.bool b)).heap[xb]?=M (bO { s with jL:=b } f r):=by rw[Aaj w xb 4 _ _ _ h];rfl
theorem Td (n:Int)(h:w.heap[xb]?=M (bO s f r)):(w.setCell ⟨xb,5,O⟩ (I V n)).heap[xb]?=M (bO { s with after:=n } f r):=by rw[Aaj w xb 5 _ _ _ h];rfl
theorem Dm (b:Bool)(h:w.heap[xb]?=M (bO s f r)):(w.setCell ⟨xb,10,O⟩ (.bool b)).heap[xb]?=M (bO { s with aX:=b } f r):=by rw[Aaj w xb 10 _ _ _ h];rfl
theorem kT (h:w.heap[xb]?=M (bO s f r)):
 w.cell? ⟨xb,3,O⟩=M f.v/\w.cell? ⟨xb,4,O⟩=M (.bool s.jL)/\w.cell? ⟨xb,5,O⟩=M (I V s.after)/\w.cell? ⟨xb,6,O⟩=M (I V s.one)/\w.cell? ⟨xb,7,O⟩=M (I V s.rest)/\w.cell? ⟨xb,10,O⟩=M (.bool s.aX)/\∀j,w.frozen? ⟨xb,j,O⟩=false:=by
 simp[World.cell?,World.frozen?,h,bO]
def tH (one rest:Int)(f:bC):Int:=if (if f.1=1 then one else rest)<(f.2.1.size:Int)-f.2.2 then f.2.2+(if f.1=1 then one else rest)else (f.2.1.size:Int)
def gG (one rest:Int)(f:bC):bC:=(f.1,f.2.1.extract 0 (tH one rest f).toNat,tH one rest f)
def okF (f:bC):Prop:=0<=f.2.2/\f.2.2<=(f.2.1.size:Int)/\f.2.1.size<=2000000
def dI (s:Sc)(l:List bC):Bool×Sc×List bC:=
 if s.jL=false then (true,s,l)else if 0<s.after then (true,{ s with after:=s.after-1 },l)else (false,{ s with jL:=false,aX:=false },rQ (l.map (gG s.one s.rest)))
theorem Mx {ops:Array Oper}{o:Oper}{a:Act}{aA:Act->F->Prop}{Q:Exit->Act->F->Prop}{E:Prop}(qR:o.guard=O)(s x:Operand)
 (ho:o.op= .call { callee:= .builtin .append,args:=#[s,x],argTypes:=#[184,184] })
 (base:Nat)(v:Y)(ys:List bC)(f:bC)(hs:a.eval s=v)(bD:tF w base v ys)(ad:Addr)(m c:Nat)(hx:a.eval x=Z (M ad) m c)(hm:m=1)(hr:∀j u,(Qh [f])[j]?=M u->w.cell? (ad.add j)=M u)
 (hlen:ys.length<=1000000000)(iK:base<=w.heap.size)
 (h:∀v' w',tF w' base v' (ys++ [f])->w.grownBy w' v.ownBlock->aA (a.put o.dst v') w'):if Region.wanted o (yielded ops a.tmps)=true then Oper.wp K o a w aA Q else E:=by
 obtain⟨i0,hi,oG,nM,oP⟩:=AaW Tryz.infoFile;subst hm;refine step_append_lies w qR s x 184 ho base 193 i0 (.agg #[I V 0,.string ⟨#[]⟩,I V 0]) 3 32 underlying184 hi oG nM oP rfl (by decide) v ys.length (Qh ys) hs bD ad 1 c (Qh [f]) hx rfl hr ?_ (by decide) (by unfold maxLen;omega) (by omega) iK w.heap.size rfl ?_
 ·intro u hu;obtain⟨p,-,hp⟩:=AbX.1 hu;simp[bC.cells]at hp;rcases hp with rfl|rfl|rfl<;>rfl
 ·intro g cap w' h1 h2 _ _;refine h _ w' ?_ h2;unfold tF;rw[Sw,Aah];exact h1
theorem map_take {g:bC}(h:l[k]?=M g)(p:bC->bC):(l.take (k+1)).map p=(l.take k).map p++ [p g]:=by
 have bP:=(Aae.1 h).1;rw[Aau bP,Abb,(Aae.1 h).2];rfl
theorem Dn (h:bM w xb s fs m f)(hl:fs.length<=90000)(kP:∀f∈fs,okF f)(h1:0<=s.one)(h2:0<=s.rest)(ha:s.after<=9223372036854775807):
 H K 175 #[U (M ⟨xb,0,O⟩)] w fun e w'=>e=G (.bool (dI s fs).1)/\∃f':bS,bM w' xb (dI s fs).2.1 (dI s fs).2.2 m f'/\kH w w' xb f f':=by
 have HS:Hid (bM w xb s fs m f):=h;obtain⟨r,hx,hf,hm⟩:=h;obtain⟨c3,c4,c5,c6,c7,xO,cf⟩:=kT hx;by_cases e1:s.jL=false
 ·have HE:Hid (dI s fs=(true,s,fs)):=by show _=_;unfold dI;rw[Aad e1]
  rw[e1]at c4;clear cf;go_enter func175,ntmps175;go_wp2_with fail;go_ret;rw[HE.out];exact⟨rfl,f,HS.out,kH.refl _ _ _⟩
 ·have rV:s.jL=true:=by simpa using e1
  rw[rV]at c4;by_cases e2:0<s.after
  ·have HE:Hid (dI s fs=(true,{ s with after:=s.after-1 },fs)):=(by show _=_;unfold dI;rw[Aaa e1,Aad e2]);have f5:=cf 5;clear cf;go_enter func175,ntmps175;go_wp2_with fail;go_ret;rw[HE.out];exact⟨rfl,f,⟨r,Td _ hx,hf.jC hx,hm.jC hx⟩,(kH.refl _ _ _).set⟩
  ·have HE:Hid (dI s fs=(false,{ s with jL:=false,aX:=false },rQ (fs.map (gG s.one s.rest)))):=(by show _=_;unfold dI;rw[Aaa e1,Aaa e2]);have f4:=cf 4;have f10:=cf 10;clear cf;go_enter func175,ntmps175;go_wp2_with fail;have oM:=Tc false hx;have Vz:=Dm false oM;have Ii:=(hf.jC (i:=4) (v:= .bool false) hx).jC (i:=10) (v:= .bool false) oM;have BR:=(hm.jC (i:=4) (v:= .bool false) hx).jC (i:=10) (v:= .bool false) oM;have F2:kH w ((w.setCell ⟨xb,4,O⟩ (.bool false)).setCell ⟨xb,10,O⟩ (.bool false)) xb f f:=(kH.refl _ _ _).set.set;clear oM hf hm hx c3 c4 c5 c6 c7 xO f4 f10;generalize (w.setCell ⟨xb,4,O⟩ (.bool false)).setCell ⟨xb,10,O⟩ (.bool false)=w2 at*;obtain⟨c3,-,-,c6,c7,-,-⟩:=kT Vz;simp only at c6 c7;have uf:=aM Vz;obtain⟨fo,fl,fc⟩:=f;obtain⟨r1,r2,r3⟩:=Ii;simp only at r1 r2 r3;subst r2;simp only[bS.v]at c3
   go_loopw [3,4] (fun v i wr=> ∃k:Nat,k<=fs.length/\i=I V (k:Int)/\tF wr w2.heap.size v ((fs.take k).map (gG s.one s.rest))/\Below w2.heap.size w2 wr) (fun _ i _=>fs.length-(intOf i).toNat)
   case atStart=>exact⟨0,Aap _,rfl,AaI _ _ _ _,AaS _ _⟩
   case round=>
    obtain⟨k,hk,rfl,bD,hB⟩:=hrel;have Ow:((fs.take k).map (gG s.one s.rest)).length<=fs.length:=(by rw[AbL,Aaw];omega);have d3:=AaB hB c3;have d6:=AaB hB c6;have d7:=AaB hB c7;by_cases bP:k<fs.length
    ·obtain⟨⟨gn,gb,gs⟩,hg⟩:∃g,fs[k]?=M g:=⟨_,Aag bP⟩;have HT:Hid ((fs.take (k+1)).map (gG s.one s.rest)=(fs.take k).map (gG s.one s.rest)++ [gG s.one s.rest (gn,gb,gs)]):=map_take hg _;obtain⟨o1,o2,o3⟩:=kP _ (Aai hg);obtain⟨b,off,rfl,p1,p2,p3⟩:=(r1.aN hB).at hg;simp only at p1 p2 p3 o1 o2 o3;have i1:(0:Int)<=(k:Int):=(by omega);have i2:(k:Int)<(fs.length:Int):=(by omega);have hne:wr.heap.size≠xb:=(by have:=hB.size;omega);have hxr:xb<wr.heap.size:=(by have:=hB.size;omega);generalize (fs.take k).map (gG s.one s.rest)=out at bD Ow HT;clear hg r1 c3 c6 c7;by_cases g1:gn=1;have g1':(gn==1)=true:=(by simp[g1]);by_cases g2:s.one<(gb.size:Int)-gs;have hX0:(0:Int)<=gs+s.one:=(by omega);have hX1:gs+s.one<=(gb.size:Int):=(by omega);obtain⟨X,hX⟩:∃X:bC,X=(gn,gb.extract 0 (gs+s.one).toNat,gs+s.one):=⟨_,rfl⟩;have HF:Hid (X=gG s.one s.rest (gn,gb,gs)):=by show _=_;rw[hX];simp only[gG,tH];simp[*]
     rotate_left
     have hX0:(0:Int)<=(gb.size:Int):=(by omega);have hX1:(gb.size:Int)<=(gb.size:Int):=(by omega);obtain⟨X,hX⟩:∃X:bC,X=(gn,gb,(gb.size:Int)):=⟨_,rfl⟩;have HF:Hid (X=gG s.one s.rest (gn,gb,gs)):=by show _=_;rw[hX];simp only[gG,tH];simp[*]
     rotate_left
     have g1':(gn==1)=false:=(by simp[g1]);by_cases g2:s.rest<(gb.size:Int)-gs;have hX0:(0:Int)<=gs+s.rest:=(by omega);have hX1:gs+s.rest<=(gb.size:Int):=(by omega);obtain⟨X,hX⟩:∃X:bC,X=(gn,gb.extract 0 (gs+s.rest).toNat,gs+s.rest):=⟨_,rfl⟩;have HF:Hid (X=gG s.one s.rest (gn,gb,gs)):=by show _=_;rw[hX];simp only[gG,tH];simp[*]
     rotate_left
     have hX0:(0:Int)<=(gb.size:Int):=(by omega);have hX1:(gb.size:Int)<=(gb.size:Int):=(by omega);obtain⟨X,hX⟩:∃X:bC,X=(gn,gb,(gb.size:Int)):=⟨_,rfl⟩;have HF:Hid (X=gG s.one s.rest (gn,gb,gs)):=by show _=_;rw[hX];simp only[gG,tH];simp[*]
     all_goals
      clear g1;go_upto_region 19 with fail;have k0:(wr.alloc (C #[I V gn,.string gb,I V gs] 193)).cell? ⟨wr.heap.size,0,O⟩=M (I V gn):=(by simp);have k1:(wr.alloc (C #[I V gn,.string gb,I V gs] 193)).cell? ⟨wr.heap.size,1,O⟩=M (.string gb):=(by simp);have sW:tF (wr.alloc (C #[I V gn,.string gb,I V gs] 193)) w2.heap.size u3 out:=Aay bD _;have NH:Below w2.heap.size w2 (wr.alloc (C #[I V gn,.string gb,I V gs] 193)):=aQ hB (aP _ _);have hnb:∀i,M (⟨wr.heap.size,i,O⟩:Addr).block≠u3.ownBlock:=fun i e=>by have:=(AaA bD _ e.symm).2;simp at this
      have hlq:=AaG wr (C #[I V gn,.string gb,I V gs] 193);have Mh:=NH.size;clear bD hB p1 p2 p3 d3 d6 d7;generalize hq:wr.heap.size=tq at*;generalize wr.alloc (C #[I V gn,.string gb,I V gs] 193)=wq at*;have hnw:∀o,(wq.alloc o).heap[tq+1]?=M o:=fun o=>by rw[<-hlq];exact Aaf wq o
      have k0a:∀o,(wq.alloc o).cell? ⟨tq,0,O⟩=M (I V gn):=fun o=>AaB (aP _ _) k0;have k1a:∀o,(wq.alloc o).cell? ⟨tq,1,O⟩=M (.string gb):=fun o=>AaB (aP _ _) k1
      go_region_held3 (fun w'=>w'.cell? ⟨tq,0,O⟩=M (I V gn)/\w'.cell? ⟨tq,1,O⟩=M (.string gb))
       (first|assumption|(exact⟨k0,k1⟩)|(exact⟨k0a _,k1a _⟩)|(exact⟨eO.cell (k0a _) (hnb 0),eO.cell (k1a _) (hnb 1)⟩))
       ((refine Mx (by rfl) (.tmp 71) (.tmp 80) (by rfl) w2.heap.size u3 out X (by rfl) (by exact Aay sW _) _ _ _ (by rfl) (by rfl) (by rw[hX];exact AbR (hnw _)) (by omega) (by simp;omega) ?_;intro v5 w5 dK eO))
      all_goals go_wp2_with fail
      all_goals go_roundw
      case rel=>exact⟨k+1,by omega,by go_num,by rw[HT.out,<-HF.out];exact dK,(lZ NH (aP _ _) (by omega)).grown ⟨eO.os,eO.tape,eO.output,eO.size,eO.block⟩ (by simp;omega) (fun k e=>(AaA sW k e).1)⟩
      case measure=>simp[intOf];omega
    ·have e9:fs.take k=fs:=Aaq (by omega);rw[e9]at bD Ow;obtain⟨x9,n9,c9,rfl⟩:=rY bD;obtain⟨k1,k2,k3⟩:=qY bD;simp only at k1 k2 k3;have hxr:=(hB.block xb uf).trans Vz;have HK:Hid (n9=(fs.map (gG s.one s.rest)).length):=k2;clear bD d6 d7 k2 k3;go_wp2_with fail;refine(TQ (l:=fs.map (gG s.one s.rest)) hxr k1 HK.out (by omega)).mono ?_;rintro e w6 ⟨rfl,f',w7,rfl,BQ,hb7,Sz⟩;go_wp2_with fail;go_ret;rw[HE.out];have Wd:=(hb7.block xb (by have:=hB.size;omega)).trans hxr;have b27:=aQ hB hb7;exact⟨rfl,f',⟨r,rZ Wd,BQ.jC Wd,(BR.aN b27).jC Wd⟩,((F2.aN b27).row (fun a e=>Aam F2.1.1 (Aam hB.size (Sz a e)))).set⟩
theorem Kl (h:w.heap[xb]?=M (bO s f r)):w.cell? ⟨xb,8,O⟩=M (.bool s.refusing)/\w.cell? ⟨xb,9,O⟩=M (I V s.left)/\w.cell? ⟨xb,11,O⟩=M (.bool s.ro):=by
 simp[World.cell?,h,bO]
theorem OT (n:Int)(h:w.heap[xb]?=M (bO s f r)):(w.setCell ⟨xb,6,O⟩ (I V n)).heap[xb]?=M (bO { s with one:=n } f r):=by rw[Aaj w xb 6 _ _ _ h];rfl
theorem OU (n:Int)(h:w.heap[xb]?=M (bO s f r)):(w.setCell ⟨xb,7,O⟩ (I V n)).heap[xb]?=M (bO { s with rest:=n } f r):=by rw[Aaj w xb 7 _ _ _ h];rfl
theorem Te (b:Bool)(h:w.heap[xb]?=M (bO s f r)):(w.setCell ⟨xb,8,O⟩ (.bool b)).heap[xb]?=M (bO { s with refusing:=b } f r):=by rw[Aaj w xb 8 _ _ _ h];rfl
theorem Tf (n:Int)(h:w.heap[xb]?=M (bO s f r)):(w.setCell ⟨xb,9,O⟩ (I V n)).heap[xb]?=M (bO { s with left:=n } f r):=by rw[Aaj w xb 9 _ _ _ h];rfl
def oZ (s:Sc):Sc×Int:=if s.aX then ({ s with aX:=false },0)else (s,3)
theorem XI (h:bM w xb s fs m f):
 H K 113 #[U (M ⟨xb,0,O⟩)] w fun e w'=>e=G (I V (oZ s).2)/\bM w' xb (oZ s).1 fs m f/\kH w w' xb f f:=by
 have HS:Hid (bM w xb s fs m f):=h;obtain⟨r,hx,hf,hm⟩:=h;obtain⟨-,-,-,-,-,xO,cf⟩:=kT hx;have f10:=cf 10;clear cf;by_cases e1:s.aX=true
 ·have HE:Hid (oZ s=({ s with aX:=false },0)):=by show _=_;unfold oZ;rw[Aad e1]
  rw[e1]at xO;go_enter func113,ntmps113;go_wp2_with fail;go_ret;rw[HE.out];exact⟨rfl,⟨r,Dm _ hx,hf.jC hx,hm.jC hx⟩,(kH.refl _ _ _).set⟩
 ·have HE:Hid (oZ s=(s,3)):=by show _=_;unfold oZ;rw[Aaa e1]
  have rV:s.aX=false:=by simpa using e1
  rw[rV]at xO;go_enter func113,ntmps113;go_wp2_with fail;go_ret;rw[HE.out];exact⟨rfl,HS.out,kH.refl _ _ _⟩
def oN (s:Sc)(a:Int):Sc×Int:=if a<0 then (s,1)else ({ s with refusing:=true,left:=a },0)
theorem OV {a:Int}(h:bM w xb s fs m f):
 H K 116 #[U (M ⟨xb,0,O⟩),I V a] w fun e w'=>e=G (I V (oN s a).2)/\bM w' xb (oN s a).1 fs m f/\kH w w' xb f f:=by
 have HS:Hid (bM w xb s fs m f):=h;obtain⟨r,hx,hf,hm⟩:=h;obtain⟨-,-,-,-,-,-,cf⟩:=kT hx;obtain⟨c8,c9,-⟩:=Kl hx;have f8:=cf 8;have f9:=cf 9;clear cf;by_cases e1:a<0
 ·have HE:Hid (oN s a=(s,1)):=by show _=_;unfold oN;rw[Aad e1]
  go_enter func116,ntmps116;go_wp2_with fail;go_ret;rw[HE.out];exact⟨rfl,HS.out,kH.refl _ _ _⟩
 ·have HE:Hid (oN s a=({ s with refusing:=true,left:=a },0)):=by show _=_;unfold oN;rw[Aaa e1]
  have oM:=Te true hx;go_enter func116,ntmps116;go_wp2_with fail;go_ret;rw[HE.out];exact⟨rfl,⟨r,Tf _ oM,(hf.jC hx).jC oM,(hm.jC hx).jC oM⟩,(kH.refl _ _ _).set.set⟩
def Dp (s:Sc)(a b c:Int):Sc×Int:=if a<0\/b<0\/c<0 then (s,1)else ({ s with jL:=true,after:=a,one:=b,rest:=c },0)
theorem XJ {a b c:Int}(h:bM w xb s fs m f):
 H K 115 #[U (M ⟨xb,0,O⟩),I V a,I V b,I V c] w fun e w'=>e=G (I V (Dp s a b c).2)/\bM w' xb (Dp s a b c).1 fs m f/\kH w w' xb f f:=by
 have HS:Hid (bM w xb s fs m f):=h;obtain⟨r,hx,hf,hm⟩:=h;obtain⟨-,c4,c5,c6,c7,-,cf⟩:=kT hx;have f4:=cf 4;have f5:=cf 5;have f6:=cf 6;have f7:=cf 7;clear cf;by_cases e1:a<0
 ·have HE:Hid (Dp s a b c=(s,1)):=by show _=_;unfold Dp;rw[Aad (Aac e1)]
  go_enter func115,ntmps115;go_wp2_with fail;go_ret;rw[HE.out];exact⟨rfl,HS.out,kH.refl _ _ _⟩
 ·by_cases e2:b<0
  ·have HE:Hid (Dp s a b c=(s,1)):=(by show _=_;unfold Dp;rw[Aad (Aab (Aac e2))]);go_enter func115,ntmps115;go_wp2_with fail;go_ret;rw[HE.out];exact⟨rfl,HS.out,kH.refl _ _ _⟩
  ·by_cases e3:c<0
   ·have HE:Hid (Dp s a b c=(s,1)):=(by show _=_;unfold Dp;rw[Aad (Aab (Aab e3))]);go_enter func115,ntmps115;go_wp2_with fail;go_ret;rw[HE.out];exact⟨rfl,HS.out,kH.refl _ _ _⟩
   ·have HE:Hid (Dp s a b c=({ s with jL:=true,after:=a,one:=b,rest:=c },0)):=(by show _=_;unfold Dp;rw[Aaa (by omega)]);have oM:=Tc true hx;have Vz:=Td a oM;have Gg:=OT b Vz;go_enter func115,ntmps115;go_wp2_with fail;go_ret;rw[HE.out];exact⟨rfl,⟨r,OU c Gg,(((hf.jC hx).jC oM).jC Vz).jC Gg,(((hm.jC hx).jC oM).jC Vz).jC Gg⟩,(kH.refl _ _ _).set.set.set.set⟩
end Go.Proofs.YtfplgfodoiiobaaGreatDoor
