/- RefG, RefH (joined). -/
import Derived.Test.YtfplgfodoiiobaaGreatDoorJ07
open Option renaming none→O,some→M
open Go.Value renaming int→I,slice→Z
open Go.IntKind renaming i64→V
open Go.Obj renaming cells→C
open Go.Ending renaming returned→G
open Go renaming World→F,Value→Y,Calls→H
open Go.Proofs.Tryz renaming prog→K
namespace Go.Proofs.YtfplgfodoiiobaaGreatDoor
set_option maxHeartbeats 1000000
set_option maxRecDepth 100000
open Go.RowKit
variable {w:F}{l:List (Int×Int)}
theorem Ph (h:fG l){pos n:Int}(h0:0<=pos)(hn:0<=n)(h1:n<=sz l-pos):sz (bJ l pos n).1=sz l-n:=by
 unfold bJ;split
 ·rename_i e;subst e;simp
 ·simp only[Hy,nQ];rw[yI h h0 (by omega),lT (kG h pos) hn (by rw[lT h h0 (by omega)];omega),lT h h0 (by omega)];omega
theorem Ie (h:fG l)(pos n:Int):fG (bJ l pos n).1:=by
 unfold bJ;split
 ·exact h
 ·exact iE (uX h pos) (kG (kG h pos) n)
theorem DY (l:List (Int×Int))(pos n:Int):(bJ l pos n).1.length<=l.length+2:=by
 unfold bJ;split
 ·simp
 ·have h1:=pK l pos;have h2:=pK (bU l pos) n;simp only[Hy,List.length_append];omega
theorem eX.head {xo:Option Addr}{xn xc:Nat}{e:Ed}{l:List Ed}(h:eX w (xo,xn,xc) (e::l)):∃(b off:Nat) (r:gH),xo=M ⟨b,off,O⟩/\xn=l.length+1/\xn<=xn/\w.cell? ⟨b,off,O⟩=M (I V r.1)/\w.cell? ⟨b,off+1,O⟩=M r.2.1.v/\w.cell? ⟨b,off+2,O⟩=M r.2.2.v/\qR w r e:=by
 obtain⟨raw,h1,h2,h3,h4,h5⟩:=h;simp only at h1 h2 h3
 match raw,h4 with
 |r::raw,h4=>
  rcases h1.1 with h|⟨b,off,rfl,hc⟩
  ·cases h
  ·refine⟨b,off,r,rfl,by simp at h4;simp at h2;omega,Nat.le_refl _,?_,hc 1 _ rfl,hc 2 _ rfl,h5 0 r e rfl rfl⟩;have:=hc 0 _ rfl;simpa using this
theorem eX.tail {b off xn xc:Nat}{e:Ed}{l:List Ed}(h:eX w (M ⟨b,off,O⟩,xn,xc) (e::l)):eX w ((if xc=1 then M ⟨b,off,O⟩else M ⟨b,off+3,O⟩),l.length,xc-1) l:=by
 obtain⟨raw,h1,h2,h3,h4,h5⟩:=h;simp only at h1 h2 h3
 match raw,h4 with
 |r::raw,h4=>
  simp at h4 h2;obtain⟨c1,c2⟩:=h1;obtain⟨aS,hc⟩:=c2 _ rfl;have vC:∀o:Nat,∀a,M (⟨b,o,O⟩:Addr)=M a->∃aS,w.heap[a.block]?=M (C aS 302 (0,0)):=fun o a e=>by cases e;exact⟨aS,hc⟩
  by_cases hx:xc=1
  ·have Hl:raw=[]:=List.eq_nil_of_length_eq_zero (by omega);subst Hl;rw[if_pos hx];have XY:l.length=0:=by simpa using h4.symm
   exact⟨[],⟨Or.inl rfl,vC off⟩,XY,⟨fun e=>(by cases e),by simp only;omega⟩,by rw[XY];rfl,fun i r' e' a' b'=>by simp at a'⟩
  ·rw[if_neg hx];refine⟨raw,⟨?_,vC _⟩,by simp only;omega,⟨fun e=>(by cases e),by simp only;omega⟩,h4,fun i r' e' a' b'=>h5 (i+1) r' e' (by simpa using a') (by simpa using b')⟩;rcases c1 with c1|⟨b',Oh,e',ZO⟩
   ·cases c1
   ·cases e'
    refine Or.inr ⟨b,off+3,rfl,fun j u hu=>?_⟩;have:=ZO (j+3) u (by rw[vX,List.getElem?_append_right (by simp)];simpa using hu);rwa[show off+(j+3)=off+3+j from by omega]at this
theorem nA {g:Nat}{a b c:Y}(h:w.heap[g]?=M (C #[a,b,c] 302)):w.cell? ⟨g,0,O⟩=M a/\w.cell? ⟨g,1,O⟩=M b/\w.cell? ⟨g,2,O⟩=M c:=by
 simp[World.cell?,h]
theorem Ec.QG {w':F}{ao:Option Addr}(h:Ec w ao l)(hg:aL w w'):Ec w' ao l:=h.below hg
theorem yF.grewT {w':F}{ao:Option Addr}(h:yF w ao l)(hg:aL w w'):yF w' ao l:=h.below hg
def uF (m:dF)(depth:Nat):dF×Int:=
 match m.2.1 with
 | []=>(m,8)
 |e::rest=>if 4096<(bO (bJ m.1 e.1 (sz e.2.2)).1 e.1 e.2.1).length then (m,13)else ((bO (bJ m.1 e.1 (sz e.2.2)).1 e.1 e.2.1,rest,(e::m.2.2.1).take depth,m.2.2.2.1+1,m.2.2.2.2),0)
def Ar (n:Int)(pos:Int)(gone come:List (Int×Int)):Prop:=0<=pos/\pos+sz gone<=n/\fG gone/\fG come/\gone.length<=6000/\come.length<=6000
theorem DZ {r:fF}{m:dF}{a b c most:Int}{depth:Nat}(hm:dQ w r m)(ok:okM m)(hd:depth<=100)(xW:∀e rest,m.2.1=e::rest->Ar (sz m.1) e.1 e.2.2 e.2.1):
 H K 162 #[r.v,I V 85,I V a,I V b,I V c,I V most,I V (depth:Int)] w fun e w'=>
  ∃r',e=G (.tuple #[fF.v r',I V (uF m depth).2])/\dQ w' r' (uF m depth).1/\Below w.heap.size w w':=by
 have HM:Hid (dQ w r m):=hm;obtain⟨m1,m2,m3,m4,m5⟩:=hm;obtain⟨⟨po,tl,tc⟩,⟨uo,ul,uc⟩,⟨ro,rl,rc⟩,dn,bf⟩:=r;obtain⟨text,jA,jW,Nb,Aq⟩:=m;simp only at m1 m2 m3 m4 m5 xW;subst m4 m5;obtain⟨o1,o2,o3,o4,o5,o6,o7,o8⟩:=ok;simp only at o1 o2 o3 o4 o5 o6 o7 o8;obtain⟨t1,t2,t3⟩:=m1;simp only at t1 t2 t3;subst t2;have bs:=lD o1;simp only[fF.v,bS.v];cases jA with
 |nil=>
  have Kl:ul=0:=by obtain⟨raw,-,h2,-,h4,-⟩:=m2;simp at h2 h4;rw[h2,h4];rfl
  subst Kl;have HE:Hid (uF (text,[],jW,dn,bf) depth=((text,[],jW,dn,bf),8)):=rfl;go_enter Tryz.func162,Tryz.ntmps162
  go_wp2_with fail
  refine(fP (l:=text) (t1.1.below (aQ (aO _ _) (aO _ _))) rfl o1 (by omega)).mono ?_;rintro e w1 ⟨rfl,rfl⟩
  go_wp2_with fail
  have B3:=(three w (C #[Z po text.length tc,Z uo 0 uc,Z ro rl rc,I V dn,I V bf] 187) (C #[Z po text.length tc,Z uo 0 uc,Z ro rl rc,I V dn,I V bf] 187) (C #[Z po text.length tc,Z uo 0 uc,Z ro rl rc,I V dn,I V bf] 187)).2.2.2.2;refine bodyPost_ret (v:= .tuple #[.agg #[Z po text.length tc,Z uo 0 uc,Z ro rl rc,I V dn,I V bf],I V 8]) (by simp[results,Tryz.results162,go_sem]) rfl ?_;rw[HE.out];exact⟨((po,text.length,tc),(uo,0,uc),(ro,rl,rc),dn,bf),rfl,HM.out.aN B3,B3⟩
 |cons e rest=>
  obtain⟨f1,f2,f3,f4,f5,f6⟩:=xW e rest rfl;obtain⟨eb,fM,er,rfl,Kl,-,e0,e1,e2,Ho⟩:=m2.head;have hbi:=lD f3;have hsc:=Ph o1 f1 (by omega) (by omega:sz e.2.2<=sz text-e.1);have hoc:=Ie o1 e.1 (sz e.2.2);have hlc:=DY text e.1 (sz e.2.2);have HA:Hid (4096<(bO (bJ text e.1 (sz e.2.2)).1 e.1 e.2.1).length->uF (text,e::rest,jW,dn,bf) depth=((text,e::rest,jW,dn,bf),13)):=fun hf=>by simp only[uF,if_pos hf]
  have HB:Hid (¬4096<(bO (bJ text e.1 (sz e.2.2)).1 e.1 e.2.1).length->uF (text,e::rest,jW,dn,bf) depth=((bO (bJ text e.1 (sz e.2.2)).1 e.1 e.2.1,rest,(e::jW).take depth,dn+1,bf),0)):=fun hf=>by simp only[uF,if_neg hf]
  obtain⟨ep,⟨xo,xn,xc⟩,⟨yo,yn,yc⟩⟩:=er;obtain⟨epos,iM,qZ⟩:=e;obtain⟨g1,⟨g2,g3,g4⟩,⟨g5,g6,g7⟩⟩:=Ho;simp only at g1 g2 g3 g4 g5 g6 g7 f1 f2 f3 f4 f5 f6 hbi hsc hoc hlc;simp only[bS.v]at e0 e1 e2;subst g1 g3 g6;have j1:(0:Int)<(ul:Int):=by omega
  have j2:¬((ul:Int)=0):=by omega
  have j3:((ul:Int)==0)=false:=by rw[beq_eq_false_iff_ne];exact j2
  go_enter Tryz.func162,Tryz.ntmps162
  go_wp2_with fail
  refine(fP (l:=text) (t1.1.below (aQ (aO _ _) (aO _ _))) rfl o1 (by omega)).mono ?_;rintro e w1 ⟨rfl,rfl⟩;subst Kl
  go_upto_region 26 with fail
  obtain⟨r1,r2,r3,q4,B2⟩:=three w (bK (Z po text.length tc) (Z (M ⟨eb,fM,O⟩) (rest.length+1) uc) (Z ro rl rc) (I V dn) (I V bf)) (bK (Z O 0 0) (Z O 0 0) (Z O 0 0) (I V 0) (I V 0)) (bK (Z po text.length tc) (Z (M ⟨eb,fM,O⟩) (rest.length+1) uc) (Z ro rl rc) (I V dn) (I V bf))
  rw[show(Obj.cells #[Z po text.length tc,Z (M ⟨eb,fM,O⟩) (rest.length+1) uc,Z ro rl rc,I V dn,I V bf] 187)=bK (Z po text.length tc) (Z (M ⟨eb,fM,O⟩) (rest.length+1) uc) (Z ro rl rc) (I V dn) (I V bf) from rfl,
   show(Obj.cells #[Z O 0 0,Z O 0 0,Z O 0 0,I V 0,I V 0] 187)=bK (Z O 0 0) (Z O 0 0) (Z O 0 0) (I V 0) (I V 0) from rfl]
  generalize ((w.alloc (bK (Z po text.length tc) (Z (M ⟨eb,fM,O⟩) (rest.length+1) uc) (Z ro rl rc) (I V dn) (I V bf))).alloc (bK (Z O 0 0) (Z O 0 0) (Z O 0 0) (I V 0) (I V 0))).alloc (bK (Z po text.length tc) (Z (M ⟨eb,fM,O⟩) (rest.length+1) uc) (Z ro rl rc) (I V dn) (I V bf))=w2 at*;obtain⟨x0,x1,x2,x3,x4,-⟩:=aT r1;have n1:w.heap.size≠w.heap.size+1+1:=by omega
  have n2:w.heap.size+1≠w.heap.size+1+1:=by omega
  have Qv:=cell_later B2 e0;have Au:=cell_later B2 e1;have La:=cell_later B2 e2;have k1:(0:Int)<(rest.length:Int)+1:=by omega
  go_upto_region 27 with fail
  have ZP:=heap_alloc_new w2 (C #[I V ep,Z xo iM.length xc,Z yo qZ.length yc] 302);rw[q4]at ZP;have Ib:=aO w2 (C #[I V ep,Z xo iM.length xc,Z yo qZ.length yc] 302);have B3:=aQ B2 Ib;have s1:=bD Ib r1;have s2:=bD Ib r2;have s3:=bD Ib r3;clear Ib q4 r1 r2 r3 Qv Au La x0 x1 x2 x3 x4 B2;generalize w2.alloc (C #[I V ep,Z xo iM.length xc,Z yo qZ.length yc] 302)=w3 at*;obtain⟨x0,x1,x2,x3,x4,-⟩:=aT s1;obtain⟨Qv,Au,La⟩:=nA ZP;have Nc:=g5.below B3;have htx:=t1.below B3
  go_cut [22,23] (fun v g wc=> ∃ao ca,v=Z ao (bJ text ep (sz qZ)).1.length ca/\yF wc ao (bJ text ep (sz qZ)).1/\vY ao (bJ text ep (sz qZ)).1.length ca/\aL w3 wc)
  case first=>
   have ga:=aL.refl w3;clear e0 e1 e2 Au m2 m3 s1 s2 s3 ZP
   go_region_held3 (fun w'=>w'.cell? ⟨w.heap.size,0,O⟩=M (Z po text.length tc)/\w'.cell? ⟨w.heap.size+1+1+1,0,O⟩=M (I V ep)/\w'.cell? ⟨w.heap.size+1+1+1,2,O⟩=M (Z yo qZ.length yc)/\aL w3 w')
    (first|(refine ZN x0 Qv La ?_;go_split_ands;first|assumption|(exact aL.drew (by assumption))|(exact aL.more (by assumption) (by assumption))))
    (first|(go_at_call 106;refine(fP (l:=qZ) (by go_split_ands;exact Nc.1.QG (by assumption)) rfl f3 (by omega)).mono ?_;rintro e w5 ⟨rfl,rfl⟩)|(go_at_call 157;refine(Yv (l:=text) (by go_split_ands;exact htx.grewT (by assumption)) rfl t3 o1 (by omega) f1 (by omega) (by omega)).mono ?_;rintro e w5 ⟨Wh,ca5,go5,gc5,rfl,Ef,Qs,hgr5,hgn5,pY⟩))
   all_goals go_wp2_with fail
   all_goals go_meet
   all_goals exact⟨Wh,ca5,rfl,Ef,Qs,by go_split_ands;assumption⟩
  case rest=>
   obtain⟨Wh,ca5,rfl,Ef,Qs,G5⟩:=hcut
   rename F=>w5
   have u1:=bD G5 s1;have u2:=bD G5 s2;have u3:=bD G5 s3;have he5:=bD G5 ZP;have B5:=aQ B3 G5;have hou:=g2.below B5;clear s1 s2 s3 ZP G5 x0 x1 x2 x3 x4 Qv Au La Nc htx B3;obtain⟨x0,x1,x2,x3,x4,-⟩:=aT u1;obtain⟨Qv,Au,La⟩:=nA he5
   go_wp2_with fail
   refine(Yu (l:=(bJ text ep (sz qZ)).1) (more:=iM) Ef rfl Qs hou rfl g4 hoc (by omega) (by omega) f1 (by omega)).mono ?_;rintro e w6 ⟨Kj,Lb,rfl,Uo,hn6,yG⟩;have s1:=bD yG u1;have s2:=bD yG u2;have s3:=bD yG u3;have he6:=bD yG he5;have B6:=aQ B5 yG;have t6:bL w6 (Kj,(bO (bJ text ep (sz qZ)).1 ep iM).length,Lb) (bO (bJ text ep (sz qZ)).1 ep iM):=⟨Uo,rfl,hn6⟩;clear u1 u2 u3 he5 yG x0 x1 x2 x3 x4 Qv Au La Ef Qs hou B5 Uo hn6;obtain⟨x0,x1,x2,x3,x4,-⟩:=aT s1;obtain⟨Qv,Au,La⟩:=nA he6;obtain⟨y0,y1,y2,y3,y4,z0,z1,z2,z3,z4⟩:=aT s3;have n4:w.heap.size+1+1+1≠w.heap.size+1+1:=by omega
   have k2:(1:Int)<=(rest.length:Int)+1:=by omega
   go_upto_region 30 with fail
   have v1:=dN (g:=w.heap.size+1+1) (i:=1) (v:=Z (if uc=1 then M ⟨eb,fM,O⟩else M ⟨eb,fM+3,O⟩) rest.length (uc-1)) (dN (g:=w.heap.size+1+1) (i:=0) (v:=Z Kj (bO (bJ text ep (sz qZ)).1 ep iM).length Lb) s1 n1) n1;have v2:=dN (g:=w.heap.size+1+1) (i:=1) (v:=Z (if uc=1 then M ⟨eb,fM,O⟩else M ⟨eb,fM+3,O⟩) rest.length (uc-1)) (dN (g:=w.heap.size+1+1) (i:=0) (v:=Z Kj (bO (bJ text ep (sz qZ)).1 ep iM).length Lb) s2 n2) n2;have s4:=mZ (v:=Z Kj (bO (bJ text ep (sz qZ)).1 ep iM).length Lb) s3;have v3:=lI (v:=Z (if uc=1 then M ⟨eb,fM,O⟩else M ⟨eb,fM+3,O⟩) rest.length (uc-1)) s4;have he7:=dN (g:=w.heap.size+1+1) (i:=1) (v:=Z (if uc=1 then M ⟨eb,fM,O⟩else M ⟨eb,fM+3,O⟩) rest.length (uc-1)) (dN (g:=w.heap.size+1+1) (i:=0) (v:=Z Kj (bO (bJ text ep (sz qZ)).1 ep iM).length Lb) he6 n4) n4;have t7:=(t6.jD (i:=0) (v:=Z Kj (bO (bJ text ep (sz qZ)).1 ep iM).length Lb) s3).jD (i:=1) (v:=Z (if uc=1 then M ⟨eb,fM,O⟩else M ⟨eb,fM+3,O⟩) rest.length (uc-1)) s4;have B7:=(B6.setCell (p:=⟨w.heap.size+1+1,0,O⟩) (by simp only;omega) (Z Kj (bO (bJ text ep (sz qZ)).1 ep iM).length Lb)).setCell (p:=⟨w.heap.size+1+1,1,O⟩) (by simp only;omega) (Z (if uc=1 then M ⟨eb,fM,O⟩else M ⟨eb,fM+3,O⟩) rest.length (uc-1));have mt:=m2.tail;clear s1 s2 s3 s4 he6 t6 B6 x0 x1 x2 x3 x4 Qv Au La y0 y1 y2 y3 y4 z0 z1 z2 z3 z4;generalize (if uc=1 then M (⟨eb,fM,O⟩:Addr)else M ⟨eb,fM+3,O⟩)=TQ at*;generalize (w6.setCell ⟨w.heap.size+1+1,0,O⟩ (Z Kj (bO (bJ text ep (sz qZ)).1 ep iM).length Lb)).setCell ⟨w.heap.size+1+1,1,O⟩ (Z TQ rest.length (uc-1))=w7 at*;obtain⟨x0,x1,x2,x3,x4,-⟩:=aT v1;obtain⟨Qv,Au,La⟩:=nA he7;have ZQ:qR w7 (ep,(xo,iM.length,xc),(yo,qZ.length,yc)) (ep,iM,qZ):=⟨rfl,⟨g2.below B7,rfl,g4⟩,⟨g5.below B7,rfl,g7⟩⟩
   go_wp2_with fail
   refine(zN (r:=(ep,(xo,iM.length,xc),(yo,qZ.length,yc))) (e:=(ep,iM,qZ)) (x:=(ro,rl,rc)) (l:=jW) ZQ (m3.aN B7) (by omega) (by omega)).mono ?_;rintro e w8 ⟨⟨qo,qn,qc⟩,rfl,hy8,EA⟩;simp only[bS.v];have u1:=bD EA v1;have u2:=bD EA v2;have u3:=bD EA v3;have t8:=t7.aN EA;have B8:=aQ B7 EA;clear v1 v2 v3 he7 t7 B7 EA x0 x1 x2 x3 x4 Qv Au La ZQ;obtain⟨x0,x1,x2,x3,x4,-⟩:=aT u1;obtain⟨y0,y1,y2,y3,y4,z0,z1,z2,z3,z4⟩:=aT u3
   go_upto_region 39 with fail
   have v1:=dN (g:=w.heap.size+1+1) (i:=2) (v:=Z qo qn qc) u1 n1;have v2:=dN (g:=w.heap.size+1+1) (i:=2) (v:=Z qo qn qc) u2 n2;have v3:=lJ (v:=Z qo qn qc) u3;have t6:=t8.jD (i:=2) (v:=Z qo qn qc) u3;have e6:=hy8.jD (i:=2) (v:=Z qo qn qc) u3;have B6:=B8.setCell (p:=⟨w.heap.size+1+1,2,O⟩) (by simp only;omega) (Z qo qn qc);clear u1 u2 u3 t8 hy8 B8 x0 x1 x2 x3 x4 y0 y1 y2 y3 y4 z0 z1 z2 z3 z4;generalize w8.setCell ⟨w.heap.size+1+1,2,O⟩ (Z qo qn qc)=w6 at*;have eU:=mt.aN B6;obtain⟨x0,x1,x2,x3,x4,-⟩:=aT v1;obtain⟨k0,k1,k2,k3,k4,l0,l1,l2,l3,l4⟩:=aT v2;obtain⟨y0,y1,y2,y3,y4,f0,f1,f2,f3,f4⟩:=aT v3;have n3:w.heap.size≠w.heap.size+1:=by omega
   by_cases hf:4096<(bO (bJ text ep (sz qZ)).1 ep iM).length
   ·have hf':(4096:Int)<((bO (bJ text ep (sz qZ)).1 ep iM).length:Int):=by omega
    go_wp2_with fail
    obtain⟨v5,B7⟩:=zQ (T:=Z po text.length tc) (aG:=Z (M ⟨eb,fM,O⟩) (rest.length+1) uc) (R:=Z ro rl rc) (D:=I V dn) (Bf:=I V bf) (by omega) v2 B6;generalize ((((w6.setCell ⟨w.heap.size+1,0,O⟩ (Z po text.length tc)).setCell ⟨w.heap.size+1,1,O⟩ (Z (M ⟨eb,fM,O⟩) (rest.length+1) uc)).setCell ⟨w.heap.size+1,2,O⟩ (Z ro rl rc)).setCell ⟨w.heap.size+1,3,O⟩ (I V dn)).setCell ⟨w.heap.size+1,4,O⟩ (I V bf)=w7 at*;obtain⟨i0,i1,i2,i3,i4,-⟩:=aT v5;refine bodyPost_ret (v:= .tuple #[.agg #[Z po text.length tc,Z (M ⟨eb,fM,O⟩) (rest.length+1) uc,Z ro rl rc,I V dn,I V bf],I V 13]) (by simp[results,Tryz.results162,go_sem,i0,i1,i2,i3,i4]) rfl ?_;rw[HA.out hf];exact⟨((po,text.length,tc),(M ⟨eb,fM,O⟩,rest.length+1,uc),(ro,rl,rc),dn,bf),rfl,HM.out.aN B7,B7⟩
   ·have hf':¬(4096:Int)<((bO (bJ text ep (sz qZ)).1 ep iM).length:Int):=by omega
    go_wp2_with fail
    obtain⟨v5,M7,B7⟩:=Dn (ot:=w.heap.size+1+1) (rs:=w.heap.size+1) (T:=(Kj,(bO (bJ text ep (sz qZ)).1 ep iM).length,Lb)) (aG:=(TQ,rest.length,uc-1)) (R:=(qo,qn,qc)) (D:=dn) (D':=dn+1) (Bf:=bf) n2 (by omega) (by omega) v2 v3 t6 eU e6 B6;simp only[bS.v]at v5 M7 B7;generalize ((((((w6.setCell ⟨w.heap.size+1+1,3,O⟩ (I V (dn+1))).setCell ⟨w.heap.size+1,0,O⟩ (Z Kj (bO (bJ text ep (sz qZ)).1 ep iM).length Lb)).setCell ⟨w.heap.size+1,1,O⟩ (Z TQ rest.length (uc-1))).setCell ⟨w.heap.size+1,2,O⟩ (Z qo qn qc)).setCell ⟨w.heap.size+1,3,O⟩ (I V (dn+1))).setCell ⟨w.heap.size+1,4,O⟩ (I V (bf)))=w7 at*;obtain⟨i0,i1,i2,i3,i4,-⟩:=aT v5;refine bodyPost_ret (v:= .tuple #[.agg #[Z Kj (bO (bJ text ep (sz qZ)).1 ep iM).length Lb,Z TQ rest.length (uc-1),Z qo qn qc,I V (dn+1),I V (bf)],I V 0]) (by simp[results,Tryz.results162,go_sem,i0,i1,i2,i3,i4]) rfl ?_;rw[HB.out hf]
    first
     |exact⟨((Kj,(bO (bJ text ep (sz qZ)).1 ep iM).length,Lb),(TQ,rest.length,uc-1),(qo,qn,qc),dn+1,bf),rfl,M7,B7⟩
     |exact⟨Kj,(bO (bJ text ep (sz qZ)).1 ep iM).length,Lb,TQ,rest.length,uc-1,qo,qn,qc,dn+1,bf,rfl,M7,B7⟩
def uG (m:dF)(depth:Nat):dF×Int:=
 match m.2.2.1 with
 | []=>(m,8)
 |e::rest=>if 4096<(bO (bJ m.1 e.1 (sz e.2.1)).1 e.1 e.2.2).length then (m,13)else ((bO (bJ m.1 e.1 (sz e.2.1)).1 e.1 e.2.2,(e::m.2.1).take depth,rest,m.2.2.2.1+1,m.2.2.2.2),0)
theorem EB {r:fF}{m:dF}{a b c most:Int}{depth:Nat}(hm:dQ w r m)(ok:okM m)(hd:depth<=100)(xW:∀e rest,m.2.2.1=e::rest->Ar (sz m.1) e.1 e.2.1 e.2.2):
 H K 162 #[r.v,I V 82,I V a,I V b,I V c,I V most,I V (depth:Int)] w fun e w'=>
  ∃r',e=G (.tuple #[fF.v r',I V (uG m depth).2])/\dQ w' r' (uG m depth).1/\Below w.heap.size w w':=by
 have HM:Hid (dQ w r m):=hm;obtain⟨m1,m2,m3,m4,m5⟩:=hm;obtain⟨⟨po,tl,tc⟩,⟨uo,ul,uc⟩,⟨ro,rl,rc⟩,dn,bf⟩:=r;obtain⟨text,jA,jW,Nb,Aq⟩:=m;simp only at m1 m2 m3 m4 m5 xW;subst m4 m5;obtain⟨o1,o2,o3,o4,o5,o6,o7,o8⟩:=ok;simp only at o1 o2 o3 o4 o5 o6 o7 o8;obtain⟨t1,t2,t3⟩:=m1;simp only at t1 t2 t3;subst t2;have bs:=lD o1;simp only[fF.v,bS.v];cases jW with
 |nil=>
  have Kl:rl=0:=by obtain⟨raw,-,h2,-,h4,-⟩:=m3;simp at h2 h4;rw[h2,h4];rfl
  subst Kl;have HE:Hid (uG (text,jA,[],dn,bf) depth=((text,jA,[],dn,bf),8)):=rfl;go_enter Tryz.func162,Tryz.ntmps162
  go_wp2_with fail
  refine(fP (l:=text) (t1.1.below (aQ (aO _ _) (aO _ _))) rfl o1 (by omega)).mono ?_;rintro e w1 ⟨rfl,rfl⟩
  go_wp2_with fail
  have B3:=(three w (C #[Z po text.length tc,Z uo ul uc,Z ro 0 rc,I V dn,I V bf] 187) (C #[Z po text.length tc,Z uo ul uc,Z ro 0 rc,I V dn,I V bf] 187) (C #[Z po text.length tc,Z uo ul uc,Z ro 0 rc,I V dn,I V bf] 187)).2.2.2.2;refine bodyPost_ret (v:= .tuple #[.agg #[Z po text.length tc,Z uo ul uc,Z ro 0 rc,I V dn,I V bf],I V 8]) (by simp[results,Tryz.results162,go_sem]) rfl ?_;rw[HE.out];exact⟨((po,text.length,tc),(uo,ul,uc),(ro,0,rc),dn,bf),rfl,HM.out.aN B3,B3⟩
 |cons e rest=>
  obtain⟨f1,f2,f3,f4,f5,f6⟩:=xW e rest rfl;obtain⟨eb,fM,er,rfl,Kl,-,e0,e1,e2,Ho⟩:=m3.head;have hbi:=lD f3;have hsc:=Ph o1 f1 (by omega) (by omega:sz e.2.1<=sz text-e.1);have hoc:=Ie o1 e.1 (sz e.2.1);have hlc:=DY text e.1 (sz e.2.1);have HA:Hid (4096<(bO (bJ text e.1 (sz e.2.1)).1 e.1 e.2.2).length->uG (text,jA,e::rest,dn,bf) depth=((text,jA,e::rest,dn,bf),13)):=fun hf=>by simp only[uG,if_pos hf]
  have HB:Hid (¬4096<(bO (bJ text e.1 (sz e.2.1)).1 e.1 e.2.2).length->uG (text,jA,e::rest,dn,bf) depth=((bO (bJ text e.1 (sz e.2.1)).1 e.1 e.2.2,(e::jA).take depth,rest,dn+1,bf),0)):=fun hf=>by simp only[uG,if_neg hf]
  obtain⟨ep,⟨xo,xn,xc⟩,⟨yo,yn,yc⟩⟩:=er;obtain⟨epos,iM,qZ⟩:=e;obtain⟨g1,⟨g2,g3,g4⟩,⟨g5,g6,g7⟩⟩:=Ho;simp only at g1 g2 g3 g4 g5 g6 g7 f1 f2 f3 f4 f5 f6 hbi hsc hoc hlc;simp only[bS.v]at e0 e1 e2;subst g1 g3 g6;have j1:(0:Int)<(rl:Int):=by omega
  have j2:¬((rl:Int)=0):=by omega
  have j3:((rl:Int)==0)=false:=by rw[beq_eq_false_iff_ne];exact j2
  go_enter Tryz.func162,Tryz.ntmps162
  go_wp2_with fail
  refine(fP (l:=text) (t1.1.below (aQ (aO _ _) (aO _ _))) rfl o1 (by omega)).mono ?_;rintro e w1 ⟨rfl,rfl⟩;subst Kl
  go_upto_region 34 with fail
  obtain⟨r1,r2,r3,q4,B2⟩:=three w (bK (Z po text.length tc) (Z uo ul uc) (Z (M ⟨eb,fM,O⟩) (rest.length+1) rc) (I V dn) (I V bf)) (bK (Z O 0 0) (Z O 0 0) (Z O 0 0) (I V 0) (I V 0)) (bK (Z po text.length tc) (Z uo ul uc) (Z (M ⟨eb,fM,O⟩) (rest.length+1) rc) (I V dn) (I V bf))
  rw[show(Obj.cells #[Z po text.length tc,Z uo ul uc,Z (M ⟨eb,fM,O⟩) (rest.length+1) rc,I V dn,I V bf] 187)=bK (Z po text.length tc) (Z uo ul uc) (Z (M ⟨eb,fM,O⟩) (rest.length+1) rc) (I V dn) (I V bf) from rfl,
   show(Obj.cells #[Z O 0 0,Z O 0 0,Z O 0 0,I V 0,I V 0] 187)=bK (Z O 0 0) (Z O 0 0) (Z O 0 0) (I V 0) (I V 0) from rfl]
  generalize ((w.alloc (bK (Z po text.length tc) (Z uo ul uc) (Z (M ⟨eb,fM,O⟩) (rest.length+1) rc) (I V dn) (I V bf))).alloc (bK (Z O 0 0) (Z O 0 0) (Z O 0 0) (I V 0) (I V 0))).alloc (bK (Z po text.length tc) (Z uo ul uc) (Z (M ⟨eb,fM,O⟩) (rest.length+1) rc) (I V dn) (I V bf))=w2 at*;obtain⟨x0,x1,x2,x3,x4,-⟩:=aT r1;have n1:w.heap.size≠w.heap.size+1+1:=by omega
  have n2:w.heap.size+1≠w.heap.size+1+1:=by omega
  have Qv:=cell_later B2 e0;have Au:=cell_later B2 e1;have La:=cell_later B2 e2;have k1:(0:Int)<(rest.length:Int)+1:=by omega
  go_upto_region 35 with fail
  have ZP:=heap_alloc_new w2 (C #[I V ep,Z xo iM.length xc,Z yo qZ.length yc] 302);rw[q4]at ZP;have Ib:=aO w2 (C #[I V ep,Z xo iM.length xc,Z yo qZ.length yc] 302);have B3:=aQ B2 Ib;have s1:=bD Ib r1;have s2:=bD Ib r2;have s3:=bD Ib r3;clear Ib q4 r1 r2 r3 Qv Au La x0 x1 x2 x3 x4 B2;generalize w2.alloc (C #[I V ep,Z xo iM.length xc,Z yo qZ.length yc] 302)=w3 at*;obtain⟨x0,x1,x2,x3,x4,-⟩:=aT s1;obtain⟨Qv,Au,La⟩:=nA ZP;have Nc:=g2.below B3;have htx:=t1.below B3
  go_cut [25,26] (fun v g wc=> ∃ao ca,v=Z ao (bJ text ep (sz iM)).1.length ca/\yF wc ao (bJ text ep (sz iM)).1/\vY ao (bJ text ep (sz iM)).1.length ca/\aL w3 wc)
  case first=>
   have ga:=aL.refl w3;clear e0 e1 e2 La m2 m3 s1 s2 s3 ZP
   go_region_held3 (fun w'=>w'.cell? ⟨w.heap.size,0,O⟩=M (Z po text.length tc)/\w'.cell? ⟨w.heap.size+1+1+1,0,O⟩=M (I V ep)/\w'.cell? ⟨w.heap.size+1+1+1,1,O⟩=M (Z xo iM.length xc)/\aL w3 w')
    (first|(refine ZN x0 Qv Au ?_;go_split_ands;first|assumption|(exact aL.drew (by assumption))|(exact aL.more (by assumption) (by assumption))))
    (first|(go_at_call 106;refine(fP (l:=iM) (by go_split_ands;exact Nc.1.QG (by assumption)) rfl f3 (by omega)).mono ?_;rintro e w5 ⟨rfl,rfl⟩)|(go_at_call 157;refine(Yv (l:=text) (by go_split_ands;exact htx.grewT (by assumption)) rfl t3 o1 (by omega) f1 (by omega) (by omega)).mono ?_;rintro e w5 ⟨Wh,ca5,go5,gc5,rfl,Ef,Qs,hgr5,hgn5,pY⟩))
   all_goals go_wp2_with fail
   all_goals go_meet
   all_goals exact⟨Wh,ca5,rfl,Ef,Qs,by go_split_ands;assumption⟩
  case rest=>
   obtain⟨Wh,ca5,rfl,Ef,Qs,G5⟩:=hcut
   rename F=>w5
   have u1:=bD G5 s1;have u2:=bD G5 s2;have u3:=bD G5 s3;have he5:=bD G5 ZP;have B5:=aQ B3 G5;have hou:=g5.below B5;clear s1 s2 s3 ZP G5 x0 x1 x2 x3 x4 Qv Au La Nc htx B3;obtain⟨x0,x1,x2,x3,x4,-⟩:=aT u1;obtain⟨Qv,Au,La⟩:=nA he5
   go_wp2_with fail
   refine(Yu (l:=(bJ text ep (sz iM)).1) (more:=qZ) Ef rfl Qs hou rfl g7 hoc (by omega) (by omega) f1 (by omega)).mono ?_;rintro e w6 ⟨Kj,Lb,rfl,Uo,hn6,yG⟩;have s1:=bD yG u1;have s2:=bD yG u2;have s3:=bD yG u3;have he6:=bD yG he5;have B6:=aQ B5 yG;have t6:bL w6 (Kj,(bO (bJ text ep (sz iM)).1 ep qZ).length,Lb) (bO (bJ text ep (sz iM)).1 ep qZ):=⟨Uo,rfl,hn6⟩;clear u1 u2 u3 he5 yG x0 x1 x2 x3 x4 Qv Au La Ef Qs hou B5 Uo hn6;obtain⟨x0,x1,x2,x3,x4,-⟩:=aT s1;obtain⟨Qv,Au,La⟩:=nA he6;obtain⟨y0,y1,y2,y3,y4,z0,z1,z2,z3,z4⟩:=aT s3;have n4:w.heap.size+1+1+1≠w.heap.size+1+1:=by omega
   have k2:(1:Int)<=(rest.length:Int)+1:=by omega
   go_upto_region 38 with fail
   have v1:=dN (g:=w.heap.size+1+1) (i:=2) (v:=Z (if rc=1 then M ⟨eb,fM,O⟩else M ⟨eb,fM+3,O⟩) rest.length (rc-1)) (dN (g:=w.heap.size+1+1) (i:=0) (v:=Z Kj (bO (bJ text ep (sz iM)).1 ep qZ).length Lb) s1 n1) n1;have v2:=dN (g:=w.heap.size+1+1) (i:=2) (v:=Z (if rc=1 then M ⟨eb,fM,O⟩else M ⟨eb,fM+3,O⟩) rest.length (rc-1)) (dN (g:=w.heap.size+1+1) (i:=0) (v:=Z Kj (bO (bJ text ep (sz iM)).1 ep qZ).length Lb) s2 n2) n2;have s4:=mZ (v:=Z Kj (bO (bJ text ep (sz iM)).1 ep qZ).length Lb) s3;have v3:=lJ (v:=Z (if rc=1 then M ⟨eb,fM,O⟩else M ⟨eb,fM+3,O⟩) rest.length (rc-1)) s4;have he7:=dN (g:=w.heap.size+1+1) (i:=2) (v:=Z (if rc=1 then M ⟨eb,fM,O⟩else M ⟨eb,fM+3,O⟩) rest.length (rc-1)) (dN (g:=w.heap.size+1+1) (i:=0) (v:=Z Kj (bO (bJ text ep (sz iM)).1 ep qZ).length Lb) he6 n4) n4;have t7:=(t6.jD (i:=0) (v:=Z Kj (bO (bJ text ep (sz iM)).1 ep qZ).length Lb) s3).jD (i:=2) (v:=Z (if rc=1 then M ⟨eb,fM,O⟩else M ⟨eb,fM+3,O⟩) rest.length (rc-1)) s4;have B7:=(B6.setCell (p:=⟨w.heap.size+1+1,0,O⟩) (by simp only;omega) (Z Kj (bO (bJ text ep (sz iM)).1 ep qZ).length Lb)).setCell (p:=⟨w.heap.size+1+1,2,O⟩) (by simp only;omega) (Z (if rc=1 then M ⟨eb,fM,O⟩else M ⟨eb,fM+3,O⟩) rest.length (rc-1));have mt:=m3.tail;clear s1 s2 s3 s4 he6 t6 B6 x0 x1 x2 x3 x4 Qv Au La y0 y1 y2 y3 y4 z0 z1 z2 z3 z4;generalize (if rc=1 then M (⟨eb,fM,O⟩:Addr)else M ⟨eb,fM+3,O⟩)=TQ at*;generalize (w6.setCell ⟨w.heap.size+1+1,0,O⟩ (Z Kj (bO (bJ text ep (sz iM)).1 ep qZ).length Lb)).setCell ⟨w.heap.size+1+1,2,O⟩ (Z TQ rest.length (rc-1))=w7 at*;obtain⟨x0,x1,x2,x3,x4,-⟩:=aT v1;obtain⟨Qv,Au,La⟩:=nA he7;have ZQ:qR w7 (ep,(xo,iM.length,xc),(yo,qZ.length,yc)) (ep,iM,qZ):=⟨rfl,⟨g2.below B7,rfl,g4⟩,⟨g5.below B7,rfl,g7⟩⟩
   go_wp2_with fail
   refine(zN (r:=(ep,(xo,iM.length,xc),(yo,qZ.length,yc))) (e:=(ep,iM,qZ)) (x:=(uo,ul,uc)) (l:=jA) ZQ (m2.aN B7) (by omega) (by omega)).mono ?_;rintro e w8 ⟨⟨qo,qn,qc⟩,rfl,hy8,EA⟩;simp only[bS.v];have u1:=bD EA v1;have u2:=bD EA v2;have u3:=bD EA v3;have t8:=t7.aN EA;have B8:=aQ B7 EA;clear v1 v2 v3 he7 t7 B7 EA x0 x1 x2 x3 x4 Qv Au La ZQ;obtain⟨x0,x1,x2,x3,x4,-⟩:=aT u1;obtain⟨y0,y1,y2,y3,y4,z0,z1,z2,z3,z4⟩:=aT u3
   go_upto_region 39 with fail
   have v1:=dN (g:=w.heap.size+1+1) (i:=1) (v:=Z qo qn qc) u1 n1;have v2:=dN (g:=w.heap.size+1+1) (i:=1) (v:=Z qo qn qc) u2 n2;have v3:=lI (v:=Z qo qn qc) u3;have t6:=t8.jD (i:=1) (v:=Z qo qn qc) u3;have e6:=hy8.jD (i:=1) (v:=Z qo qn qc) u3;have B6:=B8.setCell (p:=⟨w.heap.size+1+1,1,O⟩) (by simp only;omega) (Z qo qn qc);clear u1 u2 u3 t8 hy8 B8 x0 x1 x2 x3 x4 y0 y1 y2 y3 y4 z0 z1 z2 z3 z4;generalize w8.setCell ⟨w.heap.size+1+1,1,O⟩ (Z qo qn qc)=w6 at*;have eU:=mt.aN B6;obtain⟨x0,x1,x2,x3,x4,-⟩:=aT v1;obtain⟨k0,k1,k2,k3,k4,l0,l1,l2,l3,l4⟩:=aT v2;obtain⟨y0,y1,y2,y3,y4,f0,f1,f2,f3,f4⟩:=aT v3;have n3:w.heap.size≠w.heap.size+1:=by omega
   by_cases hf:4096<(bO (bJ text ep (sz iM)).1 ep qZ).length
   ·have hf':(4096:Int)<((bO (bJ text ep (sz iM)).1 ep qZ).length:Int):=by omega
    go_wp2_with fail
    obtain⟨v5,B7⟩:=zQ (T:=Z po text.length tc) (aG:=Z uo ul uc) (R:=Z (M ⟨eb,fM,O⟩) (rest.length+1) rc) (D:=I V dn) (Bf:=I V bf) (by omega) v2 B6;generalize ((((w6.setCell ⟨w.heap.size+1,0,O⟩ (Z po text.length tc)).setCell ⟨w.heap.size+1,1,O⟩ (Z uo ul uc)).setCell ⟨w.heap.size+1,2,O⟩ (Z (M ⟨eb,fM,O⟩) (rest.length+1) rc)).setCell ⟨w.heap.size+1,3,O⟩ (I V dn)).setCell ⟨w.heap.size+1,4,O⟩ (I V bf)=w7 at*;obtain⟨i0,i1,i2,i3,i4,-⟩:=aT v5;refine bodyPost_ret (v:= .tuple #[.agg #[Z po text.length tc,Z uo ul uc,Z (M ⟨eb,fM,O⟩) (rest.length+1) rc,I V dn,I V bf],I V 13]) (by simp[results,Tryz.results162,go_sem,i0,i1,i2,i3,i4]) rfl ?_;rw[HA.out hf];exact⟨((po,text.length,tc),(uo,ul,uc),(M ⟨eb,fM,O⟩,rest.length+1,rc),dn,bf),rfl,HM.out.aN B7,B7⟩
   ·have hf':¬(4096:Int)<((bO (bJ text ep (sz iM)).1 ep qZ).length:Int):=by omega
    go_wp2_with fail
    obtain⟨v5,M7,B7⟩:=Dn (ot:=w.heap.size+1+1) (rs:=w.heap.size+1) (T:=(Kj,(bO (bJ text ep (sz iM)).1 ep qZ).length,Lb)) (aG:=(qo,qn,qc)) (R:=(TQ,rest.length,rc-1)) (D:=dn) (D':=dn+1) (Bf:=bf) n2 (by omega) (by omega) v2 v3 t6 e6 eU B6;simp only[bS.v]at v5 M7 B7;generalize ((((((w6.setCell ⟨w.heap.size+1+1,3,O⟩ (I V (dn+1))).setCell ⟨w.heap.size+1,0,O⟩ (Z Kj (bO (bJ text ep (sz iM)).1 ep qZ).length Lb)).setCell ⟨w.heap.size+1,1,O⟩ (Z qo qn qc)).setCell ⟨w.heap.size+1,2,O⟩ (Z TQ rest.length (rc-1))).setCell ⟨w.heap.size+1,3,O⟩ (I V (dn+1))).setCell ⟨w.heap.size+1,4,O⟩ (I V (bf)))=w7 at*;obtain⟨i0,i1,i2,i3,i4,-⟩:=aT v5;refine bodyPost_ret (v:= .tuple #[.agg #[Z Kj (bO (bJ text ep (sz iM)).1 ep qZ).length Lb,Z qo qn qc,Z TQ rest.length (rc-1),I V (dn+1),I V (bf)],I V 0]) (by simp[results,Tryz.results162,go_sem,i0,i1,i2,i3,i4]) rfl ?_;rw[HB.out hf]
    first
     |exact⟨((Kj,(bO (bJ text ep (sz iM)).1 ep qZ).length,Lb),(qo,qn,qc),(TQ,rest.length,rc-1),dn+1,bf),rfl,M7,B7⟩
     |exact⟨Kj,(bO (bJ text ep (sz iM)).1 ep qZ).length,Lb,qo,qn,qc,TQ,rest.length,rc-1,dn+1,bf,rfl,M7,B7⟩
end Go.Proofs.YtfplgfodoiiobaaGreatDoor
