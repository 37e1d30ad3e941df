/- RefH, RefI, RefJ (joined). -/
import Derived.Test.YtfplgfodoiiobaaGreatDoorD07
open Option renaming none→O,some→M
open Go.Value renaming int→I,slice→Z,pointer→U
open Go.IntKind renaming i64→V
open Go.Obj renaming cells→C
open Go.Ending renaming returned→G
open Go renaming World→F,Value→Y,Calls→H
open Go.Proofs.Tryz renaming prog→K
open Go.Proofs.Tryz
namespace Go.Proofs.YtfplgfodoiiobaaGreatDoor
set_option maxHeartbeats 1000000
set_option maxRecDepth 100000
open Go.RowKit
abbrev Abp:=@List.findIdx?_eq_some_iff_getElem
abbrev AbT:=@List.findIdx?_eq_none_iff
abbrev Adb:=@List.getElem?_eq_none_iff
variable {w w1:F}{xb k i:Nat}{f f1:bS}{n:Int}{r:fC}{ao:Option Addr}
def uZ (m:dD)(depth:Nat):dD×Int:=
 match m.2.2.1 with
 | []=>(m,8)
 |e::rest=>if 4096<(bQ (bL m.1 e.1 (sz e.2.1)).1 e.1 e.2.2).length then (m,13)else ((bQ (bL m.1 e.1 (sz e.2.1)).1 e.1 e.2.2,(e::m.2.1).take depth,rest,m.2.2.2.1+1,m.2.2.2.2),0)
theorem GK {m:dD}{a b c most:Int}{depth:Nat}(hm:dZ w r m)(ok:okM m)(hd:depth<=100)(yG:∀e rest,m.2.2.1=e::rest->Bw (sz m.1) e.1 e.2.1 e.2.2):
 H K 162 #[r.v,I V 82,I V a,I V b,I V c,I V most,I V (depth:Int)] w fun e w'=>
  ∃r',e=G (.tuple #[fC.v r',I V (uZ m depth).2])/\dZ w' r' (uZ m depth).1/\Below w.heap.size w w':=by
 have HM:Hid (dZ w r m):=hm;obtain⟨m1,m2,m3,m4,m5⟩:=hm;obtain⟨⟨po,tl,tc⟩,⟨uo,ul,uc⟩,⟨ro,rl,rc⟩,dn,bf⟩:=r;obtain⟨text,jA,jO,Wp,Gf⟩:=m;simp only at m1 m2 m3 m4 m5 yG;subst m4 m5;obtain⟨o1,o2,o3,o4,o5,o6,o7,o8⟩:=ok;simp only at o1 o2 o3 o4 o5 o6 o7 o8;obtain⟨t1,t2,t3⟩:=m1;simp only at t1 t2 t3;subst t2;have bs:=lW o1;simp only[fC.v,bS.v];cases jO with
 |nil=>
  have Il:rl=0:=by obtain⟨raw,-,h2,-,h4,-⟩:=m3;simp at h2 h4;rw[h2,h4];rfl
  subst Il;have HE:Hid (uZ (text,jA,[],dn,bf) depth=((text,jA,[],dn,bf),8)):=rfl;go_enter func162,ntmps162;go_wp2_with fail;refine(fO (l:=text) (t1.1.below (aQ (aP _ _) (aP _ _))) rfl o1 (by omega)).mono ?_;rintro e w1 ⟨rfl,rfl⟩;go_wp2_with fail;have B3:=(three w (C #[Z po text.length tc,Z uo ul uc,Z ro 0 rc,I V dn,I V bf] 187) (C #[Z po text.length tc,Z uo ul uc,Z ro 0 rc,I V dn,I V bf] 187) (C #[Z po text.length tc,Z uo ul uc,Z ro 0 rc,I V dn,I V bf] 187)).2.2.2.2;refine Aan (v:= .tuple #[.agg #[Z po text.length tc,Z uo ul uc,Z ro 0 rc,I V dn,I V bf],I V 8]) (by simp[results,results162,go_sem]) rfl ?_;rw[HE.out];exact⟨((po,text.length,tc),(uo,ul,uc),(ro,0,rc),dn,bf),rfl,HM.out.aN B3,B3⟩
 |cons e rest=>
  obtain⟨f1,f2,f3,f4,f5,f6⟩:=yG e rest rfl;obtain⟨eb,fK,er,rfl,Il,-,e0,e1,e2,Ju⟩:=m3.head;have hbi:=lW f3;have hsc:=Qw o1 f1 (by omega) (by omega:sz e.2.1<=sz text-e.1);have hoc:=Kk o1 e.1 (sz e.2.1);have hlc:=GH text e.1 (sz e.2.1);have HA:Hid (4096<(bQ (bL text e.1 (sz e.2.1)).1 e.1 e.2.2).length->uZ (text,jA,e::rest,dn,bf) depth=((text,jA,e::rest,dn,bf),13)):=fun hf=>by simp only[uZ,Aad hf]
  have HB:Hid (¬4096<(bQ (bL text e.1 (sz e.2.1)).1 e.1 e.2.2).length->uZ (text,jA,e::rest,dn,bf) depth=((bQ (bL text e.1 (sz e.2.1)).1 e.1 e.2.2,(e::jA).take depth,rest,dn+1,bf),0)):=fun hf=>by simp only[uZ,Aaa hf]
  obtain⟨ep,⟨xo,xn,xc⟩,⟨yo,yn,yc⟩⟩:=er;obtain⟨epos,iR,rU⟩:=e;obtain⟨g1,⟨g2,g3,g4⟩,⟨g5,g6,g7⟩⟩:=Ju;simp only at g1 g2 g3 g4 g5 g6 g7 f1 f2 f3 f4 f5 f6 hbi hsc hoc hlc;simp only[bS.v]at e0 e1 e2;subst g1 g3 g6;have j1:(0:Int)<(rl:Int):=by omega
  have j2:¬((rl:Int)=0):=by omega
  have j3:((rl:Int)==0)=false:=by rw[Aat];exact j2
  go_enter func162,ntmps162;go_wp2_with fail;refine(fO (l:=text) (t1.1.below (aQ (aP _ _) (aP _ _))) rfl o1 (by omega)).mono ?_;rintro e w1 ⟨rfl,rfl⟩;subst Il;go_upto_region 34 with fail;obtain⟨r1,r2,r3,q4,B2⟩:=three w (bR (Z po text.length tc) (Z uo ul uc) (Z (M ⟨eb,fK,O⟩) (rest.length+1) rc) (I V dn) (I V bf)) (bR (Z O 0 0) (Z O 0 0) (Z O 0 0) (I V 0) (I V 0)) (bR (Z po text.length tc) (Z uo ul uc) (Z (M ⟨eb,fK,O⟩) (rest.length+1) rc) (I V dn) (I V bf))
  rw[show(Obj.cells #[Z po text.length tc,Z uo ul uc,Z (M ⟨eb,fK,O⟩) (rest.length+1) rc,I V dn,I V bf] 187)=bR (Z po text.length tc) (Z uo ul uc) (Z (M ⟨eb,fK,O⟩) (rest.length+1) rc) (I V dn) (I V bf) from rfl,
   show(Obj.cells #[Z O 0 0,Z O 0 0,Z O 0 0,I V 0,I V 0] 187)=bR (Z O 0 0) (Z O 0 0) (Z O 0 0) (I V 0) (I V 0) from rfl]
  generalize ((w.alloc (bR (Z po text.length tc) (Z uo ul uc) (Z (M ⟨eb,fK,O⟩) (rest.length+1) rc) (I V dn) (I V bf))).alloc (bR (Z O 0 0) (Z O 0 0) (Z O 0 0) (I V 0) (I V 0))).alloc (bR (Z po text.length tc) (Z uo ul uc) (Z (M ⟨eb,fK,O⟩) (rest.length+1) rc) (I V dn) (I V bf))=w2 at*;obtain⟨x0,x1,x2,x3,x4,-⟩:=aW r1;have n1:w.heap.size≠w.heap.size+1+1:=by omega
  have n2:w.heap.size+1≠w.heap.size+1+1:=by omega
  have Sv:=AaB B2 e0;have rV:=AaB B2 e1;have Di:=AaB B2 e2;have k1:(0:Int)<(rest.length:Int)+1:=by omega
  go_upto_region 35 with fail;have jh:=Aaf w2 (C #[I V ep,Z xo iR.length xc,Z yo rU.length yc] 302);rw[q4]at jh;have Ki:=aP w2 (C #[I V ep,Z xo iR.length xc,Z yo rU.length yc] 302);have B3:=aQ B2 Ki;have s1:=bE Ki r1;have s2:=bE Ki r2;have s3:=bE Ki r3;clear Ki q4 r1 r2 r3 Sv rV Di x0 x1 x2 x3 x4 B2;generalize w2.alloc (C #[I V ep,Z xo iR.length xc,Z yo rU.length yc] 302)=w3 at*;obtain⟨x0,x1,x2,x3,x4,-⟩:=aW s1;obtain⟨Sv,rV,Di⟩:=nT jh;have Gr:=g2.below B3;have htx:=t1.below B3
  go_cut [25,26] (fun v g wc=> ∃ao ca,v=Z ao (bL text ep (sz iR)).1.length ca/\yF wc ao (bL text ep (sz iR)).1/\wN ao (bL text ep (sz iR)).1.length ca/\aL w3 wc)
  case first=>
   have ga:=aL.refl w3;clear e0 e1 e2 Di m2 m3 s1 s2 s3 jh
   go_region_held3 (fun w'=>w'.cell? ⟨w.heap.size,0,O⟩=M (Z po text.length tc)/\w'.cell? ⟨w.heap.size+1+1+1,0,O⟩=M (I V ep)/\w'.cell? ⟨w.heap.size+1+1+1,1,O⟩=M (Z xo iR.length xc)/\aL w3 w')
    (first|(refine si x0 Sv rV ?_;go_split_ands;first|assumption|(exact aL.drew (by assumption))|(exact aL.more (by assumption) (by assumption))))
    (first|(go_at_call 106;refine(fO (l:=iR) (by go_split_ands;exact Gr.1.TN (by assumption)) rfl f3 (by omega)).mono ?_;rintro e w5 ⟨rfl,rfl⟩)|(go_at_call 157;refine(BN (l:=text) (by go_split_ands;exact htx.grewT (by assumption)) rfl t3 o1 (by omega) f1 (by omega) (by omega)).mono ?_;rintro e w5 ⟨Vw,ca5,go5,gc5,rfl,Gd,Kh,hgr5,hgn5,nJ⟩))
   all_goals go_wp2_with fail
   all_goals go_meet
   all_goals exact⟨Vw,ca5,rfl,Gd,Kh,by go_split_ands;assumption⟩
  case rest=>
   obtain⟨Vw,ca5,rfl,Gd,Kh,G5⟩:=hcut
   rename F=>w5
   have u1:=bE G5 s1;have u2:=bE G5 s2;have u3:=bE G5 s3;have he5:=bE G5 jh;have B5:=aQ B3 G5;have hou:=g5.below B5;clear s1 s2 s3 jh G5 x0 x1 x2 x3 x4 Sv rV Di Gr htx B3;obtain⟨x0,x1,x2,x3,x4,-⟩:=aW u1;obtain⟨Sv,rV,Di⟩:=nT he5;go_wp2_with fail;refine(BM (l:=(bL text ep (sz iR)).1) (more:=rU) Gd rfl Kh hou rfl g7 hoc (by omega) (by omega) f1 (by omega)).mono ?_;rintro e w6 ⟨Mi,Mw,rfl,Vx,hn6,Gs⟩;have s1:=bE Gs u1;have s2:=bE Gs u2;have s3:=bE Gs u3;have he6:=bE Gs he5;have B6:=aQ B5 Gs;have t6:bH w6 (Mi,(bQ (bL text ep (sz iR)).1 ep rU).length,Mw) (bQ (bL text ep (sz iR)).1 ep rU):=⟨Vx,rfl,hn6⟩;clear u1 u2 u3 he5 Gs x0 x1 x2 x3 x4 Sv rV Di Gd Kh hou B5 Vx hn6;obtain⟨x0,x1,x2,x3,x4,-⟩:=aW s1;obtain⟨Sv,rV,Di⟩:=nT he6;obtain⟨y0,y1,y2,y3,y4,z0,z1,z2,z3,z4⟩:=aW s3;have n4:w.heap.size+1+1+1≠w.heap.size+1+1:=(by omega);have k2:(1:Int)<=(rest.length:Int)+1:=(by omega);go_upto_region 38 with fail;have v1:=dN (g:=w.heap.size+1+1) (i:=2) (v:=Z (if rc=1 then M ⟨eb,fK,O⟩else M ⟨eb,fK+3,O⟩) rest.length (rc-1)) (dN (g:=w.heap.size+1+1) (i:=0) (v:=Z Mi (bQ (bL text ep (sz iR)).1 ep rU).length Mw) s1 n1) n1;have v2:=dN (g:=w.heap.size+1+1) (i:=2) (v:=Z (if rc=1 then M ⟨eb,fK,O⟩else M ⟨eb,fK+3,O⟩) rest.length (rc-1)) (dN (g:=w.heap.size+1+1) (i:=0) (v:=Z Mi (bQ (bL text ep (sz iR)).1 ep rU).length Mw) s2 n2) n2;have s4:=nR (v:=Z Mi (bQ (bL text ep (sz iR)).1 ep rU).length Mw) s3;have v3:=mF (v:=Z (if rc=1 then M ⟨eb,fK,O⟩else M ⟨eb,fK+3,O⟩) rest.length (rc-1)) s4;have he7:=dN (g:=w.heap.size+1+1) (i:=2) (v:=Z (if rc=1 then M ⟨eb,fK,O⟩else M ⟨eb,fK+3,O⟩) rest.length (rc-1)) (dN (g:=w.heap.size+1+1) (i:=0) (v:=Z Mi (bQ (bL text ep (sz iR)).1 ep rU).length Mw) he6 n4) n4;have t7:=(t6.jI (i:=0) (v:=Z Mi (bQ (bL text ep (sz iR)).1 ep rU).length Mw) s3).jI (i:=2) (v:=Z (if rc=1 then M ⟨eb,fK,O⟩else M ⟨eb,fK+3,O⟩) rest.length (rc-1)) s4;have B7:=(B6.setCell (p:=⟨w.heap.size+1+1,0,O⟩) (by simp only;omega) (Z Mi (bQ (bL text ep (sz iR)).1 ep rU).length Mw)).setCell (p:=⟨w.heap.size+1+1,2,O⟩) (by simp only;omega) (Z (if rc=1 then M ⟨eb,fK,O⟩else M ⟨eb,fK+3,O⟩) rest.length (rc-1));have mt:=m3.tail;clear s1 s2 s3 s4 he6 t6 B6 x0 x1 x2 x3 x4 Sv rV Di y0 y1 y2 y3 y4 z0 z1 z2 z3 z4;generalize (if rc=1 then M (⟨eb,fK,O⟩:Addr)else M ⟨eb,fK+3,O⟩)=XG at*;generalize (w6.setCell ⟨w.heap.size+1+1,0,O⟩ (Z Mi (bQ (bL text ep (sz iR)).1 ep rU).length Mw)).setCell ⟨w.heap.size+1+1,2,O⟩ (Z XG rest.length (rc-1))=w7 at*;obtain⟨x0,x1,x2,x3,x4,-⟩:=aW v1;obtain⟨Sv,rV,Di⟩:=nT he7;have sj:rP w7 (ep,(xo,iR.length,xc),(yo,rU.length,yc)) (ep,iR,rU):=⟨rfl,⟨g2.below B7,rfl,g4⟩,⟨g5.below B7,rfl,g7⟩⟩;go_wp2_with fail;refine(Ae (r:=(ep,(xo,iR.length,xc),(yo,rU.length,yc))) (e:=(ep,iR,rU)) (x:=(uo,ul,uc)) (l:=jA) sj (m2.aN B7) (by omega) (by omega)).mono ?_;rintro e w8 ⟨⟨qo,qn,qc⟩,rfl,hy8,GJ⟩;simp only[bS.v];have u1:=bE GJ v1;have u2:=bE GJ v2;have u3:=bE GJ v3;have t8:=t7.aN GJ;have B8:=aQ B7 GJ;clear v1 v2 v3 he7 t7 B7 GJ x0 x1 x2 x3 x4 Sv rV Di sj;obtain⟨x0,x1,x2,x3,x4,-⟩:=aW u1;obtain⟨y0,y1,y2,y3,y4,z0,z1,z2,z3,z4⟩:=aW u3;go_upto_region 39 with fail;have v1:=dN (g:=w.heap.size+1+1) (i:=1) (v:=Z qo qn qc) u1 n1;have v2:=dN (g:=w.heap.size+1+1) (i:=1) (v:=Z qo qn qc) u2 n2;have v3:=mD (v:=Z qo qn qc) u3;have t6:=t8.jI (i:=1) (v:=Z qo qn qc) u3;have e6:=hy8.jI (i:=1) (v:=Z qo qn qc) u3;have B6:=B8.setCell (p:=⟨w.heap.size+1+1,1,O⟩) (by simp only;omega) (Z qo qn qc);clear u1 u2 u3 t8 hy8 B8 x0 x1 x2 x3 x4 y0 y1 y2 y3 y4 z0 z1 z2 z3 z4;generalize w8.setCell ⟨w.heap.size+1+1,1,O⟩ (Z qo qn qc)=w6 at*;have eU:=mt.aN B6;obtain⟨x0,x1,x2,x3,x4,-⟩:=aW v1;obtain⟨k0,k1,k2,k3,k4,l0,l1,l2,l3,l4⟩:=aW v2;obtain⟨y0,y1,y2,y3,y4,f0,f1,f2,f3,f4⟩:=aW v3;have n3:w.heap.size≠w.heap.size+1:=(by omega);by_cases hf:4096<(bQ (bL text ep (sz iR)).1 ep rU).length
   ·have hf':(4096:Int)<((bQ (bL text ep (sz iR)).1 ep rU).length:Int):=(by omega);go_wp2_with fail;obtain⟨v5,B7⟩:=Ag (T:=Z po text.length tc) (aH:=Z uo ul uc) (R:=Z (M ⟨eb,fK,O⟩) (rest.length+1) rc) (D:=I V dn) (Bf:=I V bf) (by omega) v2 B6;generalize ((((w6.setCell ⟨w.heap.size+1,0,O⟩ (Z po text.length tc)).setCell ⟨w.heap.size+1,1,O⟩ (Z uo ul uc)).setCell ⟨w.heap.size+1,2,O⟩ (Z (M ⟨eb,fK,O⟩) (rest.length+1) rc)).setCell ⟨w.heap.size+1,3,O⟩ (I V dn)).setCell ⟨w.heap.size+1,4,O⟩ (I V bf)=w7 at*;obtain⟨i0,i1,i2,i3,i4,-⟩:=aW v5;refine Aan (v:= .tuple #[.agg #[Z po text.length tc,Z uo ul uc,Z (M ⟨eb,fK,O⟩) (rest.length+1) rc,I V dn,I V bf],I V 13]) (by simp[results,results162,go_sem,i0,i1,i2,i3,i4]) rfl ?_;rw[HA.out hf];exact⟨((po,text.length,tc),(uo,ul,uc),(M ⟨eb,fK,O⟩,rest.length+1,rc),dn,bf),rfl,HM.out.aN B7,B7⟩
   ·have hf':¬(4096:Int)<((bQ (bL text ep (sz iR)).1 ep rU).length:Int):=(by omega);go_wp2_with fail;obtain⟨v5,M7,B7⟩:=Fb (ot:=w.heap.size+1+1) (rs:=w.heap.size+1) (T:=(Mi,(bQ (bL text ep (sz iR)).1 ep rU).length,Mw)) (aH:=(qo,qn,qc)) (R:=(XG,rest.length,rc-1)) (D:=dn) (D':=dn+1) (Bf:=bf) n2 (by omega) (by omega) v2 v3 t6 e6 eU B6;simp only[bS.v]at v5 M7 B7;generalize ((((((w6.setCell ⟨w.heap.size+1+1,3,O⟩ (I V (dn+1))).setCell ⟨w.heap.size+1,0,O⟩ (Z Mi (bQ (bL text ep (sz iR)).1 ep rU).length Mw)).setCell ⟨w.heap.size+1,1,O⟩ (Z qo qn qc)).setCell ⟨w.heap.size+1,2,O⟩ (Z XG rest.length (rc-1))).setCell ⟨w.heap.size+1,3,O⟩ (I V (dn+1))).setCell ⟨w.heap.size+1,4,O⟩ (I V (bf)))=w7 at*;obtain⟨i0,i1,i2,i3,i4,-⟩:=aW v5;refine Aan (v:= .tuple #[.agg #[Z Mi (bQ (bL text ep (sz iR)).1 ep rU).length Mw,Z qo qn qc,Z XG rest.length (rc-1),I V (dn+1),I V (bf)],I V 0]) (by simp[results,results162,go_sem,i0,i1,i2,i3,i4]) rfl ?_;rw[HB.out hf]
    first
     |exact⟨((Mi,(bQ (bL text ep (sz iR)).1 ep rU).length,Mw),(qo,qn,qc),(XG,rest.length,rc-1),dn+1,bf),rfl,M7,B7⟩
     |exact⟨Mi,(bQ (bL text ep (sz iR)).1 ep rU).length,Mw,qo,qn,qc,XG,rest.length,rc-1,dn+1,bf,rfl,M7,B7⟩
abbrev bC:=Int×ByteArray×Int
variable {l fs out aG:List bC}
def bC.cells (f:bC):List Y:=[I V f.1,.string f.2.1,I V f.2.2]
def Qh (l:List bC):List Y:=l.flatMap bC.cells
theorem Dj (e:bC)(l:List bC):Qh (e::l)=[I V e.1,.string e.2.1,I V e.2.2]++Qh l:=rfl
theorem Sw (a b:List bC):Qh (a++b)=Qh a++Qh b:=by simp[Qh]
theorem Qx:∀(l:List bC) (i:Nat) (f:bC),l[i]?=M f->(Qh l)[i*3]?=M (I V f.1)/\(Qh l)[i*3+1]?=M (.string f.2.1)/\(Qh l)[i*3+2]?=M (I V f.2.2):=by
 intro l
 induction l with
 |nil=>intro i f h;simp at h
 |cons e l ih=>
  intro i f h;cases i with
  |zero=>simp at h;subst h;simp[Dj]
  |succ i=>
   have:=ih i f (by simpa using h);rw[Dj,show(i+1)*3=i*3+1+1+1 from by omega];simpa using this
def Vy (w:F)(ao:Option Addr)(l:List bC):Prop:=
 (l=[]\/∃b off,ao=M ⟨b,off,O⟩/\∀j u,(Qh l)[j]?=M u->w.cell? ⟨b,off+j,O⟩=M u)/\∀a,ao=M a->∃aS,w.heap[a.block]?=M (C aS 193 (0,0))
def tF (w:F)(B:Nat)(v:Y)(l:List bC):Prop:=w.ownsRow B 193 3 v l.length (Qh l)
theorem Vy.fr {w':F}{X:Nat->Prop}(h:Vy w ao l)(hF:Fr w w' X)(hx:∀b aS,w.heap[b]?=M (C aS 193 (0,0))->¬X b):Vy w' ao l:=by
 obtain⟨h1,h2⟩:=h;refine⟨?_,fun a e=>?_⟩
 ·rcases h1 with h1|⟨b,off,e,hc⟩
  ·exact Aac h1
  ·refine Aab ⟨b,off,e,fun j u hu=>?_⟩;obtain⟨aS,hb⟩:=h2 _ e;have qG:w'.heap[b]?=w.heap[b]?:=hF.2 b (aM hb) (hx _ _ hb);exact(AaO (a:=⟨b,off+j,O⟩) qG).trans (hc j u hu)
 ·obtain⟨aS,hb⟩:=h2 a e;exact⟨aS,hF.at hb (hx _ _ hb)⟩
theorem Vy.aN {w':F}(h:Vy w ao l)(hg:aL w w'):Vy w' ao l:=h.fr (Fr.cZ hg (fun _=>False)) (fun _ _ _=>id)
theorem Vy.nil (w:F):Vy w O []:=⟨Aac rfl,fun _ e=>by cases e⟩
theorem Vy.at (h:Vy w ao l){f:bC}(hf:l[i]?=M f):
 ∃b off,ao=M ⟨b,off,O⟩/\w.cell? ⟨b,off+i*3,O⟩=M (I V f.1)/\w.cell? ⟨b,off+i*3+1,O⟩=M (.string f.2.1)/\w.cell? ⟨b,off+i*3+2,O⟩=M (I V f.2.2):=by
 rcases h.1 with rfl|⟨b,off,e,hc⟩
 ·simp at hf
 ·obtain⟨h1,h2,h3⟩:=Qx l i f hf;exact⟨b,off,e,hc _ _ h1,by rw[Acr];exact hc _ _ h2,by rw[Acr];exact hc _ _ h3⟩
structure Sc where
 most:Int
 depth:Int
 room:Int
 jL:Bool
 after:Int
 one:Int
 rest:Int
 refusing:Bool
 left:Int
 aX:Bool
 ro:Bool
 aY:Int
variable {s:Sc}
def bO (s:Sc)(f:bS)(m:fC):Obj:=C #[I V s.most,I V s.depth,I V s.room,f.v,.bool s.jL,I V s.after,I V s.one,I V s.rest,.bool s.refusing,I V s.left,.bool s.aX,.bool s.ro,I V s.aY,
 m.1.v,m.2.1.v,m.2.2.1.v,I V m.2.2.2.1,I V m.2.2.2.2] 189 (0,0)
def jB (w:F)(x:bS)(l:List bC):Prop:=Vy w x.1 l/\x.2.1=l.length/\wN x.1 x.2.1 x.2.2
def Sy (B:Nat)(f:bS):Prop:=∀a,f.1=M a->B<=a.block
def bM (w:F)(xb:Nat)(s:Sc)(fs:List bC)(m:dD)(f:bS):Prop:=∃r:fC,w.heap[xb]?=M (bO s f r)/\jB w f fs/\dZ w r m
def kH (w w':F)(xb:Nat)(f f':bS):Prop:=Fr w w' (fun b=>b=xb\/∃a,f.1=M a/\b=a.block)/\(w'.os=w.os/\w'.tape=w.tape/\w'.output=w.output)/\(f'=f\/Sy w.heap.size f')
theorem kH.refl (w:F)(xb:Nat)(f:bS):kH w w xb f f:=⟨Fr.refl _ _,⟨rfl,rfl,rfl⟩,Aac rfl⟩
theorem kH.trans {w2:F}{f2:bS}(h1:kH w w1 xb f f1)(h2:kH w1 w2 xb f1 f2):kH w w2 xb f f2:=by
 obtain⟨⟨a1,a2⟩,⟨o1,o2,o3⟩,uP⟩:=h1;obtain⟨⟨b1,b2⟩,⟨p1,p2,p3⟩,Bt⟩:=h2;refine⟨⟨Aam a1 b1,fun b hb hn=>?_⟩,⟨p1.trans o1,p2.trans o2,p3.trans o3⟩,?_⟩
 ·rw[<-a2 b hb hn];refine b2 b (AaC hb a1) ?_;rintro(h|⟨a,e,h⟩)
  ·exact hn (Aac h)
  ·rcases uP with rfl|uP
   ·exact hn (Aab ⟨a,e,h⟩)
   ·have:=uP a e;omega
 ·rcases Bt with rfl|Bt
  ·exact uP
  ·exact Aab (fun a e=>Aam a1 (Bt a e))
theorem kH.aN {w2:F}(h1:kH w w1 xb f f1)(hg:aL w1 w2):kH w w2 xb f f1:=
 ⟨h1.1.trans (Fr.cZ hg _),⟨hg.os.trans h1.2.1.1,hg.tape.trans h1.2.1.2.1,hg.output.trans h1.2.1.2.2⟩,h1.2.2⟩
theorem kH.set {v:Y}(h1:kH w w1 xb f f1):kH w (w1.setCell ⟨xb,i,O⟩ v) xb f f1:=by
 refine⟨?_,⟨h1.2.1.1,h1.2.1.2.1,h1.2.1.2.2⟩,h1.2.2⟩;obtain⟨a1,a2⟩:=h1.1;obtain⟨b1,b2⟩:=Fr.set w1 ⟨xb,i,O⟩ v;exact⟨Aam a1 b1,fun b hb hn=>(b2 b (AaC hb a1) (fun e=>hn (Aac e))).trans (a2 b hb hn)⟩
theorem kH.row {f2:bS}(h1:kH w w1 xb f f1)(h2:Sy w.heap.size f2):kH w w1 xb f f2:=⟨h1.1,h1.2.1,Aab h2⟩
theorem jR (h:w.heap[xb]?=M (bO s f r)):w.cell? ⟨xb,3,O⟩=M f.v:=by simp[World.cell?,h,bO]
def qX (l:List bC)(n:Int):Option Nat:=l.findIdx? (fun f=>f.1==n)
def yH (l:List bC)(n:Int):Int:=match qX l n with
 |some i=>(i:Int)
 |none=> -1
theorem su {f:bC}(h:l[k]?=M f)(hf:f.1=n)(Pf:∀j f,j<k->l[j]?=M f->¬f.1=n):yH l n=(k:Int):=by
 have bP:=(Aae.1 h).1
 have e:qX l n=M k:=by
  unfold qX;rw[Abp];refine⟨bP,?_,fun j hj=>?_⟩
  ·have:=(Aae.1 h).2;rw[this];simp[hf]
  ·have:=Pf j l[j] hj (Aag (by omega));simpa using this
 unfold yH;rw[e]
theorem posI_no (Pf:∀(j:Nat) (f:bC),l[j]?=M f->¬f.1=n):yH l n= -1:=by
 have e:qX l n=O:=by
  unfold qX;rw[AbT];intro f hf;obtain⟨j,hj,rfl⟩:=Abh hf;have:=Pf j l[j] (Aag hj);simpa using this
 unfold yH;rw[e]
theorem BO (h:w.heap[xb]?=M (bO s f r))(hf:jB w f fs)(hl:fs.length<=1000000):
 H K 222 #[U (M ⟨xb,0,O⟩),I V n] w fun e w'=>e=G (I V (yH fs n))/\w'=w:=by
 have c3:=jR h;obtain⟨fo,fl,fc⟩:=f;obtain⟨h1,h2,h3⟩:=hf;simp only at h1 h2 h3;subst h2;simp only[bS.v]at c3;clear h;go_enter func222,ntmps222;go_wp2_with fail
 go_loop [5] (fun i=> ∃k:Nat,k<=fs.length/\i=I V (k:Int)/\∀j f,j<k->fs[j]?=M f->¬f.1=n) (fun i=>fs.length-(intOf i).toNat)
 case atStart=>exact⟨0,Aap _,rfl,fun j f hj=>by omega⟩
 case round=>
  obtain⟨k,hk,rfl,Pf⟩:=hrel;have HN:Hid (∀j f,j<k->fs[j]?=M f->¬f.1=n):=Pf;clear Pf;by_cases bP:k<fs.length
  ·obtain⟨fk,XH⟩:∃f,fs[k]?=M f:=⟨_,Aag bP⟩;obtain⟨b,off,rfl,d1,d2,d3⟩:=h1.at XH;have i1:(0:Int)<=(k:Int):=(by omega);have i2:(k:Int)<(fs.length:Int):=(by omega);have HF:Hid (fs[k]?=M fk):=XH;clear XH;by_cases he:fk.1=n
   ·have Im:(fk.1==n)=true:=(by simp[he]);have HP:Hid (yH fs n=(k:Int)):=(by show _=_;exact su HF.out he HN.out);clear h1;go_wp2_with fail;go_ret;exact⟨by rw[HP.out];rfl,rfl⟩
   ·have Im:(fk.1==n)=false:=(by simp[he]);clear h1;go_wp2_with fail
    go_round
    case rel=>exact⟨k+1,by omega,by go_num,fun j f hj hf=>by
     by_cases sw:j=k
     ·subst sw;rw[HF.out]at hf;cases hf;exact he
     ·exact HN.out j f (by omega) hf⟩
    case measure=>simp[intOf];omega
  ·have HP:Hid (yH fs n= -1):=(by show _=_;exact posI_no (fun j f hf=>HN.out j f (by have:=(Aae.1 hf).1;omega) hf));clear h1;go_wp2_with fail;go_ret;exact⟨by rw[HP.out];rfl,rfl⟩
def aO (l:List bC)(n:Int):ByteArray:=match qX l n with
 |some i=>((l[i]?).getD (0,⟨#[]⟩,0)).2.1
 |none=>⟨#[]⟩
theorem BP (h:qX l n=M i):i<l.length:=by
 unfold qX at h;rw[Abp]at h;exact h.1
theorem vW (h:w.heap[xb]?=M (bO s f r))(hf:jB w f fs)(hl:fs.length<=1000000):
 H K 166 #[U (M ⟨xb,0,O⟩),I V n] w fun e w'=>e=G (.string (aO fs n))/\w'=w:=by
 have c3:=jR h;have hA:=BO (n:=n) h hf hl
 obtain⟨fo,fl,fc⟩:=f;obtain⟨h1,h2,h3⟩:=hf;simp only at h1 h2 h3;subst h2;simp only[bS.v]at c3;clear h;cases hp:qX fs n with
 |none=>
  have e1:yH fs n= -1:=by unfold yH;rw[hp]
  have HB:Hid (aO fs n=⟨#[]⟩):=by show _=_;unfold aO;rw[hp]
  rw[e1]at hA;clear hp e1;go_enter func166,ntmps166;go_wp2_with fail;refine hA.mono ?_;rintro e w ⟨rfl,rfl⟩;go_wp2_with fail;go_ret;exact⟨by rw[HB.out];rfl,rfl⟩
 |some i=>
  have bP:=BP hp;have e1:yH fs n=(i:Int):=by unfold yH;rw[hp]
  obtain⟨fi,BQ⟩:∃f,fs[i]?=M f:=⟨_,Aag bP⟩;have HB:Hid (aO fs n=fi.2.1):=by show _=_;unfold aO;rw[hp];simp only[BQ,AcJ]
  rw[e1]at hA;obtain⟨b,off,rfl,d1,d2,d3⟩:=h1.at BQ;have i1:(0:Int)<=(i:Int):=by omega
  have i2:(i:Int)<(fs.length:Int):=by omega
  have i3:¬(i:Int)<0:=by omega
  clear hp e1 BQ h1;go_enter func166,ntmps166;go_wp2_with fail;refine hA.mono ?_;rintro e w ⟨rfl,rfl⟩;go_wp2_with fail;go_ret;exact⟨by rw[HB.out];rfl,rfl⟩
theorem Ai (h:w.heap[xb]?=M (bO s f r))(hf:jB w f fs)(hl:fs.length<=1000000):
 H K 161 #[U (M ⟨xb,0,O⟩),I V n] w fun e w'=>e=G (I V ((aO fs n).size:Int))/\w'=w:=by
 have hB:=vW (n:=n) h hf hl;go_enter func161,ntmps161;go_wp2_with fail;refine hB.mono ?_;rintro e w ⟨rfl,rfl⟩;go_wp2_with fail;go_ret;exact⟨rfl,rfl⟩
theorem Tryz.infoFile:(Tryz.prog.info? 193).map (fun i=>(i.zero,i.size,i.bytes))=M (M (.agg #[I V 0,.string ⟨#[]⟩,I V 0]),3,32):=by kernel_rfl
theorem nU {ops:Array Oper}{rest:List Oper}{o:Oper}{a:Act}{Q:Exit->Act->F->Prop}(qR:o.guard=O)(s x:Operand)
 (ho:o.op= .call { callee:= .builtin .append,args:=#[s,x],argTypes:=#[184,184] })
 (base:Nat)(v:Y)(ys:List bC)(f:bC)(hs:a.eval s=v)(bD:tF w base v ys)(ad:Addr)(m c:Nat)(hx:a.eval x=Z (M ad) m c)(hm:m=1)(hr:∀j u,(Qh [f])[j]?=M u->w.cell? (ad.add j)=M u)
 (hlen:ys.length<=1000000000)(iK:base<=w.heap.size)
 (h:∀v' w',tF w' base v' (ys++ [f])->w.grownBy w' v.ownBlock->wpList K ops Q rest (a.put o.dst v') w'):wpList K ops Q (o::rest) a w:=by
 obtain⟨i0,hi,oG,nM,oP⟩:=AaW Tryz.infoFile;subst hm;refine AbG w qR s x 184 ho base 193 i0 (.agg #[I V 0,.string ⟨#[]⟩,I V 0]) 3 32 underlying184 hi oG nM oP rfl (by decide) v ys.length (Qh ys) hs bD ad 1 c (Qh [f]) hx rfl hr ?_ (by unfold maxLen;omega) (by omega) iK ?_
 ·intro u hu;obtain⟨p,-,hp⟩:=AbX.1 hu;simp[bC.cells]at hp;rcases hp with rfl|rfl|rfl<;>rfl
 ·intro v' w' h1 h2 _;refine h v' w' ?_ h2;unfold tF;rw[Sw,Aah];exact h1
theorem TP:∀(l:List bC) (k:Nat) (f:bC),k<l.length->(((Qh l).set (k*3) (I V f.1)).set (k*3+1) (.string f.2.1)).set (k*3+2) (I V f.2.2)=Qh (l.set k f):=by
 intro l
 induction l with
 |nil=>intro k f h;simp at h
 |cons p l ih=>
  intro k f h;cases k with
  |zero=>simp[Dj]
  |succ k=>
   have:=ih k f (by simpa using h);rw[Dj,show(k+1)*3=k*3+1+1+1 from by omega];simp only[Acw,Acf,Aar];rw[Dj,this];rfl
theorem tF.store {B g n cap:Nat}(f:bC)(h:tF w B (Z (M ⟨g,0,O⟩) n cap) l)(hk:k<l.length):
 tF (((w.setCell ⟨g,k*3,O⟩ (I V f.1)).setCell ⟨g,k*3+1,O⟩ (.string f.2.1)).setCell ⟨g,k*3+2,O⟩ (I V f.2.2)) B (Z (M ⟨g,0,O⟩) n cap) (l.set k f):=by
 have hn:n=l.length:=by
  rcases h.2 with⟨h',-⟩|⟨g',nH,aS,h',-⟩
  ·cases h'
  ·cases h';rfl
 subst hn;have h1:=(AbZ h (k*3) (I V f.1)).1;have h2:=(AbZ h1 (k*3+1) (.string f.2.1)).1;have h3:=(AbZ h2 (k*3+2) (I V f.2.2)).1;unfold tF;rw[<-TP l k f hk,Acg];exact h3
theorem tF.at {B n cap:Nat}(h:tF w B (Z ao n cap) l){f:bC}(hf:l[k]?=M f):
 ∃g,ao=M ⟨g,0,O⟩/\n=l.length/\B<=g/\g<w.heap.size/\w.cell? ⟨g,k*3,O⟩=M (I V f.1)/\w.cell? ⟨g,k*3+1,O⟩=M (.string f.2.1)/\w.cell? ⟨g,k*3+2,O⟩=M (I V f.2.2)/\∀j,w.frozen? ⟨g,j,O⟩=false:=by
 have h':=h;have bP:=(Aae.1 hf).1;rcases h.2 with⟨-,h0⟩|⟨g,nH,aS,hv,hg,hh,-⟩
 ·omega
 ·cases hv
  obtain⟨e1,e2,e3⟩:=Qx l k f hf;exact⟨g,rfl,rfl,hg,aM hh,(AbD h' (k*3) (by omega)).trans e1,(AbD h' (k*3+1) (by omega)).trans e2,(AbD h' (k*3+2) (by omega)).trans e3,fun j=>Acx h' j⟩
def pK:List bC->bC->List bC
 | [],f=> [f]
 |g::r,f=>if f.1<g.1 then g::pK r f else f::g::r
def oW (l:List bC)(f:bC):List bC:=(pK l.reverse f).reverse
def rQ (l:List bC):List bC:=l.foldl (fun out f=>if f.2.1.size=0 then out else oW out f) []
theorem Yf {f:bC}(h:l[k]?=M f):rQ (l.take (k+1))=if f.2.1.size=0 then rQ (l.take k)else oW (rQ (l.take k)) f:=by
 have bP:=(Aae.1 h).1;unfold rQ;rw[Aau bP,Adj,(Aae.1 h).2];rfl
theorem GL (l:List bC)(f:bC):(pK l f).length=l.length+1:=by
 induction l with
 |nil=>rfl
 |cons g r ih=>unfold pK;split<;>simp[ih]
theorem OQ (l:List bC)(f:bC):(oW l f).length=l.length+1:=by unfold oW;rw[List.length_reverse,GL];simp
theorem tu (l:List bC):∀k,(rQ (l.take k)).length<=k:=by
 intro k
 induction k with
 |zero=>simp[rQ]
 |succ k ih=>
  cases h:l[k]? with
  |none=>rw[Aaq (by rw[Adb]at h;omega),<-Aaq (show l.length<=k by rw[Adb]at h;exact h)];omega
  |some f=>
   rw[Yf h];split
   ·omega
   ·rw[OQ];omega
def wP (out:List bC)(f:bC)(A aG:List bC):Prop:=oW out f=(pK A.reverse f).reverse++aG
theorem wP.start (out:List bC)(f:bC):wP out f out []:=by unfold wP oW;simp
theorem wP.next {A:List bC}{f g:bC}(h:wP out f (A++ [g]) aG)(bP:f.1<g.1):wP out f A (g::aG):=by
 unfold wP at*;rw[h];simp[pK,bP]
theorem wP.stop {A:List bC}{f g:bC}(h:wP out f (A++ [g]) aG)(Kc:¬f.1<g.1):oW out f=A++ [g]++f::aG:=by
 unfold wP at h;rw[h];simp[pK,Kc]
theorem wP.stop0 {f:bC}(h:wP out f [] aG):oW out f=f::aG:=by
 unfold wP at h;rw[h];simp[pK]
end Go.Proofs.YtfplgfodoiiobaaGreatDoor
