/- DrG, DrH (joined). -/
import Derived.Test.YtfplgfodoiiobaaGreatDoorD21
open Option renaming none→O,some→M
open Go.Value renaming int→I,slice→Z,pointer→U
open Go.IntKind renaming i64→V
open Go.Obj renaming cells→C
open Go.Ending renaming returned→G
open Go renaming World→F,Value→Y,Calls→H
open Go.Proofs.Tryz renaming prog→K
open Go.Proofs.Tryz
namespace Go.Proofs.YtfplgfodoiiobaaGreatDoor
set_option maxHeartbeats 2000000
set_option maxRecDepth 100000
open Go.RowKit
abbrev AaU:=@Option.some.injEq
variable {w:F}{dp tb depth:Nat}{m:dD}{x u r:bS}{l:List Ed}{q a b c cnt dn bf:Int}{e:Ed}
theorem dR.head {xo:Option Addr}{xn xc:Nat}(h:dR w (xo,xn,xc) (e::l)):∃(b off:Nat) (r:fP),xo=M ⟨b,off,O⟩/\xn=l.length+1/\xn<=xc/\w.cell? ⟨b,off,O⟩=M (I V r.1)/\w.cell? ⟨b,off+1,O⟩=M r.2.1.v/\w.cell? ⟨b,off+2,O⟩=M r.2.2.v/\rP w r e:=by
 obtain⟨raw,h1,h2,h3,h4,h5⟩:=h;simp only at h1 h2 h3
 match raw,h4 with
 |r::raw,h4=>
  rcases h1.1 with h|⟨b,off,rfl,hc⟩
  ·cases h
  ·refine⟨b,off,r,rfl,by simp at h4;simp at h2;omega,h3.2,?_,hc 1 _ rfl,hc 2 _ rfl,h5 0 r e rfl rfl⟩;have:=hc 0 _ rfl;simpa using this
theorem dR.tail {b off xn xc:Nat}(h:dR w (M ⟨b,off,O⟩,xn,xc) (e::l)):dR w ((if xc=1 then M ⟨b,off,O⟩else M ⟨b,off+3,O⟩),l.length,xc-1) l:=by
 obtain⟨raw,h1,h2,h3,h4,h5⟩:=h;simp only at h1 h2 h3
 match raw,h4 with
 |r::raw,h4=>
  simp at h4 h2;obtain⟨c1,c2⟩:=h1;obtain⟨aS,hc⟩:=c2 _ rfl;have vV:∀o:Nat,∀a,M (⟨b,o,O⟩:Addr)=M a->∃aS,w.heap[a.block]?=M (C aS 261 (0,0)):=fun o a e=>by cases e;exact⟨aS,hc⟩
  by_cases hx:xc=1
  ·have Jt:raw=[]:=Aax (by omega);subst Jt;rw[Aad hx];have hl0:l.length=0:=(by simpa using h4.symm);exact⟨[],⟨Aac rfl,vV off⟩,hl0,⟨fun e=>(by cases e),by simp only;omega⟩,by rw[hl0];rfl,fun i r' e' a' b'=>by simp at a'⟩
  ·rw[Aaa hx];refine⟨raw,⟨?_,vV _⟩,by simp only;omega,⟨fun e=>(by cases e),by simp only;omega⟩,h4,fun i r' e' a' b'=>h5 (i+1) r' e' (by simpa using a') (by simpa using b')⟩;rcases c1 with c1|⟨b',Qf,e',XF⟩
   ·cases c1
   ·cases e'
    refine Aab ⟨b,off+3,rfl,fun j u hu=>?_⟩;have:=XF (j+3) u (by rw[wM,AaR (by simp)];simpa using hu);rwa[show off+(j+3)=off+3+j from by omega]at this
theorem dR.len (h:dR w x l):x.2.1=l.length:=by
 obtain⟨raw,-,h2,-,h4,-⟩:=h;omega
def Xa (m:dD)(a b c:Int):Int:=match m.2.1 with
 | []=>8
 |e::_=>Ci m a b c (e.1,e.2.2,e.2.1)
def Xb (m:dD)(a b c:Int):Int:=match m.2.2.1 with
 | []=>8
 |e::_=>Ci m a b c e
theorem u_:∀(args:Array Y) (w:F),(callFunc 235 args).run K w= .ok (.enter 235 args) w:=enters_of func235 (by kernel_rfl) rfl
theorem Zo:∀(args:Array Y) (w:F),(callFunc 244 args).run K w= .ok (.enter 244 args) w:=enters_of func244 (by kernel_rfl) rfl
theorem Uf:∀(args:Array Y) (w:F),(callFunc 245 args).run K w= .ok (.enter 245 args) w:=enters_of func245 (by kernel_rfl) rfl
theorem Je {most:Int}(h:aV w dp tb depth m)(hz:sz m.1<=5000)(yG:∀e rest,m.2.1=e::rest->Bw (sz m.1) e.1 e.2.2 e.2.1):
 H K 205 #[U (M ⟨dp,0,O⟩),iC q a b c,I V most] w fun e w'=>e=G (I V (Xa m a b c))/\aL w w':=by
 have HM:Hid (∀W (x y:bS) (e:Ed),aL w W->bH W x e.2.1->bH W y e.2.2->Bw (sz m.1) e.1 e.2.1 e.2.2->H K 244 #[U (M ⟨dp,0,O⟩),iC q a b c,.agg #[I V e.1,x.v,y.v]] W fun r w'=>r=G (I V (Ci m a b c e))/\aL W w'):=fun W x y e hW hx hy hf=>Ue (h.aN hW) hx hy hf hz;obtain⟨u,r,hb,ht,hu,hr⟩:=h;obtain⟨-,-,-,d3,-⟩:=bZ hb;have G1:Hid (aL w (w.alloc (C #[I .u8 q,I V a,I V b,I V c] 99))):=(aL.refl w).alloc _;obtain⟨text,jA,jO,dn,bf⟩:=m;obtain⟨u1,u2,u3⟩:=u;simp only at*;clear hb ht hr;cases jA with
 |nil=>
  have Il:u2=0:=hu.len;subst Il;have HE:Hid (Xa (text,[],jO,dn,bf) a b c=8):=rfl;unfold iC;clear hu HM yG;simp only[bS.v]at d3;have d3':=G1.out.cell d3;generalize Xa (text,[],jO,dn,bf) a b c=R at*;go_enter func205,ntmps205;go_wp2_with fail;go_ret;rw[HE.out];exact⟨rfl,G1.out⟩
 |cons e rest=>
  obtain⟨eb,fK,er,rfl,Il,iI,e0,e1,e2,Ju⟩:=hu.head;have hf:=yG e rest rfl;have HE:Hid (Xa (text,e::rest,jO,dn,bf) a b c=Ci (text,e::rest,jO,dn,bf) a b c (e.1,e.2.2,e.2.1)):=rfl;have HT:Hid (∀W,aL w W->H K 235 #[.agg #[I V er.1,er.2.1.v,er.2.2.v]] W fun e w'=>e=G (.agg #[I V er.1,er.2.2.v,er.2.1.v])/\aL W w'):=fun W hW=>Nr
  have HC:Hid (∀W,aL w W->H K 244 #[U (M ⟨dp,0,O⟩),iC q a b c,.agg #[I V er.1,er.2.2.v,er.2.1.v]] W fun r w'=>r=G (I V (Ci (text,e::rest,jO,dn,bf) a b c (e.1,e.2.2,e.2.1)))/\aL W w'):=fun W hW=>by
   rw[Ju.1];exact HM.out W er.2.2 er.2.1 (e.1,e.2.2,e.2.1) hW (Ju.2.2.aN hW) (Ju.2.1.aN hW) hf
  clear HM hu Ju hf yG;generalize Xa (text,e::rest,jO,dn,bf) a b c=R at*;generalize Ci (text,e::rest,jO,dn,bf) a b c (e.1,e.2.2,e.2.1)=R' at*;obtain⟨ep,⟨xo,xn,xc⟩,⟨yo,yn,yc⟩⟩:=er;subst Il;unfold iC at*;simp only[bS.v]at*;have j3:(((rest.length+1:Nat):Int)==0)=false:=by rw[Aat];omega
  have j1:(0:Int)<((rest.length+1:Nat):Int):=by omega
  obtain⟨w1,iY⟩:∃w1,w1=w.alloc (C #[I .u8 q,I V a,I V b,I V c] 99):=⟨_,rfl⟩;have dY:w1.heap[w.heap.size]?=M (C #[I .u8 q,I V a,I V b,I V c] 99 (0,0)):=by rw[iY];exact Aaf w _
  have k0:w1.cell? ⟨w.heap.size,0,O⟩=M (I .u8 q):=by simp[World.cell?,dY]
  have k1:w1.cell? ⟨w.heap.size,1,O⟩=M (I V a):=by simp[World.cell?,dY]
  have k2:w1.cell? ⟨w.heap.size,2,O⟩=M (I V b):=by simp[World.cell?,dY]
  have k3:w1.cell? ⟨w.heap.size,3,O⟩=M (I V c):=by simp[World.cell?,dY]
  rw[<-iY]at G1;have d3':=G1.out.cell d3;have Sv:=G1.out.cell e0;have rV:=G1.out.cell e1;have Di:=G1.out.cell e2;clear dY d3 e0 e1 e2;go_enter func205,ntmps205;go_upto_region 1 with fail;rw[<-iY];clear iY;go_upto_region 3 with fail
  go_region_law (first|(refine cB (by rfl) 235 _ _ (by rfl) _ (by simp[Act.eval];done) u_ ((HT.out _ (by repeat (first|exact G1.out|refine aL.drew ?_))).mono ?_);rintro e w7 ⟨rfl,oH⟩;refine⟨_,rfl,?_⟩;have k07:=oH.cell (show _=M (I .u8 q) from k0);have k17:=oH.cell (show _=M (I V a) from k1);have k27:=oH.cell (show _=M (I V b) from k2);have k37:=oH.cell (show _=M (I V c) from k3))|(refine cB (by rfl) 244 _ _ (by rfl) _ (by simp[Act.eval];done) Zo ((HC.out _ (by repeat (first|exact G1.out|refine aL.drew ?_|refine aL.then ?_ oH))).mono ?_);rintro e w8 ⟨rfl,JJ⟩;refine⟨_,rfl,?_⟩))
  all_goals go_wp2_with fail
  all_goals go_ret
  all_goals rw[HE.out]
  all_goals exact⟨rfl,(by refine aL.then ?_ JJ;repeat (first|exact G1.out|refine aL.drew ?_|refine aL.then ?_ oH))⟩
theorem Jf {most:Int}(h:aV w dp tb depth m)(hz:sz m.1<=5000)(yG:∀e rest,m.2.2.1=e::rest->Bw (sz m.1) e.1 e.2.1 e.2.2):
 H K 207 #[U (M ⟨dp,0,O⟩),iC q a b c,I V most] w fun e w'=>e=G (I V (Xb m a b c))/\aL w w':=by
 have HM:Hid (∀W (x y:bS) (e:Ed),aL w W->bH W x e.2.1->bH W y e.2.2->Bw (sz m.1) e.1 e.2.1 e.2.2->H K 244 #[U (M ⟨dp,0,O⟩),iC q a b c,.agg #[I V e.1,x.v,y.v]] W fun r w'=>r=G (I V (Ci m a b c e))/\aL W w'):=fun W x y e hW hx hy hf=>Ue (h.aN hW) hx hy hf hz;obtain⟨r,u,hb,ht,hr,hu⟩:=h;obtain⟨-,-,-,-,d3,-⟩:=bZ hb;have G1:Hid (aL w (w.alloc (C #[I .u8 q,I V a,I V b,I V c] 99))):=(aL.refl w).alloc _;obtain⟨text,jA,jO,dn,bf⟩:=m;obtain⟨u1,u2,u3⟩:=u;simp only at*;clear hb ht hr;cases jO with
 |nil=>
  have Il:u2=0:=hu.len;subst Il;have HE:Hid (Xb (text,jA,[],dn,bf) a b c=8):=rfl;unfold iC;clear hu HM yG;simp only[bS.v]at d3;have d3':=G1.out.cell d3;generalize Xb (text,jA,[],dn,bf) a b c=R at*;go_enter func207,ntmps207;go_wp2_with fail;go_ret;rw[HE.out];exact⟨rfl,G1.out⟩
 |cons e rest=>
  obtain⟨eb,fK,er,rfl,Il,iI,e0,e1,e2,Ju⟩:=hu.head;have hf:=yG e rest rfl;have HE:Hid (Xb (text,jA,e::rest,dn,bf) a b c=Ci (text,jA,e::rest,dn,bf) a b c e):=rfl
  have HC:Hid (∀W,aL w W->H K 244 #[U (M ⟨dp,0,O⟩),iC q a b c,.agg #[I V er.1,er.2.1.v,er.2.2.v]] W fun r w'=>r=G (I V (Ci (text,jA,e::rest,dn,bf) a b c e))/\aL W w'):=fun W hW=>by
   rw[Ju.1];exact HM.out W er.2.1 er.2.2 e hW (Ju.2.1.aN hW) (Ju.2.2.aN hW) hf
  clear HM hu Ju hf yG;generalize Xb (text,jA,e::rest,dn,bf) a b c=R at*;generalize Ci (text,jA,e::rest,dn,bf) a b c e=R' at*;obtain⟨ep,⟨xo,xn,xc⟩,⟨yo,yn,yc⟩⟩:=er;subst Il;unfold iC at*;simp only[bS.v]at*;have j3:(((rest.length+1:Nat):Int)==0)=false:=by rw[Aat];omega
  have j1:(0:Int)<((rest.length+1:Nat):Int):=by omega
  obtain⟨w1,iY⟩:∃w1,w1=w.alloc (C #[I .u8 q,I V a,I V b,I V c] 99):=⟨_,rfl⟩;have dY:w1.heap[w.heap.size]?=M (C #[I .u8 q,I V a,I V b,I V c] 99 (0,0)):=by rw[iY];exact Aaf w _
  have k0:w1.cell? ⟨w.heap.size,0,O⟩=M (I .u8 q):=by simp[World.cell?,dY]
  have k1:w1.cell? ⟨w.heap.size,1,O⟩=M (I V a):=by simp[World.cell?,dY]
  have k2:w1.cell? ⟨w.heap.size,2,O⟩=M (I V b):=by simp[World.cell?,dY]
  have k3:w1.cell? ⟨w.heap.size,3,O⟩=M (I V c):=by simp[World.cell?,dY]
  rw[<-iY]at G1;have d3':=G1.out.cell d3;have Sv:=G1.out.cell e0;have rV:=G1.out.cell e1;have Di:=G1.out.cell e2;clear dY d3 e0 e1 e2;go_enter func207,ntmps207;go_upto_region 1 with fail;rw[<-iY];clear iY;go_upto_region 3 with fail
  go_region_law (first|(refine cB (by rfl) 244 _ _ (by rfl) _ (by simp[Act.eval];done) Zo ((HC.out _ (by repeat (first|exact G1.out|refine aL.drew ?_))).mono ?_);rintro e w8 ⟨rfl,JJ⟩;refine⟨_,rfl,?_⟩))
  all_goals go_wp2_with fail
  all_goals go_ret
  all_goals rw[HE.out]
  all_goals exact⟨rfl,(by refine aL.then ?_ JJ;repeat (first|exact G1.out|refine aL.drew ?_))⟩
theorem qL {depth:Int}(hb:w.heap[dp]?=M (pW depth tb cnt u r dn bf)):
 (∀x:bS,(w.setCell ⟨dp,3,O⟩ x.v).heap[dp]?=M (pW depth tb cnt x r dn bf))/\(∀x:bS,(w.setCell ⟨dp,4,O⟩ x.v).heap[dp]?=M (pW depth tb cnt u x dn bf))/\(∀n,(w.setCell ⟨dp,5,O⟩ (I V n)).heap[dp]?=M (pW depth tb cnt u r n bf))/\(∀n,(w.setCell ⟨dp,6,O⟩ (I V n)).heap[dp]?=M (pW depth tb cnt u r dn n)):=
 ⟨fun x=>by rw[Aaj w dp 3 _ _ _ hb];rfl,fun x=>by rw[Aaj w dp 4 _ _ _ hb];rfl,fun x=>by rw[Aaj w dp 5 _ _ _ hb];rfl,fun x=>by rw[Aaj w dp 6 _ _ _ hb];rfl⟩
theorem xB {i:Nat}{v:Y}{depth:Int}(hb:w.heap[dp]?=M (pW depth tb cnt u r dn bf)):
 (∀l,dG w tb l->dG (w.setCell ⟨dp,i,O⟩ v) tb l)/\(∀x l,bH w x l->bH (w.setCell ⟨dp,i,O⟩ v) x l)/\(∀x l,dR w x l->dR (w.setCell ⟨dp,i,O⟩ v) x l):=by
 have hF:=Fr.set w ⟨dp,i,O⟩ v;refine⟨fun l ht=>?_,fun x l hx=>hx.fr hF (fun b aS hn=>aZ hn hb (by decide)),fun x l hx=>hx.fr hF (fun b aS hn=>aZ hn hb (by decide)) (fun b aS hn=>aZ hn hb (by decide))⟩;obtain⟨tc,htc⟩:=ht.ty;exact ht.fr hF (aZ htc hb (by decide)) (fun b la ra p h l hn=>aZ hn hb (by decide))
theorem aV.put {i:Nat}{v:Y}{Wp Gf:Int}{u' r':bS}{l:List (Int×Int)}{ul rl:List Ed}(hb:w.heap[dp]?=M (pW (depth:Int) tb cnt u r dn bf))(hs:(w.setCell ⟨dp,i,O⟩ v).heap[dp]?=M (pW (depth:Int) tb (l.length:Int) u' r' Wp Gf))(ht:dG w tb l)(hu:dR w u' ul)(hr:dR w r' rl):aV (w.setCell ⟨dp,i,O⟩ v) dp tb depth (l,ul,rl,Wp,Gf):=by
 obtain⟨k1,k2,k3⟩:=xB (i:=i) (v:=v) hb;exact⟨u',r',hs,k1 _ ht,k3 _ _ hu,k3 _ _ hr⟩
theorem Pv {p:Int}{y:bS}(h:aV w dp tb depth m)(he:rP w (p,x,y) e)(hl:m.2.1.length<=100000)(hd:depth<=1000000):
 H K 242 #[U (M ⟨dp,0,O⟩),.agg #[I V p,x.v,y.v]] w fun q w'=>q=G (.tuple #[])/\aV w' dp tb depth (m.1,(e::m.2.1).take depth,[],m.2.2.2.1,m.2.2.2.2)/\Dk w w' (TX dp tb) (TX dp tb):=by
 obtain⟨u,r,hb,ht,hu,hr⟩:=h
 have HP:Hid (∀W,aL w W->H K 245 #[.agg #[I V p,x.v,y.v],u.v,I V (depth:Int)] W fun q w'=> ∃y1 y2 y3,q=G (Z y1 y2 y3)/\w'.cell? ⟨dp,3,O⟩=M u.v/\w'.cell? ⟨dp,4,O⟩=M r.v/\w'.frozen? ⟨dp,3,O⟩=false/\w'.frozen? ⟨dp,4,O⟩=false/\aV ((w'.setCell ⟨dp,3,O⟩ (Z y1 y2 y3)).setCell ⟨dp,4,O⟩ (Z O 0 0)) dp tb depth (m.1,(e::m.2.1).take depth,[],m.2.2.2.1,m.2.2.2.2)/\Dk w ((w'.setCell ⟨dp,3,O⟩ (Z y1 y2 y3)).setCell ⟨dp,4,O⟩ (Z O 0 0)) (TX dp tb) (TX dp tb)):=fun W hW=>by
  refine(Jb (r:=(p,x,y)) (he.aN hW) (hu.aN hW) hl hd).mono ?_;rintro q w' ⟨⟨y1,y2,y3⟩,rfl,hE,hg⟩;have uN:=hW.then hg;have qG:=(uN.block _ (aM hb)).trans hb;obtain⟨-,-,-,d3,d4,-,-,df⟩:=bZ qG;have hs:=(qL qG).1 (y1,y2,y3);obtain⟨k1,k2,k3⟩:=xB (i:=3) (v:=bS.v (y1,y2,y3)) qG;refine⟨y1,y2,y3,rfl,d3,d4,df 3,df 4,?_,((Dk.bX uN).set (Aac rfl)).set (Aac rfl)⟩;exact aV.put hs ((qL hs).2.1 (O,0,0)) (k1 _ (ht.below uN)) (k3 _ _ hE) (dR.nil _)
 obtain⟨d0,-,-,d3,-⟩:=bZ hb;obtain⟨w1,iY⟩:∃w1,w1=w.alloc (C #[I V p,x.v,y.v] 261):=⟨_,rfl⟩;have dY:w1.heap[w.heap.size]?=M (C #[I V p,x.v,y.v] 261 (0,0)):=by rw[iY];exact Aaf w _
 have k0:w1.cell? ⟨w.heap.size,0,O⟩=M (I V p):=by simp[World.cell?,dY]
 have k1:w1.cell? ⟨w.heap.size,1,O⟩=M x.v:=by simp[World.cell?,dY]
 have k2:w1.cell? ⟨w.heap.size,2,O⟩=M y.v:=by simp[World.cell?,dY]
 have G1:Hid (aL w w1):=by show aL _ _;rw[iY];exact(aL.refl w).alloc _
 have d0':=G1.out.cell d0;have d3':=G1.out.cell d3;obtain⟨x1,x2,x3⟩:=x;obtain⟨y1,y2,y3⟩:=y;obtain⟨u1,u2,u3⟩:=u;obtain⟨r1,r2,r3⟩:=r;simp only[bS.v]at*;clear hb ht hu hr he d0 d3 dY;go_enter func242,ntmps242;go_upto_region 1 with fail;rw[<-iY];clear iY
 go_region_law ((refine cB (by rfl) 245 _ _ (by rfl) _ (by simp[Act.eval];done) Uf ((HP.out _ (by repeat (first|exact G1.out|refine aL.drew ?_))).mono ?_);rintro q w7 ⟨z1,z2,z3,rfl,c3,c4,f3,f4,hD,hK⟩;refine⟨_,rfl,?_⟩))
 all_goals go_wp2
 all_goals go_end0
 all_goals exact⟨rfl,hD,hK⟩
theorem aV.lt (h:aV w dp tb depth m):dp<w.heap.size/\tb<w.heap.size:=by
 obtain⟨u,r,hb,ht,-⟩:=h;exact⟨aM hb,ht.lt⟩
theorem iM {g:Nat}{a b c:Y}(h:w.heap[g]?=M (C #[a,b,c] 261 (0,0))):w.cell? ⟨g,0,O⟩=M a/\w.cell? ⟨g,1,O⟩=M b/\w.cell? ⟨g,2,O⟩=M c/\∀j,w.frozen? ⟨g,j,O⟩=false:=by
 simp[World.cell?,World.frozen?,h]
theorem dR.jq {w':F}{X:Nat->Prop}(h:dR w x l)(hF:Fr w w' X)(hx:∀b aS,w.heap[b]?=M (C aS 114 (0,0))->¬X b)(hy:∀a,x.1=M a->¬X a.block):dR w' x l:=by
 obtain⟨raw,⟨h1,Mr⟩,h2,h3,h4,h5⟩:=h;refine⟨raw,⟨?_,fun a e=>?_⟩,h2,h3,h4,fun i r e a b=>⟨(h5 i r e a b).1,(h5 i r e a b).2.1.fr hF hx,(h5 i r e a b).2.2.fr hF hx⟩⟩
 ·rcases h1 with h1|⟨b,off,e,hc⟩
  ·exact Aac h1
  ·refine Aab ⟨b,off,e,fun j u hu=>?_⟩;obtain⟨aS,hb⟩:=Mr _ e;exact(AaO (a:=⟨b,off+j,O⟩) (hF.2 b (aM hb) (hy _ e))).trans (hc j u hu)
 ·obtain⟨aS,hb⟩:=Mr a e;exact⟨aS,hF.at hb (hy _ e)⟩
theorem dR.lt (h:dR w x l){a:Addr}(e:x.1=M a):a.block<w.heap.size:=by
 obtain⟨raw,⟨h1,Mr⟩,-⟩:=h;obtain⟨aS,hb⟩:=Mr a e;exact aM hb
theorem bS.v_inj {y:bS}(h:M x.v=M y.v):x=y:=by
 obtain⟨a,b,c⟩:=x;obtain⟨a',b',c'⟩:=y;simp only[bS.v,AaU]at h;cases h
 rfl
theorem bH.tx {w':F}{l:List (Int×Int)}(hd:aV w dp tb depth m)(h:bH w x l)(hK:Dk w w' (TX dp tb) (TX dp tb)):bH w' x l:=by
 obtain⟨u,r,hb,ht,-⟩:=hd;exact h.fr hK.1 (fun b aS hn=>tx_ty hb ht.ty hn (by decide) (by decide))
theorem v_ (h:aV w dp tb depth m)(hg:eD m depth)(hd:depth<=100)(h0:0<=a)(h1:a<=sz m.1)(uU:0<=b)(dY:b<=1000000)(hc:1<=c)(Wn:c<=200)(hr:(bQ m.1 a [(b,c)]).length<=4096):
 H K 202 #[U (M ⟨dp,0,O⟩),iC q a b c] w fun e w'=>e=G (.tuple #[])/\aV w' dp tb depth (bQ m.1 a [(b,c)],((a,[],[(b,c)])::m.2.1).take depth,[],m.2.2.2.1,m.2.2.2.2+c)/\Dk w w' (TX dp tb) (TX dp tb):=by
 have hz:=hg.long;have hf0:=hg.Dt;have Gx:=hg.Ch;have Il:=hg.Wq;have kP:eY [(b,c)]:=fun q hq=>by simp at hq;subst hq;unfold mV;simp only;omega
 have bP:=h.lt;have HI:Hid (∀W,aL w W->H K 241 #[iC q a b c] W fun e w'=> ∃yb:Nat,e=G (.agg #[I V a,Z O 0 0,Z (M ⟨yb,0,O⟩) 1 1])/\bH w' (M ⟨yb,0,O⟩,1,1) [(b,c)]/\aL W w'):=fun W hW=>Ld
 have HA:Hid (∀W (yb:Nat) (o:Obj),aL w W->bH W (M ⟨yb,0,O⟩,1,1) [(b,c)]->H K 180 #[U (M ⟨dp,0,O⟩),.agg #[I V a,Z O 0 0,Z (M ⟨yb,0,O⟩) 1 1]] (W.alloc o) fun e w'=> ∃g1 g2 g3,e=G (Z g1 g2 g3)/\aV w' dp tb depth (bQ m.1 a [(b,c)],m.2)/\bH w' (M ⟨yb,0,O⟩,1,1) [(b,c)]/\Dk w w' (TX dp tb) (TX dp tb)/\w'.heap[W.heap.size]?=M o):=fun W yb o hW hy=>by
  have gA:=(aL.refl W).alloc o;have hD:=h.aN (hW.then gA);have:=zL (p:=a) hD (vJ (W.alloc o)) (hy.aN gA) (fun q hq=>by simp at hq) (by simp) kP (fun q hq=>by simp at hq;subst hq;simp only;omega) (by simp) h0 (by simp[sz];omega) (by omega) (by simpa[bL,sz]using hr);refine this.mono ?_;rintro e w' ⟨⟨g1,g2,g3⟩,rfl,hL,hD',hK,-⟩;refine⟨g1,g2,g3,rfl,by simpa[bL,sz]using hD',(hy.aN gA).tx hD hK,(Dk.bX (hW.then gA)).trans hK,?_⟩;have:=h.lt;have h2:=hW.le;exact hK.1.at (Aaf W o) (by rintro(e|e)<;>omega)
 have HR:Hid (∀W W5 (yb:Nat),aV W dp tb depth (bQ m.1 a [(b,c)],m.2)->bH W (M ⟨yb,0,O⟩,1,1) [(b,c)]->Dk w W (TX dp tb) (TX dp tb)->aL W W5->H K 242 #[U (M ⟨dp,0,O⟩),.agg #[I V a,Z O 0 0,Z (M ⟨yb,0,O⟩) 1 1]] (W5.setCell ⟨dp,6,O⟩ (I V (m.2.2.2.2+c))) fun e w'=>e=G (.tuple #[])/\aV w' dp tb depth (bQ m.1 a [(b,c)],((a,[],[(b,c)])::m.2.1).take depth,[],m.2.2.2.1,m.2.2.2.2+c)/\Dk w w' (TX dp tb) (TX dp tb)):=fun W W5 yb hD hy hK hG=>by
  obtain⟨u,r,hb,ht,hu,hr⟩:=hD.aN hG;have hD6:=aV.put hb ((qL hb).2.2.2 (m.2.2.2.2+c)) ht hu hr;have CO:=(xB (i:=6) (v:=I V (m.2.2.2.2+c)) hb).2.1 _ _ (hy.aN hG);have:=Pv (p:=a) (x:=(O,0,0)) (y:=(M ⟨yb,0,O⟩,1,1)) (e:=(a,[],[(b,c)])) hD6 ⟨rfl,vJ _,CO⟩ (by simp only;omega) (by omega);refine this.mono ?_;rintro e w' ⟨rfl,h1,h2⟩;exact⟨rfl,h1,(hK.trans ((Dk.bX hG).set (Aac rfl))).trans h2⟩
 have HB:Hid (∀W (yb:Nat),bH W (M ⟨yb,0,O⟩,1,1) [(b,c)]->H K 187 #[bS.v (M ⟨yb,0,O⟩,1,1)] W fun e w'=>e=G (I V c)/\aL W w'):=fun W yb hy=>by
  have:=vZ hy kP (by simp);simpa[sz]using this
 have HC:Hid (∀W,aV W dp tb depth (bQ m.1 a [(b,c)],m.2)->W.cell? ⟨dp,6,O⟩=M (I V m.2.2.2.2)/\W.frozen? ⟨dp,6,O⟩=false):=fun W hD=>by
  obtain⟨u,r,hb,-⟩:=hD;obtain⟨-,-,-,-,-,-,d6,df⟩:=bZ hb;exact⟨d6,df 6⟩
 have TY:IntKind.i64.wrap (m.2.2.2.2+c)=m.2.2.2.2+c:=by rw[AaE];omega
 unfold iC at*;simp only[bS.v]at HB;clear h hg kP;go_enter func202,ntmps202;go_upto_region 3 with(first|(go_at_call 241;refine(HI.out _ ((aL.refl w).alloc _)).mono ?_;rintro e w2 ⟨yb,rfl,hy2,kR⟩)|(go_at_call 180;refine(HA.out w2 yb _ (((aL.refl w).alloc _).then kR) hy2).mono ?_;rintro e w4 ⟨g1,g2,g3,rfl,FC,hy4,hK4,Ca⟩));obtain⟨k0,k1,k2,-⟩:=iM Ca;obtain⟨d6,f6⟩:=HC.out w4 FC;have hne:dp≠w2.heap.size:=by have:=(((aL.refl w).alloc (C #[I .u8 q,I V a,I V b,I V c] 99)).then kR).le;omega
 have YP:Hid (aV w4 dp tb depth (bQ m.1 a [(b,c)],m.2)):=FC;have HY4:Hid (bH w4 (M ⟨yb,0,O⟩,1,1) [(b,c)]):=hy4;have HK4:Hid _:=hK4;clear Ca FC hy4 hK4
 go_region_law ((refine cB (by rfl) 187 _ _ (by rfl) _ (by simp[Act.eval];done) UU ((HB.out _ yb (HY4.out.aN (by repeat (first|exact aL.refl _|refine aL.drew ?_)))).mono ?_);rintro q w7 ⟨rfl,oH⟩;refine⟨_,rfl,?_⟩;have k07:=oH.cell (show _=M (I V a) from k0);have k17:=oH.cell (show _=M (Z O 0 0) from k1);have k27:=oH.cell (show _=M (Z (M ⟨yb,0,O⟩) 1 1) from k2);have d67:=oH.cell (show _=M (I V m.2.2.2.2) from d6);have f67:=(HC.out w7 (YP.out.aN (aL.then (by repeat (first|exact aL.refl _|refine aL.drew ?_)) oH))).2))
 all_goals go_wp2_with (first|(go_at_call 242;refine(HR.out w4 w7 yb YP.out HY4.out HK4.out (aL.then (by repeat (first|exact aL.refl _|refine aL.drew ?_)) oH)).mono ?_;rintro e w8 ⟨rfl,hD8,hK8⟩))
 all_goals go_end0
 all_goals exact⟨rfl,hD8,hK8⟩
theorem w_ (h:aV w dp tb depth m)(hg:eD m depth)(hd:depth<=100)(h0:0<=a)(hb:1<=b)(h1:a+b<=sz m.1)(hr:(bL m.1 a b).1.length<=4096):
 H K 204 #[U (M ⟨dp,0,O⟩),iC q a b c] w fun e w'=>e=G (.tuple #[])/\aV w' dp tb depth ((bL m.1 a b).1,((a,(bL m.1 a b).2,[])::m.2.1).take depth,[],m.2.2.2.1,m.2.2.2.2)/\Dk w w' (TX dp tb) (TX dp tb):=by
 have hz:=hg.long;have Il:=hg.Wq;have kP:eY [(0,b)]:=fun q hq=>by simp at hq;subst hq;unfold mV;simp only;omega
 have bP:=h.lt;have HI:Hid (∀W,aL w W->H K 243 #[iC q a b c] W fun e w'=> ∃yb:Nat,e=G (.agg #[I V a,Z (M ⟨yb,0,O⟩) 1 1,Z O 0 0])/\bH w' (M ⟨yb,0,O⟩,1,1) [(0,b)]/\aL W w'):=fun W hW=>Pt
 have HA:Hid (∀W (yb:Nat) (o:Obj),aL w W->bH W (M ⟨yb,0,O⟩,1,1) [(0,b)]->H K 180 #[U (M ⟨dp,0,O⟩),.agg #[I V a,Z (M ⟨yb,0,O⟩) 1 1,Z O 0 0]] (W.alloc o) fun e w'=> ∃g1 g2 g3,e=G (Z g1 g2 g3)/\aV w' dp tb depth ((bL m.1 a b).1,m.2)/\bH w' (g1,g2,g3) (bL m.1 a b).2/\Dk w w' (TX dp tb) (TX dp tb)/\w'.heap[W.heap.size]?=M o/\w.heap.size<=W.heap.size/\(w'.cell? ⟨dp,3,O⟩=w.cell? ⟨dp,3,O⟩/\w'.cell? ⟨dp,4,O⟩=w.cell? ⟨dp,4,O⟩)):=fun W yb o hW hy=>by
  have gA:=(aL.refl W).alloc o;have hD:=h.aN (hW.then gA);have:=zL (p:=a) hD (hy.aN gA) (vJ (W.alloc o)) kP (by simp) (fun q hq=>by simp at hq) (fun q hq=>by simp at hq) (by simp) h0 (by simp[sz];omega) (by omega) (by simpa[bQ,sz]using hr);refine this.mono ?_;rintro e w' ⟨⟨g1,g2,g3⟩,rfl,hL,hD',hK,hc3,hc4⟩;have d34:∀i,(W.alloc o).cell? ⟨dp,i,O⟩=w.cell? ⟨dp,i,O⟩:=fun i=>AaO ((hW.then gA).block _ h.lt.1);refine⟨g1,g2,g3,rfl,by simpa[bQ,sz]using hD',by simpa[sz]using hL,(Dk.bX (hW.then gA)).trans hK,?_,hW.le,hc3.trans (d34 3),hc4.trans (d34 4)⟩;have:=h.lt;have h2:=hW.le;exact hK.1.at (Aaf W o) (by rintro(e|e)<;>omega)
 have HR:Hid (∀W (eb:Nat) (o:Array Y) (g1:Option Addr) (g2 g3:Nat),w.heap.size<=eb->W.heap[eb]?=M (C o 261 (0,0))->aV W dp tb depth ((bL m.1 a b).1,m.2)->bH W (g1,g2,g3) (bL m.1 a b).2->Dk w W (TX dp tb) (TX dp tb)->(W.cell? ⟨dp,3,O⟩=w.cell? ⟨dp,3,O⟩/\W.cell? ⟨dp,4,O⟩=w.cell? ⟨dp,4,O⟩)->H K 242 #[U (M ⟨dp,0,O⟩),.agg #[I V a,Z g1 g2 g3,Z O 0 0]] (W.setCell ⟨eb,1,O⟩ (Z g1 g2 g3)) fun e w'=>e=G (.tuple #[])/\aV w' dp tb depth ((bL m.1 a b).1,((a,(bL m.1 a b).2,[])::m.2.1).take depth,[],m.2.2.2.1,m.2.2.2.2)/\Dk w w' (TX dp tb) (TX dp tb)):=fun W eb o g1 g2 g3 heb ho hD hy hK XF=>by
  obtain⟨u,r,hb,ht,hu,hr⟩:=hD;obtain⟨u0,r0,uU,ht0,hu0,Jt⟩:=h;obtain⟨-,-,-,d3,d4,-⟩:=bZ hb;obtain⟨-,-,-,c3,c4,-⟩:=bZ uU;have eu:=bS.v_inj (d3.symm.trans (XF.1.trans c3));have er:=bS.v_inj (d4.symm.trans (XF.2.trans c4));have hF:=Fr.set W ⟨eb,1,O⟩ (Z g1 g2 g3);obtain⟨tc,htc⟩:=ht.ty
  have hD6:aV (W.setCell ⟨eb,1,O⟩ (Z g1 g2 g3)) dp tb depth ((bL m.1 a b).1,m.2):=by
   refine⟨u,r,hF.at hb (aZ hb ho (by decide)),ht.fr hF (aZ htc ho (by decide)) (fun b la ra p h l hn=>aZ hn ho (by decide)),hu.jq hF (fun b aS hn=>aZ hn ho (by decide)) (fun a e=>?_),hr.jq hF (fun b aS hn=>aZ hn ho (by decide)) (fun a e=>?_)⟩
   ·have:=hu0.lt (eu ▸ e);simp only;omega
   ·have:=Jt.lt (er ▸ e);simp only;omega
  have CO:=hy.fr hF (fun b aS hn=>aZ hn ho (by decide));have:=Pv (p:=a) (x:=(g1,g2,g3)) (y:=(O,0,0)) (e:=(a,(bL m.1 a b).2,[])) hD6 ⟨rfl,CO,vJ _⟩ (by simp only;omega) (by omega);refine this.mono ?_;rintro e w' ⟨rfl,h1,h2⟩
  have hKs:Dk w (W.setCell ⟨eb,1,O⟩ (Z g1 g2 g3)) (TX dp tb) (TX dp tb):=by
   obtain⟨⟨s1,s2⟩,Wo,hn⟩:=hK;refine⟨⟨Aam s1 hF.1,fun b hb hx=>?_⟩,Wo,fun b hb=>Aac hb⟩;rw[hF.2 b (AaC hb s1) (by simp only;omega),s2 b hb hx]
  exact⟨rfl,h1,hKs.trans h2⟩
 unfold iC at*;clear h hg kP;go_enter func204,ntmps204;go_wp2_with (first|(go_at_call 243;refine(HI.out _ ((aL.refl w).alloc _)).mono ?_;rintro e w2 ⟨yb,rfl,hy2,kR⟩)|(go_at_call 180;refine(HA.out w2 yb _ (((aL.refl w).alloc _).then kR) hy2).mono ?_;rintro e w4 ⟨g1,g2,g3,rfl,FC,hy4,hK4,Ca,hle4,hcc4⟩;obtain⟨k0,k1,k2,kf⟩:=iM Ca;have kf1:=kf 1)|(go_at_call 242;refine(HR.out w4 w2.heap.size _ g1 g2 g3 hle4 Ca FC hy4 hK4 hcc4).mono ?_;rintro e w8 ⟨rfl,hD8,hK8⟩));go_end0;exact⟨rfl,hD8,hK8⟩
end Go.Proofs.YtfplgfodoiiobaaGreatDoor
