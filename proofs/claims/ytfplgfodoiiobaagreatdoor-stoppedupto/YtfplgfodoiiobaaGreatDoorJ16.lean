/- DrG, DrH (joined). -/
import Derived.Test.YtfplgfodoiiobaaGreatDoorJ15
open Option renaming none→O,some→M
open Go.Value renaming int→I,slice→Z,pointer→U
open Go.IntKind renaming i64→V
open Go.Obj renaming cells→C
open Go.Ending renaming returned→G
open Go renaming World→F,Value→Y,Calls→H
open Go.Proofs.Tryz renaming prog→K
namespace Go.Proofs.YtfplgfodoiiobaaGreatDoor
set_option maxHeartbeats 2000000
set_option maxRecDepth 100000
open Go.RowKit
variable {w:F}{dp tb depth:Nat}{m:bT}{x u r:gN}{l:List Ed}{q a b c cnt dn bf:Int}{e:Ed}
theorem dG.head {xo:Option Addr}{xn xc:Nat}(h:dG w (xo,xn,xc) (e::l)):∃(b off:Nat) (r:iB),xo=M ⟨b,off,O⟩/\xn=l.length+1/\xn<=xc/\w.cell? ⟨b,off,O⟩=M (I V r.1)/\w.cell? ⟨b,off+1,O⟩=M r.2.1.v/\w.cell? ⟨b,off+2,O⟩=M r.2.2.v/\uX w r e:=by
 obtain⟨raw,h1,h2,h3,h4,h5⟩:=h;simp only at h1 h2 h3
 match raw,h4 with
 |r::raw,h4=>
  rcases h1.1 with h|⟨b,off,rfl,hc⟩
  ·cases h
  ·refine⟨b,off,r,rfl,by simp at h4;simp at h2;omega,h3.2,?_,hc 1 _ rfl,hc 2 _ rfl,h5 0 r e rfl rfl⟩;have:=hc 0 _ rfl;simpa using this
theorem dG.tail {b off xn xc:Nat}(h:dG w (M ⟨b,off,O⟩,xn,xc) (e::l)):dG w ((if xc=1 then M ⟨b,off,O⟩else M ⟨b,off+3,O⟩),l.length,xc-1) l:=by
 obtain⟨raw,h1,h2,h3,h4,h5⟩:=h;simp only at h1 h2 h3
 match raw,h4 with
 |r::raw,h4=>
  simp at h4 h2;obtain⟨c1,c2⟩:=h1;obtain⟨aT,hc⟩:=c2 _ rfl;have Di:∀o:Nat,∀a,M (⟨b,o,O⟩:Addr)=M a->∃aT,w.heap[a.block]?=M (C aT 261 (0,0)):=fun o a e=>by cases e;exact⟨aT,hc⟩
  by_cases hx:xc=1
  ·have Mr:raw=[]:=List.eq_nil_of_length_eq_zero (by omega);subst Mr;rw[if_pos hx];have hl0:l.length=0:=by simpa using h4.symm
   exact⟨[],⟨Or.inl rfl,Di off⟩,hl0,⟨fun e=>(by cases e),by simp only;omega⟩,by rw[hl0];rfl,fun i r' e' a' b'=>by simp at a'⟩
  ·rw[if_neg hx];refine⟨raw,⟨?_,Di _⟩,by simp only;omega,⟨fun e=>(by cases e),by simp only;omega⟩,h4,fun i r' e' a' b'=>h5 (i+1) r' e' (by simpa using a') (by simpa using b')⟩;rcases c1 with c1|⟨b',Tz,e',hcc⟩
   ·cases c1
   ·cases e'
    refine Or.inr ⟨b,off+3,rfl,fun j u hu=>?_⟩;have:=hcc (j+3) u (by rw[Ez,List.getElem?_append_right (by simp)];simpa using hu);rwa[show off+(j+3)=off+3+j from by omega]at this
theorem dG.len (h:dG w x l):x.2.1=l.length:=by
 obtain⟨raw,-,h2,-,h4,-⟩:=h;omega
def Ui (m:bT)(a b c:Int):Int:=match m.2.1 with
 | []=>8
 |e::_=>yR m a b c (e.1,e.2.2,e.2.1)
def Uj (m:bT)(a b c:Int):Int:=match m.2.2.1 with
 | []=>8
 |e::_=>yR m a b c e
theorem rz:∀(args:Array Y) (w:F),(callFunc 235 args).run K w= .ok (.enter 235 args) w:=enters_of Tryz.func235 (by kernel_rfl) rfl
theorem Ww:∀(args:Array Y) (w:F),(callFunc 244 args).run K w= .ok (.enter 244 args) w:=enters_of Tryz.func244 (by kernel_rfl) rfl
theorem Qa:∀(args:Array Y) (w:F),(callFunc 245 args).run K w= .ok (.enter 245 args) w:=enters_of Tryz.func245 (by kernel_rfl) rfl
theorem Dn {most:Int}(h:aQ w dp tb depth m)(hz:sz m.1<=5000)(Pe:∀e rest,m.2.1=e::rest->Bz (sz m.1) e.1 e.2.2 e.2.1):
 H K 205 #[U (M ⟨dp,0,O⟩),fQ q a b c,I V most] w fun e w'=>e=G (I V (Ui m a b c))/\aJ w w':=by
 have HM:Hid (∀W (x y:gN) (e:Ed),aJ w W->bI W x e.2.1->bI W y e.2.2->Bz (sz m.1) e.1 e.2.1 e.2.2->H K 244 #[U (M ⟨dp,0,O⟩),fQ q a b c,.agg #[I V e.1,x.v,y.v]] W fun r w'=>r=G (I V (yR m a b c e))/\aJ W w'):=fun W x y e hW hx hy hf=>Pz (h.aM hW) hx hy hf hz
 obtain⟨u,r,hb,ht,hu,hr⟩:=h;obtain⟨-,-,-,d3,-⟩:=bL hb;have G1:Hid (aJ w (w.alloc (C #[I .u8 q,I V a,I V b,I V c] 99))):=(aJ.refl w).alloc _;obtain⟨text,lK,nJ,dn,bf⟩:=m;obtain⟨u1,u2,u3⟩:=u;simp only at*;clear hb ht hr;cases lK with
 |nil=>
  have Uk:u2=0:=hu.len;subst Uk;have HE:Hid (Ui (text,[],nJ,dn,bf) a b c=8):=rfl;unfold fQ;clear hu HM Pe;simp only[gN.v]at d3;have d3':=G1.out.cell d3;generalize Ui (text,[],nJ,dn,bf) a b c=R at*;go_enter Tryz.func205,Tryz.ntmps205
  go_wp2_with fail
  go_ret;rw[HE.out];exact⟨rfl,G1.out⟩
 |cons e rest=>
  obtain⟨eb,qB,er,rfl,Uk,gX,e0,e1,e2,Lj⟩:=hu.head;have hf:=Pe e rest rfl;have HE:Hid (Ui (text,e::rest,nJ,dn,bf) a b c=yR (text,e::rest,nJ,dn,bf) a b c (e.1,e.2.2,e.2.1)):=rfl;have HT:Hid (∀W,aJ w W->H K 235 #[.agg #[I V er.1,er.2.1.v,er.2.2.v]] W fun e w'=>e=G (.agg #[I V er.1,er.2.2.v,er.2.1.v])/\aJ W w'):=fun W hW=>Jk
  have HC:Hid (∀W,aJ w W->H K 244 #[U (M ⟨dp,0,O⟩),fQ q a b c,.agg #[I V er.1,er.2.2.v,er.2.1.v]] W fun r w'=>r=G (I V (yR (text,e::rest,nJ,dn,bf) a b c (e.1,e.2.2,e.2.1)))/\aJ W w'):=fun W hW=>by
   rw[Lj.1];exact HM.out W er.2.2 er.2.1 (e.1,e.2.2,e.2.1) hW (Lj.2.2.aM hW) (Lj.2.1.aM hW) hf
  clear HM hu Lj hf Pe;generalize Ui (text,e::rest,nJ,dn,bf) a b c=R at*;generalize yR (text,e::rest,nJ,dn,bf) a b c (e.1,e.2.2,e.2.1)=R' at*;obtain⟨ep,⟨xo,xn,xc⟩,⟨yo,yn,yc⟩⟩:=er;subst Uk;unfold fQ at*;simp only[gN.v]at*;have j3:(((rest.length+1:Nat):Int)==0)=false:=by rw[beq_eq_false_iff_ne];omega
  have j1:(0:Int)<((rest.length+1:Nat):Int):=by omega
  obtain⟨w1,dU⟩:∃w1,w1=w.alloc (C #[I .u8 q,I V a,I V b,I V c] 99):=⟨_,rfl⟩;have bX:w1.heap[w.heap.size]?=M (C #[I .u8 q,I V a,I V b,I V c] 99 (0,0)):=by rw[dU];exact heap_alloc_new w _
  have k0:w1.cell? ⟨w.heap.size,0,O⟩=M (I .u8 q):=by simp[World.cell?,bX]
  have k1:w1.cell? ⟨w.heap.size,1,O⟩=M (I V a):=by simp[World.cell?,bX]
  have k2:w1.cell? ⟨w.heap.size,2,O⟩=M (I V b):=by simp[World.cell?,bX]
  have k3:w1.cell? ⟨w.heap.size,3,O⟩=M (I V c):=by simp[World.cell?,bX]
  rw[<-dU]at G1;have d3':=G1.out.cell d3;have e0':=G1.out.cell e0;have e1':=G1.out.cell e1;have e2':=G1.out.cell e2;clear bX d3 e0 e1 e2;go_enter Tryz.func205,Tryz.ntmps205
  go_upto_region 1 with fail
  rw[<-dU];clear dU
  go_upto_region 3 with fail
  go_region_law (first|(refine bM (by rfl) 235 _ _ (by rfl) _ (by simp[Act.eval];done) rz ((HT.out _ (by repeat (first|exact G1.out|refine aJ.drew ?_))).mono ?_);rintro e w7 ⟨rfl,jS⟩;refine⟨_,rfl,?_⟩;have k07:=jS.cell (show _=M (I .u8 q) from k0);have k17:=jS.cell (show _=M (I V a) from k1);have k27:=jS.cell (show _=M (I V b) from k2);have k37:=jS.cell (show _=M (I V c) from k3))|(refine bM (by rfl) 244 _ _ (by rfl) _ (by simp[Act.eval];done) Ww ((HC.out _ (by repeat (first|exact G1.out|refine aJ.drew ?_|refine aJ.then ?_ jS))).mono ?_);rintro e w8 ⟨rfl,af⟩;refine⟨_,rfl,?_⟩))
  all_goals go_wp2_with fail
  all_goals go_ret
  all_goals rw[HE.out]
  all_goals exact⟨rfl,(by refine aJ.then ?_ af;repeat (first|exact G1.out|refine aJ.drew ?_|refine aJ.then ?_ jS))⟩
theorem Dp {most:Int}(h:aQ w dp tb depth m)(hz:sz m.1<=5000)(Pe:∀e rest,m.2.2.1=e::rest->Bz (sz m.1) e.1 e.2.1 e.2.2):
 H K 207 #[U (M ⟨dp,0,O⟩),fQ q a b c,I V most] w fun e w'=>e=G (I V (Uj m a b c))/\aJ w w':=by
 have HM:Hid (∀W (x y:gN) (e:Ed),aJ w W->bI W x e.2.1->bI W y e.2.2->Bz (sz m.1) e.1 e.2.1 e.2.2->H K 244 #[U (M ⟨dp,0,O⟩),fQ q a b c,.agg #[I V e.1,x.v,y.v]] W fun r w'=>r=G (I V (yR m a b c e))/\aJ W w'):=fun W x y e hW hx hy hf=>Pz (h.aM hW) hx hy hf hz
 obtain⟨r,u,hb,ht,hr,hu⟩:=h;obtain⟨-,-,-,-,d3,-⟩:=bL hb;have G1:Hid (aJ w (w.alloc (C #[I .u8 q,I V a,I V b,I V c] 99))):=(aJ.refl w).alloc _;obtain⟨text,lK,nJ,dn,bf⟩:=m;obtain⟨u1,u2,u3⟩:=u;simp only at*;clear hb ht hr;cases nJ with
 |nil=>
  have Uk:u2=0:=hu.len;subst Uk;have HE:Hid (Uj (text,lK,[],dn,bf) a b c=8):=rfl;unfold fQ;clear hu HM Pe;simp only[gN.v]at d3;have d3':=G1.out.cell d3;generalize Uj (text,lK,[],dn,bf) a b c=R at*;go_enter Tryz.func207,Tryz.ntmps207
  go_wp2_with fail
  go_ret;rw[HE.out];exact⟨rfl,G1.out⟩
 |cons e rest=>
  obtain⟨eb,qB,er,rfl,Uk,gX,e0,e1,e2,Lj⟩:=hu.head;have hf:=Pe e rest rfl;have HE:Hid (Uj (text,lK,e::rest,dn,bf) a b c=yR (text,lK,e::rest,dn,bf) a b c e):=rfl
  have HC:Hid (∀W,aJ w W->H K 244 #[U (M ⟨dp,0,O⟩),fQ q a b c,.agg #[I V er.1,er.2.1.v,er.2.2.v]] W fun r w'=>r=G (I V (yR (text,lK,e::rest,dn,bf) a b c e))/\aJ W w'):=fun W hW=>by
   rw[Lj.1];exact HM.out W er.2.1 er.2.2 e hW (Lj.2.1.aM hW) (Lj.2.2.aM hW) hf
  clear HM hu Lj hf Pe;generalize Uj (text,lK,e::rest,dn,bf) a b c=R at*;generalize yR (text,lK,e::rest,dn,bf) a b c e=R' at*;obtain⟨ep,⟨xo,xn,xc⟩,⟨yo,yn,yc⟩⟩:=er;subst Uk;unfold fQ at*;simp only[gN.v]at*;have j3:(((rest.length+1:Nat):Int)==0)=false:=by rw[beq_eq_false_iff_ne];omega
  have j1:(0:Int)<((rest.length+1:Nat):Int):=by omega
  obtain⟨w1,dU⟩:∃w1,w1=w.alloc (C #[I .u8 q,I V a,I V b,I V c] 99):=⟨_,rfl⟩;have bX:w1.heap[w.heap.size]?=M (C #[I .u8 q,I V a,I V b,I V c] 99 (0,0)):=by rw[dU];exact heap_alloc_new w _
  have k0:w1.cell? ⟨w.heap.size,0,O⟩=M (I .u8 q):=by simp[World.cell?,bX]
  have k1:w1.cell? ⟨w.heap.size,1,O⟩=M (I V a):=by simp[World.cell?,bX]
  have k2:w1.cell? ⟨w.heap.size,2,O⟩=M (I V b):=by simp[World.cell?,bX]
  have k3:w1.cell? ⟨w.heap.size,3,O⟩=M (I V c):=by simp[World.cell?,bX]
  rw[<-dU]at G1;have d3':=G1.out.cell d3;have e0':=G1.out.cell e0;have e1':=G1.out.cell e1;have e2':=G1.out.cell e2;clear bX d3 e0 e1 e2;go_enter Tryz.func207,Tryz.ntmps207
  go_upto_region 1 with fail
  rw[<-dU];clear dU
  go_upto_region 3 with fail
  go_region_law (first|(refine bM (by rfl) 244 _ _ (by rfl) _ (by simp[Act.eval];done) Ww ((HC.out _ (by repeat (first|exact G1.out|refine aJ.drew ?_))).mono ?_);rintro e w8 ⟨rfl,af⟩;refine⟨_,rfl,?_⟩))
  all_goals go_wp2_with fail
  all_goals go_ret
  all_goals rw[HE.out]
  all_goals exact⟨rfl,(by refine aJ.then ?_ af;repeat (first|exact G1.out|refine aJ.drew ?_))⟩
theorem oD {depth:Int}(hb:w.heap[dp]?=M (nN depth tb cnt u r dn bf)):
 (∀x:gN,(w.setCell ⟨dp,3,O⟩ x.v).heap[dp]?=M (nN depth tb cnt x r dn bf))/\(∀x:gN,(w.setCell ⟨dp,4,O⟩ x.v).heap[dp]?=M (nN depth tb cnt u x dn bf))/\(∀n,(w.setCell ⟨dp,5,O⟩ (I V n)).heap[dp]?=M (nN depth tb cnt u r n bf))/\(∀n,(w.setCell ⟨dp,6,O⟩ (I V n)).heap[dp]?=M (nN depth tb cnt u r dn n)):=
 ⟨fun x=>by rw[heap_setCell_same w dp 3 _ _ _ hb];rfl,fun x=>by rw[heap_setCell_same w dp 4 _ _ _ hb];rfl,fun x=>by rw[heap_setCell_same w dp 5 _ _ _ hb];rfl,fun x=>by rw[heap_setCell_same w dp 6 _ _ _ hb];rfl⟩
theorem uJ {i:Nat}{v:Y}{depth:Int}(hb:w.heap[dp]?=M (nN depth tb cnt u r dn bf)):
 (∀l,bZ w tb l->bZ (w.setCell ⟨dp,i,O⟩ v) tb l)/\(∀x l,bI w x l->bI (w.setCell ⟨dp,i,O⟩ v) x l)/\(∀x l,dG w x l->dG (w.setCell ⟨dp,i,O⟩ v) x l):=by
 have hF:=Fr.set w ⟨dp,i,O⟩ v;refine⟨fun l ht=>?_,fun x l hx=>hx.fr hF (fun b aT hn=>aW hn hb (by decide)),fun x l hx=>hx.fr hF (fun b aT hn=>aW hn hb (by decide)) (fun b aT hn=>aW hn hb (by decide))⟩;obtain⟨tc,htc⟩:=ht.ty;exact ht.fr hF (aW htc hb (by decide)) (fun b la ra p h l hn=>aW hn hb (by decide))
theorem aQ.put {i:Nat}{v:Y}{dn' XH:Int}{u' r':gN}{l:List (Int×Int)}{ul rl:List Ed}(hb:w.heap[dp]?=M (nN (depth:Int) tb cnt u r dn bf))(hs:(w.setCell ⟨dp,i,O⟩ v).heap[dp]?=M (nN (depth:Int) tb (l.length:Int) u' r' dn' XH))(ht:bZ w tb l)(hu:dG w u' ul)(hr:dG w r' rl):aQ (w.setCell ⟨dp,i,O⟩ v) dp tb depth (l,ul,rl,dn',XH):=by
 obtain⟨k1,k2,k3⟩:=uJ (i:=i) (v:=v) hb;exact⟨u',r',hs,k1 _ ht,k3 _ _ hu,k3 _ _ hr⟩
theorem Ll {p:Int}{y:gN}(h:aQ w dp tb depth m)(he:uX w (p,x,y) e)(hl:m.2.1.length<=100000)(hd:depth<=1000000):
 H K 242 #[U (M ⟨dp,0,O⟩),.agg #[I V p,x.v,y.v]] w fun q w'=>q=G (.tuple #[])/\aQ w' dp tb depth (m.1,(e::m.2.1).take depth,[],m.2.2.2.1,m.2.2.2.2)/\Dk w w' (TX dp tb) (TX dp tb):=by
 obtain⟨u,r,hb,ht,hu,hr⟩:=h
 have HP:Hid (∀W,aJ w W->H K 245 #[.agg #[I V p,x.v,y.v],u.v,I V (depth:Int)] W fun q w'=> ∃y1 y2 y3,q=G (Z y1 y2 y3)/\w'.cell? ⟨dp,3,O⟩=M u.v/\w'.cell? ⟨dp,4,O⟩=M r.v/\w'.frozen? ⟨dp,3,O⟩=false/\w'.frozen? ⟨dp,4,O⟩=false/\aQ ((w'.setCell ⟨dp,3,O⟩ (Z y1 y2 y3)).setCell ⟨dp,4,O⟩ (Z O 0 0)) dp tb depth (m.1,(e::m.2.1).take depth,[],m.2.2.2.1,m.2.2.2.2)/\Dk w ((w'.setCell ⟨dp,3,O⟩ (Z y1 y2 y3)).setCell ⟨dp,4,O⟩ (Z O 0 0)) (TX dp tb) (TX dp tb)):=fun W hW=>by
  refine(Dj (r:=(p,x,y)) (he.aM hW) (hu.aM hW) hl hd).mono ?_;rintro q w' ⟨⟨y1,y2,y3⟩,rfl,hE,hg⟩;have yT:=hW.then hg;have pR:=(yT.block _ (aK hb)).trans hb;obtain⟨-,-,-,d3,d4,-,-,df⟩:=bL pR;have hs:=(oD pR).1 (y1,y2,y3);obtain⟨k1,k2,k3⟩:=uJ (i:=3) (v:=gN.v (y1,y2,y3)) pR;refine⟨y1,y2,y3,rfl,d3,d4,df 3,df 4,?_,((Dk.bH yT).set (Or.inl rfl)).set (Or.inl rfl)⟩;exact aQ.put hs ((oD hs).2.1 (O,0,0)) (k1 _ (ht.below yT)) (k3 _ _ hE) (dG.nil _)
 obtain⟨d0,-,-,d3,-⟩:=bL hb;obtain⟨w1,dU⟩:∃w1,w1=w.alloc (C #[I V p,x.v,y.v] 261):=⟨_,rfl⟩;have bX:w1.heap[w.heap.size]?=M (C #[I V p,x.v,y.v] 261 (0,0)):=by rw[dU];exact heap_alloc_new w _
 have k0:w1.cell? ⟨w.heap.size,0,O⟩=M (I V p):=by simp[World.cell?,bX]
 have k1:w1.cell? ⟨w.heap.size,1,O⟩=M x.v:=by simp[World.cell?,bX]
 have k2:w1.cell? ⟨w.heap.size,2,O⟩=M y.v:=by simp[World.cell?,bX]
 have G1:Hid (aJ w w1):=by show aJ _ _;rw[dU];exact(aJ.refl w).alloc _
 have d0':=G1.out.cell d0;have d3':=G1.out.cell d3;obtain⟨x1,x2,x3⟩:=x;obtain⟨y1,y2,y3⟩:=y;obtain⟨u1,u2,u3⟩:=u;obtain⟨r1,r2,r3⟩:=r;simp only[gN.v]at*;clear hb ht hu hr he d0 d3 bX;go_enter Tryz.func242,Tryz.ntmps242
 go_upto_region 1 with fail
 rw[<-dU];clear dU
 go_region_law ((refine bM (by rfl) 245 _ _ (by rfl) _ (by simp[Act.eval];done) Qa ((HP.out _ (by repeat (first|exact G1.out|refine aJ.drew ?_))).mono ?_);rintro q w7 ⟨z1,z2,z3,rfl,c3,c4,f3,f4,hD,hK⟩;refine⟨_,rfl,?_⟩))
 all_goals go_wp2_with fail
 all_goals go_end0
 all_goals exact⟨rfl,hD,hK⟩
theorem aQ.lt (h:aQ w dp tb depth m):dp<w.heap.size/\tb<w.heap.size:=by
 obtain⟨u,r,hb,ht,-⟩:=h;exact⟨aK hb,ht.lt⟩
theorem gF {g:Nat}{a b c:Y}(h:w.heap[g]?=M (C #[a,b,c] 261 (0,0))):w.cell? ⟨g,0,O⟩=M a/\w.cell? ⟨g,1,O⟩=M b/\w.cell? ⟨g,2,O⟩=M c/\∀j,w.frozen? ⟨g,j,O⟩=false:=by
 simp[World.cell?,World.frozen?,h]
theorem dG.fr2 {w':F}{X:Nat->Prop}(h:dG w x l)(hF:Fr w w' X)(hx:∀b aT,w.heap[b]?=M (C aT 114 (0,0))->¬X b)(hy:∀a,x.1=M a->¬X a.block):dG w' x l:=by
 obtain⟨raw,⟨h1,Tn⟩,h2,h3,h4,h5⟩:=h;refine⟨raw,⟨?_,fun a e=>?_⟩,h2,h3,h4,fun i r e a b=>⟨(h5 i r e a b).1,(h5 i r e a b).2.1.fr hF hx,(h5 i r e a b).2.2.fr hF hx⟩⟩
 ·rcases h1 with h1|⟨b,off,e,hc⟩
  ·exact Or.inl h1
  ·refine Or.inr ⟨b,off,e,fun j u hu=>?_⟩;obtain⟨aT,hb⟩:=Tn _ e;exact(World.cell?_of_block (a:=⟨b,off+j,O⟩) (hF.2 b (aK hb) (hy _ e))).trans (hc j u hu)
 ·obtain⟨aT,hb⟩:=Tn a e;exact⟨aT,hF.at hb (hy _ e)⟩
theorem dG.lt (h:dG w x l){a:Addr}(e:x.1=M a):a.block<w.heap.size:=by
 obtain⟨raw,⟨h1,Tn⟩,-⟩:=h;obtain⟨aT,hb⟩:=Tn a e;exact aK hb
theorem gN.v_inj {y:gN}(h:M x.v=M y.v):x=y:=by
 obtain⟨a,b,c⟩:=x;obtain⟨a',b',c'⟩:=y;simp only[gN.v,Option.some.injEq]at h;cases h
 rfl
theorem bI.tx {w':F}{l:List (Int×Int)}(hd:aQ w dp tb depth m)(h:bI w x l)(hK:Dk w w' (TX dp tb) (TX dp tb)):bI w' x l:=by
 obtain⟨u,r,hb,ht,-⟩:=hd;exact h.fr hK.1 (fun b aT hn=>tx_ty hb ht.ty hn (by decide) (by decide))
theorem si (h:aQ w dp tb depth m)(hg:dM m depth)(hd:depth<=100)(h0:0<=a)(h1:a<=sz m.1)(kT:0<=b)(bX:b<=1000000)(hc:1<=c)(Oo:c<=200)(hr:(cB m.1 a [(b,c)]).length<=4096):
 H K 202 #[U (M ⟨dp,0,O⟩),fQ q a b c] w fun e w'=>e=G (.tuple #[])/\aQ w' dp tb depth (cB m.1 a [(b,c)],((a,[],[(b,c)])::m.2.1).take depth,[],m.2.2.2.1,m.2.2.2.2+c)/\Dk w w' (TX dp tb) (TX dp tb):=by
 have hz:=hg.long;have hf0:=hg.zL;have hf1:=hg.uD;have Uk:=hg.Da;have kR:eF [(b,c)]:=fun q hq=>by simp at hq;subst hq;unfold kQ;simp only;omega
 have bV:=h.lt;have HI:Hid (∀W,aJ w W->H K 241 #[fQ q a b c] W fun e w'=> ∃yb:Nat,e=G (.agg #[I V a,Z O 0 0,Z (M ⟨yb,0,O⟩) 1 1])/\bI w' (M ⟨yb,0,O⟩,1,1) [(b,c)]/\aJ W w'):=fun W hW=>Gg
 have HA:Hid (∀W (yb:Nat) (o:Obj),aJ w W->bI W (M ⟨yb,0,O⟩,1,1) [(b,c)]->H K 180 #[U (M ⟨dp,0,O⟩),.agg #[I V a,Z O 0 0,Z (M ⟨yb,0,O⟩) 1 1]] (W.alloc o) fun e w'=> ∃g1 g2 g3,e=G (Z g1 g2 g3)/\aQ w' dp tb depth (cB m.1 a [(b,c)],m.2)/\bI w' (M ⟨yb,0,O⟩,1,1) [(b,c)]/\Dk w w' (TX dp tb) (TX dp tb)/\w'.heap[W.heap.size]?=M o):=fun W yb o hW hy=>by
  have gA:=(aJ.refl W).alloc o;have hD:=h.aM (hW.then gA);have:=wK (p:=a) hD (rZ (W.alloc o)) (hy.aM gA) (fun q hq=>by simp at hq) (by simp) kR (fun q hq=>by simp at hq;subst hq;simp only;omega) (by simp) h0 (by simp[sz];omega) (by omega) (by simpa[bY,sz]using hr);refine this.mono ?_;rintro e w' ⟨⟨g1,g2,g3⟩,rfl,hL,hD',hK,-⟩;refine⟨g1,g2,g3,rfl,by simpa[bY,sz]using hD',(hy.aM gA).tx hD hK,(Dk.bH (hW.then gA)).trans hK,?_⟩;have:=h.lt;have h2:=hW.le;exact hK.1.at (heap_alloc_new W o) (by rintro(e|e)<;>omega)
 have HR:Hid (∀W W5 (yb:Nat),aQ W dp tb depth (cB m.1 a [(b,c)],m.2)->bI W (M ⟨yb,0,O⟩,1,1) [(b,c)]->Dk w W (TX dp tb) (TX dp tb)->aJ W W5->H K 242 #[U (M ⟨dp,0,O⟩),.agg #[I V a,Z O 0 0,Z (M ⟨yb,0,O⟩) 1 1]] (W5.setCell ⟨dp,6,O⟩ (I V (m.2.2.2.2+c))) fun e w'=>e=G (.tuple #[])/\aQ w' dp tb depth (cB m.1 a [(b,c)],((a,[],[(b,c)])::m.2.1).take depth,[],m.2.2.2.1,m.2.2.2.2+c)/\Dk w w' (TX dp tb) (TX dp tb)):=fun W W5 yb hD hy hK hG=>by
  obtain⟨u,r,hb,ht,hu,hr⟩:=hD.aM hG;have hD6:=aQ.put hb ((oD hb).2.2.2 (m.2.2.2.2+c)) ht hu hr;have Zj:=(uJ (i:=6) (v:=I V (m.2.2.2.2+c)) hb).2.1 _ _ (hy.aM hG);have:=Ll (p:=a) (x:=(O,0,0)) (y:=(M ⟨yb,0,O⟩,1,1)) (e:=(a,[],[(b,c)])) hD6 ⟨rfl,rZ _,Zj⟩ (by simp only;omega) (by omega);refine this.mono ?_;rintro e w' ⟨rfl,h1,h2⟩;exact⟨rfl,h1,(hK.trans ((Dk.bH hG).set (Or.inl rfl))).trans h2⟩
 have HB:Hid (∀W (yb:Nat),bI W (M ⟨yb,0,O⟩,1,1) [(b,c)]->H K 187 #[gN.v (M ⟨yb,0,O⟩,1,1)] W fun e w'=>e=G (I V c)/\aJ W w'):=fun W yb hy=>by
  have:=sW hy kR (by simp);simpa[sz]using this
 have HC:Hid (∀W,aQ W dp tb depth (cB m.1 a [(b,c)],m.2)->W.cell? ⟨dp,6,O⟩=M (I V m.2.2.2.2)/\W.frozen? ⟨dp,6,O⟩=false):=fun W hD=>by
  obtain⟨u,r,hb,-⟩:=hD;obtain⟨-,-,-,-,-,-,d6,df⟩:=bL hb;exact⟨d6,df 6⟩
 have ru:IntKind.i64.wrap (m.2.2.2.2+c)=m.2.2.2.2+c:=by rw[IntKind.wrap_i64];omega
 unfold fQ at*;simp only[gN.v]at HB;clear h hg kR;go_enter Tryz.func202,Tryz.ntmps202
 go_upto_region 3 with(first|(go_at_call 241;refine(HI.out _ ((aJ.refl w).alloc _)).mono ?_;rintro e w2 ⟨yb,rfl,hy2,jL⟩)|(go_at_call 180;refine(HA.out w2 yb _ (((aJ.refl w).alloc _).then jL) hy2).mono ?_;rintro e w4 ⟨g1,g2,g3,rfl,DC,hy4,hK4,Tq⟩))
 obtain⟨k0,k1,k2,-⟩:=gF Tq;obtain⟨d6,f6⟩:=HC.out w4 DC;have hne:dp≠w2.heap.size:=by have:=(((aJ.refl w).alloc (C #[I .u8 q,I V a,I V b,I V c] 99)).then jL).le;omega
 have HD4:Hid (aQ w4 dp tb depth (cB m.1 a [(b,c)],m.2)):=DC;have HY4:Hid (bI w4 (M ⟨yb,0,O⟩,1,1) [(b,c)]):=hy4;have HK4:Hid (Dk w w4 (TX dp tb) (TX dp tb)):=hK4;clear Tq DC hy4 hK4
 go_region_law ((refine bM (by rfl) 187 _ _ (by rfl) _ (by simp[Act.eval];done) TQ ((HB.out _ yb (HY4.out.aM (by repeat (first|exact aJ.refl _|refine aJ.drew ?_)))).mono ?_);rintro q w7 ⟨rfl,jS⟩;refine⟨_,rfl,?_⟩;have k07:=jS.cell (show _=M (I V a) from k0);have k17:=jS.cell (show _=M (Z O 0 0) from k1);have k27:=jS.cell (show _=M (Z (M ⟨yb,0,O⟩) 1 1) from k2);have d67:=jS.cell (show _=M (I V m.2.2.2.2) from d6);have f67:=(HC.out w7 (HD4.out.aM (aJ.then (by repeat (first|exact aJ.refl _|refine aJ.drew ?_)) jS))).2))
 all_goals go_wp2_with (first|(go_at_call 242;refine(HR.out w4 w7 yb HD4.out HY4.out HK4.out (aJ.then (by repeat (first|exact aJ.refl _|refine aJ.drew ?_)) jS)).mono ?_;rintro e w8 ⟨rfl,hD8,hK8⟩))
 all_goals go_end0
 all_goals exact⟨rfl,hD8,hK8⟩
theorem sj (h:aQ w dp tb depth m)(hg:dM m depth)(hd:depth<=100)(h0:0<=a)(hb:1<=b)(h1:a+b<=sz m.1)(hr:(bY m.1 a b).1.length<=4096):
 H K 204 #[U (M ⟨dp,0,O⟩),fQ q a b c] w fun e w'=>e=G (.tuple #[])/\aQ w' dp tb depth ((bY m.1 a b).1,((a,(bY m.1 a b).2,[])::m.2.1).take depth,[],m.2.2.2.1,m.2.2.2.2)/\Dk w w' (TX dp tb) (TX dp tb):=by
 have hz:=hg.long;have Uk:=hg.Da;have kR:eF [(0,b)]:=fun q hq=>by simp at hq;subst hq;unfold kQ;simp only;omega
 have bV:=h.lt;have HI:Hid (∀W,aJ w W->H K 243 #[fQ q a b c] W fun e w'=> ∃yb:Nat,e=G (.agg #[I V a,Z (M ⟨yb,0,O⟩) 1 1,Z O 0 0])/\bI w' (M ⟨yb,0,O⟩,1,1) [(0,b)]/\aJ W w'):=fun W hW=>Li
 have HA:Hid (∀W (yb:Nat) (o:Obj),aJ w W->bI W (M ⟨yb,0,O⟩,1,1) [(0,b)]->H K 180 #[U (M ⟨dp,0,O⟩),.agg #[I V a,Z (M ⟨yb,0,O⟩) 1 1,Z O 0 0]] (W.alloc o) fun e w'=> ∃g1 g2 g3,e=G (Z g1 g2 g3)/\aQ w' dp tb depth ((bY m.1 a b).1,m.2)/\bI w' (g1,g2,g3) (bY m.1 a b).2/\Dk w w' (TX dp tb) (TX dp tb)/\w'.heap[W.heap.size]?=M o/\w.heap.size<=W.heap.size/\(w'.cell? ⟨dp,3,O⟩=w.cell? ⟨dp,3,O⟩/\w'.cell? ⟨dp,4,O⟩=w.cell? ⟨dp,4,O⟩)):=fun W yb o hW hy=>by
  have gA:=(aJ.refl W).alloc o;have hD:=h.aM (hW.then gA);have:=wK (p:=a) hD (hy.aM gA) (rZ (W.alloc o)) kR (by simp) (fun q hq=>by simp at hq) (fun q hq=>by simp at hq) (by simp) h0 (by simp[sz];omega) (by omega) (by simpa[cB,sz]using hr);refine this.mono ?_;rintro e w' ⟨⟨g1,g2,g3⟩,rfl,hL,hD',hK,mr,hc4⟩;have d34:∀i,(W.alloc o).cell? ⟨dp,i,O⟩=w.cell? ⟨dp,i,O⟩:=fun i=>World.cell?_of_block ((hW.then gA).block _ h.lt.1)
  refine⟨g1,g2,g3,rfl,by simpa[cB,sz]using hD',by simpa[sz]using hL,(Dk.bH (hW.then gA)).trans hK,?_,hW.le,mr.trans (d34 3),hc4.trans (d34 4)⟩;have:=h.lt;have h2:=hW.le;exact hK.1.at (heap_alloc_new W o) (by rintro(e|e)<;>omega)
 have HR:Hid (∀W (eb:Nat) (o:Array Y) (g1:Option Addr) (g2 g3:Nat),w.heap.size<=eb->W.heap[eb]?=M (C o 261 (0,0))->aQ W dp tb depth ((bY m.1 a b).1,m.2)->bI W (g1,g2,g3) (bY m.1 a b).2->Dk w W (TX dp tb) (TX dp tb)->(W.cell? ⟨dp,3,O⟩=w.cell? ⟨dp,3,O⟩/\W.cell? ⟨dp,4,O⟩=w.cell? ⟨dp,4,O⟩)->H K 242 #[U (M ⟨dp,0,O⟩),.agg #[I V a,Z g1 g2 g3,Z O 0 0]] (W.setCell ⟨eb,1,O⟩ (Z g1 g2 g3)) fun e w'=>e=G (.tuple #[])/\aQ w' dp tb depth ((bY m.1 a b).1,((a,(bY m.1 a b).2,[])::m.2.1).take depth,[],m.2.2.2.1,m.2.2.2.2)/\Dk w w' (TX dp tb) (TX dp tb)):=fun W eb o g1 g2 g3 heb ho hD hy hK hcc=>by
  obtain⟨u,r,hb,ht,hu,hr⟩:=hD;obtain⟨u0,r0,kT,ht0,hu0,Mr⟩:=h;obtain⟨-,-,-,d3,d4,-⟩:=bL hb;obtain⟨-,-,-,c3,c4,-⟩:=bL kT;have eu:u=u0:=gN.v_inj (d3.symm.trans (hcc.1.trans c3));have er:r=r0:=gN.v_inj (d4.symm.trans (hcc.2.trans c4));have hF:=Fr.set W ⟨eb,1,O⟩ (Z g1 g2 g3);obtain⟨tc,htc⟩:=ht.ty
  have hD6:aQ (W.setCell ⟨eb,1,O⟩ (Z g1 g2 g3)) dp tb depth ((bY m.1 a b).1,m.2):=by
   refine⟨u,r,hF.at hb (aW hb ho (by decide)),ht.fr hF (aW htc ho (by decide)) (fun b la ra p h l hn=>aW hn ho (by decide)),hu.fr2 hF (fun b aT hn=>aW hn ho (by decide)) (fun a e=>?_),hr.fr2 hF (fun b aT hn=>aW hn ho (by decide)) (fun a e=>?_)⟩
   ·have:=hu0.lt (eu ▸ e);simp only;omega
   ·have:=Mr.lt (er ▸ e);simp only;omega
  have Zj:=hy.fr hF (fun b aT hn=>aW hn ho (by decide));have:=Ll (p:=a) (x:=(g1,g2,g3)) (y:=(O,0,0)) (e:=(a,(bY m.1 a b).2,[])) hD6 ⟨rfl,Zj,rZ _⟩ (by simp only;omega) (by omega);refine this.mono ?_;rintro e w' ⟨rfl,h1,h2⟩
  have hKs:Dk w (W.setCell ⟨eb,1,O⟩ (Z g1 g2 g3)) (TX dp tb) (TX dp tb):=by
   obtain⟨⟨s1,s2⟩,CV,hn⟩:=hK;refine⟨⟨Nat.le_trans s1 hF.1,fun b hb hx=>?_⟩,CV,fun b hb=>Or.inl hb⟩;rw[hF.2 b (Nat.lt_of_lt_of_le hb s1) (by simp only;omega),s2 b hb hx]
  exact⟨rfl,h1,hKs.trans h2⟩
 unfold fQ at*;clear h hg kR;go_enter Tryz.func204,Tryz.ntmps204
 go_wp2_with (first|(go_at_call 243;refine(HI.out _ ((aJ.refl w).alloc _)).mono ?_;rintro e w2 ⟨yb,rfl,hy2,jL⟩)|(go_at_call 180;refine(HA.out w2 yb _ (((aJ.refl w).alloc _).then jL) hy2).mono ?_;rintro e w4 ⟨g1,g2,g3,rfl,DC,hy4,hK4,Tq,hle4,hcc4⟩;obtain⟨k0,k1,k2,kf⟩:=gF Tq;have kf1:=kf 1)|(go_at_call 242;refine(HR.out w4 w2.heap.size _ g1 g2 g3 hle4 Tq DC hy4 hK4 hcc4).mono ?_;rintro e w8 ⟨rfl,hD8,hK8⟩))
 go_end0;exact⟨rfl,hD8,hK8⟩
end Go.Proofs.YtfplgfodoiiobaaGreatDoor
