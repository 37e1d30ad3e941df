/- DrE (joined). -/
import Derived.Test.YtfplgfodoiiobaaGreatDoorJ17
open Option renaming none→O,some→M
open Go.Value renaming int→I,slice→Z,pointer→U
open Go.IntKind renaming i64→V
open Go.Obj renaming cells→C
open Go.Ending renaming returned→G
open Go renaming World→F,Value→Y,Calls→H
open Go.Proofs.Tryz renaming prog→K
namespace Go.Proofs.YtfplgfodoiiobaaGreatDoor
set_option maxHeartbeats 4000000
set_option maxRecDepth 100000
open Go.RowKit
variable {l c:List (Int×Int)}{p:Int}{w:F}{tb:Nat}
def TX (dp tb:Nat)(b:Nat):Prop:=b=dp\/b=tb
theorem uq (hl:dX l)(hc:dX c)(hp:0<=p)(Av:p<=sz l){k:Nat}{q:Int×Int}(hq:c[k]?=M q):Yb (bY l p (c.take k)) (p+sz (c.take k)) q=bY l p (c.take (k+1)):=by
 obtain⟨bS,he⟩:=List.getElem?_eq_some_iff.1 hq;have hs:c.take (k+1)=c.take k++ [q]:=by rw[List.take_succ_eq_append_getElem bS,he]
 have hne:c.take (k+1)≠[]:=by rw[hs];simp
 unfold Yb;by_cases h0:c.take k=[]
 ·rw[hs,h0];simp[bY,sz]
 ·have hA:dX (cB l p++c.take k):=fM (rG hl p) (fun x hx=>hc x (List.mem_of_mem_take hx));have hsA:sz (cB l p++c.take k)=p+sz (c.take k):=by rw[mV,uX hl hp Av]
  have e1:bY l p (c.take k)=(cB l p++c.take k)++bH l p:=by unfold bY;rw[if_neg h0]
  have e2:bY l p (c.take (k+1))=cB l p++c.take (k+1)++bH l p:=by unfold bY;rw[if_neg hne]
  rw[e1,e2,nJ _ hA,if_pos (by omega),nK _ hA,if_pos (by omega),Fz hA (by omega),zQ hA (by omega),hs];simp
theorem MB (hl:dX l)(hp:0<=p)(Av:p<=sz l)(k:Nat):(bY l p (c.take k)).length<=(bY l p c).length:=by
 have hw:=Cb hl hp Av;unfold bY;by_cases h0:c=[]
 ·subst h0;simp
 ·rw[if_neg h0];split
  ·simp only[List.length_append];omega
  ·simp only[List.length_append,List.length_take];omega
theorem WQ (hl:dX l)(hp:0<=p)(Av:p<=sz l):l.length<=(bY l p c).length:=by
 have:=MB (c:=c) hl hp Av 0;simpa[bY]using this
theorem uw (hl:dX l){n:Int}(hp:0<=p)(hn:0<=n)(hs:p+n<=sz l)(hr:(bY (bU l p n).1 p c).length<=4096):Dp l p n=((bU l p n).1,(bU l p n).2,0):=by
 have h1:=WQ (c:=c) (Yl hl p n) hp (by rw[KW hl hp hn (by omega)];omega);unfold Dp bU at*;rw[if_neg (by omega)];by_cases h0:n=0
 ·rw[if_pos h0,if_pos h0]
 ·rw[if_neg h0]at h1 hr;rw[if_neg h0,if_neg h0,if_neg (by simp only at h1 hr;omega)]
theorem inR_ok (hl:dX l)(hc:dX c)(hc9:∀q∈c,q.1<=1000000000)(hp:0<=p)(Av:p<=sz l)(hr:(bY l p c).length<=4096){k:Nat}{q:Int×Int}(hq:c[k]?=M q):Ul (bY l p (c.take k)) (p+sz (c.take k)) q.1 q.2=(bY l p (c.take (k+1)),0):=by
 have h1:=uq hl hc hp Av hq;have h2:=MB (c:=c) hl hp Av (k+1);have h3:=hc9 q (List.mem_of_getElem? hq);have h4:=hc q (List.mem_of_getElem? hq);have h5:=FN (more:=c.take k) hl hp Av;have h6:=kK hc k;unfold jU at h4;unfold Ul;rw[if_neg (by omega),if_neg (by omega),show((q.1,q.2):Int×Int)=q from rfl,h1,if_neg (by omega)]
theorem MC:∀(args:Array Y) (w:F),(callFunc 187 args).run K w= .ok (.enter 187 args) w:=enters_of Tryz.func187 (by kernel_rfl) rfl
theorem e_tdel:∀(args:Array Y) (w:F),(callFunc 101 args).run K w= .ok (.enter 101 args) w:=enters_of Tryz.func101 (by kernel_rfl) rfl
theorem e_tins:∀(args:Array Y) (w:F),(callFunc 63 args).run K w= .ok (.enter 63 args) w:=enters_of Tryz.func63 (by kernel_rfl) rfl
theorem Dk.jC {w1:F}{X:Nat->Prop}(h:w.grownBy w1 (M tb))(hx:X tb):Dk w w1 X X:=⟨(Fr.jC h).mono fun b e=>by cases e;exact hx,⟨h.os,h.tape,h.output⟩,fun _ hb=>Or.inl hb⟩
theorem Dk.set {w1:F}{g i:Nat}{v:Y}{X:Nat->Prop}(h:Dk w w1 X X)(hg:X g):Dk w (w1.setCell ⟨g,i,O⟩ v) X X:=h.trans ⟨(Fr.set w1 ⟨g,i,O⟩ v).mono fun b e=>by rw[e];exact hg,⟨rfl,rfl,rfl⟩,fun _ hb=>Or.inl hb⟩
theorem bN.ty (h:bN w tb l):∃aQ,w.heap[tb]?=M (C aQ 160 (0,0)):=by
 obtain⟨root,_,h,-⟩:=h;exact⟨_,h⟩
theorem tx_ty {dp:Nat}{aQ:Array Y}(hd:w.heap[dp]?=M (C aQ 147 (0,0)))(ht:∃aQ,w.heap[tb]?=M (C aQ 160 (0,0))){b:Nat}{oF:Array Y}{t:TypeId}{f:Nat×Nat}(hb:w.heap[b]?=M (C oF t f))(h1:t≠147)(h2:t≠160):¬TX dp tb b:=by
 obtain⟨c2,ht⟩:=ht;rintro(e|e)
 ·exact aW hb hd h1 e
 ·exact aW hb ht h2 e
theorem vP {dp depth:Nat}{m:bR}{x y:dS}{g:List (Int×Int)}(h:aR w dp tb depth m)(hx:bF w x g)(hy:bF w y c)(hg:dX g)(GZ:g.length<=10000)(hc:dX c)(hc9:∀q∈c,q.1<=1000000000)(LA:c.length<=10000)(hp:0<=p)(hs:p+sz g<=sz m.1)(hz:sz m.1<=100000000)(hr:(bY (bU m.1 p (sz g)).1 p c).length<=4096):
 H K 180 #[U (M ⟨dp,0,O⟩),.agg #[I V p,x.v,y.v]] w fun e w'=> ∃gv:dS,e=G gv.v/\bF w' gv (bU m.1 p (sz g)).2/\aR w' dp tb depth (bY (bU m.1 p (sz g)).1 p c,m.2)/\Dk w w' (TX dp tb) (TX dp tb)/\(w'.cell? ⟨dp,3,O⟩=w.cell? ⟨dp,3,O⟩/\w'.cell? ⟨dp,4,O⟩=w.cell? ⟨dp,4,O⟩):=by
 have jf:=nW hg
 have HC:Hid (∀W,aK w W->H K 233 #[U (M ⟨dp,0,O⟩),.agg #[I V p,x.v,y.v]] W fun e w'=>e=G (I V ((bY (bU m.1 p (sz g)).1 p c).length:Int))/\aK W w'):=fun W hW=>by
  have kV:dX m.1:=by obtain⟨_,_,_,ht,_⟩:=h;exact ht.ok.1
  have:=Tc (h.aM hW) (hx.aM hW) (hy.aM hW) hg GZ LA hp hs hz;rw[WN (came:=c) kV hp (nW hg) hs]at this;exact this
 obtain⟨u,r,hb,ht,hu,Yk⟩:=h;have kV:dX m.1:=ht.ok.1;have hyl:y.2.1=c.length:=hy.2.1;obtain⟨-,-,d2,d3w,d4w,-,-,df⟩:=bJ hb;have H34:Hid (w.cell? ⟨dp,3,O⟩=M u.v/\w.cell? ⟨dp,4,O⟩=M r.v):=⟨d3w,d4w⟩;clear d3w d4w;have hl1:dX (bU m.1 p (sz g)).1:=Yl kV _ _;have wE:sz (bU m.1 p (sz g)).1=sz m.1-sz g:=KW kV hp jf (by omega);have HDel:Hid (Dp m.1 p (sz g)=((bU m.1 p (sz g)).1,(bU m.1 p (sz g)).2,0)):=uw kV hp jf hs hr
 have HS:Hid (∀W (n:Int) (o:Array Y),aK w W->w.heap.size<W.heap.size->W.heap[w.heap.size]?=M (C o 261 (0,0))->(W.setCell ⟨dp,2,O⟩ (I V n)).heap[dp]?=M (mH (depth:Int) tb n u r m.2.2.2.1 m.2.2.2.2)/\bN (W.setCell ⟨dp,2,O⟩ (I V n)) tb m.1/\bF (W.setCell ⟨dp,2,O⟩ (I V n)) x g/\bF (W.setCell ⟨dp,2,O⟩ (I V n)) y c/\cO (W.setCell ⟨dp,2,O⟩ (I V n)) u m.2.1/\cO (W.setCell ⟨dp,2,O⟩ (I V n)) r m.2.2.1/\Dk w (W.setCell ⟨dp,2,O⟩ (I V n)) (TX dp tb) (TX dp tb)/\(W.setCell ⟨dp,2,O⟩ (I V n)).heap[w.heap.size]?=M (C o 261 (0,0))):=fun W n o hW bS ho=>by
  have bX:=(hW.block _ (aL hb)).trans hb;have hF:=Fr.set W ⟨dp,2,O⟩ (I V n);have ht1:=ht.below hW;obtain⟨tc,htc⟩:=ht1.ty;refine⟨by rw[heap_setCell_same W dp 2 _ _ _ bX];rfl,ht1.fr hF (aW htc bX (by decide)) (fun b la ra p h l hn=>aW hn bX (by decide)),(hx.aM hW).fr hF (fun b aQ hn=>aW hn bX (by decide)),(hy.aM hW).fr hF (fun b aQ hn=>aW hn bX (by decide)),(hu.aM hW).fr hF (fun b aQ hn=>aW hn bX (by decide)) (fun b aQ hn=>aW hn bX (by decide)),(Yk.aM hW).fr hF (fun b aQ hn=>aW hn bX (by decide)) (fun b aQ hn=>aW hn bX (by decide)),(Dk.bI hW).set (Or.inl rfl),hF.at ho (aW ho bX (by decide))⟩
 have H2:Hid (∀W,aK w W->W.cell? ⟨dp,2,O⟩=M (I V (m.1.length:Int))/\W.frozen? ⟨dp,2,O⟩=false):=fun W hW=>⟨hW.cell d2,(bJ ((hW.block _ (aL hb)).trans hb)).2.2.2.2.2.2.2 2⟩
 have El:Hid (∀W,bF W x g->H K 187 #[x.v] W fun e w'=>e=G (I V (sz g))/\aK W w'):=fun W hW=>rO hW hg (by omega)
 obtain⟨x1,x2,x3⟩:=x;obtain⟨y1,y2,y3⟩:=y;simp only at hyl;subst hyl;simp only[dS.v]at*;generalize hl':(bU m.1 p (sz g)).1=L at*;generalize yE:(bU m.1 p (sz g)).2=aC at*;have HIns:Hid (∀(k:Nat) (q:Int×Int),c[k]?=M q->Ul (bY L p (c.take k)) (p+sz (c.take k)) q.1 q.2=(bY L p (c.take (k+1)),0)):=fun k q hq=>inR_ok hl1 hc hc9 hp (by omega) hr hq
 have HD0:Hid (∀w6 W,aK w6 W->bN W tb m.1->H K 101 #[U (M ⟨tb,0,O⟩),I V p,I V (sz g)] W fun e w'=> ∃ao,e=G (.tuple #[Z ao aC.length aC.length,I V 0])/\bF w' (ao,aC.length,aC.length) aC/\bN w' tb L/\Dk w6 w' (fun b=>b=tb) (fun b=>b=tb)):=fun w6 W hW q2=>by
  refine(Yj q2 (pos:=p) (n:=sz g) (by omega) (by omega)).mono ?_;rw[HDel.out];rintro e w' ⟨ao,rfl,ho,ht,Ls⟩;obtain⟨ao',Gd,e1,Jd,gJ⟩:=Lr.yM ho;cases e1
  exact⟨_,rfl,⟨Jd,rfl,gJ⟩,ht,(Dk.bI hW).trans (Dk.jC Ls rfl)⟩
 generalize hN:(bY L p c).length=N at*;clear hl' yE hx hy hb ht hu Yk d2 df;go_enter Tryz.func180,Tryz.ntmps180
 go_upto_region 2 with(go_at_call 233;refine(HC.out _ (aK.alloc (aK.refl w) _)).mono ?_;rintro e w5 ⟨rfl,dY⟩;obtain⟨e1,e2⟩:=H2.out w5 ((aK.alloc (aK.refl w) _).then dY))
 have Ad:w5.heap[w.heap.size]?=_:=(dY.block _ (by simp)).trans (heap_alloc_new w _);obtain⟨q1,q2,q3,q4,q5,q6,q7,q8⟩:=HS.out w5 (N:Int) _ ((aK.alloc (aK.refl w) _).then dY) (aL Ad) Ad;obtain⟨w6,hw6⟩:∃w6,w6=w5.setCell ⟨dp,2,O⟩ (I V (N:Int)):=⟨_,rfl⟩;rw[<-hw6]at q1 q2 q3 q4 q5 q6 q7 q8 ⊢;clear HC HS H2 e1 e2 dY Ad hw6;have b0:w6.cell? ⟨w.heap.size,0,O⟩=M (I V p):=by simp[World.cell?,q8]
 have b1:w6.cell? ⟨w.heap.size,1,O⟩=M (Z x1 x2 x3):=by simp[World.cell?,q8]
 obtain⟨-,d1,-⟩:=bJ q1;have Q1:Hid (w6.heap[dp]?=M (mH (depth:Int) tb (N:Int) u r m.2.2.2.1 m.2.2.2.2)):=q1;have Q2:Hid (bN w6 tb m.1):=q2;have Q3:Hid (∀W,aK w6 W->H K 187 #[Z x1 x2 x3] W fun e w'=>e=G (I V (sz g))/\aK W w'):=fun W hW=>El.out W (q3.aM hW)
 have Q4:Hid (bF w6 (y1,c.length,y3) c):=q4;have Q5:Hid (cO w6 u m.2.1):=q5;have Q6:Hid (cO w6 r m.2.2.1):=q6;have Q7:Hid (Dk w w6 (TX dp tb) (TX dp tb)):=q7;have Q8:Hid (w6.heap[w.heap.size]?=M (C #[I V p,Z x1 x2 x3,Z y1 c.length y3] 261 (0,0))):=q8;have QD:Hid (∀W,aK w6 W->H K 101 #[U (M ⟨tb,0,O⟩),I V p,I V (sz g)] W fun e w'=> ∃ao,e=G (.tuple #[Z ao aC.length aC.length,I V 0])/\bF w' (ao,aC.length,aC.length) aC/\bN w' tb L/\Dk w6 w' (fun b=>b=tb) (fun b=>b=tb)):=fun W hW=>HD0.out w6 W hW (q2.below hW)
 clear q1 q2 q3 q4 q5 q6 q7 q8
 go_cut [5] (fun v wc=> ∃ao,v=Z ao aC.length aC.length/\Hid (bF wc (ao,aC.length,aC.length) aC/\bN wc tb L/\Dk w6 wc (fun b=>b=tb) (fun b=>b=tb)))
 case first=>
  go_region_law (first|(refine bK (by rfl) 187 _ _ (by rfl) _ (by simp[Act.eval];done) MC ((Q3.out _ (by repeat (first|exact aK.refl _|refine aK.drew ?_))).mono ?_);rintro e w7 ⟨rfl,jG⟩;refine⟨_,rfl,?_⟩;have b07:=jG.cell (show _=M (I V p) from b0);have d17:=jG.cell (show _=M (U (M ⟨tb,0,O⟩)) from d1))|(refine bK (by rfl) 101 _ _ (by rfl) _ (by simp[Act.eval];done) e_tdel ((QD.out _ (by repeat (first|exact aK.refl _|refine aK.drew ?_|refine aK.then ?_ jG))).mono ?_);rintro e w8 ⟨ao,rfl,hd8⟩;refine⟨_,rfl,?_⟩))
  all_goals go_wp2_with fail
  all_goals go_meet
  all_goals exact⟨ao,rfl,hd8⟩
 case rest=>
  obtain⟨ao,rfl,HD⟩:=hcut
  rename F=>w7
  obtain⟨tc6,AB⟩:=Q2.out.ty;obtain⟨tc7,Qt⟩:=HD.out.2.1.ty;have Uv:tb<w7.heap.size:=aL Qt;have r1:w7.heap[dp]?=M (mH (depth:Int) tb (N:Int) u r m.2.2.2.1 m.2.2.2.2):=HD.out.2.2.1.at Q1.out (aW Q1.out AB (by decide));have r2:w7.heap[w.heap.size]?=M (C #[I V p,Z x1 x2 x3,Z y1 c.length y3] 261 (0,0)):=HD.out.2.2.1.at Q8.out (aW Q8.out AB (by decide));have HY:Hid (bF w7 (y1,c.length,y3) c):=Q4.out.fr HD.out.2.2.1 (fun b aQ hn=>aW hn AB (by decide));have HT7:Hid (w7.heap[tb]?=M (C tc7 160 (0,0))):=Qt;have g0:w7.cell? ⟨w.heap.size,0,O⟩=M (I V p):=by simp[World.cell?,r2]
  have g2:w7.cell? ⟨w.heap.size,2,O⟩=M (Z y1 c.length y3):=by simp[World.cell?,r2]
  have R1:Hid (w7.heap[dp]?=M (mH (depth:Int) tb (N:Int) u r m.2.2.2.1 m.2.2.2.2)):=r1
  have HEnd:Hid (∀W,Dk w7 W (fun b=>b=tb) (fun b=>b=tb)->bN W tb (bY L p c)->bF W (ao,aC.length,aC.length) aC/\aR W dp tb depth (bY L p c,m.2)/\Dk w W (TX dp tb) (TX dp tb)/\(W.cell? ⟨dp,3,O⟩=w.cell? ⟨dp,3,O⟩/\W.cell? ⟨dp,4,O⟩=w.cell? ⟨dp,4,O⟩)):=fun W hW hTW=>by
   have hd:=Q5.out.fr HD.out.2.2.1 (fun b aQ hn=>aW hn AB (by decide)) (fun b aQ hn=>aW hn AB (by decide));have hd':=Q6.out.fr HD.out.2.2.1 (fun b aQ hn=>aW hn AB (by decide)) (fun b aQ hn=>aW hn AB (by decide));have hmo:∀b,b=tb->TX dp tb b:=fun b e=>Or.inr e
   refine⟨HD.out.1.fr hW.1 (fun b aQ hn=>aW hn Qt (by decide)),⟨u,r,?_,hTW,hd.fr hW.1 (fun b aQ hn=>aW hn Qt (by decide)) (fun b aQ hn=>aW hn Qt (by decide)),hd'.fr hW.1 (fun b aQ hn=>aW hn Qt (by decide)) (fun b aQ hn=>aW hn Qt (by decide))⟩,?_,?_⟩
   ·simp only[hN];exact hW.1.at R1.out (aW R1.out Qt (by decide))
   ·have k1:Dk w6 w7 (TX dp tb) (TX dp tb):=⟨HD.out.2.2.1.mono hmo,HD.out.2.2.2.1,fun b hb=>Or.inl hb⟩;have k2:Dk w7 W (TX dp tb) (TX dp tb):=⟨hW.1.mono hmo,hW.2.1,fun b hb=>Or.inl hb⟩;exact Q7.out.trans (k1.trans k2)
   ·obtain⟨-,-,-,e3,e4,-⟩:=bJ (hW.1.at R1.out (aW R1.out Qt (by decide)));exact⟨e3.trans H34.out.1.symm,e4.trans H34.out.2.symm⟩
  have HT0:Hid (bN w7 tb L):=HD.out.2.1;clear AB Qt r1 r2 HD Q1 Q2 Q3 Q4 Q5 Q6 Q7 Q8 QD b0 b1 d1 HD0 El HDel
  go_upto_region 5 with fail
  go_loopw [7,9,34] (fun pv _ i wr=> ∃k:Nat,k<=c.length/\pv=I V (p+sz (c.take k))/\i=I V (k:Int)/\Hid (bN wr tb (bY L p (c.take k))/\Dk w7 wr (fun b=>b=tb) (fun b=>b=tb))) (fun _ _ i _=>c.length-(intOf i).toNat)
  case atStart=>exact⟨0,Nat.zero_le _,by simp[sz],rfl,by show _/\_;exact⟨by simpa[bY]using HT0.out,Dk.refl _ _⟩⟩
  case round=>
   obtain⟨k,hk,rfl,rfl,HR⟩:=hrel;have Xo:=kK hc k;by_cases bS:k<c.length
   ·obtain⟨q,hq⟩:∃q,c[k]?=M q:=⟨_,List.getElem?_eq_getElem bS⟩;have hqo:=hc q (List.mem_of_getElem? hq);unfold jU at hqo;have HN:Hid (sz (c.take (k+1))=sz (c.take k)+q.2):=wW hq;have hyr:=HY.out.fr HR.out.2.1 (fun b aQ hn=>aW hn HT7.out (by decide));rcases hyr.1.1 with hx|⟨b,off,e1,UI⟩
    ·rw[hx]at bS;simp at bS
    ·simp only at e1;subst e1;obtain⟨d1,d2⟩:=UI k bS;have Fw:c.getD k (0,0)=q:=by simp[List.getD_eq_getElem?_getD,hq]
     have d1':wr.cell? ⟨b,off+k*2,O⟩=M (I V q.1):=(by first|simpa[Fw]using d1|(rw[Fw]at d1;exact d1));have d2':wr.cell? ⟨b,off+k*2+1,O⟩=M (I V q.2):=(by first|simpa[Fw]using d2|(rw[Fw]at d2;exact d2));obtain⟨-,t1,-⟩:=bJ (HR.out.2.1.at R1.out (aW R1.out HT7.out (by decide)));have HI:=HIns.out k q hq
     have HC:Hid (∀(o:Obj) W,aK (wr.alloc o) W->H K 63 #[U (M ⟨tb,0,O⟩),I V (p+sz (c.take k)),.agg #[I V q.1,I V q.2]] W fun e w'=>e=G (I V 0)/\bN w' tb (bY L p (c.take (k+1)))/\Dk (wr.alloc o) w' (fun b=>b=tb) (fun b=>b=tb)):=fun o W hW=>by
      refine(FK ((HR.out.1.below (aK.alloc (aK.refl wr) o)).below hW)).mono ?_;rw[HI];rintro e w' ⟨rfl,ht,Ls⟩;exact⟨rfl,ht,(Dk.bI hW).trans (Dk.jC Ls rfl)⟩
     have htr:tb<wr.heap.size:=Nat.lt_of_lt_of_le Uv HR.out.2.1.1;have i1:(0:Int)<=(k:Int):=by omega
     have i2:(k:Int)<(c.length:Int):=by omega
     clear hq UI d1 d2 Fw HI hyr;obtain⟨q1,q2⟩:=q;simp only at*;generalize sz (c.take k)=z at*
     go_upto_region 7 with fail
     go_cut [44] (fun v wc=>v=I V 0/\Hid (bN wc tb (bY L p (c.take (k+1)))/\Dk (wr.alloc (C #[I V q1,I V q2] 114)) wc (fun b=>b=tb) (fun b=>b=tb)))
     case first=>
      obtain⟨w8,hw8⟩:∃w8,w8=wr.alloc (C #[I V q1,I V q2] 114):=⟨_,rfl⟩;have t1':w8.cell? ⟨dp,1,O⟩=M (U (M ⟨tb,0,O⟩)):=by rw[hw8];exact(aK.alloc (aK.refl wr) _).cell t1
      have hb8:w8.heap[wr.heap.size]?=M (C #[I V q1,I V q2] 114 (0,0)):=by rw[hw8];exact heap_alloc_new wr _
      have b8:w8.cell? ⟨wr.heap.size,0,O⟩=M (I V q1):=by simp[World.cell?,hb8]
      have b9:w8.cell? ⟨wr.heap.size,1,O⟩=M (I V q2):=by simp[World.cell?,hb8]
      have HC8:=HC.out (C #[I V q1,I V q2] 114);rw[<-hw8]at HC8 ⊢;have HC9:Hid (∀W,aK w8 W->_):=HC8;have HW8:Hid (w8=wr.alloc (C #[I V q1,I V q2] 114)):=hw8;clear hw8 HC8 hb8 t1 HC
      go_region_law ((refine bK (by rfl) 63 _ _ (by rfl) _ (by simp[Act.eval];done) e_tins ((HC9.out _ (by repeat (first|exact aK.refl _|refine aK.drew ?_))).mono ?_);rintro e w9 ⟨rfl,hd9⟩;refine⟨_,rfl,?_⟩))
      all_goals go_wp2_with fail
      all_goals go_meet
      all_goals exact⟨rfl,by rw[<-HW8.out];exact hd9⟩
     case rest=>
      obtain⟨rfl,HZ⟩:=hcut
      rename F=>w9
      have hb9:w9.heap[wr.heap.size]?=M (C #[I V q1,I V q2] 114 (0,0)):=HZ.out.2.1.at (heap_alloc_new wr _) (fun e=>by omega);have b9:w9.cell? ⟨wr.heap.size,1,O⟩=M (I V q2):=by simp[World.cell?,hb9]
      have HR2:Hid (Dk w7 w9 (fun b=>b=tb) (fun b=>b=tb)):=HR.out.2.trans ((Dk.bI (aK.alloc (aK.refl wr) _)).trans HZ.out.2);clear HC hb9 t1 d1' d2'
      go_wp2_with fail
      go_roundw
      case rel=>exact⟨k+1,by omega,by rw[HN.out];go_num,by go_num,by show _/\_;exact⟨HZ.out.1,HR2.out⟩⟩
      case measure=>simp[intOf];omega
   ·have e1:c.take k=c:=List.take_of_length_le (by omega);rw[e1]at HR ⊢;have hi:¬(k:Int)<(c.length:Int):=by omega
    go_wp2_with fail
    go_ret;obtain⟨z1,z2,z3,z4,z5⟩:=HEnd.out _ HR.out.2 HR.out.1
    first|exact⟨(ao,aC.length,aC.length),rfl,z1,z2,z3,z4,z5⟩|exact⟨ao,aC.length,aC.length,⟨rfl,rfl,rfl⟩,z1,z2,z3,z4,z5⟩|exact⟨ao,aC.length,aC.length,rfl,z1,z2,z3,z4,z5⟩
end Go.Proofs.YtfplgfodoiiobaaGreatDoor
