/- DrE, DrF (joined). -/
import Derived.ChangeKeysEq
import Derived.Test.YtfplgfodoiiobaaGreatDoorJ14
open Option renaming none→O,some→M
open Go.Value renaming int→I,slice→Z,pointer→U
open Go.IntKind renaming i64→V
open Go.Obj renaming cells→C
open Go.Ending renaming returned→G
open Go renaming World→F,Value→Y,Calls→H
open Go.Proofs.Tryz renaming prog→K
namespace Go.Proofs.YtfplgfodoiiobaaGreatDoor
set_option maxHeartbeats 4000000
set_option maxRecDepth 100000
open Go.RowKit
variable {w:F}{tb dp depth:Nat}{l c:List (Int×Int)}{p q a b:Int}{m:bT}
def TX (dp tb:Nat)(b:Nat):Prop:=b=dp\/b=tb
theorem ins_put (hl:eF l)(hc:eF c)(hp:0<=p)(Ce:p<=sz l){k:Nat}{q:Int×Int}(hq:c[k]?=M q):EB (cB l p (c.take k)) (p+sz (c.take k)) q=cB l p (c.take (k+1)):=by
 obtain⟨bV,he⟩:=List.getElem?_eq_some_iff.1 hq;have hs:c.take (k+1)=c.take k++ [q]:=by rw[List.take_succ_eq_append_getElem bV,he]
 have hne:c.take (k+1)≠[]:=by rw[hs];simp
 unfold EB;by_cases h0:c.take k=[]
 ·rw[hs,h0];simp[cB,sz]
 ·have hA:eF (cO l p++c.take k):=fT (sP hl p) (fun x hx=>hc x (List.mem_of_mem_take hx));have hsA:sz (cO l p++c.take k)=p+sz (c.take k):=by rw[nX,vY hl hp Ce]
  have e1:cB l p (c.take k)=(cO l p++c.take k)++bJ l p:=by unfold cB;rw[if_neg h0]
  have e2:cB l p (c.take (k+1))=cO l p++c.take (k+1)++bJ l p:=by unfold cB;rw[if_neg hne]
  rw[e1,e2,oH _ hA,if_pos (by omega),oI _ hA,if_pos (by omega),Ii hA (by omega),Aj hA (by omega),hs];simp
theorem TP (hl:eF l)(hp:0<=p)(Ce:p<=sz l)(k:Nat):(cB l p (c.take k)).length<=(cB l p c).length:=by
 have hw:=Dm hl hp Ce;unfold cB;by_cases h0:c=[]
 ·subst h0;simp
 ·rw[if_neg h0];split
  ·simp only[List.length_append];omega
  ·simp only[List.length_append,List.length_take];omega
theorem qw (hl:eF l)(hp:0<=p)(Ce:p<=sz l):l.length<=(cB l p c).length:=by
 have:=TP (c:=c) hl hp Ce 0;simpa[cB]using this
theorem del_cut (hl:eF l){n:Int}(hp:0<=p)(hn:0<=n)(hs:p+n<=sz l)(hr:(cB (bY l p n).1 p c).length<=4096):Fa l p n=((bY l p n).1,(bY l p n).2,0):=by
 have h1:=qw (c:=c) (EI hl p n) hp (by rw[SN hl hp hn (by omega)];omega);unfold Fa bY at*;rw[if_neg (by omega)];by_cases h0:n=0
 ·rw[if_pos h0,if_pos h0]
 ·rw[if_neg h0]at h1 hr;rw[if_neg h0,if_neg h0,if_neg (by simp only at h1 hr;omega)]
theorem inR_ok (hl:eF l)(hc:eF c)(hc9:∀q∈c,q.1<=1000000000)(hp:0<=p)(Ce:p<=sz l)(hr:(cB l p c).length<=4096){k:Nat}{q:Int×Int}(hq:c[k]?=M q):Yp (cB l p (c.take k)) (p+sz (c.take k)) q.1 q.2=(cB l p (c.take (k+1)),0):=by
 have h1:=ins_put hl hc hp Ce hq;have h2:=TP (c:=c) hl hp Ce (k+1);have h3:=hc9 q (List.mem_of_getElem? hq);have h4:=hc q (List.mem_of_getElem? hq);have h5:=NV (more:=c.take k) hl hp Ce;have h6:=lN hc k;unfold kQ at h4;unfold Yp;rw[if_neg (by omega),if_neg (by omega),show((q.1,q.2):Int×Int)=q from rfl,h1,if_neg (by omega)]
theorem TQ:∀(args:Array Y) (w:F),(callFunc 187 args).run K w= .ok (.enter 187 args) w:=enters_of Tryz.func187 (by kernel_rfl) rfl
theorem e_tdel:∀(args:Array Y) (w:F),(callFunc 101 args).run K w= .ok (.enter 101 args) w:=enters_of Tryz.func101 (by kernel_rfl) rfl
theorem e_tins:∀(args:Array Y) (w:F),(callFunc 63 args).run K w= .ok (.enter 63 args) w:=enters_of Tryz.func63 (by kernel_rfl) rfl
theorem Dk.kG {w1:F}{X:Nat->Prop}(h:w.grownBy w1 (M tb))(hx:X tb):Dk w w1 X X:=⟨(Fr.kG h).mono fun b e=>by cases e;exact hx,⟨h.os,h.tape,h.output⟩,fun _ hb=>Or.inl hb⟩
theorem Dk.set {w1:F}{g i:Nat}{v:Y}{X:Nat->Prop}(h:Dk w w1 X X)(hg:X g):Dk w (w1.setCell ⟨g,i,O⟩ v) X X:=h.trans ⟨(Fr.set w1 ⟨g,i,O⟩ v).mono fun b e=>by rw[e];exact hg,⟨rfl,rfl,rfl⟩,fun _ hb=>Or.inl hb⟩
theorem bZ.ty (h:bZ w tb l):∃aT,w.heap[tb]?=M (C aT 160 (0,0)):=by
 obtain⟨root,_,h,-⟩:=h;exact⟨_,h⟩
theorem tx_ty {aT:Array Y}(hd:w.heap[dp]?=M (C aT 147 (0,0)))(ht:∃aT,w.heap[tb]?=M (C aT 160 (0,0))){b:Nat}{rW:Array Y}{t:TypeId}{f:Nat×Nat}(hb:w.heap[b]?=M (C rW t f))(h1:t≠147)(h2:t≠160):¬TX dp tb b:=by
 obtain⟨c2,ht⟩:=ht;rintro(e|e)
 ·exact aW hb hd h1 e
 ·exact aW hb ht h2 e
theorem wK {x y:gN}{g:List (Int×Int)}(h:aQ w dp tb depth m)(hx:bI w x g)(hy:bI w y c)(hg:eF g)(OY:g.length<=10000)(hc:eF c)(hc9:∀q∈c,q.1<=1000000000)(SS:c.length<=10000)(hp:0<=p)(hs:p+sz g<=sz m.1)(hz:sz m.1<=100000000)(hr:(cB (bY m.1 p (sz g)).1 p c).length<=4096):
 H K 180 #[U (M ⟨dp,0,O⟩),.agg #[I V p,x.v,y.v]] w fun e w'=> ∃gv:gN,e=G gv.v/\bI w' gv (bY m.1 p (sz g)).2/\aQ w' dp tb depth (cB (bY m.1 p (sz g)).1 p c,m.2)/\Dk w w' (TX dp tb) (TX dp tb)/\(w'.cell? ⟨dp,3,O⟩=w.cell? ⟨dp,3,O⟩/\w'.cell? ⟨dp,4,O⟩=w.cell? ⟨dp,4,O⟩):=by
 have hgn:=oN hg
 have HC:Hid (∀W,aJ w W->H K 233 #[U (M ⟨dp,0,O⟩),.agg #[I V p,x.v,y.v]] W fun e w'=>e=G (I V ((cB (bY m.1 p (sz g)).1 p c).length:Int))/\aJ W w'):=fun W hW=>by
  have kR:eF m.1:=by obtain⟨_,_,_,ht,_⟩:=h;exact ht.ok.1
  have:=Wv (h.aM hW) (hx.aM hW) (hy.aM hW) hg OY SS hp hs hz;rw[ql (came:=c) kR hp (oN hg) hs]at this;exact this
 obtain⟨u,r,hb,ht,hu,GJ⟩:=h;have kR:eF m.1:=ht.ok.1;have hyl:y.2.1=c.length:=hy.2.1;obtain⟨-,-,d2,d3w,d4w,-,-,df⟩:=bL hb;have H34:Hid (w.cell? ⟨dp,3,O⟩=M u.v/\w.cell? ⟨dp,4,O⟩=M r.v):=⟨d3w,d4w⟩;clear d3w d4w;have hl1:eF (bY m.1 p (sz g)).1:=EI kR _ _;have tQ:sz (bY m.1 p (sz g)).1=sz m.1-sz g:=SN kR hp hgn (by omega);have HDel:Hid (Fa m.1 p (sz g)=((bY m.1 p (sz g)).1,(bY m.1 p (sz g)).2,0)):=del_cut kR hp hgn hs hr
 have HS:Hid (∀W (n:Int) (o:Array Y),aJ w W->w.heap.size<W.heap.size->W.heap[w.heap.size]?=M (C o 261 (0,0))->(W.setCell ⟨dp,2,O⟩ (I V n)).heap[dp]?=M (nN (depth:Int) tb n u r m.2.2.2.1 m.2.2.2.2)/\bZ (W.setCell ⟨dp,2,O⟩ (I V n)) tb m.1/\bI (W.setCell ⟨dp,2,O⟩ (I V n)) x g/\bI (W.setCell ⟨dp,2,O⟩ (I V n)) y c/\dG (W.setCell ⟨dp,2,O⟩ (I V n)) u m.2.1/\dG (W.setCell ⟨dp,2,O⟩ (I V n)) r m.2.2.1/\Dk w (W.setCell ⟨dp,2,O⟩ (I V n)) (TX dp tb) (TX dp tb)/\(W.setCell ⟨dp,2,O⟩ (I V n)).heap[w.heap.size]?=M (C o 261 (0,0))):=fun W n o hW bV ho=>by
  have bX:=(hW.block _ (aK hb)).trans hb;have hF:=Fr.set W ⟨dp,2,O⟩ (I V n);have ht1:=ht.below hW;obtain⟨tc,htc⟩:=ht1.ty;refine⟨by rw[heap_setCell_same W dp 2 _ _ _ bX];rfl,ht1.fr hF (aW htc bX (by decide)) (fun b la ra p h l hn=>aW hn bX (by decide)),(hx.aM hW).fr hF (fun b aT hn=>aW hn bX (by decide)),(hy.aM hW).fr hF (fun b aT hn=>aW hn bX (by decide)),(hu.aM hW).fr hF (fun b aT hn=>aW hn bX (by decide)) (fun b aT hn=>aW hn bX (by decide)),(GJ.aM hW).fr hF (fun b aT hn=>aW hn bX (by decide)) (fun b aT hn=>aW hn bX (by decide)),(Dk.bH hW).set (Or.inl rfl),hF.at ho (aW ho bX (by decide))⟩
 have H2:Hid (∀W,aJ w W->W.cell? ⟨dp,2,O⟩=M (I V (m.1.length:Int))/\W.frozen? ⟨dp,2,O⟩=false):=fun W hW=>⟨hW.cell d2,(bL ((hW.block _ (aK hb)).trans hb)).2.2.2.2.2.2.2 2⟩
 have Gd:Hid (∀W,bI W x g->H K 187 #[x.v] W fun e w'=>e=G (I V (sz g))/\aJ W w'):=fun W hW=>sW hW hg (by omega)
 obtain⟨x1,x2,x3⟩:=x;obtain⟨y1,y2,y3⟩:=y;simp only at hyl;subst hyl;simp only[gN.v]at*;generalize hl':(bY m.1 p (sz g)).1=L at*;generalize yT:(bY m.1 p (sz g)).2=aC at*;have HIns:Hid (∀(k:Nat) (q:Int×Int),c[k]?=M q->Yp (cB L p (c.take k)) (p+sz (c.take k)) q.1 q.2=(cB L p (c.take (k+1)),0)):=fun k q hq=>inR_ok hl1 hc hc9 hp (by omega) hr hq
 have HD0:Hid (∀w6 W,aJ w6 W->bZ W tb m.1->H K 101 #[U (M ⟨tb,0,O⟩),I V p,I V (sz g)] W fun e w'=> ∃ao,e=G (.tuple #[Z ao aC.length aC.length,I V 0])/\bI w' (ao,aC.length,aC.length) aC/\bZ w' tb L/\Dk w6 w' (fun b=>b=tb) (fun b=>b=tb)):=fun w6 W hW q2=>by
  refine(EG q2 (pos:=p) (n:=sz g) (by omega) (by omega)).mono ?_;rw[HDel.out];rintro e w' ⟨ao,rfl,ho,ht,Cv⟩;obtain⟨OZ,yZ,e1,Mj,gJ⟩:=ED.zC ho;cases e1
  exact⟨_,rfl,⟨Mj,rfl,gJ⟩,ht,(Dk.bH hW).trans (Dk.kG Cv rfl)⟩
 generalize hN:(cB L p c).length=N at*;clear hl' yT hx hy hb ht hu GJ d2 df;go_enter Tryz.func180,Tryz.ntmps180
 go_upto_region 2 with(go_at_call 233;refine(HC.out _ (aJ.alloc (aJ.refl w) _)).mono ?_;rintro e w5 ⟨rfl,dK⟩;obtain⟨e1,e2⟩:=H2.out w5 ((aJ.alloc (aJ.refl w) _).then dK))
 have Ba:w5.heap[w.heap.size]?=_:=(dK.block _ (by simp)).trans (heap_alloc_new w _);obtain⟨q1,q2,q3,q4,q5,q6,q7,q8⟩:=HS.out w5 (N:Int) _ ((aJ.alloc (aJ.refl w) _).then dK) (aK Ba) Ba;obtain⟨w6,hw6⟩:∃w6,w6=w5.setCell ⟨dp,2,O⟩ (I V (N:Int)):=⟨_,rfl⟩;rw[<-hw6]at q1 q2 q3 q4 q5 q6 q7 q8 ⊢;clear HC HS H2 e1 e2 dK Ba hw6;have b0:w6.cell? ⟨w.heap.size,0,O⟩=M (I V p):=by simp[World.cell?,q8]
 have b1:w6.cell? ⟨w.heap.size,1,O⟩=M (Z x1 x2 x3):=by simp[World.cell?,q8]
 obtain⟨-,d1,-⟩:=bL q1;have Q1:Hid (w6.heap[dp]?=M (nN (depth:Int) tb (N:Int) u r m.2.2.2.1 m.2.2.2.2)):=q1;have Q2:Hid (bZ w6 tb m.1):=q2;have Q3:Hid (∀W,aJ w6 W->H K 187 #[Z x1 x2 x3] W fun e w'=>e=G (I V (sz g))/\aJ W w'):=fun W hW=>Gd.out W (q3.aM hW)
 have Q4:Hid (bI w6 (y1,c.length,y3) c):=q4;have Q5:Hid (dG w6 u m.2.1):=q5;have Q6:Hid (dG w6 r m.2.2.1):=q6;have Q7:Hid (Dk w w6 (TX dp tb) (TX dp tb)):=q7;have Q8:Hid (w6.heap[w.heap.size]?=M (C #[I V p,Z x1 x2 x3,Z y1 c.length y3] 261 (0,0))):=q8;have QD:Hid (∀W,aJ w6 W->H K 101 #[U (M ⟨tb,0,O⟩),I V p,I V (sz g)] W fun e w'=> ∃ao,e=G (.tuple #[Z ao aC.length aC.length,I V 0])/\bI w' (ao,aC.length,aC.length) aC/\bZ w' tb L/\Dk w6 w' (fun b=>b=tb) (fun b=>b=tb)):=fun W hW=>HD0.out w6 W hW (q2.below hW)
 clear q1 q2 q3 q4 q5 q6 q7 q8
 go_cut [5] (fun v wc=> ∃ao,v=Z ao aC.length aC.length/\Hid (bI wc (ao,aC.length,aC.length) aC/\bZ wc tb L/\Dk w6 wc (fun b=>b=tb) (fun b=>b=tb)))
 case first=>
  go_region_law (first|(refine bM (by rfl) 187 _ _ (by rfl) _ (by simp[Act.eval];done) TQ ((Q3.out _ (by repeat (first|exact aJ.refl _|refine aJ.drew ?_))).mono ?_);rintro e w7 ⟨rfl,jS⟩;refine⟨_,rfl,?_⟩;have b07:=jS.cell (show _=M (I V p) from b0);have d17:=jS.cell (show _=M (U (M ⟨tb,0,O⟩)) from d1))|(refine bM (by rfl) 101 _ _ (by rfl) _ (by simp[Act.eval];done) e_tdel ((QD.out _ (by repeat (first|exact aJ.refl _|refine aJ.drew ?_|refine aJ.then ?_ jS))).mono ?_);rintro e w8 ⟨ao,rfl,hd8⟩;refine⟨_,rfl,?_⟩))
  all_goals go_wp2_with fail
  all_goals go_meet
  all_goals exact⟨ao,rfl,hd8⟩
 case rest=>
  obtain⟨ao,rfl,HD⟩:=hcut
  rename F=>w7
  obtain⟨tc6,GK⟩:=Q2.out.ty;obtain⟨tc7,Uh⟩:=HD.out.2.1.ty;have Zc:tb<w7.heap.size:=aK Uh;have r1:w7.heap[dp]?=M (nN (depth:Int) tb (N:Int) u r m.2.2.2.1 m.2.2.2.2):=HD.out.2.2.1.at Q1.out (aW Q1.out GK (by decide));have r2:w7.heap[w.heap.size]?=M (C #[I V p,Z x1 x2 x3,Z y1 c.length y3] 261 (0,0)):=HD.out.2.2.1.at Q8.out (aW Q8.out GK (by decide));have HY:Hid (bI w7 (y1,c.length,y3) c):=Q4.out.fr HD.out.2.2.1 (fun b aT hn=>aW hn GK (by decide));have qz:Hid (w7.heap[tb]?=M (C tc7 160 (0,0))):=Uh;have g0:w7.cell? ⟨w.heap.size,0,O⟩=M (I V p):=by simp[World.cell?,r2]
  have g2:w7.cell? ⟨w.heap.size,2,O⟩=M (Z y1 c.length y3):=by simp[World.cell?,r2]
  have R1:Hid (w7.heap[dp]?=M (nN (depth:Int) tb (N:Int) u r m.2.2.2.1 m.2.2.2.2)):=r1
  have HEnd:Hid (∀W,Dk w7 W (fun b=>b=tb) (fun b=>b=tb)->bZ W tb (cB L p c)->bI W (ao,aC.length,aC.length) aC/\aQ W dp tb depth (cB L p c,m.2)/\Dk w W (TX dp tb) (TX dp tb)/\(W.cell? ⟨dp,3,O⟩=w.cell? ⟨dp,3,O⟩/\W.cell? ⟨dp,4,O⟩=w.cell? ⟨dp,4,O⟩)):=fun W hW hTW=>by
   have hd:=Q5.out.fr HD.out.2.2.1 (fun b aT hn=>aW hn GK (by decide)) (fun b aT hn=>aW hn GK (by decide));have hd':=Q6.out.fr HD.out.2.2.1 (fun b aT hn=>aW hn GK (by decide)) (fun b aT hn=>aW hn GK (by decide));have hmo:∀b,b=tb->TX dp tb b:=fun b e=>Or.inr e
   refine⟨HD.out.1.fr hW.1 (fun b aT hn=>aW hn Uh (by decide)),⟨u,r,?_,hTW,hd.fr hW.1 (fun b aT hn=>aW hn Uh (by decide)) (fun b aT hn=>aW hn Uh (by decide)),hd'.fr hW.1 (fun b aT hn=>aW hn Uh (by decide)) (fun b aT hn=>aW hn Uh (by decide))⟩,?_,?_⟩
   ·simp only[hN];exact hW.1.at R1.out (aW R1.out Uh (by decide))
   ·have k1:Dk w6 w7 (TX dp tb) (TX dp tb):=⟨HD.out.2.2.1.mono hmo,HD.out.2.2.2.1,fun b hb=>Or.inl hb⟩;have k2:Dk w7 W (TX dp tb) (TX dp tb):=⟨hW.1.mono hmo,hW.2.1,fun b hb=>Or.inl hb⟩;exact Q7.out.trans (k1.trans k2)
   ·obtain⟨-,-,-,e3,e4,-⟩:=bL (hW.1.at R1.out (aW R1.out Uh (by decide)));exact⟨e3.trans H34.out.1.symm,e4.trans H34.out.2.symm⟩
  have HT0:Hid (bZ w7 tb L):=HD.out.2.1;clear GK Uh r1 r2 HD Q1 Q2 Q3 Q4 Q5 Q6 Q7 Q8 QD b0 b1 d1 HD0 Gd HDel
  go_upto_region 5 with fail
  go_loopw [7,9,34] (fun pv _ i wr=> ∃k:Nat,k<=c.length/\pv=I V (p+sz (c.take k))/\i=I V (k:Int)/\Hid (bZ wr tb (cB L p (c.take k))/\Dk w7 wr (fun b=>b=tb) (fun b=>b=tb))) (fun _ _ i _=>c.length-(intOf i).toNat)
  case atStart=>exact⟨0,Nat.zero_le _,by simp[sz],rfl,by show _/\_;exact⟨by simpa[cB]using HT0.out,Dk.refl _ _⟩⟩
  case round=>
   obtain⟨k,hk,rfl,rfl,HR⟩:=hrel;have Tp:=lN hc k;by_cases bV:k<c.length
   ·obtain⟨q,hq⟩:∃q,c[k]?=M q:=⟨_,List.getElem?_eq_getElem bV⟩;have hqo:=hc q (List.mem_of_getElem? hq);unfold kQ at hqo;have HN:Hid (sz (c.take (k+1))=sz (c.take k)+q.2):=xP hq;have hyr:=HY.out.fr HR.out.2.1 (fun b aT hn=>aW hn qz.out (by decide));rcases hyr.1.1 with hx|⟨b,off,e1,hcc⟩
    ·rw[hx]at bV;simp at bV
    ·simp only at e1;subst e1;obtain⟨d1,d2⟩:=hcc k bV;have Lc:c.getD k (0,0)=q:=by simp[List.getD_eq_getElem?_getD,hq]
     have d1':wr.cell? ⟨b,off+k*2,O⟩=M (I V q.1):=(by first|simpa[Lc]using d1|(rw[Lc]at d1;exact d1));have d2':wr.cell? ⟨b,off+k*2+1,O⟩=M (I V q.2):=(by first|simpa[Lc]using d2|(rw[Lc]at d2;exact d2));obtain⟨-,t1,-⟩:=bL (HR.out.2.1.at R1.out (aW R1.out qz.out (by decide)));have HI:=HIns.out k q hq
     have HC:Hid (∀(o:Obj) W,aJ (wr.alloc o) W->H K 63 #[U (M ⟨tb,0,O⟩),I V (p+sz (c.take k)),.agg #[I V q.1,I V q.2]] W fun e w'=>e=G (I V 0)/\bZ w' tb (cB L p (c.take (k+1)))/\Dk (wr.alloc o) w' (fun b=>b=tb) (fun b=>b=tb)):=fun o W hW=>by
      refine(NS ((HR.out.1.below (aJ.alloc (aJ.refl wr) o)).below hW)).mono ?_;rw[HI];rintro e w' ⟨rfl,ht,Cv⟩;exact⟨rfl,ht,(Dk.bH hW).trans (Dk.kG Cv rfl)⟩
     have htr:tb<wr.heap.size:=Nat.lt_of_lt_of_le Zc HR.out.2.1.1;have i1:(0:Int)<=(k:Int):=by omega
     have i2:(k:Int)<(c.length:Int):=by omega
     clear hq hcc d1 d2 Lc HI hyr;obtain⟨q1,q2⟩:=q;simp only at*;generalize sz (c.take k)=z at*
     go_upto_region 7 with fail
     go_cut [44] (fun v wc=>v=I V 0/\Hid (bZ wc tb (cB L p (c.take (k+1)))/\Dk (wr.alloc (C #[I V q1,I V q2] 114)) wc (fun b=>b=tb) (fun b=>b=tb)))
     case first=>
      obtain⟨w8,hw8⟩:∃w8,w8=wr.alloc (C #[I V q1,I V q2] 114):=⟨_,rfl⟩;have t1':w8.cell? ⟨dp,1,O⟩=M (U (M ⟨tb,0,O⟩)):=by rw[hw8];exact(aJ.alloc (aJ.refl wr) _).cell t1
      have hb8:w8.heap[wr.heap.size]?=M (C #[I V q1,I V q2] 114 (0,0)):=by rw[hw8];exact heap_alloc_new wr _
      have b8:w8.cell? ⟨wr.heap.size,0,O⟩=M (I V q1):=by simp[World.cell?,hb8]
      have b9:w8.cell? ⟨wr.heap.size,1,O⟩=M (I V q2):=by simp[World.cell?,hb8]
      have HC8:=HC.out (C #[I V q1,I V q2] 114);rw[<-hw8]at HC8 ⊢;have Bb:Hid (∀W,aJ w8 W->_):=HC8;have HW8:Hid (w8=wr.alloc (C #[I V q1,I V q2] 114)):=hw8;clear hw8 HC8 hb8 t1 HC
      go_region_law ((refine bM (by rfl) 63 _ _ (by rfl) _ (by simp[Act.eval];done) e_tins ((Bb.out _ (by repeat (first|exact aJ.refl _|refine aJ.drew ?_))).mono ?_);rintro e w9 ⟨rfl,hd9⟩;refine⟨_,rfl,?_⟩))
      all_goals go_wp2_with fail
      all_goals go_meet
      all_goals exact⟨rfl,by rw[<-HW8.out];exact hd9⟩
     case rest=>
      obtain⟨rfl,HZ⟩:=hcut
      rename F=>w9
      have hb9:w9.heap[wr.heap.size]?=M (C #[I V q1,I V q2] 114 (0,0)):=HZ.out.2.1.at (heap_alloc_new wr _) (fun e=>by omega);have b9:w9.cell? ⟨wr.heap.size,1,O⟩=M (I V q2):=by simp[World.cell?,hb9]
      have HR2:Hid (Dk w7 w9 (fun b=>b=tb) (fun b=>b=tb)):=HR.out.2.trans ((Dk.bH (aJ.alloc (aJ.refl wr) _)).trans HZ.out.2);clear HC hb9 t1 d1' d2'
      go_wp2_with fail
      go_roundw
      case rel=>exact⟨k+1,by omega,by rw[HN.out];go_num,by go_num,by show _/\_;exact⟨HZ.out.1,HR2.out⟩⟩
      case measure=>simp[intOf];omega
   ·have e1:c.take k=c:=List.take_of_length_le (by omega);rw[e1]at HR ⊢;have hi:¬(k:Int)<(c.length:Int):=by omega
    go_wp2_with fail
    go_ret;obtain⟨z1,z2,z3,z4,z5⟩:=HEnd.out _ HR.out.2 HR.out.1
    first|exact⟨(ao,aC.length,aC.length),rfl,z1,z2,z3,z4,z5⟩|exact⟨ao,aC.length,aC.length,⟨rfl,rfl,rfl⟩,z1,z2,z3,z4,z5⟩|exact⟨ao,aC.length,aC.length,rfl,z1,z2,z3,z4,z5⟩
def fQ (q a b c:Int):Y:= .agg #[I .u8 q,I V a,I V b,I V c]
theorem TR (w:F)(b c:Int):bI (w.alloc (C #[I V b,I V c] 114)) (M ⟨w.heap.size,0,O⟩,1,1) [(b,c)]:=by
 have h:rQ (w.alloc (C #[I V b,I V c] 114)) 0 (Z (M ⟨w.heap.size,0,O⟩) 1 1) [(b,c)]:=
  World.ownsRow_lit (base:=0) (e:=114) (size:=2) w #[I V b,I V c] 1 (Nat.zero_le _) (by unfold maxLen;omega) rfl
 obtain⟨ao,cap,e,hr,hn⟩:=ED.zC h;cases e
 exact⟨hr,rfl,fun e=>by cases e⟩
theorem rZ (w:F):bI w (O,0,0) []:=⟨ED.nil w,rfl,fun _=>⟨rfl,rfl⟩⟩
theorem GL (w:F)(o1 o2:Obj)(b c:Int):bI (((w.alloc o1).alloc o2).alloc (C #[I V b,I V c] 114)) (M ⟨w.heap.size+2,0,O⟩,1,1) [(b,c)]:=by
 have:=TR ((w.alloc o1).alloc o2) b c;simpa using this
theorem Gg {c:Int}:H K 241 #[fQ q a b c] w fun e w'=> ∃yb:Nat,e=G (.agg #[I V a,Z O 0 0,Z (M ⟨yb,0,O⟩) 1 1])/\bI w' (M ⟨yb,0,O⟩,1,1) [(b,c)]/\aJ w w':=by
 unfold fQ;go_enter Tryz.func241,Tryz.ntmps241
 go_wp2_with fail
 refine bodyPost_ret (v:= .agg #[I V a,Z O 0 0,Z (M ⟨w.heap.size+2,0,O⟩) 1 1]) (by simp[results,Tryz.results241,go_sem]) rfl ?_;exact⟨_,rfl,GL w _ _ b c,((aJ.refl w).alloc _).alloc _|>.alloc _⟩
theorem Li {c:Int}:H K 243 #[fQ q a b c] w fun e w'=> ∃yb:Nat,e=G (.agg #[I V a,Z (M ⟨yb,0,O⟩) 1 1,Z O 0 0])/\bI w' (M ⟨yb,0,O⟩,1,1) [(0,b)]/\aJ w w':=by
 unfold fQ;go_enter Tryz.func243,Tryz.ntmps243
 go_wp2_with fail
 refine bodyPost_ret (v:= .agg #[I V a,Z (M ⟨w.heap.size+2,0,O⟩) 1 1,Z O 0 0]) (by simp[results,Tryz.results243,go_sem]) rfl ?_;exact⟨_,rfl,GL w _ _ 0 b,((aJ.refl w).alloc _).alloc _|>.alloc _⟩
def GN (m:bT)(a b c most:Int):Int:=
 if pE m.1 a 0=false then 5 else if c<1\/200<c then 6 else if most<sz m.1+c then 7 else if b≠m.2.2.2.2 then 1 else if 4096<(cB m.1 a [(b,c)]).length then 13 else 0
def Zi (m:bT)(a b c:Int):Int:=
 if b<1\/pE m.1 a b=false then 5 else if c≠0 then 1 else if 4096<(bY m.1 a b).1.length then 13 else 0
def yR (m:bT)(a b c:Int)(e:Ed):Int:=
 if ¬(a=0/\b=0/\c=0)then 1 else if 4096<(cB (bY m.1 e.1 (sz e.2.1)).1 e.1 e.2.2).length then 13 else 0
theorem Jm {c most:Int}(h:aQ w dp tb depth m)(hg:dM m depth)(hc:c<=9223372036854770000)(Nq: -9223372036854770000<=c):
 H K 201 #[U (M ⟨dp,0,O⟩),fQ q a b c,I V most] w fun e w'=>e=G (I V (GN m a b c most))/\aJ w w':=by
 have hz:=hg.long;have hzn:0<=sz m.1:=oN hg.Tg;have HH:Hid (∀W,aJ w W->H K 118 #[U (M ⟨dp,0,O⟩),I V a,I V 0] W fun e w'=>e=G (.bool (pE m.1 a 0))/\w'=W):=fun W hW=>Np (h.aM hW) (by omega) (by omega) (by omega) hzn
 have HL:Hid (∀W,aJ w W->H K 78 #[U (M ⟨dp,0,O⟩)] W fun e w'=>e=G (I V (sz m.1))/\w'=W):=fun W hW=>Dl (h.aM hW)
 have HI:Hid (∀W,aJ w W->H K 241 #[fQ q a b c] W fun e w'=> ∃yb:Nat,e=G (.agg #[I V a,Z O 0 0,Z (M ⟨yb,0,O⟩) 1 1])/\bI w' (M ⟨yb,0,O⟩,1,1) [(b,c)]/\aJ W w'):=fun W hW=>Gg
 have HR:Hid (pE m.1 a 0=true->∀W (yb:Nat),aJ w W->bI W (M ⟨yb,0,O⟩,1,1) [(b,c)]->H K 240 #[U (M ⟨dp,0,O⟩),.agg #[I V a,Z O 0 0,Z (M ⟨yb,0,O⟩) 1 1]] W fun e w'=>e=G (.bool (decide ((cB m.1 a [(b,c)]).length<=4096)))/\aJ W w'):=fun hp W yb hW hy=>by
  unfold pE at hp;simp only[Bool.and_eq_true,decide_eq_true_eq]at hp;have:=Py (p:=a) (h.aM hW) (rZ W) hy (fun q hq=>by simp at hq) (by simp) (by simp) hp.1 (by simp[sz];omega) (by omega);simpa[bY,sz,gN.v]using this
 obtain⟨u,r,hb,-⟩:=h;have HB:Hid (∀W,aJ w W->W.cell? ⟨dp,6,O⟩=M (I V m.2.2.2.2)):=fun W hW=>hW.cell (bL hb).2.2.2.2.2.2.1
 clear hb hg;unfold fQ at*;have HE:Hid (GN m a b c most=if pE m.1 a 0=false then 5 else if c<1\/200<c then 6 else if most<sz m.1+c then 7 else if b≠m.2.2.2.2 then 1 else if 4096<(cB m.1 a [(b,c)]).length then 13 else 0):=rfl;generalize sz m.1=z at*;generalize m.2.2.2.2=bf at*;generalize (cB m.1 a [(b,c)]).length=N at*;generalize GN m a b c most=R at*;cases hh:pE m.1 a 0 with
 |false=>
  rw[hh]at HH HE;go_enter Tryz.func201,Tryz.ntmps201
  go_upto_region 1 with fail
  go_quiet (fail)
  go_wp2_with (first|(go_at_call 118;refine(HH.out _ (bG (aJ.alloc (aJ.refl w) _) _)).mono ?_;rintro e w5 ⟨rfl,rfl⟩))
  go_ret;rw[HE.out];exact⟨rfl,bG (aJ.alloc (aJ.refl w) _) _⟩
 |true=>
  rw[hh]at HH HE;have HR:Hid (∀W (yb:Nat),aJ w W->bI W (M ⟨yb,0,O⟩,1,1) [(b,c)]->H K 240 #[U (M ⟨dp,0,O⟩),.agg #[I V a,Z O 0 0,Z (M ⟨yb,0,O⟩) 1 1]] W fun e w'=>e=G (.bool (decide (N<=4096)))/\aJ W w'):=HR.out hh;rw[if_neg (by simp)]at HE;by_cases h1:c<1
  ·rw[if_pos (Or.inl h1)]at HE;go_enter Tryz.func201,Tryz.ntmps201
   go_upto_region 1 with fail
   go_quiet (fail)
   have G1:Hid (aJ w ((w.alloc (C #[I .u8 q,I V a,I V b,I V c] 99)).drewN nq)):=bG (aJ.alloc (aJ.refl w) _) _;have t6:=HB.out _ G1.out
   go_wp2_with (first|(go_at_call 118;refine(HH.out _ G1.out).mono ?_;rintro e w5 ⟨rfl,rfl⟩)|(go_at_call 78;refine(HL.out _ G1.out).mono ?_;rintro e w5 ⟨rfl,rfl⟩)|(go_at_call 241;refine(HI.out _ G1.out).mono ?_;rintro e w6 ⟨yb,rfl,Zj,yJ⟩)|(go_at_call 240;refine(HR.out w6 yb (G1.out.then yJ) Zj).mono ?_;rintro e w7 ⟨rfl,jS⟩))
   go_ret;rw[HE.out];exact⟨rfl,G1.out⟩
  ·by_cases h2:200<c
   ·rw[if_pos (Or.inr h2)]at HE;go_enter Tryz.func201,Tryz.ntmps201
    go_upto_region 1 with fail
    go_quiet (fail)
    have G1:Hid (aJ w ((w.alloc (C #[I .u8 q,I V a,I V b,I V c] 99)).drewN nq)):=bG (aJ.alloc (aJ.refl w) _) _;have t6:=HB.out _ G1.out
    go_wp2_with (first|(go_at_call 118;refine(HH.out _ G1.out).mono ?_;rintro e w5 ⟨rfl,rfl⟩)|(go_at_call 78;refine(HL.out _ G1.out).mono ?_;rintro e w5 ⟨rfl,rfl⟩)|(go_at_call 241;refine(HI.out _ G1.out).mono ?_;rintro e w6 ⟨yb,rfl,Zj,yJ⟩)|(go_at_call 240;refine(HR.out w6 yb (G1.out.then yJ) Zj).mono ?_;rintro e w7 ⟨rfl,jS⟩))
    go_ret;rw[HE.out];exact⟨rfl,G1.out⟩
   ·rw[if_neg (by omega)]at HE;have ru:IntKind.i64.wrap (z+c)=z+c:=by rw[IntKind.wrap_i64];omega
    by_cases h3:most<z+c
    ·rw[if_pos h3]at HE;go_enter Tryz.func201,Tryz.ntmps201
     go_upto_region 1 with fail
     go_quiet (fail)
     have G1:Hid (aJ w ((w.alloc (C #[I .u8 q,I V a,I V b,I V c] 99)).drewN nq)):=bG (aJ.alloc (aJ.refl w) _) _;have t6:=HB.out _ G1.out
     go_wp2_with (first|(go_at_call 118;refine(HH.out _ G1.out).mono ?_;rintro e w5 ⟨rfl,rfl⟩)|(go_at_call 78;refine(HL.out _ G1.out).mono ?_;rintro e w5 ⟨rfl,rfl⟩)|(go_at_call 241;refine(HI.out _ G1.out).mono ?_;rintro e w6 ⟨yb,rfl,Zj,yJ⟩)|(go_at_call 240;refine(HR.out w6 yb (G1.out.then yJ) Zj).mono ?_;rintro e w7 ⟨rfl,jS⟩))
     go_ret;rw[HE.out];exact⟨rfl,G1.out⟩
    ·rw[if_neg h3]at HE;by_cases h4:b=bf
     ·rw[if_neg (by simpa using h4)]at HE;subst h4;by_cases h5:4096<N
      ·rw[if_pos h5]at HE;rw[decide_eq_false (by omega)]at HR;go_enter Tryz.func201,Tryz.ntmps201
       go_upto_region 1 with fail
       go_quiet (fail)
       have G1:Hid (aJ w ((w.alloc (C #[I .u8 q,I V a,I V b,I V c] 99)).drewN nq)):=bG (aJ.alloc (aJ.refl w) _) _;have t6:=HB.out _ G1.out
       go_wp2_with (first|(go_at_call 118;refine(HH.out _ G1.out).mono ?_;rintro e w5 ⟨rfl,rfl⟩)|(go_at_call 78;refine(HL.out _ G1.out).mono ?_;rintro e w5 ⟨rfl,rfl⟩)|(go_at_call 241;refine(HI.out _ G1.out).mono ?_;rintro e w6 ⟨yb,rfl,Zj,yJ⟩)|(go_at_call 240;refine(HR.out w6 yb (G1.out.then yJ) Zj).mono ?_;rintro e w7 ⟨rfl,jS⟩))
       go_ret;rw[HE.out];exact⟨rfl,(G1.out.then yJ).then jS⟩
      ·rw[if_neg h5]at HE;rw[decide_eq_true (by omega)]at HR;go_enter Tryz.func201,Tryz.ntmps201
       go_upto_region 1 with fail
       go_quiet (fail)
       have G1:Hid (aJ w ((w.alloc (C #[I .u8 q,I V a,I V b,I V c] 99)).drewN nq)):=bG (aJ.alloc (aJ.refl w) _) _;have t6:=HB.out _ G1.out
       go_wp2_with (first|(go_at_call 118;refine(HH.out _ G1.out).mono ?_;rintro e w5 ⟨rfl,rfl⟩)|(go_at_call 78;refine(HL.out _ G1.out).mono ?_;rintro e w5 ⟨rfl,rfl⟩)|(go_at_call 241;refine(HI.out _ G1.out).mono ?_;rintro e w6 ⟨yb,rfl,Zj,yJ⟩)|(go_at_call 240;refine(HR.out w6 yb (G1.out.then yJ) Zj).mono ?_;rintro e w7 ⟨rfl,jS⟩))
       go_ret;rw[HE.out];exact⟨rfl,(G1.out.then yJ).then jS⟩
     ·rw[if_pos h4]at HE;have h4':(b==bf)=false:=beq_eq_false_iff_ne.2 h4;go_enter Tryz.func201,Tryz.ntmps201
      go_upto_region 1 with fail
      go_quiet (fail)
      have G1:Hid (aJ w ((w.alloc (C #[I .u8 q,I V a,I V b,I V c] 99)).drewN nq)):=bG (aJ.alloc (aJ.refl w) _) _;have t6:=HB.out _ G1.out
      go_wp2_with (first|(go_at_call 118;refine(HH.out _ G1.out).mono ?_;rintro e w5 ⟨rfl,rfl⟩)|(go_at_call 78;refine(HL.out _ G1.out).mono ?_;rintro e w5 ⟨rfl,rfl⟩)|(go_at_call 241;refine(HI.out _ G1.out).mono ?_;rintro e w6 ⟨yb,rfl,Zj,yJ⟩)|(go_at_call 240;refine(HR.out w6 yb (G1.out.then yJ) Zj).mono ?_;rintro e w7 ⟨rfl,jS⟩))
      go_ret;rw[HE.out];exact⟨rfl,G1.out⟩
theorem Jo {c most:Int}(h:aQ w dp tb depth m)(hg:dM m depth)(fP:b<=9223372036854775807):
 H K 203 #[U (M ⟨dp,0,O⟩),fQ q a b c,I V most] w fun e w'=>e=G (I V (Zi m a b c))/\aJ w w':=by
 have hz:=hg.long;have hzn:0<=sz m.1:=oN hg.Tg;have HE:Hid (Zi m a b c=if b<1\/pE m.1 a b=false then 5 else if c≠0 then 1 else if 4096<(bY m.1 a b).1.length then 13 else 0):=rfl;by_cases h1:b<1
 ·rw[if_pos (Or.inl h1)]at HE;generalize Zi m a b c=R at*;unfold fQ;clear h hg hz hzn;go_enter Tryz.func203,Tryz.ntmps203
  go_upto_region 1 with fail
  go_quiet (fail)
  have G1:Hid (aJ w ((w.alloc (C #[I .u8 q,I V a,I V b,I V c] 99)).drewN nq)):=bG (aJ.alloc (aJ.refl w) _) _
  go_wp2_with fail
  go_ret;rw[HE.out];exact⟨rfl,G1.out⟩
 ·have HH:Hid (∀W,aJ w W->H K 118 #[U (M ⟨dp,0,O⟩),I V a,I V b] W fun e w'=>e=G (.bool (pE m.1 a b))/\w'=W):=fun W hW=>Np (h.aM hW) (by omega) fP (by omega) hzn
  have HI:Hid (∀W,aJ w W->H K 243 #[fQ q a b c] W fun e w'=> ∃yb:Nat,e=G (.agg #[I V a,Z (M ⟨yb,0,O⟩) 1 1,Z O 0 0])/\bI w' (M ⟨yb,0,O⟩,1,1) [(0,b)]/\aJ W w'):=fun W hW=>Li
  have HR0:Hid (pE m.1 a b=true->(∀W (yb:Nat),aJ w W->bI W (M ⟨yb,0,O⟩,1,1) [(0,b)]->H K 240 #[U (M ⟨dp,0,O⟩),.agg #[I V a,Z (M ⟨yb,0,O⟩) 1 1,Z O 0 0]] W fun e w'=>e=G (.bool (decide ((bY m.1 a b).1.length<=4096)))/\aJ W w')):=fun hp W yb hW hy=>by
   unfold pE at hp;simp only[Bool.and_eq_true,decide_eq_true_eq]at hp;have:=Py (p:=a) (h.aM hW) hy (rZ W) (fun q hq=>by simp at hq;subst hq;unfold kQ;simp only;omega) (by simp) (by simp) hp.1 (by simp[sz];omega) (by omega);simpa[cB,sz,gN.v]using this
  clear h hg;unfold fQ at*;generalize sz m.1=z at*;generalize (bY m.1 a b).1.length=N at*;generalize Zi m a b c=R at*;cases hh:pE m.1 a b with
  |false=>
   rw[hh]at HH HE;rw[if_pos (Or.inr rfl)]at HE;clear HR0;go_enter Tryz.func203,Tryz.ntmps203
   go_upto_region 1 with fail
   go_quiet (fail)
   have G1:Hid (aJ w ((w.alloc (C #[I .u8 q,I V a,I V b,I V c] 99)).drewN nq)):=bG (aJ.alloc (aJ.refl w) _) _
   go_wp2_with (first|(go_at_call 118;refine(HH.out _ G1.out).mono ?_;rintro e w5 ⟨rfl,rfl⟩))
   go_ret;rw[HE.out];exact⟨rfl,G1.out⟩
  |true=>
   rw[hh]at HH HE;have HR:Hid (∀W (yb:Nat),aJ w W->bI W (M ⟨yb,0,O⟩,1,1) [(0,b)]->H K 240 #[U (M ⟨dp,0,O⟩),.agg #[I V a,Z (M ⟨yb,0,O⟩) 1 1,Z O 0 0]] W fun e w'=>e=G (.bool (decide (N<=4096)))/\aJ W w'):=HR0.out hh;rw[if_neg (by simp;omega)]at HE;by_cases h4:c=0
   ·rw[if_neg (by simpa using h4)]at HE;subst h4;by_cases h5:4096<N
    ·rw[if_pos h5]at HE;rw[decide_eq_false (by omega)]at HR;go_enter Tryz.func203,Tryz.ntmps203
     go_upto_region 1 with fail
     go_quiet (fail)
     have G1:Hid (aJ w ((w.alloc (C #[I .u8 q,I V a,I V b,I V 0] 99)).drewN nq)):=bG (aJ.alloc (aJ.refl w) _) _
     go_wp2_with (first|(go_at_call 118;refine(HH.out _ G1.out).mono ?_;rintro e w5 ⟨rfl,rfl⟩)|(go_at_call 243;refine(HI.out _ G1.out).mono ?_;rintro e w6 ⟨yb,rfl,Zj,yJ⟩)|(go_at_call 240;refine(HR.out w6 yb (G1.out.then yJ) Zj).mono ?_;rintro e w7 ⟨rfl,jS⟩))
     go_ret;rw[HE.out];exact⟨rfl,(G1.out.then yJ).then jS⟩
    ·rw[if_neg h5]at HE;rw[decide_eq_true (by omega)]at HR;go_enter Tryz.func203,Tryz.ntmps203
     go_upto_region 1 with fail
     go_quiet (fail)
     have G1:Hid (aJ w ((w.alloc (C #[I .u8 q,I V a,I V b,I V 0] 99)).drewN nq)):=bG (aJ.alloc (aJ.refl w) _) _
     go_wp2_with (first|(go_at_call 118;refine(HH.out _ G1.out).mono ?_;rintro e w5 ⟨rfl,rfl⟩)|(go_at_call 243;refine(HI.out _ G1.out).mono ?_;rintro e w6 ⟨yb,rfl,Zj,yJ⟩)|(go_at_call 240;refine(HR.out w6 yb (G1.out.then yJ) Zj).mono ?_;rintro e w7 ⟨rfl,jS⟩))
     go_ret;rw[HE.out];exact⟨rfl,(G1.out.then yJ).then jS⟩
   ·rw[if_pos h4]at HE;have h4':(c==0)=false:=beq_eq_false_iff_ne.2 h4;go_enter Tryz.func203,Tryz.ntmps203
    go_upto_region 1 with fail
    go_quiet (fail)
    have G1:Hid (aJ w ((w.alloc (C #[I .u8 q,I V a,I V b,I V c] 99)).drewN nq)):=bG (aJ.alloc (aJ.refl w) _) _
    go_wp2_with (first|(go_at_call 118;refine(HH.out _ G1.out).mono ?_;rintro e w5 ⟨rfl,rfl⟩))
    go_ret;rw[HE.out];exact⟨rfl,G1.out⟩
theorem eq3 (w:F)(a b c:Int):(Op.equalIn 10000 97 (.agg #[I V a,I V b,I V c]) (.agg #[I V 0,I V 0,I V 0])).run K w= .ok (decide (a=0/\b=0/\c=0)) w:=by
 obtain⟨i0,hi,tO,tQ,uW⟩:=info_parts Tryz.infoInt;rw[run_equalIn_array w 9999 _ _ Tryz.underlying97 hi];have SS:Tryz.prog.cellsOf 3=1:=by kernel_rfl
 rw[SS];simp[List.range,List.range.loop,Op.eqItems,part,go_sem];by_cases h1:a=0<;>by_cases h2:b=0<;>by_cases h3:c=0<;>simp[h1,h2,h3]
theorem Pz {c:Int}{x y:gN}{e:Ed}(h:aQ w dp tb depth m)(hx:bI w x e.2.1)(hy:bI w y e.2.2)(hf:Bz (sz m.1) e.1 e.2.1 e.2.2)(hz:sz m.1<=5000):
 H K 244 #[U (M ⟨dp,0,O⟩),fQ q a b c,.agg #[I V e.1,x.v,y.v]] w fun r w'=>r=G (I V (yR m a b c e))/\aJ w w':=by
 obtain⟨f1,f2,f3,f4,f5,f6⟩:=hf;have HR:Hid (∀W,aJ w W->H K 240 #[U (M ⟨dp,0,O⟩),.agg #[I V e.1,x.v,y.v]] W fun r w'=>r=G (.bool (decide ((cB (bY m.1 e.1 (sz e.2.1)).1 e.1 e.2.2).length<=4096)))/\aJ W w'):=fun W hW=>Py (h.aM hW) (hx.aM hW) (hy.aM hW) f3 (by omega) (by omega) f1 f2 (by omega)
 have HE:Hid (yR m a b c e=if ¬(a=0/\b=0/\c=0)then 1 else if 4096<(cB (bY m.1 e.1 (sz e.2.1)).1 e.1 e.2.2).length then 13 else 0):=rfl;generalize (cB (bY m.1 e.1 (sz e.2.1)).1 e.1 e.2.2).length=N at*;generalize yR m a b c e=R at*;obtain⟨x1,x2,x3⟩:=x;obtain⟨y1,y2,y3⟩:=y;obtain⟨e1,e2,e3⟩:=e;unfold fQ;simp only[gN.v]at*;have G1:Hid (aJ w ((w.alloc (C #[I .u8 q,I V a,I V b,I V c] 99)).alloc (C #[I V e1,Z x1 x2 x3,Z y1 y2 y3] 261))):=((aJ.refl w).alloc _).alloc _;clear h hx hy f1 f2 f3 f4 f5 f6;by_cases h0:a=0/\b=0/\c=0
 ·have hq:∀w,_=Result.ok true w:=fun w=>(eq3 w a b c).trans (by rw[decide_eq_true h0])
  rw[if_neg (not_not_intro h0)]at HE;clear h0;by_cases h5:4096<N
  ·rw[if_pos h5]at HE;rw[decide_eq_false (by omega)]at HR;go_enter Tryz.func244,Tryz.ntmps244
   go_wp2_with (first|(go_at_call 240;refine(HR.out _ G1.out).mono ?_;rintro e w7 ⟨rfl,jS⟩))
   go_ret;rw[HE.out];exact⟨rfl,G1.out.then jS⟩
  ·rw[if_neg h5]at HE;rw[decide_eq_true (by omega)]at HR;go_enter Tryz.func244,Tryz.ntmps244
   go_wp2_with (first|(go_at_call 240;refine(HR.out _ G1.out).mono ?_;rintro e w7 ⟨rfl,jS⟩))
   go_ret;rw[HE.out];exact⟨rfl,G1.out.then jS⟩
 ·rw[if_pos h0]at HE;have hq:∀w,_=Result.ok false w:=fun w=>(eq3 w a b c).trans (by rw[decide_eq_false h0])
  clear h0;go_enter Tryz.func244,Tryz.ntmps244
  go_wp2_with fail
  go_ret;rw[HE.out];exact⟨rfl,G1.out⟩
end Go.Proofs.YtfplgfodoiiobaaGreatDoor
