/- DrE, DrF (joined). -/
import Derived.ChangeKeysEq
import Derived.Test.YtfplgfodoiiobaaGreatDoorD20
open Option renaming none→O,some→M
open Go.Value renaming int→I,slice→Z,pointer→U
open Go.IntKind renaming i64→V
open Go.Obj renaming cells→C
open Go.Ending renaming returned→G
open Go renaming World→F,Value→Y,Calls→H
open Go.Proofs.Tryz renaming prog→K
open Go.Proofs.Tryz
namespace Go.Proofs.YtfplgfodoiiobaaGreatDoor
set_option maxHeartbeats 4000000
set_option maxRecDepth 100000
open Go.RowKit
abbrev Abf:=@Bool.and_eq_true
variable {w:F}{tb dp depth:Nat}{l c:List (Int×Int)}{p q a b:Int}{m:dD}
def TX (dp tb:Nat)(b:Nat):Prop:=b=dp\/b=tb
theorem ins_put (hl:eY l)(hc:eY c)(hp:0<=p)(Wt:p<=sz l){k:Nat}{q:Int×Int}(hq:c[k]?=M q):FT (bQ l p (c.take k)) (p+sz (c.take k)) q=bQ l p (c.take (k+1)):=by
 obtain⟨bP,he⟩:=Aae.1 hq;have hs:c.take (k+1)=c.take k++ [q]:=by rw[Aau bP,he]
 have hne:c.take (k+1)≠[]:=by rw[hs];simp
 unfold FT;by_cases h0:c.take k=[]
 ·rw[hs,h0];simp[bQ,sz]
 ·have hA:eY (dS l p++c.take k):=iD (vQ hl p) (fun x hx=>hc x (AaX hx));have hsA:sz (dS l p++c.take k)=p+sz (c.take k):=by rw[oI,yQ hl hp Wt]
  have e1:bQ l p (c.take k)=(dS l p++c.take k)++bT l p:=by unfold bQ;rw[Aaa h0]
  have e2:bQ l p (c.take (k+1))=dS l p++c.take (k+1)++bT l p:=by unfold bQ;rw[Aaa hne]
  rw[e1,e2,qP _ hA,Aad (by omega),qQ _ hA,Aad (by omega),Ew hA (by omega),Ey hA (by omega),hs];simp
theorem UR (hl:eY l)(hp:0<=p)(Wt:p<=sz l)(k:Nat):(bQ l p (c.take k)).length<=(bQ l p c).length:=by
 have hw:=Jd hl hp Wt;unfold bQ;by_cases h0:c=[]
 ·subst h0;simp
 ·rw[Aaa h0];split
  ·simp only[Aah];omega
  ·simp only[Aah,Aaw];omega
theorem r_ (hl:eY l)(hp:0<=p)(Wt:p<=sz l):l.length<=(bQ l p c).length:=by
 have:=UR (c:=c) hl hp Wt 0;simpa[bQ]using this
theorem del_cut (hl:eY l){n:Int}(hp:0<=p)(hn:0<=n)(hs:p+n<=sz l)(hr:(bQ (bL l p n).1 p c).length<=4096):Kj l p n=((bL l p n).1,(bL l p n).2,0):=by
 have h1:=r_ (c:=c) (Kk hl p n) hp (by rw[Qw hl hp hn (by omega)];omega);unfold Kj bL at*;rw[Aaa (by omega)];by_cases h0:n=0
 ·rw[Aad h0,Aad h0]
 ·rw[Aaa h0]at h1 hr;rw[Aaa h0,Aaa h0,Aaa (by simp only at h1 hr;omega)]
theorem inR_ok (hl:eY l)(hc:eY c)(hc9:∀q∈c,q.1<=1000000000)(hp:0<=p)(Wt:p<=sz l)(hr:(bQ l p c).length<=4096){k:Nat}{q:Int×Int}(hq:c[k]?=M q):Sm (bQ l p (c.take k)) (p+sz (c.take k)) q.1 q.2=(bQ l p (c.take (k+1)),0):=by
 have h1:=ins_put hl hc hp Wt hq;have h2:=UR (c:=c) hl hp Wt (k+1);have h3:=hc9 q (Aai hq);have h4:=hc q (Aai hq);have h5:=OY (more:=c.take k) hl hp Wt;have h6:=nZ hc k;unfold mV at h4;unfold Sm;rw[Aaa (by omega),Aaa (by omega),show((q.1,q.2):Int×Int)=q from rfl,h1,Aaa (by omega)]
theorem UU:∀(args:Array Y) (w:F),(callFunc 187 args).run K w= .ok (.enter 187 args) w:=enters_of func187 (by kernel_rfl) rfl
theorem e_tdel:∀(args:Array Y) (w:F),(callFunc 101 args).run K w= .ok (.enter 101 args) w:=enters_of func101 (by kernel_rfl) rfl
theorem e_tins:∀(args:Array Y) (w:F),(callFunc 63 args).run K w= .ok (.enter 63 args) w:=enters_of func63 (by kernel_rfl) rfl
theorem Dk.kC {w1:F}{X:Nat->Prop}(h:w.grownBy w1 (M tb))(hx:X tb):Dk w w1 X X:=⟨(Fr.kC h).mono fun b e=>by cases e;exact hx,⟨h.os,h.tape,h.output⟩,fun _ hb=>Aac hb⟩
theorem Dk.set {w1:F}{g i:Nat}{v:Y}{X:Nat->Prop}(h:Dk w w1 X X)(hg:X g):Dk w (w1.setCell ⟨g,i,O⟩ v) X X:=h.trans ⟨(Fr.set w1 ⟨g,i,O⟩ v).mono fun b e=>by rw[e];exact hg,⟨rfl,rfl,rfl⟩,fun _ hb=>Aac hb⟩
theorem dG.ty (h:dG w tb l):∃aS,w.heap[tb]?=M (C aS 160 (0,0)):=by
 obtain⟨root,_,h,-⟩:=h;exact⟨_,h⟩
theorem tx_ty {aS:Array Y}(hd:w.heap[dp]?=M (C aS 147 (0,0)))(ht:∃aS,w.heap[tb]?=M (C aS 160 (0,0))){b:Nat}{qN:Array Y}{t:TypeId}{f:Nat×Nat}(hb:w.heap[b]?=M (C qN t f))(h1:t≠147)(h2:t≠160):¬TX dp tb b:=by
 obtain⟨c2,ht⟩:=ht;rintro(e|e)
 ·exact aZ hb hd h1 e
 ·exact aZ hb ht h2 e
theorem zL {x y:bS}{g:List (Int×Int)}(h:aV w dp tb depth m)(hx:bH w x g)(hy:bH w y c)(hg:eY g)(Fu:g.length<=10000)(hc:eY c)(hc9:∀q∈c,q.1<=1000000000)(TH:c.length<=10000)(hp:0<=p)(hs:p+sz g<=sz m.1)(hz:sz m.1<=100000000)(hr:(bQ (bL m.1 p (sz g)).1 p c).length<=4096):
 H K 180 #[U (M ⟨dp,0,O⟩),.agg #[I V p,x.v,y.v]] w fun e w'=> ∃gv:bS,e=G gv.v/\bH w' gv (bL m.1 p (sz g)).2/\aV w' dp tb depth (bQ (bL m.1 p (sz g)).1 p c,m.2)/\Dk w w' (TX dp tb) (TX dp tb)/\(w'.cell? ⟨dp,3,O⟩=w.cell? ⟨dp,3,O⟩/\w'.cell? ⟨dp,4,O⟩=w.cell? ⟨dp,4,O⟩):=by
 have Zg:=rG hg
 have HC:Hid (∀W,aL w W->H K 233 #[U (M ⟨dp,0,O⟩),.agg #[I V p,x.v,y.v]] W fun e w'=>e=G (I V ((bQ (bL m.1 p (sz g)).1 p c).length:Int))/\aL W w'):=fun W hW=>by
  have kP:eY m.1:=by obtain⟨_,_,_,ht,_⟩:=h;exact ht.ok.1
  have:=Zn (h.aN hW) (hx.aN hW) (hy.aN hW) hg Fu TH hp hs hz;rw[o_ (came:=c) kP hp (rG hg) hs]at this;exact this
 obtain⟨u,r,hb,ht,hu,Fe⟩:=h;have kP:eY m.1:=ht.ok.1;have hyl:y.2.1=c.length:=hy.2.1;obtain⟨-,-,d2,d3w,d4w,-,-,df⟩:=bZ hb;have H34:Hid (w.cell? ⟨dp,3,O⟩=M u.v/\w.cell? ⟨dp,4,O⟩=M r.v):=⟨d3w,d4w⟩;clear d3w d4w;have hl1:eY (bL m.1 p (sz g)).1:=Kk kP _ _;have nM:sz (bL m.1 p (sz g)).1=sz m.1-sz g:=Qw kP hp Zg (by omega);have HDel:Hid (Kj m.1 p (sz g)=((bL m.1 p (sz g)).1,(bL m.1 p (sz g)).2,0)):=del_cut kP hp Zg hs hr
 have HS:Hid (∀W (n:Int) (o:Array Y),aL w W->w.heap.size<W.heap.size->W.heap[w.heap.size]?=M (C o 261 (0,0))->(W.setCell ⟨dp,2,O⟩ (I V n)).heap[dp]?=M (pW (depth:Int) tb n u r m.2.2.2.1 m.2.2.2.2)/\dG (W.setCell ⟨dp,2,O⟩ (I V n)) tb m.1/\bH (W.setCell ⟨dp,2,O⟩ (I V n)) x g/\bH (W.setCell ⟨dp,2,O⟩ (I V n)) y c/\dR (W.setCell ⟨dp,2,O⟩ (I V n)) u m.2.1/\dR (W.setCell ⟨dp,2,O⟩ (I V n)) r m.2.2.1/\Dk w (W.setCell ⟨dp,2,O⟩ (I V n)) (TX dp tb) (TX dp tb)/\(W.setCell ⟨dp,2,O⟩ (I V n)).heap[w.heap.size]?=M (C o 261 (0,0))):=fun W n o hW bP ho=>by
  have dY:=(hW.block _ (aM hb)).trans hb;have hF:=Fr.set W ⟨dp,2,O⟩ (I V n);have ht1:=ht.below hW;obtain⟨tc,htc⟩:=ht1.ty;refine⟨by rw[Aaj W dp 2 _ _ _ dY];rfl,ht1.fr hF (aZ htc dY (by decide)) (fun b la ra p h l hn=>aZ hn dY (by decide)),(hx.aN hW).fr hF (fun b aS hn=>aZ hn dY (by decide)),(hy.aN hW).fr hF (fun b aS hn=>aZ hn dY (by decide)),(hu.aN hW).fr hF (fun b aS hn=>aZ hn dY (by decide)) (fun b aS hn=>aZ hn dY (by decide)),(Fe.aN hW).fr hF (fun b aS hn=>aZ hn dY (by decide)) (fun b aS hn=>aZ hn dY (by decide)),(Dk.bX hW).set (Aac rfl),hF.at ho (aZ ho dY (by decide))⟩
 have H2:Hid (∀W,aL w W->W.cell? ⟨dp,2,O⟩=M (I V (m.1.length:Int))/\W.frozen? ⟨dp,2,O⟩=false):=fun W hW=>⟨hW.cell d2,(bZ ((hW.block _ (aM hb)).trans hb)).2.2.2.2.2.2.2 2⟩;have QE:Hid (∀W,bH W x g->H K 187 #[x.v] W fun e w'=>e=G (I V (sz g))/\aL W w'):=fun W hW=>vZ hW hg (by omega);obtain⟨x1,x2,x3⟩:=x;obtain⟨y1,y2,y3⟩:=y;simp only at hyl;subst hyl;simp only[bS.v]at*;generalize hl':(bL m.1 p (sz g)).1=L at*;generalize uN:(bL m.1 p (sz g)).2=aB at*;have HIns:Hid (∀(k:Nat) (q:Int×Int),c[k]?=M q->Sm (bQ L p (c.take k)) (p+sz (c.take k)) q.1 q.2=(bQ L p (c.take (k+1)),0)):=fun k q hq=>inR_ok hl1 hc hc9 hp (by omega) hr hq
 have HD0:Hid (∀w6 W,aL w6 W->dG W tb m.1->H K 101 #[U (M ⟨tb,0,O⟩),I V p,I V (sz g)] W fun e w'=> ∃ao,e=G (.tuple #[Z ao aB.length aB.length,I V 0])/\bH w' (ao,aB.length,aB.length) aB/\dG w' tb L/\Dk w6 w' (fun b=>b=tb) (fun b=>b=tb)):=fun w6 W hW q2=>by
  refine(GD q2 (pos:=p) (n:=sz g) (by omega) (by omega)).mono ?_;rw[HDel.out];rintro e w' ⟨ao,rfl,ho,ht,Cq⟩;obtain⟨Gq,nH,e1,Bz,gL⟩:=yF.nP ho;cases e1
  exact⟨_,rfl,⟨Bz,rfl,gL⟩,ht,(Dk.bX hW).trans (Dk.kC Cq rfl)⟩
 generalize hN:(bQ L p c).length=N at*;clear hl' uN hx hy hb ht hu Fe d2 df;go_enter func180,ntmps180;go_upto_region 2 with(go_at_call 233;refine(HC.out _ (aL.alloc (aL.refl w) _)).mono ?_;rintro e w5 ⟨rfl,eO⟩;obtain⟨e1,e2⟩:=H2.out w5 ((aL.alloc (aL.refl w) _).then eO));have qZ:w5.heap[w.heap.size]?=_:=(eO.block _ (by simp)).trans (Aaf w _);obtain⟨q1,q2,q3,q4,q5,q6,q7,q8⟩:=HS.out w5 (N:Int) _ ((aL.alloc (aL.refl w) _).then eO) (aM qZ) qZ;obtain⟨w6,hw6⟩:∃w6,w6=w5.setCell ⟨dp,2,O⟩ (I V (N:Int)):=⟨_,rfl⟩;rw[<-hw6]at q1 q2 q3 q4 q5 q6 q7 q8 ⊢;clear HC HS H2 e1 e2 eO qZ hw6;have b0:w6.cell? ⟨w.heap.size,0,O⟩=M (I V p):=by simp[World.cell?,q8]
 have b1:w6.cell? ⟨w.heap.size,1,O⟩=M (Z x1 x2 x3):=by simp[World.cell?,q8]
 obtain⟨-,d1,-⟩:=bZ q1;have Q1:Hid (w6.heap[dp]?=M (pW (depth:Int) tb (N:Int) u r m.2.2.2.1 m.2.2.2.2)):=q1;have Q2:Hid (dG w6 tb m.1):=q2;have Q3:Hid (∀W,aL w6 W->H K 187 #[Z x1 x2 x3] W fun e w'=>e=G (I V (sz g))/\aL W w'):=fun W hW=>QE.out W (q3.aN hW);have Q4:Hid (bH w6 (y1,c.length,y3) c):=q4;have Q5:Hid (dR w6 u m.2.1):=q5;have Q6:Hid (dR w6 r m.2.2.1):=q6;have Q7:Hid (Dk w w6 (TX dp tb) (TX dp tb)):=q7;have Q8:Hid (w6.heap[w.heap.size]?=M (C #[I V p,Z x1 x2 x3,Z y1 c.length y3] 261 (0,0))):=q8;have QD:Hid (∀W,aL w6 W->H K 101 #[U (M ⟨tb,0,O⟩),I V p,I V (sz g)] W fun e w'=> ∃ao,e=G (.tuple #[Z ao aB.length aB.length,I V 0])/\bH w' (ao,aB.length,aB.length) aB/\dG w' tb L/\Dk w6 w' (fun b=>b=tb) (fun b=>b=tb)):=fun W hW=>HD0.out w6 W hW (q2.below hW);clear q1 q2 q3 q4 q5 q6 q7 q8
 go_cut [5] (fun v wc=> ∃ao,v=Z ao aB.length aB.length/\Hid (bH wc (ao,aB.length,aB.length) aB/\dG wc tb L/\Dk w6 wc (fun b=>b=tb) (fun b=>b=tb)))
 case first=>
  go_region_law (first|(refine cB (by rfl) 187 _ _ (by rfl) _ (by simp[Act.eval];done) UU ((Q3.out _ (by repeat (first|exact aL.refl _|refine aL.drew ?_))).mono ?_);rintro e w7 ⟨rfl,oH⟩;refine⟨_,rfl,?_⟩;have b07:=oH.cell (show _=M (I V p) from b0);have d17:=oH.cell (show _=M (U (M ⟨tb,0,O⟩)) from d1))|(refine cB (by rfl) 101 _ _ (by rfl) _ (by simp[Act.eval];done) e_tdel ((QD.out _ (by repeat (first|exact aL.refl _|refine aL.drew ?_|refine aL.then ?_ oH))).mono ?_);rintro e w8 ⟨ao,rfl,hd8⟩;refine⟨_,rfl,?_⟩))
  all_goals go_wp2_with fail
  all_goals go_meet
  all_goals exact⟨ao,rfl,hd8⟩
 case rest=>
  obtain⟨ao,rfl,HD⟩:=hcut
  rename F=>w7
  obtain⟨tc6,JW⟩:=Q2.out.ty;obtain⟨tc7,Wz⟩:=HD.out.2.1.ty;have Vu:tb<w7.heap.size:=aM Wz;have r1:w7.heap[dp]?=M (pW (depth:Int) tb (N:Int) u r m.2.2.2.1 m.2.2.2.2):=HD.out.2.2.1.at Q1.out (aZ Q1.out JW (by decide));have r2:w7.heap[w.heap.size]?=M (C #[I V p,Z x1 x2 x3,Z y1 c.length y3] 261 (0,0)):=HD.out.2.2.1.at Q8.out (aZ Q8.out JW (by decide));have HY:Hid (bH w7 (y1,c.length,y3) c):=Q4.out.fr HD.out.2.2.1 (fun b aS hn=>aZ hn JW (by decide));have HT7:Hid (w7.heap[tb]?=M (C tc7 160 (0,0))):=Wz;have g0:w7.cell? ⟨w.heap.size,0,O⟩=M (I V p):=by simp[World.cell?,r2]
  have g2:w7.cell? ⟨w.heap.size,2,O⟩=M (Z y1 c.length y3):=by simp[World.cell?,r2]
  have R1:Hid (w7.heap[dp]?=M (pW (depth:Int) tb (N:Int) u r m.2.2.2.1 m.2.2.2.2)):=r1
  have HEnd:Hid (∀W,Dk w7 W (fun b=>b=tb) (fun b=>b=tb)->dG W tb (bQ L p c)->bH W (ao,aB.length,aB.length) aB/\aV W dp tb depth (bQ L p c,m.2)/\Dk w W (TX dp tb) (TX dp tb)/\(W.cell? ⟨dp,3,O⟩=w.cell? ⟨dp,3,O⟩/\W.cell? ⟨dp,4,O⟩=w.cell? ⟨dp,4,O⟩)):=fun W hW hTW=>by
   have hd:=Q5.out.fr HD.out.2.2.1 (fun b aS hn=>aZ hn JW (by decide)) (fun b aS hn=>aZ hn JW (by decide));have hd':=Q6.out.fr HD.out.2.2.1 (fun b aS hn=>aZ hn JW (by decide)) (fun b aS hn=>aZ hn JW (by decide));have hmo:∀b,b=tb->TX dp tb b:=fun b e=>Aab e;refine⟨HD.out.1.fr hW.1 (fun b aS hn=>aZ hn Wz (by decide)),⟨u,r,?_,hTW,hd.fr hW.1 (fun b aS hn=>aZ hn Wz (by decide)) (fun b aS hn=>aZ hn Wz (by decide)),hd'.fr hW.1 (fun b aS hn=>aZ hn Wz (by decide)) (fun b aS hn=>aZ hn Wz (by decide))⟩,?_,?_⟩
   ·simp only[hN];exact hW.1.at R1.out (aZ R1.out Wz (by decide))
   ·have k1:Dk w6 w7 (TX dp tb) (TX dp tb):=⟨HD.out.2.2.1.mono hmo,HD.out.2.2.2.1,fun b hb=>Aac hb⟩;have k2:Dk w7 W (TX dp tb) (TX dp tb):=⟨hW.1.mono hmo,hW.2.1,fun b hb=>Aac hb⟩;exact Q7.out.trans (k1.trans k2)
   ·obtain⟨-,-,-,e3,e4,-⟩:=bZ (hW.1.at R1.out (aZ R1.out Wz (by decide)));exact⟨e3.trans H34.out.1.symm,e4.trans H34.out.2.symm⟩
  have HT0:Hid (dG w7 tb L):=HD.out.2.1;clear JW Wz r1 r2 HD Q1 Q2 Q3 Q4 Q5 Q6 Q7 Q8 QD b0 b1 d1 HD0 QE HDel;go_upto_region 5 with fail
  go_loopw [7,9,34] (fun pv _ i wr=> ∃k:Nat,k<=c.length/\pv=I V (p+sz (c.take k))/\i=I V (k:Int)/\Hid (dG wr tb (bQ L p (c.take k))/\Dk w7 wr (fun b=>b=tb) (fun b=>b=tb))) (fun _ _ i _=>c.length-(intOf i).toNat)
  case atStart=>exact⟨0,Aap _,by simp[sz],rfl,by show _/\_;exact⟨by simpa[bQ]using HT0.out,Dk.refl _ _⟩⟩
  case round=>
   obtain⟨k,hk,rfl,rfl,HR⟩:=hrel;have FI:=nZ hc k;by_cases bP:k<c.length
   ·obtain⟨q,hq⟩:∃q,c[k]?=M q:=⟨_,Aag bP⟩;have hqo:=hc q (Aai hq);unfold mV at hqo;have HN:Hid (sz (c.take (k+1))=sz (c.take k)+q.2):=Be hq;have hyr:=HY.out.fr HR.out.2.1 (fun b aS hn=>aZ hn HT7.out (by decide));rcases hyr.1.1 with hx|⟨b,off,e1,XF⟩
    ·rw[hx]at bP;simp at bP
    ·simp only at e1;subst e1;obtain⟨d1,d2⟩:=XF k bP;have Kc:c.getD k (0,0)=q:=(by simp[List.getD_eq_getElem?_getD,hq]);have d1':wr.cell? ⟨b,off+k*2,O⟩=M (I V q.1):=(by first|simpa[Kc]using d1|(rw[Kc]at d1;exact d1));have d2':wr.cell? ⟨b,off+k*2+1,O⟩=M (I V q.2):=(by first|simpa[Kc]using d2|(rw[Kc]at d2;exact d2));obtain⟨-,t1,-⟩:=bZ (HR.out.2.1.at R1.out (aZ R1.out HT7.out (by decide)));have HI:=HIns.out k q hq
     have HC:Hid (∀(o:Obj) W,aL (wr.alloc o) W->H K 63 #[U (M ⟨tb,0,O⟩),I V (p+sz (c.take k)),.agg #[I V q.1,I V q.2]] W fun e w'=>e=G (I V 0)/\dG w' tb (bQ L p (c.take (k+1)))/\Dk (wr.alloc o) w' (fun b=>b=tb) (fun b=>b=tb)):=fun o W hW=>by
      refine(Ik ((HR.out.1.below (aL.alloc (aL.refl wr) o)).below hW)).mono ?_;rw[HI];rintro e w' ⟨rfl,ht,Cq⟩;exact⟨rfl,ht,(Dk.bX hW).trans (Dk.kC Cq rfl)⟩
     have htr:tb<wr.heap.size:=AaC Vu HR.out.2.1.1;have i1:(0:Int)<=(k:Int):=(by omega);have i2:(k:Int)<(c.length:Int):=(by omega);clear hq XF d1 d2 Kc HI hyr;obtain⟨q1,q2⟩:=q;simp only at*;generalize sz (c.take k)=z at*;go_upto_region 7 with fail
     go_cut [44] (fun v wc=>v=I V 0/\Hid (dG wc tb (bQ L p (c.take (k+1)))/\Dk (wr.alloc (C #[I V q1,I V q2] 114)) wc (fun b=>b=tb) (fun b=>b=tb)))
     case first=>
      obtain⟨w8,t_⟩:∃w8,w8=wr.alloc (C #[I V q1,I V q2] 114):=⟨_,rfl⟩;have t1':w8.cell? ⟨dp,1,O⟩=M (U (M ⟨tb,0,O⟩)):=(by rw[t_];exact(aL.alloc (aL.refl wr) _).cell t1);have GJ:w8.heap[wr.heap.size]?=M (C #[I V q1,I V q2] 114 (0,0)):=(by rw[t_];exact Aaf wr _);have b8:w8.cell? ⟨wr.heap.size,0,O⟩=M (I V q1):=(by simp[World.cell?,GJ]);have b9:w8.cell? ⟨wr.heap.size,1,O⟩=M (I V q2):=(by simp[World.cell?,GJ]);have HC8:=HC.out (C #[I V q1,I V q2] 114);rw[<-t_]at HC8 ⊢;have HC9:Hid (∀W,aL w8 W->_):=HC8;have HW8:Hid (w8=wr.alloc (C #[I V q1,I V q2] 114)):=t_;clear t_ HC8 GJ t1 HC
      go_region_law ((refine cB (by rfl) 63 _ _ (by rfl) _ (by simp[Act.eval];done) e_tins ((HC9.out _ (by repeat (first|exact aL.refl _|refine aL.drew ?_))).mono ?_);rintro e w9 ⟨rfl,hd9⟩;refine⟨_,rfl,?_⟩))
      all_goals go_wp2_with fail
      all_goals go_meet
      all_goals exact⟨rfl,by rw[<-HW8.out];exact hd9⟩
     case rest=>
      obtain⟨rfl,HZ⟩:=hcut
      rename F=>w9
      have hb9:w9.heap[wr.heap.size]?=M (C #[I V q1,I V q2] 114 (0,0)):=HZ.out.2.1.at (Aaf wr _) (fun e=>by omega);have b9:w9.cell? ⟨wr.heap.size,1,O⟩=M (I V q2):=(by simp[World.cell?,hb9]);have HR2:Hid (Dk w7 w9 (fun b=>b=tb) (fun b=>b=tb)):=HR.out.2.trans ((Dk.bX (aL.alloc (aL.refl wr) _)).trans HZ.out.2);clear HC hb9 t1 d1' d2';go_wp2_with fail;go_roundw
      case rel=>exact⟨k+1,by omega,by rw[HN.out];go_num,by go_num,by show _/\_;exact⟨HZ.out.1,HR2.out⟩⟩
      case measure=>simp[intOf];omega
   ·have e1:c.take k=c:=Aaq (by omega);rw[e1]at HR ⊢;have hi:¬(k:Int)<(c.length:Int):=(by omega);go_wp2_with fail;go_ret;obtain⟨z1,z2,z3,z4,z5⟩:=HEnd.out _ HR.out.2 HR.out.1
    first|exact⟨(ao,aB.length,aB.length),rfl,z1,z2,z3,z4,z5⟩|exact⟨ao,aB.length,aB.length,⟨rfl,rfl,rfl⟩,z1,z2,z3,z4,z5⟩|exact⟨ao,aB.length,aB.length,rfl,z1,z2,z3,z4,z5⟩
def iC (q a b c:Int):Y:= .agg #[I .u8 q,I V a,I V b,I V c]
theorem UW (w:F)(b c:Int):bH (w.alloc (C #[I V b,I V c] 114)) (M ⟨w.heap.size,0,O⟩,1,1) [(b,c)]:=by
 have h:gY (w.alloc (C #[I V b,I V c] 114)) 0 (Z (M ⟨w.heap.size,0,O⟩) 1 1) [(b,c)]:=
  Aco (base:=0) (e:=114) (size:=2) w #[I V b,I V c] 1 (Aap _) (by unfold maxLen;omega) rfl
 obtain⟨ao,cap,e,hr,hn⟩:=yF.nP h;cases e
 exact⟨hr,rfl,fun e=>by cases e⟩
theorem vJ (w:F):bH w (O,0,0) []:=⟨yF.nil w,rfl,fun _=>⟨rfl,rfl⟩⟩
theorem JX (w:F)(o1 o2:Obj)(b c:Int):bH (((w.alloc o1).alloc o2).alloc (C #[I V b,I V c] 114)) (M ⟨w.heap.size+2,0,O⟩,1,1) [(b,c)]:=by
 have:=UW ((w.alloc o1).alloc o2) b c;simpa using this
theorem Ld {c:Int}:H K 241 #[iC q a b c] w fun e w'=> ∃yb:Nat,e=G (.agg #[I V a,Z O 0 0,Z (M ⟨yb,0,O⟩) 1 1])/\bH w' (M ⟨yb,0,O⟩,1,1) [(b,c)]/\aL w w':=by
 unfold iC;go_enter func241,ntmps241
 go_wp2
 refine Aan (v:= .agg #[I V a,Z O 0 0,Z (M ⟨w.heap.size+2,0,O⟩) 1 1]) (by simp[results,results241,go_sem]) rfl ?_;exact⟨_,rfl,JX w _ _ b c,((aL.refl w).alloc _).alloc _|>.alloc _⟩
theorem Pt {c:Int}:H K 243 #[iC q a b c] w fun e w'=> ∃yb:Nat,e=G (.agg #[I V a,Z (M ⟨yb,0,O⟩) 1 1,Z O 0 0])/\bH w' (M ⟨yb,0,O⟩,1,1) [(0,b)]/\aL w w':=by
 unfold iC;go_enter func243,ntmps243
 go_wp2
 refine Aan (v:= .agg #[I V a,Z (M ⟨w.heap.size+2,0,O⟩) 1 1,Z O 0 0]) (by simp[results,results243,go_sem]) rfl ?_;exact⟨_,rfl,JX w _ _ 0 b,((aL.refl w).alloc _).alloc _|>.alloc _⟩
def JY (m:dD)(a b c most:Int):Int:=
 if rR m.1 a 0=false then 5 else if c<1\/200<c then 6 else if most<sz m.1+c then 7 else if b≠m.2.2.2.2 then 1 else if 4096<(bQ m.1 a [(b,c)]).length then 13 else 0
def CK (m:dD)(a b c:Int):Int:=
 if b<1\/rR m.1 a b=false then 5 else if c≠0 then 1 else if 4096<(bL m.1 a b).1.length then 13 else 0
def Ci (m:dD)(a b c:Int)(e:Ed):Int:=
 if ¬(a=0/\b=0/\c=0)then 1 else if 4096<(bQ (bL m.1 e.1 (sz e.2.1)).1 e.1 e.2.2).length then 13 else 0
theorem Nt {c most:Int}(h:aV w dp tb depth m)(hg:eD m depth)(hc:c<=9223372036854770000)(Bh: -9223372036854770000<=c):
 H K 201 #[U (M ⟨dp,0,O⟩),iC q a b c,I V most] w fun e w'=>e=G (I V (JY m a b c most))/\aL w w':=by
 have hz:=hg.long;have hzn:=rG hg.EW;have HH:Hid (∀W,aL w W->H K 118 #[U (M ⟨dp,0,O⟩),I V a,I V 0] W fun e w'=>e=G (.bool (rR m.1 a 0))/\w'=W):=fun W hW=>Rj (h.aN hW) (by omega) (by omega) (by omega) hzn;have HL:Hid (∀W,aL w W->H K 78 #[U (M ⟨dp,0,O⟩)] W fun e w'=>e=G (I V (sz m.1))/\w'=W):=fun W hW=>Jc (h.aN hW);have HI:Hid (∀W,aL w W->H K 241 #[iC q a b c] W fun e w'=> ∃yb:Nat,e=G (.agg #[I V a,Z O 0 0,Z (M ⟨yb,0,O⟩) 1 1])/\bH w' (M ⟨yb,0,O⟩,1,1) [(b,c)]/\aL W w'):=fun W hW=>Ld
 have HR:Hid (rR m.1 a 0=true->∀W (yb:Nat),aL w W->bH W (M ⟨yb,0,O⟩,1,1) [(b,c)]->H K 240 #[U (M ⟨dp,0,O⟩),.agg #[I V a,Z O 0 0,Z (M ⟨yb,0,O⟩) 1 1]] W fun e w'=>e=G (.bool (decide ((bQ m.1 a [(b,c)]).length<=4096)))/\aL W w'):=fun hp W yb hW hy=>by
  unfold rR at hp;simp only[Abf,Abz]at hp;have:=Ud (p:=a) (h.aN hW) (vJ W) hy (fun q hq=>by simp at hq) (by simp) (by simp) hp.1 (by simp[sz];omega) (by omega);simpa[bL,sz,bS.v]using this
 obtain⟨u,r,hb,-⟩:=h;have HB:Hid (∀W,aL w W->W.cell? ⟨dp,6,O⟩=M (I V m.2.2.2.2)):=fun W hW=>hW.cell (bZ hb).2.2.2.2.2.2.1;clear hb hg;unfold iC at*;have HE:Hid (JY m a b c most=if rR m.1 a 0=false then 5 else if c<1\/200<c then 6 else if most<sz m.1+c then 7 else if b≠m.2.2.2.2 then 1 else if 4096<(bQ m.1 a [(b,c)]).length then 13 else 0):=rfl;generalize sz m.1=z at*;generalize m.2.2.2.2=bf at*;generalize (bQ m.1 a [(b,c)]).length=N at*;generalize JY m a b c most=R at*;cases hh:rR m.1 a 0 with
 |false=>
  rw[hh]at HH HE;go_enter func201,ntmps201;go_upto_region 1 with fail;go_quiet (fail);go_wp2_with (first|(go_at_call 118;refine(HH.out _ (bB (aL.alloc (aL.refl w) _) _)).mono ?_;rintro e w5 ⟨rfl,rfl⟩));go_ret;rw[HE.out];exact⟨rfl,bB (aL.alloc (aL.refl w) _) _⟩
 |true=>
  rw[hh]at HH HE;have HR:Hid _:=HR.out hh;rw[Aaa (by simp)]at HE;by_cases h1:c<1
  ·rw[Aad (Aac h1)]at HE;go_enter func201,ntmps201;go_upto_region 1 with fail;go_quiet (fail);have G1:Hid (aL w ((w.alloc (C #[I .u8 q,I V a,I V b,I V c] 99)).drewN nq)):=bB (aL.alloc (aL.refl w) _) _;have t6:=HB.out _ G1.out;go_wp2_with (first|(go_at_call 118;refine(HH.out _ G1.out).mono ?_;rintro e w5 ⟨rfl,rfl⟩)|(go_at_call 78;refine(HL.out _ G1.out).mono ?_;rintro e w5 ⟨rfl,rfl⟩)|(go_at_call 241;refine(HI.out _ G1.out).mono ?_;rintro e w6 ⟨yb,rfl,CO,vC⟩)|(go_at_call 240;refine(HR.out w6 yb (G1.out.then vC) CO).mono ?_;rintro e w7 ⟨rfl,oH⟩));go_ret;rw[HE.out];exact⟨rfl,G1.out⟩
  ·by_cases h2:200<c
   ·rw[Aad (Aab h2)]at HE;go_enter func201,ntmps201;go_upto_region 1 with fail;go_quiet (fail);have G1:Hid (aL w ((w.alloc (C #[I .u8 q,I V a,I V b,I V c] 99)).drewN nq)):=bB (aL.alloc (aL.refl w) _) _;have t6:=HB.out _ G1.out;go_wp2_with (first|(go_at_call 118;refine(HH.out _ G1.out).mono ?_;rintro e w5 ⟨rfl,rfl⟩)|(go_at_call 78;refine(HL.out _ G1.out).mono ?_;rintro e w5 ⟨rfl,rfl⟩)|(go_at_call 241;refine(HI.out _ G1.out).mono ?_;rintro e w6 ⟨yb,rfl,CO,vC⟩)|(go_at_call 240;refine(HR.out w6 yb (G1.out.then vC) CO).mono ?_;rintro e w7 ⟨rfl,oH⟩));go_ret;rw[HE.out];exact⟨rfl,G1.out⟩
   ·rw[Aaa (by omega)]at HE;have TY:IntKind.i64.wrap (z+c)=z+c:=(by rw[AaE];omega);by_cases h3:most<z+c
    ·rw[Aad h3]at HE;go_enter func201,ntmps201;go_upto_region 1 with fail;go_quiet (fail);have G1:Hid (aL w ((w.alloc (C #[I .u8 q,I V a,I V b,I V c] 99)).drewN nq)):=bB (aL.alloc (aL.refl w) _) _;have t6:=HB.out _ G1.out;go_wp2_with (first|(go_at_call 118;refine(HH.out _ G1.out).mono ?_;rintro e w5 ⟨rfl,rfl⟩)|(go_at_call 78;refine(HL.out _ G1.out).mono ?_;rintro e w5 ⟨rfl,rfl⟩)|(go_at_call 241;refine(HI.out _ G1.out).mono ?_;rintro e w6 ⟨yb,rfl,CO,vC⟩)|(go_at_call 240;refine(HR.out w6 yb (G1.out.then vC) CO).mono ?_;rintro e w7 ⟨rfl,oH⟩));go_ret;rw[HE.out];exact⟨rfl,G1.out⟩
    ·rw[Aaa h3]at HE;by_cases h4:b=bf
     ·rw[Aaa (by simpa using h4)]at HE;subst h4;by_cases h5:4096<N
      ·rw[Aad h5]at HE;rw[AaN (by omega)]at HR;go_enter func201,ntmps201;go_upto_region 1 with fail;go_quiet (fail);have G1:Hid (aL w ((w.alloc (C #[I .u8 q,I V a,I V b,I V c] 99)).drewN nq)):=bB (aL.alloc (aL.refl w) _) _;have t6:=HB.out _ G1.out;go_wp2_with (first|(go_at_call 118;refine(HH.out _ G1.out).mono ?_;rintro e w5 ⟨rfl,rfl⟩)|(go_at_call 78;refine(HL.out _ G1.out).mono ?_;rintro e w5 ⟨rfl,rfl⟩)|(go_at_call 241;refine(HI.out _ G1.out).mono ?_;rintro e w6 ⟨yb,rfl,CO,vC⟩)|(go_at_call 240;refine(HR.out w6 yb (G1.out.then vC) CO).mono ?_;rintro e w7 ⟨rfl,oH⟩));go_ret;rw[HE.out];exact⟨rfl,(G1.out.then vC).then oH⟩
      ·rw[Aaa h5]at HE;rw[AaH (by omega)]at HR;go_enter func201,ntmps201;go_upto_region 1 with fail;go_quiet (fail);have G1:Hid (aL w ((w.alloc (C #[I .u8 q,I V a,I V b,I V c] 99)).drewN nq)):=bB (aL.alloc (aL.refl w) _) _;have t6:=HB.out _ G1.out;go_wp2_with (first|(go_at_call 118;refine(HH.out _ G1.out).mono ?_;rintro e w5 ⟨rfl,rfl⟩)|(go_at_call 78;refine(HL.out _ G1.out).mono ?_;rintro e w5 ⟨rfl,rfl⟩)|(go_at_call 241;refine(HI.out _ G1.out).mono ?_;rintro e w6 ⟨yb,rfl,CO,vC⟩)|(go_at_call 240;refine(HR.out w6 yb (G1.out.then vC) CO).mono ?_;rintro e w7 ⟨rfl,oH⟩));go_ret;rw[HE.out];exact⟨rfl,(G1.out.then vC).then oH⟩
     ·rw[Aad h4]at HE;have h4':=Aat.2 h4;go_enter func201,ntmps201;go_upto_region 1 with fail;go_quiet (fail);have G1:Hid (aL w ((w.alloc (C #[I .u8 q,I V a,I V b,I V c] 99)).drewN nq)):=bB (aL.alloc (aL.refl w) _) _;have t6:=HB.out _ G1.out;go_wp2_with (first|(go_at_call 118;refine(HH.out _ G1.out).mono ?_;rintro e w5 ⟨rfl,rfl⟩)|(go_at_call 78;refine(HL.out _ G1.out).mono ?_;rintro e w5 ⟨rfl,rfl⟩)|(go_at_call 241;refine(HI.out _ G1.out).mono ?_;rintro e w6 ⟨yb,rfl,CO,vC⟩)|(go_at_call 240;refine(HR.out w6 yb (G1.out.then vC) CO).mono ?_;rintro e w7 ⟨rfl,oH⟩));go_ret;rw[HE.out];exact⟨rfl,G1.out⟩
theorem Nu {c most:Int}(h:aV w dp tb depth m)(hg:eD m depth)(fV:b<=9223372036854775807):
 H K 203 #[U (M ⟨dp,0,O⟩),iC q a b c,I V most] w fun e w'=>e=G (I V (CK m a b c))/\aL w w':=by
 have hz:=hg.long;have hzn:=rG hg.EW;have HE:Hid (CK m a b c=if b<1\/rR m.1 a b=false then 5 else if c≠0 then 1 else if 4096<(bL m.1 a b).1.length then 13 else 0):=rfl;by_cases h1:b<1
 ·rw[Aad (Aac h1)]at HE;generalize CK m a b c=R at*;unfold iC;clear h hg hz hzn;go_enter func203,ntmps203;go_upto_region 1 with fail;go_quiet (fail);have G1:Hid (aL w ((w.alloc (C #[I .u8 q,I V a,I V b,I V c] 99)).drewN nq)):=bB (aL.alloc (aL.refl w) _) _
  go_wp2
  go_ret;rw[HE.out];exact⟨rfl,G1.out⟩
 ·have HH:Hid (∀W,aL w W->H K 118 #[U (M ⟨dp,0,O⟩),I V a,I V b] W fun e w'=>e=G (.bool (rR m.1 a b))/\w'=W):=fun W hW=>Rj (h.aN hW) (by omega) fV (by omega) hzn;have HI:Hid (∀W,aL w W->H K 243 #[iC q a b c] W fun e w'=> ∃yb:Nat,e=G (.agg #[I V a,Z (M ⟨yb,0,O⟩) 1 1,Z O 0 0])/\bH w' (M ⟨yb,0,O⟩,1,1) [(0,b)]/\aL W w'):=fun W hW=>Pt
  have HR0:Hid (rR m.1 a b=true->(∀W (yb:Nat),aL w W->bH W (M ⟨yb,0,O⟩,1,1) [(0,b)]->H K 240 #[U (M ⟨dp,0,O⟩),.agg #[I V a,Z (M ⟨yb,0,O⟩) 1 1,Z O 0 0]] W fun e w'=>e=G (.bool (decide ((bL m.1 a b).1.length<=4096)))/\aL W w')):=fun hp W yb hW hy=>by
   unfold rR at hp;simp only[Abf,Abz]at hp;have:=Ud (p:=a) (h.aN hW) hy (vJ W) (fun q hq=>by simp at hq;subst hq;unfold mV;simp only;omega) (by simp) (by simp) hp.1 (by simp[sz];omega) (by omega);simpa[bQ,sz,bS.v]using this
  clear h hg;unfold iC at*;generalize sz m.1=z at*;generalize (bL m.1 a b).1.length=N at*;generalize CK m a b c=R at*;cases hh:rR m.1 a b with
  |false=>
   rw[hh]at HH HE;rw[Aad (Aab rfl)]at HE;clear HR0;go_enter func203,ntmps203;go_upto_region 1 with fail;go_quiet (fail);have G1:Hid (aL w ((w.alloc (C #[I .u8 q,I V a,I V b,I V c] 99)).drewN nq)):=bB (aL.alloc (aL.refl w) _) _;go_wp2_with (first|(go_at_call 118;refine(HH.out _ G1.out).mono ?_;rintro e w5 ⟨rfl,rfl⟩));go_ret;rw[HE.out];exact⟨rfl,G1.out⟩
  |true=>
   rw[hh]at HH HE;have HR:Hid _:=HR0.out hh;rw[Aaa (by simp;omega)]at HE;by_cases h4:c=0
   ·rw[Aaa (by simpa using h4)]at HE;subst h4;by_cases h5:4096<N
    ·rw[Aad h5]at HE;rw[AaN (by omega)]at HR;go_enter func203,ntmps203;go_upto_region 1 with fail;go_quiet (fail);have G1:Hid (aL w ((w.alloc (C #[I .u8 q,I V a,I V b,I V 0] 99)).drewN nq)):=bB (aL.alloc (aL.refl w) _) _;go_wp2_with (first|(go_at_call 118;refine(HH.out _ G1.out).mono ?_;rintro e w5 ⟨rfl,rfl⟩)|(go_at_call 243;refine(HI.out _ G1.out).mono ?_;rintro e w6 ⟨yb,rfl,CO,vC⟩)|(go_at_call 240;refine(HR.out w6 yb (G1.out.then vC) CO).mono ?_;rintro e w7 ⟨rfl,oH⟩));go_ret;rw[HE.out];exact⟨rfl,(G1.out.then vC).then oH⟩
    ·rw[Aaa h5]at HE;rw[AaH (by omega)]at HR;go_enter func203,ntmps203;go_upto_region 1 with fail;go_quiet (fail);have G1:Hid (aL w ((w.alloc (C #[I .u8 q,I V a,I V b,I V 0] 99)).drewN nq)):=bB (aL.alloc (aL.refl w) _) _;go_wp2_with (first|(go_at_call 118;refine(HH.out _ G1.out).mono ?_;rintro e w5 ⟨rfl,rfl⟩)|(go_at_call 243;refine(HI.out _ G1.out).mono ?_;rintro e w6 ⟨yb,rfl,CO,vC⟩)|(go_at_call 240;refine(HR.out w6 yb (G1.out.then vC) CO).mono ?_;rintro e w7 ⟨rfl,oH⟩));go_ret;rw[HE.out];exact⟨rfl,(G1.out.then vC).then oH⟩
   ·rw[Aad h4]at HE;have h4':=Aat.2 h4;go_enter func203,ntmps203;go_upto_region 1 with fail;go_quiet (fail);have G1:Hid (aL w ((w.alloc (C #[I .u8 q,I V a,I V b,I V c] 99)).drewN nq)):=bB (aL.alloc (aL.refl w) _) _;go_wp2_with (first|(go_at_call 118;refine(HH.out _ G1.out).mono ?_;rintro e w5 ⟨rfl,rfl⟩));go_ret;rw[HE.out];exact⟨rfl,G1.out⟩
theorem eq3 (w:F)(a b c:Int):(Op.equalIn 10000 97 (.agg #[I V a,I V b,I V c]) (.agg #[I V 0,I V 0,I V 0])).run K w= .ok (decide (a=0/\b=0/\c=0)) w:=by
 obtain⟨i0,hi,oG,nM,oP⟩:=AaW Tryz.infoInt;rw[run_equalIn_array w 9999 _ _ underlying97 hi];have TH:Tryz.prog.cellsOf 3=1:=by kernel_rfl
 rw[TH];simp[List.range,List.range.loop,Op.eqItems,part,go_sem];by_cases h1:a=0<;>by_cases h2:b=0<;>by_cases h3:c=0<;>simp[h1,h2,h3]
theorem Ue {c:Int}{x y:bS}{e:Ed}(h:aV w dp tb depth m)(hx:bH w x e.2.1)(hy:bH w y e.2.2)(hf:Bw (sz m.1) e.1 e.2.1 e.2.2)(hz:sz m.1<=5000):
 H K 244 #[U (M ⟨dp,0,O⟩),iC q a b c,.agg #[I V e.1,x.v,y.v]] w fun r w'=>r=G (I V (Ci m a b c e))/\aL w w':=by
 obtain⟨f1,f2,f3,f4,f5,f6⟩:=hf;have HR:Hid (∀W,aL w W->H K 240 #[U (M ⟨dp,0,O⟩),.agg #[I V e.1,x.v,y.v]] W fun r w'=>r=G (.bool (decide ((bQ (bL m.1 e.1 (sz e.2.1)).1 e.1 e.2.2).length<=4096)))/\aL W w'):=fun W hW=>Ud (h.aN hW) (hx.aN hW) (hy.aN hW) f3 (by omega) (by omega) f1 f2 (by omega);have HE:Hid (Ci m a b c e=if ¬(a=0/\b=0/\c=0)then 1 else if 4096<(bQ (bL m.1 e.1 (sz e.2.1)).1 e.1 e.2.2).length then 13 else 0):=rfl;generalize (bQ (bL m.1 e.1 (sz e.2.1)).1 e.1 e.2.2).length=N at*;generalize Ci m a b c e=R at*;obtain⟨x1,x2,x3⟩:=x;obtain⟨y1,y2,y3⟩:=y;obtain⟨e1,e2,e3⟩:=e;unfold iC;simp only[bS.v]at*;have G1:Hid (aL w ((w.alloc (C #[I .u8 q,I V a,I V b,I V c] 99)).alloc (C #[I V e1,Z x1 x2 x3,Z y1 y2 y3] 261))):=((aL.refl w).alloc _).alloc _;clear h hx hy f1 f2 f3 f4 f5 f6;by_cases h0:a=0/\b=0/\c=0
 ·have hq:∀w,_=Result.ok true w:=fun w=>(eq3 w a b c).trans (by rw[AaH h0]);rw[Aaa (not_not_intro h0)]at HE;clear h0;by_cases h5:4096<N
  ·rw[Aad h5]at HE;rw[AaN (by omega)]at HR;go_enter func244,ntmps244;go_wp2_with (first|(go_at_call 240;refine(HR.out _ G1.out).mono ?_;rintro e w7 ⟨rfl,oH⟩));go_ret;rw[HE.out];exact⟨rfl,G1.out.then oH⟩
  ·rw[Aaa h5]at HE;rw[AaH (by omega)]at HR;go_enter func244,ntmps244;go_wp2_with (first|(go_at_call 240;refine(HR.out _ G1.out).mono ?_;rintro e w7 ⟨rfl,oH⟩));go_ret;rw[HE.out];exact⟨rfl,G1.out.then oH⟩
 ·rw[Aad h0]at HE;have hq:∀w,_=Result.ok false w:=fun w=>(eq3 w a b c).trans (by rw[AaN h0])
  clear h0;go_enter func244,ntmps244
  go_wp2
  go_ret;rw[HE.out];exact⟨rfl,G1.out⟩
end Go.Proofs.YtfplgfodoiiobaaGreatDoor
