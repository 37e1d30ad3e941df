/- DrD, DrE (joined). -/
import Derived.Test.YtfplgfodoiiobaaGreatDoorJ22
open Option renaming none→O,some→M
open Go.Value renaming int→I,slice→Z,pointer→U
open Go.IntKind renaming i64→V
open Go.Obj renaming cells→C
open Go.Ending renaming returned→G
open Go renaming World→F,Value→Y,Calls→H
open Go.Proofs.Tryz renaming prog→K
namespace Go.Proofs.YtfplgfodoiiobaaGreatDoor
set_option maxHeartbeats 4000000
set_option maxRecDepth 100000
open Go.RowKit
variable {w:F}{p:Int}{c l g:List (Int×Int)}{tb dp depth:Nat}{m:dF}{x y:bS}
theorem ND {pos:Int}(h:aV w dp tb depth m)(h0: -1000000000<=pos)(h1:pos<=1000000000):
 H K 254 #[U (M ⟨dp,0,O⟩),I V pos] w fun e w'=>e=G (.bool (iW m.1 pos))/\aL w w':=by
 obtain⟨u,r,hb,ht,-⟩:=h;obtain⟨-,c1,-⟩:=cB hb;have hF:=Qu ht (pos:=pos-1);have HE:Hid (iW m.1 pos=((oC m.1 (pos-1)).2==0 && decide (1<(oC m.1 (pos-1)).1.2))):=rfl;clear hb ht;generalize oC m.1 (pos-1)=q at hF HE;obtain⟨⟨q1,q2⟩,q3⟩:=q;simp only at hF HE;by_cases h3:q3=0
 ·subst h3;go_enter Tryz.func254,Tryz.ntmps254
  go_wp2_with fail
  refine hF.mono ?_;rintro e w1 ⟨rfl,hg⟩
  go_wp2_with fail
  go_ret;rw[HE.out];refine⟨by simp,?_⟩;exact aL.alloc hg _
 ·have h3':(q3==0)=false:=beq_eq_false_iff_ne.2 h3;go_enter Tryz.func254,Tryz.ntmps254
  go_wp2_with fail
  refine hF.mono ?_;rintro e w1 ⟨rfl,hg⟩
  go_wp2_with fail
  go_ret;rw[HE.out,h3'];refine⟨rfl,?_⟩;exact aL.alloc hg _
theorem tail_drop:∀ {l:List (Int×Int)}(_:fG l)(k:Nat),k<=l.length->bU l (sz (l.take k))=l.drop k:=by
 intro l
 induction l with
 |nil=>intro _ k _;simp[bU]
 |cons p l ih=>
  intro h k hk;have hp:=fH h;unfold lX at hp;cases k with
  |zero=>simp[sz,bU]
  |succ k=>
   have hb:=nJ (dM h) k;rw[List.take_succ_cons,qB,bU,if_neg (by omega),if_pos (by omega)];rw[show p.2+sz (l.take k)-p.2=sz (l.take k) from by omega];exact ih (dM h) k (by simpa using hk)
theorem oo:∀ {l:List (Int×Int)}(_:fG l)(k:Nat)(n:Int),k<=l.length->(∀j,j<k->sz (l.take j)<n)->n<=sz (l.take k)->(dS l n).length=k:=by
 intro l
 induction l with
 |nil=>intro _ k n hk _ _;simp at hk;subst hk;simp[dS]
 |cons p l ih=>
  intro h k n hk h1 h2;have hp:=fH h;unfold lX at hp;cases k with
  |zero=>
   have:n<=0:=by simpa[sz]using h2
   rw[nR _ this];rfl
  |succ k=>
   have h0:=h1 0 (by omega);simp[sz]at h0;rw[List.take_succ_cons,qB]at h2;rw[dS,if_neg (by omega)];by_cases h3:p.2<=n
   ·rw[if_pos h3]
    have:=ih (dM h) k (n-p.2) (by simpa using hk) (fun j hj=>by
     have:=h1 (j+1) (by omega);rw[List.take_succ_cons,qB]at this;omega) (by omega)
    simp[this]
   ·rw[if_neg h3];cases k with
    |zero=>rfl
    |succ k=>
     have:=h1 1 (by omega);rw[List.take_succ_cons,qB]at this;simp[sz]at this;omega
theorem aL.then {a b c:F}(h1:aL a b)(h2:aL b c):aL a c:=aQ h1 h2
theorem keepD {w0:F}{a1 a2 a3 a4:Addr}{v1 v2 v3 v4:Y}(h1:w0.cell? a1=M v1)(h2:w0.cell? a2=M v2)(h3:w0.cell? a3=M v3)(h4:w0.cell? a4=M v4)(h:aL w0 w):w.cell? a1=M v1/\w.cell? a2=M v2/\w.cell? a3=M v3/\w.cell? a4=M v4/\aL w0 w:=⟨h.cell h1,h.cell h2,h.cell h3,h.cell h4,h⟩
theorem Xn (h:aV w dp tb depth m)(hx:bL w x g)(hy:bL w y c)(hg:fG g)(Bp:g.length<=10000)(QC:c.length<=10000)(hp:0<=p)(hs:p+sz g<=sz m.1)(hz:sz m.1<=100000000):
 H K 233 #[U (M ⟨dp,0,O⟩),.agg #[I V p,x.v,y.v]] w fun e w'=>e=G (I V (Sd m.1 p (sz g) c.length))/\aL w w':=by
 have Xe:=qN hg;have HB:Hid (∀W,aL w W->H K 187 #[x.v] W fun e w'=>e=G (I V (sz g))/\aL W w'):=fun W hW=>vK (hx.aN hW) hg (by omega)
 have HW:Hid (∀W,aL w W->∀q,-1000000000<=q->q<=1000000000->H K 254 #[U (M ⟨dp,0,O⟩),I V q] W fun e w'=>e=G (.bool (iW m.1 q))/\aL W w'):=fun W hW q h1 h2=>ND (h.aN hW) h1 h2
 obtain⟨u,r,hb,ht,-⟩:=h;have hm:m.1.length<=4096:=ht.ok.2;have kI:fG m.1:=ht.ok.1;have HF:Hid (∀W,aL w W->∀q,H K 104 #[U (M ⟨tb,0,O⟩),I V q] W fun e w'=>e=G (.tuple #[.agg #[I V (oC m.1 q).1.1,I V (oC m.1 q).1.2],I V (oC m.1 q).2])/\aL W w'):=fun W hW q=>Qu (ht.below hW)
 obtain⟨-,c1,c2,-⟩:=cB hb;have hyl:y.2.1=c.length:=hy.2.1;obtain⟨x1,x2,x3⟩:=x;obtain⟨y1,y2,y3⟩:=y;simp only at hyl;subst hyl;simp only[bS.v]at*;obtain⟨w0,dW⟩:∃w0,w0=w.alloc (C #[I V p,Z x1 x2 x3,Z y1 c.length y3] 261):=⟨_,rfl⟩;have Oq:aL w w0:=by rw[dW];exact aL.alloc (aL.refl w) _
 have Eo:w0.heap[w.heap.size]?=M (C #[I V p,Z x1 x2 x3,Z y1 c.length y3] 261 (0,0)):=by rw[dW];exact heap_alloc_new w _
 have b0:w0.cell? ⟨w.heap.size,0,O⟩=M (I V p):=by simp[World.cell?,Eo]
 have b1:w0.cell? ⟨w.heap.size,1,O⟩=M (Z x1 x2 x3):=by simp[World.cell?,Eo]
 have b2:w0.cell? ⟨w.heap.size,2,O⟩=M (Z y1 c.length y3):=by simp[World.cell?,Eo]
 have d1:=Oq.cell c1;have d2:=Oq.cell c2;have RF:Hid (aL w w0):=Oq;clear hx hy hb c1 c2 ht Eo Oq;go_enter Tryz.func233,Tryz.ntmps233
 go_upto_region 1 with fail
 rw[<-dW];clear dW
 go_cut [5,6] (fun f t wc=>f=I V p/\t=I V (p+sz g)/\Hid (aL w0 wc))
 case first=>
  have G0:=aL.refl w0;have hwp:IntKind.i64.wrap (p+sz g)=p+sz g:=by rw[IntKind.wrap_i64];omega
  go_region_held3 (fun w'=>w'.cell? ⟨w.heap.size,0,O⟩=M (I V p)/\w'.cell? ⟨w.heap.size,1,O⟩=M (Z x1 x2 x3)/\w'.cell? ⟨w.heap.size,2,O⟩=M (Z y1 c.length y3)/\w'.cell? ⟨dp,2,O⟩=M (I V (m.1.length:Int))/\aL w0 w')
   (first|(refine keepD b0 b1 b2 d2 ?_;go_split_ands;with_reducible (first|assumption|exact G0|(refine aL.drew ?_;assumption)|(refine aL.then ?_ fQ;assumption)|(refine aL.then ?_ fQ;refine aL.drew ?_;assumption))))
   (first|(go_at_call 187;refine(HB.out _ (aL.then RF.out (by go_split_ands;with_reducible (first|assumption|(refine aL.drew ?_;assumption))))).mono ?_;rintro e w5 ⟨rfl,fQ⟩))
  all_goals go_wp2_with fail
  all_goals go_meet
  all_goals exact⟨rfl,rfl,by show aL w0 _;go_split_ands;assumption⟩
 case rest=>
  obtain⟨rfl,rfl,HGc⟩:=hcut
  rename F=>w2
  have e2:=HGc.out.cell b2;have e3:=HGc.out.cell d2;have e4:=HGc.out.cell d1;have Hq:Hid (aL w w2):=RF.out.then HGc.out;clear b0 b1 b2 d1 d2;by_cases h0:sz g=0
  ·have hpp:p+sz g=p:=by omega
   rw[hpp];have hw3:IntKind.i64.wrap ((m.1.length:Int)+(c.length:Int))=(m.1.length:Int)+(c.length:Int):=by rw[IntKind.wrap_i64];omega
   by_cases hc:0<c.length
   ·have YA:(0:Int)<(c.length:Int):=by omega
    have hW:=fun W hW=>HW.out W hW p (by omega) (by omega)
    cases hwi:iW m.1 p with
    |true=>
     have HE:Hid (Sd m.1 p (sz g) c.length=(m.1.length:Int)+(c.length:Int)+1):=by show _=_;unfold Sd;rw[if_pos h0,decide_eq_true hc,hwi];rfl
     rw[hwi]at hW;clear hwi
     go_wp2_with fail
     go_quiet (fail)
     go_wp2_with (go_at_call 254;refine(hW _ (aZ Hq.out _)).mono ?_;rintro e w5 ⟨rfl,fQ⟩)
     go_ret;rw[HE.out];exact⟨rfl,aL.then (aZ Hq.out _) fQ⟩
    |false=>
     have HE:Hid (Sd m.1 p (sz g) c.length=(m.1.length:Int)+(c.length:Int)):=by show _=_;unfold Sd;rw[if_pos h0,decide_eq_true hc,hwi];simp
     rw[hwi]at hW;clear hwi
     go_wp2_with fail
     go_quiet (fail)
     go_wp2_with (go_at_call 254;refine(hW _ (aZ Hq.out _)).mono ?_;rintro e w5 ⟨rfl,fQ⟩)
     go_ret;rw[HE.out];exact⟨rfl,aL.then (aZ Hq.out _) fQ⟩
   ·have Ag:c.length=0:=by omega
    have YA:¬(0:Int)<(c.length:Int):=by omega
    have HE:Hid (Sd m.1 p (sz g) c.length=(m.1.length:Int)+(c.length:Int)):=by show _=_;unfold Sd;rw[if_pos h0,decide_eq_false hc];simp
    clear Ag
    go_wp2_with fail
    go_quiet (fail)
    go_wp2_with fail
    go_ret;rw[HE.out];exact⟨rfl,aZ Hq.out _⟩
  ·have hgp:0<sz g:=by omega
   have hne:(p==p+sz g)=false:=by rw[beq_eq_false_iff_ne];omega
   have hw3:IntKind.i64.wrap ((m.1.length:Int)+(c.length:Int))=(m.1.length:Int)+(c.length:Int):=by rw[IntKind.wrap_i64];omega
   have HE:Hid (Sd m.1 p (sz g) c.length=(m.1.length:Int)+(c.length:Int)+(if iW m.1 p then 1 else 0)+(if iW m.1 (p+sz g)then 1 else 0)-((vQ m.1 p (sz g)).length:Int)):=by show _=_;unfold Sd;rw[if_neg h0]
   have Xc:=fun W hW=>HW.out W hW p (by omega) (by omega)
   have QU:=fun W hW=>HW.out W hW (p+sz g) (by omega) (by omega)
   generalize iW m.1 p=b1 at Xc HE;generalize iW m.1 (p+sz g)=b2 at QU HE
   go_wp2_with fail
   go_quiet (fail)
   go_upto_region 7 with fail
   have YB:Hid (aL w (w2.drewN nq)):=aZ Hq.out _;obtain⟨w3,hw3'⟩:∃w3,w3=w2.drewN nq:=⟨_,rfl⟩;have e4':w3.cell? ⟨dp,1,O⟩=M (U (M ⟨tb,0,O⟩)):=by rw[hw3'];exact e4
   rw[<-hw3']at YB ⊢;clear hw3' e2 e3 e4 Hq HGc
   go_upto_if 44 with(go_at_call 254;refine(Xc _ YB.out).mono ?_;rintro e w5 ⟨rfl,fQ⟩)
   go_cut [7] (fun v wc=>v=I V ((m.1.length:Int)+(c.length:Int)+(if b1 then 1 else 0))/\wc=w5)
   case first=>
    cases b1 with
    |true=>
     go_wp2_with fail
     go_meet;exact⟨by simp,rfl⟩
    |false=>
     go_wp2_with fail
     go_meet;exact⟨by simp,rfl⟩
   case rest=>
    obtain⟨rfl,rfl⟩:=hcut
    rename F=>w4
    have VH:Hid (aL w3 w4):=fQ;clear fQ;have fC:0<=(if b1=true then (1:Int)else 0)/\(if b1=true then (1:Int)else 0)<=1:=by split<;>omega
    generalize (if b1=true then (1:Int)else 0)=z1 at HE fC
    go_upto_if 49 with(go_at_call 254;refine(QU _ (YB.out.then VH.out)).mono ?_;rintro e w5 ⟨rfl,fQ⟩)
    go_cut [7] (fun v wc=>v=I V ((m.1.length:Int)+(c.length:Int)+z1+(if b2 then 1 else 0))/\wc=w5)
    case first=>
     cases b2 with
     |true=>
      go_wp2_with fail
      go_meet;exact⟨by simp,rfl⟩
     |false=>
      go_wp2_with fail
      go_meet;exact⟨by simp,rfl⟩
    case rest=>
     obtain⟨rfl,rfl⟩:=hcut
     rename F=>w5
     have HG5:Hid (aL w4 w5):=fQ;clear fQ;have gG:0<=(if b2=true then (1:Int)else 0)/\(if b2=true then (1:Int)else 0)<=1:=by split<;>omega
     generalize (if b2=true then (1:Int)else 0)=z2 at HE gG;have HG6:Hid (aL w w5):=YB.out.then (VH.out.then HG5.out);have k1:=(VH.out.then HG5.out).cell e4';clear e4' YB VH HG5 Xc QU HB HW;have hT:=kG kI p;have hTs:=lT kI hp (by omega)
     have HT:Hid (∀k:Nat,k<=(bU m.1 p).length->bU m.1 (p+sz ((bU m.1 p).take k))=(bU m.1 p).drop k):=fun k hk=>by
      rw[<-xJ kI hp (nJ hT k).1,tail_drop hT k hk]
     have HL:Hid (∀k:Nat,k<=(bU m.1 p).length->(∀j,j<k->sz ((bU m.1 p).take j)<sz g)->sz g<=sz ((bU m.1 p).take k)->(vQ m.1 p (sz g)).length=k):=fun k hk h1 h2=>oo hT k (sz g) hk h1 h2
     have hTl:(bU m.1 p).length<=4097:=by have:=pK m.1 p;omega
     generalize bU m.1 p=T at hT hTs HT HL hTl
     go_upto_region 12 with fail
     go_loopw [7,8,9,10] (fun cv pv _ _ wr=> ∃k:Nat,k<=T.length/\cv=I V ((m.1.length:Int)+(c.length:Int)+z1+z2-(k:Int))/\pv=I V (p+sz (T.take k))/\Hid (∀j,j<k->sz (T.take j)<sz g)/\Hid (aL w5 wr)) (fun _ pv _ _ _=>(p+sz g-intOf pv).toNat)
     case atStart=>exact⟨0,Nat.zero_le _,by simp,by simp[sz],(fun j hj=>by omega),aL.refl w5⟩
     case round=>
      obtain⟨k,hk,rfl,rfl,HJ,HG⟩:=hrel;have Xo:=nJ hT k;by_cases bT:sz (T.take k)<sz g
      ·have Wi:k<T.length:=by
        by_cases Wi:k<T.length
        ·exact Wi
        ·rw[List.take_of_length_le (by omega)]at bT;omega
       obtain⟨q,hq⟩:∃q,T[k]?=M q:=⟨_,List.getElem?_eq_getElem Wi⟩;have hqo:=hT q (List.mem_of_getElem? hq);unfold lX at hqo
       have Xd:oC m.1 (p+sz (T.take k))=(q,0):=by
        unfold oC;rw[if_neg (by omega),HT.out k hk,List.head?_drop,hq];rfl
       have fT:=HF.out wr (HG6.out.then HG.out) (p+sz (T.take k));rw[Xd]at fT;have HN:Hid (sz (T.take (k+1))=sz (T.take k)+q.2):=Ae hq;have k2:=HG.out.cell k1;have Qk:p+sz (T.take k)<p+sz g:=by omega
       obtain⟨q1,q2⟩:=q;simp only at fT hqo HN;clear Xd hq;have YC:Hid (sz (T.take k)<sz g):=bT;generalize sz (T.take k)=z at Xo bT Qk HN fT
       go_wp2_with (go_at_call 104;refine fT.mono ?_;rintro e w7 ⟨rfl,oO⟩)
       go_roundw
       case rel=>exact⟨k+1,by omega,by go_num,by rw[HN.out];go_num,(fun j hj=>by
        by_cases hjk:j=k
        ·subst hjk;exact YC.out
        ·exact HJ.out j (by omega)),aL.alloc (HG.out.then oO) _⟩
       case measure=>simp[intOf];omega
      ·have Oe:=HL.out k hk HJ.out (by omega);have Qk:¬p+sz (T.take k)<p+sz g:=by omega
       rw[Oe]at HE
       go_wp2_with fail
       go_ret;rw[HE.out];exact⟨rfl,HG6.out.then HG.out⟩
theorem Sg (h:aV w dp tb depth m)(hx:bL w x g)(hy:bL w y c)(hg:fG g)(Bp:g.length<=10000)(QC:c.length<=10000)(hp:0<=p)(hs:p+sz g<=sz m.1)(hz:sz m.1<=100000000):
 H K 240 #[U (M ⟨dp,0,O⟩),.agg #[I V p,x.v,y.v]] w fun e w'=>e=G (.bool (decide ((bO (bJ m.1 p (sz g)).1 p c).length<=4096)))/\aL w w':=by
 have kI:fG m.1:=by obtain⟨_,_,_,ht,_⟩:=h;exact ht.ok.1
 have hC:=fun W (hW:aL w W)=>Xn (h.aN hW) (hx.aN hW) (hy.aN hW) hg Bp QC hp hs hz
 have e1:=om (came:=c) kI hp (qN hg) hs;rw[e1]at hC;obtain⟨x1,x2,x3⟩:=x;obtain⟨y1,y2,y3⟩:=y;simp only[bS.v]at*
 have HD:Hid (decide ((bO (bJ m.1 p (sz g)).1 p c).length<=4096)=decide (((bO (bJ m.1 p (sz g)).1 p c).length:Int)<=4096)):=by
  show _=_;rw[decide_eq_decide];omega
 clear h hx hy e1;generalize (bO (bJ m.1 p (sz g)).1 p c).length=n at hC HD;go_enter Tryz.func240,Tryz.ntmps240
 go_wp2_with fail
 refine(hC _ (aL.alloc (aL.refl w) _)).mono ?_;rintro e w1 ⟨rfl,iH⟩
 go_wp2_with fail
 go_ret;rw[HD.out];exact⟨rfl,(aL.alloc (aL.refl w) _).then iH⟩
def TX (dp tb:Nat)(b:Nat):Prop:=b=dp\/b=tb
theorem ins_put (hl:fG l)(hc:fG c)(hp:0<=p)(Bq:p<=sz l){k:Nat}{q:Int×Int}(hq:c[k]?=M q):DL (bO l p (c.take k)) (p+sz (c.take k)) q=bO l p (c.take (k+1)):=by
 obtain⟨bT,he⟩:=List.getElem?_eq_some_iff.1 hq;have hs:c.take (k+1)=c.take k++ [q]:=by rw[List.take_succ_eq_append_getElem bT,he]
 have hne:c.take (k+1)≠[]:=by rw[hs];simp
 unfold DL;by_cases h0:c.take k=[]
 ·rw[hs,h0];simp[bO,sz]
 ·have hA:fG (dS l p++c.take k):=iE (uX hl p) (fun x hx=>hc x (List.mem_of_mem_take hx));have hsA:sz (dS l p++c.take k)=p+sz (c.take k):=by rw[nQ,yI hl hp Bq]
  have e1:bO l p (c.take k)=(dS l p++c.take k)++bU l p:=by unfold bO;rw[if_neg h0]
  have e2:bO l p (c.take (k+1))=dS l p++c.take (k+1)++bU l p:=by unfold bO;rw[if_neg hne]
  rw[e1,e2,qC _ hA,if_pos (by omega),qD _ hA,if_pos (by omega),Di hA (by omega),Dj hA (by omega),hs];simp
theorem RH (hl:fG l)(hp:0<=p)(Bq:p<=sz l)(k:Nat):(bO l p (c.take k)).length<=(bO l p c).length:=by
 have hw:=Gm hl hp Bq;unfold bO;by_cases h0:c=[]
 ·subst h0;simp
 ·rw[if_neg h0];split
  ·simp only[List.length_append];omega
  ·simp only[List.length_append,List.length_take];omega
theorem oq (hl:fG l)(hp:0<=p)(Bq:p<=sz l):l.length<=(bO l p c).length:=by
 have:=RH (c:=c) hl hp Bq 0;simpa[bO]using this
theorem del_cut (hl:fG l){n:Int}(hp:0<=p)(hn:0<=n)(hs:p+n<=sz l)(hr:(bO (bJ l p n).1 p c).length<=4096):Ic l p n=((bJ l p n).1,(bJ l p n).2,0):=by
 have h1:=oq (c:=c) (Ie hl p n) hp (by rw[Ph hl hp hn (by omega)];omega);unfold Ic bJ at*;rw[if_neg (by omega)];by_cases h0:n=0
 ·rw[if_pos h0,if_pos h0]
 ·rw[if_neg h0]at h1 hr;rw[if_neg h0,if_neg h0,if_neg (by simp only at h1 hr;omega)]
theorem inR_ok (hl:fG l)(hc:fG c)(hc9:∀q∈c,q.1<=1000000000)(hp:0<=p)(Bq:p<=sz l)(hr:(bO l p c).length<=4096){k:Nat}{q:Int×Int}(hq:c[k]?=M q):Qt (bO l p (c.take k)) (p+sz (c.take k)) q.1 q.2=(bO l p (c.take (k+1)),0):=by
 have h1:=ins_put hl hc hp Bq hq;have h2:=RH (c:=c) hl hp Bq (k+1);have h3:=hc9 q (List.mem_of_getElem? hq);have h4:=hc q (List.mem_of_getElem? hq);have h5:=MC (more:=c.take k) hl hp Bq;have h6:=nJ hc k;unfold lX at h4;unfold Qt;rw[if_neg (by omega),if_neg (by omega),show((q.1,q.2):Int×Int)=q from rfl,h1,if_neg (by omega)]
theorem RI:∀(args:Array Y) (w:F),(callFunc 187 args).run K w= .ok (.enter 187 args) w:=enters_of Tryz.func187 (by kernel_rfl) rfl
theorem e_tdel:∀(args:Array Y) (w:F),(callFunc 101 args).run K w= .ok (.enter 101 args) w:=enters_of Tryz.func101 (by kernel_rfl) rfl
theorem e_tins:∀(args:Array Y) (w:F),(callFunc 63 args).run K w= .ok (.enter 63 args) w:=enters_of Tryz.func63 (by kernel_rfl) rfl
theorem Dk.kK {w1:F}{X:Nat->Prop}(h:w.grownBy w1 (M tb))(hx:X tb):Dk w w1 X X:=⟨(Fr.kK h).mono fun b e=>by cases e;exact hx,⟨h.os,h.tape,h.output⟩,fun _ hb=>Or.inl hb⟩
theorem Dk.set {w1:F}{g i:Nat}{v:Y}{X:Nat->Prop}(h:Dk w w1 X X)(hg:X g):Dk w (w1.setCell ⟨g,i,O⟩ v) X X:=h.trans ⟨(Fr.set w1 ⟨g,i,O⟩ v).mono fun b e=>by rw[e];exact hg,⟨rfl,rfl,rfl⟩,fun _ hb=>Or.inl hb⟩
theorem dD.ty (h:dD w tb l):∃aS,w.heap[tb]?=M (C aS 160 (0,0)):=by
 obtain⟨root,_,h,-⟩:=h;exact⟨_,h⟩
theorem tx_ty {aS:Array Y}(hd:w.heap[dp]?=M (C aS 147 (0,0)))(ht:∃aS,w.heap[tb]?=M (C aS 160 (0,0))){b:Nat}{tN:Array Y}{t:TypeId}{f:Nat×Nat}(hb:w.heap[b]?=M (C tN t f))(h1:t≠147)(h2:t≠160):¬TX dp tb b:=by
 obtain⟨c2,ht⟩:=ht;rintro(e|e)
 ·exact bB hb hd h1 e
 ·exact bB hb ht h2 e
theorem yX (h:aV w dp tb depth m)(hx:bL w x g)(hy:bL w y c)(hg:fG g)(Bp:g.length<=10000)(hc:fG c)(hc9:∀q∈c,q.1<=1000000000)(QC:c.length<=10000)(hp:0<=p)(hs:p+sz g<=sz m.1)(hz:sz m.1<=100000000)(hr:(bO (bJ m.1 p (sz g)).1 p c).length<=4096):
 H K 180 #[U (M ⟨dp,0,O⟩),.agg #[I V p,x.v,y.v]] w fun e w'=> ∃gv:bS,e=G gv.v/\bL w' gv (bJ m.1 p (sz g)).2/\aV w' dp tb depth (bO (bJ m.1 p (sz g)).1 p c,m.2)/\Dk w w' (TX dp tb) (TX dp tb)/\(w'.cell? ⟨dp,3,O⟩=w.cell? ⟨dp,3,O⟩/\w'.cell? ⟨dp,4,O⟩=w.cell? ⟨dp,4,O⟩):=by
 have Xe:=qN hg
 have HC:Hid (∀W,aL w W->H K 233 #[U (M ⟨dp,0,O⟩),.agg #[I V p,x.v,y.v]] W fun e w'=>e=G (I V ((bO (bJ m.1 p (sz g)).1 p c).length:Int))/\aL W w'):=fun W hW=>by
  have kI:fG m.1:=by obtain⟨_,_,_,ht,_⟩:=h;exact ht.ok.1
  have:=Xn (h.aN hW) (hx.aN hW) (hy.aN hW) hg Bp QC hp hs hz;rw[om (came:=c) kI hp (qN hg) hs]at this;exact this
 obtain⟨u,r,hb,ht,hu,Pg⟩:=h;have kI:fG m.1:=ht.ok.1;have hyl:y.2.1=c.length:=hy.2.1;obtain⟨-,-,d2,d3w,d4w,-,-,df⟩:=cB hb;have H34:Hid (w.cell? ⟨dp,3,O⟩=M u.v/\w.cell? ⟨dp,4,O⟩=M r.v):=⟨d3w,d4w⟩;clear d3w d4w;have hl1:fG (bJ m.1 p (sz g)).1:=Ie kI _ _;have nO:sz (bJ m.1 p (sz g)).1=sz m.1-sz g:=Ph kI hp Xe (by omega);have HDel:Hid (Ic m.1 p (sz g)=((bJ m.1 p (sz g)).1,(bJ m.1 p (sz g)).2,0)):=del_cut kI hp Xe hs hr
 have HS:Hid (∀W (n:Int) (o:Array Y),aL w W->w.heap.size<W.heap.size->W.heap[w.heap.size]?=M (C o 261 (0,0))->(W.setCell ⟨dp,2,O⟩ (I V n)).heap[dp]?=M (oW (depth:Int) tb n u r m.2.2.2.1 m.2.2.2.2)/\dD (W.setCell ⟨dp,2,O⟩ (I V n)) tb m.1/\bL (W.setCell ⟨dp,2,O⟩ (I V n)) x g/\bL (W.setCell ⟨dp,2,O⟩ (I V n)) y c/\dY (W.setCell ⟨dp,2,O⟩ (I V n)) u m.2.1/\dY (W.setCell ⟨dp,2,O⟩ (I V n)) r m.2.2.1/\Dk w (W.setCell ⟨dp,2,O⟩ (I V n)) (TX dp tb) (TX dp tb)/\(W.setCell ⟨dp,2,O⟩ (I V n)).heap[w.heap.size]?=M (C o 261 (0,0))):=fun W n o hW bT ho=>by
  have fC:=(hW.block _ (aM hb)).trans hb;have hF:=Fr.set W ⟨dp,2,O⟩ (I V n);have ht1:=ht.below hW;obtain⟨tc,htc⟩:=ht1.ty;refine⟨by rw[heap_setCell_same W dp 2 _ _ _ fC];rfl,ht1.fr hF (bB htc fC (by decide)) (fun b la ra p h l hn=>bB hn fC (by decide)),(hx.aN hW).fr hF (fun b aS hn=>bB hn fC (by decide)),(hy.aN hW).fr hF (fun b aS hn=>bB hn fC (by decide)),(hu.aN hW).fr hF (fun b aS hn=>bB hn fC (by decide)) (fun b aS hn=>bB hn fC (by decide)),(Pg.aN hW).fr hF (fun b aS hn=>bB hn fC (by decide)) (fun b aS hn=>bB hn fC (by decide)),(Dk.dJ hW).set (Or.inl rfl),hF.at ho (bB ho fC (by decide))⟩
 have H2:Hid (∀W,aL w W->W.cell? ⟨dp,2,O⟩=M (I V (m.1.length:Int))/\W.frozen? ⟨dp,2,O⟩=false):=fun W hW=>⟨hW.cell d2,(cB ((hW.block _ (aM hb)).trans hb)).2.2.2.2.2.2.2 2⟩
 have NC:Hid (∀W,bL W x g->H K 187 #[x.v] W fun e w'=>e=G (I V (sz g))/\aL W w'):=fun W hW=>vK hW hg (by omega)
 obtain⟨x1,x2,x3⟩:=x;obtain⟨y1,y2,y3⟩:=y;simp only at hyl;subst hyl;simp only[bS.v]at*;generalize hl':(bJ m.1 p (sz g)).1=L at*;generalize wU:(bJ m.1 p (sz g)).2=aD at*;have HIns:Hid (∀(k:Nat) (q:Int×Int),c[k]?=M q->Qt (bO L p (c.take k)) (p+sz (c.take k)) q.1 q.2=(bO L p (c.take (k+1)),0)):=fun k q hq=>inR_ok hl1 hc hc9 hp (by omega) hr hq
 have HD0:Hid (∀w6 W,aL w6 W->dD W tb m.1->H K 101 #[U (M ⟨tb,0,O⟩),I V p,I V (sz g)] W fun e w'=> ∃ao,e=G (.tuple #[Z ao aD.length aD.length,I V 0])/\bL w' (ao,aD.length,aD.length) aD/\dD w' tb L/\Dk w6 w' (fun b=>b=tb) (fun b=>b=tb)):=fun w6 W hW q2=>by
  refine(DW q2 (pos:=p) (n:=sz g) (by omega) (by omega)).mono ?_;rw[HDel.out];rintro e w' ⟨ao,rfl,ho,ht,zG⟩;obtain⟨Eu,mW,e1,yR,gP⟩:=yF.oF ho;cases e1
  exact⟨_,rfl,⟨yR,rfl,gP⟩,ht,(Dk.dJ hW).trans (Dk.kK zG rfl)⟩
 generalize hN:(bO L p c).length=N at*;clear hl' wU hx hy hb ht hu Pg d2 df;go_enter Tryz.func180,Tryz.ntmps180
 go_upto_region 2 with(go_at_call 233;refine(HC.out _ (aL.alloc (aL.refl w) _)).mono ?_;rintro e w5 ⟨rfl,fQ⟩;obtain⟨e1,e2⟩:=H2.out w5 ((aL.alloc (aL.refl w) _).then fQ))
 have oJ:w5.heap[w.heap.size]?=_:=(fQ.block _ (by simp)).trans (heap_alloc_new w _);obtain⟨q1,q2,q3,q4,q5,q6,q7,q8⟩:=HS.out w5 (N:Int) _ ((aL.alloc (aL.refl w) _).then fQ) (aM oJ) oJ;obtain⟨w6,hw6⟩:∃w6,w6=w5.setCell ⟨dp,2,O⟩ (I V (N:Int)):=⟨_,rfl⟩;rw[<-hw6]at q1 q2 q3 q4 q5 q6 q7 q8 ⊢;clear HC HS H2 e1 e2 fQ oJ hw6;have b0:w6.cell? ⟨w.heap.size,0,O⟩=M (I V p):=by simp[World.cell?,q8]
 have b1:w6.cell? ⟨w.heap.size,1,O⟩=M (Z x1 x2 x3):=by simp[World.cell?,q8]
 obtain⟨-,d1,-⟩:=cB q1;have Q1:Hid (w6.heap[dp]?=M (oW (depth:Int) tb (N:Int) u r m.2.2.2.1 m.2.2.2.2)):=q1;have Q2:Hid (dD w6 tb m.1):=q2;have Q3:Hid (∀W,aL w6 W->H K 187 #[Z x1 x2 x3] W fun e w'=>e=G (I V (sz g))/\aL W w'):=fun W hW=>NC.out W (q3.aN hW)
 have Q4:Hid (bL w6 (y1,c.length,y3) c):=q4;have Q5:Hid (dY w6 u m.2.1):=q5;have Q6:Hid (dY w6 r m.2.2.1):=q6;have Q7:Hid (Dk w w6 (TX dp tb) (TX dp tb)):=q7;have Q8:Hid (w6.heap[w.heap.size]?=M (C #[I V p,Z x1 x2 x3,Z y1 c.length y3] 261 (0,0))):=q8;have QD:Hid (∀W,aL w6 W->H K 101 #[U (M ⟨tb,0,O⟩),I V p,I V (sz g)] W fun e w'=> ∃ao,e=G (.tuple #[Z ao aD.length aD.length,I V 0])/\bL w' (ao,aD.length,aD.length) aD/\dD w' tb L/\Dk w6 w' (fun b=>b=tb) (fun b=>b=tb)):=fun W hW=>HD0.out w6 W hW (q2.below hW)
 clear q1 q2 q3 q4 q5 q6 q7 q8
 go_cut [5] (fun v wc=> ∃ao,v=Z ao aD.length aD.length/\Hid (bL wc (ao,aD.length,aD.length) aD/\dD wc tb L/\Dk w6 wc (fun b=>b=tb) (fun b=>b=tb)))
 case first=>
  go_region_law (first|(refine eD (by rfl) 187 _ _ (by rfl) _ (by simp[Act.eval];done) RI ((Q3.out _ (by repeat (first|exact aL.refl _|refine aL.drew ?_))).mono ?_);rintro e w7 ⟨rfl,oO⟩;refine⟨_,rfl,?_⟩;have b07:=oO.cell (show _=M (I V p) from b0);have d17:=oO.cell (show _=M (U (M ⟨tb,0,O⟩)) from d1))|(refine eD (by rfl) 101 _ _ (by rfl) _ (by simp[Act.eval];done) e_tdel ((QD.out _ (by repeat (first|exact aL.refl _|refine aL.drew ?_|refine aL.then ?_ oO))).mono ?_);rintro e w8 ⟨ao,rfl,hd8⟩;refine⟨_,rfl,?_⟩))
  all_goals go_wp2_with fail
  all_goals go_meet
  all_goals exact⟨ao,rfl,hd8⟩
 case rest=>
  obtain⟨ao,rfl,HD⟩:=hcut
  rename F=>w7
  obtain⟨tc6,FV⟩:=Q2.out.ty;obtain⟨tc7,Ve⟩:=HD.out.2.1.ty;have Un:tb<w7.heap.size:=aM Ve;have r1:w7.heap[dp]?=M (oW (depth:Int) tb (N:Int) u r m.2.2.2.1 m.2.2.2.2):=HD.out.2.2.1.at Q1.out (bB Q1.out FV (by decide));have r2:w7.heap[w.heap.size]?=M (C #[I V p,Z x1 x2 x3,Z y1 c.length y3] 261 (0,0)):=HD.out.2.2.1.at Q8.out (bB Q8.out FV (by decide));have HY:Hid (bL w7 (y1,c.length,y3) c):=Q4.out.fr HD.out.2.2.1 (fun b aS hn=>bB hn FV (by decide));have HT7:Hid (w7.heap[tb]?=M (C tc7 160 (0,0))):=Ve;have g0:w7.cell? ⟨w.heap.size,0,O⟩=M (I V p):=by simp[World.cell?,r2]
  have g2:w7.cell? ⟨w.heap.size,2,O⟩=M (Z y1 c.length y3):=by simp[World.cell?,r2]
  have R1:Hid (w7.heap[dp]?=M (oW (depth:Int) tb (N:Int) u r m.2.2.2.1 m.2.2.2.2)):=r1
  have HEnd:Hid (∀W,Dk w7 W (fun b=>b=tb) (fun b=>b=tb)->dD W tb (bO L p c)->bL W (ao,aD.length,aD.length) aD/\aV W dp tb depth (bO L p c,m.2)/\Dk w W (TX dp tb) (TX dp tb)/\(W.cell? ⟨dp,3,O⟩=w.cell? ⟨dp,3,O⟩/\W.cell? ⟨dp,4,O⟩=w.cell? ⟨dp,4,O⟩)):=fun W hW hTW=>by
   have hd:=Q5.out.fr HD.out.2.2.1 (fun b aS hn=>bB hn FV (by decide)) (fun b aS hn=>bB hn FV (by decide));have hd':=Q6.out.fr HD.out.2.2.1 (fun b aS hn=>bB hn FV (by decide)) (fun b aS hn=>bB hn FV (by decide));have hmo:∀b,b=tb->TX dp tb b:=fun b e=>Or.inr e
   refine⟨HD.out.1.fr hW.1 (fun b aS hn=>bB hn Ve (by decide)),⟨u,r,?_,hTW,hd.fr hW.1 (fun b aS hn=>bB hn Ve (by decide)) (fun b aS hn=>bB hn Ve (by decide)),hd'.fr hW.1 (fun b aS hn=>bB hn Ve (by decide)) (fun b aS hn=>bB hn Ve (by decide))⟩,?_,?_⟩
   ·simp only[hN];exact hW.1.at R1.out (bB R1.out Ve (by decide))
   ·have k1:Dk w6 w7 (TX dp tb) (TX dp tb):=⟨HD.out.2.2.1.mono hmo,HD.out.2.2.2.1,fun b hb=>Or.inl hb⟩;have k2:Dk w7 W (TX dp tb) (TX dp tb):=⟨hW.1.mono hmo,hW.2.1,fun b hb=>Or.inl hb⟩;exact Q7.out.trans (k1.trans k2)
   ·obtain⟨-,-,-,e3,e4,-⟩:=cB (hW.1.at R1.out (bB R1.out Ve (by decide)));exact⟨e3.trans H34.out.1.symm,e4.trans H34.out.2.symm⟩
  have HT0:Hid (dD w7 tb L):=HD.out.2.1;clear FV Ve r1 r2 HD Q1 Q2 Q3 Q4 Q5 Q6 Q7 Q8 QD b0 b1 d1 HD0 NC HDel
  go_upto_region 5 with fail
  go_loopw [7,9,34] (fun pv _ i wr=> ∃k:Nat,k<=c.length/\pv=I V (p+sz (c.take k))/\i=I V (k:Int)/\Hid (dD wr tb (bO L p (c.take k))/\Dk w7 wr (fun b=>b=tb) (fun b=>b=tb))) (fun _ _ i _=>c.length-(intOf i).toNat)
  case atStart=>exact⟨0,Nat.zero_le _,by simp[sz],rfl,by show _/\_;exact⟨by simpa[bO]using HT0.out,Dk.refl _ _⟩⟩
  case round=>
   obtain⟨k,hk,rfl,rfl,HR⟩:=hrel;have Xo:=nJ hc k;by_cases bT:k<c.length
   ·obtain⟨q,hq⟩:∃q,c[k]?=M q:=⟨_,List.getElem?_eq_getElem bT⟩;have hqo:=hc q (List.mem_of_getElem? hq);unfold lX at hqo;have HN:Hid (sz (c.take (k+1))=sz (c.take k)+q.2):=Ae hq;have hyr:=HY.out.fr HR.out.2.1 (fun b aS hn=>bB hn HT7.out (by decide));rcases hyr.1.1 with hx|⟨b,off,e1,ZO⟩
    ·rw[hx]at bT;simp at bT
    ·simp only at e1;subst e1;obtain⟨d1,d2⟩:=ZO k bT;have Oe:c.getD k (0,0)=q:=by simp[List.getD_eq_getElem?_getD,hq]
     have d1':wr.cell? ⟨b,off+k*2,O⟩=M (I V q.1):=(by first|simpa[Oe]using d1|(rw[Oe]at d1;exact d1));have d2':wr.cell? ⟨b,off+k*2+1,O⟩=M (I V q.2):=(by first|simpa[Oe]using d2|(rw[Oe]at d2;exact d2));obtain⟨-,t1,-⟩:=cB (HR.out.2.1.at R1.out (bB R1.out HT7.out (by decide)));have HI:=HIns.out k q hq
     have HC:Hid (∀(o:Obj) W,aL (wr.alloc o) W->H K 63 #[U (M ⟨tb,0,O⟩),I V (p+sz (c.take k)),.agg #[I V q.1,I V q.2]] W fun e w'=>e=G (I V 0)/\dD w' tb (bO L p (c.take (k+1)))/\Dk (wr.alloc o) w' (fun b=>b=tb) (fun b=>b=tb)):=fun o W hW=>by
      refine(Fy ((HR.out.1.below (aL.alloc (aL.refl wr) o)).below hW)).mono ?_;rw[HI];rintro e w' ⟨rfl,ht,zG⟩;exact⟨rfl,ht,(Dk.dJ hW).trans (Dk.kK zG rfl)⟩
     have htr:tb<wr.heap.size:=Nat.lt_of_lt_of_le Un HR.out.2.1.1;have i1:(0:Int)<=(k:Int):=by omega
     have i2:(k:Int)<(c.length:Int):=by omega
     clear hq ZO d1 d2 Oe HI hyr;obtain⟨q1,q2⟩:=q;simp only at*;generalize sz (c.take k)=z at*
     go_upto_region 7 with fail
     go_cut [44] (fun v wc=>v=I V 0/\Hid (dD wc tb (bO L p (c.take (k+1)))/\Dk (wr.alloc (C #[I V q1,I V q2] 114)) wc (fun b=>b=tb) (fun b=>b=tb)))
     case first=>
      obtain⟨w8,ou⟩:∃w8,w8=wr.alloc (C #[I V q1,I V q2] 114):=⟨_,rfl⟩;have t1':w8.cell? ⟨dp,1,O⟩=M (U (M ⟨tb,0,O⟩)):=by rw[ou];exact(aL.alloc (aL.refl wr) _).cell t1
      have EA:w8.heap[wr.heap.size]?=M (C #[I V q1,I V q2] 114 (0,0)):=by rw[ou];exact heap_alloc_new wr _
      have b8:w8.cell? ⟨wr.heap.size,0,O⟩=M (I V q1):=by simp[World.cell?,EA]
      have b9:w8.cell? ⟨wr.heap.size,1,O⟩=M (I V q2):=by simp[World.cell?,EA]
      have HC8:=HC.out (C #[I V q1,I V q2] 114);rw[<-ou]at HC8 ⊢;have HC9:Hid (∀W,aL w8 W->_):=HC8;have HW8:Hid (w8=wr.alloc (C #[I V q1,I V q2] 114)):=ou;clear ou HC8 EA t1 HC
      go_region_law ((refine eD (by rfl) 63 _ _ (by rfl) _ (by simp[Act.eval];done) e_tins ((HC9.out _ (by repeat (first|exact aL.refl _|refine aL.drew ?_))).mono ?_);rintro e w9 ⟨rfl,hd9⟩;refine⟨_,rfl,?_⟩))
      all_goals go_wp2_with fail
      all_goals go_meet
      all_goals exact⟨rfl,by rw[<-HW8.out];exact hd9⟩
     case rest=>
      obtain⟨rfl,HZ⟩:=hcut
      rename F=>w9
      have hb9:w9.heap[wr.heap.size]?=M (C #[I V q1,I V q2] 114 (0,0)):=HZ.out.2.1.at (heap_alloc_new wr _) (fun e=>by omega);have b9:w9.cell? ⟨wr.heap.size,1,O⟩=M (I V q2):=by simp[World.cell?,hb9]
      have HR2:Hid (Dk w7 w9 (fun b=>b=tb) (fun b=>b=tb)):=HR.out.2.trans ((Dk.dJ (aL.alloc (aL.refl wr) _)).trans HZ.out.2);clear HC hb9 t1 d1' d2'
      go_wp2_with fail
      go_roundw
      case rel=>exact⟨k+1,by omega,by rw[HN.out];go_num,by go_num,by show _/\_;exact⟨HZ.out.1,HR2.out⟩⟩
      case measure=>simp[intOf];omega
   ·have e1:c.take k=c:=List.take_of_length_le (by omega);rw[e1]at HR ⊢;have hi:¬(k:Int)<(c.length:Int):=by omega
    go_wp2_with fail
    go_ret;obtain⟨z1,z2,z3,z4,z5⟩:=HEnd.out _ HR.out.2 HR.out.1
    first|exact⟨(ao,aD.length,aD.length),rfl,z1,z2,z3,z4,z5⟩|exact⟨ao,aD.length,aD.length,⟨rfl,rfl,rfl⟩,z1,z2,z3,z4,z5⟩|exact⟨ao,aD.length,aD.length,rfl,z1,z2,z3,z4,z5⟩
end Go.Proofs.YtfplgfodoiiobaaGreatDoor
