/- DrB, DrC, DrD (joined). -/
import Derived.Test.YtfplgfodoiiobaaGreatDoorD19
open Option renaming none→O,some→M
open Go.Value renaming int→I,slice→Z,pointer→U
open Go.IntKind renaming i64→V
open Go.Obj renaming cells→C
open Go.Ending renaming returned→G
open Go renaming World→F,Value→Y,Calls→H
open Go.Proofs.Tryz renaming prog→K
open Go.Proofs.Tryz
namespace Go.Proofs.YtfplgfodoiiobaaGreatDoor
set_option maxHeartbeats 4000000
set_option maxRecDepth 100000
open Go.RowKit
variable {w:F}{dp tb depth:Nat}{l:List (Int×Int)}{m:dD}{p pos n:Int}{x y:bS}
theorem nZ (h:eY l)(k:Nat):0<=sz (l.take k)/\sz (l.take k)<=5000*(k:Int):=by
 have h1:eY (l.take k):=fun p hp=>h p (AaX hp);have h2:=lW h1;have h3:(l.take k).length<=k:=by rw[Aaw];omega
 omega
theorem Be {k:Nat}{p:Int×Int}(h:l[k]?=M p):sz (l.take (k+1))=sz (l.take k)+p.2:=by
 obtain⟨bP,he⟩:=Aae.1 h;rw[Aau bP,oI,he];simp[sz]
theorem vZ (h:bH w x l)(kP:eY l)(hl:l.length<=1000000):
 H K 187 #[x.v] w fun e w'=>e=G (I V (sz l))/\aL w w':=by
 obtain⟨ao,n,cap⟩:=x;obtain⟨h1,h2,h3⟩:=h;simp only at h1 h2 h3;subst h2;simp only[bS.v];have HR:Hid (Da w ao l):=h1.1;clear h1;go_enter func187,ntmps187;go_wp2_with fail
 go_loopw [3,5,8] (fun c _ i wr=> ∃k:Nat,k<=l.length/\c=I V (sz (l.take k))/\i=I V (k:Int)/\Hid (aL w wr)) (fun _ _ i _=>l.length-(intOf i).toNat)
 case atStart=>exact⟨0,Aap _,rfl,rfl,aL.refl w⟩
 case round=>
  obtain⟨k,hk,rfl,rfl,HG⟩:=hrel;have hb:=nZ kP k;by_cases bP:k<l.length
  ·obtain⟨p,hp⟩:∃p,l[k]?=M p:=⟨_,Aag bP⟩;have HN:Hid (sz (l.take (k+1))=sz (l.take k)+p.2):=Be hp;have hpo:=kP p (Aai hp);unfold mV at hpo;rcases HR.out with hx|⟨b,off,rfl,hc⟩
   ·rw[hx]at bP;simp at bP
   ·obtain⟨d1,d2⟩:=hc k bP;have Kc:l.getD k (0,0)=p:=(by simp[List.getD_eq_getElem?_getD,hp]);have d1':wr.cell? ⟨b,off+k*2,O⟩=M (I V p.1):=HG.out.cell (by first|simpa[Kc]using d1|(rw[Kc]at d1;exact d1));have d2':wr.cell? ⟨b,off+k*2+1,O⟩=M (I V p.2):=HG.out.cell (by first|simpa[Kc]using d2|(rw[Kc]at d2;exact d2));have i1:(0:Int)<=(k:Int):=(by omega);have i2:(k:Int)<(l.length:Int):=(by omega);generalize sz (l.take k)=z at hb HN;clear hp hc d1 d2 Kc;go_wp2_with fail;go_roundw
    case rel=>exact⟨k+1,by omega,by rw[HN.out],by go_num,(show aL w _ from aL.alloc HG.out _)⟩
    case measure=>simp[intOf];omega
  ·have e1:l.take k=l:=Aaq (by omega);rw[e1];go_wp2_with fail;go_ret;exact⟨rfl,HG.out⟩
theorem Nr:H K 235 #[.agg #[I V p,x.v,y.v]] w fun e w'=>e=G (.agg #[I V p,y.v,x.v])/\aL w w':=by
 obtain⟨x1,x2,x3⟩:=x;obtain⟨y1,y2,y3⟩:=y;simp only[bS.v];go_enter func235,ntmps235;go_wp2_with fail;refine Aan (v:= .agg #[I V p,Z y1 y2 y3,Z x1 x2 x3]) (by simp[results,results235,go_sem]) rfl ?_;refine⟨rfl,?_⟩;refine⟨rfl,rfl,rfl,by simp;omega,fun k hk=>?_⟩
 repeat (rw[Abm _ _ _ _ (by simp only;omega)])
 rw[AbF _ _ _ (by simp;omega),AbF _ _ _ hk]
def pW (depth:Int) (tb:Nat) (cnt:Int) (u r:bS) (done buf:Int):Obj:=C #[I V depth,U (M ⟨tb,0,O⟩),I V cnt,u.v,r.v,I V done,I V buf] 147 (0,0)
def aV (w:F)(dp tb:Nat)(depth:Nat)(m:dD):Prop:=∃u r:bS,w.heap[dp]?=M (pW (depth:Int) tb (m.1.length:Int) u r m.2.2.2.1 m.2.2.2.2)/\dG w tb m.1/\dR w u m.2.1/\dR w r m.2.2.1
theorem bZ {depth cnt done buf:Int}{u r:bS}(h:w.heap[dp]?=M (pW depth tb cnt u r done buf)):
 w.cell? ⟨dp,0,O⟩=M (I V depth)/\w.cell? ⟨dp,1,O⟩=M (U (M ⟨tb,0,O⟩))/\w.cell? ⟨dp,2,O⟩=M (I V cnt)/\w.cell? ⟨dp,3,O⟩=M u.v/\w.cell? ⟨dp,4,O⟩=M r.v/\w.cell? ⟨dp,5,O⟩=M (I V done)/\w.cell? ⟨dp,6,O⟩=M (I V buf)/\∀j,w.frozen? ⟨dp,j,O⟩=false:=by
 simp[World.cell?,World.frozen?,h,pW]
theorem aV.aN {w':F}(h:aV w dp tb depth m)(hg:aL w w'):aV w' dp tb depth m:=by
 obtain⟨u,r,h1,h2,h3,h4⟩:=h;have hF:=Fr.cZ hg (fun _=>False);exact⟨u,r,hF.at h1 id,h2.fr hF id (fun _ _ _ _ _ _ _=>id),h3.aN hg,h4.aN hg⟩
theorem Jc (h:aV w dp tb depth m):H K 78 #[U (M ⟨dp,0,O⟩)] w fun e w'=>e=G (I V (sz m.1))/\w'=w:=by
 obtain⟨u,r,h1,h2,-⟩:=h;obtain⟨-,c1,-⟩:=bZ h1;have hS:=mM h2;clear h1 h2;go_enter func78,ntmps78;go_wp2_with fail;refine hS.mono ?_;rintro e w ⟨rfl,rfl⟩;go_wp2_with fail;go_ret;exact⟨rfl,rfl⟩
theorem Lc (h:aV w dp tb depth m):H K 50 #[U (M ⟨dp,0,O⟩)] w fun e w'=>e=G (I V m.2.2.2.1)/\w'=w:=by
 obtain⟨u,r,h1,-⟩:=h;obtain⟨-,-,-,-,-,c5,-⟩:=bZ h1;clear h1;go_enter func50,ntmps50;go_wp2_with fail;go_ret;exact⟨rfl,rfl⟩
theorem Bg (h:aV w dp tb depth m):H K 53 #[U (M ⟨dp,0,O⟩)] w fun e w'=>e=G (I V m.2.2.2.2)/\w'=w:=by
 obtain⟨u,r,h1,-⟩:=h;obtain⟨-,-,-,-,-,-,c6,-⟩:=bZ h1;clear h1;go_enter func53,ntmps53;go_wp2_with fail;go_ret;exact⟨rfl,rfl⟩
def rR (l:List (Int×Int))(pos n:Int):Bool:=decide (0<=pos) && decide (pos<=sz l-n)
theorem Rj (h:aV w dp tb depth m)(h0:0<=n)(hn:n<=9223372036854775807)(hz:sz m.1<=100000000)(oG:0<=sz m.1):
 H K 118 #[U (M ⟨dp,0,O⟩),I V pos,I V n] w fun e w'=>e=G (.bool (rR m.1 pos n))/\w'=w:=by
 have hL:=Jc h;clear h;by_cases hp:0<=pos
 ·have HE:Hid (rR m.1 pos n=decide (pos<=sz m.1-n)):=by show _=_;unfold rR;rw[AaH hp];rfl
  generalize sz m.1=z at hL hz oG HE;go_enter func118,ntmps118;go_wp2_with fail;refine hL.mono ?_;rintro e w ⟨rfl,rfl⟩;go_wp2_with fail;go_ret;rw[HE.out];exact⟨rfl,rfl⟩
 ·have HE:Hid (rR m.1 pos n=false):=by show _=_;unfold rR;rw[AaN hp];rfl
  go_enter func118,ntmps118;go_wp2_with fail;go_ret;rw[HE.out];exact⟨rfl,rfl⟩
def jD (l:List (Int×Int))(pos:Int):Bool:=(oU l (pos-1)).2==0 && decide (1<(oU l (pos-1)).1.2)
theorem Ns (h:pos-1<0\/sz l<=pos-1):jD l pos=false:=by
 unfold jD oU;rw[Aad h];rfl
theorem sI (h:¬(pos-1<0\/sz l<=pos-1)):jD l pos=decide (1<((bT l (pos-1)).head?.getD (0,0)).2):=by
 unfold jD oU;rw[Aaa h];simp
theorem rG (h:eY l):0<=sz l:=by
 have:=lW h;omega
theorem Jd:∀ {l:List (Int×Int)} (_:eY l) {pos:Int} (_:0<=pos) (_:pos<=sz l),(dS l pos).length+(bT l pos).length=l.length+(if jD l pos then 1 else 0):=by
 intro l
 induction l with
 |nil=>
  intro _ pos h0 h1;simp[sz]at h1;rw[Ns (by omega)];simp[dS,bT]
 |cons p l ih=>
  intro h pos h0 h1;have hp:=eZ h;have ho:=dM h;have hn:=rG ho;unfold mV at hp;rw[qO]at h1;by_cases hz:pos<=0
  ·rw[Ns (by omega),dS,bT,Aad hz,Aad hz];simp
  ·rw[dS,bT,Aaa hz,Aaa hz];by_cases h2:p.2<=pos
   ·rw[Aad h2,Aad h2];have hi:=ih ho (pos:=pos-p.2) (by omega) (by omega)
    have hw:jD (p::l) pos=jD l (pos-p.2):=by
     by_cases h3:pos=p.2
     ·rw[Ns (l:=l) (by omega),sI (by rw[qO];omega),bT];by_cases h4:pos-1<=0
      ·rw[Aad h4];show decide (1<p.2)=false;exact AaN (by omega)
      ·rw[Aaa h4,Aaa (by omega)];show decide (1<p.2-(pos-1))=false;exact AaN (by omega)
     ·rw[sI (by rw[qO];omega),sI (by omega),bT,Aaa (by omega),Aad (by omega)];rw[show pos-1-p.2=pos-p.2-1 from by omega]
    rw[hw];simp only[Aao];omega
   ·rw[Aaa h2,Aaa h2]
    have hw:jD (p::l) pos=true:=by
     rw[sI (by rw[qO];omega),bT];by_cases h4:pos-1<=0
     ·rw[Aad h4];show decide (1<p.2)=true;exact AaH (by omega)
     ·rw[Aaa h4,Aaa (by omega)];show decide (1<p.2-(pos-1))=true;exact AaH (by omega)
    rw[hw];simp;omega
def Uc (l:List (Int×Int))(p n:Int)(c:Nat):Int:=
 if n=0 then (l.length:Int)+(c:Int)+(if decide (0<c) && jD l p then 1 else 0)
 else (l.length:Int)+(c:Int)+(if jD l p then 1 else 0)+(if jD l (p+n)then 1 else 0)-((wH l p n).length:Int)
theorem JV (h:eY l)(hp:0<=p)(hn:0<n)(hs:p+n<=sz l):jD (bT l p) n=jD l (p+n):=by
 have jW:=mJ h hp (by omega);rw[sI (by rw[jW];omega),sI (by omega),xV h hp (by omega)];rw[show p+(n-1)=p+n-1 from by omega]
theorem o_ (h:eY l){came:List (Int×Int)}(hp:0<=p)(hn:0<=n)(hs:p+n<=sz l):Uc l p n came.length=((bQ (bL l p n).1 p came).length:Int):=by
 have h1:=Jd h hp (by omega);unfold Uc bL;by_cases h0:n=0
 ·rw[Aad h0,Aad h0];unfold bQ;by_cases hc:came=[]
  ·rw[Aad hc,hc];simp
  ·rw[Aaa hc]
   have hl:0<came.length:=by
    cases came with
    |nil=>exact absurd rfl hc
    |cons a b=>simp
   rw[AaH hl,Bool.true_and];simp only[Aah];split<;>split at h1<;>simp_all<;>omega
 ·rw[Aaa h0,Aaa h0];have ht:=kL h p;have jW:=mJ h hp (by omega);have h2:=Jd ht (pos:=n) hn (by omega);rw[JV h hp (by omega) hs]at h2
  have hlen:(bQ (Kb l p n) p came).length=(dS l p).length+came.length+(bT (bT l p) n).length:=by
   unfold bQ Kb;by_cases hc:came=[]
   ·rw[Aad hc,hc];simp
   ·rw[Aaa hc];have hh:=vQ h p;have hhs:=yQ h hp (by omega);rw[qP _ hh,Aad (by omega),qQ _ hh,Aad (by omega),Ew hh (by omega),Ey hh (by omega)];simp;omega
  rw[hlen];unfold wH;split at h1<;>split at h2<;>simp_all<;>omega
theorem QF (h:aV w dp tb depth m)(h0: -1000000000<=pos)(h1:pos<=1000000000):
 H K 254 #[U (M ⟨dp,0,O⟩),I V pos] w fun e w'=>e=G (.bool (jD m.1 pos))/\aL w w':=by
 obtain⟨u,r,hb,ht,-⟩:=h;obtain⟨-,c1,-⟩:=bZ hb;have hF:=Sq ht (pos:=pos-1);have HE:Hid (jD m.1 pos=((oU m.1 (pos-1)).2==0 && decide (1<(oU m.1 (pos-1)).1.2))):=rfl;clear hb ht;generalize oU m.1 (pos-1)=q at hF HE;obtain⟨⟨q1,q2⟩,q3⟩:=q;simp only at hF HE;by_cases h3:q3=0
 ·subst h3;go_enter func254,ntmps254;go_wp2_with fail;refine hF.mono ?_;rintro e w1 ⟨rfl,hg⟩
  go_wp2
  go_ret;rw[HE.out];refine⟨by simp,?_⟩;exact aL.alloc hg _
 ·have h3':=Aat.2 h3;go_enter func254,ntmps254;go_wp2_with fail;refine hF.mono ?_;rintro e w1 ⟨rfl,hg⟩
  go_wp2
  go_ret;rw[HE.out,h3'];refine⟨rfl,?_⟩;exact aL.alloc hg _
theorem tail_drop:∀ {l:List (Int×Int)} (_:eY l) (k:Nat),k<=l.length->bT l (sz (l.take k))=l.drop k:=by
 intro l
 induction l with
 |nil=>intro _ k _;simp[bT]
 |cons p l ih=>
  intro h k hk;have hp:=eZ h;unfold mV at hp;cases k with
  |zero=>simp[sz,bT]
  |succ k=>
   have hb:=nZ (dM h) k;rw[AaV,qO,bT,Aaa (by omega),Aad (by omega)];rw[show p.2+sz (l.take k)-p.2=sz (l.take k) from by omega];exact ih (dM h) k (by simpa using hk)
theorem p_:∀ {l:List (Int×Int)} (_:eY l) (k:Nat) (n:Int),k<=l.length->(∀j,j<k->sz (l.take j)<n)->n<=sz (l.take k)->(dS l n).length=k:=by
 intro l
 induction l with
 |nil=>intro _ k n hk _ _;simp at hk;subst hk;simp[dS]
 |cons p l ih=>
  intro h k n hk h1 h2;have hp:=eZ h;unfold mV at hp;cases k with
  |zero=>
   have:n<=0:=(by simpa[sz]using h2);rw[oJ _ this];rfl
  |succ k=>
   have h0:=h1 0 (by omega);simp[sz]at h0;rw[AaV,qO]at h2;rw[dS,Aaa (by omega)];by_cases h3:p.2<=n
   ·rw[Aad h3]
    have:=ih (dM h) k (n-p.2) (by simpa using hk) (fun j hj=>by
     have:=h1 (j+1) (by omega);rw[AaV,qO]at this;omega) (by omega)
    simp[this]
   ·rw[Aaa h3];cases k with
    |zero=>rfl
    |succ k=>
     have:=h1 1 (by omega);rw[AaV,qO]at this;simp[sz]at this;omega
theorem aL.then {a b c:F}(h1:aL a b)(h2:aL b c):aL a c:=aQ h1 h2
theorem keepD {w0:F}{a1 a2 a3 a4:Addr}{v1 v2 v3 v4:Y}(h1:w0.cell? a1=M v1)(h2:w0.cell? a2=M v2)(h3:w0.cell? a3=M v3)(h4:w0.cell? a4=M v4)(h:aL w0 w):w.cell? a1=M v1/\w.cell? a2=M v2/\w.cell? a3=M v3/\w.cell? a4=M v4/\aL w0 w:=⟨h.cell h1,h.cell h2,h.cell h3,h.cell h4,h⟩
theorem Zn {g c:List (Int×Int)}(h:aV w dp tb depth m)(hx:bH w x g)(hy:bH w y c)(hg:eY g)(Fu:g.length<=10000)(TH:c.length<=10000)(hp:0<=p)(hs:p+sz g<=sz m.1)(hz:sz m.1<=100000000):
 H K 233 #[U (M ⟨dp,0,O⟩),.agg #[I V p,x.v,y.v]] w fun e w'=>e=G (I V (Uc m.1 p (sz g) c.length))/\aL w w':=by
 have Zg:=rG hg;have HB:Hid (∀W,aL w W->H K 187 #[x.v] W fun e w'=>e=G (I V (sz g))/\aL W w'):=fun W hW=>vZ (hx.aN hW) hg (by omega);have HW:Hid (∀W,aL w W->∀q,-1000000000<=q->q<=1000000000->H K 254 #[U (M ⟨dp,0,O⟩),I V q] W fun e w'=>e=G (.bool (jD m.1 q))/\aL W w'):=fun W hW q h1 h2=>QF (h.aN hW) h1 h2;obtain⟨u,r,hb,ht,-⟩:=h;have hm:m.1.length<=4096:=ht.ok.2;have kP:eY m.1:=ht.ok.1;have HF:Hid (∀W,aL w W->∀q,H K 104 #[U (M ⟨tb,0,O⟩),I V q] W fun e w'=>e=G (.tuple #[.agg #[I V (oU m.1 q).1.1,I V (oU m.1 q).1.2],I V (oU m.1 q).2])/\aL W w'):=fun W hW q=>Sq (ht.below hW);obtain⟨-,c1,c2,-⟩:=bZ hb;have hyl:y.2.1=c.length:=hy.2.1;obtain⟨x1,x2,x3⟩:=x;obtain⟨y1,y2,y3⟩:=y;simp only at hyl;subst hyl;simp only[bS.v]at*;obtain⟨w0,lH⟩:∃w0,w0=w.alloc (C #[I V p,Z x1 x2 x3,Z y1 c.length y3] 261):=⟨_,rfl⟩;have Qk:aL w w0:=by rw[lH];exact aL.alloc (aL.refl w) _
 have uU:w0.heap[w.heap.size]?=M (C #[I V p,Z x1 x2 x3,Z y1 c.length y3] 261 (0,0)):=by rw[lH];exact Aaf w _
 have b0:w0.cell? ⟨w.heap.size,0,O⟩=M (I V p):=by simp[World.cell?,uU]
 have b1:w0.cell? ⟨w.heap.size,1,O⟩=M (Z x1 x2 x3):=by simp[World.cell?,uU]
 have b2:w0.cell? ⟨w.heap.size,2,O⟩=M (Z y1 c.length y3):=by simp[World.cell?,uU]
 have d1:=Qk.cell c1;have d2:=Qk.cell c2;have UO:Hid (aL w w0):=Qk;clear hx hy hb c1 c2 ht uU Qk;go_enter func233,ntmps233;go_upto_region 1 with fail;rw[<-lH];clear lH
 go_cut [5,6] (fun f t wc=>f=I V p/\t=I V (p+sz g)/\Hid (aL w0 wc))
 case first=>
  have G0:=aL.refl w0;have hwp:IntKind.i64.wrap (p+sz g)=p+sz g:=by rw[AaE];omega
  go_region_held3 (fun w'=>w'.cell? ⟨w.heap.size,0,O⟩=M (I V p)/\w'.cell? ⟨w.heap.size,1,O⟩=M (Z x1 x2 x3)/\w'.cell? ⟨w.heap.size,2,O⟩=M (Z y1 c.length y3)/\w'.cell? ⟨dp,2,O⟩=M (I V (m.1.length:Int))/\aL w0 w')
   (first|(refine keepD b0 b1 b2 d2 ?_;go_split_ands;with_reducible (first|assumption|exact G0|(refine aL.drew ?_;assumption)|(refine aL.then ?_ eO;assumption)|(refine aL.then ?_ eO;refine aL.drew ?_;assumption))))
   (first|(go_at_call 187;refine(HB.out _ (aL.then UO.out (by go_split_ands;with_reducible (first|assumption|(refine aL.drew ?_;assumption))))).mono ?_;rintro e w5 ⟨rfl,eO⟩))
  all_goals go_wp2
  all_goals go_meet
  all_goals exact⟨rfl,rfl,by show aL w0 _;go_split_ands;assumption⟩
 case rest=>
  obtain⟨rfl,rfl,HGc⟩:=hcut
  rename F=>w2
  have e2:=HGc.out.cell b2;have e3:=HGc.out.cell d2;have e4:=HGc.out.cell d1;have Fy:Hid _:=UO.out.then HGc.out;clear b0 b1 b2 d1 d2;by_cases h0:sz g=0
  ·have hpp:p+sz g=p:=(by omega);rw[hpp];have NM:IntKind.i64.wrap ((m.1.length:Int)+(c.length:Int))=(m.1.length:Int)+(c.length:Int):=(by rw[AaE];omega);by_cases hc:0<c.length
   ·have jl:(0:Int)<(c.length:Int):=(by omega);have hW:=fun W hW=>HW.out W hW p (by omega) (by omega);cases hwi:jD m.1 p with
    |true=>
     have HE:Hid (Uc m.1 p (sz g) c.length=(m.1.length:Int)+(c.length:Int)+1):=(by show _=_;unfold Uc;rw[Aad h0,AaH hc,hwi];rfl);rw[hwi]at hW;clear hwi;go_wp2_with fail;go_quiet (fail);go_wp2_with (go_at_call 254;refine(hW _ (bB Fy.out _)).mono ?_;rintro e w5 ⟨rfl,eO⟩);go_ret;rw[HE.out];exact⟨rfl,aL.then (bB Fy.out _) eO⟩
    |false=>
     have HE:Hid (Uc m.1 p (sz g) c.length=(m.1.length:Int)+(c.length:Int)):=(by show _=_;unfold Uc;rw[Aad h0,AaH hc,hwi];simp);rw[hwi]at hW;clear hwi;go_wp2_with fail;go_quiet (fail);go_wp2_with (go_at_call 254;refine(hW _ (bB Fy.out _)).mono ?_;rintro e w5 ⟨rfl,eO⟩);go_ret;rw[HE.out];exact⟨rfl,aL.then (bB Fy.out _) eO⟩
   ·have Bh:c.length=0:=(by omega);have jl:¬(0:Int)<(c.length:Int):=(by omega);have HE:Hid (Uc m.1 p (sz g) c.length=(m.1.length:Int)+(c.length:Int)):=(by show _=_;unfold Uc;rw[Aad h0,AaN hc];simp);clear Bh;go_wp2_with fail;go_quiet (fail)
    go_wp2
    go_ret;rw[HE.out];exact⟨rfl,bB Fy.out _⟩
  ·have hgp:0<sz g:=(by omega);have hne:(p==p+sz g)=false:=(by rw[Aat];omega);have NM:IntKind.i64.wrap ((m.1.length:Int)+(c.length:Int))=(m.1.length:Int)+(c.length:Int):=(by rw[AaE];omega);have HE:Hid (Uc m.1 p (sz g) c.length=(m.1.length:Int)+(c.length:Int)+(if jD m.1 p then 1 else 0)+(if jD m.1 (p+sz g)then 1 else 0)-((wH m.1 p (sz g)).length:Int)):=(by show _=_;unfold Uc;rw[Aaa h0]);have Zd:=fun W hW=>HW.out W hW p (by omega) (by omega);have UG:=fun W hW=>HW.out W hW (p+sz g) (by omega) (by omega);generalize jD m.1 p=b1 at Zd HE;generalize jD m.1 (p+sz g)=b2 at UG HE;go_wp2_with fail;go_quiet (fail);go_upto_region 7 with fail;have jm:Hid (aL w (w2.drewN nq)):=bB Fy.out _;obtain⟨w3,hw3'⟩:∃w3,w3=w2.drewN nq:=⟨_,rfl⟩;have e4':w3.cell? ⟨dp,1,O⟩=M (U (M ⟨tb,0,O⟩)):=(by rw[hw3'];exact e4);rw[<-hw3']at jm ⊢;clear hw3' e2 e3 e4 Fy HGc;go_upto_if 44 with(go_at_call 254;refine(Zd _ jm.out).mono ?_;rintro e w5 ⟨rfl,eO⟩)
   go_cut [7] (fun v wc=>v=I V ((m.1.length:Int)+(c.length:Int)+(if b1 then 1 else 0))/\wc=w5)
   case first=>
    cases b1 with
    |true=>
     go_wp2
     go_meet;exact⟨by simp,rfl⟩
    |false=>
     go_wp2
     go_meet;exact⟨by simp,rfl⟩
   case rest=>
    obtain⟨rfl,rfl⟩:=hcut
    rename F=>w4
    have YX:Hid (aL w3 w4):=eO;clear eO;have dY:0<=(if b1=true then (1:Int)else 0)/\(if b1=true then (1:Int)else 0)<=1:=(by split<;>omega);generalize (if b1=true then (1:Int)else 0)=z1 at HE dY;go_upto_if 49 with(go_at_call 254;refine(UG _ (jm.out.then YX.out)).mono ?_;rintro e w5 ⟨rfl,eO⟩)
    go_cut [7] (fun v wc=>v=I V ((m.1.length:Int)+(c.length:Int)+z1+(if b2 then 1 else 0))/\wc=w5)
    case first=>
     cases b2 with
     |true=>
      go_wp2_with fail;go_meet;exact⟨by simp,rfl⟩
     |false=>
      go_wp2_with fail;go_meet;exact⟨by simp,rfl⟩
    case rest=>
     obtain⟨rfl,rfl⟩:=hcut
     rename F=>w5
     have HG5:Hid (aL w4 w5):=eO;clear eO;have fV:0<=(if b2=true then (1:Int)else 0)/\(if b2=true then (1:Int)else 0)<=1:=(by split<;>omega);generalize (if b2=true then (1:Int)else 0)=z2 at HE fV;have HG6:Hid (aL w w5):=jm.out.then (YX.out.then HG5.out);have k1:=(YX.out.then HG5.out).cell e4';clear e4' jm YX HG5 Zd UG HB HW;have hT:=kL kP p;have hTs:=mJ kP hp (by omega)
     have HT:Hid (∀k:Nat,k<=(bT m.1 p).length->bT m.1 (p+sz ((bT m.1 p).take k))=(bT m.1 p).drop k):=fun k hk=>by
      rw[<-xV kP hp (nZ hT k).1,tail_drop hT k hk]
     have HL:Hid (∀k:Nat,k<=(bT m.1 p).length->(∀j,j<k->sz ((bT m.1 p).take j)<sz g)->sz g<=sz ((bT m.1 p).take k)->(wH m.1 p (sz g)).length=k):=fun k hk h1 h2=>p_ hT k (sz g) hk h1 h2;have hTl:(bT m.1 p).length<=4097:=(by have:=qF m.1 p;omega);generalize bT m.1 p=T at hT hTs HT HL hTl;go_upto_region 12 with fail
     go_loopw [7,8,9,10] (fun cv pv _ _ wr=> ∃k:Nat,k<=T.length/\cv=I V ((m.1.length:Int)+(c.length:Int)+z1+z2-(k:Int))/\pv=I V (p+sz (T.take k))/\Hid (∀j,j<k->sz (T.take j)<sz g)/\Hid (aL w5 wr)) (fun _ pv _ _ _=>(p+sz g-intOf pv).toNat)
     case atStart=>exact⟨0,Aap _,by simp,by simp[sz],(fun j hj=>by omega),aL.refl w5⟩
     case round=>
      obtain⟨k,hk,rfl,rfl,HJ,HG⟩:=hrel;have FI:=nZ hT k;by_cases bP:sz (T.take k)<sz g
      ·have Qu:k<T.length:=by
        by_cases Qu:k<T.length
        ·exact Qu
        ·rw[Aaq (by omega)]at bP;omega
       obtain⟨q,hq⟩:∃q,T[k]?=M q:=⟨_,Aag Qu⟩;have hqo:=hT q (Aai hq);unfold mV at hqo
       have Zf:oU m.1 (p+sz (T.take k))=(q,0):=by
        unfold oU;rw[Aaa (by omega),HT.out k hk,List.head?_drop,hq];rfl
       have fT:=HF.out wr (HG6.out.then HG.out) (p+sz (T.take k));rw[Zf]at fT;have HN:Hid (sz (T.take (k+1))=sz (T.take k)+q.2):=Be hq;have k2:=HG.out.cell k1;have Rz:p+sz (T.take k)<p+sz g:=(by omega);obtain⟨q1,q2⟩:=q;simp only at fT hqo HN;clear Zf hq;have jo:Hid (sz (T.take k)<sz g):=bP;generalize sz (T.take k)=z at FI bP Rz HN fT;go_wp2_with (go_at_call 104;refine fT.mono ?_;rintro e w7 ⟨rfl,oH⟩);go_roundw
       case rel=>exact⟨k+1,by omega,by go_num,by rw[HN.out];go_num,(fun j hj=>by
        by_cases sw:j=k
        ·subst sw;exact jo.out
        ·exact HJ.out j (by omega)),aL.alloc (HG.out.then oH) _⟩
       case measure=>simp[intOf];omega
      ·have Kc:=HL.out k hk HJ.out (by omega);have Rz:¬p+sz (T.take k)<p+sz g:=(by omega);rw[Kc]at HE;go_wp2_with fail;go_ret;rw[HE.out];exact⟨rfl,HG6.out.then HG.out⟩
theorem Ud {g c:List (Int×Int)}(h:aV w dp tb depth m)(hx:bH w x g)(hy:bH w y c)(hg:eY g)(Fu:g.length<=10000)(TH:c.length<=10000)(hp:0<=p)(hs:p+sz g<=sz m.1)(hz:sz m.1<=100000000):
 H K 240 #[U (M ⟨dp,0,O⟩),.agg #[I V p,x.v,y.v]] w fun e w'=>e=G (.bool (decide ((bQ (bL m.1 p (sz g)).1 p c).length<=4096)))/\aL w w':=by
 have kP:eY m.1:=by obtain⟨_,_,_,ht,_⟩:=h;exact ht.ok.1
 have hC:=fun W (hW:aL w W)=>Zn (h.aN hW) (hx.aN hW) (hy.aN hW) hg Fu TH hp hs hz;have e1:=o_ (came:=c) kP hp (rG hg) hs;rw[e1]at hC;obtain⟨x1,x2,x3⟩:=x;obtain⟨y1,y2,y3⟩:=y;simp only[bS.v]at*
 have HD:Hid (decide ((bQ (bL m.1 p (sz g)).1 p c).length<=4096)=decide (((bQ (bL m.1 p (sz g)).1 p c).length:Int)<=4096)):=by
  show _=_;rw[decide_eq_decide];omega
 clear h hx hy e1;generalize (bQ (bL m.1 p (sz g)).1 p c).length=n at hC HD;go_enter func240,ntmps240;go_wp2_with fail;refine(hC _ (aL.alloc (aL.refl w) _)).mono ?_;rintro e w1 ⟨rfl,iJ⟩
 go_wp2
 go_ret;rw[HD.out];exact⟨rfl,(aL.alloc (aL.refl w) _).then iJ⟩
end Go.Proofs.YtfplgfodoiiobaaGreatDoor
