/- DrB, DrC, DrD (joined). -/
import Derived.Test.YtfplgfodoiiobaaGreatDoorJ16
open Option renaming none→O,some→M
open Go.Value renaming int→I,slice→Z,pointer→U
open Go.IntKind renaming i64→V
open Go.Obj renaming cells→C
open Go.Ending renaming returned→G
open Go renaming World→F,Value→Y,Calls→H
open Go.Proofs.Tryz renaming prog→K
namespace Go.Proofs.YtfplgfodoiiobaaGreatDoor
set_option maxHeartbeats 4000000
set_option maxRecDepth 100000
open Go.RowKit
variable {w:F}{dp tb depth:Nat}{l:List (Int×Int)}{m:bR}{p pos n:Int}{x y:dS}
theorem kK (h:dX l)(k:Nat):0<=sz (l.take k)/\sz (l.take k)<=5000*(k:Int):=by
 have h1:dX (l.take k):=fun p hp=>h p (List.mem_of_mem_take hp)
 have h2:=pJ h1;have h3:(l.take k).length<=k:=by rw[List.length_take];omega
 omega
theorem wW {k:Nat}{p:Int×Int}(h:l[k]?=M p):sz (l.take (k+1))=sz (l.take k)+p.2:=by
 obtain⟨bS,he⟩:=List.getElem?_eq_some_iff.1 h;rw[List.take_succ_eq_append_getElem bS,mV,he];simp[sz]
theorem rO (h:bF w x l)(kV:dX l)(hl:l.length<=1000000):
 H K 187 #[x.v] w fun e w'=>e=G (I V (sz l))/\aK w w':=by
 obtain⟨ao,n,cap⟩:=x;obtain⟨h1,h2,h3⟩:=h;simp only at h1 h2 h3;subst h2;simp only[dS.v];have HR:Hid (Jz w ao l):=h1.1;clear h1;go_enter Tryz.func187,Tryz.ntmps187
 go_wp2_with fail
 go_loopw [3,5,8] (fun c _ i wr=> ∃k:Nat,k<=l.length/\c=I V (sz (l.take k))/\i=I V (k:Int)/\Hid (aK w wr)) (fun _ _ i _=>l.length-(intOf i).toNat)
 case atStart=>exact⟨0,Nat.zero_le _,rfl,rfl,aK.refl w⟩
 case round=>
  obtain⟨k,hk,rfl,rfl,HG⟩:=hrel;have hb:=kK kV k;by_cases bS:k<l.length
  ·obtain⟨p,hp⟩:∃p,l[k]?=M p:=⟨_,List.getElem?_eq_getElem bS⟩;have HN:Hid (sz (l.take (k+1))=sz (l.take k)+p.2):=wW hp;have hpo:=kV p (List.mem_of_getElem? hp);unfold jU at hpo;rcases HR.out with hx|⟨b,off,rfl,hc⟩
   ·rw[hx]at bS;simp at bS
   ·obtain⟨d1,d2⟩:=hc k bS;have Fw:l.getD k (0,0)=p:=by simp[List.getD_eq_getElem?_getD,hp]
    have d1':wr.cell? ⟨b,off+k*2,O⟩=M (I V p.1):=HG.out.cell (by first|simpa[Fw]using d1|(rw[Fw]at d1;exact d1));have d2':wr.cell? ⟨b,off+k*2+1,O⟩=M (I V p.2):=HG.out.cell (by first|simpa[Fw]using d2|(rw[Fw]at d2;exact d2));have i1:(0:Int)<=(k:Int):=by omega
    have i2:(k:Int)<(l.length:Int):=by omega
    generalize sz (l.take k)=z at hb HN;clear hp hc d1 d2 Fw
    go_wp2_with fail
    go_roundw
    case rel=>exact⟨k+1,by omega,by rw[HN.out],by go_num,(show aK w _ from aK.alloc HG.out _)⟩
    case measure=>simp[intOf];omega
  ·have e1:l.take k=l:=List.take_of_length_le (by omega);rw[e1]
   go_wp2_with fail
   go_ret;exact⟨rfl,HG.out⟩
theorem Ho:H K 235 #[.agg #[I V p,x.v,y.v]] w fun e w'=>e=G (.agg #[I V p,y.v,x.v])/\aK w w':=by
 obtain⟨x1,x2,x3⟩:=x;obtain⟨y1,y2,y3⟩:=y;simp only[dS.v];go_enter Tryz.func235,Tryz.ntmps235
 go_wp2_with fail
 refine bodyPost_ret (v:= .agg #[I V p,Z y1 y2 y3,Z x1 x2 x3]) (by simp[results,Tryz.results235,go_sem]) rfl ?_;refine⟨rfl,?_⟩;refine⟨rfl,rfl,rfl,by simp;omega,fun k hk=>?_⟩
 repeat (rw[Below.heap_setCell _ _ _ _ (by simp only;omega)])
 rw[Below.heap_alloc _ _ _ (by simp;omega),Below.heap_alloc _ _ _ hk]
def mH (depth:Int) (tb:Nat) (cnt:Int) (u r:dS) (done buf:Int):Obj:=C #[I V depth,U (M ⟨tb,0,O⟩),I V cnt,u.v,r.v,I V done,I V buf] 147 (0,0)
def aR (w:F)(dp tb:Nat)(depth:Nat)(m:bR):Prop:=∃u r:dS,w.heap[dp]?=M (mH (depth:Int) tb (m.1.length:Int) u r m.2.2.2.1 m.2.2.2.2)/\bN w tb m.1/\cO w u m.2.1/\cO w r m.2.2.1
theorem bJ {depth cnt done buf:Int}{u r:dS}(h:w.heap[dp]?=M (mH depth tb cnt u r done buf)):
 w.cell? ⟨dp,0,O⟩=M (I V depth)/\w.cell? ⟨dp,1,O⟩=M (U (M ⟨tb,0,O⟩))/\w.cell? ⟨dp,2,O⟩=M (I V cnt)/\w.cell? ⟨dp,3,O⟩=M u.v/\w.cell? ⟨dp,4,O⟩=M r.v/\w.cell? ⟨dp,5,O⟩=M (I V done)/\w.cell? ⟨dp,6,O⟩=M (I V buf)/\∀j,w.frozen? ⟨dp,j,O⟩=false:=by
 simp[World.cell?,World.frozen?,h,mH]
theorem aR.aM {w':F}(h:aR w dp tb depth m)(hg:aK w w'):aR w' dp tb depth m:=by
 obtain⟨u,r,h1,h2,h3,h4⟩:=h;have hF:=Fr.bT hg (fun _=>False);exact⟨u,r,hF.at h1 id,h2.fr hF id (fun _ _ _ _ _ _ _=>id),h3.aM hg,h4.aM hg⟩
theorem Ca (h:aR w dp tb depth m):H K 78 #[U (M ⟨dp,0,O⟩)] w fun e w'=>e=G (I V (sz m.1))/\w'=w:=by
 obtain⟨u,r,h1,h2,-⟩:=h;obtain⟨-,c1,-⟩:=bJ h1;have hS:=jQ h2;clear h1 h2;go_enter Tryz.func78,Tryz.ntmps78
 go_wp2_with fail
 refine hS.mono ?_;rintro e w ⟨rfl,rfl⟩
 go_wp2_with fail
 go_ret;exact⟨rfl,rfl⟩
theorem Em (h:aR w dp tb depth m):H K 50 #[U (M ⟨dp,0,O⟩)] w fun e w'=>e=G (I V m.2.2.2.1)/\w'=w:=by
 obtain⟨u,r,h1,-⟩:=h;obtain⟨-,-,-,-,-,c5,-⟩:=bJ h1;clear h1;go_enter Tryz.func50,Tryz.ntmps50
 go_wp2_with fail
 go_ret;exact⟨rfl,rfl⟩
theorem wX (h:aR w dp tb depth m):H K 53 #[U (M ⟨dp,0,O⟩)] w fun e w'=>e=G (I V m.2.2.2.2)/\w'=w:=by
 obtain⟨u,r,h1,-⟩:=h;obtain⟨-,-,-,-,-,-,c6,-⟩:=bJ h1;clear h1;go_enter Tryz.func53,Tryz.ntmps53
 go_wp2_with fail
 go_ret;exact⟨rfl,rfl⟩
def oH (l:List (Int×Int))(pos n:Int):Bool:=decide (0<=pos) && decide (pos<=sz l-n)
theorem Km (h:aR w dp tb depth m)(h0:0<=n)(hn:n<=9223372036854775807)(hz:sz m.1<=100000000)(uZ:0<=sz m.1):
 H K 118 #[U (M ⟨dp,0,O⟩),I V pos,I V n] w fun e w'=>e=G (.bool (oH m.1 pos n))/\w'=w:=by
 have hL:=Ca h;clear h;by_cases hp:0<=pos
 ·have HE:Hid (oH m.1 pos n=decide (pos<=sz m.1-n)):=by show _=_;unfold oH;rw[decide_eq_true hp];rfl
  generalize sz m.1=z at hL hz uZ HE;go_enter Tryz.func118,Tryz.ntmps118
  go_wp2_with fail
  refine hL.mono ?_;rintro e w ⟨rfl,rfl⟩
  go_wp2_with fail
  go_ret;rw[HE.out];exact⟨rfl,rfl⟩
 ·have HE:Hid (oH m.1 pos n=false):=by show _=_;unfold oH;rw[decide_eq_false hp];rfl
  go_enter Tryz.func118,Tryz.ntmps118
  go_wp2_with fail
  go_ret;rw[HE.out];exact⟨rfl,rfl⟩
def gL (l:List (Int×Int))(pos:Int):Bool:=(lF l (pos-1)).2==0 && decide (1<(lF l (pos-1)).1.2)
theorem Hq (h:pos-1<0\/sz l<=pos-1):gL l pos=false:=by
 unfold gL lF;rw[if_pos h];rfl
theorem oU (h:¬(pos-1<0\/sz l<=pos-1)):gL l pos=decide (1<((bH l (pos-1)).head?.getD (0,0)).2):=by
 unfold gL lF;rw[if_neg h];simp
theorem nW (h:dX l):0<=sz l:=by
 have:=pJ h;omega
theorem Cb:∀ {l:List (Int×Int)} (_:dX l) {pos:Int} (_:0<=pos) (_:pos<=sz l),(cB l pos).length+(bH l pos).length=l.length+(if gL l pos then 1 else 0):=by
 intro l
 induction l with
 |nil=>
  intro _ pos h0 h1;simp[sz]at h1;rw[Hq (by omega)];simp[cB,bH]
 |cons p l ih=>
  intro h pos h0 h1;have hp:=dL h;have ho:=bP h;have hn:=nW ho;unfold jU at hp;rw[nI]at h1;by_cases hz:pos<=0
  ·rw[Hq (by omega),cB,bH,if_pos hz,if_pos hz];simp
  ·rw[cB,bH,if_neg hz,if_neg hz];by_cases h2:p.2<=pos
   ·rw[if_pos h2,if_pos h2];have hi:=ih ho (pos:=pos-p.2) (by omega) (by omega)
    have hw:gL (p::l) pos=gL l (pos-p.2):=by
     by_cases h3:pos=p.2
     ·rw[Hq (l:=l) (by omega),oU (by rw[nI];omega),bH];by_cases h4:pos-1<=0
      ·rw[if_pos h4];show decide (1<p.2)=false;exact decide_eq_false (by omega)
      ·rw[if_neg h4,if_neg (by omega)];show decide (1<p.2-(pos-1))=false;exact decide_eq_false (by omega)
     ·rw[oU (by rw[nI];omega),oU (by omega),bH,if_neg (by omega),if_pos (by omega)];rw[show pos-1-p.2=pos-p.2-1 from by omega]
    rw[hw];simp only[List.length_cons];omega
   ·rw[if_neg h2,if_neg h2]
    have hw:gL (p::l) pos=true:=by
     rw[oU (by rw[nI];omega),bH];by_cases h4:pos-1<=0
     ·rw[if_pos h4];show decide (1<p.2)=true;exact decide_eq_true (by omega)
     ·rw[if_neg h4,if_neg (by omega)];show decide (1<p.2-(pos-1))=true;exact decide_eq_true (by omega)
    rw[hw];simp;omega
def Ng (l:List (Int×Int))(p n:Int)(c:Nat):Int:=
 if n=0 then (l.length:Int)+(c:Int)+(if decide (0<c) && gL l p then 1 else 0)
 else (l.length:Int)+(c:Int)+(if gL l p then 1 else 0)+(if gL l (p+n)then 1 else 0)-((tK l p n).length:Int)
theorem AA (h:dX l)(hp:0<=p)(hn:0<n)(hs:p+n<=sz l):gL (bH l p) n=gL l (p+n):=by
 have iU:=jP h hp (by omega);rw[oU (by rw[iU];omega),oU (by omega),yL h hp (by omega)];rw[show p+(n-1)=p+n-1 from by omega]
theorem WN (h:dX l){came:List (Int×Int)}(hp:0<=p)(hn:0<=n)(hs:p+n<=sz l):Ng l p n came.length=((bY (bU l p n).1 p came).length:Int):=by
 have h1:=Cb h hp (by omega);unfold Ng bU;by_cases h0:n=0
 ·rw[if_pos h0,if_pos h0];unfold bY;by_cases hc:came=[]
  ·rw[if_pos hc,hc];simp
  ·rw[if_neg hc]
   have hl:0<came.length:=by
    cases came with
    |nil=>exact absurd rfl hc
    |cons a b=>simp
   rw[decide_eq_true hl,Bool.true_and];simp only[List.length_append];split<;>split at h1<;>simp_all<;>omega
 ·rw[if_neg h0,if_neg h0];have ht:=iA h p;have iU:=jP h hp (by omega);have h2:=Cb ht (pos:=n) hn (by omega);rw[AA h hp (by omega) hs]at h2
  have hlen:(bY (Gf l p n) p came).length=(cB l p).length+came.length+(bH (bH l p) n).length:=by
   unfold bY Gf;by_cases hc:came=[]
   ·rw[if_pos hc,hc];simp
   ·rw[if_neg hc];have hh:=rG h p;have hhs:=uX h hp (by omega);rw[nJ _ hh,if_pos (by omega),nK _ hh,if_pos (by omega),Fz hh (by omega),zQ hh (by omega)];simp;omega
  rw[hlen];unfold tK;split at h1<;>split at h2<;>simp_all<;>omega
theorem GY (h:aR w dp tb depth m)(h0: -1000000000<=pos)(h1:pos<=1000000000):
 H K 254 #[U (M ⟨dp,0,O⟩),I V pos] w fun e w'=>e=G (.bool (gL m.1 pos))/\aK w w':=by
 obtain⟨u,r,hb,ht,-⟩:=h;obtain⟨-,c1,-⟩:=bJ hb;have hF:=Lu ht (pos:=pos-1);have HE:Hid (gL m.1 pos=((lF m.1 (pos-1)).2==0 && decide (1<(lF m.1 (pos-1)).1.2))):=rfl;clear hb ht;generalize lF m.1 (pos-1)=q at hF HE;obtain⟨⟨q1,q2⟩,q3⟩:=q;simp only at hF HE;by_cases h3:q3=0
 ·subst h3;go_enter Tryz.func254,Tryz.ntmps254
  go_wp2_with fail
  refine hF.mono ?_;rintro e w1 ⟨rfl,hg⟩
  go_wp2_with fail
  go_ret;rw[HE.out];refine⟨by simp,?_⟩;exact aK.alloc hg _
 ·have ni:(q3==0)=false:=beq_eq_false_iff_ne.2 h3;go_enter Tryz.func254,Tryz.ntmps254
  go_wp2_with fail
  refine hF.mono ?_;rintro e w1 ⟨rfl,hg⟩
  go_wp2_with fail
  go_ret;rw[HE.out,ni];refine⟨rfl,?_⟩;exact aK.alloc hg _
theorem tail_drop:∀ {l:List (Int×Int)} (_:dX l) (k:Nat),k<=l.length->bH l (sz (l.take k))=l.drop k:=by
 intro l
 induction l with
 |nil=>intro _ k _;simp[bH]
 |cons p l ih=>
  intro h k hk;have hp:=dL h;unfold jU at hp;cases k with
  |zero=>simp[sz,bH]
  |succ k=>
   have hb:=kK (bP h) k;rw[List.take_succ_cons,nI,bH,if_neg (by omega),if_pos (by omega)];rw[show p.2+sz (l.take k)-p.2=sz (l.take k) from by omega];exact ih (bP h) k (by simpa using hk)
theorem WO:∀ {l:List (Int×Int)} (_:dX l) (k:Nat) (n:Int),k<=l.length->(∀j,j<k->sz (l.take j)<n)->n<=sz (l.take k)->(cB l n).length=k:=by
 intro l
 induction l with
 |nil=>intro _ k n hk _ _;simp at hk;subst hk;simp[cB]
 |cons p l ih=>
  intro h k n hk h1 h2;have hp:=dL h;unfold jU at hp;cases k with
  |zero=>
   have:n<=0:=by simpa[sz]using h2
   rw[kR _ this];rfl
  |succ k=>
   have h0:=h1 0 (by omega);simp[sz]at h0;rw[List.take_succ_cons,nI]at h2;rw[cB,if_neg (by omega)];by_cases h3:p.2<=n
   ·rw[if_pos h3]
    have:=ih (bP h) k (n-p.2) (by simpa using hk) (fun j hj=>by
     have:=h1 (j+1) (by omega);rw[List.take_succ_cons,nI]at this;omega) (by omega)
    simp[this]
   ·rw[if_neg h3];cases k with
    |zero=>rfl
    |succ k=>
     have:=h1 1 (by omega);rw[List.take_succ_cons,nI]at this;simp[sz]at this;omega
theorem aK.then {a b c:F}(h1:aK a b)(h2:aK b c):aK a c:=bA h1 h2
theorem keepD {w0:F}{a1 a2 a3 a4:Addr}{v1 v2 v3 v4:Y}(h1:w0.cell? a1=M v1)(h2:w0.cell? a2=M v2)(h3:w0.cell? a3=M v3)(h4:w0.cell? a4=M v4)(h:aK w0 w):w.cell? a1=M v1/\w.cell? a2=M v2/\w.cell? a3=M v3/\w.cell? a4=M v4/\aK w0 w:=⟨h.cell h1,h.cell h2,h.cell h3,h.cell h4,h⟩
theorem Tc {g c:List (Int×Int)}(h:aR w dp tb depth m)(hx:bF w x g)(hy:bF w y c)(hg:dX g)(GZ:g.length<=10000)(LA:c.length<=10000)(hp:0<=p)(hs:p+sz g<=sz m.1)(hz:sz m.1<=100000000):
 H K 233 #[U (M ⟨dp,0,O⟩),.agg #[I V p,x.v,y.v]] w fun e w'=>e=G (I V (Ng m.1 p (sz g) c.length))/\aK w w':=by
 have jf:=nW hg;have HB:Hid (∀W,aK w W->H K 187 #[x.v] W fun e w'=>e=G (I V (sz g))/\aK W w'):=fun W hW=>rO (hx.aM hW) hg (by omega)
 have HW:Hid (∀W,aK w W->∀q,-1000000000<=q->q<=1000000000->H K 254 #[U (M ⟨dp,0,O⟩),I V q] W fun e w'=>e=G (.bool (gL m.1 q))/\aK W w'):=fun W hW q h1 h2=>GY (h.aM hW) h1 h2
 obtain⟨u,r,hb,ht,-⟩:=h;have hm:m.1.length<=4096:=ht.ok.2;have kV:dX m.1:=ht.ok.1;have HF:Hid (∀W,aK w W->∀q,H K 104 #[U (M ⟨tb,0,O⟩),I V q] W fun e w'=>e=G (.tuple #[.agg #[I V (lF m.1 q).1.1,I V (lF m.1 q).1.2],I V (lF m.1 q).2])/\aK W w'):=fun W hW q=>Lu (ht.below hW)
 obtain⟨-,c1,c2,-⟩:=bJ hb;have hyl:y.2.1=c.length:=hy.2.1;obtain⟨x1,x2,x3⟩:=x;obtain⟨y1,y2,y3⟩:=y;simp only at hyl;subst hyl;simp only[dS.v]at*;obtain⟨w0,WM⟩:∃w0,w0=w.alloc (C #[I V p,Z x1 x2 x3,Z y1 c.length y3] 261):=⟨_,rfl⟩;have Qq:aK w w0:=by rw[WM];exact aK.alloc (aK.refl w) _
 have lG:w0.heap[w.heap.size]?=M (C #[I V p,Z x1 x2 x3,Z y1 c.length y3] 261 (0,0)):=by rw[WM];exact heap_alloc_new w _
 have b0:w0.cell? ⟨w.heap.size,0,O⟩=M (I V p):=by simp[World.cell?,lG]
 have b1:w0.cell? ⟨w.heap.size,1,O⟩=M (Z x1 x2 x3):=by simp[World.cell?,lG]
 have b2:w0.cell? ⟨w.heap.size,2,O⟩=M (Z y1 c.length y3):=by simp[World.cell?,lG]
 have d1:=Qq.cell c1;have d2:=Qq.cell c2;have uf:Hid (aK w w0):=Qq;clear hx hy hb c1 c2 ht lG Qq;go_enter Tryz.func233,Tryz.ntmps233
 go_upto_region 1 with fail
 rw[<-WM];clear WM
 go_cut [5,6] (fun f t wc=>f=I V p/\t=I V (p+sz g)/\Hid (aK w0 wc))
 case first=>
  have G0:=aK.refl w0;have hwp:IntKind.i64.wrap (p+sz g)=p+sz g:=by rw[IntKind.wrap_i64];omega
  go_region_held3 (fun w'=>w'.cell? ⟨w.heap.size,0,O⟩=M (I V p)/\w'.cell? ⟨w.heap.size,1,O⟩=M (Z x1 x2 x3)/\w'.cell? ⟨w.heap.size,2,O⟩=M (Z y1 c.length y3)/\w'.cell? ⟨dp,2,O⟩=M (I V (m.1.length:Int))/\aK w0 w')
   (first|(refine keepD b0 b1 b2 d2 ?_;go_split_ands;with_reducible (first|assumption|exact G0|(refine aK.drew ?_;assumption)|(refine aK.then ?_ dY;assumption)|(refine aK.then ?_ dY;refine aK.drew ?_;assumption))))
   (first|(go_at_call 187;refine(HB.out _ (aK.then uf.out (by go_split_ands;with_reducible (first|assumption|(refine aK.drew ?_;assumption))))).mono ?_;rintro e w5 ⟨rfl,dY⟩))
  all_goals go_wp2_with fail
  all_goals go_meet
  all_goals exact⟨rfl,rfl,by show aK w0 _;go_split_ands;assumption⟩
 case rest=>
  obtain⟨rfl,rfl,HGc⟩:=hcut
  rename F=>w2
  have e2:=HGc.out.cell b2;have e3:=HGc.out.cell d2;have e4:=HGc.out.cell d1;have Hl:Hid (aK w w2):=uf.out.then HGc.out;clear b0 b1 b2 d1 d2;by_cases h0:sz g=0
  ·have hpp:p+sz g=p:=by omega
   rw[hpp];have PZ:IntKind.i64.wrap ((m.1.length:Int)+(c.length:Int))=(m.1.length:Int)+(c.length:Int):=by rw[IntKind.wrap_i64];omega
   by_cases hc:0<c.length
   ·have jk:(0:Int)<(c.length:Int):=by omega
    have hW:=fun W hW=>HW.out W hW p (by omega) (by omega)
    cases hwi:gL m.1 p with
    |true=>
     have HE:Hid (Ng m.1 p (sz g) c.length=(m.1.length:Int)+(c.length:Int)+1):=by show _=_;unfold Ng;rw[if_pos h0,decide_eq_true hc,hwi];rfl
     rw[hwi]at hW;clear hwi
     go_wp2_with fail
     go_quiet (fail)
     go_wp2_with (go_at_call 254;refine(hW _ (bD Hl.out _)).mono ?_;rintro e w5 ⟨rfl,dY⟩)
     go_ret;rw[HE.out];exact⟨rfl,aK.then (bD Hl.out _) dY⟩
    |false=>
     have HE:Hid (Ng m.1 p (sz g) c.length=(m.1.length:Int)+(c.length:Int)):=by show _=_;unfold Ng;rw[if_pos h0,decide_eq_true hc,hwi];simp
     rw[hwi]at hW;clear hwi
     go_wp2_with fail
     go_quiet (fail)
     go_wp2_with (go_at_call 254;refine(hW _ (bD Hl.out _)).mono ?_;rintro e w5 ⟨rfl,dY⟩)
     go_ret;rw[HE.out];exact⟨rfl,aK.then (bD Hl.out _) dY⟩
   ·have Kn:c.length=0:=by omega
    have jk:¬(0:Int)<(c.length:Int):=by omega
    have HE:Hid (Ng m.1 p (sz g) c.length=(m.1.length:Int)+(c.length:Int)):=by show _=_;unfold Ng;rw[if_pos h0,decide_eq_false hc];simp
    clear Kn
    go_wp2_with fail
    go_quiet (fail)
    go_wp2_with fail
    go_ret;rw[HE.out];exact⟨rfl,bD Hl.out _⟩
  ·have hgp:0<sz g:=by omega
   have hne:(p==p+sz g)=false:=by rw[beq_eq_false_iff_ne];omega
   have PZ:IntKind.i64.wrap ((m.1.length:Int)+(c.length:Int))=(m.1.length:Int)+(c.length:Int):=by rw[IntKind.wrap_i64];omega
   have HE:Hid (Ng m.1 p (sz g) c.length=(m.1.length:Int)+(c.length:Int)+(if gL m.1 p then 1 else 0)+(if gL m.1 (p+sz g)then 1 else 0)-((tK m.1 p (sz g)).length:Int)):=by show _=_;unfold Ng;rw[if_neg h0]
   have Xj:=fun W hW=>HW.out W hW p (by omega) (by omega)
   have LQ:=fun W hW=>HW.out W hW (p+sz g) (by omega) (by omega)
   generalize gL m.1 p=b1 at Xj HE;generalize gL m.1 (p+sz g)=b2 at LQ HE
   go_wp2_with fail
   go_quiet (fail)
   go_upto_region 7 with fail
   have SS:Hid (aK w (w2.drewN nq)):=bD Hl.out _;obtain⟨w3,hw3'⟩:∃w3,w3=w2.drewN nq:=⟨_,rfl⟩;have e4':w3.cell? ⟨dp,1,O⟩=M (U (M ⟨tb,0,O⟩)):=by rw[hw3'];exact e4
   rw[<-hw3']at SS ⊢;clear hw3' e2 e3 e4 Hl HGc
   go_upto_if 44 with(go_at_call 254;refine(Xj _ SS.out).mono ?_;rintro e w5 ⟨rfl,dY⟩)
   go_cut [7] (fun v wc=>v=I V ((m.1.length:Int)+(c.length:Int)+(if b1 then 1 else 0))/\wc=w5)
   case first=>
    cases b1 with
    |true=>
     go_wp2_with fail
     go_meet;exact⟨by simp,rfl⟩
    |false=>
     go_wp2_with fail
     go_meet;exact⟨by simp,rfl⟩
   case rest=>
    obtain⟨rfl,rfl⟩:=hcut
    rename F=>w4
    have QA:Hid (aK w3 w4):=dY;clear dY;have bX:0<=(if b1=true then (1:Int)else 0)/\(if b1=true then (1:Int)else 0)<=1:=by split<;>omega
    generalize (if b1=true then (1:Int)else 0)=z1 at HE bX
    go_upto_if 49 with(go_at_call 254;refine(LQ _ (SS.out.then QA.out)).mono ?_;rintro e w5 ⟨rfl,dY⟩)
    go_cut [7] (fun v wc=>v=I V ((m.1.length:Int)+(c.length:Int)+z1+(if b2 then 1 else 0))/\wc=w5)
    case first=>
     cases b2 with
     |true=>
      go_wp2_with fail
      go_meet;exact⟨by simp,rfl⟩
     |false=>
      go_wp2_with fail
      go_meet;exact⟨by simp,rfl⟩
    case rest=>
     obtain⟨rfl,rfl⟩:=hcut
     rename F=>w5
     have HG5:Hid (aK w4 w5):=dY;clear dY;have fG:0<=(if b2=true then (1:Int)else 0)/\(if b2=true then (1:Int)else 0)<=1:=by split<;>omega
     generalize (if b2=true then (1:Int)else 0)=z2 at HE fG;have HG6:Hid (aK w w5):=SS.out.then (QA.out.then HG5.out);have k1:=(QA.out.then HG5.out).cell e4';clear e4' SS QA HG5 Xj LQ HB HW;have hT:=iA kV p;have hTs:=jP kV hp (by omega)
     have HT:Hid (∀k:Nat,k<=(bH m.1 p).length->bH m.1 (p+sz ((bH m.1 p).take k))=(bH m.1 p).drop k):=fun k hk=>by
      rw[<-yL kV hp (kK hT k).1,tail_drop hT k hk]
     have HL:Hid (∀k:Nat,k<=(bH m.1 p).length->(∀j,j<k->sz ((bH m.1 p).take j)<sz g)->sz g<=sz ((bH m.1 p).take k)->(tK m.1 p (sz g)).length=k):=fun k hk h1 h2=>WO hT k (sz g) hk h1 h2
     have hTl:(bH m.1 p).length<=4097:=by have:=kT m.1 p;omega
     generalize bH m.1 p=T at hT hTs HT HL hTl
     go_upto_region 12 with fail
     go_loopw [7,8,9,10] (fun cv pv _ _ wr=> ∃k:Nat,k<=T.length/\cv=I V ((m.1.length:Int)+(c.length:Int)+z1+z2-(k:Int))/\pv=I V (p+sz (T.take k))/\Hid (∀j,j<k->sz (T.take j)<sz g)/\Hid (aK w5 wr)) (fun _ pv _ _ _=>(p+sz g-intOf pv).toNat)
     case atStart=>exact⟨0,Nat.zero_le _,by simp,by simp[sz],(fun j hj=>by omega),aK.refl w5⟩
     case round=>
      obtain⟨k,hk,rfl,rfl,HJ,HG⟩:=hrel;have Xo:=kK hT k;by_cases bS:sz (T.take k)<sz g
      ·have KV:k<T.length:=by
        by_cases KV:k<T.length
        ·exact KV
        ·rw[List.take_of_length_le (by omega)]at bS;omega
       obtain⟨q,hq⟩:∃q,T[k]?=M q:=⟨_,List.getElem?_eq_getElem KV⟩;have hqo:=hT q (List.mem_of_getElem? hq);unfold jU at hqo
       have Sq:lF m.1 (p+sz (T.take k))=(q,0):=by
        unfold lF;rw[if_neg (by omega),HT.out k hk,List.head?_drop,hq];rfl
       have dZ:=HF.out wr (HG6.out.then HG.out) (p+sz (T.take k));rw[Sq]at dZ;have HN:Hid (sz (T.take (k+1))=sz (T.take k)+q.2):=wW hq;have k2:=HG.out.cell k1;have TQ:p+sz (T.take k)<p+sz g:=by omega
       obtain⟨q1,q2⟩:=q;simp only at dZ hqo HN;clear Sq hq;have SX:Hid (sz (T.take k)<sz g):=bS;generalize sz (T.take k)=z at Xo bS TQ HN dZ
       go_wp2_with (go_at_call 104;refine dZ.mono ?_;rintro e w7 ⟨rfl,jG⟩)
       go_roundw
       case rel=>exact⟨k+1,by omega,by go_num,by rw[HN.out];go_num,(fun j hj=>by
        by_cases hjk:j=k
        ·subst hjk;exact SX.out
        ·exact HJ.out j (by omega)),aK.alloc (HG.out.then jG) _⟩
       case measure=>simp[intOf];omega
      ·have Fw:=HL.out k hk HJ.out (by omega);have TQ:¬p+sz (T.take k)<p+sz g:=by omega
       rw[Fw]at HE
       go_wp2_with fail
       go_ret;rw[HE.out];exact⟨rfl,HG6.out.then HG.out⟩
theorem Nh {g c:List (Int×Int)}(h:aR w dp tb depth m)(hx:bF w x g)(hy:bF w y c)(hg:dX g)(GZ:g.length<=10000)(LA:c.length<=10000)(hp:0<=p)(hs:p+sz g<=sz m.1)(hz:sz m.1<=100000000):
 H K 240 #[U (M ⟨dp,0,O⟩),.agg #[I V p,x.v,y.v]] w fun e w'=>e=G (.bool (decide ((bY (bU m.1 p (sz g)).1 p c).length<=4096)))/\aK w w':=by
 have kV:dX m.1:=by obtain⟨_,_,_,ht,_⟩:=h;exact ht.ok.1
 have hC:=fun W (hW:aK w W)=>Tc (h.aM hW) (hx.aM hW) (hy.aM hW) hg GZ LA hp hs hz
 have e1:=WN (came:=c) kV hp (nW hg) hs;rw[e1]at hC;obtain⟨x1,x2,x3⟩:=x;obtain⟨y1,y2,y3⟩:=y;simp only[dS.v]at*
 have HD:Hid (decide ((bY (bU m.1 p (sz g)).1 p c).length<=4096)=decide (((bY (bU m.1 p (sz g)).1 p c).length:Int)<=4096)):=by
  show _=_;rw[decide_eq_decide];omega
 clear h hx hy e1;generalize (bY (bU m.1 p (sz g)).1 p c).length=n at hC HD;go_enter Tryz.func240,Tryz.ntmps240
 go_wp2_with fail
 refine(hC _ (aK.alloc (aK.refl w) _)).mono ?_;rintro e w1 ⟨rfl,jH⟩
 go_wp2_with fail
 go_ret;rw[HD.out];exact⟨rfl,(aK.alloc (aK.refl w) _).then jH⟩
end Go.Proofs.YtfplgfodoiiobaaGreatDoor
