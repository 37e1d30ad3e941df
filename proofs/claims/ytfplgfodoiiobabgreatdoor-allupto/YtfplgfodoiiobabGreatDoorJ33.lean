/- a part of the proof. -/
import Derived.Test.YtfplgfodoiiobabGreatDoorJ17
import Derived.Test.YtfplgfodoiiobabGreatDoorJ24
import Derived.Test.YtfplgfodoiiobabGreatDoorJ25
import Derived.Test.YtfplgfodoiiobabGreatDoorJ27
open Option renaming none->O,some->M
open Go.Value renaming int->I,slice->Z,pointer->U
open Go.IntKind renaming i64->V
open Go.Obj renaming cells->C
open Go.Ending renaming returned->G
open Go renaming World->F,Value->Y,Calls->H
open Go.Proofs.Tryz renaming prog→K
open Go.Proofs.Tryz
namespace Go.Proofs.YtfplgfodoiiobabGreatDoor
set_option maxHeartbeats 4000000
set_option maxRecDepth 100000
open Go.RowKit
variable {w:F}{a b c n q most k:Int}{s:Sc}{fs:List bD}{m:dI}{db dp xb cap tb depth J fm fd g:Nat}{fv:Y}{rs:List FR}{ps:Nat->Addr}{f:bT}{lb:Array Y}
theorem KA {ao:Option Addr}{la ca:Nat}{l:List (Int×Int)}{pos:Int}(hr:nK w ao l)(e1:la=l.length)(ok:fC l)(hlen:l.length<=4096):
 H K 29 #[Z ao la ca,I V pos,I V n] w λe w'=>
  ∃nM Be go gc,e=G (.tuple #[Z nM (kL l pos n).1.length Be,Z go (kL l pos n).2.1.length gc,I V (kL l pos n).2.2])/\nK w' nM (kL l pos n).1/\nK w' go (kL l pos n).2.1/\(∀a,nM=M a->ao=M a\/w.heap.size<=a.block)/\Below w.heap.size w w':=by
 have t:∀w',Below w.heap.size w w'->nK w' ao l:=λw' c=>hr.fr (Fr.bK c (λ_=>False)) (λ_ _ _=>id);by_cases d:n<0\/pos<0\/sz l<pos\/sz l-pos<n
 ·refine(JS hr.1 e1 ok (by omega) d).mono ?_;rintro e w' ⟨rfl,rfl⟩;subst e1;simp only[kL,Aad d];exact⟨_,_,O,0,rfl,hr,nK.nil _,λa e=>Aac e,AaP _ _⟩
 ·by_cases i:n=0
  ·subst i;refine(EF hr.1 e1 ok (by omega) (by omega) (by omega)).mono ?_;rintro e w' ⟨rfl,rfl⟩;subst e1;simp only[kL,Aaa d,Aad];exact⟨_,_,O,0,rfl,hr,nK.nil _,λa e=>Aac e,AaP _ _⟩
  ·refine(SA hr.1 e1 ok (by omega) (by omega) (by omega) (by omega) (by omega)).mono ?_;rintro e w' (⟨h,rfl,c⟩|⟨h,v,g,rfl,j,k,c⟩)
   ·subst e1;simp only[kL,Aaa d,Aaa i,Aad h];exact⟨_,_,O,0,rfl,t _ c,nK.nil _,λa e=>Aac e,c⟩
   ·simp only[kL,Aaa d,Aaa i,Aaa (Nat.not_lt.2 h)];obtain⟨nM,u,rfl,r,-⟩:=nK.jR j;obtain⟨go,gc,rfl,o,-⟩:=nK.jR k;exact⟨_,_,_,_,rfl,r,o,λa e=>Aab (j.typed a e).choose_spec.2,c⟩
theorem SN (h:bO w xb s fs m f):
 H K 71 #[U (M ⟨xb,0,O⟩),I V a] w λe w'=>e=G (I V (pK s a).2)/\bO w' xb (pK s a).1 fs m f/\kX w w' xb f f:=by
 have k:Hid (bO w xb s fs m f):=h;obtain⟨r,c,n,j⟩:=h;obtain⟨-,-,-,-,-,-,g⟩:=lI c;obtain⟨x,u,-⟩:=Lv c;have o:=g 8;have t:=g 9;clear g;by_cases i:a<0
 ·have d:Hid (pK s a=(s,1)):=by show _=_;unfold pK;rw[Aad i]
  go_enter func71,ntmps71;go_wp2_with fail;go_ret;rw[d.out];exact⟨rfl,k.out,kX.refl _ _ _⟩
 ·have d:Hid (pK s a=({ s with refusing:=true,left:=a },0)):=by show _=_;unfold pK;rw[Aaa i]
  have pJ:=Uz true c;go_enter func71,ntmps71;go_wp2_with fail;go_ret;rw[d.out];exact⟨rfl,⟨r,Va _ pJ,(n.jM c).jM pJ,(j.jM c).jM pJ⟩,(kX.refl _ _ _).set.set⟩
theorem ig (h:bO w xb s fs m f):
 H K 69 #[U (M ⟨xb,0,O⟩),I V a,I V b,I V c] w λe w'=>e=G (I V (Ew s a b c).2)/\bO w' xb (Ew s a b c).1 fs m f/\kX w w' xb f f:=by
 have j:Hid (bO w xb s fs m f):=h;obtain⟨r,i,u,n⟩:=h;obtain⟨-,z,B,D,E,-,g⟩:=lI i;have x:=g 4;have y:=g 5;have J:=g 6;have A:=g 7;clear g;by_cases o:a<0
 ·have d:Hid (Ew s a b c=(s,1)):=by show _=_;unfold Ew;rw[Aad (Aac o)]
  go_enter func69,ntmps69;go_wp2_with fail;go_ret;rw[d.out];exact⟨rfl,j.out,kX.refl _ _ _⟩
 ·by_cases t:b<0
  ·have d:Hid (Ew s a b c=(s,1)):=(by show _=_;unfold Ew;rw[Aad (Aab (Aac t))]);go_enter func69,ntmps69;go_wp2_with fail;go_ret;rw[d.out];exact⟨rfl,j.out,kX.refl _ _ _⟩
  ·by_cases k:c<0
   ·have d:Hid (Ew s a b c=(s,1)):=(by show _=_;unfold Ew;rw[Aad (Aab (Aab k))]);go_enter func69,ntmps69;go_wp2_with fail;go_ret;rw[d.out];exact⟨rfl,j.out,kX.refl _ _ _⟩
   ·have d:Hid (Ew s a b c=({ s with jV:=true,after:=a,one:=b,rest:=c },0)):=(by show _=_;unfold Ew;rw[Aaa (by omega)]);have pJ:=Ux true i;have Xy:=Uy a pJ;have Ie:=SK b Xy;go_enter func69,ntmps69;go_wp2_with fail;go_ret;rw[d.out];exact⟨rfl,⟨r,SL c Ie,(((u.jM i).jM pJ).jM Xy).jM Ie,(((n.jM i).jM pJ).jM Xy).jM Ie⟩,(kX.refl _ _ _).set.set.set.set⟩
theorem gH.cut {room:Int}(h:gH room fs)(h0:0<=k)(hk:k<((aP fs n).size:Int)):gH room (qI fs (n,(aP fs n).extract 0 k.toNat,k) (-1)):=by
 have e:=extract_size (aP fs n) h0 (Int.le_of_lt hk);cases d:gK fs n with
 |none=>rw[fP,d]at hk;simp[EQ]at hk;omega
 |some f=>
  obtain⟨g,j⟩:=uQ d;obtain⟨a,b,c⟩:=h.ok f g;have i:aP fs n=f.2.1:=by rw[fP,d];rfl
  by_cases o:k=0
  ·rw[Vb h.sort (by simp only;omega) (h.no (by omega))];exact h.del n
  ·rw[Ab h.sort (by simp only;omega) (h.no (by omega))];refine h.put (by simp only;omega) ⟨h0,by simp only;omega,by simp only;rw[i]at e hk ⊢;omega⟩ ?_ ?_
   ·have:=h.nn f g;simp only;omega
   ·simp only;have:=h.used;omega
theorem Tj (hc:iX s)(h:gH s.room fs)(n:Int)(h0:0<=k):
 (((aP fs n).size:Int)<=k/\bM s fs n k=(true,s,fs))\/(k<((aP fs n).size:Int)/\∃s',bM s fs n k=(true,s',Vi fs n k)/\Aj s s'/\gH s.room (Vi fs n k))\/(k<((aP fs n).size:Int)/\∃s' dZ,bM s fs n k=(false,s',dZ)/\Qw s s' fs dZ):=by
 unfold bM;by_cases d:((aP fs n).size:Int)<=k
 ·rw[Aad d];exact Aac ⟨d,rfl⟩
 ·rw[Aaa d];have a:k<((aP fs n).size:Int):=by omega
  simp only;have i:=extract_size (aP fs n) h0 (Int.le_of_lt a)
  have g:qI fs (n,(aP fs n).extract 0 k.toNat,k) (-1)=Vi fs n k:=by
   unfold Vi;split
   ·exact Vb h.sort (by simp only;omega) (h.no (by omega))
   ·exact Ab h.sort (by simp only;omega) (h.no (by omega))
  rcases nO hc h with⟨s',e,c⟩|⟨s',dZ,e,c⟩
  ·right;left;rw[e];simp only[if_true];rw[g];exact⟨a,s',rfl,c,by rw[<-g];exact h.cut h0 a⟩
  ·right;right;rw[e];exact⟨a,s',dZ,by simp,c⟩
theorem xZ {ad:Addr}{b:ByteArray}(h:aU w db s fv rs)(hG:Yq w ps)(hC:iX s)(ha:0<=s.after)(hI:gH s.room (plain rs))(hl:rs.length<=1000)(Cr:b.size≠0)(hb:b.size<=1000000000)
 (hr:pX w (M ad) b.data.toList)(Vp:∃aR f,w.heap[ad.block]?=M (C aR 5 f)):
 H K 137 #[U (M ⟨db,0,O⟩),I V n,Z (M ad) b.size cap] w λe w'=> ∃v,e=G v/\AddD w w' ps db s fv rs n b v:=by
 obtain⟨a1,XI⟩:=addS_ref s (plain rs) n b;obtain⟨g1,g2,g3⟩:=ref_good (fs:=plain rs) (n:=(b.size:Int)) hC ha;have hR:=λ(W:F) (hW:aL w W)=>TF (w:=W) (n:=(b.size:Int)) (h.aN hW) hl (λf hf=>(hI.ok f hf).2.2) hC.AQ hC.kZ (by omega) (by omega) hC.Iq hC.Mg (XZ _) (by have:=hI.used;have:=hC.kZ;omega);obtain⟨z,R,P,S⟩:=new3 w (C #[U (M ⟨db,0,O⟩)] 111) (C #[I V n] 3) (C #[Z (M ad) b.size cap] 170);obtain⟨j,y⟩:∃j,j=((w.alloc (C #[U (M ⟨db,0,O⟩)] 111)).alloc (C #[I V n] 3)).alloc (C #[Z (M ad) b.size cap] 170):=⟨_,rfl⟩;have i:=hR j (by rw[y];exact z);rw[<-y]at z R P S;have f_:Hid (Yq j ps):=hG.aN z;have a0:Hid (aU j db s fv rs):=h.aN z;have B:=a0.out.1;have c0:j.cell? ⟨w.heap.size,0,O⟩=M (U (M ⟨db,0,O⟩)):=by simp[World.cell?,R]
 have c1:j.cell? ⟨w.heap.size+1,0,O⟩=M (I V n):=by simp[World.cell?,P]
 have c2:j.cell? ⟨w.heap.size+1+1,0,O⟩=M (Z (M ad) b.size cap):=by simp[World.cell?,S]
 have u:Hid (∀c,Og j c db->c.heap[w.heap.size]?=M (C #[U (M ⟨db,0,O⟩)] 111 (0,0))/\c.heap[w.heap.size+1]?=M (C #[I V n] 3 (0,0))/\c.heap[w.heap.size+1+1]?=M (C #[Z (M ad) b.size cap] 170 (0,0))/\Yq c ps/\pX c (M ad) b.data.toList/\∃aR f,c.heap[ad.block]?=M (C aR 5 f)):=λc L=>by
  obtain⟨aR,f,hc⟩:=Vp;have E:j.heap[ad.block]?=M (C aR 5 f):=(z.block _ (aM hc)).trans hc;refine⟨L.1.at R (λe=>aZ R B (by decide) e),L.1.at P (λe=>aZ P B (by decide) e),L.1.at S (λe=>aZ S B (by decide) e),f_.out.fr L.1 (λb aR hb=>aZ hb B (by decide)),?_,aR,f,L.1.at E (λe=>aZ E B (by decide) e)⟩;exact(hr.aN z).fr L.1 (λa e hx=>by cases e;exact aZ E B (by decide) hx)
 have D:Hid (aL w j):=z;clear h hG z R P S hR hr Vp B;cases TG:(qL s (plain rs) (b.size:Int)).1 with
 |true=>
  obtain⟨e1,e2,e3⟩:=a1 TG;rw[TG]at i;go_enter func137,ntmps137;go_upto_region 1 with fail;rw[<-y];clear y;go_wp2_with fail;refine i.mono ?_;rintro e c ⟨rfl,o,d⟩;obtain⟨x,t,q2,q3,-⟩:=u.out c d;have x1:c.cell? ⟨w.heap.size+1,0,O⟩=M (I V n):=by simp[World.cell?,t]
  have x2:=q3.cell (k:=0) (by omega);unfold jQ at x2;have Q:Hid (aU c db (qL s (plain rs) (b.size:Int)).2 fv rs):=o;clear o x t q2 q3;go_wp2_with fail;go_ret;refine⟨_,rfl,fv,rs,?_,?_,?_,?_⟩
  ·rw[e2];exact Q.out.aN (aO _ _)
  ·rw[e3]
  ·exact((Dk.bZ D.out).trans (Dk.Qv d.1 d.2 (Aac rfl))).aN (aO _ _)
  ·exact Aab (Aac ⟨e1,c.heap.size,_,n,rfl,Aag c _⟩)
 |false=>
  have hb:b.size<=1000000:=by have h1:=ny TG;have h2:=XZ (plain rs);have h3:=hC.kZ;omega
  have g:=XI TG;rw[TG]at i;obtain⟨r,tX⟩:∃r,r=(qL s (plain rs) (b.size:Int)).2:=⟨_,rfl⟩;rw[<-tX]at g i g1 g2 g3;have lV:=hI.sort.1;cases J:(dL r (plain rs)).1 with
  |true=>
   have LW:(dL r (plain rs)).2.2=plain rs:=by
    rcases nO g1 (by rw[g3];exact hI:gH r.room (plain rs))with⟨s',e,-⟩|⟨s',dZ,e,-⟩
    ·rw[e]
    ·rw[e]at J;cases J
   rw[J,Aad rfl,LW]at g;have Qz:=AA hI n b;have X:(nN (plain rs) n b).2.1.size≠0:=(by rw[Qz.2.1,Ady];omega);have om:qI (plain rs) (nN (plain rs) n b) (-1)=jA (plain rs) (nN (plain rs) n b):=Ab hI.sort X (hI.no (by omega));rw[om]at g
   have JC:Hid (∀c,aU c db r fv rs->Og j c db->H K 185 #[U (M ⟨db,0,O⟩),.string ⟨#[97,112,112,101,110,100,32,116,111]⟩,I V n,.func (.func 186) #[] #[U (M ⟨w.heap.size,0,O⟩),U (M ⟨w.heap.size+1,0,O⟩),U (M ⟨w.heap.size+1+1,0,O⟩)]] c λe w'=>e=G .nilIface/\∃A,Og c A db/\AppD A w' db (dL r (plain rs)).2.1 fv rs n b):=λc o d=>by
    refine LG o g2 g1.nV nu J (λA zR N=>?_);obtain⟨x,t,q2,q3,q4,q5⟩:=u.out A (d.trans N);cases hh:kP (plain rs) n with
    |true=>
     refine(LP (Ov:=cap) zR lV (by omega) (λf hf=>(hI.ok f hf).2.2) (by omega) (by simp[World.cell?,x]) (by simp[World.cell?,t]) (by simp[World.cell?,q2]) q4 hh).mono ?_;rintro e w2 ⟨rfl,g⟩;exact⟨rfl,A,N,g⟩
    |false=>
     refine(LV (Ov:=cap) zR lV (by omega) (by omega) x t q2 q4 q5 hh).mono ?_;rintro e w2 ⟨rfl,g⟩;exact⟨rfl,A,N,g⟩
   clear lV Qz X om LW hI;go_enter func137,ntmps137;go_upto_region 1 with fail;rw[<-y];clear y;go_wp2_with fail;refine i.mono ?_;rintro e c ⟨rfl,o,d⟩;obtain⟨x,t,-⟩:=u.out c d;have x0:c.cell? ⟨w.heap.size,0,O⟩=M (U (M ⟨db,0,O⟩)):=(by simp[World.cell?,x]);have x1:c.cell? ⟨w.heap.size+1,0,O⟩=M (I V n):=(by simp[World.cell?,t]);have Q:Hid (aU c db r fv rs):=o;clear o x t;go_wp2_with fail;refine(JC.out c Q.out d).mono ?_;rintro e w5 ⟨rfl,A,N,eD,dY,p1,p2,p3⟩;go_wp2_with fail;go_ret;refine⟨_,rfl,eD,dY,?_,?_,?_,?_⟩
   ·rw[g];exact p1
   ·rw[g];exact p2
   ·have hO:=d.trans N;exact((Dk.bZ D.out).trans (Dk.Qv hO.1 hO.2 (Aac rfl))).trans p3
   ·rw[g];exact Aac ⟨rfl,rfl⟩
  |false=>
   rw[J,Aaa (by simp)]at g
   have JC:Hid (∀c fn,aU c db r fv rs->Og j c db->H K 185 #[U (M ⟨db,0,O⟩),.string ⟨#[97,112,112,101,110,100,32,116,111]⟩,I V n,fn] c λe w'=> ∃v,e=G v/\TP c w' ps db r fv rs v):=λc fn o d=>
    XW o (u.out c d).2.2.2.1 g2 g1.nV (by omega) hI.ok lV g1.Ow g1.Ai g1.je g1.AR J
   clear lV hI;go_enter func137,ntmps137;go_upto_region 1 with fail;rw[<-y];clear y;go_wp2_with fail;refine i.mono ?_;rintro e c ⟨rfl,o,d⟩;obtain⟨x,t,-⟩:=u.out c d;have x0:c.cell? ⟨w.heap.size,0,O⟩=M (U (M ⟨db,0,O⟩)):=(by simp[World.cell?,x]);have x1:c.cell? ⟨w.heap.size+1,0,O⟩=M (I V n):=(by simp[World.cell?,t]);have Q:Hid (aU c db r fv rs):=o;clear o x t;go_wp2_with fail;refine(JC.out c _ Q.out d).mono ?_;rintro e w5 ⟨v,rfl,hE,eD,dY,p1,p2,p3⟩;obtain⟨bb,nm,num,rfl,jg⟩:=hE;go_wp2_with fail;go_ret;refine⟨_,rfl,eD,dY,?_,?_,?_,?_⟩
   ·rw[g];exact p1
   ·rw[g];exact p2
   ·exact((Dk.bZ D.out).trans (Dk.Qv d.1 d.2 (Aac rfl))).trans p3
   ·rw[g];exact Aab (Aab ⟨rfl,bb,nm,num,rfl,jg⟩)
theorem Vq (h:aU w db s fv rs)(hG:Yq w ps)(hC:iX s)(ha:0<=s.after)(hI:gH s.room (plain rs))(hl:rs.length<=1000):
 H K 148 #[U (M ⟨db,0,O⟩),I V n] w λe w'=> ∃v,e=G v/\tH w w' ps db fv rs v (cO s (plain rs) n):=by
 obtain⟨u,A⟩:=new1c w (C #[U (M ⟨db,0,O⟩)] 111);have t:=h.aN u;have x:=Me hI.sort.1 n
 have Q:Hid (H K 165 #[U (M ⟨db,0,O⟩),.string ⟨#[102,108,117,115,104]⟩,I V n,.func (.func 194) #[] #[U (M ⟨w.heap.size,0,O⟩)]] (w.alloc (C #[U (M ⟨db,0,O⟩)] 111)) λe w'=> ∃v,e=G v/\tH w w' ps db fv rs v (cO s (plain rs) n)):=by
  cases k:kP (plain rs) n with
  |false=>
   have a:cO s (plain rs) n=(true,s,plain rs):=(by unfold cO;rw[x,k];rfl);refine(Fj t hI.sort.1 (by omega) k).mono ?_;rintro e w' ⟨rfl,L⟩;exact⟨_,rfl,fv,rs,by rw[a];exact t.aN L,by rw[a],Dk.bZ (aQ u L),by rw[a];exact Aac ⟨rfl,rfl⟩⟩
  |true=>
   rw[k]at x;obtain⟨r,J,S⟩:=yZ k;cases o:(dL s (plain rs)).1 with
   |true=>
    have X:=Gz o
    have hb:aP (plain rs) n=r.f.2.1:=by
     rcases Ch hI.sort.1 n with⟨q,-,D,-,e,-⟩|⟨e,-⟩
     ·rw[J]at D;cases D;exact e
     ·rw[k]at e;cases e
    have a:cO s (plain rs) n=(true,(dL s (plain rs)).2.1,(plain rs).set (fF (plain rs) n) (r.f.1,r.f.2.1,(r.f.2.1.size:Int))):=by
     unfold cO;rw[x];simp only[if_true,o,X,hb,S]
    refine(Ct (R:=λy=>DoD w y db (dL s (plain rs)).2.1 fv rs ((plain rs).set (fF (plain rs) n) (r.f.1,r.f.2.1,(r.f.2.1.size:Int)))) t hI.sort.1 (by omega) k ha hC.nV e_flush1 o (λE P B=>?_)).mono ?_
    ·refine(oq P J ?_).mono ?_
     ·have:=B.1.at A (λe=>aZ A t.1 (by decide) e);simp[World.cell?,this]
     ·rintro e y ⟨rfl,j,i,g,d,c⟩;exact⟨rfl,j,i,g,d,((Dk.bZ u).trans (Dk.Qv B.1 B.2 (Aac rfl))).trans c⟩
    ·rintro e y ⟨rfl,j,i,g,d,c⟩;exact⟨_,rfl,j,i,by rw[a];exact g,by rw[a];exact d,c,by rw[a];exact Aac ⟨rfl,rfl⟩⟩
   |false=>
    have a:cO s (plain rs) n=dL s (plain rs):=by
     unfold cO;rw[x];simp only[if_true,o,AaF,if_false]
    refine(Hr t (hG.aN u) hC ha hI (by omega) k o).mono ?_;rintro e y ⟨v,rfl,W,j,i,g,d,c⟩;exact⟨v,rfl,j,i,by rw[a];exact g,by rw[a];exact d,(Dk.bZ u).trans c,by rw[a,o];exact Aab ⟨rfl,W⟩⟩
 clear h hG hC ha hI hl u A t x;go_enter func148,ntmps148;go_wp2_with fail;refine Q.out.mono ?_;rintro e E ⟨v,rfl,z⟩;obtain⟨j,i,g,d,c,N⟩:=z;have z:tH w E ps db fv rs v (cO s (plain rs) n):=⟨j,i,g,d,c,N⟩;rcases N with⟨-,rfl⟩|⟨-,bb,nm,num,rfl,-⟩
 ·clear g d c;go_wp2_with fail;go_ret;exact⟨_,rfl,z⟩
 ·clear g d c;go_wp2_with fail;go_ret;exact⟨_,rfl,z⟩
theorem TT (h:aU w db s fv rs):
 H K 112 #[U (M ⟨db,0,O⟩),I V a,I V b,I V c] w λe w'=>e=G (.tuple #[])/\aU w' db { s with jV:=true,after:=a,one:=b,rest:=c } fv rs/\Og w w' db:=by
 obtain⟨r,t,u,n,B,x,A,D,d⟩:=dM h.1;have y:=d 4;have z:=d 5;have J:=d 6;have E:=d 7;have j:Hid (aU w db s fv rs):=h;clear h d r t u n;go_enter func112,ntmps112;go_wp2_with fail;go_end0;have i:=j.out.set (BF true j.out.1);have k:=i.set (BG a i.1);have g:=k.set (ow b k.1);have o:=g.set (oz c g.1);exact⟨rfl,o,((((Og.refl w db).set).set).set).set⟩
theorem move_pg {t2:Int}(h:aU w db s fv rs)(hG:Yq w ps)(hC:iX s)(ha:0<=s.after)(hI:gH s.room (plain rs))(hl:rs.length<=1000):
 H K 200 #[U (M ⟨db,0,O⟩),I V n,I V t2] w λe w'=> ∃v,e=G v/\tH w w' ps db fv rs v (lW s (plain rs) n t2):=by
 obtain⟨y,J,E⟩:=LX w (C #[U (M ⟨db,0,O⟩)] 111) (C #[I V t2] 3);have u:=h.aN y;have x:=hI.sort.1;have k:=Pe x n
 have W:Hid (H K 165 #[U (M ⟨db,0,O⟩),.string ⟨#[109,111,118,101]⟩,I V n,.func (.func 228) #[] #[U (M ⟨w.heap.size,0,O⟩),U (M ⟨w.heap.size+1,0,O⟩)]] ((w.alloc (C #[U (M ⟨db,0,O⟩)] 111)).alloc (C #[I V t2] 3)) λe w'=> ∃v,e=G v/\tH w w' ps db fv rs v (lW s (plain rs) n t2)):=by
  cases t:kP (plain rs) n with
  |false=>
   have c:lW s (plain rs) n t2=(true,s,plain rs):=(by unfold lW;rw[k,t];rfl);refine(Fj u x (by omega) t).mono ?_;rintro e w' ⟨rfl,P⟩;exact⟨_,rfl,fv,rs,by rw[c];exact u.aN P,by rw[c],Dk.bZ (aQ y P),by rw[c];exact Aac ⟨rfl,rfl⟩⟩
  |true=>
   obtain⟨r,N,hn⟩:=yZ t;rw[t,Aad rfl,N]at k;have o:gK (plain rs) n=M r.f:=k;cases A:(dL s (plain rs)).1 with
   |true=>
    have c:lW s (plain rs) n t2=(true,(dL s (plain rs)).2.1,jA (plain (rs.eraseIdx (fF (plain rs) n))) (t2,r.f.2.1,r.f.2.2)):=by
     unfold lW;rw[o,Rf,<-YA x t];simp only[A,if_true]
    refine(Ct (R:=λz=> ∃d a,aU z db (dL s (plain rs)).2.1 d a/\plain a=jA (plain (rs.eraseIdx (fF (plain rs) n))) (t2,r.f.2.1,r.f.2.2)/\Dk w z (DX db fv rs) (DX db d a)) u x (by omega) t ha hC.nV e_move1 A (λL S D=>?_)).mono ?_
    ·refine(move1_pg S x N (by omega) (D.1.at J (λe=>aZ J u.1 (by decide) e)) (D.1.at E (λe=>aZ E u.1 (by decide) e))).mono ?_;rintro e z ⟨rfl,d,a,j,i,g⟩;exact⟨rfl,d,a,j,i,((Dk.bZ y).trans (Dk.Qv D.1 D.2 (Aac rfl))).trans g⟩
    ·rintro e z ⟨rfl,d,a,j,i,g⟩;exact⟨_,rfl,d,a,by rw[c];exact j,by rw[c];exact i,g,by rw[c];exact Aac ⟨rfl,rfl⟩⟩
   |false=>
    have c:lW s (plain rs) n t2=dL s (plain rs):=by
     unfold lW;rw[o];simp only[A,AaF,if_false]
    refine(Hr u (hG.aN y) hC ha hI (by omega) t A).mono ?_;rintro e z ⟨v,rfl,X,d,a,j,i,g⟩;exact⟨v,rfl,d,a,by rw[c];exact j,by rw[c];exact i,(Dk.bZ y).trans g,by rw[c,A];exact Aab ⟨rfl,X⟩⟩
 clear h hG hC ha hI hl y J E u x k;go_enter func200,ntmps200;go_wp2_with fail;refine W.out.mono ?_;rintro e L ⟨v,rfl,B⟩;obtain⟨d,a,j,i,g,Q⟩:=B;have B:tH w L ps db fv rs v (lW s (plain rs) n t2):=⟨d,a,j,i,g,Q⟩;rcases Q with⟨-,rfl⟩|⟨-,bb,nm,num,rfl,-⟩
 ·clear j i g;go_wp2_with fail;go_ret;exact⟨_,rfl,B⟩
 ·clear j i g;go_wp2_with fail;go_ret;exact⟨_,rfl,B⟩
theorem TV {b off:Nat}{l:List UInt8}(h:pX w (M ⟨b,off,O⟩) l)(hl:l.length<=900000000)(iW:l.length<=cap):
 H K 163 #[Z (M ⟨b,off,O⟩) l.length cap] w λe w'=>e=Rh (mP l)/\aL w w':=by
 by_cases hs:l.length<22
 ·have e1:mP l=O:=by unfold mP;rw[Aad hs]
  rw[e1];exact Jd hs
 ·have N:(l.take 22).length=22:=by rw[Aaz];omega
  have HU:Hid (∀W,aL w W->H K 154 #[Z (M ⟨b,off,O⟩) 22 cap] W λe w'=>e=Bo b off cap (jZ (l.take 22))/\∃q,w'=W.drewN q):=λW B=>by
   have:=Zw (cap:=cap) ((h.aN B).take 22) (by omega) (by omega);rw[N]at this;exact this
  have z1:¬((l.length:Int)<22):=by omega
  have z2:(22:Int)<=(cap:Int):=by omega
  have b0:22<=cap:=by omega
  cases E:jZ (l.take 22)with
  |none=>
   have P:Hid (mP l=O):=(by show _=_;unfold mP;rw[Aaa hs,E]);rw[E]at HU;have J:=HU.out _ (aL.alloc (aL.refl w) (C #[I .u8 0,I V 0,I V 0,I V 0] 128));unfold Bo at J;clear h E HU;go_enter func163,ntmps163;go_wp2_with fail;refine J.mono ?_;rintro e w1 ⟨rfl,q,rfl⟩
   go_wp2
   refine Aap (v:= .tuple #[I V 0,.agg #[I .u8 0,I V 0,I V 0,I V 0],.bool false]) (by simp[results,results163,go_sem]) rfl ?_;rw[P.out];refine⟨rfl,?_⟩;refine⟨rfl,rfl,rfl,by simp,λk S=>?_⟩
   repeat (rw[Abo _ _ _ _ (by simp only;omega)])
   exact Abg _ _ _ S
  |some t=>
   have ht:t=l.take 18:=by
    unfold jZ at E;rw[N,Aaa (by omega)]at E;split at E
    ·cases E
     rw[AcL];rfl
    ·cases E
   have Rz:t.length=18:=(by rw[ht,Aaz];omega);have Vp:pX w (M ⟨b,off,O⟩) t:=(by rw[ht];exact h.take 18);rw[E]at HU
   obtain⟨x,r,d,rfl⟩:∃a b c,t=a::b::c:=by
    match t,Rz with
    |a::b::c,_=>exact⟨a,b,c,rfl⟩
   obtain⟨o,X⟩:∃o,o=w.alloc (C #[I .u8 0,I V 0,I V 0,I V 0] 128):=⟨_,rfl⟩;have L:aL w o:=by rw[X];exact aL.alloc (aL.refl w) _
   have J:H K 154 #[Z (M ⟨b,off,O⟩) 22 cap] o λe w'=>e=G (.tuple #[Z (M ⟨b,off,O⟩) 18 cap,.bool true])/\∃q,w'=o.drewN q:=(HU.out o L).mono λe w' he=>by
    simp only[Bo,Rz]at he;exact he
   have c0:=λW (B:aL w W)=>B.cell (by
    rcases Vp with hx|⟨b',Sb,e,hc⟩
    ·cases hx
    ·cases e
     exact hc 0 x rfl:w.cell? ⟨b,off+0,O⟩=M (I .u8 (x.toNat:Int)))
   have c1:=λW (B:aL w W)=>B.cell (by
    rcases Vp with hx|⟨b',Sb,e,hc⟩
    ·cases hx
    ·cases e
     exact hc 1 r rfl:w.cell? ⟨b,off+1,O⟩=M (I .u8 (r.toNat:Int)))
   have Q:Hid (∀W,aL w W->∀k n c,k+4<=18->4<=n->H K 206 #[Z (M ⟨b,off+k,O⟩) n c] W λe w'=>e=G (I .u32 (iJ ((x::r::d).drop k)))/\∃q,w'=W.drewN q):=λW B k n c S hn=>Om ((Vp.aN B).drop k) (by rw[AaX,Rz];omega) hn;have Ur:∀W,aL w W->W.cell? ⟨b,off,O⟩=M (I .u8 (x.toNat:Int)):=c0
   have hR:mP l=if x=74 then M (iJ (d),(r.toNat:Int),iJ (d.drop 4),iJ (d.drop 8),iJ (d.drop 12))else O:=by
    unfold mP;rw[Aaa hs,E];rfl
   have g:Hid (o.heap[w.heap.size]?=M (C #[I .u8 0,I V 0,I V 0,I V 0] 128 (0,0))):=(by show _=_;rw[X];exact Aag w _);have d0:=Ur o L;have d1:=c1 o L;clear c0 h Vp E HU ht;have Cr:=Abn x;have eO:=Abn r;by_cases y:x=74
   ·rw[Aad y]at hR;have P:Hid _:=hR;have a2:((x.toNat:Int) !=74)=false:=(by rw[y];rfl);have x0:o.cell? ⟨w.heap.size,0,O⟩=M (I .u8 0):=(by have:=g.out;simp[World.cell?,this]);have a6:o.frozen? ⟨w.heap.size,0,O⟩=false:=(by have:=g.out;simp[World.frozen?,this]);have y1:¬cap=2:=(by omega);have y2:¬cap-2=4:=(by omega);have y3:2<=cap:=(by omega);clear hR y;go_enter func163,ntmps163;go_upto_region 1 with fail;rw[<-X];clear X;go_wp2_with fail;refine J.mono ?_;rintro e w1 ⟨rfl,q,rfl⟩;go_upto_region 6 with fail
    go_cut [0] (λv0 wc=>v0=Z (M ⟨b,off+2,O⟩) 16 (cap-2)/\Hid (wc.heap[w.heap.size]?=M (C #[I .u8 (r.toNat:Int),I V 0,I V 0,I V 0] 128 (0,0)))/\Hid (aL w wc))
    case first=>
     go_region
     all_goals go_wp2
     all_goals go_meet
     all_goals refine⟨rfl,?_,?_⟩
     all_goals first
      |(show aL w _;refine Am ?_ (Aak _) _ _;exact aL.drew (bC L _))
      |(show _=_;exact Aaj _ _ 0 _ _ _ g.out)
    case rest=>
     obtain⟨rfl,EU,Ht⟩:=hcut
     rename F=>w2
     have a0:Hid (∀W,aL w W->H K 206 #[Z (M ⟨b,off+2,O⟩) 16 (cap-2)] W λe w'=>e=G (I .u32 (iJ d))/\∃q,w'=W.drewN q):=λW B=>Q.out W B 2 16 (cap-2) (by omega) (by omega);go_upto_region 7 with fail;go_quiet (first|(go_at_call 206;exact Acn (a0.out _ (bC Ht.out _))));have a4:Hid (wrap64 (iJ d)=iJ d):=(by show _=_;have:=mJ d;unfold wrap64;omega);have a5:Hid (∀W,aL w W->∀A k n c,A=off+k->k+4<=18->4<=n->H K 206 #[Z (M ⟨b,A,O⟩) n c] W λe w'=>e=G (I .u32 (iJ ((x::r::d).drop k)))/\∃q,w'=W.drewN q):=λW B A k n c hA S hn=>by rw[hA];exact Q.out W B k n c S hn
     go_wp2_with fail;obtain⟨w3,QN⟩:∃w3,w3=w2.drewN nq:=⟨_,rfl⟩;have f_:Hid (aL w w3):=(by show aL w w3;rw[QN];exact bC Ht.out _);have a1:Hid (w3.heap[w.heap.size]?=M (C #[I .u8 (r.toNat:Int),I V 0,I V 0,I V 0] 128 (0,0))):=(by show _=_;rw[QN];exact EU.out);rw[<-QN];clear QN EU Ht a0
     go_loopw [5,36] (λ_ i wr=> ∃k:Nat,k<=3/\i=I V (k:Int)/\Hid (wr.heap[w.heap.size]?=M (MF r d k))/\Hid (aL w wr)) (λ_ i _=>3-(intOf i).toNat)
     case atStart=>exact⟨0,Aao _,rfl,a1,f_⟩
     case round=>
      obtain⟨k,S,rfl,HB,HG⟩:=hrel;by_cases bQ:k<3
      ·have a3:=mJ ((x::r::d).drop (6+4*k));have gL:=λA n c hA hn=>a5.out wr HG.out A (6+4*k) n c hA (by omega) hn;have HN:Hid (∀q,((wr.drewN q).setCell ⟨w.heap.size,1+k,O⟩ (I V (iJ ((x::r::d).drop (6+4*k))))).heap[w.heap.size]?=M (MF r d (k+1))):=λq=>chgO_set HB.out bQ
       have zc:∃u,wr.cell? ⟨w.heap.size,1+k,O⟩=M u:=by
        have:=HB.out;unfold MF at this;exact⟨_,(iT this (1+k)).1.trans (Aaf (by simp;omega))⟩
       have zf:wr.frozen? ⟨w.heap.size,1+k,O⟩=false:=(by have:=HB.out;unfold MF at this;simp[World.frozen?,this]);obtain⟨u,zc⟩:=zc;have R:Hid (∀q v,aL w ((wr.drewN q).setCell ⟨w.heap.size,1+k,O⟩ v)):=λq v=>Am (bC HG.out _) (Aak _) _ _;generalize iJ ((x::r::d).drop (6+4*k))=z at a3 gL HN;have mZ:wrap64 z=z:=(by unfold wrap64;omega);have a9:¬cap-2-4=0:=(by omega);have a8:¬cap-2-4=4:=(by omega);have a7:¬cap-2-4=8:=(by omega);rcases(by omega:k=0\/k=1\/k=2)with rfl|rfl|rfl
       all_goals go_wp2_with (go_at_call 206;refine(gL _ _ _ (by omega) (by omega)).mono ?_;rintro e w5 ⟨rfl,q5,rfl⟩)
       all_goals go_roundw
       all_goals first
        |(case rel=>exact⟨1,by omega,by go_num,HN.out _,R.out _ _⟩)
        |(case rel=>exact⟨2,by omega,by go_num,HN.out _,R.out _ _⟩)
        |(case rel=>exact⟨3,by omega,by go_num,HN.out _,R.out _ _⟩)
        |(case measure=>simp[intOf])
      ·obtain rfl:k=3:=by omega
       have D:=HB.out;unfold MF at D;simp only[show(0:Nat)<3 from by omega,show(1:Nat)<3 from by omega,show(2:Nat)<3 from by omega,if_true]at D;generalize iJ (d.drop 4)=n1 at D P;generalize iJ (d.drop 8)=n2 at D P;generalize iJ (d.drop 12)=n3 at D P;have p0:wr.cell? ⟨w.heap.size,0,O⟩=M (I .u8 (r.toNat:Int)):=(by simp[World.cell?,D]);have p1:wr.cell? ⟨w.heap.size,1,O⟩=M (I V n1):=(by simp[World.cell?,D]);have p2:wr.cell? ⟨w.heap.size,2,O⟩=M (I V n2):=(by simp[World.cell?,D]);have p3:wr.cell? ⟨w.heap.size,3,O⟩=M (I V n3):=(by simp[World.cell?,D]);have pf:∀j,wr.frozen? ⟨w.heap.size,j,O⟩=false:=λj=>by simp[World.frozen?,D]
       have b3:=pf 0;have b1:=pf 1;have b2:=pf 2;have b4:=pf 3;clear pf D HB;go_wp2_with fail
       go_region
       all_goals go_wp2
       all_goals refine Aap (v:= .tuple #[I V (iJ d),.agg #[I .u8 (r.toNat:Int),I V n1,I V n2,I V n3],.bool true]) (by simp[results,results163,go_sem,p0,p1,p2,p3,a4.out]) rfl ?_
       all_goals rw[P.out]
       all_goals refine⟨rfl,?_⟩
       all_goals exact aL.drew (Am (Am (Am (Am HG.out (Aak _) _ _) (Aak _) _ _) (Aak _) _ _) (Aak _) _ _)
   ·rw[Aaa y]at hR;have P:Hid _:=hR
    have a2:((x.toNat:Int) !=74)=true:=by
     rw[bne_iff_ne];intro e;apply y;have:x.toNat=74:=(by omega);exact UInt8.toNat.inj this
    have b_:∀j,o.frozen? ⟨w.heap.size,j,O⟩=false:=λj=>by have:=g.out;simp[World.frozen?,this]
    have x0:o.cell? ⟨w.heap.size,0,O⟩=M (I .u8 0):=(by have:=g.out;simp[World.cell?,this]);have x1:o.cell? ⟨w.heap.size,1,O⟩=M (I V 0):=(by have:=g.out;simp[World.cell?,this]);have x2:o.cell? ⟨w.heap.size,2,O⟩=M (I V 0):=(by have:=g.out;simp[World.cell?,this]);have x3:o.cell? ⟨w.heap.size,3,O⟩=M (I V 0):=(by have:=g.out;simp[World.cell?,this]);have f0:=b_ 0;have f1:=b_ 1;have f2:=b_ 2;have f3:=b_ 3;clear hR y b_;go_enter func163,ntmps163;go_upto_region 1 with fail;rw[<-X];clear X;go_wp2_with fail;refine J.mono ?_;rintro e w1 ⟨rfl,q,rfl⟩
    go_wp2
    refine Aap (v:= .tuple #[I V 0,.agg #[I .u8 0,I V 0,I V 0,I V 0],.bool false]) (by simp[results,results163,go_sem,x0,x1,x2,x3]) rfl ?_;rw[P.out];refine⟨rfl,?_⟩;refine⟨L.os,L.tape,L.output,by have:=L.size;simpa using this,λk S=>?_⟩
    repeat (rw[Abo _ _ _ _ (by simp only;omega)])
    exact L.block k S
theorem Ri:H K 217 #[iN q a b c] w λe w'=> ∃yb:Nat,e=G (.agg #[I V a,Z (M ⟨yb,0,O⟩) 1 1,Z O 0 0])/\bJ w' (M ⟨yb,0,O⟩,1,1) [(0,b)]/\aL w w':=by
 unfold iN;go_enter func217,ntmps217
 go_wp2
 refine Aap (v:= .agg #[I V a,Z (M ⟨w.heap.size+2,0,O⟩) 1 1,Z O 0 0]) (by simp[results,results217,go_sem]) rfl ?_;exact⟨_,rfl,MK w _ _ 0 b,((aL.refl w).alloc _).alloc _|>.alloc _⟩
theorem Km (h:aW w dp tb depth m)(hz:sz m.1<=5000)(zJ:∀e rest,m.2.1=e::rest->Dl (sz m.1) e.1 e.2.2 e.2.1):
 H K 179 #[U (M ⟨dp,0,O⟩),iN q a b c,I V most] w λe w'=>e=G (I V (Yw m a b c))/\aL w w':=by
 have P:Hid (∀W (x y:bT) (e:Ed),aL w W->bJ W x e.2.1->bJ W y e.2.2->Dl (sz m.1) e.1 e.2.1 e.2.2->H K 218 #[U (M ⟨dp,0,O⟩),iN q a b c,.agg #[I V e.1,x.v,y.v]] W λr w'=>r=G (I V (Dy m a b c e))/\aL W w'):=λW x y e t hx hy B=>Vt (h.aN t) hx hy B hz;obtain⟨u,r,hb,ht,A,hr⟩:=h;obtain⟨-,-,-,D,-⟩:=cZ hb;have i:Hid (aL w (w.alloc (C #[I .u8 q,I V a,I V b,I V c] 128))):=(aL.refl w).alloc _;obtain⟨d,jK,k,n,bf⟩:=m;obtain⟨u1,u2,u3⟩:=u;simp only at*;clear hb ht hr;cases jK with
 |nil=>
  have N:u2=0:=A.len;subst N;have Q:Hid (Yw (d,[],k,n,bf) a b c=8):=rfl;unfold iN;clear A P zJ;simp only[bT.v]at D;have L:=i.out.cell D;generalize Yw (d,[],k,n,bf) a b c=R at*;go_enter func179,ntmps179;go_wp2_with fail;go_ret;rw[Q.out];exact⟨rfl,i.out⟩
 |cons e rest=>
  obtain⟨eb,gG,g,rfl,N,iW,X,S,e2,E⟩:=A.head;have B:=zJ e rest rfl;have Q:Hid (Yw (d,e::rest,k,n,bf) a b c=Dy (d,e::rest,k,n,bf) a b c (e.1,e.2.2,e.2.1)):=rfl;have HT:Hid (∀W,aL w W->H K 208 #[.agg #[I V g.1,g.2.1.v,g.2.2.v]] W λe w'=>e=G (.agg #[I V g.1,g.2.2.v,g.2.1.v])/\aL W w'):=λW t=>Pj
  have HC:Hid (∀W,aL w W->H K 218 #[U (M ⟨dp,0,O⟩),iN q a b c,.agg #[I V g.1,g.2.2.v,g.2.1.v]] W λr w'=>r=G (I V (Dy (d,e::rest,k,n,bf) a b c (e.1,e.2.2,e.2.1)))/\aL W w'):=λW t=>by
   rw[E.1];exact P.out W g.2.2 g.2.1 (e.1,e.2.2,e.2.1) t (E.2.2.aN t) (E.2.1.aN t) B
  clear P A E B zJ;generalize Yw (d,e::rest,k,n,bf) a b c=R at*;generalize Dy (d,e::rest,k,n,bf) a b c (e.1,e.2.2,e.2.1)=R' at*;obtain⟨ep,⟨xo,xn,xc⟩,⟨yo,yn,yc⟩⟩:=g;subst N;unfold iN at*;simp only[bT.v]at*;have j3:(((rest.length+1:Nat):Int)==0)=false:=by rw[Aat];omega
  have j1:(0:Int)<((rest.length+1:Nat):Int):=by omega
  obtain⟨j,J⟩:∃j,j=w.alloc (C #[I .u8 q,I V a,I V b,I V c] 128):=⟨_,rfl⟩;have z:j.heap[w.heap.size]?=M (C #[I .u8 q,I V a,I V b,I V c] 128 (0,0)):=by rw[J];exact Aag w _
  have k0:j.cell? ⟨w.heap.size,0,O⟩=M (I .u8 q):=by simp[World.cell?,z]
  have k1:j.cell? ⟨w.heap.size,1,O⟩=M (I V a):=by simp[World.cell?,z]
  have k2:j.cell? ⟨w.heap.size,2,O⟩=M (I V b):=by simp[World.cell?,z]
  have k3:j.cell? ⟨w.heap.size,3,O⟩=M (I V c):=by simp[World.cell?,z]
  rw[<-J]at i;have L:=i.out.cell D;have Us:=i.out.cell X;have sP:=i.out.cell S;have Es:=i.out.cell e2;clear z D X S e2;go_enter func179,ntmps179;go_upto_region 1 with fail;rw[<-J];clear J;go_upto_region 3 with fail
  go_region_law (first|(refine dD (by rfl) 208 _ _ (by rfl) _ (by simp[Act.eval];done) e_turned ((HT.out _ (by repeat (first|exact i.out|refine aL.drew ?_))).mono ?_);rintro e w7 ⟨rfl,o⟩;refine⟨_,rfl,?_⟩;have a0:=o.cell (show _=M (I .u8 q) from k0);have a2:=o.cell (show _=M (I V a) from k1);have a1:=o.cell (show _=M (I V b) from k2);have a3:=o.cell (show _=M (I V c) from k3))|(refine dD (by rfl) 218 _ _ (by rfl) _ (by simp[Act.eval];done) CB ((HC.out _ (by repeat (first|exact i.out|refine aL.drew ?_|refine aL.then ?_ o))).mono ?_);rintro e w8 ⟨rfl,Yd⟩;refine⟨_,rfl,?_⟩))
  all_goals go_wp2_with fail
  all_goals go_ret
  all_goals rw[Q.out]
  all_goals exact⟨rfl,(by refine aL.then ?_ Yd;repeat (first|exact i.out|refine aL.drew ?_|refine aL.then ?_ o))⟩
theorem qd {e:Ed}{rest:List Ed}(h:aW w dp tb depth m)(hm:m.2.2.1=e::rest)(hd:depth<=100)(Iw:m.2.1.length<=100)(hz:sz m.1<=5000)(hf:Dl (sz m.1) e.1 e.2.1 e.2.2)(h9:∀q∈e.2.2,q.1<=1000000000)(hr:(bS (bN m.1 e.1 (sz e.2.1)).1 e.1 e.2.2).length<=4096):
 H K 182 #[U (M ⟨dp,0,O⟩),iN q a b c] w λv w'=>v=G (.tuple #[])/\aW w' dp tb depth (bS (bN m.1 e.1 (sz e.2.1)).1 e.1 e.2.2,(e::m.2.1).take depth,rest,m.2.2.2.1,m.2.2.2.2)/\Dk w w' (TX dp tb) (TX dp tb):=by
 obtain⟨f1,f2,f3,f4,f5,f6⟩:=hf;have bQ:=h.lt
 have HA:Hid (∀W (x y:bT),aW W dp tb depth (m.1,m.2.1,rest,m.2.2.2)->bJ W x e.2.1->bJ W y e.2.2->H K 153 #[U (M ⟨dp,0,O⟩),.agg #[I V e.1,x.v,y.v]] W λv w'=> ∃g1 g2 g3,v=G (Z g1 g2 g3)/\aW w' dp tb depth (bS (bN m.1 e.1 (sz e.2.1)).1 e.1 e.2.2,m.2.1,rest,m.2.2.2)/\Dk W w' (TX dp tb) (TX dp tb)):=λW x y N hx hy=>by
  refine(Ao N hx hy f3 (by omega) f4 h9 (by omega) f1 f2 (by simp only;omega) hr).mono ?_;rintro v w' ⟨⟨g1,g2,g3⟩,rfl,hL,a6,P,-⟩;exact⟨g1,g2,g3,rfl,a6,P⟩
 have HP:Hid (∀W (r:gJ),aW W dp tb depth (bS (bN m.1 e.1 (sz e.2.1)).1 e.1 e.2.2,m.2.1,rest,m.2.2.2)->sI W r e->∃(o:Option Addr) (k t:Nat),W.cell? ⟨dp,0,O⟩=M (I V (depth:Int))/\W.cell? ⟨dp,3,O⟩=M (Z o k t)/\∀J,aL W J->H K 219 #[.agg #[I V r.1,r.2.1.v,r.2.2.v],Z o k t,I V (depth:Int)] J λv w'=> ∃d i g,v=G (Z d i g)/\w'.cell? ⟨dp,3,O⟩=M (Z o k t)/\w'.frozen? ⟨dp,3,O⟩=false/\aW (w'.setCell ⟨dp,3,O⟩ (Z d i g)) dp tb depth (bS (bN m.1 e.1 (sz e.2.1)).1 e.1 e.2.2,(e::m.2.1).take depth,rest,m.2.2.2.1,m.2.2.2.2)/\Dk W (w'.setCell ⟨dp,3,O⟩ (Z d i g)) (TX dp tb) (TX dp tb)):=λW r N he=>by
  obtain⟨⟨o,k,t⟩,r',D,ht,hr,R⟩:=N;obtain⟨d0,-,-,d4,-⟩:=cZ D;refine⟨o,k,t,d0,d4,λJ E=>?_⟩;refine(Ki (he.aN E) (hr.aN E) (by simp only;omega) (by omega)).mono ?_;rintro v w' ⟨⟨d,i,g⟩,rfl,hE,j⟩;have sN:=E.then j;have qX:=(sN.block _ (aM D)).trans D;obtain⟨-,-,-,a9,-,-,-,df⟩:=cZ qX;refine⟨d,i,g,rfl,a9,df 3,?_,(Dk.bZ sN).set (Aac rfl)⟩;exact aW.put qX ((rE qX).1 (d,i,g)) (ht.below sN) hE (R.aN sN)
 obtain⟨r,⟨u1,u2,u3⟩,D,ht,Pm,R⟩:=h;rw[hm]at R;obtain⟨z,A,u,rfl,Ju,iW,e0,e1,e2,Le⟩:=R.head;have Rz:=R.tail;obtain⟨-,-,-,-,d3,-,-,df⟩:=cZ D;have a5:=df 4;have iV:aL w ((w.alloc (C #[I .u8 q,I V a,I V b,I V c] 128)).alloc (C #[I V u.1,u.2.1.v,u.2.2.v] 248)):=((aL.refl w).alloc _).alloc _
 have HS:Hid (∀(B:F),aL w B->B.heap[w.heap.size+1]?=M (C #[I V u.1,u.2.1.v,u.2.2.v] 248 (0,0))->aW (B.setCell ⟨dp,4,O⟩ (Z (if u3=1 then M ⟨z,A,O⟩else M ⟨z,A+3,O⟩) rest.length (u3-1))) dp tb depth (m.1,m.2.1,rest,m.2.2.2)/\sI (B.setCell ⟨dp,4,O⟩ (Z (if u3=1 then M ⟨z,A,O⟩else M ⟨z,A+3,O⟩) rest.length (u3-1))) u e/\Dk w (B.setCell ⟨dp,4,O⟩ (Z (if u3=1 then M ⟨z,A,O⟩else M ⟨z,A+3,O⟩) rest.length (u3-1))) (TX dp tb) (TX dp tb)/\(B.setCell ⟨dp,4,O⟩ (Z (if u3=1 then M ⟨z,A,O⟩else M ⟨z,A+3,O⟩) rest.length (u3-1))).heap[w.heap.size+1]?=M (C #[I V u.1,u.2.1.v,u.2.2.v] 248 (0,0))):=λB j ho=>by
  have L:=(j.block _ (aM D)).trans D;obtain⟨k1,k2,k3⟩:=yA L;refine⟨aW.put L ((rE L).2.1 (_,_,_)) (ht.below j) (Pm.aN j) (Rz.aN j),⟨Le.1,k2 _ _ (Le.2.1.aN j),k2 _ _ (Le.2.2.aN j)⟩,(Dk.bZ j).set (Aac rfl),?_⟩;exact(Fr.set B ⟨dp,4,O⟩ _).at ho (by simp only;omega)
 have X:=Le.1;obtain⟨ep,⟨x1,x2,x3⟩,⟨d,i,g⟩⟩:=u;simp only at X;subst X Ju;unfold iN at*;simp only[bT.v]at d3 e0 e1 e2 iV HS;have zM:Hid _:=iV;have ga:=(aL.refl w).alloc (C #[I .u8 q,I V a,I V b,I V c] 128);have a8:=ga.cell d3;have a3:=ga.cell e0;have a2:=ga.cell e1;have a7:=ga.cell e2;have a1:=iV.cell d3;have a4:=(cZ ((iV.block _ (aM D)).trans D)).2.2.2.2.2.2.2 4;have j1:(0:Int)<((rest.length+1:Nat):Int):=by omega
 have b5:(0:Int)<(rest.length:Int)+1:=by omega
 have b4:(1:Int)<=(rest.length:Int)+1:=by omega
 clear D ht R Pm Rz Le ga;go_enter func182,ntmps182;go_upto_region 2 with fail;have L:=Aag (w.alloc (C #[I .u8 q,I V a,I V b,I V c] 128)) (C #[I V e.1,Z x1 x2 x3,Z d i g] 248);rw[AaD]at L;clear a8 a3 a2 a7 iV d3 e0 e1 e2 a5 df;generalize ((w.alloc _).alloc _)=B at*;go_upto_region 3 with fail;generalize (if u3=1 then M (⟨z,A,O⟩:Addr)else M ⟨z,A+3,O⟩)=ts at*;obtain⟨q1,q2,q3,q4⟩:=HS.out _ zM.out L;clear a1 a4 zM HS L;generalize (B.setCell _ _)=Q at*;obtain⟨k0,k1,k2,-⟩:=iY q4;have YC:Hid (∀W,aL Q W->_):=λW E=>HA.out W (x1,x2,x3) (d,i,g) (q1.aN E) (q2.2.1.aN E) (q2.2.2.aN E)
 simp only[bT.v]at YC
 have LH:Hid (∀w4 n,aL Q w4->Dk w4 n (TX dp tb) (TX dp tb)->aW n dp tb depth (bS (bN m.1 e.1 (sz e.2.1)).1 e.1 e.2.2,m.2.1,rest,m.2.2.2)->∃(o:Option Addr) (k t:Nat),n.cell? ⟨dp,0,O⟩=M (I V (depth:Int))/\n.cell? ⟨dp,3,O⟩=M (Z o k t)/\n.cell? ⟨w.heap.size+1,0,O⟩=M (I V e.1)/\n.cell? ⟨w.heap.size+1,1,O⟩=M (Z x1 x2 x3)/\n.cell? ⟨w.heap.size+1,2,O⟩=M (Z d i g)/\∀J,aL n J->H K 219 #[.agg #[I V e.1,Z x1 x2 x3,Z d i g],Z o k t,I V (depth:Int)] J λv w'=> ∃d i g,v=G (Z d i g)/\w'.cell? ⟨dp,3,O⟩=M (Z o k t)/\w'.frozen? ⟨dp,3,O⟩=false/\aW (w'.setCell ⟨dp,3,O⟩ (Z d i g)) dp tb depth (bS (bN m.1 e.1 (sz e.2.1)).1 e.1 e.2.2,(e::m.2.1).take depth,rest,m.2.2.2.1,m.2.2.2.2)/\Dk w (w'.setCell ⟨dp,3,O⟩ (Z d i g)) (TX dp tb) (TX dp tb)):=λw4 n j P N=>by
  obtain⟨o,k,t,c0,c4,hc⟩:=HP.out n (e.1,(x1,x2,x3),(d,i,g)) N ((q2.aN j).tx (q1.aN j) P);have lN:=P.1.at ((j.block _ (aM q4)).trans q4) (by rintro(e|e)<;>omega);obtain⟨b0,b1,b2,-⟩:=iY lN;refine⟨o,k,t,c0,c4,b0,b1,b2,λJ E=>(hc J E).mono ?_⟩;rintro v w' ⟨d,i,g,rfl,r1,r2,r3,r4⟩;exact⟨d,i,g,rfl,r1,r2,r3,(q3.trans ((Dk.bZ j).trans P)).trans r4⟩
 clear q1 q2 q3 q4 HP HA;go_upto_region 4 with(first|(go_at_call 153;refine(YC.out Q (aL.refl Q)).mono ?_;rintro v n ⟨g1,g2,g3,rfl,a0,S⟩));obtain⟨o,k,t,c0,c4,b0,b1,b2,hc⟩:=LH.out Q n (aL.refl Q) S a0;have HC:Hid _:=hc;clear hc k0 k1 k2 LH YC a0 S
 go_region_law ((refine dD (by rfl) 219 _ _ (by rfl) _ (by simp[Act.eval];done) Vu ((HC.out _ (by repeat (first|exact aL.refl _|refine aL.drew ?_))).mono ?_);rintro v w7 ⟨z1,z2,z3,rfl,m4,b3,N,P⟩;refine⟨_,rfl,?_⟩))
 all_goals go_wp2
 all_goals go_end0
 all_goals exact⟨rfl,N,P⟩
theorem uD {E:Int}(hJ:J<4)(hT:TK J=(q,fm,fd))(hL:∀k,k<J->(TK k).1≠q)(em:∀(args:Array Y) (w:F),(callFunc fm args).run K w= .ok (.enter fm args) w)(hm:∀W,aL w W->H K fm #[U (M ⟨dp,0,O⟩),iN q a b c,I V most] W λe w'=>e=G (I V E)/\aL W w')(hE:E≠0):
 H K 91 #[U (M ⟨dp,0,O⟩),iN q a b c,I V most,.func (.func g) #[] lb] w λe w'=> ∃v,e=G v/\TY w' v q E/\aL w w':=by
 have HL:Hid _:=hL;have HM:Hid _:=hm;have a0:=Aat.2 hE;clear hm hL;obtain⟨d,r⟩:∃d,d=w.alloc (C #[I .u8 q,I V a,I V b,I V c] 128):=⟨_,rfl⟩;have x:d.heap[w.heap.size]?=M (C #[I .u8 q,I V a,I V b,I V c] 128 (0,0)):=by rw[r];exact Aag w _
 have R:Hid (aL w d):=by show aL _ _;rw[r];exact(aL.refl w).alloc _
 have n:Hid (∀W,aL d W->W.cell? ⟨w.heap.size,0,O⟩=M (I .u8 q)/\W.cell? ⟨w.heap.size,1,O⟩=M (I V a)/\W.cell? ⟨w.heap.size,2,O⟩=M (I V b)/\W.cell? ⟨w.heap.size,3,O⟩=M (I V c)):=λW hW=>by
  have:=(hW.block _ (aM x)).trans x;simp[World.cell?,this]
 have hK:=Ms (w:=d);have HX:Hid (∀(k:Nat),k<4->∀w,(Instr.index 222 yC (I V (k:Int))).run K w= .ok (.agg #[I .u8 (TK k).1,.func (.func (TK k).2.1) #[] #[],.func (.func (TK k).2.2) #[] #[]]) w):=λk P w=>Mt w P;generalize yC=kv at*;unfold iN at*;clear x;go_enter func91,ntmps91;go_upto_region 1 with fail;rw[<-r];clear r;go_upto_region 2 with(go_at_call 135;refine hK.mono ?_;rintro v w2 ⟨rfl,N⟩);have Ht:Hid (aL d w2):=N;clear N hK
 go_loopw [10,11,12,14] (λ_ _ _ i wr=> ∃k:Nat,k<=J/\i=I V (k:Int)/\Hid (aL d wr)) (λ_ _ _ i _=>4-(intOf i).toNat)
 case atStart=>exact⟨0,Aao _,rfl,Ht.out⟩
 case round=>
  obtain⟨k,P,rfl,h⟩:=hrel;obtain⟨Q,b1,X,b3⟩:=n.out wr h.out;by_cases D:k<J
  ·have j:=HX.out k (by omega);have y:=HL.out k D;have z:=Aat.2 y;have bQ:(k:Int)<4:=(by omega);have B:=Tv k;generalize TK k=t at*;obtain⟨t1,t2,t3⟩:=t;simp only at j y z B;obtain⟨c0,-⟩:=n.out _ (h.out.alloc (C #[I .u8 t1,.func (.func t2) #[] #[],.func (.func t3) #[] #[]] 221));clear y Q b1 X b3;go_wp2_with fail;go_roundw
   case rel=>exact⟨k+1,by omega,by go_num,(show aL d _ from h.out.alloc _)⟩
   case measure=>simp[intOf];omega
  ·have A:k=J:=(by omega);subst A;have j:=HX.out k hJ;rw[hT]at j;simp only at j;have bQ:(k:Int)<4:=(by omega);have o:=h.out.alloc (C #[I .u8 q,.func (.func fm) #[] #[],.func (.func fd) #[] #[]] 221);obtain⟨c0,c1,c2,c3⟩:=n.out _ o;have JE:=Aag wr (C #[I .u8 q,.func (.func fm) #[] #[],.func (.func fd) #[] #[]] 221);have k0:(wr.alloc (C #[I .u8 q,.func (.func fm) #[] #[],.func (.func fd) #[] #[]] 221)).cell? ⟨wr.heap.size,1,O⟩=M (.func (.func fm) #[] #[]):=(by simp only[World.cell?,JE];rfl);have u:=HM.out _ (R.out.then o);clear Q b1 X b3;go_upto_region 4 with fail;have S:Hid (aL d (wr.alloc (C #[I .u8 q,.func (.func fm) #[] #[],.func (.func fd) #[] #[]] 221))):=o;clear o h;have k9:(wr.alloc (C #[I .u8 q,.func (.func fm) #[] #[],.func (.func fd) #[] #[]] 221)).cell? ⟨wr.heap.size,0,O⟩=M (I .u8 q):=(by simp only[World.cell?,JE];rfl);generalize (wr.alloc _)=wa at*;go_wp2_with (first|(go_at_fn fm;refine u.mono ?_;rintro v w5 ⟨rfl,L⟩;obtain⟨l0,-⟩:=n.out w5 (S.out.then L)));go_ret;exact⟨_,rfl,⟨_,rfl,Aag w5 _⟩,(R.out.then (S.out.then L)).alloc _⟩
theorem Hu {dn:Int}{P R:F->F->Prop}(hJ:J<4)(hT:TK J=(q,fm,fd))(hL:∀k,k<J->(TK k).1≠q)(em:∀(args:Array Y) (w:F),(callFunc fm args).run K w= .ok (.enter fm args) w)(ed:∀(args:Array Y) (w:F),(callFunc fd args).run K w= .ok (.enter fd args) w)(eg:∀(args:Array Y) (w:F),(callFunc g args).run K w= .ok (.enter g args) w)(hm:∀W,aL w W->H K fm #[U (M ⟨dp,0,O⟩),iN q a b c,I V most] W λe w'=>e=G (I V 0)/\aL W w')(hw:∀W,aL w W->H K g lb W λe w'=>e=G .nilIface/\P W w')(hP:∀W W1,aL w W->P W W1->∀b,w.heap.size<=b->b<W.heap.size->W1.heap[b]?=W.heap[b]?)(hd:∀W W1,aL w W->P W W1->H K fd #[U (M ⟨dp,0,O⟩),iN q a b c] W1 λe w'=>e=G (.tuple #[])/\R W1 w')(hR:∀W W1 W2,aL w W->P W W1->R W1 W2->W2.cell? ⟨dp,5,O⟩=M (I V dn)/\W2.frozen? ⟨dp,5,O⟩=false)(Ny:0<=dn)(Lj:dn<=2000000000):
 H K 91 #[U (M ⟨dp,0,O⟩),iN q a b c,I V most,.func (.func g) #[] lb] w λe w'=> ∃W W1 W2,e=G .nilIface/\aL w W/\P W W1/\R W1 W2/\w'=W2.setCell ⟨dp,5,O⟩ (I V (dn+1)):=by
 have HL:Hid _:=hL;have HM:Hid _:=hm;have HW:Hid _:=hw;have HD:Hid _:=hd;have HP:Hid _:=hP;have HR:Hid _:=hR;have XK:wrap64 (dn+1)=dn+1:=by unfold wrap64;omega
 clear hm hL hw hd hP hR;obtain⟨d,B⟩:∃d,d=w.alloc (C #[I .u8 q,I V a,I V b,I V c] 128):=⟨_,rfl⟩;have E:d.heap[w.heap.size]?=M (C #[I .u8 q,I V a,I V b,I V c] 128 (0,0)):=by rw[B];exact Aag w _
 have n:Hid (aL w d):=by show aL _ _;rw[B];exact(aL.refl w).alloc _
 have D:Hid (∀W,aL d W->W.cell? ⟨w.heap.size,0,O⟩=M (I .u8 q)/\W.cell? ⟨w.heap.size,1,O⟩=M (I V a)/\W.cell? ⟨w.heap.size,2,O⟩=M (I V b)/\W.cell? ⟨w.heap.size,3,O⟩=M (I V c)):=λW u=>by
  have:=(u.block _ (aM E)).trans E;simp[World.cell?,this]
 have hK:=Ms (w:=d);have HX:Hid (∀(k:Nat),k<4->∀w,(Instr.index 222 yC (I V (k:Int))).run K w= .ok (.agg #[I .u8 (TK k).1,.func (.func (TK k).2.1) #[] #[],.func (.func (TK k).2.2) #[] #[]]) w):=λk hk w=>Mt w hk;generalize yC=kv at*;unfold iN at*;have HZ:Hid _:=aM E;clear E;go_enter func91,ntmps91;go_upto_region 1 with fail;rw[<-B];clear B;go_upto_region 2 with(go_at_call 135;refine hK.mono ?_;rintro v w2 ⟨rfl,jX⟩);have Ht:Hid (aL d w2):=jX;clear jX hK
 go_loopw [10,11,12,14] (λ_ _ _ i wr=> ∃k:Nat,k<=J/\i=I V (k:Int)/\Hid (aL d wr)) (λ_ _ _ i _=>4-(intOf i).toNat)
 case atStart=>exact⟨0,Aao _,rfl,Ht.out⟩
 case round=>
  obtain⟨k,hk,rfl,o⟩:=hrel;obtain⟨b0,b1,b2,b3⟩:=D.out wr o.out;by_cases a6:k<J
  ·have A:=HX.out k (by omega);have hq:=HL.out k a6;have a4:=Aat.2 hq;have bQ:(k:Int)<4:=(by omega);have a5:=Tv k;generalize TK k=t at*;obtain⟨t1,t2,t3⟩:=t;simp only at A hq a4 a5;obtain⟨c0,-⟩:=D.out _ (o.out.alloc (C #[I .u8 t1,.func (.func t2) #[] #[],.func (.func t3) #[] #[]] 221));clear hq b0 b1 b2 b3;go_wp2_with fail;go_roundw
   case rel=>exact⟨k+1,by omega,by go_num,(show aL d _ from o.out.alloc _)⟩
   case measure=>simp[intOf];omega
  ·have a3:k=J:=(by omega);subst a3;have A:=HX.out k hJ;rw[hT]at A;simp only at A;have bQ:(k:Int)<4:=(by omega);have N:=o.out.alloc (C #[I .u8 q,.func (.func fm) #[] #[],.func (.func fd) #[] #[]] 221);obtain⟨c0,c1,c2,c3⟩:=D.out _ N;have JE:=Aag wr (C #[I .u8 q,.func (.func fm) #[] #[],.func (.func fd) #[] #[]] 221);have k0:(wr.alloc (C #[I .u8 q,.func (.func fm) #[] #[],.func (.func fd) #[] #[]] 221)).cell? ⟨wr.heap.size,1,O⟩=M (.func (.func fm) #[] #[]):=(by simp only[World.cell?,JE];rfl);have S:=HM.out _ (n.out.then N);clear b0 b1 b2 b3;go_upto_region 4 with fail;have y:Hid (aL d (wr.alloc (C #[I .u8 q,.func (.func fm) #[] #[],.func (.func fd) #[] #[]] 221))):=N;have j:Hid _:=JE;have jY:=o.out.le;have a7:w.heap.size<d.heap.size:=HZ;have a2:Hid (w.heap.size<wr.heap.size):=(show _<_ by omega);clear N o;have k9:(wr.alloc (C #[I .u8 q,.func (.func fm) #[] #[],.func (.func fd) #[] #[]] 221)).cell? ⟨wr.heap.size,0,O⟩=M (I .u8 q):=(by simp only[World.cell?,JE];rfl);generalize (wr.alloc _)=wa at*;have Q:=y.out
   have a1:Hid (∀W W1,aL wa W->P W W1->(W1.cell? ⟨w.heap.size,0,O⟩=M (I .u8 q)/\W1.cell? ⟨w.heap.size,1,O⟩=M (I V a)/\W1.cell? ⟨w.heap.size,2,O⟩=M (I V b)/\W1.cell? ⟨w.heap.size,3,O⟩=M (I V c))/\W1.cell? ⟨wr.heap.size,2,O⟩=M (.func (.func fd) #[] #[])):=λW W1 u hp=>by
    have z:=Q.then u;have e1:=HP.out W W1 (n.out.then z) hp w.heap.size (Aak _) (AaE HZ.out z.le);have e2:=HP.out W W1 (n.out.then z) hp wr.heap.size (Nat.le_of_lt a2.out) (AaE (aM j.out) u.le);have e3:=(u.block _ (aM j.out)).trans j.out;obtain⟨x0,x1,x2,x3⟩:=D.out W z;simp only[World.cell?,e1,e2,e3]at x0 x1 x2 x3 ⊢;exact⟨⟨x0,x1,x2,x3⟩,rfl⟩
   go_wp2_with (first|(go_at_fn fm;refine S.mono ?_;rintro v x ⟨rfl,r⟩;have X:=HW.out x (n.out.then (y.out.then r)))|(go_at_fn g;refine X.mono ?_;rintro v L ⟨rfl,h⟩;obtain⟨⟨y0,y1,y2,y3⟩,y4⟩:=a1.out x L r h;have a0:=HD.out x L (n.out.then (y.out.then r)) h)|(go_at_fn fd;refine a0.mono ?_;rintro v w7 ⟨rfl,UA⟩;obtain⟨z0,z1⟩:=HR.out x L w7 (n.out.then (y.out.then r)) h UA));go_ret;exact⟨x,L,w7,rfl,n.out.then (y.out.then r),h,UA,rfl⟩
end Go.Proofs.YtfplgfodoiiobabGreatDoor
