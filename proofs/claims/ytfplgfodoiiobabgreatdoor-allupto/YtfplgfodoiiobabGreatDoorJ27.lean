/- a part of the proof. -/
import Derived.Test.YtfplgfodoiiobabGreatDoorJ19
import Derived.Test.YtfplgfodoiiobabGreatDoorJ20
open Option renaming none->O,some->M
open Go.Value renaming int->I,slice->Z,pointer->U
open Go.IntKind renaming i64->V
open Go.Obj renaming cells->C
open Go.Ending renaming returned->G
open Go renaming World->F,Value->Y,Calls->H
open Go.Proofs.Tryz renaming prog→K
open Go.Proofs.Tryz
namespace Go.Proofs.YtfplgfodoiiobabGreatDoor
set_option maxHeartbeats 4000000
set_option maxRecDepth 100000
open Go.RowKit
variable {w:F}{s:Sc}{xb db:Nat}{fs:List bD}{m:dI}{f:bT}{fv:Y}{rs:List FR}
theorem Hg {n:Int}(h:bO w xb s fs m f)(hl:fs.length<=80000)(hc:iX s)(hI:gH s.room fs):
 H K 111 #[U (M ⟨xb,0,O⟩),I V n] w λe w'=>e=G (.bool (cO s fs n).1)/\After w w' xb (cO s fs n).2.1 (cO s fs n).2.2 m f:=by
 have HS:Hid (bO w xb s fs m f):=h;have j:=Ev h (by omega) hI.ok hc.Ow hc.Ai hc.nV;obtain⟨r,X,hf,hm⟩:=h;have o:=EM (n:=n) X hf (by omega)
 clear X hf hm;cases g:rP fs n with
 |none=>
  have B:Hid (cO s fs n=(true,s,fs)):=by show _=_;unfold cO;rw[g]
  have y:zK fs n= -1:=by unfold zK;rw[g]
  rw[y]at o;clear j g y;go_enter func111,ntmps111;go_wp2_with fail;refine o.mono ?_;rintro e w ⟨rfl,rfl⟩;go_wp2_with fail;go_ret;rw[B.out];exact⟨rfl,f,HS.out,kX.refl _ _ _⟩
 |some i=>
  have bQ:=EN g;have y:zK fs n=(i:Int):=by unfold zK;rw[g]
  rw[y]at o;clear y;have i1:(0:Int)<=(i:Int):=by omega
  have i2:(i:Int)<(fs.length:Int):=by omega
  have i3:¬(i:Int)<0:=by omega
  obtain⟨a,Q,k,t⟩:=Ad g;have L:aP fs n=a.2.1:=by rw[fP,k];rfl
  have a0:(a.2.1.size:Int)<=1000000:=by have:=gN hI n;have:=hc.kZ;rw[L]at*;omega
  rcases nO hc hI with⟨A,e,S⟩|⟨A,dZ,e,S⟩
  ·have B:Hid (cO s fs n=(true,A,fs.set i (a.1,a.2.1,(a.2.1.size:Int)))):=(by show _=_;unfold cO;rw[g];simp only;rw[e];simp only[if_true];rw[L,t]);rw[e]at j;simp only at j;have HF:Hid _:=Q;clear e S g k t L Q;go_enter func111,ntmps111;go_wp2_with fail;refine o.mono ?_;rintro e w ⟨rfl,rfl⟩;clear o;go_wp2_with fail;refine j.mono ?_;rintro e d ⟨rfl,P,⟨W,pJ,Ir,Iu⟩,J⟩;clear j;have c3:=kG pJ;obtain⟨fo,fl,u⟩:=P;have HQ:Hid (jL d (fo,fl,u) fs):=Ir;obtain⟨z,q2,N⟩:=Ir;simp only at z q2 N;subst q2;simp only[bT.v]at c3;obtain⟨c,off,rfl,p1,p2,p3⟩:=z.at HF.out;obtain⟨aR,x⟩:=z.2 _ rfl;simp only at x;have b_:d.frozen? ⟨c,off+i*3+2,O⟩=false:=(by simp[World.frozen?,x]);have D:c≠xb:=λe=>by subst e;exact bF x pJ (dQ (by decide))
   have Xy:(d.setCell ⟨c,off+i*3+2,O⟩ (I V (a.2.1.size:Int))).heap[xb]?=M (bR A (M ⟨c,off,O⟩,fs.length,u) W):=(heap_setCell_other d _ xb _ (AbX D)).trans pJ
   have Cm:bO (d.setCell ⟨c,off+i*3+2,O⟩ (I V (a.2.1.size:Int))) xb A (fs.set i (a.1,a.2.1,(a.2.1.size:Int))) m (M ⟨c,off,O⟩,fs.length,u):=by
    refine⟨W,Xy,⟨z.put2 HF.out _,by simp,N⟩,?_⟩;exact Iu.fr (Fr.set d ⟨c,off+i*3+2,O⟩ _) (λb cu e R=>by subst R;exact bF e x (dQ (by decide))) (λb cu e R=>by subst R;exact bF e x (dQ (by decide)))
   have E:kX w (d.setCell ⟨c,off+i*3+2,O⟩ (I V (a.2.1.size:Int))) xb f (M ⟨c,off,O⟩,fs.length,u):=by
    refine J.trans ⟨?_,⟨rfl,rfl,rfl⟩,Aac rfl⟩;obtain⟨a1,a2⟩:=Fr.set d ⟨c,off+i*3+2,O⟩ (I V (a.2.1.size:Int));exact⟨a1,λb hb hn=>a2 b hb (λe=>hn (Aab ⟨_,rfl,e⟩))⟩
   have k1:(d.setCell ⟨c,off+i*3+2,O⟩ (I V (a.2.1.size:Int))).cell? ⟨c,off+i*3+1,O⟩=M (.string a.2.1):=(by rw[AbS _ _ _ _ (by intro e;simp only[Addr.mk.injEq]at e;omega)];exact p2);have k3:(d.setCell ⟨c,off+i*3+2,O⟩ (I V (a.2.1.size:Int))).cell? ⟨xb,3,O⟩=M (Z (M ⟨c,off,O⟩) fs.length u):=(by rw[AcP _ _ _ _ D];exact c3);clear pJ Iu J z N x Xy HQ p1;go_upto_region 6 with fail
   go_region_held3 (λw'=>w'.cell? ⟨xb,3,O⟩=M (Z (M ⟨c,off,O⟩) fs.length u)/\w'.cell? ⟨c,off+i*3+1,O⟩=M (.string a.2.1)) (first|go_keep|(exact⟨k3,k1⟩)) (fail)
   all_goals go_wp2_with fail
   all_goals go_ret
   rw[B.out];exact⟨rfl,_,Cm,E⟩
  ·have B:Hid (cO s fs n=(false,A,dZ)):=(by show _=_;unfold cO;rw[g];simp only;rw[e];rfl);rw[e]at j;simp only at j;clear e S g k t L Q;go_enter func111,ntmps111;go_wp2_with fail;refine o.mono ?_;rintro e w ⟨rfl,rfl⟩;clear o;go_wp2_with fail;refine j.mono ?_;rintro e d ⟨rfl,P,vN,J⟩;clear j;go_wp2_with fail;go_ret;rw[B.out];exact⟨rfl,P,vN,J⟩
theorem load_ref {ao:Option Addr}{la ca:Nat}{l:List AF}(h:bO w xb s fs m f)(hc:iX s)(hr:Cn w ao l)(e1:la=l.length)(Qm:l.length<=140737488355328)(BA:∀g∈l,g.2.size<=140737488355328):
 H K 62 #[U (M ⟨xb,0,O⟩),Z ao la ca] w λe w'=>e=G (I V (gT (s,fs,m) l).2)/\After w w' xb s (gT (s,fs,m) l).1.2.1 m f:=by
 subst e1;have HS:Hid (bO w xb s fs m f):=h;obtain⟨a8,-⟩:=h.row;obtain⟨r,hx,hf,hm⟩:=h;obtain⟨yN,-⟩:=gD hx;have c2:=Qy hx;clear hx hf hm;by_cases e1:s.aX=true
 ·have c:Hid (gT (s,fs,m) l=((s,fs,m),2)):=by show _=_;unfold gT;rw[Aad e1]
  rw[e1]at yN;clear hr;go_enter func62,ntmps62;go_wp2_with fail;go_ret;rw[c.out];exact⟨rfl,f,HS.out,kX.refl _ _ _⟩
 ·have ho:s.aX=false:=by simpa using e1
  rw[ho]at yN;by_cases e2:40<l.length
  ·have c:Hid (gT (s,fs,m) l=((s,fs,m),1)):=(by show _=_;unfold gT;rw[Aaa e1,Aaa (λh2=>by omega)]);clear hr;go_enter func62,ntmps62;go_wp2_with fail;go_ret;rw[c.out];exact⟨rfl,f,HS.out,kX.refl _ _ _⟩
  ·have rm:=hc.kZ;have B:Hid _:=ho;clear e1 ho;go_enter func62,ntmps62;go_wp2_with fail
   go_loopw [5,6,7] (λu v i wr=> ∃k:Nat,k<=l.length/\i=I V (k:Int)/\u=I V (bX ((l.take k).map Ja))/\uO wr w.heap.size v ((l.take k).map Ja)/\Below w.heap.size w wr/\Hid (okA s.room (l.take k))) (λ_ _ i _=>l.length-(intOf i).toNat)
   case atStart=>exact⟨0,Aao _,rfl,rfl,AaH _ _ _ _,AaP _ _,⟨by simp,by simp,by simp[bX];exact hc.AQ⟩⟩
   case round=>
    obtain⟨k,hk,rfl,rfl,J,y,W⟩:=hrel;have a9:=W.out.2.2;have b0:=rU ((l.take k).map Ja);have d2:=Aay y c2;by_cases bQ:k<l.length
    ·obtain⟨⟨d,a⟩,t⟩:∃g,l[k]?=M g:=⟨_,Aaf bQ⟩;have a5:=BA _ (Aai t);simp only at a5;have HT:Hid (bX ((l.take (k+1)).map Ja)=bX ((l.take k).map Ja)+(a.size:Int)):=Kc t;have HL:Hid ((l.take (k+1)).map Ja=(l.take k).map Ja++ [(d,a,(a.size:Int))]):=jm t;have a7:((l.take k).map Ja).length<=40:=(by rw[AbM,Aaz];omega);have XO:=hr.aN y;obtain⟨b,off,rfl,p1,p2⟩:=XO.at t;simp only at p1 p2;have x:Hid (l[k]?=M (d,a)):=t;have i1:(0:Int)<=(k:Int):=(by omega);have i2:(k:Int)<(l.length:Int):=(by omega);have vN:Hid (bO wr xb s fs m f):=HS.out.aN y;have zR:Hid (kX w wr xb f f):=(kX.refl w xb f).aN y;have Ld:=hr;clear t hr;generalize a0:bX ((l.take k).map Ja)=aH at*;have z:Hid _:=a0;clear a0;generalize S:(l.take k).map Ja=out at*;have A:Hid _:=S;clear S;have hs:=y.size;go_upto_region 12 with fail;have y0:(wr.alloc (C #[I V d,.string a] 95)).cell? ⟨wr.heap.size,0,O⟩=M (I V d):=(by simp);have y1:(wr.alloc (C #[I V d,.string a] 95)).cell? ⟨wr.heap.size,1,O⟩=M (.string a):=(by simp);have y2:=Aay (aO wr (C #[I V d,.string a] 95)) d2;have uG:uO (wr.alloc (C #[I V d,.string a] 95)) w.heap.size u6 out:=Aax J _;have QI:Below w.heap.size w (wr.alloc (C #[I V d,.string a] 95)):=aQ y (aO _ _);have L:Hid (After w (wr.alloc (C #[I V d,.string a] 95)) xb s fs m f):=⟨f,vN.out.aN (aO _ _),zR.out.aN (aO _ _)⟩;clear J y p1 p2 d2;have HQ:Hid (aL wr (wr.alloc (C #[I V d,.string a] 95))):=aO _ _;have X:wr.heap.size<(wr.alloc (C #[I V d,.string a] 95)).heap.size:=(by simp);generalize hq:wr.heap.size=Q at*;generalize wr.alloc _=n at*;by_cases D:k=0
     ·have HZ:Hid _:=D;have k0:¬(0:Int)<(k:Int):=(by omega);have k1:decide (0<k)=false:=AaM (by omega);clear D;clear XO Ld;by_cases z1:d<0
      ·have c:Hid (gT (s,fs,m) l=((s,fs,m),1)):=Co (Ho x.out (Aac z1)) B.out;go_quiet (fail);go_wp2_with fail;go_ret;rw[c.out];exact⟨rfl,qK L.out _⟩
      ·by_cases E:a.size=0
       ·have c:Hid (gT (s,fs,m) l=((s,fs,m),1)):=Co (Ho x.out (Aab (Aac E))) B.out;have N:((a.size:Int)==0)=true:=(by simp[E]);go_quiet (fail);go_wp2_with fail;go_ret;rw[c.out];exact⟨rfl,qK L.out _⟩
       ·have N:((a.size:Int)==0)=false:=(by rw[Aat];omega);by_cases z4:s.room<aH+(a.size:Int)
        ·have c:Hid (gT (s,fs,m) l=((s,fs,m),1)):=Co (Ho x.out (Aab (Aab (by rw[A.out,z.out];exact z4)))) B.out;go_quiet (fail);go_wp2_with fail;go_ret;rw[c.out];exact⟨rfl,qK L.out _⟩
        ·have HK:Hid (okA s.room (l.take (k+1))):=KZ W.out x.out (by simp only;omega) (λi g e t=>by have:=HZ.out;omega) E (by rw[A.out,z.out];simp only;omega);go_quiet (fail);have R:uO (n.drewN nq) w.heap.size u6 out:=uG;have o:Below w.heap.size w (n.drewN nq):=bC QI _;have a4:(n.drewN nq).cell? ⟨Q,0,O⟩=M (I V d):=y0;have a6:(n.drewN nq).cell? ⟨Q,1,O⟩=M (.string a):=y1;have a2:=o.size;have a3:Q<(n.drewN nq).heap.size:=X;clear uG QI y0 y1 y2;generalize n.drewN nq=w9 at*;go_wp2_with (at_builtin;go_must (refine oK (by rfl) (.tmp 63) (.tmp 72) (by rfl) w.heap.size _ out (d,a,(a.size:Int)) (by rfl) (by exact Aax R _) _ _ _ (by rfl) (by rfl) (by exact AbH (Aag w9 _)) (by omega) (by simp;omega) ?_);intro v5 w5 dG eY);go_roundw
         case rel=>exact⟨k+1,by omega,by go_num,by rw[HT.out],by rw[HL.out];exact dG,(iQ o (aO _ _) (by omega)).grown eY (by simp;omega) (λk e=>(AaB R k e).1),HK.out⟩
         case measure=>simp[intOf];omega
     ·obtain⟨j,rfl⟩:∃j,k=j+1:=⟨k-1,by omega⟩;clear D;obtain⟨⟨vn,vb⟩,hv⟩:∃g,l[j]?=M g:=⟨_,Aaf (by omega)⟩;obtain⟨b',Sb,eb,v1,-⟩:=XO.at hv;cases eb
      simp only at v1;have HV:Hid (l[j]?=M (vn,vb)):=hv;have y3:=Aay HQ.out v1;have j0:(0:Int)<((j+1:Nat):Int):=(by omega);have j1:(0:Int)<=((j+1:Nat):Int)-1:=(by omega);have j2:((j+1:Nat):Int)-1<(l.length:Int):=(by omega);clear hv;clear XO Ld;by_cases z1:d<0
      ·have c:Hid (gT (s,fs,m) l=((s,fs,m),1)):=Co (Ho x.out (Aac z1)) B.out;go_quiet (fail);go_wp2_with fail;go_ret;rw[c.out];exact⟨rfl,qK L.out _⟩
      ·by_cases z2:d<=vn
       ·have c:Hid (gT (s,fs,m) l=((s,fs,m),1)):=Co (okA_ord x.out HV.out z2) B.out;go_quiet (fail);go_wp2_with fail;go_ret;rw[c.out];exact⟨rfl,qK L.out _⟩
       ·by_cases E:a.size=0
        ·have c:Hid (gT (s,fs,m) l=((s,fs,m),1)):=Co (Ho x.out (Aab (Aac E))) B.out;have N:((a.size:Int)==0)=true:=(by simp[E]);go_quiet (fail);go_wp2_with fail;go_ret;rw[c.out];exact⟨rfl,qK L.out _⟩
        ·have N:((a.size:Int)==0)=false:=(by rw[Aat];omega);by_cases z4:s.room<aH+(a.size:Int)
         ·have c:Hid (gT (s,fs,m) l=((s,fs,m),1)):=Co (Ho x.out (Aab (Aab (by rw[A.out,z.out];exact z4)))) B.out;go_quiet (fail);go_wp2_with fail;go_ret;rw[c.out];exact⟨rfl,qK L.out _⟩
         ·have HK:Hid (okA s.room (l.take (j+1+1))):=KZ W.out x.out (by simp only;omega) (λi g e t=>by(have e':i=j:=by omega);subst e';rw[HV.out]at t;cases t;simp only;omega) E (by rw[A.out,z.out];simp only;omega);go_quiet (fail);have R:uO (n.drewN nq) w.heap.size u6 out:=uG;have o:Below w.heap.size w (n.drewN nq):=bC QI _;have a4:(n.drewN nq).cell? ⟨Q,0,O⟩=M (I V d):=y0;have a6:(n.drewN nq).cell? ⟨Q,1,O⟩=M (.string a):=y1;have a2:=o.size;have a3:Q<(n.drewN nq).heap.size:=X;clear uG QI y0 y1 y2 y3;generalize n.drewN nq=w9 at*;go_wp2_with (at_builtin;go_must (refine oK (by rfl) (.tmp 63) (.tmp 72) (by rfl) w.heap.size _ out (d,a,(a.size:Int)) (by rfl) (by exact Aax R _) _ _ _ (by rfl) (by rfl) (by exact AbH (Aag w9 _)) (by omega) (by simp;omega) ?_);intro v5 w5 dG eY);go_roundw
          case rel=>exact⟨j+1+1,by omega,by go_num,by rw[HT.out],by rw[HL.out];exact dG,(iQ o (aO _ _) (by omega)).grown eY (by simp;omega) (λk e=>(AaB R k e).1),HK.out⟩
          case measure=>simp[intOf];omega
    ·have e1:l.take k=l:=Aaq (by omega);rw[e1]at J W;have c:Hid (gT (s,fs,m) l=((s,l.map Ja,m),0)):=load_yes W.out (by omega) B.out;have vN:=HS.out.aN y;obtain⟨r9,P,XM,a1⟩:=vN;obtain⟨x9,n9,c9,rfl⟩:=nT J;have EO:=rQ J;have Uv:=Io J;have c3:=kG P;obtain⟨-,-,-,-,-,-,cf⟩:=lI P;have f3:=cf 3;have Cm:After w (wr.setCell ⟨xb,3,O⟩ (Z x9 n9 c9)) xb s (l.map Ja) m f:=⟨(x9,n9,c9),⟨r9,sW (f':=(x9,n9,c9)) P,EO.jM P,a1.jM P⟩,(((kX.refl w xb f).aN y).row Uv).set⟩;clear cf J P XM a1 hr;go_wp2_with fail;go_ret;rw[c.out];exact⟨rfl,Cm⟩
theorem MC {a:Int}(h:aU w db s fv rs):
 H K 113 #[U (M ⟨db,0,O⟩),I V a] w λe w'=>e=G (.tuple #[])/\aU w' db { s with refusing:=true,left:=a } fv rs/\Og w w' db:=by
 obtain⟨o,r,z,u,k,i,j,n,c⟩:=dM h.1;have x:=c 2;have y:=c 3;have g:Hid (aU w db s fv rs):=h;clear h c o r k i j n;go_enter func113,ntmps113;go_wp2_with fail;go_end0;have d:=g.out.set (Pb true g.out.1);have t:=d.set (BB a d.1);exact⟨rfl,t,((Og.refl w db).set).set⟩
theorem move1_pg {bx b2 lo:Nat}{r:FR}{t2:Int}(h:aU w db s fv rs)(hs:(plain rs).Pairwise (λa b=>a.1<b.1))(hr:rs[lo]?=M r)(hl:rs.length<=1000000)(c0:w.heap[bx]?=M (C #[U (M ⟨db,0,O⟩)] 111 (0,0)))(c2:w.heap[b2]?=M (C #[I V t2] 3 (0,0))):
 H K 228 #[I V (lo:Int),U (M ⟨bx,0,O⟩),U (M ⟨b2,0,O⟩)] w λe w'=>e=G (.tuple #[])/\MvD w w' db s fv rs lo r t2:=by
 obtain⟨g,u,rfl,c1,a6,cr,bQ,hf⟩:=h.at hr;have HP:Hid (rs.Pairwise nU):=h.2.2.2;have HR:Hid (rs[lo]?=M r):=hr;have HS:Hid ((plain rs).Pairwise (λa b=>a.1<b.1)):=hs;have a3:(rs.eraseIdx lo).length<=1000000:=by rw[Ada];split<;>omega
 have HC:Hid (∀W,aL w W->H K 167 #[Z (M ⟨g,0,O⟩) rs.length u,I V (lo:Int),I V ((lo:Int)+1)] W λe w'=> ∃(c d:Nat),e=G (Z (M ⟨g,0,O⟩) d c)/\Hid (d=(rs.eraseIdx lo).length)/\w'.cell? ⟨bx,0,O⟩=M (U (M ⟨db,0,O⟩))/\w'.cell? ⟨db,1,O⟩=M (Z (M ⟨g,0,O⟩) rs.length u)/\w'.frozen? ⟨db,1,O⟩=false/\Hid (MvAt w ((w'.setCell ⟨db,1,O⟩ (Z (M ⟨g,0,O⟩) d c)).setCell ⟨r.b,0,O⟩ (I V t2)) db g u c bx b2 s rs lo r t2)
  /\Hid ((w'.setCell ⟨db,1,O⟩ (Z (M ⟨g,0,O⟩) d c)).heap[r.b]?=M (uR r)/\(w'.setCell ⟨db,1,O⟩ (Z (M ⟨g,0,O⟩) d c)).heap[b2]?=M (C #[I V t2] 3 (0,0)))):=λW z=>by
  refine(del_row (h.aN z) bQ hl).mono ?_;rintro e w' ⟨c,rfl,kR,Mh,hD⟩;obtain⟨cg,E⟩:=iH (h.aN z).2.1 (g:=g) rfl;obtain⟨-,m1,-,-,-,-,-,-,mf⟩:=dM Mh;have F1:=Fr.set w' ⟨db,1,O⟩ (Z (M ⟨g,0,O⟩) (rs.eraseIdx lo).length c)
  have N:∀(k:Nat) (y:Array Y) (t:TypeId),w.heap[k]?=M (Obj.cells y t (0,0))->t≠155->t≠200->w'.heap[k]?=M (Obj.cells y t (0,0)):=λk y t Q h1 R=>by
   have k1:W.heap[k]?=M (Obj.cells y t (0,0)):=(z.block _ (aM Q)).trans Q;exact kR.1.at k1 (λe=>aZ k1 E R e)
  have rR:=N _ _ _ c0 (by decide) (by decide);have fQ:=N _ _ _ c2 (by decide) (by decide);have D:=N _ _ _ hf.1 (by decide) (by decide);exact⟨c,_,rfl,rfl,by simp[World.cell?,rR],m1,mf 1,mv_at h hr c0 c2 z kR Mh hD,F1.at D (λe=>aZ D Mh (by decide) e),F1.at fQ (λe=>aZ fQ Mh (by decide) e)⟩
 have a7:w.cell? ⟨bx,0,O⟩=M (U (M ⟨db,0,O⟩)):=by simp[World.cell?,c0]
 have jJ:IntKind.i64.wrap ((lo:Int)+1)=(lo:Int)+1:=by rw[AaC];omega
 have i1:(0:Int)<=(lo:Int):=by omega
 have i2:(lo:Int)<(rs.length:Int):=by omega
 clear h hr hs hf c0 c2;go_enter func228,ntmps228;go_upto_region 1 with fail
 go_cut [14] (λ_ wc=> ∃(B:F) (c d:Nat),wc=B.setCell ⟨db,1,O⟩ (Z (M ⟨g,0,O⟩) d c)/\Hid (d=(rs.eraseIdx lo).length)/\Hid (MvAt w ((B.setCell ⟨db,1,O⟩ (Z (M ⟨g,0,O⟩) d c)).setCell ⟨r.b,0,O⟩ (I V t2)) db g u c bx b2 s rs lo r t2)/\Hid ((B.setCell ⟨db,1,O⟩ (Z (M ⟨g,0,O⟩) d c)).heap[r.b]?=M (uR r)/\(B.setCell ⟨db,1,O⟩ (Z (M ⟨g,0,O⟩) d c)).heap[b2]?=M (C #[I V t2] 3 (0,0))))
 case first=>
  go_region_law ((refine dD (by rfl) 167 _ _ (by rfl) _ (by simp[Act.eval];done) LZ ((HC.out _ (by repeat (first|exact aL.refl _|refine aL.drew ?_))).mono ?_);rintro e B ⟨c,d,rfl,Lr,y0,y1,y2,J,D⟩;refine⟨_,rfl,?_⟩))
  all_goals go_wp2_with fail
  all_goals go_meet
  all_goals exact⟨B,c,d,rfl,Lr,J,D⟩
 case rest=>
  obtain⟨B,c,d,rfl,Lr,J,D⟩:=hcut;obtain⟨w6,h6⟩:∃w6,w6=B.setCell ⟨db,1,O⟩ (Z (M ⟨g,0,O⟩) d c):=⟨_,rfl⟩;rw[<-h6]at J D ⊢;obtain⟨q1,q2⟩:=D.out;obtain⟨x0,-,-,xf⟩:=iC q1;have a4:=xf 0;have x2:w6.cell? ⟨b2,0,O⟩=M (I V t2):=by simp[World.cell?,q2]
  clear h6 q1 q2 xf D c1 a6 cr a7;go_upto_region 3 with fail;obtain⟨x,h7⟩:∃x,x=w6.setCell ⟨r.b,0,O⟩ (I V t2):=⟨_,rfl⟩;rw[<-h7]at J ⊢;clear h7 x0 a4 x2;have i:=J.out;have P:=Cg (n:=t2) i.1 (Cu HS.out lo) a3;have y0:x.cell? ⟨bx,0,O⟩=M (U (M ⟨db,0,O⟩)):=by have:=i.2.2.2.2.1;simp[World.cell?,this]
  have y2:x.cell? ⟨b2,0,O⟩=M (I V t2):=by have:=i.2.2.2.2.2;simp[World.cell?,this]
  cases L:kP (plain (rs.eraseIdx lo)) t2 with
  |true=>
   rw[L]at P;obtain⟨q,hq,-⟩:=yZ L;obtain⟨g',mF,e',d1,a8,d2,a2,-⟩:=i.1.at hq;cases e'
   obtain⟨cg,E⟩:=iH i.1.2.1 (g:=g) rfl;have a5:=(iT E (fF (plain (rs.eraseIdx lo)) t2)).2;have A:Hid (MvD w (x.setCell ⟨g,fF (plain (rs.eraseIdx lo)) t2,O⟩ (U (M ⟨r.b,0,O⟩))) db s (Z (M ⟨g,0,O⟩) rs.length u) rs lo r t2):=mv_there HR.out HP.out i HS.out L rfl;clear i J hq E L;rw[<-Lr.out]at d1 a2;generalize fF (plain (rs.eraseIdx lo)) t2=j at P d2 a5 a2 A;have i3:(0:Int)<=(j:Int):=(by omega);have i4:(j:Int)<(d:Int):=(by omega);go_wp2_with (go_at_call 139;refine P.mono ?_;rintro e w8 ⟨rfl,rfl⟩);refine Aap (results_none rfl _ _ _) rfl ?_;exact⟨rfl,A.out⟩
  |false=>
   rw[L]at P;obtain⟨-,d1,-,-,-,-,-,-,df⟩:=dM i.1.1;have b0:=df 1;have hle:fF (plain (rs.eraseIdx lo)) t2<=(rs.eraseIdx lo).length:=(by have:=Md (plain (rs.eraseIdx lo)) t2;rwa[bP]at this);obtain⟨cg,E⟩:=iH i.1.2.1 (g:=g) rfl;have oZ:=aM E
   have HI:Hid (∀W:F,aL x W->W.heap[x.heap.size]?=M (C #[U (M ⟨r.b,0,O⟩)] 200 (0,0))->
    H K 187 #[Z (M ⟨g,0,O⟩) d c,I V (fF (plain (rs.eraseIdx lo)) t2:Nat),Z (M ⟨x.heap.size,0,O⟩) 1 1] W λe w'=> ∃(S:Option Addr) (m9 X:Nat),e=G (Z S m9 X)/\w'.cell? ⟨bx,0,O⟩=M (U (M ⟨db,0,O⟩))/\w'.cell? ⟨db,1,O⟩=M (Z (M ⟨g,0,O⟩) d c)/\w'.frozen? ⟨db,1,O⟩=false/\MvD w (w'.setCell ⟨db,1,O⟩ (Z S m9 X)) db s (Z (M ⟨g,0,O⟩) rs.length u) rs lo r t2):=λW z R=>by
    rw[Lr.out];refine(BM (r:=(r.b,r.v,(t2,r.f.2.1,r.f.2.2))) (i.1.aN z).2.1 hle R (λe=>by simp[Value.ownBlock]at e;omega) a3).mono ?_;rintro e w' ⟨v',rfl,Im⟩;obtain⟨S,X,ev,-⟩:=iL.form Im.1;have Cm:=mv_new HR.out HP.out i HS.out L rfl z Im;subst ev
    have N:∀(k:Nat) (y:Array Y) (t:TypeId),x.heap[k]?=M (Obj.cells y t (0,0))->t≠200->w'.heap[k]?=M (Obj.cells y t (0,0)):=λk y t Q R=>
     iP Im.2.1 ((z.block _ (aM Q)).trans Q) (λe=>by
      simp[Value.ownBlock]at e;subst e;exact aZ Q E R rfl)
    have rR:=N _ _ _ i.2.2.2.2.1 (by decide);obtain⟨-,z1,-,-,-,-,-,-,zf⟩:=dM (N _ _ _ i.1.1 (by decide));exact⟨S,_,X,rfl,by simp[World.cell?,rR],z1,zf 1,Cm⟩
   rw[<-Lr.out]at d1;clear i J E L df hle oZ;generalize fF (plain (rs.eraseIdx lo)) t2=j at P HI;have a0:∀o,(x.alloc o).cell? ⟨bx,0,O⟩=M (U (M ⟨db,0,O⟩)):=λo=>Aay (aO _ _) y0
   have a1:∀o,(x.alloc o).cell? ⟨db,1,O⟩=M (Z (M ⟨g,0,O⟩) d c):=λo=>Aay (aO _ _) d1;go_wp2_with (go_at_call 139;refine P.mono ?_;rintro e w8 ⟨rfl,rfl⟩)
   go_region_law ((refine dD (by rfl) 187 _ _ (by rfl) _ (by simp[Act.eval];done) LU ((HI.out _ (new1G _ _) (new1a _ _)).mono ?_);rintro e w9 ⟨S,m9,X,rfl,z0,z1,z2,Cm⟩;refine⟨_,rfl,?_⟩))
   all_goals go_wp2_with fail
   all_goals go_end0
   all_goals exact⟨rfl,Cm⟩
end Go.Proofs.YtfplgfodoiiobabGreatDoor
