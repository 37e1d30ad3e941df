/- RfB, RfC, DrO (joined). -/
import Derived.Test.YtfplgfodoiiobaaGreatDoorD22
open Option renaming none→O,some→M
open Go.Value renaming int→I,slice→Z,pointer→U
open Go.IntKind renaming i64→V
open Go.Obj renaming cells→C
open Go.Ending renaming returned→G
open Go renaming World→F,Value→Y,Calls→H
open Go.Proofs.Tryz renaming prog→K
open Go.Proofs.Tryz
namespace Go.Proofs.YtfplgfodoiiobaaGreatDoor
set_option maxHeartbeats 4000000
set_option maxRecDepth 100000
open Go.RowKit
abbrev AbP:=@Option.map_eq_some_iff
variable {w w' w5 w6:F}{g B k N:Nat}{r r0 rk:Sn}{S:ByteArray}{size:Int}{l:List Ed}{v:Y}{raw:List fP}{o:Obj}{e:Ed}
theorem Dy {l:List (Int×Int)}(h:∀p∈l,Ip p):0<=sz l/\sz l<=(l.length:Int)*4294967296:=by
 induction l with
 |nil=>simp[sz]
 |cons p l ih=>
  obtain⟨a,b⟩:=ih (fun q hq=>h q (by simp[hq]));obtain⟨_,_,c,d⟩:=h p (by simp);simp only[sz,Aao];omega
theorem KA {l:List (Int×Int)}(h:∀p∈l,Ip p)(hlen:l.length<=9000)(k:Nat):0<=sz (l.take k)/\sz (l.take k)<=38654705664000:=by
 obtain⟨a,b⟩:=Dy (l:=l.take k) (fun p hp=>h p (AaX hp));have h2:(l.take k).length<=9000:=by rw[Aaw];omega
 omega
theorem zM {ao:Option Addr}{la ca:Nat}{l:List (Int×Int)}(hr:Da w ao l)(e1:la=l.length)(ok:∀p∈l,Ip p)(hlen:l.length<=9000):
 H K 106 #[Z ao la ca] w fun e w'=>e=G (I V (sz l))/\w'=w:=by
 subst e1;go_enter func106,ntmps106
 go_wp2
 go_loop [3,4] (fun n i=> ∃k:Nat,k<=l.length/\i=I V (k:Int)/\n=I V (sz (l.take k))) (fun _ i=>l.length-(intOf i).toNat)
 case atStart=>exact⟨0,Aap _,rfl,rfl⟩
 case round=>
  obtain⟨k,hk,rfl,rfl⟩:=hrel;have hb:=KA ok hlen k;by_cases bP:k<l.length
  ·obtain⟨b,off,rfl,c1,c2⟩:=hr.at bP;have pq:Ip (l.getD k (0,0)):=ok _ (by simp[bP]);have HS:Hid _:=BI bP;generalize l.getD k (0,0)=p at c1 c2 pq HS;obtain⟨px,py⟩:=p;simp only at c1 c2 HS;unfold Ip at pq;simp only at pq;have i1:(0:Int)<=(k:Int):=(by omega);have i2:(k:Int)<(l.length:Int):=(by omega);clear hr;go_wp2_with fail
   go_round
   case rel=>exact⟨k+1,by omega,by go_num,by rw[HS.out]⟩
   case measure=>simp[intOf];omega
  ·go_wp2
   go_ret;exact⟨by rw[Aaq (by omega)];rfl,rfl⟩
theorem gY.og {l:List (Int×Int)}(h:gY w B v l)(ho:Og w w' g)(hg:g<B):gY w' B v l:=
 bK h ho.1 (fun b aS hb _ e=>by have:=(AaA h b hb).1;omega)
theorem lV.lt (h:lV w g S r):g<w.heap.size:=by
 obtain⟨i,h1,h2,h3⟩:=h;exact aM h3
theorem lV.cell (h:lV w g S r):w.cell? ⟨g,2,O⟩=M (.bool r.2)/\w.frozen? ⟨g,2,O⟩=false:=by
 obtain⟨i,h1,h2,h3⟩:=h;obtain⟨-,-,c,d⟩:=Iy h3;exact⟨c,d 2⟩
theorem A_ (h:r.2=false):uR (k+1) size r=(((bG r).1,(bG (bG r).2).1)::(uR k size (eT ((bG (bG r).2).1<1\/5000<(bG (bG r).2).1\/size<(bG r).1+(bG (bG r).2).1) (bG (bG r).2).2)).1,(uR k size (eT ((bG (bG r).2).1<1\/5000<(bG (bG r).2).1\/size<(bG r).1+(bG (bG r).2).1) (bG (bG r).2).2)).2):=by
 rw[uR,Aaa (by rw[h];simp)]
def Py (N k:Nat)(size:Int)(r0 rk:Sn)(out:List (Int×Int)):Prop:=out.length=k/\k<=N/\uR N size r0=(out++(uR (N-k) size rk).1,(uR (N-k) size rk).2)
theorem Py.done {out:List (Int×Int)}(h:Py N k size r0 rk out)(hd:N<=k\/rk.2=true):uR N size r0=(out,rk):=by
 obtain⟨h1,h2,h3⟩:=h;rw[h3];rcases hd with hd|hd
 ·rw[show N-k=0 from by omega];simp[uR]
 ·rw[zC _ _ _ hd];simp
theorem Py.next {out:List (Int×Int)}(h:Py N k size r0 rk out)(hk:k<N)(hb:rk.2=false):
 Py N (k+1) size r0 (eT ((bG (bG rk).2).1<1\/5000<(bG (bG rk).2).1\/size<(bG rk).1+(bG (bG rk).2).1) (bG (bG rk).2).2) (out++ [((bG rk).1,(bG (bG rk).2).1)]):=by
 obtain⟨h1,h2,h3⟩:=h;refine⟨by simp[h1],by omega,?_⟩;rw[h3,show N-k=(N-(k+1))+1 from by omega,A_ hb];simp
theorem Og.grown {row:Option Nat}(h:Og w w5 g)(hg:(w5.alloc o).grownBy w6 row)(hr:∀k,row=M k->w.heap.size<=k):Og w w6 g:=by
 obtain⟨⟨a1,a2⟩,b1,b2,b3⟩:=h;refine⟨⟨?_,fun b hb hn=>?_⟩,hg.os.trans b1,hg.tape.trans b2,hg.output.trans b3⟩
 ·have:=hg.size;simp at this;omega
 ·rw[hg.block b (by simp;omega) (fun e=>by have:=hr b e.symm;omega),Abv w5 o (r:=b) (by omega)];exact a2 b hb hn
theorem lV.grown {row:Option Nat}(h:lV w5 g S r)(hg:(w5.alloc o).grownBy w6 row)(hr:∀k,row=M k->B<=k)(hB:g<B):lV w6 g S r:=by
 obtain⟨i,h1,h2,h3⟩:=h;have hl:=aM h3;refine⟨i,h1,h2,?_⟩;rw[hg.block g (by simp;omega) (fun e=>by have:=hr g e.symm;omega),Abv w5 o hl];exact h3
theorem zN (w:F)(a b:Int):Da (w.alloc (C #[I V a,I V b] 114)) (M ⟨w.heap.size,0,O⟩) [(a,b)]:=by
 refine Aab ⟨_,0,rfl,fun i hi=>?_⟩;have:i=0:=by simpa using hi
 subst this;simp
theorem B_ {l:List (Int×Int)}{a b:Int}(h:∀p∈l,Ip p)(ha:0<=a/\a<4294967296)(hb:0<=b/\b<4294967296):∀p∈l++ [(a,b)],Ip p:=by
 intro p hp;simp only[Aba,AbY]at hp;rcases hp with hp|rfl
 ·exact h p hp
 ·exact⟨ha.1,ha.2,hb.1,hb.2⟩
theorem Jg (h:lV w g S r)(hS:S.size<=2000000)(oG:0<=size)(nM:size<4294967296):
 H K 224 #[U (M ⟨g,0,O⟩),I V size] w fun e w'=> ∃v,e=G v/\gY w' w.heap.size v (dO size r).1/\lV w' g S (dO size r).2/\Og w w' g:=by
 have Fu:=h.lt;have hnb:=wV r;have HP:Hid (dO size r=((uR (bG r).1.toNat size (eT (4096<(bG r).1) (bG r).2)).1,eT (5000<sz (uR (bG r).1.toNat size (eT (4096<(bG r).1) (bG r).2)).1) (uR (bG r).1.toNat size (eT (4096<(bG r).1) (bG r).2)).2)):=rfl;have Gh:=yA size r;go_enter func224,ntmps224;go_wp2_with fail;refine(iX h hS).mono ?_;rintro e w1 ⟨rfl,sV,Ct⟩;generalize (bG r).1=n at*;generalize (bG r).2=r1 at*;obtain⟨N,rfl⟩:=AbA hnb.1;rw[Ace]at HP;clear h;by_cases C_:4096<(N:Int)
 ·have HR2:Hid (eT (4096<(N:Int)) r1=(r1.1,true)):=by show _=_;unfold eT;rw[Aad C_]
  rw[HR2.out]at HP;obtain⟨c1,f1⟩:=sV.cell;go_wp2_with fail;have Mh:=sV.bad;have EX:Og w (w1.setCell ⟨g,2,O⟩ (.bool true)) g:=Ct.set;have hN2:N<=4096\/((r1.1,true):Sn).2=true:=Aab rfl;clear sV Ct c1 f1;generalize w1.setCell ⟨g,2,O⟩ (.bool true)=w2 at*
  go_loopw [6,7] (fun v i wr=> ∃(k:Nat) (out:List (Int×Int)) (rk:Sn),i=I V (k:Int)/\gY wr w.heap.size v out/\lV wr g S rk/\Og w wr g/\Hid (Py N k size ((r1.1,true):Sn) rk out)/\(N<=4096\/rk.2=true)/\Hid (∀p∈out,Ip p)) (fun _ i _=>N-(intOf i).toNat)
  case atStart=>exact⟨0,[],((r1.1,true):Sn),rfl,AaI _ _ _ _,Mh,EX,⟨rfl,Aap _,by simp⟩,hN2,fun p hp=>by simp at hp⟩
  case round=>
   obtain⟨k,out,rk,rfl,bD,Wu,kP,Wj,hNk,KC⟩:=hrel;have Qu:out.length=k:=Wj.out.1;subst Qu;have hkN:out.length<=N:=Wj.out.2.1;obtain⟨ck,fk⟩:=Wu.cell;by_cases rT:¬(out.length<N)\/rk.2=true
   ·have HD:Hid (uR N size ((r1.1,true):Sn)=(out,rk)):=Wj.out.done (rT.imp (fun h=>by omega) id)
    have UK:out.length<=4096:=by
     rw[HP.out,HD.out]at Gh;exact Gh.2
    obtain⟨ro,rc,rfl,Bz,-⟩:=bD.form;have jW:=zM (ca:=rc) Bz rfl KC.out (by omega);have hsb:=Dy KC.out;have HW:Hid (gY wr w.heap.size (Z ro out.length rc) out/\lV wr g S rk/\Og w wr g):=⟨bD,Wu,kP⟩;clear Bz bD Wu kP Wj;by_cases h5:5000<sz out
    ·have HB:Hid (eT (5000<sz out) rk=(rk.1,true)):=(by show _=_;unfold eT;rw[Aad h5]);by_cases Jv:out.length<N
     ·have Ql:rk.2=true:=rT.resolve_left (fun h=>h Jv);have Qm:(out.length:Int)<(N:Int):=(by omega);have tX:decide (out.length<N)=true:=AaH Jv;rw[Ql]at ck;clear rT;go_wp2_with fail;refine jW.mono ?_;rintro e w9 ⟨rfl,rfl⟩;clear jW;go_wp2_with fail;go_ret;rw[HP.out,HD.out];simp only;rw[HB.out];exact⟨_,rfl,HW.out.1.og (Og.refl _ g).set Fu,HW.out.2.1.bad,HW.out.2.2.set⟩
     ·exfalso;omega
    ·have HB:Hid (eT (5000<sz out) rk=rk):=(by show _=_;unfold eT;rw[Aaa h5]);by_cases Jv:out.length<N
     ·have Ql:rk.2=true:=rT.resolve_left (fun h=>h Jv);have Qm:(out.length:Int)<(N:Int):=(by omega);have tX:decide (out.length<N)=true:=AaH Jv;rw[Ql]at ck;clear rT;go_wp2_with fail;refine jW.mono ?_;rintro e w9 ⟨rfl,rfl⟩;clear jW;go_wp2_with fail;go_ret;rw[HP.out,HD.out];simp only;rw[HB.out];exact⟨_,rfl,HW.out.1,HW.out.2.1,HW.out.2.2⟩
     ·exfalso;omega
   ·have Jv:out.length<N:=(by omega);have Qm:(out.length:Int)<(N:Int):=(by omega);have tX:decide (out.length<N)=true:=AaH Jv
    have Ql:rk.2=false:=by
     cases e:rk.2 with
     |false=>rfl
     |true=>exact absurd (Aab e) rT
    rw[Ql]at ck
    have hN9:N<=4096:=by
     rcases hNk with h|h
     ·exact h
     ·rw[Ql]at h;cases h
    exfalso;omega
 ·have HR2:Hid (eT (4096<(N:Int)) r1=r1):=by show _=_;unfold eT;rw[Aaa C_]
  rw[HR2.out]at HP;go_wp2_with fail;have Mh:=sV;have EX:=Ct;have hN2:N<=4096\/r1.2=true:=Aac (by omega);clear sV Ct
  go_loopw [6,7] (fun v i wr=> ∃(k:Nat) (out:List (Int×Int)) (rk:Sn),i=I V (k:Int)/\gY wr w.heap.size v out/\lV wr g S rk/\Og w wr g/\Hid (Py N k size r1 rk out)/\(N<=4096\/rk.2=true)/\Hid (∀p∈out,Ip p)) (fun _ i _=>N-(intOf i).toNat)
  case atStart=>exact⟨0,[],r1,rfl,AaI _ _ _ _,Mh,EX,⟨rfl,Aap _,by simp⟩,hN2,fun p hp=>by simp at hp⟩
  case round=>
   obtain⟨k,out,rk,rfl,bD,Wu,kP,Wj,hNk,KC⟩:=hrel;have Qu:out.length=k:=Wj.out.1;subst Qu;have hkN:out.length<=N:=Wj.out.2.1;obtain⟨ck,fk⟩:=Wu.cell;by_cases rT:¬(out.length<N)\/rk.2=true
   ·have HD:Hid (uR N size r1=(out,rk)):=Wj.out.done (rT.imp (fun h=>by omega) id)
    have UK:out.length<=4096:=by
     rw[HP.out,HD.out]at Gh;exact Gh.2
    obtain⟨ro,rc,rfl,Bz,-⟩:=bD.form;have jW:=zM (ca:=rc) Bz rfl KC.out (by omega);have hsb:=Dy KC.out;have HW:Hid (gY wr w.heap.size (Z ro out.length rc) out/\lV wr g S rk/\Og w wr g):=⟨bD,Wu,kP⟩;clear Bz bD Wu kP Wj;by_cases h5:5000<sz out
    ·have HB:Hid (eT (5000<sz out) rk=(rk.1,true)):=(by show _=_;unfold eT;rw[Aad h5]);by_cases Jv:out.length<N
     ·have Ql:rk.2=true:=rT.resolve_left (fun h=>h Jv);have Qm:(out.length:Int)<(N:Int):=(by omega);have tX:decide (out.length<N)=true:=AaH Jv;rw[Ql]at ck;clear rT;go_wp2_with fail;refine jW.mono ?_;rintro e w9 ⟨rfl,rfl⟩;clear jW;go_wp2_with fail;go_ret;rw[HP.out,HD.out];simp only;rw[HB.out];exact⟨_,rfl,HW.out.1.og (Og.refl _ g).set Fu,HW.out.2.1.bad,HW.out.2.2.set⟩
     ·have Qm:¬(out.length:Int)<(N:Int):=(by omega);have tX:decide (out.length<N)=false:=AaN Jv;clear rT;go_wp2_with fail;refine jW.mono ?_;rintro e w9 ⟨rfl,rfl⟩;clear jW;go_wp2_with fail;go_ret;rw[HP.out,HD.out];simp only;rw[HB.out];exact⟨_,rfl,HW.out.1.og (Og.refl _ g).set Fu,HW.out.2.1.bad,HW.out.2.2.set⟩
    ·have HB:Hid (eT (5000<sz out) rk=rk):=(by show _=_;unfold eT;rw[Aaa h5]);by_cases Jv:out.length<N
     ·have Ql:rk.2=true:=rT.resolve_left (fun h=>h Jv);have Qm:(out.length:Int)<(N:Int):=(by omega);have tX:decide (out.length<N)=true:=AaH Jv;rw[Ql]at ck;clear rT;go_wp2_with fail;refine jW.mono ?_;rintro e w9 ⟨rfl,rfl⟩;clear jW;go_wp2_with fail;go_ret;rw[HP.out,HD.out];simp only;rw[HB.out];exact⟨_,rfl,HW.out.1,HW.out.2.1,HW.out.2.2⟩
     ·have Qm:¬(out.length:Int)<(N:Int):=(by omega);have tX:decide (out.length<N)=false:=AaN Jv;clear rT;go_wp2_with fail;refine jW.mono ?_;rintro e w9 ⟨rfl,rfl⟩;clear jW;go_wp2_with fail;go_ret;rw[HP.out,HD.out];simp only;rw[HB.out];exact⟨_,rfl,HW.out.1,HW.out.2.1,HW.out.2.2⟩
   ·have Jv:out.length<N:=(by omega);have Qm:(out.length:Int)<(N:Int):=(by omega);have tX:decide (out.length<N)=true:=AaH Jv
    have Ql:rk.2=false:=by
     cases e:rk.2 with
     |false=>rfl
     |true=>exact absurd (Aab e) rT
    rw[Ql]at ck
    have hN9:N<=4096:=by
     rcases hNk with h|h
     ·exact h
     ·rw[Ql]at h;cases h
    have ba:=wV rk;have bb:=wV (bG rk).2;have HN:Hid (Py N (out.length+1) size r1 (eT ((bG (bG rk).2).1<1\/5000<(bG (bG rk).2).1\/size<(bG rk).1+(bG (bG rk).2).1) (bG (bG rk).2).2) (out++ [((bG rk).1,(bG (bG rk).2).1)])):=Wj.out.next Jv Ql;clear rT hNk Wj;go_wp2_with fail;refine(iX Wu hS).mono ?_;rintro e w3 ⟨rfl,OI,D_⟩;have yR:=bD.og D_ Fu;have E_:=kP.trans D_;clear Wu bD kP ck fk;go_wp2_with fail;refine(iX OI hS).mono ?_;rintro e w4 ⟨rfl,qU,Ca⟩;have wK:=yR.og Ca Fu;have CQ:=E_.trans Ca;obtain⟨c4,f4⟩:=qU.cell;clear OI yR E_ D_ Ca;generalize (bG (bG rk).2).2=rb at*;generalize (bG (bG rk).2).1=b at*;generalize (bG rk).1=a at*;have hs4z:=CQ.1.1;have HR:Hid (∀p∈out++ [(a,b)],Ip p):=B_ KC.out ba bb;by_cases hP:b<1\/5000<b\/size<a+b
    ·have HB:Hid (eT (b<1\/5000<b\/size<a+b) rb=(rb.1,true)):=(by show _=_;unfold eT;rw[Aad hP]);have dK:gY (w4.setCell ⟨g,2,O⟩ (.bool true)) w.heap.size u6 out:=wK.og (Og.refl w4 g).set Fu;have Ab:=qU.bad;have KD:Og w (w4.setCell ⟨g,2,O⟩ (.bool true)) g:=CQ.set;have hsz5:=KD.1.1;by_cases q1:b<1
     ·clear hP;go_upto_region 12 with fail;clear wK qU CQ c4 f4;generalize w4.setCell ⟨g,2,O⟩ (.bool true)=w5 at*;go_wp2_with (at_builtin;go_must (refine gM (by rfl) (.tmp 50) (.tmp 54) (by rfl) w.heap.size _ out [(a,b)] (by rfl) (by exact Aay dK _) _ _ _ (by rfl) (by rfl) (by intro e;cases e) (by exact zN w5 _ _) (by simp;omega) (by simp;omega) ?_);intro v6 w6 nD vC);go_roundw
      case rel=>exact⟨out.length+1,_,_,by go_num,nD,by rw[HB.out];exact Ab.grown vC (fun j e=>(AaA dK j e).1) Fu,KD.grown vC (fun j e=>(AaA dK j e).1),HN.out,Aac hN9,HR.out⟩
      case measure=>simp[intOf];omega
     ·by_cases q2:5000<b
      ·clear hP;go_upto_region 12 with fail;clear wK qU CQ c4 f4;generalize w4.setCell ⟨g,2,O⟩ (.bool true)=w5 at*;go_wp2_with (at_builtin;go_must (refine gM (by rfl) (.tmp 50) (.tmp 54) (by rfl) w.heap.size _ out [(a,b)] (by rfl) (by exact Aay dK _) _ _ _ (by rfl) (by rfl) (by intro e;cases e) (by exact zN w5 _ _) (by simp;omega) (by simp;omega) ?_);intro v6 w6 nD vC);go_roundw
       case rel=>exact⟨out.length+1,_,_,by go_num,nD,by rw[HB.out];exact Ab.grown vC (fun j e=>(AaA dK j e).1) Fu,KD.grown vC (fun j e=>(AaA dK j e).1),HN.out,Aac hN9,HR.out⟩
       case measure=>simp[intOf];omega
      ·have q3:size<a+b:=(by omega);clear hP;go_upto_region 12 with fail;clear wK qU CQ c4 f4;generalize w4.setCell ⟨g,2,O⟩ (.bool true)=w5 at*;go_wp2_with (at_builtin;go_must (refine gM (by rfl) (.tmp 50) (.tmp 54) (by rfl) w.heap.size _ out [(a,b)] (by rfl) (by exact Aay dK _) _ _ _ (by rfl) (by rfl) (by intro e;cases e) (by exact zN w5 _ _) (by simp;omega) (by simp;omega) ?_);intro v6 w6 nD vC);go_roundw
       case rel=>exact⟨out.length+1,_,_,by go_num,nD,by rw[HB.out];exact Ab.grown vC (fun j e=>(AaA dK j e).1) Fu,KD.grown vC (fun j e=>(AaA dK j e).1),HN.out,Aac hN9,HR.out⟩
       case measure=>simp[intOf];omega
    ·have HB:Hid (eT (b<1\/5000<b\/size<a+b) rb=rb):=(by show _=_;unfold eT;rw[Aaa hP]);have q1:¬b<1:=(by omega);have q2:¬5000<b:=(by omega);have q3:¬size<a+b:=(by omega);clear hP;go_upto_region 12 with fail;go_wp2_with (at_builtin;go_must (refine gM (by rfl) (.tmp 50) (.tmp 54) (by rfl) w.heap.size _ out [(a,b)] (by rfl) (by exact Aay wK _) _ _ _ (by rfl) (by rfl) (by intro e;cases e) (by exact zN w4 _ _) (by simp;omega) (by simp;omega) ?_);intro v6 w6 nD vC);go_roundw
     case rel=>exact⟨out.length+1,_,_,by go_num,nD,by rw[HB.out];exact qU.grown vC (fun j e=>(AaA wK j e).1) Fu,CQ.grown vC (fun j e=>(AaA wK j e).1),HN.out,Aac hN9,HR.out⟩
     case measure=>simp[intOf];omega
def gF (w:F)(raw:List fP)(l:List Ed):Prop:=raw.length=l.length/\∀(i:Nat) (r:fP) (e:Ed),raw[i]?=M r->l[i]?=M e->rP w r e
theorem rP.fr {X:Nat->Prop}{r:fP}(h:rP w r e)(hF:Fr w w' X)(hx:∀b aS,w.heap[b]?=M (C aS 114 (0,0))->¬X b):rP w' r e:=⟨h.1,h.2.1.fr hF hx,h.2.2.fr hF hx⟩
theorem gF.fr {X:Nat->Prop}(h:gF w raw l)(hF:Fr w w' X)(hx:∀b aS,w.heap[b]?=M (C aS 114 (0,0))->¬X b):gF w' raw l:=⟨h.1,fun i r e a b=>(h.2 i r e a b).fr hF hx⟩
theorem Ny (hs:lV w g S r):∀b aS,w.heap[b]?=M (C aS 114 (0,0))->¬b=g:=by
 intro b aS hb e;obtain⟨i,-,-,h3⟩:=hs;subst e;exact bU hb h3 (gH (by decide))
theorem bH.og {x:bS}{l:List (Int×Int)}(h:bH w x l)(hs:lV w g S r)(ho:Og w w' g):bH w' x l:=h.fr ho.1 (Ny hs)
theorem gF.og (h:gF w raw l)(hs:lV w g S r)(ho:Og w w' g):gF w' raw l:=h.fr ho.1 (Ny hs)
theorem F_ (bD:uX w5 B v raw)(hg:(w5.alloc o).grownBy w6 v.ownBlock):Fr w5 w6 (fun b=>v.ownBlock=M b)/\∀b aS,w5.heap[b]?=M (C aS 114 (0,0))->¬(v.ownBlock=M b):=by
 refine⟨⟨by have:=hg.size;simp at this;omega,fun b hb hn=>?_⟩,fun b aS hb e=>qW bD hb (by decide) e⟩;rw[hg.block b (by simp;omega) (fun e=>hn e.symm),Abv w5 o hb]
theorem gF.snoc {r:fP}(h:gF w raw l)(he:rP w r e):gF w (raw++ [r]) (l++ [e]):=by
 obtain⟨h1,h2⟩:=h;refine⟨by simp[h1],fun i r' e' a b=>?_⟩;by_cases hi:i<raw.length
 ·rw[Abt hi]at a;rw[Abt (by omega)]at b;exact h2 i r' e' a b
 ·have hi2:i=raw.length:=by
   have:=(Aae.1 a).1;simp at this;omega
  subst hi2;rw[AaR (Aak _)]at a;rw[AaR (by omega),h1]at b;simp at a b;subst a b;exact he
theorem eP.CR (bD:uX w B v raw)(h:gF w raw l):∃x:bS,v=x.v/\eP w x l:=by
 obtain⟨ao,cap,rfl,hr,hn,hc⟩:=bD.form;exact⟨(ao,raw.length,cap),rfl,raw,hr,rfl,⟨hn,hc⟩,h.1,h.2⟩
theorem uX.og {l:List fP}(h:uX w B v l)(ho:Og w w' g)(hg:g<B):uX w' B v l:=
 bK h ho.1 (fun b aS hb _ e=>by have:=(AaA h b hb).1;omega)
theorem Jh {l:List (Int×Int)}(h:gY w B v l):∃x:bS,v=x.v/\bH w x l:=by
 obtain⟨ao,cap,rfl,hr,hn⟩:=yF.nP h;exact⟨(ao,l.length,cap),rfl,hr,rfl,hn⟩
theorem G_ (h:r.2=false):xP (k+1) size r=(((bG r).1,(dO size (bG r).2).1,(dO size (dO size (bG r).2).2).1)::(xP k size (dO size (dO size (bG r).2).2).2).1,(xP k size (dO size (dO size (bG r).2).2).2).2):=by
 rw[xP,Aaa (by rw[h];simp)]
def Pz (N k:Nat)(size:Int)(r0 rk:Sn)(out:List Ed):Prop:=out.length=k/\k<=N/\xP N size r0=(out++(xP (N-k) size rk).1,(xP (N-k) size rk).2)
theorem Pz.done {out:List Ed}(h:Pz N k size r0 rk out)(hd:N<=k\/rk.2=true):xP N size r0=(out,rk):=by
 obtain⟨h1,h2,h3⟩:=h;rw[h3];rcases hd with hd|hd
 ·rw[show N-k=0 from by omega];simp[xP]
 ·rw[tO _ _ _ hd];simp
theorem Pz.next {out:List Ed}(h:Pz N k size r0 rk out)(hk:k<N)(hb:rk.2=false):
 Pz N (k+1) size r0 (dO size (dO size (bG rk).2).2).2 (out++ [((bG rk).1,(dO size (bG rk).2).1,(dO size (dO size (bG rk).2).2).1)]):=by
 obtain⟨h1,h2,h3⟩:=h;refine⟨by simp[h1],by omega,?_⟩;rw[h3,show N-k=(N-(k+1))+1 from by omega,G_ hb];simp
theorem H_ (w:F)(e:fP):BL (w.alloc (C #[I V e.1,e.2.1.v,e.2.2.v] 302)) (M ⟨w.heap.size,0,O⟩) [e]:=by
 obtain⟨ao,cap,h1,h2,-⟩:=uX.form (TL w (Aak _) e);cases h1
 exact h2
theorem Zp (h:lV w g S r)(hS:S.size<=2000000)(oG:0<=size)(nM:size<4294967296):
 H K 225 #[U (M ⟨g,0,O⟩),I V size] w fun e w'=> ∃x:bS,e=G x.v/\eP w' x (kJ size r).1/\lV w' g S (kJ size r).2/\Og w w' g:=by
 have Fu:=h.lt;have hnb:=wV r;have HP:Hid (kJ size r=xP (bG r).1.toNat size (eT (50<(bG r).1) (bG r).2)):=rfl;have Gh:=(wW size r).2;go_enter func225,ntmps225;go_wp2_with fail;refine(iX h hS).mono ?_;rintro e w1 ⟨rfl,sV,Ct⟩;generalize (bG r).1=n at*;generalize (bG r).2=r1 at*;obtain⟨N,rfl⟩:=AbA hnb.1;rw[Ace]at HP;clear h;by_cases C_:50<(N:Int)
 ·have HR2:Hid (eT (50<(N:Int)) r1=(r1.1,true)):=by show _=_;unfold eT;rw[Aad C_]
  rw[HR2.out]at HP;obtain⟨c1,f1⟩:=sV.cell;go_wp2_with fail;have Mh:=sV.bad;have EX:Og w (w1.setCell ⟨g,2,O⟩ (.bool true)) g:=Ct.set;have hN2:N<=50\/((r1.1,true):Sn).2=true:=Aab rfl;clear sV Ct c1 f1;generalize w1.setCell ⟨g,2,O⟩ (.bool true)=w2 at*
  go_loopw [6,7] (fun v i wr=> ∃(raw:List fP) (out:List Ed) (rk:Sn),i=I V (out.length:Int)/\uX wr w.heap.size v raw/\gF wr raw out/\lV wr g S rk/\Og w wr g/\Hid (Pz N out.length size ((r1.1,true):Sn) rk out)/\(N<=50\/rk.2=true)) (fun _ i _=>N-(intOf i).toNat)
  case atStart=>exact⟨[],[],((r1.1,true):Sn),rfl,AaI _ _ _ _,⟨rfl,fun i r e a=>by simp at a⟩,Mh,EX,⟨rfl,Aap _,by simp⟩,hN2⟩
  case round=>
   obtain⟨raw,out,rk,rfl,bD,Li,Wu,kP,Wj,hNk⟩:=hrel;have hkN:=Wj.out.2.1;have Gz:=Li.1;have HRL:Hid _:=Gz;clear Gz;obtain⟨ck,fk⟩:=Wu.cell;by_cases rT:¬(out.length<N)\/rk.2=true
   ·have HD:Hid _:=Wj.out.done (rT.imp (fun h=>by omega) id)
    have UK:out.length<=50:=by
     rw[HP.out,HD.out]at Gh;exact Gh
    have HW:Hid (uX wr w.heap.size u6 raw/\gF wr raw out/\lV wr g S rk/\Og w wr g):=⟨bD,Li,Wu,kP⟩;clear bD Li Wu kP Wj;by_cases Jv:out.length<N
    ·have Ql:=rT.resolve_left (fun h=>h Jv);have Qm:(out.length:Int)<(N:Int):=(by omega);have tX:=AaH Jv;rw[Ql]at ck;clear rT
     go_wp2
     go_ret;rw[HP.out,HD.out];obtain⟨⟨xo,xl,xc⟩,rfl,hx⟩:=eP.CR HW.out.1 HW.out.2.1
     first|exact⟨xo,xl,xc,rfl,hx,HW.out.2.2.1,HW.out.2.2.2⟩|exact⟨(xo,xl,xc),rfl,hx,HW.out.2.2.1,HW.out.2.2.2⟩
    ·exfalso;omega
   ·have Jv:out.length<N:=(by omega);have Qm:(out.length:Int)<(N:Int):=(by omega);have tX:=AaH Jv
    have Ql:rk.2=false:=by
     cases e:rk.2 with
     |false=>rfl
     |true=>exact absurd (Aab e) rT
    rw[Ql]at ck
    have hN9:N<=50:=by
     rcases hNk with h|h
     ·exact h
     ·rw[Ql]at h;cases h
    exfalso;omega
 ·have HR2:Hid (eT (50<(N:Int)) r1=r1):=by show _=_;unfold eT;rw[Aaa C_]
  rw[HR2.out]at HP;go_wp2_with fail;have Mh:=sV;have EX:=Ct;have hN2:N<=50\/r1.2=true:=Aac (by omega);clear sV Ct
  go_loopw [6,7] (fun v i wr=> ∃(raw:List fP) (out:List Ed) (rk:Sn),i=I V (out.length:Int)/\uX wr w.heap.size v raw/\gF wr raw out/\lV wr g S rk/\Og w wr g/\Hid (Pz N out.length size r1 rk out)/\(N<=50\/rk.2=true)) (fun _ i _=>N-(intOf i).toNat)
  case atStart=>exact⟨[],[],r1,rfl,AaI _ _ _ _,⟨rfl,fun i r e a=>by simp at a⟩,Mh,EX,⟨rfl,Aap _,by simp⟩,hN2⟩
  case round=>
   obtain⟨raw,out,rk,rfl,bD,Li,Wu,kP,Wj,hNk⟩:=hrel;have hkN:=Wj.out.2.1;have Gz:=Li.1;have HRL:Hid _:=Gz;clear Gz;obtain⟨ck,fk⟩:=Wu.cell;by_cases rT:¬(out.length<N)\/rk.2=true
   ·have HD:Hid _:=Wj.out.done (rT.imp (fun h=>by omega) id)
    have UK:out.length<=50:=by
     rw[HP.out,HD.out]at Gh;exact Gh
    have HW:Hid (uX wr w.heap.size u6 raw/\gF wr raw out/\lV wr g S rk/\Og w wr g):=⟨bD,Li,Wu,kP⟩;clear bD Li Wu kP Wj;by_cases Jv:out.length<N
    ·have Ql:=rT.resolve_left (fun h=>h Jv);have Qm:(out.length:Int)<(N:Int):=(by omega);have tX:=AaH Jv;rw[Ql]at ck;clear rT
     go_wp2
     go_ret;rw[HP.out,HD.out];obtain⟨⟨xo,xl,xc⟩,rfl,hx⟩:=eP.CR HW.out.1 HW.out.2.1
     first|exact⟨xo,xl,xc,rfl,hx,HW.out.2.2.1,HW.out.2.2.2⟩|exact⟨(xo,xl,xc),rfl,hx,HW.out.2.2.1,HW.out.2.2.2⟩
    ·have Qm:¬(out.length:Int)<(N:Int):=(by omega);have tX:=AaN Jv;clear rT
     go_wp2
     go_ret;rw[HP.out,HD.out];obtain⟨⟨xo,xl,xc⟩,rfl,hx⟩:=eP.CR HW.out.1 HW.out.2.1
     first|exact⟨xo,xl,xc,rfl,hx,HW.out.2.2.1,HW.out.2.2.2⟩|exact⟨(xo,xl,xc),rfl,hx,HW.out.2.2.1,HW.out.2.2.2⟩
   ·have Jv:out.length<N:=(by omega);have Qm:(out.length:Int)<(N:Int):=(by omega);have tX:=AaH Jv
    have Ql:rk.2=false:=by
     cases e:rk.2 with
     |false=>rfl
     |true=>exact absurd (Aab e) rT
    rw[Ql]at ck
    have hN9:N<=50:=by
     rcases hNk with h|h
     ·exact h
     ·rw[Ql]at h;cases h
    have ba:=wV rk;have HN:Hid _:=Wj.out.next Jv Ql;clear rT hNk Wj;go_wp2_with fail;refine(iX Wu hS).mono ?_;rintro e w3 ⟨rfl,OI,D_⟩;have yR:=bD.og D_ Fu;have I_:=Li.og Wu D_;have E_:=kP.trans D_;clear Wu bD kP ck fk Li D_;go_wp2_with fail;refine(Jg OI hS oG nM).mono ?_;rintro e w4 ⟨vp,rfl,hp4,qU,Ca⟩;obtain⟨xp,rfl,hl4⟩:=Jh hp4;have wK:=yR.og Ca Fu;have J_:=I_.og OI Ca;have CQ:=E_.trans Ca;clear OI yR E_ I_ Ca;go_wp2_with fail;refine(Jg qU hS oG nM).mono ?_;rintro e w5 ⟨vq,rfl,hq5,Ab,UY⟩;obtain⟨xq,rfl,wu⟩:=Jh hq5;have dK:=wK.og UY Fu;have K_:=J_.og qU UY;have hp5:=hl4.og qU UY;have KD:=CQ.trans UY;clear qU wK CQ J_ UY hp4 hl4;have hlr:raw.length<=50:=(by rw[HRL.out];omega);have HEd:Hid (rP w5 ((bG rk).1,xp,xq) ((bG rk).1,(dO size (bG rk).2).1,(dO size (dO size (bG rk).2).2).1)):=⟨rfl,hp5,wu⟩;have HWW:Hid (gF w5 raw out/\lV w5 g S (dO size (dO size (bG rk).2).2).2/\Og w w5 g):=⟨K_,Ab,KD⟩;have hsz5:=KD.1.1;clear hp5 hq5 wu K_ Ab KD;generalize (dO size (dO size (bG rk).2).2).2=re at*;generalize (dO size (dO size (bG rk).2).2).1=lq at*;generalize (dO size (bG rk).2).1=lp at*;generalize (bG rk).1=a at*;obtain⟨po,pl,pc⟩:=xp;obtain⟨qo,ql,qc⟩:=xq;simp only[bS.v];go_wp2_with (at_builtin;go_must (refine Bv (by rfl) (.tmp 38) (.tmp 43) (by rfl) w.heap.size _ raw [(a,(po,pl,pc),(qo,ql,qc))] (by rfl) (by exact Aay dK _) _ _ _ (by rfl) (by rfl) (by intro e;cases e) (by exact H_ w5 _) (by simp;omega) (by simp;omega) ?_);intro v6 w6 nD vC);go_roundw
    case rel=>
     obtain⟨g1,g2⟩:=F_ dK vC;refine⟨_,_,re,by simp,nD,(HWW.out.1.fr g1 g2).snoc (HEd.out.fr g1 g2),HWW.out.2.1.grown vC (fun j e=>(AaA dK j e).1) Fu,HWW.out.2.2.grown vC (fun j e=>(AaA dK j e).1),?_,Aac hN9⟩;have:=HN.out;show Pz _ _ _ _ _ _;rw[Aah];exact this
    case measure=>simp[intOf];omega
def Cb (e:Ed):Ed:=(e.1,e.2.2,e.2.1)
theorem Lj {l:List fP}:∀ {k:Nat} {r:fP},l[k]?=M r->(Kg l)[k*3]?=M (I V r.1)/\(Kg l)[k*3+1]?=M r.2.1.v/\(Kg l)[k*3+2]?=M r.2.2.v:=by
 induction l with
 |nil=>intro k r h;simp at h
 |cons e l ih=>
  intro k r h;cases k with
  |zero=>simp at h;subst h;rw[wM];simp
  |succ k=>
   simp at h;obtain⟨h1,h2,h3⟩:=ih h;rw[wM];refine⟨?_,?_,?_⟩
   ·rw[AaR (by simp;omega)];simp only[Aao,AcC];rw[show(k+1)*3-(0+1+1+1)=k*3 from by omega];exact h1
   ·rw[AaR (by simp;omega)];simp only[Aao,AcC];rw[show(k+1)*3+1-(0+1+1+1)=k*3+1 from by omega];exact h2
   ·rw[AaR (by simp;omega)];simp only[Aao,AcC];rw[show(k+1)*3+2-(0+1+1+1)=k*3+2 from by omega];exact h3
theorem dR.nth {xo:Option Addr}{xn xc:Nat}(h:dR w (xo,xn,xc) l)(hk:l[k]?=M e):∃(b off:Nat) (r:fP),xo=M ⟨b,off,O⟩/\w.cell? ⟨b,off+k*3,O⟩=M (I V r.1)/\w.cell? ⟨b,off+k*3+1,O⟩=M r.2.1.v/\w.cell? ⟨b,off+k*3+2,O⟩=M r.2.2.v/\rP w r e:=by
 obtain⟨raw,h1,h2,h3,h4,h5⟩:=h;have bP:k<raw.length:=by rw[h4];exact(Aae.1 hk).1
 obtain⟨r,hr⟩:∃r,raw[k]?=M r:=⟨_,Aag bP⟩;rcases h1.1 with hx|⟨b,off,hx,hc⟩
 ·rw[hx]at bP;simp at bP
 ·refine⟨b,off,r,hx,?_,?_,?_,h5 k r e hr hk⟩
  ·have:=hc (k*3) _ (Lj hr).1;exact this
  ·exact hc (k*3+1) _ (Lj hr).2.1
  ·exact hc (k*3+2) _ (Lj hr).2.2
def pY (n:Int):List Ed->Bool
 | []=>true
 |e::l=>if e.1<0\/n-sz e.2.1<e.1 then false else if 5000<n+(sz e.2.2-sz e.2.1)then false else pY (n+(sz e.2.2-sz e.2.1)) l
def Dz (r:fP):fP:=(r.1,r.2.2,r.2.1)
theorem dR.nP (bD:vI w B v raw)(h:gF w raw l):∃x1 x2 x3,v=Z x1 x2 x3/\dR w (x1,x2,x3) l:=by
 obtain⟨ao,cap,rfl,hr,hn,hc⟩:=bD.form;exact⟨ao,raw.length,cap,rfl,raw,hr,rfl,⟨hn,hc⟩,h.1,h.2⟩
theorem Zq (w:F)(e:fP):FH (w.alloc (C #[I V e.1,e.2.1.v,e.2.2.v] 261)) (M ⟨w.heap.size,0,O⟩) [e]:=by
 obtain⟨ao,cap,h1,h2,-⟩:=vI.form (JU w (Aak _) e);cases h1
 exact h2
theorem KE {wr:F}{t:TypeId}{n:Nat}{cs:List Y}(hG:aL w wr)(hB:w.heap.size<=B)(bD:wr.ownsRow B t n v k cs)(hg:(wr.alloc o).grownBy w5 v.ownBlock):aL w w5:=by
 have h1:=lM hg;refine⟨h1.os.trans hG.os,h1.tape.trans hG.tape,h1.output.trans hG.output,Aam hG.size h1.size,fun k hk=>?_⟩;rw[<-hG.block k hk];refine h1.block k (AaC hk hG.size) (fun e=>?_);have:=(AaA bD k e.symm).1;omega
theorem QK {x:bS}(h:dR w x l)(hl:l.length<=1000000):
 H K 189 #[x.v] w fun e w'=> ∃y1 y2 y3,e=G (Z y1 y2 y3)/\dR w' (y1,y2,y3) (l.map Cb)/\aL w w':=by
 obtain⟨xo,xn,xc⟩:=x;obtain⟨raw,h1,h2,h3,h4,h5⟩:=h;simp only at h1 h2 h3;have Gz:raw.length<=1000000:=by omega
 have HE:Hid (∀W,aL w W->gF W (raw.map Dz) (l.map Cb)):=fun W hW=>⟨by simp[h4],fun i r e a b=>by
  rw[Abk]at a b;obtain⟨r0,Jt,rfl⟩:=AbP.1 a;obtain⟨e0,yD,rfl⟩:=AbP.1 b;have:=(h5 i r0 e0 Jt yD).aN hW;exact⟨this.1,this.2.2,this.2.1⟩⟩
 subst h2
 have HR:Hid (∀(k:Nat) (r:fP),raw[k]?=M r->∃b off,xo=M ⟨b,off,O⟩/\w.cell? ⟨b,off+k*3,O⟩=M (I V r.1)/\w.cell? ⟨b,off+k*3+1,O⟩=M r.2.1.v/\w.cell? ⟨b,off+k*3+2,O⟩=M r.2.2.v):=fun k r hr=>by
  rcases h1.1 with hx|⟨b,off,hx,hc⟩
  ·rw[hx]at hr;simp at hr
  ·obtain⟨e1,e2,e3⟩:=Lj hr;exact⟨b,off,hx,hc _ _ e1,hc _ _ e2,hc _ _ e3⟩
 have HT:Hid (∀W (p:Int) (x y:bS),H K 235 #[.agg #[I V p,x.v,y.v]] W fun v w'=>v=G (.agg #[I V p,y.v,x.v])/\aL W w'):=fun W p x y=>Nr;simp only[bS.v];clear h1 h3 h4 h5;obtain⟨i0,hi,oG,nM,oP⟩:=AaW Tryz.infoEdD;go_enter func189,ntmps189;go_upto_region 2 with(at_make;refine Adw _ rfl _ _ 103 rfl w.heap.size 261 i0 _ 3 underlying103 hi oG nM _ _ _ raw.length rfl rfl (by omega) (by rw[oP];omega) (by unfold maxLen;omega) (Aak _) ?_;intro w0 wZ lN);have UO:Hid (aL w w0):=⟨lN.os,lN.tape,lN.output,lN.size,fun k hk=>lN.block k hk (by simp)⟩;have HO0:Hid (vI w0 w.heap.size (Z (M ⟨w.heap.size,0,O⟩) 0 raw.length) []):=wZ;clear wZ lN;go_wp2_with fail
 go_loopw [3,5,11] (fun v _ i wr=> ∃k:Nat,k<=raw.length/\i=I V (k:Int)/\Hid (vI wr w.heap.size v ((raw.take k).map Dz))/\Hid (aL w wr)) (fun _ _ i _=>raw.length-(intOf i).toNat)
 case atStart=>exact⟨0,Aap _,rfl,by simpa using HO0,UO⟩
 case round=>
  obtain⟨k,hk,rfl,HO,HG⟩:=hrel;by_cases bP:k<raw.length
  ·obtain⟨r,hr⟩:∃r,raw[k]?=M r:=⟨_,Aag bP⟩;obtain⟨b,off,rfl,d1,d2,d3⟩:=HR.out k r hr;have d1:=HG.out.cell d1;have d2:=HG.out.cell d2;have d3:=HG.out.cell d3;have i1:(0:Int)<=(k:Int):=(by omega);have i2:(k:Int)<(raw.length:Int):=by omega
   have HN:Hid ((raw.take (k+1)).map Dz=(raw.take k).map Dz++ [Dz r]):=by
    show _=_;obtain⟨Rh,he⟩:=Aae.1 hr;rw[Aau Rh,Abb,he];rfl
   obtain⟨nI,kX,ev,-⟩:=vI.form HO.out;rw[show((raw.take k).map Dz).length=k from by simp;omega]at ev;subst ev;have Ow:((raw.take k).map Dz).length<=1000000:=(by simp;omega);obtain⟨r1,⟨x1,x2,x3⟩,⟨y1,y2,y3⟩⟩:=r;simp only[bS.v]at d2 d3;have HT2:=HT.out (wr.alloc (C #[I V r1,Z x1 x2 x3,Z y1 y2 y3] 261)) r1 (x1,x2,x3) (y1,y2,y3);simp only[bS.v]at HT2
   have HK:Hid (∀w4,aL (wr.alloc (C #[I V r1,Z x1 x2 x3,Z y1 y2 y3] 261)) w4->vI (w4.alloc (C #[I V r1,Z y1 y2 y3,Z x1 x2 x3] 261)) w.heap.size (Z nI k kX) ((raw.take k).map Dz)/\aL w w4/\vI w4 w.heap.size (Z nI k kX) ((raw.take k).map Dz)):=fun w4 h4=>by
    have hg:=((aL.refl wr).alloc _).then h4;have ho:vI w4 w.heap.size (Z nI k kX) ((raw.take k).map Dz):=bK HO.out (Fr.cZ hg (fun _=>False)) (fun _ _ _ _ h=>h);exact⟨Aay ho _,HG.out.then hg,ho⟩
   clear hr HO HT;go_upto_region 5 with fail;obtain⟨q0,q1,q2,-⟩:=iM (Aaf wr (C #[I V r1,Z x1 x2 x3,Z y1 y2 y3] 261));generalize (wr.alloc (C #[I V r1,Z x1 x2 x3,Z y1 y2 y3] 261))=wq at*
   go_wp2_with (first
    |(go_at_call 235;refine HT2.mono ?_;rintro e w4 ⟨rfl,nO⟩;obtain⟨k1,k2,k3⟩:=HK.out w4 nO;have hk4:=k2.le)
    |(at_builtin;go_must (refine yK (by rfl) (.tmp 15) (.tmp 18) (by rfl) w.heap.size _ ((raw.take k).map Dz) [(r1,(y1,y2,y3),(x1,x2,x3))] (by rfl) (by exact k1) _ _ _ (by rfl) (by rfl) (by intro e;cases e) (by exact Zq w4 (r1,(y1,y2,y3),(x1,x2,x3))) (by simp only[Abg];omega) (by simp;omega) ?_);intro v5 w5 dK eO))
   have sP:aL w w5:=KE k2 (Aak _) k3 eO;go_roundw
   case rel=>exact⟨k+1,by omega,by go_num,by show vI _ _ _ _;rw[HN.out];exact dK,sP⟩
   case measure=>simp[intOf];omega
  ·obtain⟨nI,kX,ev,-⟩:=vI.form HO.out;subst ev;have e1:raw.take k=raw:=Aaq (by omega);go_wp2_with fail;go_ret;have ho:=HO.out;rw[e1]at ho;obtain⟨z1,z2,z3,he,hE⟩:=dR.nP ho (HE.out _ HG.out);cases he
   first|exact⟨_,_,_,rfl,hE,HG.out⟩|(rw[e1];exact⟨_,_,_,rfl,hE,HG.out⟩)
theorem Rn:∀ {n:Int},(∀e∈l,0<=e.1)->pY n l=lU (l.map pE) n:=by
 induction l with
 |nil=>intro n _;rfl
 |cons e l ih=>
  intro n h;have h0:=h e (by simp);rw[AaK,pE,lU,pY];by_cases h1:n<e.1+sz e.2.1
  ·rw[Aad h1,Aad (by omega)]
  ·rw[Aaa h1,Aaa (by omega)];have e2:n+(sz e.2.2-sz e.2.1)=n-sz e.2.1+sz e.2.2:=(by omega);rw[e2,ih (fun e' Im=>h e' (by simp[Im]))]
end Go.Proofs.YtfplgfodoiiobaaGreatDoor
