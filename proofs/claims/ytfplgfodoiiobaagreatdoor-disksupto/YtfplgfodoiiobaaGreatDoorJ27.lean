/- RfB, RfC, DrO (joined). -/
import Derived.Test.YtfplgfodoiiobaaGreatDoorJ26
open Option renaming none→O,some→M
open Go.Value renaming int→I,slice→Z,pointer→U
open Go.IntKind renaming i64→V
open Go.Obj renaming cells→C
open Go.Ending renaming returned→G
open Go renaming World→F,Value→Y,Calls→H
open Go.Proofs.Tryz renaming prog→K
namespace Go.Proofs.YtfplgfodoiiobaaGreatDoor
set_option maxHeartbeats 4000000
set_option maxRecDepth 100000
open Go.RowKit
variable {w w' w5 w6:F}{g B k N:Nat}{r r0 rk:Sn}{S:ByteArray}{size:Int}{l:List Ed}{v:Y}{raw:List gH}{o:Obj}{e:Ed}
theorem Cq {l:List (Int×Int)}(h:∀p∈l,Ga p):0<=sz l/\sz l<=(l.length:Int)*4294967296:=by
 induction l with
 |nil=>simp[sz]
 |cons p l ih=>
  obtain⟨a,b⟩:=ih (fun q hq=>h q (by simp[hq]));obtain⟨_,_,c,d⟩:=h p (by simp);simp only[sz,List.length_cons];omega
theorem FY {l:List (Int×Int)}(h:∀p∈l,Ga p)(hlen:l.length<=9000)(k:Nat):0<=sz (l.take k)/\sz (l.take k)<=38654705664000:=by
 obtain⟨a,b⟩:=Cq (l:=l.take k) (fun p hp=>h p (List.mem_of_mem_take hp));have h2:(l.take k).length<=9000:=by rw[List.length_take];omega
 omega
theorem yY {ao:Option Addr}{la ca:Nat}{l:List (Int×Int)}(hr:Ec w ao l)(e1:la=l.length)(ok:∀p∈l,Ga p)(hlen:l.length<=9000):
 H K 106 #[Z ao la ca] w fun e w'=>e=G (I V (sz l))/\w'=w:=by
 subst e1;go_enter Tryz.func106,Tryz.ntmps106
 go_wp2_with fail
 go_loop [3,4] (fun n i=> ∃k:Nat,k<=l.length/\i=I V (k:Int)/\n=I V (sz (l.take k))) (fun _ i=>l.length-(intOf i).toNat)
 case atStart=>exact⟨0,Nat.zero_le _,rfl,rfl⟩
 case round=>
  obtain⟨k,hk,rfl,rfl⟩:=hrel;have hb:=FY ok hlen k;by_cases bT:k<l.length
  ·obtain⟨b,off,rfl,c1,c2⟩:=hr.at bT;have YX:Ga (l.getD k (0,0)):=ok _ (by simp[bT]);have HS:Hid (sz (l.take (k+1))=sz (l.take k)+(l.getD k (0,0)).2):=Yt bT;generalize l.getD k (0,0)=p at c1 c2 YX HS;obtain⟨px,py⟩:=p;simp only at c1 c2 HS;unfold Ga at YX;simp only at YX;have i1:(0:Int)<=(k:Int):=by omega
   have i2:(k:Int)<(l.length:Int):=by omega
   clear hr
   go_wp2_with fail
   go_round
   case rel=>exact⟨k+1,by omega,by go_num,by rw[HS.out]⟩
   case measure=>simp[intOf];omega
  ·go_wp2_with fail
   go_ret;exact⟨by rw[List.take_of_length_le (by omega)];rfl,rfl⟩
theorem gY.og {l:List (Int×Int)}(h:gY w B v l)(ho:Og w w' g)(hg:g<B):gY w' B v l:=
 bI h ho.1 (fun b aS hb _ e=>by have:=(World.ownsRow.lt h b hb).1;omega)
theorem lC.lt (h:lC w g S r):g<w.heap.size:=by
 obtain⟨i,h1,h2,h3⟩:=h;exact aM h3
theorem lC.cell (h:lC w g S r):w.cell? ⟨g,2,O⟩=M (.bool r.2)/\w.frozen? ⟨g,2,O⟩=false:=by
 obtain⟨i,h1,h2,h3⟩:=h;obtain⟨-,-,c,d⟩:=Gf h3;exact⟨c,d 2⟩
theorem qd (h:r.2=false):tV (k+1) size r=(((bG r).1,(bG (bG r).2).1)::(tV k size (eP ((bG (bG r).2).1<1\/5000<(bG (bG r).2).1\/size<(bG r).1+(bG (bG r).2).1) (bG (bG r).2).2)).1,(tV k size (eP ((bG (bG r).2).1<1\/5000<(bG (bG r).2).1\/size<(bG r).1+(bG (bG r).2).1) (bG (bG r).2).2)).2):=by
 rw[tV,if_neg (by rw[h];simp)]
def Nu (N k:Nat)(size:Int)(r0 rk:Sn)(out:List (Int×Int)):Prop:=out.length=k/\k<=N/\tV N size r0=(out++(tV (N-k) size rk).1,(tV (N-k) size rk).2)
theorem Nu.done {out:List (Int×Int)}(h:Nu N k size r0 rk out)(hd:N<=k\/rk.2=true):tV N size r0=(out,rk):=by
 obtain⟨h1,h2,h3⟩:=h;rw[h3];rcases hd with hd|hd
 ·rw[show N-k=0 from by omega];simp[tV]
 ·rw[yO _ _ _ hd];simp
theorem Nu.next {out:List (Int×Int)}(h:Nu N k size r0 rk out)(hk:k<N)(hb:rk.2=false):
 Nu N (k+1) size r0 (eP ((bG (bG rk).2).1<1\/5000<(bG (bG rk).2).1\/size<(bG rk).1+(bG (bG rk).2).1) (bG (bG rk).2).2) (out++ [((bG rk).1,(bG (bG rk).2).1)]):=by
 obtain⟨h1,h2,h3⟩:=h;refine⟨by simp[h1],by omega,?_⟩;rw[h3,show N-k=(N-(k+1))+1 from by omega,qd hb];simp
theorem Og.grown {row:Option Nat}(h:Og w w5 g)(hg:(w5.alloc o).grownBy w6 row)(hr:∀k,row=M k->w.heap.size<=k):Og w w6 g:=by
 obtain⟨⟨a1,a2⟩,b1,b2,b3⟩:=h;refine⟨⟨?_,fun b hb hn=>?_⟩,hg.os.trans b1,hg.tape.trans b2,hg.output.trans b3⟩
 ·have:=hg.size;simp at this;omega
 ·rw[hg.block b (by simp;omega) (fun e=>by have:=hr b e.symm;omega),heap_alloc_old w5 o (r:=b) (by omega)];exact a2 b hb hn
theorem lC.grown {row:Option Nat}(h:lC w5 g S r)(hg:(w5.alloc o).grownBy w6 row)(hr:∀k,row=M k->B<=k)(hB:g<B):lC w6 g S r:=by
 obtain⟨i,h1,h2,h3⟩:=h;have hl:=aM h3;refine⟨i,h1,h2,?_⟩;rw[hg.block g (by simp;omega) (fun e=>by have:=hr g e.symm;omega),heap_alloc_old w5 o hl];exact h3
theorem yZ (w:F)(a b:Int):Ec (w.alloc (C #[I V a,I V b] 114)) (M ⟨w.heap.size,0,O⟩) [(a,b)]:=by
 refine Or.inr ⟨_,0,rfl,fun i hi=>?_⟩;have:i=0:=by simpa using hi
 subst this;simp
theorem qf {l:List (Int×Int)}{a b:Int}(h:∀p∈l,Ga p)(ha:0<=a/\a<4294967296)(hb:0<=b/\b<4294967296):∀p∈l++ [(a,b)],Ga p:=by
 intro p hp;simp only[List.mem_append,List.mem_singleton]at hp;rcases hp with hp|rfl
 ·exact h p hp
 ·exact⟨ha.1,ha.2,hb.1,hb.2⟩
theorem Gq (h:lC w g S r)(hS:S.size<=2000000)(nN:0<=size)(nO:size<4294967296):
 H K 224 #[U (M ⟨g,0,O⟩),I V size] w fun e w'=> ∃v,e=G v/\gY w' w.heap.size v (dG size r).1/\lC w' g S (dG size r).2/\Og w w' g:=by
 have Bp:=h.lt;have LV:=wM r;have HP:Hid (dG size r=((tV (bG r).1.toNat size (eP (4096<(bG r).1) (bG r).2)).1,eP (5000<sz (tV (bG r).1.toNat size (eP (4096<(bG r).1) (bG r).2)).1) (tV (bG r).1.toNat size (eP (4096<(bG r).1) (bG r).2)).2)):=rfl;have Gc:=xP size r;go_enter Tryz.func224,Tryz.ntmps224
 go_wp2_with fail
 refine(iR h hS).mono ?_;rintro e w1 ⟨rfl,tK,Fe⟩;generalize (bG r).1=n at*;generalize (bG r).2=r1 at*;obtain⟨N,rfl⟩:=Int.eq_ofNat_of_zero_le LV.1;rw[Int.toNat_natCast]at HP;clear h;by_cases qg:4096<(N:Int)
 ·have HR2:Hid (eP (4096<(N:Int)) r1=(r1.1,true)):=by show _=_;unfold eP;rw[if_pos qg]
  rw[HR2.out]at HP;obtain⟨c1,f1⟩:=tK.cell
  go_wp2_with fail
  have Kz:=tK.bad;have TJ:Og w (w1.setCell ⟨g,2,O⟩ (.bool true)) g:=Fe.set;have H_:N<=4096\/((r1.1,true):Sn).2=true:=Or.inr rfl;clear tK Fe c1 f1;generalize w1.setCell ⟨g,2,O⟩ (.bool true)=w2 at*
  go_loopw [6,7] (fun v i wr=> ∃(k:Nat) (out:List (Int×Int)) (rk:Sn),i=I V (k:Int)/\gY wr w.heap.size v out/\lC wr g S rk/\Og w wr g/\Hid (Nu N k size ((r1.1,true):Sn) rk out)/\(N<=4096\/rk.2=true)/\Hid (∀p∈out,Ga p)) (fun _ i _=>N-(intOf i).toNat)
  case atStart=>exact⟨0,[],((r1.1,true):Sn),rfl,World.ownsRow_nil _ _ _ _,Kz,TJ,⟨rfl,Nat.zero_le _,by simp⟩,H_,fun p hp=>by simp at hp⟩
  case round=>
   obtain⟨k,out,rk,rfl,bA,Vd,kI,Ur,hNk,FZ⟩:=hrel;have Wi:out.length=k:=Ur.out.1;subst Wi;have hkN:out.length<=N:=Ur.out.2.1;obtain⟨ck,fk⟩:=Vd.cell;by_cases qX:¬(out.length<N)\/rk.2=true
   ·have HD:Hid (tV N size ((r1.1,true):Sn)=(out,rk)):=Ur.out.done (qX.imp (fun h=>by omega) id)
    have QY:out.length<=4096:=by
     rw[HP.out,HD.out]at Gc;exact Gc.2
    obtain⟨ro,rc,rfl,yR,-⟩:=bA.form;have jT:=yY (ca:=rc) yR rfl FZ.out (by omega);have hsb:=Cq FZ.out;have HW:Hid (gY wr w.heap.size (Z ro out.length rc) out/\lC wr g S rk/\Og w wr g):=⟨bA,Vd,kI⟩;clear yR bA Vd kI Ur;by_cases h5:5000<sz out
    ·have HB:Hid (eP (5000<sz out) rk=(rk.1,true)):=by show _=_;unfold eP;rw[if_pos h5]
     by_cases Hr:out.length<N
     ·have Ot:rk.2=true:=qX.resolve_left (fun h=>h Hr);have Ou:(out.length:Int)<(N:Int):=by omega
      have tF:decide (out.length<N)=true:=decide_eq_true Hr;rw[Ot]at ck;clear qX
      go_wp2_with fail
      refine jT.mono ?_;rintro e w9 ⟨rfl,rfl⟩;clear jT
      go_wp2_with fail
      go_ret;rw[HP.out,HD.out];simp only;rw[HB.out];exact⟨_,rfl,HW.out.1.og (Og.refl _ g).set Bp,HW.out.2.1.bad,HW.out.2.2.set⟩
     ·exfalso;omega
    ·have HB:Hid (eP (5000<sz out) rk=rk):=by show _=_;unfold eP;rw[if_neg h5]
     by_cases Hr:out.length<N
     ·have Ot:rk.2=true:=qX.resolve_left (fun h=>h Hr);have Ou:(out.length:Int)<(N:Int):=by omega
      have tF:decide (out.length<N)=true:=decide_eq_true Hr;rw[Ot]at ck;clear qX
      go_wp2_with fail
      refine jT.mono ?_;rintro e w9 ⟨rfl,rfl⟩;clear jT
      go_wp2_with fail
      go_ret;rw[HP.out,HD.out];simp only;rw[HB.out];exact⟨_,rfl,HW.out.1,HW.out.2.1,HW.out.2.2⟩
     ·exfalso;omega
   ·have Hr:out.length<N:=by omega
    have Ou:(out.length:Int)<(N:Int):=by omega
    have tF:decide (out.length<N)=true:=decide_eq_true Hr
    have Ot:rk.2=false:=by
     cases e:rk.2 with
     |false=>rfl
     |true=>exact absurd (Or.inr e) qX
    rw[Ot]at ck
    have hN9:N<=4096:=by
     rcases hNk with h|h
     ·exact h
     ·rw[Ot]at h;cases h
    exfalso;omega
 ·have HR2:Hid (eP (4096<(N:Int)) r1=r1):=by show _=_;unfold eP;rw[if_neg qg]
  rw[HR2.out]at HP
  go_wp2_with fail
  have Kz:=tK;have TJ:=Fe;have H_:N<=4096\/r1.2=true:=Or.inl (by omega);clear tK Fe
  go_loopw [6,7] (fun v i wr=> ∃(k:Nat) (out:List (Int×Int)) (rk:Sn),i=I V (k:Int)/\gY wr w.heap.size v out/\lC wr g S rk/\Og w wr g/\Hid (Nu N k size r1 rk out)/\(N<=4096\/rk.2=true)/\Hid (∀p∈out,Ga p)) (fun _ i _=>N-(intOf i).toNat)
  case atStart=>exact⟨0,[],r1,rfl,World.ownsRow_nil _ _ _ _,Kz,TJ,⟨rfl,Nat.zero_le _,by simp⟩,H_,fun p hp=>by simp at hp⟩
  case round=>
   obtain⟨k,out,rk,rfl,bA,Vd,kI,Ur,hNk,FZ⟩:=hrel;have Wi:out.length=k:=Ur.out.1;subst Wi;have hkN:out.length<=N:=Ur.out.2.1;obtain⟨ck,fk⟩:=Vd.cell;by_cases qX:¬(out.length<N)\/rk.2=true
   ·have HD:Hid (tV N size r1=(out,rk)):=Ur.out.done (qX.imp (fun h=>by omega) id)
    have QY:out.length<=4096:=by
     rw[HP.out,HD.out]at Gc;exact Gc.2
    obtain⟨ro,rc,rfl,yR,-⟩:=bA.form;have jT:=yY (ca:=rc) yR rfl FZ.out (by omega);have hsb:=Cq FZ.out;have HW:Hid (gY wr w.heap.size (Z ro out.length rc) out/\lC wr g S rk/\Og w wr g):=⟨bA,Vd,kI⟩;clear yR bA Vd kI Ur;by_cases h5:5000<sz out
    ·have HB:Hid (eP (5000<sz out) rk=(rk.1,true)):=by show _=_;unfold eP;rw[if_pos h5]
     by_cases Hr:out.length<N
     ·have Ot:rk.2=true:=qX.resolve_left (fun h=>h Hr);have Ou:(out.length:Int)<(N:Int):=by omega
      have tF:decide (out.length<N)=true:=decide_eq_true Hr;rw[Ot]at ck;clear qX
      go_wp2_with fail
      refine jT.mono ?_;rintro e w9 ⟨rfl,rfl⟩;clear jT
      go_wp2_with fail
      go_ret;rw[HP.out,HD.out];simp only;rw[HB.out];exact⟨_,rfl,HW.out.1.og (Og.refl _ g).set Bp,HW.out.2.1.bad,HW.out.2.2.set⟩
     ·have Ou:¬(out.length:Int)<(N:Int):=by omega
      have tF:decide (out.length<N)=false:=decide_eq_false Hr;clear qX
      go_wp2_with fail
      refine jT.mono ?_;rintro e w9 ⟨rfl,rfl⟩;clear jT
      go_wp2_with fail
      go_ret;rw[HP.out,HD.out];simp only;rw[HB.out];exact⟨_,rfl,HW.out.1.og (Og.refl _ g).set Bp,HW.out.2.1.bad,HW.out.2.2.set⟩
    ·have HB:Hid (eP (5000<sz out) rk=rk):=by show _=_;unfold eP;rw[if_neg h5]
     by_cases Hr:out.length<N
     ·have Ot:rk.2=true:=qX.resolve_left (fun h=>h Hr);have Ou:(out.length:Int)<(N:Int):=by omega
      have tF:decide (out.length<N)=true:=decide_eq_true Hr;rw[Ot]at ck;clear qX
      go_wp2_with fail
      refine jT.mono ?_;rintro e w9 ⟨rfl,rfl⟩;clear jT
      go_wp2_with fail
      go_ret;rw[HP.out,HD.out];simp only;rw[HB.out];exact⟨_,rfl,HW.out.1,HW.out.2.1,HW.out.2.2⟩
     ·have Ou:¬(out.length:Int)<(N:Int):=by omega
      have tF:decide (out.length<N)=false:=decide_eq_false Hr;clear qX
      go_wp2_with fail
      refine jT.mono ?_;rintro e w9 ⟨rfl,rfl⟩;clear jT
      go_wp2_with fail
      go_ret;rw[HP.out,HD.out];simp only;rw[HB.out];exact⟨_,rfl,HW.out.1,HW.out.2.1,HW.out.2.2⟩
   ·have Hr:out.length<N:=by omega
    have Ou:(out.length:Int)<(N:Int):=by omega
    have tF:decide (out.length<N)=true:=decide_eq_true Hr
    have Ot:rk.2=false:=by
     cases e:rk.2 with
     |false=>rfl
     |true=>exact absurd (Or.inr e) qX
    rw[Ot]at ck
    have hN9:N<=4096:=by
     rcases hNk with h|h
     ·exact h
     ·rw[Ot]at h;cases h
    have ba:=wM rk;have bb:=wM (bG rk).2;have HN:Hid (Nu N (out.length+1) size r1 (eP ((bG (bG rk).2).1<1\/5000<(bG (bG rk).2).1\/size<(bG rk).1+(bG (bG rk).2).1) (bG (bG rk).2).2) (out++ [((bG rk).1,(bG (bG rk).2).1)])):=Ur.out.next Hr Ot;clear qX hNk Ur
    go_wp2_with fail
    refine(iR Vd hS).mono ?_;rintro e w3 ⟨rfl,LH,qh⟩;have yJ:=bA.og qh Bp;have qi:=kI.trans qh;clear Vd bA kI ck fk
    go_wp2_with fail
    refine(iR LH hS).mono ?_;rintro e w4 ⟨rfl,Am,Bb⟩;have vU:=yJ.og Bb Bp;have Zn:=qi.trans Bb;obtain⟨c4,f4⟩:=Am.cell;clear LH yJ qi qh Bb;generalize (bG (bG rk).2).2=rb at*;generalize (bG (bG rk).2).1=b at*;generalize (bG rk).1=a at*;have hs4z:=Zn.1.1;have HR:Hid (∀p∈out++ [(a,b)],Ga p):=qf FZ.out ba bb;by_cases hP:b<1\/5000<b\/size<a+b
    ·have HB:Hid (eP (b<1\/5000<b\/size<a+b) rb=(rb.1,true)):=by show _=_;unfold eP;rw[if_pos hP]
     have cO:gY (w4.setCell ⟨g,2,O⟩ (.bool true)) w.heap.size u6 out:=vU.og (Og.refl w4 g).set Bp;have Na:=Am.bad;have GD:Og w (w4.setCell ⟨g,2,O⟩ (.bool true)) g:=Zn.set;have hsz5:=GD.1.1;by_cases q1:b<1
     ·clear hP
      go_upto_region 12 with fail
      clear vU Am Zn c4 f4;generalize w4.setCell ⟨g,2,O⟩ (.bool true)=w5 at*
      go_wp2_with (at_builtin;go_must (refine gQ (by rfl) (.tmp 50) (.tmp 54) (by rfl) w.heap.size _ out [(a,b)] (by rfl) (by exact World.ownsRow.alloc cO _) _ _ _ (by rfl) (by rfl) (by intro e;cases e) (by exact yZ w5 _ _) (by simp;omega) (by simp;omega) ?_);intro v6 w6 mJ uI)
      go_roundw
      case rel=>exact⟨out.length+1,_,_,by go_num,mJ,by rw[HB.out];exact Na.grown uI (fun j e=>(World.ownsRow.lt cO j e).1) Bp,GD.grown uI (fun j e=>(World.ownsRow.lt cO j e).1),HN.out,Or.inl hN9,HR.out⟩
      case measure=>simp[intOf];omega
     ·by_cases q2:5000<b
      ·clear hP
       go_upto_region 12 with fail
       clear vU Am Zn c4 f4;generalize w4.setCell ⟨g,2,O⟩ (.bool true)=w5 at*
       go_wp2_with (at_builtin;go_must (refine gQ (by rfl) (.tmp 50) (.tmp 54) (by rfl) w.heap.size _ out [(a,b)] (by rfl) (by exact World.ownsRow.alloc cO _) _ _ _ (by rfl) (by rfl) (by intro e;cases e) (by exact yZ w5 _ _) (by simp;omega) (by simp;omega) ?_);intro v6 w6 mJ uI)
       go_roundw
       case rel=>exact⟨out.length+1,_,_,by go_num,mJ,by rw[HB.out];exact Na.grown uI (fun j e=>(World.ownsRow.lt cO j e).1) Bp,GD.grown uI (fun j e=>(World.ownsRow.lt cO j e).1),HN.out,Or.inl hN9,HR.out⟩
       case measure=>simp[intOf];omega
      ·have q3:size<a+b:=by omega
       clear hP
       go_upto_region 12 with fail
       clear vU Am Zn c4 f4;generalize w4.setCell ⟨g,2,O⟩ (.bool true)=w5 at*
       go_wp2_with (at_builtin;go_must (refine gQ (by rfl) (.tmp 50) (.tmp 54) (by rfl) w.heap.size _ out [(a,b)] (by rfl) (by exact World.ownsRow.alloc cO _) _ _ _ (by rfl) (by rfl) (by intro e;cases e) (by exact yZ w5 _ _) (by simp;omega) (by simp;omega) ?_);intro v6 w6 mJ uI)
       go_roundw
       case rel=>exact⟨out.length+1,_,_,by go_num,mJ,by rw[HB.out];exact Na.grown uI (fun j e=>(World.ownsRow.lt cO j e).1) Bp,GD.grown uI (fun j e=>(World.ownsRow.lt cO j e).1),HN.out,Or.inl hN9,HR.out⟩
       case measure=>simp[intOf];omega
    ·have HB:Hid (eP (b<1\/5000<b\/size<a+b) rb=rb):=by show _=_;unfold eP;rw[if_neg hP]
     have q1:¬b<1:=by omega
     have q2:¬5000<b:=by omega
     have q3:¬size<a+b:=by omega
     clear hP
     go_upto_region 12 with fail
     go_wp2_with (at_builtin;go_must (refine gQ (by rfl) (.tmp 50) (.tmp 54) (by rfl) w.heap.size _ out [(a,b)] (by rfl) (by exact World.ownsRow.alloc vU _) _ _ _ (by rfl) (by rfl) (by intro e;cases e) (by exact yZ w4 _ _) (by simp;omega) (by simp;omega) ?_);intro v6 w6 mJ uI)
     go_roundw
     case rel=>exact⟨out.length+1,_,_,by go_num,mJ,by rw[HB.out];exact Am.grown uI (fun j e=>(World.ownsRow.lt vU j e).1) Bp,Zn.grown uI (fun j e=>(World.ownsRow.lt vU j e).1),HN.out,Or.inl hN9,HR.out⟩
     case measure=>simp[intOf];omega
def gF (w:F)(raw:List gH)(l:List Ed):Prop:=raw.length=l.length/\∀(i:Nat) (r:gH) (e:Ed),raw[i]?=M r->l[i]?=M e->qR w r e
theorem qR.fr {X:Nat->Prop}{r:gH}(h:qR w r e)(hF:Fr w w' X)(hx:∀b aS,w.heap[b]?=M (C aS 114 (0,0))->¬X b):qR w' r e:=⟨h.1,h.2.1.fr hF hx,h.2.2.fr hF hx⟩
theorem gF.fr {X:Nat->Prop}(h:gF w raw l)(hF:Fr w w' X)(hx:∀b aS,w.heap[b]?=M (C aS 114 (0,0))->¬X b):gF w' raw l:=⟨h.1,fun i r e a b=>(h.2 i r e a b).fr hF hx⟩
theorem Mf (hs:lC w g S r):∀b aS,w.heap[b]?=M (C aS 114 (0,0))->¬b=g:=by
 intro b aS hb e;obtain⟨i,-,-,h3⟩:=hs;subst e;exact bX hb h3 (gJ (by decide))
theorem bL.og {x:bS}{l:List (Int×Int)}(h:bL w x l)(hs:lC w g S r)(ho:Og w w' g):bL w' x l:=h.fr ho.1 (Mf hs)
theorem gF.og (h:gF w raw l)(hs:lC w g S r)(ho:Og w w' g):gF w' raw l:=h.fr ho.1 (Mf hs)
theorem qj (bA:uD w5 B v raw)(hg:(w5.alloc o).grownBy w6 v.ownBlock):Fr w5 w6 (fun b=>v.ownBlock=M b)/\∀b aS,w5.heap[b]?=M (C aS 114 (0,0))->¬(v.ownBlock=M b):=by
 refine⟨⟨by have:=hg.size;simp at this;omega,fun b hb hn=>?_⟩,fun b aS hb e=>qG bA hb (by decide) e⟩;rw[hg.block b (by simp;omega) (fun e=>hn e.symm),heap_alloc_old w5 o hb]
theorem gF.snoc {r:gH}(h:gF w raw l)(he:qR w r e):gF w (raw++ [r]) (l++ [e]):=by
 obtain⟨h1,h2⟩:=h;refine⟨by simp[h1],fun i r' e' a b=>?_⟩;by_cases hi:i<raw.length
 ·rw[List.getElem?_append_left hi]at a;rw[List.getElem?_append_left (by omega)]at b;exact h2 i r' e' a b
 ·have hi2:i=raw.length:=by
   have:=(List.getElem?_eq_some_iff.1 a).1;simp at this;omega
  subst hi2;rw[List.getElem?_append_right (Nat.le_refl _)]at a;rw[List.getElem?_append_right (by omega),h1]at b;simp at a b;subst a b;exact he
theorem eX.Zo (bA:uD w B v raw)(h:gF w raw l):∃x:bS,v=x.v/\eX w x l:=by
 obtain⟨ao,cap,rfl,hr,hn,hc⟩:=bA.form;exact⟨(ao,raw.length,cap),rfl,raw,hr,rfl,⟨hn,hc⟩,h.1,h.2⟩
theorem uD.og {l:List gH}(h:uD w B v l)(ho:Og w w' g)(hg:g<B):uD w' B v l:=
 bI h ho.1 (fun b aS hb _ e=>by have:=(World.ownsRow.lt h b hb).1;omega)
theorem Gr {l:List (Int×Int)}(h:gY w B v l):∃x:bS,v=x.v/\bL w x l:=by
 obtain⟨ao,cap,rfl,hr,hn⟩:=yF.oF h;exact⟨(ao,l.length,cap),rfl,hr,rfl,hn⟩
theorem qm (h:r.2=false):uM (k+1) size r=(((bG r).1,(dG size (bG r).2).1,(dG size (dG size (bG r).2).2).1)::(uM k size (dG size (dG size (bG r).2).2).2).1,(uM k size (dG size (dG size (bG r).2).2).2).2):=by
 rw[uM,if_neg (by rw[h];simp)]
def Jl (N k:Nat)(size:Int)(r0 rk:Sn)(out:List Ed):Prop:=out.length=k/\k<=N/\uM N size r0=(out++(uM (N-k) size rk).1,(uM (N-k) size rk).2)
theorem Jl.done {out:List Ed}(h:Jl N k size r0 rk out)(hd:N<=k\/rk.2=true):uM N size r0=(out,rk):=by
 obtain⟨h1,h2,h3⟩:=h;rw[h3];rcases hd with hd|hd
 ·rw[show N-k=0 from by omega];simp[uM]
 ·rw[sI _ _ _ hd];simp
theorem Jl.next {out:List Ed}(h:Jl N k size r0 rk out)(hk:k<N)(hb:rk.2=false):
 Jl N (k+1) size r0 (dG size (dG size (bG rk).2).2).2 (out++ [((bG rk).1,(dG size (bG rk).2).1,(dG size (dG size (bG rk).2).2).1)]):=by
 obtain⟨h1,h2,h3⟩:=h;refine⟨by simp[h1],by omega,?_⟩;rw[h3,show N-k=(N-(k+1))+1 from by omega,qm hb];simp
theorem qw (w:F)(e:gH):CG (w.alloc (C #[I V e.1,e.2.1.v,e.2.2.v] 302)) (M ⟨w.heap.size,0,O⟩) [e]:=by
 obtain⟨ao,cap,h1,h2,-⟩:=uD.form (QF w (Nat.le_refl _) e);cases h1
 exact h2
theorem Xq (h:lC w g S r)(hS:S.size<=2000000)(nN:0<=size)(nO:size<4294967296):
 H K 225 #[U (M ⟨g,0,O⟩),I V size] w fun e w'=> ∃x:bS,e=G x.v/\eX w' x (kD size r).1/\lC w' g S (kD size r).2/\Og w w' g:=by
 have Bp:=h.lt;have LV:=wM r;have HP:Hid (kD size r=uM (bG r).1.toNat size (eP (50<(bG r).1) (bG r).2)):=rfl;have Gc:=(wN size r).2;go_enter Tryz.func225,Tryz.ntmps225
 go_wp2_with fail
 refine(iR h hS).mono ?_;rintro e w1 ⟨rfl,tK,Fe⟩;generalize (bG r).1=n at*;generalize (bG r).2=r1 at*;obtain⟨N,rfl⟩:=Int.eq_ofNat_of_zero_le LV.1;rw[Int.toNat_natCast]at HP;clear h;by_cases qg:50<(N:Int)
 ·have HR2:Hid (eP (50<(N:Int)) r1=(r1.1,true)):=by show _=_;unfold eP;rw[if_pos qg]
  rw[HR2.out]at HP;obtain⟨c1,f1⟩:=tK.cell
  go_wp2_with fail
  have Kz:=tK.bad;have TJ:Og w (w1.setCell ⟨g,2,O⟩ (.bool true)) g:=Fe.set;have H_:N<=50\/((r1.1,true):Sn).2=true:=Or.inr rfl;clear tK Fe c1 f1;generalize w1.setCell ⟨g,2,O⟩ (.bool true)=w2 at*
  go_loopw [6,7] (fun v i wr=> ∃(raw:List gH) (out:List Ed) (rk:Sn),i=I V (out.length:Int)/\uD wr w.heap.size v raw/\gF wr raw out/\lC wr g S rk/\Og w wr g/\Hid (Jl N out.length size ((r1.1,true):Sn) rk out)/\(N<=50\/rk.2=true)) (fun _ i _=>N-(intOf i).toNat)
  case atStart=>exact⟨[],[],((r1.1,true):Sn),rfl,World.ownsRow_nil _ _ _ _,⟨rfl,fun i r e a=>by simp at a⟩,Kz,TJ,⟨rfl,Nat.zero_le _,by simp⟩,H_⟩
  case round=>
   obtain⟨raw,out,rk,rfl,bA,Jm,Vd,kI,Ur,hNk⟩:=hrel;have hkN:out.length<=N:=Ur.out.2.1;have El:raw.length=out.length:=Jm.1;have HRL:Hid (raw.length=out.length):=El;clear El;obtain⟨ck,fk⟩:=Vd.cell;by_cases qX:¬(out.length<N)\/rk.2=true
   ·have HD:Hid (uM N size ((r1.1,true):Sn)=(out,rk)):=Ur.out.done (qX.imp (fun h=>by omega) id)
    have QY:out.length<=50:=by
     rw[HP.out,HD.out]at Gc;exact Gc
    have HW:Hid (uD wr w.heap.size u6 raw/\gF wr raw out/\lC wr g S rk/\Og w wr g):=⟨bA,Jm,Vd,kI⟩;clear bA Jm Vd kI Ur;by_cases Hr:out.length<N
    ·have Ot:rk.2=true:=qX.resolve_left (fun h=>h Hr);have Ou:(out.length:Int)<(N:Int):=by omega
     have tF:decide (out.length<N)=true:=decide_eq_true Hr;rw[Ot]at ck;clear qX
     go_wp2_with fail
     go_ret;rw[HP.out,HD.out];obtain⟨⟨xo,xl,xc⟩,rfl,hx⟩:=eX.Zo HW.out.1 HW.out.2.1
     first|exact⟨xo,xl,xc,rfl,hx,HW.out.2.2.1,HW.out.2.2.2⟩|exact⟨(xo,xl,xc),rfl,hx,HW.out.2.2.1,HW.out.2.2.2⟩
    ·exfalso;omega
   ·have Hr:out.length<N:=by omega
    have Ou:(out.length:Int)<(N:Int):=by omega
    have tF:decide (out.length<N)=true:=decide_eq_true Hr
    have Ot:rk.2=false:=by
     cases e:rk.2 with
     |false=>rfl
     |true=>exact absurd (Or.inr e) qX
    rw[Ot]at ck
    have hN9:N<=50:=by
     rcases hNk with h|h
     ·exact h
     ·rw[Ot]at h;cases h
    exfalso;omega
 ·have HR2:Hid (eP (50<(N:Int)) r1=r1):=by show _=_;unfold eP;rw[if_neg qg]
  rw[HR2.out]at HP
  go_wp2_with fail
  have Kz:=tK;have TJ:=Fe;have H_:N<=50\/r1.2=true:=Or.inl (by omega);clear tK Fe
  go_loopw [6,7] (fun v i wr=> ∃(raw:List gH) (out:List Ed) (rk:Sn),i=I V (out.length:Int)/\uD wr w.heap.size v raw/\gF wr raw out/\lC wr g S rk/\Og w wr g/\Hid (Jl N out.length size r1 rk out)/\(N<=50\/rk.2=true)) (fun _ i _=>N-(intOf i).toNat)
  case atStart=>exact⟨[],[],r1,rfl,World.ownsRow_nil _ _ _ _,⟨rfl,fun i r e a=>by simp at a⟩,Kz,TJ,⟨rfl,Nat.zero_le _,by simp⟩,H_⟩
  case round=>
   obtain⟨raw,out,rk,rfl,bA,Jm,Vd,kI,Ur,hNk⟩:=hrel;have hkN:out.length<=N:=Ur.out.2.1;have El:raw.length=out.length:=Jm.1;have HRL:Hid (raw.length=out.length):=El;clear El;obtain⟨ck,fk⟩:=Vd.cell;by_cases qX:¬(out.length<N)\/rk.2=true
   ·have HD:Hid (uM N size r1=(out,rk)):=Ur.out.done (qX.imp (fun h=>by omega) id)
    have QY:out.length<=50:=by
     rw[HP.out,HD.out]at Gc;exact Gc
    have HW:Hid (uD wr w.heap.size u6 raw/\gF wr raw out/\lC wr g S rk/\Og w wr g):=⟨bA,Jm,Vd,kI⟩;clear bA Jm Vd kI Ur;by_cases Hr:out.length<N
    ·have Ot:rk.2=true:=qX.resolve_left (fun h=>h Hr);have Ou:(out.length:Int)<(N:Int):=by omega
     have tF:decide (out.length<N)=true:=decide_eq_true Hr;rw[Ot]at ck;clear qX
     go_wp2_with fail
     go_ret;rw[HP.out,HD.out];obtain⟨⟨xo,xl,xc⟩,rfl,hx⟩:=eX.Zo HW.out.1 HW.out.2.1
     first|exact⟨xo,xl,xc,rfl,hx,HW.out.2.2.1,HW.out.2.2.2⟩|exact⟨(xo,xl,xc),rfl,hx,HW.out.2.2.1,HW.out.2.2.2⟩
    ·have Ou:¬(out.length:Int)<(N:Int):=by omega
     have tF:decide (out.length<N)=false:=decide_eq_false Hr;clear qX
     go_wp2_with fail
     go_ret;rw[HP.out,HD.out];obtain⟨⟨xo,xl,xc⟩,rfl,hx⟩:=eX.Zo HW.out.1 HW.out.2.1
     first|exact⟨xo,xl,xc,rfl,hx,HW.out.2.2.1,HW.out.2.2.2⟩|exact⟨(xo,xl,xc),rfl,hx,HW.out.2.2.1,HW.out.2.2.2⟩
   ·have Hr:out.length<N:=by omega
    have Ou:(out.length:Int)<(N:Int):=by omega
    have tF:decide (out.length<N)=true:=decide_eq_true Hr
    have Ot:rk.2=false:=by
     cases e:rk.2 with
     |false=>rfl
     |true=>exact absurd (Or.inr e) qX
    rw[Ot]at ck
    have hN9:N<=50:=by
     rcases hNk with h|h
     ·exact h
     ·rw[Ot]at h;cases h
    have ba:=wM rk;have HN:Hid (Jl N (out.length+1) size r1 (dG size (dG size (bG rk).2).2).2 (out++ [((bG rk).1,(dG size (bG rk).2).1,(dG size (dG size (bG rk).2).2).1)])):=Ur.out.next Hr Ot;clear qX hNk Ur
    go_wp2_with fail
    refine(iR Vd hS).mono ?_;rintro e w3 ⟨rfl,LH,qh⟩;have yJ:=bA.og qh Bp;have qz:=Jm.og Vd qh;have qi:=kI.trans qh;clear Vd bA kI ck fk Jm qh
    go_wp2_with fail
    refine(Gq LH hS nN nO).mono ?_;rintro e w4 ⟨vp,rfl,hp4,Am,Bb⟩;obtain⟨xp,rfl,hl4⟩:=Gr hp4;have vU:=yJ.og Bb Bp;have ru:=qz.og LH Bb;have Zn:=qi.trans Bb;clear LH yJ qi qz Bb
    go_wp2_with fail
    refine(Gq Am hS nN nO).mono ?_;rintro e w5 ⟨vq,rfl,hq5,Na,RN⟩;obtain⟨xq,rfl,EO⟩:=Gr hq5;have cO:=vU.og RN Bp;have rz:=ru.og Am RN;have hp5:=hl4.og Am RN;have GD:=Zn.trans RN;clear Am vU Zn ru RN hp4 hl4;have hlr:raw.length<=50:=by rw[HRL.out];omega
    have HEd:Hid (qR w5 ((bG rk).1,xp,xq) ((bG rk).1,(dG size (bG rk).2).1,(dG size (dG size (bG rk).2).2).1)):=⟨rfl,hp5,EO⟩;have HWW:Hid (gF w5 raw out/\lC w5 g S (dG size (dG size (bG rk).2).2).2/\Og w w5 g):=⟨rz,Na,GD⟩;have hsz5:=GD.1.1;clear hp5 hq5 EO rz Na GD;generalize (dG size (dG size (bG rk).2).2).2=re at*;generalize (dG size (dG size (bG rk).2).2).1=lq at*;generalize (dG size (bG rk).2).1=lp at*;generalize (bG rk).1=a at*;obtain⟨po,pl,pc⟩:=xp;obtain⟨qo,ql,qc⟩:=xq;simp only[bS.v]
    go_wp2_with (at_builtin;go_must (refine Ap (by rfl) (.tmp 38) (.tmp 43) (by rfl) w.heap.size _ raw [(a,(po,pl,pc),(qo,ql,qc))] (by rfl) (by exact World.ownsRow.alloc cO _) _ _ _ (by rfl) (by rfl) (by intro e;cases e) (by exact qw w5 _) (by simp;omega) (by simp;omega) ?_);intro v6 w6 mJ uI)
    go_roundw
    case rel=>
     obtain⟨g1,g2⟩:=qj cO uI;refine⟨_,_,re,by simp,mJ,(HWW.out.1.fr g1 g2).snoc (HEd.out.fr g1 g2),HWW.out.2.1.grown uI (fun j e=>(World.ownsRow.lt cO j e).1) Bp,HWW.out.2.2.grown uI (fun j e=>(World.ownsRow.lt cO j e).1),?_,Or.inl hN9⟩;have:=HN.out;show Jl _ _ _ _ _ _;rw[List.length_append];exact this
    case measure=>simp[intOf];omega
def Bc (e:Ed):Ed:=(e.1,e.2.2,e.2.1)
theorem Qb {l:List gH}:∀ {k:Nat} {r:gH},l[k]?=M r->(Ia l)[k*3]?=M (I V r.1)/\(Ia l)[k*3+1]?=M r.2.1.v/\(Ia l)[k*3+2]?=M r.2.2.v:=by
 induction l with
 |nil=>intro k r h;simp at h
 |cons e l ih=>
  intro k r h;cases k with
  |zero=>simp at h;subst h;rw[vX];simp
  |succ k=>
   simp at h;obtain⟨h1,h2,h3⟩:=ih h;rw[vX];refine⟨?_,?_,?_⟩
   ·rw[List.getElem?_append_right (by simp;omega)];simp only[List.length_cons,List.length_nil];rw[show(k+1)*3-(0+1+1+1)=k*3 from by omega];exact h1
   ·rw[List.getElem?_append_right (by simp;omega)];simp only[List.length_cons,List.length_nil];rw[show(k+1)*3+1-(0+1+1+1)=k*3+1 from by omega];exact h2
   ·rw[List.getElem?_append_right (by simp;omega)];simp only[List.length_cons,List.length_nil];rw[show(k+1)*3+2-(0+1+1+1)=k*3+2 from by omega];exact h3
theorem dY.nth {xo:Option Addr}{xn xc:Nat}(h:dY w (xo,xn,xc) l)(hk:l[k]?=M e):∃(b off:Nat) (r:gH),xo=M ⟨b,off,O⟩/\w.cell? ⟨b,off+k*3,O⟩=M (I V r.1)/\w.cell? ⟨b,off+k*3+1,O⟩=M r.2.1.v/\w.cell? ⟨b,off+k*3+2,O⟩=M r.2.2.v/\qR w r e:=by
 obtain⟨raw,h1,h2,h3,h4,h5⟩:=h;have bT:k<raw.length:=by rw[h4];exact(List.getElem?_eq_some_iff.1 hk).1
 obtain⟨r,hr⟩:∃r,raw[k]?=M r:=⟨_,List.getElem?_eq_getElem bT⟩;rcases h1.1 with hx|⟨b,off,hx,hc⟩
 ·rw[hx]at bT;simp at bT
 ·refine⟨b,off,r,hx,?_,?_,?_,h5 k r e hr hk⟩
  ·have:=hc (k*3) _ (Qb hr).1;exact this
  ·exact hc (k*3+1) _ (Qb hr).2.1
  ·exact hc (k*3+2) _ (Qb hr).2.2
def pE (n:Int):List Ed->Bool
 | []=>true
 |e::l=>if e.1<0\/n-sz e.2.1<e.1 then false else if 5000<n+(sz e.2.2-sz e.2.1)then false else pE (n+(sz e.2.2-sz e.2.1)) l
def Cr (r:gH):gH:=(r.1,r.2.2,r.2.1)
theorem dY.oF (bA:uN w B v raw)(h:gF w raw l):∃x1 x2 x3,v=Z x1 x2 x3/\dY w (x1,x2,x3) l:=by
 obtain⟨ao,cap,rfl,hr,hn,hc⟩:=bA.form;exact⟨ao,raw.length,cap,rfl,raw,hr,rfl,⟨hn,hc⟩,h.1,h.2⟩
theorem Xr (w:F)(e:gH):CS (w.alloc (C #[I V e.1,e.2.1.v,e.2.2.v] 261)) (M ⟨w.heap.size,0,O⟩) [e]:=by
 obtain⟨ao,cap,h1,h2,-⟩:=uN.form (FT w (Nat.le_refl _) e);cases h1
 exact h2
theorem GH {wr:F}{t:TypeId}{n:Nat}{cs:List Y}(hG:aL w wr)(hB:w.heap.size<=B)(bA:wr.ownsRow B t n v k cs)(hg:(wr.alloc o).grownBy w5 v.ownBlock):aL w w5:=by
 have h1:=kV hg;refine⟨h1.os.trans hG.os,h1.tape.trans hG.tape,h1.output.trans hG.output,Nat.le_trans hG.size h1.size,fun k hk=>?_⟩;rw[<-hG.block k hk];refine h1.block k (Nat.lt_of_lt_of_le hk hG.size) (fun e=>?_);have:=(World.ownsRow.lt bA k e.symm).1;omega
theorem NI {x:bS}(h:dY w x l)(hl:l.length<=1000000):
 H K 189 #[x.v] w fun e w'=> ∃y1 y2 y3,e=G (Z y1 y2 y3)/\dY w' (y1,y2,y3) (l.map Bc)/\aL w w':=by
 obtain⟨xo,xn,xc⟩:=x;obtain⟨raw,h1,h2,h3,h4,h5⟩:=h;simp only at h1 h2 h3;have El:raw.length<=1000000:=by omega
 have HE:Hid (∀W,aL w W->gF W (raw.map Cr) (l.map Bc)):=fun W hW=>⟨by simp[h4],fun i r e a b=>by
  rw[List.getElem?_map]at a b;obtain⟨r0,Hl,rfl⟩:=Option.map_eq_some_iff.1 a;obtain⟨e0,Gs,rfl⟩:=Option.map_eq_some_iff.1 b;have:=(h5 i r0 e0 Hl Gs).aN hW;exact⟨this.1,this.2.2,this.2.1⟩⟩
 subst h2
 have HR:Hid (∀(k:Nat) (r:gH),raw[k]?=M r->∃b off,xo=M ⟨b,off,O⟩/\w.cell? ⟨b,off+k*3,O⟩=M (I V r.1)/\w.cell? ⟨b,off+k*3+1,O⟩=M r.2.1.v/\w.cell? ⟨b,off+k*3+2,O⟩=M r.2.2.v):=fun k r hr=>by
  rcases h1.1 with hx|⟨b,off,hx,hc⟩
  ·rw[hx]at hr;simp at hr
  ·obtain⟨e1,e2,e3⟩:=Qb hr;exact⟨b,off,hx,hc _ _ e1,hc _ _ e2,hc _ _ e3⟩
 have HT:Hid (∀W (p:Int) (x y:bS),H K 235 #[.agg #[I V p,x.v,y.v]] W fun v w'=>v=G (.agg #[I V p,y.v,x.v])/\aL W w'):=fun W p x y=>Lv
 simp only[bS.v];clear h1 h3 h4 h5;obtain⟨i0,hi,nN,nO,oM⟩:=info_parts Tryz.infoEdD;go_enter Tryz.func189,Tryz.ntmps189
 go_upto_region 2 with(at_make;refine wpList_make_own _ rfl _ _ 103 rfl w.heap.size 261 i0 _ 3 Tryz.underlying103 hi nN nO _ _ _ raw.length rfl rfl (by omega) (by rw[oM];omega) (by unfold maxLen;omega) (Nat.le_refl _) ?_;intro w0 wV kX)
 have RF:Hid (aL w w0):=⟨kX.os,kX.tape,kX.output,kX.size,fun k hk=>kX.block k hk (by simp)⟩;have HO0:Hid (uN w0 w.heap.size (Z (M ⟨w.heap.size,0,O⟩) 0 raw.length) []):=wV;clear wV kX
 go_wp2_with fail
 go_loopw [3,5,11] (fun v _ i wr=> ∃k:Nat,k<=raw.length/\i=I V (k:Int)/\Hid (uN wr w.heap.size v ((raw.take k).map Cr))/\Hid (aL w wr)) (fun _ _ i _=>raw.length-(intOf i).toNat)
 case atStart=>exact⟨0,Nat.zero_le _,rfl,by simpa using HO0,RF⟩
 case round=>
  obtain⟨k,hk,rfl,HO,HG⟩:=hrel;by_cases bT:k<raw.length
  ·obtain⟨r,hr⟩:∃r,raw[k]?=M r:=⟨_,List.getElem?_eq_getElem bT⟩;obtain⟨b,off,rfl,d1,d2,d3⟩:=HR.out k r hr;have d1:=HG.out.cell d1;have d2:=HG.out.cell d2;have d3:=HG.out.cell d3;have i1:(0:Int)<=(k:Int):=by omega
   have i2:(k:Int)<(raw.length:Int):=by omega
   have HN:Hid ((raw.take (k+1)).map Cr=(raw.take k).map Cr++ [Cr r]):=by
    show _=_;obtain⟨Zf,he⟩:=List.getElem?_eq_some_iff.1 hr;rw[List.take_succ_eq_append_getElem Zf,List.map_append,he];rfl
   obtain⟨qP,qV,ev,-⟩:=uN.form HO.out;rw[show((raw.take k).map Cr).length=k from by simp;omega]at ev;subst ev;have Mt:((raw.take k).map Cr).length<=1000000:=by simp;omega
   obtain⟨r1,⟨x1,x2,x3⟩,⟨y1,y2,y3⟩⟩:=r;simp only[bS.v]at d2 d3;have HT2:=HT.out (wr.alloc (C #[I V r1,Z x1 x2 x3,Z y1 y2 y3] 261)) r1 (x1,x2,x3) (y1,y2,y3);simp only[bS.v]at HT2
   have HK:Hid (∀w4,aL (wr.alloc (C #[I V r1,Z x1 x2 x3,Z y1 y2 y3] 261)) w4->uN (w4.alloc (C #[I V r1,Z y1 y2 y3,Z x1 x2 x3] 261)) w.heap.size (Z qP k qV) ((raw.take k).map Cr)/\aL w w4/\uN w4 w.heap.size (Z qP k qV) ((raw.take k).map Cr)):=fun w4 h4=>by
    have hg:=((aL.refl wr).alloc _).then h4;have ho:uN w4 w.heap.size (Z qP k qV) ((raw.take k).map Cr):=bI HO.out (Fr.cZ hg (fun _=>False)) (fun _ _ _ _ h=>h);exact⟨World.ownsRow.alloc ho _,HG.out.then hg,ho⟩
   clear hr HO HT
   go_upto_region 5 with fail
   obtain⟨q0,q1,q2,-⟩:=kP (heap_alloc_new wr (C #[I V r1,Z x1 x2 x3,Z y1 y2 y3] 261));generalize (wr.alloc (C #[I V r1,Z x1 x2 x3,Z y1 y2 y3] 261))=wq at*
   go_wp2_with (first
    |(go_at_call 235;refine HT2.mono ?_;rintro e w4 ⟨rfl,oD⟩;obtain⟨k1,k2,k3⟩:=HK.out w4 oD;have hk4:=k2.le)
    |(at_builtin;go_must (refine xZ (by rfl) (.tmp 15) (.tmp 18) (by rfl) w.heap.size _ ((raw.take k).map Cr) [(r1,(y1,y2,y3),(x1,x2,x3))] (by rfl) (by exact k1) _ _ _ (by rfl) (by rfl) (by intro e;cases e) (by exact Xr w4 (r1,(y1,y2,y3),(x1,x2,x3))) (by simp only[List.length_singleton];omega) (by simp;omega) ?_);intro v5 w5 cO fQ))
   have nI:aL w w5:=GH k2 (Nat.le_refl _) k3 fQ;go_roundw
   case rel=>exact⟨k+1,by omega,by go_num,by show uN _ _ _ _;rw[HN.out];exact cO,nI⟩
   case measure=>simp[intOf];omega
  ·obtain⟨qP,qV,ev,-⟩:=uN.form HO.out;subst ev;have e1:raw.take k=raw:=List.take_of_length_le (by omega)
   go_wp2_with fail
   go_ret;have ho:=HO.out;rw[e1]at ho;obtain⟨z1,z2,z3,he,hE⟩:=dY.oF ho (HE.out _ HG.out);cases he
   first|exact⟨_,_,_,rfl,hE,HG.out⟩|(rw[e1];exact⟨_,_,_,rfl,hE,HG.out⟩)
theorem Qc:∀ {n:Int},(∀e∈l,0<=e.1)->pE n l=lK (l.map qL) n:=by
 induction l with
 |nil=>intro n _;rfl
 |cons e l ih=>
  intro n h;have h0:=h e (by simp);rw[List.map_cons,qL,lK,pE];by_cases h1:n<e.1+sz e.2.1
  ·rw[if_pos h1,if_pos (by omega)]
  ·rw[if_neg h1,if_neg (by omega)];have e2:n+(sz e.2.2-sz e.2.1)=n-sz e.2.1+sz e.2.2:=by omega
   rw[e2,ih (fun e' Ld=>h e' (by simp[Ld]))]
end Go.Proofs.YtfplgfodoiiobaaGreatDoor
