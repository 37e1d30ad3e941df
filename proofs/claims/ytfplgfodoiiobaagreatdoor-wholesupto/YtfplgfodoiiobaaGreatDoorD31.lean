/- LgL, LgM, LgN (joined). -/
import Derived.Test.YtfplgfodoiiobaaGreatDoorD30
open Option renaming none→O,some→M
open Go.Value renaming int→I,slice→Z,pointer→U
open Go.IntKind renaming i64→V
open Go.Obj renaming cells→C
open Go.Ending renaming returned→G
open Go renaming World→F,Value→Y,Calls→H
open Go.Proofs.Tryz renaming prog→K
open Go.Proofs.Tryz
namespace Go.Proofs.YtfplgfodoiiobaaGreatDoor
set_option maxHeartbeats 4000000
set_option maxRecDepth 100000
open Go.RowKit
abbrev Adq:=@Prod.mk.injEq
variable {l:List UInt8}{m m':dD}{depth db lp dp tb:Nat}{w:F}{bf ep buf:Int}{s:Sc}{fv:Y}{rs:List FR}{ps:Nat->Addr}{st:Option (List UInt8)}
def zR (m:dD)(l:List UInt8)(buf:Int)(depth:Nat):Option dD:=match lQ l with
 |none=>O
 |some (d,q,a,b,c)=>if d≠m.2.2.2.1+1 then O else if pX m q a b c 5000≠0 then O else if q=73/\buf<m.2.2.2.2+c then O else M (gT m q a b c 5000 depth).1
theorem VF {d q a b c:Int}(h:lQ l=M (d,q,a,b,c)):(0<=d/\d<4294967296)/\(0<=q/\q<256)/\(0<=a/\a<4294967296)/\(0<=b/\b<4294967296)/\(0<=c/\c<4294967296):=by
 unfold lQ at h;split at h
 ·cases h
 ·split at h
  ·cases h
  ·rename_i t ht;split at h
   ·simp only[AaU,Adq]at h;obtain⟨rfl,rfl,rfl,rfl,rfl⟩:=h;have hu:=Abl ((t.drop 1).headD 0);exact⟨lK _,⟨by omega,by omega⟩,lK _,lK _,lK _⟩
   ·cases h
theorem ZK {n cap:Nat}{ao:Option Addr}(hL:w.heap[lp]?=M (jM db ep))(hd:aV w dp tb depth m)(hg:eD m depth)(hD:aU w db s fv rs)(hO:pJ 1000 s (plain rs))(hG:Gl w ps)
 (hRR:∀W,aL w W->H K 190 #[Z ao n cap] W fun e w'=>e=Pq (lQ l)/\aL W w')(hD9:m.2.2.2.1<=2000000000)(hr:zR m l ((aO (plain rs) 1).size:Int) depth=O):
 H K 125 #[U (M ⟨lp,0,O⟩),U (M ⟨dp,0,O⟩),Z ao n cap] w fun e w'=>e=G (.bool false)/\aL w w':=by
 have Sl:=hg.done;obtain⟨w2,Ga⟩:∃w2,w2=(w.alloc (C #[U (M ⟨lp,0,O⟩)] 85)).alloc (C #[U (M ⟨dp,0,O⟩)] 86):=⟨_,rfl⟩;have G2:aL w w2:=by rw[Ga];exact((aL.refl w).alloc _).alloc _
 have hqb:w2.heap[w.heap.size]?=M (C #[U (M ⟨lp,0,O⟩)] 85 (0,0)):=by
  rw[Ga,Abv _ _ (by simp)];exact Aaf w _
 have ZL:w2.heap[w.heap.size+1]?=M (C #[U (M ⟨dp,0,O⟩)] 86 (0,0)):=by
  rw[Ga];have:=Aaf (w.alloc (C #[U (M ⟨lp,0,O⟩)] 85)) (C #[U (M ⟨dp,0,O⟩)] 86);rwa[AaG]at this
 have Nn:=hRR w2 G2;have Fy:Hid (aL w w2):=G2
 have HQ:Hid (∀W,aL w2 W->W.heap[w.heap.size]?=M (C #[U (M ⟨lp,0,O⟩)] 85 (0,0))/\W.heap[w.heap.size+1]?=M (C #[U (M ⟨dp,0,O⟩)] 86 (0,0))/\W.heap[lp]?=M (jM db ep)/\W.cell? ⟨w.heap.size+1,0,O⟩=M (U (M ⟨dp,0,O⟩))):=fun W hW=>by
  have h2:=(hW.block _ (aM ZL)).trans ZL;have UG:=G2.then hW;exact⟨(hW.block _ (aM hqb)).trans hqb,h2,(UG.block _ (aM hL)).trans hL,by simp[World.cell?,h2]⟩
 have HDR:Hid (∀W,aL w2 W->aV W dp tb depth m/\aU W db s fv rs/\Gl W ps):=fun W hW=>⟨hd.aN (G2.then hW),hD.aN (G2.then hW),hG.aN (G2.then hW)⟩;have HDN:Hid (∀W,aL w2 W->H K 50 #[U (M ⟨dp,0,O⟩)] W fun e w'=>e=G (I V m.2.2.2.1)/\w'=W):=fun W hW=>Lc (HDR.out W hW).1;clear hqb ZL G2 hRR hL hd hD hG;cases Bz:lQ l with
 |none=>
  rw[Bz]at Nn;unfold Pq at Nn;simp only at Nn;clear hr Bz HQ;go_enter func125,ntmps125;go_upto_region 1 with fail;rw[<-Ga];clear Ga;go_wp2_with (go_at_call 190;refine Nn.mono ?_;rintro e w3 ⟨rfl,oK⟩);go_ret;exact⟨rfl,(Fy.out.then oK).alloc _⟩
 |some rec=>
  obtain⟨d,q,a,b,c⟩:=rec;obtain⟨bd,bq,ba,bb,bc⟩:=VF Bz;rw[Bz]at Nn;unfold Pq at Nn;simp only at Nn
  have HR:Hid ((if d≠m.2.2.2.1+1 then O else if pX m q a b c 5000≠0 then O else if q=73/\((aO (plain rs) 1).size:Int)<m.2.2.2.2+c then O else M (gT m q a b c 5000 depth).1)=(O:Option dD)):=by
   have:=hr;unfold zR at this;rw[Bz]at this;exact this
  clear hr Bz
  have HCB:Hid (∀W,aL w2 W->W.heap[w.heap.size]?=M (C #[U (M ⟨lp,0,O⟩)] 85 (0,0))->U_ (W.alloc (C #[I .u8 q,I V a,I V b,I V c] 99)) W.heap.size (w.heap.size+1) w.heap.size lp dp db ep q a b c/\aL w2 (W.alloc (C #[I .u8 q,I V a,I V b,I V c] 99))):=fun W hW _=>by
   have ga:=hW.alloc (C #[I .u8 q,I V a,I V b,I V c] 99);obtain⟨k1,k2,k3,-⟩:=HQ.out _ ga;exact⟨⟨Aaf W _,k2,k1,k3⟩,ga⟩
  by_cases tX:d=m.2.2.2.1+1
  ·have hne:=beq_iff_eq.2 tX;have TY:wrap64 (m.2.2.2.1+1)=m.2.2.2.1+1:=by unfold wrap64;omega
   have HCH:Hid (∀W,aL w2 W->∀cb,U_ W cb (w.heap.size+1) w.heap.size lp dp db ep q a b c->H K 85 #[U (M ⟨dp,0,O⟩),.agg #[I .u8 q,I V a,I V b,I V c],I V 5000,.func (.func 191) #[] #[U (M ⟨cb,0,O⟩),U (M ⟨w.heap.size+1,0,O⟩),U (M ⟨w.heap.size,0,O⟩)]] W fun e w'=> ∃t x,e=G (.iface t x)/\aL W w'):=fun W hW cb hB=>by
    obtain⟨q1,q2,q3⟩:=HDR.out W hW;by_cases hm:pX m q a b c 5000=0
    ·have hR:=HR.out;rw[Aaa (by simpa using tX),Aaa (by simpa using hm)]at hR
     have hi:q=73/\((aO (plain rs) 1).size:Int)<m.2.2.2.2+c:=by
      by_cases hi:q=73/\((aO (plain rs) 1).size:Int)<m.2.2.2.2+c
      ·exact hi
      ·rw[Aaa hi]at hR;cases hR
     obtain⟨rfl,hi⟩:=hi;refine(Pw (P:=fun W0 _ _ w'=>aL W0 w') q1 hg (by omega) (by omega) (by omega) hm V_ (fun W' Cw=>?_)).mono ?_
     ·refine(KR (hB.aN Cw) (q1.aN Cw) (q2.aN Cw) hO (q3.aN Cw) hg.Dt hg.Ch bc.1 bc.2).mono ?_;rintro e w' ⟨rfl,uN⟩;rw[Aad hi];exact⟨_,_,rfl,uN⟩
     ·rintro e w' ⟨W0,t,x,rfl,g1,g2⟩;exact⟨t,x,rfl,g1.then g2⟩
    ·refine(Uj q1 hg (by omega) (by omega) (by omega) hm).mono ?_;rintro e w' ⟨v,rfl,⟨bx,rfl,-⟩,uN⟩;exact⟨_,_,rfl,uN⟩
   clear HR tX;go_enter func125,ntmps125;go_upto_region 1 with fail;rw[<-Ga];clear Ga;go_upto_region 2 with(go_at_call 190;refine Nn.mono ?_;rintro e w3 ⟨rfl,oK⟩);obtain⟨VG,nO⟩:=HCB.out w3 oK (HQ.out w3 oK).1;have Tv:=HCH.out _ nO _ VG;obtain⟨⟨k0,k1,k2,k3⟩,k4,k5,k6⟩:=VG.cells;have PV:=HDN.out _ nO;have YX:Hid _:=nO;clear VG nO HCB HCH HQ HDR HDN Nn;generalize (w3.alloc (C #[I .u8 q,I V a,I V b,I V c] 99))=w4 at*;go_wp2_with (first|(go_at_call 50;refine PV.mono ?_;rintro e w4 ⟨rfl,rfl⟩)|(go_at_call 85;refine Tv.mono ?_;rintro e w5 ⟨t5,x5,rfl,eO⟩));go_ret;exact⟨rfl,(Fy.out.then YX.out).then eO⟩
  ·have hne:=Aat.2 tX;have TY:wrap64 (m.2.2.2.1+1)=m.2.2.2.1+1:=(by unfold wrap64;omega);clear HR tX;go_enter func125,ntmps125;go_upto_region 1 with fail;rw[<-Ga];clear Ga;go_upto_region 2 with(go_at_call 190;refine Nn.mono ?_;rintro e w3 ⟨rfl,oK⟩);obtain⟨VG,nO⟩:=HCB.out w3 oK (HQ.out w3 oK).1;obtain⟨-,k4,-⟩:=VG.cells;have PV:=HDN.out _ nO;have YX:Hid _:=nO;clear VG nO HCB HQ HDR HDN Nn;generalize (w3.alloc (C #[I .u8 q,I V a,I V b,I V c] 99))=w4 at*;go_wp2_with (go_at_call 50;refine PV.mono ?_;rintro e w4 ⟨rfl,rfl⟩);go_ret;exact⟨rfl,Fy.out.then YX.out⟩
theorem QV {n cap:Nat}{ao:Option Addr}(hL:w.heap[lp]?=M (jM db ep))(hd:aV w dp tb depth m)(hg:eD m depth)(hD:aU w db s fv rs)(hO:pJ 1000 s (plain rs))(hG:Gl w ps)
 (hRR:∀W,aL w W->H K 190 #[Z ao n cap] W fun e w'=>e=Pq (lQ l)/\aL W w')(hD9:m.2.2.2.1<=2000000000)(N_:depth<=100)(hr:zR m l ((aO (plain rs) 1).size:Int) depth=M m'):
 H K 125 #[U (M ⟨lp,0,O⟩),U (M ⟨dp,0,O⟩),Z ao n cap] w fun e w'=>e=G (.bool true)/\aV w' dp tb depth m'/\Dk w w' (TX dp tb) (TX dp tb):=by
 have Sl:=hg.done;obtain⟨w2,Ga⟩:∃w2,w2=(w.alloc (C #[U (M ⟨lp,0,O⟩)] 85)).alloc (C #[U (M ⟨dp,0,O⟩)] 86):=⟨_,rfl⟩;have G2:aL w w2:=by rw[Ga];exact((aL.refl w).alloc _).alloc _
 have hqb:w2.heap[w.heap.size]?=M (C #[U (M ⟨lp,0,O⟩)] 85 (0,0)):=by
  rw[Ga,Abv _ _ (by simp)];exact Aaf w _
 have ZL:w2.heap[w.heap.size+1]?=M (C #[U (M ⟨dp,0,O⟩)] 86 (0,0)):=by
  rw[Ga];have:=Aaf (w.alloc (C #[U (M ⟨lp,0,O⟩)] 85)) (C #[U (M ⟨dp,0,O⟩)] 86);rwa[AaG]at this
 have Nn:=hRR w2 G2;have Fy:Hid (aL w w2):=G2
 have HQ:Hid (∀W,aL w2 W->W.heap[w.heap.size]?=M (C #[U (M ⟨lp,0,O⟩)] 85 (0,0))/\W.heap[w.heap.size+1]?=M (C #[U (M ⟨dp,0,O⟩)] 86 (0,0))/\W.heap[lp]?=M (jM db ep)/\W.cell? ⟨w.heap.size+1,0,O⟩=M (U (M ⟨dp,0,O⟩))):=fun W hW=>by
  have h2:=(hW.block _ (aM ZL)).trans ZL;have UG:=G2.then hW;exact⟨(hW.block _ (aM hqb)).trans hqb,h2,(UG.block _ (aM hL)).trans hL,by simp[World.cell?,h2]⟩
 have HDR:Hid (∀W,aL w2 W->aV W dp tb depth m/\aU W db s fv rs/\Gl W ps):=fun W hW=>⟨hd.aN (G2.then hW),hD.aN (G2.then hW),hG.aN (G2.then hW)⟩;have HDN:Hid (∀W,aL w2 W->H K 50 #[U (M ⟨dp,0,O⟩)] W fun e w'=>e=G (I V m.2.2.2.1)/\w'=W):=fun W hW=>Lc (HDR.out W hW).1;clear hqb ZL G2 hRR hL hd hD hG;cases Bz:lQ l with
 |none=>unfold zR at hr;rw[Bz]at hr;cases hr
 |some rec=>
  obtain⟨d,q,a,b,c⟩:=rec;obtain⟨bd,bq,ba,bb,bc⟩:=VF Bz;rw[Bz]at Nn;unfold Pq at Nn;simp only at Nn
  have HR:Hid ((if d≠m.2.2.2.1+1 then O else if pX m q a b c 5000≠0 then O else if q=73/\((aO (plain rs) 1).size:Int)<m.2.2.2.2+c then O else M (gT m q a b c 5000 depth).1)=M m'):=by
   have:=hr;unfold zR at this;rw[Bz]at this;exact this
  clear hr Bz
  have HCB:Hid (∀W,aL w2 W->W.heap[w.heap.size]?=M (C #[U (M ⟨lp,0,O⟩)] 85 (0,0))->U_ (W.alloc (C #[I .u8 q,I V a,I V b,I V c] 99)) W.heap.size (w.heap.size+1) w.heap.size lp dp db ep q a b c/\aL w2 (W.alloc (C #[I .u8 q,I V a,I V b,I V c] 99))):=fun W hW _=>by
   have ga:=hW.alloc (C #[I .u8 q,I V a,I V b,I V c] 99);obtain⟨k1,k2,k3,-⟩:=HQ.out _ ga;exact⟨⟨Aaf W _,k2,k1,k3⟩,ga⟩
  have tX:d=m.2.2.2.1+1:=by
   by_cases tX:d=m.2.2.2.1+1
   ·exact tX
   ·have hR:=HR.out;rw[Aad tX]at hR;cases hR
  have hm:pX m q a b c 5000=0:=by
   by_cases hm:pX m q a b c 5000=0
   ·exact hm
   ·have hR:=HR.out;rw[Aaa (by simpa using tX),Aad hm]at hR;cases hR
  have hi:¬(q=73/\((aO (plain rs) 1).size:Int)<m.2.2.2.2+c):=fun hi=>by
   have hR:=HR.out;rw[Aaa (by simpa using tX),Aaa (by simpa using hm),Aad hi]at hR;cases hR
  have Pm:(gT m q a b c 5000 depth).1=m':=by
   have hR:=HR.out;rw[Aaa (by simpa using tX),Aaa (by simpa using hm),Aaa hi]at hR;simpa using hR
  have hne:=beq_iff_eq.2 tX;have TY:wrap64 (m.2.2.2.1+1)=m.2.2.2.1+1:=by unfold wrap64;omega
  have HCH:Hid (∀W,aL w2 W->∀cb,U_ W cb (w.heap.size+1) w.heap.size lp dp db ep q a b c->H K 85 #[U (M ⟨dp,0,O⟩),.agg #[I .u8 q,I V a,I V b,I V c],I V 5000,.func (.func 191) #[] #[U (M ⟨cb,0,O⟩),U (M ⟨w.heap.size+1,0,O⟩),U (M ⟨w.heap.size,0,O⟩)]] W fun e w'=>e=G .nilIface/\aV w' dp tb depth m'/\Dk W w' (TX dp tb) (TX dp tb)):=fun W hW cb hB=>by
   obtain⟨q1,q2,q3⟩:=HDR.out W hW;refine(Px (P:=fun W0 w'=>aL W0 w') q1 hg N_ hD9 (by omega) (by omega) (by omega) hm V_ (fun W' Cw=>?_) (fun W' W1 Cw hp=>⟨q1.aN (Cw.then hp),fun bb _ h2=>hp.block bb h2⟩)).mono ?_
   ·by_cases Zx:q=73
    ·subst Zx;refine(KR (hB.aN Cw) (q1.aN Cw) (q2.aN Cw) hO (q3.aN Cw) hg.Dt hg.Ch bc.1 bc.2).mono ?_;rintro e w' ⟨rfl,uN⟩;rw[Aaa (fun hh=>hi ⟨rfl,hh⟩)];exact⟨rfl,uN⟩
    ·exact QU (hB.aN Cw) Zx
   ·rintro e w' ⟨W0,W1,rfl,g1,g2,hdw,hk⟩;rw[Pm]at hdw;exact⟨rfl,hdw,(Dk.bX (g1.then g2)).trans hk⟩
  clear HR tX hm hi Pm;go_enter func125,ntmps125;go_upto_region 1 with fail;rw[<-Ga];clear Ga;go_upto_region 2 with(go_at_call 190;refine Nn.mono ?_;rintro e w3 ⟨rfl,oK⟩);obtain⟨VG,nO⟩:=HCB.out w3 oK (HQ.out w3 oK).1;have Tv:=HCH.out _ nO _ VG;obtain⟨⟨k0,k1,k2,k3⟩,k4,k5,k6⟩:=VG.cells;have PV:=HDN.out _ nO;have YX:Hid _:=nO;clear VG nO HCB HCH HQ HDR HDN Nn;generalize (w3.alloc (C #[I .u8 q,I V a,I V b,I V c] 99))=w4 at*;go_wp2_with (first|(go_at_call 50;refine PV.mono ?_;rintro e w4 ⟨rfl,rfl⟩)|(go_at_call 85;refine Tv.mono ?_;rintro e w5 ⟨rfl,hd5,hk5⟩));go_ret;exact⟨rfl,hd5,(Dk.bX (Fy.out.then YX.out)).trans hk5⟩
def Cj (buf:Int)(depth:Nat):Nat->dD->List UInt8->dD×Nat
 |0,m,_=>(m,0)
 |k+1,m,l=>match zR m l buf depth with
  |none=>(m,0)
  |some m'=>((Cj buf depth k m' (l.drop 22)).1,(Cj buf depth k m' (l.drop 22)).2+1)
theorem W_ {r:Int×Int×Int×Int×Int}(h:lQ l=M r):22<=l.length:=by
 unfold lQ at h;split at h
 ·cases h
 ·omega
theorem Zy (h:zR m l buf depth=M m')(hg:eD m depth)(hb:buf<=1000000):22<=l.length/\eD m' depth/\m'.2.2.2.1=m.2.2.2.1+1/\m'.2.2.2.2<=max buf m.2.2.2.2:=by
 unfold zR at h;split at h
 ·cases h
 ·rename_i d q a b c hr;refine⟨W_ hr,?_⟩;split at h;· cases h
  split at h;· cases h
  rename_i h1 h2;split at h;· cases h
  rename_i h3;simp only[AaU]at h;subst h;have h2:pX m q a b c 5000=0:=by simpa using h2
  unfold pX at h2;unfold gT;by_cases q1:q=73
  ·subst q1;rw[Aad rfl]at h2 ⊢;obtain⟨⟨i1,i2,i3,i4,i5,i6,i7⟩,i8⟩:=Rl (depth:=depth) h2
   have hl:m.2.2.2.2+c<=buf:=by
    have:¬buf<m.2.2.2.2+c:=fun hh=>h3 ⟨rfl,hh⟩;omega
   refine⟨IE hg i6 (by omega) (by omega),?_⟩;rw[i8];exact⟨rfl,by simp only;omega⟩
  ·rw[Aaa q1]at h2 ⊢;by_cases q2:q=68
   ·subst q2;rw[Aad rfl]at h2 ⊢;obtain⟨-,i8⟩:=Rm (depth:=depth) h2;refine⟨IG hg,?_⟩;rw[i8];exact⟨rfl,by simp only;omega⟩
   ·rw[Aaa q2]at h2 ⊢;by_cases q3:q=85
    ·subst q3;rw[Aad rfl]at h2 ⊢;obtain⟨e,rest,-,-,-,i8⟩:=Lg (depth:=depth) h2;refine⟨Yl hg,?_⟩;rw[i8];exact⟨rfl,by simp only;omega⟩
    ·rw[Aaa q3]at h2 ⊢;by_cases q4:q=82
     ·subst q4;rw[Aad rfl]at h2;obtain⟨e,rest,-,-,-,i8⟩:=Lh (depth:=depth) h2;refine⟨Ym hg,?_⟩;rw[i8];exact⟨rfl,by simp only;omega⟩
     ·rw[Aaa q4]at h2;omega
def Xe (buf:Int)(depth aF:Nat)(m:dD)(l:List UInt8)(k:Nat)(mk:dD):Prop:=Cj buf depth aF m l=((Cj buf depth (aF-k) mk (l.drop (22*k))).1,(Cj buf depth (aF-k) mk (l.drop (22*k))).2+k)
theorem Xe.next {aF:Nat}{mk:dD}{k:Nat}(h:Xe buf depth aF m l k mk)(hk:k<aF)(hr:zR mk (l.drop (22*k)) buf depth=M m'):Xe buf depth aF m l (k+1) m':=by
 unfold Xe at h ⊢;rw[h,show aF-k=(aF-(k+1))+1 from by omega,Cj,hr];simp only;rw[AdD,show 22*(k+1)=22*k+22 from by omega];exact Prod.ext rfl (by simp only;omega)
theorem Xe.done {aF:Nat}{mk:dD}{k:Nat}(h:Xe buf depth aF m l k mk)(hk:k<aF)(hr:zR mk (l.drop (22*k)) buf depth=O):Cj buf depth aF m l=(mk,k):=by
 unfold Xe at h;rw[h,show aF-k=(aF-(k+1))+1 from by omega,Cj,hr];simp
theorem Dk.vF {w':F}(hd:aV w dp tb depth m)(hk:Dk w w' (TX dp tb) (TX dp tb)):(∀ {s:Sc} {fv:Y} {rs:List FR},aU w db s fv rs->aU w' db s fv rs)/\(w.heap[lp]?=M (jM db ep)->w'.heap[lp]?=M (jM db ep))/\(∀ {ps:Nat->Addr},Gl w ps->Gl w' ps)/\∀ {b off:Nat} {l:List UInt8},pG w (M ⟨b,off,O⟩) l->(∃aS f,w.heap[b]?=M (C aS 5 f))->pG w' (M ⟨b,off,O⟩) l/\∃aS f,w'.heap[b]?=M (C aS 5 f):=by
 obtain⟨u,r,hb,ht,-,-⟩:=hd;have key:∀(b:Nat) (aS:Array Y) (t:TypeId) (f:Nat×Nat),w.heap[b]?=M (C aS t f)->t≠147->t≠160->¬TX dp tb b:=fun b aS t f h h1 h2=>tx_ty hb ht.ty h h1 h2;refine⟨fun hD=>hD.fr hk.1 (fun b hx=>?_),fun hl=>hk.1.at hl (key _ _ _ _ hl (by decide) (by decide)),fun hG=>hG.fr hk.1 (fun b aS h=>key _ _ _ _ h (by decide) (by decide)) (fun b aS t g h=>key _ _ _ _ h (g.ne (by decide)) (g.ne (by decide))) (fun b aS h=>key _ _ _ _ h (by decide) (by decide)) (fun b aS h=>key _ _ _ _ h (by decide) (by decide)),fun hr ht'=>?_⟩
 ·obtain⟨aS,t,Rf,h1,h2⟩:=hD.ty hx;rcases h2 with rfl|rfl|rfl|rfl<;>exact key _ _ _ _ h1 (by decide) (by decide)
 ·obtain⟨aS,f,h1⟩:=ht';exact⟨hr.fr hk.1 (fun a e=>by cases e;exact key _ _ _ _ h1 (by decide) (by decide)),aS,f,hk.1.at h1 (key _ _ _ _ h1 (by decide) (by decide))⟩
theorem xE (h:aU w db s fv rs)(hs:(plain rs).Pairwise (fun a b=>a.1<b.1))(n:Int):∃ao cap,wS rs n=Z ao (aO (plain rs) n).size cap/\(aO (plain rs) n).size<=cap/\((ao=O/\(aO (plain rs) n).size=0/\cap=0)\/∃b off,ao=M ⟨b,off,O⟩/\pG w (M ⟨b,off,O⟩) (aO (plain rs) n).data.toList/\∃aS f,w.heap[b]?=M (C aS 5 f)):=by
 have ho:=h.bytes hs n;have hlen:(aO (plain rs) n).data.toList.length=(aO (plain rs) n).size:=by simp
 rcases id ho with⟨e,h0⟩|⟨g,cap,aS,Rf,e,-,hh,-,hc,-⟩
 ·have h0':(aO (plain rs) n).size=0:=by rw[<-hlen,h0];rfl
  exact⟨O,0,by rw[e,h0'],by omega,Aac ⟨rfl,by omega,rfl⟩⟩
 ·refine⟨M ⟨g,0,O⟩,cap,by rw[e,hlen],by omega,Aab ⟨g,0,rfl,?_,aS,_,hh⟩⟩;obtain⟨ao,nH,e',hr,-⟩:=bI.form ho;rw[e]at e';cases e'
  exact hr
def RaD (w w':F)(dp tb depth:Nat)(m:dD)(buf:Int)(L:List UInt8)(SZ k:Nat):Prop:=∃m':dD,Cj buf depth (SZ / 22+1) m L=(m',k)/\aV w' dp tb depth m'/\eD m' depth/\(m'.2.2.2.1=m.2.2.2.1+k/\22*k<=SZ)/\Dk w w' (TX dp tb) (TX dp tb)
theorem DF (hL:w.heap[lp]?=M (jM db ep))(hd:aV w dp tb depth m)(hg:eD m depth)(hD:aU w db s fv rs)(hO:pJ 1000 s (plain rs))(hG:Gl w ps)(yD:0<=ep)(Hu:ep<=1000)(hD9:m.2.2.2.1<=1000000000)(N_:depth<=100):
 H K 82 #[U (M ⟨lp,0,O⟩),U (M ⟨dp,0,O⟩)] w fun e w'=> ∃(k R:Nat),e=G (I V (R:Int))/\R=22*k/\RaD w w' dp tb depth m ((aO (plain rs) 1).size:Int) (aO (plain rs) (10+ep)).data.toList (aO (plain rs) (10+ep)).size k:=by
 have hl:rs.length<=1000:=by have:=hO.len;rw[bN]at this;exact this
 have jW:(aO (plain rs) (10+ep)).size<=1000000/\(aO (plain rs) 1).size<=1000000:=by
  have h1:=gD hO.inv (10+ep);have h2:=gD hO.inv 1;have h3:=hO.cK.kI;exact⟨by omega,by omega⟩
 have hJ:=qB hL yD (by omega);have hB:=wU (n:=10+ep) hD hO.inv.sort.1 (by omega);obtain⟨ao,cap,ev,iI,Hw⟩:=xE hD hO.inv.sort.1 (10+ep);rw[ev]at hB;have hJq:Hid (∀W,aL w W->H K 88 #[U (M ⟨lp,0,O⟩)] W fun e w'=>e=G (I V (10+ep))/\∃q,w'=W.drewN q):=fun W hW=>(qB ((hW.block _ (aM hL)).trans hL) yD (by omega)).mono (by rintro e w' ⟨rfl,rfl⟩;exact⟨rfl,0,rfl⟩);have hBq:Hid (∀W,aL w W->H K 119 #[U (M ⟨db,0,O⟩),I V (10+ep)] W fun e w'=>e=G (Z ao (aO (plain rs) (10+ep)).size cap)/\∃q,w'=W.drewN q):=fun W hW=>(wU (n:=10+ep) (hD.aN hW) hO.inv.sort.1 (by omega)).mono (by rintro e w' ⟨rfl,rfl⟩;rw[ev];exact⟨rfl,0,rfl⟩);obtain⟨c0,-⟩:=gU hL;generalize PE:(aO (plain rs) (10+ep)).data.toList=L at*;have hSZ:L.length=(aO (plain rs) (10+ep)).size:=by rw[<-PE];simp
 generalize (aO (plain rs) (10+ep)).size=SZ at*
 have HRP:Hid (∀wr mk (k:Nat),Dk w wr (TX dp tb) (TX dp tb)->aV wr dp tb depth mk->eD mk depth->mk.2.2.2.1<=2000000000->22*k<=SZ->∀Gq,(ao=O->Gq=O)->(∀b off,ao=M ⟨b,off,O⟩->Gq=if cap=22*k then M ⟨b,off,O⟩else M ⟨b,off+22*k,O⟩)->
  (zR mk (L.drop (22*k)) ((aO (plain rs) 1).size:Int) depth=O->H K 125 #[U (M ⟨lp,0,O⟩),U (M ⟨dp,0,O⟩),Z Gq (SZ-22*k) (cap-22*k)] wr fun e w'=>e=G (.bool false)/\aL wr w')/\
  (∀m',zR mk (L.drop (22*k)) ((aO (plain rs) 1).size:Int) depth=M m'->H K 125 #[U (M ⟨lp,0,O⟩),U (M ⟨dp,0,O⟩),Z Gq (SZ-22*k) (cap-22*k)] wr fun e w'=>e=G (.bool true)/\aV w' dp tb depth m'/\Dk wr w' (TX dp tb) (TX dp tb))):=fun wr mk k hk hdk hgk tX hkz Gq ha1 ru=>by
  obtain⟨z1,z2,z3,z4⟩:=Dk.vF (lp:=lp) (db:=db) (ep:=ep) hd hk
  have hRR:∀W,aL wr W->H K 190 #[Z Gq (SZ-22*k) (cap-22*k)] W fun e w'=>e=Pq (lQ (L.drop (22*k)))/\aL W w':=fun W hW=>by
   by_cases hsh:SZ-22*k<22
   ·have e1:lQ (L.drop (22*k))=O:=(by unfold lQ;rw[Aad (by rw[AaP];omega)]);rw[e1];exact Hq hsh
   ·rcases Hw with⟨-,h0,-⟩|⟨b,off,rfl,hr,ht⟩
    ·omega
    ·have e:=ru b off rfl;rw[Aaa (by omega)]at e;subst e;obtain⟨Bt,-⟩:=z4 hr ht;have:=QC (cap:=cap-22*k) ((Bt.aN hW).drop (22*k)) (by rw[AaP];omega) (by rw[AaP];omega);rw[AaP,hSZ]at this;exact this
  exact⟨fun e=>ZK (z2 hL) hdk hgk (z1 hD) hO (z3 hG) hRR tX e,fun m' e=>QV (z2 hL) hdk hgk (z1 hD) hO (z3 hG) hRR tX N_ e⟩
 have FE:Hid (aV w dp tb depth m/\eD m depth):=⟨hd,hg⟩;clear hB hJ hL hD hG hd hg ev;go_enter func82,ntmps82;go_wp2_with fail;go_quiet (first|(go_at_call 88;exact Acm (hJq.out _ (bB (aL.refl w) _)))|(go_at_call 119;exact Acm (hBq.out _ (bB (aL.refl w) _))))
 go_wp2
 go_loopw [6] (fun v wr=> ∃(k R:Nat) (mk:dD),v=I V (R:Int)/\Hid (R=22*k)/\R<=SZ/\Hid (Xe ((aO (plain rs) 1).size:Int) depth (SZ / 22+1) m L k mk)/\Hid (aV wr dp tb depth mk/\eD mk depth)/\mk.2.2.2.1=m.2.2.2.1+(k:Int)/\Hid (Dk w wr (TX dp tb) (TX dp tb))) (fun v _=>SZ-(intOf v).toNat)
 case atStart=>exact⟨0,0,m,rfl,rfl,Aap _,(by show Xe _ _ _ _ _ _ _;unfold Xe;simp),⟨FE.out.1.aN (bB (aL.refl w) _),FE.out.2⟩,by simp,Dk.bX (bB (aL.refl w) _)⟩
 case round=>
  obtain⟨k,R,mk,rfl,JG,hRS,HRk,HDk,hdk,HKk⟩:=hrel;have hRk:=JG.out;have hrp:=HRP.out wr mk k HKk.out HDk.out.1 HDk.out.2 (by omega) (by omega);rw[<-hRk]at hrp;have i1:(0:Int)<=(R:Int):=by omega
  have i2:(R:Int)<=(SZ:Int):=by omega
  have HF:Hid ((ao=O/\SZ=0/\cap=0)\/∃b off,ao=M ⟨b,off,O⟩):=by
   rcases Hw with h|⟨b,off,e,-⟩
   ·exact Aac h
   ·exact Aab ⟨b,off,e⟩
  have hkF:k<SZ / 22+1:=by omega
  clear Hw;rcases HF.out with⟨e1,e2,e3⟩|⟨b,off,rfl⟩
  ·have mh:R=0:=(by omega);have hk0:k=0:=(by omega);subst hk0 mh
   have Sz:zR mk (L.drop 0) ((aO (plain rs) 1).size:Int) depth=O:=by
    unfold zR;have:lQ (L.drop 0)=O:=(by unfold lQ;rw[Aad (by simp;omega)]);rw[this]
   have fT:=(hrp O (fun _=>rfl) (fun b off e=>by rw[e1]at e;cases e)).1 Sz;have HEE:Hid _:=HRk.out.done (by omega) Sz;rw[e2,e3]at fT;subst e1;clear hrp hRk Sz HRk;have XU:Hid (SZ=0/\cap=0):=⟨e2,e3⟩;subst e2 e3;go_wp2_with (go_at_call 125;refine fT.mono ?_;rintro e w4 ⟨rfl,nO⟩);go_ret;exact⟨0,0,rfl,rfl,mk,HEE.out,HDk.out.1.aN nO,HDk.out.2,⟨hdk,by omega⟩,HKk.out.Ht nO⟩
  ·have hdd:Hid (mk.2.2.2.1=m.2.2.2.1+(k:Int)/\L.length=SZ/\(aO (plain rs) 1).size<=1000000/\k<SZ / 22+1):=⟨hdk,hSZ,jW.2,hkF⟩;have hS9:=jW.1;clear hRk hdk hSZ PE hkF jW;by_cases hcR:cap=R
   ·have Sz:zR mk (L.drop R) ((aO (plain rs) 1).size:Int) depth=O:=by
     unfold zR;have:lQ (L.drop R)=O:=(by unfold lQ;rw[Aad (by rw[AaP,hdd.out.2.1];omega)]);rw[this]
    have fT:=(hrp (M ⟨b,off,O⟩) (fun e=>by cases e) (fun b' Qf e=>by cases e;rw[Aad hcR])).1 Sz;have HEE:Hid _:=HRk.out.done hdd.out.2.2.2 (by rw[<-JG.out];exact Sz);rw[show cap-R=0 from by omega]at fT;clear hrp HRk Sz;go_wp2_with (go_at_call 125;refine fT.mono ?_;rintro e w4 ⟨rfl,nO⟩);go_ret;exact⟨k,R,rfl,JG.out,mk,HEE.out,HDk.out.1.aN nO,HDk.out.2,⟨hdd.out.1,by have:=JG.out;omega⟩,HKk.out.Ht nO⟩
   ·obtain⟨Pf,Q_⟩:=hrp (M ⟨b,off+R,O⟩) (fun e=>by cases e) (fun b' Qf e=>by cases e;rw[Aaa hcR]);cases QW:zR mk (L.drop R) ((aO (plain rs) 1).size:Int) depth with
    |none=>
     have HEE:Hid _:=HRk.out.done hdd.out.2.2.2 (by rw[<-JG.out];exact QW);have fT:=Pf QW;clear Pf Q_ HRk QW hrp;go_wp2_with (go_at_call 125;refine fT.mono ?_;rintro e w4 ⟨rfl,nO⟩);go_ret;exact⟨k,R,rfl,JG.out,mk,HEE.out,HDk.out.1.aN nO,HDk.out.2,⟨hdd.out.1,by have:=JG.out;omega⟩,HKk.out.Ht nO⟩
    |some m'=>
     have ZC:Hid (22<=SZ-R/\eD m' depth/\m'.2.2.2.1=mk.2.2.2.1+1):=by
      obtain⟨f1,f2,f3,-⟩:=Zy QW HDk.out.2 (by have:=hdd.out.2.2.1;omega);rw[AaP,hdd.out.2.1]at f1;exact⟨f1,f2,f3⟩
     have HRn:Hid _:=HRk.out.next hdd.out.2.2.2 (by rw[<-JG.out];exact QW);have fT:=Q_ m' QW;clear Pf Q_ HRk QW hrp;go_wp2_with (go_at_call 125;refine fT.mono ?_;rintro e w4 ⟨rfl,hd4,hk4⟩);go_roundw
     case rel=>exact⟨k+1,R+22,m',by go_num,by have:=JG.out;show _=_;omega,by have:=ZC.out.1;omega,HRn,⟨hd4,ZC.out.2.1⟩,by rw[ZC.out.2.2,hdd.out.1];omega,HKk.out.trans hk4⟩
     case measure=>have:=ZC.out.1;simp[intOf];omega
theorem Lm {right:Bool}(h:iP right st=M l):right=true/\st=M l:=by
 unfold iP at h;split at h
 ·rename_i hr;exact⟨hr,h⟩
 ·cases h
theorem VH:∀(N:Nat) (out:List (Int×Int)) (l:List UInt8) (q:List (Int×Int)×List UInt8),tQ bf out->vK bf N out l=M q->tQ bf q.1
 |0,out,l,q,h,e=>by simp[vK]at e;subst e;exact h
 |N+1,out,l,q,h,e=>by
  rw[vK]at e;cases hs:(uG bf l).2 with
  |none=>rw[hs]at e;cases e
  |some l'=>
   rw[hs]at e;obtain⟨q1,q2,q3,q4⟩:=Us hs;refine VH N _ _ _ (fun p hp=>?_) e;rcases Aba.1 hp with hp|hp
   ·exact h p hp
   ·simp at hp;subst hp;exact⟨q2,q3,q1,q4⟩
theorem Jj (h:(aR bf st).2=M l):tQ bf (aR bf st).1/\sz (aR bf st).1<=5000/\∃l0,st=M l0:=by
 have h0:∃l0,st=M l0:=by
  cases st with
  |none=>rw[CZ]at h;cases h
  |some l0=>exact⟨l0,rfl⟩
 refine⟨?_,?_,h0⟩
 ·unfold aR at h ⊢;split at h
  ·cases h
  ·cases hc:vK bf (aT 0 4096 st).1.toNat [] _ with
   |none=>rw[hc]at h;simp[Ll]at h
   |some q=>exact VH _ _ _ _ (sO bf) hc
 ·unfold aR at h ⊢;split at h
  ·cases h
  ·cases hc:vK bf (aT 0 4096 st).1.toNat [] _ with
   |none=>rw[hc]at h;simp[Ll]at h
   |some q=>
    rw[hc]at h;simp only[Ll]at h ⊢;exact Acp (Lm h).1
theorem red_in {l':List UInt8}(h:(vL bf l).2=M l'):0<=(vL bf l).1.1/\tQ bf (vL bf l).1.2.1/\tQ bf (vL bf l).1.2.2:=by
 unfold vL at h ⊢;simp only at h ⊢;obtain⟨h1,-,l2,e2⟩:=Jj h;obtain⟨h3,-,-⟩:=Jj e2;exact⟨(yE _ _ _).1,h3,h1⟩
theorem VI:∀(N:Nat) (out:List Ed) (l:List UInt8) (q:List Ed×List UInt8),(∀e∈out,0<=e.1/\tQ bf e.2.1/\tQ bf e.2.2)->xS bf N out l=M q->∀e∈q.1,0<=e.1/\tQ bf e.2.1/\tQ bf e.2.2
 |0,out,l,q,h,e=>by simp[xS]at e;subst e;exact h
 |N+1,out,l,q,h,e=>by
  rw[xS]at e;cases hs:(vL bf l).2 with
  |none=>rw[hs]at e;cases e
  |some l'=>
   rw[hs]at e;refine VI N _ _ _ (fun p hp=>?_) e;rcases Aba.1 hp with hp|hp
   ·exact h p hp
   ·simp at hp;subst hp;exact red_in hs
theorem Zz (h:(bA bf st).2=M l):(∀e∈(bA bf st).1,0<=e.1/\tQ bf e.2.1/\tQ bf e.2.2)/\∃l0,st=M l0:=by
 have h0:∃l0,st=M l0:=by
  cases st with
  |none=>rw[Ec]at h;cases h
  |some l0=>exact⟨l0,rfl⟩
 refine⟨?_,h0⟩;unfold bA at h ⊢;split at h
 ·cases h
 ·cases hc:xS bf (aT 0 50 st).1.toNat [] _ with
  |none=>rw[hc]at h;simp[CY]at h
  |some q=>exact VI _ _ _ _ (fun e he=>by simp at he) hc
def Qo (m:dD)(depth:Nat):dD:=(m.1,m.2.1.take depth,m.2.2.1.take depth,m.2.2.2)
theorem Uv {e:Int}(h:yM l buf=M (e,m))(dY:buf<=1000000)(depth:Nat):(1<=e/\e<=999)/\eD (Qo m depth) depth/\m.2.2.2.1<=1000000000/\m.2.2.2.2<=buf/\m.2.1.length<=50/\m.2.2.1.length<=50/\tQ m.2.2.2.2 m.1:=by
 unfold yM at h;split at h
 ·cases h
 ·rename_i body hu;simp only at h;split at h
  ·cases h
  ·rename_i lz hz;simp only[AaU,Adq]at h;obtain⟨rfl,rfl⟩:=h;obtain⟨f2,hz⟩:=Lm hz;obtain⟨f1,hz⟩:=Lm hz;obtain⟨-,hz⟩:=Lm hz;obtain⟨r1,lu,eu⟩:=Zz hz;obtain⟨u1,lt,et⟩:=Zz eu;obtain⟨t1,t2,lb,eb⟩:=Jj et;obtain⟨b1,b2,ld,ed,-⟩:=wB eb;obtain⟨d1,d2,le,ee,-⟩:=wB ed;obtain⟨e1,e2,-⟩:=wB ee;have hp:=sK (bf:=(aT 0 buf (aT 0 1000000000 (aT 1 999 (uF 75 (M body))).2).2).1) (by omega) (aT 0 buf (aT 0 1000000000 (aT 1 999 (uF 75 (M body))).2).2).2;have Il:=zQ (bf:=(aT 0 buf (aT 0 1000000000 (aT 1 999 (uF 75 (M body))).2).2).1) (by omega) (aR (aT 0 buf (aT 0 1000000000 (aT 1 999 (uF 75 (M body))).2).2).1 (aT 0 buf (aT 0 1000000000 (aT 1 999 (uF 75 (M body))).2).2).2).2;have Gz:=zQ (bf:=(aT 0 buf (aT 0 1000000000 (aT 1 999 (uF 75 (M body))).2).2).1) (by omega) (bA (aT 0 buf (aT 0 1000000000 (aT 1 999 (uF 75 (M body))).2).2).1 (aR (aT 0 buf (aT 0 1000000000 (aT 1 999 (uF 75 (M body))).2).2).1 (aT 0 buf (aT 0 1000000000 (aT 1 999 (uF 75 (M body))).2).2).2).2).2;refine⟨⟨e1,e2⟩,?_,d2,b2,Il.2,Gz.2,t1⟩;have g2:=f2;rw[Rn (fun e he=>(r1 e he).1)]at g2;have g1:=f1;rw[Rn (fun e he=>by obtain⟨e0,h0,rfl⟩:=AaY.1 he;exact(u1 e0 h0).1)]at g1;rw[List.map_map]at g1;refine { Dt:=b1,Ch:=by simp only[Qo];omega,text:=t1,long:=t2,few:=hp.2.1,jA:=fun e he=>u1 e (AaX he),jO:=fun e he=>r1 e (AaX he),Wq:=by simp only[Qo,Aaw];omega,IB:=by simp only[Qo,Aaw];omega,IC:=?_,XQ:=?_,done:=d1 }
   ·simp only[Qo];rw[AbB];exact zD _ _ _ g1
   ·simp only[Qo];rw[AbB];exact zD _ _ _ g2
end Go.Proofs.YtfplgfodoiiobaaGreatDoor
