/- RefT, RefS, RefU (joined). -/
import Derived.Test.YtfplgfodoiiobaaGreatDoorJ12
open Option renaming none→O,some→M
open Go.Value renaming int→I,slice→Z,pointer→U
open Go.IntKind renaming i64→V
open Go.Obj renaming cells→C
open Go.Ending renaming returned→G
open Go renaming World→F,Calls→H
open Go.Proofs.Tryz renaming prog→K
namespace Go.Proofs.YtfplgfodoiiobaaGreatDoor
set_option maxHeartbeats 1000000
set_option maxRecDepth 100000
open Go.RowKit
variable {w:F}{xb:Nat}{s:Sc}{f:bS}{fs:List bE}{m:dF}{n:Int}{r:fF}
def After (w w':F)(xb:Nat)(s:Sc)(fs:List bE)(m:dF)(f:bS):Prop:=∃f':bS,bH w' xb s fs m f'/\jN w w' xb f f'
theorem gM {room:Int}(h:gN room fs)(n:Int):((aP fs n).size:Int)<=room:=by
 have h2:=h.used;rw[fU];cases e:iB fs n with
 |none=>simp[Yy];have:=qK fs;omega
 |some f=>have:=vH (wF e).1;simp;omega
theorem Zb {k:Int}(h:bH w xb s fs m f)(hl:fs.length<=80000)(hc:jO s)(hI:gN s.room fs)(h0:0<=k):
 H K 169 #[U (M ⟨xb,0,O⟩),I V n,I V k] w fun e w'=>e=G (.bool (bP s fs n k).1)/\After w w' xb (bP s fs n k).2.1 (bP s fs n k).2.2 m f:=by
 have HS:Hid (bH w xb s fs m f):=h;have dV:=Ih h (by omega) hI.ok hc.Om hc.Av hc.oH;obtain⟨r,hx,hf,hm⟩:=h;have hB:=vF (n:=n) hx hf (by omega);have hbz:((aP fs n).size:Int)<=1000000:=by have:=gM hI n;have:=hc.kM;omega
 clear hx hf hm;by_cases e1:((aP fs n).size:Int)<=k
 ·have HE:Hid (bP s fs n k=(true,s,fs)):=by show _=_;unfold bP;rw[if_pos e1]
  clear dV;go_enter Tryz.func169,Tryz.ntmps169
  go_wp2_with fail
  refine hB.mono ?_;rintro e w ⟨rfl,rfl⟩
  go_wp2_with fail
  go_ret;rw[HE.out];exact⟨rfl,f,HS.out,jN.refl _ _ _⟩
 ·rcases sK hc hI with⟨s',e,hd⟩|⟨s',fZ,e,hd⟩
  ·have HE:Hid (bP s fs n k=(true,s',xX fs (n,(aP fs n).extract 0 k.toNat,k) (-1))):=by show _=_;unfold bP;rw[if_neg e1,e];rfl
   rw[e]at dV;simp only at dV;clear e hd;go_enter Tryz.func169,Tryz.ntmps169
   go_wp2_with fail
   refine hB.mono ?_;rintro e w ⟨rfl,rfl⟩;clear hB
   go_wp2_with fail
   refine dV.mono ?_;rintro e w1 ⟨rfl,f1,⟨r1,mU,Aw,Bo⟩,xG⟩;clear dV
   go_wp2_with fail
   refine(Ig (f:=(n,(aP fs n).extract 0 k.toNat,k)) (but:= -1) mU Aw (by omega)).mono ?_;rintro e w2 ⟨rfl,f2,w3,rfl,Km,Ej,EN⟩;have zH:=(Ej.block xb (aM mU)).trans mU;have tX:bH (w3.setCell ⟨xb,3,O⟩ f2.v) xb s' (xX fs (n,(aP fs n).extract 0 k.toNat,k) (-1)) m f2:=⟨r1,oQ zH,Km.iV zH,(Bo.aN Ej).iV zH⟩;have hdid:jN w (w3.setCell ⟨xb,3,O⟩ f2.v) xb f f2:=((xG.aN Ej).row (fun a e=>Nat.le_trans xG.1.1 (EN a e))).set;clear mU Aw Bo xG Km Ej EN zH
   go_wp2_with fail
   go_ret;rw[HE.out];exact⟨rfl,f2,tX,hdid⟩
  ·have HE:Hid (bP s fs n k=(false,s',fZ)):=by show _=_;unfold bP;rw[if_neg e1,e];rfl
   rw[e]at dV;simp only at dV;clear e hd;go_enter Tryz.func169,Tryz.ntmps169
   go_wp2_with fail
   refine hB.mono ?_;rintro e w ⟨rfl,rfl⟩;clear hB
   go_wp2_with fail
   refine dV.mono ?_;rintro e w1 ⟨rfl,f1,oI,xG⟩;clear dV
   go_wp2_with fail
   go_ret;rw[HE.out];exact⟨rfl,f1,oI,xG⟩
theorem bn {l:List bE}{i:Nat}{f:bE}(h:l[i]?=M f)(v:Int):Oj (l.set i (f.1,f.2.1,v))=(Oj l).set (i*3+2) (I V v):=by
 have bT:=(List.getElem?_eq_some_iff.1 h).1;obtain⟨a,b,c⟩:=Pj l i f h;rw[<-QH l i (f.1,f.2.1,v) bT]
 have e1:(Oj l).set (i*3) (I V f.1)=Oj l:=by
  refine List.ext_getElem? (fun j=>?_);rw[List.getElem?_set];split
  ·rename_i hj;subst hj;rw[a];split
   ·rfl
   ·rename_i hn;have:=(List.getElem?_eq_some_iff.1 a).1;omega
  ·rfl
 rw[e1]
 have e2:(Oj l).set (i*3+1) (.string f.2.1)=Oj l:=by
  refine List.ext_getElem? (fun j=>?_);rw[List.getElem?_set];split
  ·rename_i hj;subst hj;rw[b];split
   ·rfl
   ·rename_i hn;have:=(List.getElem?_eq_some_iff.1 b).1;omega
  ·rfl
 rw[e2]
theorem Uq.put2 {b off i:Nat}{l:List bE}{f:bE}(h:Uq w (M ⟨b,off,O⟩) l)(hf:l[i]?=M f)(v:Int):Uq (w.setCell ⟨b,off+i*3+2,O⟩ (I V v)) (M ⟨b,off,O⟩) (l.set i (f.1,f.2.1,v)):=by
 obtain⟨h1,h2⟩:=h;obtain⟨aS,hb⟩:=h2 _ rfl;simp only at hb;refine⟨?_,fun a e=>?_⟩
 ·rcases h1 with rfl|⟨b',Oh,e,hc⟩
  ·simp at hf
  ·cases e
   refine Or.inr ⟨b,off,rfl,fun j u hu=>?_⟩;rw[bn hf,List.getElem?_set]at hu;by_cases hj:i*3+2=j
   ·subst hj;simp only[if_true]at hu;split at hu
    ·cases hu
     have h3:=hc _ _ (Pj l i f hf).2.2;rw[<-Nat.add_assoc]at h3 ⊢;exact World.cell?_setCell_same _ _ _ h3
    ·cases hu
   ·rw[if_neg hj]at hu;rw[World.cell?_setCell_other _ _ _ _ (by intro e;simp only[Addr.mk.injEq]at e;omega)];exact hc j u hu
 ·cases e
  exact⟨_,heap_setCell_same w b _ _ _ _ hb⟩
theorem Wu (h:bH w xb s fs m f)(hl:fs.length<=80000)(hc:jO s)(hI:gN s.room fs):
 H K 170 #[U (M ⟨xb,0,O⟩),I V n] w fun e w'=>e=G (.bool (dH s fs n).1)/\After w w' xb (dH s fs n).2.1 (dH s fs n).2.2 m f:=by
 have HS:Hid (bH w xb s fs m f):=h;have dV:=Ih h (by omega) hI.ok hc.Om hc.Av hc.oH;obtain⟨r,hx,hf,hm⟩:=h;have hA:=Lc (n:=n) hx hf (by omega)
 clear hx hf hm;cases hp:qH fs n with
 |none=>
  have HE:Hid (dH s fs n=(true,s,fs)):=by show _=_;unfold dH;rw[hp]
  have e1:rG fs n= -1:=by unfold rG;rw[hp]
  rw[e1]at hA;clear dV hp e1;go_enter Tryz.func170,Tryz.ntmps170
  go_wp2_with fail
  refine hA.mono ?_;rintro e w ⟨rfl,rfl⟩
  go_wp2_with fail
  go_ret;rw[HE.out];exact⟨rfl,f,HS.out,jN.refl _ _ _⟩
 |some i=>
  have bT:=Pm hp;have e1:rG fs n=(i:Int):=by unfold rG;rw[hp]
  rw[e1]at hA;clear e1;have i1:(0:Int)<=(i:Int):=by omega
  have i2:(i:Int)<(fs.length:Int):=by omega
  have i3:¬(i:Int)<0:=by omega
  obtain⟨fi,Qy,hff,dh⟩:=wE hp;have Oi:aP fs n=fi.2.1:=by rw[fU,hff];rfl
  have hbz:(fi.2.1.size:Int)<=1000000:=by have:=gM hI n;have:=hc.kM;rw[Oi]at*;omega
  rcases sK hc hI with⟨s',e,hd⟩|⟨s',fZ,e,hd⟩
  ·have HE:Hid (dH s fs n=(true,s',fs.set i (fi.1,fi.2.1,(fi.2.1.size:Int)))):=by show _=_;unfold dH;rw[hp];simp only;rw[e];simp only[if_true];rw[Oi,dh]
   rw[e]at dV;simp only at dV;have HF:Hid (fs[i]?=M fi):=Qy;clear e hd hp hff dh Oi Qy;go_enter Tryz.func170,Tryz.ntmps170
   go_wp2_with fail
   refine hA.mono ?_;rintro e w ⟨rfl,rfl⟩;clear hA
   go_wp2_with fail
   refine dV.mono ?_;rintro e w1 ⟨rfl,f1,⟨r1,mU,Aw,Bo⟩,xG⟩;clear dV;have c3:=iX mU;obtain⟨fo,fl,fc⟩:=f1;have HQ:Hid (gU w1 (fo,fl,fc) fs):=Aw;obtain⟨q1,q2,q3⟩:=Aw;simp only at q1 q2 q3;subst q2;simp only[bS.v]at c3;obtain⟨bb,off,rfl,p1,p2,p3⟩:=q1.at HF.out;obtain⟨aS,UC⟩:=q1.2 _ rfl;simp only at UC;have UD:w1.frozen? ⟨bb,off+i*3+2,O⟩=false:=by simp[World.frozen?,UC]
   have hne:bb≠xb:=fun e=>by subst e;exact bX UC mU (gJ (by decide))
   have Yw:(w1.setCell ⟨bb,off+i*3+2,O⟩ (I V (fi.2.1.size:Int))).heap[xb]?=M (bM s' (M ⟨bb,off,O⟩,fs.length,fc) r1):=(heap_setCell_other w1 _ xb _ (Ne.symm hne)).trans mU
   have tX:bH (w1.setCell ⟨bb,off+i*3+2,O⟩ (I V (fi.2.1.size:Int))) xb s' (fs.set i (fi.1,fi.2.1,(fi.2.1.size:Int))) m (M ⟨bb,off,O⟩,fs.length,fc):=by
    refine⟨r1,Yw,⟨q1.put2 HF.out _,by simp,q3⟩,?_⟩;exact Bo.fr (Fr.set w1 ⟨bb,off+i*3+2,O⟩ _) (fun b cu e he=>by subst he;exact bX e UC (gJ (by decide))) (fun b cu e he=>by subst he;exact bX e UC (gJ (by decide)))
   have hdid:jN w (w1.setCell ⟨bb,off+i*3+2,O⟩ (I V (fi.2.1.size:Int))) xb f (M ⟨bb,off,O⟩,fs.length,fc):=by
    refine xG.trans ⟨?_,⟨rfl,rfl,rfl⟩,Or.inl rfl⟩;obtain⟨a1,a2⟩:=Fr.set w1 ⟨bb,off+i*3+2,O⟩ (I V (fi.2.1.size:Int));exact⟨a1,fun b hb hn=>a2 b hb (fun e=>hn (Or.inr ⟨_,rfl,e⟩))⟩
   have k1:(w1.setCell ⟨bb,off+i*3+2,O⟩ (I V (fi.2.1.size:Int))).cell? ⟨bb,off+i*3+1,O⟩=M (.string fi.2.1):=by rw[World.cell?_setCell_other _ _ _ _ (by intro e;simp only[Addr.mk.injEq]at e;omega)];exact p2
   have k3:(w1.setCell ⟨bb,off+i*3+2,O⟩ (I V (fi.2.1.size:Int))).cell? ⟨xb,3,O⟩=M (Z (M ⟨bb,off,O⟩) fs.length fc):=by rw[World.cell?_setCell_far _ _ _ _ hne];exact c3
   clear mU Bo xG q1 q3 UC Yw HQ p1
   go_upto_region 6 with fail
   go_region_held3 (fun w'=>w'.cell? ⟨xb,3,O⟩=M (Z (M ⟨bb,off,O⟩) fs.length fc)/\w'.cell? ⟨bb,off+i*3+1,O⟩=M (.string fi.2.1)) (first|go_keep|(exact⟨k3,k1⟩)) (fail)
   all_goals go_wp2_with fail
   all_goals go_ret
   rw[HE.out];exact⟨rfl,_,tX,hdid⟩
  ·have HE:Hid (dH s fs n=(false,s',fZ)):=by show _=_;unfold dH;rw[hp];simp only;rw[e];rfl
   rw[e]at dV;simp only at dV;clear e hd hp hff dh Oi Qy;go_enter Tryz.func170,Tryz.ntmps170
   go_wp2_with fail
   refine hA.mono ?_;rintro e w ⟨rfl,rfl⟩;clear hA
   go_wp2_with fail
   refine dV.mono ?_;rintro e w1 ⟨rfl,f1,oI,xG⟩;clear dV
   go_wp2_with fail
   go_ret;rw[HE.out];exact⟨rfl,f1,oI,xG⟩
theorem Nh (h:w.heap[xb]?=M (bM s f r)):w.cell? ⟨xb,2,O⟩=M (I V s.room):=by simp[World.cell?,h,bM]
theorem sM (b:Bool)(h:w.heap[xb]?=M (bM s f r)):(w.setCell ⟨xb,11,O⟩ (.bool b)).heap[xb]?=M (bM { s with ro:=b } f r):=by rw[heap_setCell_same w xb 11 _ _ _ h];rfl
def Ni (s:Sc)(fs:List bE)(n:Int)(b:ByteArray):Int×Sc×List bE:=
 if (dK s fs).1 then (0,(dK s fs).2.1,xX (dK s fs).2.2 (kW (dK s fs).2.2 n b) (-1))else (10,(dK s fs).2.1,(dK s fs).2.2)
theorem Iw {b:ByteArray}(h:bH w xb s fs m f)(hl:fs.length<=80000)(hc:jO s)(hI:gN s.room fs)(hb:b.size<=2000000):
 H K 163 #[U (M ⟨xb,0,O⟩),I V n,.string b] w fun e w'=>e=G (I V (bQ s fs n b).1)/\After w w' xb (bQ s fs n b).2.1 (bQ s fs n b).2.2 m f:=by
 obtain⟨r,hx,hf,hm⟩:=h;have HF:Hid (gU w f fs):=hf;have c2:=Nh hx;have c3:=iX hx;obtain⟨c8,c9,Nj⟩:=Ij hx;obtain⟨-,-,-,-,-,-,cf⟩:=iY hx;have f8:=cf 8;have f9:=cf 9;have f11:=cf 11;clear cf;have hu:=hI.used;have r1:=hc.kM;have hun:=qK fs;have l0:=hc.Ey;have l1:=hc.Ir;obtain⟨fo,fl,fc⟩:=f;obtain⟨q1,q2,q3⟩:=hf;simp only at q1 q2 q3;subst q2;simp only[bS.v]at c3;have HX:Hid (w.heap[xb]?=M (bM s (fo,fs.length,fc) r)):=hx;clear hx;go_enter Tryz.func163,Tryz.ntmps163
 go_wp2_with fail
 go_loop [7,8] (fun u i=> ∃k:Nat,k<=fs.length/\i=I V (k:Int)/\u=I V (bY (fs.take k))) (fun _ i=>fs.length-(intOf i).toNat)
 case atStart=>exact⟨0,Nat.zero_le _,rfl,rfl⟩
 case round=>
  obtain⟨k,hk,rfl,rfl⟩:=hrel;have hu1:=Ew fs k;have ZC:=qK (fs.take k);by_cases bT:k<fs.length
  ·obtain⟨⟨gn,gb,gs⟩,hg⟩:∃g,fs[k]?=M g:=⟨_,List.getElem?_eq_getElem bT⟩;have HT:Hid (bY (fs.take (k+1))=bY (fs.take k)+(gb.size:Int)):=zT hg;have hgb:(gb.size:Int)<=bY fs:=vH (List.mem_of_getElem? hg);obtain⟨bb,off,rfl,p1,p2,p3⟩:=q1.at hg;simp only at p1 p2 p3;have i1:(0:Int)<=(k:Int):=by omega
   have i2:(k:Int)<(fs.length:Int):=by omega
   clear hg q1
   go_wp2_with fail
   go_round
   case rel=>exact⟨k+1,by omega,by go_num,by rw[HT.out]⟩
   case measure=>simp[intOf];omega
  ·have e1:fs.take k=fs:=List.take_of_length_le (by omega);rw[e1];clear e1 hu1 ZC q1 q3;by_cases e8:s.refusing=true/\s.left=0
   ·have HE:Hid (bQ s fs n b=(9,{ s with refusing:=false,ro:=true },fs)):=by show _=_;unfold bQ;rw[if_pos e8]
    obtain⟨e8,e9⟩:=e8;rw[e8]at c8;rw[e9]at c9;have mU:=Rf false HX.out
    go_wp2_with fail
    go_ret;rw[HE.out];exact⟨rfl,_,⟨r,sM true mU,(HF.out.iV HX.out).iV mU,(hm.iV HX.out).iV mU⟩,(jN.refl _ _ _).set.set⟩
   ·by_cases hR:s.room<bY fs+(b.size:Int)
    ·have HE:Hid (bQ s fs n b=(9,{ s with ro:=true },fs)):=by show _=_;unfold bQ;rw[if_neg e8,if_pos hR]
     by_cases e9:s.refusing=true
     ·have e10:¬s.left=0:=fun e=>e8 ⟨e9,e⟩
      have e11:(s.left==0)=false:=by simp[e10]
      rw[e9]at c8;clear e8
      go_wp2_with fail
      go_ret;rw[HE.out];exact⟨rfl,_,⟨r,sM true HX.out,HF.out.iV HX.out,hm.iV HX.out⟩,(jN.refl _ _ _).set⟩
     ·have e9':s.refusing=false:=by simpa using e9
      rw[e9']at c8;clear e8
      go_wp2_with fail
      go_ret;rw[HE.out];exact⟨rfl,_,⟨r,sM true HX.out,HF.out.iV HX.out,hm.iV HX.out⟩,(jN.refl _ _ _).set⟩
    ·by_cases e9:s.refusing=true
     ·have e10:¬s.left=0:=fun e=>e8 ⟨e9,e⟩
      have e11:(s.left==0)=false:=by simp[e10]
      have HE:Hid (bQ s fs n b=Ni { s with left:=s.left-1 } fs n b):=by show _=_;unfold bQ Ni;rw[if_neg e8,if_neg hR];simp only[e9,if_true]
      have mU:=Rh (s.left-1) HX.out;have oI:bH (w.setCell ⟨xb,9,O⟩ (I V (s.left-1))) xb { s with left:=s.left-1 } fs m (fo,fs.length,fc):=⟨r,mU,HF.out.iV HX.out,hm.iV HX.out⟩;have hD0:jN w (w.setCell ⟨xb,9,O⟩ (I V (s.left-1))) xb (fo,fs.length,fc) (fo,fs.length,fc):=(jN.refl _ _ _).set;have HD:Hid (jN w (w.setCell ⟨xb,9,O⟩ (I V (s.left-1))) xb (fo,fs.length,fc) (fo,fs.length,fc)):=hD0;have vI:jO { s with left:=s.left-1 }:= { hc with Ey:=by simp only;omega,Ir:=by simp only;omega };have hI1:gN ({ s with left:=s.left-1 }:Sc).room fs:=hI;rw[e9]at c8;clear e8 mU;have dV:=Ih oI (by omega) hI1.ok vI.Om vI.Av vI.oH;clear oI hD0;rcases sK vI hI1 with⟨s',e,hd⟩|⟨s',fZ,e,hd⟩
      ·rw[e]at dV;simp only at dV;have KM:Hid (bQ s fs n b=(0,s',xX fs (kW fs n b) (-1))):=by show _=_;rw[HE.out];unfold Ni;rw[e];rfl
       clear e hd HE;cases hp:qH fs n with
       |none=>
        have Eg:kW fs n b=(n,b,0):=by unfold kW;rw[(Rk _ _).1 hp]
        have e1:rG fs n= -1:=by unfold rG;rw[hp]
        rw[Eg]at KM;have HP:Hid (rG fs n= -1):=e1;clear Eg e1 hp
        go_wp2_with fail
        refine dV.mono ?_;rintro e w1 ⟨rfl,f1,⟨r1,mU,Aw,Bo⟩,pR⟩;have pR:=HD.out.trans pR;clear dV c2 c3 c8 c9 Nj f8 f9 f11
        go_wp2_with fail
        have Iy:(w1.alloc (C #[I V n,.string b,I V 0] 193)).heap[xb]?=M (bM s' f1 r1):=((aO _ _).block xb (aM mU)).trans mU;have Pq:gU (w1.alloc (C #[I V n,.string b,I V 0] 193)) f1 fs:=⟨Aw.1.aN (aO _ _),Aw.2⟩;have MG:dQ (w1.alloc (C #[I V n,.string b,I V 0] 193)) r1 m:=Bo.aN (aO _ _);have Zc:jN w (w1.alloc (C #[I V n,.string b,I V 0] 193)) xb (fo,fs.length,fc) f1:=pR.aN (aO _ _);have k0:(w1.alloc (C #[I V n,.string b,I V 0] 193)).cell? ⟨w1.heap.size,0,O⟩=M (I V n):=by simp
        have k1:(w1.alloc (C #[I V n,.string b,I V 0] 193)).cell? ⟨w1.heap.size,1,O⟩=M (.string b):=by simp
        have k2:(w1.alloc (C #[I V n,.string b,I V 0] 193)).cell? ⟨w1.heap.size,2,O⟩=M (I V 0):=by simp
        clear mU Aw Bo pR;generalize w1.alloc (C #[I V n,.string b,I V 0] 193)=wa at*;have hA:=Lc (n:=n) Iy Pq (by omega)
        rw[HP.out]at hA;refine hA.mono ?_;rintro e wa ⟨rfl,rfl⟩;clear hA
        go_wp2_with fail
        refine(Ig (f:=(n,b,0)) (but:= -1) Iy Pq (by omega)).mono ?_;rintro e w2 ⟨rfl,f2,w3,rfl,Km,Ej,EN⟩;have zH:=(Ej.block xb (aM Iy)).trans Iy;have tX:After w (w3.setCell ⟨xb,3,O⟩ f2.v) xb s' (xX fs (n,b,0) (-1)) m (fo,fs.length,fc):=⟨f2,⟨r1,oQ zH,Km.iV zH,(MG.aN Ej).iV zH⟩,((Zc.aN Ej).row (fun a e=>Nat.le_trans Zc.1.1 (EN a e))).set⟩;clear Iy Pq MG Zc Km Ej EN zH k0 k1 k2
        go_wp2_with fail
        go_ret;rw[KM.out];exact⟨rfl,tX⟩
       |some i=>
        obtain⟨fi,Qy,hff,dh⟩:=wE hp;have bT:=Pm hp;have e1:rG fs n=(i:Int):=by unfold rG;rw[hp]
        have Eg:kW fs n b=(n,fi.2.1++b,fi.2.2):=by unfold kW;rw[hff]
        have UD:(fi.2.1.size:Int)<=1000000:=by have:=vH (List.mem_of_getElem? Qy);omega
        have Lj:∀w:F,(Op.stringOp .add fi.2.1 b).run K w= .ok (.string (fi.2.1++b)) w:=fun w=>run_string_add_sum w _ _ (by omega)
        rw[Eg]at KM;have HP:Hid (rG fs n=(i:Int)):=e1;have HF2:Hid (fs[i]?=M fi):=Qy;have i1:(0:Int)<=(i:Int):=by omega
        have i2:(i:Int)<(fs.length:Int):=by omega
        clear Eg e1 hp Qy hff dh
        go_wp2_with fail
        refine dV.mono ?_;rintro e w1 ⟨rfl,f1,⟨r1,mU,Aw,Bo⟩,pR⟩;have pR:=HD.out.trans pR;clear dV c2 c3 c8 c9 Nj f8 f9 f11
        go_wp2_with fail
        have Iy:(w1.alloc (C #[I V n,.string b,I V 0] 193)).heap[xb]?=M (bM s' f1 r1):=((aO _ _).block xb (aM mU)).trans mU;have Pq:gU (w1.alloc (C #[I V n,.string b,I V 0] 193)) f1 fs:=⟨Aw.1.aN (aO _ _),Aw.2⟩;have MG:dQ (w1.alloc (C #[I V n,.string b,I V 0] 193)) r1 m:=Bo.aN (aO _ _);have Zc:jN w (w1.alloc (C #[I V n,.string b,I V 0] 193)) xb (fo,fs.length,fc) f1:=pR.aN (aO _ _);have oJ:=heap_alloc_new w1 (C #[I V n,.string b,I V 0] 193);have hBa:=aO w1 (C #[I V n,.string b,I V 0] 193);have hDw:=pR.1.1;have C_:=aM mU;have HX1:Hid (w1.heap[xb]?=M (bM s' f1 r1)):=mU;have D_:Hid (gU w1 f1 fs):=Aw;have HM1:Hid (dQ w1 r1 m):=Bo;have HD1:Hid (jN w w1 xb (fo,fs.length,fc) f1):=pR;clear mU Bo pR;have El:∀a,f1.1=M a->a.block<w1.heap.size:=fun a e=>by obtain⟨aS,hh⟩:=Aw.1.2 a e;exact aM hh
        clear Aw;generalize w1.alloc (C #[I V n,.string b,I V 0] 193)=wa at*;have hA:=Lc (n:=n) Iy Pq (by omega)
        rw[HP.out]at hA;refine hA.mono ?_;rintro e wa ⟨rfl,rfl⟩;clear hA;have c3:=iX Iy;obtain⟨go,gl,gc⟩:=f1;have HQ:Hid (gU wa (go,gl,gc) fs):=Pq;obtain⟨q1,q2,q3⟩:=Pq;simp only at q1 q2 q3 El;subst q2;simp only[bS.v]at c3;obtain⟨bb,off,rfl,p1,p2,p3⟩:=q1.at HF2.out;have Pt:=El _ rfl;simp only at Pt;have Ul:w1.heap.size≠xb:=by omega
        have Um:w1.heap.size≠bb:=by omega
        clear q1 q3 El p1;generalize hq:w1.heap.size=tq at*;have kz:∀j,wa.frozen? ⟨tq,j,O⟩=false:=fun j=>by simp[World.frozen?,oJ]
        have z0:=kz 0;have z1:=kz 1;have z2:=kz 2;clear kz;have k0:wa.cell? ⟨tq,0,O⟩=M (I V n):=by simp[World.cell?,oJ]
        have k1:wa.cell? ⟨tq,1,O⟩=M (.string b):=by simp[World.cell?,oJ]
        have k2:wa.cell? ⟨tq,2,O⟩=M (I V 0):=by simp[World.cell?,oJ]
        go_upto_region 22 with fail
        go_region_held3 (fun w'=>w'.cell? ⟨xb,3,O⟩=M (Z (M ⟨bb,off,O⟩) fs.length gc)/\w'.cell? ⟨bb,off+i*3+1,O⟩=M (.string fi.2.1)/\w'.cell? ⟨bb,off+i*3+2,O⟩=M (I V fi.2.2)) (go_keep) (fail)
        have UE:Below w1.heap.size w1 (((wa.setCell ⟨tq,0,O⟩ (I V n)).setCell ⟨tq,1,O⟩ (.string (fi.2.1++b))).setCell ⟨tq,2,O⟩ (I V fi.2.2)):=by rw[hq];exact((hBa.setCell (p:=⟨tq,0,O⟩) (Nat.le_refl _) (I V n)).setCell (p:=⟨tq,1,O⟩) (Nat.le_refl _) (.string (fi.2.1++b))).setCell (p:=⟨tq,2,O⟩) (Nat.le_refl _) (I V fi.2.2)
        have di:Below w1.heap.size w1 (((wa.setCell ⟨tq,0,O⟩ (I V n)).setCell ⟨tq,1,O⟩ (.string (fi.2.1++b))).setCell ⟨tq,2,O⟩ (I V fi.2.2)).drew:=⟨UE.os,UE.tape,UE.output,UE.size,UE.block⟩
        go_wp2_with fail
        clear UE hBa oJ z0 z1 z2 k0 k1 k2 c3 p2 p3 Iy MG Zc hq Pt Ul Um HQ Lj;generalize (((wa.setCell ⟨tq,0,O⟩ (I V n)).setCell ⟨tq,1,O⟩ (.string (fi.2.1++b))).setCell ⟨tq,2,O⟩ (I V fi.2.2)).drew=wz at*;have Iy:wz.heap[xb]?=M (bM s' (M ⟨bb,off,O⟩,fs.length,gc) r1):=(di.block xb (aM HX1.out)).trans HX1.out;have Pq:gU wz (M ⟨bb,off,O⟩,fs.length,gc) fs:=⟨D_.out.1.aN di,D_.out.2⟩;have MG:dQ wz r1 m:=HM1.out.aN di;have Zc:jN w wz xb (fo,fs.length,fc) (M ⟨bb,off,O⟩,fs.length,gc):=HD1.out.aN di;refine(Ig (f:=(n,fi.2.1++b,fi.2.2)) (but:= -1) Iy Pq (by omega)).mono ?_;rintro e w2 ⟨rfl,f2,w3,rfl,Km,Ej,EN⟩;have zH:=(Ej.block xb (aM Iy)).trans Iy;have tX:After w (w3.setCell ⟨xb,3,O⟩ f2.v) xb s' (xX fs (n,fi.2.1++b,fi.2.2) (-1)) m (fo,fs.length,fc):=⟨f2,⟨r1,oQ zH,Km.iV zH,(MG.aN Ej).iV zH⟩,((Zc.aN Ej).row (fun a e=>Nat.le_trans Zc.1.1 (EN a e))).set⟩;clear Iy Pq MG Zc Km Ej EN zH di
        go_wp2_with fail
        go_ret;rw[KM.out];exact⟨rfl,tX⟩
      ·rw[e]at dV;simp only at dV;have KM:Hid (bQ s fs n b=(10,s',fZ)):=by show _=_;rw[HE.out];unfold Ni;rw[e];rfl
       clear e hd HE
       go_wp2_with fail
       refine dV.mono ?_;rintro e w1 ⟨rfl,f1,oI,pR⟩;have tX:After w w1 xb s' fZ m (fo,fs.length,fc):=⟨f1,oI,HD.out.trans pR⟩;clear dV c2 c3 c8 c9 Nj f8 f9 f11 oI pR
       go_wp2_with fail
       go_ret;rw[KM.out];exact⟨rfl,tX⟩
     ·have e9':s.refusing=false:=by simpa using e9
      have HE:Hid (bQ s fs n b=Ni s fs n b):=by show _=_;unfold bQ Ni;rw[if_neg e8,if_neg hR];simp only[e9',Bool.false_eq_true,if_false]
      have oI:bH w xb s fs m (fo,fs.length,fc):=⟨r,HX.out,HF.out,hm⟩;have hD0:jN w w xb (fo,fs.length,fc) (fo,fs.length,fc):=jN.refl _ _ _;have HD:Hid (jN w w xb (fo,fs.length,fc) (fo,fs.length,fc)):=hD0;have vI:jO s:=hc;have hI1:gN s.room fs:=hI;rw[e9']at c8;clear e8;have dV:=Ih oI (by omega) hI1.ok vI.Om vI.Av vI.oH;clear oI hD0;rcases sK vI hI1 with⟨s',e,hd⟩|⟨s',fZ,e,hd⟩
      ·rw[e]at dV;simp only at dV;have KM:Hid (bQ s fs n b=(0,s',xX fs (kW fs n b) (-1))):=by show _=_;rw[HE.out];unfold Ni;rw[e];rfl
       clear e hd HE;cases hp:qH fs n with
       |none=>
        have Eg:kW fs n b=(n,b,0):=by unfold kW;rw[(Rk _ _).1 hp]
        have e1:rG fs n= -1:=by unfold rG;rw[hp]
        rw[Eg]at KM;have HP:Hid (rG fs n= -1):=e1;clear Eg e1 hp
        go_wp2_with fail
        refine dV.mono ?_;rintro e w1 ⟨rfl,f1,⟨r1,mU,Aw,Bo⟩,pR⟩;have pR:=HD.out.trans pR;clear dV c2 c3 c8 c9 Nj f8 f9 f11
        go_wp2_with fail
        have Iy:(w1.alloc (C #[I V n,.string b,I V 0] 193)).heap[xb]?=M (bM s' f1 r1):=((aO _ _).block xb (aM mU)).trans mU;have Pq:gU (w1.alloc (C #[I V n,.string b,I V 0] 193)) f1 fs:=⟨Aw.1.aN (aO _ _),Aw.2⟩;have MG:dQ (w1.alloc (C #[I V n,.string b,I V 0] 193)) r1 m:=Bo.aN (aO _ _);have Zc:jN w (w1.alloc (C #[I V n,.string b,I V 0] 193)) xb (fo,fs.length,fc) f1:=pR.aN (aO _ _);have k0:(w1.alloc (C #[I V n,.string b,I V 0] 193)).cell? ⟨w1.heap.size,0,O⟩=M (I V n):=by simp
        have k1:(w1.alloc (C #[I V n,.string b,I V 0] 193)).cell? ⟨w1.heap.size,1,O⟩=M (.string b):=by simp
        have k2:(w1.alloc (C #[I V n,.string b,I V 0] 193)).cell? ⟨w1.heap.size,2,O⟩=M (I V 0):=by simp
        clear mU Aw Bo pR;generalize w1.alloc (C #[I V n,.string b,I V 0] 193)=wa at*;have hA:=Lc (n:=n) Iy Pq (by omega)
        rw[HP.out]at hA;refine hA.mono ?_;rintro e wa ⟨rfl,rfl⟩;clear hA
        go_wp2_with fail
        refine(Ig (f:=(n,b,0)) (but:= -1) Iy Pq (by omega)).mono ?_;rintro e w2 ⟨rfl,f2,w3,rfl,Km,Ej,EN⟩;have zH:=(Ej.block xb (aM Iy)).trans Iy;have tX:After w (w3.setCell ⟨xb,3,O⟩ f2.v) xb s' (xX fs (n,b,0) (-1)) m (fo,fs.length,fc):=⟨f2,⟨r1,oQ zH,Km.iV zH,(MG.aN Ej).iV zH⟩,((Zc.aN Ej).row (fun a e=>Nat.le_trans Zc.1.1 (EN a e))).set⟩;clear Iy Pq MG Zc Km Ej EN zH k0 k1 k2
        go_wp2_with fail
        go_ret;rw[KM.out];exact⟨rfl,tX⟩
       |some i=>
        obtain⟨fi,Qy,hff,dh⟩:=wE hp;have bT:=Pm hp;have e1:rG fs n=(i:Int):=by unfold rG;rw[hp]
        have Eg:kW fs n b=(n,fi.2.1++b,fi.2.2):=by unfold kW;rw[hff]
        have UD:(fi.2.1.size:Int)<=1000000:=by have:=vH (List.mem_of_getElem? Qy);omega
        have Lj:∀w:F,(Op.stringOp .add fi.2.1 b).run K w= .ok (.string (fi.2.1++b)) w:=fun w=>run_string_add_sum w _ _ (by omega)
        rw[Eg]at KM;have HP:Hid (rG fs n=(i:Int)):=e1;have HF2:Hid (fs[i]?=M fi):=Qy;have i1:(0:Int)<=(i:Int):=by omega
        have i2:(i:Int)<(fs.length:Int):=by omega
        clear Eg e1 hp Qy hff dh
        go_wp2_with fail
        refine dV.mono ?_;rintro e w1 ⟨rfl,f1,⟨r1,mU,Aw,Bo⟩,pR⟩;have pR:=HD.out.trans pR;clear dV c2 c3 c8 c9 Nj f8 f9 f11
        go_wp2_with fail
        have Iy:(w1.alloc (C #[I V n,.string b,I V 0] 193)).heap[xb]?=M (bM s' f1 r1):=((aO _ _).block xb (aM mU)).trans mU;have Pq:gU (w1.alloc (C #[I V n,.string b,I V 0] 193)) f1 fs:=⟨Aw.1.aN (aO _ _),Aw.2⟩;have MG:dQ (w1.alloc (C #[I V n,.string b,I V 0] 193)) r1 m:=Bo.aN (aO _ _);have Zc:jN w (w1.alloc (C #[I V n,.string b,I V 0] 193)) xb (fo,fs.length,fc) f1:=pR.aN (aO _ _);have oJ:=heap_alloc_new w1 (C #[I V n,.string b,I V 0] 193);have hBa:=aO w1 (C #[I V n,.string b,I V 0] 193);have hDw:=pR.1.1;have C_:=aM mU;have HX1:Hid (w1.heap[xb]?=M (bM s' f1 r1)):=mU;have D_:Hid (gU w1 f1 fs):=Aw;have HM1:Hid (dQ w1 r1 m):=Bo;have HD1:Hid (jN w w1 xb (fo,fs.length,fc) f1):=pR;clear mU Bo pR;have El:∀a,f1.1=M a->a.block<w1.heap.size:=fun a e=>by obtain⟨aS,hh⟩:=Aw.1.2 a e;exact aM hh
        clear Aw;generalize w1.alloc (C #[I V n,.string b,I V 0] 193)=wa at*;have hA:=Lc (n:=n) Iy Pq (by omega)
        rw[HP.out]at hA;refine hA.mono ?_;rintro e wa ⟨rfl,rfl⟩;clear hA;have c3:=iX Iy;obtain⟨go,gl,gc⟩:=f1;have HQ:Hid (gU wa (go,gl,gc) fs):=Pq;obtain⟨q1,q2,q3⟩:=Pq;simp only at q1 q2 q3 El;subst q2;simp only[bS.v]at c3;obtain⟨bb,off,rfl,p1,p2,p3⟩:=q1.at HF2.out;have Pt:=El _ rfl;simp only at Pt;have Ul:w1.heap.size≠xb:=by omega
        have Um:w1.heap.size≠bb:=by omega
        clear q1 q3 El p1;generalize hq:w1.heap.size=tq at*;have kz:∀j,wa.frozen? ⟨tq,j,O⟩=false:=fun j=>by simp[World.frozen?,oJ]
        have z0:=kz 0;have z1:=kz 1;have z2:=kz 2;clear kz;have k0:wa.cell? ⟨tq,0,O⟩=M (I V n):=by simp[World.cell?,oJ]
        have k1:wa.cell? ⟨tq,1,O⟩=M (.string b):=by simp[World.cell?,oJ]
        have k2:wa.cell? ⟨tq,2,O⟩=M (I V 0):=by simp[World.cell?,oJ]
        go_upto_region 22 with fail
        go_region_held3 (fun w'=>w'.cell? ⟨xb,3,O⟩=M (Z (M ⟨bb,off,O⟩) fs.length gc)/\w'.cell? ⟨bb,off+i*3+1,O⟩=M (.string fi.2.1)/\w'.cell? ⟨bb,off+i*3+2,O⟩=M (I V fi.2.2)) (go_keep) (fail)
        have UE:Below w1.heap.size w1 (((wa.setCell ⟨tq,0,O⟩ (I V n)).setCell ⟨tq,1,O⟩ (.string (fi.2.1++b))).setCell ⟨tq,2,O⟩ (I V fi.2.2)):=by rw[hq];exact((hBa.setCell (p:=⟨tq,0,O⟩) (Nat.le_refl _) (I V n)).setCell (p:=⟨tq,1,O⟩) (Nat.le_refl _) (.string (fi.2.1++b))).setCell (p:=⟨tq,2,O⟩) (Nat.le_refl _) (I V fi.2.2)
        have di:Below w1.heap.size w1 (((wa.setCell ⟨tq,0,O⟩ (I V n)).setCell ⟨tq,1,O⟩ (.string (fi.2.1++b))).setCell ⟨tq,2,O⟩ (I V fi.2.2)).drew:=⟨UE.os,UE.tape,UE.output,UE.size,UE.block⟩
        go_wp2_with fail
        clear UE hBa oJ z0 z1 z2 k0 k1 k2 c3 p2 p3 Iy MG Zc hq Pt Ul Um HQ Lj;generalize (((wa.setCell ⟨tq,0,O⟩ (I V n)).setCell ⟨tq,1,O⟩ (.string (fi.2.1++b))).setCell ⟨tq,2,O⟩ (I V fi.2.2)).drew=wz at*;have Iy:wz.heap[xb]?=M (bM s' (M ⟨bb,off,O⟩,fs.length,gc) r1):=(di.block xb (aM HX1.out)).trans HX1.out;have Pq:gU wz (M ⟨bb,off,O⟩,fs.length,gc) fs:=⟨D_.out.1.aN di,D_.out.2⟩;have MG:dQ wz r1 m:=HM1.out.aN di;have Zc:jN w wz xb (fo,fs.length,fc) (M ⟨bb,off,O⟩,fs.length,gc):=HD1.out.aN di;refine(Ig (f:=(n,fi.2.1++b,fi.2.2)) (but:= -1) Iy Pq (by omega)).mono ?_;rintro e w2 ⟨rfl,f2,w3,rfl,Km,Ej,EN⟩;have zH:=(Ej.block xb (aM Iy)).trans Iy;have tX:After w (w3.setCell ⟨xb,3,O⟩ f2.v) xb s' (xX fs (n,fi.2.1++b,fi.2.2) (-1)) m (fo,fs.length,fc):=⟨f2,⟨r1,oQ zH,Km.iV zH,(MG.aN Ej).iV zH⟩,((Zc.aN Ej).row (fun a e=>Nat.le_trans Zc.1.1 (EN a e))).set⟩;clear Iy Pq MG Zc Km Ej EN zH di
        go_wp2_with fail
        go_ret;rw[KM.out];exact⟨rfl,tX⟩
      ·rw[e]at dV;simp only at dV;have KM:Hid (bQ s fs n b=(10,s',fZ)):=by show _=_;rw[HE.out];unfold Ni;rw[e];rfl
       clear e hd HE
       go_wp2_with fail
       refine dV.mono ?_;rintro e w1 ⟨rfl,f1,oI,pR⟩;have tX:After w w1 xb s' fZ m (fo,fs.length,fc):=⟨f1,oI,HD.out.trans pR⟩;clear dV c2 c3 c8 c9 Nj f8 f9 f11 oI pR
       go_wp2_with fail
       go_ret;rw[KM.out];exact⟨rfl,tX⟩
theorem After.trans {w1 w2:F}{f1:bS}(h1:jN w w1 xb f f1)(h2:After w1 w2 xb s fs m f1):After w w2 xb s fs m f:=by
 obtain⟨f2,h3,h4⟩:=h2;exact⟨f2,h3,h1.trans h4⟩
theorem eF (h:w.heap[xb]?=M (bM s f r)):w.cell? ⟨xb,10,O⟩=M (.bool s.aX)/\w.cell? ⟨xb,11,O⟩=M (.bool s.ro)/\w.cell? ⟨xb,12,O⟩=M (I V s.bC)/\w.cell? ⟨xb,0,O⟩=M (I V s.most)/\w.cell? ⟨xb,1,O⟩=M (I V s.depth):=by
 simp[World.cell?,h,bM]
theorem dm (h:bH w xb s fs m f)(hl:fs.length<=80000)(hc:jO s)(hI:gN s.room fs):
 H K 114 #[U (M ⟨xb,0,O⟩)] w fun e w'=>e=G (I V (lH (s,fs,m)).2)/\After w w' xb (lH (s,fs,m)).1.1 (lH (s,fs,m)).1.2.1 m f:=by
 have HS:Hid (bH w xb s fs m f):=h;have dV:=Wu (n:=1) h hl hc hI;obtain⟨r,hx,hf,hm⟩:=h;obtain⟨wC,Nj,-⟩:=eF hx;clear hx hf hm;by_cases e1:s.aX=false
 ·have HE:Hid (lH (s,fs,m)=((s,fs,m),3)):=by show _=_;unfold lH;rw[if_pos e1]
  rw[e1]at wC;clear dV;go_enter Tryz.func114,Tryz.ntmps114
  go_wp2_with fail
  go_ret;rw[HE.out];exact⟨rfl,f,HS.out,jN.refl _ _ _⟩
 ·by_cases e2:s.ro=true
  ·have HE:Hid (lH (s,fs,m)=((s,fs,m),4)):=by show _=_;unfold lH;rw[if_neg e1,if_pos e2]
   have Au:s.aX=true:=by simpa using e1
   rw[Au]at wC;rw[e2]at Nj;clear dV;go_enter Tryz.func114,Tryz.ntmps114
   go_wp2_with fail
   go_ret;rw[HE.out];exact⟨rfl,f,HS.out,jN.refl _ _ _⟩
  ·have Au:s.aX=true:=by simpa using e1
   have La:s.ro=false:=by simpa using e2
   rcases Li hc hI 1 with⟨s1,mM,e,hd,hI1,hl1,-⟩|⟨s1,mM,e,hd⟩
   ·rw[e]at dV;simp only at dV;have ep0:=hd.2.2.2.qM;have ep1:=hd.2.2.2.rJ;have HE:Hid (lH (s,fs,m)=(((dH s1 mM (10+s1.bC)).2.1,(dH s1 mM (10+s1.bC)).2.2,m),if (dH s1 mM (10+s1.bC)).1 then 0 else 10)):=by show _=_;unfold lH;rw[if_neg e1,if_neg e2];simp only;rw[e];simp only[Bool.true_eq_false,if_false]
    rw[Au]at wC;rw[La]at Nj;clear e e1 e2;go_enter Tryz.func114,Tryz.ntmps114
    go_wp2_with fail
    refine dV.mono ?_;rintro e w1 ⟨rfl,f1,oI,xG⟩;clear dV wC Nj;have Kz:=Wu (n:=10+s1.bC) oI (by omega) hd.2.2.2 (hI1.room hd.1.2.2.1);obtain⟨r1,mU,-,-⟩:=oI;obtain⟨-,-,XZ,-⟩:=eF mU;clear mU;have HD:Hid (jN w w1 xb f f1):=xG;clear xG;cases hb:(dH s1 mM (10+s1.bC)).1 with
    |true=>
     rw[hb]at Kz HE;have HB:Hid ((dH s1 mM (10+s1.bC)).1=true):=hb;clear hb
     go_wp2_with fail
     refine Kz.mono ?_;rintro e w2 ⟨rfl,CK⟩;clear Kz
     go_wp2_with fail
     go_ret;rw[HE.out];exact⟨rfl,After.trans HD.out CK⟩
    |false=>
     rw[hb]at Kz HE;have HB:Hid ((dH s1 mM (10+s1.bC)).1=false):=hb;clear hb
     go_wp2_with fail
     refine Kz.mono ?_;rintro e w2 ⟨rfl,CK⟩;clear Kz
     go_wp2_with fail
     go_ret;rw[HE.out];exact⟨rfl,After.trans HD.out CK⟩
   ·rw[e]at dV;simp only at dV;have HE:Hid (lH (s,fs,m)=((s1,mM,m),10)):=by show _=_;unfold lH;rw[if_neg e1,if_neg e2];simp only;rw[e];simp only[if_true]
    rw[Au]at wC;rw[La]at Nj;clear e e1 e2;go_enter Tryz.func114,Tryz.ntmps114
    go_wp2_with fail
    refine dV.mono ?_;rintro e w1 ⟨rfl,hA1⟩;clear dV wC Nj
    go_wp2_with fail
    go_ret;rw[HE.out];exact⟨rfl,hA1⟩
end Go.Proofs.YtfplgfodoiiobaaGreatDoor
