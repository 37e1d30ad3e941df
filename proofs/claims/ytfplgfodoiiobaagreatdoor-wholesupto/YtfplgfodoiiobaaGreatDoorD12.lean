/- RefT, RefS, RefU, RefV (joined). -/
import Derived.Test.YtfplgfodoiiobaaGreatDoorD11
open Option renaming none→O,some→M
open Go.Value renaming int→I,slice→Z,pointer→U
open Go.IntKind renaming i64→V
open Go.Obj renaming cells→C
open Go.Ending renaming returned→G
open Go renaming World→F,Value→Y,Calls→H
open Go.Proofs.Tryz renaming prog→K
open Go.Proofs.Tryz
namespace Go.Proofs.YtfplgfodoiiobaaGreatDoor
set_option maxHeartbeats 1000000
set_option maxRecDepth 100000
open Go.RowKit
abbrev AaT:=@Go.run_string_add_sum
abbrev AbM:=@Bool.true_eq_false
abbrev AbA:=@Int.eq_ofNat_of_zero_le
abbrev Ace:=@Int.toNat_natCast
variable {w:F}{xb d:Nat}{f:bS}{s:Sc}{m:dD}{fs:List bC}{n:Int}{r:fC}
def After (w w':F)(xb:Nat)(s:Sc)(fs:List bC)(m:dD)(f:bS):Prop:=∃f':bS,bM w' xb s fs m f'/\kH w w' xb f f'
theorem gD {room:Int}(h:fM room fs)(n:Int):((aO fs n).size:Int)<=room:=by
 have h2:=h.used;rw[eX];cases e:fQ fs n with
 |none=>simp[BS];have:=rC fs;omega
 |some f=>have:=yZ (tJ e).1;simp;omega
theorem Ra {k:Int}(h:bM w xb s fs m f)(hl:fs.length<=80000)(hc:iL s)(hI:fM s.room fs)(h0:0<=k):
 H K 169 #[U (M ⟨xb,0,O⟩),I V n,I V k] w fun e w'=>e=G (.bool (bJ s fs n k).1)/\After w w' xb (bJ s fs n k).2.1 (bJ s fs n k).2.2 m f:=by
 have HS:Hid (bM w xb s fs m f):=h;have gK:=Dn h (by omega) hI.ok hc.Nf hc.zG hc.mX;obtain⟨r,hx,hf,hm⟩:=h;have hB:=vW (n:=n) hx hf (by omega);have hbz:((aO fs n).size:Int)<=1000000:=by have:=gD hI n;have:=hc.kI;omega
 clear hx hf hm;by_cases e1:((aO fs n).size:Int)<=k
 ·have HE:Hid (bJ s fs n k=(true,s,fs)):=by show _=_;unfold bJ;rw[Aad e1]
  clear gK;go_enter func169,ntmps169;go_wp2_with fail;refine hB.mono ?_;rintro e w ⟨rfl,rfl⟩;go_wp2_with fail;go_ret;rw[HE.out];exact⟨rfl,f,HS.out,kH.refl _ _ _⟩
 ·rcases mQ hc hI with⟨s',e,hd⟩|⟨s',dU,e,hd⟩
  ·have HE:Hid (bJ s fs n k=(true,s',pQ fs (n,(aO fs n).extract 0 k.toNat,k) (-1))):=(by show _=_;unfold bJ;rw[Aaa e1,e];rfl);rw[e]at gK;simp only at gK;clear e hd;go_enter func169,ntmps169;go_wp2_with fail;refine hB.mono ?_;rintro e w ⟨rfl,rfl⟩;clear hB;go_wp2_with fail;refine gK.mono ?_;rintro e w1 ⟨rfl,f1,⟨r1,oM,Gx,Gy⟩,yN⟩;clear gK;go_wp2_with fail;refine(Qy (f:=(n,(aO fs n).extract 0 k.toNat,k)) (but:= -1) oM Gx (by omega)).mono ?_;rintro e w2 ⟨rfl,f2,w3,rfl,Iq,Tq,uz⟩;have Gg:=(Tq.block xb (aM oM)).trans oM;have Au:bM (w3.setCell ⟨xb,3,O⟩ f2.v) xb s' (pQ fs (n,(aO fs n).extract 0 k.toNat,k) (-1)) m f2:=⟨r1,rZ Gg,Iq.jC Gg,(Gy.aN Tq).jC Gg⟩;have hdid:kH w (w3.setCell ⟨xb,3,O⟩ f2.v) xb f f2:=((yN.aN Tq).row (fun a e=>Aam yN.1.1 (uz a e))).set;clear oM Gx Gy yN Iq Tq uz Gg;go_wp2_with fail;go_ret;rw[HE.out];exact⟨rfl,f2,Au,hdid⟩
  ·have HE:Hid (bJ s fs n k=(false,s',dU)):=(by show _=_;unfold bJ;rw[Aaa e1,e];rfl);rw[e]at gK;simp only at gK;clear e hd;go_enter func169,ntmps169;go_wp2_with fail;refine hB.mono ?_;rintro e w ⟨rfl,rfl⟩;clear hB;go_wp2_with fail;refine gK.mono ?_;rintro e w1 ⟨rfl,f1,uT,yN⟩;clear gK;go_wp2_with fail;go_ret;rw[HE.out];exact⟨rfl,f1,uT,yN⟩
theorem vg {l:List bC}{i:Nat}{f:bC}(h:l[i]?=M f)(v:Int):Qh (l.set i (f.1,f.2.1,v))=(Qh l).set (i*3+2) (I V v):=by
 have bP:=(Aae.1 h).1;obtain⟨a,b,c⟩:=Qx l i f h;rw[<-TP l i (f.1,f.2.1,v) bP]
 have e1:(Qh l).set (i*3) (I V f.1)=Qh l:=by
  refine AcE (fun j=>?_);rw[Acd];split
  ·rename_i hj;subst hj;rw[a];split
   ·rfl
   ·rename_i hn;have:=(Aae.1 a).1;omega
  ·rfl
 rw[e1]
 have e2:(Qh l).set (i*3+1) (.string f.2.1)=Qh l:=by
  refine AcE (fun j=>?_);rw[Acd];split
  ·rename_i hj;subst hj;rw[b];split
   ·rfl
   ·rename_i hn;have:=(Aae.1 b).1;omega
  ·rfl
 rw[e2]
theorem Vy.put2 {b off i:Nat}{l:List bC}{f:bC}(h:Vy w (M ⟨b,off,O⟩) l)(hf:l[i]?=M f)(v:Int):Vy (w.setCell ⟨b,off+i*3+2,O⟩ (I V v)) (M ⟨b,off,O⟩) (l.set i (f.1,f.2.1,v)):=by
 obtain⟨h1,h2⟩:=h;obtain⟨aS,hb⟩:=h2 _ rfl;simp only at hb;refine⟨?_,fun a e=>?_⟩
 ·rcases h1 with rfl|⟨b',Qf,e,hc⟩
  ·simp at hf
  ·cases e
   refine Aab ⟨b,off,rfl,fun j u hu=>?_⟩;rw[vg hf,Acd]at hu;by_cases hj:i*3+2=j
   ·subst hj;simp only[if_true]at hu;split at hu
    ·cases hu
     have h3:=hc _ _ (Qx l i f hf).2.2;rw[<-Acr]at h3 ⊢;exact World.cell?_setCell_same _ _ _ h3
    ·cases hu
   ·rw[Aaa hj]at hu;rw[AcF _ _ _ _ (by intro e;simp only[Addr.mk.injEq]at e;omega)];exact hc j u hu
 ·cases e
  exact⟨_,Aaj w b _ _ _ _ hb⟩
theorem Fq (h:bM w xb s fs m f)(hl:fs.length<=80000)(hc:iL s)(hI:fM s.room fs):
 H K 170 #[U (M ⟨xb,0,O⟩),I V n] w fun e w'=>e=G (.bool (bY s fs n).1)/\After w w' xb (bY s fs n).2.1 (bY s fs n).2.2 m f:=by
 have HS:Hid (bM w xb s fs m f):=h;have gK:=Dn h (by omega) hI.ok hc.Nf hc.zG hc.mX;obtain⟨r,hx,hf,hm⟩:=h;have hA:=BO (n:=n) hx hf (by omega)
 clear hx hf hm;cases hp:qX fs n with
 |none=>
  have HE:Hid (bY s fs n=(true,s,fs)):=by show _=_;unfold bY;rw[hp]
  have e1:yH fs n= -1:=by unfold yH;rw[hp]
  rw[e1]at hA;clear gK hp e1;go_enter func170,ntmps170;go_wp2_with fail;refine hA.mono ?_;rintro e w ⟨rfl,rfl⟩;go_wp2_with fail;go_ret;rw[HE.out];exact⟨rfl,f,HS.out,kH.refl _ _ _⟩
 |some i=>
  have bP:=BP hp;have e1:yH fs n=(i:Int):=by unfold yH;rw[hp]
  rw[e1]at hA;clear e1;have i1:(0:Int)<=(i:Int):=by omega
  have i2:(i:Int)<(fs.length:Int):=by omega
  have i3:¬(i:Int)<0:=by omega
  obtain⟨fi,BQ,hff,hfn⟩:=zA hp;have Qg:aO fs n=fi.2.1:=by rw[eX,hff];rfl
  have hbz:(fi.2.1.size:Int)<=1000000:=by have:=gD hI n;have:=hc.kI;rw[Qg]at*;omega
  rcases mQ hc hI with⟨s',e,hd⟩|⟨s',dU,e,hd⟩
  ·have HE:Hid (bY s fs n=(true,s',fs.set i (fi.1,fi.2.1,(fi.2.1.size:Int)))):=(by show _=_;unfold bY;rw[hp];simp only;rw[e];simp only[if_true];rw[Qg,hfn]);rw[e]at gK;simp only at gK;have HF:Hid (fs[i]?=M fi):=BQ;clear e hd hp hff hfn Qg BQ;go_enter func170,ntmps170;go_wp2_with fail;refine hA.mono ?_;rintro e w ⟨rfl,rfl⟩;clear hA;go_wp2_with fail;refine gK.mono ?_;rintro e w1 ⟨rfl,f1,⟨r1,oM,Gx,Gy⟩,yN⟩;clear gK;have c3:=jR oM;obtain⟨fo,fl,fc⟩:=f1;have HQ:Hid (jB w1 (fo,fl,fc) fs):=Gx;obtain⟨q1,q2,q3⟩:=Gx;simp only at q1 q2 q3;subst q2;simp only[bS.v]at c3;obtain⟨bb,off,rfl,p1,p2,p3⟩:=q1.at HF.out;obtain⟨aS,XT⟩:=q1.2 _ rfl;simp only at XT;have ji:w1.frozen? ⟨bb,off+i*3+2,O⟩=false:=(by simp[World.frozen?,XT]);have hne:bb≠xb:=fun e=>by subst e;exact bU XT oM (gH (by decide))
   have Vz:(w1.setCell ⟨bb,off+i*3+2,O⟩ (I V (fi.2.1.size:Int))).heap[xb]?=M (bO s' (M ⟨bb,off,O⟩,fs.length,fc) r1):=(heap_setCell_other w1 _ xb _ (Aca hne)).trans oM
   have Au:bM (w1.setCell ⟨bb,off+i*3+2,O⟩ (I V (fi.2.1.size:Int))) xb s' (fs.set i (fi.1,fi.2.1,(fi.2.1.size:Int))) m (M ⟨bb,off,O⟩,fs.length,fc):=by
    refine⟨r1,Vz,⟨q1.put2 HF.out _,by simp,q3⟩,?_⟩;exact Gy.fr (Fr.set w1 ⟨bb,off+i*3+2,O⟩ _) (fun b cu e he=>by subst he;exact bU e XT (gH (by decide))) (fun b cu e he=>by subst he;exact bU e XT (gH (by decide)))
   have hdid:kH w (w1.setCell ⟨bb,off+i*3+2,O⟩ (I V (fi.2.1.size:Int))) xb f (M ⟨bb,off,O⟩,fs.length,fc):=by
    refine yN.trans ⟨?_,⟨rfl,rfl,rfl⟩,Aac rfl⟩;obtain⟨a1,a2⟩:=Fr.set w1 ⟨bb,off+i*3+2,O⟩ (I V (fi.2.1.size:Int));exact⟨a1,fun b hb hn=>a2 b hb (fun e=>hn (Aab ⟨_,rfl,e⟩))⟩
   have k1:(w1.setCell ⟨bb,off+i*3+2,O⟩ (I V (fi.2.1.size:Int))).cell? ⟨bb,off+i*3+1,O⟩=M (.string fi.2.1):=(by rw[AcF _ _ _ _ (by intro e;simp only[Addr.mk.injEq]at e;omega)];exact p2);have k3:(w1.setCell ⟨bb,off+i*3+2,O⟩ (I V (fi.2.1.size:Int))).cell? ⟨xb,3,O⟩=M (Z (M ⟨bb,off,O⟩) fs.length fc):=(by rw[AcN _ _ _ _ hne];exact c3);clear oM Gy yN q1 q3 XT Vz HQ p1;go_upto_region 6 with fail
   go_region_held3 (fun w'=>w'.cell? ⟨xb,3,O⟩=M (Z (M ⟨bb,off,O⟩) fs.length fc)/\w'.cell? ⟨bb,off+i*3+1,O⟩=M (.string fi.2.1)) (first|go_keep|(exact⟨k3,k1⟩)) (fail)
   all_goals go_wp2_with fail
   all_goals go_ret
   rw[HE.out];exact⟨rfl,_,Au,hdid⟩
  ·have HE:Hid (bY s fs n=(false,s',dU)):=(by show _=_;unfold bY;rw[hp];simp only;rw[e];rfl);rw[e]at gK;simp only at gK;clear e hd hp hff hfn Qg BQ;go_enter func170,ntmps170;go_wp2_with fail;refine hA.mono ?_;rintro e w ⟨rfl,rfl⟩;clear hA;go_wp2_with fail;refine gK.mono ?_;rintro e w1 ⟨rfl,f1,uT,yN⟩;clear gK;go_wp2_with fail;go_ret;rw[HE.out];exact⟨rfl,f1,uT,yN⟩
theorem Pk (h:w.heap[xb]?=M (bO s f r)):w.cell? ⟨xb,2,O⟩=M (I V s.room):=by simp[World.cell?,h,bO]
theorem tV (b:Bool)(h:w.heap[xb]?=M (bO s f r)):(w.setCell ⟨xb,11,O⟩ (.bool b)).heap[xb]?=M (bO { s with ro:=b } f r):=by rw[Aaj w xb 11 _ _ _ h];rfl
def Yq (s:Sc)(fs:List bC)(n:Int)(b:ByteArray):Int×Sc×List bC:=
 if (dI s fs).1 then (0,(dI s fs).2.1,pQ (dI s fs).2.2 (mP (dI s fs).2.2 n b) (-1))else (10,(dI s fs).2.1,(dI s fs).2.2)
theorem Rb {b:ByteArray}(h:bM w xb s fs m f)(hl:fs.length<=80000)(hc:iL s)(hI:fM s.room fs)(hb:b.size<=200000000):
 H K 163 #[U (M ⟨xb,0,O⟩),I V n,.string b] w fun e w'=>e=G (I V (bW s fs n b).1)/\After w w' xb (bW s fs n b).2.1 (bW s fs n b).2.2 m f:=by
 obtain⟨r,hx,hf,hm⟩:=h;have HF:Hid (jB w f fs):=hf;have c2:=Pk hx;have c3:=jR hx;obtain⟨c8,c9,Ws⟩:=Kl hx;obtain⟨-,-,-,-,-,-,cf⟩:=kT hx;have f8:=cf 8;have f9:=cf 9;have f11:=cf 11;clear cf;have hu:=hI.used;have r1:=hc.kI;have hun:=rC fs;have l0:=hc.Gw;have l1:=hc.Ku;obtain⟨fo,fl,fc⟩:=f;obtain⟨q1,q2,q3⟩:=hf;simp only at q1 q2 q3;subst q2;simp only[bS.v]at c3;have HX:Hid (w.heap[xb]?=M (bO s (fo,fs.length,fc) r)):=hx;clear hx;go_enter func163,ntmps163;go_wp2_with fail
 go_loop [7,8] (fun u i=> ∃k:Nat,k<=fs.length/\i=I V (k:Int)/\u=I V (bV (fs.take k))) (fun _ i=>fs.length-(intOf i).toNat)
 case atStart=>exact⟨0,Aap _,rfl,rfl⟩
 case round=>
  obtain⟨k,hk,rfl,rfl⟩:=hrel;have hu1:=Gv fs k;have TD:=rC (fs.take k);by_cases bP:k<fs.length
  ·obtain⟨⟨gn,gb,gs⟩,hg⟩:∃g,fs[k]?=M g:=⟨_,Aag bP⟩;have HT:Hid (bV (fs.take (k+1))=bV (fs.take k)+(gb.size:Int)):=Aj hg;have hgb:(gb.size:Int)<=bV fs:=yZ (Aai hg);obtain⟨bb,off,rfl,p1,p2,p3⟩:=q1.at hg;simp only at p1 p2 p3;have i1:(0:Int)<=(k:Int):=(by omega);have i2:(k:Int)<(fs.length:Int):=(by omega);clear hg q1;go_wp2_with fail
   go_round
   case rel=>exact⟨k+1,by omega,by go_num,by rw[HT.out]⟩
   case measure=>simp[intOf];omega
  ·have e1:fs.take k=fs:=Aaq (by omega);rw[e1];clear e1 hu1 TD q1 q3;by_cases e8:s.refusing=true/\s.left=0
   ·have HE:Hid (bW s fs n b=(9,{ s with refusing:=false,ro:=true },fs)):=(by show _=_;unfold bW;rw[Aad e8]);obtain⟨e8,e9⟩:=e8;rw[e8]at c8;rw[e9]at c9;have oM:=Te false HX.out;go_wp2_with fail;go_ret;rw[HE.out];exact⟨rfl,_,⟨r,tV true oM,(HF.out.jC HX.out).jC oM,(hm.jC HX.out).jC oM⟩,(kH.refl _ _ _).set.set⟩
   ·by_cases hR:s.room<bV fs+(b.size:Int)
    ·have HE:Hid (bW s fs n b=(9,{ s with ro:=true },fs)):=(by show _=_;unfold bW;rw[Aaa e8,Aad hR]);by_cases e9:s.refusing=true
     ·have e10:¬s.left=0:=fun e=>e8 ⟨e9,e⟩;have e11:(s.left==0)=false:=(by simp[e10]);rw[e9]at c8;clear e8;go_wp2_with fail;go_ret;rw[HE.out];exact⟨rfl,_,⟨r,tV true HX.out,HF.out.jC HX.out,hm.jC HX.out⟩,(kH.refl _ _ _).set⟩
     ·have e9':s.refusing=false:=(by simpa using e9);rw[e9']at c8;clear e8;go_wp2_with fail;go_ret;rw[HE.out];exact⟨rfl,_,⟨r,tV true HX.out,HF.out.jC HX.out,hm.jC HX.out⟩,(kH.refl _ _ _).set⟩
    ·by_cases e9:s.refusing=true;have e10:¬s.left=0:=fun e=>e8 ⟨e9,e⟩
     have e11:(s.left==0)=false:=(by simp[e10]);have HE:Hid (bW s fs n b=Yq { s with left:=s.left-1 } fs n b):=(by show _=_;unfold bW Yq;rw[Aaa e8,Aaa hR];simp only[e9,if_true]);have oM:=Tf (s.left-1) HX.out;have uT:bM (w.setCell ⟨xb,9,O⟩ (I V (s.left-1))) xb { s with left:=s.left-1 } fs m (fo,fs.length,fc):=⟨r,oM,HF.out.jC HX.out,hm.jC HX.out⟩;have hD0:kH w (w.setCell ⟨xb,9,O⟩ (I V (s.left-1))) xb (fo,fs.length,fc) (fo,fs.length,fc):=(kH.refl _ _ _).set;have HD:Hid (kH w (w.setCell ⟨xb,9,O⟩ (I V (s.left-1))) xb (fo,fs.length,fc) (fo,fs.length,fc)):=hD0;have wY:iL { s with left:=s.left-1 }:= { hc with Gw:=by simp only;omega,Ku:=by simp only;omega };have vk:fM ({ s with left:=s.left-1 }:Sc).room fs:=hI;rw[e9]at c8;clear e8 oM;have gK:=Dn uT (by omega) vk.ok wY.Nf wY.zG wY.mX;clear uT hD0
     rotate_left
     have e9':s.refusing=false:=(by simpa using e9);have HE:Hid (bW s fs n b=Yq s fs n b):=(by show _=_;unfold bW Yq;rw[Aaa e8,Aaa hR];simp only[e9',AaD,if_false]);have uT:bM w xb s fs m (fo,fs.length,fc):=⟨r,HX.out,HF.out,hm⟩;have hD0:kH w w xb (fo,fs.length,fc) (fo,fs.length,fc):=kH.refl _ _ _;have HD:Hid (kH w w xb (fo,fs.length,fc) (fo,fs.length,fc)):=hD0;have wY:iL s:=hc;have vk:fM s.room fs:=hI;rw[e9']at c8;clear e8;have gK:=Dn uT (by omega) vk.ok wY.Nf wY.zG wY.mX;clear uT hD0
     all_goals
      rcases mQ wY vk with⟨s',e,hd⟩|⟨s',dU,e,hd⟩
      ·rw[e]at gK;simp only at gK;have XU:Hid (bW s fs n b=(0,s',pQ fs (mP fs n b) (-1))):=(by show _=_;rw[HE.out];unfold Yq;rw[e];rfl);clear e hd HE;cases hp:qX fs n with
       |none=>
        have Cr:mP fs n b=(n,b,0):=(by unfold mP;rw[(Tj _ _).1 hp]);have e1:yH fs n= -1:=(by unfold yH;rw[hp]);rw[Cr]at XU;have HP:Hid (yH fs n= -1):=e1;clear Cr e1 hp;go_wp2_with fail;refine gK.mono ?_;rintro e w1 ⟨rfl,f1,⟨r1,oM,Gx,Gy⟩,vY⟩;have vY:=HD.out.trans vY;clear gK c2 c3 c8 c9 Ws f8 f9 f11;go_wp2_with fail;have TU:(w1.alloc (C #[I V n,.string b,I V 0] 193)).heap[xb]?=M (bO s' f1 r1):=((aP _ _).block xb (aM oM)).trans oM;have XV:jB (w1.alloc (C #[I V n,.string b,I V 0] 193)) f1 fs:=⟨Gx.1.aN (aP _ _),Gx.2⟩;have hma:dZ (w1.alloc (C #[I V n,.string b,I V 0] 193)) r1 m:=Gy.aN (aP _ _);have hDa:kH w (w1.alloc (C #[I V n,.string b,I V 0] 193)) xb (fo,fs.length,fc) f1:=vY.aN (aP _ _);have k0:(w1.alloc (C #[I V n,.string b,I V 0] 193)).cell? ⟨w1.heap.size,0,O⟩=M (I V n):=(by simp);have k1:(w1.alloc (C #[I V n,.string b,I V 0] 193)).cell? ⟨w1.heap.size,1,O⟩=M (.string b):=(by simp);have k2:(w1.alloc (C #[I V n,.string b,I V 0] 193)).cell? ⟨w1.heap.size,2,O⟩=M (I V 0):=(by simp);clear oM Gx Gy vY;generalize w1.alloc (C #[I V n,.string b,I V 0] 193)=wa at*;have hA:=BO (n:=n) TU XV (by omega)
        rw[HP.out]at hA;refine hA.mono ?_;rintro e wa ⟨rfl,rfl⟩;clear hA;go_wp2_with fail;refine(Qy (f:=(n,b,0)) (but:= -1) TU XV (by omega)).mono ?_;rintro e w2 ⟨rfl,f2,w3,rfl,Iq,Tq,uz⟩;have Gg:=(Tq.block xb (aM TU)).trans TU;have Au:After w (w3.setCell ⟨xb,3,O⟩ f2.v) xb s' (pQ fs (n,b,0) (-1)) m (fo,fs.length,fc):=⟨f2,⟨r1,rZ Gg,Iq.jC Gg,(hma.aN Tq).jC Gg⟩,((hDa.aN Tq).row (fun a e=>Aam hDa.1.1 (uz a e))).set⟩;clear TU XV hma hDa Iq Tq uz Gg k0 k1 k2;go_wp2_with fail;go_ret;rw[XU.out];exact⟨rfl,Au⟩
       |some i=>
        obtain⟨fi,BQ,hff,hfn⟩:=zA hp;have bP:=BP hp;have e1:yH fs n=(i:Int):=(by unfold yH;rw[hp]);have Cr:mP fs n b=(n,fi.2.1++b,fi.2.2):=(by unfold mP;rw[hff]);have ji:(fi.2.1.size:Int)<=1000000:=(by have:=yZ (Aai BQ);omega);have Ng:∀w:F,(Op.stringOp .add fi.2.1 b).run K w= .ok (.string (fi.2.1++b)) w:=fun w=>AaT w _ _ (by omega);rw[Cr]at XU;have HP:Hid (yH fs n=(i:Int)):=e1;have vo:Hid (fs[i]?=M fi):=BQ;have i1:(0:Int)<=(i:Int):=(by omega);have i2:(i:Int)<(fs.length:Int):=(by omega);clear Cr e1 hp BQ hff hfn;go_wp2_with fail;refine gK.mono ?_;rintro e w1 ⟨rfl,f1,⟨r1,oM,Gx,Gy⟩,vY⟩;have vY:=HD.out.trans vY;clear gK c2 c3 c8 c9 Ws f8 f9 f11;go_wp2_with fail;have TU:(w1.alloc (C #[I V n,.string b,I V 0] 193)).heap[xb]?=M (bO s' f1 r1):=((aP _ _).block xb (aM oM)).trans oM;have XV:jB (w1.alloc (C #[I V n,.string b,I V 0] 193)) f1 fs:=⟨Gx.1.aN (aP _ _),Gx.2⟩;have hma:dZ (w1.alloc (C #[I V n,.string b,I V 0] 193)) r1 m:=Gy.aN (aP _ _);have hDa:kH w (w1.alloc (C #[I V n,.string b,I V 0] 193)) xb (fo,fs.length,fc) f1:=vY.aN (aP _ _);have qZ:=Aaf w1 (C #[I V n,.string b,I V 0] 193);have hBa:=aP w1 (C #[I V n,.string b,I V 0] 193);have hDw:=vY.1.1;have hxl:=aM oM;have HX1:Hid (w1.heap[xb]?=M (bO s' f1 r1)):=oM;have HF1:Hid (jB w1 f1 fs):=Gx;have HM1:Hid (dZ w1 r1 m):=Gy;have HD1:Hid (kH w w1 xb (fo,fs.length,fc) f1):=vY;clear oM Gy vY;have Gz:∀a,f1.1=M a->a.block<w1.heap.size:=fun a e=>by obtain⟨aS,hh⟩:=Gx.1.2 a e;exact aM hh
        clear Gx;generalize w1.alloc (C #[I V n,.string b,I V 0] 193)=wa at*;have hA:=BO (n:=n) TU XV (by omega)
        rw[HP.out]at hA;refine hA.mono ?_;rintro e wa ⟨rfl,rfl⟩;clear hA;have c3:=jR TU;obtain⟨go,gl,gc⟩:=f1;have HQ:Hid (jB wa (go,gl,gc) fs):=XV;obtain⟨q1,q2,q3⟩:=XV;simp only at q1 q2 q3 Gz;subst q2;simp only[bS.v]at c3;obtain⟨bb,off,rfl,p1,p2,p3⟩:=q1.at vo.out;have Qj:=Gz _ rfl;simp only at Qj;have Js:w1.heap.size≠xb:=(by omega);have Ox:w1.heap.size≠bb:=(by omega);clear q1 q3 Gz p1;generalize hq:w1.heap.size=tq at*;have kz:∀j,wa.frozen? ⟨tq,j,O⟩=false:=fun j=>by simp[World.frozen?,qZ]
        have z0:=kz 0;have z1:=kz 1;have z2:=kz 2;clear kz;have k0:wa.cell? ⟨tq,0,O⟩=M (I V n):=(by simp[World.cell?,qZ]);have k1:wa.cell? ⟨tq,1,O⟩=M (.string b):=(by simp[World.cell?,qZ]);have k2:wa.cell? ⟨tq,2,O⟩=M (I V 0):=(by simp[World.cell?,qZ]);go_upto_region 22 with fail
        go_region_held3 (fun w'=>w'.cell? ⟨xb,3,O⟩=M (Z (M ⟨bb,off,O⟩) fs.length gc)/\w'.cell? ⟨bb,off+i*3+1,O⟩=M (.string fi.2.1)/\w'.cell? ⟨bb,off+i*3+2,O⟩=M (I V fi.2.2)) (go_keep) (fail)
        have hBz:Below w1.heap.size w1 (((wa.setCell ⟨tq,0,O⟩ (I V n)).setCell ⟨tq,1,O⟩ (.string (fi.2.1++b))).setCell ⟨tq,2,O⟩ (I V fi.2.2)):=(by rw[hq];exact((hBa.setCell (p:=⟨tq,0,O⟩) (Aak _) (I V n)).setCell (p:=⟨tq,1,O⟩) (Aak _) (.string (fi.2.1++b))).setCell (p:=⟨tq,2,O⟩) (Aak _) (I V fi.2.2));have hBy:Below w1.heap.size w1 (((wa.setCell ⟨tq,0,O⟩ (I V n)).setCell ⟨tq,1,O⟩ (.string (fi.2.1++b))).setCell ⟨tq,2,O⟩ (I V fi.2.2)).drew:=⟨hBz.os,hBz.tape,hBz.output,hBz.size,hBz.block⟩;go_wp2_with fail;clear hBz hBa qZ z0 z1 z2 k0 k1 k2 c3 p2 p3 TU hma hDa hq Qj Js Ox HQ Ng;generalize (((wa.setCell ⟨tq,0,O⟩ (I V n)).setCell ⟨tq,1,O⟩ (.string (fi.2.1++b))).setCell ⟨tq,2,O⟩ (I V fi.2.2)).drew=wz at*;have TU:wz.heap[xb]?=M (bO s' (M ⟨bb,off,O⟩,fs.length,gc) r1):=(hBy.block xb (aM HX1.out)).trans HX1.out;have XV:jB wz (M ⟨bb,off,O⟩,fs.length,gc) fs:=⟨HF1.out.1.aN hBy,HF1.out.2⟩;have hma:dZ wz r1 m:=HM1.out.aN hBy;have hDa:kH w wz xb (fo,fs.length,fc) (M ⟨bb,off,O⟩,fs.length,gc):=HD1.out.aN hBy;refine(Qy (f:=(n,fi.2.1++b,fi.2.2)) (but:= -1) TU XV (by omega)).mono ?_;rintro e w2 ⟨rfl,f2,w3,rfl,Iq,Tq,uz⟩;have Gg:=(Tq.block xb (aM TU)).trans TU;have Au:After w (w3.setCell ⟨xb,3,O⟩ f2.v) xb s' (pQ fs (n,fi.2.1++b,fi.2.2) (-1)) m (fo,fs.length,fc):=⟨f2,⟨r1,rZ Gg,Iq.jC Gg,(hma.aN Tq).jC Gg⟩,((hDa.aN Tq).row (fun a e=>Aam hDa.1.1 (uz a e))).set⟩;clear TU XV hma hDa Iq Tq uz Gg hBy;go_wp2_with fail;go_ret;rw[XU.out];exact⟨rfl,Au⟩
      ·rw[e]at gK;simp only at gK;have XU:Hid (bW s fs n b=(10,s',dU)):=(by show _=_;rw[HE.out];unfold Yq;rw[e];rfl);clear e hd HE;go_wp2_with fail;refine gK.mono ?_;rintro e w1 ⟨rfl,f1,uT,vY⟩;have Au:After w w1 xb s' dU m (fo,fs.length,fc):=⟨f1,uT,HD.out.trans vY⟩;clear gK c2 c3 c8 c9 Ws f8 f9 f11 uT vY;go_wp2_with fail;go_ret;rw[XU.out];exact⟨rfl,Au⟩
theorem After.trans {w1 w2:F}{f1:bS}(h1:kH w w1 xb f f1)(h2:After w1 w2 xb s fs m f1):After w w2 xb s fs m f:=by
 obtain⟨f2,h3,h4⟩:=h2;exact⟨f2,h3,h1.trans h4⟩
theorem fI (h:w.heap[xb]?=M (bO s f r)):w.cell? ⟨xb,10,O⟩=M (.bool s.aX)/\w.cell? ⟨xb,11,O⟩=M (.bool s.ro)/\w.cell? ⟨xb,12,O⟩=M (I V s.aY)/\w.cell? ⟨xb,0,O⟩=M (I V s.most)/\w.cell? ⟨xb,1,O⟩=M (I V s.depth):=by
 simp[World.cell?,h,bO]
theorem vw (h:bM w xb s fs m f)(hl:fs.length<=80000)(hc:iL s)(hI:fM s.room fs):
 H K 114 #[U (M ⟨xb,0,O⟩)] w fun e w'=>e=G (I V (lY (s,fs,m)).2)/\After w w' xb (lY (s,fs,m)).1.1 (lY (s,fs,m)).1.2.1 m f:=by
 have HS:Hid _:=h;have gK:=Fq (n:=1) h hl hc hI;obtain⟨r,hx,hf,hm⟩:=h;obtain⟨xO,Ws,-⟩:=fI hx;clear hx hf hm;by_cases e1:s.aX=false
 ·have HE:Hid (lY (s,fs,m)=((s,fs,m),3)):=by show _=_;unfold lY;rw[Aad e1]
  rw[e1]at xO;clear gK;go_enter func114,ntmps114
  go_wp2
  go_ret;rw[HE.out];exact⟨rfl,f,HS.out,kH.refl _ _ _⟩
 ·by_cases e2:s.ro=true
  ·have HE:Hid (lY (s,fs,m)=((s,fs,m),4)):=(by show _=_;unfold lY;rw[Aaa e1,Aad e2]);have rV:s.aX=true:=(by simpa using e1);rw[rV]at xO;rw[e2]at Ws;clear gK;go_enter func114,ntmps114
   go_wp2
   go_ret;rw[HE.out];exact⟨rfl,f,HS.out,kH.refl _ _ _⟩
  ·have rV:s.aX=true:=(by simpa using e1);have Di:s.ro=false:=(by simpa using e2);rcases qI hc hI 1 with⟨s1,jX,e,hd,vk,hl1,-⟩|⟨s1,jX,e,hd⟩
   ·rw[e]at gK;simp only at gK;have ep0:=hd.2.2.2.nX;have ep1:=hd.2.2.2.rE;have HE:Hid (lY (s,fs,m)=(((bY s1 jX (10+s1.aY)).2.1,(bY s1 jX (10+s1.aY)).2.2,m),if (bY s1 jX (10+s1.aY)).1 then 0 else 10)):=(by show _=_;unfold lY;rw[Aaa e1,Aaa e2];simp only;rw[e];simp only[AbM,if_false]);rw[rV]at xO;rw[Di]at Ws;clear e e1 e2;go_enter func114,ntmps114;go_wp2_with fail;refine gK.mono ?_;rintro e w1 ⟨rfl,f1,uT,yN⟩;clear gK xO Ws;have Mh:=Fq (n:=10+s1.aY) uT (by omega) hd.2.2.2 (vk.room hd.1.2.2.1);obtain⟨r1,oM,-,-⟩:=uT;obtain⟨-,-,c12,-⟩:=fI oM;clear oM;have HD:Hid _:=yN;clear yN;cases hb:(bY s1 jX (10+s1.aY)).1 with
    |true=>
     rw[hb]at Mh HE;have HB:Hid _:=hb;clear hb;go_wp2_with fail;refine Mh.mono ?_;rintro e w2 ⟨rfl,TV⟩;clear Mh
     go_wp2
     go_ret;rw[HE.out];exact⟨rfl,After.trans HD.out TV⟩
    |false=>
     rw[hb]at Mh HE;have HB:Hid _:=hb;clear hb;go_wp2_with fail;refine Mh.mono ?_;rintro e w2 ⟨rfl,TV⟩;clear Mh
     go_wp2
     go_ret;rw[HE.out];exact⟨rfl,After.trans HD.out TV⟩
   ·rw[e]at gK;simp only at gK;have HE:Hid (lY (s,fs,m)=((s1,jX,m),10)):=(by show _=_;unfold lY;rw[Aaa e1,Aaa e2];simp only;rw[e];simp only[if_true]);rw[rV]at xO;rw[Di]at Ws;clear e e1 e2;go_enter func114,ntmps114;go_wp2_with fail;refine gK.mono ?_;rintro e w1 ⟨rfl,hA1⟩;clear gK xO Ws
    go_wp2
    go_ret;rw[HE.out];exact⟨rfl,hA1⟩
theorem Nh {l:List (Int×Int)}(h:tQ n l):(l.length:Int)<=sz l:=by
 induction l with
 |nil=>simp[sz]
 |cons p l ih=>
  have h1:=h p (by simp);have h2:=ih (fun q hq=>h q (by simp[hq]));simp only[Aao,sz];omega
theorem eD.okm (h:eD m d)(hd:d<=50)(hD:m.2.2.2.1<=2000000000):okM m:=by
 have h1:=h.Wq;have h2:=h.IB;have h3:=h.Dt;have h4:=h.Ch;exact⟨h.EW,h.few,by omega,by omega,h.done,hD,h3,by omega⟩
theorem vz {bf p:Int}{gone come:List (Int×Int)}(hb:bf<=1000000)(hn:n<=5000)(hp:0<=p)(hg:tQ bf gone)(hc:tQ bf come)(h1:p+sz gone<=n)(h2:n-sz gone+sz come<=5000):Bw n p gone come:=by
 have a:=Nh hg;have b:=Nh hc;have c:=zF hg;have d:=zF hc;exact⟨hp,h1,hg.ok (by omega),hc.ok (by omega),by omega,by omega⟩
theorem eD.wh (h:eD m d):∀e rest,m.2.1=e::rest->Bw (sz m.1) e.1 e.2.2 e.2.1:=by
 intro e rest he;obtain⟨x,y,z⟩:=h.jA e (by rw[he];simp);have hf:=h.IC;rw[he,AaK,tN,rD]at hf;exact vz h.Ch h.long x z y hf.1 hf.2.1
theorem eD.wm (h:eD m d):∀e rest,m.2.2.1=e::rest->Bw (sz m.1) e.1 e.2.1 e.2.2:=by
 intro e rest he;obtain⟨x,y,z⟩:=h.jO e (by rw[he];simp);have hf:=h.XQ;rw[he,AaK,pE,rD]at hf;exact vz h.Ch h.long x y z hf.1 hf.2.1
def kindOk (k:Int):Prop:=k=73\/k=68\/k=85\/k=82
theorem Ir {kind a b c most d:Int}(hk:kindOk kind)(hm:dZ w r m)(hg:eD m d.toNat)(Sl:0<=d)(hd:d<=50)(hD:m.2.2.2.1<=2000000000)(ha:a<=9223372036854775807)(hb:b<=9223372036854775807)(hc:c<=9223372036854775807)(hmo:0<=most)(hmo2:most<=5000):
 H K 162 #[r.v,I V kind,I V a,I V b,I V c,I V most,I V d] w fun e w'=>
  ∃r',e=G (.tuple #[fC.v r',I V (gT m kind a b c most d.toNat).2])/\dZ w' r' (gT m kind a b c most d.toNat).1/\Below w.heap.size w w':=by
 have kP:=hg.okm (by omega) hD;obtain⟨k,rfl⟩:=AbA Sl;rw[Ace]at*;rcases hk with rfl|rfl|rfl|rfl
 ·have e:gT m 73 a b c most k=uQ m a b c most k:=rfl;rw[e];exact OO hm kP hc hmo hmo2 (by omega)
 ·have e:gT m 68 a b c most k=Ah m a b k:=rfl;rw[e];exact OP hm kP ha hb (by omega)
 ·have e:gT m 85 a b c most k=uY m k:=rfl;rw[e];exact GI hm kP (by omega) hg.wh
 ·have e:gT m 82 a b c most k=uZ m k:=rfl;rw[e];exact GK hm kP (by omega) hg.wm
theorem XW (s:Sc)(fs:List bC):iE s (dI s fs).2.1:=by
 rcases Al s fs with⟨_,e⟩|⟨_,_,e⟩|⟨_,_,e⟩<;>rw[e]<;>exact⟨rfl,rfl,rfl,rfl⟩
theorem add_same (s:Sc)(fs:List bC)(n:Int)(b:ByteArray):iE s (bW s fs n b).2.1:=by
 unfold bW;split
 ·exact⟨rfl,rfl,rfl,rfl⟩
 ·split
  ·exact⟨rfl,rfl,rfl,rfl⟩
  ·simp only;generalize sV:(if s.refusing=true then { s with left:=s.left-1 } else s)=s1;have h1:iE s s1:=(by rw[<-sV];split<;>exact⟨rfl,rfl,rfl,rfl⟩);have h2:=XW s1 fs;split
   ·exact h1.trans h2
   ·exact h1.trans h2
theorem bM.aN {w':F}(h:bM w xb s fs m f)(hg:aL w w'):bM w' xb s fs m f:=by
 obtain⟨r,hx,hf,hm⟩:=h;exact⟨r,(hg.block xb (aM hx)).trans hx,⟨hf.1.aN hg,hf.2⟩,hm.aN hg⟩
theorem kH.far {w':F}{g:Nat}{f':bS}{o:Obj}(h:kH w w' xb f f')(hg:w.heap[g]?=M o)(h1:g≠xb)(h2:∀a,f.1=M a->a.block≠g):w'.heap[g]?=M o:=
 h.1.at hg (fun e=>e.elim h1 (fun ⟨a,e1,e2⟩=>h2 a e1 e2.symm))
theorem bM.row (h:bM w xb s fs m f):xb<w.heap.size/\∀a,f.1=M a->a.block<w.heap.size:=by
 obtain⟨r,hx,hf,-⟩:=h;exact⟨aM hx,fun a e=>by obtain⟨aS,hh⟩:=hf.1.2 a e;exact aM hh⟩
theorem OZ (r':fC)(h:w.heap[xb]?=M (bO s f r)):
 (((((w.setCell ⟨xb,13,O⟩ r'.1.v).setCell ⟨xb,14,O⟩ r'.2.1.v).setCell ⟨xb,15,O⟩ r'.2.2.1.v).setCell ⟨xb,16,O⟩ (I V r'.2.2.2.1)).setCell ⟨xb,17,O⟩ (I V r'.2.2.2.2)).heap[xb]?=M (bO s f r'):=by
 have h1:=Aaj w xb 13 _ _ r'.1.v h;have h2:=Aaj _ xb 14 _ _ r'.2.1.v h1;have h3:=Aaj _ xb 15 _ _ r'.2.2.1.v h2;have h4:=Aaj _ xb 16 _ _ (I V r'.2.2.2.1) h3;have h5:=Aaj _ xb 17 _ _ (I V r'.2.2.2.2) h4;rw[h5];rfl
theorem Fr.chain {w1 w2:F}{X:Nat->Prop}(h1:Fr w w1 X)(h2:Fr w1 w2 X):Fr w w2 X:=h1.trans h2
theorem setM_fr (w:F)(xb:Nat)(a b c d e:Y):Fr w (((((w.setCell ⟨xb,13,O⟩ a).setCell ⟨xb,14,O⟩ b).setCell ⟨xb,15,O⟩ c).setCell ⟨xb,16,O⟩ d).setCell ⟨xb,17,O⟩ e) (fun b=>b=xb):=
 ((((Fr.set w ⟨xb,13,O⟩ a).trans (Fr.set _ ⟨xb,14,O⟩ b)).trans (Fr.set _ ⟨xb,15,O⟩ c)).trans (Fr.set _ ⟨xb,16,O⟩ d)).trans (Fr.set _ ⟨xb,17,O⟩ e)
theorem Du {m':dD}{r':fC}(h:bM w xb s fs m f)(hm:dZ w r' m'):
 bM (((((w.setCell ⟨xb,13,O⟩ r'.1.v).setCell ⟨xb,14,O⟩ r'.2.1.v).setCell ⟨xb,15,O⟩ r'.2.2.1.v).setCell ⟨xb,16,O⟩ (I V r'.2.2.2.1)).setCell ⟨xb,17,O⟩ (I V r'.2.2.2.2)) xb s fs m' f/\
 kH w (((((w.setCell ⟨xb,13,O⟩ r'.1.v).setCell ⟨xb,14,O⟩ r'.2.1.v).setCell ⟨xb,15,O⟩ r'.2.2.1.v).setCell ⟨xb,16,O⟩ (I V r'.2.2.2.1)).setCell ⟨xb,17,O⟩ (I V r'.2.2.2.2)) xb f f:=by
 obtain⟨r,hx,hf,-⟩:=h;have hF:=setM_fr w xb r'.1.v r'.2.1.v r'.2.2.1.v (I V r'.2.2.2.1) (I V r'.2.2.2.2);refine⟨⟨r',OZ r' hx,hf.fr hF (fun b aS e=>Ff hx _ _ _ _ (by decide) e),hm.fr hF (fun b aS e=>Ff hx _ _ _ _ (by decide) e) (fun b aS e=>Ff hx _ _ _ _ (by decide) e)⟩,?_⟩;exact(((((kH.refl w xb f).set).set).set).set).set
end Go.Proofs.YtfplgfodoiiobaaGreatDoor
