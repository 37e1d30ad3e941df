/- RefZ, RfA, PgF, PgG (joined). -/
import Derived.Lib.SliceRun
import Derived.Test.YtfplgfodoiiobaaGreatDoorD13
open Option renaming none→O,some→M
open Go.Value renaming int→I,slice→Z,pointer→U
open Go.IntKind renaming i64→V
open Go.Obj renaming cells→C
open Go.Ending renaming returned→G
open Go renaming World→F,Value→Y,Calls→H
open Go.Proofs.Tryz renaming prog→K
open Go.Proofs.Tryz
namespace Go.Proofs.YtfplgfodoiiobaaGreatDoor
set_option maxHeartbeats 4000000
set_option maxRecDepth 100000
open Go.RowKit
abbrev AaN:=@decide_eq_false
abbrev Acy:=@ByteArray.data_extract
abbrev AcG:=@Array.toList_extract
abbrev AdD:=@List.drop_drop
variable {w w' w1:F}{s:Sc}{g db i k:Nat}{fv v:Y}{S:ByteArray}{room:Int}{rs:List FR}{ao:Option Addr}{fs:List bC}{m:dD}{b:Bool}{r:Sn}
abbrev AF:=Int×ByteArray
variable {l:List AF}{f:AF}
def Hf (f:AF):bC:=(f.1,f.2,(f.2.size:Int))
def Aw (w:F)(ao:Option Addr)(l:List AF):Prop:=l=[]\/∃b off,ao=M ⟨b,off,O⟩/\∀(i:Nat) (f:AF),l[i]?=M f->w.cell? ⟨b,off+i*2,O⟩=M (I V f.1)/\w.cell? ⟨b,off+i*2+1,O⟩=M (.string f.2)
theorem Aw.aN (h:Aw w ao l)(hg:aL w w'):Aw w' ao l:=by
 rcases h with h|⟨b,off,e,hc⟩
 ·exact Aac h
 ·exact Aab ⟨b,off,e,fun i f hf=>⟨hg.cell (hc i f hf).1,hg.cell (hc i f hf).2⟩⟩
theorem Aw.at (h:Aw w ao l)(hf:l[i]?=M f):∃b off,ao=M ⟨b,off,O⟩/\w.cell? ⟨b,off+i*2,O⟩=M (I V f.1)/\w.cell? ⟨b,off+i*2+1,O⟩=M (.string f.2):=by
 rcases h with rfl|⟨b,off,e,hc⟩
 ·simp at hf
 ·exact⟨b,off,e,(hc i f hf).1,(hc i f hf).2⟩
def xh (room:Int)(l:List AF):Prop:=l.Pairwise (fun a b=>a.1<b.1)/\(∀f∈l,0<=f.1/\f.2.size≠0)/\bV (l.map Hf)<=room
theorem IQ (h:xh room l)(k:Nat):xh room (l.take k):=by
 obtain⟨h1,h2,h3⟩:=h;refine⟨h1.sublist (List.take_sublist _ _),fun f hf=>h2 f (AaX hf),?_⟩;rw[AbB];exact AcL (Gv _ _) h3
theorem Iw (h:l[k]?=M f):bV ((l.take (k+1)).map Hf)=bV ((l.take k).map Hf)+(f.2.size:Int):=by
 have h2:(l.map Hf)[k]?=M (Hf f):=by simp[h]
 rw[AbB,AbB,Aj h2];rfl
theorem sF (h:l[k]?=M f):l.take (k+1)=l.take k++ [f]:=by
 have bP:=(Aae.1 h).1;rw[Aau bP,(Aae.1 h).2]
theorem XZ (h:l[k]?=M f):(l.take (k+1)).map Hf=(l.take k).map Hf++ [(f.1,f.2,(f.2.size:Int))]:=by rw[sF h,Abb];rfl
theorem Yv (h:l[k]?=M f):f∈l.take (k+1):=by rw[sF h];simp
theorem IU (h:xh room (l.take k))(hf:l[k]?=M f)(h0:0<=f.1)(h1:∀(j:Nat) (g:AF),k=j+1->l[j]?=M g->g.1<f.1)(h2:f.2.size≠0)(h3:bV ((l.take k).map Hf)+(f.2.size:Int)<=room):xh room (l.take (k+1)):=by
 obtain⟨a,b,c⟩:=h;refine⟨?_,?_,by rw[Iw hf];exact h3⟩
 ·rw[sF hf,Abd];refine⟨a,by simp,fun x hx y hy=>?_⟩;simp only[AbY]at hy;subst hy;cases k with
  |zero=>simp at hx
  |succ j=>
   obtain⟨g,hg⟩:∃g,l[j]?=M g:=⟨_,Aag (by have:=(Aae.1 hf).1;omega)⟩;have h4:=h1 j g rfl hg;rw[sF hg]at hx a;rw[Abd]at a;simp only[Aba,AbY]at hx;rcases hx with hx|rfl
   ·have:=a.2.2 x hx g (by simp);omega
   ·exact h4
 ·intro x hx;rw[sF hf]at hx;simp only[Aba,AbY]at hx;rcases hx with hx|rfl
  ·exact b x hx
  ·exact⟨h0,h2⟩
theorem Ay (h:¬xh s.room l)(ho:s.aX=false):gI (s,fs,m) l=((s,fs,m),1):=by
 unfold gI;rw[Aaa (by simp[ho]),Aaa (fun h2=>h ⟨h2.2.1,h2.2.2.1,h2.2.2.2⟩)]
theorem xk (h:xh s.room l)(hl:l.length<=40)(ho:s.aX=false):gI (s,fs,m) l=((s,l.map Hf,m),0):=by
 unfold gI;rw[Aaa (by simp[ho]),Aad ⟨hl,h.1,h.2.1,h.2.2⟩];rfl
theorem Fv (hf:l[k]?=M f)(h:f.1<0\/f.2.size=0\/room<bV ((l.take k).map Hf)+(f.2.size:Int)):¬xh room l:=by
 intro hk;obtain⟨a,b,c⟩:=IQ hk (k+1);have hb:=b f (Yv hf);rw[Iw hf]at c;omega
theorem okA_ord {j:Nat}{g:AF}(hf:l[j+1]?=M f)(hg:l[j]?=M g)(h:f.1<=g.1):¬xh room l:=by
 intro hk;obtain⟨a,-,-⟩:=IQ hk (j+1+1);rw[sF hf,Abd]at a;have:=a.2.2 g (Yv hg) f (by simp);omega
theorem pU {xb:Nat}{f:bS}(h:After w w1 xb s fs m f)(n:Nat):After w (w1.drewN n) xb s fs m f:=by
 obtain⟨f',h1,h2⟩:=h;exact⟨f',h1.aN (bB (aL.refl w1) n),h2.aN (bB (aL.refl w1) n)⟩
theorem xu {xb:Nat}{f:bS}{la ca:Nat}(h:bM w xb s fs m f)(hc:iL s)(hr:Aw w ao l)(e1:la=l.length)(Ow:l.length<=140737488355328)(Yw:∀g∈l,g.2.size<=140737488355328):
 H K 111 #[U (M ⟨xb,0,O⟩),Z ao la ca] w fun e w'=>e=G (I V (gI (s,fs,m) l).2)/\After w w' xb s (gI (s,fs,m) l).1.2.1 m f:=by
 subst e1;have HS:Hid (bM w xb s fs m f):=h;obtain⟨hxl,-⟩:=h.row;obtain⟨r,hx,hf,hm⟩:=h;obtain⟨xO,-⟩:=fI hx;have c2:=Pk hx;clear hx hf hm;by_cases e1:s.aX=true
 ·have HE:Hid (gI (s,fs,m) l=((s,fs,m),2)):=by show _=_;unfold gI;rw[Aad e1]
  rw[e1]at xO;clear hr;go_enter func111,ntmps111;go_wp2_with fail;go_ret;rw[HE.out];exact⟨rfl,f,HS.out,kH.refl _ _ _⟩
 ·have ho:s.aX=false:=by simpa using e1
  rw[ho]at xO;by_cases e2:40<l.length
  ·have HE:Hid (gI (s,fs,m) l=((s,fs,m),1)):=(by show _=_;unfold gI;rw[Aaa e1,Aaa (fun h2=>by omega)]);clear hr;go_enter func111,ntmps111;go_wp2_with fail;go_ret;rw[HE.out];exact⟨rfl,f,HS.out,kH.refl _ _ _⟩
  ·have rm:=hc.kI;have HO:Hid (s.aX=false):=ho;clear e1 ho;go_enter func111,ntmps111;go_wp2_with fail
   go_loopw [5,6,7] (fun u v i wr=> ∃k:Nat,k<=l.length/\i=I V (k:Int)/\u=I V (bV ((l.take k).map Hf))/\tF wr w.heap.size v ((l.take k).map Hf)/\Below w.heap.size w wr/\Hid (xh s.room (l.take k))) (fun _ _ i _=>l.length-(intOf i).toNat)
   case atStart=>exact⟨0,Aap _,rfl,rfl,AaI _ _ _ _,AaS _ _,⟨by simp,by simp,by simp[bV];exact hc.Yo⟩⟩
   case round=>
    obtain⟨k,hk,rfl,rfl,bD,hB,kP⟩:=hrel;have hus:bV ((l.take k).map Hf)<=s.room:=kP.out.2.2;have hun:=rC ((l.take k).map Hf);have d2:=AaB hB c2;by_cases bP:k<l.length
    ·obtain⟨⟨gn,gb⟩,hg⟩:∃g,l[k]?=M g:=⟨_,Aag bP⟩;have hgb:=Yw _ (Aai hg);simp only at hgb;have HT:Hid (bV ((l.take (k+1)).map Hf)=bV ((l.take k).map Hf)+(gb.size:Int)):=Iw hg;have HL:Hid ((l.take (k+1)).map Hf=(l.take k).map Hf++ [(gn,gb,(gb.size:Int))]):=XZ hg;have hlen:((l.take k).map Hf).length<=40:=(by rw[AbL,Aaw];omega);have UD:=hr.aN hB;obtain⟨b,off,rfl,p1,p2⟩:=UD.at hg;simp only at p1 p2;have HG:Hid (l[k]?=M (gn,gb)):=hg;have i1:(0:Int)<=(k:Int):=(by omega);have i2:(k:Int)<(l.length:Int):=(by omega);have uT:Hid (bM wr xb s fs m f):=HS.out.aN hB;have yN:Hid (kH w wr xb f f):=(kH.refl w xb f).aN hB;have Jt:=hr;clear hg hr;generalize hUU:bV ((l.take k).map Hf)=aH at*;have HUU:Hid (bV ((l.take k).map Hf)=aH):=hUU;clear hUU;generalize hOO:(l.take k).map Hf=out at*;have HO2:Hid ((l.take k).map Hf=out):=hOO;clear hOO;have hs:=hB.size;go_upto_region 12 with fail;have y0:(wr.alloc (C #[I V gn,.string gb] 58)).cell? ⟨wr.heap.size,0,O⟩=M (I V gn):=(by simp);have y1:(wr.alloc (C #[I V gn,.string gb] 58)).cell? ⟨wr.heap.size,1,O⟩=M (.string gb):=(by simp);have y2:=AaB (aP wr (C #[I V gn,.string gb] 58)) d2;have sW:tF (wr.alloc (C #[I V gn,.string gb] 58)) w.heap.size u6 out:=Aay bD _;have NH:Below w.heap.size w (wr.alloc (C #[I V gn,.string gb] 58)):=aQ hB (aP _ _);have Tx:Hid (After w (wr.alloc (C #[I V gn,.string gb] 58)) xb s fs m f):=⟨f,uT.out.aN (aP _ _),yN.out.aN (aP _ _)⟩;clear bD hB p1 p2 d2;have HQ:Hid (aL wr (wr.alloc (C #[I V gn,.string gb] 58))):=aP _ _;have hlq:wr.heap.size<(wr.alloc (C #[I V gn,.string gb] 58)).heap.size:=(by simp);generalize hq:wr.heap.size=tq at*;generalize wr.alloc (C #[I V gn,.string gb] 58)=wq at*;by_cases hk0:k=0
     ·have HZ:Hid (k=0):=hk0;have k0:¬(0:Int)<(k:Int):=(by omega);have k1:decide (0<k)=false:=AaN (by omega);clear hk0;clear UD Jt;by_cases z1:gn<0
      ·have HE:Hid (gI (s,fs,m) l=((s,fs,m),1)):=Ay (Fv HG.out (Aac z1)) HO.out;go_quiet (fail);go_wp2_with fail;go_ret;rw[HE.out];exact⟨rfl,pU Tx.out _⟩
      ·by_cases z3:gb.size=0
       ·have HE:Hid (gI (s,fs,m) l=((s,fs,m),1)):=Ay (Fv HG.out (Aab (Aac z3))) HO.out;have z3':((gb.size:Int)==0)=true:=(by simp[z3]);go_quiet (fail);go_wp2_with fail;go_ret;rw[HE.out];exact⟨rfl,pU Tx.out _⟩
       ·have z3':((gb.size:Int)==0)=false:=(by rw[Aat];omega);by_cases z4:s.room<aH+(gb.size:Int)
        ·have HE:Hid (gI (s,fs,m) l=((s,fs,m),1)):=Ay (Fv HG.out (Aab (Aab (by rw[HO2.out,HUU.out];exact z4)))) HO.out;go_quiet (fail);go_wp2_with fail;go_ret;rw[HE.out];exact⟨rfl,pU Tx.out _⟩
        ·have HK:Hid (xh s.room (l.take (k+1))):=IU kP.out HG.out (by simp only;omega) (fun i g e hg=>by have:=HZ.out;omega) z3 (by rw[HO2.out,HUU.out];simp only;omega);go_quiet (fail);have Hg:tF (wq.drewN nq) w.heap.size u6 out:=sW;have hB9:Below w.heap.size w (wq.drewN nq):=bB NH _;have y0':(wq.drewN nq).cell? ⟨tq,0,O⟩=M (I V gn):=y0;have y1':(wq.drewN nq).cell? ⟨tq,1,O⟩=M (.string gb):=y1;have hs9:=hB9.size;have htq:tq<(wq.drewN nq).heap.size:=hlq;clear sW NH y0 y1 y2;generalize wq.drewN nq=w9 at*;go_wp2_with (at_builtin;go_must (refine nU (by rfl) (.tmp 63) (.tmp 72) (by rfl) w.heap.size _ out (gn,gb,(gb.size:Int)) (by rfl) (by exact Aay Hg _) _ _ _ (by rfl) (by rfl) (by exact AbR (Aaf w9 _)) (by omega) (by simp;omega) ?_);intro v5 w5 dK eO);go_roundw
         case rel=>exact⟨k+1,by omega,by go_num,by rw[HT.out],by rw[HL.out];exact dK,(lZ hB9 (aP _ _) (by omega)).grown eO (by simp;omega) (fun k e=>(AaA Hg k e).1),HK.out⟩
         case measure=>simp[intOf];omega
     ·obtain⟨j,rfl⟩:∃j,k=j+1:=⟨k-1,by omega⟩;clear hk0;obtain⟨⟨vn,vb⟩,hv⟩:∃g,l[j]?=M g:=⟨_,Aag (by omega)⟩;obtain⟨b',Qf,eb,v1,-⟩:=UD.at hv;cases eb
      simp only at v1;have HV:Hid (l[j]?=M (vn,vb)):=hv;have y3:=AaB HQ.out v1;have j0:(0:Int)<((j+1:Nat):Int):=(by omega);have j1:(0:Int)<=((j+1:Nat):Int)-1:=(by omega);have j2:((j+1:Nat):Int)-1<(l.length:Int):=(by omega);clear hv;clear UD Jt;by_cases z1:gn<0
      ·have HE:Hid (gI (s,fs,m) l=((s,fs,m),1)):=Ay (Fv HG.out (Aac z1)) HO.out;go_quiet (fail);go_wp2_with fail;go_ret;rw[HE.out];exact⟨rfl,pU Tx.out _⟩
      ·by_cases z2:gn<=vn
       ·have HE:Hid (gI (s,fs,m) l=((s,fs,m),1)):=Ay (okA_ord HG.out HV.out z2) HO.out;go_quiet (fail);go_wp2_with fail;go_ret;rw[HE.out];exact⟨rfl,pU Tx.out _⟩
       ·by_cases z3:gb.size=0
        ·have HE:Hid (gI (s,fs,m) l=((s,fs,m),1)):=Ay (Fv HG.out (Aab (Aac z3))) HO.out;have z3':((gb.size:Int)==0)=true:=(by simp[z3]);go_quiet (fail);go_wp2_with fail;go_ret;rw[HE.out];exact⟨rfl,pU Tx.out _⟩
        ·have z3':((gb.size:Int)==0)=false:=(by rw[Aat];omega);by_cases z4:s.room<aH+(gb.size:Int)
         ·have HE:Hid (gI (s,fs,m) l=((s,fs,m),1)):=Ay (Fv HG.out (Aab (Aab (by rw[HO2.out,HUU.out];exact z4)))) HO.out;go_quiet (fail);go_wp2_with fail;go_ret;rw[HE.out];exact⟨rfl,pU Tx.out _⟩
         ·have HK:Hid (xh s.room (l.take (j+1+1))):=IU kP.out HG.out (by simp only;omega) (fun i g e hg=>by(have e':i=j:=by omega);subst e';rw[HV.out]at hg;cases hg;simp only;omega) z3 (by rw[HO2.out,HUU.out];simp only;omega);go_quiet (fail);have Hg:tF (wq.drewN nq) w.heap.size u6 out:=sW;have hB9:Below w.heap.size w (wq.drewN nq):=bB NH _;have y0':(wq.drewN nq).cell? ⟨tq,0,O⟩=M (I V gn):=y0;have y1':(wq.drewN nq).cell? ⟨tq,1,O⟩=M (.string gb):=y1;have hs9:=hB9.size;have htq:tq<(wq.drewN nq).heap.size:=hlq;clear sW NH y0 y1 y2 y3;generalize wq.drewN nq=w9 at*;go_wp2_with (at_builtin;go_must (refine nU (by rfl) (.tmp 63) (.tmp 72) (by rfl) w.heap.size _ out (gn,gb,(gb.size:Int)) (by rfl) (by exact Aay Hg _) _ _ _ (by rfl) (by rfl) (by exact AbR (Aaf w9 _)) (by omega) (by simp;omega) ?_);intro v5 w5 dK eO);go_roundw
          case rel=>exact⟨j+1+1,by omega,by go_num,by rw[HT.out],by rw[HL.out];exact dK,(lZ hB9 (aP _ _) (by omega)).grown eO (by simp;omega) (fun k e=>(AaA Hg k e).1),HK.out⟩
          case measure=>simp[intOf];omega
    ·have e1:l.take k=l:=Aaq (by omega);rw[e1]at bD kP;have HE:Hid (gI (s,fs,m) l=((s,l.map Hf,m),0)):=xk kP.out (by omega) HO.out;have uT:=HS.out.aN hB;obtain⟨r9,He,UC,hm9⟩:=uT;obtain⟨x9,n9,c9,rfl⟩:=rY bD;have BQ:=qY bD;have Sz:=Gu bD;have c3:=jR He;obtain⟨-,-,-,-,-,-,cf⟩:=kT He;have f3:=cf 3;have Au:After w (wr.setCell ⟨xb,3,O⟩ (Z x9 n9 c9)) xb s (l.map Hf) m f:=⟨(x9,n9,c9),⟨r9,rZ (f':=(x9,n9,c9)) He,BQ.jC He,hm9.jC He⟩,(((kH.refl w xb f).aN hB).row Sz).set⟩;clear cf bD He UC hm9 hr;go_wp2_with fail;go_ret;rw[HE.out];exact⟨rfl,Au⟩
def YA (most depth room:Int):Prop:=most<0\/5000<most\/depth<0\/50<depth\/room<0\/1000000<room
def mY (most depth room:Int):Sc:=⟨most,depth,room,false,0,0,0,false,0,false,false,0⟩
def Ty:fC:=((O,0,0),(O,0,0),(O,0,0),0,0)
def Az:dD:=([],[],[],0,0)
theorem xw {most depth:Int}(h:YA most depth room):H K 98 #[I V most,I V depth,I V room] w fun e w'=>e=G (U O)/\w'=w:=by
 unfold YA at h;by_cases z0:most<0
 ·clear h;go_enter func98,ntmps98;go_wp2_with fail;go_ret;exact⟨rfl,rfl⟩
 ·by_cases z1:5000<most
  ·clear h;go_enter func98,ntmps98;go_wp2_with fail;go_ret;exact⟨rfl,rfl⟩
  ·by_cases z2:depth<0
   ·clear h;go_enter func98,ntmps98;go_wp2_with fail;go_ret;exact⟨rfl,rfl⟩
   ·by_cases z3:50<depth
    ·clear h;go_enter func98,ntmps98;go_wp2_with fail;go_ret;exact⟨rfl,rfl⟩
    ·by_cases z4:room<0
     ·clear h;go_enter func98,ntmps98;go_wp2_with fail;go_ret;exact⟨rfl,rfl⟩
     ·have z5:1000000<room:=(by omega);clear h;go_enter func98,ntmps98;go_wp2_with fail;go_ret;exact⟨rfl,rfl⟩
theorem YB {most depth:Int}(h:¬YA most depth room):H K 98 #[I V most,I V depth,I V room] w fun e w'=>e=G (U (M ⟨w.heap.size,0,O⟩))/\bM w' w.heap.size (mY most depth room) [] Az (O,0,0)/\aL w w':=by
 unfold YA at h;have z0:¬most<0:=by omega
 have z1:¬5000<most:=by omega
 have z2:¬depth<0:=by omega
 have z3:¬50<depth:=by omega
 have z4:¬room<0:=by omega
 have z5:¬1000000<room:=by omega
 clear h;go_enter func98,ntmps98;go_wp2_with fail;go_ret;exact⟨rfl,⟨Ty,Aaf w _,⟨Vy.nil _,rfl,fun _=>⟨rfl,rfl⟩⟩,⟨⟨yF.nil _,rfl,fun _=>⟨rfl,rfl⟩⟩,eP.nil _,eP.nil _,rfl,rfl⟩⟩,aP _ _⟩
def Og (w w':F)(g:Nat):Prop:=Fr w w' (fun b=>b=g)/\(w'.os=w.os/\w'.tape=w.tape/\w'.output=w.output)
theorem Og.refl (w:F)(g:Nat):Og w w g:=⟨Fr.refl _ _,rfl,rfl,rfl⟩
theorem Og.trans {w2:F}(h1:Og w w1 g)(h2:Og w1 w2 g):Og w w2 g:=⟨h1.1.trans h2.1,h2.2.1.trans h1.2.1,h2.2.2.1.trans h1.2.2.1,h2.2.2.2.trans h1.2.2.2⟩
theorem Og.aN {w2:F}(h1:Og w w1 g)(h2:aL w1 w2):Og w w2 g:=⟨h1.1.trans (Fr.cZ h2 _),h2.os.trans h1.2.1,h2.tape.trans h1.2.2.1,h2.output.trans h1.2.2.2⟩
theorem Og.set (h1:Og w w1 g):Og w (w1.setCell ⟨g,i,O⟩ v) g:=⟨h1.1.trans (Fr.set w1 ⟨g,i,O⟩ v),h1.2⟩
theorem Og.drewN (h1:Og w w1 g)(n:Nat):Og w (w1.drewN n) g:=h1.aN (bB (aL.refl w1) n)
def zJ (S:ByteArray)(i:Nat)(bad:Bool):Obj:=C #[.string S,I V (i:Int),.bool bad] 305 (0,0)
def lV (w:F)(g:Nat)(S:ByteArray)(r:Sn):Prop:=∃i:Nat,i<=S.size/\r.1=S.data.toList.drop i/\w.heap[g]?=M (zJ S i r.2)
theorem Iy (h:w.heap[g]?=M (zJ S i b)):w.cell? ⟨g,0,O⟩=M (.string S)/\w.cell? ⟨g,1,O⟩=M (I V (i:Int))/\w.cell? ⟨g,2,O⟩=M (.bool b)/\∀j,w.frozen? ⟨g,j,O⟩=false:=by
 simp[World.cell?,World.frozen?,h,zJ]
theorem YC (k:Nat)(h:w.heap[g]?=M (zJ S i b)):(w.setCell ⟨g,1,O⟩ (I V (k:Int))).heap[g]?=M (zJ S k b):=by rw[Aaj w g 1 _ _ _ h];rfl
theorem YD (c:Bool)(h:w.heap[g]?=M (zJ S i b)):(w.setCell ⟨g,2,O⟩ (.bool c)).heap[g]?=M (zJ S i c):=by rw[Aaj w g 2 _ _ _ h];rfl
theorem lV.bad (h:lV w g S r):lV (w.setCell ⟨g,2,O⟩ (.bool true)) g S (r.1,true):=by
 obtain⟨i,h1,h2,h3⟩:=h;exact⟨i,h1,h2,YD true h3⟩
theorem lV.aN (h:lV w g S r)(hg:aL w w'):lV w' g S r:=by
 obtain⟨i,h1,h2,h3⟩:=h;exact⟨i,h1,h2,(hg.block g (aM h3)).trans h3⟩
theorem PG (i:Nat)(x y:Int)(qh:0<=x)(hx:x % 2 ^ i=0)(qi:x<2 ^ 32)(qj:0<=y)(hy:y<2 ^ i)(qm:y<2 ^ 32):bits .or V x y=x+y:=
 bits_join V 32 (by decide) (fun n h0 h1=>by rw[AaE];omega) i x y qh hx qi qj hy qm
theorem Iz (n:Int)(h0:0<=n)(h1:n<=4294967296):wrap64 n=n:=by unfold wrap64;omega
theorem or4 {a b c d:Int}(a0:0<=a)(a1:a<256)(b0:0<=b)(b1:b<256)(c0:0<=c)(c1:c<256)(d0:0<=d)(d1:d<256):
 bits .or V (bits .or V (bits .or V (wrap64 (wrap64 a*16777216)) (wrap64 (wrap64 b*65536))) (wrap64 (wrap64 c*256))) (wrap64 d)=a*16777216+b*65536+c*256+d:=by
 rw[Iz a (by omega) (by omega),Iz b (by omega) (by omega),Iz c (by omega) (by omega),Iz d (by omega) (by omega),Iz (a*16777216) (by omega) (by omega),Iz (b*65536) (by omega) (by omega),Iz (c*256) (by omega) (by omega)];rw[PG 24 (a*16777216) (b*65536) (by omega) (by omega) (by omega) (by omega) (by omega) (by omega)];rw[PG 16 (a*16777216+b*65536) (c*256) (by omega) (by omega) (by omega) (by omega) (by omega) (by omega)];rw[PG 8 (a*16777216+b*65536+c*256) d (by omega) (by omega) (by omega) (by omega) (by omega) (by omega)]
theorem ret_i64 {a b:Int}(h:a=b):Ending.returned (I V a)=G (I V b):=by rw[h]
theorem yg {l:List UInt8}(h:w.heap[g]?=M (zJ S i b))(hb:b=false)(hi:i+4<=S.size)(hl:l=S.data.toList.drop (i+4))(n m:Nat):lV (((w.drewN n).setCell ⟨g,1,O⟩ (I V ((i:Int)+4))).drewN m) g S (l,false):=by
 subst hb;refine⟨i+4,hi,hl,?_⟩;have h1:(w.drewN n).heap[g]?=M (zJ S i false):=h;exact YC (i+4) h1
theorem four_of {l:List UInt8}(h:4<=l.length):∃a b c d rest,l=a::b::c::d::rest:=by
 match l,h with
 |a::b::c::d::rest,_=>exact⟨a,b,c,d,rest,rfl⟩
theorem yj {a b c d:UInt8}{rest:List UInt8}(h:S.data.toList.drop i=a::b::c::d::rest):S.extract i (i+4)=⟨#[a,b,c,d]⟩:=by
 have h1:(S.extract i (i+4)).data.toList=(S.data.toList.drop i).take 4:=by
  rw[Acy,AcG];simp[List.extract]
 rw[h]at h1
 have h2:(S.extract i (i+4)).data=#[a,b,c,d]:=by
  apply Array.toList_inj.1;rw[h1];rfl
 cases hS:S.extract i (i+4)with
 |mk data=>rw[hS]at h2;simp only at h2;rw[h2]
theorem iX (h:lV w g S r)(hS:S.size<=2000000):
 H K 223 #[U (M ⟨g,0,O⟩)] w fun e w'=>e=G (I V (bG r).1)/\lV w' g S (bG r).2/\Og w w' g:=by
 have HS:Hid (lV w g S r):=h;obtain⟨i,h1,h2,h3⟩:=h;obtain⟨c0,c1,c2,cf⟩:=Iy h3;have f1:=cf 1;have f2:=cf 2;have hlen:r.1.length=S.size-i:=by rw[h2,AaP];rfl
 clear cf;have HX:Hid (w.heap[g]?=M (zJ S i r.2)):=h3;clear h3;by_cases hb:r.2=true
 ·have HE:Hid (bG r=(0,(r.1,true))):=by show _=_;exact Aq hb
  rw[hb]at c2;go_enter func223,ntmps223;go_wp2_with fail;go_quiet (fail);go_wp2_with fail;go_ret;rw[HE.out];exact⟨rfl,(HS.out.aN (bB (aL.refl w) _)).bad,((Og.refl w g).drewN _).set⟩
 ·have qG:r.2=false:=by simpa using hb
  rw[qG]at c2;by_cases hs:r.1.length<4
  ·have HE:Hid (bG r=(0,(r.1,true))):=(by show _=_;unfold bG;rw[Aad (Aab hs)]);have z1:(S.size:Int)<(i:Int)+4:=(by omega);clear h2 hlen;go_enter func223,ntmps223;go_wp2_with fail;go_quiet (fail);go_wp2_with fail;go_ret;rw[HE.out];exact⟨rfl,(HS.out.aN (bB (aL.refl w) _)).bad,((Og.refl w g).drewN _).set⟩
  ·have HE:Hid (bG r=(gZ r.1,(r.1.drop 4,false))):=(by show _=_;unfold bG;rw[Aaa (by rw[qG];simp;omega)]);have z1:¬(S.size:Int)<(i:Int)+4:=(by omega);have z2:(i:Int)+4<=(S.size:Int):=(by omega);have z3:(0:Int)<=(i:Int):=(by omega);have z4:(i:Int)<=(i:Int)+4:=(by omega);obtain⟨a,b,c,d,rest,Gc⟩:∃a b c d rest,r.1=a::b::c::d::rest:=four_of (by omega);have hT:S.extract i (i+4)=⟨#[a,b,c,d]⟩:=yj (h2.symm.trans Gc);have HR:Hid (r.1=a::b::c::d::rest):=Gc;have HI:Hid (r.1.drop 4=S.data.toList.drop (i+4)):=(by show _=_;rw[h2,AdD]);have ba:=Abl a;have bb:=Abl b;have bc:=Abl c;have bd:=Abl d;clear h2 hlen Gc;go_enter func223,ntmps223;go_wp2_with fail;go_quiet (fail);go_wp2_with fail;go_quiet (fail);go_wp2_with fail;rw[hT];go_quiet (fail);go_wp2_with fail;go_ret;rw[HE.out];refine⟨?_,yg HX.out qG (by omega) HI.out _ _,((Og.refl w g).drewN _).set.drewN _⟩;rw[HR.out];exact ret_i64 (or4 (a:=(a.toNat:Int)) (b:=(b.toNat:Int)) (c:=(c.toNat:Int)) (d:=(d.toNat:Int)) (by omega) (by omega) (by omega) (by omega) (by omega) (by omega) (by omega) (by omega))
theorem jK {B e size n:Nat}{xs:List Y}(h:w.ownsRow B e size v n xs)(hg:v.ownBlock=M g):∃aS,w.heap[g]?=M (C aS e (0,0)):=by
 rcases h.2 with⟨rfl,-⟩|⟨g',cap,aS,rfl,-,hh,-⟩
 ·simp[Value.ownBlock]at hg
 ·simp[Value.ownBlock]at hg;subst hg;exact⟨aS,hh⟩
def DTy (w:F)(b:Nat):Prop:=∃aS t mk,w.heap[b]?=M (C aS t mk)/\(t=137\/t=155\/t=157\/t=5)
theorem aU.ty (h:aU w db s fv rs){b:Nat}(hb:DX db fv rs b):DTy w b:=by
 obtain⟨h1,h2,h3,-⟩:=h;rcases hb with rfl|hb|⟨r,hr,rfl|hb⟩
 ·exact⟨_,_,_,h1,Aac rfl⟩
 ·obtain⟨aS,hc⟩:=jK h2 hb;exact⟨_,_,_,hc,Aab (Aac rfl)⟩
 ·exact⟨_,_,_,(h3 r hr).1,Aab (Aab (Aac rfl))⟩
 ·obtain⟨aS,mk,hc⟩:=(h3 r hr).2.ty hb;exact⟨_,_,_,hc,Aab (Aab (Aab rfl))⟩
theorem DTy.lt {b:Nat}(h:DTy w b):b<w.heap.size:=by
 obtain⟨aS,t,mk,h,-⟩:=h;exact aM h
theorem DTy.ne {b:Nat}(h:DTy w b){c:Nat}{aS:Array Y}{t:TypeId}{f:Nat×Nat}(hc:w.heap[c]?=M (C aS t f))(h1:t≠137)(h2:t≠155)(h3:t≠157)(h4:t≠5):b≠c:=by
 rintro rfl;obtain⟨qN,t',mk',h,ht⟩:=h;rw[hc]at h;cases h
 rcases ht with rfl|rfl|rfl|rfl<;>contradiction
theorem aZ {b c:Nat}{aS qN:Array Y}{t t':TypeId}{f f':Nat×Nat}(hb:w.heap[b]?=M (C aS t f))(hc:w.heap[c]?=M (C qN t' f'))(h:t≠t'):b≠c:=by
 rintro rfl;rw[hb]at hc;cases hc
 exact h rfl
theorem gP.fr {X:Nat->Prop}{r:FR}(h:gP w r)(hF:Fr w w' X)(h1:¬X r.b)(h2:∀g,r.v.ownBlock=M g->¬X g):gP w' r:=⟨hF.at h.1 h1,h.2.fr hF h2⟩
theorem aU.keep {aD:Nat->Prop}{s':Sc}(h:aU w db s fv rs)(Kv:w'.heap[db]?=M (jE s' fv))(hF:Fr w w' aD)(hY:∀b,DX db fv rs b->b≠db->¬aD b):aU w' db s' fv rs:=by
 obtain⟨h1,h2,h3,h4⟩:=h;refine⟨Kv,bK h2 hF (fun g aS e hc=>hY g (Aab (Aac e)) (aZ hc h1 (by decide))),fun r hr=>?_,h4⟩;refine(h3 r hr).fr hF (hY _ (Aab (Aab ⟨r,hr,Aac rfl⟩)) (aZ (h3 r hr).1 h1 (by decide))) (fun g hg=>?_);obtain⟨aS,mk,hc⟩:=(h3 r hr).2.ty hg;exact hY _ (Aab (Aab ⟨r,hr,Aab hg⟩)) (aZ hc h1 (by decide))
theorem aU.fr {aD:Nat->Prop}(h:aU w db s fv rs)(hF:Fr w w' aD)(hY:∀b,DX db fv rs b->¬aD b):aU w' db s fv rs:=
 h.keep (hF.at h.1 (hY _ (Aac rfl))) hF (fun b hb _=>hY b hb)
theorem aU.aN (h:aU w db s fv rs)(hg:aL w w'):aU w' db s fv rs:=h.fr (Fr.cZ hg (fun _=>False)) (fun _ _=>id)
theorem aU.set {s':Sc}(h:aU w db s fv rs)(Kv:(w.setCell ⟨db,i,O⟩ v).heap[db]?=M (jE s' fv)):aU (w.setCell ⟨db,i,O⟩ v) db s' fv rs:=
 h.keep Kv (Fr.set w ⟨db,i,O⟩ v) (fun _ _ hn e=>hn e)
theorem Nj (a:Bool)(h:w.heap[db]?=M (jE s fv)):(w.setCell ⟨db,2,O⟩ (.bool a)).heap[db]?=M (jE { s with refusing:=a } fv):=by rw[Aaj w db 2 _ _ _ h];rfl
theorem Yx (a:Int)(h:w.heap[db]?=M (jE s fv)):(w.setCell ⟨db,3,O⟩ (I V a)).heap[db]?=M (jE { s with left:=a } fv):=by rw[Aaj w db 3 _ _ _ h];rfl
theorem Yy (a:Bool)(h:w.heap[db]?=M (jE s fv)):(w.setCell ⟨db,4,O⟩ (.bool a)).heap[db]?=M (jE { s with jL:=a } fv):=by rw[Aaj w db 4 _ _ _ h];rfl
theorem Yz (a:Int)(h:w.heap[db]?=M (jE s fv)):(w.setCell ⟨db,5,O⟩ (I V a)).heap[db]?=M (jE { s with after:=a } fv):=by rw[Aaj w db 5 _ _ _ h];rfl
def pV (s:Sc)(fs:List bC)(n:Int):Bool×Sc:=
 if s.refusing=true/\s.left=0 then (true,{ s with refusing:=false })else if s.room<bV fs+n then (true,s)else (false,if s.refusing then { s with left:=s.left-1 } else s)
theorem PI {n:Int}(h:aU w db s fv rs)(hl:rs.length<=1000)(hf:∀f∈plain rs,f.2.1.size<=2000000)(hr:0<=s.room)(Bt:s.room<=1000000)(hn:0<=n)(Ox:n<=1000000000)(hle:0<=s.left)(hle2:s.left<=9223372036854775807)(hu:0<=bV (plain rs))(TD:bV (plain rs)<=2000000000):
 H K 210 #[U (M ⟨db,0,O⟩),I V n] w fun e w'=>e=G (.bool (pV s (plain rs) n).1)/\aU w' db (pV s (plain rs) n).2 fv rs/\Og w w' db:=by
 obtain⟨c0,c1,c2,c3,c4,c5,c6,c7,cf⟩:=dJ h.1;have HU:Hid (∀W:F,aL w W->H K 247 #[U (M ⟨db,0,O⟩)] W fun e w'=>e=G (I V (bV (plain rs)))/\w'=W):=fun W hW=>used_pg (h.aN hW) (by omega) hf;have HQ:Hid (∀W:F,aL w W->H K 248 #[U (M ⟨db,2,O⟩)] W fun e w'=>e=G (.bool (Dr s.refusing s.left))/\w'=W):=fun W hW=>uj (hW.cell c2) (hW.cell c3);have HN:Hid (∀W:F,aL w W->H K 249 #[U (M ⟨db,2,O⟩)] W fun e w'=>e=G (.bool (Dr s.refusing s.left))/\w'=if Dr s.refusing s.left then W.setCell ⟨db,2,O⟩ (.bool false)else if s.refusing then W.setCell ⟨db,3,O⟩ (I V (s.left-1))else W):=fun W hW=>BU (hW.cell c2) (hW.cell c3) (dJ (h.aN hW).1).2.2.2.2.2.2.2.2 hle hle2;have HD:Hid (aU w db s fv rs):=h;clear h c1 c2 c3 c4 c5 c6 c7 cf hf;have HX:Hid (Dr s.refusing s.left=true↔(s.refusing=true/\s.left=0)):=by show _↔_;unfold Dr;simp
 by_cases IV:s.room-bV (plain rs)<n
 ·cases hd:Dr s.refusing s.left with
  |true=>
   have HE:Hid (pV s (plain rs) n=(true,{ s with refusing:=false })):=(by show _=_;unfold pV;rw[Aad (HX.out.1 hd)]);have Wi:Hid (∀W:F,aL w W->H K 249 #[U (M ⟨db,2,O⟩)] W fun e w'=>e=G (.bool true)/\w'=W.setCell ⟨db,2,O⟩ (.bool false)):=fun W hW=>(HN.out W hW).mono fun e w' he=>by rw[hd]at he;simpa using he
   have HQ2:Hid (∀W:F,aL w W->H K 248 #[U (M ⟨db,2,O⟩)] W fun e w'=>e=G (.bool true)/\w'=W):=fun W hW=>(HQ.out W hW).mono fun e w' he=>by rw[hd]at he;exact he
   clear hd HN HQ HX;generalize bV (plain rs)=u at IV HU hu TD;go_enter func210,ntmps210;go_upto_region 1 with fail;go_quiet (first|(go_at_call 247;exact AbQ (HU.out _ (bB (aL.refl w) _))));go_wp2_with (first|(go_at_call 248;refine(HQ2.out _ (bB (aL.refl w) _)).mono ?_;rintro e w5 ⟨rfl,rfl⟩)|(go_at_call 249;refine(Wi.out _ (bB (aL.refl w) _)).mono ?_;rintro e w6 ⟨rfl,rfl⟩));go_ret;rw[HE.out];exact⟨rfl,(HD.out.aN (bB (aL.refl w) _)).set (Nj false (HD.out.aN (bB (aL.refl w) _)).1),((Og.refl w db).drewN _).set⟩
  |false=>
   have HE:Hid (pV s (plain rs) n=(true,s)):=(by show _=_;unfold pV;rw[Aaa (fun h=>by rw[HX.out.2 h]at hd;cases hd),Aad (by omega)]);have HQ2:Hid (∀W:F,aL w W->H K 248 #[U (M ⟨db,2,O⟩)] W fun e w'=>e=G (.bool false)/\w'=W):=fun W hW=>(HQ.out W hW).mono fun e w' he=>by rw[hd]at he;exact he
   clear hd HN HQ HX;generalize bV (plain rs)=u at IV HU hu TD;go_enter func210,ntmps210;go_upto_region 1 with fail;go_quiet (first|(go_at_call 247;exact AbQ (HU.out _ (bB (aL.refl w) _))));go_wp2_with (first|(go_at_call 248;refine(HQ2.out _ (bB (aL.refl w) _)).mono ?_;rintro e w5 ⟨rfl,rfl⟩));go_ret;rw[HE.out];exact⟨rfl,HD.out.aN (bB (aL.refl w) _),(Og.refl w db).drewN _⟩
 ·cases hd:Dr s.refusing s.left with
  |true=>
   have HE:Hid (pV s (plain rs) n=(true,{ s with refusing:=false })):=(by show _=_;unfold pV;rw[Aad (HX.out.1 hd)]);have Wi:Hid (∀W:F,aL w W->H K 249 #[U (M ⟨db,2,O⟩)] W fun e w'=>e=G (.bool true)/\w'=W.setCell ⟨db,2,O⟩ (.bool false)):=fun W hW=>(HN.out W hW).mono fun e w' he=>by rw[hd]at he;simpa using he
   clear hd HN HQ HX;generalize bV (plain rs)=u at IV HU hu TD;go_enter func210,ntmps210;go_upto_region 1 with fail;go_quiet (first|(go_at_call 247;exact AbQ (HU.out _ (bB (aL.refl w) _))));go_wp2_with (first|(go_at_call 249;refine(Wi.out _ (bB (aL.refl w) _)).mono ?_;rintro e w6 ⟨rfl,rfl⟩));go_ret;rw[HE.out];exact⟨rfl,(HD.out.aN (bB (aL.refl w) _)).set (Nj false (HD.out.aN (bB (aL.refl w) _)).1),((Og.refl w db).drewN _).set⟩
  |false=>
   have Pf:¬(s.refusing=true/\s.left=0):=fun h=>by rw[HX.out.2 h]at hd;cases hd
   cases PK:s.refusing with
   |true=>
    have HE:Hid (pV s (plain rs) n=(false,{ s with left:=s.left-1 })):=(by show _=_;unfold pV;rw[Aaa Pf,Aaa (by omega),Aad PK]);have Wi:Hid (∀W:F,aL w W->H K 249 #[U (M ⟨db,2,O⟩)] W fun e w'=>e=G (.bool false)/\w'=W.setCell ⟨db,3,O⟩ (I V (s.left-1))):=fun W hW=>(HN.out W hW).mono fun e w' he=>by rw[hd,PK]at he;simpa using he
    clear hd HN HQ HX Pf PK;generalize bV (plain rs)=u at IV HU hu TD;go_enter func210,ntmps210;go_upto_region 1 with fail;go_quiet (first|(go_at_call 247;exact AbQ (HU.out _ (bB (aL.refl w) _))));go_wp2_with (first|(go_at_call 249;refine(Wi.out _ (bB (aL.refl w) _)).mono ?_;rintro e w6 ⟨rfl,rfl⟩));go_ret;rw[HE.out];exact⟨rfl,(HD.out.aN (bB (aL.refl w) _)).set (Yx _ (HD.out.aN (bB (aL.refl w) _)).1),((Og.refl w db).drewN _).set⟩
   |false=>
    have HE:Hid (pV s (plain rs) n=(false,s)):=(by show _=_;unfold pV;rw[Aaa Pf,Aaa (by omega),Aaa (by rw[PK];simp)]);have Wi:Hid (∀W:F,aL w W->H K 249 #[U (M ⟨db,2,O⟩)] W fun e w'=>e=G (.bool false)/\w'=W):=fun W hW=>(HN.out W hW).mono fun e w' he=>by rw[hd,PK]at he;simpa using he
    clear hd HN HQ HX Pf PK;generalize bV (plain rs)=u at IV HU hu TD;go_enter func210,ntmps210;go_upto_region 1 with fail;go_quiet (first|(go_at_call 247;exact AbQ (HU.out _ (bB (aL.refl w) _))));go_wp2_with (first|(go_at_call 249;refine(Wi.out _ (bB (aL.refl w) _)).mono ?_;rintro e w6 ⟨rfl,rfl⟩));go_ret;rw[HE.out];exact⟨rfl,HD.out.aN (bB (aL.refl w) _),(Og.refl w db).drewN _⟩
theorem bI.empty (w:F):bI (w.alloc (C #[] 5)) w.heap.size (Z (M ⟨w.heap.size,0,O⟩) 0 0) []:=bI.of (l:=[]) (World.ownsRow_made w #[] 0 (Aak _) (by unfold maxLen;omega) rfl)
theorem yu {cap:Nat}{l:List UInt8}(h:pG w ao l)(hn:ao=O->l.length=0/\cap=0)(hl:l.length<=900000000):
 H K 255 #[Z ao l.length cap] w fun e w'=> ∃v',e=G v'/\bI w' w.heap.size v' l/\aL w w':=by
 cases ao with
 |none=>
  obtain⟨h1,rfl⟩:=hn rfl;have:l=[]:=Aax h1;subst this;have hq:=Lib.run_eql_slice_nil (P:=K) w 153 5 O 0 0 0 0 underlying153;go_enter func255,ntmps255;go_wp2_with fail;go_ret;exact⟨_,rfl,bI.nil w _,aL.refl w⟩
 |some a=>
  have hq:=Lib.run_eql_slice_nil (P:=K) w 153 5 (M a) l.length cap 0 0 underlying153;go_enter func255,ntmps255;go_wp2_with (at_builtin;go_must (refine Bu (by rfl) (.tmp 5) (.tmp 6) (by rfl) w.heap.size _ [] l (by rfl) (by exact bI.empty w) _ _ _ (by rfl) (by rfl) (by intro e;cases e) (by exact h.aN (aP _ _)) (by simp;omega) (by simp) ?_);intro v5 w5 dK eO Ab);go_ret;refine⟨_,rfl,by simpa using dK,?_⟩;have hg:w.grownBy w5 (M w.heap.size):=lM eO;exact⟨hg.os,hg.tape,hg.output,hg.size,fun k hk=>hg.block k hk (fun e=>by cases e;omega)⟩
theorem Za {r:FR}(h:gP w r):
 H K 137 #[U (M ⟨r.b,0,O⟩)] w fun e w'=>e=G (.tuple #[])/\gP w' (r.b,r.v,(r.f.1,r.f.2.1,(r.f.2.1.size:Int)))/\Og w w' r.b:=by
 obtain⟨f0,f1,f2,ff⟩:=gQ h.1;obtain⟨ao,cap,e,-,-,-,vV⟩:=bI.form h.2;have HH:Hid (gP w r):=h;have HE:Hid (r.v=Z ao r.f.2.1.size cap):=e;have g2:=ff 2;rw[HE.out]at f1
 have HY:Hid (∀g,r.v.ownBlock=M g->g≠r.b):=fun g hg=>by
  obtain⟨aS,Rf,hc⟩:=bI.ty h.2 hg;exact aZ hc h.1 (by decide)
 have HS:Hid ((w.setCell ⟨r.b,2,O⟩ (I V (r.f.2.1.size:Int))).heap[r.b]?=M (tK (r.b,r.v,(r.f.1,r.f.2.1,(r.f.2.1.size:Int))))):=by
  show _=_;rw[Aaj w r.b 2 _ _ _ h.1];rfl
 clear h e vV ff;generalize r.f.2.1.size=z at f1 HS ⊢;go_enter func137,ntmps137;go_wp2_with fail;go_end0;exact⟨rfl,⟨HS.out,HH.out.2.fr (Fr.set w ⟨r.b,2,O⟩ _) (fun g hg e=>HY.out g hg e)⟩,(Og.refl w r.b).set⟩
theorem yw (s:ByteArray)(n:Nat):(s.extract 0 n).data.toList=s.data.toList.take n:=by
 rw[Acy,AcG];simp[List.extract]
theorem UE {r:FR}{n:Nat}(h:gP w r)(hn:n<=r.f.2.1.size)(hz:r.f.2.1.size<=2000000):
 H K 237 #[U (M ⟨r.b,0,O⟩),I V (n:Int)] w fun e w'=>e=G (.tuple #[])/\∃v',gP w' (r.b,v',(r.f.1,r.f.2.1.extract 0 n,(n:Int)))/\Og w w' r.b/\∀k,v'.ownBlock=M k->w.heap.size<=k:=by
 obtain⟨f0,f1,f2,ff⟩:=gQ h.1;obtain⟨ao,cap,e,Bz,iI,gL,vV⟩:=bI.form h.2;have jW:r.f.2.1.data.toList.length=r.f.2.1.size:=rfl;rw[jW]at e iI gL;have HH:Hid (gP w r):=h;rw[e]at f1;have Rh:(r.f.2.1.data.toList.take n).length=n:=by rw[Aaw,jW];omega
 have HL:Hid ((r.f.2.1.extract 0 n).data.toList=r.f.2.1.data.toList.take n):=yw _ _;have HZ:Hid ((r.f.2.1.extract 0 n).size=n):=by show(r.f.2.1.extract 0 n).data.toList.length=n;rw[HL.out,Rh]
 have hC:=yu (w:=w) (ao:=ao) (cap:=cap) (l:=r.f.2.1.data.toList.take n) (Bz.take n) (fun h=>by rw[Rh];have:=gL h;omega) (by omega);rw[Rh]at hC;have i1:(0:Int)<=(n:Int):=by omega
 have i2:(n:Int)<=(cap:Int):=by omega
 have bP:=aM h.1
 have HB:Hid (∀(w1:F) (v1:Y),aL w w1->(w1.setCell ⟨r.b,1,O⟩ v1).heap[r.b]?=M (tK (r.b,v1,r.f))):=fun w1 v1 hg=>by
  rw[Aaj w1 r.b 1 _ _ _ ((hg.block _ bP).trans h.1)];rfl
 have HF:Hid (∀(w1:F),aL w w1->w1.frozen? ⟨r.b,1,O⟩=false/\∃u,w1.cell? ⟨r.b,1,O⟩=M u):=fun w1 hg=>by
  have:=gQ (r:=r) ((hg.block _ bP).trans h.1);exact⟨this.2.2.2 1,_,this.2.1⟩
 clear h e vV ff Bz;go_enter func237,ntmps237;go_wp2_with fail;refine hC.mono ?_;rintro e w1 ⟨v1,rfl,bD,iJ⟩;obtain⟨q1,u,q2⟩:=HF.out w1 iJ;obtain⟨PL,Ja,ev,-⟩:=bI.form bD;rw[Rh]at ev;subst ev;go_wp2_with fail;have hne:∀g,(Value.slice PL n Ja).ownBlock=M g->g≠r.b:=fun g hg e=>by have:=(bI.lt bD g hg).1;omega
 have hF2:gP (w1.setCell ⟨r.b,1,O⟩ (Value.slice PL n Ja)) (r.b,(Value.slice PL n Ja),(r.f.1,r.f.2.1.extract 0 n,r.f.2.2)):=⟨HB.out w1 (Value.slice PL n Ja) iJ,by
  show bI _ 0 (Value.slice PL n Ja) (r.f.2.1.extract 0 n).data.toList;rw[HL.out];exact(bD.mono (Aap _)).fr (Fr.set w1 ⟨r.b,1,O⟩ (Value.slice PL n Ja)) (fun g hg e=>hne g hg e)⟩
 refine(Za hF2).mono ?_;rintro e w2 ⟨rfl,hF3,jY⟩;go_wp2_with fail;go_end0;refine⟨rfl,(Value.slice PL n Ja),?_,(((Og.refl w r.b).aN iJ).set).trans jY,fun k hk=>(bI.lt bD k hk).1⟩;have e2:((r.f.2.1.extract 0 n).size:Int)=(n:Int):=by rw[HZ.out]
 rw[<-e2];exact hF3
end Go.Proofs.YtfplgfodoiiobaaGreatDoor
