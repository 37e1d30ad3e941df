/- RefX, RefY (joined). -/
import Derived.Test.YtfplgfodoiiobaaGreatDoorJ14
open Option renaming none→O,some→M
open Go.Value renaming int→I,slice→Z,pointer→U
open Go.IntKind renaming i64→V
open Go.Ending renaming returned→G
open Go renaming World→F,Calls→H
open Go.Proofs.Tryz renaming prog→K
namespace Go.Proofs.YtfplgfodoiiobaaGreatDoor
set_option maxHeartbeats 2000000
set_option maxRecDepth 100000
open Go.RowKit
variable {n pos:Int}{w:F}{xb:Nat}{s:Sc}{fs:List bE}{m:dF}{f:bS}{l:List (Int×Int)}
theorem act_ins {text:ByteArray}(h:bH w xb s fs m f)(hl:fs.length<=70000)(hc:jO s)(hI:gN s.room fs)(hg:eG m s.depth.toNat)(hD:m.2.2.2.1<=1999999999)(hp:pos<=9223372036854775807)(ht:text.size<=140737488355328)(ho:s.aX=true)(hro:s.ro=false):
 H K 108 #[U (M ⟨xb,0,O⟩),I V 73,I V pos,I V n,.string text] w fun e w'=>e=G (I V (gL (s,fs,m) 73 pos n text).2)/\After w w' xb (gL (s,fs,m) 73 pos n text).1.1 (gL (s,fs,m) 73 pos n text).1.2.1 (gL (s,fs,m) 73 pos n text).1.2.2 f:=by
 have HS:Hid (bH w xb s fs m f):=h;obtain⟨C_,El⟩:=h.row;obtain⟨r,hx,hf,hm⟩:=h;have hL:=Fz (n:=1) hx hf (by omega);have hLb:=gM hI 1;obtain⟨wC,Nj,XZ,c0,c1⟩:=eF hx;obtain⟨d1,d2,d3,d4,d5⟩:=jM hx;rw[ho]at wC;rw[hro]at Nj;have rm:=hc.kM;have m0:=hc.Rp;have m1:=hc.Ng;have p0:=hc.wO;have p1:=hc.wP;have q0:=hc.qM;have q1:=hc.rJ;generalize hLL:((aP fs 1).size:Int)=L at hL hLb;have hL0:0<=L:=by omega
 have HA:Hid (gL (s,fs,m) 73 pos n text=if (eO m 73 pos L (text.size:Int) s.most s.depth.toNat).2≠0 then ((s,fs,m),(eO m 73 pos L (text.size:Int) s.most s.depth.toNat).2)else if (bQ s fs 1 text).1≠0 then (((bQ s fs 1 text).2.1,(bQ s fs 1 text).2.2,m),(bQ s fs 1 text).1)else (((bQ (bQ s fs 1 text).2.1 (bQ s fs 1 text).2.2 (10+(bQ s fs 1 text).2.1.bC) (dL 73 (eO m 73 pos L (text.size:Int) s.most s.depth.toNat).1.2.2.2.1 pos L (text.size:Int))).2.1,(bQ (bQ s fs 1 text).2.1 (bQ s fs 1 text).2.2 (10+(bQ s fs 1 text).2.1.bC) (dL 73 (eO m 73 pos L (text.size:Int) s.most s.depth.toNat).1.2.2.2.1 pos L (text.size:Int))).2.2,if (bQ (bQ s fs 1 text).2.1 (bQ s fs 1 text).2.2 (10+(bQ s fs 1 text).2.1.bC) (dL 73 (eO m 73 pos L (text.size:Int) s.most s.depth.toNat).1.2.2.2.1 pos L (text.size:Int))).1=0 then (eO m 73 pos L (text.size:Int) s.most s.depth.toNat).1 else m),(bQ (bQ s fs 1 text).2.1 (bQ s fs 1 text).2.2 (10+(bQ s fs 1 text).2.1.bC) (dL 73 (eO m 73 pos L (text.size:Int) s.most s.depth.toNat).1.2.2.2.1 pos L (text.size:Int))).1)):=by
  show _=_;unfold gL;simp only[ho,hro,Bool.true_eq_false,Bool.false_eq_true,if_false,if_true,true_or,hLL]
 clear hLL;have Em:∀w1,dQ w1 r m->_:=fun w1 Bo=>wQ (w:=w1) (r:=r) (kind:=73) (a:=pos) (b:=L) (c:=(text.size:Int)) (most:=s.most) (d:=s.depth) (by unfold kindOk;simp) Bo hg p0 p1 (by omega) (by omega) (by omega) (by omega) m0 m1
 generalize hR:eO m 73 pos L (text.size:Int) s.most s.depth.toNat=R at Em HA;have HR:Hid (eO m 73 pos L (text.size:Int) s.most s.depth.toNat=R):=hR;clear hR hx hf;obtain⟨⟨po,tl,tc⟩,⟨uo,ul,uc⟩,⟨ro,rl,rc⟩,dn,bf⟩:=r;simp only[bS.v]at d1 d2 d3 d4 d5;simp only[fF.v,bS.v]at Em;go_enter Tryz.func108,Tryz.ntmps108
 go_wp2_with fail
 refine hL.mono ?_;rintro e w ⟨rfl,rfl⟩;clear hL
 go_upto_region 16 with fail
 go_cut [14,15] (fun p e wc=> ∃(g:Nat) (r':fF),p=U (M ⟨g,0,O⟩)/\e=I V R.2/\wc.heap[g]?=M (bK r'.1.v r'.2.1.v r'.2.2.1.v (I V r'.2.2.2.1) (I V r'.2.2.2.2))/\w.heap.size<=g/\dQ wc r' R.1/\aL w wc)
 case first=>
  have ga:=aL.refl w
  go_region_held3 (fun w'=>w'.cell? ⟨xb,13,O⟩=M (Z po tl tc)/\w'.cell? ⟨xb,14,O⟩=M (Z uo ul uc)/\w'.cell? ⟨xb,15,O⟩=M (Z ro rl rc)/\w'.cell? ⟨xb,16,O⟩=M (I V dn)/\w'.cell? ⟨xb,17,O⟩=M (I V bf)/\w'.cell? ⟨xb,0,O⟩=M (I V s.most)/\w'.cell? ⟨xb,1,O⟩=M (I V s.depth)/\aL w w')
   (first|(refine Rs d1 d2 d3 d4 d5 c0 c1 ?_;go_split_ands;with_reducible (first|assumption|exact aL.alloc nI _|exact bZ nI (Nat.le_refl _) _ _ _ _ _|exact bZ (aL.alloc nI _) nI.le _ _ _ _ _|(refine aL.alloc ?_ _;assumption)|exact aL.drew nI|exact aL.drew (aL.alloc nI _)|exact aL.drew (bZ nI (Nat.le_refl _) _ _ _ _ _)|(refine aL.drew (aL.alloc ?_ _);assumption)|(refine aL.drew ?_;assumption))))
   (first|(go_at_call 162;refine(Em _ (by go_split_ands;exact hm.aN (by assumption))).mono ?_;rintro e w5 ⟨r',rfl,EO,pY⟩;have nI:aL w w5:=aL.more (by go_split_ands;assumption) pY;first|(refine vJ pY ?_;intro y0 y1 y2 y3 y4 yf yh)|(refine yQ pY ?_;intro y0 y1 y2 y3 y4 yf yh)|skip))
  all_goals go_wp2_with fail
  all_goals go_meet
  ·exact⟨_,r',rfl,rfl,heap_alloc_new w5 _,nI.le,EO.aN (aO _ _),nI.alloc _⟩
  ·exact⟨_,r',rfl,rfl,lM yh.out _ _ _ _ _,Nat.le_refl _,EO.Vb yh.out _ _ _ _ _,bZ nI (Nat.le_refl _) _ _ _ _ _⟩
 case rest=>
  obtain⟨g,⟨⟨a1,a2,a3⟩,⟨a4,a5,a6⟩,⟨a7,a8,a9⟩,Nb,Aq⟩,rfl,rfl,oJ,Bp,Ay,hG⟩:=hcut
  rename F=>wc
  have hrD:Nb=R.1.2.2.2.1:=Ay.2.2.2.1;subst hrD;simp only[bS.v]at oJ;have oI:=HS.out.aN hG;have hgx:g≠xb:=by omega
  have zG:∀a,f.1=M a->a.block≠g:=fun a e=>by have:=El a e;omega
  have Cn:=hG.cell XZ;clear d1 d2 d3 d4 d5 c0 c1 wC Nj XZ Em hm;by_cases Az:R.2=0
  ·have tF:R.1.2.2.2.1=m.2.2.2.1+1:=by rw[<-HR.out]at Az ⊢;exact Iz Az
   have hu:=hg.done;have QN:=hg.long;obtain⟨o1,o2,o3,o4⟩:=ins_ok (by rw[HR.out];exact Az);have gu:bN R.1.2.2.2.1:=by unfold bN;omega
   have qA:bN pos:=by unfold bN;omega
   have rE:bN L:=by unfold bN;omega
   have Yp:bN (text.size:Int):=by unfold bN;omega
   have HU:Hid (bN R.1.2.2.2.1/\bN pos/\bN L/\bN (text.size:Int)):=⟨gu,qA,rE,Yp⟩;have had:=Iw (n:=1) (b:=text) oI (by omega) hc hI (by omega);have QO:=aM oJ;have HBC:Hid (wc.heap[g]?=M (bK (Z a1 a2 a3) (Z a4 a5 a6) (Z a7 a8 a9) (I V R.1.2.2.2.1) (I V Aq))):=oJ;rw[Az];clear gu qA rE Yp tF oJ Cn;rcases Pp (n:=1) (b:=text) hc hI (by omega) (by omega)with⟨s1,ea,Ze,hI1⟩|Pk
   ·rw[ea]at had HA;simp only at had HA;have hlen:=len_put fs (kW fs 1 text);generalize mQ fs (kW fs 1 text)=mM at*;have HE:Hid (gL (s,fs,m) 73 pos n text=(((bQ s1 mM (10+s1.bC) (dL 73 R.1.2.2.2.1 pos L (text.size:Int))).2.1,(bQ s1 mM (10+s1.bC) (dL 73 R.1.2.2.2.1 pos L (text.size:Int))).2.2,if (bQ s1 mM (10+s1.bC) (dL 73 R.1.2.2.2.1 pos L (text.size:Int))).1=0 then R.1 else m),(bQ s1 mM (10+s1.bC) (dL 73 R.1.2.2.2.1 pos L (text.size:Int))).1)):=by show _=_;rw[HA.out,if_neg (by simp[Az]),if_neg (by simp)]
    have HL:Hid ((dL 73 R.1.2.2.2.1 pos L (text.size:Int)).size=22):=Pv _ _ _ _ _;have HM:Hid ((bQ s1 mM (10+s1.bC) (dL 73 R.1.2.2.2.1 pos L (text.size:Int))).2.1.bC=s1.bC):=(add_same s1 mM (10+s1.bC) (dL 73 R.1.2.2.2.1 pos L (text.size:Int))).2.2.2;have t0:=Ze.2.2.2.qM;have t1:=Ze.2.2.2.rJ;have EP:IntKind.i64.wrap (10+s1.bC)=10+s1.bC:=by rw[IntKind.wrap_i64];omega
    have vI:=Ze.2.2.2;have hI1':=hI1.room Ze.1.2.2.1;clear HA Az ea
    go_wp2_with fail
    refine had.mono ?_;rintro e w2 ⟨rfl,f2,hS2,pR⟩;clear had;have gG:=pR.far HBC.out hgx zG;have Yx:=jN.Dv oI Ay pR
    have hgr2:∀a,f2.1=M a->a.block≠g:=fun a e=>by
     rcases pR.2.2 with h|h
     ·rw[h]at e;exact zG a e
     ·have:=h a e;omega
    obtain⟨b0,b1,b2,b3,b4,-⟩:=aT gG;have Cn:w2.cell? ⟨xb,12,O⟩=M (I V s1.bC):=by obtain⟨r7,Ii,-,-⟩:=hS2;exact(eF Ii).2.2.1
    have QS:Hid (w2.heap[g]?=M (bK (Z a1 a2 a3) (Z a4 a5 a6) (Z a7 a8 a9) (I V R.1.2.2.2.1) (I V Aq))):=gG;have HD2:Hid (jN wc w2 xb f f2):=pR;clear b0 b1 b2 b4 gG oI Ay pR
    go_upto_region 22 with fail
    go_region_held3 (fun w'=>w'.cell? ⟨xb,12,O⟩=M (I V s1.bC)/\w'.cell? ⟨g,3,O⟩=M (I V R.1.2.2.2.1)) (first|(exact⟨Cn,b3⟩)|(exact⟨ic,y3⟩)|(exact⟨z12,z3⟩))
     (first|(go_at_call 164;refine(wK (by decide) (by decide) HU.out.1 HU.out.2.1 HU.out.2.2.1 HU.out.2.2.2).mono ?_;rintro e w6 ⟨rfl,yG⟩;have Co:aL w2 w6:=⟨yG.os,yG.tape,yG.output,yG.size,yG.block⟩;have ic:=Co.cell Cn;have y3:=Co.cell b3)|(go_at_call 163;refine(Iw (hS2.aN Co) (by omega) vI hI1' (by have:=HL.out;omega)).mono ?_;rintro e w7 ⟨rfl,f7,Rt,Ja⟩;have z12:w7.cell? ⟨xb,12,O⟩=M (I V s1.bC):=(by obtain⟨r7,Ii,-,-⟩:=Rt;rw[(eF Ii).2.2.1,HM.out]);have h7:=Ja.far (bD Co QS.out) hgx hgr2;have z3:w7.cell? ⟨g,3,O⟩=M (I V R.1.2.2.2.1):=(aT h7).2.2.2.1))
    clear ic y3 z12 z3 Cn b3 EP;by_cases hA:(bQ s1 mM (10+s1.bC) (dL 73 R.1.2.2.2.1 pos L (text.size:Int))).1=0
    ·rw[if_pos hA]at HE;have Zd:=jN.Dv (hS2.aN Co) (Yx.aN Co) Ja;obtain⟨k1,k2⟩:=sN Rt Zd;obtain⟨b0,b1,b2,b3,b4,-⟩:=aT h7;have oK:After w _ xb _ _ R.1 f:=⟨f7,k1,((((jN.refl w xb f).aN hG).trans HD2.out).aN Co).trans (Ja.trans k2)⟩;obtain⟨r7,Ii,-,-⟩:=Rt;obtain⟨-,-,-,-,-,-,cf⟩:=iY Ii;have z1:=cf 13;have z2:=cf 14;have z3:=cf 15;have z4:=cf 16;have z5:=cf 17;obtain⟨e1,e2,e3,e4,e5⟩:=jM Ii;rw[hA];clear Ii cf Zd k1 k2 h7 hS2 Ja Yx;simp only[bS.v]at oK
     go_wp2_with fail
     go_ret;rw[HE.out];exact⟨by rw[hA];rfl,oK⟩
    ·rw[if_neg hA]at HE;have oK:After w w7 xb _ _ m f:=⟨f7,Rt,((((jN.refl w xb f).aN hG).trans HD2.out).aN Co).trans Ja⟩;have CK:((bQ s1 mM (10+s1.bC) (dL 73 R.1.2.2.2.1 pos L (text.size:Int))).1==0)=false:=by simp[hA]
     clear h7 hS2 Rt Ja Yx
     go_wp2_with fail
     go_ret;rw[HE.out];exact⟨rfl,oK⟩
   ·have hne:(bQ s fs 1 text).1≠0:=by rcases Pk with⟨s',e,-⟩|⟨s',fZ,e,-⟩<;>rw[e]<;>simp
    have HE:Hid (gL (s,fs,m) 73 pos n text=(((bQ s fs 1 text).2.1,(bQ s fs 1 text).2.2,m),(bQ s fs 1 text).1)):=by show _=_;rw[HA.out,if_neg (by simp[Az]),if_pos hne]
    have CK:((bQ s fs 1 text).1==0)=false:=by simp[hne]
    clear HA Az Pk hne
    go_wp2_with fail
    refine had.mono ?_;rintro e w2 ⟨rfl,hA7⟩;have oK:=After.trans ((jN.refl w xb f).aN hG) hA7;clear had hA7 oI Ay
    go_wp2_with fail
    go_ret;rw[HE.out];exact⟨rfl,oK⟩
  ·have HE:Hid (gL (s,fs,m) 73 pos n text=((s,fs,m),R.2)):=by show _=_;rw[HA.out,if_pos Az]
   have CK:(R.2 !=0)=true:=by simp[Az]
   have tX:After w wc xb s fs m f:=⟨f,oI,(jN.refl w xb f).aN hG⟩;clear oI Ay oJ HA
   go_wp2_with fail
   go_ret;rw[HE.out];exact⟨rfl,tX⟩
theorem Pw {kind:Int}{text:ByteArray}(hk:kindOk kind)(h:bH w xb s fs m f)(hl:fs.length<=70000)(hc:jO s)(hI:gN s.room fs)(hg:s.aX=true->eG m s.depth.toNat/\m.2.2.2.1<=1999999999)(hp:pos<=9223372036854775807)(hn:n<=9223372036854775807)(ht:text.size<=140737488355328):
 H K 108 #[U (M ⟨xb,0,O⟩),I V kind,I V pos,I V n,.string text] w fun e w'=>e=G (I V (gL (s,fs,m) kind pos n text).2)/\After w w' xb (gL (s,fs,m) kind pos n text).1.1 (gL (s,fs,m) kind pos n text).1.2.1 (gL (s,fs,m) kind pos n text).1.2.2 f:=by
 by_cases h1:s.aX=false\/s.ro=true
 ·exact fw h h1
 ·have ho:s.aX=true:=by
   cases e:s.aX with
   |true=>rfl
   |false=>exact absurd (Or.inl e) h1
  have hro:s.ro=false:=by
   cases e:s.ro with
   |false=>rfl
   |true=>exact absurd (Or.inr e) h1
  obtain⟨g1,g2⟩:=hg ho;rcases hk with rfl|rfl|rfl|rfl
  ·exact act_ins h hl hc hI g1 g2 hp ht ho hro
  ·exact act_del h hl hc hI g1 g2 hp hn ho hro
  ·exact gq h hl hc hI g1 g2 ho hro
  ·exact ig h hl hc hI g1 g2 ho hro
theorem EQ (h:tC n l):∀f t:Int,tC n (fV l f t):=by
 induction l with
 |nil=>intro f t;exact rV n
 |cons p l ih=>
  intro f t;unfold fV;obtain⟨a,b,c,d⟩:=h p (by simp);refine zY ?_ (ih (fun q hq=>h q (by simp[hq])) _ _);split
  ·intro q hq;simp only[List.mem_singleton]at hq;subst hq;simp only;omega
  ·exact rV n
def lV (b:ByteArray)(l:List (Int×Int)):ByteArray:=l.foldl (fun s p=>s++b.extract p.1.toNat (p.1+p.2).toNat) ⟨#[]⟩
theorem Gb {b:ByteArray}{k:Nat}(h:k<l.length):lV b (l.take (k+1))=lV b (l.take k)++b.extract (l.getD k (0,0)).1.toNat ((l.getD k (0,0)).1+(l.getD k (0,0)).2).toNat:=by
 unfold lV;rw[List.take_succ_eq_append_getElem h,List.foldl_append];simp[List.getD_eq_getElem?_getD,h]
theorem Ru {b:ByteArray}(h:tC n l):∀k:Nat,((lV b (l.take k)).size:Int)<=(k:Int)*5000:=by
 intro k
 induction k with
 |zero=>exact Int.le_refl _
 |succ k ih=>
  by_cases hk:k<l.length
  ·rw[Gb hk,wG,ByteArray.size_extract];have hm:l.getD k (0,0)∈l:=by rw[List.getD_eq_getElem?_getD,List.getElem?_eq_getElem hk];simp
   obtain⟨p1,p2,p3,p4⟩:=h _ hm;omega
  ·rw[List.take_of_length_le (by omega),<-List.take_of_length_le (show l.length<=k by omega)];omega
def rA (x:St)(pos n:Int):ByteArray×Int:=
 if x.1.aX=false then (⟨#[]⟩,3)else if pos<0\/n<0\/sz x.2.2.1<pos\/sz x.2.2.1-pos<n then (⟨#[]⟩,5)
 else (lV (aP x.2.1 1) (fV x.2.2.1 pos (pos+n)),0)
theorem iw (h:bH w xb s fs m f)(hl:fs.length<=70000)(hc:jO s)(hI:gN s.room fs)(hg:s.aX=true->eG m s.depth.toNat/\m.2.2.2.2<=((aP fs 1).size:Int)):
 H K 109 #[U (M ⟨xb,0,O⟩),I V pos,I V n] w fun e w'=>e=G (.tuple #[.string (rA (s,fs,m) pos n).1,I V (rA (s,fs,m) pos n).2])/\aL w w':=by
 have HS:Hid (bH w xb s fs m f):=h;obtain⟨r,hx,hf,hm⟩:=h;obtain⟨wC,-⟩:=eF hx;obtain⟨d1,-⟩:=jM hx;by_cases e1:s.aX=false
 ·have HE:Hid (rA (s,fs,m) pos n=(⟨#[]⟩,3)):=by show _=_;unfold rA;rw[if_pos e1]
  rw[e1]at wC;clear hx hf hm;go_enter Tryz.func109,Tryz.ntmps109
  go_wp2_with fail
  go_ret2;rw[HE.out];exact⟨rfl,aL.refl _⟩
 ·have Au:s.aX=true:=by simpa using e1
  obtain⟨g1,g2⟩:=hg Au;rw[Au]at wC;obtain⟨⟨ta,tl,tc⟩,r2⟩:=r;obtain⟨t1,t2,t3⟩:=hm.1;simp only at t1 t2 t3;subst t2;simp only[bS.v]at d1;have kI:=g1.CB;have Gc:=g1.few;have QN:=g1.long;have hnn:=Iq g1.text;have jT:=fP (ca:=tc) t1.1 rfl kI (by omega);by_cases h1:pos<0\/n<0\/sz m.1<pos\/sz m.1-pos<n
  ·have HE:Hid (rA (s,fs,m) pos n=(⟨#[]⟩,5)):=by show _=_;unfold rA;rw[if_neg e1,if_pos h1]
   clear hx hf hm t1 t3;by_cases z1:pos<0
   ·clear h1;go_enter Tryz.func109,Tryz.ntmps109
    go_wp2_with fail
    refine jT.mono ?_;rintro e w ⟨rfl,rfl⟩;clear jT
    go_wp2_with fail
    go_ret2;rw[HE.out];exact⟨rfl,aL.refl _⟩
   ·by_cases z2:n<0
    ·clear h1;go_enter Tryz.func109,Tryz.ntmps109
     go_wp2_with fail
     refine jT.mono ?_;rintro e w ⟨rfl,rfl⟩;clear jT
     go_wp2_with fail
     go_ret2;rw[HE.out];exact⟨rfl,aL.refl _⟩
    ·by_cases z3:sz m.1<pos
     ·clear h1;go_enter Tryz.func109,Tryz.ntmps109
      go_wp2_with fail
      refine jT.mono ?_;rintro e w ⟨rfl,rfl⟩;clear jT
      go_wp2_with fail
      go_ret2;rw[HE.out];exact⟨rfl,aL.refl _⟩
     ·have z4:sz m.1-pos<n:=by omega
      clear h1;go_enter Tryz.func109,Tryz.ntmps109
      go_wp2_with fail
      refine jT.mono ?_;rintro e w ⟨rfl,rfl⟩;clear jT
      go_wp2_with fail
      go_ret2;rw[HE.out];exact⟨rfl,aL.refl _⟩
  ·have HE:Hid (rA (s,fs,m) pos n=(lV (aP fs 1) (fV m.1 pos (pos+n)),0)):=by show _=_;unfold rA;rw[if_neg e1,if_neg h1]
   have z1:¬pos<0:=by omega
   have z2:¬n<0:=by omega
   have z3:¬sz m.1<pos:=by omega
   have z4:¬sz m.1-pos<n:=by omega
   have hpt:=yK (ca:=tc) (f:=pos) (t:=pos+n) t1.1 rfl kI (by omega) (by omega) (by omega) (by omega) (by omega);have hip:=EQ g1.text pos (pos+n);have Bq:=yL m.1 pos (pos+n);generalize hL:fV m.1 pos (pos+n)=L at*;have hbz:=gM hI 1;have hrm:=hc.kM;clear hL;go_enter Tryz.func109,Tryz.ntmps109
   go_wp2_with fail
   refine jT.mono ?_;rintro e w ⟨rfl,rfl⟩;clear jT
   go_wp2_with fail
   refine hpt.mono ?_;rintro e w1 ⟨v,rfl,bA,fC⟩;clear hpt;have oI:=HS.out.aN fC;obtain⟨ro,rc,rfl,yR,-⟩:=bA.form;obtain⟨r9,Oo,hf9,-⟩:=oI;have Oi:=vF (n:=1) Oo hf9 (by omega);clear Oo hf9 bA hx hf hm t1 t3
   go_wp2_with fail
   refine Oi.mono ?_;rintro e w1 ⟨rfl,rfl⟩;clear Oi;generalize aP fs 1=bb at*
   go_wp2_with fail
   go_loopw [11,12] (fun v i wr=> ∃k:Nat,k<=L.length/\i=I V (k:Int)/\v= .string (lV bb (L.take k))/\aL w1 wr) (fun _ i _=>L.length-(intOf i).toNat)
   case atStart=>exact⟨0,Nat.zero_le _,rfl,rfl,aL.refl _⟩
   case round=>
    obtain⟨k,hk,rfl,rfl,hG⟩:=hrel;have Vd:=Ru (b:=bb) hip k;by_cases bT:k<L.length
    ·have HT:Hid (lV bb (L.take (k+1))=lV bb (L.take k)++bb.extract (L.getD k (0,0)).1.toNat ((L.getD k (0,0)).1+(L.getD k (0,0)).2).toNat):=Gb bT;have zS:L.getD k (0,0)∈L:=by rw[List.getD_eq_getElem?_getD,List.getElem?_eq_getElem bT];simp
     obtain⟨p1,p2,p3,p4⟩:=hip _ zS;have iy:Ec wr ro L:=yR.below hG;obtain⟨b,off,rfl,k0,k1⟩:=iy.at bT;clear zS;generalize (L.getD k (0,0)).1=x at*;generalize (L.getD k (0,0)).2=y at*;generalize lV bb (L.take k)=acc at*;have i1:(0:Int)<=(k:Int):=by omega
     have i2:(k:Int)<(L.length:Int):=by omega
     have i3:x<=x+y:=by omega
     have i4:x+y<=(bb.size:Int):=by omega
     have Lj:∀w:F,(Op.stringOp .add acc (bb.extract x.toNat (x+y).toNat)).run K w= .ok (.string (acc++bb.extract x.toNat (x+y).toNat)) w:=fun w=>run_string_add_sum w _ _ (by rw[ByteArray.size_extract];omega)
     clear yR
     go_wp2_with fail
     go_quiet (fail)
     go_wp2_with fail
     go_roundw
     case rel=>exact⟨k+1,by omega,by go_num,by rw[HT.out],aZ hG _⟩
     case measure=>simp[intOf];omega
    ·have e9:L.take k=L:=List.take_of_length_le (by omega);rw[e9];clear yR
     go_wp2_with fail
     go_ret2;rw[HE.out];exact⟨rfl,aQ fC hG⟩
end Go.Proofs.YtfplgfodoiiobaaGreatDoor
