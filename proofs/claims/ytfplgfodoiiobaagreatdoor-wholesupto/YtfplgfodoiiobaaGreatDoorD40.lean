/- QlZ, QlM, QlO, QlP, QlQ, QlR (joined). -/
import Derived.StillTailTactics
import Derived.Test.YtfplgfodoiiobaaGreatDoorD39
open Option renaming none→O,some→M
open Go.Value renaming int→I,slice→Z,pointer→U
open Go.IntKind renaming i64→V
open Go.Obj renaming cells→C
open Go.Ending renaming returned→G
open Go renaming World→F,Value→Y,Calls→H
open Go.Proofs.Tryz renaming prog→K
open Go.Proofs.Tryz
namespace Go.Proofs.YtfplgfodoiiobaaGreatDoor
set_option maxHeartbeats 16000000
set_option maxRecDepth 100000
open Go.RowKit
abbrev Abu:=@Go.wp_region_still_tail
abbrev AcA:=@Go.wpStill_nil
variable {w w':F}{s:Sc}{qp db sp lp dp:Nat}{fs:List bC}{m:dD}{X:Nat->Prop}{text:ByteArray}{D q a b c pos n most depth:Int}{ps:Nat->Addr}{v:Y}{rs:List FR}{l:List AF}
theorem Mc {B B' e size n:Nat}{xs:List Y}(h:w.ownsRow B e size v n xs)(hB:B'<=B):w.ownsRow B' e size v n xs:=by
 obtain⟨h1,h2⟩:=h;refine⟨h1,?_⟩;rcases h2 with h2|⟨g,cap,aS,rfl,hg,hh⟩
 ·exact Aac h2
 ·exact Aab ⟨g,cap,aS,rfl,Aam hB hg,hh⟩
theorem LdI.disk (h:LdI w w' db s v rs l):aU w' db s v rs:=
 ⟨h.zY,Mc h.row (Aap _),fun r hr=>(h.fil r hr).1,h.apart⟩
theorem LdI.fresh (h:LdI w w' db s v rs l){b:Nat}(hb:DX db v rs b):b=db\/w.heap.size<=b:=by
 rcases hb with rfl|hb|⟨r,hr,rfl|hb⟩
 ·exact Aac rfl
 ·exact Aab (h.row.lt b hb).1
 ·exact Aab (h.fil r hr).2.1
 ·exact Aab ((h.fil r hr).2.2 b hb)
theorem xload {ao:Option Addr}{la ca:Nat}(h:uI w qp s fs m X)(hr:Aw w ao l)(vV:∀a,ao=M a->∃aS t f,w.heap[a.block]?=M (C aS t f)/\t≠137)(e1:la=l.length)(Jt:0<=s.room)(uP:s.room<=1000000)(Ow:l.length<=140737488355328)(Yw:∀g∈l,g.2.size<=140737488355328):
 H K 35 #[U (M ⟨qp,0,O⟩),Z ao la ca] w fun e w'=>e=G (I V (gI (s,fs,m) l).2)/\yO w w' qp X (gI (s,fs,m) l).1:=by
 have h0:=h;subst e1;rcases h with⟨ho,db,fv,rs,h1,rfl,h3,rfl⟩|⟨ho,db,fv,rs,sp,lp,dp,tb,h1,rfl,rfl⟩
 ·obtain⟨-,-,c2,c3,-⟩:=eG h3;simp only[AbU]at c3;have hM:=dmay_pg (ca:=ca) h1 hr rfl Jt uP Ow Yw
  have hne:∀a,ao=M a->a.block≠db:=fun a e=>by
   obtain⟨aS,t,f,k1,k2⟩:=vV a e;exact aZ k1 h1.1 k2
  by_cases hc:l.length<=40/\l.Pairwise (fun a b=>a.1<b.1)/\(∀f∈l,0<=f.1/\f.2.size≠0)/\bV (l.map (fun f=>(f.1,f.2,(f.2.size:Int))))<=s.room
  ·have e:gI (s,plain rs,m) l=((s,l.map Hf,m),0):=by unfold gI;rw[Aaa (by simp[ho]),Aad hc];rfl
   have em:(decide (l.length<=40) && Gj l (-1) s.room)=true:=by
    rw[LW Jt];simp only[Abf,Abz];exact⟨hc.1,hc.2⟩
   rw[em]at hM
   have HL:Hid (∀W,aL w W->H K 61 #[U (M ⟨db,0,O⟩),Z ao l.length ca] W fun e w'=>e=G (.tuple #[])/\yO w w' qp (FJ qp db fv rs) (s,l.map Hf,m)):=fun W hW=>by
    refine(dload_pg (ca:=ca) ((h1.aN hW).1) (hr.aN hW) hne rfl hc.1 (fun g hg=>?_)).mono ?_
    ·have h5:=hc.2.2.2
     have h6:(g.2.size:Int)<=bV (l.map (fun f=>(f.1,f.2,(f.2.size:Int)))):=by
      have:∀l:List AF,g∈l->(g.2.size:Int)<=bV (l.map (fun f=>(f.1,f.2,(f.2.size:Int)))):=by
       intro l
       induction l with
       |nil=>intro h;cases h
       |cons a l ih=>
        intro h;have hn:0<=bV (l.map (fun f:AF=>(f.1,f.2,(f.2.size:Int)))):=rC _;have hu:bV ((a::l).map (fun f:AF=>(f.1,f.2,(f.2.size:Int))))=(a.2.size:Int)+bV (l.map (fun f:AF=>(f.1,f.2,(f.2.size:Int)))):=rfl;rw[hu];rcases AaF.1 h with rfl|h
        ·omega
        ·have:=ih h;omega
      exact this l hg
     omega
    ·rintro e w' ⟨rfl,v,dP,hI⟩
     have og:Og w w' db:=by
      have:=(Og.refl w db).aN hW;exact this.trans hI.og
     refine⟨rfl,FJ qp db v dP,Aac ⟨ho,db,v,dP,hI.disk,hI.plain,og.1.at h3 (aZ h3 h1.1 (by decide)),rfl⟩,og.1.mono ?_,og.2,?_⟩
     ·rintro b rfl;exact Aab (Aac rfl)
     ·rintro b (hb|hb)
      ·exact Aac (Aac hb)
      ·rcases hI.fresh hb with rfl|hb
       ·exact Aac (Aab (Aac rfl))
       ·have:=hW.size;exact Aab (by omega)
   rw[e];have c2':∀W,aL w W->W.cell? ⟨qp,2,O⟩=M (U (M ⟨db,0,O⟩)):=fun W hW=>hW.cell c2
   clear h0 h1 h3 hr vV Yw hc e em hne;go_enter func35,ntmps35;go_wp2_with (go_at_call 60;refine hM.mono ?_;rintro e w1 ⟨rfl,hg⟩;have c2w:=c2' w1 hg);go_wp2_with (go_at_call 61;refine(HL.out w1 hg).mono ?_;rintro e w2 ⟨rfl,hq⟩);go_ret;exact⟨rfl,hq⟩
  ·have e:gI (s,plain rs,m) l=((s,plain rs,m),1):=by unfold gI;rw[Aaa (by simp[ho]),Aaa hc]
   have em:(decide (l.length<=40) && Gj l (-1) s.room)=false:=by
    rw[LW Jt];rw[<-Bool.not_eq_true];simp only[Abf,Abz];exact fun k=>hc ⟨k.1,k.2⟩
   rw[em]at hM;rw[e];have HQ:Hid (∀W,aL w W->yO w W qp (FJ qp db fv rs) (s,plain rs,m)):=fun W hW=>⟨_,h0.aN hW,Fr.cZ hW _,⟨hW.os,hW.tape,hW.output⟩,fun b hb=>Aac hb⟩
   clear h0 h1 h3 hr vV Yw hc e em hne;go_enter func35,ntmps35;go_wp2_with (go_at_call 60;refine hM.mono ?_;rintro e w1 ⟨rfl,hg⟩);go_ret;exact⟨rfl,HQ.out _ hg⟩
 ·obtain⟨-,-,c2,c3,-⟩:=eG h1.qu;simp only[Abs]at c3;have e:gI (s,plain rs,m) l=((s,plain rs,m),2):=by unfold gI;rw[Aad ho]
  rw[e];clear h1 hr vV Yw e;go_enter func35,ntmps35;go_wp2_with fail;go_ret;exact⟨rfl,yO.at h0⟩
theorem xread (h:uI w qp s fs m X)(hg:GS (s,fs,m) D)(hn:n<=9223372036854775807):
 H K 39 #[U (M ⟨qp,0,O⟩),I V pos,I V n] w fun e w'=>e=G (.tuple #[.string (rW (s,fs,m) pos n).1,I V (rW (s,fs,m) pos n).2])/\aL w w':=by
 rcases h with⟨ho,db,fv,rs,h1,rfl,h3,rfl⟩|⟨ho,db,fv,rs,sp,lp,dp,tb,h1,rfl,rfl⟩
 ·have e:rW (s,plain rs,m) pos n=(⟨#[]⟩,3):=by unfold rW;rw[Aad ho]
  rw[e];refine(RH h3).mono ?_;rintro e w' ⟨rfl,rfl⟩;exact⟨rfl,aL.refl _⟩
 ·have gm:eD m s.depth.toNat:=hg.Cs ho;have hz:sz m.1<=5000:=gm.long;have oG:0<=sz m.1:=zF (fun p hp=>by have:=gm.text p hp;omega);by_cases hc:pos<0\/n<0\/sz m.1<pos\/sz m.1-pos<n
  ·have e:rW (s,plain rs,m) pos n=(⟨#[]⟩,5):=(by unfold rW;rw[Aaa (by simp[ho]),Aad hc]);rw[e]
   have hb:n<0\/rR m.1 pos n=false:=by
    by_cases h5:n<0
    ·exact Aac h5
    ·refine Aab ?_;unfold rR;rw[Bool.and_eq_false_iff,Acu,Acu];omega
   refine(aAo h1.qu h1.zT h1.Xh hn (by omega) oG hb).mono ?_;rintro e w' ⟨rfl,rfl⟩;exact⟨rfl,aL.refl _⟩
  ·have e:rW (s,plain rs,m) pos n=(mU (aO (plain rs) 1) (fZ m.1 pos (pos+n)),0):=(by unfold rW;rw[Aaa (by simp[ho]),Aaa hc]);rw[e];have hbuf:=hg.buf ho;have hlen:=hg.bk.len;simp only[bN]at hlen;have jW:=gD hg.bk.inv 1;have uP:=hg.bk.cK.kI;have fV:m.2.2.2.2<=((aO (plain rs) 1).size:Int):=hbuf;have Mh:((aO (plain rs) 1).size:Int)<=s.room:=jW;have Bt:s.room<=1000000:=uP;have Ii:m.1.length<=4096:=gm.few;exact ZT h1.qu h1.zT h1.vF h1.disk hg.bk.inv.sort.1 (by omega) (by omega) h1.Xh hz (by omega) (by omega) (by omega) (fun p hp=>by have:=gm.text p hp;omega) (by omega)
theorem clo_pg {ob cb xb tb dd:Nat}{fv:Y}{ep:Int}(hB:RJ w ob cb xb sp lp dp q a b c text)(hdr:aV w dp tb dd m)(h:aU w db s fv rs)(hL:w.heap[lp]?=M (jM db ep))(hG:Gl w ps)(hO:pJ 998 s (plain rs))(yD:0<=ep)(Hu:ep<=1000)(hq:0<=q)(xL:q<256)(hd:0<=m.2.2.2.1)(Yg:m.2.2.2.1<=2000000000)(ha:cO a)(hb:cO b)(hc:cO c)(oM:text.size<=1000000):
 H K 86 #[U (M ⟨ob,0,O⟩),U (M ⟨cb,0,O⟩),U (M ⟨xb,0,O⟩)] w fun e w'=> ∃v,e=G v/\oC w w' ps db fv rs 2 v (NN s (plain rs) ep text (fF q (m.2.2.2.1+1) a b c)):=by
 obtain⟨b1,b2,b3,ro,b4⟩:=hB;obtain⟨d0,d1,-⟩:=kQ b4;have c0:w.cell? ⟨ob,0,O⟩=M (U (M ⟨sp,0,O⟩)):=by simp[World.cell?,b1]
 have x0:w.cell? ⟨cb,0,O⟩=M (I .u8 q):=by simp[World.cell?,b2]
 have x1:w.cell? ⟨cb,1,O⟩=M (I V a):=by simp[World.cell?,b2]
 have x2:w.cell? ⟨cb,2,O⟩=M (I V b):=by simp[World.cell?,b2]
 have x3:w.cell? ⟨cb,3,O⟩=M (I V c):=by simp[World.cell?,b2]
 have t0:w.cell? ⟨xb,0,O⟩=M (.string text):=by simp[World.cell?,b3]
 have HD:Hid (∀W,aL w W->H K 50 #[U (M ⟨dp,0,O⟩)] W fun e w'=>e=G (I V m.2.2.2.1)/\w'=W):=fun W hW=>Lc (hdr.aN hW)
 have HW:Hid (∀W,aL w W->H K 87 #[U (M ⟨lp,0,O⟩),I V (m.2.2.2.1+1),.agg #[I .u8 q,I V a,I V b,I V c],.string text] W fun e w'=> ∃v,e=G v/\oC w w' ps db fv rs 2 v (NN s (plain rs) ep text (fF q (m.2.2.2.1+1) a b c))):=fun W hW=>by
  have:=ZV (d:=m.2.2.2.1+1) (h.aN hW) ((hW.block _ (aM hL)).trans hL) (hG.aN hW) hO yD Hu hq xL (by unfold cO;omega) ha hb hc oM;refine this.mono ?_;rintro e w' ⟨v,rfl,dV,dP,k1,k2,k3,k4⟩;exact⟨v,rfl,dV,dP,k1,k2,Eb hW k3,k4⟩
 have TY:IntKind.i64.wrap (m.2.2.2.1+1)=m.2.2.2.1+1:=by rw[AaE];omega
 generalize m.2.2.2.1=dn at*;clear b1 b2 b3 b4 hdr h hL hG hO;go_enter func86,ntmps86;go_upto_region 1 with fail;refine Abu 12 (by kernel_rfl) (by kernel_rfl) ?_;simp only[AaV,AbH,Abq,Abr]
 repeat still_step
 still_call (HD.out _ (aL.drew (aL.refl w)))
 repeat still_step
 refine AcA ?_;go_wp2_with (go_at_call 87;refine(HW.out _ (aL.drew (aL.refl w))).mono ?_;rintro e w' ⟨v,rfl,hv⟩);go_ret;exact⟨_,rfl,hv⟩
theorem RJ.aN {ob cb xb:Nat}(h:RJ w ob cb xb sp lp dp q a b c text)(hg:aL w w'):RJ w' ob cb xb sp lp dp q a b c text:=by
 obtain⟨h1,h2,h3,ro,h4⟩:=h;exact⟨(hg.block _ (aM h1)).trans h1,(hg.block _ (aM h2)).trans h2,(hg.block _ (aM h3)).trans h3,ro,(hg.block _ (aM h4)).trans h4⟩
theorem aj:∀(args:Array Y) (w:F),(callFunc 85 args).run K w= .ok (.enter 85 args) w:=enters_of func85 (by kernel_rfl) rfl
theorem LX:∀(args:Array Y) (w:F),(callFunc 49 args).run K w= .ok (.enter 49 args) w:=enters_of func49 (by kernel_rfl) rfl
theorem LY {R:F->Y->Prop}{P:Y->F->Prop}(h:w.heap[qp]?=M (xG most depth db (M sp)))(hs:w.heap[sp]?=M (uW lp dp false))
 (hC:∀W ob cb xb,aL w W->RJ W ob cb xb sp lp dp q a b c text->H K 85 #[U (M ⟨dp,0,O⟩),.agg #[I .u8 q,I V a,I V b,I V c],I V most,.func (.func 86) #[] #[U (M ⟨ob,0,O⟩),U (M ⟨cb,0,O⟩),U (M ⟨xb,0,O⟩)]] W fun e w'=> ∃v,e=G v/\R w' v)
 (hA:∀W W' v,R W v->aL W W'->H K 49 #[U (M ⟨qp,0,O⟩),v] W' fun e w'=> ∃r,e=G r/\P r w'):
 H K 54 #[U (M ⟨qp,0,O⟩),.agg #[I .u8 q,I V a,I V b,I V c],.string text] w fun e w'=> ∃r,e=G r/\P r w':=by
 have HC:Hid (∀W ob cb xb,aL w W->RJ W ob cb xb sp lp dp q a b c text->H K 85 #[U (M ⟨dp,0,O⟩),.agg #[I .u8 q,I V a,I V b,I V c],I V most,.func (.func 86) #[] #[U (M ⟨ob,0,O⟩),U (M ⟨cb,0,O⟩),U (M ⟨xb,0,O⟩)]] W fun e w'=> ∃v,e=G v/\R w' v):=hC;have HA:Hid (∀W W' v,R W v->aL W W'->H K 49 #[U (M ⟨qp,0,O⟩),v] W' fun e w'=> ∃r,e=G r/\P r w'):=hA;clear hC hA;obtain⟨w1,iY⟩:∃w1,w1=(w.alloc (C #[I .u8 q,I V a,I V b,I V c] 99)).alloc (C #[.string text] 9):=⟨_,rfl⟩;have G1:aL w w1:=by rw[iY];exact((aL.refl w).alloc _).alloc _
 have z1:w1.heap.size=w.heap.size+2:=by rw[iY];simp
 have FZ:w1.heap[w.heap.size]?=M (C #[I .u8 q,I V a,I V b,I V c] 99 (0,0)):=by
  rw[iY];exact(((aL.refl _).alloc _).block _ (aM (Aaf w _))).trans (Aaf w _)
 have hxb:w1.heap[w.heap.size+1]?=M (C #[.string text] 9 (0,0)):=by
  rw[iY];have:=Aaf (w.alloc (C #[I .u8 q,I V a,I V b,I V c] 99)) (C #[.string text] 9);simpa using this
 have hM:=zS ((G1.block _ (aM h)).trans h) ((G1.block _ (aM hs)).trans hs);simp only[Aaa (show ¬(false=true) by decide)]at hM;obtain⟨w2,Ga⟩:∃w2,w2=w1.alloc (C #[U (M ⟨sp,0,O⟩)] 78):=⟨_,rfl⟩;have G2:aL w1 w2:=by rw[Ga];exact(aL.refl w1).alloc _
 have hob:w2.heap[w1.heap.size]?=M (C #[U (M ⟨sp,0,O⟩)] 78 (0,0)):=by
  rw[Ga];exact Aaf w1 _
 rw[z1]at hob;have G02:=G1.then G2;have hB2:RJ w2 (w.heap.size+2) w.heap.size (w.heap.size+1) sp lp dp q a b c text:=⟨hob,(G2.block _ (aM FZ)).trans FZ,(G2.block _ (aM hxb)).trans hxb,false,(G02.block _ (aM hs)).trans hs⟩;have HC2:Hid (∀W,aL w2 W->H K 85 #[U (M ⟨dp,0,O⟩),.agg #[I .u8 q,I V a,I V b,I V c],I V most,.func (.func 86) #[] #[U (M ⟨w.heap.size+2,0,O⟩),U (M ⟨w.heap.size,0,O⟩),U (M ⟨w.heap.size+1,0,O⟩)]] W fun e w'=> ∃v,e=G v/\R w' v):=fun W hW=>HC.out W _ _ _ (G02.then hW) (hB2.aN hW)
 obtain⟨b1,b2,-⟩:=hB2;have o0:w2.cell? ⟨w.heap.size+2,0,O⟩=M (U (M ⟨sp,0,O⟩)):=by simp[World.cell?,b1]
 have x0:w2.cell? ⟨w.heap.size,0,O⟩=M (I .u8 q):=by simp[World.cell?,b2]
 have x1:w2.cell? ⟨w.heap.size,1,O⟩=M (I V a):=by simp[World.cell?,b2]
 have x2:w2.cell? ⟨w.heap.size,2,O⟩=M (I V b):=by simp[World.cell?,b2]
 have x3:w2.cell? ⟨w.heap.size,3,O⟩=M (I V c):=by simp[World.cell?,b2]
 obtain⟨p0,-,-,-,-⟩:=eG ((G02.block _ (aM h)).trans h);obtain⟨-,-,-,p3,-⟩:=eG ((G1.block _ (aM h)).trans h);simp only[Abs]at p3;obtain⟨-,d1,-⟩:=kQ ((G02.block _ (aM hs)).trans hs);clear h hs b1 b2 HC FZ hxb hob G1 G2 G02;go_enter func54,ntmps54;go_upto_region 1 with fail;rw[<-iY];clear iY;go_upto_region 2 with(go_at_call 52;refine hM.mono ?_;rintro e w' ⟨rfl,rfl⟩);clear hM;go_upto_region 5 with fail;rw[<-Ga];clear Ga p3
 go_cut [6] (fun v wc=>P v wc)
 case first=>
  go_region_law (first
  |(refine cB (by rfl) 85 _ _ (by rfl) #[U (M ⟨dp,0,O⟩),.agg #[I .u8 q,I V a,I V b,I V c],I V most,.func (.func 86) #[] #[U (M ⟨w.heap.size+2,0,O⟩),U (M ⟨w.heap.size,0,O⟩),U (M ⟨w.heap.size+1,0,O⟩)]] (by first|(simp[Act.eval];done)|(simp[Act.eval,Act.put];done)) aj ((HC2.out _ (by repeat (first|exact aL.refl _|refine aL.drew ?_))).mono ?_);rintro v wR ⟨vR,rfl,hR⟩;refine⟨_,rfl,?_⟩)|(refine cB (by rfl) 49 _ _ (by rfl) #[U (M ⟨qp,0,O⟩),vR] (by first|(simp[Act.eval];done)|(simp[Act.eval,Act.put];done)) LX ((HA.out _ _ vR hR (by repeat (first|exact aL.refl _|refine aL.drew ?_))).mono ?_);rintro v wT ⟨vT,rfl,hT⟩;refine⟨_,rfl,?_⟩))
  all_goals go_wp2_with fail
  all_goals go_meet
  all_goals exact hT
 case rest=>
  go_wp2_with fail;go_ret;exact⟨_,rfl,hcut⟩
def Md (x:St)(q a b c:Int)(text:ByteArray):St×Int:=
 if pX x.2.2 q a b c x.1.most≠0 then (x,pX x.2.2 q a b c x.1.most)else
 let r:=NN x.1 x.2.1 x.1.aY text (fF q (x.2.2.2.2.2.1+1) a b c)
 ((r.2.1,r.2.2,if r.1=0 then (gT x.2.2 q a b c x.1.most x.1.depth.toNat).1 else x.2.2),r.1)
theorem QG.aN {e:Int}(h:QG w v q e)(hg:aL w w'):QG w' v q e:=by
 obtain⟨b,h1,h2⟩:=h;exact⟨b,h1,(hg.block _ (aM h2)).trans h2⟩
theorem AU (m:dD)(q a b c most:Int):¬pX m q a b c most=9/\¬pX m q a b c most=10:=by
 unfold pX JY CK Xa Xb Ci
 repeat' split
 all_goals omega
theorem qchg_any {fv:Y}{tb:Nat}(h:rM w qp db s false fv rs sp lp dp tb m)(hG:Gl w ps)(ho:s.aX=true)(hr:s.ro=false)(hO:pJ 998 s (plain rs))(hg:eD m s.depth.toNat)(hd:m.2.2.2.1<=1999999999)(Bh: -9223372036854770000<=c)(hc:c<=9223372036854770000)(hb:b<=9223372036854775807)(hx:text.size=0\/(text.size:Int)=c):
 H K 54 #[U (M ⟨qp,0,O⟩),iC q a b c,.string text] w fun e w'=> ∃r,e=G r/\(r=I V (Md (s,plain rs,m) q a b c text).2/\yO w w' qp (Rs qp db fv rs sp lp dp tb) (Md (s,plain rs,m) q a b c text).1):=by
 have hdone:=hg.done;have yD:=hO.cK.nX;have Hu:=hO.cK.rE;have Sl:=hO.cK.yI;have Pn:=hO.cK.wX;refine LY (R:=fun W v=> ∃dV dP,rM W qp db (Md (s,plain rs,m) q a b c text).1.1 false dV dP sp lp dp tb (Md (s,plain rs,m) q a b c text).1.2.2/\plain dP=(Md (s,plain rs,m) q a b c text).1.2.1/\Dk w W (Rs qp db fv rs sp lp dp tb) (Rs qp db dV dP sp lp dp tb)/\∀W',aL W W'->rJ W' v (Md (s,plain rs,m) q a b c text).2) h.qu h.zT ?_ ?_
 ·intro W ob cb xb hW hB;have CW:=hG.aN hW;have hSW:=h.aN hW;by_cases hm:pX m q a b c s.most≠0
  ·have e:Md (s,plain rs,m) q a b c text=((s,plain rs,m),pX m q a b c s.most):=(by unfold Md;rw[Aad hm]);rw[e];refine(Uj hSW.Xh hg Bh hc hb hm).mono ?_;rintro e w' ⟨v,rfl,hv,a_⟩;refine⟨v,rfl,fv,rs,hSW.aN a_,rfl,Dk.bX (hW.then a_),fun W' Cw=>aAr ((CW.aN a_).aN Cw) (hv.aN Cw)⟩
  ·have hm0:pX m q a b c s.most=0:=(by omega);obtain⟨⟨ua,ub,uc⟩,hq,Wn⟩:=may_u32 hg hm0;obtain⟨hF,hS⟩:=aAs (ep:=s.aY) (text:=text) (rec:=fF q (m.2.2.2.1+1) a b c) hO ⟨yD,by omega⟩ (by rw[qC];omega) ho hr;have e:Md (s,plain rs,m) q a b c text=(((NN s (plain rs) s.aY text (fF q (m.2.2.2.1+1) a b c)).2.1,(NN s (plain rs) s.aY text (fF q (m.2.2.2.1+1) a b c)).2.2,if (NN s (plain rs) s.aY text (fF q (m.2.2.2.1+1) a b c)).1=0 then (gT m q a b c s.most s.depth.toNat).1 else m),(NN s (plain rs) s.aY text (fF q (m.2.2.2.1+1) a b c)).1):=by unfold Md;rw[Aaa hm]
   have hclo:∀W0,aL W W0->H K 86 #[U (M ⟨ob,0,O⟩),U (M ⟨cb,0,O⟩),U (M ⟨xb,0,O⟩)] W0 fun e w'=> ∃v,e=G v/\oC W0 w' ps db fv rs 2 v (NN s (plain rs) s.aY text (fF q (m.2.2.2.1+1) a b c)):=fun W0 NU=>by
    have hS0:=hSW.aN NU;exact clo_pg (hB.aN NU) hS0.Xh hS0.disk hS0.vF (CW.aN NU) hO yD (by omega) (by omega) (by omega) hdone (by omega) ua ub uc (by omega)
   rw[e];generalize NN s (plain rs) s.aY text (fF q (m.2.2.2.1+1) a b c)=r at*;simp only;by_cases Jt:r.1=0
   ·rw[Aad Jt];refine(Px (P:=fun W0 W1=>oC W0 W1 ps db fv rs 2 .nilIface r) hSW.Xh hg (by omega) (by omega) Bh hc hb hm0 e_clo (fun W0 NU=>?_) (fun W0 W1 NU hp=>?_)).mono ?_
    ·refine(hclo W0 NU).mono ?_;rintro e w' ⟨v,rfl,hv⟩;obtain⟨dV,dP,k1,k2,k3,k4⟩:=hv;have k5:=k4;rw[Jt]at k5;obtain rfl:=k5.no;exact⟨rfl,dV,dP,k1,k2,k3,k4⟩
    ·obtain⟨dV,dP,k1,k2,k3,k4⟩:=hp;have hS0:=hSW.aN NU;refine⟨hS0.Xh.dsk hS0.disk k3,fun b dY fV=>k3.1.2 b fV fun hx=>?_⟩;have:=(hSW.disk.ty hx).q.lt;omega
    ·rintro e w' ⟨W0,W1,rfl,NU,⟨dV,dP,k1,k2,k3,k4⟩,hdr,hk⟩;have hS0:=hSW.aN NU;obtain⟨uT,Ea⟩:=hS0.dk k1 k3 hS;have hdr2:aV w' dp tb r.2.1.depth.toNat (gT m q a b c s.most s.depth.toNat).1:=(by rw[hS.2.1];exact hdr);obtain⟨hS2,YL⟩:=uT.tx hdr2 hk;exact⟨_,rfl,dV,dP,hS2,k2,(Dk.bX (hW.then NU)).trans (Ea.trans YL),fun W' Cw=>by rw[Jt];exact LB W'⟩
   ·rw[Aaa Jt];refine(Pw (P:=fun W0 t v W1=>oC W0 W1 ps db fv rs 2 (.iface t v) r) hSW.Xh hg Bh hc hb hm0 e_clo (fun W0 NU=>?_)).mono ?_
    ·refine(hclo W0 NU).mono ?_;rintro e w' ⟨v,rfl,hv⟩;obtain⟨dV,dP,k1,k2,k3,k4⟩:=hv;obtain⟨t,b',rfl⟩:=k4.yes Jt;exact⟨_,_,rfl,dV,dP,k1,k2,k3,k4⟩
    ·rintro e w' ⟨W0,t,v,rfl,NU,dV,dP,k1,k2,k3,k4⟩;have hS0:=hSW.aN NU;obtain⟨uT,Ea⟩:=hS0.dk k1 k3 hS;exact⟨_,rfl,dV,dP,uT,k2,(Dk.bX (hW.then NU)).trans Ea,fun W' Cw=>xH (((CW.aN NU).dk hS0.disk k3).aN Cw) (k4.aN Cw) (by omega)⟩
 ·rintro W W' v ⟨dV,dP,k1,k2,k3,k4⟩ Cw;refine(VQ (k1.aN Cw) ?_ (k4 W' Cw) (k3.aN Cw)).mono ?_
  ·unfold Md;by_cases hm:pX m q a b c s.most≠0
   ·rw[Aad hm];exact Aab (Aab ⟨(AU m q a b c s.most).1,(AU m q a b c s.most).2,ho,hr⟩)
   ·rw[Aaa hm];exact(aAs hO ⟨yD,by omega⟩ (by rw[qC];omega) ho hr).1
  ·rintro e w' ⟨rfl,hq⟩;rw[k2]at hq;exact⟨_,rfl,rfl,hq⟩
theorem LZ (h:w.heap[qp]?=M (xG most depth db O)):
 H K 54 #[U (M ⟨qp,0,O⟩),.agg #[I .u8 q,I V a,I V b,I V c],.string text] w fun e w'=>e=G (I V 3)/\aL w w':=by
 obtain⟨w1,iY⟩:∃w1,w1=(w.alloc (C #[I .u8 q,I V a,I V b,I V c] 99)).alloc (C #[.string text] 9):=⟨_,rfl⟩;have G1:aL w w1:=by rw[iY];exact((aL.refl w).alloc _).alloc _
 have hM:=Gb ((G1.block _ (aM h)).trans h);clear h;go_enter func54,ntmps54;go_upto_region 1 with fail;rw[<-iY];clear iY;go_wp2_with (go_at_call 52;refine hM.mono ?_;rintro e w' ⟨rfl,rfl⟩);go_ret;exact⟨rfl,G1⟩
theorem au (h:w.heap[qp]?=M (xG most depth db (M sp)))(hs:w.heap[sp]?=M (uW lp dp true)):
 H K 54 #[U (M ⟨qp,0,O⟩),.agg #[I .u8 q,I V a,I V b,I V c],.string text] w fun e w'=>e=G (I V 4)/\aL w w':=by
 obtain⟨w1,iY⟩:∃w1,w1=(w.alloc (C #[I .u8 q,I V a,I V b,I V c] 99)).alloc (C #[.string text] 9):=⟨_,rfl⟩;have G1:aL w w1:=by rw[iY];exact((aL.refl w).alloc _).alloc _
 have hM:=zS ((G1.block _ (aM h)).trans h) ((G1.block _ (aM hs)).trans hs);rw[Aad rfl]at hM;clear h hs;go_enter func54,ntmps54;go_upto_region 1 with fail;rw[<-iY];clear iY;go_wp2_with (go_at_call 52;refine hM.mono ?_;rintro e w' ⟨rfl,rfl⟩);go_ret;exact⟨rfl,G1⟩
def Cm (x:St)(q a b c:Int)(text:ByteArray):St×Int:=if x.1.aX=false then (x,3)else if x.1.ro then (x,4)else Md x q a b c text
theorem Rt (h:uI w qp s fs m X)(hG:Gl w ps)(hS:GS (s,fs,m) D)(hD:D<=1999999999)(Bh: -9223372036854770000<=c)(hc:c<=9223372036854770000)(hb:b<=9223372036854775807)(hx:text.size=0\/(text.size:Int)=c):
 H K 54 #[U (M ⟨qp,0,O⟩),.agg #[I .u8 q,I V a,I V b,I V c],.string text] w fun e w'=>e=G (I V (Cm (s,fs,m) q a b c text).2)/\yO w w' qp X (Cm (s,fs,m) q a b c text).1:=by
 have h0:=h;rcases h with⟨ho,db,fv,rs,h1,rfl,h3,rfl⟩|⟨ho,db,fv,rs,sp,lp,dp,tb,h1,rfl,rfl⟩
 ·have e:Cm (s,plain rs,m) q a b c text=((s,plain rs,m),3):=by unfold Cm;rw[Aad ho]
  rw[e];refine(LZ h3).mono ?_;rintro e w' ⟨rfl,hg⟩;exact⟨rfl,yO.same h0 hg⟩
 ·cases hr:s.ro with
  |true=>
   have e:Cm (s,plain rs,m) q a b c text=((s,plain rs,m),4):=(by unfold Cm;simp only;rw[Aaa (by simp[ho]),Aad hr]);rw[e];rw[hr]at h1;refine(au h1.qu h1.zT).mono ?_;rintro e w' ⟨rfl,hg⟩;exact⟨rfl,yO.same h0 hg⟩
  |false=>
   have e:Cm (s,plain rs,m) q a b c text=Md (s,plain rs,m) q a b c text:=(by unfold Cm;simp only;rw[Aaa (by simp[ho]),Aaa (by simp[hr])]);rw[e];rw[hr]at h1;have hd:=hS.done ho;simp only at hd;refine(qchg_any h1 hG ho hr (hS.bk.dok.more (by omega)) (hS.Cs ho) (by omega) Bh hc hb hx).mono ?_;rintro e w' ⟨r,rfl,rfl,hq⟩;exact⟨rfl,hq⟩
def Er (kind pos:Int):Int:=if kind=73\/kind=68 then pos else 0
def Jm (fs:List bC)(kind n:Int):Int:=if kind=73 then ((aO fs 1).size:Int)else if kind=68 then n else 0
def Es (kind:Int)(text:ByteArray):Int:=if kind=73 then (text.size:Int)else 0
theorem Ru {kind:Int}(hS:GS (s,fs,m) D)(hk:kind=73\/kind=68\/kind=85\/kind=82)(ht:kind≠73->text.size=0):
 iW (s,fs,m) kind pos n text=Cm (s,fs,m) kind (Er kind pos) (Jm fs kind n) (Es kind text) text:=by
 unfold iW Cm;by_cases ho:s.aX=false
 ·rw[Aad ho,Aad ho]
 ·rw[Aaa ho,Aaa ho];have Ct:s.aX=true:=by simpa using ho
  by_cases hr:s.ro=true
  ·rw[Aad hr,Aad hr]
  ·rw[Aaa hr,Aaa hr];have uP:s.ro=false:=(by simpa using hr);have hb:=hS.EA Ct uP;simp only at hb
   have hm:pX m kind (Er kind pos) (Jm fs kind n) (Es kind text) s.most=(gT m kind (Er kind pos) (Jm fs kind n) (Es kind text) s.most s.depth.toNat).2:=by
    refine DZ ?_;unfold Er Jm Es;rcases hk with rfl|rfl|rfl|rfl
    ·exact Aac ⟨rfl,by simpa using hb.symm⟩
    ·exact Aab (Aac ⟨rfl,by simp⟩)
    ·exact Aab (Aab ⟨Aac rfl,by simp,by simp,by simp⟩)
    ·exact Aab (Aab ⟨Aab rfl,by simp,by simp,by simp⟩)
   have eA:(if kind=73\/kind=68 then pos else 0)=Er kind pos:=rfl;have eB:(if kind=73 then ((aO fs 1).size:Int)else if kind=68 then n else 0)=Jm fs kind n:=rfl;have eC:(if kind=73 then (text.size:Int)else 0)=Es kind text:=rfl;unfold Md;simp only[eA,eB,eC];rw[hm];by_cases hE:(gT m kind (Er kind pos) (Jm fs kind n) (Es kind text) s.most s.depth.toNat).2≠0
   ·rw[Aad hE,Aad hE]
   ·rw[Aaa hE,Aaa hE];have FK:(gT m kind (Er kind pos) (Jm fs kind n) (Es kind text) s.most s.depth.toNat).2=0:=(by omega);have tX:=(EC FK).1;rw[tX];unfold NN;by_cases Zx:kind=73
    ·have hz:text.size≠0:=by
      intro hz;have Bh:Es kind text=0:=(by unfold Es;rw[Aad Zx,hz];rfl);rw[Bh]at FK;unfold gT at FK;rw[Aad Zx]at FK;unfold uQ at FK;by_cases c1:Er kind pos<0\/sz m.1<Er kind pos
      ·rw[Aad c1]at FK;simp at FK
      ·rw[Aaa c1,Aad (by omega)]at FK;simp at FK
     simp only[Aaa hz,Aad Zx];have Yr:(bW s fs 1 text).2.1.aY=s.aY:=(Ls hS.bk.dok (n:=1) (by omega) hz Ct uP).2.2.2.2;by_cases hq:(bW s fs 1 text).1≠0
     ·rw[Aad hq,Aad hq,Aaa hq]
     ·rw[Aaa hq,Aaa hq,Yr]
    ·simp only[Aad (ht Zx),Aaa Zx,ne_eq,AdL,if_false]
theorem VZ (h:uI w qp s fs m X)(hG:Gl w ps)(hS:GS (s,fs,m) D)(hD:D<=1999999999)(hn:n<=9223372036854775807):
 H K 44 #[U (M ⟨qp,0,O⟩),I V pos,I V n] w fun e w'=>e=G (I V (iW (s,fs,m) 68 pos n ⟨#[]⟩).2)/\yO w w' qp X (iW (s,fs,m) 68 pos n ⟨#[]⟩).1:=by
 rw[Ru hS (Aab (Aac rfl)) (fun _=>rfl)];have e1:Er 68 pos=pos:=by simp[Er]
 have e2:Jm fs 68 n=n:=by simp[Jm]
 have e3:Es 68 ⟨#[]⟩=0:=by simp[Es]
 rw[e1,e2,e3];have hc:=Rt (q:=68) (a:=pos) (b:=n) (c:=0) (text:=⟨#[]⟩) h hG hS hD (by omega) (by omega) hn (Aac rfl);generalize Cm (s,fs,m) 68 pos n 0 ⟨#[]⟩=R at*;clear h hG hS e1 e2 e3;go_enter func44,ntmps44;go_wp2_with (go_at_call 54;refine hc.mono ?_;rintro e w' ⟨rfl,hq⟩);go_ret;exact⟨rfl,hq⟩
theorem qundo (h:uI w qp s fs m X)(hG:Gl w ps)(hS:GS (s,fs,m) D)(hD:D<=1999999999):
 H K 29 #[U (M ⟨qp,0,O⟩)] w fun e w'=>e=G (I V (iW (s,fs,m) 85 pos n ⟨#[]⟩).2)/\yO w w' qp X (iW (s,fs,m) 85 pos n ⟨#[]⟩).1:=by
 rw[Ru hS (Aab (Aab (Aac rfl))) (fun _=>rfl)];have e1:Er 85 pos=0:=by simp[Er]
 have e2:Jm fs 85 n=0:=by simp[Jm]
 have e3:Es 85 ⟨#[]⟩=0:=by simp[Es]
 rw[e1,e2,e3];have hc:=Rt (q:=85) (a:=0) (b:=0) (c:=0) (text:=⟨#[]⟩) h hG hS hD (by omega) (by omega) (by omega) (Aac rfl);generalize Cm (s,fs,m) 85 0 0 0 ⟨#[]⟩=R at*;clear h hG hS e1 e2 e3;go_enter func29,ntmps29;go_wp2_with (go_at_call 54;refine hc.mono ?_;rintro e w' ⟨rfl,hq⟩);go_ret;exact⟨rfl,hq⟩
theorem qredo (h:uI w qp s fs m X)(hG:Gl w ps)(hS:GS (s,fs,m) D)(hD:D<=1999999999):
 H K 46 #[U (M ⟨qp,0,O⟩)] w fun e w'=>e=G (I V (iW (s,fs,m) 82 pos n ⟨#[]⟩).2)/\yO w w' qp X (iW (s,fs,m) 82 pos n ⟨#[]⟩).1:=by
 rw[Ru hS (Aab (Aab (Aab rfl))) (fun _=>rfl)];have e1:Er 82 pos=0:=by simp[Er]
 have e2:Jm fs 82 n=0:=by simp[Jm]
 have e3:Es 82 ⟨#[]⟩=0:=by simp[Es]
 rw[e1,e2,e3];have hc:=Rt (q:=82) (a:=0) (b:=0) (c:=0) (text:=⟨#[]⟩) h hG hS hD (by omega) (by omega) (by omega) (Aac rfl);generalize Cm (s,fs,m) 82 0 0 0 ⟨#[]⟩=R at*;clear h hG hS e1 e2 e3;go_enter func46,ntmps46;go_wp2_with (go_at_call 54;refine hc.mono ?_;rintro e w' ⟨rfl,hq⟩);go_ret;exact⟨rfl,hq⟩
theorem EF (h:uI w qp s fs m X)(hG:Gl w ps)(hS:GS (s,fs,m) D)(hD:D<=1999999999)(ht:text.size<=140737488355328):
 H K 28 #[U (M ⟨qp,0,O⟩),I V pos,.string text] w fun e w'=>e=G (I V (iW (s,fs,m) 73 pos n text).2)/\yO w w' qp X (iW (s,fs,m) 73 pos n text).1:=by
 rw[Ru hS (Aac rfl) (fun e=>(e rfl).elim)];have e1:Er 73 pos=pos:=by simp[Er]
 have e2:Jm fs 73 n=((aO fs 1).size:Int):=by simp[Jm]
 have e3:Es 73 text=(text.size:Int):=by simp[Es]
 rw[e1,e2,e3];clear e1 e2 e3;have tC:=gD hS.bk.inv 1;have RP:=hS.bk.cK.kI;simp only at tC RP;have hc:=Rt (q:=73) (a:=pos) (b:=((aO fs 1).size:Int)) (c:=(text.size:Int)) (text:=text) h hG hS hD (by omega) (by omega) (by omega) (Aab rfl);have h0:=h;rcases h with⟨ho,db,fv,rs,h1,rfl,h3,rfl⟩|⟨ho,db,fv,rs,sp,lp,dp,tb,h1,rfl,rfl⟩
 ·have hM:=Gb h3;have e:Cm (s,plain rs,m) 73 pos ((aO (plain rs) 1).size:Int) (text.size:Int) text=((s,plain rs,m),3):=by unfold Cm;rw[Aad ho]
  rw[e];have HQ:Hid (uI w qp s (plain rs) m (FJ qp db fv rs)):=h0;clear hc h0 hG hS h1 h3 e;go_enter func28,ntmps28;go_wp2_with (go_at_call 52;refine hM.mono ?_;rintro e w' ⟨rfl,rfl⟩);go_ret;exact⟨rfl,yO.same HQ.out (aL.refl _)⟩
 ·have hM:=zS h1.qu h1.zT;cases hr:s.ro with
  |true=>
   have e:Cm (s,plain rs,m) 73 pos ((aO (plain rs) 1).size:Int) (text.size:Int) text=((s,plain rs,m),4):=(by unfold Cm;simp only;rw[Aaa (by simp[ho]),Aad hr]);rw[e];rw[hr,Aad rfl]at hM;have HQ:Hid (uI w qp s (plain rs) m (Rs qp db fv rs sp lp dp tb)):=h0;clear hc h0 hG hS h1 e hr ho;go_enter func28,ntmps28;go_wp2_with (go_at_call 52;refine hM.mono ?_;rintro e w' ⟨rfl,rfl⟩);go_ret;exact⟨rfl,yO.same HQ.out (aL.refl _)⟩
  |false=>
   rw[hr]at hM;simp only[Aaa (show ¬(false=true) by decide)]at hM;have hb:=hS.EA ho hr;simp only at hb;have hB:=Bg h1.Xh;rw[hb]at hB;obtain⟨-,-,-,c3,-⟩:=eG h1.qu;obtain⟨-,d1,-⟩:=kQ h1.zT;simp only[Abs]at c3;generalize Cm (s,plain rs,m) 73 pos ((aO (plain rs) 1).size:Int) (text.size:Int) text=R at*;generalize ((aO (plain rs) 1).size:Int)=bz at*;clear h0 hG hS h1 hr ho hb tC RP;go_enter func28,ntmps28;go_wp2_with (first|(go_at_call 52;refine hM.mono ?_;rintro e w' ⟨rfl,rfl⟩)|(go_at_call 53;refine hB.mono ?_;rintro e w' ⟨rfl,rfl⟩)|(go_at_call 54;refine hc.mono ?_;rintro e w' ⟨rfl,hq⟩));go_ret;exact⟨rfl,hq⟩
theorem syn_flg (hB:BK s fs)(ho:s.aX=true)(hr:s.ro=false):ZX (rX s fs s.aY).2.1 (rX s fs s.aY).1/\iE s (rX s fs s.aY).2.1/\∀m,lY (s,fs,m)=(((rX s fs s.aY).2.1,(rX s fs s.aY).2.2,m),(rX s fs s.aY).1):=by
 have e1:uD s fs s.aY 1=bY s fs 1:=rfl;have e2:uD s fs s.aY 2=bY (bY s fs 1).2.1 (bY s fs 1).2.2 (10+s.aY):=rfl;obtain⟨k1,k2,k3⟩:=En hB 1
 have hS:∀m,lY (s,fs,m)=(((rX s fs s.aY).2.1,(rX s fs s.aY).2.2,m),(rX s fs s.aY).1):=fun m=>by
  unfold lY rX;simp only;rw[Aaa (by simp[ho]),Aaa (by simp[hr]),e1,e2,k2.2.2.2];split<;>rfl
 refine⟨?_,?_,hS⟩
 ·unfold rX;rw[e1,e2];rcases k3 with⟨q1,q2,q3,-⟩|⟨q1,q2⟩
  ·rw[Aaa (by rw[q1];simp)];obtain⟨-,-,j3⟩:=En k1 (10+s.aY);rcases j3 with⟨r1,r2,r3,-⟩|⟨r1,r2⟩
   ·rw[Aad r1];exact Aab (Aab ⟨by simp,by simp,(r2.trans q2).trans ho,(r3.trans q3).trans hr⟩)
   ·rw[Aaa (by rw[r1];simp)];exact Aac ⟨rfl,r2⟩
  ·rw[Aad q1];exact Aac ⟨rfl,q2⟩
 ·unfold rX;rw[e1,e2];split
  ·exact k2
  ·exact k2.trans (En k1 (10+s.aY)).2.1
theorem qsync (h:uI w qp s fs m X)(hG:Gl w ps)(hS:GS (s,fs,m) D):
 H K 30 #[U (M ⟨qp,0,O⟩)] w fun e w'=>e=G (I V (lY (s,fs,m)).2)/\yO w w' qp X (lY (s,fs,m)).1:=by
 have h0:=h;have yD:=hS.bk.cK.nX;have Hu:=hS.bk.cK.rE;simp only at yD Hu;rcases h with⟨ho,db,fv,rs,h1,rfl,h3,rfl⟩|⟨ho,db,fv,rs,sp,lp,dp,tb,h1,rfl,rfl⟩
 ·have hM:=Gb h3;have e:lY (s,plain rs,m)=((s,plain rs,m),3):=by unfold lY;rw[Aad ho]
  rw[e];have HQ:Hid (uI w qp s (plain rs) m (FJ qp db fv rs)):=h0;clear h0 hG hS h1 h3 e;go_enter func30,ntmps30;go_wp2_with (go_at_call 52;refine hM.mono ?_;rintro e w' ⟨rfl,rfl⟩);go_ret;exact⟨rfl,yO.same HQ.out (aL.refl _)⟩
 ·have hM:=zS h1.qu h1.zT;cases hr:s.ro with
  |true=>
   have e:lY (s,plain rs,m)=((s,plain rs,m),4):=(by unfold lY;simp only;rw[Aaa (by simp[ho]),Aad hr]);rw[e];rw[hr,Aad rfl]at hM;have HQ:Hid (uI w qp s (plain rs) m (Rs qp db fv rs sp lp dp tb)):=h0;clear h0 hG hS h1 e hr ho;go_enter func30,ntmps30;go_wp2_with (go_at_call 52;refine hM.mono ?_;rintro e w' ⟨rfl,rfl⟩);go_ret;exact⟨rfl,yO.same HQ.out (aL.refl _)⟩
  |false=>
   rw[hr]at hM h1;simp only[Aaa (show ¬(false=true) by decide)]at hM;obtain⟨hF,hSm,hEq⟩:=syn_flg hS.bk ho hr;have hY:=sync_pg h1.disk h1.vF hG (hS.bk.dok.more (by omega)) yD (by omega);simp only at hF hSm hEq;rw[hEq m];generalize rX s (plain rs) s.aY=r at*;obtain⟨-,-,-,c3,-⟩:=eG h1.qu;obtain⟨d0,-,-⟩:=kQ h1.zT;simp only[Abs]at c3
   have HY:Hid (H K 55 #[U (M ⟨lp,0,O⟩)] w fun e w'=> ∃v,e=G v/\H K 49 #[U (M ⟨qp,0,O⟩),v] w' fun e w2=>e=G (I V r.1)/\yO w w2 qp (Rs qp db fv rs sp lp dp tb) (r.2.1,r.2.2,m)):=by
    refine hY.mono ?_;rintro e w' ⟨v,rfl,dV,dP,k1,k2,k3,k4⟩;obtain⟨uT,Ea⟩:=h1.dk k1 k3 hSm;refine⟨v,rfl,?_⟩;rw[<-k2];exact VQ uT hF (xH (hG.dk h1.disk k3) k4 (by omega)) Ea
   clear hY h0 hG hS h1 hr ho hF hSm hEq;go_enter func30,ntmps30;go_wp2_with (first|(go_at_call 52;refine hM.mono ?_;rintro e w' ⟨rfl,rfl⟩)|(go_at_call 55;refine HY.out.mono ?_;rintro e w' ⟨v,rfl,hA⟩)|(go_at_call 49;refine hA.mono ?_;rintro e w2 ⟨rfl,hq⟩));go_ret;exact⟨rfl,hq⟩
end Go.Proofs.YtfplgfodoiiobaaGreatDoor
