/- DrM, DrN, RfB, RfC, DrO, DrP (joined). -/
import Derived.Deep.MidRow
import Derived.Test.YtfplgfodoiiobaaGreatDoorJ21
open Option renaming none→O,some→M
open Go.Value renaming int→I,slice→Z,pointer→U
open Go.IntKind renaming i64→V
open Go.Obj renaming cells→C
open Go.Ending renaming returned→G
open Go renaming World→F,Value→Y,Calls→H
open Go.Proofs.Tryz renaming prog→K
namespace Go.Proofs.YtfplgfodoiiobaaGreatDoor
set_option maxHeartbeats 2000000
set_option maxRecDepth 100000
open Go.RowKit
variable {w w' w5:F}{g k B N:Nat}{l:List Ed}{r r0 rk:Sn}{S:ByteArray}{size:Int}{v:Y}{e:Ed}{raw:List fH}{X:Nat->Prop}{o:Obj}{x:dS}
theorem IG {tb:Nat}{l:List (Int×Int)}(t:bN w tb l):H K 64 #[U (M ⟨tb,0,O⟩)] w fun e w'=> ∃g1 g2 g3,e=G (Z g1 g2 g3)/\bF w' (g1,g2,g3) l/\aK w w':=by
 refine(Xy t).mono ?_;rintro e w' ⟨g,rfl,cZ,hg,hB⟩;obtain⟨ao,cap,he,hr,hn⟩:=Lr.yM (l:=l) cZ;cases he
 exact⟨_,_,_,rfl,⟨hr,rfl,hn⟩,hB⟩
def AO (dn bf:Int)(t u r:dS):Y:= .agg #[I V dn,I V bf,t.v,u.v,r.v]
def vk (w:F)(v:Y)(m:bR):Prop:=∃t u r:dS,v=AO m.2.2.2.1 m.2.2.2.2 t u r/\bF w t m.1/\cO w u m.2.1/\cO w r m.2.2.1
theorem WZ {dp tb depth:Nat}{m:bR}(h:aR w dp tb depth m):
 H K 57 #[U (M ⟨dp,0,O⟩)] w fun e w'=> ∃v,e=G v/\vk w' v m/\aK w w':=by
 obtain⟨⟨u1,u2,u3⟩,⟨r1,r2,r3⟩,hb,ht,hu,hr⟩:=h;have HC:Hid (∀W,aK w W->H K 64 #[U (M ⟨tb,0,O⟩)] W fun e w'=> ∃g1 g2 g3,e=G (Z g1 g2 g3)/\bF w' (g1,g2,g3) m.1/\aK W w'):=fun W hW=>IG (ht.below hW)
 have HE:Hid (∀W g1 g2 g3,aK w W->bF W (g1,g2,g3) m.1->vk W (AO m.2.2.2.1 m.2.2.2.2 (g1,g2,g3) (u1,u2,u3) (r1,r2,r3)) m):=fun W g1 g2 g3 hW hl=>⟨_,_,_,rfl,hl,hu.aM hW,hr.aM hW⟩
 obtain⟨w1,dU⟩:∃w1,w1=w.alloc (C #[I V 0,I V 0,Z O 0 0,Z O 0 0,Z O 0 0] 105):=⟨_,rfl⟩;have bX:w1.heap[w.heap.size]?=M (C #[I V 0,I V 0,Z O 0 0,Z O 0 0,Z O 0 0] 105 (0,0)):=by rw[dU];exact heap_alloc_new w _
 have G1:Hid (aK w w1):=by show aK _ _;rw[dU];exact(aK.refl w).alloc _
 have HS:Hid (∀W,aK w W->W.cell? ⟨dp,1,O⟩=M (U (M ⟨tb,0,O⟩))/\W.cell? ⟨dp,3,O⟩=M (Z u1 u2 u3)/\W.cell? ⟨dp,4,O⟩=M (Z r1 r2 r3)/\W.cell? ⟨dp,5,O⟩=M (I V m.2.2.2.1)/\W.cell? ⟨dp,6,O⟩=M (I V m.2.2.2.2)/\aK w W):=fun W hW=>by
  have mF:=(hW.block _ (aL hb)).trans hb;obtain⟨d0,d1,d2,d3,d4,d5,d6,-⟩:=bJ mF;exact⟨d1,d3,d4,d5,d6,hW⟩
 have HN:Hid (∀W,aK w1 W->(W.cell? ⟨w.heap.size,0,O⟩=M (I V 0)/\W.cell? ⟨w.heap.size,1,O⟩=M (I V 0)/\W.cell? ⟨w.heap.size,2,O⟩=M (Z O 0 0)/\W.cell? ⟨w.heap.size,3,O⟩=M (Z O 0 0)/\W.cell? ⟨w.heap.size,4,O⟩=M (Z O 0 0))/\(∀j,W.frozen? ⟨w.heap.size,j,O⟩=false)):=fun W hW=>by
  have hbn:=(hW.block _ (aL bX)).trans bX;exact⟨by simp[World.cell?,hbn],fun j=>by simp[World.frozen?,hbn]⟩
 have HE2:Hid (∀W g1 g2 g3 a b c d e,aK w W->bF W (g1,g2,g3) m.1->aK w (((((W.setCell ⟨w.heap.size,0,O⟩ a).setCell ⟨w.heap.size,1,O⟩ b).setCell ⟨w.heap.size,2,O⟩ c).setCell ⟨w.heap.size,3,O⟩ d).setCell ⟨w.heap.size,4,O⟩ e)/\(W.heap[w.heap.size]?=M (C #[I V 0,I V 0,Z O 0 0,Z O 0 0,Z O 0 0] 105 (0,0))->vk (((((W.setCell ⟨w.heap.size,0,O⟩ a).setCell ⟨w.heap.size,1,O⟩ b).setCell ⟨w.heap.size,2,O⟩ c).setCell ⟨w.heap.size,3,O⟩ d).setCell ⟨w.heap.size,4,O⟩ e) (AO m.2.2.2.1 m.2.2.2.2 (g1,g2,g3) (u1,u2,u3) (r1,r2,r3)) m)):=fun W g1 g2 g3 a b c d e hW hl=>by
  have hG:=kW hW (Nat.le_refl _) a b c d e;refine⟨hG,fun ho=>⟨_,_,_,rfl,?_,hu.aM hG,hr.aM hG⟩⟩
  have hF:Fr W (((((W.setCell ⟨w.heap.size,0,O⟩ a).setCell ⟨w.heap.size,1,O⟩ b).setCell ⟨w.heap.size,2,O⟩ c).setCell ⟨w.heap.size,3,O⟩ d).setCell ⟨w.heap.size,4,O⟩ e) (fun b=>b=w.heap.size):=
   ((((Fr.set W ⟨w.heap.size,0,O⟩ a).trans (Fr.set _ ⟨w.heap.size,1,O⟩ b)).trans (Fr.set _ ⟨w.heap.size,2,O⟩ c)).trans (Fr.set _ ⟨w.heap.size,3,O⟩ d)).trans (Fr.set _ ⟨w.heap.size,4,O⟩ e)
  exact hl.fr hF (fun b aQ e he=>by subst he;exact eT e ho (lD (by decide)))
 have HO:Hid (∀W,aK w1 W->W.heap[w.heap.size]?=M (C #[I V 0,I V 0,Z O 0 0,Z O 0 0,Z O 0 0] 105 (0,0))):=fun W hW=>(hW.block _ (aL bX)).trans bX
 unfold AO at HE2;simp only[dS.v]at HE2;clear hb ht hu hr bX HE;go_enter Tryz.func57,Tryz.ntmps57
 go_upto_region 1 with fail
 rw[<-dU];clear dU;have ga:=G1.out;generalize m.2.2.2.1=dn at*;generalize m.2.2.2.2=bf at*
 go_region_held3 (fun w'=>w'.cell? ⟨dp,1,O⟩=M (U (M ⟨tb,0,O⟩))/\w'.cell? ⟨dp,3,O⟩=M (Z u1 u2 u3)/\w'.cell? ⟨dp,4,O⟩=M (Z r1 r2 r3)/\w'.cell? ⟨dp,5,O⟩=M (I V dn)/\w'.cell? ⟨dp,6,O⟩=M (I V bf)/\aK w w')
  (first|(refine HS.out _ ?_;go_split_ands;with_reducible (first|assumption|exact kW Va (Nat.le_refl _) _ _ _ _ _|exact aK.drew Va|exact aK.drew (kW Va (Nat.le_refl _) _ _ _ _ _)|(refine aK.drew ?_;assumption))))
  (first|(go_at_call 64;refine(HC.out _ (by go_split_ands;assumption)).mono ?_;rintro e w5 ⟨g1,g2,g3,rfl,Y_,qK⟩;have Va:aK w w5:=aK.more (by go_split_ands;assumption) qK;have hG6:aK w1 w5:=(by with_reducible (first|exact qK|exact aK.then (aK.drew (aK.refl _)) qK));obtain⟨⟨y0,y1,y2,y3,y4⟩,yf⟩:=HN.out w5 hG6))
 all_goals obtain⟨q1,q2⟩:=HE2.out w5 g1 g2 g3 (I V dn) (I V bf) (Z g1 g2 g3) (Z u1 u2 u3) (Z r1 r2 r3) Va Y_
 all_goals have q3:=q2 (HO.out w5 hG6)
 all_goals go_wp2_with fail
 all_goals refine bodyPost_ret (v:= .agg #[I V dn,I V bf,Z g1 g2 g3,Z u1 u2 u3,Z r1 r2 r3]) (by simp[results,Tryz.results57,go_sem, *]) rfl ?_
 all_goals exact⟨_,rfl,q3,q1⟩
theorem MF {w1 w2:F}{X':Nat->Prop}(h:aK w w1)(hk:Dk w1 w2 X X')(hx:∀b,X b->w.heap.size<=b):aK w w2:=by
 obtain⟨⟨a1,a2⟩,⟨b1,b2,b3⟩,-⟩:=hk;exact⟨b1.trans h.os,b2.trans h.tape,b3.trans h.output,Nat.le_trans h.size a1,fun b hb=>(a2 b (Nat.lt_of_lt_of_le hb h.size) (fun hX=>by have:=hx b hX;omega)).trans (h.block b hb)⟩
theorem vw (l:List (Int×Int)):bY (bU [] 0 (sz [])).1 0 l=l:=by
 simp[bY,bU,sz,cB,bH]
theorem Nq {depth:Nat}{l:List (Int×Int)}{ul rl:List Ed}{dn bf:Int}{t u r:dS}(ht:bF w t l)(hu:cO w u ul)(hr:cO w r rl)(Qw:ul.length<=100000)(SY:rl.length<=100000)(hd:depth<=100)(kV:dX l)(hl:l.length<=4096)(h9:∀q∈l,q.1<=1000000000):
 H K 122 #[I V (depth:Int),AO dn bf t u r] w fun e w'=> ∃dp tb,e=G (U (M ⟨dp,0,O⟩))/\aR w' dp tb depth (l,ul.take depth,rl.take depth,dn,bf)/\w.heap.size<=dp/\w.heap.size<=tb/\aK w w':=by
 have HN:Hid (∀W,H K 62 #[] W fun e w'=> ∃tb,e=G (U (M ⟨tb,0,O⟩))/\bN w' tb []/\W.heap.size<=tb/\aK W w'):=fun W=>by
  refine(mg W).mono ?_;rintro e w' ⟨rfl,rfl⟩;exact⟨_,rfl,TY W,Nat.le_refl _,(aK.refl W).alloc _⟩
 have HF:Hid (∀W x1 x2 x3 l0,cO W (x1,x2,x3) l0->l0.length<=100000->H K 179 #[Z x1 x2 x3,I V (depth:Int)] W fun e w'=> ∃y1 y2 y3,e=G (Z y1 y2 y3)/\cO W (y1,y2,y3) (l0.take depth)/\w'=W):=fun W x1 x2 x3 l0 hx SK=>by
  refine(Ta hx (by omega) (by omega)).mono ?_;rintro e w' ⟨⟨y1,y2,y3⟩,rfl,hy,rfl⟩;exact⟨y1,y2,y3,rfl,hy,rfl⟩
 have HA:Hid (∀W dp tb,aK w W->aR W dp tb depth ([],ul.take depth,rl.take depth,dn,bf)->w.heap.size<=dp->w.heap.size<=tb->H K 180 #[U (M ⟨dp,0,O⟩),.agg #[I V 0,Z O 0 0,t.v]] W fun e w'=> ∃g1 g2 g3,e=G (Z g1 g2 g3)/\aR w' dp tb depth (l,ul.take depth,rl.take depth,dn,bf)/\aK w w'):=fun W dp tb hW hD h1 h2=>by
  have hp:=vw l;refine(vP (p:=0) (x:=(O,0,0)) (g:=[]) hD (qV W) (ht.aM hW) (by intro q hq;simp at hq) (by simp) kV h9 (by omega) (by omega) (by simp[sz]) (by simp[sz]) (by simp only[hp];exact hl)).mono ?_;rintro e w' ⟨⟨g1,g2,g3⟩,rfl,-,jl,hk,-⟩;simp only[hp]at jl;exact⟨g1,g2,g3,rfl,jl,MF hW hk (by rintro b (rfl|rfl)<;>assumption)⟩
 have HD:Hid (∀W dp tb u1 u2 u3 r1 r2 r3,W.heap[dp]?=M (C #[I V (depth:Int),U (M ⟨tb,0,O⟩),I V 0,Z u1 u2 u3,Z r1 r2 r3,I V dn,I V bf] 147 (0,0))->bN W tb []->cO W (u1,u2,u3) (ul.take depth)->cO W (r1,r2,r3) (rl.take depth)->aR W dp tb depth ([],ul.take depth,rl.take depth,dn,bf)):=fun W dp tb u1 u2 u3 r1 r2 r3 h1 h2 h3 h4=>⟨(u1,u2,u3),(r1,r2,r3),h1,h2,h3,h4⟩
 obtain⟨t1,t2,t3⟩:=t;obtain⟨u1,u2,u3⟩:=u;obtain⟨r1,r2,r3⟩:=r;unfold AO;simp only[dS.v]at*;have HU:Hid (∀W,aK w W->cO W (u1,u2,u3) ul):=fun W hW=>hu.aM hW
 have HR:Hid (∀W,aK w W->cO W (r1,r2,r3) rl):=fun W hW=>hr.aM hW
 clear ht hu hr;obtain⟨w1,dU⟩:∃w1,w1=w.alloc (C #[I V dn,I V bf,Z t1 t2 t3,Z u1 u2 u3,Z r1 r2 r3] 105):=⟨_,rfl⟩;have bX:w1.heap[w.heap.size]?=M (C #[I V dn,I V bf,Z t1 t2 t3,Z u1 u2 u3,Z r1 r2 r3] 105 (0,0)):=by rw[dU];exact heap_alloc_new w _
 have G1:Hid (aK w w1):=by show aK _ _;rw[dU];exact(aK.refl w).alloc _
 have HS:Hid (∀W,aK w1 W->W.cell? ⟨w.heap.size,0,O⟩=M (I V dn)/\W.cell? ⟨w.heap.size,1,O⟩=M (I V bf)/\W.cell? ⟨w.heap.size,2,O⟩=M (Z t1 t2 t3)/\W.cell? ⟨w.heap.size,3,O⟩=M (Z u1 u2 u3)/\W.cell? ⟨w.heap.size,4,O⟩=M (Z r1 r2 r3)/\aK w1 W):=fun W hW=>by
  have mF:=(hW.block _ (aL bX)).trans bX;exact⟨by simp[World.cell?,mF],by simp[World.cell?,mF],by simp[World.cell?,mF],by simp[World.cell?,mF],by simp[World.cell?,mF],hW⟩
 clear bX;go_enter Tryz.func122,Tryz.ntmps122
 go_upto_region 1 with fail
 rw[<-dU];clear dU;have ga:=aK.refl w1
 go_region_held3 (fun w'=>w'.cell? ⟨w.heap.size,0,O⟩=M (I V dn)/\w'.cell? ⟨w.heap.size,1,O⟩=M (I V bf)/\w'.cell? ⟨w.heap.size,2,O⟩=M (Z t1 t2 t3)/\w'.cell? ⟨w.heap.size,3,O⟩=M (Z u1 u2 u3)/\w'.cell? ⟨w.heap.size,4,O⟩=M (Z r1 r2 r3)/\aK w1 w')
  (first|(refine HS.out _ ?_;go_split_ands;with_reducible (first|assumption|(refine aK.alloc ?_ _;assumption)|(refine aK.drew ?_;assumption)|(refine aK.drew (aK.alloc ?_ _);assumption))))
  (first
   |(go_at_call 62;refine(HN.out _).mono ?_;rintro e w5 ⟨tb,rfl,ht5,hle5,qK⟩;have Va:aK w1 w5:=aK.more (by go_split_ands;assumption) qK;have HT5:Hid (bN w5 tb []/\w1.heap.size<=tb):=⟨ht5,hle5⟩;clear ht5 hle5)
   |(go_at_call 179;(with_reducible (refine(HF.out _ u1 u2 u3 ul (HU.out _ (G1.out.then (by go_split_ands;assumption))) Qw).mono ?_));rintro e w5 ⟨y1,y2,y3,rfl,hy5,rfl⟩;have HY:Hid (cO w5 (y1,y2,y3) (ul.take depth)):=hy5;clear hy5)
   |(go_at_call 179;(with_reducible (refine(HF.out _ r1 r2 r3 rl (HR.out _ (G1.out.then (by go_split_ands;assumption))) SY).mono ?_));rintro e w5 ⟨z1,z2,z3,rfl,hz5,rfl⟩;have HZ:Hid (cO w5 (z1,z2,z3) (rl.take depth)):=hz5;clear hz5))
 rename_i hh;obtain⟨-,-,c2,-,-,yF⟩:=hh;have hb6:=heap_alloc_new w5 (C #[I V (depth:Int),U (M ⟨tb,0,O⟩),I V 0,Z y1 y2 y3,Z z1 z2 z3,I V dn,I V bf] 147);have ha6:=(aK.refl w5).alloc (C #[I V (depth:Int),U (M ⟨tb,0,O⟩),I V 0,Z y1 y2 y3,Z z1 z2 z3,I V dn,I V bf] 147);have Ga:=G1.out.le;have wL:=Va.le;have hD6:=HD.out _ _ tb y1 y2 y3 z1 z2 z3 hb6 (HT5.out.1.below ha6) (HY.out.aM ha6) (HZ.out.aM ha6);have hc:=HA.out _ _ tb (G1.out.then yF) hD6 (by omega) (by have:=HT5.out.2;omega);have HLE:Hid (w.heap.size<=w5.heap.size/\w.heap.size<=tb):=⟨by omega,by have:=HT5.out.2;omega⟩;clear hD6 hb6 ha6 Ga wL yF HT5 HY HZ;generalize (w5.alloc (C #[I V (depth:Int),U (M ⟨tb,0,O⟩),I V 0,Z y1 y2 y3,Z z1 z2 z3,I V dn,I V bf] 147))=w6 at*
 go_wp2_with (go_at_call 180;refine hc.mono ?_;rintro e w7 ⟨g1,g2,g3,rfl,hD7,jG⟩)
 go_ret;exact⟨_,tb,rfl,hD7,HLE.out.1,HLE.out.2,jG⟩
theorem XA {l:List (Int×Int)}(h:∀p∈l,OQ p):0<=sz l/\sz l<=(l.length:Int)*4294967296:=by
 induction l with
 |nil=>simp[sz]
 |cons p l ih=>
  obtain⟨a,b⟩:=ih (fun q hq=>h q (by simp[hq]));obtain⟨_,_,c,d⟩:=h p (by simp);simp only[sz,List.length_cons];omega
theorem iV.og {l:List (Int×Int)}(h:iV w B v l)(ho:Og w w' g)(hg:g<B):iV w' B v l:=
 bO h ho.1 (fun b aQ hb _ e=>by have:=(World.ownsRow.lt h b hb).1;omega)
theorem Eb.lt (h:Eb w g S r):g<w.heap.size:=by
 obtain⟨i,h1,h2,h3⟩:=h;exact aL h3
theorem Eb.cell (h:Eb w g S r):w.cell? ⟨g,2,O⟩=M (.bool r.2)/\w.frozen? ⟨g,2,O⟩=false:=by
 obtain⟨i,h1,h2,h3⟩:=h;obtain⟨-,-,c,d⟩:=FX h3;exact⟨c,d 2⟩
theorem XB (h:r.2=false):sZ (k+1) size r=(((bM r).1,(bM (bM r).2).1)::(sZ k size (gX ((bM (bM r).2).1<1\/5000<(bM (bM r).2).1\/size<(bM r).1+(bM (bM r).2).1) (bM (bM r).2).2)).1,(sZ k size (gX ((bM (bM r).2).1<1\/5000<(bM (bM r).2).1\/size<(bM r).1+(bM (bM r).2).1) (bM (bM r).2).2)).2):=by
 rw[sZ,if_neg (by rw[h];simp)]
def AP (N k:Nat)(size:Int)(r0 rk:Sn)(out:List (Int×Int)):Prop:=out.length=k/\k<=N/\sZ N size r0=(out++(sZ (N-k) size rk).1,(sZ (N-k) size rk).2)
theorem AP.done {out:List (Int×Int)}(h:AP N k size r0 rk out)(hd:N<=k\/rk.2=true):sZ N size r0=(out,rk):=by
 obtain⟨h1,h2,h3⟩:=h;rw[h3];rcases hd with hd|hd
 ·rw[show N-k=0 from by omega];simp[sZ]
 ·rw[vI _ _ _ hd];simp
theorem AP.next {out:List (Int×Int)}(h:AP N k size r0 rk out)(hk:k<N)(hb:rk.2=false):
 AP N (k+1) size r0 (gX ((bM (bM rk).2).1<1\/5000<(bM (bM rk).2).1\/size<(bM rk).1+(bM (bM rk).2).1) (bM (bM rk).2).2) (out++ [((bM rk).1,(bM (bM rk).2).1)]):=by
 obtain⟨h1,h2,h3⟩:=h;refine⟨by simp[h1],by omega,?_⟩;rw[h3,show N-k=(N-(k+1))+1 from by omega,XB hb];simp
theorem Og.grown {w6:F}{row:Option Nat}(h:Og w w5 g)(hg:(w5.alloc o).grownBy w6 row)(hr:∀k,row=M k->w.heap.size<=k):Og w w6 g:=by
 obtain⟨⟨a1,a2⟩,b1,b2,b3⟩:=h;refine⟨⟨?_,fun b hb hn=>?_⟩,hg.os.trans b1,hg.tape.trans b2,hg.output.trans b3⟩
 ·have:=hg.size;simp at this;omega
 ·rw[hg.block b (by simp;omega) (fun e=>by have:=hr b e.symm;omega),heap_alloc_old w5 o (r:=b) (by omega)];exact a2 b hb hn
theorem Eb.grown {w6:F}{row:Option Nat}(h:Eb w5 g S r)(hg:(w5.alloc o).grownBy w6 row)(hr:∀k,row=M k->B<=k)(hB:g<B):Eb w6 g S r:=by
 obtain⟨i,h1,h2,h3⟩:=h;have hl:=aL h3;refine⟨i,h1,h2,?_⟩;rw[hg.block g (by simp;omega) (fun e=>by have:=hr g e.symm;omega),heap_alloc_old w5 o hl];exact h3
theorem QF (w:F)(a b:Int):Jz (w.alloc (C #[I V a,I V b] 114)) (M ⟨w.heap.size,0,O⟩) [(a,b)]:=by
 refine Or.inr ⟨_,0,rfl,fun i hi=>?_⟩;have:i=0:=by simpa using hi
 subst this;simp
def fQ (w:F)(raw:List fH)(l:List Ed):Prop:=raw.length=l.length/\∀(i:Nat) (r:fH) (e:Ed),raw[i]?=M r->l[i]?=M e->qO w r e
theorem qO.fr {r:fH}(h:qO w r e)(hF:Fr w w' X)(hx:∀b aQ,w.heap[b]?=M (C aQ 114 (0,0))->¬X b):qO w' r e:=⟨h.1,h.2.1.fr hF hx,h.2.2.fr hF hx⟩
theorem fQ.fr (h:fQ w raw l)(hF:Fr w w' X)(hx:∀b aQ,w.heap[b]?=M (C aQ 114 (0,0))->¬X b):fQ w' raw l:=⟨h.1,fun i r e a b=>(h.2 i r e a b).fr hF hx⟩
theorem Te (hs:Eb w g S r):∀b aQ,w.heap[b]?=M (C aQ 114 (0,0))->¬b=g:=by
 intro b aQ hb e;obtain⟨i,-,-,h3⟩:=hs;subst e;exact eT hb h3 (lD (by decide))
theorem bF.og {l:List (Int×Int)}(h:bF w x l)(hs:Eb w g S r)(ho:Og w w' g):bF w' x l:=h.fr ho.1 (Te hs)
theorem fQ.og (h:fQ w raw l)(hs:Eb w g S r)(ho:Og w w' g):fQ w' raw l:=h.fr ho.1 (Te hs)
theorem fQ.snoc {r:fH}(h:fQ w raw l)(he:qO w r e):fQ w (raw++ [r]) (l++ [e]):=by
 obtain⟨h1,h2⟩:=h;refine⟨by simp[h1],fun i r' e' a b=>?_⟩;by_cases hi:i<raw.length
 ·rw[List.getElem?_append_left hi]at a;rw[List.getElem?_append_left (by omega)]at b;exact h2 i r' e' a b
 ·have rz:i=raw.length:=by
   have:=(List.getElem?_eq_some_iff.1 a).1;simp at this;omega
  subst rz;rw[List.getElem?_append_right (Nat.le_refl _)]at a;rw[List.getElem?_append_right (by omega),h1]at b;simp at a b;subst a b;exact he
theorem Yh.og {l:List fH}(h:Yh w B v l)(ho:Og w w' g)(hg:g<B):Yh w' B v l:=
 bO h ho.1 (fun b aQ hb _ e=>by have:=(World.ownsRow.lt h b hb).1;omega)
theorem XC (h:r.2=false):sD (k+1) size r=(((bM r).1,(eD size (bM r).2).1,(eD size (eD size (bM r).2).2).1)::(sD k size (eD size (eD size (bM r).2).2).2).1,(sD k size (eD size (eD size (bM r).2).2).2).2):=by
 rw[sD,if_neg (by rw[h];simp)]
def AQ (N k:Nat)(size:Int)(r0 rk:Sn)(out:List Ed):Prop:=out.length=k/\k<=N/\sD N size r0=(out++(sD (N-k) size rk).1,(sD (N-k) size rk).2)
theorem AQ.done {out:List Ed}(h:AQ N k size r0 rk out)(hd:N<=k\/rk.2=true):sD N size r0=(out,rk):=by
 obtain⟨h1,h2,h3⟩:=h;rw[h3];rcases hd with hd|hd
 ·rw[show N-k=0 from by omega];simp[sD]
 ·rw[pV _ _ _ hd];simp
theorem AQ.next {out:List Ed}(h:AQ N k size r0 rk out)(hk:k<N)(hb:rk.2=false):
 AQ N (k+1) size r0 (eD size (eD size (bM rk).2).2).2 (out++ [((bM rk).1,(eD size (bM rk).2).1,(eD size (eD size (bM rk).2).2).1)]):=by
 obtain⟨h1,h2,h3⟩:=h;refine⟨by simp[h1],by omega,?_⟩;rw[h3,show N-k=(N-(k+1))+1 from by omega,XC hb];simp
def xW (e:Ed):Ed:=(e.1,e.2.2,e.2.1)
theorem Et {l:List fH}:∀ {k:Nat} {r:fH},l[k]?=M r->(Iu l)[k*3]?=M (I V r.1)/\(Iu l)[k*3+1]?=M r.2.1.v/\(Iu l)[k*3+2]?=M r.2.2.v:=by
 induction l with
 |nil=>intro k r h;simp at h
 |cons e l ih=>
  intro k r h;cases k with
  |zero=>simp at h;subst h;rw[rY];simp
  |succ k=>
   simp at h;obtain⟨h1,h2,h3⟩:=ih h;rw[rY];refine⟨?_,?_,?_⟩
   ·rw[List.getElem?_append_right (by simp;omega)];simp only[List.length_cons,List.length_nil];rw[show(k+1)*3-(0+1+1+1)=k*3 from by omega];exact h1
   ·rw[List.getElem?_append_right (by simp;omega)];simp only[List.length_cons,List.length_nil];rw[show(k+1)*3+1-(0+1+1+1)=k*3+1 from by omega];exact h2
   ·rw[List.getElem?_append_right (by simp;omega)];simp only[List.length_cons,List.length_nil];rw[show(k+1)*3+2-(0+1+1+1)=k*3+2 from by omega];exact h3
theorem cO.nth {xo:Option Addr}{xn xc:Nat}(h:cO w (xo,xn,xc) l)(hk:l[k]?=M e):∃(b off:Nat) (r:fH),xo=M ⟨b,off,O⟩/\w.cell? ⟨b,off+k*3,O⟩=M (I V r.1)/\w.cell? ⟨b,off+k*3+1,O⟩=M r.2.1.v/\w.cell? ⟨b,off+k*3+2,O⟩=M r.2.2.v/\qO w r e:=by
 obtain⟨raw,h1,h2,h3,h4,h5⟩:=h;have bS:k<raw.length:=by rw[h4];exact(List.getElem?_eq_some_iff.1 hk).1
 obtain⟨r,hr⟩:∃r,raw[k]?=M r:=⟨_,List.getElem?_eq_getElem bS⟩;rcases h1.1 with hx|⟨b,off,hx,hc⟩
 ·rw[hx]at bS;simp at bS
 ·refine⟨b,off,r,hx,?_,?_,?_,h5 k r e hr hk⟩
  ·have:=hc (k*3) _ (Et hr).1;exact this
  ·exact hc (k*3+1) _ (Et hr).2.1
  ·exact hc (k*3+2) _ (Et hr).2.2
def mM (n:Int):List Ed->Bool
 | []=>true
 |e::l=>if e.1<0\/n-sz e.2.1<e.1 then false else if 5000<n+(sz e.2.2-sz e.2.1)then false else mM (n+(sz e.2.2-sz e.2.1)) l
def yZ (r:fH):fH:=(r.1,r.2.2,r.2.1)
theorem cO.yM (cZ:qU w B v raw)(h:fQ w raw l):∃x1 x2 x3,v=Z x1 x2 x3/\cO w (x1,x2,x3) l:=by
 obtain⟨ao,cap,rfl,hr,hn,hc⟩:=cZ.form;exact⟨ao,raw.length,cap,rfl,raw,hr,rfl,⟨hn,hc⟩,h.1,h.2⟩
theorem Tf (w:F)(e:fH):Xn (w.alloc (C #[I V e.1,e.2.1.v,e.2.2.v] 261)) (M ⟨w.heap.size,0,O⟩) [e]:=by
 obtain⟨ao,cap,h1,h2,-⟩:=qU.form (Zz w (Nat.le_refl _) e);cases h1
 exact h2
theorem AR {wr:F}{t:TypeId}{n:Nat}{cs:List Y}(hG:aK w wr)(hB:w.heap.size<=B)(cZ:wr.ownsRow B t n v k cs)(hg:(wr.alloc o).grownBy w5 v.ownBlock):aK w w5:=by
 have h1:=kX hg;refine⟨h1.os.trans hG.os,h1.tape.trans hG.tape,h1.output.trans hG.output,Nat.le_trans hG.size h1.size,fun k hk=>?_⟩;rw[<-hG.block k hk];refine h1.block k (Nat.lt_of_lt_of_le hk hG.size) (fun e=>?_);have:=(World.ownsRow.lt cZ k e.symm).1;omega
theorem II (h:cO w x l)(hl:l.length<=1000000):
 H K 189 #[x.v] w fun e w'=> ∃y1 y2 y3,e=G (Z y1 y2 y3)/\cO w' (y1,y2,y3) (l.map xW)/\aK w w':=by
 obtain⟨xo,xn,xc⟩:=x;obtain⟨raw,h1,h2,h3,h4,h5⟩:=h;simp only at h1 h2 h3;have SY:raw.length<=1000000:=by omega
 have HE:Hid (∀W,aK w W->fQ W (raw.map yZ) (l.map xW)):=fun W hW=>⟨by simp[h4],fun i r e a b=>by
  rw[List.getElem?_map]at a b;obtain⟨r0,Qn,rfl⟩:=Option.map_eq_some_iff.1 a;obtain⟨e0,uO,rfl⟩:=Option.map_eq_some_iff.1 b;have:=(h5 i r0 e0 Qn uO).aM hW;exact⟨this.1,this.2.2,this.2.1⟩⟩
 subst h2
 have HR:Hid (∀(k:Nat) (r:fH),raw[k]?=M r->∃b off,xo=M ⟨b,off,O⟩/\w.cell? ⟨b,off+k*3,O⟩=M (I V r.1)/\w.cell? ⟨b,off+k*3+1,O⟩=M r.2.1.v/\w.cell? ⟨b,off+k*3+2,O⟩=M r.2.2.v):=fun k r hr=>by
  rcases h1.1 with hx|⟨b,off,hx,hc⟩
  ·rw[hx]at hr;simp at hr
  ·obtain⟨e1,e2,e3⟩:=Et hr;exact⟨b,off,hx,hc _ _ e1,hc _ _ e2,hc _ _ e3⟩
 have HT:Hid (∀W (p:Int) (x y:dS),H K 235 #[.agg #[I V p,x.v,y.v]] W fun v w'=>v=G (.agg #[I V p,y.v,x.v])/\aK W w'):=fun W p x y=>Ho
 simp only[dS.v];clear h1 h3 h4 h5;obtain⟨i0,hi,uZ,wE,xZ⟩:=info_parts Tryz.infoEdD;go_enter Tryz.func189,Tryz.ntmps189
 go_upto_region 2 with(at_make;refine wpList_make_own _ rfl _ _ 103 rfl w.heap.size 261 i0 _ 3 Tryz.underlying103 hi uZ wE _ _ _ raw.length rfl rfl (by omega) (by rw[xZ];omega) (by unfold maxLen;omega) (Nat.le_refl _) ?_;intro w0 xV oQ)
 have uf:Hid (aK w w0):=⟨oQ.os,oQ.tape,oQ.output,oQ.size,fun k hk=>oQ.block k hk (by simp)⟩;have HO0:Hid (qU w0 w.heap.size (Z (M ⟨w.heap.size,0,O⟩) 0 raw.length) []):=xV;clear xV oQ
 go_wp2_with fail
 go_loopw [3,5,11] (fun v _ i wr=> ∃k:Nat,k<=raw.length/\i=I V (k:Int)/\Hid (qU wr w.heap.size v ((raw.take k).map yZ))/\Hid (aK w wr)) (fun _ _ i _=>raw.length-(intOf i).toNat)
 case atStart=>exact⟨0,Nat.zero_le _,rfl,by simpa using HO0,uf⟩
 case round=>
  obtain⟨k,hk,rfl,HO,HG⟩:=hrel;by_cases bS:k<raw.length
  ·obtain⟨r,hr⟩:∃r,raw[k]?=M r:=⟨_,List.getElem?_eq_getElem bS⟩;obtain⟨b,off,rfl,d1,d2,d3⟩:=HR.out k r hr;have d1:=HG.out.cell d1;have d2:=HG.out.cell d2;have d3:=HG.out.cell d3;have i1:(0:Int)<=(k:Int):=by omega
   have i2:(k:Int)<(raw.length:Int):=by omega
   have HN:Hid ((raw.take (k+1)).map yZ=(raw.take k).map yZ++ [yZ r]):=by
    show _=_;obtain⟨GD,he⟩:=List.getElem?_eq_some_iff.1 hr;rw[List.take_succ_eq_append_getElem GD,List.map_append,he];rfl
   obtain⟨xU,jT,ev,-⟩:=qU.form HO.out;rw[show((raw.take k).map yZ).length=k from by simp;omega]at ev;subst ev;have hll:((raw.take k).map yZ).length<=1000000:=by simp;omega
   obtain⟨r1,⟨x1,x2,x3⟩,⟨y1,y2,y3⟩⟩:=r;simp only[dS.v]at d2 d3;have HT2:=HT.out (wr.alloc (C #[I V r1,Z x1 x2 x3,Z y1 y2 y3] 261)) r1 (x1,x2,x3) (y1,y2,y3);simp only[dS.v]at HT2
   have HK:Hid (∀w4,aK (wr.alloc (C #[I V r1,Z x1 x2 x3,Z y1 y2 y3] 261)) w4->qU (w4.alloc (C #[I V r1,Z y1 y2 y3,Z x1 x2 x3] 261)) w.heap.size (Z xU k jT) ((raw.take k).map yZ)/\aK w w4/\qU w4 w.heap.size (Z xU k jT) ((raw.take k).map yZ)):=fun w4 h4=>by
    have hg:=((aK.refl wr).alloc _).then h4;have ho:qU w4 w.heap.size (Z xU k jT) ((raw.take k).map yZ):=bO HO.out (Fr.bT hg (fun _=>False)) (fun _ _ _ _ h=>h);exact⟨World.ownsRow.alloc ho _,HG.out.then hg,ho⟩
   clear hr HO HT
   go_upto_region 5 with fail
   obtain⟨q0,q1,q2,-⟩:=gD (heap_alloc_new wr (C #[I V r1,Z x1 x2 x3,Z y1 y2 y3] 261));generalize (wr.alloc (C #[I V r1,Z x1 x2 x3,Z y1 y2 y3] 261))=wq at*
   go_wp2_with (first
    |(go_at_call 235;refine HT2.mono ?_;rintro e w4 ⟨rfl,lS⟩;obtain⟨k1,k2,k3⟩:=HK.out w4 lS;have hk4:=k2.le)
    |(at_builtin;go_must (refine uN (by rfl) (.tmp 15) (.tmp 18) (by rfl) w.heap.size _ ((raw.take k).map yZ) [(r1,(y1,y2,y3),(x1,x2,x3))] (by rfl) (by exact k1) _ _ _ (by rfl) (by rfl) (by intro e;cases e) (by exact Tf w4 (r1,(y1,y2,y3),(x1,x2,x3))) (by simp only[List.length_singleton];omega) (by simp;omega) ?_);intro v5 w5 lH dY))
   have Va:aK w w5:=AR k2 (Nat.le_refl _) k3 dY;go_roundw
   case rel=>exact⟨k+1,by omega,by go_num,by show qU _ _ _ _;rw[HN.out];exact lH,Va⟩
   case measure=>simp[intOf];omega
  ·obtain⟨xU,jT,ev,-⟩:=qU.form HO.out;subst ev;have e1:raw.take k=raw:=List.take_of_length_le (by omega)
   go_wp2_with fail
   go_ret;have ho:=HO.out;rw[e1]at ho;obtain⟨z1,z2,z3,he,hE⟩:=cO.yM ho (HE.out _ HG.out);cases he
   first|exact⟨_,_,_,rfl,hE,HG.out⟩|(rw[e1];exact⟨_,_,_,rfl,hE,HG.out⟩)
theorem Kt:∀ {n:Int},(∀e∈l,0<=e.1)->mM n l=oG (l.map lK) n:=by
 induction l with
 |nil=>intro n _;rfl
 |cons e l ih=>
  intro n h;have h0:=h e (by simp);rw[List.map_cons,lK,oG,mM];by_cases h1:n<e.1+sz e.2.1
  ·rw[if_pos h1,if_pos (by omega)]
  ·rw[if_neg h1,if_neg (by omega)];have e2:n+(sz e.2.2-sz e.2.1)=n-sz e.2.1+sz e.2.2:=by omega
   rw[e2,ih (fun e' Dw=>h e' (by simp[Dw]))]
theorem QG {n:Int}(h:l[k]?=M e):mM n (l.drop k)=if e.1<0\/n-sz e.2.1<e.1 then false else if 5000<n+(sz e.2.2-sz e.2.1)then false else mM (n+(sz e.2.2-sz e.2.1)) (l.drop (k+1)):=by
 obtain⟨bS,he⟩:=List.getElem?_eq_some_iff.1 h;rw[List.drop_eq_getElem_cons bS,he,mM]
theorem MG {n:Int}(h:cO w x l)(hl:l.length<=1000000)(Uj:0<=n)(hn:n<=5000)(ho:∀e∈l,dX e.2.1/\dX e.2.2/\e.2.1.length<=10000/\e.2.2.length<=10000):
 H K 188 #[I V n,x.v] w fun e w'=>e=G (.bool (mM n l))/\aK w w':=by
 obtain⟨xo,xn,xc⟩:=x;have hlen:=h.len;simp only at hlen;have HR:Hid (∀(k:Nat) (e:Ed),l[k]?=M e->∃(b off:Nat) (r:fH),xo=M ⟨b,off,O⟩/\w.cell? ⟨b,off+k*3,O⟩=M (I V r.1)/\w.cell? ⟨b,off+k*3+1,O⟩=M r.2.1.v/\w.cell? ⟨b,off+k*3+2,O⟩=M r.2.2.v/\qO w r e):=fun k e he=>h.nth he
 have HB:Hid (∀W (x:dS) (l:List (Int×Int)),bF W x l->dX l->l.length<=10000->H K 187 #[x.v] W fun e w'=>e=G (I V (sz l))/\aK W w'):=fun W x l h1 h2 h3=>rO h1 h2 (by omega)
 have HOK:Hid (∀e∈l,(dX e.2.1/\dX e.2.2/\e.2.1.length<=10000/\e.2.2.length<=10000)/\(0<=sz e.2.1/\sz e.2.1<=100000000)/\(0<=sz e.2.2/\sz e.2.2<=100000000)):=fun e he=>by
  obtain⟨a,b,c,d⟩:=ho e he;have b1:=kK a e.2.1.length;have b2:=kK b e.2.2.length;rw[List.take_length]at b1 b2;exact⟨⟨a,b,c,d⟩,⟨nW a,by omega⟩,⟨nW b,by omega⟩⟩
 subst hlen;simp only[dS.v];clear h ho;go_enter Tryz.func188,Tryz.ntmps188
 go_wp2_with fail
 go_loopw [0,6,7,10] (fun c _ _ i wr=> ∃(k:Nat) (nk:Int),k<=l.length/\c=I V nk/\i=I V (k:Int)/\(0<=nk/\nk<=5000)/\Hid (mM n l=mM nk (l.drop k))/\Hid (aK w wr)) (fun _ _ _ i _=>l.length-(intOf i).toNat)
 case atStart=>exact⟨0,n,Nat.zero_le _,rfl,rfl,⟨Uj,hn⟩,rfl,aK.refl w⟩
 case round=>
  obtain⟨k,nk,hk,rfl,rfl,⟨hk0,TA⟩,HF,HG⟩:=hrel;by_cases bS:k<l.length
  ·obtain⟨e,he⟩:∃e,l[k]?=M e:=⟨_,List.getElem?_eq_getElem bS⟩;obtain⟨b,off,r,rfl,d1,d2,d3,Ji⟩:=HR.out k e he;have d1:=HG.out.cell d1;have d2:=HG.out.cell d2;have d3:=HG.out.cell d3;have i1:(0:Int)<=(k:Int):=by omega
   have i2:(k:Int)<(l.length:Int):=by omega
   obtain⟨⟨o1,o2,o3,o4⟩,⟨s1,s2⟩,⟨s3,s4⟩⟩:=HOK.out e (List.mem_of_getElem? he);have hF:=HF.out;rw[QG he]at hF;have Xp:Hid (∀W,aK wr W->H K 187 #[r.2.1.v] W fun e' w'=>e'=G (I V (sz e.2.1))/\aK W w'):=fun W hW=>HB.out W _ _ ((Ji.2.1.aM HG.out).aM hW) o1 o3
   have Jt:Hid (∀W,aK wr W->H K 187 #[r.2.2.v] W fun e' w'=>e'=G (I V (sz e.2.2))/\aK W w'):=fun W hW=>HB.out W _ _ ((Ji.2.2.aM HG.out).aM hW) o2 o4
   have WW:=Ji.1;obtain⟨r1,⟨x1,x2,x3⟩,⟨y1,y2,y3⟩⟩:=r;simp only at WW;subst WW;simp only[dS.v]at d2 d3 Xp Jt;have QH:Hid (mM n l=if e.1<0\/nk-sz e.2.1<e.1 then false else if 5000<nk+(sz e.2.2-sz e.2.1)then false else mM (nk+(sz e.2.2-sz e.2.1)) (l.drop (k+1))):=hF;generalize sz e.2.1=sa at*;generalize sz e.2.2=sb at*;generalize e.1=p at*;clear hF HF he Ji HB HOK o1 o2 o3 o4
   go_upto_region 4 with fail
   have Ad:=heap_alloc_new wr (C #[I V p,Z x1 x2 x3,Z y1 y2 y3] 261);have hGa:Hid (aK wr (wr.alloc (C #[I V p,Z x1 x2 x3,Z y1 y2 y3] 261))):=(aK.refl wr).alloc _;generalize (wr.alloc (C #[I V p,Z x1 x2 x3,Z y1 y2 y3] 261))=wq at*
   have HC:Hid (∀W,aK wq W->W.cell? ⟨wr.heap.size,0,O⟩=M (I V p)/\W.cell? ⟨wr.heap.size,1,O⟩=M (Z x1 x2 x3)/\W.cell? ⟨wr.heap.size,2,O⟩=M (Z y1 y2 y3)):=fun W hW=>by
    obtain⟨a,b,c,-⟩:=gD ((hW.block _ (aL Ad)).trans Ad);exact⟨a,b,c⟩
   obtain⟨q0,q1,q2⟩:=HC.out wq (aK.refl wq);have bX:=Xp.out wq hGa.out;clear Ad;by_cases c1:p<0\/nk-sa<p
   ·have TB:Hid (mM n l=false):=by show _=_;rw[QH.out,if_pos c1]
    clear QH
    go_upto_region 5 with(go_at_call 187;refine bX.mono ?_;rintro e' w4 ⟨rfl,lS⟩;obtain⟨z0,z1,z2⟩:=HC.out w4 lS)
    by_cases c2:p<0
    ·go_wp2_with fail
     go_ret;exact⟨by first|(rw[TB.out];done)|(rw[TB.out];rfl),HG.out.then (hGa.out.then lS)⟩
    ·have c3:nk-sa<p:=by omega
     have c4:wrap64 (nk-sa)=nk-sa:=by unfold wrap64;omega
     go_wp2_with fail
     go_ret;exact⟨by first|(rw[TB.out];done)|(rw[TB.out];rfl),HG.out.then (hGa.out.then lS)⟩
   ·have c2:¬p<0:=by omega
    have c3:¬nk-sa<p:=by omega
    have c5:nk-sa+sb=nk+(sb-sa):=by omega
    by_cases c6:5000<nk+(sb-sa)
    ·have TB:Hid (mM n l=false):=by show _=_;rw[QH.out,if_neg c1,if_pos c6]
     clear QH c1
     go_wp2_with (first|(go_at_call 187;refine bX.mono ?_;rintro e' w4 ⟨rfl,lS⟩;obtain⟨z0,z1,z2⟩:=HC.out w4 lS;have fG:=Jt.out w4 (hGa.out.then lS);clear bX)|(go_at_call 187;refine fG.mono ?_;rintro e' w5 ⟨rfl,dY⟩))
     go_ret;exact⟨by first|(rw[TB.out];done)|(rw[TB.out];rfl),HG.out.then (hGa.out.then (lS.then dY))⟩
    ·have TB:Hid (mM n l=mM (nk+(sb-sa)) (l.drop (k+1))):=by show _=_;rw[QH.out,if_neg c1,if_neg c6]
     have c7:0<=nk+(sb-sa):=by omega
     have c8:nk+(sb-sa)<=5000:=by omega
     clear QH c1
     go_wp2_with (first|(go_at_call 187;refine bX.mono ?_;rintro e' w4 ⟨rfl,lS⟩;obtain⟨z0,z1,z2⟩:=HC.out w4 lS;have fG:=Jt.out w4 (hGa.out.then lS);clear bX)|(go_at_call 187;refine fG.mono ?_;rintro e' w5 ⟨rfl,dY⟩))
     go_roundw
     case rel=>exact⟨k+1,nk+(sb-sa),by omega,by go_num,by go_num,⟨c7,c8⟩,TB,(show aK w _ from HG.out.then (hGa.out.then (lS.then dY)))⟩
     case measure=>simp[intOf];omega
  ·have e1:l.drop k=[]:=List.drop_eq_nil_of_le (by omega);have TB:Hid (mM n l=true):=by show _=_;rw[HF.out,e1];rfl
   clear HF e1
   go_wp2_with fail
   go_ret;exact⟨by first|(rw[TB.out];done)|(rw[TB.out];rfl),HG.out⟩
end Go.Proofs.YtfplgfodoiiobaaGreatDoor
