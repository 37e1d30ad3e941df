/- DrI, DrJ, DrK (joined). -/
import Derived.Laws.EntriesVeiled
import Derived.Test.YtfplgfodoiiobaaGreatDoorJ16
open Option renaming none→O,some→M
open Go.Value renaming int→I,slice→Z,pointer→U
open Go.IntKind renaming i64→V
open Go.Obj renaming cells→C
open Go.Ending renaming returned→G
open Go renaming World→F,Value→Y,Calls→H
open Go.Proofs.Tryz renaming prog→K
namespace Go.Proofs.YtfplgfodoiiobaaGreatDoor
set_option maxHeartbeats 4000000
set_option maxRecDepth 100000
open Go.RowKit
variable {w:F}{dp g tb depth J fm fd:Nat}{q a b c most:Int}{lb:Array Y}{m:bT}{e:Ed}
theorem uX.tx {w':F}{r:iB}(hd:aQ w dp tb depth m)(h:uX w r e)(hK:Dk w w' (TX dp tb) (TX dp tb)):uX w' r e:=⟨h.1,h.2.1.tx hd hK,h.2.2.tx hd hK⟩
theorem XI {rest:List Ed}(h:aQ w dp tb depth m)(hm:m.2.1=e::rest)(hd:depth<=100)(TS:m.2.2.1.length<=100)(hz:sz m.1<=5000)(hf:Bz (sz m.1) e.1 e.2.2 e.2.1)(h9:∀q∈e.2.1,q.1<=1000000000)(hr:(cB (bY m.1 e.1 (sz e.2.2)).1 e.1 e.2.1).length<=4096):
 H K 206 #[U (M ⟨dp,0,O⟩),fQ q a b c] w fun v w'=>v=G (.tuple #[])/\aQ w' dp tb depth (cB (bY m.1 e.1 (sz e.2.2)).1 e.1 e.2.1,rest,(e::m.2.2.1).take depth,m.2.2.2.1,m.2.2.2.2)/\Dk w w' (TX dp tb) (TX dp tb):=by
 obtain⟨f1,f2,f3,f4,f5,f6⟩:=hf;have bV:=h.lt
 have HA:Hid (∀W (x y:gN),aQ W dp tb depth (m.1,rest,m.2.2)->bI W x e.2.2->bI W y e.2.1->H K 180 #[U (M ⟨dp,0,O⟩),.agg #[I V e.1,x.v,y.v]] W fun v w'=> ∃g1 g2 g3,v=G (Z g1 g2 g3)/\aQ w' dp tb depth (cB (bY m.1 e.1 (sz e.2.2)).1 e.1 e.2.1,rest,m.2.2)/\Dk W w' (TX dp tb) (TX dp tb)):=fun W x y hD hx hy=>by
  refine(wK (p:=e.1) hD hx hy f3 (by omega) f4 h9 (by omega) f1 f2 (by simp only;omega) hr).mono ?_;rintro v w' ⟨⟨g1,g2,g3⟩,rfl,hL,hD',hK,-⟩;exact⟨g1,g2,g3,rfl,hD',hK⟩
 have HP:Hid (∀W (r:iB),aQ W dp tb depth (cB (bY m.1 e.1 (sz e.2.2)).1 e.1 e.2.1,rest,m.2.2)->uX W r e->∃(s1:Option Addr) (s2 s3:Nat),W.cell? ⟨dp,0,O⟩=M (I V (depth:Int))/\W.cell? ⟨dp,4,O⟩=M (Z s1 s2 s3)/\∀W',aJ W W'->H K 245 #[.agg #[I V r.1,r.2.1.v,r.2.2.v],Z s1 s2 s3,I V (depth:Int)] W' fun v w'=> ∃y1 y2 y3,v=G (Z y1 y2 y3)/\w'.cell? ⟨dp,4,O⟩=M (Z s1 s2 s3)/\w'.frozen? ⟨dp,4,O⟩=false/\aQ (w'.setCell ⟨dp,4,O⟩ (Z y1 y2 y3)) dp tb depth (cB (bY m.1 e.1 (sz e.2.2)).1 e.1 e.2.1,rest,(e::m.2.2.1).take depth,m.2.2.2.1,m.2.2.2.2)/\Dk W (w'.setCell ⟨dp,4,O⟩ (Z y1 y2 y3)) (TX dp tb) (TX dp tb)):=fun W r hD he=>by
  obtain⟨u,⟨s1,s2,s3⟩,hb,ht,hu,hr⟩:=hD;obtain⟨d0,-,-,-,d4,-⟩:=bL hb;refine⟨s1,s2,s3,d0,d4,fun W' hW=>?_⟩;refine(Dj (he.aM hW) (hr.aM hW) (by simp only;omega) (by omega)).mono ?_;rintro v w' ⟨⟨y1,y2,y3⟩,rfl,hE,hg⟩;have yT:=hW.then hg;have pR:=(yT.block _ (aK hb)).trans hb;obtain⟨-,-,-,-,d4',-,-,df⟩:=bL pR;refine⟨y1,y2,y3,rfl,d4',df 4,?_,(Dk.bH yT).set (Or.inl rfl)⟩;exact aQ.put pR ((oD pR).2.1 (y1,y2,y3)) (ht.below yT) (hu.aM yT) hE
 have HT:Hid (∀W (p:Int) (x y:gN),H K 235 #[.agg #[I V p,x.v,y.v]] W fun v w'=>v=G (.agg #[I V p,y.v,x.v])/\aJ W w'):=fun W p x y=>Jk
 obtain⟨⟨u1,u2,u3⟩,r,hb,ht,hu,GJ⟩:=h;rw[hm]at hu;obtain⟨eb,qB,er,rfl,Uk,gX,e0,e1,e2,Lj⟩:=hu.head;have Zc:=hu.tail;obtain⟨-,-,-,d3,-,-,-,df⟩:=bL hb;have f3':=df 3;have kL:aJ w ((w.alloc (C #[I .u8 q,I V a,I V b,I V c] 99)).alloc (C #[I V er.1,er.2.1.v,er.2.2.v] 261)):=((aJ.refl w).alloc _).alloc _
 have HS:Hid (∀(w2:F),aJ w w2->w2.heap[w.heap.size+1]?=M (C #[I V er.1,er.2.1.v,er.2.2.v] 261 (0,0))->aQ (w2.setCell ⟨dp,3,O⟩ (Z (if u3=1 then M ⟨eb,qB,O⟩else M ⟨eb,qB+3,O⟩) rest.length (u3-1))) dp tb depth (m.1,rest,m.2.2)/\uX (w2.setCell ⟨dp,3,O⟩ (Z (if u3=1 then M ⟨eb,qB,O⟩else M ⟨eb,qB+3,O⟩) rest.length (u3-1))) er e/\Dk w (w2.setCell ⟨dp,3,O⟩ (Z (if u3=1 then M ⟨eb,qB,O⟩else M ⟨eb,qB+3,O⟩) rest.length (u3-1))) (TX dp tb) (TX dp tb)/\(w2.setCell ⟨dp,3,O⟩ (Z (if u3=1 then M ⟨eb,qB,O⟩else M ⟨eb,qB+3,O⟩) rest.length (u3-1))).heap[w.heap.size+1]?=M (C #[I V er.1,er.2.1.v,er.2.2.v] 261 (0,0))):=fun w2 hg ho=>by
  have fP:=(hg.block _ (aK hb)).trans hb;obtain⟨k1,k2,k3⟩:=uJ (i:=3) (v:=Z (if u3=1 then M ⟨eb,qB,O⟩else M ⟨eb,qB+3,O⟩) rest.length (u3-1)) fP;refine⟨aQ.put fP ((oD fP).1 (_,_,_)) (ht.below hg) (Zc.aM hg) (GJ.aM hg),⟨Lj.1,k2 _ _ (Lj.2.1.aM hg),k2 _ _ (Lj.2.2.aM hg)⟩,(Dk.bH hg).set (Or.inl rfl),?_⟩;exact(Fr.set w2 ⟨dp,3,O⟩ _).at ho (by simp only;omega)
 have au:=Lj.1;obtain⟨ep,⟨x1,x2,x3⟩,⟨y1,y2,y3⟩⟩:=er;simp only at au;subst au Uk;unfold fQ at*;simp only[gN.v]at d3 e0 e1 e2 kL HS;have qQ:Hid (aJ w ((w.alloc (C #[I .u8 q,I V a,I V b,I V c] 99)).alloc (C #[I V e.1,Z x1 x2 x3,Z y1 y2 y3] 261))):=kL;have ga:=(aJ.refl w).alloc (C #[I .u8 q,I V a,I V b,I V c] 99);have d3a:=ga.cell d3;have e0a:=ga.cell e0;have e1a:=ga.cell e1;have e2a:=ga.cell e2;have d3b:=kL.cell d3;have fr1:((w.alloc (C #[I .u8 q,I V a,I V b,I V c] 99)).alloc (C #[I V e.1,Z x1 x2 x3,Z y1 y2 y3] 261)).frozen? ⟨dp,3,O⟩=false:=(bL ((kL.block _ (aK hb)).trans hb)).2.2.2.2.2.2.2 3;have j1:(0:Int)<((rest.length+1:Nat):Int):=by omega
 have j1':(0:Int)<(rest.length:Int)+1:=by omega
 have j2':(1:Int)<=(rest.length:Int)+1:=by omega
 clear hb ht hu GJ Zc Lj ga;go_enter Tryz.func206,Tryz.ntmps206
 go_upto_region 2 with fail
 have fP:=heap_alloc_new (w.alloc (C #[I .u8 q,I V a,I V b,I V c] 99)) (C #[I V e.1,Z x1 x2 x3,Z y1 y2 y3] 261);rw[World.size_alloc]at fP;clear d3a e0a e1a e2a kL d3 e0 e1 e2 f3' df;generalize ((w.alloc (C #[I .u8 q,I V a,I V b,I V c] 99)).alloc (C #[I V e.1,Z x1 x2 x3,Z y1 y2 y3] 261))=w2 at*
 go_upto_region 3 with fail
 generalize (if u3=1 then M (⟨eb,qB,O⟩:Addr)else M ⟨eb,qB+3,O⟩)=ts at*;obtain⟨q1,q2,q3,q4⟩:=HS.out _ qQ.out fP;clear d3b fr1 qQ HS fP;generalize (w2.setCell ⟨dp,3,O⟩ (Z ts rest.length (u3-1)))=w3 at*;obtain⟨k0,k1,k2,-⟩:=gF q4;have HT2:=HT.out w3 e.1 (x1,x2,x3) (y1,y2,y3);have ai:Hid (∀W,aJ w3 W->_):=fun W hW=>HA.out W (y1,y2,y3) (x1,x2,x3) (q1.aM hW) (q2.2.2.aM hW) (q2.2.1.aM hW)
 simp only[gN.v]at HT2 ai
 have ol:Hid (∀w4 w5,aJ w3 w4->Dk w4 w5 (TX dp tb) (TX dp tb)->aQ w5 dp tb depth (cB (bY m.1 e.1 (sz e.2.2)).1 e.1 e.2.1,rest,m.2.2)->∃(s1:Option Addr) (s2 s3:Nat),w5.cell? ⟨dp,0,O⟩=M (I V (depth:Int))/\w5.cell? ⟨dp,4,O⟩=M (Z s1 s2 s3)/\w5.cell? ⟨w.heap.size+1,0,O⟩=M (I V e.1)/\w5.cell? ⟨w.heap.size+1,1,O⟩=M (Z x1 x2 x3)/\w5.cell? ⟨w.heap.size+1,2,O⟩=M (Z y1 y2 y3)/\∀W',aJ w5 W'->H K 245 #[.agg #[I V e.1,Z x1 x2 x3,Z y1 y2 y3],Z s1 s2 s3,I V (depth:Int)] W' fun v w'=> ∃y1 y2 y3,v=G (Z y1 y2 y3)/\w'.cell? ⟨dp,4,O⟩=M (Z s1 s2 s3)/\w'.frozen? ⟨dp,4,O⟩=false/\aQ (w'.setCell ⟨dp,4,O⟩ (Z y1 y2 y3)) dp tb depth (cB (bY m.1 e.1 (sz e.2.2)).1 e.1 e.2.1,rest,(e::m.2.2.1).take depth,m.2.2.2.1,m.2.2.2.2)/\Dk w (w'.setCell ⟨dp,4,O⟩ (Z y1 y2 y3)) (TX dp tb) (TX dp tb)):=fun w4 w5 hg hK hD=>by
  obtain⟨s1,s2,s3,c0,c4,hc⟩:=HP.out w5 (e.1,(x1,x2,x3),(y1,y2,y3)) hD ((q2.aM hg).tx (q1.aM hg) hK);have rG:=hK.1.at ((hg.block _ (aK q4)).trans q4) (by rintro(e|e)<;>omega);obtain⟨b0,b1,b2,-⟩:=gF rG;refine⟨s1,s2,s3,c0,c4,b0,b1,b2,fun W' hW=>(hc W' hW).mono ?_⟩;rintro v w' ⟨y1,y2,y3,rfl,r1,r2,r3,r4⟩;exact⟨y1,y2,y3,rfl,r1,r2,r3,(q3.trans ((Dk.bH hg).trans hK)).trans r4⟩
 clear q1 q2 q3 q4 HP HA HT
 go_upto_region 4 with(first|(go_at_call 235;refine HT2.mono ?_;rintro v w4 ⟨rfl,mO⟩)|(go_at_call 180;refine(ai.out w4 mO).mono ?_;rintro v w5 ⟨g1,g2,g3,rfl,hD5,hK5⟩))
 obtain⟨s1,s2,s3,c0,c4,b0,b1,b2,hc⟩:=ol.out w4 w5 mO hK5 hD5;have HC:Hid (∀W',aJ w5 W'->_):=hc;clear hc k0 k1 k2 ol ai HT2 hD5 hK5
 go_region_law ((refine bM (by rfl) 245 _ _ (by rfl) _ (by simp[Act.eval];done) Qa ((HC.out _ (by repeat (first|exact aJ.refl _|refine aJ.drew ?_))).mono ?_);rintro v w7 ⟨z1,z2,z3,rfl,m4,mf4,hD,hK⟩;refine⟨_,rfl,?_⟩))
 all_goals go_wp2_with fail
 all_goals go_end0
 all_goals exact⟨rfl,hD,hK⟩
theorem XJ {rest:List Ed}(h:aQ w dp tb depth m)(hm:m.2.2.1=e::rest)(hd:depth<=100)(TS:m.2.1.length<=100)(hz:sz m.1<=5000)(hf:Bz (sz m.1) e.1 e.2.1 e.2.2)(h9:∀q∈e.2.2,q.1<=1000000000)(hr:(cB (bY m.1 e.1 (sz e.2.1)).1 e.1 e.2.2).length<=4096):
 H K 208 #[U (M ⟨dp,0,O⟩),fQ q a b c] w fun v w'=>v=G (.tuple #[])/\aQ w' dp tb depth (cB (bY m.1 e.1 (sz e.2.1)).1 e.1 e.2.2,(e::m.2.1).take depth,rest,m.2.2.2.1,m.2.2.2.2)/\Dk w w' (TX dp tb) (TX dp tb):=by
 obtain⟨f1,f2,f3,f4,f5,f6⟩:=hf;have bV:=h.lt
 have HA:Hid (∀W (x y:gN),aQ W dp tb depth (m.1,m.2.1,rest,m.2.2.2)->bI W x e.2.1->bI W y e.2.2->H K 180 #[U (M ⟨dp,0,O⟩),.agg #[I V e.1,x.v,y.v]] W fun v w'=> ∃g1 g2 g3,v=G (Z g1 g2 g3)/\aQ w' dp tb depth (cB (bY m.1 e.1 (sz e.2.1)).1 e.1 e.2.2,m.2.1,rest,m.2.2.2)/\Dk W w' (TX dp tb) (TX dp tb)):=fun W x y hD hx hy=>by
  refine(wK (p:=e.1) hD hx hy f3 (by omega) f4 h9 (by omega) f1 f2 (by simp only;omega) hr).mono ?_;rintro v w' ⟨⟨g1,g2,g3⟩,rfl,hL,hD',hK,-⟩;exact⟨g1,g2,g3,rfl,hD',hK⟩
 have HP:Hid (∀W (r:iB),aQ W dp tb depth (cB (bY m.1 e.1 (sz e.2.1)).1 e.1 e.2.2,m.2.1,rest,m.2.2.2)->uX W r e->∃(s1:Option Addr) (s2 s3:Nat),W.cell? ⟨dp,0,O⟩=M (I V (depth:Int))/\W.cell? ⟨dp,3,O⟩=M (Z s1 s2 s3)/\∀W',aJ W W'->H K 245 #[.agg #[I V r.1,r.2.1.v,r.2.2.v],Z s1 s2 s3,I V (depth:Int)] W' fun v w'=> ∃y1 y2 y3,v=G (Z y1 y2 y3)/\w'.cell? ⟨dp,3,O⟩=M (Z s1 s2 s3)/\w'.frozen? ⟨dp,3,O⟩=false/\aQ (w'.setCell ⟨dp,3,O⟩ (Z y1 y2 y3)) dp tb depth (cB (bY m.1 e.1 (sz e.2.1)).1 e.1 e.2.2,(e::m.2.1).take depth,rest,m.2.2.2.1,m.2.2.2.2)/\Dk W (w'.setCell ⟨dp,3,O⟩ (Z y1 y2 y3)) (TX dp tb) (TX dp tb)):=fun W r hD he=>by
  obtain⟨⟨s1,s2,s3⟩,r',hb,ht,hr,hu⟩:=hD;obtain⟨d0,-,-,d4,-⟩:=bL hb;refine⟨s1,s2,s3,d0,d4,fun W' hW=>?_⟩;refine(Dj (he.aM hW) (hr.aM hW) (by simp only;omega) (by omega)).mono ?_;rintro v w' ⟨⟨y1,y2,y3⟩,rfl,hE,hg⟩;have yT:=hW.then hg;have pR:=(yT.block _ (aK hb)).trans hb;obtain⟨-,-,-,d4',-,-,-,df⟩:=bL pR;refine⟨y1,y2,y3,rfl,d4',df 3,?_,(Dk.bH yT).set (Or.inl rfl)⟩;exact aQ.put pR ((oD pR).1 (y1,y2,y3)) (ht.below yT) hE (hu.aM yT)
 obtain⟨r,⟨u1,u2,u3⟩,hb,ht,GJ,hu⟩:=h;rw[hm]at hu;obtain⟨eb,qB,er,rfl,Uk,gX,e0,e1,e2,Lj⟩:=hu.head;have Zc:=hu.tail;obtain⟨-,-,-,-,d3,-,-,df⟩:=bL hb;have f3':=df 4;have kL:aJ w ((w.alloc (C #[I .u8 q,I V a,I V b,I V c] 99)).alloc (C #[I V er.1,er.2.1.v,er.2.2.v] 261)):=((aJ.refl w).alloc _).alloc _
 have HS:Hid (∀(w2:F),aJ w w2->w2.heap[w.heap.size+1]?=M (C #[I V er.1,er.2.1.v,er.2.2.v] 261 (0,0))->aQ (w2.setCell ⟨dp,4,O⟩ (Z (if u3=1 then M ⟨eb,qB,O⟩else M ⟨eb,qB+3,O⟩) rest.length (u3-1))) dp tb depth (m.1,m.2.1,rest,m.2.2.2)/\uX (w2.setCell ⟨dp,4,O⟩ (Z (if u3=1 then M ⟨eb,qB,O⟩else M ⟨eb,qB+3,O⟩) rest.length (u3-1))) er e/\Dk w (w2.setCell ⟨dp,4,O⟩ (Z (if u3=1 then M ⟨eb,qB,O⟩else M ⟨eb,qB+3,O⟩) rest.length (u3-1))) (TX dp tb) (TX dp tb)/\(w2.setCell ⟨dp,4,O⟩ (Z (if u3=1 then M ⟨eb,qB,O⟩else M ⟨eb,qB+3,O⟩) rest.length (u3-1))).heap[w.heap.size+1]?=M (C #[I V er.1,er.2.1.v,er.2.2.v] 261 (0,0))):=fun w2 hg ho=>by
  have fP:=(hg.block _ (aK hb)).trans hb;obtain⟨k1,k2,k3⟩:=uJ (i:=4) (v:=Z (if u3=1 then M ⟨eb,qB,O⟩else M ⟨eb,qB+3,O⟩) rest.length (u3-1)) fP;refine⟨aQ.put fP ((oD fP).2.1 (_,_,_)) (ht.below hg) (GJ.aM hg) (Zc.aM hg),⟨Lj.1,k2 _ _ (Lj.2.1.aM hg),k2 _ _ (Lj.2.2.aM hg)⟩,(Dk.bH hg).set (Or.inl rfl),?_⟩;exact(Fr.set w2 ⟨dp,4,O⟩ _).at ho (by simp only;omega)
 have au:=Lj.1;obtain⟨ep,⟨x1,x2,x3⟩,⟨y1,y2,y3⟩⟩:=er;simp only at au;subst au Uk;unfold fQ at*;simp only[gN.v]at d3 e0 e1 e2 kL HS;have qQ:Hid (aJ w ((w.alloc (C #[I .u8 q,I V a,I V b,I V c] 99)).alloc (C #[I V e.1,Z x1 x2 x3,Z y1 y2 y3] 261))):=kL;have ga:=(aJ.refl w).alloc (C #[I .u8 q,I V a,I V b,I V c] 99);have d3a:=ga.cell d3;have e0a:=ga.cell e0;have e1a:=ga.cell e1;have e2a:=ga.cell e2;have d3b:=kL.cell d3;have fr1:((w.alloc (C #[I .u8 q,I V a,I V b,I V c] 99)).alloc (C #[I V e.1,Z x1 x2 x3,Z y1 y2 y3] 261)).frozen? ⟨dp,4,O⟩=false:=(bL ((kL.block _ (aK hb)).trans hb)).2.2.2.2.2.2.2 4;have j1:(0:Int)<((rest.length+1:Nat):Int):=by omega
 have j1':(0:Int)<(rest.length:Int)+1:=by omega
 have j2':(1:Int)<=(rest.length:Int)+1:=by omega
 clear hb ht hu GJ Zc Lj ga;go_enter Tryz.func208,Tryz.ntmps208
 go_upto_region 2 with fail
 have fP:=heap_alloc_new (w.alloc (C #[I .u8 q,I V a,I V b,I V c] 99)) (C #[I V e.1,Z x1 x2 x3,Z y1 y2 y3] 261);rw[World.size_alloc]at fP;clear d3a e0a e1a e2a kL d3 e0 e1 e2 f3' df;generalize ((w.alloc (C #[I .u8 q,I V a,I V b,I V c] 99)).alloc (C #[I V e.1,Z x1 x2 x3,Z y1 y2 y3] 261))=w2 at*
 go_upto_region 3 with fail
 generalize (if u3=1 then M (⟨eb,qB,O⟩:Addr)else M ⟨eb,qB+3,O⟩)=ts at*;obtain⟨q1,q2,q3,q4⟩:=HS.out _ qQ.out fP;clear d3b fr1 qQ HS fP;generalize (w2.setCell ⟨dp,4,O⟩ (Z ts rest.length (u3-1)))=w3 at*;obtain⟨k0,k1,k2,-⟩:=gF q4;have ai:Hid (∀W,aJ w3 W->_):=fun W hW=>HA.out W (x1,x2,x3) (y1,y2,y3) (q1.aM hW) (q2.2.1.aM hW) (q2.2.2.aM hW)
 simp only[gN.v]at ai
 have ol:Hid (∀w4 w5,aJ w3 w4->Dk w4 w5 (TX dp tb) (TX dp tb)->aQ w5 dp tb depth (cB (bY m.1 e.1 (sz e.2.1)).1 e.1 e.2.2,m.2.1,rest,m.2.2.2)->∃(s1:Option Addr) (s2 s3:Nat),w5.cell? ⟨dp,0,O⟩=M (I V (depth:Int))/\w5.cell? ⟨dp,3,O⟩=M (Z s1 s2 s3)/\w5.cell? ⟨w.heap.size+1,0,O⟩=M (I V e.1)/\w5.cell? ⟨w.heap.size+1,1,O⟩=M (Z x1 x2 x3)/\w5.cell? ⟨w.heap.size+1,2,O⟩=M (Z y1 y2 y3)/\∀W',aJ w5 W'->H K 245 #[.agg #[I V e.1,Z x1 x2 x3,Z y1 y2 y3],Z s1 s2 s3,I V (depth:Int)] W' fun v w'=> ∃y1 y2 y3,v=G (Z y1 y2 y3)/\w'.cell? ⟨dp,3,O⟩=M (Z s1 s2 s3)/\w'.frozen? ⟨dp,3,O⟩=false/\aQ (w'.setCell ⟨dp,3,O⟩ (Z y1 y2 y3)) dp tb depth (cB (bY m.1 e.1 (sz e.2.1)).1 e.1 e.2.2,(e::m.2.1).take depth,rest,m.2.2.2.1,m.2.2.2.2)/\Dk w (w'.setCell ⟨dp,3,O⟩ (Z y1 y2 y3)) (TX dp tb) (TX dp tb)):=fun w4 w5 hg hK hD=>by
  obtain⟨s1,s2,s3,c0,c4,hc⟩:=HP.out w5 (e.1,(x1,x2,x3),(y1,y2,y3)) hD ((q2.aM hg).tx (q1.aM hg) hK);have rG:=hK.1.at ((hg.block _ (aK q4)).trans q4) (by rintro(e|e)<;>omega);obtain⟨b0,b1,b2,-⟩:=gF rG;refine⟨s1,s2,s3,c0,c4,b0,b1,b2,fun W' hW=>(hc W' hW).mono ?_⟩;rintro v w' ⟨y1,y2,y3,rfl,r1,r2,r3,r4⟩;exact⟨y1,y2,y3,rfl,r1,r2,r3,(q3.trans ((Dk.bH hg).trans hK)).trans r4⟩
 clear q1 q2 q3 q4 HP HA
 go_upto_region 4 with(first|(go_at_call 180;refine(ai.out w3 (aJ.refl w3)).mono ?_;rintro v w5 ⟨g1,g2,g3,rfl,hD5,hK5⟩))
 obtain⟨s1,s2,s3,c0,c4,b0,b1,b2,hc⟩:=ol.out w3 w5 (aJ.refl w3) hK5 hD5;have HC:Hid (∀W',aJ w5 W'->_):=hc;clear hc k0 k1 k2 ol ai hD5 hK5
 go_region_law ((refine bM (by rfl) 245 _ _ (by rfl) _ (by simp[Act.eval];done) Qa ((HC.out _ (by repeat (first|exact aJ.refl _|refine aJ.drew ?_))).mono ?_);rintro v w7 ⟨z1,z2,z3,rfl,m4,mf4,hD,hK⟩;refine⟨_,rfl,?_⟩))
 all_goals go_wp2_with fail
 all_goals go_end0
 all_goals exact⟨rfl,hD,hK⟩
def TK:Nat->Int×Nat×Nat
 |0=>(73,201,202)
 |1=>(68,203,204)
 |2=>(85,205,206)
 |_=>(82,207,208)
def uK:Y:= .agg #[I .u8 73,.func (.func 201) #[] #[],.func (.func 202) #[] #[],I .u8 68,.func (.func 203) #[] #[],.func (.func 204) #[] #[],I .u8 85,.func (.func 205) #[] #[],.func (.func 206) #[] #[],I .u8 82,.func (.func 207) #[] #[],.func (.func 208) #[] #[]]
theorem Gh:H K 131 #[] w fun e w'=>e=G uK/\aJ w w':=by
 unfold uK;go_enter Tryz.func131,Tryz.ntmps131
 go_wp2_with fail
 refine bodyPost_ret (v:= .agg #[I .u8 73,.func (.func 201) #[] #[],.func (.func 202) #[] #[],I .u8 68,.func (.func 203) #[] #[],.func (.func 204) #[] #[],I .u8 85,.func (.func 205) #[] #[],.func (.func 206) #[] #[],I .u8 82,.func (.func 207) #[] #[],.func (.func 208) #[] #[]]) (by simp[results,Tryz.results131,go_sem]) rfl ?_;exact⟨rfl,(aJ.refl w).alloc _⟩
theorem Gi (w:F){k:Nat}(hk:k<4):(Instr.index 223 uK (I V (k:Int))).run K w= .ok (.agg #[I .u8 (TK k).1,.func (.func (TK k).2.1) #[] #[],.func (.func (TK k).2.2) #[] #[]]) w:=by
 have h:k=0\/k=1\/k=2\/k=3:=by omega
 rcases h with rfl|rfl|rfl|rfl<;>rfl
def PD (w:F)(v:Y)(q e:Int):Prop:=∃b,v= .iface 213 (U (M ⟨b,0,O⟩))/\w.heap[b]?=M (C #[I .u8 q,I V e] 217 (0,0))
theorem Nr (k:Nat):0<=(TK k).1/\(TK k).1<256:=by
 match k with
 |0=>simp[TK]
 |1=>simp[TK]
 |2=>simp[TK]
 |k+3=>simp[TK]
theorem qI {E:Int}(hJ:J<4)(hT:TK J=(q,fm,fd))(hL:∀k,k<J->(TK k).1≠q)(em:∀(args:Array Y) (w:F),(callFunc fm args).run K w= .ok (.enter fm args) w)(hm:∀W,aJ w W->H K fm #[U (M ⟨dp,0,O⟩),fQ q a b c,I V most] W fun e w'=>e=G (I V E)/\aJ W w')(hE:E≠0):
 H K 85 #[U (M ⟨dp,0,O⟩),fQ q a b c,I V most,.func (.func g) #[] lb] w fun e w'=> ∃v,e=G v/\PD w' v q E/\aJ w w':=by
 have HL:Hid (∀k,k<J->(TK k).1≠q):=hL;have HM:Hid (∀W,aJ w W->H K fm #[U (M ⟨dp,0,O⟩),fQ q a b c,I V most] W fun e w'=>e=G (I V E)/\aJ W w'):=hm;have hE':(E==0)=false:=beq_eq_false_iff_ne.2 hE;clear hm hL;obtain⟨w1,dU⟩:∃w1,w1=w.alloc (C #[I .u8 q,I V a,I V b,I V c] 99):=⟨_,rfl⟩;have bX:w1.heap[w.heap.size]?=M (C #[I .u8 q,I V a,I V b,I V c] 99 (0,0)):=by rw[dU];exact heap_alloc_new w _
 have G1:Hid (aJ w w1):=by show aJ _ _;rw[dU];exact(aJ.refl w).alloc _
 have HB:Hid (∀W,aJ w1 W->W.cell? ⟨w.heap.size,0,O⟩=M (I .u8 q)/\W.cell? ⟨w.heap.size,1,O⟩=M (I V a)/\W.cell? ⟨w.heap.size,2,O⟩=M (I V b)/\W.cell? ⟨w.heap.size,3,O⟩=M (I V c)):=fun W hW=>by
  have:=(hW.block _ (aK bX)).trans bX;simp[World.cell?,this]
 have hK:=Gh (w:=w1);have HX:Hid (∀(k:Nat),k<4->∀w,(Instr.index 223 uK (I V (k:Int))).run K w= .ok (.agg #[I .u8 (TK k).1,.func (.func (TK k).2.1) #[] #[],.func (.func (TK k).2.2) #[] #[]]) w):=fun k hk w=>Gi w hk
 generalize uK=kv at*;unfold fQ at*;clear bX;go_enter Tryz.func85,Tryz.ntmps85
 go_upto_region 1 with fail
 rw[<-dU];clear dU
 go_upto_region 2 with(go_at_call 131;refine hK.mono ?_;rintro v w2 ⟨rfl,jL⟩)
 have Jj:Hid (aJ w1 w2):=jL;clear jL hK
 go_loopw [10,11,12,14] (fun _ _ _ i wr=> ∃k:Nat,k<=J/\i=I V (k:Int)/\Hid (aJ w1 wr)) (fun _ _ _ i _=>4-(intOf i).toNat)
 case atStart=>exact⟨0,Nat.zero_le _,rfl,Jj.out⟩
 case round=>
  obtain⟨k,hk,rfl,HG⟩:=hrel;obtain⟨b0,b1,b2,b3⟩:=HB.out wr HG.out;by_cases hkJ:k<J
  ·have hx:=HX.out k (by omega);have hq:=HL.out k hkJ;have hq':((TK k).1==q)=false:=beq_eq_false_iff_ne.2 hq;have bV:(k:Int)<4:=by omega
   have hbo:=Nr k;generalize TK k=t at*;obtain⟨t1,t2,t3⟩:=t;simp only at hx hq hq' hbo;obtain⟨c0,-⟩:=HB.out _ (HG.out.alloc (C #[I .u8 t1,.func (.func t2) #[] #[],.func (.func t3) #[] #[]] 222));clear hq b0 b1 b2 b3
   go_wp2_with fail
   go_roundw
   case rel=>exact⟨k+1,by omega,by go_num,(show aJ w1 _ from HG.out.alloc _)⟩
   case measure=>simp[intOf];omega
  ·have hkk:k=J:=by omega
   subst hkk;have hx:=HX.out k hJ;rw[hT]at hx;simp only at hx;have bV:(k:Int)<4:=by omega
   have gA:=HG.out.alloc (C #[I .u8 q,.func (.func fm) #[] #[],.func (.func fd) #[] #[]] 222);obtain⟨c0,c1,c2,c3⟩:=HB.out _ gA;have Tp:=heap_alloc_new wr (C #[I .u8 q,.func (.func fm) #[] #[],.func (.func fd) #[] #[]] 222);have k0:(wr.alloc (C #[I .u8 q,.func (.func fm) #[] #[],.func (.func fd) #[] #[]] 222)).cell? ⟨wr.heap.size,1,O⟩=M (.func (.func fm) #[] #[]):=by simp only[World.cell?,Tp];rfl
   have hmc:=HM.out _ (G1.out.then gA);clear b0 b1 b2 b3
   go_upto_region 4 with fail
   have GA:Hid (aJ w1 (wr.alloc (C #[I .u8 q,.func (.func fm) #[] #[],.func (.func fd) #[] #[]] 222))):=gA;clear gA HG;have k9:(wr.alloc (C #[I .u8 q,.func (.func fm) #[] #[],.func (.func fd) #[] #[]] 222)).cell? ⟨wr.heap.size,0,O⟩=M (I .u8 q):=by simp only[World.cell?,Tp];rfl
   generalize (wr.alloc (C #[I .u8 q,.func (.func fm) #[] #[],.func (.func fd) #[] #[]] 222))=wa at*
   go_wp2_with (first|(go_at_fn fm;refine hmc.mono ?_;rintro v w5 ⟨rfl,dK⟩;obtain⟨l0,-⟩:=HB.out w5 (GA.out.then dK)))
   go_ret;exact⟨_,rfl,⟨_,rfl,heap_alloc_new w5 _⟩,(G1.out.then (GA.out.then dK)).alloc _⟩
theorem xR {P:F->Nat->Y->F->Prop}(hJ:J<4)(hT:TK J=(q,fm,fd))(hL:∀k,k<J->(TK k).1≠q)(em:∀(args:Array Y) (w:F),(callFunc fm args).run K w= .ok (.enter fm args) w)(eg:∀(args:Array Y) (w:F),(callFunc g args).run K w= .ok (.enter g args) w)(hm:∀W,aJ w W->H K fm #[U (M ⟨dp,0,O⟩),fQ q a b c,I V most] W fun e w'=>e=G (I V 0)/\aJ W w')(hw:∀W,aJ w W->H K g lb W fun e w'=> ∃t v,e=G (.iface t v)/\P W t v w'):
 H K 85 #[U (M ⟨dp,0,O⟩),fQ q a b c,I V most,.func (.func g) #[] lb] w fun e w'=> ∃W t v,e=G (.iface t v)/\aJ w W/\P W t v w':=by
 have HL:Hid (∀k,k<J->(TK k).1≠q):=hL;have HM:Hid (∀W,aJ w W->H K fm #[U (M ⟨dp,0,O⟩),fQ q a b c,I V most] W fun e w'=>e=G (I V 0)/\aJ W w'):=hm;have HW:Hid (∀W,aJ w W->H K g lb W fun e w'=> ∃t v,e=G (.iface t v)/\P W t v w'):=hw;clear hm hL hw;obtain⟨w1,dU⟩:∃w1,w1=w.alloc (C #[I .u8 q,I V a,I V b,I V c] 99):=⟨_,rfl⟩;have bX:w1.heap[w.heap.size]?=M (C #[I .u8 q,I V a,I V b,I V c] 99 (0,0)):=by rw[dU];exact heap_alloc_new w _
 have G1:Hid (aJ w w1):=by show aJ _ _;rw[dU];exact(aJ.refl w).alloc _
 have HB:Hid (∀W,aJ w1 W->W.cell? ⟨w.heap.size,0,O⟩=M (I .u8 q)/\W.cell? ⟨w.heap.size,1,O⟩=M (I V a)/\W.cell? ⟨w.heap.size,2,O⟩=M (I V b)/\W.cell? ⟨w.heap.size,3,O⟩=M (I V c)):=fun W hW=>by
  have:=(hW.block _ (aK bX)).trans bX;simp[World.cell?,this]
 have hK:=Gh (w:=w1);have HX:Hid (∀(k:Nat),k<4->∀w,(Instr.index 223 uK (I V (k:Int))).run K w= .ok (.agg #[I .u8 (TK k).1,.func (.func (TK k).2.1) #[] #[],.func (.func (TK k).2.2) #[] #[]]) w):=fun k hk w=>Gi w hk
 generalize uK=kv at*;unfold fQ at*;clear bX;go_enter Tryz.func85,Tryz.ntmps85
 go_upto_region 1 with fail
 rw[<-dU];clear dU
 go_upto_region 2 with(go_at_call 131;refine hK.mono ?_;rintro v w2 ⟨rfl,jL⟩)
 have Jj:Hid (aJ w1 w2):=jL;clear jL hK
 go_loopw [10,11,12,14] (fun _ _ _ i wr=> ∃k:Nat,k<=J/\i=I V (k:Int)/\Hid (aJ w1 wr)) (fun _ _ _ i _=>4-(intOf i).toNat)
 case atStart=>exact⟨0,Nat.zero_le _,rfl,Jj.out⟩
 case round=>
  obtain⟨k,hk,rfl,HG⟩:=hrel;obtain⟨b0,b1,b2,b3⟩:=HB.out wr HG.out;by_cases hkJ:k<J
  ·have hx:=HX.out k (by omega);have hq:=HL.out k hkJ;have hq':((TK k).1==q)=false:=beq_eq_false_iff_ne.2 hq;have bV:(k:Int)<4:=by omega
   have hbo:=Nr k;generalize TK k=t at*;obtain⟨t1,t2,t3⟩:=t;simp only at hx hq hq' hbo;obtain⟨c0,-⟩:=HB.out _ (HG.out.alloc (C #[I .u8 t1,.func (.func t2) #[] #[],.func (.func t3) #[] #[]] 222));clear hq b0 b1 b2 b3
   go_wp2_with fail
   go_roundw
   case rel=>exact⟨k+1,by omega,by go_num,(show aJ w1 _ from HG.out.alloc _)⟩
   case measure=>simp[intOf];omega
  ·have hkk:k=J:=by omega
   subst hkk;have hx:=HX.out k hJ;rw[hT]at hx;simp only at hx;have bV:(k:Int)<4:=by omega
   have gA:=HG.out.alloc (C #[I .u8 q,.func (.func fm) #[] #[],.func (.func fd) #[] #[]] 222);obtain⟨c0,c1,c2,c3⟩:=HB.out _ gA;have Tp:=heap_alloc_new wr (C #[I .u8 q,.func (.func fm) #[] #[],.func (.func fd) #[] #[]] 222);have k0:(wr.alloc (C #[I .u8 q,.func (.func fm) #[] #[],.func (.func fd) #[] #[]] 222)).cell? ⟨wr.heap.size,1,O⟩=M (.func (.func fm) #[] #[]):=by simp only[World.cell?,Tp];rfl
   have hmc:=HM.out _ (G1.out.then gA);clear b0 b1 b2 b3
   go_upto_region 4 with fail
   have GA:Hid (aJ w1 (wr.alloc (C #[I .u8 q,.func (.func fm) #[] #[],.func (.func fd) #[] #[]] 222))):=gA;clear gA HG;have k9:(wr.alloc (C #[I .u8 q,.func (.func fm) #[] #[],.func (.func fd) #[] #[]] 222)).cell? ⟨wr.heap.size,0,O⟩=M (I .u8 q):=by simp only[World.cell?,Tp];rfl
   generalize (wr.alloc (C #[I .u8 q,.func (.func fm) #[] #[],.func (.func fd) #[] #[]] 222))=wa at*
   go_wp2_with (first|(go_at_fn fm;refine hmc.mono ?_;rintro v w5 ⟨rfl,dK⟩;have hwc:=HW.out w5 (G1.out.then (GA.out.then dK)))|(go_at_fn g;refine hwc.mono ?_;rintro v w6 ⟨t,x,rfl,hp6⟩))
   go_ret;exact⟨w5,t,x,rfl,G1.out.then (GA.out.then dK),hp6⟩
theorem Zk (hL:∀k,k<4->(TK k).1≠q):
 H K 85 #[U (M ⟨dp,0,O⟩),fQ q a b c,I V most,.func (.func g) #[] lb] w fun e w'=> ∃v,e=G v/\PD w' v q 1/\aJ w w':=by
 have HL:Hid (∀k,k<4->(TK k).1≠q):=hL;clear hL;obtain⟨w1,dU⟩:∃w1,w1=w.alloc (C #[I .u8 q,I V a,I V b,I V c] 99):=⟨_,rfl⟩;have bX:w1.heap[w.heap.size]?=M (C #[I .u8 q,I V a,I V b,I V c] 99 (0,0)):=by rw[dU];exact heap_alloc_new w _
 have G1:Hid (aJ w w1):=by show aJ _ _;rw[dU];exact(aJ.refl w).alloc _
 have HB:Hid (∀W,aJ w1 W->W.cell? ⟨w.heap.size,0,O⟩=M (I .u8 q)/\W.cell? ⟨w.heap.size,1,O⟩=M (I V a)/\W.cell? ⟨w.heap.size,2,O⟩=M (I V b)/\W.cell? ⟨w.heap.size,3,O⟩=M (I V c)):=fun W hW=>by
  have:=(hW.block _ (aK bX)).trans bX;simp[World.cell?,this]
 have hK:=Gh (w:=w1);have HX:Hid (∀(k:Nat),k<4->∀w,(Instr.index 223 uK (I V (k:Int))).run K w= .ok (.agg #[I .u8 (TK k).1,.func (.func (TK k).2.1) #[] #[],.func (.func (TK k).2.2) #[] #[]]) w):=fun k hk w=>Gi w hk
 generalize uK=kv at*;unfold fQ at*;clear bX;go_enter Tryz.func85,Tryz.ntmps85
 go_upto_region 1 with fail
 rw[<-dU];clear dU
 go_upto_region 2 with(go_at_call 131;refine hK.mono ?_;rintro v w2 ⟨rfl,jL⟩)
 have Jj:Hid (aJ w1 w2):=jL;clear jL hK
 go_loopw [10,11,12,14] (fun _ _ _ i wr=> ∃k:Nat,k<=4/\i=I V (k:Int)/\Hid (aJ w1 wr)) (fun _ _ _ i _=>4-(intOf i).toNat)
 case atStart=>exact⟨0,Nat.zero_le _,rfl,Jj.out⟩
 case round=>
  obtain⟨k,hk,rfl,HG⟩:=hrel;obtain⟨b0,b1,b2,b3⟩:=HB.out wr HG.out;by_cases hkJ:k<4
  ·have hx:=HX.out k (by omega);have hq:=HL.out k hkJ;have hq':((TK k).1==q)=false:=beq_eq_false_iff_ne.2 hq;have bV:(k:Int)<4:=by omega
   have hbo:=Nr k;generalize TK k=t at*;obtain⟨t1,t2,t3⟩:=t;simp only at hx hq hq' hbo;obtain⟨c0,-⟩:=HB.out _ (HG.out.alloc (C #[I .u8 t1,.func (.func t2) #[] #[],.func (.func t3) #[] #[]] 222));clear hq b0 b1 b2 b3
   go_wp2_with fail
   go_roundw
   case rel=>exact⟨k+1,by omega,by go_num,(show aJ w1 _ from HG.out.alloc _)⟩
   case measure=>simp[intOf];omega
  ·have bV:¬(k:Int)<4:=by omega
   go_wp2_with fail
   go_ret;exact⟨_,rfl,⟨_,rfl,heap_alloc_new wr _⟩,(G1.out.then HG.out).alloc _⟩
theorem Bc {dn:Int}{P R:F->F->Prop}(hJ:J<4)(hT:TK J=(q,fm,fd))(hL:∀k,k<J->(TK k).1≠q)(em:∀(args:Array Y) (w:F),(callFunc fm args).run K w= .ok (.enter fm args) w)(ed:∀(args:Array Y) (w:F),(callFunc fd args).run K w= .ok (.enter fd args) w)(eg:∀(args:Array Y) (w:F),(callFunc g args).run K w= .ok (.enter g args) w)(hm:∀W,aJ w W->H K fm #[U (M ⟨dp,0,O⟩),fQ q a b c,I V most] W fun e w'=>e=G (I V 0)/\aJ W w')(hw:∀W,aJ w W->H K g lb W fun e w'=>e=G .nilIface/\P W w')(hP:∀W W1,aJ w W->P W W1->∀b,w.heap.size<=b->b<W.heap.size->W1.heap[b]?=W.heap[b]?)(hd:∀W W1,aJ w W->P W W1->H K fd #[U (M ⟨dp,0,O⟩),fQ q a b c] W1 fun e w'=>e=G (.tuple #[])/\R W1 w')(hR:∀W W1 W2,aJ w W->P W W1->R W1 W2->W2.cell? ⟨dp,5,O⟩=M (I V dn)/\W2.frozen? ⟨dp,5,O⟩=false)(Yo:0<=dn)(pQ:dn<=2000000000):
 H K 85 #[U (M ⟨dp,0,O⟩),fQ q a b c,I V most,.func (.func g) #[] lb] w fun e w'=> ∃W W1 W2,e=G .nilIface/\aJ w W/\P W W1/\R W1 W2/\w'=W2.setCell ⟨dp,5,O⟩ (I V (dn+1)):=by
 have HL:Hid (∀k,k<J->(TK k).1≠q):=hL;have HM:Hid (∀W,aJ w W->H K fm #[U (M ⟨dp,0,O⟩),fQ q a b c,I V most] W fun e w'=>e=G (I V 0)/\aJ W w'):=hm;have HW:Hid (∀W,aJ w W->H K g lb W fun e w'=>e=G .nilIface/\P W w'):=hw;have HD:Hid (∀W W1,aJ w W->P W W1->H K fd #[U (M ⟨dp,0,O⟩),fQ q a b c] W1 fun e w'=>e=G (.tuple #[])/\R W1 w'):=hd;have HP:Hid (∀W W1,aJ w W->P W W1->∀b,w.heap.size<=b->b<W.heap.size->W1.heap[b]?=W.heap[b]?):=hP;have HR:Hid (∀W W1 W2,aJ w W->P W W1->R W1 W2->W2.cell? ⟨dp,5,O⟩=M (I V dn)/\W2.frozen? ⟨dp,5,O⟩=false):=hR;have ru:wrap64 (dn+1)=dn+1:=by unfold wrap64;omega
 clear hm hL hw hd hP hR;obtain⟨w1,dU⟩:∃w1,w1=w.alloc (C #[I .u8 q,I V a,I V b,I V c] 99):=⟨_,rfl⟩;have bX:w1.heap[w.heap.size]?=M (C #[I .u8 q,I V a,I V b,I V c] 99 (0,0)):=by rw[dU];exact heap_alloc_new w _
 have G1:Hid (aJ w w1):=by show aJ _ _;rw[dU];exact(aJ.refl w).alloc _
 have HB:Hid (∀W,aJ w1 W->W.cell? ⟨w.heap.size,0,O⟩=M (I .u8 q)/\W.cell? ⟨w.heap.size,1,O⟩=M (I V a)/\W.cell? ⟨w.heap.size,2,O⟩=M (I V b)/\W.cell? ⟨w.heap.size,3,O⟩=M (I V c)):=fun W hW=>by
  have:=(hW.block _ (aK bX)).trans bX;simp[World.cell?,this]
 have hK:=Gh (w:=w1);have HX:Hid (∀(k:Nat),k<4->∀w,(Instr.index 223 uK (I V (k:Int))).run K w= .ok (.agg #[I .u8 (TK k).1,.func (.func (TK k).2.1) #[] #[],.func (.func (TK k).2.2) #[] #[]]) w):=fun k hk w=>Gi w hk
 generalize uK=kv at*;unfold fQ at*;have HZ:Hid (w.heap.size<w1.heap.size):=aK bX;clear bX;go_enter Tryz.func85,Tryz.ntmps85
 go_upto_region 1 with fail
 rw[<-dU];clear dU
 go_upto_region 2 with(go_at_call 131;refine hK.mono ?_;rintro v w2 ⟨rfl,jL⟩)
 have Jj:Hid (aJ w1 w2):=jL;clear jL hK
 go_loopw [10,11,12,14] (fun _ _ _ i wr=> ∃k:Nat,k<=J/\i=I V (k:Int)/\Hid (aJ w1 wr)) (fun _ _ _ i _=>4-(intOf i).toNat)
 case atStart=>exact⟨0,Nat.zero_le _,rfl,Jj.out⟩
 case round=>
  obtain⟨k,hk,rfl,HG⟩:=hrel;obtain⟨b0,b1,b2,b3⟩:=HB.out wr HG.out;by_cases hkJ:k<J
  ·have hx:=HX.out k (by omega);have hq:=HL.out k hkJ;have hq':((TK k).1==q)=false:=beq_eq_false_iff_ne.2 hq;have bV:(k:Int)<4:=by omega
   have hbo:=Nr k;generalize TK k=t at*;obtain⟨t1,t2,t3⟩:=t;simp only at hx hq hq' hbo;obtain⟨c0,-⟩:=HB.out _ (HG.out.alloc (C #[I .u8 t1,.func (.func t2) #[] #[],.func (.func t3) #[] #[]] 222));clear hq b0 b1 b2 b3
   go_wp2_with fail
   go_roundw
   case rel=>exact⟨k+1,by omega,by go_num,(show aJ w1 _ from HG.out.alloc _)⟩
   case measure=>simp[intOf];omega
  ·have hkk:k=J:=by omega
   subst hkk;have hx:=HX.out k hJ;rw[hT]at hx;simp only at hx;have bV:(k:Int)<4:=by omega
   have gA:=HG.out.alloc (C #[I .u8 q,.func (.func fm) #[] #[],.func (.func fd) #[] #[]] 222);obtain⟨c0,c1,c2,c3⟩:=HB.out _ gA;have Tp:=heap_alloc_new wr (C #[I .u8 q,.func (.func fm) #[] #[],.func (.func fd) #[] #[]] 222);have k0:(wr.alloc (C #[I .u8 q,.func (.func fm) #[] #[],.func (.func fd) #[] #[]] 222)).cell? ⟨wr.heap.size,1,O⟩=M (.func (.func fm) #[] #[]):=by simp only[World.cell?,Tp];rfl
   have hmc:=HM.out _ (G1.out.then gA);clear b0 b1 b2 b3
   go_upto_region 4 with fail
   have GA:Hid (aJ w1 (wr.alloc (C #[I .u8 q,.func (.func fm) #[] #[],.func (.func fd) #[] #[]] 222))):=gA;have HKB:Hid ((wr.alloc (C #[I .u8 q,.func (.func fm) #[] #[],.func (.func fd) #[] #[]] 222)).heap[wr.heap.size]?=M (C #[I .u8 q,.func (.func fm) #[] #[],.func (.func fd) #[] #[]] 222 (0,0))):=Tp;have gQ:w1.heap.size<=wr.heap.size:=HG.out.le;have hsz1:w.heap.size<w1.heap.size:=HZ;have HSZ:Hid (w.heap.size<wr.heap.size):=(show _<_ by omega);clear gA HG;have k9:(wr.alloc (C #[I .u8 q,.func (.func fm) #[] #[],.func (.func fd) #[] #[]] 222)).cell? ⟨wr.heap.size,0,O⟩=M (I .u8 q):=by simp only[World.cell?,Tp];rfl
   generalize (wr.alloc (C #[I .u8 q,.func (.func fm) #[] #[],.func (.func fd) #[] #[]] 222))=wa at*;have GA0:=GA.out
   have HKK:Hid (∀W W1,aJ wa W->P W W1->(W1.cell? ⟨w.heap.size,0,O⟩=M (I .u8 q)/\W1.cell? ⟨w.heap.size,1,O⟩=M (I V a)/\W1.cell? ⟨w.heap.size,2,O⟩=M (I V b)/\W1.cell? ⟨w.heap.size,3,O⟩=M (I V c))/\W1.cell? ⟨wr.heap.size,2,O⟩=M (.func (.func fd) #[] #[])):=fun W W1 hW hp=>by
    have gw:=GA0.then hW;have e1:=HP.out W W1 (G1.out.then gw) hp w.heap.size (Nat.le_refl _) (Nat.lt_of_lt_of_le HZ.out gw.le);have e2:=HP.out W W1 (G1.out.then gw) hp wr.heap.size (Nat.le_of_lt HSZ.out) (Nat.lt_of_lt_of_le (aK HKB.out) hW.le);have e3:=(hW.block _ (aK HKB.out)).trans HKB.out;obtain⟨x0,x1,x2,x3⟩:=HB.out W gw;simp only[World.cell?,e1,e2,e3]at x0 x1 x2 x3 ⊢;exact⟨⟨x0,x1,x2,x3⟩,rfl⟩
   go_wp2_with (first|(go_at_fn fm;refine hmc.mono ?_;rintro v w5 ⟨rfl,dK⟩;have hwc:=HW.out w5 (G1.out.then (GA.out.then dK)))|(go_at_fn g;refine hwc.mono ?_;rintro v w6 ⟨rfl,hp6⟩;obtain⟨⟨y0,y1,y2,y3⟩,y4⟩:=HKK.out w5 w6 dK hp6;have hdc:=HD.out w5 w6 (G1.out.then (GA.out.then dK)) hp6)|(go_at_fn fd;refine hdc.mono ?_;rintro v w7 ⟨rfl,PE⟩;obtain⟨z0,z1⟩:=HR.out w5 w6 w7 (G1.out.then (GA.out.then dK)) hp6 PE))
   go_ret;exact⟨w5,w6,w7,rfl,G1.out.then (GA.out.then dK),hp6,PE,rfl⟩
end Go.Proofs.YtfplgfodoiiobaaGreatDoor
