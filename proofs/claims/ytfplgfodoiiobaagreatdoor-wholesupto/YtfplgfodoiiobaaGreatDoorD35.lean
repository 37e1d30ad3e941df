/- QlC, QlL (joined). -/
import Derived.Test.YtfplgfodoiiobaaGreatDoorD34
import Derived.Test.YtfplgfodoiiobaaGreatDoorDQ
open Option renaming none→O,some→M
open Go.Value renaming int→I,slice→Z,pointer→U
open Go.IntKind renaming i64→V
open Go.Obj renaming cells→C
open Go.Ending renaming returned→G
open Go renaming World→F,Value→Y,Calls→H
open Go.Proofs.Tryz renaming prog→K
open Go.Proofs.Tryz
namespace Go.Proofs.YtfplgfodoiiobaaGreatDoor
set_option maxHeartbeats 1000000
set_option maxRecDepth 100000
open Go.RowKit
open Go.RowKit Go.Extern.Stop Go.Stop Go.Extern
variable {w:F}{v:Y}{ps:Nat->Addr}{qp db k d lp sp dp tb:Nat}{most depth c pos n:Int}{ro:Bool}{t:Addr}
theorem RH (h:w.heap[qp]?=M (xG most depth db O)):H K 39 #[U (M ⟨qp,0,O⟩),I V pos,I V n] w fun e w'=>e=G (.tuple #[.string ⟨#[]⟩,I V 3])/\w'=w:=by
 obtain⟨-,-,-,c3,-⟩:=eG h;simp only[AbU]at c3;clear h;go_enter func39,ntmps39;go_wp2_with fail;go_ret2;exact⟨rfl,rfl⟩
theorem aAo {dd:Nat}{m:dD}(h:w.heap[qp]?=M (xG most depth db (M sp)))(hs:w.heap[sp]?=M (uW lp dp ro))(hd:aV w dp tb dd m)(hn:n<=9223372036854775807)(hz:sz m.1<=100000000)(oG:0<=sz m.1)(hb:n<0\/rR m.1 pos n=false):
 H K 39 #[U (M ⟨qp,0,O⟩),I V pos,I V n] w fun e w'=>e=G (.tuple #[.string ⟨#[]⟩,I V 5])/\w'=w:=by
 obtain⟨-,-,-,c3,-⟩:=eG h;obtain⟨d0,d1,-⟩:=kQ hs;simp only[Abs]at c3;have hc:=L_ (pos:=pos) hd hn hz oG hb;clear h hs hd hb;go_enter func39,ntmps39;go_wp2_with (go_at_call 76;refine hc.mono ?_;rintro e w ⟨rfl,rfl⟩);go_ret2;exact⟨rfl,rfl⟩
theorem ZT {dd:Nat}{ep:Int}{m:dD}{s:Sc}{fv:Y}{rs:List FR}(h:w.heap[qp]?=M (xG most depth db (M sp)))(hs:w.heap[sp]?=M (uW lp dp ro))(hL:w.heap[lp]?=M (jM db ep))(hD:aU w db s fv rs)(hsr:(plain rs).Pairwise (fun a b=>a.1<b.1))(hl:rs.length<=1000000)(hbz:(aO (plain rs) 1).size<=1000000000)
 (hd:aV w dp tb dd m)(hz:sz m.1<=5000)(h0:0<=n)(h1:0<=pos)(h2:pos+n<=sz m.1)(Gr:tQ ((aO (plain rs) 1).size:Int) m.1)(Gh:m.1.length<=10000):
 H K 39 #[U (M ⟨qp,0,O⟩),I V pos,I V n] w fun e w'=>e=G (.tuple #[.string (mU (aO (plain rs) 1) (fZ m.1 pos (pos+n))),I V 0])/\aL w w':=by
 obtain⟨-,-,-,c3,-⟩:=eG h;obtain⟨d0,d1,-⟩:=kQ hs;simp only[Abs]at c3;have hc:=M_ (pos:=pos) (n:=n) hd hz h0 h1 h2;have hip:=IL Gr pos (pos+n);have Wt:=yT m.1 pos (pos+n);have HT:Hid (∀W x1 x3,aL w W->bH W (x1,(fZ m.1 pos (pos+n)).length,x3) (fZ m.1 pos (pos+n))->H K 77 #[U (M ⟨lp,0,O⟩),Z x1 (fZ m.1 pos (pos+n)).length x3] W fun e w'=>e=G (.string (mU (aO (plain rs) 1) (fZ m.1 pos (pos+n))))/\aL W w'):=fun W x1 x3 hW hx=>aAm ((hW.block _ (aM hL)).trans hL) (hD.aN hW) hsr hl hx hip (by omega) hbz;generalize mU (aO (plain rs) 1) (fZ m.1 pos (pos+n))=T at*;generalize fZ m.1 pos (pos+n)=L at*;clear h hs hd hL hD hsr Gr hip Wt Gh h2 hz hl hbz;go_enter func39,ntmps39;go_wp2_with fail;refine hc.mono ?_;rintro e w1 ⟨x1,x2,x3,rfl,hx,hg⟩;obtain rfl:x2=L.length:=hx.2.1;have k3:=AaB hg c3;have k0:=AaB hg d0;have ht:=HT.out w1 x1 x3 hg hx;clear c3 d0 d1 hc hx HT;go_wp2_with (go_at_call 77;refine ht.mono ?_;rintro e w2 ⟨rfl,kR⟩);go_ret2;exact⟨rfl,aQ hg kR⟩
def rJ (w:F)(v:Y)(c:Int):Prop:=H K 84 #[v] w fun e w'=>e=G (I V c)/\aL w w'
theorem Oe {o:Option Nat}(h:w.heap[qp]?=M (xG most depth db o))(hE:rJ w v 10):
 H K 49 #[U (M ⟨qp,0,O⟩),v] w fun e w'=>e=G (I V 10)/\w'.heap[qp]?=M (xG most depth db O)/\Og w w' qp:=by
 unfold rJ at hE;have HQ:Hid (w.heap[qp]?=M (xG most depth db o)):=h;clear h;go_enter func49,ntmps49;go_wp2_with fail;refine hE.mono ?_;rintro e w1 ⟨rfl,hg⟩;have h1:=(hg.block _ (aM HQ.out)).trans HQ.out;obtain⟨-,-,-,c3,cf⟩:=eG h1;have f3:=cf 3;have hh:(w1.setCell ⟨qp,3,O⟩ (U O)).heap[qp]?=M (xG most depth db O):=by rw[Aaj w1 qp 3 _ _ _ h1];rfl
 clear cf h1 hE;go_wp2_with fail;go_ret;exact⟨rfl,hh,((Og.refl w qp).aN hg).set⟩
theorem LA (h:w.heap[qp]?=M (xG most depth db (M sp)))(hs:w.heap[sp]?=M (uW lp dp ro))(hE:rJ w v 9):
 H K 49 #[U (M ⟨qp,0,O⟩),v] w fun e w'=>e=G (I V 9)/\w'.heap[sp]?=M (uW lp dp true)/\Og w w' sp:=by
 unfold rJ at hE;have HQ:Hid (w.heap[qp]?=M (xG most depth db (M sp))):=h;have HS:Hid (w.heap[sp]?=M (uW lp dp ro)):=hs;clear h hs;go_enter func49,ntmps49;go_wp2_with fail;refine hE.mono ?_;rintro e w1 ⟨rfl,hg⟩;have h1:=(hg.block _ (aM HQ.out)).trans HQ.out;have h2:=(hg.block _ (aM HS.out)).trans HS.out;obtain⟨-,-,-,c3,-⟩:=eG h1;simp only[Abs]at c3;obtain⟨-,-,d2,df⟩:=kQ h2;have f3:=df 2;have hh:(w1.setCell ⟨sp,2,O⟩ (.bool true)).heap[sp]?=M (uW lp dp true):=by rw[Aaj w1 sp 2 _ _ _ h2];rfl
 clear df h1 h2 hE;go_wp2_with fail;go_ret;exact⟨rfl,hh,((Og.refl w sp).aN hg).set⟩
theorem Xg (h:w.heap[qp]?=M (xG most depth db O))(hE:rJ w v 9):
 H K 49 #[U (M ⟨qp,0,O⟩),v] w fun e w'=>e=G (I V 9)/\aL w w':=by
 unfold rJ at hE;have HQ:Hid (w.heap[qp]?=M (xG most depth db O)):=h;clear h;go_enter func49,ntmps49;go_wp2_with fail;refine hE.mono ?_;rintro e w1 ⟨rfl,hg⟩;have h1:=(hg.block _ (aM HQ.out)).trans HQ.out;obtain⟨-,-,-,c3,-⟩:=eG h1;simp only[AbU]at c3;clear h1 hE;go_wp2_with fail;go_ret;exact⟨rfl,hg⟩
theorem Uy (hE:rJ w v c)(h9:¬c=9)(h10:¬c=10):
 H K 49 #[U (M ⟨qp,0,O⟩),v] w fun e w'=>e=G (I V c)/\aL w w':=by
 unfold rJ at hE;go_enter func49,ntmps49;go_wp2_with (go_at_call 84;refine hE.mono ?_;rintro e w1 ⟨rfl,hg⟩);clear hE;go_wp2_with fail;go_ret;exact⟨rfl,hg⟩
theorem LB (w:F):rJ w .nilIface 0:=by
 unfold rJ;go_enter func84,ntmps84;go_wp2_with fail;go_ret;exact⟨rfl,(aL.refl w).alloc _⟩
theorem aAr {q:Int}(hG:Gl w ps)(h:QG w v q c):rJ w v c:=by
 unfold rJ;obtain⟨b,rfl,hb⟩:=h;have VP:aL w (w.alloc (C #[U O] 213)):=(aL.refl w).alloc _;have hn:=Aaf w (C #[U O] 213);have hA:=eAs_hit (w:=w.alloc (C #[U O] 213)) (e:=⟨b,0,O⟩) (t:=⟨w.heap.size,0,O⟩) (tb:=w.heap.size) (old:=U O) rfl (hG.aN VP) (by rw[Lib.cell_of_heap hn];rfl) (Lib.frozen_of_heap hn 0);have HB:Hid (w.heap[b]?=M (C #[I .u8 q,I V c] 217 (0,0))):=hb;have HG:Hid (aL w (w.alloc (C #[U O] 213))):=VP;clear hG hb VP hn;go_enter func84,ntmps84;go_wp2_with fail;refine hA.mono ?_;rintro e w1 ⟨rfl,h1,h2⟩;have Qj:=aM HB.out;have dY:w1.heap[b]?=M (C #[I .u8 q,I V c] 217 (0,0)):=h2.1.at ((HG.out.block _ Qj).trans HB.out) (by omega);have c1:w1.cell? ⟨b,1,O⟩=M (I V c):=by simp[World.cell?,dY]
 have HGG:Hid (aL w w1):=by
  show aL w w1;refine⟨h2.2.1.trans HG.out.os,h2.2.2.1.trans HG.out.tape,h2.2.2.2.trans HG.out.output,Aam HG.out.size h2.1.1,fun k hk=>?_⟩;rw[h2.1.2 k (AaC hk HG.out.size) (by omega)];exact HG.out.block k hk
 clear hA h2 dY Qj;go_wp2_with fail;go_ret;exact⟨rfl,HGG.out⟩
theorem RI (hG:Gl w ps)(hC:qA w ps d v k)(hd:d<=5)(hk:k<5):rJ w v (Ul k):=by
 unfold rJ;have VP:aL w (w.alloc (C #[U O] 213)):=(aL.refl w).alloc _;have hC0:=qA.fr (Fr.cZ VP (fun _=>False)) (fun _ _ _=>id) (fun _ _ _=>id) hC;have hA:=aAq (t:=⟨w.heap.size,0,O⟩) (hG.aN VP) hC0 hd;have HI:Hid (∀W j,aL w W->j<5->H K 130 #[v,jH (ps j)] W fun e w'=>e=G (.bool (decide (k=j)))/\w'=W):=fun W j hW hj=>eIs_pg (hG.aN hW) (qA.fr (Fr.cZ hW (fun _=>False)) (fun _ _ _=>id) (fun _ _ _=>id) hC) hd hk hj
 have HGl:Hid (Gl w ps):=hG;have HG:Hid (aL w (w.alloc (C #[U O] 213))):=VP;obtain⟨vt,vp,rfl⟩:=hC.shape;clear hG hC hC0 VP;go_enter func84,ntmps84;go_wp2_with fail;refine hA.mono ?_;rintro e w1 ⟨rfl,h1⟩;have ku:aL w w1:=aQ HG.out h1;have c0:=(HGl.out.aN ku).xR.cell (k:=0) (by omega);have c1:=(HGl.out.aN ku).xR.cell (k:=1) (by omega);have c2:=(HGl.out.aN ku).xR.cell (k:=2) (by omega);have i0:=HI.out w1 0 ku (by omega);have i1:=HI.out w1 1 ku (by omega);have i2:=HI.out w1 2 ku (by omega);have HGG:Hid (aL w w1):=ku;clear hA h1 ku HI HGl HG;have HK:Hid (k=0\/k=1\/k=2\/k=3\/k=4):=by show _\/_;omega
 clear hk;go_wp2_with fail;refine i1.mono ?_;rintro e w1 ⟨rfl,rfl⟩;clear i1;by_cases e1:k=1
 ·subst e1;rw[AaH rfl];go_wp2_with fail;go_ret;exact⟨rfl,HGG.out⟩
 rw[AaN e1];go_wp2_with fail;refine i2.mono ?_;rintro e w1 ⟨rfl,rfl⟩;clear i2;by_cases e2:k=2
 ·subst e2;rw[AaH rfl];go_wp2_with fail;go_ret;exact⟨rfl,HGG.out⟩
 rw[AaN e2];go_wp2_with fail;refine i0.mono ?_;rintro e w1 ⟨rfl,rfl⟩;clear i0;by_cases e0:k=0
 ·subst e0;rw[AaH rfl];go_wp2_with fail;go_ret;exact⟨rfl,HGG.out⟩
 rw[AaN e0];go_wp2_with fail;go_ret;refine⟨?_,HGG.out⟩;rcases HK.out with h|h|h|h|h
 ·exact absurd h e0
 ·exact absurd h e1
 ·exact absurd h e2
 ·subst h;rfl
 ·subst h;rfl
theorem xH {D:Nat}(hG:Gl w ps)(h:kZ w ps D v c)(hD:D<=5):rJ w v c:=by
 rcases h with⟨rfl,rfl⟩|⟨d,k,h1,h2,rfl,h3⟩
 ·exact LB w
 ·exact RI hG h3 (by omega) h2
theorem ZV {s:Sc}{fv:Y}{rs:List FR}{ep d q a b:Int}{text:ByteArray}(h:aU w db s fv rs)(hL:w.heap[lp]?=M (jM db ep))(hG:Gl w ps)(hO:pJ 998 s (plain rs))(yD:0<=ep)(Hu:ep<=1000)(hq:0<=q)(xL:q<256)(hd:cO d)(ha:cO a)(hb:cO b)(hc:cO c)(oM:text.size<=1000000):
 H K 87 #[U (M ⟨lp,0,O⟩),I V d,iC q a b c,.string text] w fun e w'=> ∃v,e=G v/\oC w w' ps db fv rs 2 v (NN s (plain rs) ep text (fF q d a b c)):=by
 have hd':=hd;unfold cO at hd';unfold NN;by_cases h0:text.size=0
 ·rw[Aad h0]
  have e:text=⟨#[]⟩:=by
   cases text with
   |mk a=>simp[ByteArray.size]at h0;rw[h0]
  rw[e];exact QN h hL hG hO yD Hu (by omega) (by omega) hq xL hd ha hb hc
 ·rw[Aaa h0];by_cases h1:(bW s (plain rs) 1 text).1=0
  ·rw[Aaa (fun hh=>hh h1)];exact ZF h hL hG hO yD Hu (by omega) (by omega) hq xL hd ha hb hc h0 oM h1
  ·rw[Aad h1];exact ZE h hL hG hO yD Hu (by omega) (by omega) hq xL hd ha hb hc h0 oM h1
end Go.Proofs.YtfplgfodoiiobaaGreatDoor
