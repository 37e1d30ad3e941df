/- KxZ1, KxZ2, KxZ3, KxZ4, KxZ (joined). -/
import Derived.Deep.DeepHandedRow
import Derived.Deep.DeepWitnessRowRef
import Derived.Deep.SlicePairs
import Derived.LaidHandle
import Derived.LaidLaws
import Derived.LaidSub
import Derived.Lib.LaidTab
import Derived.OpenShut
import Derived.ProofKit
import Derived.Stop.LaidErr
import Derived.Test.YtfplgfodoiiobaaGreatDoorCards
import Derived.Test.YtfplgfodoiiobaaGreatDoorJ51
import Derived.Test.YtfplgfodoiiobaaGreatDoorTie
open Option renaming none→O,some→M
open Go.Value renaming int→I,slice→Z,pointer→U
open Go.IntKind renaming i64→V
open Go.Obj renaming cells→C
open Go.Ending renaming returned→G
open Go renaming World→F,Value→Y,Calls→H
open Go.Proofs.Tryz renaming prog→K
namespace Go.Proofs.YtfplgfodoiiobaaGreatDoor
set_option maxHeartbeats 4000000
set_option maxRecDepth 100000
open Go.RowKit
open Go.ChangeShapes Go.WideShapes Go.ChangeAt Go.RowKit Go.Deep
variable {w w' wr W:F}{d qp k sf N B n R gb j len a2 a3 b2 b3:Nat}{ps:Nat->Addr}{X X1 aB:Nat->Prop}{g gn g':Gm}{aA Hs:List Gm}{v y z x u:Y}{l:List MQ}{c kind kk dn:Int}{s:Sc}{fs:List bF}{m:bT}{P:F->(Nat->Prop)->Prop}{a1 b1:Option Addr}{T:ByteArray}
def armC (s:Sc):Sc:= { s with eG:=true,after:=1,one:=99,rest:=99 }
def St1 (w:F)(ps:Nat->Addr)(qp:Nat)(X:Nat->Prop):Prop:=Gl w ps/\∃s fs m t,pF w qp (armC s) fs m X/\nG (aY s,fs,m) ([],[],[],0) 0 t/\fU s/\0<=s.after
def St2 (w:F)(ps:Nat->Addr)(qp:Nat)(X:Nat->Prop):Prop:=Gl w ps/\∃s fs m z,pF w qp s fs m X/\s.aS=false/\BK s fs/\jM (s,fs,m)=(z,0)/\z.1.aS=true/\z.2.2=([],[],[],0,0)
def St3 (w:F)(ps:Nat->Addr)(qp:Nat)(X:Nat->Prop):Prop:=Gl w ps/\∃s fs,pF w qp s fs ([],[],[],0,0) X/\s.aS=true
theorem st_crash {T:Nat}(h:rF w ps qp d [] ([],[],[],0) 0 T X):
 H K 21 #[U (M ⟨qp,0,O⟩),I V 1,I V 99,I V 99] w fun e w'=>e=G (I V 0)/\∃X',St1 w' ps qp X'/\Dk w w' X X':=by
 obtain⟨hG,s,fs,m,hQ,hH,hd,hW,-⟩:=h;obtain⟨t,hS⟩:=hH.Ep;have e:armS s 1 99 99=(armC s,0):=by unfold armS;rw[if_neg (by omega)];rfl
 refine(xcrash hQ).mono ?_;rintro e' w' ⟨rfl,X',h1,h2⟩;rw[e]at h1 ⊢;exact⟨rfl,X',⟨hG.q h2.1 (fun b hb=>hQ.ty hb),s,fs,m,t,h1,hS,hW.bK,hW.qC⟩,h2⟩
theorem st_insert (h:St1 w ps qp X):
 H K 28 #[U (M ⟨qp,0,O⟩),I V 0,.string ⟨#[97,98]⟩] w fun e w'=>e=G (I V 10)/\∃X',St2 w' ps qp X'/\Dk w w' X X':=by
 obtain⟨hG,s,fs,m,t,hQ,hS,hg,haf⟩:=h;obtain⟨e1,e2,z,e3,e4,e5⟩:=stop_open hS hg rfl
 have MW:GS (armC s,fs,m) 0:=by
  have:=gs_arm (a:=1) (b:=99) (c:=99) (jK hS.snd.gs hg haf) (by decide) (by decide) (by decide);have e:armS s 1 99 99=(armC s,0):=by unfold armS;rw[if_neg (by omega)];rfl
  rw[e]at this;simpa using this
 refine(BF (n:=0) (text:=abB) hQ hG MW (by decide) (by decide)).mono ?_;rintro e' w' ⟨rfl,hq⟩;have e1':eZ (armC s,fs,m) 73 0 0 abB=_:=e1;rw[e1']at hq ⊢;obtain⟨X',h1,h2⟩:=hq;exact⟨rfl,X',⟨hG.q h2.1 (fun b hb=>hQ.ty hb),_,_,_,z,h1,rfl,e2,e3,e4,e5⟩,h2⟩
theorem st_length (h:St2 w ps qp X):
 H K 40 #[U (M ⟨qp,0,O⟩)] w fun e w'=>e=G (.tuple #[I V 0,I V 3])/\w'=w:=by
 obtain⟨hG,s,fs,m,z,hQ,ho,-⟩:=h;have:=VH hQ;rw[ho]at this;simpa using this
theorem st_open (h:St2 w ps qp X):
 H K 24 #[U (M ⟨qp,0,O⟩)] w fun e w'=>e=G (I V 0)/\∃X',St3 w' ps qp X'/\Dk w w' X X':=by
 obtain⟨hG,s,fs,m,z,hQ,ho,hB,e,z1,z2⟩:=h;refine(KL (D:=0) hQ hG (GS.shut hB ho)).mono ?_;rintro e' w' ⟨rfl,X',h1,h2⟩;rw[e]at h1 ⊢;obtain⟨zaz,zb,zc⟩:=z;simp only at z1 z2 h1;subst z2;exact⟨rfl,X',⟨hG.q h2.1 (fun b hb=>hQ.ty hb),zaz,zb,h1,z1⟩,h2⟩
theorem st_length2 (h:St3 w ps qp X):
 H K 40 #[U (M ⟨qp,0,O⟩)] w fun e w'=>e=G (.tuple #[I V 0,I V 0])/\w'=w:=by
 obtain⟨hG,s,fs,hQ,ho⟩:=h;have:=VH hQ;rw[ho]at this;have hz:sz ([]:List (Int×Int))=0:=rfl;simpa[hz]using this
theorem stops_any (hG:Gl w ps):
 H K 20 #[] w fun e w'=>e=G (.bool true)/\aJ w w':=by
 have hF:=BR (d:=5) hG (by decide);clear hG;go_enter Tryz.func20,Tryz.ntmps20
 go_upto_region 4 with(go_at_call 17;refine hF.mono ?_;clear hF;rintro e w1 ⟨qp,X1,rfl,s1,x1,g1⟩;have hCr:=st_crash s1;clear s1)
 go_upto_region 5 with(go_at_call 21;refine hCr.mono ?_;clear hCr;rintro e w2 ⟨rfl,X2,s2,k2⟩;obtain⟨g2,x2⟩:=nV g1 x1 k2;have hIn:=st_insert s2;clear s2 k2 g1 x1)
 go_upto_region 6 with(go_at_call 28;refine hIn.mono ?_;clear hIn;rintro e w3 ⟨rfl,X3,s3,k3⟩;obtain⟨g3,x3⟩:=nV g2 x2 k3;have hLe:=st_length s3;have Sq:=st_open s3;clear s3 k3 g2 x2)
 go_upto_region 7 with(go_at_call 40;refine hLe.mono ?_;clear hLe;rintro e w4 ⟨rfl,rfl⟩)
 go_upto_region 8 with(go_at_call 24;refine Sq.mono ?_;clear Sq;rintro e w5 ⟨rfl,X5,s5,k5⟩;obtain⟨g5,x5⟩:=nV g3 x3 k5;have hL2:=st_length2 s5;clear s5 k5 g3 x3)
 go_wp2_with (go_at_call 40;refine hL2.mono ?_;clear hL2;rintro e w6 ⟨rfl,rfl⟩)
 go_ret;exact⟨rfl,g5⟩
def CAt (w:F)(ps:Nat->Addr)(qp d:Nat)(aA:List Gm)(g:Gm)(k sf:Nat)(X:Nat->Prop):Prop:=Gl w ps/\∃s fs m,pF w qp s fs m X/\Cst (aY s,fs,m) aA g k sf/\s.depth=(d:Int)/\fU s/\0<=s.after
def DAt (w:F)(ps:Nat->Addr)(qp d:Nat)(aA:List Gm)(g:Gm)(k sf:Nat)(X:Nat->Prop):Prop:=Gl w ps/\∃s fs m,pF w qp s fs m X/\s.aS=false/\BK s fs/\Die s fs m aA g k sf d
theorem CAt.aM (h:CAt w ps qp d aA g k sf X)(hg:aJ w w'):CAt w' ps qp d aA g k sf X:=by
 obtain⟨h1,s,fs,m,h2,h3⟩:=h;exact⟨h1.aM hg,s,fs,m,h2.aM hg,h3⟩
theorem DAt.aM (h:DAt w ps qp d aA g k sf X)(hg:aJ w w'):DAt w' ps qp d aA g k sf X:=by
 obtain⟨h1,s,fs,m,h2,h3⟩:=h;exact⟨h1.aM hg,s,fs,m,h2.aM hg,h3⟩
theorem CAt.ty (h:CAt w ps qp d aA g k sf X){b:Nat}(hb:X b):lD w b:=by
 obtain⟨-,s,fs,m,h2,-⟩:=h;exact h2.ty hb
theorem DAt.ty (h:DAt w ps qp d aA g k sf X){b:Nat}(hb:X b):lD w b:=by
 obtain⟨-,s,fs,m,h2,-⟩:=h;exact h2.ty hb
theorem CAt.more {k':Nat}(h:CAt w ps qp d aA g k sf X)(hk:k<=k'):CAt w ps qp d aA g k' sf X:=by
 obtain⟨h1,s,fs,m,h2,h3,h4⟩:=h;exact⟨h1,s,fs,m,h2,h3.more hk,h4⟩
theorem qat_off {aT:Array Y}{f:Nat×Nat}(h:pF w qp s fs m X)(hF:Fr w w' (fun b=>b=R))(hR:w.heap[R]?=M (C aT 36 f)):pF w' qp s fs m X:=by
 refine h.fr2 hF ?_ ?_
 ·rintro b rfl;exact KQ.of hR (by decide) (by decide) (by decide) (by decide)
 ·rintro b hb rfl;exact(h.ty hb).ne hR (by decide) rfl
theorem fam_cat:VK ps (fun w X=>CAt w ps qp d aA g k sf X):=⟨fun h hg=>h.aM hg,fun h a b c=>by
 obtain⟨h1,s,fs,m,h2,h3⟩:=h;exact⟨h1.off a b c,s,fs,m,qat_off h2 a b,h3⟩⟩
theorem fam_dat:VK ps (fun w X=>DAt w ps qp d aA g k sf X):=⟨fun h hg=>h.aM hg,fun h a b c=>by
 obtain⟨h1,s,fs,m,h2,h3⟩:=h;exact⟨h1.off a b c,s,fs,m,qat_off h2 a b,h3⟩⟩
theorem fam_or {Q:F->(Nat->Prop)->Prop}{a b:Prop}(hP:VK ps P)(hQ:VK ps Q):VK ps (fun w X=>(a/\P w X)\/(b/\Q w X)):=⟨fun h hg=>h.imp (fun x=>⟨x.1,hP.aM x.2 hg⟩) (fun x=>⟨x.1,hQ.aM x.2 hg⟩),fun h p q r=>h.imp (fun x=>⟨x.1,hP.off x.2 p q r⟩) (fun x=>⟨x.1,hQ.off x.2 p q r⟩)⟩
theorem pdo_row {W':F}{aT:Array Y}{row:Option Nat}(hP:VK ps P)(hG:Gl w ps)(h:Ya w W P X)(hF:Fr W W' (fun b=>b=R))(hb:W.heap[R]?=M (C aT 36 (0,0)))(hR:w.heap.size<=R)(hg:W.grownBy W' row):Ya w W' P X:=by
 obtain⟨X',h1,h2⟩:=h;exact⟨X',hP.off h1 hF hb (fun k hk e=>by have:=hG.lt k hk;omega),⟨RI h2.1 hF hR,⟨hg.os.trans h2.2.1.1,hg.tape.trans h2.2.1.2.1,hg.output.trans h2.2.1.2.2⟩,h2.2.2⟩⟩
theorem pdo_dk {w1 w2:F}(h:Dk w w1 X X1)(h2:Ya w1 w2 P X1):Ya w w2 P X:=by
 obtain⟨X',a,b⟩:=h2;exact⟨X',a,h.trans b⟩
theorem cst_arm {a b:Int}(h:Cst (aY s,fs,m) aA g k sf)(kT:0<=b)(bX:b<=9223372036854775807)(Nq:0<=c)(Ig:c<=9223372036854775807):Cst (aY { s with eG:=true,after:=a,one:=b,rest:=c },fs,m) aA g k sf:=by
 obtain⟨t,rs,ms,ts,gs,h1,h2⟩:=h;have q:=h1.snd.gs.bk.bK;refine⟨t,rs,ms,ts,gs,⟨⟨⟨⟨⟨q.ES,q.Vt,q.Db,q.xD,q.Vu,q.oK,q.oL,kT,bX,Nq,Ig,q.zM,q.Cb,q.nK,q.zN⟩,h1.snd.gs.bk.qC,h1.snd.gs.bk.inv,h1.snd.gs.bk.len⟩,h1.snd.gs.YQ,h1.snd.gs.done,h1.snd.gs.QX,h1.snd.gs.buf,h1.snd.gs.wU⟩,h1.snd.op,h1.snd.ro,h1.snd.arm,h1.snd.ref,h1.snd.most,h1.snd.room,h1.snd.yV,h1.snd.cnt,h1.snd.rd,h1.snd.QX,h1.snd.b1,h1.snd.b2,h1.snd.bj,h1.snd.ep⟩,h1.tell⟩,h2⟩
theorem z_crash {a b:Int}(h:CAt w ps qp d aA g k sf X)(ha:0<=a/\a<=1000)(hb:0<=b/\b<=1000)(hc:0<=c/\c<=1000):
 H K 21 #[U (M ⟨qp,0,O⟩),I V a,I V b,I V c] w fun e w'=>e=G (I V 0)/\∃X',CAt w' ps qp d aA g k sf X'/\Dk w w' X X'/\(a=1000->k<=250->rO w' ps qp d g 250 X'):=by
 obtain⟨hG,s,fs,m,hQ,hH,hd,hgc,haf⟩:=h;have e:armS s a b c=({ s with eG:=true,after:=a,one:=b,rest:=c },0):=by unfold armS;rw[if_neg (by omega)]
 refine(xcrash hQ).mono ?_;rintro e' w' ⟨rfl,X',h1,h2⟩;rw[e]at h1 ⊢;have hC:Cst (aY { s with eG:=true,after:=a,one:=b,rest:=c },fs,m) aA g k sf:=cst_arm hH (by omega) (by omega) (by omega) (by omega);have Bq:fU { s with eG:=true,after:=a,one:=b,rest:=c }:=⟨hgc.ES,hgc.Vt,hgc.Db,hgc.xD,hgc.Vu,hgc.oK,by show a<=_;omega,by show 0<=b;omega,by show b<=_;omega,by show 0<=c;omega,by show c<=_;omega,hgc.zM,hgc.Cb,hgc.nK,hgc.zN⟩;have hGl:=hG.q h2.1 (fun b hb=>hQ.ty hb);refine⟨rfl,X',⟨hGl,_,fs,m,h1,hC,hd,Bq,ha.1⟩,h2,fun e1 hk=>?_⟩;obtain⟨t,hS⟩:=(hC.more hk).rX.Ep;exact⟨hGl,_,fs,m,t,h1,hS,hd,Bq,ha.1,fun _=>by show _<=a;omega⟩
theorem z_length (h:CAt w ps qp d aA g k sf X):
 H K 40 #[U (M ⟨qp,0,O⟩)] w fun e w'=>e=G (.tuple #[I V (g.1.length:Int),I V 0])/\w'=w:=by
 obtain⟨hG,s,fs,m,hQ,hH,-⟩:=h;obtain⟨t,hS⟩:=hH.rX.Ep;have xY:s.aS=true:=hS.snd.op;have:=VH hQ;rw[xY]at this;simp only[if_true]at this;rw[hS.len];exact this
theorem z_done (h:CAt w ps qp d aA g k sf X):
 H K 25 #[U (M ⟨qp,0,O⟩)] w fun e w'=>e=G (.tuple #[I V g.2.2.2,I V 0])/\w'=w:=by
 obtain⟨hG,s,fs,m,hQ,hH,-⟩:=h;obtain⟨t,hS⟩:=hH.rX.Ep;have xY:s.aS=true:=hS.snd.op;have:=xdone hQ;rw[xY]at this;simp only[if_true]at this;rw[hS.done];exact this
theorem z_shows (h:CAt w ps qp d aA g k sf X)(hm:eU w v g d):
 H K 26 #[U (M ⟨qp,0,O⟩),v] w fun e w'=>e=G (.bool true)/\aJ w w':=by
 have b1:(g.1.length:Int)<=5000:=by
  obtain⟨hG,s,fs,m,hQ,hH,-⟩:=h;obtain⟨t,hS⟩:=hH.rX.Ep;have h1:=hS.len;have h2:=hS.snd.bK.long;omega
 refine Xz (fun W hW=>z_length (h.aM hW)) (fun W hW=>z_done (h.aM hW)) (fun W hW=>?_) hm b1;obtain⟨hG,s,fs,m,hQ,hH,hd,hgc,haf⟩:=h.aM hW;obtain⟨t,hS⟩:=hH.rX.Ep;refine(xread hQ (jK hS.snd.gs hgc haf) (by omega)).mono ?_;rintro e w' ⟨rfl,hg⟩;refine⟨?_,hg⟩;have er:mX (s,fs,m) 0 (g.1.length:Int)=mX (aY s,fs,m) 0 (g.1.length:Int):=rfl;rw[er];obtain⟨-,c2⟩:=KC hS (pos:=0) (n:=(g.1.length:Int));obtain⟨e1,e2⟩:=c2 (by omega);have e3:(mX (aY s,fs,m) 0 (g.1.length:Int)).1=aR g.1:=pW (by rw[e2];simp[aR]);rw[e1,e3]
def CDo (w w':F)(ps:Nat->Addr)(qp d:Nat)(X:Nat->Prop)(aA H':List Gm)(g g':Gm)(k sf sf':Nat)(c c':Int):Prop:=Ya w w' (fun W aB=>(c=c'/\CAt W ps qp d H' g' k sf' aB)\/(c=10/\DAt W ps qp d aA g k sf aB)) X
theorem z_sync (h:CAt w ps qp d aA g k sf X):
 H K 30 #[U (M ⟨qp,0,O⟩)] w fun e w'=> ∃c,e=G (I V c)/\CDo w w' ps qp d X aA aA g g (k+1) sf aA.length c 0:=by
 obtain⟨hG,s,fs,m,hQ,hH,hd,hgc,haf⟩:=h;obtain⟨t,hS⟩:=hH.rX.Ep;refine(qsync hQ hG (jK hS.snd.gs hgc haf)).mono ?_;rintro e w' ⟨rfl,X',q1,q2⟩;have hGl:=hG.q q2.1 (fun b hb=>hQ.ty hb);rcases cst_sync hH hgc haf hd with⟨s',y,e,p1,p2,p3,p4⟩|⟨bN,e,p1,p2⟩
 ·rw[e]at q1 ⊢;exact⟨_,rfl,X',Or.inl ⟨rfl,hGl,s',y.1,y.2,q1,p1.more (by omega),p2,p3,p4⟩,q2⟩
 ·rw[e]at q1 ⊢;exact⟨_,rfl,X',Or.inr ⟨rfl,hGl,_,bN,m,q1,rfl,p1,p2.more (by omega)⟩,q2⟩
theorem z_ckpt (h:CAt w ps qp d aA g k sf X)(hk:k<=122):
 H K 31 #[U (M ⟨qp,0,O⟩)] w fun e w'=> ∃c,e=G (I V c)/\CDo w w' ps qp d X aA aA g g (k+1) sf aA.length c 0:=by
 obtain⟨hG,s,fs,m,hQ,hH,hd,hgc,haf⟩:=h;obtain⟨t,hS⟩:=hH.rX.Ep;refine(z_ hQ hG (jK hS.snd.gs hgc haf) (by omega)).mono ?_;rintro e w' ⟨rfl,X',q1,q2⟩;have hGl:=hG.q q2.1 (fun b hb=>hQ.ty hb);rcases cst_ckpt hH hk hgc haf hd with⟨s',y,e,p1,p2,p3,p4⟩|⟨bN,e,p1,p2⟩
 ·rw[e]at q1 ⊢;exact⟨_,rfl,X',Or.inl ⟨rfl,hGl,s',y.1,y.2,q1,p1,p2,p3,p4⟩,q2⟩
 ·rw[e]at q1 ⊢;exact⟨_,rfl,X',Or.inr ⟨rfl,hGl,_,bN,m,q1,rfl,p1,p2⟩,q2⟩
def CcAt (w:F)(ps:Nat->Addr)(qp d:Nat)(aA:List Gm)(g:Gm)(k sf:Nat)(X:Nat->Prop):Prop:=Gl w ps/\∃s fs m,pF w qp { s with aS:=false } fs m X/\Cst (aY s,fs,m) aA g k sf/\s.depth=(d:Int)/\fU s/\0<=s.after
theorem z_close (h:CAt w ps qp d aA g k sf X):
 H K 32 #[U (M ⟨qp,0,O⟩)] w fun e w'=>e=G (I V 0)/\∃X',CcAt w' ps qp d aA g k sf X'/\Dk w w' X X':=by
 obtain⟨hG,s,fs,m,hQ,hH,hr⟩:=h;obtain⟨t,hS⟩:=hH.rX.Ep;have xY:s.aS=true:=hS.snd.op;have e:jW s=({ s with aS:=false },0):=by unfold jW;rw[if_pos xY]
 refine(BJ hQ).mono ?_;rintro e' w' ⟨rfl,X',h1,h2⟩;rw[e]at h1 ⊢;exact⟨rfl,X',⟨hG.q h2.1 (fun b hb=>hQ.ty hb),s,fs,m,h1,hH,hr⟩,h2⟩
theorem z_open (h:CcAt w ps qp d aA g k sf X):
 H K 24 #[U (M ⟨qp,0,O⟩)] w fun e w'=>e=G (I V 0)/\∃X',CAt w' ps qp d aA g k sf X'/\Dk w w' X X':=by
 obtain⟨hG,s,fs,m,hQ,hH,hd,hgc,haf⟩:=h;obtain⟨t,hS⟩:=hH.rX.Ep;have xY:s.aS=true:=hS.snd.op;have e:jW s=({ s with aS:=false },0):=by unfold jW;rw[if_pos xY]
 have hr:=Md hS.snd;have MW:=JS (jK hS.snd.gs hgc haf);simp only at MW;rw[e]at MW;refine(KL hQ hG MW).mono ?_;rintro e' w' ⟨rfl,X',h1,h2⟩;rw[hr]at h1 ⊢;exact⟨rfl,X',⟨hG.q h2.1 (fun b hb=>hQ.ty hb),s,fs,m,h1,hH,hd,hgc,haf⟩,h2⟩
theorem z_again (h:DAt w ps qp d aA g k sf X):
 H K 24 #[U (M ⟨qp,0,O⟩)] w fun e w'=>e=G (I V 0)/\∃j gj,sf<=j/\j<=aA.length/\(aA++ [g])[j]?=M gj/\gj.2.2.2=(j:Int)/\∃X',CAt w' ps qp d (aA.take j) gj k j X'/\Dk w w' X X':=by
 obtain⟨hG,s,fs,m,hQ,ho,hB,j,gj,z,j1,j2,j3,e,hC,hd,hz⟩:=h;refine(KL (D:=0) hQ hG (GS.shut hB ho)).mono ?_;rintro e' w' ⟨rfl,X',h1,h2⟩;rw[e]at h1 ⊢;obtain⟨zaz,zb,zc⟩:=z;simp only at h1 hz hd hC;obtain⟨t,hS⟩:=hC.rX.Ep
 have hl:((aA.take j).length:Int)=gj.2.2.2:=by
  obtain⟨t,rs,ms,ts,gs,q1,q2,q3,q4,q5,q6,q7,-⟩:=hC;exact q7
 rw[List.length_take,Nat.min_eq_left j2]at hl;exact⟨rfl,j,gj,j1,j2,j3,hl.symm,X',⟨hG.q h2.1 (fun b hb=>hQ.ty hb),zaz,zb,zc,h1,by rw[hz];exact hC,hd,hS.snd.gs.bk.bK,hS.snd.gs.bk.qC⟩,h2⟩
theorem z_kept (h:CAt w ps qp d aA g k sf X)(hk:k<=122):
 H K 22 #[U (M ⟨qp,0,O⟩),I V kind] w fun e w'=> ∃c,e=G (I V c)/\CDo w w' ps qp d X aA aA g g (k+1) sf (if kind=6\/kind=7 then aA.length else sf) c 0:=by
 have hS:=z_sync h;have hC:=z_ckpt h hk;have hX:=z_close h;clear h;by_cases k1:kind=6
 ·subst k1;go_enter Tryz.func22,Tryz.ntmps22
  go_wp2_with (go_at_call 30;refine hS.mono ?_;rintro e w' ⟨c,rfl,hd⟩)
  go_ret;exact⟨c,rfl,hd⟩
 ·by_cases k2:kind=7
  ·subst k2;go_enter Tryz.func22,Tryz.ntmps22
   go_wp2_with (go_at_call 31;refine hC.mono ?_;rintro e w' ⟨c,rfl,hd⟩)
   go_ret;exact⟨c,rfl,hd⟩
  ·have p1:(kind==6)=false:=by simpa using k1
   have p2:(kind==7)=false:=by simpa using k2
   have k3:¬(kind=6\/kind=7):=by omega
   rw[if_neg k3];clear k3;go_enter Tryz.func22,Tryz.ntmps22
   go_wp2_with (first|(go_at_call 32;refine hX.mono ?_;rintro e w1 ⟨rfl,X1,hc,DL⟩;have hO:=z_open hc)|(go_at_call 24;refine hO.mono ?_;rintro e w2 ⟨rfl,X2,hd2,WX⟩))
   go_ret;exact⟨0,rfl,X2,Or.inl ⟨rfl,hd2.more (by omega)⟩,DL.trans WX⟩
theorem cdo_act {pos n:Int}{text:ByteArray}(hG:Gl w ps)(hQ:pF w qp s fs m X)(hC:Cst (aY s,fs,m) aA g k sf)(hd:s.depth=(d:Int))(hgc:fU s)(haf:0<=s.after)(hk:k<=400)(hK:isK kind)(key:(eZ (aY s,fs,m) kind pos n text).2=c/\∃t',nG (eZ (aY s,fs,m) kind pos n text).1 g' (k+1) t')(hq:vV w w' qp X (eZ (s,fs,m) kind pos n text).1):
 CDo w w' ps qp d X aA (Mx aA g g') g g' (k+1) sf sf (eZ (s,fs,m) kind pos n text).2 c:=by
 obtain⟨X',q1,q2⟩:=hq;have hGl:=hG.q q2.1 (fun b hb=>hQ.ty hb);rcases cst_act hC hk hgc haf hd hK key with⟨s',y,e,p1,p2,p3,p4⟩|⟨bN,e,p1,p2⟩
 ·rw[e]at q1 ⊢;exact⟨X',Or.inl ⟨rfl,hGl,s',y.1,y.2,q1,p1,p2,p3,p4⟩,q2⟩
 ·rw[e]at q1 ⊢;exact⟨X',Or.inr ⟨rfl,hGl,_,bN,m,q1,rfl,p1,p2.more (by omega)⟩,q2⟩
def CalC (w w':F)(ps:Nat->Addr)(qp d:Nat)(X:Nat->Prop)(aA:List Gm)(k sf:Nat)(e:Ending)(g:Gm)(kind m:Int)(S:ByteArray):Prop:=
 ∃pos c v',e=G (.tuple #[I V c,I V (eT g kind pos m S d),v'])/\CDo w w' ps qp d X aA (Mx aA g (dL g kind pos m S d)) g (dL g kind pos m S d) (k+1) sf sf c (eT g kind pos m S d)/\eU w' v' (dL g kind pos m S d) d
theorem z_call {q n m:Int}{S:ByteArray}(h:CAt w ps qp d aA g k sf X)(hm:eU w v g d)(hk:k<=400)(hd:d<=50)(pQ: -9223372036854775808<=n)(oW:n<=9223372036854775807)(BP: -9223372036854775808<=m)(hm2:m<=9223372036854775807)(hs:S.size<=140737488355328):
 H K 23 #[U (M ⟨qp,0,O⟩),v,.agg #[I V q,I V n,I V m,I V kk,.string S],I V (d:Int)] w fun e w'=>CalC w w' ps qp d X aA k sf e g q m S:=by
 obtain⟨hG,s,fs,mm,hQ,hC,hdd,hgc,haf⟩:=h;obtain⟨t,ht⟩:=hC.rX.Ep
 have b1:(g.1.length:Int)<=5000:=by
  have h1:=ht.len;have h2:=ht.snd.bK.long;omega
 have b3:g.2.2.2<=900000:=by
  have h1:=ht.done;have h2:=ht.snd.gs.done ht.snd.op;omega
 have hgw:=jK ht.snd.gs hgc haf;have rJ:(aY s).depth.toNat=d:=sK (show(aY s).depth=(d:Int) from hdd);have fam:∀(E:Int->Int) (r:Int),VK ps (fun W aB=>(E r=eT g q r m S d/\CAt W ps qp d (Mx aA g (dL g q r m S d)) (dL g q r m S d) (k+1) sf aB)\/(E r=10/\DAt W ps qp d aA g (k+1) sf aB)):=fun E r=>fam_or fam_cat fam_dat
 have fin:∀ {E:Int->Int} {e w'},Yb w w' (fun r W aB=>(E r=eT g q r m S d/\CAt W ps qp d (Mx aA g (dL g q r m S d)) (dL g q r m S d) (k+1) sf aB)\/(E r=10/\DAt W ps qp d aA g (k+1) sf aB)) E X d e g q m S->CalC w w' ps qp d X aA k sf e g q m S:=fun {E e w'} hc=>by
  obtain⟨r,v',rfl,h1,h2⟩:=hc;exact⟨r,_,v',rfl,h1,h2⟩
 have hT:∀b,X b->lD w b:=fun b hb=>hQ.ty hb
 by_cases h1:q=1
 ·subst h1;refine(KR (E:=fun r=>(eZ (s,fs,mm) 73 r 0 S).2) hG hT (fam _) (fun W hW r=>?_) hm b1 b3 hd pQ oW hs).mono (fun _ _ hc=>fin hc);refine(BF (n:=0) (hQ.aM hW) (hG.aM hW) hgw (by omega) hs).mono ?_;rintro e w' ⟨rfl,hq⟩;have key:=key_ins ht hk rJ r 0 S;have eg:dL g 1 r m S d=(qZ g r S d).1:=by simp[dL]
  have ec:eT g 1 r m S d=(qZ g r S d).2:=by simp[eT]
  refine⟨rfl,?_⟩;rw[eg,ec];exact cdo_act (hG.aM hW) (hQ.aM hW) hC hdd hgc haf hk (Or.inl rfl) key hq
 by_cases h2:q=2
 ·subst h2;refine(KS (E:=fun r=>(eZ (s,fs,mm) 68 r m ⟨#[]⟩).2) hG hT (fam _) (fun W hW r=>?_) hm b1 b3 hd pQ oW BP hm2).mono (fun _ _ hc=>fin hc);refine(UY (hQ.aM hW) (hG.aM hW) hgw (by omega) hm2).mono ?_;rintro e w' ⟨rfl,hq⟩;have key:=key_del ht hk rJ r m ⟨#[]⟩;have eg:dL g 2 r m S d=(vB g r m d).1:=by simp[dL]
  have ec:eT g 2 r m S d=(vB g r m d).2:=by simp[eT]
  refine⟨rfl,?_⟩;rw[eg,ec];exact cdo_act (hG.aM hW) (hQ.aM hW) hC hdd hgc haf hk (Or.inr (Or.inl rfl)) key hq
 by_cases h3:q=3
 ·subst h3;refine(Yc (E:=fun _=>(eZ (s,fs,mm) 85 0 0 ⟨#[]⟩).2) hG hT (fam _) (fun W hW=>?_) hm b1 b3 hd pQ oW).mono (fun _ _ hc=>fin hc);refine(w_ (pos:=0) (n:=0) (hQ.aM hW) (hG.aM hW) hgw (by omega)).mono ?_;rintro e w' ⟨rfl,hq⟩;have key:=W_ ht hk rJ 0 0 ⟨#[]⟩;have eg:dL g 3 0 m S d=(nC g d).1:=by simp[dL]
  have ec:eT g 3 0 m S d=(nC g d).2:=by simp[eT]
  refine⟨rfl,?_⟩;rw[eg,ec];exact cdo_act (hG.aM hW) (hQ.aM hW) hC hdd hgc haf hk (Or.inr (Or.inr (Or.inl rfl))) key hq
 by_cases h4:q=4
 ·subst h4;refine(Yd (E:=fun _=>(eZ (s,fs,mm) 82 0 0 ⟨#[]⟩).2) hG hT (fam _) (fun W hW=>?_) hm b1 b3 hd pQ oW).mono (fun _ _ hc=>fin hc);refine(qredo (pos:=0) (n:=0) (hQ.aM hW) (hG.aM hW) hgw (by omega)).mono ?_;rintro e w' ⟨rfl,hq⟩;have key:=X_ ht hk rJ 0 0 ⟨#[]⟩;have eg:dL g 4 0 m S d=(nD g d).1:=by simp[dL]
  have ec:eT g 4 0 m S d=(nD g d).2:=by simp[eT]
  refine⟨rfl,?_⟩;rw[eg,ec];exact cdo_act (hG.aM hW) (hQ.aM hW) hC hdd hgc haf hk (Or.inr (Or.inr (Or.inr rfl))) key hq
 have eg:∀r,dL g q r m S d=g:=fun r=>by simp[dL,h1,h2,h3,h4]
 have ec:∀r,eT g q r m S d=0:=fun r=>by simp[eT,h1,h2,h3,h4]
 refine(Ye (E:=fun _=>0) hG hT (fam _) (Or.inl ⟨(ec 0).symm,?_⟩) rfl hm b1 pQ oW h1 h2 h3 h4).mono (fun _ _ hc=>fin hc);rw[eg,Sd];exact⟨hG,s,fs,mm,hQ,hC.more (by omega),hdd,hgc,haf⟩
theorem call_code (g:Gm)(kind pos m:Int)(S:ByteArray)(d:Nat):eT g kind pos m S d≠10:=by
 unfold eT qZ vB nC nD;split
 ·split
  ·simp
  ·split
   ·simp
   ·split<;>simp
 ·split
  ·split<;>simp
  ·split
   ·split<;>simp
   ·split
    ·split<;>simp
    ·simp
theorem cat_fresh {T:Nat}(h:rF w ps qp d [] ([],[],[],0) 0 T X):CAt w ps qp d [] ([],[],[],0) 0 0 X:=by
 obtain⟨hG,s,fs,m,hQ,hH,hd,hW,-⟩:=h;obtain⟨t,hS⟩:=hH.Ep;have hfs:=sto_zero hS;simp only at hfs;subst hfs;refine⟨hG,s,[],m,hQ,cst_full hH ?_ ?_ ?_,hd,hW.bK,hW.qC⟩
 ·exact Int.le_refl _
 ·exact Int.le_refl _
 ·exact Int.le_refl _
theorem nW.take {c:Nat}(h:nW w B (Z (M ⟨gb,0,O⟩) n c) l)(hj:j<=l.length):nW w B (Z (M ⟨gb,0,O⟩) j c) (l.take j):=by
 have hlen:(dm (l.take j)).length=j*4:=by rw[RO,List.length_take];omega
 have hl:(l.take j).length=j:=by rw[List.length_take];omega
 unfold nW;rw[hl];refine⟨hlen,?_⟩;rcases h.2 with⟨e,-⟩|⟨g,cap,aT,e,ZU,hh,hnc,hm,gQ,Yr⟩
 ·cases e
 ·simp only[Value.slice.injEq,Option.some.injEq]at e;obtain⟨e1,e2,e3⟩:=e;cases e1
  subst e3;refine Or.inr ⟨gb,c,aT,rfl,ZU,hh,by omega,hm,gQ,?_⟩;have e4:dm l=dm (l.take j)++dm (l.drop j):=by rw[<-Sj,List.take_append_drop]
  rw[e4]at Yr;have:=congrArg (List.take (j*4)) Yr;rw[List.take_take,Nat.min_eq_left (by omega),List.take_left' hlen]at this;exact this
theorem nW.far (h:nW w B v l)(hF:Fr w w' (fun b=>b=R))(hR:∀r,v.ownBlock=M r->r≠R):nW w' B v l:=fK h hF (fun b _ hb _ e=>hR b hb e)
def ActsK (w:F)(N:Nat)(ao:Option Addr)(len:Nat):Prop:=len=0\/∃b off,ao=M ⟨b,off,O⟩/\b<N/\∀i,i<len->∃q n m kk S,KY w b (off+i*5) q n m kk S/\-9223372036854775808<=kk/\kk<=9223372036854775807
theorem ActsK.dk {ao:Option Addr}{X':Nat->Prop}(h:ActsK w N ao len)(hk:Dk w w' X X')(hN:N<=w.heap.size)(hX:∀b,X b->N<=b):ActsK w' N ao len:=by
 rcases h with h|⟨b,off,e,hb,h⟩
 ·exact Or.inl h
 ·refine Or.inr ⟨b,off,e,hb,fun i hi=>?_⟩;obtain⟨q,n,m,kk,S,⟨h1,h2,h3,c0,c1,c2,c3,c4⟩,hkk⟩:=h i hi;have hbb:w'.heap[b]?=w.heap[b]?:=hk.1.2 b (by omega) (fun e=>by have:=hX b e;omega);have key:∀(o:Nat) (v:Y),w.cell? ⟨b,o,O⟩=M v->w'.cell? ⟨b,o,O⟩=M v:=fun o v hv=>(World.cell?_of_block (a:=⟨b,o,O⟩) hbb).trans hv
  exact⟨q,n,m,kk,S,⟨h1,h2,h3,key _ _ c0,key _ _ c1,key _ _ c2,key _ _ c3,key _ _ c4⟩,hkk⟩
theorem act_kk {aA:Type}{iQ:TypeId×Y->aA}{spare:Nat->Bool}{held:Bool}{cs:List Y}{y:DataW aA×List MemPlace}{a:Addr}
 (h1:w.cells? 0 a 5=M cs)(h2:DataW.trod iQ K w 0 spare held n 39 cs=M y)(hk:w.cell? (a.add 3)=M (I V kk)):i64 kk:=by
 obtain⟨_,hlen,hcell⟩:=World.cells?_some h1;obtain⟨xs,k,_,_,_,hxl,hf⟩:=DataW.trod_struct Tryz.underlying39 h2
 match xs,hxl,cs,hlen with
 | [y0,y1,y2,y3,y4],_,[v0,v1,v2,v3,v4],_=>
  have g3:=hf 3 _ rfl;simp[Tryz.cellsInt]at g3;obtain⟨c3,e3,-,w3⟩:=DataW.trod_int Tryz.underlying3 g3;simp at e3;have:=hcell 3 (by omega);rw[hk]at this;simp only[List.getElem?_cons_succ,List.getElem?_cons_zero,Option.some.injEq]at this;rw[e3]at this;simp only[Value.int.injEq,true_and]at this;rw[this];exact tJ w3
theorem acts_openK {aA:Type}{iQ:TypeId×Y->aA}{a0:Option Addr}{cap:Nat}{d0:DataW aA}{p0:List MemPlace}(h0:DataW.Trod iQ K W 0 (fun _=>true) true 25 (Z a0 len cap) d0 p0)(hb:Rows.uptoBulk d0<=1048576):ActsK W W.heap.size a0 len/\len<=1048576:=by
 obtain⟨k1,k2⟩:=Kk h0 hb;refine⟨?_,k2⟩;rcases k1 with k1|⟨b,off,rfl,Jw,k1⟩
 ·exact Or.inl k1
 ·refine Or.inr ⟨b,off,rfl,Jw,fun i hi=>?_⟩;obtain⟨q,n,m,kk,S,hA⟩:=k1 i hi;refine⟨q,n,m,kk,S,hA,?_⟩;obtain⟨fuel,hf⟩:=h0;rcases open_slice Tryz.underlying25 hf with⟨hcs,hx⟩|⟨a,len',yZ,m',n',D,Pl,hcs,pR,hl,hm,hmm,hx,hel⟩
  ·simp[Value.cells]at hcs
  ·simp[Value.cells]at hcs;obtain⟨rfl,rfl,rfl⟩:=hcs;simp only[if_true]at hmm;rw[Tryz.cellsAct]at hel;obtain⟨cs,g1,g2⟩:=hel i (by omega);have hz:=hA.2.2.2.2.2.2.1;exact act_kk g1 g2 (by rw[add_plain,add_plain];exact hz)
theorem pick_v {n:Int}(Ig: -9223372036854775808<=c)(Oo:c<=9223372036854775807)(hn:1<=n)(oW:n<=9223372036854775807):∃r:Int,0<=r/\r<n/\∀w,H K 15 #[I V c,I V n] w fun e w'=>e=G (I V r)/\w'=w:=by
 by_cases h0:c<0
 ·have Yo:(n==0)=false:=by simp;omega
  refine⟨-((c+1).tmod n),?_,?_,fun w=>?_⟩
  ·rw[<-Int.neg_tmod];exact(SI (by omega) hn).1
  ·rw[<-Int.neg_tmod];exact(SI (by omega) hn).2
  ·go_enter Tryz.func15,Tryz.ntmps15
   go_wp2
   go_ret;exact⟨rfl,rfl⟩
 ·have Yo:(n==0)=false:=by simp;omega
  refine⟨c % n,Int.emod_nonneg _ (by omega),Int.emod_lt_of_pos _ (by omega),fun w=>?_⟩;go_enter Tryz.func15,Tryz.ntmps15
  go_wp2
  go_ret;exact⟨rfl,rfl⟩
theorem MdAt.q (h:MdAt w B g d)(hF:Fr w w' aB)(hY:∀b,aB b->lD w b):MdAt w' B g d:=by
 obtain⟨uo,un,uc,ro,rn,rc,hb,hm⟩:=h;exact⟨uo,un,uc,ro,rn,rc,hF.at hb (fun e=>(hY _ e).ne hb (by decide) rfl),hm.q hF hY⟩
theorem MdAt.aM (h:MdAt w B g d)(hg:aJ w w'):MdAt w' B g d:=by
 obtain⟨uo,un,uc,ro,rn,rc,hb,hm⟩:=h;exact⟨uo,un,uc,ro,rn,rc,(hg.block _ (aK hb)).trans hb,hm.aM hg⟩
theorem nW.nthZ {q:MQ}(h:nW w B v l)(hj:l[j]?=M q):∃g cap,v=Z (M ⟨g,0,O⟩) l.length cap/\l.length<=cap/\w.cell? ⟨g,j*4,O⟩=M (.string q.1)/\w.cell? ⟨g,j*4+1,O⟩=M (Z q.2.1.1 q.2.1.2.1 q.2.1.2.2)/\w.cell? ⟨g,j*4+2,O⟩=M (Z q.2.2.1.1 q.2.2.1.2.1 q.2.2.1.2.2)/\w.cell? ⟨g,j*4+3,O⟩=M (I V q.2.2.2):=by
 have bV:=(List.getElem?_eq_some_iff.1 hj).1
 have hl:l=l.take j++(q::l.drop (j+1)):=by
  have:=List.drop_eq_getElem_cons bV;rw[(List.getElem?_eq_some_iff.1 hj).2]at this;rw[<-this,List.take_append_drop]
 have hlen:(dm (l.take j)).length=j*4:=by rw[RO,List.length_take];omega
 rcases h.2 with⟨-,e⟩|⟨g,cap,aT,rfl,ZU,-,hnc,-⟩
 ·omega
 ·have hc:=fun j hj=>World.ownsRow.cellAt h j hj
  have key:∀i,i<4->w.cell? ⟨g,j*4+i,O⟩=(MQ.cells q)[i]?:=fun i hi=>by
   rw[hc _ (by omega)]
   have e:dm l=dm (l.take j)++(MQ.cells q++dm (l.drop (j+1))):=by
    rw[<-show dm (q::l.drop (j+1))=MQ.cells q++dm (l.drop (j+1)) by simp[dm],<-Sj,<-hl]
   rw[e,List.getElem?_append_right (by omega),hlen,show j*4+i-j*4=i by omega,List.getElem?_append_left (by simp[MQ.cells];omega)]
  exact⟨g,cap,rfl,hnc,key 0 (by omega),key 1 (by omega),key 2 (by omega),key 3 (by omega)⟩
def aAS (w wr:F)(d:Nat)(v:Y)(Hs:List Gm):Prop:=∃l,AlM wr l Hs d/\nW wr (w.heap.size+1) v l
theorem AlM.to (h:AlM w l aA d)(f:∀q g,eU w (MQ.agg q) g d->eU w' (MQ.agg q) g d):AlM w' l aA d:=⟨h.1,fun j q g a b=>f _ _ (h.2 j q g a b)⟩
theorem aAS.q (h:aAS w wr d v Hs)(hF:Fr wr w' aB)(hY:∀b,aB b->lD wr b):aAS w w' d v Hs:=by
 obtain⟨l,h1,h2⟩:=h;exact⟨l,h1.to (fun _ _ k=>k.q hF hY),h2.q hF hY⟩
theorem aAS.aM (h:aAS w wr d v Hs)(hg:aJ wr w'):aAS w w' d v Hs:=by
 obtain⟨l,h1,h2⟩:=h;exact⟨l,h1.to (fun _ _ k=>k.aM hg),h2.aM hg⟩
theorem aAS.sN (h:aAS w wr d v Hs)(hb:wr.heap[R]?=M (C #[x,y,z,u] 36 (0,0)))(hR:∀r,v.ownBlock=M r->r≠R)(a b c e:Y):aAS w ((((wr.setCell ⟨R,0,O⟩ a).setCell ⟨R,1,O⟩ b).setCell ⟨R,2,O⟩ c).setCell ⟨R,3,O⟩ e) d v Hs:=by
 obtain⟨l,h1,h2⟩:=h;exact⟨l,h1.to (fun _ _ k=>k.sN hb _ _ _ _),h2.far (fr4 wr R a b c e) hR⟩
theorem aAS.take {c:Nat}(h:aAS w wr d (Z (M ⟨gb,0,O⟩) n c) Hs)(hj:j<=Hs.length):aAS w wr d (Z (M ⟨gb,0,O⟩) j c) (Hs.take j):=by
 obtain⟨l,h1,h2⟩:=h;refine⟨l.take j,⟨by rw[List.length_take,List.length_take,h1.1],fun i q g a b=>?_⟩,h2.take (by rw[h1.1];exact hj)⟩
 have hi:i<j:=by
  have:=(List.getElem?_eq_some_iff.1 a).1;rw[List.length_take]at this;omega
 rw[List.getElem?_take_of_lt hi]at a b;exact h1.2 i q g a b
theorem aAS.nth {c:Nat}{gj:Gm}(h:aAS w wr d (Z (M ⟨gb,0,O⟩) n c) Hs)(hj:Hs[j]?=M gj):∃a1 a2 a3 b1 b2 b3,wr.cell? ⟨gb,j*4,O⟩=M (.string (aR gj.1))/\wr.cell? ⟨gb,j*4+1,O⟩=M (Z a1 a2 a3)/\wr.cell? ⟨gb,j*4+2,O⟩=M (Z b1 b2 b3)/\wr.cell? ⟨gb,j*4+3,O⟩=M (I V gj.2.2.2)/\eU wr (.agg #[.string (aR gj.1),Z a1 a2 a3,Z b1 b2 b3,I V gj.2.2.2]) gj d:=by
 obtain⟨l,h1,h2⟩:=h;have bV:j<l.length:=by rw[h1.1];exact(List.getElem?_eq_some_iff.1 hj).1
 obtain⟨qjz,hq⟩:∃qjz,l[j]?=M qjz:=⟨_,List.getElem?_eq_getElem bV⟩;obtain⟨g',cap,e,-,z0,z1,z2,z3⟩:=h2.nthZ hq;simp only[Value.slice.injEq,Option.some.injEq]at e;have eg:=e.1;cases eg
 have hm:=h1.2 j qjz gj hq hj;obtain⟨su,sr,e,-,-⟩:=hm.form;obtain⟨t0,⟨u1,u2,u3⟩,⟨r1,r2,r3⟩,dn⟩:=qjz;simp only[MQ.agg,Value.agg.injEq,Array.mk.injEq,List.cons.injEq,Value.string.injEq,Value.int.injEq,true_and,and_true]at e;obtain⟨rfl,e1,e2,rfl⟩:=e;exact⟨u1,u2,u3,r1,r2,r3,z0,z1,z2,z3,hm⟩
theorem aAS.snoc {q:MQ}(h1:AlM wr l Hs d)(f:∀q g,eU wr (MQ.agg q) g d->eU w' (MQ.agg q) g d)(hm:eU w' (MQ.agg q) g d)(ho:nW w' (w.heap.size+1) v (l++ [q])):aAS w w' d v (Hs++ [g]):=by
 refine⟨l++ [q],⟨by simp[h1.1],fun i q' g' a b=>?_⟩,ho⟩;by_cases hi:i<l.length
 ·rw[List.getElem?_append_left hi]at a;rw[List.getElem?_append_left (by rw[<-h1.1];exact hi)]at b;exact f _ _ (h1.2 i q' g' a b)
 ·rw[List.getElem?_append_right (by omega)]at a;rw[List.getElem?_append_right (by rw[<-h1.1];omega),<-h1.1]at b
  have hz:i-l.length=0:=by
   have:=(List.getElem?_eq_some_iff.1 a).1;simp at this;omega
  rw[hz]at a b;simp at a b;rw[<-a,<-b];exact hm
def CrI (w wr:F)(ps:Nat->Addr)(qp d:Nat)(X:Nat->Prop)(aA:List Gm)(g:Gm)(k sf:Nat)(v:Y):Prop:=∃X',CAt wr ps qp d aA g k sf X'/\Dk w wr X X'/\MdAt wr w.heap.size g d/\aAS w wr d v (aA++ [g])
structure CrR (w wr:F)(d N:Nat)(aA:List Gm)(g gn:Gm)(v:Y):Prop where
 m:MdAt wr w.heap.size g d
 n:MdAt wr N gn d
 row:aAS w wr d v (aA++ [g])
 far:∀r,v.ownBlock=M r->r≠N
 lt:w.heap.size<N
theorem CrR.q (h:CrR w wr d N aA g gn v)(hF:Fr wr w' aB)(hY:∀b,aB b->lD wr b):CrR w w' d N aA g gn v:=⟨h.m.q hF hY,h.n.q hF hY,h.row.q hF hY,h.far,h.lt⟩
theorem CrR.aM (h:CrR w wr d N aA g gn v)(hg:aJ wr w'):CrR w w' d N aA g gn v:=⟨h.m.aM hg,h.n.aM hg,h.row.aM hg,h.far,h.lt⟩
theorem CrR.set (h:CrR w wr d N aA g gn v)(hm:eU wr (.agg #[.string (aR g'.1),Z a1 a2 a3,Z b1 b2 b3,I V g'.2.2.2]) g' d):
 CrR w ((((wr.setCell ⟨N,0,O⟩ (.string (aR g'.1))).setCell ⟨N,1,O⟩ (Z a1 a2 a3)).setCell ⟨N,2,O⟩ (Z b1 b2 b3)).setCell ⟨N,3,O⟩ (I V g'.2.2.2)) d N aA g g' v:=by
 obtain⟨uo,un,uc,ro,rn,rc,hb,hmm⟩:=h.m;obtain⟨uo',un',uc',ro',rn',rc',pR,-⟩:=h.n;have hF:=fr4 wr N (.string (aR g'.1)) (Z a1 a2 a3) (Z b1 b2 b3) (I V g'.2.2.2);have bV:=h.lt;exact⟨⟨uo,un,uc,ro,rn,rc,hF.at hb (by omega),hmm.sN pR _ _ _ _⟩,⟨a1,a2,a3,b1,b2,b3,iP pR _ _ _ _,hm.sN pR _ _ _ _⟩,h.row.sN pR h.far _ _ _ _,h.far,h.lt⟩
theorem cr_put {H':List Gm}(hG:Gl w ps)(gL:aAS w wr d v Hs)(hfar:∀r,v.ownBlock=M r->r≠w.heap.size)(hb:wr.heap[w.heap.size]?=M (C #[x,y,z,u] 36 (0,0)))(hS:Ya w wr (fun W aB=>CAt W ps qp d H' gn k sf aB) X)(hm:eU wr (.agg #[.string T,Z a1 a2 a3,Z b1 b2 b3,I V dn]) gn d):
 Ya w ((((wr.setCell ⟨w.heap.size,0,O⟩ (.string T)).setCell ⟨w.heap.size,1,O⟩ (Z a1 a2 a3)).setCell ⟨w.heap.size,2,O⟩ (Z b1 b2 b3)).setCell ⟨w.heap.size,3,O⟩ (I V dn)) (fun W aB=>CAt W ps qp d H' gn k sf aB) X/\
 aAS w ((((wr.setCell ⟨w.heap.size,0,O⟩ (.string T)).setCell ⟨w.heap.size,1,O⟩ (Z a1 a2 a3)).setCell ⟨w.heap.size,2,O⟩ (Z b1 b2 b3)).setCell ⟨w.heap.size,3,O⟩ (I V dn)) d v Hs/\
 ((((wr.setCell ⟨w.heap.size,0,O⟩ (.string T)).setCell ⟨w.heap.size,1,O⟩ (Z a1 a2 a3)).setCell ⟨w.heap.size,2,O⟩ (Z b1 b2 b3)).setCell ⟨w.heap.size,3,O⟩ (I V dn)).heap[w.heap.size]?=M (C #[.string T,Z a1 a2 a3,Z b1 b2 b3,I V dn] 36 (0,0))/\
 eU ((((wr.setCell ⟨w.heap.size,0,O⟩ (.string T)).setCell ⟨w.heap.size,1,O⟩ (Z a1 a2 a3)).setCell ⟨w.heap.size,2,O⟩ (Z b1 b2 b3)).setCell ⟨w.heap.size,3,O⟩ (I V dn)) (.agg #[.string T,Z a1 a2 a3,Z b1 b2 b3,I V dn]) gn d:=
 ⟨gW fam_cat hG hS (Nat.le_refl _) hb _ _ _ _,gL.sN hb hfar _ _ _ _,iP hb _ _ _ _,hm.sN hb _ _ _ _⟩
theorem md_same (h:eU w (.agg #[.string T,y,z,I V dn]) g d):T=aR g.1/\dn=g.2.2.2:=by
 obtain⟨su,sr,e,-,-⟩:=h.form;simp only[Value.agg.injEq,Array.mk.injEq,List.cons.injEq,Value.string.injEq,Value.int.injEq,true_and,and_true]at e;exact⟨e.1,e.2.2.2⟩
theorem cri_end {w6:F}{c:Nat}(hS:Ya w w6 (fun W aB=>CAt W ps qp d aA g k sf aB) X)(gL:aAS w w6 d (Z (M ⟨gb,0,O⟩) n c) Hs)(hb:w6.heap[w.heap.size]?=M (C #[.string T,Z a1 a2 a3,Z b1 b2 b3,I V dn] 36 (0,0)))(hm:eU w6 (.agg #[.string T,Z a1 a2 a3,Z b1 b2 b3,I V dn]) g d)(hl:aA.length+1<=Hs.length)(hp:Hs.take (aA.length+1)=aA++ [g])(hg:aJ w6 W):CrI w W ps qp d X aA g k sf (Z (M ⟨gb,0,O⟩) (aA.length+1) c):=by
 obtain⟨X',h1,h2⟩:=hS;obtain⟨rfl,rfl⟩:=md_same hm;have hr:=gL.take hl;rw[hp]at hr;exact⟨X',h1.aM hg,h2.aM hg,⟨_,_,_,_,_,_,(hg.block _ (aK hb)).trans hb,hm.aM hg⟩,hr.aM hg⟩
theorem past_take {gj:Gm}(hj:j<=aA.length)(h:(aA++ [g])[j]?=M gj):(aA.take j).length=j/\(aA++ [g]).take (j+1)=aA.take j++ [gj]:=by
 have hl:(aA.take j).length=j:=by rw[List.length_take];omega
 refine⟨hl,?_⟩;have bV:=(List.getElem?_eq_some_iff.1 h).1;rw[List.take_succ_eq_append_getElem bV,(List.getElem?_eq_some_iff.1 h).2,List.take_append_of_le_length hj]
theorem own_row2 {c:Nat}(h:nW w B (Z (M ⟨gb,0,O⟩) n c) l)(hg:w.grownBy w' (M gb)):B<=gb/\gb<w.heap.size/\Fr w w' (fun b=>b=gb)/\∃aT,w.heap[gb]?=M (C aT 36 (0,0)):=by
 rcases h.2 with⟨e,-⟩|⟨g,cap,aT,e,ZU,hh,-⟩
 ·cases e
 ·simp only[Value.slice.injEq,Option.some.injEq]at e;have eg:=e.1;cases eg
  exact⟨ZU,aK hh,⟨hg.size,fun b hb hx=>hg.block b hb (fun e=>hx (by simpa using e))⟩,aT,hh⟩
def CrS (w wr:F)(ps:Nat->Addr)(qp d N:Nat)(X:Nat->Prop)(aA:List Gm)(g:Gm)(k sf sf':Nat)(v:Y)(c c':Int):Prop:=∃gn X',CrR w wr d N aA g gn v/\Dk w wr X X'/\(gn=g\/gn.2.2.2=g.2.2.2+1)/\((c=c'/\c≠10/\CAt wr ps qp d (Mx aA g gn) gn k sf' X')\/(c=10/\sf'=sf/\DAt wr ps qp d aA g k sf X'))
theorem crs_of {c':Int}(hR:CrR w wr d N aA g gn v)(hn:gn=g\/gn.2.2.2=g.2.2.2+1)(h:CDo w wr ps qp d X aA (Mx aA g gn) g gn k sf sf c c')(hc':c'≠10):CrS w wr ps qp d N X aA g k sf sf v c c':=by
 obtain⟨X',h1,h2⟩:=h;rcases h1 with⟨rfl,h1⟩|⟨rfl,h1⟩
 ·exact⟨gn,X',hR,h2,hn,Or.inl ⟨rfl,hc',h1⟩⟩
 ·exact⟨gn,X',hR,h2,hn,Or.inr ⟨rfl,rfl,h1⟩⟩
theorem cdo_set4 {H':List Gm}{sf':Nat}{cc c':Int}(hG:Gl w ps)(h:CDo w W ps qp d X aA H' g g' k sf sf' cc c')(hR:w.heap.size<=R)(hb:W.heap[R]?=M (C #[x,y,z,u] 36 (0,0)))(a b c e:Y):CDo w ((((W.setCell ⟨R,0,O⟩ a).setCell ⟨R,1,O⟩ b).setCell ⟨R,2,O⟩ c).setCell ⟨R,3,O⟩ e) ps qp d X aA H' g g' k sf sf' cc c':=gW (fam_or fam_cat fam_dat) hG h hR hb a b c e
theorem cr_kept {wA:F}(hS:CAt wA ps qp d aA g k sf X1)(hk:k<=122)(hR:CrR w wA d N aA g g v)(hK:Dk w wA X X1):
 H K 22 #[U (M ⟨qp,0,O⟩),I V kind] wA fun e w'=> ∃cc,e=G (I V cc)/\(cc=0\/cc=10)/\(∃aB,Fr wA w' aB/\∀b,aB b->lD wA b)/\CrR w w' d N aA g g v/\Hid (CrS w w' ps qp d N X aA g (k+1) sf (if cc=10 then sf else if kind=6\/kind=7 then aA.length else sf) v cc 0):=by
 refine(z_kept hS hk).mono ?_;rintro e w' ⟨cc,rfl,X',h1,h2⟩;have hT:∀b,X1 b->lD wA b:=fun b hb=>hS.ty hb
 have hR':=hR.q h2.1 hT;rcases h1 with⟨rfl,h1⟩|⟨rfl,h1⟩
 ·exact⟨0,rfl,Or.inl rfl,⟨X1,h2.1,hT⟩,hR',g,X',hR',hK.trans h2,Or.inl rfl,Or.inl ⟨rfl,by decide,by rw[Sd,if_neg (by decide)];exact h1⟩⟩
 ·exact⟨10,rfl,Or.inr rfl,⟨X1,h2.1,hT⟩,hR',g,X',hR',hK.trans h2,Or.inl rfl,Or.inr ⟨rfl,by rw[if_pos rfl],h1⟩⟩
theorem cr_call {wA:F}{vv:Y}{q n m:Int}{S:ByteArray}(hG:Gl w ps)(hS:CAt wA ps qp d aA g k sf X1)(hm:eU wA v g d)(hk:k<=400)(hd:d<=50)(pQ: -9223372036854775808<=n)(oW:n<=9223372036854775807)(BP: -9223372036854775808<=m)(hm2:m<=9223372036854775807)(hs:S.size<=140737488355328)(hR:CrR w wA d N aA g g vv)(hK:Dk w wA X X1):
 H K 23 #[U (M ⟨qp,0,O⟩),v,.agg #[I V q,I V n,I V m,I V kk,.string S],I V (d:Int)] wA fun e w'=> ∃cc c' T dn a1 a2 a3 b1 b2 b3 x y z u,e=G (.tuple #[I V cc,I V c',.agg #[.string T,Z a1 a2 a3,Z b1 b2 b3,I V dn]])/\w'.heap[N]?=M (C #[x,y,z,u] 36 (0,0))/\Hid (CrS w ((((w'.setCell ⟨N,0,O⟩ (.string T)).setCell ⟨N,1,O⟩ (Z a1 a2 a3)).setCell ⟨N,2,O⟩ (Z b1 b2 b3)).setCell ⟨N,3,O⟩ (I V dn)) ps qp d N X aA g (k+1) sf sf vv cc c'):=by
 refine(z_call hS hm hk hd pQ oW BP hm2 hs).mono ?_;rintro e w' ⟨pos,cc,v',rfl,h1,h2⟩;have hcd:=ZK g q pos m S d;have hcc:=call_code g q pos m S d;generalize dL g q pos m S d=g' at h1 h2 hcd;generalize eT g q pos m S d=c' at h1 hcc ⊢;have hT:∀b,X1 b->lD wA b:=fun b hb=>hS.ty hb
 obtain⟨X',-,WX⟩:=id h1;have hR':=hR.q WX.1 hT;obtain⟨su,sr,rfl,t1,t2⟩:=h2.form;obtain⟨a1,a2,a3,rfl⟩:=t1.form;obtain⟨b1,b2,b3,rfl⟩:=t2.form;obtain⟨uo,un,uc,ro,rn,rc,hb,-⟩:=hR'.n;exact⟨cc,c',_,_,a1,a2,a3,b1,b2,b3,_,_,_,_,rfl,hb,crs_of (hR'.set h2) hcd (cdo_set4 hG (pdo_dk hK h1) (Nat.le_of_lt hR.lt) hb _ _ _ _) hcc⟩
theorem crashed_walk {QG:Int}{ao:Option Addr}{cap:Nat}(hG:Gl w ps)(hA:ActsK w w.heap.size ao len)(DL: -9223372036854775808<=QG)(hd2:QG<=9223372036854775807)(hlen:(len:Int)<=9223372036854775807):
 H K 7 #[I V QG,Z ao len cap] w fun e w'=>e=G (.bool true)/\aJ w w':=by
 have hP:=vZ (w:=w) (c:=QG) (n:=51) DL hd2 (by decide) (by decide);have hSt:=stops_any hG;have HF:Hid (∀W (d:Nat),aJ w W->d<=50->H K 17 #[I V (d:Int)] W fun e w'=> ∃qp X,e=G (U (M ⟨qp,0,O⟩))/\rF w' ps qp d [] ([],[],[],0) 0 0 X/\(∀b,X b->W.heap.size<=b)/\aJ W w'):=fun W d hW hd=>BR (hG.aM hW) hd
 have Co:Hid (∀W,aJ w W->Gl W ps):=fun W hW=>hG.aM hW
 have HA0:Hid (ActsK w w.heap.size ao len):=hA;clear hG hA;go_enter Tryz.func7,Tryz.ntmps7
 go_upto_region 6 with(first|(go_at_call 15;refine hP.mono ?_;rintro e w0 ⟨r,rfl,r1,r2,rfl⟩;obtain⟨d,rfl⟩:=Int.eq_ofNat_of_zero_le r1;have hd:d<=50:=by omega)|(go_at_call 20;refine hSt.mono ?_;rintro e w1 ⟨rfl,g1⟩;have hFr:=HF.out _ d g1 hd)|(go_at_call 17;refine hFr.mono ?_;clear hFr;rintro e w2 ⟨qp,X,rfl,s2,x2,g2⟩))
 clear hP hSt HF;have Jj:Hid (aJ w0 w2):=g1.then g2;have HX:Hid (∀b,X b->w0.heap.size<=b):=fun b hb=>Nat.le_trans g1.size (x2 b hb)
 have HAc:Hid (∀W X',Dk w2 W X X'->ActsK W w0.heap.size ao len):=fun W X' hk=>(HA0.out.dk (Dk.bH (X:=fun _=>False) Jj.out) (Nat.le_refl _) (fun b e=>e.elim)).dk hk Jj.out.size HX.out
 have HGw:Hid (Gl w2 ps):=Co.out _ Jj.out;obtain⟨w3,XF⟩:∃w3,w3=(w2.alloc (C #[.string ⟨#[]⟩,Z O 0 0,Z O 0 0,I V 0] 36)).alloc (C #[.string ⟨#[]⟩,Z O 0 0,Z O 0 0,I V 0] 36):=⟨_,rfl⟩
 have HS0:Hid (CrI w2 w3 ps qp d X [] ([],[],[],0) 0 0 (Z (M ⟨w2.heap.size+1,0,O⟩) 1 1)):=by
  rw[XF];have aC:aJ w2 _:=((aJ.refl w2).alloc (C #[.string ⟨#[]⟩,Z O 0 0,Z O 0 0,I V 0] 36)).alloc (C #[.string ⟨#[]⟩,Z O 0 0,Z O 0 0,I V 0] 36);have hM:∀W,eU W (.agg #[.string ⟨#[]⟩,Z O 0 0,Z O 0 0,I V 0]) ([],[],[],0) d:=fun W=>⟨⟨_,_,rfl,jI.nil W,jI.nil W⟩,Nat.zero_le _,Nat.zero_le _,Int.le_refl _,by decide⟩
  refine⟨X,(cat_fresh s2).aM aC,Dk.bH aC,⟨O,0,0,O,0,0,?_,hM _⟩,aAS.snoc (l:=[]) (q:=(⟨#[]⟩,(O,0,0),(O,0,0),0)) (wr:=w2) ⟨rfl,fun j q g hj=>by simp at hj⟩ (fun _ _ k=>k.aM aC) (hM _) ?_⟩
  ·exact((aU _ _).block _ (by simp)).trans (heap_alloc_new w2 _)
  ·have:=World.ownsRow_lit (base:=w2.heap.size+1) (e:=36) (size:=4) (w2.alloc (C #[.string ⟨#[]⟩,Z O 0 0,Z O 0 0,I V 0] 36)) #[.string ⟨#[]⟩,Z O 0 0,Z O 0 0,I V 0] 1 (by simp) (by decide) rfl;rw[World.size_alloc]at this;exact this
 clear s2 x2 g1 g2 HA0 Co
 go_upto_region 8 with fail
 rw[<-XF];clear XF;have l0:(0:Int)<=(len:Int):=by omega
 go_wp2_with fail
 go_loopw [9,10,11] (fun va vs vi wr=> ∃i:Nat,i<=len/\i<=120/\vi=I V (i:Int)/\∃sf gb n c:Nat,vs=I V (sf:Int)/\va=Z (M ⟨gb,0,O⟩) (n+1) c/\n+1<=c/\n<=i/\∃aA g,Hid (aA.length=n/\CrI w2 wr ps qp d X aA g i sf (Z (M ⟨gb,0,O⟩) (n+1) c))) (fun _ _ vi _=>len-(intOf vi).toNat)
 case atStart=>exact⟨0,Nat.zero_le _,Nat.zero_le _,rfl,0,_,0,1,rfl,rfl,Nat.le_refl _,Nat.le_refl _,_,_,rfl,HS0.out⟩
 case round=>
  clear HS0;obtain⟨i,hi,hi2,rfl,sf,gb,n,c,rfl,rfl,hnc,hni,aA,g1,HS⟩:=hrel;by_cases bV:i<len
  ·by_cases ZL:i<120
   ·obtain⟨hHn,X1,s1,k1,⟨Ea,Eb,Ec,Ee,Ag,Ef,bX,BP⟩,gL⟩:=HS.out
    obtain⟨b,off,rfl,kd,nn,m,kk,S,⟨hn,hm,hs,y0,y1,y2,y3,y4⟩,hkk1,hkk2⟩:∃b off,ao=M ⟨b,off,O⟩/\∃kd n m kk S,KY wr b (off+i*5) kd n m kk S/\-9223372036854775808<=kk/\kk<=9223372036854775807:=by
     rcases HAc.out _ _ k1 with h|⟨b,off,h1,-,h2⟩
     ·omega
     ·exact⟨b,off,h1,h2 i bV⟩
    obtain⟨c0,c1,c2,c3⟩:=aZ bX;have i1:(0:Int)<=(i:Int):=by omega
    have i2:(i:Int)<(len:Int):=by omega
    have i3:(i:Int)<120:=by omega
    obtain⟨wBz,hwB⟩:∃wBz,wBz=wr.alloc (C #[I V kd,I V nn,I V m,I V kk,.string S] 39):=⟨_,rfl⟩;have GB:aJ wr wBz:=by rw[hwB];exact(aJ.refl _).alloc _
    have FJ:wBz.heap[wr.heap.size]?=M (C #[I V kd,I V nn,I V m,I V kk,.string S] 39 (0,0)):=by rw[hwB];exact heap_alloc_new wr _
    have hsB:wBz.heap.size=wr.heap.size+1:=by rw[hwB,World.size_alloc]
    have HNr:Hid (∀r,Value.ownBlock (Z (M ⟨gb,0,O⟩) (n+1) c)=M r->r<wBz.heap.size):=fun r e=>by obtain⟨l,-,Je⟩:=gL;have:=(World.ownsRow.lt Je r e).2;omega
    have HBr:Hid (w2.heap.size<wBz.heap.size):=by have:=aK bX;show _<_;omega
    have fP:=(GB.block _ (aK bX)).trans bX;have Lu:Hid (CAt wBz ps qp d aA g1 i sf X1):=s1.aM GB;have HM:Hid (eU wBz (.agg #[.string (aR g1.1),Z Ea Eb Ec,Z Ee Ag Ef,I V g1.2.2.2]) g1 d):=BP.aM GB;have HQ:Hid (aAS w2 wBz d (Z (M ⟨gb,0,O⟩) (n+1) c) (aA++ [g1])):=gL.aM GB;have HK:Hid (Dk w2 wBz X X1):=k1.aM GB;have HB:Hid (wBz.heap[w2.heap.size]?=M (C #[.string (aR g1.1),Z Ea Eb Ec,Z Ee Ag Ef,I V g1.2.2.2] 36 (0,0))):=fP;have HAt:Hid (wBz.heap[wr.heap.size]?=M (C #[I V kd,I V nn,I V m,I V kk,.string S] 39 (0,0))):=FJ;have HHn:Hid (aA.length=n):=hHn;clear s1 k1 bX BP gL GB HS hHn c0 c1 c2 c3 hsB
    go_upto_region 15 with fail
    rw[<-hwB];clear hwB y0 y1 y2 y3 y4;generalize wr.heap.size=ab at*;obtain⟨c0,c1,c2,c3⟩:=aZ fP;clear fP FJ;obtain⟨wA,hwA⟩:∃wA,wA=wBz.alloc (C #[.string (aR g1.1),Z Ea Eb Ec,Z Ee Ag Ef,I V g1.2.2.2] 36):=⟨_,rfl⟩;have Nv:Hid (aJ wBz wA):=by rw[hwA];exact(aJ.refl _).alloc _
    have HNA:Hid (wA.heap[wBz.heap.size]?=M (C #[.string (aR g1.1),Z Ea Eb Ec,Z Ee Ag Ef,I V g1.2.2.2] 36 (0,0))):=by rw[hwA];exact heap_alloc_new wBz _
    go_upto_region 16 with fail
    rw[<-hwA];clear hwA c0 c1 c2 c3;obtain⟨c0,c1,c2,c3⟩:=aZ ((Nv.out.block _ (aK HB.out)).trans HB.out);obtain⟨y0,y1,y2,y3,y4⟩:=kP ((Nv.out.block _ (aK HAt.out)).trans HAt.out)
    go_upto_block 2 with fail
    have HR:Hid (CrR w2 wA d wBz.heap.size aA g1 g1 (Z (M ⟨gb,0,O⟩) (n+1) c)):=⟨⟨_,_,_,_,_,_,(Nv.out.block _ (aK HB.out)).trans HB.out,HM.out.aM Nv.out⟩,⟨_,_,_,_,_,_,HNA.out,HM.out.aM Nv.out⟩,HQ.out.aM Nv.out,fun r e=>by have:=HNr.out r e;omega,HBr.out⟩;have HStA:Hid (CAt wA ps qp d aA g1 i sf X1):=Lu.out.aM Nv.out;have HKA:Hid (Dk w2 wA X X1):=HK.out.aM Nv.out;have HMA:Hid (eU wA (.agg #[.string (aR g1.1),Z Ea Eb Ec,Z Ee Ag Ef,I V g1.2.2.2]) g1 d):=HM.out.aM Nv.out;have HNn:Hid (∀r,Value.ownBlock (Z (M ⟨gb,0,O⟩) (n+1) c)=M r->r<wBz.heap.size):=HNr.out
    have HGd:Hid (g1.2.2.2=(n:Int)):=by
     show _=_;obtain⟨-,s,fs,m,-,hC,-⟩:=Lu.out;obtain⟨t,rs,ms,ts,gs,-,-,-,-,-,-,q7,-⟩:=hC;rw[<-q7,HHn.out]
    have HAtA:Hid (wA.heap[ab]?=M (C #[I V kd,I V nn,I V m,I V kk,.string S] 39 (0,0))):=(Nv.out.block _ (aK HAt.out)).trans HAt.out;clear Lu HK HM HQ HB HAt HNA HNr;generalize wBz.heap.size=N at*
    go_cut [10,13,14] from 33 to 146 (fun vs ve vwz wc=> ∃(sf':Nat) (e1 e2:Int),vs=I V (sf':Int)/\ve=I V e1/\vwz=I V e2/\Hid (CrS w2 wc ps qp d N X aA g1 (i+1) sf sf' (Z (M ⟨gb,0,O⟩) (n+1) c) e1 e2))
    case first=>
     by_cases k9:kd=9
     ·subst k9;obtain⟨ra,ra1,ra2,hp1⟩:=pick_v (c:=nn) (n:=9) hn.1 hn.2 (by decide) (by decide);obtain⟨rb,rb1,rb2,hp2⟩:=pick_v (c:=m) (n:=60) hm.1 hm.2 (by decide) (by decide);obtain⟨rc,Ef,rc2,hp3⟩:=pick_v (c:=kk) (n:=90) hkk1 hkk2 (by decide) (by decide)
      have HCr:Hid (∀W,aJ wA W->H K 21 #[U (M ⟨qp,0,O⟩),I V ra,I V rb,I V rc] W fun e w'=>e=G (I V 0)/\CrS w2 w' ps qp d N X aA g1 (i+1) sf sf (Z (M ⟨gb,0,O⟩) (n+1) c) 0 0):=fun W hW=>by
       refine(z_crash (HStA.out.aM hW) ⟨ra1,by omega⟩ ⟨rb1,by omega⟩ ⟨Ef,by omega⟩).mono ?_;rintro e w5 ⟨rfl,X5,s5,k5,-⟩;refine⟨rfl,g1,X5,(HR.out.aM hW).q k5.1 (fun b hb=>(HStA.out.aM hW).ty hb),(HKA.out.aM hW).trans k5,Or.inl rfl,Or.inl ⟨rfl,by decide,?_⟩⟩;rw[Sd];exact s5.more (by omega)
      have HP1:Hid (∀W,H K 15 #[I V nn,I V 9] W fun e w'=>e=G (I V ra)/\w'=W):=hp1;have ol:Hid (∀W,H K 15 #[I V m,I V 60] W fun e w'=>e=G (I V rb)/\w'=W):=hp2;have HP3:Hid (∀W,H K 15 #[I V kk,I V 90] W fun e w'=>e=G (I V rc)/\w'=W):=hp3;clear hp1 hp2 hp3 ra1 ra2 rb1 rb2 Ef rc2
      go_upto_region 19 with fail
      refine wp_region_still_tail 10 (by kernel_rfl) (by kernel_rfl) ?_;simp only[List.take_succ_cons,List.take_zero,List.drop_succ_cons,List.drop_zero]
      repeat still_step
      still_call (HP1.out _)
      repeat still_step
      still_call (ol.out _)
      repeat still_step
      still_call (HP3.out _)
      repeat still_step
      refine wpStill_nil ?_
      go_wp2_with (go_at_call 21;refine(HCr.out _ (aJ.drew (aJ.refl _))).mono ?_;rintro e w5 ⟨rfl,h5⟩)
      go_meet;exact⟨sf,0,0,rfl,rfl,rfl,h5⟩
     ·by_cases k678:kd=6\/kd=7\/kd=8
      ·have HKp:Hid (H K 22 #[U (M ⟨qp,0,O⟩),I V kd] wA fun e w'=> ∃cc,e=G (I V cc)/\(cc=0\/cc=10)/\(∃aB,Fr wA w' aB/\∀b,aB b->lD wA b)/\CrR w2 w' d N aA g1 g1 (Z (M ⟨gb,0,O⟩) (n+1) c)/\Hid (CrS w2 w' ps qp d N X aA g1 (i+1) sf (if cc=10 then sf else if kd=6\/kd=7 then aA.length else sf) (Z (M ⟨gb,0,O⟩) (n+1) c) cc 0)):=cr_kept HStA.out (by omega) HR.out HKA.out;rcases k678 with rfl|rfl|rfl
       all_goals
        go_upto_region 24 with(go_at_call 22;refine HKp.out.mono ?_;rintro e w5 ⟨cc,rfl,hcc,⟨Y5,ML,hY5⟩,hR5,h5⟩)
        clear y0 y1 y2 y3 y4 c0 c1 c2 c3;obtain⟨y0,y1,y2,y3,y4⟩:=kP (ML.at HAtA.out (fun e=>(hY5 _ e).ne HAtA.out (by decide) rfl));obtain⟨p1,p2,p3,p4,p5,p6,rG,-⟩:=hR5.m;rw[HGd.out]at rG;obtain⟨c0,c1,c2,c3⟩:=aZ rG;clear ML hY5 hR5 rG;rw[HHn.out]at h5;rcases hcc with rfl|rfl
        ·go_wp2_with fail
         go_meet;exact⟨_,0,0,rfl,rfl,rfl,h5⟩
        ·go_wp2_with fail
         go_meet;exact⟨_,10,0,rfl,rfl,rfl,h5⟩
      ·have p9:(kd==9)=false:=by simpa using k9
       have p6:(kd==6)=false:=by simp;omega
       have p7:(kd==7)=false:=by simp;omega
       have p8:(kd==8)=false:=by simp;omega
       have hC:=cr_call (q:=kd) (kk:=kk) HGw.out HStA.out HMA.out (by omega) hd hn.1 hn.2 hm.1 hm.2 hs HR.out HKA.out
       go_wp2_with (go_at_call 23;refine hC.mono ?_;clear hC;rintro e w5 ⟨cc,c',T5,dn5,a1,a2,a3,b1,b2,b3,x5,z5,t5,v5,rfl,hN5,h5⟩;refine fZ hN5 ?_;intro z0 z1 z2 z3 zf;clear hN5)
       go_meet;exact⟨sf,cc,c',rfl,rfl,rfl,h5⟩
    case rest=>
     obtain⟨sf',e1,e2,rfl,rfl,rfl,HC⟩:=hcut;clear y0 y1 y2 y3 y4 c0 c1 c2 c3 HStA HMA HKA HR HAtA Nv
     rename F=>w5
     obtain⟨gn,X5,hR,hk,hgn,Wj⟩:=HC.out;clear HC;have HR:Hid (CrR w2 w5 d N aA g1 gn (Z (M ⟨gb,0,O⟩) (n+1) c)):=hR;have HK:Hid (Dk w2 w5 X X5):=hk;obtain⟨q1,q2,q3,q4,q5,q6,hbm,hmm⟩:=hR.m;rw[HGd.out]at hbm;obtain⟨c0,c1,c2,c3⟩:=aZ hbm;have HBm:Hid (w5.heap[w2.heap.size]?=M (C #[.string (aR g1.1),Z q1 q2 q3,Z q4 q5 q6,I V (n:Int)] 36 (0,0))):=hbm
     have yO:Hid (∀r,Value.ownBlock (Z (M ⟨gb,0,O⟩) (n+1) c)=M r->r≠w2.heap.size):=fun r e=>by
      obtain⟨l,-,ho⟩:=hR.row;have:=(World.ownsRow.lt ho r e).1;omega
     rcases Wj with⟨rfl,hne,hS⟩|⟨rfl,rfl,hD⟩
     ·have p10:(e1==10)=false:=by simpa using hne
      have pee:(e1 !=e1)=false:=by simp
      obtain⟨a1,a2,a3,b1,b2,b3,hbn,hmn⟩:=hR.n;rcases hgn with rfl|hgn
      ·rw[Sd]at hS;rw[HGd.out]at hbn hmn;obtain⟨n0,n1,n2,n3⟩:=aZ hbn;have hnn:¬(n:Int)<(n:Int):=by omega
       have HPt:Hid _:=cr_put HGw.out hR.row yO.out hbm (⟨X5,hS,hk⟩:Ya w2 w5 (fun W aB=>CAt W ps qp d aA gn (i+1) sf' aB) X) hmn;have hb9:=HPt.out.2.2.1;clear hR hk hS hmm hmn c0 c1 c2 c3;refine fZ hbm ?_;intro c0 c1 c2 c3 cf;clear hbm hbn
       go_upto_region 40 with fail
       clear c0 c1 c2 c3 cf n0 n1 n2 n3;have HP9:Hid (Ya w2 _ (fun W aB=>CAt W ps qp d aA gn (i+1) sf' aB) X/\aAS w2 _ d (Z (M ⟨gb,0,O⟩) (n+1) c) (aA++ [gn])/\_/\eU _ (.agg #[.string (aR gn.1),Z a1 a2 a3,Z b1 b2 b3,I V (n:Int)]) gn d):=HPt.out;clear HPt;generalize ((((w5.setCell ⟨w2.heap.size,0,O⟩ (.string (aR gn.1))).setCell ⟨w2.heap.size,1,O⟩ (Z a1 a2 a3)).setCell ⟨w2.heap.size,2,O⟩ (Z b1 b2 b3)).setCell ⟨w2.heap.size,3,O⟩ (I V (n:Int)))=w9 at*;obtain⟨c0,c1,c2,c3⟩:=aZ hb9;obtain⟨X9,s9,k9⟩:=HP9.out.1;have Cr:=z_shows s9 HP9.out.2.2.2;have HB9:Hid (w9.heap[w2.heap.size]?=M (C #[.string (aR gn.1),Z a1 a2 a3,Z b1 b2 b3,I V (n:Int)] 36 (0,0))):=hb9;clear hb9 s9 k9;have hwj:IntKind.i64.wrap ((n:Int)+1)=(n:Int)+1:=by rw[IntKind.wrap_i64];omega
       have jj5:(0:Int)<=(n:Int)+1:=by omega
       have jj6:(n:Int)+1<=(c:Int):=by omega
       go_wp2_with (go_at_call 26;refine Cr.mono ?_;clear Cr;rintro e PV ⟨rfl,hgn0⟩)
       go_roundw
       case rel=>
        refine⟨i+1,by omega,by omega,by go_num,sf',gb,n,c,rfl,rfl,by omega,by omega,aA,gn,HHn.out,?_⟩;have:=cri_end HP9.out.1 HP9.out.2.1 HB9.out HP9.out.2.2.2 (by rw[List.length_append,List.length_singleton];omega) (by rw[List.take_of_length_le (by rw[List.length_append,List.length_singleton];omega)]) hgn0;rw[HHn.out]at this;exact this
       case measure=>simp[intOf];omega
      ·have MS:Mx aA g1 gn=aA++ [g1]:=by unfold Mx;rw[if_pos (by omega)]
       rw[MS]at hS;rw[hgn,HGd.out]at hbn hmn;obtain⟨n0,n1,n2,n3⟩:=aZ hbn;have hnn:(n:Int)<(n:Int)+1:=by omega
       obtain⟨l,hal,cZ⟩:=hR.row;have gu:l.length=n+1:=by rw[hal.1,List.length_append,List.length_singleton,HHn.out]
       have HO:Hid (nW w5 (w2.heap.size+1) (Z (M ⟨gb,0,O⟩) (n+1) c) l):=cZ;have HAl:Hid (AlM w5 l (aA++ [g1]) d):=hal;have HS5:Hid (Ya w2 w5 (fun W aB=>CAt W ps qp d (aA++ [g1]) gn (i+1) sf' aB) X):=⟨X5,hS,hk⟩;have HMn:Hid (eU w5 (.agg #[.string (aR gn.1),Z a1 a2 a3,Z b1 b2 b3,I V ((n:Int)+1)]) gn d):=hmn;have HBn:Hid (w5.heap[N]?=M (C #[.string (aR gn.1),Z a1 a2 a3,Z b1 b2 b3,I V ((n:Int)+1)] 36 (0,0))):=hbn;have HLl:Hid (l.length=n+1):=gu;have hl4:l.length<=1000000000:=by omega
       have hz5:w2.heap.size+1<=w5.heap.size:=aK hbm;clear hR hk hS hmm hmn hbm hbn hal cZ gu hgn MS
       go_upto_region 39 with(at_builtin;go_must (refine BS (by rfl) (.tmp 132) (.tmp 134) (by rfl) (w2.heap.size+1) _ l (aR gn.1,(a1,a2,a3),(b1,b2,b3),(n:Int)+1) (by rfl) (by exact World.ownsRow.alloc HO.out _) _ _ _ (by rfl) (by rfl) (by exact World.news_of_block (heap_alloc_new w5 _)) (by exact hl4) (by rw[World.size_alloc];omega) ?_);intro v7 w7 FQ jS)
       have G6:aJ w5 (w5.alloc (C #[.string (aR gn.1),Z a1 a2 a3,Z b1 b2 b3,I V ((n:Int)+1)] 36)):=(aJ.refl w5).alloc _;obtain⟨o1,o2,hF,aT,hbR⟩:=own_row2 (World.ownsRow.alloc HO.out _) jS;have o3:=HNn.out gb rfl;have DT:=pdo_row fam_cat HGw.out (gM fam_cat HS5.out G6) hF hbR (by omega) jS;have HM7:=(HMn.out.aM G6).row hF hbR;have HR7:Hid (aAS w2 w7 d v7 ((aA++ [g1])++ [gn])):=aAS.snoc (q:=(aR gn.1,(a1,a2,a3),(b1,b2,b3),(n:Int)+1)) HAl.out (fun _ _ k=>(k.aM G6).row hF hbR) HM7 FQ;have HF7:Hid (∀r,Value.ownBlock v7=M r->r≠w2.heap.size):=fun r e=>by have:=(World.ownsRow.lt FQ r e).1;omega
       have hbm:=hF.at ((G6.block _ (aK HBm.out)).trans HBm.out) (by omega);have hbn:=hF.at ((G6.block _ (aK HBn.out)).trans HBn.out) (by omega);obtain⟨gb7,c7,e7,hc7,-⟩:=FQ.last;rw[HLl.out]at e7 hc7;subst e7;have HPt:Hid _:=cr_put HGw.out HR7.out HF7.out hbm DT HM7;have hb9:=HPt.out.2.2.1;clear c0 c1 c2 c3 n0 n1 n2 n3 FQ jS hF hbR DT HM7 G6 o1 o2 o3 hl4 HO HAl HS5 HMn HR HK;obtain⟨n0,n1,n2,n3⟩:=aZ hbn;refine fZ hbm ?_;intro c0 c1 c2 c3 cf;clear hbm hbn
       go_upto_region 40 with fail
       clear c0 c1 c2 c3 cf n0 n1 n2 n3;have HP9:Hid (Ya w2 _ (fun W aB=>CAt W ps qp d (aA++ [g1]) gn (i+1) sf' aB) X/\aAS w2 _ d (Z (M ⟨gb7,0,O⟩) (n+1+1) c7) ((aA++ [g1])++ [gn])/\_/\eU _ (.agg #[.string (aR gn.1),Z a1 a2 a3,Z b1 b2 b3,I V ((n:Int)+1)]) gn d):=HPt.out;clear HPt;generalize ((((w7.setCell ⟨w2.heap.size,0,O⟩ (.string (aR gn.1))).setCell ⟨w2.heap.size,1,O⟩ (Z a1 a2 a3)).setCell ⟨w2.heap.size,2,O⟩ (Z b1 b2 b3)).setCell ⟨w2.heap.size,3,O⟩ (I V ((n:Int)+1)))=w9 at*;obtain⟨c0,c1,c2,c3⟩:=aZ hb9;obtain⟨X9,s9,k9⟩:=HP9.out.1;have Cr:=z_shows s9 HP9.out.2.2.2;have HB9:Hid (w9.heap[w2.heap.size]?=M (C #[.string (aR gn.1),Z a1 a2 a3,Z b1 b2 b3,I V ((n:Int)+1)] 36 (0,0))):=hb9;clear hb9 s9 k9;have hwj:IntKind.i64.wrap ((n:Int)+1+1)=(n:Int)+1+1:=by rw[IntKind.wrap_i64];omega
       have jj5:(0:Int)<=(n:Int)+1+1:=by omega
       have jj6:(n:Int)+1+1<=(c7:Int):=by omega
       go_wp2_with (go_at_call 26;refine Cr.mono ?_;clear Cr;rintro e PV ⟨rfl,hg10⟩)
       go_roundw
       case rel=>
        have hl1:(aA++ [g1]).length=n+1:=by rw[List.length_append,List.length_singleton,HHn.out]
        refine⟨i+1,by omega,by omega,by go_num,sf',gb7,n+1,c7,rfl,rfl,by omega,by omega,aA++ [g1],gn,hl1,?_⟩;have:=cri_end HP9.out.1 HP9.out.2.1 HB9.out HP9.out.2.2.2 (by simp) (List.take_of_length_le (by simp)) hg10;rw[hl1]at this;exact this
       case measure=>simp[intOf];omega
     ·obtain⟨a1,a2,a3,b1,b2,b3,hbn,hmn⟩:=hR.n
      have HOp:Hid (H K 24 #[U (M ⟨qp,0,O⟩)] w5 fun e w'=>e=G (I V 0)/\∃j gj,sf'<=j/\j<=n/\(aA++ [g1])[j]?=M gj/\gj.2.2.2=(j:Int)/\∃X',CAt w' ps qp d (aA.take j) gj (i+1) j X'/\Dk w5 w' X5 X'):=by
       have:=z_again hD;rw[HHn.out]at this;exact this
      have uh:Hid (∀b,X5 b->lD w5 b):=fun b hb=>hD.ty hb
      clear hR hk hbm hmm hD hbn hmn c0 c1 c2 c3
      go_upto_region 28 with(go_at_call 24;refine HOp.out.mono ?_;rintro e w6 ⟨rfl,j,gj,j1,j2,j3,j4,X6,s6,k6⟩)
      have HR6:Hid (CrR w2 w6 d N aA g1 gn (Z (M ⟨gb,0,O⟩) (n+1) c)):=HR.out.q k6.1 uh.out;have Er:Hid (CAt w6 ps qp d (aA.take j) gj (i+1) j X6):=s6;have BU:Hid (Dk w2 w6 X X6):=HK.out.trans k6;have hDn:=z_done s6;rw[j4]at hDn;have HJ:Hid ((aA++ [g1])[j]?=M gj/\gj.2.2.2=(j:Int)):=⟨j3,j4⟩;have jj1:¬(j:Int)<(sf':Int):=by omega
      have jj2:¬(n:Int)<(j:Int):=by omega
      have jj3:(0:Int)<=(j:Int):=by omega
      have jj4:(j:Int)<((n+1:Nat):Int):=by omega
      obtain⟨u1,u2,u3,v1,v2,v3,r0,r1,r2,r3,hmj⟩:=HR6.out.row.nth j3;rw[j4]at r3;obtain⟨x1,x2,x3,x4,x5,x6,hbm,-⟩:=HR6.out.m;rw[HGd.out]at hbm;obtain⟨x7,x8,x9,y7,y8,y9,hbn,-⟩:=HR6.out.n;obtain⟨c0,c1,c2,c3⟩:=aZ hbm;refine fZ hbn ?_;intro n0 n1 n2 n3 nf;have HBn:Hid (w6.heap[N]?=M (C #[.string (aR gn.1),Z x7 x8 x9,Z y7 y8 y9,I V gn.2.2.2] 36 (0,0))):=hbn;have HMj:Hid (eU w6 (.agg #[.string (aR gj.1),Z u1 u2 u3,Z v1 v2 v3,I V gj.2.2.2]) gj d):=hmj;clear s6 k6 j3 j4 hbm hbn HOp HR HK HBm hmj
      go_upto_region 37 with(go_at_call 25;refine hDn.mono ?_;clear hDn;rintro e w7 ⟨rfl,rfl⟩)
      clear r0 r1 r2 r3 c0 c1 c2 c3 n0 n1 n2 n3 nf jj1;have HS8:Hid (Ya w2 _ (fun W aB=>CAt W ps qp d (aA.take j) gj (i+1) j aB) X):=gW fam_cat HGw.out ⟨X6,Er.out,BU.out⟩ (Nat.le_of_lt HR6.out.lt) HBn.out (.string (aR gj.1)) (Z u1 u2 u3) (Z v1 v2 v3) (I V (j:Int));have hR8:=HR6.out.set HMj.out;have hmj:=HMj.out.sN HBn.out (.string (aR gj.1)) (Z u1 u2 u3) (Z v1 v2 v3) (I V (j:Int));have hbn:=iP HBn.out (.string (aR gj.1)) (Z u1 u2 u3) (Z v1 v2 v3) (I V (j:Int));rw[HJ.out.2]at hR8 hmj;clear HR6 Er BU HBn HMj;generalize ((((w7.setCell ⟨N,0,O⟩ (.string (aR gj.1))).setCell ⟨N,1,O⟩ (Z u1 u2 u3)).setCell ⟨N,2,O⟩ (Z v1 v2 v3)).setCell ⟨N,3,O⟩ (I V (j:Int)))=w8 at*;have HR8:Hid (CrR w2 w8 d N aA g1 gj (Z (M ⟨gb,0,O⟩) (n+1) c)):=hR8;have HM8:Hid (eU w8 (.agg #[.string (aR gj.1),Z u1 u2 u3,Z v1 v2 v3,I V (j:Int)]) gj d):=hmj;obtain⟨x1,x2,x3,x4,x5,x6,hbm,-⟩:=hR8.m;rw[HGd.out]at hbm;obtain⟨n0,n1,n2,n3⟩:=aZ hbn;have HPt:Hid _:=cr_put HGw.out HR8.out.row yO.out hbm HS8.out HM8.out;have hb9:=HPt.out.2.2.1;refine fZ hbm ?_;intro c0 c1 c2 c3 cf;clear hR8 hmj hbm hbn
      go_upto_region 40 with fail
      clear c0 c1 c2 c3 cf n0 n1 n2 n3;have HP9:Hid (Ya w2 _ (fun W aB=>CAt W ps qp d (aA.take j) gj (i+1) j aB) X/\aAS w2 _ d (Z (M ⟨gb,0,O⟩) (n+1) c) (aA++ [g1])/\_/\eU _ (.agg #[.string (aR gj.1),Z u1 u2 u3,Z v1 v2 v3,I V (j:Int)]) gj d):=HPt.out;clear HPt;generalize ((((w8.setCell ⟨w2.heap.size,0,O⟩ (.string (aR gj.1))).setCell ⟨w2.heap.size,1,O⟩ (Z u1 u2 u3)).setCell ⟨w2.heap.size,2,O⟩ (Z v1 v2 v3)).setCell ⟨w2.heap.size,3,O⟩ (I V (j:Int)))=w9 at*;obtain⟨c0,c1,c2,c3⟩:=aZ hb9;obtain⟨X9,s9,k9⟩:=HP9.out.1;have Cr:=z_shows s9 HP9.out.2.2.2;have HB9:Hid (w9.heap[w2.heap.size]?=M (C #[.string (aR gj.1),Z u1 u2 u3,Z v1 v2 v3,I V (j:Int)] 36 (0,0))):=hb9;clear hb9 s9 k9 HR8 HS8 HM8;have hwj:IntKind.i64.wrap ((j:Int)+1)=(j:Int)+1:=by rw[IntKind.wrap_i64];omega
      have jj5:(0:Int)<=(j:Int)+1:=by omega
      have jj6:(j:Int)+1<=(c:Int):=by omega
      go_wp2_with (go_at_call 26;refine Cr.mono ?_;clear Cr;rintro e PV ⟨rfl,hg10⟩)
      go_roundw
      case rel=>
       refine⟨i+1,by omega,by omega,by go_num,j,gb,j,c,rfl,rfl,by omega,by omega,aA.take j,gj,(past_take (by rw[HHn.out];exact j2) HJ.out.1).1,?_⟩;obtain⟨pt1,pt2⟩:=past_take (by rw[HHn.out];exact j2) HJ.out.1;have:=cri_end HP9.out.1 HP9.out.2.1 HB9.out HP9.out.2.2.2 (by rw[pt1,List.length_append,List.length_singleton,HHn.out];omega) (by rw[pt1];exact pt2) hg10;rw[pt1]at this;exact this
      case measure=>simp[intOf];omega
   ·have i3:¬(i:Int)<120:=by omega
    have i2:(i:Int)<(len:Int):=by omega
    have HE:Hid (CrI w2 wr ps qp d X aA g1 i sf (Z (M ⟨gb,0,O⟩) (n+1) c)):=HS.out.2
    have HCr:Hid (∃X1,CAt wr ps qp d aA g1 i sf X1/\Dk w2 wr X X1/\MdAt wr w2.heap.size g1 d):=by
     obtain⟨X1,s1,k1,m1,-⟩:=HE.out;exact⟨X1,s1,k1,m1⟩
    obtain⟨X1,s1,k1,m1⟩:=HCr.out;have hCr:=z_crash (a:=1000) (b:=0) (c:=0) s1 (by decide) (by decide) (by decide);have HT1:Hid (∀b,X1 b->lD wr b):=fun b hb=>s1.ty hb
    have HK1:Hid (Dk w2 wr X X1):=k1;have HM1:Hid (MdAt wr w2.heap.size g1 d):=m1;have hi250:i<=250:=by omega
    clear HS HE HCr s1 k1 m1
    go_upto_region 45 with(go_at_call 21;refine hCr.mono ?_;clear hCr;rintro e w4 ⟨rfl,X4,-,k4,s4⟩)
    have S4:=s4 (by first|exact trivial|rfl) hi250;obtain⟨m1,m2,m3,m4,m5,m6,hbm,hmm⟩:=HM1.out.q k4.1 HT1.out;obtain⟨c0,c1,c2,c3⟩:=aZ hbm;have Hl:=mF S4 hmm (by decide) hd;have HK4:Hid (Dk w2 w4 X X4):=HK1.out.trans k4;clear s4 S4 k4 HK1 HM1 HT1 hbm hmm
    go_wp2_with (go_at_call 19;refine Hl.mono ?_;clear Hl;rintro e w6 ⟨rfl,g6,X6,s6,k6⟩)
    refine bodyPost_ret (v:= .bool true) (by simp[results,Tryz.results7,go_sem]) rfl ?_;exact⟨rfl,(nV Jj.out HX.out (HK4.out.trans k6)).1⟩
  ·have i2:¬(i:Int)<(len:Int):=by omega
   have HE:Hid (CrI w2 wr ps qp d X aA g1 i sf (Z (M ⟨gb,0,O⟩) (n+1) c)):=HS.out.2
   have HCr:Hid (∃X1,CAt wr ps qp d aA g1 i sf X1/\Dk w2 wr X X1/\MdAt wr w2.heap.size g1 d):=by
    obtain⟨X1,s1,k1,m1,-⟩:=HE.out;exact⟨X1,s1,k1,m1⟩
   obtain⟨X1,s1,k1,m1⟩:=HCr.out;have hCr:=z_crash (a:=1000) (b:=0) (c:=0) s1 (by decide) (by decide) (by decide);have HT1:Hid (∀b,X1 b->lD wr b):=fun b hb=>s1.ty hb
   have HK1:Hid (Dk w2 wr X X1):=k1;have HM1:Hid (MdAt wr w2.heap.size g1 d):=m1;have hi250:i<=250:=by omega
   clear HS HE HCr s1 k1 m1
   go_upto_region 45 with(go_at_call 21;refine hCr.mono ?_;clear hCr;rintro e w4 ⟨rfl,X4,-,k4,s4⟩)
   have S4:=s4 (by first|exact trivial|rfl) hi250;obtain⟨m1,m2,m3,m4,m5,m6,hbm,hmm⟩:=HM1.out.q k4.1 HT1.out;obtain⟨c0,c1,c2,c3⟩:=aZ hbm;have Hl:=mF S4 hmm (by decide) hd;have HK4:Hid (Dk w2 w4 X X4):=HK1.out.trans k4;clear s4 S4 k4 HK1 HM1 HT1 hbm hmm
   go_wp2_with (go_at_call 19;refine Hl.mono ?_;clear Hl;rintro e w6 ⟨rfl,g6,X6,s6,k6⟩)
   refine bodyPost_ret (v:= .bool true) (by simp[results,Tryz.results7,go_sem]) rfl ?_;exact⟨rfl,(nV Jj.out HX.out (HK4.out.trans k6)).1⟩
end Go.Proofs.YtfplgfodoiiobaaGreatDoor
