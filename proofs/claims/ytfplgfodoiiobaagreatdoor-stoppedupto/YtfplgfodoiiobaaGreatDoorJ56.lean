/- KxZ0, KxZ1, KxS0, KxS1, KxS3, KxS2, KxS4 (joined). -/
import Derived.Test.YtfplgfodoiiobaaGreatDoorJ55
open Option renaming none→O,some→M
open Go.Value renaming int→I,slice→Z,pointer→U
open Go.IntKind renaming i64→V
open Go.Obj renaming cells→C
open Go.Ending renaming returned→G
open Go renaming World→F,Value→Y,Calls→H
open Go.Proofs.Tryz renaming prog→K
namespace Go.Proofs.YtfplgfodoiiobaaGreatDoor
set_option maxHeartbeats 1000000
set_option maxRecDepth 100000
open Go.RowKit
open Go.ChangeShapes Go.WideShapes Go.ChangeAt Go.RowKit Go.Deep
variable {w W W' w':F}{d qp j k n b qy aAU:Nat}{ps:Nat->Addr}{X aB qm:Nat->Prop}{ep:Int}{g:Gm}{aF fs0:List bF}{m m1:bT}{v:Y}{L:List AF}{t:ByteArray}{s:Sc}
def abB:ByteArray:=⟨#[97,98]⟩
theorem sto_zero {x:St}{t:Tm}(h:nG x g 0 t):x.2.1=[]:=by
 have vL:=h.snd.gs.bk.bK.nK;have he:=h.snd.ep;have au:x.1.aV=0:=by omega
 obtain⟨m0,rs,r1,-⟩:=h.snd.rd
 have h2:(aL x.2.1 2).size=0:=by
  rcases Ru r1 with⟨z,-⟩|⟨-,z,-⟩
  ·exact z
  ·simp only at z;omega
 have h1:=h.snd.b1;have hj:=h.snd.bj;refine List.eq_nil_iff_forall_not_mem.2 fun f hf=>?_
 rcases h.snd.QX f hf with q|q|q
 ·exact Hg h.snd.gs.bk.inv (n:=1) (by omega) f hf q
 ·exact Hg h.snd.gs.bk.inv h2 f hf q
 ·exact Hg h.snd.gs.bk.inv (n:=10+x.1.aV) (by omega) f hf q
theorem act_die {fs:List bF}{pos n:Int}{text:ByteArray}{t:Tm}(h:En (aY s,fs,m) t k)(hk:k<=400)(ha:s.eG=true)(h1:s.after=1)(hc:(kK (aY s,fs,m) 73 pos n text).2=0):eZ (s,fs,m) 73 pos n text=((aAQ s,aAP s (iR fs (lX fs 1 text)),m),10):=by
 obtain⟨bN,-,-,-,-,-,-,-,-,u4⟩:=Hr h hk hc
 have ht:text.size≠0/\text.size<=200:=by
  have:=u4 rfl;unfold lC at this;rw[if_pos rfl]at this;omega
 have OG:s.refusing=false:=h.ref;have nZ:s.room=1000000:=h.room;have hI:dY s.room fs:=h.gs.bk.inv;have hu:=h.used;simp only at hu;have hu1:bP fs+(text.size:Int)<=s.room:=by omega
 have e1:=act_two (x:=(s,fs,m)) (kind:=73) (pos:=pos) (n:=n) (text:=text) h.op h.ro hc;simp only[if_true]at e1;rw[add_next ha (by omega) OG hI ht.1 hu1]at e1;simp only at e1;rw[if_neg (by decide)]at e1
 have hus:∀R:ByteArray,R.size=22->bP (iR fs (lX fs 1 text))+(R.size:Int)<=s.room:=fun R hR=>by
  rw[EM hI.sort,(gI fs 1 text).1,(gI fs 1 text).2,dR];omega
 rw[add_die (s:= { s with after:=s.after-1 }) ha (by simp only;omega) OG (hus _ (B_ _ _ _ _ _).1)]at e1;simp only at e1;rw[if_neg (by decide)]at e1;exact e1
theorem stop_read (h1:0<=s.one)(h2:0<=s.rest)(hI:dY s.room (iR [] (lX [] 1 abB)))(d:Nat):Rdn (aAP s (iR [] (lX [] 1 abB))) d 0 ([],[],[],0,0) 0:=by
 have e:∀n,n≠1->aL (aAP s (iR [] (lX [] 1 abB))) n=⟨#[]⟩:=fun n hn=>by
  obtain⟨k,-,-,q⟩:=crash_file hI h1 h2 n;unfold aAP;rw[q,jR (l:=[]) ⟨List.Pairwise.nil,fun f hf=>by simp at hf⟩,(gI [] 1 abB).1,if_neg (fun q=>hn q.symm)];exact VB (by rw[ByteArray.size_extract];show min k 0-0=0;omega)
 refine⟨([],[],[],0,0),?_,?_⟩
 ·rw[e 2 (by decide)];exact QI _ _ rfl
 ·rw[e (10+0) (by decide)];rfl
theorem stop_open {fs:List bF}{t:Tm}(h:nG (aY s,fs,m) g 0 t)(hg:fU s)(kL:g.1=[]):
 eZ ({ s with eG:=true,after:=1,one:=99,rest:=99 },fs,m) 73 0 0 abB=((aAQ { s with eG:=true,after:=1,one:=99,rest:=99 },aAP { s with eG:=true,after:=1,one:=99,rest:=99 } (iR [] (lX [] 1 abB)),m),10)/\BK (aAQ { s with eG:=true,after:=1,one:=99,rest:=99 }) (aAP { s with eG:=true,after:=1,one:=99,rest:=99 } (iR [] (lX [] 1 abB)))/\
 ∃z,jM (aAQ { s with eG:=true,after:=1,one:=99,rest:=99 },aAP { s with eG:=true,after:=1,one:=99,rest:=99 } (iR [] (lX [] 1 abB)),m)=(z,0)/\z.1.aS=true/\z.2.2=([],[],[],0,0):=by
 have hfs:=sto_zero h;simp only at hfs;subst hfs;obtain⟨r,hr⟩:∃r:Sc,r= { s with eG:=true,after:=1,one:=99,rest:=99 }:=⟨_,rfl⟩;rw[<-hr];have hro:r.room=1000000:=by rw[hr];exact h.snd.room
 have hon:r.one=99/\r.rest=99/\r.after=1/\r.eG=true:=by rw[hr];exact⟨rfl,rfl,rfl,rfl⟩
 have hcr:aY r= { aY s with one:=99,rest:=99 }:=by rw[hr];rfl
 have z1:(0:Int)<=99:=by decide
 have z2:(99:Int)<=9223372036854775807:=by decide
 have z3:(0:Int)<=9223372036854775807:=by decide
 have hS:En (aY r,[],m) t 0:=by
  rw[hcr];have q:=h.snd;exact⟨⟨⟨⟨q.gs.bk.bK.ES,q.gs.bk.bK.Vt,q.gs.bk.bK.Db,q.gs.bk.bK.xD,q.gs.bk.bK.Vu,q.gs.bk.bK.oK,q.gs.bk.bK.oL,z1,z2,z1,z2,q.gs.bk.bK.zM,q.gs.bk.bK.Cb,q.gs.bk.bK.nK,q.gs.bk.bK.zN⟩,q.gs.bk.qC,q.gs.bk.inv,q.gs.bk.len⟩,q.gs.YQ,q.gs.done,q.gs.QX,q.gs.buf,q.gs.wU⟩,q.op,q.ro,q.arm,q.ref,q.most,q.room,q.yV,q.cnt,q.rd,q.QX,q.b1,q.b2,q.bj,q.ep⟩
 have hlen:=h.len;rw[kL]at hlen;have hlen':sz m.1=0:=by simpa using hlen.symm
 have Jy:=h.snd.few.1;simp only at Jy;have hlp:=Hq m.1 [(0,2)] 0;simp only[List.length_singleton]at hlp;have Ht:s.most=5000:=h.snd.most
 have hc:(kK (aY r,[],m) 73 0 0 abB).2=0:=by
  have e:kK (aY r,[],m) 73 0 0 abB=rR m 0 0 2 s.most s.depth.toNat:=by rw[hcr];rfl
  rw[e];unfold rR;rw[if_neg (by omega),if_neg (by omega),if_neg (by omega),if_neg (by omega)]
 have hI0:dY r.room []:=by rw[hro];exact Bn
 have hI1:dY r.room (iR [] (lX [] 1 abB)):=by
  have hz:abB.size=2:=rfl;have hu:bP []=0:=rfl;exact(hI0.app (n:=1) (b:=abB) (by omega) (by omega) (by omega) (by omega)).1
 have hB:BK (aAQ r) (aAP r (iR [] (lX [] 1 abB))):=by
  refine⟨?_,Int.le_refl _,hI1.crash (by omega) (by omega),?_⟩
  ·have q:=h.snd.gs.bk.bK;rw[hr];exact⟨q.ES,q.Vt,q.Db,q.xD,q.Vu,q.oK,z3,z1,z2,z1,z2,hg.zM,hg.Cb,hg.nK,hg.zN⟩
  ·have:(aAP r (iR [] (lX [] 1 abB))).length<=1:=by
    unfold aAP;rw[Vp hI1];exact Nat.le_trans (List.length_filter_le _ _) (by rw[List.length_map];exact Nat.le_refl _)
   omega
 refine⟨act_die hS (by decide) hon.2.2.2 hon.2.2.1 hc,hB,?_⟩;obtain⟨bN,e,-⟩:=YX (m':=m) (s:=aAQ r) rfl rfl hB.bK hB.inv (stop_read (by omega) (by omega) hI1 _) (Int.le_refl _);exact⟨_,e,rfl,rfl⟩
def armC (s:Sc):Sc:= { s with eG:=true,after:=1,one:=99,rest:=99 }
def St1 (w:F)(ps:Nat->Addr)(qp:Nat)(X:Nat->Prop):Prop:=Gl w ps/\∃s fs m t,pF w qp (armC s) fs m X/\nG (aY s,fs,m) ([],[],[],0) 0 t/\fU s/\0<=s.after
def St2 (w:F)(ps:Nat->Addr)(qp:Nat)(X:Nat->Prop):Prop:=Gl w ps/\∃s fs m z,pF w qp s fs m X/\s.aS=false/\BK s fs/\jM (s,fs,m)=(z,0)/\z.1.aS=true/\z.2.2=([],[],[],0,0)
def St3 (w:F)(ps:Nat->Addr)(qp:Nat)(X:Nat->Prop):Prop:=Gl w ps/\∃s fs,pF w qp s fs ([],[],[],0,0) X/\s.aS=true
theorem st_crash {T:Nat}(h:rF w ps qp d [] ([],[],[],0) 0 T X):
 H K 21 #[U (M ⟨qp,0,O⟩),I V 1,I V 99,I V 99] w fun e w'=>e=G (I V 0)/\∃X',St1 w' ps qp X'/\Dk w w' X X':=by
 obtain⟨hG,s,fs,m,hQ,hH,hd,hW,-⟩:=h;obtain⟨t,hS⟩:=hH.Ep;have e:armS s 1 99 99=(armC s,0):=by unfold armS;rw[if_neg (by omega)];rfl
 refine(xcrash hQ).mono ?_;rintro e' w' ⟨rfl,X',h1,h2⟩;rw[e]at h1 ⊢;exact⟨rfl,X',⟨hG.q h2.1 (fun b hb=>hQ.ty hb),s,fs,m,t,h1,hS,hW.bK,hW.qC⟩,h2⟩
theorem st_insert (h:St1 w ps qp X):
 H K 28 #[U (M ⟨qp,0,O⟩),I V 0,.string ⟨#[97,98]⟩] w fun e w'=>e=G (I V 10)/\∃X',St2 w' ps qp X'/\Dk w w' X X':=by
 obtain⟨hG,s,fs,m,t,hQ,hS,hg,haf⟩:=h;obtain⟨e1,e2,z,e3,e4,e5⟩:=stop_open hS hg rfl
 have MW:GS (armC s,fs,m) 0:=by
  have:=gs_arm (a:=1) (b:=99) (c:=99) (jK hS.snd.gs hg haf) (by decide) (by decide) (by decide);have e:armS s 1 99 99=(armC s,0):=by unfold armS;rw[if_neg (by omega)];rfl
  rw[e]at this;simpa using this
 refine(BF (n:=0) (text:=abB) hQ hG MW (by decide) (by decide)).mono ?_;rintro e' w' ⟨rfl,hq⟩;have e1':eZ (armC s,fs,m) 73 0 0 abB=_:=e1;rw[e1']at hq ⊢;obtain⟨X',h1,h2⟩:=hq;exact⟨rfl,X',⟨hG.q h2.1 (fun b hb=>hQ.ty hb),_,_,_,z,h1,rfl,e2,e3,e4,e5⟩,h2⟩
theorem st_length (h:St2 w ps qp X):
 H K 40 #[U (M ⟨qp,0,O⟩)] w fun e w'=>e=G (.tuple #[I V 0,I V 3])/\w'=w:=by
 obtain⟨hG,s,fs,m,z,hQ,ho,-⟩:=h;have:=VH hQ;rw[ho]at this;simpa using this
theorem st_open (h:St2 w ps qp X):
 H K 24 #[U (M ⟨qp,0,O⟩)] w fun e w'=>e=G (I V 0)/\∃X',St3 w' ps qp X'/\Dk w w' X X':=by
 obtain⟨hG,s,fs,m,z,hQ,ho,hB,e,z1,z2⟩:=h;refine(KL (D:=0) hQ hG (GS.shut hB ho)).mono ?_;rintro e' w' ⟨rfl,X',h1,h2⟩;rw[e]at h1 ⊢;obtain⟨zaaa,zb,zc⟩:=z;simp only at z1 z2 h1;subst z2;exact⟨rfl,X',⟨hG.q h2.1 (fun b hb=>hQ.ty hb),zaaa,zb,h1,z1⟩,h2⟩
theorem st_length2 (h:St3 w ps qp X):
 H K 40 #[U (M ⟨qp,0,O⟩)] w fun e w'=>e=G (.tuple #[I V 0,I V 0])/\w'=w:=by
 obtain⟨hG,s,fs,hQ,ho⟩:=h;have:=VH hQ;rw[ho]at this;have hz:sz ([]:List (Int×Int))=0:=rfl;simpa[hz]using this
theorem stops_any (hG:Gl w ps):
 H K 20 #[] w fun e w'=>e=G (.bool true)/\aJ w w':=by
 have hF:=BR (d:=5) hG (by decide);clear hG;go_enter Tryz.func20,Tryz.ntmps20
 go_upto_region 4 with(go_at_call 17;refine hF.mono ?_;clear hF;rintro e w1 ⟨qp,X1,rfl,s1,x1,g1⟩;have hCr:=st_crash s1;clear s1)
 go_upto_region 5 with(go_at_call 21;refine hCr.mono ?_;clear hCr;rintro e w2 ⟨rfl,X2,s2,k2⟩;obtain⟨g2,x2⟩:=nV g1 x1 k2;have hIn:=st_insert s2;clear s2 k2 g1 x1)
 go_upto_region 6 with(go_at_call 28;refine hIn.mono ?_;clear hIn;rintro e w3 ⟨rfl,X3,s3,k3⟩;obtain⟨g3,x3⟩:=nV g2 x2 k3;have hLe:=st_length s3;have Sq:=st_open s3;clear s3 k3 g2 x2)
 go_upto_region 7 with(go_at_call 40;refine hLe.mono ?_;clear hLe;rintro e w4 ⟨rfl,rfl⟩)
 go_upto_region 8 with(go_at_call 24;refine Sq.mono ?_;clear Sq;rintro e w5 ⟨rfl,X5,s5,k5⟩;obtain⟨g5,x5⟩:=nV g3 x3 k5;have hL2:=st_length2 s5;clear s5 k5 g3 x3)
 go_wp2_with (go_at_call 40;refine hL2.mono ?_;clear hL2;rintro e w6 ⟨rfl,rfl⟩)
 go_ret;exact⟨rfl,g5⟩
def HalfF (fs0 fs:List bF)(ep:Int)(j:Nat):Prop:=aL fs 1=aL fs0 1/\aL fs 2=aL fs0 2/\(aL fs (10+ep)=aL fs0 (10+ep)\/aL fs (10+ep)=(aL fs0 (10+ep)).extract 0 (22*j))
theorem HalfF.refl (fs:List bF)(ep:Int)(j:Nat):HalfF fs fs ep j:=⟨rfl,rfl,Or.inl rfl⟩
theorem HalfF.trans {a b c:List bF}(h:HalfF a b ep j)(h':HalfF b c ep j):HalfF a c ep j:=by
 obtain⟨h1,h2,h3⟩:=h;obtain⟨k1,k2,k3⟩:=h';refine⟨k1.trans h1,k2.trans h2,?_⟩;rcases k3 with k3|k3
 ·rw[k3];exact h3
 ·rcases h3 with h3|h3
  ·exact Or.inr (by rw[k3,h3])
  ·refine Or.inr ?_;rw[k3,h3];refine pW ?_;rw[iC,iC];simp only[List.drop_zero,Nat.sub_zero,List.take_take,Nat.min_self]
def ZAt (w:F)(ps:Nat->Addr)(qp d:Nat)(fs0:List bF)(ep:Int)(j:Nat)(X:Nat->Prop):Prop:=Gl w ps/\∃s fs m,pF w qp s fs m X/\s.aS=false/\BK s fs/\s.refusing=false/\s.most=5000/\s.room=1000000/\s.depth=(d:Int)/\flF fs/\HalfF fs0 fs ep j
def OAt (w:F)(ps:Nat->Addr)(qp d:Nat)(aF:List bF)(ep:Int)(m:bT)(X:Nat->Prop):Prop:=Gl w ps/\∃s,pF w qp s aF m X/\s.aS=true/\s.ro=false/\s.aV=ep/\fU s/\0<=s.after/\s.refusing=false/\s.most=5000/\s.room=1000000/\s.depth=(d:Int)
def OBt (w:F)(ps:Nat->Addr)(qp d:Nat)(aF:List bF)(ep:Int)(m:bT)(X:Nat->Prop):Prop:=Gl w ps/\∃s,pF w qp s aF m X/\s.aS=true/\s.ro=false/\s.aV=ep/\fU s/\0<=s.after/\s.refusing=false/\s.most=5000/\s.room=1000000/\s.depth=(d:Int)/\Xx s 1000
theorem o_crash (h:OAt w ps qp d aF ep m X):
 H K 21 #[U (M ⟨qp,0,O⟩),I V 1000,I V 0,I V 0] w fun e w'=>e=G (I V 0)/\∃X',OBt w' ps qp d aF ep m X'/\Dk w w' X X':=by
 obtain⟨hG,s,hQ,h1,h2,h3,g,h5,h6,h7,h8,h9⟩:=h;have e:armS s 1000 0 0=({ s with eG:=true,after:=1000,one:=0,rest:=0 },0):=by unfold armS;rw[if_neg (by omega)]
 refine(xcrash hQ).mono ?_;rintro e' w' ⟨rfl,X',q1,q2⟩;rw[e]at q1 ⊢;exact⟨rfl,X',⟨hG.q q2.1 (fun b hb=>hQ.ty hb),_,q1,h1,h2,h3,⟨g.ES,g.Vt,g.Db,g.xD,g.Vu,g.oK,by show(1000:Int)<=_;decide,by show(0:Int)<=0;decide,by show(0:Int)<=_;decide,by show(0:Int)<=0;decide,by show(0:Int)<=_;decide,g.zM,g.Cb,g.nK,g.zN⟩,by show(0:Int)<=1000;decide,h6,h7,h8,h9,fun _=>by show(1000:Int)<=1000;decide⟩,q2⟩
theorem o_done (h:OBt w ps qp d aF ep m X):
 H K 25 #[U (M ⟨qp,0,O⟩)] w fun e w'=>e=G (.tuple #[I V m.2.2.2.1,I V 0])/\w'=w:=by
 obtain⟨hG,s,hQ,h1,-⟩:=h;have:=xdone hQ;rw[h1]at this;simp only[if_true]at this;exact this
theorem o_image (h:OBt w ps qp d aF ep m X)(hI:dY 1000000 aF)(hl:aF.length<=50):
 H K 34 #[U (M ⟨qp,0,O⟩)] w fun e w'=> ∃gb,e=G (Z (M ⟨gb,0,O⟩) aF.length aF.length)/\Ad w' w.heap.size (Z (M ⟨gb,0,O⟩) aF.length aF.length) (aF.map (fun f=>(f.1,f.2.1)))/\aJ w w':=by
 obtain⟨hG,s,hQ,h1,h2,h3,g,h5,h6,h7,h8,h9⟩:=h;refine(H_ hQ ⟨g,h5,by rw[h8];exact hI,hl⟩).mono ?_;rintro e w' ⟨g',rfl,ho,hg⟩;exact⟨g',rfl,ho,hg⟩
theorem o_sat {x:St}{t:Tm}(h:OBt w ps qp d aF ep m X)(hS:nG x g k t)(hk:k<=250)(hx:x.2=(aF,m))(hd:x.1.depth=(d:Int))(he:x.1.aV=ep):rO w ps qp d g 250 X:=by
 obtain⟨hG,s,hQ,h1,h2,h3,hg,h5,h6,h7,h8,h9,hb⟩:=h;obtain⟨xs,xf,xm⟩:=x;simp only[Prod.mk.injEq]at hx;obtain⟨rfl,rfl⟩:=hx;have hrm:(aY s).room=xs.room:=by show s.room=_;rw[h8];exact hS.snd.room.symm
 refine⟨hG,s,xf,xm,t,hQ,?_,h9,⟨hg,h5,fun q=>by have:=hb q;omega⟩⟩;exact uT (hS.E_ (s':=aY s) (good_calm hg) (Int.le_refl _) h1 h2 rfl h6 h7 h8 (by show s.depth=_;rw[h9];exact hd.symm) (by show s.aV=_;rw[h3];exact he.symm) (by rw[hrm];exact hS.snd.gs.bk.inv) hS.snd.QX (fun _ _=>rfl)) hk
theorem half_crash {a:Int}(h:ZAt w ps qp d fs0 ep j X)(ha:0<=a/\a<=1000):
 H K 21 #[U (M ⟨qp,0,O⟩),I V a,I V 0,I V 0] w fun e w'=>e=G (I V 0)/\∃X',ZAt w' ps qp d fs0 ep j X'/\Dk w w' X X':=by
 obtain⟨hG,s,fs,m,hQ,ho,hB,h1,h2,h3,h4,h5⟩:=h;have e:armS s a 0 0=({ s with eG:=true,after:=a,one:=0,rest:=0 },0):=by unfold armS;rw[if_neg (by omega)]
 refine(xcrash hQ).mono ?_;rintro e' w' ⟨rfl,X',q1,q2⟩;rw[e]at q1 ⊢;have g:=hB.bK;exact⟨rfl,X',⟨hG.q q2.1 (fun b hb=>hQ.ty hb),_,fs,m,q1,ho,⟨⟨g.ES,g.Vt,g.Db,g.xD,g.Vu,g.oK,by show a<=_;omega,by show(0:Int)<=0;decide,by show(0:Int)<=_;decide,by show(0:Int)<=0;decide,by show(0:Int)<=_;decide,g.zM,g.Cb,g.nK,g.zN⟩,ha.1,hB.inv,hB.len⟩,h1,h2,h3,h4,h5⟩,q2⟩
theorem half_open (h:ZAt w ps qp d fs0 ep j X)(hB0:BK (iF 5000 (d:Int) 1000000) fs0)(hf0:flF fs0)(hR:Rdn fs0 d ep m1 j)(hb:0<=m1.2.2.2.2)(hF:∃z,jM (iF 5000 (d:Int) 1000000,fs0,jF)=((z,aF,m1),0)):
 H K 24 #[U (M ⟨qp,0,O⟩)] w fun e w'=> ∃c,e=G (I V c)/\∃X',Dk w w' X X'/\((c=0/\OAt w' ps qp d aF ep m1 X')\/(c=10/\ZAt w' ps qp d fs0 ep j X')):=by
 obtain⟨hG,s,fs,m,hQ,ho,hB,h1,h2,h3,h4,h5,b1,b2,bj⟩:=h;have MW:=gs_begin (x:=(s,fs,m)) (D:=1000100000) (GS.shut hB ho) (by decide);have hds:s.depth.toNat=d:=aAf h4;obtain⟨F',e0,e1,-⟩:=begin_same (s:=iF 5000 (d:Int) 1000000) (s1:=aY s) (fs:=fs0) (Kb:=fs) (m:=jF) (m':=m) rfl rfl hB0.bK hB0.inv hf0 hR hb ho rfl (good_calm hB.bK) hB.inv h5 h4 b1 b2 bj;obtain⟨z,hz⟩:=hF;rw[hz]at e0;simp only[Prod.mk.injEq,and_true]at e0;obtain⟨-,rfl⟩:=e0;refine(KL (D:=0) hQ hG (GS.shut hB ho)).mono ?_;rintro e w' ⟨rfl,X',q1,q2⟩;have hGl:=hG.q q2.1 (fun b hb=>hQ.ty hb);rcases begin_arm (m:=m) ho hB.qC hB.bK hB.inv h5 (by rw[hds];exact rdn_half hR b1 b2 bj) hb with⟨s',y,p1,p2,p3,p4⟩|⟨Kb,p1,p2,p3,p4⟩
 ·rw[e1]at p2;simp only[Prod.mk.injEq,and_true]at p2;obtain⟨c1,rfl⟩:=p2;rw[p1]at q1 ⊢;refine⟨0,rfl,X',q2,Or.inl ⟨rfl,hGl,s',q1,?_,?_,?_,p4,p3,?_,?_,?_,?_⟩⟩
  ·show(aY s').aS=_;rw[<-c1]
  ·show(aY s').ro=_;rw[<-c1]
  ·show(aY s').aV=_;rw[<-c1]
  ·show(aY s').refusing=_;rw[<-c1];exact h1
  ·show(aY s').most=_;rw[<-c1];exact h2
  ·show(aY s').room=_;rw[<-c1];exact h3
  ·show(aY s').depth=_;rw[<-c1];exact h4
 ·rw[p1]at q1 MW ⊢;exact⟨10,rfl,X',q2,Or.inr ⟨rfl,hGl,_,Kb,m,q1,rfl,MW.bk,h1,h2,h3,h4,p3,HalfF.trans ⟨b1,b2,bj⟩ p4⟩⟩
theorem half_calm (h:LF w ps qp d fs0 X)(hB0:BK (iF 5000 (d:Int) 1000000) fs0)(hR:Rdn fs0 d ep m1 j)(hb:0<=m1.2.2.2.2)(hF:∃z,jM (iF 5000 (d:Int) 1000000,fs0,jF)=((z,aF,m1),0)):
 H K 24 #[U (M ⟨qp,0,O⟩)] w fun e w'=>e=G (I V 0)/\∃X',Dk w w' X X'/\OBt w' ps qp d aF ep m1 X':=by
 obtain⟨hG,hQ⟩:=h;have MW:=gs_begin (x:=(iF 5000 (d:Int) 1000000,fs0,jF)) (D:=1000100000) (GS.shut hB0 rfl) (by decide);obtain⟨F',e0,-⟩:=YX (m':=jF) (s:=iF 5000 (d:Int) 1000000) rfl rfl hB0.bK hB0.inv hR hb;obtain⟨z,hz⟩:=hF;rw[hz]at e0;simp only[Prod.mk.injEq,and_true]at e0;obtain⟨rfl,rfl⟩:=e0;refine(KL (D:=0) hQ hG (GS.shut hB0 rfl)).mono ?_;rintro e w' ⟨rfl,X',q1,q2⟩;rw[hz]at q1 MW ⊢;exact⟨rfl,X',q2,hG.q q2.1 (fun b hb=>hQ.ty hb),_,q1,rfl,rfl,rfl,MW.bk.bK,MW.bk.qC,rfl,rfl,rfl,rfl,fun q=>by cases q⟩
def ZLt (w:F)(ps:Nat->Addr)(qp d:Nat)(fs0:List bF)(ep:Int)(j:Nat)(X:Nat->Prop):Prop:=Gl w ps/\∃s fs m,pF w qp s fs m X/\s.aS=false/\BK s fs/\s.refusing=false/\s.most=5000/\s.room=1000000/\s.depth=(d:Int)/\flF fs/\HalfF fs0 fs ep j/\Xx s 60
theorem half_far (h:ZAt w ps qp d fs0 ep j X):
 H K 21 #[U (M ⟨qp,0,O⟩),I V 1000,I V 0,I V 0] w fun e w'=>e=G (I V 0)/\∃X',ZLt w' ps qp d fs0 ep j X'/\Dk w w' X X':=by
 obtain⟨hG,s,fs,m,hQ,ho,hB,h1,h2,h3,h4,h5,h6⟩:=h;have e:armS s 1000 0 0=({ s with eG:=true,after:=1000,one:=0,rest:=0 },0):=by unfold armS;rw[if_neg (by omega)]
 refine(xcrash hQ).mono ?_;rintro e' w' ⟨rfl,X',q1,q2⟩;rw[e]at q1 ⊢;have g:=hB.bK;exact⟨rfl,X',⟨hG.q q2.1 (fun b hb=>hQ.ty hb),_,fs,m,q1,ho,⟨⟨g.ES,g.Vt,g.Db,g.xD,g.Vu,g.oK,by show(1000:Int)<=_;decide,by show(0:Int)<=0;decide,by show(0:Int)<=_;decide,by show(0:Int)<=0;decide,by show(0:Int)<=_;decide,g.zM,g.Cb,g.nK,g.zN⟩,by show(0:Int)<=1000;decide,hB.inv,hB.len⟩,h1,h2,h3,h4,h5,h6,fun _=>by show(60:Int)<=1000;decide⟩,q2⟩
theorem half_last (h:ZLt w ps qp d fs0 ep j X)(hB0:BK (iF 5000 (d:Int) 1000000) fs0)(hf0:flF fs0)(hR:Rdn fs0 d ep m1 j)(hb:0<=m1.2.2.2.2)(hF:∃z,jM (iF 5000 (d:Int) 1000000,fs0,jF)=((z,aF,m1),0)):
 H K 24 #[U (M ⟨qp,0,O⟩)] w fun e w'=>e=G (I V 0)/\∃X',Dk w w' X X'/\OAt w' ps qp d aF ep m1 X':=by
 obtain⟨hG,s,fs,m,hQ,ho,hB,h1,h2,h3,h4,h5,hH,hBu⟩:=h;have hz:ZAt w ps qp d fs0 ep j X:=⟨hG,s,fs,m,hQ,ho,hB,h1,h2,h3,h4,h5,hH⟩;have hds:s.depth.toNat=d:=aAf h4;obtain⟨m0,r1,r2⟩:=rdn_half hR hH.1 hH.2.1 hH.2.2
 have hl:(iT fs ep).length<=50:=by
  unfold iT;exact Nat.le_trans (List.length_filter_le _ _) (by rw[List.length_map];exact hB.len)
 obtain⟨F',e0,e1,-⟩:=begin_same (s:=iF 5000 (d:Int) 1000000) (s1:=aY s) (fs:=fs0) (Kb:=fs) (m:=jF) (m':=m) rfl rfl hB0.bK hB0.inv hf0 hR hb ho rfl (good_calm hB.bK) hB.inv h5 h4 hH.1 hH.2.1 hH.2.2;obtain⟨s',e2,Uc⟩:=ZN (s:=s) (fs:=fs) (m:=m) (em:=(ep,m0)) (by rw[hds];exact r1) (fun q=>by have:=hBu q;simp only;omega);refine(KL (D:=0) hQ hG (GS.shut hB ho)).mono ?_;rintro e w' ⟨rfl,X',q1,q2⟩;have MW:=gs_begin (x:=(s,fs,m)) (D:=1000100000) (GS.shut hB ho) (by decide);obtain⟨z,hzz⟩:=hF;rw[hzz]at e0;simp only[Prod.mk.injEq,and_true]at e0;obtain⟨-,rfl⟩:=e0;have c1:=Uc.calm;rw[e1]at e2 c1;rw[e2]at q1 MW ⊢;refine⟨rfl,X',q2,hG.q q2.1 (fun b hb=>hQ.ty hb),s',q1,?_,?_,?_,MW.bk.bK,MW.bk.qC,?_,?_,?_,?_⟩
 ·show(aY s').aS=_;rw[c1]
 ·show(aY s').ro=_;rw[c1]
 ·show(aY s').aV=_;rw[c1]
 ·show(aY s').refusing=_;rw[c1];exact h1
 ·show(aY s').most=_;rw[c1];exact h2
 ·show(aY s').room=_;rw[c1];exact h3
 ·show(aY s').depth=_;rw[c1];exact h4
theorem stp_sto {z:Sc}(h:Img L d g k)(hk:k<=400)(ht:t.size=0)(hd:d<=50)(hF:jM (iF 5000 (d:Int) 1000000,Sm (aAW L t),jF)=((z,aF,m1),0)):∃x tt,nG x g k tt/\x.2=(aF,m1)/\x.1.depth=(d:Int)/\x.1.aV=z.aV:=by
 have hB:=stp_bk h hk (by omega:t.size<=100) hd;obtain⟨x,tt,hS,hdd,rfl⟩:=h;have au:=hS.snd.ep
 have same:∀n,n<2000->aL (Sm (aAW (x.2.1.map (fun f=>(f.1,f.2.1))) t)) n=aL x.2.1 n:=fun n hn=>by
  obtain⟨T,e,-,z,-⟩:=stp_bytes (x:=x) (n:=n) t hn;rw[e,z ht];exact pW (by rw[eY];simp)
 obtain⟨bN,e,hS',-⟩:=KH (m':=jF) hS hB.bK hB.qC rfl rfl rfl rfl rfl hdd.symm hB.inv ⟨⟨#[]⟩,by rw[same 1 (by decide)];exact pW (by rw[eY];simp)⟩ (same 2 (by decide)) (same _ (by omega));rw[hF]at e;simp only[Prod.mk.injEq,and_true]at e;obtain⟨rfl,rfl,rfl⟩:=e;exact⟨_,tt,hS',rfl,rfl,rfl⟩
theorem stp_few (h:Img L d g k)(hk:k<=400)(ht:t.size<=100)(hd:d<=50):(aAW L t).length<=6/\∀f∈aAW L t,f.2.size<=2000000:=by
 have hB:=stp_bk h hk ht hd;refine⟨?_,fun f hf=>?_⟩
 ·obtain⟨x,tt,hS,-,rfl⟩:=h;have:=VQ hS.snd;simp[aAW,aAV];omega
 ·have:=(hB.inv.ok (f.1,f.2,(f.2.size:Int)) (List.mem_map.2 ⟨f,hf,rfl⟩)).2.2;exact this
theorem stp_laid {B:Nat}(h:LF w ps qp d [] X)(hI:Img L d g k)(hk:k<=400)(ht:t.size<=100)(hd:d<=50)(hR:Ad w B v (aAW L t)):
 H K 35 #[U (M ⟨qp,0,O⟩),v] w fun e w'=>e=G (I V 0)/\∃X',LF w' ps qp d (Sm (aAW L t)) X'/\Dk w w' X X':=by
 obtain⟨hG,hQ⟩:=h;have hl:=stp_load hI hk ht;obtain⟨h4,gQ⟩:=stp_few hI hk ht hd;obtain⟨ao,cap,rfl,hr,-⟩:=Ad.rdh hR;refine(xload hQ hr.1 (fun a ha=>?_) rfl (by simp[iF]) (by simp[iF]) (by omega) (fun f hf=>by have:=gQ f hf;omega)).mono ?_
 ·rcases Ad.row hR with⟨e,-⟩|⟨g',yZ,aT,e,-,hc,-⟩
  ·simp only[Value.slice.injEq]at e;rw[e.1]at ha;cases ha
  ·simp only[Value.slice.injEq]at e;rw[e.1]at ha;cases ha
   exact⟨aT,_,_,hc,by decide⟩
 ·rintro e w' ⟨rfl,X',h1,h2⟩;rw[hl]at h1 ⊢;exact⟨rfl,X',⟨hG.q h2.1 (fun b hb=>hQ.ty hb),h1⟩,h2⟩
theorem LF.half (h:LF w ps qp d fs0 X)(hB:BK (iF 5000 (d:Int) 1000000) fs0)(hf:flF fs0):ZAt w ps qp d fs0 ep j X:=⟨h.1,_,fs0,jF,h.2,rfl,hB,rfl,rfl,rfl,rfl,hf,HalfF.refl fs0 ep j⟩
structure StP (w W:F)(ps:Nat->Addr)(qx qy aAU d:Nat)(v:Y)(n:Nat)(g:Gm)(X aB qm:Nat->Prop):Prop where
 at':rO W ps qx d g 120 X
 fy:LF W ps qy d [] aB
 fz:LF W ps aAU d [] qm
 xy:∀b,X b->¬aB b
 xz:∀b,X b->¬qm b
 yz:∀b,aB b->¬qm b
 nx:∀b,X b->w.heap.size<=b
 ny:∀b,aB b->w.heap.size<=b
 nz:∀b,qm b->w.heap.size<=b
 gr:aJ w W
 row:∃L q B,nW W B v (L++ [q])/\eU W (MQ.agg q) g d/\L.length=n/\n<=120
theorem stp_any {ao:Option Addr}{len cap:Nat}(hA:vX w w.heap.size ao len)(hlen:(len:Int)<=9223372036854775807)(hW:aJ w W)(hd:d<=50)(hS:rF W ps qp d [] ([],[],[],0) 0 0 X)(hY:LF W ps qy d [] aB)(hZ:LF W ps aAU d [] qm)(xy:∀b,X b->¬aB b)(xz:∀b,X b->¬qm b)(yz:∀b,aB b->¬qm b)(nx:∀b,X b->w.heap.size<=b)(ny:∀b,aB b->w.heap.size<=b)(nz:∀b,qm b->w.heap.size<=b):
 H K 18 #[U (M ⟨qp,0,O⟩),Z ao len cap,I V (d:Int)] W fun e w'=> ∃gb n c,e=G (.tuple #[Z (M ⟨gb,0,O⟩) (n+1) c,.bool true])/\n+1<=c/\n<=120/\∃g X',Hid (StP w w' ps qp qy aAU d (Z (M ⟨gb,0,O⟩) (n+1) c) n g X' aB qm):=by
 obtain⟨sz,hZz⟩:=VN hA;refine(LC (N:=w.heap.size) hS hd (hZz.dk (Dk.bH (X:=fun _=>False) hW) (Nat.le_refl _) (fun b e=>e.elim)) hW.size nx hlen).mono ?_;rintro e w3 ⟨v,rfl,g,X',L,q,aA,s3,k3,m3,o3,l3⟩;obtain⟨g3,x3⟩:=nV hW nx k3;obtain⟨gb,c,rfl,hc,-⟩:=o3.last;have hT:∀b,X b->lD W b:=fun b hb=>hS.ty hb
 exact⟨gb,L.length,c,rfl,hc,l3,g,X',s3.sat,hY.away k3.1 hT (fun b hb hx=>xy b hx hb),hZ.away k3.1 hT (fun b hb hx=>xz b hx hb),dk_dis k3 xy (fun b hb=>(hY.ty hb).lt),dk_dis k3 xz (fun b hb=>(hZ.ty hb).lt),yz,x3,ny,nz,g3,L,q,_,o3,m3.1,rfl,l3⟩
theorem StP.aM {qx:Nat}(h:StP w W ps qx qy aAU d v n g X aB qm)(hg:aJ W W'):StP w W' ps qx qy aAU d v n g X aB qm:=by
 obtain⟨L,q,B,r1,r2,r3⟩:=h.row;exact⟨h.at'.aM hg,h.fy.aM hg,h.fz.aM hg,h.xy,h.xz,h.yz,h.nx,h.ny,h.nz,h.gr.then hg,L,q,B,r1.aM hg,r2.aM hg,r3⟩
theorem ZAt.ty (h:ZAt w ps qp d fs0 ep j X)(hb:X b):lD w b:=by
 obtain⟨-,s,fs,m,hQ,-⟩:=h;exact hQ.ty hb
theorem OBt.ty (h:OBt w ps qp d aF ep m X)(hb:X b):lD w b:=by
 obtain⟨-,s,hQ,-⟩:=h;exact hQ.ty hb
theorem OAt.ty (h:OAt w ps qp d aF ep m X)(hb:X b):lD w b:=by
 obtain⟨-,s,hQ,-⟩:=h;exact hQ.ty hb
theorem OBt.aM (h:OBt w ps qp d aF ep m X)(hg:aJ w w'):OBt w' ps qp d aF ep m X:=by
 obtain⟨h1,s,hQ,h2⟩:=h;exact⟨h1.aM hg,s,hQ.aM hg,h2⟩
theorem OBt.away (h:OBt w ps qp d aF ep m X)(hF:Fr w w' aB)(hY:∀b,aB b->lD w b)(hX:∀b,X b->¬aB b):OBt w' ps qp d aF ep m X:=by
 obtain⟨h1,s,hQ,h2⟩:=h;exact⟨h1.q hF hY,s,hQ.fr hF hY hX,h2⟩
def IntsOk (w:F)(N:Nat)(ao:Option Addr)(len:Nat):Prop:=len=0\/∃b off,ao=M ⟨b,off,O⟩/\b<N/\∀i,i<len->∃n,(-9223372036854775808<=n/\n<=9223372036854775807)/\w.cell? ⟨b,off+i,O⟩=M (I V n)
theorem ints_open {aA:Type}{iQ:TypeId×Y->aA}{a0:Option Addr}{len cap:Nat}{d0:DataW aA}{p0:List MemPlace}(h0:DataW.Trod iQ K W 0 (fun _=>true) true 60 (Z a0 len cap) d0 p0)(hb:Rows.uptoBulk d0<=1048576):IntsOk W W.heap.size a0 len/\len<=1048576:=by
 obtain⟨fuel,hf⟩:=h0;rcases open_slice Tryz.underlying60 hf with⟨hcs,hx⟩|⟨a,len',yZ,m,n,D,Pl,hcs,pR,hl,hm,hmm,hx,hel⟩
 ·simp[Value.cells]at hcs;obtain⟨rfl,rfl,rfl⟩:=hcs;exact⟨Or.inl rfl,by omega⟩
 ·simp[Value.cells]at hcs;obtain⟨rfl,rfl,rfl⟩:=hcs;simp only[Prod.mk.injEq]at hx;obtain⟨rfl,rfl⟩:=hx
  have hall:Rows.uptoBulkAll (List.map D (List.range len))<=1048576:=by
   simp only[Rows.uptoBulk]at hb;omega
  have hlen:len<=1048576:=by
   have h1:=bulk_len (List.map D (List.range len));simp only[List.length_map,List.length_range]at h1;omega
  refine⟨?_,hlen⟩;simp only[if_true]at hmm;by_cases hl0:len=0
  ·exact Or.inl hl0
  ·obtain⟨b,off,spot⟩:=a;rw[Tryz.cellsInt]at hel
   have one:∀i,i<len->∃q,(-9223372036854775808<=q/\q<=9223372036854775807)/\W.cell? ((⟨b,off,spot⟩:Addr).add (i*1))=M (I V q):=fun i hi=>by
    obtain⟨cs,g1,g2⟩:=hel i (by omega);obtain⟨_,hlen',hcell⟩:=World.cells?_some g1;obtain⟨c,e,-,hw⟩:=DataW.trod_int Tryz.underlying3 g2;subst e;have:=hcell 0 (by decide);refine⟨c,tJ hw,?_⟩;simpa[Addr.add]using this
   obtain⟨q0,-,z0⟩:=one 0 (by omega);have hspot:spot=O:=by simpa[Addr.add]using World.cell?_spot z0
   subst hspot;refine Or.inr ⟨b,off,rfl,World.block_lt_of_cell? _ _ (by simpa[add_plain]using z0),fun i hi=>?_⟩;obtain⟨q,hq,z⟩:=one i hi;rw[add_plain,Nat.mul_one]at z;exact⟨q,hq,z⟩
structure Two (w W:F)(d:Nat)(v:Y)(n:Nat)(g:Gm)(aB qm:Nat->Prop):Prop where
 yz:∀b,aB b->¬qm b
 ny:∀b,aB b->w.heap.size<=b
 nz:∀b,qm b->w.heap.size<=b
 ty:∀b,aB b->lD W b
 tz:∀b,qm b->lD W b
 gr:aJ w W
 row:∃L q B,nW W B v (L++ [q])/\eU W (MQ.agg q) g d/\L.length=n/\n<=120
theorem StP.two {qx:Nat}(h:StP w W ps qx qy aAU d v n g X aB qm):Two w W d v n g aB qm:=⟨h.yz,h.ny,h.nz,fun _ hb=>h.fy.ty hb,fun _ hb=>h.fz.ty hb,h.gr,h.row⟩
theorem Two.aM (h:Two w W d v n g aB qm)(hg:aJ W W'):Two w W' d v n g aB qm:=by
 obtain⟨L,q,B,r1,r2,r3⟩:=h.row;exact⟨h.yz,h.ny,h.nz,fun b hb=>(h.ty b hb).aM hg,fun b hb=>(h.tz b hb).aM hg,h.gr.then hg,L,q,B,r1.aM hg,r2.aM hg,r3⟩
theorem lD.away (h:lD w b)(hF:Fr w w' aB)(hb:¬aB b):lD w' b:=by
 obtain⟨aT,t,mk,e,ht⟩:=h;exact⟨aT,t,mk,hF.at e hb,ht⟩
theorem Two.y {Y':Nat->Prop}(h:Two w W d v n g aB qm)(hk:Dk W W' aB Y')(hT:∀b,Y' b->lD W' b):Two w W' d v n g Y' qm:=by
 obtain⟨L,q,B,r1,r2,r3⟩:=h.row;obtain⟨g1,n1⟩:=nV h.gr h.ny hk;exact⟨dk_dis hk h.yz (fun b hb=>(h.tz b hb).lt),n1,h.nz,hT,fun b hb=>(h.tz b hb).away hk.1 (fun e=>h.yz b e hb),g1,L,q,B,r1.q hk.1 h.ty,r2.q hk.1 h.ty,r3⟩
theorem Two.z {Z':Nat->Prop}(h:Two w W d v n g aB qm)(hk:Dk W W' qm Z')(hT:∀b,Z' b->lD W' b):Two w W' d v n g aB Z':=by
 obtain⟨L,q,B,r1,r2,r3⟩:=h.row;obtain⟨g1,n1⟩:=nV h.gr h.nz hk;have hd:=dk_dis hk (fun b hz hy=>h.yz b hy hz) (fun b hb=>(h.ty b hb).lt);exact⟨fun b hy hz=>hd b hz hy,h.ny,n1,fun b hb=>(h.ty b hb).away hk.1 (fun e=>h.yz b hb e),hT,g1,L,q,B,r1.q hk.1 h.tz,r2.q hk.1 h.tz,r3⟩
theorem Ad.q {B:Nat}{l:List AF}(h:Ad w B v l)(hF:Fr w w' aB)(hY:∀b,aB b->lD w b):Ad w' B v l:=fK h hF (fun _ _ _ hb e=>(hY _ e).ne hb (by decide) rfl)
theorem af_four {x y z u:Y}(h:w.heap[b]?=M (C #[x,y,z,u] 58 (0,0))):(w.cell? ⟨b,0,O⟩=M x/\w.cell? ⟨b,1,O⟩=M y)/\w.cell? ⟨b,2,O⟩=M z/\w.cell? ⟨b,3,O⟩=M u:=by simp[World.cell?,h]
theorem rda_two (w:F)(a a':Int)(b b':ByteArray):TD (w.alloc (C #[I V a,.string b,I V a',.string b'] 58)) (M ⟨w.heap.size,0,O⟩) [(a,b),(a',b')]:=by
 refine Or.inr ⟨w.heap.size,0,rfl,fun i f hf=>?_⟩;obtain⟨h1,h2⟩:=af_four (heap_alloc_new w (C #[I V a,.string b,I V a',.string b'] 58));have hi:i<2:=(List.getElem?_eq_some_iff.1 hf).1
 match i,hi with
 |0,_=>simp at hf;subst hf;exact h1
 |1,_=>simp at hf;subst hf;exact h2
structure Dsk (L:List AF)(t:ByteArray)(d:Nat)(g:Gm)(aF:List bF)(ep:Int)(m1:bT)(j:Nat):Prop where
 img:Img L d g 120
 t100:t.size<=100
 d50:d<=50
 rdn:Rdn (Sm (aAW L t)) d ep m1 j
 buf:0<=m1.2.2.2.2
 beg:jM (iF 5000 (d:Int) 1000000,Sm (aAW L t),jF)=(({ iF 5000 (d:Int) 1000000 with aS:=true,ro:=false,aV:=ep },aF,m1),0)
 inv:dY 1000000 aF
 few:aF.length<=50
theorem dsk_of (h:Img L d g 120)(ht:t.size<=100)(hd:d<=50):∃aF ep m1 j,Dsk L t d g aF ep m1 j:=by
 have hB:=stp_bk h (by decide) ht hd;obtain⟨ep,m1,j,hR,hb⟩:=stp_rdn h (by decide:120<=400) ht;obtain⟨aF,e,hI,-⟩:=YX (m':=jF) (s:=iF 5000 (d:Int) 1000000) rfl rfl hB.bK hB.inv hR hb;have MW:=gs_begin (x:=(iF 5000 (d:Int) 1000000,Sm (aAW L t),jF)) (D:=1000100000) (GS.shut hB rfl) (by decide);rw[e]at MW;exact⟨aF,ep,m1,j,h,ht,hd,hR,hb,e,hI,MW.bk.len⟩
theorem Dsk.bk (h:Dsk L t d g aF ep m1 j):BK (iF 5000 (d:Int) 1000000) (Sm (aAW L t)):=stp_bk h.img (by decide) h.t100 h.d50
end Go.Proofs.YtfplgfodoiiobaaGreatDoor
