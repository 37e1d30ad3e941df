/- RefV, RefW (joined). -/
import Derived.Test.YtfplgfodoiiobaaGreatDoorJ13
open Option renaming none→O,some→M
open Go.Value renaming int→I,slice→Z,pointer→U
open Go.IntKind renaming i64→V
open Go.Obj renaming cells→C
open Go.Ending renaming returned→G
open Go renaming World→F,Value→Y,Calls→H
open Go.Proofs.Tryz renaming prog→K
namespace Go.Proofs.YtfplgfodoiiobaaGreatDoor
set_option maxHeartbeats 2000000
set_option maxRecDepth 100000
open Go.RowKit
variable {w w':F}{m:dF}{xb d g:Nat}{f:bS}{s:Sc}{fs:List bE}{n a b c most pos:Int}{r:fF}{text:ByteArray}
theorem dw {l:List (Int×Int)}(h:tC n l):(l.length:Int)<=sz l:=by
 induction l with
 |nil=>simp[sz]
 |cons p l ih=>
  have h1:=h p (by simp);have h2:=ih (fun q hq=>h q (by simp[hq]));simp only[List.length_cons,sz];omega
theorem eG.okm (h:eG m d)(hd:d<=50)(hD:m.2.2.2.1<=2000000000):okM m:=by
 have h1:=h.ME;have h2:=h.ax;have h3:=h.Eh;have h4:=h.Ei;exact⟨h.CB,h.few,by omega,by omega,h.done,hD,h3,by omega⟩
theorem dx {bf p:Int}{gone come:List (Int×Int)}(hb:bf<=1000000)(hn:n<=5000)(hp:0<=p)(hg:tC bf gone)(hc:tC bf come)(h1:p+sz gone<=n)(h2:n-sz gone+sz come<=5000):Ar n p gone come:=by
 have a:=dw hg;have b:=dw hc;have c:=Iq hg;have d:=Iq hc;exact⟨hp,h1,hg.ok (by omega),hc.ok (by omega),by omega,by omega⟩
theorem eG.dz (h:eG m d):∀e rest,m.2.1=e::rest->Ar (sz m.1) e.1 e.2.2 e.2.1:=by
 intro e rest he;obtain⟨x,y,z⟩:=h.jA e (by rw[he];simp);have hf:=h.MF;rw[he,List.map_cons,wL,sJ]at hf;exact dx h.Ei h.long x z y hf.1 hf.2.1
theorem eG.fu (h:eG m d):∀e rest,m.2.2.1=e::rest->Ar (sz m.1) e.1 e.2.1 e.2.2:=by
 intro e rest he;obtain⟨x,y,z⟩:=h.jW e (by rw[he];simp);have hf:=h.ay;rw[he,List.map_cons,qL,sJ]at hf;exact dx h.Ei h.long x y z hf.1 hf.2.1
def kindOk (k:Int):Prop:=k=73\/k=68\/k=85\/k=82
theorem wQ {kind d:Int}(hk:kindOk kind)(hm:dQ w r m)(hg:eG m d.toNat)(Uy:0<=d)(hd:d<=50)(hD:m.2.2.2.1<=2000000000)(ha:a<=9223372036854775807)(hb:b<=9223372036854775807)(hc:c<=9223372036854775807)(hmo:0<=most)(hmo2:most<=5000):
 H K 162 #[r.v,I V kind,I V a,I V b,I V c,I V most,I V d] w fun e w'=>
  ∃r',e=G (.tuple #[fF.v r',I V (eO m kind a b c most d.toNat).2])/\dQ w' r' (eO m kind a b c most d.toNat).1/\Below w.heap.size w w':=by
 have kI:=hg.okm (by omega) hD;obtain⟨k,rfl⟩:=Int.eq_ofNat_of_zero_le Uy;rw[Int.toNat_natCast]at*;rcases hk with rfl|rfl|rfl|rfl
 ·have e:eO m 73 a b c most k=tQ m a b c most k:=rfl;rw[e];exact LP hm kI hc hmo hmo2 (by omega)
 ·have e:eO m 68 a b c most k=zR m a b k:=rfl;rw[e];exact LQ hm kI ha hb (by omega)
 ·have e:eO m 85 a b c most k=uF m k:=rfl;rw[e];exact DZ hm kI (by omega) hg.dz
 ·have e:eO m 82 a b c most k=uG m k:=rfl;rw[e];exact EB hm kI (by omega) hg.fu
theorem UF (s:Sc)(fs:List bE):jP s (dK s fs).2.1:=by
 rcases zU s fs with⟨_,e⟩|⟨_,_,e⟩|⟨_,_,e⟩<;>rw[e]<;>exact⟨rfl,rfl,rfl,rfl⟩
theorem add_same (s:Sc)(fs:List bE)(n:Int)(b:ByteArray):jP s (bQ s fs n b).2.1:=by
 unfold bQ;split
 ·exact⟨rfl,rfl,rfl,rfl⟩
 ·split
  ·exact⟨rfl,rfl,rfl,rfl⟩
  ·simp only;generalize tK:(if s.refusing=true then { s with left:=s.left-1 } else s)=s1;have h1:jP s s1:=by rw[<-tK];split<;>exact⟨rfl,rfl,rfl,rfl⟩
   have h2:=UF s1 fs;split
   ·exact h1.trans h2
   ·exact h1.trans h2
theorem bH.aN (h:bH w xb s fs m f)(hg:aL w w'):bH w' xb s fs m f:=by
 obtain⟨r,hx,hf,hm⟩:=h;exact⟨r,(hg.block xb (aM hx)).trans hx,⟨hf.1.aN hg,hf.2⟩,hm.aN hg⟩
theorem jN.far {f':bS}{o:Obj}(h:jN w w' xb f f')(hg:w.heap[g]?=M o)(h1:g≠xb)(h2:∀a,f.1=M a->a.block≠g):w'.heap[g]?=M o:=
 h.1.at hg (fun e=>e.elim h1 (fun ⟨a,e1,e2⟩=>h2 a e1 e2.symm))
theorem bH.row (h:bH w xb s fs m f):xb<w.heap.size/\∀a,f.1=M a->a.block<w.heap.size:=by
 obtain⟨r,hx,hf,-⟩:=h;exact⟨aM hx,fun a e=>by obtain⟨aS,hh⟩:=hf.1.2 a e;exact aM hh⟩
theorem MH (r':fF)(h:w.heap[xb]?=M (bM s f r)):
 (((((w.setCell ⟨xb,13,O⟩ r'.1.v).setCell ⟨xb,14,O⟩ r'.2.1.v).setCell ⟨xb,15,O⟩ r'.2.2.1.v).setCell ⟨xb,16,O⟩ (I V r'.2.2.2.1)).setCell ⟨xb,17,O⟩ (I V r'.2.2.2.2)).heap[xb]?=M (bM s f r'):=by
 have h1:=heap_setCell_same w xb 13 _ _ r'.1.v h;have h2:=heap_setCell_same _ xb 14 _ _ r'.2.1.v h1;have h3:=heap_setCell_same _ xb 15 _ _ r'.2.2.1.v h2;have h4:=heap_setCell_same _ xb 16 _ _ (I V r'.2.2.2.1) h3;have h5:=heap_setCell_same _ xb 17 _ _ (I V r'.2.2.2.2) h4;rw[h5];rfl
theorem Fr.chain {w1 w2:F}{X:Nat->Prop}(h1:Fr w w1 X)(h2:Fr w1 w2 X):Fr w w2 X:=h1.trans h2
theorem setM_fr (w:F)(xb:Nat)(a b c d e:Y):Fr w (((((w.setCell ⟨xb,13,O⟩ a).setCell ⟨xb,14,O⟩ b).setCell ⟨xb,15,O⟩ c).setCell ⟨xb,16,O⟩ d).setCell ⟨xb,17,O⟩ e) (fun b=>b=xb):=
 ((((Fr.set w ⟨xb,13,O⟩ a).trans (Fr.set _ ⟨xb,14,O⟩ b)).trans (Fr.set _ ⟨xb,15,O⟩ c)).trans (Fr.set _ ⟨xb,16,O⟩ d)).trans (Fr.set _ ⟨xb,17,O⟩ e)
theorem sN {m':dF}{r':fF}(h:bH w xb s fs m f)(hm:dQ w r' m'):
 bH (((((w.setCell ⟨xb,13,O⟩ r'.1.v).setCell ⟨xb,14,O⟩ r'.2.1.v).setCell ⟨xb,15,O⟩ r'.2.2.1.v).setCell ⟨xb,16,O⟩ (I V r'.2.2.2.1)).setCell ⟨xb,17,O⟩ (I V r'.2.2.2.2)) xb s fs m' f/\
 jN w (((((w.setCell ⟨xb,13,O⟩ r'.1.v).setCell ⟨xb,14,O⟩ r'.2.1.v).setCell ⟨xb,15,O⟩ r'.2.2.1.v).setCell ⟨xb,16,O⟩ (I V r'.2.2.2.1)).setCell ⟨xb,17,O⟩ (I V r'.2.2.2.2)) xb f f:=by
 obtain⟨r,hx,hf,-⟩:=h;have hF:=setM_fr w xb r'.1.v r'.2.1.v r'.2.2.1.v (I V r'.2.2.2.1) (I V r'.2.2.2.2);refine⟨⟨r',MH r' hx,hf.fr hF (fun b aS e=>Dp hx _ _ _ _ (by decide) e),hm.fr hF (fun b aS e=>Dp hx _ _ _ _ (by decide) e) (fun b aS e=>Dp hx _ _ _ _ (by decide) e)⟩,?_⟩;exact(((((jN.refl w xb f).set).set).set).set).set
theorem jM (h:w.heap[xb]?=M (bM s f r)):w.cell? ⟨xb,13,O⟩=M r.1.v/\w.cell? ⟨xb,14,O⟩=M r.2.1.v/\w.cell? ⟨xb,15,O⟩=M r.2.2.1.v/\w.cell? ⟨xb,16,O⟩=M (I V r.2.2.2.1)/\w.cell? ⟨xb,17,O⟩=M (I V r.2.2.2.2):=by
 simp[World.cell?,h,bM]
theorem Rs {w0:F}{a1 a2 a3 a4 a5 a6 a7:Addr}{v1 v2 v3 v4 v5 v6 v7:Y}(h1:w0.cell? a1=M v1)(h2:w0.cell? a2=M v2)(h3:w0.cell? a3=M v3)(h4:w0.cell? a4=M v4)(h5:w0.cell? a5=M v5)(h6:w0.cell? a6=M v6)(h7:w0.cell? a7=M v7)(h:aL w0 w):
 w.cell? a1=M v1/\w.cell? a2=M v2/\w.cell? a3=M v3/\w.cell? a4=M v4/\w.cell? a5=M v5/\w.cell? a6=M v6/\w.cell? a7=M v7/\aL w0 w:=⟨h.cell h1,h.cell h2,h.cell h3,h.cell h4,h.cell h5,h.cell h6,h.cell h7,h⟩
theorem vJ {w5:F}{a b c d e:Y}{t:TypeId}{P:Prop}(hb:Below (w.alloc (C #[a,b,c,d,e] t)).heap.size (w.alloc (C #[a,b,c,d,e] t)) w5)
 (h:w5.cell? ⟨w.heap.size,0,O⟩=M a->w5.cell? ⟨w.heap.size,1,O⟩=M b->w5.cell? ⟨w.heap.size,2,O⟩=M c->w5.cell? ⟨w.heap.size,3,O⟩=M d->w5.cell? ⟨w.heap.size,4,O⟩=M e->(∀j,w5.frozen? ⟨w.heap.size,j,O⟩=false)->Hid (w5.heap[w.heap.size]?=M (C #[a,b,c,d,e] t))->P):P:=by
 have h0:w5.heap[w.heap.size]?=M (C #[a,b,c,d,e] t):=(hb.block _ (by simp)).trans (heap_alloc_new w _);refine h ?_ ?_ ?_ ?_ ?_ ?_ h0<;>simp[World.cell?,World.frozen?,h0]
theorem yQ {w5:F}{a b c d e:Y}{t:TypeId}{P:Prop}(hb:Below (w.alloc (C #[a,b,c,d,e] t)).drew.heap.size (w.alloc (C #[a,b,c,d,e] t)).drew w5)
 (h:w5.cell? ⟨w.heap.size,0,O⟩=M a->w5.cell? ⟨w.heap.size,1,O⟩=M b->w5.cell? ⟨w.heap.size,2,O⟩=M c->w5.cell? ⟨w.heap.size,3,O⟩=M d->w5.cell? ⟨w.heap.size,4,O⟩=M e->(∀j,w5.frozen? ⟨w.heap.size,j,O⟩=false)->Hid (w5.heap[w.heap.size]?=M (C #[a,b,c,d,e] t))->P):P:=
 vJ (w:=w) (t:=t) ⟨hb.os,hb.tape,hb.output,hb.size,hb.block⟩ h
theorem bZ {w0:F}(h:aL w0 w)(hg:w0.heap.size<=g)(a b c d e:Y):aL w0 (((((w.setCell ⟨g,0,O⟩ a).setCell ⟨g,1,O⟩ b).setCell ⟨g,2,O⟩ c).setCell ⟨g,3,O⟩ d).setCell ⟨g,4,O⟩ e):=
 ((((h.set (a:=⟨g,0,O⟩) hg a).set (a:=⟨g,1,O⟩) hg b).set (a:=⟨g,2,O⟩) hg c).set (a:=⟨g,3,O⟩) hg d).set (a:=⟨g,4,O⟩) hg e
theorem lM {p q r s t:Y}(h:w.heap[g]?=M (bK p q r s t))(a b c d e:Y):(((((w.setCell ⟨g,0,O⟩ a).setCell ⟨g,1,O⟩ b).setCell ⟨g,2,O⟩ c).setCell ⟨g,3,O⟩ d).setCell ⟨g,4,O⟩ e).heap[g]?=M (bK a b c d e):=
 vZ (zP (lJ (lI (mZ h))))
theorem dQ.Vb {x:fF}{p q r s t:Y}(h:dQ w x m)(hg:w.heap[g]?=M (bK p q r s t))(a b c d e:Y):dQ (((((w.setCell ⟨g,0,O⟩ a).setCell ⟨g,1,O⟩ b).setCell ⟨g,2,O⟩ c).setCell ⟨g,3,O⟩ d).setCell ⟨g,4,O⟩ e) x m:=by
 have hF:Fr w (((((w.setCell ⟨g,0,O⟩ a).setCell ⟨g,1,O⟩ b).setCell ⟨g,2,O⟩ c).setCell ⟨g,3,O⟩ d).setCell ⟨g,4,O⟩ e) (fun b=>b=g):=
  ((((Fr.set w ⟨g,0,O⟩ a).trans (Fr.set _ ⟨g,1,O⟩ b)).trans (Fr.set _ ⟨g,2,O⟩ c)).trans (Fr.set _ ⟨g,3,O⟩ d)).trans (Fr.set _ ⟨g,4,O⟩ e)
 exact h.fr hF (fun b aS e he=>by subst he;exact bX e hg (gJ (by decide))) (fun b aS e he=>by subst he;exact bX e hg (gJ (by decide)))
theorem jN.Dv {m':dF}{f':bS}(hS:bH w xb s fs m f)(hm:dQ w r m')(hd:jN w w' xb f f'):dQ w' r m':=by
 obtain⟨r0,hx,hf,-⟩:=hS
 have key:∀(b:Nat) (aS:Array Y) (t:TypeId),t≠189->t≠193->w.heap[b]?=M (C aS t (0,0))->¬(b=xb\/∃a,f.1=M a/\b=a.block):=by
  intro b aS t n1 n2 hb hX;rcases hX with rfl|⟨a,e,rfl⟩
  ·exact bX hb hx (gJ n1)
  ·obtain⟨cu,hh⟩:=hf.1.2 a e;exact bX hb hh (gJ n2)
 exact hm.fr hd.1 (fun b aS e=>key b aS _ (by decide) (by decide) e) (fun b aS e=>key b aS _ (by decide) (by decide) e)
theorem Iz {k:Int}(h:(eO m k a b c most d).2=0):(eO m k a b c most d).1.2.2.2.1=m.2.2.2.1+1:=by
 unfold eO at*;split at h
 ·rename_i hk;rw[if_pos hk]at*;unfold tQ at*;split at h;· cases h
  split at h;· cases h
  split at h;· cases h
  split at h;· cases h
  rename_i h1 h2 h3 h4;rw[if_neg h1,if_neg h2,if_neg h3,if_neg h4]
 ·rename_i hk;rw[if_neg hk]at*;split at h
  ·rename_i hk;rw[if_pos hk]at*;unfold zR at*;split at h;· cases h
   split at h;· cases h
   rename_i h1 h2;rw[if_neg h1,if_neg h2]
  ·rename_i hk;rw[if_neg hk]at*;split at h
   ·rename_i hk;rw[if_pos hk]at*;unfold uF at*;split at h;· cases h
    rename_i e rest he;split at h;· cases h
    rename_i h1;simp only[if_neg h1]
   ·rename_i hk;rw[if_neg hk]at*;unfold uG at*;split at h;· cases h
    rename_i e rest he;split at h;· cases h
    rename_i h1;simp only[if_neg h1]
theorem del_ok (h:(eO m 68 a b c most d).2=0):0<=a/\1<=b/\a<=sz m.1/\b<=sz m.1-a:=by
 have e:eO m 68 a b c most d=zR m a b d:=rfl;rw[e]at h;unfold zR at h;split at h
 ·cases h
 ·omega
theorem ins_ok (h:(eO m 73 a b c most d).2=0):0<=a/\a<=sz m.1/\1<=c/\c<=200:=by
 have e:eO m 73 a b c most d=tQ m a b c most d:=rfl;rw[e]at h;unfold tQ at h;split at h;· cases h
 split at h;· cases h
 omega
theorem Pv (k d a b c:Int):(dL k d a b c).size=22:=by
 unfold dL;rw[wG,Rm];rfl
theorem fw {kind:Int}(h:bH w xb s fs m f)(hs:s.aX=false\/s.ro=true):
 H K 108 #[U (M ⟨xb,0,O⟩),I V kind,I V pos,I V n,.string text] w fun e w'=>e=G (I V (gL (s,fs,m) kind pos n text).2)/\After w w' xb (gL (s,fs,m) kind pos n text).1.1 (gL (s,fs,m) kind pos n text).1.2.1 (gL (s,fs,m) kind pos n text).1.2.2 f:=by
 have HS:Hid (bH w xb s fs m f):=h;obtain⟨r,hx,hf,hm⟩:=h;obtain⟨wC,Nj,-⟩:=eF hx;clear hx hf hm;by_cases e1:s.aX=false
 ·have HE:Hid (gL (s,fs,m) kind pos n text=((s,fs,m),3)):=by show _=_;unfold gL;rw[if_pos e1]
  rw[e1]at wC;clear hs;go_enter Tryz.func108,Tryz.ntmps108
  go_wp2_with fail
  go_ret;rw[HE.out];exact⟨rfl,f,HS.out,jN.refl _ _ _⟩
 ·have e2:s.ro=true:=hs.resolve_left e1;have HE:Hid (gL (s,fs,m) kind pos n text=((s,fs,m),4)):=by show _=_;unfold gL;rw[if_neg e1,if_pos e2]
  have Au:s.aX=true:=by simpa using e1
  rw[Au]at wC;rw[e2]at Nj;clear hs;go_enter Tryz.func108,Tryz.ntmps108
  go_wp2_with fail
  go_ret;rw[HE.out];exact⟨rfl,f,HS.out,jN.refl _ _ _⟩
theorem gq (h:bH w xb s fs m f)(hl:fs.length<=70000)(hc:jO s)(hI:gN s.room fs)(hg:eG m s.depth.toNat)(hD:m.2.2.2.1<=1999999999)(ho:s.aX=true)(hro:s.ro=false):
 H K 108 #[U (M ⟨xb,0,O⟩),I V 85,I V pos,I V n,.string text] w fun e w'=>e=G (I V (gL (s,fs,m) 85 pos n text).2)/\After w w' xb (gL (s,fs,m) 85 pos n text).1.1 (gL (s,fs,m) 85 pos n text).1.2.1 (gL (s,fs,m) 85 pos n text).1.2.2 f:=by
 have HS:Hid (bH w xb s fs m f):=h;obtain⟨C_,El⟩:=h.row;obtain⟨r,hx,hf,hm⟩:=h;obtain⟨wC,Nj,XZ,c0,c1⟩:=eF hx;obtain⟨d1,d2,d3,d4,d5⟩:=jM hx;rw[ho]at wC;rw[hro]at Nj
 have HA:Hid (gL (s,fs,m) 85 pos n text=if (eO m 85 0 0 0 s.most s.depth.toNat).2≠0 then ((s,fs,m),(eO m 85 0 0 0 s.most s.depth.toNat).2)else (((bQ s fs (10+s.bC) (dL 85 (eO m 85 0 0 0 s.most s.depth.toNat).1.2.2.2.1 0 0 0)).2.1,(bQ s fs (10+s.bC) (dL 85 (eO m 85 0 0 0 s.most s.depth.toNat).1.2.2.2.1 0 0 0)).2.2,if (bQ s fs (10+s.bC) (dL 85 (eO m 85 0 0 0 s.most s.depth.toNat).1.2.2.2.1 0 0 0)).1=0 then (eO m 85 0 0 0 s.most s.depth.toNat).1 else m),(bQ s fs (10+s.bC) (dL 85 (eO m 85 0 0 0 s.most s.depth.toNat).1.2.2.2.1 0 0 0)).1)):=by
  show _=_;unfold gL;simp[ho,hro]
 have m0:=hc.Rp;have m1:=hc.Ng;have p0:=hc.wO;have p1:=hc.wP;have q0:=hc.qM;have q1:=hc.rJ;have Em:∀w1,dQ w1 r m->_:=fun w1 Bo=>wQ (w:=w1) (r:=r) (kind:=85) (a:=0) (b:=0) (c:=0) (most:=s.most) (d:=s.depth) (by unfold kindOk;simp) Bo hg p0 p1 (by omega) (by omega) (by omega) (by omega) m0 m1
 generalize hR:eO m 85 0 0 0 s.most s.depth.toNat=R at Em HA;have HR:Hid (eO m 85 0 0 0 s.most s.depth.toNat=R):=hR;clear hR hx hf;obtain⟨⟨po,tl,tc⟩,⟨uo,ul,uc⟩,⟨ro,rl,rc⟩,dn,bf⟩:=r;simp only[bS.v]at d1 d2 d3 d4 d5;simp only[fF.v,bS.v]at Em;go_enter Tryz.func108,Tryz.ntmps108
 go_upto_region 16 with fail
 go_cut [14,15] (fun p e wc=> ∃(g:Nat) (r':fF),p=U (M ⟨g,0,O⟩)/\e=I V R.2/\wc.heap[g]?=M (bK r'.1.v r'.2.1.v r'.2.2.1.v (I V r'.2.2.2.1) (I V r'.2.2.2.2))/\w.heap.size<=g/\dQ wc r' R.1/\aL w wc)
 case first=>
  have ga:=aL.refl w
  go_region_held3 (fun w'=>w'.cell? ⟨xb,13,O⟩=M (Z po tl tc)/\w'.cell? ⟨xb,14,O⟩=M (Z uo ul uc)/\w'.cell? ⟨xb,15,O⟩=M (Z ro rl rc)/\w'.cell? ⟨xb,16,O⟩=M (I V dn)/\w'.cell? ⟨xb,17,O⟩=M (I V bf)/\w'.cell? ⟨xb,0,O⟩=M (I V s.most)/\w'.cell? ⟨xb,1,O⟩=M (I V s.depth)/\aL w w')
   (first|(refine Rs d1 d2 d3 d4 d5 c0 c1 ?_;go_split_ands;with_reducible (first|assumption|exact aL.alloc nI _|exact bZ nI (Nat.le_refl _) _ _ _ _ _|exact bZ (aL.alloc nI _) nI.le _ _ _ _ _|(refine aL.alloc ?_ _;assumption)|exact aL.drew nI|exact aL.drew (aL.alloc nI _)|exact aL.drew (bZ nI (Nat.le_refl _) _ _ _ _ _)|(refine aL.drew (aL.alloc ?_ _);assumption)|(refine aL.drew ?_;assumption))))
   (first|(go_at_call 162;refine(Em _ (by go_split_ands;exact hm.aN (by assumption))).mono ?_;rintro e w5 ⟨r',rfl,EO,pY⟩;have nI:aL w w5:=aL.more (by go_split_ands;assumption) pY;first|(refine vJ pY ?_;intro y0 y1 y2 y3 y4 yf yh)|(refine yQ pY ?_;intro y0 y1 y2 y3 y4 yf yh)|skip))
  all_goals go_wp2_with fail
  all_goals go_meet
  ·exact⟨_,r',rfl,rfl,heap_alloc_new w5 _,nI.le,EO.aN (aO _ _),nI.alloc _⟩
  ·exact⟨_,r',rfl,rfl,lM yh.out _ _ _ _ _,Nat.le_refl _,EO.Vb yh.out _ _ _ _ _,bZ nI (Nat.le_refl _) _ _ _ _ _⟩
 case rest=>
  obtain⟨g,⟨⟨a1,a2,a3⟩,⟨a4,a5,a6⟩,⟨a7,a8,a9⟩,Nb,Aq⟩,rfl,rfl,oJ,Bp,Ay,hG⟩:=hcut
  rename F=>wc
  have hrD:Nb=R.1.2.2.2.1:=Ay.2.2.2.1;subst hrD;simp only[bS.v]at oJ;have oI:=HS.out.aN hG;have hgx:g≠xb:=by omega
  have zG:∀a,f.1=M a->a.block≠g:=fun a e=>by have:=El a e;omega
  have Cn:=hG.cell XZ;clear d1 d2 d3 d4 d5 c0 c1 wC Nj XZ Em hm;by_cases Az:R.2=0
  ·have tF:R.1.2.2.2.1=m.2.2.2.1+1:=by rw[<-HR.out]at Az ⊢;exact Iz Az
   have hu:=hg.done;have QN:=hg.long;skip;obtain⟨b0,b1,b2,b3,b4,-⟩:=aT oJ;have HE:Hid (gL (s,fs,m) 85 pos n text=(((bQ s fs (10+s.bC) (dL 85 R.1.2.2.2.1 0 0 0)).2.1,(bQ s fs (10+s.bC) (dL 85 R.1.2.2.2.1 0 0 0)).2.2,if (bQ s fs (10+s.bC) (dL 85 R.1.2.2.2.1 0 0 0)).1=0 then R.1 else m),(bQ s fs (10+s.bC) (dL 85 R.1.2.2.2.1 0 0 0)).1)):=by show _=_;rw[HA.out,if_neg (by simp[Az])]
   have Nk:=Pv 85 R.1.2.2.2.1 0 0 0;have Ba:=(add_same s fs (10+s.bC) (dL 85 R.1.2.2.2.1 0 0 0)).2.2.2;have gu:bN R.1.2.2.2.1:=by unfold bN;omega
   have qA:bN 0:=by unfold bN;omega
   have rE:bN 0:=by unfold bN;omega
   have Yp:bN 0:=by unfold bN;omega
   have HU:Hid (bN R.1.2.2.2.1/\bN 0/\bN 0/\bN 0):=⟨gu,qA,rE,Yp⟩;have HL:Hid ((dL 85 R.1.2.2.2.1 0 0 0).size=22):=Nk;have HM:Hid ((bQ s fs (10+s.bC) (dL 85 R.1.2.2.2.1 0 0 0)).2.1.bC=s.bC):=Ba;have gy:Hid (wc.heap[g]?=M (bK (Z a1 a2 a3) (Z a4 a5 a6) (Z a7 a8 a9) (I V R.1.2.2.2.1) (I V Aq))):=oJ;have EP:IntKind.i64.wrap (10+s.bC)=10+s.bC:=by rw[IntKind.wrap_i64];omega
   rw[Az];clear gu qA rE Yp Nk Ba tF oJ b0 b1 b2 b4 HA Az
   go_upto_region 22 with fail
   go_region_held3 (fun w'=>w'.cell? ⟨xb,12,O⟩=M (I V s.bC)/\w'.cell? ⟨g,3,O⟩=M (I V R.1.2.2.2.1)) (first|(exact⟨Cn,b3⟩)|(exact⟨ic,y3⟩)|(exact⟨z12,z3⟩))
    (first|(go_at_call 164;refine(wK (by decide) (by decide) HU.out.1 HU.out.2.1 HU.out.2.2.1 HU.out.2.2.2).mono ?_;rintro e w6 ⟨rfl,yG⟩;have Co:aL wc w6:=⟨yG.os,yG.tape,yG.output,yG.size,yG.block⟩;have ic:=Co.cell Cn;have y3:=Co.cell b3)|(go_at_call 163;refine(Iw (oI.aN Co) (by omega) hc hI (by have:=HL.out;omega)).mono ?_;rintro e w7 ⟨rfl,f7,Rt,Ja⟩;have z12:w7.cell? ⟨xb,12,O⟩=M (I V s.bC):=(by obtain⟨r7,Ii,-,-⟩:=Rt;rw[(eF Ii).2.2.1,HM.out]);have h7:=Ja.far (bD Co gy.out) hgx zG;have z3:w7.cell? ⟨g,3,O⟩=M (I V R.1.2.2.2.1):=(aT h7).2.2.2.1))
   clear ic y3 z12 z3 Cn b3 EP;by_cases hA:(bQ s fs (10+s.bC) (dL 85 R.1.2.2.2.1 0 0 0)).1=0
   ·rw[if_pos hA]at HE;have Zd:=jN.Dv (oI.aN Co) (Ay.aN Co) Ja;obtain⟨k1,k2⟩:=sN Rt Zd;obtain⟨b0,b1,b2,b3,b4,-⟩:=aT h7;have oK:After w _ xb _ _ R.1 f:=⟨f7,k1,(((jN.refl w xb f).aN hG).aN Co).trans (Ja.trans k2)⟩;obtain⟨r7,Ii,-,-⟩:=Rt;obtain⟨-,-,-,-,-,-,cf⟩:=iY Ii;have z1:=cf 13;have z2:=cf 14;have z3:=cf 15;have z4:=cf 16;have z5:=cf 17;obtain⟨e1,e2,e3,e4,e5⟩:=jM Ii;rw[hA];clear Ii cf Zd k1 k2 h7 oI Ja Ay;simp only[bS.v]at oK
    go_wp2_with fail
    go_ret;rw[HE.out];exact⟨by rw[hA];rfl,oK⟩
   ·rw[if_neg hA]at HE;have oK:After w w7 xb _ _ m f:=⟨f7,Rt,(((jN.refl w xb f).aN hG).aN Co).trans Ja⟩;have CK:((bQ s fs (10+s.bC) (dL 85 R.1.2.2.2.1 0 0 0)).1==0)=false:=by simp[hA]
    clear h7 oI Rt Ja Ay
    go_wp2_with fail
    go_ret;rw[HE.out];exact⟨rfl,oK⟩
  ·have HE:Hid (gL (s,fs,m) 85 pos n text=((s,fs,m),R.2)):=by show _=_;rw[HA.out,if_pos Az]
   have CK:(R.2 !=0)=true:=by simp[Az]
   have tX:After w wc xb s fs m f:=⟨f,oI,(jN.refl w xb f).aN hG⟩;clear oI Ay oJ HA
   go_wp2_with fail
   go_ret;rw[HE.out];exact⟨rfl,tX⟩
theorem ig (h:bH w xb s fs m f)(hl:fs.length<=70000)(hc:jO s)(hI:gN s.room fs)(hg:eG m s.depth.toNat)(hD:m.2.2.2.1<=1999999999)(ho:s.aX=true)(hro:s.ro=false):
 H K 108 #[U (M ⟨xb,0,O⟩),I V 82,I V pos,I V n,.string text] w fun e w'=>e=G (I V (gL (s,fs,m) 82 pos n text).2)/\After w w' xb (gL (s,fs,m) 82 pos n text).1.1 (gL (s,fs,m) 82 pos n text).1.2.1 (gL (s,fs,m) 82 pos n text).1.2.2 f:=by
 have HS:Hid (bH w xb s fs m f):=h;obtain⟨C_,El⟩:=h.row;obtain⟨r,hx,hf,hm⟩:=h;obtain⟨wC,Nj,XZ,c0,c1⟩:=eF hx;obtain⟨d1,d2,d3,d4,d5⟩:=jM hx;rw[ho]at wC;rw[hro]at Nj
 have HA:Hid (gL (s,fs,m) 82 pos n text=if (eO m 82 0 0 0 s.most s.depth.toNat).2≠0 then ((s,fs,m),(eO m 82 0 0 0 s.most s.depth.toNat).2)else (((bQ s fs (10+s.bC) (dL 82 (eO m 82 0 0 0 s.most s.depth.toNat).1.2.2.2.1 0 0 0)).2.1,(bQ s fs (10+s.bC) (dL 82 (eO m 82 0 0 0 s.most s.depth.toNat).1.2.2.2.1 0 0 0)).2.2,if (bQ s fs (10+s.bC) (dL 82 (eO m 82 0 0 0 s.most s.depth.toNat).1.2.2.2.1 0 0 0)).1=0 then (eO m 82 0 0 0 s.most s.depth.toNat).1 else m),(bQ s fs (10+s.bC) (dL 82 (eO m 82 0 0 0 s.most s.depth.toNat).1.2.2.2.1 0 0 0)).1)):=by
  show _=_;unfold gL;simp[ho,hro]
 have m0:=hc.Rp;have m1:=hc.Ng;have p0:=hc.wO;have p1:=hc.wP;have q0:=hc.qM;have q1:=hc.rJ;have Em:∀w1,dQ w1 r m->_:=fun w1 Bo=>wQ (w:=w1) (r:=r) (kind:=82) (a:=0) (b:=0) (c:=0) (most:=s.most) (d:=s.depth) (by unfold kindOk;simp) Bo hg p0 p1 (by omega) (by omega) (by omega) (by omega) m0 m1
 generalize hR:eO m 82 0 0 0 s.most s.depth.toNat=R at Em HA;have HR:Hid (eO m 82 0 0 0 s.most s.depth.toNat=R):=hR;clear hR hx hf;obtain⟨⟨po,tl,tc⟩,⟨uo,ul,uc⟩,⟨ro,rl,rc⟩,dn,bf⟩:=r;simp only[bS.v]at d1 d2 d3 d4 d5;simp only[fF.v,bS.v]at Em;go_enter Tryz.func108,Tryz.ntmps108
 go_upto_region 16 with fail
 go_cut [14,15] (fun p e wc=> ∃(g:Nat) (r':fF),p=U (M ⟨g,0,O⟩)/\e=I V R.2/\wc.heap[g]?=M (bK r'.1.v r'.2.1.v r'.2.2.1.v (I V r'.2.2.2.1) (I V r'.2.2.2.2))/\w.heap.size<=g/\dQ wc r' R.1/\aL w wc)
 case first=>
  have ga:=aL.refl w
  go_region_held3 (fun w'=>w'.cell? ⟨xb,13,O⟩=M (Z po tl tc)/\w'.cell? ⟨xb,14,O⟩=M (Z uo ul uc)/\w'.cell? ⟨xb,15,O⟩=M (Z ro rl rc)/\w'.cell? ⟨xb,16,O⟩=M (I V dn)/\w'.cell? ⟨xb,17,O⟩=M (I V bf)/\w'.cell? ⟨xb,0,O⟩=M (I V s.most)/\w'.cell? ⟨xb,1,O⟩=M (I V s.depth)/\aL w w')
   (first|(refine Rs d1 d2 d3 d4 d5 c0 c1 ?_;go_split_ands;with_reducible (first|assumption|exact aL.alloc nI _|exact bZ nI (Nat.le_refl _) _ _ _ _ _|exact bZ (aL.alloc nI _) nI.le _ _ _ _ _|(refine aL.alloc ?_ _;assumption)|exact aL.drew nI|exact aL.drew (aL.alloc nI _)|exact aL.drew (bZ nI (Nat.le_refl _) _ _ _ _ _)|(refine aL.drew (aL.alloc ?_ _);assumption)|(refine aL.drew ?_;assumption))))
   (first|(go_at_call 162;refine(Em _ (by go_split_ands;exact hm.aN (by assumption))).mono ?_;rintro e w5 ⟨r',rfl,EO,pY⟩;have nI:aL w w5:=aL.more (by go_split_ands;assumption) pY;first|(refine vJ pY ?_;intro y0 y1 y2 y3 y4 yf yh)|(refine yQ pY ?_;intro y0 y1 y2 y3 y4 yf yh)|skip))
  all_goals go_wp2_with fail
  all_goals go_meet
  ·exact⟨_,r',rfl,rfl,heap_alloc_new w5 _,nI.le,EO.aN (aO _ _),nI.alloc _⟩
  ·exact⟨_,r',rfl,rfl,lM yh.out _ _ _ _ _,Nat.le_refl _,EO.Vb yh.out _ _ _ _ _,bZ nI (Nat.le_refl _) _ _ _ _ _⟩
 case rest=>
  obtain⟨g,⟨⟨a1,a2,a3⟩,⟨a4,a5,a6⟩,⟨a7,a8,a9⟩,Nb,Aq⟩,rfl,rfl,oJ,Bp,Ay,hG⟩:=hcut
  rename F=>wc
  have hrD:Nb=R.1.2.2.2.1:=Ay.2.2.2.1;subst hrD;simp only[bS.v]at oJ;have oI:=HS.out.aN hG;have hgx:g≠xb:=by omega
  have zG:∀a,f.1=M a->a.block≠g:=fun a e=>by have:=El a e;omega
  have Cn:=hG.cell XZ;clear d1 d2 d3 d4 d5 c0 c1 wC Nj XZ Em hm;by_cases Az:R.2=0
  ·have tF:R.1.2.2.2.1=m.2.2.2.1+1:=by rw[<-HR.out]at Az ⊢;exact Iz Az
   have hu:=hg.done;have QN:=hg.long;skip;obtain⟨b0,b1,b2,b3,b4,-⟩:=aT oJ;have HE:Hid (gL (s,fs,m) 82 pos n text=(((bQ s fs (10+s.bC) (dL 82 R.1.2.2.2.1 0 0 0)).2.1,(bQ s fs (10+s.bC) (dL 82 R.1.2.2.2.1 0 0 0)).2.2,if (bQ s fs (10+s.bC) (dL 82 R.1.2.2.2.1 0 0 0)).1=0 then R.1 else m),(bQ s fs (10+s.bC) (dL 82 R.1.2.2.2.1 0 0 0)).1)):=by show _=_;rw[HA.out,if_neg (by simp[Az])]
   have Nk:=Pv 82 R.1.2.2.2.1 0 0 0;have Ba:=(add_same s fs (10+s.bC) (dL 82 R.1.2.2.2.1 0 0 0)).2.2.2;have gu:bN R.1.2.2.2.1:=by unfold bN;omega
   have qA:bN 0:=by unfold bN;omega
   have rE:bN 0:=by unfold bN;omega
   have Yp:bN 0:=by unfold bN;omega
   have HU:Hid (bN R.1.2.2.2.1/\bN 0/\bN 0/\bN 0):=⟨gu,qA,rE,Yp⟩;have HL:Hid ((dL 82 R.1.2.2.2.1 0 0 0).size=22):=Nk;have HM:Hid ((bQ s fs (10+s.bC) (dL 82 R.1.2.2.2.1 0 0 0)).2.1.bC=s.bC):=Ba;have gy:Hid (wc.heap[g]?=M (bK (Z a1 a2 a3) (Z a4 a5 a6) (Z a7 a8 a9) (I V R.1.2.2.2.1) (I V Aq))):=oJ;have EP:IntKind.i64.wrap (10+s.bC)=10+s.bC:=by rw[IntKind.wrap_i64];omega
   rw[Az];clear gu qA rE Yp Nk Ba tF oJ b0 b1 b2 b4 HA Az
   go_upto_region 22 with fail
   go_region_held3 (fun w'=>w'.cell? ⟨xb,12,O⟩=M (I V s.bC)/\w'.cell? ⟨g,3,O⟩=M (I V R.1.2.2.2.1)) (first|(exact⟨Cn,b3⟩)|(exact⟨ic,y3⟩)|(exact⟨z12,z3⟩))
    (first|(go_at_call 164;refine(wK (by decide) (by decide) HU.out.1 HU.out.2.1 HU.out.2.2.1 HU.out.2.2.2).mono ?_;rintro e w6 ⟨rfl,yG⟩;have Co:aL wc w6:=⟨yG.os,yG.tape,yG.output,yG.size,yG.block⟩;have ic:=Co.cell Cn;have y3:=Co.cell b3)|(go_at_call 163;refine(Iw (oI.aN Co) (by omega) hc hI (by have:=HL.out;omega)).mono ?_;rintro e w7 ⟨rfl,f7,Rt,Ja⟩;have z12:w7.cell? ⟨xb,12,O⟩=M (I V s.bC):=(by obtain⟨r7,Ii,-,-⟩:=Rt;rw[(eF Ii).2.2.1,HM.out]);have h7:=Ja.far (bD Co gy.out) hgx zG;have z3:w7.cell? ⟨g,3,O⟩=M (I V R.1.2.2.2.1):=(aT h7).2.2.2.1))
   clear ic y3 z12 z3 Cn b3 EP;by_cases hA:(bQ s fs (10+s.bC) (dL 82 R.1.2.2.2.1 0 0 0)).1=0
   ·rw[if_pos hA]at HE;have Zd:=jN.Dv (oI.aN Co) (Ay.aN Co) Ja;obtain⟨k1,k2⟩:=sN Rt Zd;obtain⟨b0,b1,b2,b3,b4,-⟩:=aT h7;have oK:After w _ xb _ _ R.1 f:=⟨f7,k1,(((jN.refl w xb f).aN hG).aN Co).trans (Ja.trans k2)⟩;obtain⟨r7,Ii,-,-⟩:=Rt;obtain⟨-,-,-,-,-,-,cf⟩:=iY Ii;have z1:=cf 13;have z2:=cf 14;have z3:=cf 15;have z4:=cf 16;have z5:=cf 17;obtain⟨e1,e2,e3,e4,e5⟩:=jM Ii;rw[hA];clear Ii cf Zd k1 k2 h7 oI Ja Ay;simp only[bS.v]at oK
    go_wp2_with fail
    go_ret;rw[HE.out];exact⟨by rw[hA];rfl,oK⟩
   ·rw[if_neg hA]at HE;have oK:After w w7 xb _ _ m f:=⟨f7,Rt,(((jN.refl w xb f).aN hG).aN Co).trans Ja⟩;have CK:((bQ s fs (10+s.bC) (dL 82 R.1.2.2.2.1 0 0 0)).1==0)=false:=by simp[hA]
    clear h7 oI Rt Ja Ay
    go_wp2_with fail
    go_ret;rw[HE.out];exact⟨rfl,oK⟩
  ·have HE:Hid (gL (s,fs,m) 82 pos n text=((s,fs,m),R.2)):=by show _=_;rw[HA.out,if_pos Az]
   have CK:(R.2 !=0)=true:=by simp[Az]
   have tX:After w wc xb s fs m f:=⟨f,oI,(jN.refl w xb f).aN hG⟩;clear oI Ay oJ HA
   go_wp2_with fail
   go_ret;rw[HE.out];exact⟨rfl,tX⟩
theorem act_del (h:bH w xb s fs m f)(hl:fs.length<=70000)(hc:jO s)(hI:gN s.room fs)(hg:eG m s.depth.toNat)(hD:m.2.2.2.1<=1999999999)(hp:pos<=9223372036854775807)(hn:n<=9223372036854775807)(ho:s.aX=true)(hro:s.ro=false):
 H K 108 #[U (M ⟨xb,0,O⟩),I V 68,I V pos,I V n,.string text] w fun e w'=>e=G (I V (gL (s,fs,m) 68 pos n text).2)/\After w w' xb (gL (s,fs,m) 68 pos n text).1.1 (gL (s,fs,m) 68 pos n text).1.2.1 (gL (s,fs,m) 68 pos n text).1.2.2 f:=by
 have HS:Hid (bH w xb s fs m f):=h;obtain⟨C_,El⟩:=h.row;obtain⟨r,hx,hf,hm⟩:=h;obtain⟨wC,Nj,XZ,c0,c1⟩:=eF hx;obtain⟨d1,d2,d3,d4,d5⟩:=jM hx;rw[ho]at wC;rw[hro]at Nj
 have HA:Hid (gL (s,fs,m) 68 pos n text=if (eO m 68 pos n 0 s.most s.depth.toNat).2≠0 then ((s,fs,m),(eO m 68 pos n 0 s.most s.depth.toNat).2)else (((bQ s fs (10+s.bC) (dL 68 (eO m 68 pos n 0 s.most s.depth.toNat).1.2.2.2.1 pos n 0)).2.1,(bQ s fs (10+s.bC) (dL 68 (eO m 68 pos n 0 s.most s.depth.toNat).1.2.2.2.1 pos n 0)).2.2,if (bQ s fs (10+s.bC) (dL 68 (eO m 68 pos n 0 s.most s.depth.toNat).1.2.2.2.1 pos n 0)).1=0 then (eO m 68 pos n 0 s.most s.depth.toNat).1 else m),(bQ s fs (10+s.bC) (dL 68 (eO m 68 pos n 0 s.most s.depth.toNat).1.2.2.2.1 pos n 0)).1)):=by
  show _=_;unfold gL;simp[ho,hro]
 have m0:=hc.Rp;have m1:=hc.Ng;have p0:=hc.wO;have p1:=hc.wP;have q0:=hc.qM;have q1:=hc.rJ;have Em:∀w1,dQ w1 r m->_:=fun w1 Bo=>wQ (w:=w1) (r:=r) (kind:=68) (a:=pos) (b:=n) (c:=0) (most:=s.most) (d:=s.depth) (by unfold kindOk;simp) Bo hg p0 p1 (by omega) (by omega) (by omega) (by omega) m0 m1
 generalize hR:eO m 68 pos n 0 s.most s.depth.toNat=R at Em HA;have HR:Hid (eO m 68 pos n 0 s.most s.depth.toNat=R):=hR;clear hR hx hf;obtain⟨⟨po,tl,tc⟩,⟨uo,ul,uc⟩,⟨ro,rl,rc⟩,dn,bf⟩:=r;simp only[bS.v]at d1 d2 d3 d4 d5;simp only[fF.v,bS.v]at Em;go_enter Tryz.func108,Tryz.ntmps108
 go_upto_region 16 with fail
 go_cut [14,15] (fun p e wc=> ∃(g:Nat) (r':fF),p=U (M ⟨g,0,O⟩)/\e=I V R.2/\wc.heap[g]?=M (bK r'.1.v r'.2.1.v r'.2.2.1.v (I V r'.2.2.2.1) (I V r'.2.2.2.2))/\w.heap.size<=g/\dQ wc r' R.1/\aL w wc)
 case first=>
  have ga:=aL.refl w
  go_region_held3 (fun w'=>w'.cell? ⟨xb,13,O⟩=M (Z po tl tc)/\w'.cell? ⟨xb,14,O⟩=M (Z uo ul uc)/\w'.cell? ⟨xb,15,O⟩=M (Z ro rl rc)/\w'.cell? ⟨xb,16,O⟩=M (I V dn)/\w'.cell? ⟨xb,17,O⟩=M (I V bf)/\w'.cell? ⟨xb,0,O⟩=M (I V s.most)/\w'.cell? ⟨xb,1,O⟩=M (I V s.depth)/\aL w w')
   (first|(refine Rs d1 d2 d3 d4 d5 c0 c1 ?_;go_split_ands;with_reducible (first|assumption|exact aL.alloc nI _|exact bZ nI (Nat.le_refl _) _ _ _ _ _|exact bZ (aL.alloc nI _) nI.le _ _ _ _ _|(refine aL.alloc ?_ _;assumption)|exact aL.drew nI|exact aL.drew (aL.alloc nI _)|exact aL.drew (bZ nI (Nat.le_refl _) _ _ _ _ _)|(refine aL.drew (aL.alloc ?_ _);assumption)|(refine aL.drew ?_;assumption))))
   (first|(go_at_call 162;refine(Em _ (by go_split_ands;exact hm.aN (by assumption))).mono ?_;rintro e w5 ⟨r',rfl,EO,pY⟩;have nI:aL w w5:=aL.more (by go_split_ands;assumption) pY;first|(refine vJ pY ?_;intro y0 y1 y2 y3 y4 yf yh)|(refine yQ pY ?_;intro y0 y1 y2 y3 y4 yf yh)|skip))
  all_goals go_wp2_with fail
  all_goals go_meet
  ·exact⟨_,r',rfl,rfl,heap_alloc_new w5 _,nI.le,EO.aN (aO _ _),nI.alloc _⟩
  ·exact⟨_,r',rfl,rfl,lM yh.out _ _ _ _ _,Nat.le_refl _,EO.Vb yh.out _ _ _ _ _,bZ nI (Nat.le_refl _) _ _ _ _ _⟩
 case rest=>
  obtain⟨g,⟨⟨a1,a2,a3⟩,⟨a4,a5,a6⟩,⟨a7,a8,a9⟩,Nb,Aq⟩,rfl,rfl,oJ,Bp,Ay,hG⟩:=hcut
  rename F=>wc
  have hrD:Nb=R.1.2.2.2.1:=Ay.2.2.2.1;subst hrD;simp only[bS.v]at oJ;have oI:=HS.out.aN hG;have hgx:g≠xb:=by omega
  have zG:∀a,f.1=M a->a.block≠g:=fun a e=>by have:=El a e;omega
  have Cn:=hG.cell XZ;clear d1 d2 d3 d4 d5 c0 c1 wC Nj XZ Em hm;by_cases Az:R.2=0
  ·have tF:R.1.2.2.2.1=m.2.2.2.1+1:=by rw[<-HR.out]at Az ⊢;exact Iz Az
   have hu:=hg.done;have QN:=hg.long;obtain⟨o1,o2,o3,o4⟩:=del_ok (by rw[HR.out];exact Az);obtain⟨b0,b1,b2,b3,b4,-⟩:=aT oJ;have HE:Hid (gL (s,fs,m) 68 pos n text=(((bQ s fs (10+s.bC) (dL 68 R.1.2.2.2.1 pos n 0)).2.1,(bQ s fs (10+s.bC) (dL 68 R.1.2.2.2.1 pos n 0)).2.2,if (bQ s fs (10+s.bC) (dL 68 R.1.2.2.2.1 pos n 0)).1=0 then R.1 else m),(bQ s fs (10+s.bC) (dL 68 R.1.2.2.2.1 pos n 0)).1)):=by show _=_;rw[HA.out,if_neg (by simp[Az])]
   have Nk:=Pv 68 R.1.2.2.2.1 pos n 0;have Ba:=(add_same s fs (10+s.bC) (dL 68 R.1.2.2.2.1 pos n 0)).2.2.2;have gu:bN R.1.2.2.2.1:=by unfold bN;omega
   have qA:bN pos:=by unfold bN;omega
   have rE:bN n:=by unfold bN;omega
   have Yp:bN 0:=by unfold bN;omega
   have HU:Hid (bN R.1.2.2.2.1/\bN pos/\bN n/\bN 0):=⟨gu,qA,rE,Yp⟩;have HL:Hid ((dL 68 R.1.2.2.2.1 pos n 0).size=22):=Nk;have HM:Hid ((bQ s fs (10+s.bC) (dL 68 R.1.2.2.2.1 pos n 0)).2.1.bC=s.bC):=Ba;have gy:Hid (wc.heap[g]?=M (bK (Z a1 a2 a3) (Z a4 a5 a6) (Z a7 a8 a9) (I V R.1.2.2.2.1) (I V Aq))):=oJ;have EP:IntKind.i64.wrap (10+s.bC)=10+s.bC:=by rw[IntKind.wrap_i64];omega
   rw[Az];clear gu qA rE Yp Nk Ba tF oJ b0 b1 b2 b4 HA Az
   go_upto_region 22 with fail
   go_region_held3 (fun w'=>w'.cell? ⟨xb,12,O⟩=M (I V s.bC)/\w'.cell? ⟨g,3,O⟩=M (I V R.1.2.2.2.1)) (first|(exact⟨Cn,b3⟩)|(exact⟨ic,y3⟩)|(exact⟨z12,z3⟩))
    (first|(go_at_call 164;refine(wK (by decide) (by decide) HU.out.1 HU.out.2.1 HU.out.2.2.1 HU.out.2.2.2).mono ?_;rintro e w6 ⟨rfl,yG⟩;have Co:aL wc w6:=⟨yG.os,yG.tape,yG.output,yG.size,yG.block⟩;have ic:=Co.cell Cn;have y3:=Co.cell b3)|(go_at_call 163;refine(Iw (oI.aN Co) (by omega) hc hI (by have:=HL.out;omega)).mono ?_;rintro e w7 ⟨rfl,f7,Rt,Ja⟩;have z12:w7.cell? ⟨xb,12,O⟩=M (I V s.bC):=(by obtain⟨r7,Ii,-,-⟩:=Rt;rw[(eF Ii).2.2.1,HM.out]);have h7:=Ja.far (bD Co gy.out) hgx zG;have z3:w7.cell? ⟨g,3,O⟩=M (I V R.1.2.2.2.1):=(aT h7).2.2.2.1))
   clear ic y3 z12 z3 Cn b3 EP;by_cases hA:(bQ s fs (10+s.bC) (dL 68 R.1.2.2.2.1 pos n 0)).1=0
   ·rw[if_pos hA]at HE;have Zd:=jN.Dv (oI.aN Co) (Ay.aN Co) Ja;obtain⟨k1,k2⟩:=sN Rt Zd;obtain⟨b0,b1,b2,b3,b4,-⟩:=aT h7;have oK:After w _ xb _ _ R.1 f:=⟨f7,k1,(((jN.refl w xb f).aN hG).aN Co).trans (Ja.trans k2)⟩;obtain⟨r7,Ii,-,-⟩:=Rt;obtain⟨-,-,-,-,-,-,cf⟩:=iY Ii;have z1:=cf 13;have z2:=cf 14;have z3:=cf 15;have z4:=cf 16;have z5:=cf 17;obtain⟨e1,e2,e3,e4,e5⟩:=jM Ii;rw[hA];clear Ii cf Zd k1 k2 h7 oI Ja Ay;simp only[bS.v]at oK
    go_wp2_with fail
    go_ret;rw[HE.out];exact⟨by rw[hA];rfl,oK⟩
   ·rw[if_neg hA]at HE;have oK:After w w7 xb _ _ m f:=⟨f7,Rt,(((jN.refl w xb f).aN hG).aN Co).trans Ja⟩;have CK:((bQ s fs (10+s.bC) (dL 68 R.1.2.2.2.1 pos n 0)).1==0)=false:=by simp[hA]
    clear h7 oI Rt Ja Ay
    go_wp2_with fail
    go_ret;rw[HE.out];exact⟨rfl,oK⟩
  ·have HE:Hid (gL (s,fs,m) 68 pos n text=((s,fs,m),R.2)):=by show _=_;rw[HA.out,if_pos Az]
   have CK:(R.2 !=0)=true:=by simp[Az]
   have tX:After w wc xb s fs m f:=⟨f,oI,(jN.refl w xb f).aN hG⟩;clear oI Ay oJ HA
   go_wp2_with fail
   go_ret;rw[HE.out];exact⟨rfl,tX⟩
end Go.Proofs.YtfplgfodoiiobaaGreatDoor
