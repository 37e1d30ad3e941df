/- RfF (joined). -/
import Derived.Test.YtfplgfodoiiobaaGreatDoorD32
open Option renaming none→O,some→M
open Go.Value renaming int→I,slice→Z,pointer→U
open Go.IntKind renaming i64→V
open Go.Obj renaming cells→C
open Go.Ending renaming returned→G
open Go renaming World→F,Value→Y,Calls→H
open Go.Proofs.Tryz renaming prog→K
open Go.Proofs.Tryz
namespace Go.Proofs.YtfplgfodoiiobaaGreatDoor
set_option maxHeartbeats 4000000
set_option maxRecDepth 100000
open Go.RowKit
section
variable {w:F}{l:List Ed}{xo:Option Addr}{xn xc qp:Nat}{b:ByteArray}
theorem MB:∀(l:List fP) (i:Nat) (f:fP),l[i]?=M f->(Kg l)[i*3]?=M (I V f.1)/\(Kg l)[i*3+1]?=M f.2.1.v/\(Kg l)[i*3+2]?=M f.2.2.v:=by
 intro l
 induction l with
 |nil=>intro i f h;simp at h
 |cons e l ih=>
  intro i f h;cases i with
  |zero=>simp at h;subst h;simp[wM]
  |succ i=>
   have:=ih i f (by simpa using h);rw[wM,show(i+1)*3=i*3+1+1+1 from by omega];simpa using this
theorem eP.at (h:eP w (xo,xn,xc) l){k:Nat}{e:Ed}(he:l[k]?=M e):∃(b off:Nat) (r:fP),xo=M ⟨b,off,O⟩/\w.cell? ⟨b,off+k*3,O⟩=M (I V e.1)/\w.cell? ⟨b,off+k*3+1,O⟩=M r.2.1.v/\w.cell? ⟨b,off+k*3+2,O⟩=M r.2.2.v/\bH w r.2.1 e.2.1/\bH w r.2.2 e.2.2:=by
 obtain⟨raw,h1,h2,h3,h4,h5⟩:=h;have bP:=(Aae.1 he).1;obtain⟨r,hr⟩:∃r,raw[k]?=M r:=⟨_,Aag (by omega)⟩;have hE:=h5 k r e hr he;rcases h1.1 with rfl|⟨b,off,eo,hc⟩
 ·simp at hr
 ·obtain⟨a1,a2,a3⟩:=MB raw k r hr;refine⟨b,off,r,eo,?_,by rw[Acr];exact hc _ _ a2,by rw[Acr];exact hc _ _ a3,hE.2.1,hE.2.2⟩;rw[<-hE.1];exact hc _ _ a1
theorem eP.len (h:eP w (xo,xn,xc) l):xn=l.length/\xn<=xc/\wN xo xn xc:=by
 obtain⟨raw,h1,h2,h3,h4,h5⟩:=h;exact⟨h2.trans h4,h3.2,h3.1⟩
def lF (back:Bool)(e:Ed):Int×Int×Int:=if back then tN e else pE e
theorem fit_step {back:Bool}{k:Nat}{e:Ed}(h:l[k]?=M e)(n:Int):lU ((l.drop k).map (lF back)) n=if n<(lF back e).1+(lF back e).2.1 then false else if 5000<n-(lF back e).2.1+(lF back e).2.2 then false else lU ((l.drop (k+1)).map (lF back)) (n-(lF back e).2.1+(lF back e).2.2):=by
 have bP:=(Aae.1 h).1;rw[AaQ bP,(Aae.1 h).2,AaK];rw[lU.eq_def]
theorem MC {n:Int}{back:Bool}(h:eP w (xo,xn,xc) l)(KC:∀e∈l,rawE e)(hlen:l.length<=50)(Mg:0<=n)(Js:n<=1000000000000000):
 H K 226 #[Z xo xn xc,I V n,.bool back] w fun e w'=>e=G (.bool (lU (l.map (lF back)) n))/\w'=w:=by
 obtain⟨rfl,-,-⟩:=h.len;go_enter func226,ntmps226;go_wp2_with fail
 go_loopw [1,7] (fun u i wr=> ∃(k:Nat) (m:Int),k<=l.length/\i=I V (k:Int)/\u=I V m/\0<=m/\m<=1000000000000000/\wr=w/\Hid (lU (l.map (lF back)) n=lU ((l.drop k).map (lF back)) m)) (fun _ i _=>l.length-(intOf i).toNat)
 case atStart=>exact⟨0,n,Aap _,rfl,rfl,Mg,Js,rfl,by show _=_;rw[Abr]⟩
 case round=>
  obtain⟨k,m,hk,rfl,rfl,hm0,Gy,rfl,yG⟩:=hrel;by_cases bP:k<l.length
  ·obtain⟨⟨p,ol,il⟩,he⟩:∃e,l[k]?=M e:=⟨_,Aag bP⟩;obtain⟨⟨p0,p1⟩,⟨o0,o1⟩,⟨i0,i1⟩⟩:=KC _ (Aai he);simp only at p0 p1 o0 o1 i0 i1;obtain⟨b,off,⟨rp,⟨qo,ql,qc⟩,⟨so,sl,sc⟩⟩,rfl,c1,c2,c3,hl1,Rh⟩:=h.at he;obtain⟨t1,t2,t3⟩:=hl1;obtain⟨s1,s2,s3⟩:=Rh;simp only[bS.v]at c1 c2 c3;simp only at t1 t2 t3 s1 s2 s3;subst t2 s2;have hO:=zM (ca:=qc) t1.1 rfl o0 (by omega);have hJ:=zM (ca:=sc) s1.1 rfl i0 (by omega);have zo:=Dy o0;have zi:=Dy i0;have HS:Hid (lU (l.map (lF back)) n=if m<(lF back (p,ol,il)).1+(lF back (p,ol,il)).2.1 then false else if 5000<m-(lF back (p,ol,il)).2.1+(lF back (p,ol,il)).2.2 then false else lU ((l.drop (k+1)).map (lF back)) (m-(lF back (p,ol,il)).2.1+(lF back (p,ol,il)).2.2)):=(by show _=_;rw[yG.out];exact fit_step he m);have j1:(0:Int)<=(k:Int):=(by omega);have j2:(k:Int)<(l.length:Int):=(by omega);clear he yG t1 t3 s1 s3;have HK:Hid (k+1<=l.length):=bP;generalize hoz:sz ol=zO at*;generalize hiz:sz il=zI at*;have HOZ:Hid (sz ol=zO):=hoz;have HIZ:Hid (sz il=zI):=hiz;clear hoz hiz;cases back with
   |true=>
    have HE:Hid (lF true (p,ol,il)=(p,zI,zO)):=(by show _=_;unfold lF tN;simp only[if_true];rw[HOZ.out,HIZ.out]);rw[HE.out]at HS;simp only at HS;go_wp2_with fail;refine hO.mono ?_;rintro e w ⟨rfl,rfl⟩;go_wp2_with fail;refine hJ.mono ?_;rintro e w ⟨rfl,rfl⟩;go_wp2_with fail;refine hJ.mono ?_;rintro e w ⟨rfl,rfl⟩;go_wp2_with fail;refine hO.mono ?_;rintro e w ⟨rfl,rfl⟩;by_cases q1:m<p+zI
    ·rw[Aad q1]at HS;go_wp2_with fail;go_ret;exact⟨by rw[HS.out];rfl,rfl⟩
    ·rw[Aaa q1]at HS;by_cases q2:5000<m-zI+zO
     ·rw[Aad q2]at HS;go_wp2_with fail;go_ret;exact⟨by rw[HS.out];rfl,rfl⟩
     ·rw[Aaa q2]at HS;go_wp2_with fail;go_roundw
      case rel=>exact⟨k+1,m-zI+zO,HK.out,by go_num,rfl,by omega,by omega,by first|rfl|trivial,HS.out⟩
      case measure=>simp[intOf];omega
   |false=>
    have HE:Hid (lF false (p,ol,il)=(p,zO,zI)):=(by show _=_;unfold lF pE;simp only[AaD,if_false];rw[HOZ.out,HIZ.out]);rw[HE.out]at HS;simp only at HS;go_wp2_with fail;refine hO.mono ?_;rintro e w ⟨rfl,rfl⟩;go_wp2_with fail;refine hJ.mono ?_;rintro e w ⟨rfl,rfl⟩;by_cases q1:m<p+zO
    ·rw[Aad q1]at HS;go_wp2_with fail;go_ret;exact⟨by rw[HS.out];rfl,rfl⟩
    ·rw[Aaa q1]at HS;by_cases q2:5000<m-zO+zI
     ·rw[Aad q2]at HS;go_wp2_with fail;go_ret;exact⟨by rw[HS.out];rfl,rfl⟩
     ·rw[Aaa q2]at HS;go_wp2_with fail;go_roundw
      case rel=>exact⟨k+1,m-zO+zI,HK.out,by go_num,rfl,by omega,by omega,by first|rfl|trivial,HS.out⟩
      case measure=>simp[intOf];omega
  ·have HS:Hid (lU (l.map (lF back)) n=true):=(by show _=_;rw[yG.out,List.drop_of_length_le (by omega)];rfl);clear h;go_wp2_with fail;go_ret;exact⟨by rw[HS.out];rfl,rfl⟩
theorem EI {d:Nat}(h:eP w (xo,xn,xc) l)(hd:d<=50):
 H K 227 #[Z xo xn xc,I V (d:Int)] w fun e w'=>(∃x:bS,e=G x.v/\eP w x (l.take d))/\w'=w:=by
 obtain⟨rfl,hc,gL⟩:=h.len;by_cases Yg:d<l.length
 ·have z1:(d:Int)<(l.length:Int):=by omega
  have z2:(0:Int)<=(d:Int):=by omega
  have z3:(d:Int)<=(xc:Int):=by omega
  have HX:Hid (eP w (xo,d,xc) (l.take d)):=by
   obtain⟨raw,h1,h2,h3,h4,h5⟩:=h;refine⟨raw.take d,h1.take d,?_,⟨fun e=>?_,?_⟩,?_,?_⟩
   ·simp only[Aaw];omega
   ·have:=h3.1 e;simp only at this ⊢;omega
   ·simp only;omega
   ·rw[Aaw,Aaw,h4]
   ·intro i r e a b
    have hi:i<d:=by
     have:=(Aae.1 a).1;rw[Aaw]at this;omega
    rw[List.getElem?_take_of_lt hi]at a b;exact h5 i r e a b
  obtain⟨ad,rfl⟩:∃ad,xo=M ad:=by
   cases xo with
   |none=>have:=gL rfl;omega
   |some ad=>exact⟨ad,rfl⟩
  clear h gL;go_enter func227,ntmps227;go_wp2_with fail;go_ret
  first|exact⟨⟨(M ad,d,xc),rfl,HX.out⟩,rfl⟩|exact⟨⟨M ad,d,xc,rfl,HX.out⟩,rfl⟩
 ·have z1:¬(d:Int)<(l.length:Int):=by omega
  have HX:Hid (eP w (xo,l.length,xc) (l.take d)):=by show eP _ _ _;rw[Aaq (by omega)];exact h
  clear h gL;go_enter func227,ntmps227;go_wp2_with fail;go_ret
  first|exact⟨⟨xo,l.length,xc,rfl,HX.out⟩,rfl⟩|exact⟨⟨(xo,l.length,xc),rfl,HX.out⟩,rfl⟩
def CkIs (w':F)(e:Ending):Option (Int×dD)->Prop
 |none=>e=G (.tuple #[I V 0,Ty.v,.bool false])
 |some em=> ∃r':fC,e=G (.tuple #[I V em.1,r'.v,.bool true])/\dZ w' r' em.2
theorem av (w:F):dZ w Ty Az:=⟨⟨yF.nil _,rfl,fun _=>⟨rfl,rfl⟩⟩,eP.nil _,eP.nil _,rfl,rfl⟩
theorem ba_empty (h:b.size=0):b=⟨#[]⟩:=by
 cases b with
 |mk d=>
  have:d=#[]:=Array.eq_empty_of_size_eq_zero h;rw[this]
theorem ba_ne (h:¬b.size=0):b.toList.isEmpty=false:=by
 rw[AcM];cases e:b.data.toList with
 |nil=>exact absurd (by show b.data.size=0;rw[<-Abc,e];rfl) h
 |cons x l=>rfl
theorem EJ (h:0<b.size):b.data.toList.head?=M b[0]:=by
 cases b with
 |mk d=>
  obtain⟨l⟩:=d;cases l with
  |nil=>simp[ByteArray.size]at h
  |cons x l=>rfl
theorem ME {xb:Nat}{s:Sc}{fs:List bC}{m:dD}{f:bS}(h:bM w xb s fs m f)(hl:fs.length<=80000)(hb:(aO fs 2).size<29\/(aO fs 2).data.toList.head?≠M 75)(Yw:(aO fs 2).size<=1000000):
 H K 167 #[U (M ⟨xb,0,O⟩)] w fun e w'=>CkIs w' e (jJ (aO fs 2) ((aO fs 1).size:Int) s.depth.toNat)/\aL w w':=by
 have Ki:=aP w (C #[Z O 0 0,Z O 0 0,Z O 0 0,I V 0,I V 0] 187);obtain⟨r,hx,hf,-⟩:=h.aN Ki;have hB:=vW (n:=2) hx hf (by omega);clear hx hf;generalize aO fs 2=bb at*;by_cases h0:bb.size=0
 ·have e0:=ba_empty h0;have HE:Hid (jJ bb ((aO fs 1).size:Int) s.depth.toNat=M (0,Az)):=by show _=_;unfold jJ;rw[Aad h0];rfl
  rw[e0]at hB;clear e0 h0 hb Yw;go_enter func167,ntmps167;go_wp2_with fail;refine hB.mono ?_;rintro e w1 ⟨rfl,rfl⟩;go_wp2_with fail;refine Aan (v:= .tuple #[I V 0,.agg #[Z O 0 0,Z O 0 0,Z O 0 0,I V 0,I V 0],.bool true]) (by simp[results,results167,go_sem]) rfl ?_;rw[HE.out];exact⟨⟨Ty,rfl,av _⟩,Ki⟩
 ·have HE:Hid (jJ bb ((aO fs 1).size:Int) s.depth.toNat=O):=by show _=_;unfold jJ;rw[Aaa h0,Aad hb]
  have hne:bb.toList.isEmpty=false:=ba_ne h0;by_cases h29:bb.size<29
  ·have z1:(bb.size:Int)<29:=(by omega);clear hb;go_enter func167,ntmps167;go_wp2_with fail;refine hB.mono ?_;rintro e w1 ⟨rfl,rfl⟩;go_wp2_with fail;refine Aan (v:= .tuple #[I V 0,.agg #[Z O 0 0,Z O 0 0,Z O 0 0,I V 0,I V 0],.bool false]) (by simp[results,results167,go_sem]) rfl ?_;rw[HE.out];exact⟨rfl,Ki⟩
  ·have z1:¬(bb.size:Int)<29:=(by omega);have hh:bb.data.toList.head?≠M 75:=hb.resolve_left h29;rw[EJ (by omega)]at hh
   have hk:¬(bb[0].toNat:Int)=75:=fun e=>hh (by
    have e2:bb[0].toNat=75:=(by omega);exact congrArg M (UInt8.toNat_inj.1 e2))
   have YL:((bb[0].toNat:Int) !=75)=true:=(by simpa using hk);clear hb hh hk;have i1:(0:Int)<(bb.size:Int):=(by omega);have i2:0<bb.size:=(by omega);go_enter func167,ntmps167;go_wp2_with fail;refine hB.mono ?_;rintro e w1 ⟨rfl,rfl⟩;go_wp2_with fail;refine Aan (v:= .tuple #[I V 0,.agg #[Z O 0 0,Z O 0 0,Z O 0 0,I V 0,I V 0],.bool false]) (by simp[results,results167,go_sem]) rfl ?_;rw[HE.out];exact⟨rfl,Ki⟩
end
variable {w wk:F}{g mb rs:Nat}{S:ByteArray}{r:Sn}{a b c d e:Y}
structure Ck (w wk:F)(g mb rs:Nat)(S:ByteArray)(r:Sn)(a b c d e:Y):Prop where
 aN:aL w wk
 sc:lV wk g S r
 mod:wk.heap[mb]?=M (bR a b c d e)
 res:wk.heap[rs]?=M (bR (Z O 0 0) (Z O 0 0) (Z O 0 0) (I V 0) (I V 0))
 ng:w.heap.size<=g
 nm:w.heap.size<=mb
 nr:w.heap.size<=rs
 gm:g≠mb
 gr:g≠rs
 mr:mb≠rs
theorem EK {ko:F}(h:aL w wk)(ho:Og wk ko g)(hg:w.heap.size<=g):aL w ko:=by
 obtain⟨⟨a1,a2⟩,b1,b2,b3⟩:=ho;exact⟨b1.trans h.os,b2.trans h.tape,b3.trans h.output,Aam h.size a1,fun b hb=>(a2 b (AaC hb h.size) (by omega)).trans (h.block b hb)⟩
theorem Ck.og {ko:F}{r':Sn}(h:Ck w wk g mb rs S r a b c d e)(ho:Og wk ko g)(hs:lV ko g S r'):Ck w ko g mb rs S r' a b c d e:=
 { h with aN:=EK h.aN ho h.ng,sc:=hs,mod:=ho.1.at h.mod (fun e=>h.gm e.symm),res:=ho.1.at h.res (fun e=>h.gr e.symm) }
theorem Ck.RU {i:Nat}{a' b' c' d' e' v:Y}(h:Ck w wk g mb rs S r a b c d e)(hm:(wk.setCell ⟨mb,i,O⟩ v).heap[mb]?=M (bR a' b' c' d' e')):Ck w (wk.setCell ⟨mb,i,O⟩ v) g mb rs S r a' b' c' d' e':=by
 obtain⟨k,h1,h2,h3⟩:=h.sc;exact { h with aN:=h.aN.set (a:=⟨mb,i,O⟩) h.nm v,sc:=⟨k,h1,h2,dN h3 h.gm⟩,mod:=hm,res:=dN h.res (Aca h.mr) }
theorem Ck.cells (h:Ck w wk g mb rs S r a b c d e):wk.cell? ⟨mb,0,O⟩=M a/\wk.cell? ⟨mb,1,O⟩=M b/\wk.cell? ⟨mb,2,O⟩=M c/\wk.cell? ⟨mb,3,O⟩=M d/\wk.cell? ⟨mb,4,O⟩=M e/\(∀j,wk.frozen? ⟨mb,j,O⟩=false):=by
 obtain⟨a1,a2,a3,a4,a5,a6⟩:=aW h.mod;exact⟨a1,a2,a3,a4,a5,fun j=>by simp[World.frozen?,h.mod,bR]⟩
theorem Ck.drew (h:Ck w wk g mb rs S r a b c d e):Ck w wk.drew g mb rs S r a b c d e:=
 { h with aN:=h.aN.drew,sc:=h.sc.aN (aL.drew (aL.refl _)),mod:=h.mod,res:=h.res }
theorem eP.og {w':F}{x:bS}{l:List Ed}(h:eP w x l)(hs:lV w g S r)(ho:Og w w' g):eP w' x l:=by
 refine h.fr ho.1 (Ny hs) (fun b aS hb e=>?_);obtain⟨i,-,-,h3⟩:=hs;subst e;exact bU hb h3 (gH (by decide))
theorem Qe {xo:Option Addr}{xn xc:Nat}{l:List Ed}{d:Nat}(h:eP w (xo,xn,xc) l)(hd:d<=50):
 H K 227 #[Z xo xn xc,I V (d:Int)] w fun e w'=>(∃a b c,e=G (Z a b c)/\eP w (a,b,c) (l.take d))/\w'=w:=by
 refine(EI h hd).mono ?_;rintro e w' ⟨⟨⟨a,b,c⟩,rfl,h2⟩,rfl⟩;exact⟨⟨a,b,c,rfl,h2⟩,rfl⟩
theorem RV {xb:Nat}{s:Sc}{fs:List bC}{m:dD}{f:bS}(h:bM w xb s fs m f)(hl:fs.length<=80000)(hc:iL s)(hI:fM s.room fs)(h29:¬(aO fs 2).size<29)(hK:(aO fs 2).data.toList.head?=M 75):
 H K 167 #[U (M ⟨xb,0,O⟩)] w fun e w'=>CkIs w' e (jJ (aO fs 2) ((aO fs 1).size:Int) s.depth.toNat)/\aL w w':=by
 have HS:Hid (bM w xb s fs m f):=h;have Ki:=aP w (C #[Z O 0 0,Z O 0 0,Z O 0 0,I V 0,I V 0] 187);have CJ:=Aaf w (C #[Z O 0 0,Z O 0 0,Z O 0 0,I V 0,I V 0] 187);have Yw:((aO fs 2).size:Int)<=1000000:=by have:=gD hI 2;have:=hc.kI;omega
 have hlb:((aO fs 1).size:Int)<=1000000:=by have:=gD hI 1;have:=hc.kI;omega
 obtain⟨r,hx,hf,-⟩:=h.aN Ki;have hB:=vW (n:=2) hx hf (by omega);clear hx hf;generalize aO fs 2=bb at*;have hne:bb.toList.isEmpty=false:=ba_ne (by omega);have z1:¬(bb.size:Int)<29:=by omega
 have i2:0<bb.size:=by omega
 have i1:(0:Int)<(bb.size:Int):=by omega
 rw[EJ i2]at hK
 have YL:((bb[0].toNat:Int) !=75)=false:=by
  have:bb[0]=75:=by simpa using hK
  rw[this];rfl
 have HK75:Hid (bb.data.toList.head?=M 75):=by show _=_;rw[EJ i2];exact hK
 clear hK;have e4:((bb.size-4:Nat):Int)=(bb.size:Int)-4:=by omega
 have z5:(0:Int)<=(bb.size:Int)-4:=by omega
 have z6:(bb.size:Int)-4<=(bb.size:Int):=by omega
 go_enter func167,ntmps167;go_wp2_with fail;generalize w.alloc (C #[Z O 0 0,Z O 0 0,Z O 0 0,I V 0,I V 0] 187)=w0 at*;refine hB.mono ?_;rintro e w0 ⟨rfl,rfl⟩;clear hB;go_wp2_with fail;have iJ:(w0.alloc (C #[.string bb,I V ((bb.size:Int)-4),.bool false] 305)).heap[w0.heap.size]?=M (zJ bb (bb.size-4) false):=by rw[Aaf];unfold zJ;rw[e4]
 have hsc1:lV (w0.alloc (C #[.string bb,I V ((bb.size:Int)-4),.bool false] 305)) w0.heap.size bb (bb.data.toList.drop (bb.size-4),false):=⟨bb.size-4,by omega,rfl,iJ⟩;have EZ:=aP w0 (C #[.string bb,I V ((bb.size:Int)-4),.bool false] 305);have hlt0:=aM CJ;refine(iX hsc1 (by omega)).mono ?_;rintro e w2 ⟨rfl,-,EX⟩;have Ww:aL w w2:=EK (aQ Ki EZ) EX Ki.size;have hres2:=EX.1.at ((EZ.block _ hlt0).trans CJ) (by omega)
 have hsum:(bG (bb.data.toList.drop (bb.size-4),false)).1=gZ (bb.data.toList.drop (bb.size-4)):=by
  unfold bG;rw[Aaa];simp only[AaD,false_or,AaP,Abc];show ¬bb.size-(bb.size-4)<4;omega
 rw[hsum];generalize hsm:gZ (bb.data.toList.drop (bb.size-4))=sm at*;have HSM:Hid (gZ (bb.data.toList.drop (bb.size-4))=sm):=hsm;clear hsm hsum EX hsc1 iJ EZ Ki CJ hlt0;go_wp2_with fail;have hSz:(bb.extract 0 (bb.size-4)).size=bb.size-4:=by rw[Acj];omega
 have hSd:(bb.extract 0 (bb.size-4)).data.toList=bb.data.toList.take (bb.size-4):=by rw[Acy,AcG];simp[List.extract]
 refine(BJ (s:=bb.extract 0 (bb.size-4)) (by omega)).mono ?_;rintro e w2 ⟨rfl,rfl⟩;generalize UF:kD (bb.extract 0 (bb.size-4)).data.toList=cr at*;have HCR:Hid (kD (bb.data.toList.take (bb.size-4))=cr):=by show _=_;rw[<-UF,hSd]
 have HSD:Hid ((bb.extract 0 (bb.size-4)).data.toList=bb.data.toList.take (bb.size-4)):=hSd;clear UF hSd;go_wp2_with fail;generalize hSS:bb.extract 0 (bb.size-4)=SS at*;clear hSS;have hsc3:lV (w2.alloc (C #[.string SS,I V 1,.bool false] 305)) w2.heap.size SS (SS.data.toList.drop 1,false):=⟨1,by omega,rfl,Aaf _ _⟩;have Tq:=aP w2 (C #[.string SS,I V 1,.bool false] 305);have Rz:=aM hres2;have hgz:=Ww.size;refine(iX hsc3 (by omega)).mono ?_;rintro e w4 ⟨rfl,qU,Ca⟩;have hG4:aL w w4:=EK (aQ Ww Tq) Ca hgz;have hres4:=Ca.1.at ((Tq.block _ Rz).trans hres2) (by omega);have hgl4:=qU.lt;have hep:=wV (SS.data.toList.drop 1,false);have HB:Hid (SS.data.toList.drop 1=(bb.data.toList.take (bb.size-4)).drop 1):=by show _=_;rw[HSD.out]
 generalize mh:((SS.data.toList.drop 1,false):Sn)=R0 at*;have HR0:Hid (((SS.data.toList.drop 1,false):Sn)=R0):=mh;clear hsc3 Tq mh Ca Ww hres2;go_wp2_with fail;have hB5:=aP w4 (C #[Z O 0 0,Z O 0 0,Z O 0 0,I V 0,I V 0] 187);have hlt4:=aM hres4
 have ck:Ck w (w4.alloc (C #[Z O 0 0,Z O 0 0,Z O 0 0,I V 0,I V 0] 187)) w2.heap.size w4.heap.size w.heap.size SS (bG R0).2 (Z O 0 0) (Z O 0 0) (Z O 0 0) (I V 0) (I V 0):=
  ⟨aQ hG4 hB5,qU.aN hB5,Aaf _ _,(hB5.block _ hlt4).trans hres4,hgz,hG4.size,Aak _,by omega,by omega,by omega⟩
 clear hG4 hB5 qU hres4;generalize ku:w2.heap.size=g at*;generalize hmm:w4.heap.size=mb at*;generalize w4.alloc (C #[Z O 0 0,Z O 0 0,Z O 0 0,I V 0,I V 0] 187)=wk at*;refine(iX ck.sc (by omega)).mono ?_;rintro e w6 ⟨rfl,hs6,kg⟩;have ck:=ck.og kg hs6;have tX:=wV (bG R0).2;obtain⟨-,-,-,c3,c4,cf⟩:=ck.cells;have f3:=cf 3;clear cf hs6 kg;go_wp2_with fail;have ck:=ck.RU (i:=3) (v:=I V (bG (bG R0).2).1) (Af ck.mod);clear c3 c4 f3;generalize w6.setCell ⟨mb,3,O⟩ (I V (bG (bG R0).2).1)=w7 at*;generalize Av:bG R0=q1 at*;have HQ1:Hid (bG R0=q1):=Av;generalize xL:bG q1.2=q2 at*;have HQ2:Hid (bG q1.2=q2):=xL;clear Av xL;refine(iX ck.sc (by omega)).mono ?_;rintro e w8 ⟨rfl,hs8,ho8⟩;have ck:=ck.og ho8 hs8;have ZM:=wV q2.2;obtain⟨-,-,-,c3,c4,cf⟩:=ck.cells;have f4:=cf 4;clear cf hs8 ho8;generalize WU:bG q2.2=q3 at*;have HQ3:Hid (bG q2.2=q3):=WU;clear WU;go_wp2_with fail;have ck:=ck.RU (i:=4) (v:=I V q3.1) (wO ck.mod);clear c3 c4 f4;generalize w8.setCell ⟨mb,4,O⟩ (I V q3.1)=w9 at*;refine(Jg ck.sc (by omega) ZM.1 ZM.2).mono ?_;rintro e Od ⟨v10,rfl,hp10,hs10,ho10⟩;obtain⟨⟨ta,tl,tc⟩,rfl,hT⟩:=Jh hp10;have ck:=ck.og ho10 hs10;have htr:=yA q3.1 q3.2;generalize hq4:dO q3.1 q3.2=q4 at*;have HQ4:Hid (dO q3.1 q3.2=q4):=hq4;obtain⟨c0,-,-,c3,c4,cf⟩:=ck.cells;have f0:=cf 0;clear cf hs10 ho10 hp10 hq4;simp only[bS.v];go_wp2_with fail;have hT:=hT.jI (i:=0) (v:=Z ta tl tc) ck.mod;have ck:=ck.RU (i:=0) (v:=Z ta tl tc) (nR ck.mod);clear c0 c3 c4 f0;generalize Od.setCell ⟨mb,0,O⟩ (Z ta tl tc)=mg at*;refine(Zp ck.sc (by omega) ZM.1 ZM.2).mono ?_;rintro e w12 ⟨⟨ua,ul,uc⟩,rfl,hU,hs12,ho12⟩;have hT:=hT.og ck.sc ho12;have ck:=ck.og ho12 hs12;have hur:=wW q3.1 q4.2;generalize hq5:kJ q3.1 q4.2=q5 at*;have HQ5:Hid (kJ q3.1 q4.2=q5):=hq5;obtain⟨-,c1,-,-,c4,cf⟩:=ck.cells;have f1:=cf 1;clear cf hs12 ho12 hq5;simp only[bS.v];go_wp2_with fail;have hT:=hT.jI (i:=1) (v:=Z ua ul uc) ck.mod;have hU:=hU.jI (i:=1) (v:=Z ua ul uc) ck.mod;have ck:=ck.RU (i:=1) (v:=Z ua ul uc) (mD ck.mod);clear c1 c4 f1;generalize w12.setCell ⟨mb,1,O⟩ (Z ua ul uc)=w13 at*;refine(Zp ck.sc (by omega) ZM.1 ZM.2).mono ?_;rintro e w14 ⟨⟨va,vl,vc⟩,rfl,hV,hs14,ho14⟩;have hT:=hT.og ck.sc ho14;have hU:=hU.og ck.sc ho14;have ck:=ck.og ho14 hs14;have hvr:=wW q3.1 q5.2;generalize hq6:kJ q3.1 q5.2=q6 at*;have HQ6:Hid (kJ q3.1 q5.2=q6):=hq6;obtain⟨-,-,c2,-,-,cf⟩:=ck.cells;have f2:=cf 2;clear cf hs14 ho14 hq6;simp only[bS.v];go_upto_region 18 with fail;have hT:=hT.jI (i:=2) (v:=Z va vl vc) ck.mod;have hU:=hU.jI (i:=2) (v:=Z va vl vc) ck.mod;have hV:=hV.jI (i:=2) (v:=Z va vl vc) ck.mod;have ck:=ck.RU (i:=2) (v:=Z va vl vc) (mF ck.mod);clear c2 f2;generalize w14.setCell ⟨mb,2,O⟩ (Z va vl vc)=w15 at*;obtain⟨c0,c1,c2,c3,c4,cf⟩:=ck.cells;obtain⟨t1,t2,t3⟩:=hT;simp only at t1 t2 t3;subst t2;have HT:Hid (bH w15 (ta,q4.1.length,tc) q4.1):=⟨t1,rfl,t3⟩;have jW:=zM (ca:=tc) t1.1 rfl htr.1 (by have:=htr.2;omega);have hsb:=Dy htr.1;have Vu:=htr.2;have XV:=MC (n:=sz q4.1) (back:=true) hU hur.1 hur.2 hsb.1 (by omega);have hfb:=MC (n:=sz q4.1) (back:=false) hV hvr.1 hvr.2 hsb.1 (by omega);obtain⟨r9,He,UC,-⟩:=HS.out.aN ck.aN;have hle:=Ai (n:=1) He UC (by omega);have N_:=(fI He).2.2.2.2;clear He UC t1 t3;go_wp2_with fail;refine jW.mono ?_;rintro e w15 ⟨rfl,rfl⟩;clear jW;go_wp2_with fail;refine XV.mono ?_;rintro e w15 ⟨rfl,rfl⟩;clear XV;go_wp2_with fail;refine hfb.mono ?_;rintro e w15 ⟨rfl,rfl⟩;clear hfb;go_wp2_with fail;refine hle.mono ?_;rintro e w15 ⟨rfl,rfl⟩;clear hle;have HA:Hid (lU (q5.1.map (lF true)) (sz q4.1)=lU (q5.1.map tN) (sz q4.1)):=rfl;have BZ:Hid (lU (q6.1.map (lF false)) (sz q4.1)=lU (q6.1.map pE) (sz q4.1)):=rfl;generalize hfA:lU (q5.1.map (lF true)) (sz q4.1)=fA at*;generalize hfB:lU (q6.1.map (lF false)) (sz q4.1)=fB at*;clear hfA hfB;generalize hbuf:((aO fs 1).size:Int)=buf at*;have Xm:Hid (((aO fs 1).size:Int)=buf):=hbuf;clear hbuf
 have Qb:Hid (jJ bb buf s.depth.toNat=if sm=cr/\q6.2.2=false/\q6.2.1=[]/\1<=q1.1/\q1.1<=999/\q2.1<=1000000000/\q3.1<=buf/\fA=true/\fB=true then M (q1.1,(q4.1,q5.1.take s.depth.toNat,q6.1.take s.depth.toNat,q2.1,q3.1))else O):=by
  show _=_;have x1:bG ((bb.data.toList.take (bb.size-4)).drop 1,false)=q1:=by rw[<-HB.out,HR0.out];exact HQ1.out
  unfold jJ;rw[Aaa (by omega),Aaa (by rw[HK75.out];simp;omega)];simp only;rw[x1,HQ2.out,HQ3.out,HQ4.out,HQ5.out,HQ6.out,HSM.out,HCR.out,<-HA.out,<-BZ.out]
 obtain⟨ia,ia1,ia2,ia3⟩:=ck.sc;obtain⟨-,s1,s2,-⟩:=Iy ia3
 have gL:q6.2.1=[]↔ia=SS.size:=by
  rw[ia2,List.drop_eq_nil_iff];show SS.data.toList.length<=ia↔_;rw[Abc];show SS.size<=ia↔_;omega
 obtain⟨k0,k1,k2,k3,k4,-⟩:=aW ck.res;have kf:∀j,w15.frozen? ⟨w.heap.size,j,O⟩=false:=fun j=>by have:=ck.res;simp[World.frozen?,this,bR]
 have g0:=kf 0;have g1:=kf 1;have g2:=kf 2;have g3:=kf 3;have g4:=kf 4;clear kf;by_cases q1s:sm=cr
 ·have q1b:(sm !=cr)=false:=by simp[q1s]
  by_cases q2s:q6.2.2=false
  ·rw[q2s]at s2;by_cases q3s:ia=SS.size
   ·have q3b:((ia:Int) !=(bb.size:Int)-4)=false:=(by simp;omega);by_cases q4s:1<=q1.1
    ·have q4b:¬q1.1<1:=(by omega);by_cases q5s:q1.1<=999
     ·have q5b:¬999<q1.1:=(by omega);by_cases q6s:q2.1<=1000000000
      ·have q6b:¬1000000000<q2.1:=(by omega);by_cases q7s:q3.1<=buf
       ·have q7b:¬buf<q3.1:=(by omega);by_cases q8s:fA=true
        ·have q8b:=q8s;by_cases q9s:fB=true
         ·have q9b:=q9s;have HE:Hid (jJ bb buf s.depth.toNat=M (q1.1,(q4.1,q5.1.take s.depth.toNat,q6.1.take s.depth.toNat,q2.1,q3.1))):=(by show _=_;rw[Qb.out,Aad ⟨q1s,q2s,gL.2 q3s,q4s,q5s,q6s,q7s,q8s,q9s⟩]);obtain⟨D,hD⟩:=AbA hc.yI;have hD5:D<=50:=(by have:=hc.wX;omega);rw[hD]at N_ HE;rw[Ace]at HE;have HDD:Hid (s.depth=(D:Int)):=hD;clear hD Qb k0 k1 k2 k3 k4 g0 g1 g2 g3 g4;go_upto_region 24 with fail
          go_cut [] (fun wc=> ∃U':bS,eP wc U' (q5.1.take D)/\Ck w wc g mb w.heap.size SS q6.2 (Z ta q4.1.length tc) U'.v (Z va vl vc) (I V q2.1) (I V q3.1)/\bH wc (ta,q4.1.length,tc) q4.1/\eP wc (va,vl,vc) q6.1)
          case first=>
           have f1:=cf 1;clear cf
           go_region_with (go_at_call 227;refine(Qe (d:=D) (by first|exact hU|exact hU.aN (aL.drew (aL.refl _))) (by omega)).mono ?_;rintro e w16 ⟨⟨xa,xl,xc,rfl,hU2⟩,rfl⟩)
           all_goals go_wp2_with fail
           all_goals go_meet
           all_goals
            have hU3:eP w15 (xa,xl,xc) (q5.1.take D):=hU2;exact⟨(xa,xl,xc),(hU3.jI (i:=1) (v:=Z xa xl xc) ck.mod).aN (aL.drew (aL.refl _)),(ck.RU (i:=1) (v:=Z xa xl xc) (mD ck.mod)).drew,(HT.out.jI (i:=1) (v:=Z xa xl xc) ck.mod).aN (aL.drew (aL.refl _)),(hV.jI (i:=1) (v:=Z xa xl xc) ck.mod).aN (aL.drew (aL.refl _))⟩
          case rest=>
           obtain⟨⟨ya,yl,yc⟩,hY,ck,hT,hV⟩:=hcut
           rename F=>w17
           simp only[bS.v]at ck;obtain⟨r9,He,UC,-⟩:=HS.out.aN ck.aN;have N_:=(fI He).2.2.2.2;rw[HDD.out]at N_;obtain⟨c0,c1,c2,c3,c4,cf⟩:=ck.cells;have f2:=cf 2;clear He UC cf;go_upto_region 25 with fail
           go_cut [] (fun wc=> ∃V':bS,eP wc V' (q6.1.take D)/\Ck w wc g mb w.heap.size SS q6.2 (Z ta q4.1.length tc) (Z ya yl yc) V'.v (I V q2.1) (I V q3.1)/\bH wc (ta,q4.1.length,tc) q4.1/\eP wc (ya,yl,yc) (q5.1.take D))
           case first=>
            go_region_with (go_at_call 227;refine(Qe (d:=D) (by first|exact hV|exact hV.aN (aL.drew (aL.refl _))) (by omega)).mono ?_;rintro e w16 ⟨⟨xa,xl,xc,rfl,hU2⟩,rfl⟩)
            all_goals go_wp2_with fail
            all_goals go_meet
            all_goals
             have hU3:eP w17 (xa,xl,xc) (q6.1.take D):=hU2;exact⟨(xa,xl,xc),(hU3.jI (i:=2) (v:=Z xa xl xc) ck.mod).aN (aL.drew (aL.refl _)),(ck.RU (i:=2) (v:=Z xa xl xc) (mF ck.mod)).drew,(hT.jI (i:=2) (v:=Z xa xl xc) ck.mod).aN (aL.drew (aL.refl _)),(hY.jI (i:=2) (v:=Z xa xl xc) ck.mod).aN (aL.drew (aL.refl _))⟩
           case rest=>
            obtain⟨⟨va2,vl2,vc2⟩,hV2,ck,hT,hY⟩:=hcut
            rename F=>w18
            simp only[bS.v]at ck;obtain⟨c0,c1,c2,c3,c4,-⟩:=ck.cells;obtain⟨k0,k1,k2,k3,k4,-⟩:=aW ck.res;have kf:∀j,w18.frozen? ⟨w.heap.size,j,O⟩=false:=fun j=>by have:=ck.res;simp[World.frozen?,this,bR]
            have g0:=kf 0;have g1:=kf 1;have g2:=kf 2;have g3:=kf 3;have g4:=kf 4;have hmr:=ck.mr;clear kf;have HM:Hid (dZ w18 ((ta,q4.1.length,tc),(ya,yl,yc),(va2,vl2,vc2),q2.1,q3.1) (q4.1,q5.1.take D,q6.1.take D,q2.1,q3.1)):=⟨hT,hY,hV2,rfl,rfl⟩;have HF:Hid (dZ (((((w18.setCell ⟨w.heap.size,0,O⟩ (Z ta q4.1.length tc)).setCell ⟨w.heap.size,1,O⟩ (Z ya yl yc)).setCell ⟨w.heap.size,2,O⟩ (Z va2 vl2 vc2)).setCell ⟨w.heap.size,3,O⟩ (I V q2.1)).setCell ⟨w.heap.size,4,O⟩ (I V q3.1)) ((ta,q4.1.length,tc),(ya,yl,yc),(va2,vl2,vc2),q2.1,q3.1) (q4.1,q5.1.take D,q6.1.take D,q2.1,q3.1)/\aL w (((((w18.setCell ⟨w.heap.size,0,O⟩ (Z ta q4.1.length tc)).setCell ⟨w.heap.size,1,O⟩ (Z ya yl yc)).setCell ⟨w.heap.size,2,O⟩ (Z va2 vl2 vc2)).setCell ⟨w.heap.size,3,O⟩ (I V q2.1)).setCell ⟨w.heap.size,4,O⟩ (I V q3.1))):=⟨HM.out.IJ ck.res _ _ _ _ _,dH ck.aN ck.nr _ _ _ _ _⟩;go_upto_region 26 with fail
            go_region
            all_goals go_wp2_with fail
            all_goals refine Aan (v:= .tuple #[I V q1.1,.agg #[Z ta q4.1.length tc,Z ya yl yc,Z va2 vl2 vc2,I V q2.1,I V q3.1],.bool true]) (by simp[results,results167,go_sem,k0,k1,k2,k3,k4]) rfl ?_
            all_goals rw[Xm.out,HDD.out,Ace,HE.out]
            all_goals exact⟨⟨_,rfl,HF.out.1.aN (aL.drew (aL.refl _))⟩,HF.out.2.drew⟩
         ·have q9b:fB=false:=(by simpa using q9s);have HE:Hid (jJ bb buf s.depth.toNat=O):=(by show _=_;rw[Qb.out,Aaa (fun hh=>q9s hh.2.2.2.2.2.2.2.2)]);clear Qb;go_wp2_with fail;refine Aan (v:= .tuple #[I V 0,.agg #[Z O 0 0,Z O 0 0,Z O 0 0,I V 0,I V 0],.bool false]) (by simp[results,results167,go_sem,k0,k1,k2,k3,k4]) rfl ?_;rw[Xm.out,HE.out];exact⟨rfl,dH ck.aN ck.nr _ _ _ _ _⟩
        ·have q8b:fA=false:=(by simpa using q8s);have HE:Hid (jJ bb buf s.depth.toNat=O):=(by show _=_;rw[Qb.out,Aaa (fun hh=>q8s hh.2.2.2.2.2.2.2.1)]);clear Qb;go_wp2_with fail;refine Aan (v:= .tuple #[I V 0,.agg #[Z O 0 0,Z O 0 0,Z O 0 0,I V 0,I V 0],.bool false]) (by simp[results,results167,go_sem,k0,k1,k2,k3,k4]) rfl ?_;rw[Xm.out,HE.out];exact⟨rfl,dH ck.aN ck.nr _ _ _ _ _⟩
       ·have q7b:buf<q3.1:=(by omega);have HE:Hid (jJ bb buf s.depth.toNat=O):=(by show _=_;rw[Qb.out,Aaa (fun hh=>q7s hh.2.2.2.2.2.2.1)]);clear Qb;go_wp2_with fail;refine Aan (v:= .tuple #[I V 0,.agg #[Z O 0 0,Z O 0 0,Z O 0 0,I V 0,I V 0],.bool false]) (by simp[results,results167,go_sem,k0,k1,k2,k3,k4]) rfl ?_;rw[Xm.out,HE.out];exact⟨rfl,dH ck.aN ck.nr _ _ _ _ _⟩
      ·have q6b:1000000000<q2.1:=(by omega);have HE:Hid (jJ bb buf s.depth.toNat=O):=(by show _=_;rw[Qb.out,Aaa (fun hh=>q6s hh.2.2.2.2.2.1)]);clear Qb;go_wp2_with fail;refine Aan (v:= .tuple #[I V 0,.agg #[Z O 0 0,Z O 0 0,Z O 0 0,I V 0,I V 0],.bool false]) (by simp[results,results167,go_sem,k0,k1,k2,k3,k4]) rfl ?_;rw[Xm.out,HE.out];exact⟨rfl,dH ck.aN ck.nr _ _ _ _ _⟩
     ·have q5b:999<q1.1:=(by omega);have HE:Hid (jJ bb buf s.depth.toNat=O):=(by show _=_;rw[Qb.out,Aaa (fun hh=>q5s hh.2.2.2.2.1)]);clear Qb;go_wp2_with fail;refine Aan (v:= .tuple #[I V 0,.agg #[Z O 0 0,Z O 0 0,Z O 0 0,I V 0,I V 0],.bool false]) (by simp[results,results167,go_sem,k0,k1,k2,k3,k4]) rfl ?_;rw[Xm.out,HE.out];exact⟨rfl,dH ck.aN ck.nr _ _ _ _ _⟩
    ·have q4b:q1.1<1:=(by omega);have HE:Hid (jJ bb buf s.depth.toNat=O):=(by show _=_;rw[Qb.out,Aaa (fun hh=>q4s hh.2.2.2.1)]);clear Qb;go_wp2_with fail;refine Aan (v:= .tuple #[I V 0,.agg #[Z O 0 0,Z O 0 0,Z O 0 0,I V 0,I V 0],.bool false]) (by simp[results,results167,go_sem,k0,k1,k2,k3,k4]) rfl ?_;rw[Xm.out,HE.out];exact⟨rfl,dH ck.aN ck.nr _ _ _ _ _⟩
   ·have q3b:((ia:Int) !=(bb.size:Int)-4)=true:=(by rw[bne_iff_ne];omega);have HE:Hid (jJ bb buf s.depth.toNat=O):=(by show _=_;rw[Qb.out,Aaa (fun hh=>q3s (gL.1 hh.2.2.1))]);clear Qb;go_wp2_with fail;refine Aan (v:= .tuple #[I V 0,.agg #[Z O 0 0,Z O 0 0,Z O 0 0,I V 0,I V 0],.bool false]) (by simp[results,results167,go_sem,k0,k1,k2,k3,k4]) rfl ?_;rw[Xm.out,HE.out];exact⟨rfl,dH ck.aN ck.nr _ _ _ _ _⟩
  ·have q2t:q6.2.2=true:=(by simpa using q2s);rw[q2t]at s2;have HE:Hid (jJ bb buf s.depth.toNat=O):=(by show _=_;rw[Qb.out,Aaa (fun hh=>q2s hh.2.1)]);clear Qb;go_wp2_with fail;refine Aan (v:= .tuple #[I V 0,.agg #[Z O 0 0,Z O 0 0,Z O 0 0,I V 0,I V 0],.bool false]) (by simp[results,results167,go_sem,k0,k1,k2,k3,k4]) rfl ?_;rw[Xm.out,HE.out];exact⟨rfl,dH ck.aN ck.nr _ _ _ _ _⟩
 ·have q1b:(sm !=cr)=true:=by simpa using q1s
  have HE:Hid (jJ bb buf s.depth.toNat=O):=by show _=_;rw[Qb.out,Aaa (fun hh=>q1s hh.1)]
  clear Qb;go_wp2_with fail;refine Aan (v:= .tuple #[I V 0,.agg #[Z O 0 0,Z O 0 0,Z O 0 0,I V 0,I V 0],.bool false]) (by simp[results,results167,go_sem,k0,k1,k2,k3,k4]) rfl ?_;rw[Xm.out,HE.out];exact⟨rfl,dH ck.aN ck.nr _ _ _ _ _⟩
theorem ay {xb:Nat}{s:Sc}{fs:List bC}{m:dD}{f:bS}(h:bM w xb s fs m f)(hl:fs.length<=80000)(hc:iL s)(hI:fM s.room fs):
 H K 167 #[U (M ⟨xb,0,O⟩)] w fun e w'=>CkIs w' e (jJ (aO fs 2) ((aO fs 1).size:Int) s.depth.toNat)/\aL w w':=by
 by_cases h1:(aO fs 2).size<29\/(aO fs 2).data.toList.head?≠M 75
 ·exact ME h hl h1 (by have:=gD hI 2;have:=hc.kI;omega)
 ·refine RV h hl hc hI (fun e=>h1 (Aac e)) ?_;cases e:decide ((aO fs 2).data.toList.head?=M 75)with
  |true=>exact Acp e
  |false=>exact absurd (Aab (of_decide_eq_false e)) h1
end Go.Proofs.YtfplgfodoiiobaaGreatDoor
