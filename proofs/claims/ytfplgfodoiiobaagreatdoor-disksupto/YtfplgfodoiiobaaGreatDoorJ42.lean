/- RfD, RfE (joined). -/
import Derived.Test.YtfplgfodoiiobaaGreatDoorJ27
open Option renaming none→O,some→M
open Go.Value renaming int→I,slice→Z,pointer→U
open Go.IntKind renaming i64→V
open Go.Obj renaming cells→C
open Go.Ending renaming returned→G
open Go renaming World→F,Calls→H
open Go.Proofs.Tryz renaming prog→K
namespace Go.Proofs.YtfplgfodoiiobaaGreatDoor
set_option maxHeartbeats 4000000
set_option maxRecDepth 100000
open Go.RowKit
variable {w:F}{l:List Ed}{xo:Option Addr}{xn xc:Nat}{b:ByteArray}
theorem zq:∀(l:List gH) (i:Nat) (f:gH),l[i]?=M f->(Ia l)[i*3]?=M (I V f.1)/\(Ia l)[i*3+1]?=M f.2.1.v/\(Ia l)[i*3+2]?=M f.2.2.v:=by
 intro l
 induction l with
 |nil=>intro i f h;simp at h
 |cons e l ih=>
  intro i f h;cases i with
  |zero=>simp at h;subst h;simp[vX]
  |succ i=>
   have:=ih i f (by simpa using h);rw[vX,show(i+1)*3=i*3+1+1+1 from by omega];simpa using this
theorem eX.at (h:eX w (xo,xn,xc) l){k:Nat}{e:Ed}(he:l[k]?=M e):∃(b off:Nat) (r:gH),xo=M ⟨b,off,O⟩/\w.cell? ⟨b,off+k*3,O⟩=M (I V e.1)/\w.cell? ⟨b,off+k*3+1,O⟩=M r.2.1.v/\w.cell? ⟨b,off+k*3+2,O⟩=M r.2.2.v/\bL w r.2.1 e.2.1/\bL w r.2.2 e.2.2:=by
 obtain⟨raw,h1,h2,h3,h4,h5⟩:=h;have bT:=(List.getElem?_eq_some_iff.1 he).1;obtain⟨r,hr⟩:∃r,raw[k]?=M r:=⟨_,List.getElem?_eq_getElem (by omega)⟩;have hE:=h5 k r e hr he;rcases h1.1 with rfl|⟨b,off,eo,hc⟩
 ·simp at hr
 ·obtain⟨a1,a2,a3⟩:=zq raw k r hr;refine⟨b,off,r,eo,?_,by rw[Nat.add_assoc];exact hc _ _ a2,by rw[Nat.add_assoc];exact hc _ _ a3,hE.2.1,hE.2.2⟩;rw[<-hE.1];exact hc _ _ a1
theorem eX.len (h:eX w (xo,xn,xc) l):xn=l.length/\xn<=xc/\vY xo xn xc:=by
 obtain⟨raw,h1,h2,h3,h4,h5⟩:=h;exact⟨h2.trans h4,h3.2,h3.1⟩
def kT (back:Bool)(e:Ed):Int×Int×Int:=if back then wL e else qL e
theorem zu {back:Bool}{k:Nat}{e:Ed}(h:l[k]?=M e)(n:Int):lK ((l.drop k).map (kT back)) n=if n<(kT back e).1+(kT back e).2.1 then false else if 5000<n-(kT back e).2.1+(kT back e).2.2 then false else lK ((l.drop (k+1)).map (kT back)) (n-(kT back e).2.1+(kT back e).2.2):=by
 have bT:=(List.getElem?_eq_some_iff.1 h).1;rw[List.drop_eq_getElem_cons bT,(List.getElem?_eq_some_iff.1 h).2,List.map_cons];rw[lK.eq_def]
theorem JN {n:Int}{back:Bool}(h:eX w (xo,xn,xc) l)(FZ:∀e∈l,rawE e)(hlen:l.length<=50)(KL:0<=n)(Ul:n<=1000000000000000):
 H K 226 #[Z xo xn xc,I V n,.bool back] w fun e w'=>e=G (.bool (lK (l.map (kT back)) n))/\w'=w:=by
 obtain⟨rfl,-,-⟩:=h.len;go_enter Tryz.func226,Tryz.ntmps226
 go_wp2_with fail
 go_loopw [1,7] (fun u i wr=> ∃(k:Nat) (m:Int),k<=l.length/\i=I V (k:Int)/\u=I V m/\0<=m/\m<=1000000000000000/\wr=w/\Hid (lK (l.map (kT back)) n=lK ((l.drop k).map (kT back)) m)) (fun _ i _=>l.length-(intOf i).toNat)
 case atStart=>exact⟨0,n,Nat.zero_le _,rfl,rfl,KL,Ul,rfl,by show _=_;rw[List.drop_zero]⟩
 case round=>
  obtain⟨k,m,hk,rfl,rfl,hm0,Bo,rfl,xW⟩:=hrel;by_cases bT:k<l.length
  ·obtain⟨⟨p,ol,il⟩,he⟩:∃e,l[k]?=M e:=⟨_,List.getElem?_eq_getElem bT⟩;obtain⟨⟨p0,p1⟩,⟨o0,o1⟩,⟨i0,i1⟩⟩:=FZ _ (List.mem_of_getElem? he);simp only at p0 p1 o0 o1 i0 i1;obtain⟨b,off,⟨rp,⟨qo,ql,qc⟩,⟨so,sl,sc⟩⟩,rfl,c1,c2,c3,hl1,Zf⟩:=h.at he;obtain⟨t1,t2,t3⟩:=hl1;obtain⟨s1,s2,s3⟩:=Zf;simp only[bS.v]at c1 c2 c3;simp only at t1 t2 t3 s1 s2 s3;subst t2 s2;have hO:=yY (ca:=qc) t1.1 rfl o0 (by omega);have hJ:=yY (ca:=sc) s1.1 rfl i0 (by omega);have zo:=Cq o0;have zi:=Cq i0;have HS:Hid (lK (l.map (kT back)) n=if m<(kT back (p,ol,il)).1+(kT back (p,ol,il)).2.1 then false else if 5000<m-(kT back (p,ol,il)).2.1+(kT back (p,ol,il)).2.2 then false else lK ((l.drop (k+1)).map (kT back)) (m-(kT back (p,ol,il)).2.1+(kT back (p,ol,il)).2.2)):=by show _=_;rw[xW.out];exact zu he m
   have j1:(0:Int)<=(k:Int):=by omega
   have j2:(k:Int)<(l.length:Int):=by omega
   clear he xW t1 t3 s1 s3;have HK:Hid (k+1<=l.length):=bT;generalize hoz:sz ol=zO at*;generalize hiz:sz il=zI at*;have HOZ:Hid (sz ol=zO):=hoz;have HIZ:Hid (sz il=zI):=hiz;clear hoz hiz;cases back with
   |true=>
    have HE:Hid (kT true (p,ol,il)=(p,zI,zO)):=by show _=_;unfold kT wL;simp only[if_true];rw[HOZ.out,HIZ.out]
    rw[HE.out]at HS;simp only at HS
    go_wp2_with fail
    refine hO.mono ?_;rintro e w ⟨rfl,rfl⟩
    go_wp2_with fail
    refine hJ.mono ?_;rintro e w ⟨rfl,rfl⟩
    go_wp2_with fail
    refine hJ.mono ?_;rintro e w ⟨rfl,rfl⟩
    go_wp2_with fail
    refine hO.mono ?_;rintro e w ⟨rfl,rfl⟩;by_cases q1:m<p+zI
    ·rw[if_pos q1]at HS
     go_wp2_with fail
     go_ret;exact⟨by rw[HS.out];rfl,rfl⟩
    ·rw[if_neg q1]at HS;by_cases q2:5000<m-zI+zO
     ·rw[if_pos q2]at HS
      go_wp2_with fail
      go_ret;exact⟨by rw[HS.out];rfl,rfl⟩
     ·rw[if_neg q2]at HS
      go_wp2_with fail
      go_roundw
      case rel=>exact⟨k+1,m-zI+zO,HK.out,by go_num,rfl,by omega,by omega,by first|rfl|trivial,HS.out⟩
      case measure=>simp[intOf];omega
   |false=>
    have HE:Hid (kT false (p,ol,il)=(p,zO,zI)):=by show _=_;unfold kT qL;simp only[Bool.false_eq_true,if_false];rw[HOZ.out,HIZ.out]
    rw[HE.out]at HS;simp only at HS
    go_wp2_with fail
    refine hO.mono ?_;rintro e w ⟨rfl,rfl⟩
    go_wp2_with fail
    refine hJ.mono ?_;rintro e w ⟨rfl,rfl⟩;by_cases q1:m<p+zO
    ·rw[if_pos q1]at HS
     go_wp2_with fail
     go_ret;exact⟨by rw[HS.out];rfl,rfl⟩
    ·rw[if_neg q1]at HS;by_cases q2:5000<m-zO+zI
     ·rw[if_pos q2]at HS
      go_wp2_with fail
      go_ret;exact⟨by rw[HS.out];rfl,rfl⟩
     ·rw[if_neg q2]at HS
      go_wp2_with fail
      go_roundw
      case rel=>exact⟨k+1,m-zO+zI,HK.out,by go_num,rfl,by omega,by omega,by first|rfl|trivial,HS.out⟩
      case measure=>simp[intOf];omega
  ·have HS:Hid (lK (l.map (kT back)) n=true):=by show _=_;rw[xW.out,List.drop_of_length_le (by omega)];rfl
   clear h
   go_wp2_with fail
   go_ret;exact⟨by rw[HS.out];rfl,rfl⟩
theorem BA {d:Nat}(h:eX w (xo,xn,xc) l)(hd:d<=50):
 H K 227 #[Z xo xn xc,I V (d:Int)] w fun e w'=>(∃x:bS,e=G x.v/\eX w x (l.take d))/\w'=w:=by
 obtain⟨rfl,hc,gP⟩:=h.len;by_cases ZV:d<l.length
 ·have z1:(d:Int)<(l.length:Int):=by omega
  have z2:(0:Int)<=(d:Int):=by omega
  have z3:(d:Int)<=(xc:Int):=by omega
  have HX:Hid (eX w (xo,d,xc) (l.take d)):=by
   obtain⟨raw,h1,h2,h3,h4,h5⟩:=h;refine⟨raw.take d,h1.take d,?_,⟨fun e=>?_,?_⟩,?_,?_⟩
   ·simp only[List.length_take];omega
   ·have:=h3.1 e;simp only at this ⊢;omega
   ·simp only;omega
   ·rw[List.length_take,List.length_take,h4]
   ·intro i r e a b
    have hi:i<d:=by
     have:=(List.getElem?_eq_some_iff.1 a).1;rw[List.length_take]at this;omega
    rw[List.getElem?_take_of_lt hi]at a b;exact h5 i r e a b
  obtain⟨ad,rfl⟩:∃ad,xo=M ad:=by
   cases xo with
   |none=>have:=gP rfl;omega
   |some ad=>exact⟨ad,rfl⟩
  clear h gP;go_enter Tryz.func227,Tryz.ntmps227
  go_wp2_with fail
  go_ret
  first|exact⟨⟨(M ad,d,xc),rfl,HX.out⟩,rfl⟩|exact⟨⟨M ad,d,xc,rfl,HX.out⟩,rfl⟩
 ·have z1:¬(d:Int)<(l.length:Int):=by omega
  have HX:Hid (eX w (xo,l.length,xc) (l.take d)):=by show eX _ _ _;rw[List.take_of_length_le (by omega)];exact h
  clear h gP;go_enter Tryz.func227,Tryz.ntmps227
  go_wp2_with fail
  go_ret
  first|exact⟨⟨xo,l.length,xc,rfl,HX.out⟩,rfl⟩|exact⟨⟨(xo,l.length,xc),rfl,HX.out⟩,rfl⟩
def CkIs (w':F)(e:Ending):Option (Int×dF)->Prop
 |none=>e=G (.tuple #[I V 0,Rv.v,.bool false])
 |some em=> ∃r':fF,e=G (.tuple #[I V em.1,r'.v,.bool true])/\dQ w' r' em.2
theorem WO (w:F):dQ w Rv Aa:=⟨⟨yF.nil _,rfl,fun _=>⟨rfl,rfl⟩⟩,eX.nil _,eX.nil _,rfl,rfl⟩
theorem zw (h:b.size=0):b=⟨#[]⟩:=by
 cases b with
 |mk d=>
  have:d=#[]:=Array.eq_empty_of_size_eq_zero h;rw[this]
theorem ba_ne (h:¬b.size=0):b.toList.isEmpty=false:=by
 rw[ByteArray.toList_eq];cases e:b.data.toList with
 |nil=>exact absurd (by show b.data.size=0;rw[<-Array.length_toList,e];rfl) h
 |cons x l=>rfl
theorem BB (h:0<b.size):b.data.toList.head?=M b[0]:=by
 cases b with
 |mk d=>
  obtain⟨l⟩:=d;cases l with
  |nil=>simp[ByteArray.size]at h
  |cons x l=>rfl
theorem JO {xb:Nat}{s:Sc}{fs:List bE}{m:dF}{f:bS}(h:bH w xb s fs m f)(hl:fs.length<=80000)(hb:(aP fs 2).size<29\/(aP fs 2).data.toList.head?≠M 75)(Ww:(aP fs 2).size<=1000000):
 H K 167 #[U (M ⟨xb,0,O⟩)] w fun e w'=>CkIs w' e (jG (aP fs 2) ((aP fs 1).size:Int) s.depth.toNat)/\aL w w':=by
 have Ib:=aO w (C #[Z O 0 0,Z O 0 0,Z O 0 0,I V 0,I V 0] 187);obtain⟨r,hx,hf,-⟩:=h.aN Ib;have hB:=vF (n:=2) hx hf (by omega);clear hx hf;generalize aP fs 2=bb at*;by_cases h0:bb.size=0
 ·have e0:=zw h0;have HE:Hid (jG bb ((aP fs 1).size:Int) s.depth.toNat=M (0,Aa)):=by show _=_;unfold jG;rw[if_pos h0];rfl
  rw[e0]at hB;clear e0 h0 hb Ww;go_enter Tryz.func167,Tryz.ntmps167
  go_wp2_with fail
  refine hB.mono ?_;rintro e w1 ⟨rfl,rfl⟩
  go_wp2_with fail
  refine bodyPost_ret (v:= .tuple #[I V 0,.agg #[Z O 0 0,Z O 0 0,Z O 0 0,I V 0,I V 0],.bool true]) (by simp[results,Tryz.results167,go_sem]) rfl ?_;rw[HE.out];exact⟨⟨Rv,rfl,WO _⟩,Ib⟩
 ·have HE:Hid (jG bb ((aP fs 1).size:Int) s.depth.toNat=O):=by show _=_;unfold jG;rw[if_neg h0,if_pos hb]
  have hne:bb.toList.isEmpty=false:=ba_ne h0;by_cases h29:bb.size<29
  ·have z1:(bb.size:Int)<29:=by omega
   clear hb;go_enter Tryz.func167,Tryz.ntmps167
   go_wp2_with fail
   refine hB.mono ?_;rintro e w1 ⟨rfl,rfl⟩
   go_wp2_with fail
   refine bodyPost_ret (v:= .tuple #[I V 0,.agg #[Z O 0 0,Z O 0 0,Z O 0 0,I V 0,I V 0],.bool false]) (by simp[results,Tryz.results167,go_sem]) rfl ?_;rw[HE.out];exact⟨rfl,Ib⟩
  ·have z1:¬(bb.size:Int)<29:=by omega
   have hh:bb.data.toList.head?≠M 75:=hb.resolve_left h29;rw[BB (by omega)]at hh
   have hk:¬(bb[0].toNat:Int)=75:=fun e=>hh (by
    have e2:bb[0].toNat=75:=by omega
    exact congrArg M (UInt8.toNat_inj.1 e2))
   have UU:((bb[0].toNat:Int) !=75)=true:=by simpa using hk
   clear hb hh hk;have i1:(0:Int)<(bb.size:Int):=by omega
   have i2:0<bb.size:=by omega
   go_enter Tryz.func167,Tryz.ntmps167
   go_wp2_with fail
   refine hB.mono ?_;rintro e w1 ⟨rfl,rfl⟩
   go_wp2_with fail
   refine bodyPost_ret (v:= .tuple #[I V 0,.agg #[Z O 0 0,Z O 0 0,Z O 0 0,I V 0,I V 0],.bool false]) (by simp[results,Tryz.results167,go_sem]) rfl ?_;rw[HE.out];exact⟨rfl,Ib⟩
end Go.Proofs.YtfplgfodoiiobaaGreatDoor
