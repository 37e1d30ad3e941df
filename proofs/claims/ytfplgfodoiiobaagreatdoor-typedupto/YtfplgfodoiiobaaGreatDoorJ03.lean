/- Walk8, Walk9, Walk10, Walk11, Walk12, HeldA, HeldB (joined). -/
import Derived.BigQuiet
import Derived.Deep.Draws
import Derived.Deep.LoopGhost
import Derived.Deep.QuietTactic
import Derived.Test.YtfplgfodoiiobaaGreatDoorJ02
import Derived.WalkSmall
open Option renaming none→O,some→M
open Go.Value renaming int→I,slice→Z,pointer→U
open Go.IntKind renaming i64→V
open Go.Obj renaming cells→C
open Go.Ending renaming returned→G
open Go renaming World→F,Value→Y,Calls→H
open Go.Proofs.Tryz renaming prog→K
namespace Go.Proofs.YtfplgfodoiiobaaGreatDoor
set_option maxHeartbeats 1000000
set_option maxRecDepth 100000
open Go.RowKit
variable {w w' w1:F}{l:List (Int×Int)}{tb h g k cap b:Nat}{pos n x y:Int}{root a:Option Addr}{p:Int×Int}{xs:List Y}
theorem OD {a b:List (Int×Int)}(h:dX a)(h0:0<=n)(hn:n<sz a):(bH (a++p::b) n).head?=(bH a n).head?:=by
 rw[(Bh h (by omega)).2];have e:=jP h h0 (by omega);cases ht:bH a n with
 |nil=>rw[ht]at e;simp[sz]at e;omega
 |cons q l=>rfl
theorem TS {a b:List (Int×Int)}(h:dX a)(h1:sz a<=n)(h2:n<sz a+p.2):(bH (a++p::b) n).head?=M (p.1+(n-sz a),p.2-(n-sz a)):=by
 by_cases e:n=sz a
 ·subst e;rw[(Bh h (Int.le_refl _)).2,zQ h (Int.le_refl _)];simp
 ·rw[(Rk h (by omega) h2).2];rfl
theorem TT (t:T w a h l)(hlen:l.length<=8000)(ok:dX l)(h0:0<=pos)(h1:pos<sz l):
 H K 158 #[U a,I V pos] w fun e w'=>
  ∃q:Int×Int,(bH l pos).head?=M q/\e=G (.agg #[I V q.1,I V q.2])/\Below w.heap.size w w':=by
 have T0:Hid (T w a h l/\dX l/\l.length<=8000/\pos<sz l):=⟨t,ok,hlen,h1⟩;clear t hlen ok h1;go_enter Tryz.func158,Tryz.ntmps158
 go_wp2_with fail
 go_loopg [0,1] h (fun k p q wr=>wr=w.alloc (C #[I V 0,I V 0] 114)/\∃(a':Option Addr) (l':List (Int×Int)) (pos':Int),p=U a'/\q=I V pos'/\T w a' k l'/\dX l'/\l'.length<=8000/\0<=pos'/\pos'<sz l'/\(bH l pos).head?=(bH l' pos').head?)
 case atStart=>
  obtain⟨t,ok,hlen,h1⟩:=T0.out;exact⟨rfl,a,l,pos,rfl,rfl,t,ok,hlen,h0,h1,rfl⟩
 case round=>
  obtain⟨rfl,a',l',pos',rfl,rfl,t',jd,K_,g0,g1,E0⟩:=hrel;clear T0;rcases t'.inv with⟨rfl,rfl,rfl⟩|⟨b,la,ra,p,hl,hr,ll,lr,rfl,hb,tl,tr,E,EH,-,-⟩
  ·simp[sz]at g1;omega
  ·obtain⟨c0,c1,c2,c3,-,-,-⟩:=dW hb;have bS:=World.block_lt_of_cell? _ _ c0;clear hb;have kQ:dX ll:=by rw[E]at jd;exact kC jd
   have mD:dX lr:=by rw[E]at jd;exact bP (dV jd)
   have xM:jU p:=by rw[E]at jd;exact dL (dV jd)
   have Rm:ll.length+lr.length+1<=8000:=by rw[E]at K_;simp only[List.length_append,List.length_cons]at K_;omega
   have iU:sz l'=sz ll+(p.2+sz lr):=by rw[E,mV,nI]
   have bl:=pJ kQ;have br:=pJ mD;obtain⟨px,py⟩:=p;simp only at iU;have hp:=xM;unfold jU at hp;simp only at hp;have g2:pos'<sz ll+(py+sz lr):=by omega
   have HE:Hid ((bH l pos).head?=(bH l' pos').head?/\l'=ll++(px,py)::lr/\gk=1+max hl hr):=⟨E0,E,EH⟩;clear E0 E EH iU;by_cases k1:pos'<sz ll
   ·go_wp2_with fail
    refine(iB (tl.below (aU _ _))).mono ?_;rintro e w1 ⟨rfl,rfl⟩
    go_wp2_with fail
    obtain⟨E0,E,EH⟩:=HE.out
    go_roundg hl
    case measure=>omega
    case rel=>exact⟨rfl,la,ll,pos',rfl,rfl,tl,kQ,by omega,g0,k1,by rw[E0,E];exact OD kQ g0 k1⟩
   ·by_cases k2:sz ll+py<=pos'
    ·go_wp2_with fail
     refine(iB (tl.below (aU _ _))).mono ?_;rintro e w1 ⟨rfl,rfl⟩
     go_wp2_with fail
     obtain⟨E0,E,EH⟩:=HE.out
     go_roundg hr
     case measure=>omega
     case rel=>exact⟨rfl,ra,lr,_,rfl,rfl,tr,mD,by omega,by omega,by omega,by rw[E0,E,(Ip kQ xM k2).2]⟩
    ·go_wp2_with fail
     refine(iB (tl.below (aU _ _))).mono ?_;rintro e w1 ⟨rfl,rfl⟩
     go_wp2_with fail
     refine(KN px py (pos'-sz ll) xM (by omega) (by omega)).mono ?_;rintro e w1 ⟨rfl,bX⟩;have Ga:=bX.size;simp only[World.size_alloc]at Ga;have k0:w1.cell? ⟨w.heap.size,0,O⟩=M (I V 0):=(bX.cell (by simp)).trans (by simp);have k1:w1.cell? ⟨w.heap.size,1,O⟩=M (I V 0):=(bX.cell (by simp)).trans (by simp);have f0:w1.frozen? ⟨w.heap.size,0,O⟩=false:=(bX.frozen (by simp)).trans (by simp);have f1:w1.frozen? ⟨w.heap.size,1,O⟩=false:=(bX.frozen (by simp)).trans (by simp);have Xw:w.heap.size<w1.heap.size:=by omega
     go_wp2_with fail
     obtain⟨E0,E,-⟩:=HE.out;refine bodyPost_ret (v:= .agg #[I V (px+(pos'-sz ll)),I V (py-(pos'-sz ll))]) (by simp[results,Tryz.results158,go_sem,k0,k1,Xw]) rfl ⟨(px+(pos'-sz ll),py-(pos'-sz ll)),?_,rfl,?_⟩
     ·rw[E0,E];exact TS kQ (by omega) (by omega)
     ·have B1:=((bA (aU w _) bX).setCell (p:=⟨w.heap.size,0,O⟩) (Nat.le_refl _) (I V (px+(pos'-sz ll)))).setCell (p:=⟨w.heap.size,1,O⟩) (Nat.le_refl _) (I V (py-(pos'-sz ll)));exact bA B1 (bA (aU _ _) (aU _ _))
theorem Tryz.infoPiece:(Tryz.prog.info? 114).map (fun i=>(i.zero,i.size,i.bytes))=M (M (.agg #[I V 0,I V 0]),2,16):=by kernel_rfl
def Fv (l:List (Int×Int)):List Y:=l.flatMap fun p=> [I V p.1,I V p.2]
theorem Lj (a b:List (Int×Int)):Fv (a++b)=Fv a++Fv b:=by simp[Fv]
theorem rX (p:Int×Int)(b:List (Int×Int)):Fv (p::b)=I V p.1::I V p.2::Fv b:=rfl
theorem Ll (a:List (Int×Int)):(Fv a).length=a.length*2:=by
 induction a with
 |nil=>rfl
 |cons p a ih=>rw[rX];simp[ih];omega
theorem T.grown (cZ:w.ownsRow g 114 2 (Z (M ⟨g,0,O⟩) k cap) k xs)(hg:w.grownBy w' (M g))
 (t:T w a h l):T w' a h l:=by
 refine T.keep (fun b la ra p h' l' e=>?_) t;obtain⟨-,hx⟩:=cZ;rcases hx with⟨hv,-⟩|⟨g',Gd,aQ,hv,-,hh,-⟩
 ·cases hv
 ·cases hv
  have bS:b<w.heap.size:=by
   by_cases bS:b<w.heap.size
   ·exact bS
   ·rw[Array.getElem?_eq_none (by omega)]at e;cases e
  refine hg.block b bS (fun he=>?_);cases he
  rw[hh]at e;simp[jW]at e
theorem jJ {w2:F}{g:Option Nat}(h1:w.grownBy w1 g)(h2:w1.grownBy w2 g):w.grownBy w2 g:=
 ⟨h2.os.trans h1.os,h2.tape.trans h1.tape,h2.output.trans h1.output,Nat.le_trans h1.size h2.size,fun k hk hne=>(h2.block k (Nat.lt_of_lt_of_le hk h1.size) hne).trans (h1.block k hk hne)⟩
theorem yK (w:F)(o:Obj)(g:Option Nat):w.grownBy (w.alloc o) g:=
 ⟨rfl,rfl,rfl,by simp,fun k hk _=>Below.heap_alloc _ _ _ hk⟩
theorem Lm {o:Nat}{v:Y}(h:w.grownBy w1 (M g))(SI:b≠g)(hc:w.cell? ⟨b,o,O⟩=M v):w1.cell? ⟨b,o,O⟩=M v:=
 (World.cell?_of_block (w:=w) (h.block b (World.block_lt_of_cell? _ _ hc) (by simp;exact SI))).trans hc
def KO (n:Nat):Prop:=∀(w:F) (a:Option Addr) (h:Nat) (l:List (Int×Int)) (g k cap:Nat) (xs:List Y),h<=n->T w a h l->
 w.ownsRow g 114 2 (Z (M ⟨g,0,O⟩) k cap) k xs->k+l.length<=cap->
 H K 154 #[Z (M ⟨g,0,O⟩) k cap,U a] w fun e w'=>
  e=G (Z (M ⟨g,0,O⟩) (k+l.length) cap)/\w'.ownsRow g 114 2 (Z (M ⟨g,0,O⟩) (k+l.length) cap) (k+l.length) (xs++Fv l)/\w.grownBy w' (M g)
theorem KP (cZ:w.ownsRow g 114 2 (Z (M ⟨g,0,O⟩) k cap) k xs):
 H K 154 #[Z (M ⟨g,0,O⟩) k cap,U O] w fun e w'=>
  e=G (Z (M ⟨g,0,O⟩) (k+0) cap)/\w'.ownsRow g 114 2 (Z (M ⟨g,0,O⟩) (k+0) cap) (k+0) (xs++Fv [])/\w.grownBy w' (M g):=by
 go_enter Tryz.func154,Tryz.ntmps154
 go_wp2_with fail
 go_ret;exact⟨rfl,by simpa[Fv]using cZ,World.grownBy.refl _ _⟩
theorem TU {n:Nat}(ih:Hid (KO n)){la ra:Option Addr}{hl hr:Nat}{ll lr:List (Int×Int)}
 (hb:w.heap[b]?=M (jW la ra p h l))(tl:T w la hl ll)(tr:T w ra hr lr)(xO:hl<=n)(uY:hr<=n)
 (cZ:w.ownsRow g 114 2 (Z (M ⟨g,0,O⟩) k cap) k xs)(gG:k+ll.length+1+lr.length<=cap):
 H K 154 #[Z (M ⟨g,0,O⟩) k cap,U (M ⟨b,0,O⟩)] w fun e w'=>
  e=G (Z (M ⟨g,0,O⟩) (k+ll.length+1+lr.length) cap)/\w'.ownsRow g 114 2 (Z (M ⟨g,0,O⟩) (k+ll.length+1+lr.length) cap) (k+ll.length+1+lr.length) (xs++Fv ll++ [I V p.1,I V p.2]++Fv lr)/\w.grownBy w' (M g):=by
 obtain⟨i0,hi,uZ,wE,xZ⟩:=info_parts Tryz.infoPiece;obtain⟨c0,c1,c2,c3,-,-,-⟩:=dW hb;have bS:=World.block_lt_of_cell? _ _ c0
 have SI:b≠g:=by
  intro e;subst e;obtain⟨-,hx⟩:=cZ;rcases hx with⟨hv,-⟩|⟨g',Gd,aQ,hv,-,hh,-⟩
  ·cases hv
  ·cases hv;rw[hh]at hb;simp[jW]at hb
 clear hb;obtain⟨px,py⟩:=p;go_enter Tryz.func154,Tryz.ntmps154
 go_wp2_with fail
 refine(ih.out _ la hl ll g k cap xs xO tl cZ (by omega)).mono ?_;rintro e w1 ⟨rfl,TV,jH⟩;have kz:∀o,w1.cell? ⟨b,o,O⟩=w.cell? ⟨b,o,O⟩:=fun o=>World.cell?_of_block (w:=w) (jH.block b bS (by simp;exact SI))
 have I_:=(kz 1).trans c1;have c2':=(kz 2).trans c2;have c3':=(kz 3).trans c3;have Ga:=jH.size;have Xw:b<w1.heap.size:=by omega
 clear c0 c1 c2 c3 kz
 go_wp2_with (at_builtin;go_must (refine wpList_append_fits _ rfl (.tmp 14) (.tmp 19) 102 rfl g 114 i0 2 Tryz.underlying102 hi wE g (k+ll.length) cap _ rfl (TV.alloc _) ⟨w1.heap.size,0,O⟩ 1 1 [I V px,I V py] rfl rfl (cell_two_new _ _ _ _) (by simp[Value.oneCell']) (by omega) ?_);intro w2 KQ jA;have d1:=Lm (jJ (yK w1 _ _) jA) SI I_)
 refine(ih.out _ ra hr lr g (k+ll.length+1) cap _ uY (tr.grown cZ (jJ jH (jJ (yK _ _ _) jA))) KQ (by omega)).mono ?_;rintro e w3 ⟨rfl,hown3,jI⟩
 go_wp2_with fail
 go_ret;exact⟨rfl,hown3,jJ jH (jJ (yK _ _ _) (jJ jA jI))⟩
theorem TW:∀n,KO n:=by
 intro n
 induction n with
 |zero=>
  intro w a h l g k cap xs hn t cZ gG;have hl:=t.zero.1.1 (by omega);have ha:=t.zero.2.2 hl;subst hl;subst ha;exact KP cZ
 |succ n ih=>
  intro w a h l g k cap xs hn t cZ gG;rcases t.inv with⟨rfl,rfl,rfl⟩|⟨b,la,ra,p,hl,hr,ll,lr,rfl,hb,tl,tr,E,rfl,e1,e2⟩
  ·exact KP cZ
  ·have hlen:l.length=ll.length+(lr.length+1):=by rw[E];simp
   refine(TU ih hb tl tr (by omega) (by omega) cZ (by omega)).mono ?_;rintro e w' ⟨rfl,Ro,hg⟩;have e1:k+l.length=k+ll.length+1+lr.length:=by omega
   have e2:xs++Fv l=xs++Fv ll++ [I V p.1,I V p.2]++Fv lr:=by rw[E,Lj,rX];simp
   rw[e1,e2];exact⟨rfl,Ro,hg⟩
theorem Xx (t:T w a h l)(hlen:l.length<=9000):
 H K 97 #[U a] w fun e w'=>
  ∃g,e=G (Z (M ⟨g,0,O⟩) l.length l.length)/\w'.ownsRow g 114 2 (Z (M ⟨g,0,O⟩) l.length l.length) l.length (Fv l)/\w.heap.size<=g/\Below w.heap.size w w':=by
 obtain⟨i0,hi,uZ,wE,xZ⟩:=info_parts Tryz.infoPiece;go_enter Tryz.func97,Tryz.ntmps97
 go_wp2_with fail
 refine(rV t).mono ?_;rintro e w ⟨rfl,rfl⟩
 go_wp2_with (at_make;go_must (refine wpList_make_own _ rfl _ _ 102 rfl w.heap.size 114 i0 _ 2 Tryz.underlying102 hi uZ wE V V _ l.length rfl rfl rfl (by rw[xZ];omega) (by unfold maxLen;omega) (Nat.le_refl _) ?_);intro w1 TV jH)
 refine(TW h _ a h l w.heap.size 0 l.length [] (Nat.le_refl _) (t.below ⟨jH.os,jH.tape,jH.output,jH.size,fun k hk=>jH.block k hk (by simp)⟩) TV (by omega)).mono ?_;rintro e w2 ⟨rfl,KQ,jA⟩
 go_wp2_with fail
 go_ret;simp only[Nat.zero_add,List.nil_append]at KQ ⊢;refine⟨w.heap.size,rfl,KQ,Nat.le_refl _,?_⟩;exact⟨jA.os.trans jH.os,jA.tape.trans jH.tape,jA.output.trans jH.output,Nat.le_trans jH.size jA.size,fun k hk=>(jA.block k (Nat.lt_of_lt_of_le hk jH.size) (by simp;omega)).trans (jH.block k hk (by simp))⟩
def xP (root:Option Addr):Obj:=C #[U root] 160 (0,0)
def bN (w:F)(tb:Nat)(l:List (Int×Int)):Prop:=∃root h,w.heap[tb]?=M (xP root)/\T w root h l/\dX l/\l.length<=4096
theorem rJ (h:w.heap[tb]?=M (xP root)):w.cell? ⟨tb,0,O⟩=M (U root)/\w.frozen? ⟨tb,0,O⟩=false:=by
 simp[World.cell?,World.frozen?,h,xP]
theorem aL {o:Obj}(e:w.heap[b]?=M o):b<w.heap.size:=by
 by_cases bS:b<w.heap.size
 ·exact bS
 ·rw[Array.getElem?_eq_none (by omega)]at e;cases e
theorem bN.lt (t:bN w tb l):tb<w.heap.size:=by
 obtain⟨r,h,hb,-⟩:=t;exact aL hb
theorem bN.keep (t:bN w tb l)(hk:∀b c,w.heap[b]?=M c->(∃r,c=xP r)/\b=tb\/(∃la ra p h l,c=jW la ra p h l)->w'.heap[b]?=w.heap[b]?):bN w' tb l:=by
 obtain⟨r,h,hb,ht,hr⟩:=t;exact⟨r,h,(hk tb _ hb (Or.inl ⟨⟨r,rfl⟩,rfl⟩)).trans hb,T.keep (fun b la ra p h l e=>hk b _ e (Or.inr ⟨la,ra,p,h,l,rfl⟩)) ht,hr⟩
theorem bN.below (t:bN w tb l)(hB:Below w.heap.size w w'):bN w' tb l:=
 t.keep fun b _ e _=>hB.block b (aL e)
theorem mg (w:F):H K 62 #[] w fun e w'=>e=G (U (M ⟨w.heap.size,0,O⟩))/\w'=w.alloc (xP O):=by
 go_enter Tryz.func62,Tryz.ntmps62
 go_wp2
 go_ret;exact⟨rfl,rfl⟩
theorem TY (w:F):bN (w.alloc (xP O)) w.heap.size []:=
 ⟨O,0,by show(w.heap.push _)[w.heap.size]?=_;rw[Array.getElem?_push,if_pos rfl],T.nil _,qN,by simp⟩
theorem jQ (t:bN w tb l):H K 92 #[U (M ⟨tb,0,O⟩)] w fun e w'=>e=G (I V (sz l))/\w'=w:=by
 obtain⟨r,h,hb,ht,-⟩:=t;obtain⟨c0,-⟩:=rJ hb;clear hb;go_enter Tryz.func92,Tryz.ntmps92
 go_wp2_with fail
 refine(iB ht).mono ?_;rintro e w ⟨rfl,rfl⟩
 go_wp2_with fail
 go_ret;exact⟨rfl,rfl⟩
theorem Xy (t:bN w tb l):H K 64 #[U (M ⟨tb,0,O⟩)] w fun e w'=>
 ∃g,e=G (Z (M ⟨g,0,O⟩) l.length l.length)/\w'.ownsRow g 114 2 (Z (M ⟨g,0,O⟩) l.length l.length) l.length (Fv l)/\w.heap.size<=g/\Below w.heap.size w w':=by
 obtain⟨r,h,hb,ht,-,hlen⟩:=t;obtain⟨c0,-⟩:=rJ hb;clear hb;go_enter Tryz.func64,Tryz.ntmps64
 go_wp2_with fail
 refine(Xx ht (by omega)).mono ?_;rintro e w1 ⟨g,rfl,cZ,hg,hB⟩
 go_wp2_with fail
 go_ret;exact⟨g,rfl,cZ,hg,hB⟩
def Xz (x y:Int):Prop:=1<=y/\y<=5000/\0<=x/\x<=1000000000
theorem KR (h:Xz x y):jU (x,y):=by unfold Xz at h;unfold jU;simp only;omega
theorem mh (h:Xz x y):H K 93 #[.agg #[I V x,I V y]] w fun e w'=>e=G (.bool true)/\Below w.heap.size w w':=by
 obtain⟨h1,h2,h3,h4⟩:=h;go_enter Tryz.func93,Tryz.ntmps93
 go_wp2
 go_ret;exact⟨by simp[*],aU _ _⟩
theorem may_no (h:¬Xz x y):H K 93 #[.agg #[I V x,I V y]] w fun e w'=>e=G (.bool false)/\Below w.heap.size w w':=by
 unfold Xz at h;by_cases h1:1<=y
 ·by_cases h2:y<=5000
  ·by_cases h3:0<=x
   ·have h4:¬x<=1000000000:=by omega
    go_enter Tryz.func93,Tryz.ntmps93
    go_wp2
    go_ret;exact⟨by simp[*],aU _ _⟩
   ·go_enter Tryz.func93,Tryz.ntmps93
    go_wp2
    go_ret;exact⟨by simp[*],aU _ _⟩
  ·go_enter Tryz.func93,Tryz.ntmps93
   go_wp2
   go_ret;exact⟨by simp[*],aU _ _⟩
 ·go_enter Tryz.func93,Tryz.ntmps93
  go_wp2
  go_ret;exact⟨by simp[*],aU _ _⟩
theorem iD (h:Below w.heap.size w w1)(g:Option Nat):w.grownBy w1 g:=⟨h.os,h.tape,h.output,h.size,fun k hk _=>h.block k hk⟩
theorem Rp (h:Below w.heap.size w w1)(tb i:Nat)(v:Y):w.grownBy (w1.setCell ⟨tb,i,O⟩ v) (M tb):=
 ⟨h.os,h.tape,h.output,by simpa[World.setCell]using h.size,fun k hk hne=>(Below.heap_setCell _ _ _ _ (by intro e;exact hne (by rw[e]))).trans (h.block k hk)⟩
theorem Iq (t:T w root h l)(hlen:4096<l.length):
 H K 95 #[U (M ⟨tb,0,O⟩),U root] w fun e w'=>e=G (I V 13)/\w'=w:=by
 have h1:((4096:Int)<(l.length:Int)):=by omega
 go_enter Tryz.func95,Tryz.ntmps95
 go_wp2_with fail
 refine(rV t).mono ?_;rintro e w ⟨rfl,rfl⟩
 go_wp2_with fail
 go_ret;exact⟨rfl,rfl⟩
theorem Ya {r:Option Addr}(hb:w.heap[tb]?=M (xP r))(t:T w root h l)(ok:dX l)(hlen:l.length<=4096):
 bN (w.setCell ⟨tb,0,O⟩ (U root)) tb l:=by
 refine⟨root,h,?_,T.Ui (by simp[World.cell?,hb,xP]) t,ok,hlen⟩;exact one_setCell hb
theorem Rq {r:Option Addr}(hb:w.heap[tb]?=M (xP r))(t:T w root h l)(hlen:l.length<=4096):
 H K 95 #[U (M ⟨tb,0,O⟩),U root] w fun e w'=>e=G (I V 0)/\w'=w.setCell ⟨tb,0,O⟩ (U root):=by
 have h1:¬((4096:Int)<(l.length:Int)):=by omega
 obtain⟨c0,f0⟩:=rJ hb;clear hb;go_enter Tryz.func95,Tryz.ntmps95
 go_wp2_with fail
 refine(rV t).mono ?_;rintro e w ⟨rfl,rfl⟩
 go_wp2_with fail
 go_ret;exact⟨rfl,rfl⟩
theorem ET (t:bN w tb l)(hp:pos<0\/sz l<pos):
 H K 63 #[U (M ⟨tb,0,O⟩),I V pos,.agg #[I V x,I V y]] w fun e w'=>e=G (I V 5)/\Below w.heap.size w w':=by
 by_cases h0:pos<0
 ·go_enter Tryz.func63,Tryz.ntmps63
  go_wp2_with fail
  go_ret;exact⟨rfl,aU _ _⟩
 ·have h1:sz l<pos:=by omega
  go_enter Tryz.func63,Tryz.ntmps63
  go_wp2_with fail
  refine(jQ (t.below (aU _ _))).mono ?_;rintro e w1 ⟨rfl,rfl⟩
  go_wp2_with fail
  go_ret;exact⟨rfl,aU _ _⟩
theorem EU (t:bN w tb l)(h0:0<=pos)(h1:pos<=sz l)(hm:¬Xz x y):
 H K 63 #[U (M ⟨tb,0,O⟩),I V pos,.agg #[I V x,I V y]] w fun e w'=>e=G (I V 1)/\Below w.heap.size w w':=by
 go_enter Tryz.func63,Tryz.ntmps63
 go_wp2_with fail
 refine(jQ (t.below (aU _ _))).mono ?_;rintro e w1 ⟨rfl,rfl⟩
 go_wp2_with fail
 refine(may_no hm).mono ?_;rintro e w1 ⟨rfl,bX⟩
 go_wp2_with fail
 go_ret;exact⟨rfl,bA (aU _ _) bX⟩
def Yb (l:List (Int×Int))(pos:Int)(p:Int×Int):List (Int×Int):=cB l pos++p::bH l pos
theorem OE (t:bN w tb l)(h0:0<=pos)(h1:pos<=sz l)(hm:Xz x y):
 H K 63 #[U (M ⟨tb,0,O⟩),I V pos,.agg #[I V x,I V y]] w fun e w'=>
  (4096<(Yb l pos (x,y)).length/\e=G (I V 13)/\Below w.heap.size w w')
  \/((Yb l pos (x,y)).length<=4096/\e=G (I V 0)/\bN w' tb (Yb l pos (x,y))/\w.grownBy w' (M tb)):=by
 obtain⟨r,h,hb,ht,ok,hlen⟩:=id t;obtain⟨c0,-⟩:=rJ hb;have bS:=aL hb;have bl:=pJ ok;have hln:=kT l pos;have okh:=rG ok pos;have Ql:=iA ok pos;go_enter Tryz.func63,Tryz.ntmps63
 go_wp2_with fail
 refine(jQ (t.below (aU _ _))).mono ?_;rintro e w1 ⟨rfl,rfl⟩
 go_wp2_with fail
 refine(mh hm).mono ?_;rintro e w1 ⟨rfl,bX⟩;have c1:=cell_later (bA (aU _ _) bX) c0
 go_wp2_with fail
 refine(Gc (ht.below (bA (aU _ _) bX)) (by omega) ok (by omega)).mono ?_;rintro e w2 ⟨r1,g1,r2,g2,rfl,t1,t2,fG⟩;have k0:w2.cell? ⟨w.heap.size,0,O⟩=M (I V x):=cell_later (bA bX fG) (by simp);have k1:w2.cell? ⟨w.heap.size,1,O⟩=M (I V y):=cell_later (bA bX fG) (by simp)
 go_wp2_with fail
 refine(rW x y t1 t2 (by omega) okh Ql (KR hm)).mono ?_;rintro e w3 ⟨q,hq,rfl,tq,Bj⟩;have B3:Below w.heap.size w w3:=bA (bA (aU _ _) bX) (bA fG Bj);have mF:w3.heap[tb]?=M (xP r):=(B3.block tb bS).trans hb
 go_wp2_with fail
 by_cases hf:4096<(Yb l pos (x,y)).length
 ·refine(Iq tq hf).mono ?_;rintro e w3 ⟨rfl,rfl⟩
  go_wp2_with fail
  go_ret;exact Or.inl ⟨hf,rfl,B3⟩
 ·refine(Rq mF tq (Nat.le_of_not_lt hf)).mono ?_;rintro e w4 ⟨rfl,rfl⟩
  go_wp2_with fail
  go_ret;exact Or.inr ⟨by omega,rfl,Ya mF tq (fM okh (jO (KR hm) Ql)) (Nat.le_of_not_lt hf),Rp B3 _ _ _⟩
theorem EW (t:bN w tb l)(uY:n<=9223372036854775807)(L_:pos<=9223372036854775807)(hp:n<0\/pos<0\/sz l<pos\/sz l-pos<n):
 H K 101 #[U (M ⟨tb,0,O⟩),I V pos,I V n] w fun e w'=>e=G (.tuple #[Z O 0 0,I V 5])/\w'=w:=by
 obtain⟨r,h,hb,ht,ok,hlen⟩:=id t;have bl:=pJ ok;clear hb ht ok;by_cases h1:n<0
 ·go_enter Tryz.func101,Tryz.ntmps101
  go_wp2_with fail
  refine(jQ t).mono ?_;rintro e w ⟨rfl,rfl⟩
  go_wp2_with fail
  go_ret2;exact⟨rfl,rfl⟩
 ·by_cases h2:pos<0
  ·go_enter Tryz.func101,Tryz.ntmps101
   go_wp2_with fail
   refine(jQ t).mono ?_;rintro e w ⟨rfl,rfl⟩
   go_wp2_with fail
   go_ret2;exact⟨rfl,rfl⟩
  ·by_cases h3:sz l<pos
   ·go_enter Tryz.func101,Tryz.ntmps101
    go_wp2_with fail
    refine(jQ t).mono ?_;rintro e w ⟨rfl,rfl⟩
    go_wp2_with fail
    go_ret2;exact⟨rfl,rfl⟩
   ·have h4:sz l-pos<n:=by omega
    go_enter Tryz.func101,Tryz.ntmps101
    go_wp2_with fail
    refine(jQ t).mono ?_;rintro e w ⟨rfl,rfl⟩
    go_wp2_with fail
    go_ret2;exact⟨rfl,rfl⟩
theorem Yc (t:bN w tb l)(h0:0<=pos)(h1:pos<=sz l):
 H K 101 #[U (M ⟨tb,0,O⟩),I V pos,I V 0] w fun e w'=>e=G (.tuple #[Z O 0 0,I V 0])/\w'=w:=by
 obtain⟨r,h,hb,ht,ok,hlen⟩:=id t;have bl:=pJ ok;clear hb ht ok;go_enter Tryz.func101,Tryz.ntmps101
 go_wp2_with fail
 refine(jQ t).mono ?_;rintro e w ⟨rfl,rfl⟩
 go_wp2_with fail
 go_ret2;exact⟨rfl,rfl⟩
def Gf (l:List (Int×Int))(pos n:Int):List (Int×Int):=cB l pos++bH (bH l pos) n
def tK (l:List (Int×Int))(pos n:Int):List (Int×Int):=cB (bH l pos) n
theorem OG (t:bN w tb l)(h0:0<=pos)(h1:pos<=sz l)(h2:0<n)(h3:n<=sz l-pos):
 H K 101 #[U (M ⟨tb,0,O⟩),I V pos,I V n] w fun e w'=>
  (4096<(Gf l pos n).length/\e=G (.tuple #[Z O 0 0,I V 13])/\Below w.heap.size w w')
  \/((Gf l pos n).length<=4096/\∃g,e=G (.tuple #[Z (M ⟨g,0,O⟩) (tK l pos n).length (tK l pos n).length,I V 0])
   /\w'.ownsRow g 114 2 (Z (M ⟨g,0,O⟩) (tK l pos n).length (tK l pos n).length) (tK l pos n).length (Fv (tK l pos n))/\w.heap.size<=g
   /\bN w' tb (Gf l pos n)/\w.grownBy w' (M tb)):=by
 obtain⟨r,h,hb,ht,ok,hlen⟩:=id t;obtain⟨c0,-⟩:=rJ hb;have bS:=aL hb;have bl:=pJ ok;have hln:=kT l pos;have hln2:=kT (bH l pos) n;have okh:=rG ok pos;have Ql:=iA ok pos;have okb:=iA Ql n;have hn:(n==0)=false:=by simp;omega
 have hn':¬n<0:=by omega
 have hp':¬pos<0:=by omega
 go_enter Tryz.func101,Tryz.ntmps101
 go_wp2_with fail
 refine(jQ t).mono ?_;rintro e w ⟨rfl,rfl⟩
 go_wp2_with fail
 refine(Gc ht (by omega) ok (by omega)).mono ?_;rintro e w1 ⟨r1,g1,r2,g2,rfl,t1,t2,bX⟩
 go_wp2_with fail
 refine(Gc t2 (by omega) Ql (by omega)).mono ?_;rintro e w2 ⟨r3,g3,r4,g4,rfl,t3,t4,fG⟩
 go_wp2_with fail
 refine(ER (t1.below fG) t4 (by omega) okh okb).mono ?_;rintro e w3 ⟨q,hq,rfl,tq,Bj⟩;have B3:Below w.heap.size w w3:=bA bX (bA fG Bj);have mF:w3.heap[tb]?=M (xP r):=(B3.block tb bS).trans hb
 go_wp2_with fail
 by_cases hf:4096<(Gf l pos n).length
 ·refine(Iq tq hf).mono ?_;rintro e w3 ⟨rfl,rfl⟩
  go_wp2_with fail
  go_ret2;exact Or.inl ⟨hf,rfl,B3⟩
 ·refine(Rq mF tq (Nat.le_of_not_lt hf)).mono ?_;rintro e w4 ⟨rfl,rfl⟩;have t4':=Ya mF tq (fM okh okb) (Nat.le_of_not_lt hf);have tg:T (w3.setCell ⟨tb,0,O⟩ (U q)) r3 g3 (cB (bH l pos) n):=T.Ui (by simp[World.cell?,mF,xP]) (t3.below Bj);have G4:=Rp B3 tb 0 (U q)
  go_wp2_with fail
  refine(Xx tg (by omega)).mono ?_;rintro e w5 ⟨g,rfl,cZ,hg,Qa⟩
  go_wp2_with fail
  go_ret2;refine Or.inr ⟨by omega,g,rfl,cZ,?_,t4'.below Qa,jJ G4 (iD Qa _)⟩;have:=B3.size;simp only[World.setCell,Array.size_modify]at hg;omega
theorem mo (t:bN w tb l)(hp:pos<0\/sz l<=pos):
 H K 104 #[U (M ⟨tb,0,O⟩),I V pos] w fun e w'=>e=G (.tuple #[.agg #[I V 0,I V 0],I V 5])/\Below w.heap.size w w':=by
 by_cases h0:pos<0
 ·go_enter Tryz.func104,Tryz.ntmps104
  go_wp2_with fail
  exact bodyPost_ret (v:= .tuple #[.agg #[I V 0,I V 0],I V 5]) (by simp[results,Tryz.results104,go_sem]) rfl ⟨rfl,aU _ _⟩
 ·have h1:sz l<=pos:=by omega
  go_enter Tryz.func104,Tryz.ntmps104
  go_wp2_with fail
  refine(jQ (t.below (aU _ _))).mono ?_;rintro e w1 ⟨rfl,rfl⟩
  go_wp2_with fail
  exact bodyPost_ret (v:= .tuple #[.agg #[I V 0,I V 0],I V 5]) (by simp[results,Tryz.results104,go_sem]) rfl ⟨rfl,aU _ _⟩
theorem UA (t:bN w tb l)(h0:0<=pos)(h1:pos<sz l):
 H K 104 #[U (M ⟨tb,0,O⟩),I V pos] w fun e w'=>
  ∃q:Int×Int,(bH l pos).head?=M q/\e=G (.tuple #[.agg #[I V q.1,I V q.2],I V 0])/\Below w.heap.size w w':=by
 obtain⟨r,h,hb,ht,ok,hlen⟩:=id t;obtain⟨c0,-⟩:=rJ hb;have bS:=aL hb;clear hb;go_enter Tryz.func104,Tryz.ntmps104
 go_wp2_with fail
 refine(jQ (t.below (aU _ _))).mono ?_;rintro e w1 ⟨rfl,rfl⟩
 go_wp2_with fail
 refine(TT (ht.below (aU _ _)) (by omega) ok h0 h1).mono ?_;rintro e w1 ⟨⟨qx,qy⟩,E,rfl,bX⟩;have HE:Hid ((bH l pos).head?=M (qx,qy)):=E;clear E;have k0:w1.cell? ⟨w.heap.size,0,O⟩=M (I V 0):=(bX.cell (by simp)).trans (by simp);have k1:w1.cell? ⟨w.heap.size,1,O⟩=M (I V 0):=(bX.cell (by simp)).trans (by simp);have f0:w1.frozen? ⟨w.heap.size,0,O⟩=false:=(bX.frozen (by simp)).trans (by simp);have f1:w1.frozen? ⟨w.heap.size,1,O⟩=false:=(bX.frozen (by simp)).trans (by simp)
 go_wp2_with fail
 refine bodyPost_ret (v:= .tuple #[.agg #[I V qx,I V qy],I V 0]) (by simp[results,Tryz.results104,go_sem,k0,k1]) rfl ⟨(qx,qy),HE.out,rfl,?_⟩;exact((bA (aU w _) bX).setCell (p:=⟨w.heap.size,0,O⟩) (Nat.le_refl _) _).setCell (p:=⟨w.heap.size,1,O⟩) (Nat.le_refl _) _
theorem KS {c:Int}(h0:0<=c)(hn:1<=n):0<=c.tmod n/\c.tmod n<n:=⟨Int.tmod_nonneg n h0,Int.tmod_lt_of_pos c (by omega)⟩
theorem Yd {c:Int}(Da: -9223372036854775808<=c)(Qk:c<=9223372036854775807)(hn:1<=n)(uY:n<=9223372036854775807):
 H K 15 #[I V c,I V n] w fun e w'=> ∃r:Int,e=G (I V r)/\0<=r/\r<n/\w'=w:=by
 by_cases h0:c<0
 ·have Uj:(n==0)=false:=by simp;omega
  go_enter Tryz.func15,Tryz.ntmps15
  go_wp2
  go_ret;refine⟨_,rfl,?_,?_,rfl⟩
  ·rw[<-Int.neg_tmod];exact(KS (by omega) hn).1
  ·rw[<-Int.neg_tmod];exact(KS (by omega) hn).2
 ·have Uj:(n==0)=false:=by simp;omega
  go_enter Tryz.func15,Tryz.ntmps15
  go_wp2
  go_ret;refine⟨_,rfl,?_,?_,rfl⟩
  ·exact Int.emod_nonneg _ (by omega)
  ·exact Int.emod_lt_of_pos _ (by omega)
def Xg (w:F)(ao:Option Addr)(zs:List Int):Prop:=zs=[]\/∃b off,ao=M ⟨b,off,O⟩/\∀i,i<zs.length->w.cell? ⟨b,off+i,O⟩=M (I V (zs.getD i 0))
theorem Tryz.infoInt:(Tryz.prog.info? 3).map (fun i=>(i.zero,i.size,i.bytes))=M (M (I V 0),1,8):=by kernel_rfl
def Jz (w:F)(ao:Option Addr)(l:List (Int×Int)):Prop:=l=[]\/∃b off,ao=M ⟨b,off,O⟩/\∀i,i<l.length->
 w.cell? ⟨b,off+i*2,O⟩=M (I V (l.getD i (0,0)).1)/\w.cell? ⟨b,off+i*2+1,O⟩=M (I V (l.getD i (0,0)).2)
def nM (w:F)(B:Nat)(v:Y)(zs:List Int):Prop:=w.ownsRow B 3 1 v zs.length (zs.map (Value.int V))
theorem Uk (l:List (Int×Int))(i:Nat)(h:i<l.length):(Fv l)[i*2]?=M (I V (l.getD i (0,0)).1)/\(Fv l)[i*2+1]?=M (I V (l.getD i (0,0)).2):=by
 induction l generalizing i with
 |nil=>simp at h
 |cons p l ih=>
  cases i with
  |zero=>simp[rX]
  |succ i=>
   have:=ih i (by simpa using h);rw[rX,show(i+1)*2=i*2+1+1 from by omega];simpa using this
theorem Jz.own {B:Nat}{n c:Nat}(h:w.ownsRow B 114 2 (Z (M ⟨g,0,O⟩) n c) n (Fv l)):Jz w (M ⟨g,0,O⟩) l:=by
 refine Or.inr ⟨g,0,rfl,fun i hi=>?_⟩;obtain⟨h1,h2⟩:=Uk l i hi;have e1:=h.cells rfl _ _ h1;have e2:=h.cells rfl _ _ h2;simp only[Nat.zero_add];refine⟨?_,?_⟩
 ·cases i with
  |zero=>simpa[Addr.add]using e1
  |succ i=>simpa[Addr.add]using e1
 ·simpa[Addr.add]using e2
theorem Jz.below {ao:Option Addr}(h:Jz w ao l)(hB:Below w.heap.size w w'):Jz w' ao l:=by
 rcases h with rfl|⟨b,off,rfl,hc⟩
 ·left;rfl
 ·exact Or.inr ⟨b,off,rfl,fun i hi=>⟨cell_later hB (hc i hi).1,cell_later hB (hc i hi).2⟩⟩
end Go.Proofs.YtfplgfodoiiobaaGreatDoor
