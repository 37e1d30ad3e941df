/- Walk10, Walk11, Walk12, HeldA, HeldB, HeldC, TreesA, TreesB, TreesC (joined). -/
import Derived.BigQuiet
import Derived.Deep.Draws
import Derived.Deep.QuietTactic
import Derived.Laws.AppendOwnNone
import Derived.Test.YtfplgfodoiiobaaGreatDoorJ02
open Option renaming none→O,some→M
open Go.Value renaming int→I,slice→Z,pointer→U
open Go.IntKind renaming i64→V
open Go.Obj renaming cells→C
open Go.Ending renaming returned→G
open Go renaming World→F,Value→Y,Calls→H
open Go.Proofs.Tryz renaming prog→K
namespace Go.Proofs.YtfplgfodoiiobaaGreatDoor
set_option maxHeartbeats 2000000
set_option maxRecDepth 100000
open Go.RowKit
variable {w w' w1:F}{l:List (Int×Int)}{tb B k h la ca:Nat}{ao root:Option Addr}{zs:List Int}{pos x y n:Int}{v:Y}
def xI (root:Option Addr):Obj:=C #[U root] 160 (0,0)
def dD (w:F)(tb:Nat)(l:List (Int×Int)):Prop:=∃root h,w.heap[tb]?=M (xI root)/\T w root h l/\fG l/\l.length<=4096
theorem uZ (h:w.heap[tb]?=M (xI root)):w.cell? ⟨tb,0,O⟩=M (U root)/\w.frozen? ⟨tb,0,O⟩=false:=by
 simp[World.cell?,World.frozen?,h,xI]
theorem aM {b:Nat}{o:Obj}(e:w.heap[b]?=M o):b<w.heap.size:=by
 by_cases bT:b<w.heap.size
 ·exact bT
 ·rw[Array.getElem?_eq_none (by omega)]at e;cases e
theorem dD.lt (t:dD w tb l):tb<w.heap.size:=by
 obtain⟨r,h,hb,-⟩:=t;exact aM hb
theorem dD.keep (t:dD w tb l)(hk:∀b c,w.heap[b]?=M c->(∃r,c=xI r)/\b=tb\/(∃la ra p h l,c=mG la ra p h l)->w'.heap[b]?=w.heap[b]?):dD w' tb l:=by
 obtain⟨r,h,hb,ht,hr⟩:=t;exact⟨r,h,(hk tb _ hb (Or.inl ⟨⟨r,rfl⟩,rfl⟩)).trans hb,T.keep (fun b la ra p h l e=>hk b _ e (Or.inr ⟨la,ra,p,h,l,rfl⟩)) ht,hr⟩
theorem dD.below (t:dD w tb l)(hB:Below w.heap.size w w'):dD w' tb l:=
 t.keep fun b _ e _=>hB.block b (aM e)
theorem PX (w:F):H K 62 #[] w fun e w'=>e=G (U (M ⟨w.heap.size,0,O⟩))/\w'=w.alloc (xI O):=by
 go_enter Tryz.func62,Tryz.ntmps62
 go_wp2
 go_ret;exact⟨rfl,rfl⟩
theorem DF (w:F):dD (w.alloc (xI O)) w.heap.size []:=
 ⟨O,0,by show(w.heap.push _)[w.heap.size]?=_;rw[Array.getElem?_push,if_pos rfl],T.nil _,uJ,by simp⟩
theorem lU (t:dD w tb l):H K 92 #[U (M ⟨tb,0,O⟩)] w fun e w'=>e=G (I V (sz l))/\w'=w:=by
 obtain⟨r,h,hb,ht,-⟩:=t;obtain⟨c0,-⟩:=uZ hb;clear hb;go_enter Tryz.func92,Tryz.ntmps92
 go_wp2_with fail
 refine(jR ht).mono ?_;rintro e w ⟨rfl,rfl⟩
 go_wp2_with fail
 go_ret;exact⟨rfl,rfl⟩
theorem DI (t:dD w tb l):H K 64 #[U (M ⟨tb,0,O⟩)] w fun e w'=>
 ∃g,e=G (Z (M ⟨g,0,O⟩) l.length l.length)/\w'.ownsRow g 114 2 (Z (M ⟨g,0,O⟩) l.length l.length) l.length (Fu l)/\w.heap.size<=g/\Below w.heap.size w w':=by
 obtain⟨r,h,hb,ht,-,hlen⟩:=t;obtain⟨c0,-⟩:=uZ hb;clear hb;go_enter Tryz.func64,Tryz.ntmps64
 go_wp2_with fail
 refine(DC ht (by omega)).mono ?_;rintro e w1 ⟨g,rfl,bA,hg,hB⟩
 go_wp2_with fail
 go_ret;exact⟨g,rfl,bA,hg,hB⟩
def DJ (x y:Int):Prop:=1<=y/\y<=5000/\0<=x/\x<=1000000000
theorem PY (h:DJ x y):lX (x,y):=by unfold DJ at h;unfold lX;simp only;omega
theorem T_ (h:DJ x y):H K 93 #[.agg #[I V x,I V y]] w fun e w'=>e=G (.bool true)/\Below w.heap.size w w':=by
 obtain⟨h1,h2,h3,h4⟩:=h;go_enter Tryz.func93,Tryz.ntmps93
 go_wp2
 go_ret;exact⟨by simp[*],aO _ _⟩
theorem may_no (h:¬DJ x y):H K 93 #[.agg #[I V x,I V y]] w fun e w'=>e=G (.bool false)/\Below w.heap.size w w':=by
 unfold DJ at h;by_cases h1:1<=y
 ·by_cases h2:y<=5000
  ·by_cases h3:0<=x
   ·have h4:¬x<=1000000000:=by omega
    go_enter Tryz.func93,Tryz.ntmps93
    go_wp2
    go_ret;exact⟨by simp[*],aO _ _⟩
   ·go_enter Tryz.func93,Tryz.ntmps93
    go_wp2
    go_ret;exact⟨by simp[*],aO _ _⟩
  ·go_enter Tryz.func93,Tryz.ntmps93
   go_wp2
   go_ret;exact⟨by simp[*],aO _ _⟩
 ·go_enter Tryz.func93,Tryz.ntmps93
  go_wp2
  go_ret;exact⟨by simp[*],aO _ _⟩
theorem jU (h:Below w.heap.size w w1)(g:Option Nat):w.grownBy w1 g:=⟨h.os,h.tape,h.output,h.size,fun k hk _=>h.block k hk⟩
theorem Vu (h:Below w.heap.size w w1)(tb i:Nat)(v:Y):w.grownBy (w1.setCell ⟨tb,i,O⟩ v) (M tb):=
 ⟨h.os,h.tape,h.output,by simpa[World.setCell]using h.size,fun k hk hne=>(Below.heap_setCell _ _ _ _ (by intro e;exact hne (by rw[e]))).trans (h.block k hk)⟩
theorem Mv (t:T w root h l)(hlen:4096<l.length):
 H K 95 #[U (M ⟨tb,0,O⟩),U root] w fun e w'=>e=G (I V 13)/\w'=w:=by
 have h1:((4096:Int)<(l.length:Int)):=by omega
 go_enter Tryz.func95,Tryz.ntmps95
 go_wp2_with fail
 refine(vN t).mono ?_;rintro e w ⟨rfl,rfl⟩
 go_wp2_with fail
 go_ret;exact⟨rfl,rfl⟩
theorem DK {r:Option Addr}(hb:w.heap[tb]?=M (xI r))(t:T w root h l)(ok:fG l)(hlen:l.length<=4096):
 dD (w.setCell ⟨tb,0,O⟩ (U root)) tb l:=by
 refine⟨root,h,?_,T.Yo (by simp[World.cell?,hb,xI]) t,ok,hlen⟩;exact one_setCell hb
theorem Vv {r:Option Addr}(hb:w.heap[tb]?=M (xI r))(t:T w root h l)(hlen:l.length<=4096):
 H K 95 #[U (M ⟨tb,0,O⟩),U root] w fun e w'=>e=G (I V 0)/\w'=w.setCell ⟨tb,0,O⟩ (U root):=by
 have h1:¬((4096:Int)<(l.length:Int)):=by omega
 obtain⟨c0,f0⟩:=uZ hb;clear hb;go_enter Tryz.func95,Tryz.ntmps95
 go_wp2_with fail
 refine(vN t).mono ?_;rintro e w ⟨rfl,rfl⟩
 go_wp2_with fail
 go_ret;exact⟨rfl,rfl⟩
theorem LC (t:dD w tb l)(hp:pos<0\/sz l<pos):
 H K 63 #[U (M ⟨tb,0,O⟩),I V pos,.agg #[I V x,I V y]] w fun e w'=>e=G (I V 5)/\Below w.heap.size w w':=by
 by_cases h0:pos<0
 ·go_enter Tryz.func63,Tryz.ntmps63
  go_wp2_with fail
  go_ret;exact⟨rfl,aO _ _⟩
 ·have h1:sz l<pos:=by omega
  go_enter Tryz.func63,Tryz.ntmps63
  go_wp2_with fail
  refine(lU (t.below (aO _ _))).mono ?_;rintro e w1 ⟨rfl,rfl⟩
  go_wp2_with fail
  go_ret;exact⟨rfl,aO _ _⟩
theorem LD (t:dD w tb l)(h0:0<=pos)(h1:pos<=sz l)(hm:¬DJ x y):
 H K 63 #[U (M ⟨tb,0,O⟩),I V pos,.agg #[I V x,I V y]] w fun e w'=>e=G (I V 1)/\Below w.heap.size w w':=by
 go_enter Tryz.func63,Tryz.ntmps63
 go_wp2_with fail
 refine(lU (t.below (aO _ _))).mono ?_;rintro e w1 ⟨rfl,rfl⟩
 go_wp2_with fail
 refine(may_no hm).mono ?_;rintro e w1 ⟨rfl,fC⟩
 go_wp2_with fail
 go_ret;exact⟨rfl,aQ (aO _ _) fC⟩
def DL (l:List (Int×Int))(pos:Int)(p:Int×Int):List (Int×Int):=dS l pos++p::bU l pos
theorem TD (t:dD w tb l)(h0:0<=pos)(h1:pos<=sz l)(hm:DJ x y):
 H K 63 #[U (M ⟨tb,0,O⟩),I V pos,.agg #[I V x,I V y]] w fun e w'=>
  (4096<(DL l pos (x,y)).length/\e=G (I V 13)/\Below w.heap.size w w')
  \/((DL l pos (x,y)).length<=4096/\e=G (I V 0)/\dD w' tb (DL l pos (x,y))/\w.grownBy w' (M tb)):=by
 obtain⟨r,h,hb,ht,ok,hlen⟩:=id t;obtain⟨c0,-⟩:=uZ hb;have bT:=aM hb;have bl:=lD ok;have hln:=pK l pos;have okh:=uX ok pos;have CB:=kG ok pos;go_enter Tryz.func63,Tryz.ntmps63
 go_wp2_with fail
 refine(lU (t.below (aO _ _))).mono ?_;rintro e w1 ⟨rfl,rfl⟩
 go_wp2_with fail
 refine(T_ hm).mono ?_;rintro e w1 ⟨rfl,fC⟩;have c1:=cell_later (aQ (aO _ _) fC) c0
 go_wp2_with fail
 refine(Kq (ht.below (aQ (aO _ _) fC)) (by omega) ok (by omega)).mono ?_;rintro e w2 ⟨r1,g1,r2,g2,rfl,t1,t2,gG⟩;have k0:w2.cell? ⟨w.heap.size,0,O⟩=M (I V x):=cell_later (aQ fC gG) (by simp);have k1:w2.cell? ⟨w.heap.size,1,O⟩=M (I V y):=cell_later (aQ fC gG) (by simp)
 go_wp2_with fail
 refine(vO x y t1 t2 (by omega) okh CB (PY hm)).mono ?_;rintro e w3 ⟨q,hq,rfl,tq,sZ⟩;have B3:Below w.heap.size w w3:=aQ (aQ (aO _ _) fC) (aQ gG sZ);have pX:w3.heap[tb]?=M (xI r):=(B3.block tb bT).trans hb
 go_wp2_with fail
 by_cases hf:4096<(DL l pos (x,y)).length
 ·refine(Mv tq hf).mono ?_;rintro e w3 ⟨rfl,rfl⟩
  go_wp2_with fail
  go_ret;exact Or.inl ⟨hf,rfl,B3⟩
 ·refine(Vv pX tq (Nat.le_of_not_lt hf)).mono ?_;rintro e w4 ⟨rfl,rfl⟩
  go_wp2_with fail
  go_ret;exact Or.inr ⟨by omega,rfl,DK pX tq (iE okh (lS (PY hm) CB)) (Nat.le_of_not_lt hf),Vu B3 _ _ _⟩
theorem LF (t:dD w tb l)(Um:n<=9223372036854775807)(hp2:pos<=9223372036854775807)(hp:n<0\/pos<0\/sz l<pos\/sz l-pos<n):
 H K 101 #[U (M ⟨tb,0,O⟩),I V pos,I V n] w fun e w'=>e=G (.tuple #[Z O 0 0,I V 5])/\w'=w:=by
 obtain⟨r,h,hb,ht,ok,hlen⟩:=id t;have bl:=lD ok;clear hb ht ok;by_cases h1:n<0
 ·go_enter Tryz.func101,Tryz.ntmps101
  go_wp2_with fail
  refine(lU t).mono ?_;rintro e w ⟨rfl,rfl⟩
  go_wp2_with fail
  go_ret2;exact⟨rfl,rfl⟩
 ·by_cases h2:pos<0
  ·go_enter Tryz.func101,Tryz.ntmps101
   go_wp2_with fail
   refine(lU t).mono ?_;rintro e w ⟨rfl,rfl⟩
   go_wp2_with fail
   go_ret2;exact⟨rfl,rfl⟩
  ·by_cases h3:sz l<pos
   ·go_enter Tryz.func101,Tryz.ntmps101
    go_wp2_with fail
    refine(lU t).mono ?_;rintro e w ⟨rfl,rfl⟩
    go_wp2_with fail
    go_ret2;exact⟨rfl,rfl⟩
   ·have h4:sz l-pos<n:=by omega
    go_enter Tryz.func101,Tryz.ntmps101
    go_wp2_with fail
    refine(lU t).mono ?_;rintro e w ⟨rfl,rfl⟩
    go_wp2_with fail
    go_ret2;exact⟨rfl,rfl⟩
theorem DN (t:dD w tb l)(h0:0<=pos)(h1:pos<=sz l):
 H K 101 #[U (M ⟨tb,0,O⟩),I V pos,I V 0] w fun e w'=>e=G (.tuple #[Z O 0 0,I V 0])/\w'=w:=by
 obtain⟨r,h,hb,ht,ok,hlen⟩:=id t;have bl:=lD ok;clear hb ht ok;go_enter Tryz.func101,Tryz.ntmps101
 go_wp2_with fail
 refine(lU t).mono ?_;rintro e w ⟨rfl,rfl⟩
 go_wp2_with fail
 go_ret2;exact⟨rfl,rfl⟩
def Hy (l:List (Int×Int))(pos n:Int):List (Int×Int):=dS l pos++bU (bU l pos) n
def vQ (l:List (Int×Int))(pos n:Int):List (Int×Int):=dS (bU l pos) n
theorem TF (t:dD w tb l)(h0:0<=pos)(h1:pos<=sz l)(h2:0<n)(h3:n<=sz l-pos):
 H K 101 #[U (M ⟨tb,0,O⟩),I V pos,I V n] w fun e w'=>
  (4096<(Hy l pos n).length/\e=G (.tuple #[Z O 0 0,I V 13])/\Below w.heap.size w w')
  \/((Hy l pos n).length<=4096/\∃g,e=G (.tuple #[Z (M ⟨g,0,O⟩) (vQ l pos n).length (vQ l pos n).length,I V 0])
   /\w'.ownsRow g 114 2 (Z (M ⟨g,0,O⟩) (vQ l pos n).length (vQ l pos n).length) (vQ l pos n).length (Fu (vQ l pos n))/\w.heap.size<=g
   /\dD w' tb (Hy l pos n)/\w.grownBy w' (M tb)):=by
 obtain⟨r,h,hb,ht,ok,hlen⟩:=id t;obtain⟨c0,-⟩:=uZ hb;have bT:=aM hb;have bl:=lD ok;have hln:=pK l pos;have hln2:=pK (bU l pos) n;have okh:=uX ok pos;have CB:=kG ok pos;have okb:=kG CB n;have hn:(n==0)=false:=by simp;omega
 have hn':¬n<0:=by omega
 have hp':¬pos<0:=by omega
 go_enter Tryz.func101,Tryz.ntmps101
 go_wp2_with fail
 refine(lU t).mono ?_;rintro e w ⟨rfl,rfl⟩
 go_wp2_with fail
 refine(Kq ht (by omega) ok (by omega)).mono ?_;rintro e w1 ⟨r1,g1,r2,g2,rfl,t1,t2,fC⟩
 go_wp2_with fail
 refine(Kq t2 (by omega) CB (by omega)).mono ?_;rintro e w2 ⟨r3,g3,r4,g4,rfl,t3,t4,gG⟩
 go_wp2_with fail
 refine(LA (t1.below gG) t4 (by omega) okh okb).mono ?_;rintro e w3 ⟨q,hq,rfl,tq,sZ⟩;have B3:Below w.heap.size w w3:=aQ fC (aQ gG sZ);have pX:w3.heap[tb]?=M (xI r):=(B3.block tb bT).trans hb
 go_wp2_with fail
 by_cases hf:4096<(Hy l pos n).length
 ·refine(Mv tq hf).mono ?_;rintro e w3 ⟨rfl,rfl⟩
  go_wp2_with fail
  go_ret2;exact Or.inl ⟨hf,rfl,B3⟩
 ·refine(Vv pX tq (Nat.le_of_not_lt hf)).mono ?_;rintro e w4 ⟨rfl,rfl⟩;have t4':=DK pX tq (iE okh okb) (Nat.le_of_not_lt hf);have tg:T (w3.setCell ⟨tb,0,O⟩ (U q)) r3 g3 (dS (bU l pos) n):=T.Yo (by simp[World.cell?,pX,xI]) (t3.below sZ);have G4:=Vu B3 tb 0 (U q)
  go_wp2_with fail
  refine(DC tg (by omega)).mono ?_;rintro e w5 ⟨g,rfl,bA,hg,hB5⟩
  go_wp2_with fail
  go_ret2;refine Or.inr ⟨by omega,g,rfl,bA,?_,t4'.below hB5,lF G4 (jU hB5 _)⟩;have:=B3.size;simp only[World.setCell,Array.size_modify]at hg;omega
theorem U_ (t:dD w tb l)(hp:pos<0\/sz l<=pos):
 H K 104 #[U (M ⟨tb,0,O⟩),I V pos] w fun e w'=>e=G (.tuple #[.agg #[I V 0,I V 0],I V 5])/\Below w.heap.size w w':=by
 by_cases h0:pos<0
 ·go_enter Tryz.func104,Tryz.ntmps104
  go_wp2_with fail
  exact bodyPost_ret (v:= .tuple #[.agg #[I V 0,I V 0],I V 5]) (by simp[results,Tryz.results104,go_sem]) rfl ⟨rfl,aO _ _⟩
 ·have h1:sz l<=pos:=by omega
  go_enter Tryz.func104,Tryz.ntmps104
  go_wp2_with fail
  refine(lU (t.below (aO _ _))).mono ?_;rintro e w1 ⟨rfl,rfl⟩
  go_wp2_with fail
  exact bodyPost_ret (v:= .tuple #[.agg #[I V 0,I V 0],I V 5]) (by simp[results,Tryz.results104,go_sem]) rfl ⟨rfl,aO _ _⟩
theorem YU (t:dD w tb l)(h0:0<=pos)(h1:pos<sz l):
 H K 104 #[U (M ⟨tb,0,O⟩),I V pos] w fun e w'=>
  ∃q:Int×Int,(bU l pos).head?=M q/\e=G (.tuple #[.agg #[I V q.1,I V q.2],I V 0])/\Below w.heap.size w w':=by
 obtain⟨r,h,hb,ht,ok,hlen⟩:=id t;obtain⟨c0,-⟩:=uZ hb;have bT:=aM hb;clear hb;go_enter Tryz.func104,Tryz.ntmps104
 go_wp2_with fail
 refine(lU (t.below (aO _ _))).mono ?_;rintro e w1 ⟨rfl,rfl⟩
 go_wp2_with fail
 refine(YR (ht.below (aO _ _)) (by omega) ok h0 h1).mono ?_;rintro e w1 ⟨⟨qx,qy⟩,E,rfl,fC⟩;have HE:Hid ((bU l pos).head?=M (qx,qy)):=E;clear E;have k0:w1.cell? ⟨w.heap.size,0,O⟩=M (I V 0):=(fC.cell (by simp)).trans (by simp);have k1:w1.cell? ⟨w.heap.size,1,O⟩=M (I V 0):=(fC.cell (by simp)).trans (by simp);have f0:w1.frozen? ⟨w.heap.size,0,O⟩=false:=(fC.frozen (by simp)).trans (by simp);have f1:w1.frozen? ⟨w.heap.size,1,O⟩=false:=(fC.frozen (by simp)).trans (by simp)
 go_wp2_with fail
 refine bodyPost_ret (v:= .tuple #[.agg #[I V qx,I V qy],I V 0]) (by simp[results,Tryz.results104,go_sem,k0,k1]) rfl ⟨(qx,qy),HE.out,rfl,?_⟩;exact((aQ (aO w _) fC).setCell (p:=⟨w.heap.size,0,O⟩) (Nat.le_refl _) _).setCell (p:=⟨w.heap.size,1,O⟩) (Nat.le_refl _) _
theorem V_ {c:Int}(h0:0<=c)(hn:1<=n):0<=c.tmod n/\c.tmod n<n:=⟨Int.tmod_nonneg n h0,Int.tmod_lt_of_pos c (by omega)⟩
def Vw (w:F)(ao:Option Addr)(zs:List Int):Prop:=zs=[]\/∃b off,ao=M ⟨b,off,O⟩/\∀i,i<zs.length->w.cell? ⟨b,off+i,O⟩=M (I V (zs.getD i 0))
theorem Tryz.infoInt:(Tryz.prog.info? 3).map (fun i=>(i.zero,i.size,i.bytes))=M (M (I V 0),1,8):=by kernel_rfl
def Ec (w:F)(ao:Option Addr)(l:List (Int×Int)):Prop:=l=[]\/∃b off,ao=M ⟨b,off,O⟩/\∀i,i<l.length->
 w.cell? ⟨b,off+i*2,O⟩=M (I V (l.getD i (0,0)).1)/\w.cell? ⟨b,off+i*2+1,O⟩=M (I V (l.getD i (0,0)).2)
def iP (w:F)(B:Nat)(v:Y)(zs:List Int):Prop:=w.ownsRow B 3 1 v zs.length (zs.map (Value.int V))
theorem Yq (l:List (Int×Int))(i:Nat)(h:i<l.length):(Fu l)[i*2]?=M (I V (l.getD i (0,0)).1)/\(Fu l)[i*2+1]?=M (I V (l.getD i (0,0)).2):=by
 induction l generalizing i with
 |nil=>simp at h
 |cons p l ih=>
  cases i with
  |zero=>simp[vP]
  |succ i=>
   have:=ih i (by simpa using h);rw[vP,show(i+1)*2=i*2+1+1 from by omega];simpa using this
theorem Ec.own {g:Nat}{n c:Nat}(h:w.ownsRow B 114 2 (Z (M ⟨g,0,O⟩) n c) n (Fu l)):Ec w (M ⟨g,0,O⟩) l:=by
 refine Or.inr ⟨g,0,rfl,fun i hi=>?_⟩;obtain⟨h1,h2⟩:=Yq l i hi;have e1:=h.cells rfl _ _ h1;have e2:=h.cells rfl _ _ h2;simp only[Nat.zero_add];refine⟨?_,?_⟩
 ·cases i with
  |zero=>simpa[Addr.add]using e1
  |succ i=>simpa[Addr.add]using e1
 ·simpa[Addr.add]using e2
theorem Ec.below (h:Ec w ao l)(hB:Below w.heap.size w w'):Ec w' ao l:=by
 rcases h with rfl|⟨b,off,rfl,hc⟩
 ·left;rfl
 ·exact Or.inr ⟨b,off,rfl,fun i hi=>⟨cell_later hB (hc i hi).1,cell_later hB (hc i hi).2⟩⟩
theorem YV (h:fG l)(k:Nat):fG (l.take k):=fun p hp=>h p (List.mem_of_mem_take hp)
theorem iP.push {v1:Y}(h:w1.ownsRow B 3 1 v1 (zs.length+1) (zs.map (Value.int V)++ [I V x])):iP w1 B v1 (zs++ [x]):=by
 unfold iP;simpa using h
theorem vS {ops:Array Oper}{rest:List Oper}{o:Oper}{a:Act}{Q:Exit->Act->F->Prop}(qE:o.guard=O)(s x:Operand)
 (ho:o.op= .call { callee:= .builtin .append,args:=#[s,x],argTypes:=#[60,60] })
 (base:Nat)(v:Y)(ys zs:List Int)(hs:a.eval s=v)(bA:iP w base v ys)(ao:Option Addr)(m c:Nat)(hx:a.eval x=Z ao m c)(hm:m=zs.length)(gP:ao=O->zs.length=0/\c=0)(hr:Vw w ao zs)
 (hlen:ys.length+zs.length<=1000000000)(iI:base<=w.heap.size)
 (h:∀v' w',iP w' base v' (ys++zs)->w.grownBy w' v.ownBlock->wpList K ops Q rest (a.put o.dst v') w'):wpList K ops Q (o::rest) a w:=by
 obtain⟨i0,hi,nN,nO,oM⟩:=info_parts Tryz.infoInt;subst hm;cases ao with
 |none=>
  obtain⟨h1,rfl⟩:=gP rfl;have hz:zs=[]:=List.eq_nil_of_length_eq_zero h1;subst hz;exact wpList_append_own_none qE s x 60 ho base 3 i0 1 Tryz.underlying60 hi v _ _ hs bA hx (h v w (by simpa using bA) (World.grownBy.refl _ _))
 |some ad=>
  refine wpList_append_own w qE s x 60 ho base 3 i0 (I V 0) 1 8 Tryz.underlying60 hi nN nO oM rfl (by decide) v ys.length (ys.map (Value.int V)) hs bA ad zs.length c (zs.map (Value.int V)) hx (by simp) ?_ ?_ (by unfold maxLen;omega) (by omega) iI ?_
  ·intro j u hj;rcases hr with rfl|⟨b,off,e,hc⟩
   ·simp at hj
   ·cases e
    rw[List.getElem?_map]at hj
    have bT:j<zs.length:=by
     by_cases bT:j<zs.length
     ·exact bT
     ·rw[List.getElem?_eq_none (by omega)]at hj;simp at hj
    rw[List.getElem?_eq_getElem bT]at hj;simp at hj;subst hj;have:=hc j bT;simp only[List.getD_eq_getElem?_getD,List.getElem?_eq_getElem bT,Option.getD_some]at this;cases j with
    |zero=>simpa[Addr.add]using this
    |succ j=>simpa[Addr.add]using this
  ·intro u hu;obtain⟨z,-,rfl⟩:=List.mem_map.1 hu;rfl
  ·intro v' w' h1 h2 _;refine h v' w' ?_ h2;unfold iP;simpa using h1
theorem iP.form (h:iP w B v zs):
 ∃ao cap,v=Z ao zs.length cap/\Vw w ao zs/\zs.length<=cap/\(ao=O->zs.length=0/\cap=0)/\(∀g o,ao=M ⟨g,o,O⟩->B<=g):=by
 have hc:=fun g hg=>h.cells (g:=g) hg
 obtain⟨-,h2⟩:=h;rcases h2 with⟨rfl,h3⟩|⟨g,cap,aS,rfl,hg,hh,iL,-,-,-⟩
 ·exact⟨O,0,by rw[h3],Or.inl (List.eq_nil_of_length_eq_zero h3),by omega,fun _=>⟨h3,rfl⟩,(fun _ _ e=>by cases e)⟩
 ·refine⟨M ⟨g,0,O⟩,cap,rfl,Or.inr ⟨g,0,rfl,fun i hi=>?_⟩,iL,(fun e=>by cases e),(fun g' o e=>by cases e;exact hg)⟩;have:=hc g rfl i (I V (zs.getD i 0)) (by simp[hi]);cases i with
  |zero=>simpa[Addr.add]using this
  |succ i=>simpa[Addr.add]using this
theorem iP.kept {g:Option Nat}(h:iP w B v zs)(hg:w.grownBy w' g)(hne:∀t,g=M t->t<B):iP w' B v zs:=by
 refine World.ownsRow.kept h hg ?_;cases hv:v.ownBlock with
 |none=>exact Or.inl rfl
 |some k=>
  refine Or.inr (fun e=>?_);have h1:=World.ownsRow.lt h k hv;have h2:=hne k e.symm;omega
theorem iP.below (h:iP w B v zs)(hB:Below w.heap.size w w'):iP w' B v zs:=
 h.kept (jU hB O) (fun _ e=>by cases e)
theorem Vw.sub {cap p q:Nat}(h:Vw w ao zs)(iL:zs.length<=cap)(hpq:p<=q)(hq:q<=zs.length):
 Vw w (if cap=p then ao else ao.map (·.add p)) ((zs.drop p).take (q-p)):=by
 rcases h with rfl|⟨b,off,rfl,hc⟩
 ·left;simp
 ·by_cases hz:q=p
  ·left;subst hz;simp
  ·have hne:¬cap=p:=by omega
   right;refine⟨b,off+p,?_,fun i hi=>?_⟩
   ·rw[if_neg hne];cases p with
    |zero=>simp[Addr.add]
    |succ p=>simp[Addr.add]
   ·rw[List.length_take,List.length_drop]at hi;have:=hc (p+i) (by omega);rw[<-Nat.add_assoc]at this;rw[this];congr 1;simp only[List.getD_eq_getElem?_getD];rw[List.getElem?_take,if_pos (by omega),List.getElem?_drop]
theorem Vw.head {q:Nat}(h:Vw w ao zs)(hq:q<=zs.length):Vw w ao (zs.take q):=by
 rcases h with rfl|⟨b,off,rfl,hc⟩
 ·left;simp
 ·right;refine⟨b,off,rfl,fun i hi=>?_⟩;rw[List.length_take]at hi;rw[hc i (by omega)];congr 1;simp only[List.getD_eq_getElem?_getD];rw[List.getElem?_take,if_pos (by omega)]
theorem Vw.below (h:Vw w ao zs)(hB:Below w.heap.size w w'):Vw w' ao zs:=by
 rcases h with rfl|⟨b,off,rfl,hc⟩
 ·left;rfl
 ·exact Or.inr ⟨b,off,rfl,fun i hi=>cell_later hB (hc i hi)⟩
theorem Vw.grown (h:Vw w ao zs)(hg:w.grownBy w' (M tb))(Oe:∀g o,ao=M ⟨g,o,O⟩->tb<g):Vw w' ao zs:=by
 rcases h with rfl|⟨b,off,rfl,hc⟩
 ·left;rfl
 ·exact Or.inr ⟨b,off,rfl,fun i hi=>Qm hg (by have:=Oe b off rfl;omega) (hc i hi)⟩
theorem iP.weak {B':Nat}(h:iP w B' v zs)(hB:B<=B'):iP w B v zs:=by
 obtain⟨h1,h2⟩:=h;refine⟨h1,?_⟩;rcases h2 with h2|⟨g,cap,aS,hv,hg,hh⟩
 ·exact Or.inl h2
 ·exact Or.inr ⟨g,cap,aS,hv,Nat.le_trans hB hg,hh⟩
theorem Vw.tail {cap p:Nat}(h:Vw w ao zs)(iL:zs.length<=cap)(hp:p<=zs.length):Vw w (if cap=p then ao else ao.map (·.add p)) (zs.drop p):=by
 have:=h.sub (p:=p) iL hp (Nat.le_refl _);rwa[List.take_of_length_le (by rw[List.length_drop];omega)]at this
theorem aZ (h:Below w.heap.size w w1)(n:Nat):Below w.heap.size w (w1.drewN n):=⟨h.os,h.tape,h.output,h.size,h.block⟩
def fV:List (Int×Int)->Int->Int->List (Int×Int)
 | [],_,_=> []
 |p::l,f,t=>(if max f 0<min t p.2 then [(p.1+max f 0,min t p.2-max f 0)]else [])++fV l (f-p.2) (t-p.2)
theorem Dl (h:fG l):∀ {f:Int} (t:Int),f<=0->fV l f t=dS l t:=by
 induction l with
 |nil=>intros;rfl
 |cons p l ih=>
  intro f t hf;have h2:=fH h;unfold lX at h2;simp only[fV,dS];rw[ih (dM h) _ (by omega),show max f 0=0 from by omega];by_cases h0:t<=0
  ·rw[if_neg (by omega),if_pos h0,nR _ (by omega)];rfl
  ·rw[if_pos (by omega),if_neg h0];by_cases h1:p.2<=t
   ·rw[if_pos h1,show min t p.2=p.2 from by omega];simp
   ·rw[if_neg h1,nR _ (by omega),show min t p.2=t from by omega];simp
theorem Yr (h:fG l):∀ {f:Int} (t:Int),0<=f->fV l f t=dS (bU l f) (t-f):=by
 induction l with
 |nil=>intros;rfl
 |cons p l ih=>
  intro f t hf;have h2:=fH h;unfold lX at h2;by_cases h0:f<=0
  ·have:f=0:=by omega
   subst this;rw[Dl h _ (Int.le_refl _),yH _ (Int.le_refl _),Int.sub_zero]
  ·simp only[fV,bU];rw[if_neg h0];by_cases h1:p.2<=f
   ·rw[if_pos h1,if_neg (by omega),ih (dM h) _ (by omega),show t-p.2-(f-p.2)=t-f from by omega];rfl
   ·rw[if_neg h1,Dl (dM h) _ (by omega)];simp only[dS];rw[show max f 0=f from by omega];by_cases h3:t-f<=0
    ·rw[if_pos h3,if_neg (by omega),nR _ (by omega)];rfl
    ·rw[if_neg h3];by_cases h4:p.2-f<=t-f
     ·rw[if_pos h4,if_pos (by omega),show min t p.2=p.2 from by omega,show t-f-(p.2-f)=t-p.2 from by omega];rfl
     ·rw[if_neg h4,if_pos (by omega),show min t p.2=t from by omega,nR _ (by omega)];simp
theorem xJ (h:fG l):∀ {p n:Int},0<=p->0<=n->bU (bU l p) n=bU l (p+n):=by
 induction l with
 |nil=>intros;rfl
 |cons q l ih=>
  intro p n hp hn;have h2:=fH h;unfold lX at h2;by_cases h0:p<=0
  ·have:p=0:=by omega
   subst this;rw[yH _ (Int.le_refl _),Int.zero_add]
  ·simp only[bU];rw[if_neg h0,if_neg (show ¬p+n<=0 by omega)];by_cases h1:q.2<=p
   ·rw[if_pos h1,if_pos (show q.2<=p+n by omega),ih (dM h) (by omega) hn,show p-q.2+n=p+n-q.2 from by omega]
   ·rw[if_neg h1];simp only[bU];by_cases h3:n<=0
    ·have:n=0:=by omega
     subst this;rw[if_pos (Int.le_refl _),if_neg (by omega)];simp
    ·rw[if_neg h3];by_cases h4:q.2-p<=n
     ·rw[if_pos h4,if_pos (show q.2<=p+n by omega),show n-(q.2-p)=p+n-q.2 from by omega]
     ·rw[if_neg h4,if_neg (by omega)];simp;omega
theorem Vx (h:fG l){f:Int}(h0:0<=f)(h1:f<=sz l):fV l f (sz l)=bU l f:=by
 rw[Yr h _ h0,Di (kG h f) (by rw[lT h h0 h1];omega)]
theorem cut_eq (h:fG l)(h0:0<=pos)(hn:0<=n)(h1:n<=sz l-pos):
 fV l 0 pos++fV l (pos+n) (sz l)=dS l pos++bU (bU l pos) n/\fV l pos (pos+n)=dS (bU l pos) n:=by
 rw[Dl h _ (Int.le_refl _),Vx h (by omega) (by omega),xJ h h0 hn,Yr h _ h0,show pos+n-pos=n from by omega];exact⟨rfl,rfl⟩
def gY (w:F)(B:Nat)(v:Y)(l:List (Int×Int)):Prop:=w.ownsRow B 114 2 v l.length (Fu l)
theorem Yt (h:k<l.length):sz (l.take (k+1))=sz (l.take k)+(l.getD k (0,0)).2:=by
 rw[List.take_succ_eq_append_getElem h,nQ];simp[sz,h]
theorem Qn (ok:fG l)(hlen:l.length<=9000)(k:Nat):0<=sz (l.take k)/\sz (l.take k)<=45000000:=by
 have:=lD (YV ok k);have h2:(l.take k).length<=9000:=by rw[List.length_take];omega
 omega
theorem Ec.at (h:Ec w ao l)(hk:k<l.length):
 ∃b off,ao=M ⟨b,off,O⟩/\w.cell? ⟨b,off+k*2,O⟩=M (I V (l.getD k (0,0)).1)/\w.cell? ⟨b,off+k*2+1,O⟩=M (I V (l.getD k (0,0)).2):=by
 rcases h with rfl|⟨b,off,h1,h2⟩
 ·simp at hk
 ·exact⟨b,off,h1,h2 k hk⟩
theorem YW (ok:fG l)(hk:k<l.length):lX (l.getD k (0,0)):=ok _ (by simp[hk])
theorem fP (hr:Ec w ao l)(e1:la=l.length)(ok:fG l)(hlen:l.length<=9000):
 H K 106 #[Z ao la ca] w fun e w'=>e=G (I V (sz l))/\w'=w:=by
 subst e1;go_enter Tryz.func106,Tryz.ntmps106
 go_wp2_with fail
 go_loop [3,4] (fun n i=> ∃k:Nat,k<=l.length/\i=I V (k:Int)/\n=I V (sz (l.take k))) (fun _ i=>l.length-(intOf i).toNat)
 case atStart=>exact⟨0,Nat.zero_le _,rfl,rfl⟩
 case round=>
  obtain⟨k,hk,rfl,rfl⟩:=hrel;have hb:=Qn ok hlen k;by_cases bT:k<l.length
  ·obtain⟨b,off,rfl,c1,c2⟩:=hr.at bT;have YX:=YW ok bT;have HS:Hid (sz (l.take (k+1))=sz (l.take k)+(l.getD k (0,0)).2):=Yt bT;generalize l.getD k (0,0)=p at c1 c2 YX HS;obtain⟨px,py⟩:=p;simp only at c1 c2 HS;unfold lX at YX;simp only at YX;have i1:(0:Int)<=(k:Int):=by omega
   have i2:(k:Int)<(l.length:Int):=by omega
   clear hr
   go_wp2_with fail
   go_round
   case rel=>exact⟨k+1,by omega,by go_num,by rw[HS.out]⟩
   case measure=>simp[intOf];omega
  ·go_wp2_with fail
   go_ret;exact⟨by rw[List.take_of_length_le (by omega)];rfl,rfl⟩
theorem YZ {bo:Option Addr}{lb cb:Nat}(ha:Ec w ao l)(hb:Ec w bo l)(e1:la=l.length)(e2:lb=l.length)(hlen:l.length<=100000000):
 H K 65 #[Z ao la ca,Z bo lb cb] w fun e w'=>e=G (.bool true)/\∃n,w'=w.drewN n:=by
 subst e1 e2;go_enter Tryz.func65,Tryz.ntmps65
 go_wp2_with fail
 go_loopw [5] (fun i wr=> ∃k:Nat,k<=l.length/\i=I V (k:Int)/\∃n,wr=w.drewN n) (fun i _=>l.length-(intOf i).toNat)
 case atStart=>exact⟨0,Nat.zero_le _,rfl,0,rfl⟩
 case round=>
  obtain⟨k,hk,rfl,n,rfl⟩:=hrel;by_cases bT:k<l.length
  ·obtain⟨b1,o1,rfl,c1,c2⟩:=ha.at bT;obtain⟨b2,o2,rfl,d1,d2⟩:=hb.at bT;generalize l.getD k (0,0)=p at c1 c2 d1 d2;obtain⟨px,py⟩:=p;simp only at c1 c2 d1 d2;have i1:(0:Int)<=(k:Int):=by omega
   have i2:(k:Int)<(l.length:Int):=by omega
   clear ha hb
   go_wp2_with fail
   go_quiet (fail)
   go_wp2_with fail
   go_roundw
   case rel=>exact⟨k+1,by omega,by go_num,_,rfl⟩
   case measure=>simp[intOf];omega
  ·go_wp2_with fail
   go_ret;exact⟨rfl,n,rfl⟩
theorem gY.push {v1:Y}(h:w1.ownsRow B 114 2 v1 (l.length+1) (Fu l++ [I V x,I V y])):gY w1 B v1 (l++ [(x,y)]):=by
 unfold gY;rw[Fv];simpa[Fu]using h
theorem mX {wr:F}{o:Obj}(hB:Below B w wr)(hs:B<=wr.heap.size)(bA:gY wr B v l)(hg:(wr.alloc o).grownBy w1 v.ownBlock):Below B w w1:=
 (hB.alloc hs o).grown hg (by simp;omega) (fun k e=>(World.ownsRow.lt bA k e).1)
theorem TG (hk:k<l.length)(f t:Int):
 fV (l.drop k) f t=(if max f 0<min t (l.getD k (0,0)).2 then [((l.getD k (0,0)).1+max f 0,min t (l.getD k (0,0)).2-max f 0)]else [])++fV (l.drop (k+1)) (f-(l.getD k (0,0)).2) (t-(l.getD k (0,0)).2):=by
 rw[List.drop_eq_getElem_cons hk];simp[fV,hk]
theorem yK {f t:Int}(hr:Ec w ao l)(e1:la=l.length)(ok:fG l)(hlen:l.length<=9000)
 (hf:0<=f)(KJ:f<=1000000000)(ht:0<=t)(ht2:t<=1000000000):
 H K 165 #[Z ao la ca,I V f,I V t] w fun e w'=> ∃v,e=G v/\gY w' w.heap.size v (fV l f t)/\Below w.heap.size w w':=by
 subst e1;obtain⟨i0,hi,nN,nO,oM⟩:=info_parts Tryz.infoPiece;go_enter Tryz.func165,Tryz.ntmps165
 go_wp2_with fail
 go_loopw [7,8,9,10,11] (fun v a i _ _ wr=> ∃(k:Nat) (out:List (Int×Int)),k<=l.length/\i=I V (k:Int)/\a=I V (sz (l.take k))/\gY wr w.heap.size v out/\Below w.heap.size w wr/\out.length<=k
  /\fV l f t=out++fV (l.drop k) (f-sz (l.take k)) (t-sz (l.take k))) (fun _ _ i _ _ _=>l.length-(intOf i).toNat)
 case atStart=>exact⟨0,[],Nat.zero_le _,rfl,rfl,World.ownsRow_nil _ _ _ _,Below.refl _ _,by simp,by simp[sz]⟩
 case round=>
  obtain⟨k,out,hk,rfl,rfl,bA,hB,hout,E⟩:=hrel;have hb:=Qn ok hlen k;by_cases bT:k<l.length
  ·obtain⟨b,off,rfl,c1,c2⟩:=hr.at bT;have YX:=YW ok bT;have HS:Hid (sz (l.take (k+1))=sz (l.take k)+(l.getD k (0,0)).2):=Yt bT
   have HP:Hid (fV l f t=out++((if max (f-sz (l.take k)) 0<min (t-sz (l.take k)) (l.getD k (0,0)).2 then [((l.getD k (0,0)).1+max (f-sz (l.take k)) 0,min (t-sz (l.take k)) (l.getD k (0,0)).2-max (f-sz (l.take k)) 0)]else [])
    ++fV (l.drop (k+1)) (f-sz (l.take k)-(l.getD k (0,0)).2) (t-sz (l.take k)-(l.getD k (0,0)).2))):=by
    show _=_;rw[E,TG bT]
   generalize l.getD k (0,0)=p at c1 c2 YX HS HP;generalize hA:sz (l.take k)=A at hb HS HP ⊢;obtain⟨px,py⟩:=p;simp only at c1 c2 HS HP;unfold lX at YX;simp only at YX;have i1:(0:Int)<=(k:Int):=by omega
   have i2:(k:Int)<(l.length:Int):=by omega
   have d1:=cell_later hB c1;have d2:=cell_later hB c2;have hs:=hB.size;clear hr E hA;by_cases hF:f-A<0
   ·by_cases hT:py<t-A
    ·by_cases hc:0<py
     ·go_wp2_with (at_builtin;go_must (refine wpList_append_own _ rfl (.tmp 41) (.tmp 53) 102 rfl w.heap.size 114 i0 (.agg #[I V 0,I V 0]) 2 16 Tryz.underlying102 hi nN nO oM rfl (by decide) _ _ _ rfl (World.ownsRow.alloc bA _) ⟨_,0,O⟩ 1 1 [I V _,I V _] rfl rfl (cell_two_new _ _ _ _) (by simp[Value.oneCell']) (by unfold maxLen;omega) (by omega) (by simp;omega) ?_);intro v1 w1 mH iH _;have D2:=cell_later (mX hB hs bA iH) c2)
      go_roundw
      case rel=>exact⟨k+1,_,by omega,by go_num,by rw[HS.out],gY.push mH,mX hB hs bA iH,by simp;omega,by rw[HP.out,if_pos (by omega),HS.out,show max (f-A) 0=0 from by omega,show min (t-A) py=py from by omega];simp[Int.sub_sub]⟩
      case measure=>simp[intOf];omega
     ·omega
    ·by_cases hc:0<t-A
     ·go_wp2_with (at_builtin;go_must (refine wpList_append_own _ rfl (.tmp 41) (.tmp 53) 102 rfl w.heap.size 114 i0 (.agg #[I V 0,I V 0]) 2 16 Tryz.underlying102 hi nN nO oM rfl (by decide) _ _ _ rfl (World.ownsRow.alloc bA _) ⟨_,0,O⟩ 1 1 [I V _,I V _] rfl rfl (cell_two_new _ _ _ _) (by simp[Value.oneCell']) (by unfold maxLen;omega) (by omega) (by simp;omega) ?_);intro v1 w1 mH iH _;have D2:=cell_later (mX hB hs bA iH) c2)
      go_roundw
      case rel=>exact⟨k+1,_,by omega,by go_num,by rw[HS.out],gY.push mH,mX hB hs bA iH,by simp;omega,by rw[HP.out,if_pos (by omega),HS.out,show max (f-A) 0=0 from by omega,show min (t-A) py=t-A from by omega];simp[Int.sub_sub]⟩
      case measure=>simp[intOf];omega
     ·go_wp2_with fail
      go_roundw
      case rel=>exact⟨k+1,out,by omega,by go_num,by rw[HS.out],bA,hB,by omega,by rw[HP.out,if_neg (by omega),HS.out];simp[Int.sub_sub]⟩
      case measure=>simp[intOf];omega
   ·by_cases hT:py<t-A
    ·by_cases hc:f-A<py
     ·go_wp2_with (at_builtin;go_must (refine wpList_append_own _ rfl (.tmp 41) (.tmp 53) 102 rfl w.heap.size 114 i0 (.agg #[I V 0,I V 0]) 2 16 Tryz.underlying102 hi nN nO oM rfl (by decide) _ _ _ rfl (World.ownsRow.alloc bA _) ⟨_,0,O⟩ 1 1 [I V _,I V _] rfl rfl (cell_two_new _ _ _ _) (by simp[Value.oneCell']) (by unfold maxLen;omega) (by omega) (by simp;omega) ?_);intro v1 w1 mH iH _;have D2:=cell_later (mX hB hs bA iH) c2)
      go_roundw
      case rel=>exact⟨k+1,_,by omega,by go_num,by rw[HS.out],gY.push mH,mX hB hs bA iH,by simp;omega,by rw[HP.out,if_pos (by omega),HS.out,show max (f-A) 0=f-A from by omega,show min (t-A) py=py from by omega];simp[Int.sub_sub]⟩
      case measure=>simp[intOf];omega
     ·go_wp2_with fail
      go_roundw
      case rel=>exact⟨k+1,out,by omega,by go_num,by rw[HS.out],bA,hB,by omega,by rw[HP.out,if_neg (by omega),HS.out];simp[Int.sub_sub]⟩
      case measure=>simp[intOf];omega
    ·by_cases hc:f-A<t-A
     ·go_wp2_with (at_builtin;go_must (refine wpList_append_own _ rfl (.tmp 41) (.tmp 53) 102 rfl w.heap.size 114 i0 (.agg #[I V 0,I V 0]) 2 16 Tryz.underlying102 hi nN nO oM rfl (by decide) _ _ _ rfl (World.ownsRow.alloc bA _) ⟨_,0,O⟩ 1 1 [I V _,I V _] rfl rfl (cell_two_new _ _ _ _) (by simp[Value.oneCell']) (by unfold maxLen;omega) (by omega) (by simp;omega) ?_);intro v1 w1 mH iH _;have D2:=cell_later (mX hB hs bA iH) c2)
      go_roundw
      case rel=>exact⟨k+1,_,by omega,by go_num,by rw[HS.out],gY.push mH,mX hB hs bA iH,by simp;omega,by rw[HP.out,if_pos (by omega),HS.out,show max (f-A) 0=f-A from by omega,show min (t-A) py=t-A from by omega];simp[Int.sub_sub]⟩
      case measure=>simp[intOf];omega
     ·go_wp2_with fail
      go_roundw
      case rel=>exact⟨k+1,out,by omega,by go_num,by rw[HS.out],bA,hB,by omega,by rw[HP.out,if_neg (by omega),HS.out];simp[Int.sub_sub]⟩
      case measure=>simp[intOf];omega
  ·go_wp2_with fail
   go_ret;exact⟨_,rfl,by rw[E,List.drop_of_length_le (by omega)];simpa[fV]using bA,hB⟩
end Go.Proofs.YtfplgfodoiiobaaGreatDoor
