/- Walk10, Walk11, Walk12, HeldA, HeldB, HeldC, TreesA, TreesB, TreesD, TreesI, RefA, TreesJ, RefB, RefC, RefD, RefE, RefF (joined). -/
import Derived.ArgAppend
import Derived.BigQuiet
import Derived.Deep.AppendLies
import Derived.Deep.DeepCutAuto
import Derived.Deep.Draws
import Derived.Deep.QuietTactic
import Derived.Deep.RegionLawGrows
import Derived.Laws.AppendOwnNone
import Derived.Laws.BytesArg
import Derived.Laws.Closers25b
import Derived.Laws.OwnMore
import Derived.Test.YtfplgfodoiiobaaGreatDoorJ02
open Option renaming none→O,some→M
open Go.Value renaming int→I,slice→Z,pointer→U
open Go.IntKind renaming i64→V
open Go.Obj renaming cells→C
open Go.Ending renaming returned→G
open Go renaming World→F,Value→Y,Calls→H
open Go.Proofs.Tryz renaming prog→K
namespace Go.Proofs.YtfplgfodoiiobaaGreatDoor
set_option maxHeartbeats 1000000
open Go.RowKit
variable {w w' w1 w0:F}{l:List (Int×Int)}{tb B b h:Nat}{pos x y n:Int}{X:Nat->Prop}{root ao:Option Addr}{o:Obj}
def yD (root:Option Addr):Obj:=C #[U root] 160 (0,0)
def bZ (w:F)(tb:Nat)(l:List (Int×Int)):Prop:=∃root h,w.heap[tb]?=M (yD root)/\T w root h l/\eF l/\l.length<=4096
theorem sS (h:w.heap[tb]?=M (yD root)):w.cell? ⟨tb,0,O⟩=M (U root)/\w.frozen? ⟨tb,0,O⟩=false:=by
 simp[World.cell?,World.frozen?,h,yD]
theorem aK (e:w.heap[b]?=M o):b<w.heap.size:=by
 by_cases bV:b<w.heap.size
 ·exact bV
 ·rw[Array.getElem?_eq_none (by omega)]at e;cases e
theorem bZ.lt (t:bZ w tb l):tb<w.heap.size:=by
 obtain⟨r,h,hb,-⟩:=t;exact aK hb
theorem bZ.keep (t:bZ w tb l)(hk:∀b c,w.heap[b]?=M c->(∃r,c=yD r)/\b=tb\/(∃la ra p h l,c=lG la ra p h l)->w'.heap[b]?=w.heap[b]?):bZ w' tb l:=by
 obtain⟨r,h,hb,ht,hr⟩:=t;exact⟨r,h,(hk tb _ hb (Or.inl ⟨⟨r,rfl⟩,rfl⟩)).trans hb,T.keep (fun b la ra p h l e=>hk b _ e (Or.inr ⟨la,ra,p,h,l,rfl⟩)) ht,hr⟩
theorem bZ.below (t:bZ w tb l)(hB:Below w.heap.size w w'):bZ w' tb l:=
 t.keep fun b _ e _=>hB.block b (aK e)
theorem new_any (w:F):H K 62 #[] w fun e w'=>e=G (U (M ⟨w.heap.size,0,O⟩))/\w'=w.alloc (yD O):=by
 go_enter Tryz.func62,Tryz.ntmps62
 go_wp2
 go_ret;exact⟨rfl,rfl⟩
theorem iy (w:F):bZ (w.alloc (yD O)) w.heap.size []:=
 ⟨O,0,by show(w.heap.push _)[w.heap.size]?=_;rw[Array.getElem?_push,if_pos rfl],T.nil _,rP,by simp⟩
theorem kD (t:bZ w tb l):H K 92 #[U (M ⟨tb,0,O⟩)] w fun e w'=>e=G (I V (sz l))/\w'=w:=by
 obtain⟨r,h,hb,ht,-⟩:=t;obtain⟨c0,-⟩:=sS hb;clear hb;go_enter Tryz.func92,Tryz.ntmps92
 go_wp2_with fail
 refine(iJ ht).mono ?_;rintro e w ⟨rfl,rfl⟩
 go_wp2_with fail
 go_ret;exact⟨rfl,rfl⟩
theorem DY (t:bZ w tb l):H K 64 #[U (M ⟨tb,0,O⟩)] w fun e w'=>
 ∃g,e=G (Z (M ⟨g,0,O⟩) l.length l.length)/\w'.ownsRow g 114 2 (Z (M ⟨g,0,O⟩) l.length l.length) l.length (Ku l)/\w.heap.size<=g/\Below w.heap.size w w':=by
 obtain⟨r,h,hb,ht,-,hlen⟩:=t;obtain⟨c0,-⟩:=sS hb;clear hb;go_enter Tryz.func64,Tryz.ntmps64
 go_wp2_with fail
 refine(DW ht (by omega)).mono ?_;rintro e w1 ⟨g,rfl,cZ,hg,hB⟩
 go_wp2_with fail
 go_ret;exact⟨g,rfl,cZ,hg,hB⟩
def DZ (x y:Int):Prop:=1<=y/\y<=5000/\0<=x/\x<=1000000000
theorem SH (h:DZ x y):kQ (x,y):=by unfold DZ at h;unfold kQ;simp only;omega
theorem may_yes (h:DZ x y):H K 93 #[.agg #[I V x,I V y]] w fun e w'=>e=G (.bool true)/\Below w.heap.size w w':=by
 obtain⟨h1,h2,h3,h4⟩:=h;go_enter Tryz.func93,Tryz.ntmps93
 go_wp2
 go_ret;exact⟨by simp[*],aU _ _⟩
theorem may_no (h:¬DZ x y):H K 93 #[.agg #[I V x,I V y]] w fun e w'=>e=G (.bool false)/\Below w.heap.size w w':=by
 unfold DZ at h;by_cases h1:1<=y
 ·by_cases h2:y<=5000
  ·by_cases h3:0<=x
   ·have h4:¬x<=1000000000:=by omega
    go_enter Tryz.func93,Tryz.ntmps93
    go_wp2
    go_ret;exact⟨by simp[*],aU _ _⟩
   ·go_enter Tryz.func93,Tryz.ntmps93
    go_wp2
    go_ret;exact⟨by simp[*],aU _ _⟩
  ·go_enter Tryz.func93,Tryz.ntmps93
   go_wp2
   go_ret;exact⟨by simp[*],aU _ _⟩
 ·go_enter Tryz.func93,Tryz.ntmps93
  go_wp2
  go_ret;exact⟨by simp[*],aU _ _⟩
theorem lI (h:Below w.heap.size w w1)(g:Option Nat):w.grownBy w1 g:=⟨h.os,h.tape,h.output,h.size,fun k hk _=>h.block k hk⟩
theorem Vl (h:Below w.heap.size w w1)(tb i:Nat)(v:Y):w.grownBy (w1.setCell ⟨tb,i,O⟩ v) (M tb):=
 ⟨h.os,h.tape,h.output,by simpa[World.setCell]using h.size,fun k hk hne=>(Below.heap_setCell _ _ _ _ (by intro e;exact hne (by rw[e]))).trans (h.block k hk)⟩
theorem Kv (t:T w root h l)(hlen:4096<l.length):
 H K 95 #[U (M ⟨tb,0,O⟩),U root] w fun e w'=>e=G (I V 13)/\w'=w:=by
 have h1:((4096:Int)<(l.length:Int)):=by omega
 go_enter Tryz.func95,Tryz.ntmps95
 go_wp2_with fail
 refine(tK t).mono ?_;rintro e w ⟨rfl,rfl⟩
 go_wp2_with fail
 go_ret;exact⟨rfl,rfl⟩
theorem EA {r:Option Addr}(hb:w.heap[tb]?=M (yD r))(t:T w root h l)(ok:eF l)(hlen:l.length<=4096):
 bZ (w.setCell ⟨tb,0,O⟩ (U root)) tb l:=by
 refine⟨root,h,?_,T.Yn (by simp[World.cell?,hb,yD]) t,ok,hlen⟩;exact one_setCell hb
theorem Vm {r:Option Addr}(hb:w.heap[tb]?=M (yD r))(t:T w root h l)(hlen:l.length<=4096):
 H K 95 #[U (M ⟨tb,0,O⟩),U root] w fun e w'=>e=G (I V 0)/\w'=w.setCell ⟨tb,0,O⟩ (U root):=by
 have h1:¬((4096:Int)<(l.length:Int)):=by omega
 obtain⟨c0,f0⟩:=sS hb;clear hb;go_enter Tryz.func95,Tryz.ntmps95
 go_wp2_with fail
 refine(tK t).mono ?_;rintro e w ⟨rfl,rfl⟩
 go_wp2_with fail
 go_ret;exact⟨rfl,rfl⟩
theorem NJ (t:bZ w tb l)(hp:pos<0\/sz l<pos):
 H K 63 #[U (M ⟨tb,0,O⟩),I V pos,.agg #[I V x,I V y]] w fun e w'=>e=G (I V 5)/\Below w.heap.size w w':=by
 by_cases h0:pos<0
 ·go_enter Tryz.func63,Tryz.ntmps63
  go_wp2_with fail
  go_ret;exact⟨rfl,aU _ _⟩
 ·have h1:sz l<pos:=by omega
  go_enter Tryz.func63,Tryz.ntmps63
  go_wp2_with fail
  refine(kD (t.below (aU _ _))).mono ?_;rintro e w1 ⟨rfl,rfl⟩
  go_wp2_with fail
  go_ret;exact⟨rfl,aU _ _⟩
theorem NK (t:bZ w tb l)(h0:0<=pos)(h1:pos<=sz l)(hm:¬DZ x y):
 H K 63 #[U (M ⟨tb,0,O⟩),I V pos,.agg #[I V x,I V y]] w fun e w'=>e=G (I V 1)/\Below w.heap.size w w':=by
 go_enter Tryz.func63,Tryz.ntmps63
 go_wp2_with fail
 refine(kD (t.below (aU _ _))).mono ?_;rintro e w1 ⟨rfl,rfl⟩
 go_wp2_with fail
 refine(may_no hm).mono ?_;rintro e w1 ⟨rfl,bX⟩
 go_wp2_with fail
 go_ret;exact⟨rfl,bD (aU _ _) bX⟩
def EB (l:List (Int×Int))(pos:Int)(p:Int×Int):List (Int×Int):=cO l pos++p::bJ l pos
theorem WB (t:bZ w tb l)(h0:0<=pos)(h1:pos<=sz l)(hm:DZ x y):
 H K 63 #[U (M ⟨tb,0,O⟩),I V pos,.agg #[I V x,I V y]] w fun e w'=>
  (4096<(EB l pos (x,y)).length/\e=G (I V 13)/\Below w.heap.size w w')
  \/((EB l pos (x,y)).length<=4096/\e=G (I V 0)/\bZ w' tb (EB l pos (x,y))/\w.grownBy w' (M tb)):=by
 obtain⟨r,h,hb,ht,ok,hlen⟩:=id t;obtain⟨c0,-⟩:=sS hb;have bV:=aK hb;have bl:=qL ok;have hln:=lV l pos;have okh:=sP ok pos;have Tg:=iI ok pos;go_enter Tryz.func63,Tryz.ntmps63
 go_wp2_with fail
 refine(kD (t.below (aU _ _))).mono ?_;rintro e w1 ⟨rfl,rfl⟩
 go_wp2_with fail
 refine(may_yes hm).mono ?_;rintro e w1 ⟨rfl,bX⟩;have c1:=cell_later (bD (aU _ _) bX) c0
 go_wp2_with fail
 refine(Ik (ht.below (bD (aU _ _) bX)) (by omega) ok (by omega)).mono ?_;rintro e w2 ⟨r1,g1,r2,g2,rfl,t1,t2,fP⟩;have k0:w2.cell? ⟨w.heap.size,0,O⟩=M (I V x):=cell_later (bD bX fP) (by simp);have k1:w2.cell? ⟨w.heap.size,1,O⟩=M (I V y):=cell_later (bD bX fP) (by simp)
 go_wp2_with fail
 refine(tN x y t1 t2 (by omega) okh Tg (SH hm)).mono ?_;rintro e w3 ⟨q,hq,rfl,tq,Ct⟩;have B3:Below w.heap.size w w3:=bD (bD (aU _ _) bX) (bD fP Ct);have pR:w3.heap[tb]?=M (yD r):=(B3.block tb bV).trans hb
 go_wp2_with fail
 by_cases hf:4096<(EB l pos (x,y)).length
 ·refine(Kv tq hf).mono ?_;rintro e w3 ⟨rfl,rfl⟩
  go_wp2_with fail
  go_ret;exact Or.inl ⟨hf,rfl,B3⟩
 ·refine(Vm pR tq (Nat.le_of_not_lt hf)).mono ?_;rintro e w4 ⟨rfl,rfl⟩
  go_wp2_with fail
  go_ret;exact Or.inr ⟨by omega,rfl,EA pR tq (fT okh (jZ (SH hm) Tg)) (Nat.le_of_not_lt hf),Vl B3 _ _ _⟩
theorem NM (t:bZ w tb l)(oW:n<=9223372036854775807)(hp2:pos<=9223372036854775807)(hp:n<0\/pos<0\/sz l<pos\/sz l-pos<n):
 H K 101 #[U (M ⟨tb,0,O⟩),I V pos,I V n] w fun e w'=>e=G (.tuple #[Z O 0 0,I V 5])/\w'=w:=by
 obtain⟨r,h,hb,ht,ok,hlen⟩:=id t;have bl:=qL ok;clear hb ht ok;by_cases h1:n<0
 ·go_enter Tryz.func101,Tryz.ntmps101
  go_wp2_with fail
  refine(kD t).mono ?_;rintro e w ⟨rfl,rfl⟩
  go_wp2_with fail
  go_ret2;exact⟨rfl,rfl⟩
 ·by_cases h2:pos<0
  ·go_enter Tryz.func101,Tryz.ntmps101
   go_wp2_with fail
   refine(kD t).mono ?_;rintro e w ⟨rfl,rfl⟩
   go_wp2_with fail
   go_ret2;exact⟨rfl,rfl⟩
  ·by_cases h3:sz l<pos
   ·go_enter Tryz.func101,Tryz.ntmps101
    go_wp2_with fail
    refine(kD t).mono ?_;rintro e w ⟨rfl,rfl⟩
    go_wp2_with fail
    go_ret2;exact⟨rfl,rfl⟩
   ·have h4:sz l-pos<n:=by omega
    go_enter Tryz.func101,Tryz.ntmps101
    go_wp2_with fail
    refine(kD t).mono ?_;rintro e w ⟨rfl,rfl⟩
    go_wp2_with fail
    go_ret2;exact⟨rfl,rfl⟩
theorem EC (t:bZ w tb l)(h0:0<=pos)(h1:pos<=sz l):
 H K 101 #[U (M ⟨tb,0,O⟩),I V pos,I V 0] w fun e w'=>e=G (.tuple #[Z O 0 0,I V 0])/\w'=w:=by
 obtain⟨r,h,hb,ht,ok,hlen⟩:=id t;have bl:=qL ok;clear hb ht ok;go_enter Tryz.func101,Tryz.ntmps101
 go_wp2_with fail
 refine(kD t).mono ?_;rintro e w ⟨rfl,rfl⟩
 go_wp2_with fail
 go_ret2;exact⟨rfl,rfl⟩
def Il (l:List (Int×Int))(pos n:Int):List (Int×Int):=cO l pos++bJ (bJ l pos) n
def vC (l:List (Int×Int))(pos n:Int):List (Int×Int):=cO (bJ l pos) n
theorem WC (t:bZ w tb l)(h0:0<=pos)(h1:pos<=sz l)(h2:0<n)(h3:n<=sz l-pos):
 H K 101 #[U (M ⟨tb,0,O⟩),I V pos,I V n] w fun e w'=>
  (4096<(Il l pos n).length/\e=G (.tuple #[Z O 0 0,I V 13])/\Below w.heap.size w w')
  \/((Il l pos n).length<=4096/\∃g,e=G (.tuple #[Z (M ⟨g,0,O⟩) (vC l pos n).length (vC l pos n).length,I V 0])
   /\w'.ownsRow g 114 2 (Z (M ⟨g,0,O⟩) (vC l pos n).length (vC l pos n).length) (vC l pos n).length (Ku (vC l pos n))/\w.heap.size<=g
   /\bZ w' tb (Il l pos n)/\w.grownBy w' (M tb)):=by
 obtain⟨r,h,hb,ht,ok,hlen⟩:=id t;obtain⟨c0,-⟩:=sS hb;have bV:=aK hb;have bl:=qL ok;have hln:=lV l pos;have hln2:=lV (bJ l pos) n;have okh:=sP ok pos;have Tg:=iI ok pos;have okb:=iI Tg n;have hn:(n==0)=false:=by simp;omega
 have hn':¬n<0:=by omega
 have hp':¬pos<0:=by omega
 go_enter Tryz.func101,Tryz.ntmps101
 go_wp2_with fail
 refine(kD t).mono ?_;rintro e w ⟨rfl,rfl⟩
 go_wp2_with fail
 refine(Ik ht (by omega) ok (by omega)).mono ?_;rintro e w1 ⟨r1,g1,r2,g2,rfl,t1,t2,bX⟩
 go_wp2_with fail
 refine(Ik t2 (by omega) Tg (by omega)).mono ?_;rintro e w2 ⟨r3,g3,r4,g4,rfl,t3,t4,fP⟩
 go_wp2_with fail
 refine(NG (t1.below fP) t4 (by omega) okh okb).mono ?_;rintro e w3 ⟨q,hq,rfl,tq,Ct⟩;have B3:Below w.heap.size w w3:=bD bX (bD fP Ct);have pR:w3.heap[tb]?=M (yD r):=(B3.block tb bV).trans hb
 go_wp2_with fail
 by_cases hf:4096<(Il l pos n).length
 ·refine(Kv tq hf).mono ?_;rintro e w3 ⟨rfl,rfl⟩
  go_wp2_with fail
  go_ret2;exact Or.inl ⟨hf,rfl,B3⟩
 ·refine(Vm pR tq (Nat.le_of_not_lt hf)).mono ?_;rintro e w4 ⟨rfl,rfl⟩;have t4':=EA pR tq (fT okh okb) (Nat.le_of_not_lt hf);have tg:T (w3.setCell ⟨tb,0,O⟩ (U q)) r3 g3 (cO (bJ l pos) n):=T.Yn (by simp[World.cell?,pR,yD]) (t3.below Ct);have G4:=Vl B3 tb 0 (U q)
  go_wp2_with fail
  refine(DW tg (by omega)).mono ?_;rintro e w5 ⟨g,rfl,cZ,hg,Ti⟩
  go_wp2_with fail
  go_ret2;refine Or.inr ⟨by omega,g,rfl,cZ,?_,t4'.below Ti,lH G4 (lI Ti _)⟩;have:=B3.size;simp only[World.setCell,Array.size_modify]at hg;omega
theorem find_no (t:bZ w tb l)(hp:pos<0\/sz l<=pos):
 H K 104 #[U (M ⟨tb,0,O⟩),I V pos] w fun e w'=>e=G (.tuple #[.agg #[I V 0,I V 0],I V 5])/\Below w.heap.size w w':=by
 by_cases h0:pos<0
 ·go_enter Tryz.func104,Tryz.ntmps104
  go_wp2_with fail
  exact bodyPost_ret (v:= .tuple #[.agg #[I V 0,I V 0],I V 5]) (by simp[results,Tryz.results104,go_sem]) rfl ⟨rfl,aU _ _⟩
 ·have h1:sz l<=pos:=by omega
  go_enter Tryz.func104,Tryz.ntmps104
  go_wp2_with fail
  refine(kD (t.below (aU _ _))).mono ?_;rintro e w1 ⟨rfl,rfl⟩
  go_wp2_with fail
  exact bodyPost_ret (v:= .tuple #[.agg #[I V 0,I V 0],I V 5]) (by simp[results,Tryz.results104,go_sem]) rfl ⟨rfl,aU _ _⟩
theorem ja (t:bZ w tb l)(h0:0<=pos)(h1:pos<sz l):
 H K 104 #[U (M ⟨tb,0,O⟩),I V pos] w fun e w'=>
  ∃q:Int×Int,(bJ l pos).head?=M q/\e=G (.tuple #[.agg #[I V q.1,I V q.2],I V 0])/\Below w.heap.size w w':=by
 obtain⟨r,h,hb,ht,ok,hlen⟩:=id t;obtain⟨c0,-⟩:=sS hb;have bV:=aK hb;clear hb;go_enter Tryz.func104,Tryz.ntmps104
 go_wp2_with fail
 refine(kD (t.below (aU _ _))).mono ?_;rintro e w1 ⟨rfl,rfl⟩
 go_wp2_with fail
 refine(ic (ht.below (aU _ _)) (by omega) ok h0 h1).mono ?_;rintro e w1 ⟨⟨qx,qy⟩,E,rfl,bX⟩;have HE:Hid ((bJ l pos).head?=M (qx,qy)):=E;clear E;have k0:w1.cell? ⟨w.heap.size,0,O⟩=M (I V 0):=(bX.cell (by simp)).trans (by simp);have k1:w1.cell? ⟨w.heap.size,1,O⟩=M (I V 0):=(bX.cell (by simp)).trans (by simp);have f0:w1.frozen? ⟨w.heap.size,0,O⟩=false:=(bX.frozen (by simp)).trans (by simp);have f1:w1.frozen? ⟨w.heap.size,1,O⟩=false:=(bX.frozen (by simp)).trans (by simp)
 go_wp2_with fail
 refine bodyPost_ret (v:= .tuple #[.agg #[I V qx,I V qy],I V 0]) (by simp[results,Tryz.results104,go_sem,k0,k1]) rfl ⟨(qx,qy),HE.out,rfl,?_⟩;exact((bD (aU w _) bX).setCell (p:=⟨w.heap.size,0,O⟩) (Nat.le_refl _) _).setCell (p:=⟨w.heap.size,1,O⟩) (Nat.le_refl _) _
theorem SI {c:Int}(h0:0<=c)(hn:1<=n):0<=c.tmod n/\c.tmod n<n:=⟨Int.tmod_nonneg n h0,Int.tmod_lt_of_pos c (by omega)⟩
theorem vZ {c:Int}(Ig: -9223372036854775808<=c)(Oo:c<=9223372036854775807)(hn:1<=n)(oW:n<=9223372036854775807):
 H K 15 #[I V c,I V n] w fun e w'=> ∃r:Int,e=G (I V r)/\0<=r/\r<n/\w'=w:=by
 by_cases h0:c<0
 ·have Yo:(n==0)=false:=by simp;omega
  go_enter Tryz.func15,Tryz.ntmps15
  go_wp2
  go_ret;refine⟨_,rfl,?_,?_,rfl⟩
  ·rw[<-Int.neg_tmod];exact(SI (by omega) hn).1
  ·rw[<-Int.neg_tmod];exact(SI (by omega) hn).2
 ·have Yo:(n==0)=false:=by simp;omega
  go_enter Tryz.func15,Tryz.ntmps15
  go_wp2
  go_ret;refine⟨_,rfl,?_,?_,rfl⟩
  ·exact Int.emod_nonneg _ (by omega)
  ·exact Int.emod_lt_of_pos _ (by omega)
def RdI (w:F)(ao:Option Addr)(zs:List Int):Prop:=zs=[]\/∃b off,ao=M ⟨b,off,O⟩/\∀i,i<zs.length->w.cell? ⟨b,off+i,O⟩=M (I V (zs.getD i 0))
theorem Tryz.infoInt:(Tryz.prog.info? 3).map (fun i=>(i.zero,i.size,i.bytes))=M (M (I V 0),1,8):=by kernel_rfl
def Tj (w:F)(ao:Option Addr)(l:List (Int×Int)):Prop:=l=[]\/∃b off,ao=M ⟨b,off,O⟩/\∀i,i<l.length->
 w.cell? ⟨b,off+i*2,O⟩=M (I V (l.getD i (0,0)).1)/\w.cell? ⟨b,off+i*2+1,O⟩=M (I V (l.getD i (0,0)).2)
def Mh (w:F)(B:Nat)(v:Y)(zs:List Int):Prop:=w.ownsRow B 3 1 v zs.length (zs.map (Value.int V))
theorem SK (l:List (Int×Int))(i:Nat)(h:i<l.length):(Ku l)[i*2]?=M (I V (l.getD i (0,0)).1)/\(Ku l)[i*2+1]?=M (I V (l.getD i (0,0)).2):=by
 induction l generalizing i with
 |nil=>simp at h
 |cons p l ih=>
  cases i with
  |zero=>simp[Ew]
  |succ i=>
   have:=ih i (by simpa using h);rw[Ew,show(i+1)*2=i*2+1+1 from by omega];simpa using this
theorem Tj.own {g:Nat}{n c:Nat}(h:w.ownsRow B 114 2 (Z (M ⟨g,0,O⟩) n c) n (Ku l)):Tj w (M ⟨g,0,O⟩) l:=by
 refine Or.inr ⟨g,0,rfl,fun i hi=>?_⟩;obtain⟨h1,h2⟩:=SK l i hi;have e1:=h.cells rfl _ _ h1;have e2:=h.cells rfl _ _ h2;simp only[Nat.zero_add];refine⟨?_,?_⟩
 ·cases i with
  |zero=>simpa[Addr.add]using e1
  |succ i=>simpa[Addr.add]using e1
 ·simpa[Addr.add]using e2
theorem Tj.below (h:Tj w ao l)(hB:Below w.heap.size w w'):Tj w' ao l:=by
 rcases h with rfl|⟨b,off,rfl,hc⟩
 ·left;rfl
 ·exact Or.inr ⟨b,off,rfl,fun i hi=>⟨cell_later hB (hc i hi).1,cell_later hB (hc i hi).2⟩⟩
theorem Ov {ops:Array Oper}{rest:List Oper}{o:Oper}{a:Act}{Q:Exit->Act->F->Prop}(Bq:o.guard=O)(s x:Operand)
 (ho:o.op= .call { callee:= .builtin .append,args:=#[s,x],argTypes:=#[60,60] })
 (base:Nat)(v:Y)(ys zs:List Int)(hs:a.eval s=v)(cZ:Mh w base v ys)(ao:Option Addr)(m c:Nat)(hx:a.eval x=Z ao m c)(hm:m=zs.length)(gJ:ao=O->zs.length=0/\c=0)(hr:RdI w ao zs)
 (hlen:ys.length+zs.length<=1000000000)(kW:base<=w.heap.size)
 (h:∀v' w',Mh w' base v' (ys++zs)->w.grownBy w' v.ownBlock->wpList K ops Q rest (a.put o.dst v') w'):wpList K ops Q (o::rest) a w:=by
 obtain⟨i0,hi,tO,tQ,uW⟩:=info_parts Tryz.infoInt;subst hm;cases ao with
 |none=>
  obtain⟨h1,rfl⟩:=gJ rfl;have hz:zs=[]:=List.eq_nil_of_length_eq_zero h1;subst hz;exact wpList_append_own_none Bq s x 60 ho base 3 i0 1 Tryz.underlying60 hi v _ _ hs cZ hx (h v w (by simpa using cZ) (World.grownBy.refl _ _))
 |some ad=>
  refine wpList_append_own w Bq s x 60 ho base 3 i0 (I V 0) 1 8 Tryz.underlying60 hi tO tQ uW rfl (by decide) v ys.length (ys.map (Value.int V)) hs cZ ad zs.length c (zs.map (Value.int V)) hx (by simp) ?_ ?_ (by unfold maxLen;omega) (by omega) kW ?_
  ·intro j u hj;rcases hr with rfl|⟨b,off,e,hc⟩
   ·simp at hj
   ·cases e
    rw[List.getElem?_map]at hj
    have bV:j<zs.length:=by
     by_cases bV:j<zs.length
     ·exact bV
     ·rw[List.getElem?_eq_none (by omega)]at hj;simp at hj
    rw[List.getElem?_eq_getElem bV]at hj;simp at hj;subst hj;have:=hc j bV;simp only[List.getD_eq_getElem?_getD,List.getElem?_eq_getElem bV,Option.getD_some]at this;cases j with
    |zero=>simpa[Addr.add]using this
    |succ j=>simpa[Addr.add]using this
  ·intro u hu;obtain⟨z,-,rfl⟩:=List.mem_map.1 hu;rfl
  ·intro v' w' h1 h2 _;refine h v' w' ?_ h2;unfold Mh;simpa using h1
theorem Mh.form {v:Y}{zs:List Int}(h:Mh w B v zs):
 ∃ao cap,v=Z ao zs.length cap/\RdI w ao zs/\zs.length<=cap/\(ao=O->zs.length=0/\cap=0)/\(∀g o,ao=M ⟨g,o,O⟩->B<=g):=by
 have hc:=fun g hg=>h.cells (g:=g) hg
 obtain⟨-,h2⟩:=h;rcases h2 with⟨rfl,h3⟩|⟨g,cap,aT,rfl,hg,hh,gX,-,-,-⟩
 ·exact⟨O,0,by rw[h3],Or.inl (List.eq_nil_of_length_eq_zero h3),by omega,fun _=>⟨h3,rfl⟩,(fun _ _ e=>by cases e)⟩
 ·refine⟨M ⟨g,0,O⟩,cap,rfl,Or.inr ⟨g,0,rfl,fun i hi=>?_⟩,gX,(fun e=>by cases e),(fun g' o e=>by cases e;exact hg)⟩;have:=hc g rfl i (I V (zs.getD i 0)) (by simp[hi]);cases i with
  |zero=>simpa[Addr.add]using this
  |succ i=>simpa[Addr.add]using this
theorem bG (h:Below w.heap.size w w1)(n:Nat):Below w.heap.size w (w1.drewN n):=⟨h.os,h.tape,h.output,h.size,h.block⟩
def kX:List (Int×Int)->Int->Int->List (Int×Int)
 | [],_,_=> []
 |p::l,f,t=>(if max f 0<min t p.2 then [(p.1+max f 0,min t p.2-max f 0)]else [])++kX l (f-p.2) (t-p.2)
theorem Vn (h:eF l):∀ {f:Int} (t:Int),f<=0->kX l f t=cO l t:=by
 induction l with
 |nil=>intros;rfl
 |cons p l ih=>
  intro f t hf;have h2:=dQ h;unfold kQ at h2;simp only[kX,cO];rw[ih (bU h) _ (by omega),show max f 0=0 from by omega];by_cases h0:t<=0
  ·rw[if_neg (by omega),if_pos h0,lU _ (by omega)];rfl
  ·rw[if_pos (by omega),if_neg h0];by_cases h1:p.2<=t
   ·rw[if_pos h1,show min t p.2=p.2 from by omega];simp
   ·rw[if_neg h1,lU _ (by omega),show min t p.2=t from by omega];simp
theorem SL (h:eF l):∀ {f:Int} (t:Int),0<=f->kX l f t=cO (bJ l f) (t-f):=by
 induction l with
 |nil=>intros;rfl
 |cons p l ih=>
  intro f t hf;have h2:=dQ h;unfold kQ at h2;by_cases h0:f<=0
  ·have:f=0:=by omega
   subst this;rw[Vn h _ (Int.le_refl _),sO _ (Int.le_refl _),Int.sub_zero]
  ·simp only[kX,bJ];rw[if_neg h0];by_cases h1:p.2<=f
   ·rw[if_pos h1,if_neg (by omega),ih (bU h) _ (by omega),show t-p.2-(f-p.2)=t-f from by omega];rfl
   ·rw[if_neg h1,Vn (bU h) _ (by omega)];simp only[cO];rw[show max f 0=f from by omega];by_cases h3:t-f<=0
    ·rw[if_pos h3,if_neg (by omega),lU _ (by omega)];rfl
    ·rw[if_neg h3];by_cases h4:p.2-f<=t-f
     ·rw[if_pos h4,if_pos (by omega),show min t p.2=p.2 from by omega,show t-f-(p.2-f)=t-p.2 from by omega];rfl
     ·rw[if_neg h4,if_pos (by omega),show min t p.2=t from by omega,lU _ (by omega)];simp
theorem zB (h:eF l):∀ {p n:Int},0<=p->0<=n->bJ (bJ l p) n=bJ l (p+n):=by
 induction l with
 |nil=>intros;rfl
 |cons q l ih=>
  intro p n hp hn;have h2:=dQ h;unfold kQ at h2;by_cases h0:p<=0
  ·have:p=0:=by omega
   subst this;rw[sO _ (Int.le_refl _),Int.zero_add]
  ·simp only[bJ];rw[if_neg h0,if_neg (show ¬p+n<=0 by omega)];by_cases h1:q.2<=p
   ·rw[if_pos h1,if_pos (show q.2<=p+n by omega),ih (bU h) (by omega) hn,show p-q.2+n=p+n-q.2 from by omega]
   ·rw[if_neg h1];simp only[bJ];by_cases h3:n<=0
    ·have:n=0:=by omega
     subst this;rw[if_pos (Int.le_refl _),if_neg (by omega)];simp
    ·rw[if_neg h3];by_cases h4:q.2-p<=n
     ·rw[if_pos h4,if_pos (show q.2<=p+n by omega),show n-(q.2-p)=p+n-q.2 from by omega]
     ·rw[if_neg h4,if_neg (by omega)];simp;omega
def rQ (w:F)(B:Nat)(v:Y)(l:List (Int×Int)):Prop:=w.ownsRow B 114 2 v l.length (Ku l)
theorem WE {off:Nat}(hc:∀i,i<l.length->w.cell? ⟨b,off+i*2,O⟩=M (I V (l.getD i (0,0)).1)/\w.cell? ⟨b,off+i*2+1,O⟩=M (I V (l.getD i (0,0)).2)):
 ∀j u,(Ku l)[j]?=M u->w.cell? ((⟨b,off,O⟩:Addr).add j)=M u:=by
 intro j u hj
 have bV:j<l.length*2:=by
  by_cases bV:j<l.length*2
  ·exact bV
  ·rw[List.getElem?_eq_none (by rw[Ou];omega)]at hj;cases hj
 obtain⟨h1,h2⟩:=hc (j / 2) (by omega);obtain⟨g1,g2⟩:=SK l (j / 2) (by omega)
 have ha:(⟨b,off,O⟩:Addr).add j=⟨b,off+j,O⟩:=by
  cases j with
  |zero=>simp[Addr.add]
  |succ j=>simp[Addr.add]
 rw[ha];rcases Nat.mod_two_eq_zero_or_one j with hm|hm
 ·have e:j / 2*2=j:=by omega
  rw[e]at h1 g1;rw[h1];rw[g1]at hj;exact hj
 ·have e:j / 2*2+1=j:=by omega
  rw[Nat.add_assoc,e]at h2;rw[e]at g2;rw[h2];rw[g2]at hj;exact hj
theorem wB {ops:Array Oper}{rest:List Oper}{o:Oper}{a:Act}{Q:Exit->Act->F->Prop}(Bq:o.guard=O)(s x:Operand)
 (ho:o.op= .call { callee:= .builtin .append,args:=#[s,x],argTypes:=#[102,102] })
 (base:Nat)(v:Y)(ys zs:List (Int×Int))(hs:a.eval s=v)(cZ:rQ w base v ys)(ao:Option Addr)(m c:Nat)(hx:a.eval x=Z ao m c)(hm:m=zs.length)(gJ:ao=O->zs.length=0/\c=0)(hr:Tj w ao zs)
 (hlen:ys.length+zs.length<=1000000000)(kW:base<=w.heap.size)
 (h:∀v' w',rQ w' base v' (ys++zs)->w.grownBy w' v.ownBlock->wpList K ops Q rest (a.put o.dst v') w'):wpList K ops Q (o::rest) a w:=by
 obtain⟨i0,hi,tO,tQ,uW⟩:=info_parts Tryz.infoPiece;subst hm;cases ao with
 |none=>
  obtain⟨h1,rfl⟩:=gJ rfl;have hz:zs=[]:=List.eq_nil_of_length_eq_zero h1;subst hz;exact wpList_append_own_none Bq s x 102 ho base 114 i0 2 Tryz.underlying102 hi v _ _ hs cZ hx (h v w (by simpa using cZ) (World.grownBy.refl _ _))
 |some ad=>
  refine wpList_append_own w Bq s x 102 ho base 114 i0 (.agg #[I V 0,I V 0]) 2 16 Tryz.underlying102 hi tO tQ uW rfl (by decide) v ys.length (Ku ys) hs cZ ad zs.length c (Ku zs) hx (Ou zs) ?_ ?_ (by unfold maxLen;omega) (by omega) kW ?_
  ·rcases hr with rfl|⟨b,off,e,hc⟩
   ·intro j u hj;simp[Ku]at hj
   ·cases e;exact WE hc
  ·intro u hu;obtain⟨p,-,hp⟩:=List.mem_flatMap.1 hu;simp at hp;rcases hp with rfl|rfl<;>rfl
  ·intro v' w' h1 h2 _;refine h v' w' ?_ h2;unfold rQ;rw[Ot,List.length_append];exact h1
theorem rQ.form {v:Y}(h:rQ w B v l):∃ao cap,v=Z ao l.length cap/\Tj w ao l/\(ao=O->l.length=0/\cap=0):=by
 have h':=h;obtain⟨-,h2⟩:=h;rcases h2 with⟨rfl,h3⟩|⟨g,cap,aT,rfl,-⟩
 ·exact⟨O,0,by rw[h3],Or.inl (List.eq_nil_of_length_eq_zero h3),fun _=>⟨h3,rfl⟩⟩
 ·exact⟨M ⟨g,0,O⟩,cap,rfl,Tj.own h',(fun e=>by cases e)⟩
theorem rQ.weak {B':Nat}{v:Y}(h:rQ w B' v l)(hB:B<=B'):rQ w B v l:=by
 obtain⟨h1,h2⟩:=h;refine⟨h1,?_⟩;rcases h2 with h2|⟨g,cap,aT,hv,hg,hh⟩
 ·exact Or.inl h2
 ·exact Or.inr ⟨g,cap,aT,hv,Nat.le_trans hB hg,hh⟩
theorem jb (l:List (Int×Int)):∀f t:Int,(kX l f t).length<=l.length:=by
 induction l with
 |nil=>intro f t;simp[kX]
 |cons p l ih=>
  intro f t;have:=ih (f-p.2) (t-p.2);simp only[kX,List.length_append,List.length_cons];split<;>simp<;>omega
def Fr (w w':F)(X:Nat->Prop):Prop:=w.heap.size<=w'.heap.size/\∀b,b<w.heap.size->¬X b->w'.heap[b]?=w.heap[b]?
theorem Fr.at (h:Fr w w' X)(e:w.heap[b]?=M o)(hx:¬X b):w'.heap[b]?=M o:=(h.2 b (aK e) hx).trans e
theorem Fr.dO (h:Below w.heap.size w w')(X:Nat->Prop):Fr w w' X:=⟨h.size,fun b hb _=>h.block b hb⟩
theorem Fr.kG {r:Option Nat}(h:w.grownBy w' r):Fr w w' (fun b=>r=M b):=⟨h.size,fun b hb hx=>h.block b hb (fun e=>hx e.symm)⟩
theorem Fr.mono {aB:Nat->Prop}(h:Fr w w' X)(hxy:∀b,X b->aB b):Fr w w' aB:=⟨h.1,fun b hb hx=>h.2 b hb (fun e=>hx (hxy b e))⟩
theorem Fr.trans {w2:F}(h:Fr w w1 X)(h2:Fr w1 w2 X):Fr w w2 X:=
 ⟨Nat.le_trans h.1 h2.1,fun b hb hx=>(h2.2 b (Nat.lt_of_lt_of_le hb h.1) hx).trans (h.2 b hb hx)⟩
theorem Fr.refl (w:F)(X:Nat->Prop):Fr w w X:=⟨Nat.le_refl _,fun _ _ _=>rfl⟩
theorem Fr.set (w:F)(a:Addr)(v:Y):Fr w (w.setCell a v) (fun b=>b=a.block):=
 ⟨by simp[World.setCell],fun b _ hx=>Below.heap_setCell _ _ _ _ hx⟩
def PT (w:F)(ao:Option Addr):Prop:=∀a,ao=M a->∃aT,w.heap[a.block]?=M (C aT 114 (0,0))
def ED (w:F)(ao:Option Addr)(l:List (Int×Int)):Prop:=Tj w ao l/\PT w ao
theorem Tj.fr (h:Tj w ao l)(hF:Fr w w' X)(hx:∀a,ao=M a->¬X a.block):Tj w' ao l:=by
 rcases h with rfl|⟨b,off,rfl,hc⟩
 ·left;rfl
 ·refine Or.inr ⟨b,off,rfl,fun i hi=>?_⟩;have hn:=hx _ rfl;obtain⟨h1,h2⟩:=hc i hi;have hb:w'.heap[b]?=w.heap[b]?:=hF.2 b (World.block_lt_of_cell? _ _ h1) hn;exact⟨(World.cell?_of_block (a:=⟨b,off+i*2,O⟩) hb).trans h1,(World.cell?_of_block (a:=⟨b,off+i*2+1,O⟩) hb).trans h2⟩
theorem ED.fr (h:ED w ao l)(hF:Fr w w' X)(hx:∀b aT,w.heap[b]?=M (C aT 114 (0,0))->¬X b):ED w' ao l:=by
 obtain⟨h1,h2⟩:=h;refine⟨h1.fr hF (fun a e=>?_),fun a e=>?_⟩
 ·obtain⟨aT,hc⟩:=h2 a e;exact hx _ _ hc
 ·obtain⟨aT,hc⟩:=h2 a e;exact⟨aT,hF.at hc (hx _ _ hc)⟩
theorem ED.zC {v:Y}(h:rQ w B v l):∃ao cap,v=Z ao l.length cap/\ED w ao l/\(ao=O->l.length=0/\cap=0):=by
 have h':=h;obtain⟨-,h2⟩:=h;rcases h2 with⟨rfl,h3⟩|⟨g,cap,aT,rfl,hg,hh,-⟩
 ·exact⟨O,0,by rw[h3],⟨Or.inl (List.eq_nil_of_length_eq_zero h3),(fun _ e=>by cases e)⟩,fun _=>⟨h3,rfl⟩⟩
 ·exact⟨M ⟨g,0,O⟩,cap,rfl,⟨Tj.own h',(fun a e=>by cases e;exact⟨aT,hh⟩)⟩,(fun e=>by cases e)⟩
theorem ED.nil (w:F):ED w O []:=⟨Or.inl rfl,fun _ e=>by cases e⟩
theorem fK {e size n:Nat}{v:Y}{xs:List Y}(h:w.ownsRow B e size v n xs)(hF:Fr w w' X)(hx:∀g aT,v.ownBlock=M g->w.heap[g]?=M (C aT e (0,0))->¬X g):w'.ownsRow B e size v n xs:=by
 obtain⟨h1,h2⟩:=h;refine⟨h1,?_⟩;rcases h2 with h2|⟨g,cap,aT,rfl,hg,hh,hr⟩
 ·exact Or.inl h2
 ·exact Or.inr ⟨g,cap,aT,rfl,hg,hF.at hh (hx g aT rfl hh),hr⟩
theorem bZ.fr (t:bZ w tb l)(hF:Fr w w' X)(h1:¬X tb)(h2:∀b la ra p h l,w.heap[b]?=M (lG la ra p h l)->¬X b):bZ w' tb l:=
 t.keep fun b c e hc=>by
  refine hF.2 b (aK e) ?_;rcases hc with⟨-,rfl⟩|⟨la,ra,p,h,l',rfl⟩
  ·exact h1
  ·exact h2 _ _ _ _ _ _ e
abbrev gN:=Option Addr×Nat×Nat
def gN.v (x:gN):Y:=Z x.1 x.2.1 x.2.2
def mk (i:Nat):Int×Int:=(-((i:Int)+1),(i:Int)+1)
theorem jc {p:Obj}(h1:w.heap[b]?=M o)(h2:w.heap[b]?=M p)(hne:o≠p):False:=by
 rw[h1]at h2;exact hne (Option.some.inj h2)
theorem ty_ne {a b:Array Y}{s t:TypeId}{f g:Nat×Nat}(h:s≠t):(Obj.cells a s f)≠(Obj.cells b t g):=by
 intro e;cases e;exact h rfl
def Im (n:Int):List Int:=[n / 16777216,n / 65536 % 256,n / 256 % 256,n % 256]
def Cu (z:Int):Int:=if bits .and .u32 z 1=1 then bits .xor .u32 (z / 2) 3988292384 else z / 2
def vF:Nat->Int->Int
 |0,z=>z
 |k+1,z=>Cu (vF k z)
def Al (z:Int)(b:UInt8):Int:=vF 8 (bits .xor .u32 z (b.toNat:Int))
def zD (l:List UInt8):Int:=l.foldl Al 4294967295
def kH (l:List UInt8):Int:=bits .xor .u32 (zD l) 4294967295
def bS (z:Int):Prop:=0<=z/\z<4294967296
theorem Ey (op:BinOp)(a b:Int):bS (bits op .u32 a b):=by
 have h1:=bits_lo_u32 op a b;have h2:=bits_hi_u32 op a b;unfold bS;omega
theorem u32_bit {z:Int}(h:bS z):bS (Cu z):=by
 unfold Cu;split
 ·exact Ey _ _ _
 ·unfold bS at*;omega
theorem zF {z:Int}(h:bS z):∀k,bS (vF k z)
 |0=>h
 |k+1=>u32_bit (zF h k)
theorem jd (z:Int)(b:UInt8):bS (Al z b):=zF (Ey _ _ _) 8
theorem EF:∀(l:List UInt8) (z:Int),bS z->bS (l.foldl Al z)
 | [],_,h=>h
 |b::l,z,_=>EF l _ (jd z b)
theorem WG (l:List UInt8):bS (zD l):=EF l _ (by unfold bS;omega)
theorem Io (l:List UInt8):bS (kH l):=Ey _ _ _
theorem NN {l:List UInt8}{k:Nat}(h:k<l.length):zD (l.take (k+1))=Al (zD (l.take k)) l[k]:=by
 unfold zD;rw[List.take_succ_eq_append_getElem h,List.foldl_append];rfl
def aJ (w0 w:F):Prop:=Below w0.heap.size w0 w
theorem aJ.refl (w:F):aJ w w:=Below.refl _ _
theorem aJ.drew (h:aJ w0 w):aJ w0 w.drew:=⟨h.os,h.tape,h.output,h.size,h.block⟩
theorem aJ.more (h:aJ w0 w)(hb:Below w.heap.size w w'):aJ w0 w':=bD h hb
theorem aJ.alloc (h:aJ w0 w)(o:Obj):aJ w0 (w.alloc o):=bD h (aU _ _)
theorem aJ.cell (h:aJ w0 w){a:Addr}{v:Y}(hc:w0.cell? a=M v):w.cell? a=M v:=cell_later h hc
theorem aJ.le (h:aJ w0 w):w0.heap.size<=w.heap.size:=h.size
theorem mP {r:Option Nat}(hg:w.grownBy w' r)(hb:w.heap[b]?=M o)(hne:¬r=M b):w'.heap[b]?=M o:=
 (hg.block b (aK hb) (fun e=>hne e.symm)).trans hb
theorem NP {w2:F}(h:Below B w w1)(hg:aJ w1 w2)(hB:B<=w1.heap.size):Below B w w2:=
 ⟨hg.os.trans h.os,hg.tape.trans h.tape,hg.output.trans h.output,Nat.le_trans h.size hg.size,fun b hb=>(hg.block b (by omega)).trans (h.block b hb)⟩
def NQ (q d a b c:Int):ByteArray:=(⟨#[74]⟩:ByteArray)++strOfNums [q]++strOfNums (Im d)++strOfNums (Im a)++strOfNums (Im b)++strOfNums (Im c)
def fO (q d a b c:Int):ByteArray:=NQ q d a b c++strOfNums (Im (kH (NQ q d a b c).data.toList))
theorem je (q d a b c:Int):(NQ q d a b c).size=18:=by
 simp[NQ,strOfNums,Im,ByteArray.size]
abbrev iB:=Int×gN×gN
def iB.cells (e:iB):List Y:=[I V e.1,e.2.1.v,e.2.2.v]
def CU (l:List iB):List Y:=l.flatMap iB.cells
theorem Ez (e:iB)(l:List iB):CU (e::l)=[I V e.1,e.2.1.v,e.2.2.v]++CU l:=rfl
theorem Ow (a b:List iB):CU (a++b)=CU a++CU b:=by simp[CU]
theorem NR (l:List iB):(CU l).length=l.length*3:=by
 induction l with
 |nil=>rfl
 |cons e l ih=>rw[Ez,List.length_append,ih];simp;omega
def cB (l:List (Int×Int))(pos:Int)(more:List (Int×Int)):List (Int×Int):=if more=[]then l else cO l pos++more++bJ l pos
def bY (l:List (Int×Int))(pos n:Int):List (Int×Int)×List (Int×Int):=if n=0 then (l,[])else (Il l pos n,vC l pos n)
def jf (ao:Option Addr)(n c:Nat):Prop:=ao=O->n=0/\c=0
theorem ED.below (h:ED w ao l)(hb:Below w.heap.size w w'):ED w' ao l:=h.fr (Fr.dO hb (fun _=>False)) (fun _ _ _=>id)
abbrev Ed:=Int×List (Int×Int)×List (Int×Int)
def bI (w:F)(x:gN)(l:List (Int×Int)):Prop:=ED w x.1 l/\x.2.1=l.length/\jf x.1 x.2.1 x.2.2
def uX (w:F)(r:iB)(e:Ed):Prop:=r.1=e.1/\bI w r.2.1 e.2.1/\bI w r.2.2 e.2.2
theorem bI.aM {x:gN}(h:bI w x l)(hg:aJ w w'):bI w' x l:=⟨h.1.below hg,h.2⟩
theorem uX.aM {r:iB}{e:Ed}(h:uX w r e)(hg:aJ w w'):uX w' r e:=⟨h.1,h.2.1.aM hg,h.2.2.aM hg⟩
abbrev bT:=List (Int×Int)×List Ed×List Ed×Int×Int
def rR (m:bT)(a b c most:Int)(depth:Nat):bT×Int:=
 if a<0\/sz m.1<a then (m,5)else if c<1\/200<c then (m,6)else if most<sz m.1+c then (m,7)
 else if 4096<(cB m.1 a [(b,c)]).length then (m,13)else ((cB m.1 a [(b,c)],((a,[],[(b,c)])::m.2.1).take depth,[],m.2.2.2.1+1,m.2.2.2.2+c),0)
theorem bI.fr {x:gN}(h:bI w x l)(hF:Fr w w' X)(hx:∀b aT,w.heap[b]?=M (C aT 114 (0,0))->¬X b):bI w' x l:=⟨h.1.fr hF hx,h.2⟩
def yQ (m:bT)(a b:Int)(depth:Nat):bT×Int:=
 if a<0\/b<1\/sz m.1<a\/sz m.1-a<b then (m,5)
 else if 4096<(bY m.1 a b).1.length then (m,13)else (((bY m.1 a b).1,((a,(bY m.1 a b).2,[])::m.2.1).take depth,[],m.2.2.2.1+1,m.2.2.2.2),0)
end Go.Proofs.YtfplgfodoiiobaaGreatDoor
