/- Walk10, Walk11, Walk12, HeldA, HeldB, HeldC, TreesA, TreesB, TreesC (joined). -/
import Derived.BigQuiet
import Derived.Deep.Draws
import Derived.Deep.QuietTactic
import Derived.Laws.AppendOwnNone
import Derived.Test.YtfplgfodoiiobaaGreatDoorD02
open Option renaming none→O,some→M
open Go.Value renaming int→I,slice→Z,pointer→U
open Go.IntKind renaming i64→V
open Go.Obj renaming cells→C
open Go.Ending renaming returned→G
open Go renaming World→F,Value→Y,Calls→H
open Go.Proofs.Tryz renaming prog→K
open Go.Proofs.Tryz
namespace Go.Proofs.YtfplgfodoiiobaaGreatDoor
set_option maxHeartbeats 2000000
set_option maxRecDepth 100000
open Go.RowKit
abbrev Adr:=@Nat.le_of_not_lt
abbrev AaX:=@List.mem_of_mem_take
abbrev Aax:=@List.eq_nil_of_length_eq_zero
abbrev AbO:=@Go.wpList_append_own_none
abbrev AbG:=@Go.wpList_append_own
abbrev Abk:=@List.getElem?_map
abbrev AcD:=@List.getElem?_eq_none
abbrev Aag:=@List.getElem?_eq_getElem
abbrev Abo:=@List.getD_eq_getElem?_getD
abbrev AcJ:=@Option.getD_some
abbrev AaY:=@List.mem_map
abbrev AaA:=@Go.World.ownsRow.lt
abbrev Aaw:=@List.length_take
abbrev AaP:=@List.length_drop
abbrev Acr:=@Nat.add_assoc
abbrev AbC:=@List.getElem?_take
abbrev AcB:=@List.getElem?_drop
abbrev Aaq:=@List.take_of_length_le
abbrev Aau:=@List.take_succ_eq_append_getElem
abbrev AaQ:=@List.drop_eq_getElem_cons
abbrev AaI:=@Go.World.ownsRow_nil
abbrev Aay:=@Go.World.ownsRow.alloc
variable {w w' w1:F}{l:List (Int×Int)}{tb B k h la ca:Nat}{ao root:Option Addr}{zs:List Int}{pos x y n:Int}{v:Y}
def xU (root:Option Addr):Obj:=C #[U root] 160 (0,0)
def dG (w:F)(tb:Nat)(l:List (Int×Int)):Prop:=∃root h,w.heap[tb]?=M (xU root)/\T w root h l/\eY l/\l.length<=4096
theorem vU (h:w.heap[tb]?=M (xU root)):w.cell? ⟨tb,0,O⟩=M (U root)/\w.frozen? ⟨tb,0,O⟩=false:=by
 simp[World.cell?,World.frozen?,h,xU]
theorem aM {b:Nat}{o:Obj}(e:w.heap[b]?=M o):b<w.heap.size:=by
 by_cases bP:b<w.heap.size
 ·exact bP
 ·rw[Adm (by omega)]at e;cases e
theorem dG.lt (t:dG w tb l):tb<w.heap.size:=by
 obtain⟨r,h,hb,-⟩:=t;exact aM hb
theorem dG.keep (t:dG w tb l)(hk:∀b c,w.heap[b]?=M c->(∃r,c=xU r)/\b=tb\/(∃la ra p h l,c=mZ la ra p h l)->w'.heap[b]?=w.heap[b]?):dG w' tb l:=by
 obtain⟨r,h,hb,ht,hr⟩:=t;exact⟨r,h,(hk tb _ hb (Aac ⟨⟨r,rfl⟩,rfl⟩)).trans hb,T.keep (fun b la ra p h l e=>hk b _ e (Aab ⟨la,ra,p,h,l,rfl⟩)) ht,hr⟩
theorem dG.below (t:dG w tb l)(hB:Below w.heap.size w w'):dG w' tb l:=
 t.keep fun b _ e _=>hB.block b (aM e)
theorem TA (w:F):H K 62 #[] w fun e w'=>e=G (U (M ⟨w.heap.size,0,O⟩))/\w'=w.alloc (xU O):=by
 go_enter func62,ntmps62
 go_wp2
 go_ret;exact⟨rfl,rfl⟩
theorem FO (w:F):dG (w.alloc (xU O)) w.heap.size []:=
 ⟨O,0,by show(w.heap.push _)[w.heap.size]?=_;rw[Array.getElem?_push,Aad rfl],T.nil _,vG,by simp⟩
theorem mM (t:dG w tb l):H K 92 #[U (M ⟨tb,0,O⟩)] w fun e w'=>e=G (I V (sz l))/\w'=w:=by
 obtain⟨r,h,hb,ht,-⟩:=t;obtain⟨c0,-⟩:=vU hb;clear hb;go_enter func92,ntmps92;go_wp2_with fail;refine(jT ht).mono ?_;rintro e w ⟨rfl,rfl⟩;go_wp2_with fail;go_ret;exact⟨rfl,rfl⟩
theorem Oy (t:dG w tb l):H K 64 #[U (M ⟨tb,0,O⟩)] w fun e w'=>
 ∃g,e=G (Z (M ⟨g,0,O⟩) l.length l.length)/\w'.ownsRow g 114 2 (Z (M ⟨g,0,O⟩) l.length l.length) l.length (Ie l)/\w.heap.size<=g/\Below w.heap.size w w':=by
 obtain⟨r,h,hb,ht,-,hlen⟩:=t;obtain⟨c0,-⟩:=vU hb;clear hb;go_enter func64,ntmps64;go_wp2_with fail;refine(FN ht (by omega)).mono ?_;rintro e w1 ⟨g,rfl,bD,hg,hB⟩;go_wp2_with fail;go_ret;exact⟨g,rfl,bD,hg,hB⟩
def FP (x y:Int):Prop:=1<=y/\y<=5000/\0<=x/\x<=1000000000
theorem TB (h:FP x y):mV (x,y):=by unfold FP at h;unfold mV;simp only;omega
theorem may_yes (h:FP x y):H K 93 #[.agg #[I V x,I V y]] w fun e w'=>e=G (.bool true)/\Below w.heap.size w w':=by
 obtain⟨h1,h2,h3,h4⟩:=h;go_enter func93,ntmps93
 go_wp2
 go_ret;exact⟨by simp[*],aP _ _⟩
theorem may_no (h:¬FP x y):H K 93 #[.agg #[I V x,I V y]] w fun e w'=>e=G (.bool false)/\Below w.heap.size w w':=by
 unfold FP at h;by_cases h1:1<=y
 ·by_cases h2:y<=5000
  ·by_cases h3:0<=x
   ·have h4:¬x<=1000000000:=(by omega);go_enter func93,ntmps93
    go_wp2
    go_ret;exact⟨by simp[*],aP _ _⟩
   ·go_enter func93,ntmps93
    go_wp2
    go_ret;exact⟨by simp[*],aP _ _⟩
  ·go_enter func93,ntmps93
   go_wp2
   go_ret;exact⟨by simp[*],aP _ _⟩
 ·go_enter func93,ntmps93
  go_wp2
  go_ret;exact⟨by simp[*],aP _ _⟩
theorem jZ (h:Below w.heap.size w w1)(g:Option Nat):w.grownBy w1 g:=⟨h.os,h.tape,h.output,h.size,fun k hk _=>h.block k hk⟩
theorem Xy (h:Below w.heap.size w w1)(tb i:Nat)(v:Y):w.grownBy (w1.setCell ⟨tb,i,O⟩ v) (M tb):=
 ⟨h.os,h.tape,h.output,by simpa[World.setCell]using h.size,fun k hk hne=>(Abm _ _ _ _ (by intro e;exact hne (by rw[e]))).trans (h.block k hk)⟩
theorem Oz (t:T w root h l)(hlen:4096<l.length):
 H K 95 #[U (M ⟨tb,0,O⟩),U root] w fun e w'=>e=G (I V 13)/\w'=w:=by
 have h1:((4096:Int)<(l.length:Int)):=by omega
 go_enter func95,ntmps95;go_wp2_with fail;refine(wE t).mono ?_;rintro e w ⟨rfl,rfl⟩;go_wp2_with fail;go_ret;exact⟨rfl,rfl⟩
theorem FQ {r:Option Addr}(hb:w.heap[tb]?=M (xU r))(t:T w root h l)(ok:eY l)(hlen:l.length<=4096):
 dG (w.setCell ⟨tb,0,O⟩ (U root)) tb l:=by
 refine⟨root,h,?_,T.BF (by simp[World.cell?,hb,xU]) t,ok,hlen⟩;exact one_setCell hb
theorem Xz {r:Option Addr}(hb:w.heap[tb]?=M (xU r))(t:T w root h l)(hlen:l.length<=4096):
 H K 95 #[U (M ⟨tb,0,O⟩),U root] w fun e w'=>e=G (I V 0)/\w'=w.setCell ⟨tb,0,O⟩ (U root):=by
 have h1:¬((4096:Int)<(l.length:Int)):=by omega
 obtain⟨c0,f0⟩:=vU hb;clear hb;go_enter func95,ntmps95;go_wp2_with fail;refine(wE t).mono ?_;rintro e w ⟨rfl,rfl⟩;go_wp2_with fail;go_ret;exact⟨rfl,rfl⟩
theorem OD (t:dG w tb l)(hp:pos<0\/sz l<pos):
 H K 63 #[U (M ⟨tb,0,O⟩),I V pos,.agg #[I V x,I V y]] w fun e w'=>e=G (I V 5)/\Below w.heap.size w w':=by
 by_cases h0:pos<0
 ·go_enter func63,ntmps63;go_wp2_with fail;go_ret;exact⟨rfl,aP _ _⟩
 ·have h1:sz l<pos:=by omega
  go_enter func63,ntmps63;go_wp2_with fail;refine(mM (t.below (aP _ _))).mono ?_;rintro e w1 ⟨rfl,rfl⟩;go_wp2_with fail;go_ret;exact⟨rfl,aP _ _⟩
theorem OE (t:dG w tb l)(h0:0<=pos)(h1:pos<=sz l)(hm:¬FP x y):
 H K 63 #[U (M ⟨tb,0,O⟩),I V pos,.agg #[I V x,I V y]] w fun e w'=>e=G (I V 1)/\Below w.heap.size w w':=by
 go_enter func63,ntmps63;go_wp2_with fail;refine(mM (t.below (aP _ _))).mono ?_;rintro e w1 ⟨rfl,rfl⟩;go_wp2_with fail;refine(may_no hm).mono ?_;rintro e w1 ⟨rfl,dY⟩;go_wp2_with fail;go_ret;exact⟨rfl,aQ (aP _ _) dY⟩
def FT (l:List (Int×Int))(pos:Int)(p:Int×Int):List (Int×Int):=dS l pos++p::bT l pos
theorem WW (t:dG w tb l)(h0:0<=pos)(h1:pos<=sz l)(hm:FP x y):
 H K 63 #[U (M ⟨tb,0,O⟩),I V pos,.agg #[I V x,I V y]] w fun e w'=>
  (4096<(FT l pos (x,y)).length/\e=G (I V 13)/\Below w.heap.size w w')
  \/((FT l pos (x,y)).length<=4096/\e=G (I V 0)/\dG w' tb (FT l pos (x,y))/\w.grownBy w' (M tb)):=by
 obtain⟨r,h,hb,ht,ok,hlen⟩:=id t;obtain⟨c0,-⟩:=vU hb;have bP:=aM hb;have bl:=lW ok;have hln:=qF l pos;have okh:=vQ ok pos;have EW:=kL ok pos;go_enter func63,ntmps63;go_wp2_with fail;refine(mM (t.below (aP _ _))).mono ?_;rintro e w1 ⟨rfl,rfl⟩;go_wp2_with fail;refine(may_yes hm).mono ?_;rintro e w1 ⟨rfl,dY⟩;have c1:=AaB (aQ (aP _ _) dY) c0;go_wp2_with fail;refine(Ml (ht.below (aQ (aP _ _) dY)) (by omega) ok (by omega)).mono ?_;rintro e w2 ⟨r1,g1,r2,g2,rfl,t1,t2,fV⟩;have k0:w2.cell? ⟨w.heap.size,0,O⟩=M (I V x):=AaB (aQ dY fV) (by simp);have k1:w2.cell? ⟨w.heap.size,1,O⟩=M (I V y):=AaB (aQ dY fV) (by simp);go_wp2_with fail;refine(wF x y t1 t2 (by omega) okh EW (TB hm)).mono ?_;rintro e w3 ⟨q,hq,rfl,tq,uM⟩;have B3:Below w.heap.size w w3:=aQ (aQ (aP _ _) dY) (aQ fV uM);have qG:w3.heap[tb]?=M (xU r):=(B3.block tb bP).trans hb;go_wp2_with fail;by_cases hf:4096<(FT l pos (x,y)).length
 ·refine(Oz tq hf).mono ?_;rintro e w3 ⟨rfl,rfl⟩;go_wp2_with fail;go_ret;exact Aac ⟨hf,rfl,B3⟩
 ·refine(Xz qG tq (Adr hf)).mono ?_;rintro e w4 ⟨rfl,rfl⟩;go_wp2_with fail;go_ret;exact Aab ⟨by omega,rfl,FQ qG tq (iD okh (mH (TB hm) EW)) (Adr hf),Xy B3 _ _ _⟩
theorem OG (t:dG w tb l)(Ox:n<=9223372036854775807)(hp2:pos<=9223372036854775807)(hp:n<0\/pos<0\/sz l<pos\/sz l-pos<n):
 H K 101 #[U (M ⟨tb,0,O⟩),I V pos,I V n] w fun e w'=>e=G (.tuple #[Z O 0 0,I V 5])/\w'=w:=by
 obtain⟨r,h,hb,ht,ok,hlen⟩:=id t;have bl:=lW ok;clear hb ht ok;by_cases h1:n<0
 ·go_enter func101,ntmps101;go_wp2_with fail;refine(mM t).mono ?_;rintro e w ⟨rfl,rfl⟩;go_wp2_with fail;go_ret2;exact⟨rfl,rfl⟩
 ·by_cases h2:pos<0
  ·go_enter func101,ntmps101;go_wp2_with fail;refine(mM t).mono ?_;rintro e w ⟨rfl,rfl⟩;go_wp2_with fail;go_ret2;exact⟨rfl,rfl⟩
  ·by_cases h3:sz l<pos
   ·go_enter func101,ntmps101;go_wp2_with fail;refine(mM t).mono ?_;rintro e w ⟨rfl,rfl⟩;go_wp2_with fail;go_ret2;exact⟨rfl,rfl⟩
   ·have h4:sz l-pos<n:=(by omega);go_enter func101,ntmps101;go_wp2_with fail;refine(mM t).mono ?_;rintro e w ⟨rfl,rfl⟩;go_wp2_with fail;go_ret2;exact⟨rfl,rfl⟩
theorem FU (t:dG w tb l)(h0:0<=pos)(h1:pos<=sz l):
 H K 101 #[U (M ⟨tb,0,O⟩),I V pos,I V 0] w fun e w'=>e=G (.tuple #[Z O 0 0,I V 0])/\w'=w:=by
 obtain⟨r,h,hb,ht,ok,hlen⟩:=id t;have bl:=lW ok;clear hb ht ok;go_enter func101,ntmps101;go_wp2_with fail;refine(mM t).mono ?_;rintro e w ⟨rfl,rfl⟩;go_wp2_with fail;go_ret2;exact⟨rfl,rfl⟩
def Kb (l:List (Int×Int))(pos n:Int):List (Int×Int):=dS l pos++bT (bT l pos) n
def wH (l:List (Int×Int))(pos n:Int):List (Int×Int):=dS (bT l pos) n
theorem WX (t:dG w tb l)(h0:0<=pos)(h1:pos<=sz l)(h2:0<n)(h3:n<=sz l-pos):
 H K 101 #[U (M ⟨tb,0,O⟩),I V pos,I V n] w fun e w'=>
  (4096<(Kb l pos n).length/\e=G (.tuple #[Z O 0 0,I V 13])/\Below w.heap.size w w')
  \/((Kb l pos n).length<=4096/\∃g,e=G (.tuple #[Z (M ⟨g,0,O⟩) (wH l pos n).length (wH l pos n).length,I V 0])
   /\w'.ownsRow g 114 2 (Z (M ⟨g,0,O⟩) (wH l pos n).length (wH l pos n).length) (wH l pos n).length (Ie (wH l pos n))/\w.heap.size<=g
   /\dG w' tb (Kb l pos n)/\w.grownBy w' (M tb)):=by
 obtain⟨r,h,hb,ht,ok,hlen⟩:=id t;obtain⟨c0,-⟩:=vU hb;have bP:=aM hb;have bl:=lW ok;have hln:=qF l pos;have hln2:=qF (bT l pos) n;have okh:=vQ ok pos;have EW:=kL ok pos;have okb:=kL EW n;have hn:(n==0)=false:=by simp;omega
 have hn':¬n<0:=by omega
 have hp':¬pos<0:=by omega
 go_enter func101,ntmps101;go_wp2_with fail;refine(mM t).mono ?_;rintro e w ⟨rfl,rfl⟩;go_wp2_with fail;refine(Ml ht (by omega) ok (by omega)).mono ?_;rintro e w1 ⟨r1,g1,r2,g2,rfl,t1,t2,dY⟩;go_wp2_with fail;refine(Ml t2 (by omega) EW (by omega)).mono ?_;rintro e w2 ⟨r3,g3,r4,g4,rfl,t3,t4,fV⟩;go_wp2_with fail;refine(OB (t1.below fV) t4 (by omega) okh okb).mono ?_;rintro e w3 ⟨q,hq,rfl,tq,uM⟩;have B3:Below w.heap.size w w3:=aQ dY (aQ fV uM);have qG:w3.heap[tb]?=M (xU r):=(B3.block tb bP).trans hb;go_wp2_with fail;by_cases hf:4096<(Kb l pos n).length
 ·refine(Oz tq hf).mono ?_;rintro e w3 ⟨rfl,rfl⟩;go_wp2_with fail;go_ret2;exact Aac ⟨hf,rfl,B3⟩
 ·refine(Xz qG tq (Adr hf)).mono ?_;rintro e w4 ⟨rfl,rfl⟩;have t4':=FQ qG tq (iD okh okb) (Adr hf);have tg:T (w3.setCell ⟨tb,0,O⟩ (U q)) r3 g3 (dS (bT l pos) n):=T.BF (by simp[World.cell?,qG,xU]) (t3.below uM);have G4:=Xy B3 tb 0 (U q);go_wp2_with fail;refine(FN tg (by omega)).mono ?_;rintro e w5 ⟨g,rfl,bD,hg,hB5⟩;go_wp2_with fail;go_ret2;refine Aab ⟨by omega,g,rfl,bD,?_,t4'.below hB5,lX G4 (jZ hB5 _)⟩;have:=B3.size;simp only[World.setCell,Array.size_modify]at hg;omega
theorem find_no (t:dG w tb l)(hp:pos<0\/sz l<=pos):
 H K 104 #[U (M ⟨tb,0,O⟩),I V pos] w fun e w'=>e=G (.tuple #[.agg #[I V 0,I V 0],I V 5])/\Below w.heap.size w w':=by
 by_cases h0:pos<0
 ·go_enter func104,ntmps104;go_wp2_with fail;exact Aan (v:= .tuple #[.agg #[I V 0,I V 0],I V 5]) (by simp[results,results104,go_sem]) rfl ⟨rfl,aP _ _⟩
 ·have h1:sz l<=pos:=by omega
  go_enter func104,ntmps104;go_wp2_with fail;refine(mM (t.below (aP _ _))).mono ?_;rintro e w1 ⟨rfl,rfl⟩;go_wp2_with fail;exact Aan (v:= .tuple #[.agg #[I V 0,I V 0],I V 5]) (by simp[results,results104,go_sem]) rfl ⟨rfl,aP _ _⟩
theorem ou (t:dG w tb l)(h0:0<=pos)(h1:pos<sz l):
 H K 104 #[U (M ⟨tb,0,O⟩),I V pos] w fun e w'=>
  ∃q:Int×Int,(bT l pos).head?=M q/\e=G (.tuple #[.agg #[I V q.1,I V q.2],I V 0])/\Below w.heap.size w w':=by
 obtain⟨r,h,hb,ht,ok,hlen⟩:=id t;obtain⟨c0,-⟩:=vU hb;have bP:=aM hb;clear hb;go_enter func104,ntmps104;go_wp2_with fail;refine(mM (t.below (aP _ _))).mono ?_;rintro e w1 ⟨rfl,rfl⟩;go_wp2_with fail;refine(om (ht.below (aP _ _)) (by omega) ok h0 h1).mono ?_;rintro e w1 ⟨⟨qx,qy⟩,E,rfl,dY⟩;have HE:Hid ((bT l pos).head?=M (qx,qy)):=E;clear E;have k0:w1.cell? ⟨w.heap.size,0,O⟩=M (I V 0):=(dY.cell (by simp)).trans (by simp);have k1:w1.cell? ⟨w.heap.size,1,O⟩=M (I V 0):=(dY.cell (by simp)).trans (by simp);have f0:w1.frozen? ⟨w.heap.size,0,O⟩=false:=(dY.frozen (by simp)).trans (by simp);have f1:w1.frozen? ⟨w.heap.size,1,O⟩=false:=(dY.frozen (by simp)).trans (by simp);go_wp2_with fail;refine Aan (v:= .tuple #[.agg #[I V qx,I V qy],I V 0]) (by simp[results,results104,go_sem,k0,k1]) rfl ⟨(qx,qy),HE.out,rfl,?_⟩;exact((aQ (aP w _) dY).setCell (p:=⟨w.heap.size,0,O⟩) (Aak _) _).setCell (p:=⟨w.heap.size,1,O⟩) (Aak _) _
theorem tmod_in {c:Int}(h0:0<=c)(hn:1<=n):0<=c.tmod n/\c.tmod n<n:=⟨Int.tmod_nonneg n h0,Int.tmod_lt_of_pos c (by omega)⟩
def Ya (w:F)(ao:Option Addr)(zs:List Int):Prop:=zs=[]\/∃b off,ao=M ⟨b,off,O⟩/\∀i,i<zs.length->w.cell? ⟨b,off+i,O⟩=M (I V (zs.getD i 0))
theorem Tryz.infoInt:(Tryz.prog.info? 3).map (fun i=>(i.zero,i.size,i.bytes))=M (M (I V 0),1,8):=by kernel_rfl
def Da (w:F)(ao:Option Addr)(l:List (Int×Int)):Prop:=l=[]\/∃b off,ao=M ⟨b,off,O⟩/\∀i,i<l.length->
 w.cell? ⟨b,off+i*2,O⟩=M (I V (l.getD i (0,0)).1)/\w.cell? ⟨b,off+i*2+1,O⟩=M (I V (l.getD i (0,0)).2)
def iZ (w:F)(B:Nat)(v:Y)(zs:List Int):Prop:=w.ownsRow B 3 1 v zs.length (zs.map (Value.int V))
theorem BG (l:List (Int×Int))(i:Nat)(h:i<l.length):(Ie l)[i*2]?=M (I V (l.getD i (0,0)).1)/\(Ie l)[i*2+1]?=M (I V (l.getD i (0,0)).2):=by
 induction l generalizing i with
 |nil=>simp at h
 |cons p l ih=>
  cases i with
  |zero=>simp[wG]
  |succ i=>
   have:=ih i (by simpa using h);rw[wG,show(i+1)*2=i*2+1+1 from by omega];simpa using this
theorem Da.own {g:Nat}{n c:Nat}(h:w.ownsRow B 114 2 (Z (M ⟨g,0,O⟩) n c) n (Ie l)):Da w (M ⟨g,0,O⟩) l:=by
 refine Aab ⟨g,0,rfl,fun i hi=>?_⟩;obtain⟨h1,h2⟩:=BG l i hi;have e1:=h.cells rfl _ _ h1;have e2:=h.cells rfl _ _ h2;simp only[Ach];refine⟨?_,?_⟩
 ·cases i with
  |zero=>simpa[Addr.add]using e1
  |succ i=>simpa[Addr.add]using e1
 ·simpa[Addr.add]using e2
theorem Da.below (h:Da w ao l)(hB:Below w.heap.size w w'):Da w' ao l:=by
 rcases h with rfl|⟨b,off,rfl,hc⟩
 ·left;rfl
 ·exact Aab ⟨b,off,rfl,fun i hi=>⟨AaB hB (hc i hi).1,AaB hB (hc i hi).2⟩⟩
theorem ow (h:eY l)(k:Nat):eY (l.take k):=fun p hp=>h p (AaX hp)
theorem iZ.push {v1:Y}(h:w1.ownsRow B 3 1 v1 (zs.length+1) (zs.map (Value.int V)++ [I V x])):iZ w1 B v1 (zs++ [x]):=by
 unfold iZ;simpa using h
theorem wJ {ops:Array Oper}{rest:List Oper}{o:Oper}{a:Act}{Q:Exit->Act->F->Prop}(qR:o.guard=O)(s x:Operand)
 (ho:o.op= .call { callee:= .builtin .append,args:=#[s,x],argTypes:=#[60,60] })
 (base:Nat)(v:Y)(ys zs:List Int)(hs:a.eval s=v)(bD:iZ w base v ys)(ao:Option Addr)(m c:Nat)(hx:a.eval x=Z ao m c)(hm:m=zs.length)(gL:ao=O->zs.length=0/\c=0)(hr:Ya w ao zs)
 (hlen:ys.length+zs.length<=1000000000)(iK:base<=w.heap.size)
 (h:∀v' w',iZ w' base v' (ys++zs)->w.grownBy w' v.ownBlock->wpList K ops Q rest (a.put o.dst v') w'):wpList K ops Q (o::rest) a w:=by
 obtain⟨i0,hi,oG,nM,oP⟩:=AaW Tryz.infoInt;subst hm;cases ao with
 |none=>
  obtain⟨h1,rfl⟩:=gL rfl;have hz:zs=[]:=Aax h1;subst hz;exact AbO qR s x 60 ho base 3 i0 1 underlying60 hi v _ _ hs bD hx (h v w (by simpa using bD) (Abn _ _))
 |some ad=>
  refine AbG w qR s x 60 ho base 3 i0 (I V 0) 1 8 underlying60 hi oG nM oP rfl (by decide) v ys.length (ys.map (Value.int V)) hs bD ad zs.length c (zs.map (Value.int V)) hx (by simp) ?_ ?_ (by unfold maxLen;omega) (by omega) iK ?_
  ·intro j u hj;rcases hr with rfl|⟨b,off,e,hc⟩
   ·simp at hj
   ·cases e
    rw[Abk]at hj
    have bP:j<zs.length:=by
     by_cases bP:j<zs.length
     ·exact bP
     ·rw[AcD (by omega)]at hj;simp at hj
    rw[Aag bP]at hj;simp at hj;subst hj;have:=hc j bP;simp only[Abo,Aag bP,AcJ]at this;cases j with
    |zero=>simpa[Addr.add]using this
    |succ j=>simpa[Addr.add]using this
  ·intro u hu;obtain⟨z,-,rfl⟩:=AaY.1 hu;rfl
  ·intro v' w' h1 h2 _;refine h v' w' ?_ h2;unfold iZ;simpa using h1
theorem iZ.form (h:iZ w B v zs):
 ∃ao cap,v=Z ao zs.length cap/\Ya w ao zs/\zs.length<=cap/\(ao=O->zs.length=0/\cap=0)/\(∀g o,ao=M ⟨g,o,O⟩->B<=g):=by
 have hc:=fun g hg=>h.cells (g:=g) hg;obtain⟨-,h2⟩:=h;rcases h2 with⟨rfl,h3⟩|⟨g,cap,aS,rfl,hg,hh,iI,-,-,-⟩
 ·exact⟨O,0,by rw[h3],Aac (Aax h3),by omega,fun _=>⟨h3,rfl⟩,(fun _ _ e=>by cases e)⟩
 ·refine⟨M ⟨g,0,O⟩,cap,rfl,Aab ⟨g,0,rfl,fun i hi=>?_⟩,iI,(fun e=>by cases e),(fun g' o e=>by cases e;exact hg)⟩;have:=hc g rfl i (I V (zs.getD i 0)) (by simp[hi]);cases i with
  |zero=>simpa[Addr.add]using this
  |succ i=>simpa[Addr.add]using this
theorem iZ.kept {g:Option Nat}(h:iZ w B v zs)(hg:w.grownBy w' g)(hne:∀t,g=M t->t<B):iZ w' B v zs:=by
 refine World.ownsRow.kept h hg ?_;cases hv:v.ownBlock with
 |none=>exact Aac rfl
 |some k=>
  refine Aab (fun e=>?_);have h1:=AaA h k hv;have h2:=hne k e.symm;omega
theorem iZ.below (h:iZ w B v zs)(hB:Below w.heap.size w w'):iZ w' B v zs:=
 h.kept (jZ hB O) (fun _ e=>by cases e)
theorem Ya.sub {cap p q:Nat}(h:Ya w ao zs)(iI:zs.length<=cap)(hpq:p<=q)(hq:q<=zs.length):
 Ya w (if cap=p then ao else ao.map (·.add p)) ((zs.drop p).take (q-p)):=by
 rcases h with rfl|⟨b,off,rfl,hc⟩
 ·left;simp
 ·by_cases hz:q=p
  ·left;subst hz;simp
  ·have hne:¬cap=p:=(by omega);right;refine⟨b,off+p,?_,fun i hi=>?_⟩
   ·rw[Aaa hne];cases p with
    |zero=>simp[Addr.add]
    |succ p=>simp[Addr.add]
   ·rw[Aaw,AaP]at hi;have:=hc (p+i) (by omega);rw[<-Acr]at this;rw[this];congr 1;simp only[Abo];rw[AbC,Aad (by omega),AcB]
theorem Ya.head {q:Nat}(h:Ya w ao zs)(hq:q<=zs.length):Ya w ao (zs.take q):=by
 rcases h with rfl|⟨b,off,rfl,hc⟩
 ·left;simp
 ·right;refine⟨b,off,rfl,fun i hi=>?_⟩;rw[Aaw]at hi;rw[hc i (by omega)];congr 1;simp only[Abo];rw[AbC,Aad (by omega)]
theorem Ya.below (h:Ya w ao zs)(hB:Below w.heap.size w w'):Ya w' ao zs:=by
 rcases h with rfl|⟨b,off,rfl,hc⟩
 ·left;rfl
 ·exact Aab ⟨b,off,rfl,fun i hi=>AaB hB (hc i hi)⟩
theorem Ya.grown (h:Ya w ao zs)(hg:w.grownBy w' (M tb))(Kc:∀g o,ao=M ⟨g,o,O⟩->tb<g):Ya w' ao zs:=by
 rcases h with rfl|⟨b,off,rfl,hc⟩
 ·left;rfl
 ·exact Aab ⟨b,off,rfl,fun i hi=>Sd hg (by have:=Kc b off rfl;omega) (hc i hi)⟩
theorem iZ.weak {B':Nat}(h:iZ w B' v zs)(hB:B<=B'):iZ w B v zs:=by
 obtain⟨h1,h2⟩:=h;refine⟨h1,?_⟩;rcases h2 with h2|⟨g,cap,aS,hv,hg,hh⟩
 ·exact Aac h2
 ·exact Aab ⟨g,cap,aS,hv,Aam hB hg,hh⟩
theorem Ya.tail {cap p:Nat}(h:Ya w ao zs)(iI:zs.length<=cap)(hp:p<=zs.length):Ya w (if cap=p then ao else ao.map (·.add p)) (zs.drop p):=by
 have:=h.sub (p:=p) iI hp (Aak _);rwa[Aaq (by rw[AaP];omega)]at this
theorem bB (h:Below w.heap.size w w1)(n:Nat):Below w.heap.size w (w1.drewN n):=⟨h.os,h.tape,h.output,h.size,h.block⟩
def fZ:List (Int×Int)->Int->Int->List (Int×Int)
 | [],_,_=> []
 |p::l,f,t=>(if max f 0<min t p.2 then [(p.1+max f 0,min t p.2-max f 0)]else [])++fZ l (f-p.2) (t-p.2)
theorem Ez (h:eY l):∀ {f:Int} (t:Int),f<=0->fZ l f t=dS l t:=by
 induction l with
 |nil=>intros;rfl
 |cons p l ih=>
  intro f t hf;have h2:=eZ h;unfold mV at h2;simp only[fZ,dS];rw[ih (dM h) _ (by omega),show max f 0=0 from by omega];by_cases h0:t<=0
  ·rw[Aaa (by omega),Aad h0,oJ _ (by omega)];rfl
  ·rw[Aad (by omega),Aaa h0];by_cases h1:p.2<=t
   ·rw[Aad h1,show min t p.2=p.2 from by omega];simp
   ·rw[Aaa h1,oJ _ (by omega),show min t p.2=t from by omega];simp
theorem BH (h:eY l):∀ {f:Int} (t:Int),0<=f->fZ l f t=dS (bT l f) (t-f):=by
 induction l with
 |nil=>intros;rfl
 |cons p l ih=>
  intro f t hf;have h2:=eZ h;unfold mV at h2;by_cases h0:f<=0
  ·have:f=0:=(by omega);subst this;rw[Ez h _ (AaZ _),yP _ (AaZ _),Int.sub_zero]
  ·simp only[fZ,bT];rw[Aaa h0];by_cases h1:p.2<=f
   ·rw[Aad h1,Aaa (by omega),ih (dM h) _ (by omega),show t-p.2-(f-p.2)=t-f from by omega];rfl
   ·rw[Aaa h1,Ez (dM h) _ (by omega)];simp only[dS];rw[show max f 0=f from by omega];by_cases h3:t-f<=0
    ·rw[Aad h3,Aaa (by omega),oJ _ (by omega)];rfl
    ·rw[Aaa h3];by_cases h4:p.2-f<=t-f
     ·rw[Aad h4,Aad (by omega),show min t p.2=p.2 from by omega,show t-f-(p.2-f)=t-p.2 from by omega];rfl
     ·rw[Aaa h4,Aad (by omega),show min t p.2=t from by omega,oJ _ (by omega)];simp
theorem xV (h:eY l):∀ {p n:Int},0<=p->0<=n->bT (bT l p) n=bT l (p+n):=by
 induction l with
 |nil=>intros;rfl
 |cons q l ih=>
  intro p n hp hn;have h2:=eZ h;unfold mV at h2;by_cases h0:p<=0
  ·have:p=0:=(by omega);subst this;rw[yP _ (AaZ _),Int.zero_add]
  ·simp only[bT];rw[Aaa h0,Aaa (show ¬p+n<=0 by omega)];by_cases h1:q.2<=p
   ·rw[Aad h1,Aad (show q.2<=p+n by omega),ih (dM h) (by omega) hn,show p-q.2+n=p+n-q.2 from by omega]
   ·rw[Aaa h1];simp only[bT];by_cases h3:n<=0
    ·have:n=0:=(by omega);subst this;rw[Aad (AaZ _),Aaa (by omega)];simp
    ·rw[Aaa h3];by_cases h4:q.2-p<=n
     ·rw[Aad h4,Aad (show q.2<=p+n by omega),show n-(q.2-p)=p+n-q.2 from by omega]
     ·rw[Aaa h4,Aaa (by omega)];simp;omega
theorem Yb (h:eY l){f:Int}(h0:0<=f)(h1:f<=sz l):fZ l f (sz l)=bT l f:=by
 rw[BH h _ h0,Ew (kL h f) (by rw[mJ h h0 h1];omega)]
theorem cut_eq (h:eY l)(h0:0<=pos)(hn:0<=n)(h1:n<=sz l-pos):
 fZ l 0 pos++fZ l (pos+n) (sz l)=dS l pos++bT (bT l pos) n/\fZ l pos (pos+n)=dS (bT l pos) n:=by
 rw[Ez h _ (AaZ _),Yb h (by omega) (by omega),xV h h0 hn,BH h _ h0,show pos+n-pos=n from by omega];exact⟨rfl,rfl⟩
def gY (w:F)(B:Nat)(v:Y)(l:List (Int×Int)):Prop:=w.ownsRow B 114 2 v l.length (Ie l)
theorem BI (h:k<l.length):sz (l.take (k+1))=sz (l.take k)+(l.getD k (0,0)).2:=by
 rw[Aau h,oI];simp[sz,h]
theorem Sg (ok:eY l)(hlen:l.length<=9000)(k:Nat):0<=sz (l.take k)/\sz (l.take k)<=45000000:=by
 have:=lW (ow ok k);have h2:(l.take k).length<=9000:=by rw[Aaw];omega
 omega
theorem Da.at (h:Da w ao l)(hk:k<l.length):
 ∃b off,ao=M ⟨b,off,O⟩/\w.cell? ⟨b,off+k*2,O⟩=M (I V (l.getD k (0,0)).1)/\w.cell? ⟨b,off+k*2+1,O⟩=M (I V (l.getD k (0,0)).2):=by
 rcases h with rfl|⟨b,off,h1,h2⟩
 ·simp at hk
 ·exact⟨b,off,h1,h2 k hk⟩
theorem oz (ok:eY l)(hk:k<l.length):mV (l.getD k (0,0)):=ok _ (by simp[hk])
theorem fO (hr:Da w ao l)(e1:la=l.length)(ok:eY l)(hlen:l.length<=9000):
 H K 106 #[Z ao la ca] w fun e w'=>e=G (I V (sz l))/\w'=w:=by
 subst e1;go_enter func106,ntmps106;go_wp2_with fail
 go_loop [3,4] (fun n i=> ∃k:Nat,k<=l.length/\i=I V (k:Int)/\n=I V (sz (l.take k))) (fun _ i=>l.length-(intOf i).toNat)
 case atStart=>exact⟨0,Aap _,rfl,rfl⟩
 case round=>
  obtain⟨k,hk,rfl,rfl⟩:=hrel;have hb:=Sg ok hlen k;by_cases bP:k<l.length
  ·obtain⟨b,off,rfl,c1,c2⟩:=hr.at bP;have pq:=oz ok bP;have HS:Hid (sz (l.take (k+1))=sz (l.take k)+(l.getD k (0,0)).2):=BI bP;generalize l.getD k (0,0)=p at c1 c2 pq HS;obtain⟨px,py⟩:=p;simp only at c1 c2 HS;unfold mV at pq;simp only at pq;have i1:(0:Int)<=(k:Int):=(by omega);have i2:(k:Int)<(l.length:Int):=(by omega);clear hr;go_wp2_with fail
   go_round
   case rel=>exact⟨k+1,by omega,by go_num,by rw[HS.out]⟩
   case measure=>simp[intOf];omega
  ·go_wp2_with fail;go_ret;exact⟨by rw[Aaq (by omega)];rfl,rfl⟩
theorem pu {bo:Option Addr}{lb cb:Nat}(ha:Da w ao l)(hb:Da w bo l)(e1:la=l.length)(e2:lb=l.length)(hlen:l.length<=100000000):
 H K 65 #[Z ao la ca,Z bo lb cb] w fun e w'=>e=G (.bool true)/\∃n,w'=w.drewN n:=by
 subst e1 e2;go_enter func65,ntmps65;go_wp2_with fail
 go_loopw [5] (fun i wr=> ∃k:Nat,k<=l.length/\i=I V (k:Int)/\∃n,wr=w.drewN n) (fun i _=>l.length-(intOf i).toNat)
 case atStart=>exact⟨0,Aap _,rfl,0,rfl⟩
 case round=>
  obtain⟨k,hk,rfl,n,rfl⟩:=hrel;by_cases bP:k<l.length
  ·obtain⟨b1,o1,rfl,c1,c2⟩:=ha.at bP;obtain⟨b2,o2,rfl,d1,d2⟩:=hb.at bP;generalize l.getD k (0,0)=p at c1 c2 d1 d2;obtain⟨px,py⟩:=p;simp only at c1 c2 d1 d2;have i1:(0:Int)<=(k:Int):=(by omega);have i2:(k:Int)<(l.length:Int):=(by omega);clear ha hb;go_wp2_with fail;go_quiet (fail);go_wp2_with fail;go_roundw
   case rel=>exact⟨k+1,by omega,by go_num,_,rfl⟩
   case measure=>simp[intOf];omega
  ·go_wp2_with fail;go_ret;exact⟨rfl,n,rfl⟩
theorem gY.push {v1:Y}(h:w1.ownsRow B 114 2 v1 (l.length+1) (Ie l++ [I V x,I V y])):gY w1 B v1 (l++ [(x,y)]):=by
 unfold gY;rw[Ig];simpa[Ie]using h
theorem nN {wr:F}{o:Obj}(hB:Below B w wr)(hs:B<=wr.heap.size)(bD:gY wr B v l)(hg:(wr.alloc o).grownBy w1 v.ownBlock):Below B w w1:=
 (hB.alloc hs o).grown hg (by simp;omega) (fun k e=>(AaA bD k e).1)
theorem WY (hk:k<l.length)(f t:Int):
 fZ (l.drop k) f t=(if max f 0<min t (l.getD k (0,0)).2 then [((l.getD k (0,0)).1+max f 0,min t (l.getD k (0,0)).2-max f 0)]else [])++fZ (l.drop (k+1)) (f-(l.getD k (0,0)).2) (t-(l.getD k (0,0)).2):=by
 rw[AaQ hk];simp[fZ,hk]
theorem yS {f t:Int}(hr:Da w ao l)(e1:la=l.length)(ok:eY l)(hlen:l.length<=9000)
 (hf:0<=f)(Ii:f<=1000000000)(ht:0<=t)(ht2:t<=1000000000):
 H K 165 #[Z ao la ca,I V f,I V t] w fun e w'=> ∃v,e=G v/\gY w' w.heap.size v (fZ l f t)/\Below w.heap.size w w':=by
 subst e1;obtain⟨i0,hi,oG,nM,oP⟩:=AaW Tryz.infoPiece;go_enter func165,ntmps165;go_wp2_with fail
 go_loopw [7,8,9,10,11] (fun v a i _ _ wr=> ∃(k:Nat) (out:List (Int×Int)),k<=l.length/\i=I V (k:Int)/\a=I V (sz (l.take k))/\gY wr w.heap.size v out/\Below w.heap.size w wr/\out.length<=k
  /\fZ l f t=out++fZ (l.drop k) (f-sz (l.take k)) (t-sz (l.take k))) (fun _ _ i _ _ _=>l.length-(intOf i).toNat)
 case atStart=>exact⟨0,[],Aap _,rfl,rfl,AaI _ _ _ _,AaS _ _,by simp,by simp[sz]⟩
 case round=>
  obtain⟨k,out,hk,rfl,rfl,bD,hB,hout,E⟩:=hrel;have hb:=Sg ok hlen k;by_cases bP:k<l.length
  ·obtain⟨b,off,rfl,c1,c2⟩:=hr.at bP;have pq:=oz ok bP;have HS:Hid (sz (l.take (k+1))=sz (l.take k)+(l.getD k (0,0)).2):=BI bP
   have HP:Hid (fZ l f t=out++((if max (f-sz (l.take k)) 0<min (t-sz (l.take k)) (l.getD k (0,0)).2 then [((l.getD k (0,0)).1+max (f-sz (l.take k)) 0,min (t-sz (l.take k)) (l.getD k (0,0)).2-max (f-sz (l.take k)) 0)]else [])
    ++fZ (l.drop (k+1)) (f-sz (l.take k)-(l.getD k (0,0)).2) (t-sz (l.take k)-(l.getD k (0,0)).2))):=by
    show _=_;rw[E,WY bP]
   generalize l.getD k (0,0)=p at c1 c2 pq HS HP;generalize hA:sz (l.take k)=A at hb HS HP ⊢;obtain⟨px,py⟩:=p;simp only at c1 c2 HS HP;unfold mV at pq;simp only at pq;have i1:(0:Int)<=(k:Int):=(by omega);have i2:(k:Int)<(l.length:Int):=(by omega);have d1:=AaB hB c1;have d2:=AaB hB c2;have hs:=hB.size;clear hr E hA;by_cases hF:f-A<0
   ·by_cases hT:py<t-A
    ·by_cases hc:0<py
     ·go_wp2_with (at_builtin;go_must (refine AbG _ rfl (.tmp 41) (.tmp 53) 102 rfl w.heap.size 114 i0 (.agg #[I V 0,I V 0]) 2 16 underlying102 hi oG nM oP rfl (by decide) _ _ _ rfl (Aay bD _) ⟨_,0,O⟩ 1 1 [I V _,I V _] rfl rfl (Adv _ _ _ _) (by simp[Value.oneCell']) (by unfold maxLen;omega) (by omega) (by simp;omega) ?_);intro v1 w1 nA iJ _;have D2:=AaB (nN hB hs bD iJ) c2);go_roundw
      case rel=>exact⟨k+1,_,by omega,by go_num,by rw[HS.out],gY.push nA,nN hB hs bD iJ,by simp;omega,by rw[HP.out,Aad (by omega),HS.out,show max (f-A) 0=0 from by omega,show min (t-A) py=py from by omega];simp[Int.sub_sub]⟩
      case measure=>simp[intOf];omega
     ·omega
    ·by_cases hc:0<t-A
     ·go_wp2_with (at_builtin;go_must (refine AbG _ rfl (.tmp 41) (.tmp 53) 102 rfl w.heap.size 114 i0 (.agg #[I V 0,I V 0]) 2 16 underlying102 hi oG nM oP rfl (by decide) _ _ _ rfl (Aay bD _) ⟨_,0,O⟩ 1 1 [I V _,I V _] rfl rfl (Adv _ _ _ _) (by simp[Value.oneCell']) (by unfold maxLen;omega) (by omega) (by simp;omega) ?_);intro v1 w1 nA iJ _;have D2:=AaB (nN hB hs bD iJ) c2);go_roundw
      case rel=>exact⟨k+1,_,by omega,by go_num,by rw[HS.out],gY.push nA,nN hB hs bD iJ,by simp;omega,by rw[HP.out,Aad (by omega),HS.out,show max (f-A) 0=0 from by omega,show min (t-A) py=t-A from by omega];simp[Int.sub_sub]⟩
      case measure=>simp[intOf];omega
     ·go_wp2_with fail;go_roundw
      case rel=>exact⟨k+1,out,by omega,by go_num,by rw[HS.out],bD,hB,by omega,by rw[HP.out,Aaa (by omega),HS.out];simp[Int.sub_sub]⟩
      case measure=>simp[intOf];omega
   ·by_cases hT:py<t-A
    ·by_cases hc:f-A<py
     ·go_wp2_with (at_builtin;go_must (refine AbG _ rfl (.tmp 41) (.tmp 53) 102 rfl w.heap.size 114 i0 (.agg #[I V 0,I V 0]) 2 16 underlying102 hi oG nM oP rfl (by decide) _ _ _ rfl (Aay bD _) ⟨_,0,O⟩ 1 1 [I V _,I V _] rfl rfl (Adv _ _ _ _) (by simp[Value.oneCell']) (by unfold maxLen;omega) (by omega) (by simp;omega) ?_);intro v1 w1 nA iJ _;have D2:=AaB (nN hB hs bD iJ) c2);go_roundw
      case rel=>exact⟨k+1,_,by omega,by go_num,by rw[HS.out],gY.push nA,nN hB hs bD iJ,by simp;omega,by rw[HP.out,Aad (by omega),HS.out,show max (f-A) 0=f-A from by omega,show min (t-A) py=py from by omega];simp[Int.sub_sub]⟩
      case measure=>simp[intOf];omega
     ·go_wp2_with fail;go_roundw
      case rel=>exact⟨k+1,out,by omega,by go_num,by rw[HS.out],bD,hB,by omega,by rw[HP.out,Aaa (by omega),HS.out];simp[Int.sub_sub]⟩
      case measure=>simp[intOf];omega
    ·by_cases hc:f-A<t-A
     ·go_wp2_with (at_builtin;go_must (refine AbG _ rfl (.tmp 41) (.tmp 53) 102 rfl w.heap.size 114 i0 (.agg #[I V 0,I V 0]) 2 16 underlying102 hi oG nM oP rfl (by decide) _ _ _ rfl (Aay bD _) ⟨_,0,O⟩ 1 1 [I V _,I V _] rfl rfl (Adv _ _ _ _) (by simp[Value.oneCell']) (by unfold maxLen;omega) (by omega) (by simp;omega) ?_);intro v1 w1 nA iJ _;have D2:=AaB (nN hB hs bD iJ) c2);go_roundw
      case rel=>exact⟨k+1,_,by omega,by go_num,by rw[HS.out],gY.push nA,nN hB hs bD iJ,by simp;omega,by rw[HP.out,Aad (by omega),HS.out,show max (f-A) 0=f-A from by omega,show min (t-A) py=t-A from by omega];simp[Int.sub_sub]⟩
      case measure=>simp[intOf];omega
     ·go_wp2_with fail;go_roundw
      case rel=>exact⟨k+1,out,by omega,by go_num,by rw[HS.out],bD,hB,by omega,by rw[HP.out,Aaa (by omega),HS.out];simp[Int.sub_sub]⟩
      case measure=>simp[intOf];omega
  ·go_wp2_with fail;go_ret;exact⟨_,rfl,by rw[E,List.drop_of_length_le (by omega)];simpa[fZ]using bD,hB⟩
end Go.Proofs.YtfplgfodoiiobaaGreatDoor
