/- RefI, RefJ, RefK, RefL (joined). -/
import Derived.Test.YtfplgfodoiiobaaGreatDoorJ08
open Option renaming none→O,some→M
open Go.Value renaming int→I,slice→Z,pointer→U
open Go.IntKind renaming i64→V
open Go.Obj renaming cells→C
open Go.Ending renaming returned→G
open Go renaming World→F,Value→Y,Calls→H
open Go.Proofs.Tryz renaming prog→K
namespace Go.Proofs.YtfplgfodoiiobaaGreatDoor
set_option maxHeartbeats 1000000
set_option maxRecDepth 100000
open Go.RowKit
variable {w w1:F}{xb k i B:Nat}{ao:Option Addr}{r:fF}{n:Int}{f1:bS}
abbrev bE:=Int×ByteArray×Int
variable {l fs out aF:List bE}{f g:bE}
def bE.cells (f:bE):List Y:=[I V f.1,.string f.2.1,I V f.2.2]
def Oj (l:List bE):List Y:=l.flatMap bE.cells
theorem Ce (e:bE)(l:List bE):Oj (e::l)=[I V e.1,.string e.2.1,I V e.2.2]++Oj l:=rfl
theorem Qw (a b:List bE):Oj (a++b)=Oj a++Oj b:=by simp[Oj]
theorem Pj:∀(l:List bE) (i:Nat) (f:bE),l[i]?=M f->(Oj l)[i*3]?=M (I V f.1)/\(Oj l)[i*3+1]?=M (.string f.2.1)/\(Oj l)[i*3+2]?=M (I V f.2.2):=by
 intro l
 induction l with
 |nil=>intro i f h;simp at h
 |cons e l ih=>
  intro i f h;cases i with
  |zero=>simp at h;subst h;simp[Ce]
  |succ i=>
   have:=ih i f (by simpa using h);rw[Ce,show(i+1)*3=i*3+1+1+1 from by omega];simpa using this
def Uq (w:F)(ao:Option Addr)(l:List bE):Prop:=
 (l=[]\/∃b off,ao=M ⟨b,off,O⟩/\∀j u,(Oj l)[j]?=M u->w.cell? ⟨b,off+j,O⟩=M u)/\∀a,ao=M a->∃aS,w.heap[a.block]?=M (C aS 193 (0,0))
def lY (w:F)(B:Nat)(v:Y)(l:List bE):Prop:=w.ownsRow B 193 3 v l.length (Oj l)
theorem Uq.fr {w':F}{X:Nat->Prop}(h:Uq w ao l)(hF:Fr w w' X)(hx:∀b aS,w.heap[b]?=M (C aS 193 (0,0))->¬X b):Uq w' ao l:=by
 obtain⟨h1,h2⟩:=h;refine⟨?_,fun a e=>?_⟩
 ·rcases h1 with h1|⟨b,off,e,hc⟩
  ·exact Or.inl h1
  ·refine Or.inr ⟨b,off,e,fun j u hu=>?_⟩;obtain⟨aS,hb⟩:=h2 _ e;have pX:w'.heap[b]?=w.heap[b]?:=hF.2 b (aM hb) (hx _ _ hb);exact(World.cell?_of_block (a:=⟨b,off+j,O⟩) pX).trans (hc j u hu)
 ·obtain⟨aS,hb⟩:=h2 a e;exact⟨aS,hF.at hb (hx _ _ hb)⟩
theorem Uq.aN {w':F}(h:Uq w ao l)(hg:aL w w'):Uq w' ao l:=h.fr (Fr.cZ hg (fun _=>False)) (fun _ _ _=>id)
theorem Uq.nil (w:F):Uq w O []:=⟨Or.inl rfl,fun _ e=>by cases e⟩
theorem Uq.at (h:Uq w ao l)(hf:l[i]?=M f):
 ∃b off,ao=M ⟨b,off,O⟩/\w.cell? ⟨b,off+i*3,O⟩=M (I V f.1)/\w.cell? ⟨b,off+i*3+1,O⟩=M (.string f.2.1)/\w.cell? ⟨b,off+i*3+2,O⟩=M (I V f.2.2):=by
 rcases h.1 with rfl|⟨b,off,e,hc⟩
 ·simp at hf
 ·obtain⟨h1,h2,h3⟩:=Pj l i f hf;exact⟨b,off,e,hc _ _ h1,by rw[Nat.add_assoc];exact hc _ _ h2,by rw[Nat.add_assoc];exact hc _ _ h3⟩
structure Sc where
 most:Int
 depth:Int
 room:Int
 jH:Bool
 after:Int
 one:Int
 rest:Int
 refusing:Bool
 left:Int
 aX:Bool
 ro:Bool
 bC:Int
variable {s:Sc}
def bM (s:Sc)(f:bS)(m:fF):Obj:=C #[I V s.most,I V s.depth,I V s.room,f.v,.bool s.jH,I V s.after,I V s.one,I V s.rest,.bool s.refusing,I V s.left,.bool s.aX,.bool s.ro,I V s.bC,
 m.1.v,m.2.1.v,m.2.2.1.v,I V m.2.2.2.1,I V m.2.2.2.2] 189 (0,0)
def gU (w:F)(x:bS)(l:List bE):Prop:=Uq w x.1 l/\x.2.1=l.length/\vY x.1 x.2.1 x.2.2
def Qx (B:Nat)(f:bS):Prop:=∀a,f.1=M a->B<=a.block
def bH (w:F)(xb:Nat)(s:Sc)(fs:List bE)(m:dF)(f:bS):Prop:=∃r:fF,w.heap[xb]?=M (bM s f r)/\gU w f fs/\dQ w r m
def jN (w w':F)(xb:Nat)(f f':bS):Prop:=Fr w w' (fun b=>b=xb\/∃a,f.1=M a/\b=a.block)/\(w'.os=w.os/\w'.tape=w.tape/\w'.output=w.output)/\(f'=f\/Qx w.heap.size f')
theorem jN.refl (w:F)(xb:Nat)(f:bS):jN w w xb f f:=⟨Fr.refl _ _,⟨rfl,rfl,rfl⟩,Or.inl rfl⟩
theorem jN.trans {w2:F}{f f2:bS}(h1:jN w w1 xb f f1)(h2:jN w1 w2 xb f1 f2):jN w w2 xb f f2:=by
 obtain⟨⟨a1,a2⟩,⟨o1,o2,o3⟩,vB⟩:=h1;obtain⟨⟨b1,b2⟩,⟨p1,p2,p3⟩,Bn⟩:=h2;refine⟨⟨Nat.le_trans a1 b1,fun b hb hn=>?_⟩,⟨p1.trans o1,p2.trans o2,p3.trans o3⟩,?_⟩
 ·rw[<-a2 b hb hn];refine b2 b (Nat.lt_of_lt_of_le hb a1) ?_;rintro(h|⟨a,e,h⟩)
  ·exact hn (Or.inl h)
  ·rcases vB with rfl|vB
   ·exact hn (Or.inr ⟨a,e,h⟩)
   ·have:=vB a e;omega
 ·rcases Bn with rfl|Bn
  ·exact vB
  ·exact Or.inr (fun a e=>Nat.le_trans a1 (Bn a e))
theorem jN.aN {w2:F}{f:bS}(h1:jN w w1 xb f f1)(hg:aL w1 w2):jN w w2 xb f f1:=
 ⟨h1.1.trans (Fr.cZ hg _),⟨hg.os.trans h1.2.1.1,hg.tape.trans h1.2.1.2.1,hg.output.trans h1.2.1.2.2⟩,h1.2.2⟩
theorem jN.set {f:bS}{v:Y}(h1:jN w w1 xb f f1):jN w (w1.setCell ⟨xb,i,O⟩ v) xb f f1:=by
 refine⟨?_,⟨h1.2.1.1,h1.2.1.2.1,h1.2.1.2.2⟩,h1.2.2⟩;obtain⟨a1,a2⟩:=h1.1;obtain⟨b1,b2⟩:=Fr.set w1 ⟨xb,i,O⟩ v;exact⟨Nat.le_trans a1 b1,fun b hb hn=>(b2 b (Nat.lt_of_lt_of_le hb a1) (fun e=>hn (Or.inl e))).trans (a2 b hb hn)⟩
theorem jN.row {f f2:bS}(h1:jN w w1 xb f f1)(h2:Qx w.heap.size f2):jN w w1 xb f f2:=⟨h1.1,h1.2.1,Or.inr h2⟩
theorem iX {f:bS}(h:w.heap[xb]?=M (bM s f r)):w.cell? ⟨xb,3,O⟩=M f.v:=by simp[World.cell?,h,bM]
def qH (l:List bE)(n:Int):Option Nat:=l.findIdx? (fun f=>f.1==n)
def rG (l:List bE)(n:Int):Int:=match qH l n with
 |some i=>(i:Int)
 |none=> -1
theorem ZR (h:l[k]?=M f)(hf:f.1=n)(Pk:∀j f,j<k->l[j]?=M f->¬f.1=n):rG l n=(k:Int):=by
 have bT:=(List.getElem?_eq_some_iff.1 h).1
 have e:qH l n=M k:=by
  unfold qH;rw[List.findIdx?_eq_some_iff_getElem];refine⟨bT,?_,fun j hj=>?_⟩
  ·have:=(List.getElem?_eq_some_iff.1 h).2;rw[this];simp[hf]
  ·have:=Pk j l[j] hj (List.getElem?_eq_getElem (by omega));simpa using this
 unfold rG;rw[e]
theorem posI_no (Pk:∀(j:Nat) (f:bE),l[j]?=M f->¬f.1=n):rG l n= -1:=by
 have e:qH l n=O:=by
  unfold qH;rw[List.findIdx?_eq_none_iff];intro f hf;obtain⟨j,hj,rfl⟩:=List.getElem_of_mem hf;have:=Pk j l[j] (List.getElem?_eq_getElem hj);simpa using this
 unfold rG;rw[e]
theorem Lc {f:bS}(h:w.heap[xb]?=M (bM s f r))(hf:gU w f fs)(hl:fs.length<=1000000):
 H K 222 #[U (M ⟨xb,0,O⟩),I V n] w fun e w'=>e=G (I V (rG fs n))/\w'=w:=by
 have c3:=iX h;obtain⟨fo,fl,fc⟩:=f;obtain⟨h1,h2,h3⟩:=hf;simp only at h1 h2 h3;subst h2;simp only[bS.v]at c3;clear h;go_enter Tryz.func222,Tryz.ntmps222
 go_wp2_with fail
 go_loop [5] (fun i=> ∃k:Nat,k<=fs.length/\i=I V (k:Int)/\∀j f,j<k->fs[j]?=M f->¬f.1=n) (fun i=>fs.length-(intOf i).toNat)
 case atStart=>exact⟨0,Nat.zero_le _,rfl,fun j f hj=>by omega⟩
 case round=>
  obtain⟨k,hk,rfl,Pk⟩:=hrel;have HN:Hid (∀j f,j<k->fs[j]?=M f->¬f.1=n):=Pk;clear Pk;by_cases bT:k<fs.length
  ·obtain⟨fk,TR⟩:∃f,fs[k]?=M f:=⟨_,List.getElem?_eq_getElem bT⟩;obtain⟨b,off,rfl,d1,d2,d3⟩:=h1.at TR;have i1:(0:Int)<=(k:Int):=by omega
   have i2:(k:Int)<(fs.length:Int):=by omega
   have HF:Hid (fs[k]?=M fk):=TR;clear TR;by_cases he:fk.1=n
   ·have Ld:(fk.1==n)=true:=by simp[he]
    have HP:Hid (rG fs n=(k:Int)):=by show _=_;exact ZR HF.out he HN.out
    clear h1
    go_wp2_with fail
    go_ret;exact⟨by rw[HP.out];rfl,rfl⟩
   ·have Ld:(fk.1==n)=false:=by simp[he]
    clear h1
    go_wp2_with fail
    go_round
    case rel=>exact⟨k+1,by omega,by go_num,fun j f hj hf=>by
     by_cases hjk:j=k
     ·subst hjk;rw[HF.out]at hf;cases hf;exact he
     ·exact HN.out j f (by omega) hf⟩
    case measure=>simp[intOf];omega
  ·have HP:Hid (rG fs n= -1):=by show _=_;exact posI_no (fun j f hf=>HN.out j f (by have:=(List.getElem?_eq_some_iff.1 hf).1;omega) hf)
   clear h1
   go_wp2_with fail
   go_ret;exact⟨by rw[HP.out];rfl,rfl⟩
def aP (l:List bE)(n:Int):ByteArray:=match qH l n with
 |some i=>((l[i]?).getD (0,⟨#[]⟩,0)).2.1
 |none=>⟨#[]⟩
theorem Pm (h:qH l n=M i):i<l.length:=by
 unfold qH at h;rw[List.findIdx?_eq_some_iff_getElem]at h;exact h.1
theorem vF {f:bS}(h:w.heap[xb]?=M (bM s f r))(hf:gU w f fs)(hl:fs.length<=1000000):
 H K 166 #[U (M ⟨xb,0,O⟩),I V n] w fun e w'=>e=G (.string (aP fs n))/\w'=w:=by
 have c3:=iX h;have hA:=Lc (n:=n) h hf hl
 obtain⟨fo,fl,fc⟩:=f;obtain⟨h1,h2,h3⟩:=hf;simp only at h1 h2 h3;subst h2;simp only[bS.v]at c3;clear h;cases hp:qH fs n with
 |none=>
  have e1:rG fs n= -1:=by unfold rG;rw[hp]
  have HB:Hid (aP fs n=⟨#[]⟩):=by show _=_;unfold aP;rw[hp]
  rw[e1]at hA;clear hp e1;go_enter Tryz.func166,Tryz.ntmps166
  go_wp2_with fail
  refine hA.mono ?_;rintro e w ⟨rfl,rfl⟩
  go_wp2_with fail
  go_ret;exact⟨by rw[HB.out];rfl,rfl⟩
 |some i=>
  have bT:=Pm hp;have e1:rG fs n=(i:Int):=by unfold rG;rw[hp]
  obtain⟨fi,Qy⟩:∃f,fs[i]?=M f:=⟨_,List.getElem?_eq_getElem bT⟩;have HB:Hid (aP fs n=fi.2.1):=by show _=_;unfold aP;rw[hp];simp only[Qy,Option.getD_some]
  rw[e1]at hA;obtain⟨b,off,rfl,d1,d2,d3⟩:=h1.at Qy;have i1:(0:Int)<=(i:Int):=by omega
  have i2:(i:Int)<(fs.length:Int):=by omega
  have i3:¬(i:Int)<0:=by omega
  clear hp e1 Qy h1;go_enter Tryz.func166,Tryz.ntmps166
  go_wp2_with fail
  refine hA.mono ?_;rintro e w ⟨rfl,rfl⟩
  go_wp2_with fail
  go_ret;exact⟨by rw[HB.out];rfl,rfl⟩
theorem Fz {f:bS}(h:w.heap[xb]?=M (bM s f r))(hf:gU w f fs)(hl:fs.length<=1000000):
 H K 161 #[U (M ⟨xb,0,O⟩),I V n] w fun e w'=>e=G (I V ((aP fs n).size:Int))/\w'=w:=by
 have hB:=vF (n:=n) h hf hl;go_enter Tryz.func161,Tryz.ntmps161
 go_wp2_with fail
 refine hB.mono ?_;rintro e w ⟨rfl,rfl⟩
 go_wp2_with fail
 go_ret;exact⟨rfl,rfl⟩
theorem Tryz.infoFile:(Tryz.prog.info? 193).map (fun i=>(i.zero,i.size,i.bytes))=M (M (.agg #[I V 0,.string ⟨#[]⟩,I V 0]),3,32):=by kernel_rfl
theorem nC {ops:Array Oper}{rest:List Oper}{o:Oper}{a:Act}{Q:Exit->Act->F->Prop}(qE:o.guard=O)(s x:Operand)
 (ho:o.op= .call { callee:= .builtin .append,args:=#[s,x],argTypes:=#[184,184] })
 (base:Nat)(v:Y)(ys:List bE)(f:bE)(hs:a.eval s=v)(bA:lY w base v ys)(ad:Addr)(m c:Nat)(hx:a.eval x=Z (M ad) m c)(hm:m=1)(hr:∀j u,(Oj [f])[j]?=M u->w.cell? (ad.add j)=M u)
 (hlen:ys.length<=1000000000)(iI:base<=w.heap.size)
 (h:∀v' w',lY w' base v' (ys++ [f])->w.grownBy w' v.ownBlock->wpList K ops Q rest (a.put o.dst v') w'):wpList K ops Q (o::rest) a w:=by
 obtain⟨i0,hi,nN,nO,oM⟩:=info_parts Tryz.infoFile;subst hm;refine wpList_append_own w qE s x 184 ho base 193 i0 (.agg #[I V 0,.string ⟨#[]⟩,I V 0]) 3 32 Tryz.underlying184 hi nN nO oM rfl (by decide) v ys.length (Oj ys) hs bA ad 1 c (Oj [f]) hx rfl hr ?_ (by unfold maxLen;omega) (by omega) iI ?_
 ·intro u hu;obtain⟨p,-,hp⟩:=List.mem_flatMap.1 hu;simp[bE.cells]at hp;rcases hp with rfl|rfl|rfl<;>rfl
 ·intro v' w' h1 h2 _;refine h v' w' ?_ h2;unfold lY;rw[Qw,List.length_append];exact h1
theorem QH:∀(l:List bE) (k:Nat) (f:bE),k<l.length->(((Oj l).set (k*3) (I V f.1)).set (k*3+1) (.string f.2.1)).set (k*3+2) (I V f.2.2)=Oj (l.set k f):=by
 intro l
 induction l with
 |nil=>intro k f h;simp at h
 |cons p l ih=>
  intro k f h;cases k with
  |zero=>simp[Ce]
  |succ k=>
   have:=ih k f (by simpa using h);rw[Ce,show(k+1)*3=k*3+1+1+1 from by omega];simp only[List.cons_append,List.nil_append,List.set_cons_succ];rw[Ce,this];rfl
theorem lY.store {g n cap:Nat}(f:bE)(h:lY w B (Z (M ⟨g,0,O⟩) n cap) l)(hk:k<l.length):
 lY (((w.setCell ⟨g,k*3,O⟩ (I V f.1)).setCell ⟨g,k*3+1,O⟩ (.string f.2.1)).setCell ⟨g,k*3+2,O⟩ (I V f.2.2)) B (Z (M ⟨g,0,O⟩) n cap) (l.set k f):=by
 have hn:n=l.length:=by
  rcases h.2 with⟨h',-⟩|⟨g',mW,aS,h',-⟩
  ·cases h'
  ·cases h';rfl
 subst hn;have h1:=(World.ownsRow.stored h (k*3) (I V f.1)).1;have h2:=(World.ownsRow.stored h1 (k*3+1) (.string f.2.1)).1;have h3:=(World.ownsRow.stored h2 (k*3+2) (I V f.2.2)).1;unfold lY;rw[<-QH l k f hk,List.length_set];exact h3
theorem lY.at {n cap:Nat}(h:lY w B (Z ao n cap) l)(hf:l[k]?=M f):
 ∃g,ao=M ⟨g,0,O⟩/\n=l.length/\B<=g/\g<w.heap.size/\w.cell? ⟨g,k*3,O⟩=M (I V f.1)/\w.cell? ⟨g,k*3+1,O⟩=M (.string f.2.1)/\w.cell? ⟨g,k*3+2,O⟩=M (I V f.2.2)/\∀j,w.frozen? ⟨g,j,O⟩=false:=by
 have h':=h;have bT:=(List.getElem?_eq_some_iff.1 hf).1;rcases h.2 with⟨-,h0⟩|⟨g,mW,aS,hv,hg,hh,-⟩
 ·omega
 ·cases hv
  obtain⟨e1,e2,e3⟩:=Pj l k f hf;exact⟨g,rfl,rfl,hg,aM hh,(World.ownsRow.cellAt h' (k*3) (by omega)).trans e1,(World.ownsRow.cellAt h' (k*3+1) (by omega)).trans e2,(World.ownsRow.cellAt h' (k*3+2) (by omega)).trans e3,fun j=>World.ownsRow.frozenAt h' j⟩
def oN:List bE->bE->List bE
 | [],f=> [f]
 |g::r,f=>if f.1<g.1 then g::oN r f else f::g::r
def nD (l:List bE)(f:bE):List bE:=(oN l.reverse f).reverse
def qU (l:List bE):List bE:=l.foldl (fun out f=>if f.2.1.size=0 then out else nD out f) []
theorem Wj (h:l[k]?=M f):qU (l.take (k+1))=if f.2.1.size=0 then qU (l.take k)else nD (qU (l.take k)) f:=by
 have bT:=(List.getElem?_eq_some_iff.1 h).1;unfold qU;rw[List.take_succ_eq_append_getElem bT,List.foldl_append,(List.getElem?_eq_some_iff.1 h).2];rfl
theorem EC (l:List bE)(f:bE):(oN l f).length=l.length+1:=by
 induction l with
 |nil=>rfl
 |cons g r ih=>unfold oN;split<;>simp[ih]
theorem LU (l:List bE)(f:bE):(nD l f).length=l.length+1:=by unfold nD;rw[List.length_reverse,EC];simp
theorem ZT (l:List bE):∀k,(qU (l.take k)).length<=k:=by
 intro k
 induction k with
 |zero=>simp[qU]
 |succ k ih=>
  cases h:l[k]? with
  |none=>rw[List.take_of_length_le (by rw[List.getElem?_eq_none_iff]at h;omega),<-List.take_of_length_le (show l.length<=k by rw[List.getElem?_eq_none_iff]at h;exact h)];omega
  |some f=>
   rw[Wj h];split
   ·omega
   ·rw[LU];omega
def wB (out:List bE)(f:bE)(A aF:List bE):Prop:=nD out f=(oN A.reverse f).reverse++aF
theorem wB.start (out:List bE)(f:bE):wB out f out []:=by unfold wB nD;simp
theorem wB.next {A:List bE}(h:wB out f (A++ [g]) aF)(bT:f.1<g.1):wB out f A (g::aF):=by
 unfold wB at*;rw[h];simp[oN,bT]
theorem wB.stop {A:List bE}(h:wB out f (A++ [g]) aF)(Oe:¬f.1<g.1):nD out f=A++ [g]++f::aF:=by
 unfold wB at h;rw[h];simp[oN,Oe]
theorem wB.stop0 (h:wB out f [] aF):nD out f=f::aF:=by
 unfold wB at h;rw[h];simp[oN]
theorem qI {n c:Nat}(h:lY w B (Z ao n c) l):gU w (ao,n,c) l:=by
 have h':=h;rcases h.2 with⟨e,h3⟩|⟨g,cap,aS,e,hg,hh,-⟩
 ·cases e
  exact⟨⟨Or.inl (List.eq_nil_of_length_eq_zero h3),(fun _ e=>by cases e)⟩,h3.symm,fun _=>⟨rfl,rfl⟩⟩
 ·cases e
  refine⟨⟨Or.inr ⟨g,0,rfl,fun j u hu=>?_⟩,(fun a e=>by cases e;exact⟨aS,hh⟩)⟩,rfl,(fun e=>by cases e)⟩;have:=World.ownsRow.cells h' rfl j u hu;cases j with
  |zero=>simpa[Addr.add]using this
  |succ j=>simpa[Addr.add]using this
theorem Ev {n c:Nat}(h:lY w B (Z ao n c) l):Qx B (ao,n,c):=by
 intro a e;simp only at e;subst e;rcases h.2 with⟨e,-⟩|⟨g,cap,aS,e,hg,-⟩
 ·cases e
 ·cases e;exact hg
theorem far3 {g b j n:Nat}{x y z:Y}(h:g≠b):(((w.setCell ⟨g,i,O⟩ x).setCell ⟨g,j,O⟩ y).setCell ⟨g,k,O⟩ z).cell? ⟨b,n,O⟩=w.cell? ⟨b,n,O⟩:=by
 rw[World.cell?_setCell_far _ _ _ _ h,World.cell?_setCell_far _ _ _ _ h,World.cell?_setCell_far _ _ _ _ h]
theorem swap_eq (A aF:List bE)(f g:bE):(List.set (A++ [g]++f::aF) (A.length+1) g).set A.length f=A++f::(g::aF):=by
 rw[List.append_assoc,List.set_append_right _ _ (by omega),List.set_append_right _ _ (by omega)];simp
theorem QI {fx:bS}{la ca:Nat}(h:w.heap[xb]?=M (bM s fx r))(hr:Uq w ao l)(e1:la=l.length)(hl:l.length<=100000):
 H K 228 #[U (M ⟨xb,0,O⟩),Z ao la ca] w fun e w'=>e=G (.tuple #[])/\∃(f':bS) (w1:F),w'=w1.setCell ⟨xb,3,O⟩ f'.v/\gU w1 f' (qU l)/\Below w.heap.size w w1/\Qx w.heap.size f':=by
 subst e1;have ZU:=aM h;have HX:Hid (w.heap[xb]?=M (bM s fx r)):=h;clear h;go_enter Tryz.func228,Tryz.ntmps228
 go_wp2_with fail
 go_loopw [4,5] (fun v i wr=> ∃k:Nat,k<=l.length/\i=I V (k:Int)/\lY wr w.heap.size v (qU (l.take k))/\Below w.heap.size w wr) (fun _ i _=>l.length-(intOf i).toNat)
 case atStart=>exact⟨0,Nat.zero_le _,rfl,World.ownsRow_nil _ _ _ _,Below.refl _ _⟩
 case round=>
  obtain⟨k,hk,rfl,bA,hB⟩:=hrel;have Mt:=ZT l k;by_cases bT:k<l.length
  ·obtain⟨⟨fn,fb,fs⟩,hf⟩:∃f,l[k]?=M f:=⟨_,List.getElem?_eq_getElem bT⟩;have HT:Hid (qU (l.take (k+1))=if fb.size=0 then qU (l.take k)else nD (qU (l.take k)) (fn,fb,fs)):=Wj hf;obtain⟨b,off,rfl,c1,c2,c3⟩:=(hr.aN hB).at hf;simp only at c1 c2 c3;have i1:(0:Int)<=(k:Int):=by omega
   have i2:(k:Int)<(l.length:Int):=by omega
   generalize qU (l.take k)=out at bA Mt HT;clear hf hr;by_cases hz:fb.size=0
   ·have hz':((fb.size:Int)==0)=true:=by simp[hz]
    go_wp2_with fail
    go_roundw
    case rel=>exact⟨k+1,by omega,by go_num,by rw[HT.out,if_pos hz];exact bA,hB⟩
    case measure=>simp[intOf];omega
   ·have hz':((fb.size:Int)==0)=false:=by rw[beq_eq_false_iff_ne];omega
    have oM:¬((fb.size:Int)=0):=by omega
    have hs:=hB.size
    go_upto_region 6 with(at_builtin;go_must (refine nC (by rfl) (.tmp 21) (.tmp 26) (by rfl) w.heap.size _ out (fn,fb,fs) (by rfl) (by exact World.ownsRow.alloc bA _) _ _ _ (by rfl) (by rfl) (by exact World.news_of_block (heap_alloc_new wr _)) (by omega) (by simp;omega) ?_);intro v5 w5 cO fQ)
    have B5:Below w.heap.size w w5:=(jC hB (aO _ _) (by omega)).grown fQ (by simp;omega) (fun k e=>(World.ownsRow.lt bA k e).1);obtain⟨x5,n5,p5,rfl⟩:=rF cO
    have Qs:n5=out.length+1:=by
     obtain⟨g,-,e,-⟩:=cO.at (k:=out.length) (f:=(fn,fb,fs)) (by simp);simpa using e
    subst Qs;clear fQ c1 c2 c3 bA hB hs
    go_wp2_with fail
    go_loopw [6] (fun q wi=> ∃A aF:List bE,q=I V (A.length:Int)/\wB out (fn,fb,fs) A aF/\lY wi w.heap.size (Z x5 (out.length+1) p5) (A++(fn,fb,fs)::aF)/\A.length+aF.length=out.length/\Below w.heap.size w wi) (fun q _=>(intOf q).toNat)
    case atStart=>exact⟨out,[],by go_num,wB.start _ _,cO,by simp,B5⟩
    case round=>
     clear cO B5;obtain⟨A,aF,rfl,hI,mJ,hAC,B6⟩:=hrel;rcases List.eq_nil_or_concat A with rfl|⟨A',⟨gn,gb,gs⟩,hAe⟩
     ·have g0:¬((0:Int)<0):=by omega
      have d0:decide ((0:Int)<0)=false:=by simp
      simp only[List.length_nil];have HI:Hid (nD out (fn,fb,fs)=(fn,fb,fs)::aF):=hI.stop0
      go_wp2_with fail
      go_quiet (fail)
      go_wp2_with fail
      go_roundw
      case rel=>exact⟨k+1,by omega,by go_num,by rw[HT.out,if_neg hz,HI.out];exact mJ,aZ B6 _⟩
      case measure=>simp[intOf];omega
     ·rw[List.concat_eq_append]at hAe;subst hAe;obtain⟨g,rfl,-,XV,hglt,p1,p2,p3,pf⟩:=mJ.at (k:=A'.length) (f:=(gn,gb,gs)) (by simp);obtain⟨g',eg,-,-,-,q1,q2,q3,-⟩:=mJ.at (k:=A'.length+1) (f:=(fn,fb,fs)) (by simp);cases eg
      simp only at p1 p2 p3 q1 q2 q3;have hAl:(A'++ [(gn,gb,gs)]).length=A'.length+1:=by simp
      have hAC':A'.length+1+aF.length=out.length:=by rw[<-hAC];simp
      have hlen:(((A'++ [(gn,gb,gs)]).length:Nat):Int)=(A'.length:Int)+1:=by rw[hAl];rfl
      rw[hlen];have HA:Hid ((((A'++ [(gn,gb,gs)]).length:Nat):Int)=(A'.length:Int)+1):=hlen;have HC:Hid ((A'++ [(gn,gb,gs)]).length+aF.length=out.length):=hAC;clear hlen hAl hAC;have j0:(0:Int)<(A'.length:Int)+1:=by omega
      have j1:(0:Int)<=(A'.length:Int)+1:=by omega
      have j2:(A'.length:Int)+1<(out.length:Int)+1:=by omega
      have j3:(0:Int)<=(A'.length:Int):=by omega
      have j4:(A'.length:Int)<(out.length:Int)+1:=by omega
      have pf':=pf;by_cases Qk:fn<gn
      ·go_wp2_with fail
       go_quiet (fail)
       have B7:Below w.heap.size w (wr.drewN nq):=aZ B6 _;have yM:lY (wr.drewN nq) w.heap.size (Z (M ⟨g,0,O⟩) (out.length+1) p5) (A'++ [(gn,gb,gs)]++(fn,fb,fs)::aF):=mJ;have hglt7:g<(wr.drewN nq).heap.size:=hglt;clear mJ B6 p1 p2 p3 q1 q2 q3 pf pf' hglt;generalize wr.drewN nq=wq at*;obtain⟨g',eg,-,-,-,p1,p2,p3,pf⟩:=yM.at (k:=A'.length) (f:=(gn,gb,gs)) (by simp);cases eg
       obtain⟨g',eg,-,-,-,q1,q2,q3,-⟩:=yM.at (k:=A'.length+1) (f:=(fn,fb,fs)) (by simp);cases eg
       simp only at p1 p2 p3 q1 q2 q3;have ne1:wq.heap.size≠g:=by omega
       have u1:=pf ((A'.length+1)*3);have u2:=pf ((A'.length+1)*3+1);have u3:=pf ((A'.length+1)*3+2);have u4:=pf (A'.length*3);have u5:=pf (A'.length*3+1);have u6:=pf (A'.length*3+2);clear pf
       go_upto_region 10 with fail
       have B8:Below w.heap.size w (wq.alloc (C #[I V fn,.string fb,I V fs] 193)):=aQ B7 (aO _ _);have Cg:lY (wq.alloc (C #[I V fn,.string fb,I V fs] 193)) w.heap.size (Z (M ⟨g,0,O⟩) (out.length+1) p5) (A'++ [(gn,gb,gs)]++(fn,fb,fs)::aF):=World.ownsRow.alloc yM _;have k0:(wq.alloc (C #[I V fn,.string fb,I V fs] 193)).cell? ⟨wq.heap.size,0,O⟩=M (I V fn):=by simp
       have k1:(wq.alloc (C #[I V fn,.string fb,I V fs] 193)).cell? ⟨wq.heap.size,1,O⟩=M (.string fb):=by simp
       have k2:(wq.alloc (C #[I V fn,.string fb,I V fs] 193)).cell? ⟨wq.heap.size,2,O⟩=M (I V fs):=by simp
       clear yM B7 p1 p2 p3 q1 q2 q3 u1 u2 u3 u4 u5 u6;generalize wq.alloc (C #[I V fn,.string fb,I V fs] 193)=wz at*;obtain⟨g',eg,-,-,-,p1,p2,p3,pf⟩:=Cg.at (k:=A'.length) (f:=(gn,gb,gs)) (by simp);cases eg
       obtain⟨g',eg,-,-,-,q1,q2,q3,-⟩:=Cg.at (k:=A'.length+1) (f:=(fn,fb,fs)) (by simp);cases eg
       simp only at p1 p2 p3 q1 q2 q3;have u1:=pf ((A'.length+1)*3);have u2:=pf ((A'.length+1)*3+1);have u3:=pf ((A'.length+1)*3+2);have tK:=Cg.store (k:=A'.length+1) (gn,gb,gs) (by simp);have Kz:=tK.store (k:=A'.length) (fn,fb,fs) (by simp);have B9:=(((((B8.setCell (p:=⟨g,(A'.length+1)*3,O⟩) XV (I V gn)).setCell (p:=⟨g,(A'.length+1)*3+1,O⟩) XV (.string gb)).setCell (p:=⟨g,(A'.length+1)*3+2,O⟩) XV (I V gs)).setCell (p:=⟨g,A'.length*3,O⟩) XV (I V fn)).setCell (p:=⟨g,A'.length*3+1,O⟩) XV (.string fb)).setCell (p:=⟨g,A'.length*3+2,O⟩) XV (I V fs);have HS:Hid ((List.set (A'++ [(gn,gb,gs)]++(fn,fb,fs)::aF) (A'.length+1) (gn,gb,gs)).set A'.length (fn,fb,fs)=A'++(fn,fb,fs)::((gn,gb,gs)::aF)):=swap_eq A' aF _ _
       go_upto_region 11 with fail
       obtain⟨g',eg,-,-,-,r1,r2,r3,rf⟩:=tK.at (k:=A'.length) (f:=(gn,gb,gs)) (by simp);cases eg
       have t0:=(far3 (Ne.symm ne1):(((wz.setCell ⟨g,(A'.length+1)*3,O⟩ (I V gn)).setCell ⟨g,(A'.length+1)*3+1,O⟩ (.string gb)).setCell ⟨g,(A'.length+1)*3+2,O⟩ (I V gs)).cell? ⟨wq.heap.size,0,O⟩=_).trans k0;have t1:=(far3 (Ne.symm ne1):(((wz.setCell ⟨g,(A'.length+1)*3,O⟩ (I V gn)).setCell ⟨g,(A'.length+1)*3+1,O⟩ (.string gb)).setCell ⟨g,(A'.length+1)*3+2,O⟩ (I V gs)).cell? ⟨wq.heap.size,1,O⟩=_).trans k1;have t2:=(far3 (Ne.symm ne1):(((wz.setCell ⟨g,(A'.length+1)*3,O⟩ (I V gn)).setCell ⟨g,(A'.length+1)*3+1,O⟩ (.string gb)).setCell ⟨g,(A'.length+1)*3+2,O⟩ (I V gs)).cell? ⟨wq.heap.size,2,O⟩=_).trans k2;simp only at r1 r2 r3;have v1:=rf (A'.length*3);have v2:=rf (A'.length*3+1);have v3:=rf (A'.length*3+2);rw[HS.out]at Kz;clear rf tK p1 p2 p3 q1 q2 q3 u1 u2 u3 pf k0 k1 k2 Cg B8;generalize ((wz.setCell ⟨g,(A'.length+1)*3,O⟩ (I V gn)).setCell ⟨g,(A'.length+1)*3+1,O⟩ (.string gb)).setCell ⟨g,(A'.length+1)*3+2,O⟩ (I V gs)=wy at*
       go_wp2_with fail
       go_roundw
       case rel=>exact⟨A',(gn,gb,gs)::aF,by go_num,hI.next Qk,Kz,by simp;omega,B9⟩
       case measure=>simp[intOf]
      ·have HI:Hid (nD out (fn,fb,fs)=A'++ [(gn,gb,gs)]++(fn,fb,fs)::aF):=hI.stop Qk
       go_wp2_with fail
       go_quiet (fail)
       go_wp2_with fail
       go_roundw
       case rel=>exact⟨k+1,by omega,by go_num,by rw[HT.out,if_neg hz,HI.out];exact mJ,aZ B6 _⟩
       case measure=>simp[intOf];omega
  ·have e1:l.take k=l:=List.take_of_length_le (by omega);rw[e1]at bA;obtain⟨y0,-,-,-⟩:w.cell? ⟨xb,3,O⟩=M fx.v/\w.frozen? ⟨xb,3,O⟩=false/\True/\True:=⟨iX HX.out,by simp[World.frozen?,HX.out,bM],trivial,trivial⟩;have y1:wr.cell? ⟨xb,3,O⟩=M fx.v:=cell_later hB y0;have y2:wr.frozen? ⟨xb,3,O⟩=false:=by rw[World.frozen?_of_block (w:=w) (hB.block xb ZU)];simp[World.frozen?,HX.out,bM]
   obtain⟨x9,n9,c9,rfl⟩:=rF bA;have Qy:=qI bA;have Qz:=Ev bA;clear bA y0
   go_wp2_with fail
   go_end0;exact⟨rfl,(x9,n9,c9),wr,rfl,Qy,hB,Qz⟩
def pO (n but:Int)(g:bE):Bool:=g.1 !=n && g.1 !=but
def xX (l:List bE)(f:bE)(but:Int):List bE:=qU (l.filter (pO f.1 but)++ [f])
theorem ED (h:l[k]?=M g)(p:bE->Bool):(l.take (k+1)).filter p=(l.take k).filter p++(if p g then [g]else []):=by
 have bT:=(List.getElem?_eq_some_iff.1 h).1;rw[List.take_succ_eq_append_getElem bT,List.filter_append,(List.getElem?_eq_some_iff.1 h).2];simp[List.filter_cons]
theorem Ra (l:List bE)(p:bE->Bool):(l.filter p).length<=l.length:=List.length_filter_le p l
theorem Ig {fx:bS}{but:Int}(h:w.heap[xb]?=M (bM s fx r))(hf:gU w fx fs)(hl:fs.length<=90000):
 H K 176 #[U (M ⟨xb,0,O⟩),.agg #[I V f.1,.string f.2.1,I V f.2.2],I V but] w fun e w'=>e=G (.tuple #[])/\∃(f':bS) (w1:F),w'=w1.setCell ⟨xb,3,O⟩ f'.v/\gU w1 f' (xX fs f but)/\Below w.heap.size w w1/\Qx w.heap.size f':=by
 have ZU:=aM h;have c3:=iX h;have HX:Hid (w.heap[xb]?=M (bM s fx r)):=h;obtain⟨fo,fl,fc⟩:=fx;obtain⟨h1,h2,h3⟩:=hf;simp only at h1 h2 h3;subst h2;simp only[bS.v]at c3;obtain⟨fn,fb,fZ⟩:=f;simp only;clear h;go_enter Tryz.func176,Tryz.ntmps176
 go_wp2_with fail
 have oJ:=aO w (C #[I V fn,.string fb,I V fZ] 193);have x0:(w.alloc (C #[I V fn,.string fb,I V fZ] 193)).cell? ⟨w.heap.size,0,O⟩=M (I V fn):=by simp
 have x1:(w.alloc (C #[I V fn,.string fb,I V fZ] 193)).cell? ⟨w.heap.size,1,O⟩=M (.string fb):=by simp
 have x2:(w.alloc (C #[I V fn,.string fb,I V fZ] 193)).cell? ⟨w.heap.size,2,O⟩=M (I V fZ):=by simp
 have jT:=World.size_alloc w (C #[I V fn,.string fb,I V fZ] 193);generalize w.alloc (C #[I V fn,.string fb,I V fZ] 193)=wa at*
 go_loopw [6,7] (fun v i wr=> ∃k:Nat,k<=fs.length/\i=I V (k:Int)/\lY wr wa.heap.size v ((fs.take k).filter (pO fn but))/\Below wa.heap.size wa wr) (fun _ i _=>fs.length-(intOf i).toNat)
 case atStart=>exact⟨0,Nat.zero_le _,rfl,World.ownsRow_nil _ _ _ _,Below.refl _ _⟩
 case round=>
  obtain⟨k,hk,rfl,bA,hB⟩:=hrel;have hBw:=aQ oJ hB;have Mt:=Ra (fs.take k) (pO fn but);have Vz:(fs.take k).length<=fs.length:=by rw[List.length_take];omega
  have d3:=cell_later hBw c3;have z0:=cell_later hB x0;have z1:=cell_later hB x1;have z2:=cell_later hB x2;by_cases bT:k<fs.length
  ·obtain⟨⟨gn,gb,gs⟩,hg⟩:∃g,fs[k]?=M g:=⟨_,List.getElem?_eq_getElem bT⟩;have HT:Hid ((fs.take (k+1)).filter (pO fn but)=(fs.take k).filter (pO fn but)++(if pO fn but (gn,gb,gs)then [(gn,gb,gs)]else [])):=ED hg _;obtain⟨b,off,rfl,p1,p2,p3⟩:=(h1.aN hBw).at hg;simp only at p1 p2 p3;have i1:(0:Int)<=(k:Int):=by omega
   have i2:(k:Int)<(fs.length:Int):=by omega
   generalize (fs.take k).filter (pO fn but)=out at bA Mt HT;clear hg h1 c3 x0 x1 x2;by_cases e1:gn=fn
   ·subst e1;have hd:(gn !=gn)=false:=by simp
    have HO:Hid (pO gn but (gn,gb,gs)=false):=by show _=_;simp[pO]
    go_wp2_with fail
    go_quiet (fail)
    go_wp2_with fail
    go_roundw
    case rel=>exact⟨k+1,by omega,by go_num,by rw[HT.out,HO.out,if_neg (by simp),List.append_nil];exact bA,aZ hB _⟩
    case measure=>simp[intOf];omega
   ·have hd:(gn !=fn)=true:=by simp[e1]
    by_cases e2:gn=but
    ·subst e2;have ZV:(gn !=gn)=false:=by simp
     have HO:Hid (pO fn gn (gn,gb,gs)=false):=by show _=_;simp[pO]
     go_wp2_with fail
     go_quiet (fail)
     go_wp2_with fail
     go_roundw
     case rel=>exact⟨k+1,by omega,by go_num,by rw[HT.out,HO.out,if_neg (by simp),List.append_nil];exact bA,aZ hB _⟩
     case measure=>simp[intOf];omega
    ·have ZV:(gn !=but)=true:=by simp[e2]
     have HO:Hid (pO fn but (gn,gb,gs)=true):=by show _=_;simp[pO,e1,e2]
     go_wp2_with fail
     go_quiet (fail)
     have jB:lY (wr.drewN nq) wa.heap.size u6 out:=bA;have Eb:Below wa.heap.size wa (wr.drewN nq):=aZ hB _;have p1':(wr.drewN nq).cell? ⟨b,off+k*3,O⟩=M (I V gn):=p1;have p2':(wr.drewN nq).cell? ⟨b,off+k*3+1,O⟩=M (.string gb):=p2;have p3':(wr.drewN nq).cell? ⟨b,off+k*3+2,O⟩=M (I V gs):=p3;have d3':(wr.drewN nq).cell? ⟨xb,3,O⟩=M (Z (M ⟨b,off,O⟩) fs.length fc):=d3;clear bA hB hBw p1 p2 p3 d3 z0 z1 z2;generalize wr.drewN nq=wq at*;have hs:=Eb.size
     go_wp2_with (at_builtin;go_must (refine nC (by rfl) (.tmp 40) (.tmp 48) (by rfl) wa.heap.size _ out (gn,gb,gs) (by rfl) (by exact World.ownsRow.alloc jB _) _ _ _ (by rfl) (by rfl) (by exact World.news_of_block (heap_alloc_new wq _)) (by omega) (by simp;omega) ?_);intro v5 w5 cO fQ)
     go_roundw
     case rel=>exact⟨k+1,by omega,by go_num,by rw[HT.out,HO.out,if_pos rfl];exact cO,(jC Eb (aO _ _) (by omega)).grown fQ (by simp;omega) (fun k e=>(World.ownsRow.lt jB k e).1)⟩
     case measure=>simp[intOf];omega
  ·have e1:fs.take k=fs:=List.take_of_length_le (by omega);rw[e1]at bA;have hlf:=Ra fs (pO fn but);have hs:=hB.size;clear h1 c3 x0 x1 x2
   go_upto_region 8 with(at_builtin;go_must (refine nC (by rfl) (.tmp 50) (.tmp 52) (by rfl) wa.heap.size _ (fs.filter (pO fn but)) (fn,fb,fZ) (by rfl) (by exact World.ownsRow.alloc bA _) _ _ _ (by rfl) (by rfl) (by exact World.news_of_block (heap_alloc_new wr _)) (by omega) (by simp;omega) ?_);intro v5 w5 cO fQ)
   have B5:Below wa.heap.size wa w5:=(jC hB (aO _ _) (by omega)).grown fQ (by simp;omega) (fun k e=>(World.ownsRow.lt bA k e).1);have B5w:=aQ oJ B5;obtain⟨x9,n9,c9,rfl⟩:=rF cO;obtain⟨k1,k2,k3⟩:=qI cO;simp only at k1 k2 k3;subst k2;have hx5:w5.heap[xb]?=M (bM s (fo,fs.length,fc) r):=(B5w.block xb ZU).trans HX.out;clear fQ cO bA hB hBw z0 z1 z2 d3
   go_wp2_with fail
   refine(QI (l:=fs.filter (pO fn but)++ [(fn,fb,fZ)]) hx5 k1 (by rw[List.length_append];rfl) (by rw[List.length_append];simp;omega)).mono ?_;rintro e w6 ⟨rfl,f',w7,rfl,Qy,hb7,Qz⟩
   go_wp2_with fail
   go_end0;exact⟨rfl,f',w7,rfl,Qy,aQ B5w hb7,fun a e=>Nat.le_trans B5w.size (Qz a e)⟩
end Go.Proofs.YtfplgfodoiiobaaGreatDoor
