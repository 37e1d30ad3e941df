/- KwA, KwB, KwC, KwD (joined). -/
import Derived.Test.YtfplgfodoiiobaaGreatDoorJ41
open Option renaming none→O,some→M
open Go.Value renaming int→I,slice→Z,pointer→U
open Go.IntKind renaming i64→V
open Go.Obj renaming cells→C
open Go.Ending renaming returned→G
open Go renaming World→F,Value→Y,Calls→H
open Go.Proofs.Tryz renaming prog→K
namespace Go.Proofs.YtfplgfodoiiobaaGreatDoor
set_option maxHeartbeats 1000000
set_option maxRecDepth 100000
open Go.RowKit
variable {w w':F}{d k qp b B:Nat}{g:Gm}{X:Nat->Prop}{ps:Nat->Addr}{l:List (List UInt8)}{v y z u:Y}{pos n:Int}{x:St}
def uT (g:Gm)(pos:Int)(text:ByteArray)(d:Nat):Gm×Int:=if pos<0\/(g.1.length:Int)<pos then (g,5)else if text.size<1\/200<text.size then (g,6)else if 5000<(g.1.length:Int)+(text.size:Int)then (g,7)else (Cq g (g.1.take pos.toNat++text.data.toList++g.1.drop pos.toNat) d,0)
def Cr (g:Gm)(pos n:Int)(d:Nat):Gm×Int:=if pos<0\/(g.1.length:Int)<pos\/n<1\/(g.1.length:Int)-pos<n then (g,5)else (Cq g (g.1.take pos.toNat++g.1.drop (pos+n).toNat) d,0)
def sU (g:Gm)(d:Nat):Gm×Int:=if g.2.1=[]then (g,8)else (qL g d,0)
def uH (g:Gm)(d:Nat):Gm×Int:=if g.2.2.1=[]then (g,8)else (xX g d,0)
def wB (g:Gm)(pos n:Int):ByteArray×Int:=if pos<0\/(g.1.length:Int)<pos\/n<0\/(g.1.length:Int)-pos<n then (⟨#[]⟩,5)else (⟨((g.1.drop pos.toNat).take n.toNat).toArray⟩,0)
def qM (w:F)(ps:Nat->Addr)(qp d:Nat)(g:Gm)(k:Nat)(X:Nat->Prop):Prop:=Gl w ps/\∃s fs m t,uR w qp s fs m X/\Aj (s,fs,m) g k t/\s.depth=(d:Int)
def uU (w w':F)(ps:Nat->Addr)(qp d:Nat)(X:Nat->Prop)(g:Gm)(k:Nat):Prop:=∃X',qM w' ps qp d g k X'/\Dk w w' X X'
theorem qM.aM (h:qM w ps qp d g k X)(hg:aK w w'):qM w' ps qp d g k X:=by
 obtain⟨h1,s,fs,m,t,h2,h3⟩:=h;exact⟨h1.aM hg,s,fs,m,t,h2.aM hg,h3⟩
theorem qM.ty (h:qM w ps qp d g k X)(hb:X b):Qi w b:=by
 obtain⟨-,s,fs,m,t,h2,-⟩:=h;exact h2.ty hb
theorem qM.more {k':Nat}(h:qM w ps qp d g k X)(hk:k<=k'):qM w ps qp d g k' X:=by
 obtain⟨h1,s,fs,m,t,h2,h3,h4⟩:=h;exact⟨h1,s,fs,m,t,h2,⟨h3.snd.more hk,h3.tell⟩,h4⟩
theorem Aj.more {k':Nat}{t:Tm}(h:Aj x g k t)(hk:k<=k'):Aj x g k' t:=⟨h.snd.more hk,h.tell⟩
theorem zL {s:Sc}{fs:List bE}{m:bR}(hG:Gl w ps)(hQ:uR w qp s fs m X)(h:Bf w w' qp X x)(ht:∃t,Aj x g k t)(hd:x.1.depth=(d:Int)):uU w w' ps qp d X g k:=by
 obtain⟨X',h1,h2⟩:=h;obtain⟨t,ht⟩:=ht;exact⟨X',⟨hG.q h2.1 (fun b hb=>hQ.ty hb),x.1,x.2.1,x.2.2,t,h1,ht,hd⟩,h2⟩
theorem Ak {t:Tm}{kind:Int}{text:ByteArray}(h:Pj x t k)(hk:k<=400):(iW x kind pos n text).1.1.depth=x.1.depth:=by
 by_cases hc:(nG x kind pos n text).2=0
 ·obtain⟨bZ,e,-⟩:=NN h hk hc;rw[e]
 ·rw[xG h.op h.ro hc]
theorem Fj {s:Sc}(h:s.depth=(d:Int)):s.depth.toNat=d:=by omega
theorem Po {text:ByteArray}(h:qM w ps qp d g k X)(hk:k<=400)(ht:text.size<=140737488355328):
 H K 28 #[U (M ⟨qp,0,O⟩),I V pos,.string text] w fun e w'=>e=G (I V (uT g pos text d).2)/\uU w w' ps qp d X (uT g pos text d).1 (k+1):=by
 obtain⟨hG,s,fs,m,t,hQ,hS,hd⟩:=h;refine(p_ (n:=0) hQ hG hS.snd.gs (by omega) ht).mono ?_;rintro e w' ⟨rfl,hq⟩;obtain⟨c1,c2,c3,c4⟩:=z_ hS hk (pos:=pos) (n:=0) (text:=text);have MH:=(Ak (kind:=73) (pos:=pos) (n:=0) (text:=text) hS.snd hk).trans hd
 have key:(iW (s,fs,m) 73 pos 0 text).2=(uT g pos text d).2/\∃t',Aj (iW (s,fs,m) 73 pos 0 text).1 (uT g pos text d).1 (k+1) t':=by
  unfold uT;by_cases h1:pos<0\/(g.1.length:Int)<pos
  ·rw[if_pos h1,c1 h1];exact⟨rfl,t,hS.more (by omega)⟩
  ·rw[if_neg h1];by_cases h2:text.size<1\/200<text.size
   ·rw[if_pos h2,c2 h1 h2];exact⟨rfl,t,hS.more (by omega)⟩
   ·rw[if_neg h2];by_cases h3:5000<(g.1.length:Int)+(text.size:Int)
    ·rw[if_pos h3,c3 h1 h2 h3];exact⟨rfl,t,hS.more (by omega)⟩
    ·rw[if_neg h3];obtain⟨e1,e2⟩:=c4 h1 h2 h3;simp only[Fj hd]at e2;exact⟨e1,e2⟩
 rw[key.1];exact⟨rfl,zL hG hQ hq key.2 MH⟩
theorem aj (h:qM w ps qp d g k X)(hk:k<=400)(hn:n<=9223372036854775807):
 H K 44 #[U (M ⟨qp,0,O⟩),I V pos,I V n] w fun e w'=>e=G (I V (Cr g pos n d).2)/\uU w w' ps qp d X (Cr g pos n d).1 (k+1):=by
 obtain⟨hG,s,fs,m,t,hQ,hS,hd⟩:=h;refine(o_ hQ hG hS.snd.gs (by omega) hn).mono ?_;rintro e w' ⟨rfl,hq⟩;obtain⟨c1,c2⟩:=A_ hS hk (pos:=pos) (n:=n) (text:=⟨#[]⟩);have MH:=(Ak (kind:=68) (pos:=pos) (n:=n) (text:=⟨#[]⟩) hS.snd hk).trans hd
 have key:(iW (s,fs,m) 68 pos n ⟨#[]⟩).2=(Cr g pos n d).2/\∃t',Aj (iW (s,fs,m) 68 pos n ⟨#[]⟩).1 (Cr g pos n d).1 (k+1) t':=by
  unfold Cr;by_cases h1:pos<0\/(g.1.length:Int)<pos\/n<1\/(g.1.length:Int)-pos<n
  ·rw[if_pos h1,c1 h1];exact⟨rfl,t,hS.more (by omega)⟩
  ·rw[if_neg h1];obtain⟨e1,e2⟩:=c2 h1;simp only[Fj hd]at e2;exact⟨e1,e2⟩
 rw[key.1];exact⟨rfl,zL hG hQ hq key.2 MH⟩
theorem au (h:qM w ps qp d g k X)(hk:k<=400):
 H K 29 #[U (M ⟨qp,0,O⟩)] w fun e w'=>e=G (I V (sU g d).2)/\uU w w' ps qp d X (sU g d).1 (k+1):=by
 obtain⟨hG,s,fs,m,t,hQ,hS,hd⟩:=h;refine(qundo (pos:=0) (n:=0) hQ hG hS.snd.gs (by omega)).mono ?_;rintro e w' ⟨rfl,hq⟩;obtain⟨c1,c2⟩:=ZY hS hk (pos:=0) (n:=0) (text:=⟨#[]⟩);have MH:=(Ak (kind:=85) (pos:=0) (n:=0) (text:=⟨#[]⟩) hS.snd hk).trans hd
 have key:(iW (s,fs,m) 85 0 0 ⟨#[]⟩).2=(sU g d).2/\∃t',Aj (iW (s,fs,m) 85 0 0 ⟨#[]⟩).1 (sU g d).1 (k+1) t':=by
  unfold sU;by_cases h1:g.2.1=[]
  ·rw[if_pos h1,c1 h1];exact⟨rfl,t,hS.more (by omega)⟩
  ·rw[if_neg h1];obtain⟨e1,e2⟩:=c2 h1;simp only[Fj hd]at e2;exact⟨e1,e2⟩
 rw[key.1];exact⟨rfl,zL hG hQ hq key.2 MH⟩
theorem s_redo (h:qM w ps qp d g k X)(hk:k<=400):
 H K 46 #[U (M ⟨qp,0,O⟩)] w fun e w'=>e=G (I V (uH g d).2)/\uU w w' ps qp d X (uH g d).1 (k+1):=by
 obtain⟨hG,s,fs,m,t,hQ,hS,hd⟩:=h;refine(qredo (pos:=0) (n:=0) hQ hG hS.snd.gs (by omega)).mono ?_;rintro e w' ⟨rfl,hq⟩;obtain⟨c1,c2⟩:=af hS hk (pos:=0) (n:=0) (text:=⟨#[]⟩);have MH:=(Ak (kind:=82) (pos:=0) (n:=0) (text:=⟨#[]⟩) hS.snd hk).trans hd
 have key:(iW (s,fs,m) 82 0 0 ⟨#[]⟩).2=(uH g d).2/\∃t',Aj (iW (s,fs,m) 82 0 0 ⟨#[]⟩).1 (uH g d).1 (k+1) t':=by
  unfold uH;by_cases h1:g.2.2.1=[]
  ·rw[if_pos h1,c1 h1];exact⟨rfl,t,hS.more (by omega)⟩
  ·rw[if_neg h1];obtain⟨e1,e2⟩:=c2 h1;simp only[Fj hd]at e2;exact⟨e1,e2⟩
 rw[key.1];exact⟨rfl,zL hG hQ hq key.2 MH⟩
theorem Ws (h:qM w ps qp d g k X)(hn:n<=9223372036854775807):
 H K 39 #[U (M ⟨qp,0,O⟩),I V pos,I V n] w fun e w'=>e=G (.tuple #[.string (wB g pos n).1,I V (wB g pos n).2])/\aK w w':=by
 obtain⟨hG,s,fs,m,t,hQ,hS,hd⟩:=h;refine(xread hQ hS.snd.gs hn).mono ?_;rintro e w' ⟨rfl,hg⟩;refine⟨?_,hg⟩;obtain⟨c1,c2⟩:=ZV hS (pos:=pos) (n:=n);unfold wB;by_cases h1:pos<0\/(g.1.length:Int)<pos\/n<0\/(g.1.length:Int)-pos<n
 ·rw[if_pos h1,c1 h1]
 ·rw[if_neg h1];obtain⟨e1,e2⟩:=c2 h1;have e3:(vM (s,fs,m) pos n).1=⟨((g.1.drop pos.toNat).take n.toNat).toArray⟩:=Bw (by rw[e2]);rw[e1,e3]
theorem DN (h:qM w ps qp d g k X):
 H K 40 #[U (M ⟨qp,0,O⟩)] w fun e w'=>e=G (.tuple #[I V (g.1.length:Int),I V 0])/\w'=w:=by
 obtain⟨hG,s,fs,m,t,hQ,hS,hd⟩:=h;have Co:s.aX=true:=hS.snd.op;have:=C_ hQ;rw[Co]at this;simp only[if_true]at this;rw[hS.len];exact this
theorem s_done (h:qM w ps qp d g k X):
 H K 25 #[U (M ⟨qp,0,O⟩)] w fun e w'=>e=G (.tuple #[I V g.2.2.2,I V 0])/\w'=w:=by
 obtain⟨hG,s,fs,m,t,hQ,hS,hd⟩:=h;have Co:s.aX=true:=hS.snd.op;have:=xdone hQ;rw[Co]at this;simp only[if_true]at this;rw[hS.done];exact this
theorem s_sync (h:qM w ps qp d g k X):
 H K 30 #[U (M ⟨qp,0,O⟩)] w fun e w'=>e=G (I V 0)/\uU w w' ps qp d X g (k+1):=by
 obtain⟨hG,s,fs,m,t,hQ,hS,hd⟩:=h;refine(qsync hQ hG hS.snd.gs).mono ?_;rintro e w' ⟨rfl,hq⟩;obtain⟨c1,c2⟩:=ZW hS;rw[c1];refine⟨rfl,zL hG hQ hq ⟨t,c2.more (by omega)⟩ ?_⟩;obtain⟨Ig,e1,i1,-,-⟩:=pF hS.snd.arm hS.snd.gs.bk.dN hS.snd.gs.bk.inv 1;obtain⟨fs2,e2,-,-,-⟩:=pF hS.snd.arm hS.snd.gs.bk.dN i1 (10+s.aZ);have Co:s.aX=true:=hS.snd.op;have hro:s.ro=false:=hS.snd.ro;simp only at e1 e2;unfold nQ;simp only;rw[if_neg (by simp[Co]),if_neg (by simp[hro]),e1];simp only[Bool.true_eq_false,if_false];rw[e2];exact hd
theorem s_ckpt (h:qM w ps qp d g k X)(hk:k<=122):
 H K 31 #[U (M ⟨qp,0,O⟩)] w fun e w'=>e=G (I V 0)/\uU w w' ps qp d X g (k+1):=by
 obtain⟨hG,s,fs,m,t,hQ,hS,hd⟩:=h;refine(qckpt hQ hG hS.snd.gs (by omega)).mono ?_;rintro e w' ⟨rfl,hq⟩;obtain⟨c1,c2⟩:=ZX hS hk;rw[c1];refine⟨rfl,zL hG hQ hq ⟨t,c2⟩ ?_⟩;have hF:=(Pe (ep:=s.aZ) (b:=⟨(zC (s.aZ+1) m).toArray⟩) (by have:=Wl (s.aZ+1) m;omega) 5 0 50 s fs hS.snd.gs.bk.m_ hS.snd.op hS.snd.ro).2;unfold kP;simp only;split
 ·exact hd
 split
 ·exact hd
 split
 ·exact hd
 simp only;split
 ·simp only;rw[hF.2.1];exact hd
 ·rw[hF.2.1];exact hd
theorem rU {c:Int}(Da: -9223372036854775808<=c)(Qk:c<=9223372036854775807)(hn:0<=n)(uY:n<=5000):
 H K 41 #[I V c,I V n] w fun e w'=> ∃r:Int,e=G (I V r)/\-9223372036854775808<=r/\r<=9223372036854775807/\w'=w:=by
 by_cases h0:c<0
 ·go_enter Tryz.func41,Tryz.ntmps41
  go_wp2_with fail
  go_ret;exact⟨c,rfl,Da,Qk,rfl⟩
 ·by_cases h1:3*n+9<c
  ·go_enter Tryz.func41,Tryz.ntmps41
   go_wp2_with fail
   go_ret;exact⟨c,rfl,Da,Qk,rfl⟩
  ·have hp:=Yd (w:=w) (c:=c) (n:=n+1) Da Qk (by omega) (by omega);go_enter Tryz.func41,Tryz.ntmps41
   go_wp2_with (go_at_call 15;refine hp.mono ?_;rintro e w' ⟨r,rfl,r1,r2,rfl⟩)
   go_ret;exact⟨r,rfl,by omega,by omega,rfl⟩
def aT (l:List UInt8):ByteArray:=⟨l.toArray⟩
def TJ (w:F)(ao:Option Addr)(l:List (List UInt8)):Prop:=l=[]\/∃b off,ao=M ⟨b,off,O⟩/\(∀(i:Nat) x,l[i]?=M x->w.cell? ⟨b,off+i,O⟩=M (.string (aT x)))/\∃aQ f,w.heap[b]?=M (C aQ 9 f)
def iJ (w:F)(v:Y)(l:List (List UInt8)):Prop:=∃ao c,v=Z ao l.length c/\l.length<=c/\(ao=O->l=[]/\c=0)/\TJ w ao l
def Wt (w:F)(B:Nat)(v:Y)(l:List (List UInt8)):Prop:=w.ownsRow B 9 1 v l.length (l.map (fun x=>Value.string (aT x)))
theorem TJ.fr {ao:Option Addr}(h:TJ w ao l)(hF:Fr w w' X)(hx:∀(b:Nat) (aQ:Array Y) (f:Nat×Nat),w.heap[b]?=M (C aQ 9 f)->¬X b):TJ w' ao l:=by
 rcases h with h|⟨b,off,e,hc,aQ,f,hb⟩
 ·exact Or.inl h
 ·have hn:=hx b aQ f hb;have mF:=hF.at hb hn;refine Or.inr ⟨b,off,e,fun i x hi=>?_,aQ,f,mF⟩;have:=hc i x hi;simp only[World.cell?,hb,mF]at this ⊢;exact this
theorem iJ.fr (h:iJ w v l)(hF:Fr w w' X)(hx:∀(b:Nat) (aQ:Array Y) (f:Nat×Nat),w.heap[b]?=M (C aQ 9 f)->¬X b):iJ w' v l:=by
 obtain⟨ao,c,e,h1,h2,h3⟩:=h;exact⟨ao,c,e,h1,h2,h3.fr hF hx⟩
theorem iJ.aM (h:iJ w v l)(hg:aK w w'):iJ w' v l:=h.fr (Fr.bT hg (fun _=>False)) (fun _ _ _ _=>id)
theorem iJ.q {aA:Nat->Prop}(h:iJ w v l)(hF:Fr w w' aA)(hY:∀b,aA b->Qi w b):iJ w' v l:=h.fr hF (fun b aQ f hb e=>(hY _ e).ne hb (by decide) rfl)
theorem iJ.nil (w:F):iJ w (Z O 0 0) []:=⟨O,0,rfl,Nat.le_refl _,fun _=>⟨rfl,rfl⟩,Or.inl rfl⟩
theorem iJ.take (h:iJ w v l){n:Nat}(hn:n<=l.length):∃ao c,v=Z ao l.length c/\l.length<=c/\iJ w (Z ao n c) (l.take n):=by
 obtain⟨ao,c,e,h1,h2,h3⟩:=h;have hl:(l.take n).length=n:=by rw[List.length_take];omega
 refine⟨ao,c,e,h1,ao,c,by rw[hl],by omega,fun k=>⟨by rw[(h2 k).1];simp,(h2 k).2⟩,?_⟩;rcases h3 with rfl|⟨b,off,e1,hc,hb⟩
 ·exact Or.inl (by simp)
 ·refine Or.inr ⟨b,off,e1,fun i x hi=>?_,hb⟩;rw[List.getElem?_take]at hi;split at hi
  ·exact hc i x hi
  ·cases hi
theorem iJ.tail {off c:Nat}{x:List UInt8}(h:TJ w (M ⟨b,off,O⟩) (x::l))(hc:l.length+1<=c):iJ w (Z (M ⟨b,off+1,O⟩) l.length (c-1)) l:=by
 refine⟨_,c-1,rfl,by omega,(fun k=>by cases k),?_⟩;rcases h with h|⟨b',Lx,e,hc,hb⟩
 ·cases h
 ·cases e
  refine Or.inr ⟨b,off+1,rfl,fun i y hi=>?_,hb⟩;have:=hc (i+1) y (by simpa using hi);rwa[show off+1+i=off+(i+1) from by omega]
theorem Wt.sl (h:Wt w B v l):iJ w v l:=by
 have h0:=h;rcases h.2 with⟨rfl,e⟩|⟨g,cap,aQ,rfl,SI,hg,hnc,hcm,hcs,Q_⟩
 ·have:l=[]:=List.eq_nil_of_length_eq_zero e;subst this;exact iJ.nil w
 ·refine⟨_,cap,rfl,hnc,(fun k=>by cases k),?_⟩;have:=World.ownsRow.cells h0 (g:=g) rfl;refine Or.inr ⟨g,0,rfl,fun i x hi=>?_,aQ,_,hg⟩;have:=this i (.string (aT x)) (by rw[List.getElem?_map,hi];rfl);rw[show(⟨g,0,O⟩:Addr).add i=⟨g,0+i,O⟩ from by unfold Addr.add;split<;>simp_all]at this;exact this
theorem Tryz.infoStr:(Tryz.prog.info? 9).map (fun i=>(i.zero,i.size,i.bytes))=M (M (.string ⟨#[]⟩),1,16):=by kernel_rfl
theorem TJ.cells {ad:Addr}(hr:TJ w (M ad) l):∀j u,(l.map (fun x=>Value.string (aT x)))[j]?=M u->w.cell? (ad.add j)=M u:=by
 intro j u hj;rw[List.getElem?_map]at hj;cases hx:l[j]? with
 |none=>rw[hx]at hj;cases hj
 |some x=>
  rw[hx]at hj;cases hj
  rcases hr with rfl|⟨b,off,e,hc,-⟩
  ·simp at hx
  ·cases e
   rw[show(⟨b,off,O⟩:Addr).add j=⟨b,off+j,O⟩ from by unfold Addr.add;split<;>simp_all];exact hc j x hx
theorem zM {ops:Array Oper}{rest:List Oper}{o:Oper}{a:Act}{Q:Exit->Act->F->Prop}(Ir:o.guard=O)(s x:Operand)
 (ho:o.op= .call { callee:= .builtin .append,args:=#[s,x],argTypes:=#[34,34] })
 (base:Nat)(v:Y)(ys zs:List (List UInt8))(hs:a.eval s=v)(cZ:Wt w base v ys)(ao:Option Addr)(m c:Nat)(hx:a.eval x=Z ao m c)(hm:m=zs.length)(gJ:ao=O->zs=[]/\c=0)(hr:TJ w ao zs)
 (hlen:ys.length+zs.length<=1000000)(mX:base<=w.heap.size)
 (h:∀v' w',Wt w' base v' (ys++zs)->w.grownBy w' v.ownBlock->fC w v v'->wpList K ops Q rest (a.put o.dst v') w'):wpList K ops Q (o::rest) a w:=by
 obtain⟨i0,hi,uZ,wE,xZ⟩:=info_parts Tryz.infoStr;subst hm;cases ao with
 |none=>
  obtain⟨rfl,rfl⟩:=gJ rfl;exact wpList_append_own_none Ir s x 34 ho base 9 i0 1 Tryz.underlying34 hi v _ _ hs cZ hx (h v w (by simpa using cZ) (World.grownBy.refl _ _) (Or.inl rfl))
 |some ad=>
  obtain⟨v',w',Kb,OP,Ls,LB⟩:=wJ (P:=K) w base 34 o.type 9 i0 (.string ⟨#[]⟩) 1 16 Tryz.underlying34 hi uZ wE xZ rfl (by decide) v ys.length _ cZ ad zs.length c (zs.map (fun x=>Value.string (aT x))) (by simp) (TJ.cells hr) (by
   intro u hu;obtain⟨z,-,rfl⟩:=List.mem_map.1 hu;rfl) (by unfold maxLen;omega) (by omega) mX
  refine wpList_plain Ir fun _ hK=>?_
  unfold Oper.wp execOp;simp only[ho,resolve,invoke,builtin,Sem.run_bind,Sem.run_pure,Result.andThen_ok,List.map_toArray,List.map_cons,List.map_nil,hs,hx,Kb];refine hK _ _ (h v' w' ?_ Ls LB);unfold Wt;rw[List.map_append,List.length_append];exact OP
theorem Pp (w:F)(hB:B<=w.heap.size):Wt (w.alloc (C #[] 9)) B (Z (M ⟨w.heap.size,0,O⟩) 0 0) []:=World.ownsRow_made w #[] 0 hB (by decide) rfl
theorem D_ (w:F)(s:List UInt8):TJ (w.alloc (C #[.string (aT s)] 9)) (M ⟨w.heap.size,0,O⟩) [s]:=by
 have hb:=heap_alloc_new w (C #[.string (aT s)] 9);refine Or.inr ⟨w.heap.size,0,rfl,fun i x hi=>?_,_,_,hb⟩;cases i with
 |zero=>simp at hi;subst hi;simp only[World.cell?,hb];rfl
 |succ i=>simp at hi
theorem Wt.form (h:Wt w B v l)(hl:l≠[]):∃b c,v=Z (M ⟨b,0,O⟩) l.length c/\l.length<=c/\TJ w (M ⟨b,0,O⟩) l/\B<=b:=by
 have h0:=h.sl;rcases h.2 with⟨rfl,e⟩|⟨g,cap,aQ,rfl,SI,hg,hnc,hcm,hcs,Q_⟩
 ·exact absurd (List.eq_nil_of_length_eq_zero e) hl
 ·obtain⟨ao,c,e,h1,h2,h3⟩:=h0;cases e
  exact⟨g,cap,rfl,hnc,h3,SI⟩
theorem RV {s:List UInt8}(h:l.length<=d):((s::l.reverse).take d).reverse=if d<l.length+1 then (l++ [s]).drop 1 else l++ [s]:=by
 have e:(s::l.reverse)=(l++ [s]).reverse:=by simp
 rw[e,List.take_reverse,List.reverse_reverse,List.length_append,List.length_singleton];by_cases hd:d<l.length+1
 ·rw[if_pos hd,show l.length+1-d=1 from by omega]
 ·rw[if_neg hd,show l.length+1-d=0 from by omega];rfl
theorem Cs {s:List UInt8}(h:iJ w v l)(hl:l.length<=d)(hd:d<=50):
 H K 79 #[v,.string (aT s),I V (d:Int)] w fun e w'=> ∃v',e=G v'/\iJ w' v' ((s::l.reverse).take d).reverse/\aK w w':=by
 obtain⟨ao,c,rfl,h1,h2,h3⟩:=h;have HP:Hid (((s::l.reverse).take d).reverse=if d<l.length+1 then (l++ [s]).drop 1 else l++ [s]):=RV hl;have ni:TJ (w.alloc (C #[] 9)) ao l:=h3.fr (Fr.bT (aU w _) (fun _=>False)) (fun _ _ _ _=>id);go_enter Tryz.func79,Tryz.ntmps79
 go_upto_region 2 with(at_builtin;go_must (refine zM (by rfl) (.tmp 8) (.tmp 9) (by rfl) w.heap.size (Z (M ⟨w.heap.size,0,O⟩) 0 0) [] l (by rfl) (by exact Pp w (Nat.le_refl _)) ao l.length c (by rfl) rfl h2 (by exact ni) (by simp;omega) (by simp) ?_);intro v1 w1 Gy jH Ga)
 rw[List.nil_append]at Gy;have G1:Below w.heap.size w w1:=(aU w (C #[] 9)).grown jH (aU w (C #[] 9)).size (fun k e=>(World.ownsRow.lt (Pp w (Nat.le_refl _)) k e).1);have ho1':Wt (w1.alloc (C #[.string (aT s)] 9)) w.heap.size v1 l:=World.ownsRow.alloc Gy _;have hs0:=G1.size;have wF:=D_ w1 s;clear jH Ga ni
 go_upto_region 3 with(at_builtin;go_must (refine zM (by rfl) (.tmp 11) (.tmp 13) (by rfl) w.heap.size v1 l [s] (by rfl) (by exact ho1') (M ⟨w1.heap.size,0,O⟩) 1 1 (by rfl) rfl (by intro k;cases k) (by exact wF) (by simp;omega) (by simp;omega) ?_);intro v2 w2 ho2 jA hs2)
 have G2:Below w.heap.size w w2:=(EZ G1 (aU w1 _) hs0).grown jA (by simp;omega) (fun k e=>(World.ownsRow.lt ho1' k e).1);obtain⟨b2,c2,rfl,k1,k2,k3⟩:=ho2.form (by simp);have HO:Hid (iJ w2 (Z (M ⟨b2,0,O⟩) (l++ [s]).length c2) (l++ [s])):=ho2.sl
 have HT:Hid (∀x l',l++ [s]=x::l'->iJ w2 (Z (M ⟨b2,0+1,O⟩) l'.length (c2-1)) l'):=fun x l' e=>by
  rw[e]at k2 k1;exact iJ.tail k2 (by simpa using k1)
 have hlen:(l++ [s]).length=l.length+1:=by simp
 rw[hlen]at k1 ⊢;clear Gy ho2 hs2 jA k2 ho1' wF;by_cases hdl:d<l.length+1
 ·have i1:(d:Int)<((l.length+1:Nat):Int):=by omega
  obtain⟨x,l',e⟩:∃x l',l++ [s]=x::l':=by
   cases l with
   |nil=>exact⟨s,[],rfl⟩
   |cons y l=>exact⟨y,l++ [s],rfl⟩
  have HF:Hid (((s::l.reverse).take d).reverse=l'):=by
   show _=_;rw[HP.out,if_pos hdl,e];rfl
  have hl9:l'.length=l.length:=by have:=congrArg List.length e;simp at this;omega
  have HT2:Hid (iJ w2 (Z (M ⟨b2,0+1,O⟩) l.length (c2-1)) l'):=by have:=HT.out x l' e;rwa[hl9]at this
  have HZ:Hid (c2=1->iJ w2 (Z (M ⟨b2,0,O⟩) l.length 0) l'):=fun hc=>by
   have:l=[]:=List.eq_nil_of_length_eq_zero (by omega);subst this;have:l'=[]:=List.eq_nil_of_length_eq_zero (by omega);subst this;exact⟨_,0,rfl,Nat.le_refl _,(fun k=>by cases k),Or.inl rfl⟩
  clear HT HP HO e hl9 hlen;by_cases Da:c2=1
  ·have hz:=HZ.out Da;subst Da;have SK:l.length=0:=by omega
   rw[SK]at hz
   go_wp2_with fail
   go_ret;rw[HF.out];exact⟨_,rfl,hz,G2⟩
  ·have hz:=HT2.out
   go_wp2_with fail
   go_ret;rw[HF.out];exact⟨_,rfl,hz,G2⟩
 ·have i1:¬(d:Int)<((l.length+1:Nat):Int):=by omega
  go_wp2_with fail
  go_ret;rw[HP.out,if_neg hdl];have:=HO.out;rw[hlen]at this;exact⟨_,rfl,this,G2⟩
structure eZ (w:F)(v:Y)(g:Gm)(d:Nat):Prop where
 form:∃su sr,v= .agg #[.string (aT g.1),su,sr,I V g.2.2.2]/\iJ w su g.2.1.reverse/\iJ w sr g.2.2.1.reverse
 ul:g.2.1.length<=d
 rl:g.2.2.1.length<=d
 d0:0<=g.2.2.2
 d1:g.2.2.2<=1000000
theorem eZ.aM (h:eZ w v g d)(hg:aK w w'):eZ w' v g d:=by
 obtain⟨su,sr,e,h1,h2⟩:=h.form;exact⟨⟨su,sr,e,h1.aM hg,h2.aM hg⟩,h.ul,h.rl,h.d0,h.d1⟩
theorem eZ.q {aA:Nat->Prop}(h:eZ w v g d)(hF:Fr w w' aA)(hY:∀b,aA b->Qi w b):eZ w' v g d:=by
 obtain⟨su,sr,e,h1,h2⟩:=h.form;exact⟨⟨su,sr,e,h1.q hF hY,h2.q hF hY⟩,h.ul,h.rl,h.d0,h.d1⟩
theorem iJ.form (h:iJ w v l):∃ao n c,v=Z ao n c:=by
 obtain⟨ao,c,e,-⟩:=h;exact⟨ao,_,c,e⟩
theorem bC {x:Y}(h:w.heap[b]?=M (C #[x,y,z,u] 36 (0,0))):w.cell? ⟨b,0,O⟩=M x/\w.cell? ⟨b,1,O⟩=M y/\w.cell? ⟨b,2,O⟩=M z/\w.cell? ⟨b,3,O⟩=M u:=by simp[World.cell?,h]
theorem fT {x:Y}{P:Prop}(h:w.heap[b]?=M (C #[x,y,z,u] 36 (0,0)))(k:w.cell? ⟨b,0,O⟩=M x->w.cell? ⟨b,1,O⟩=M y->w.cell? ⟨b,2,O⟩=M z->w.cell? ⟨b,3,O⟩=M u->(∀j,w.frozen? ⟨b,j,O⟩=false)->P):P:=by
 obtain⟨a,b1,c,d⟩:=bC h;exact k a b1 c d (fun j=>by simp[World.frozen?,h])
theorem iG {W:F}{R:Nat}{a b c d:Y}(h:W.heap[R]?=M (C #[a,b,c,d] 36 (0,0)))(a' b' c' d':Y):((((W.setCell ⟨R,0,O⟩ a').setCell ⟨R,1,O⟩ b').setCell ⟨R,2,O⟩ c').setCell ⟨R,3,O⟩ d').heap[R]?=M (C #[a',b',c',d'] 36 (0,0)):=by
 have h0:(W.setCell ⟨R,0,O⟩ a').heap[R]?=M (C #[a',b,c,d] 36 (0,0)):=by rw[heap_setCell_same W R 0 _ _ _ h];rfl
 have h1:((W.setCell ⟨R,0,O⟩ a').setCell ⟨R,1,O⟩ b').heap[R]?=M (C #[a',b',c,d] 36 (0,0)):=by rw[heap_setCell_same _ R 1 _ _ _ h0];rfl
 have h2:(((W.setCell ⟨R,0,O⟩ a').setCell ⟨R,1,O⟩ b').setCell ⟨R,2,O⟩ c').heap[R]?=M (C #[a',b',c',d] 36 (0,0)):=by rw[heap_setCell_same _ R 2 _ _ _ h1];rfl
 rw[heap_setCell_same _ R 3 _ _ _ h2];rfl
theorem xI {R:Nat}{x:Y}(h:iJ w v l)(hb:w.heap[R]?=M (C #[x,y,z,u] 36 (0,0)))(a b c d:Y):iJ ((((w.setCell ⟨R,0,O⟩ a).setCell ⟨R,1,O⟩ b).setCell ⟨R,2,O⟩ c).setCell ⟨R,3,O⟩ d) v l:=by
 have hF:=(((Fr.set w ⟨R,0,O⟩ a).trans (Fr.set _ ⟨R,1,O⟩ b)).trans (Fr.set _ ⟨R,2,O⟩ c)).trans (Fr.set _ ⟨R,3,O⟩ d);exact h.fr hF (fun k aQ f hk e=>aW hk hb (by decide) (by simpa using e))
theorem Ii {W:F}{g:Nat}(h:aK w W)(hg:w.heap.size<=g)(a b c d:Y):aK w ((((W.setCell ⟨g,0,O⟩ a).setCell ⟨g,1,O⟩ b).setCell ⟨g,2,O⟩ c).setCell ⟨g,3,O⟩ d):=by
 have hF:=(((Fr.set W ⟨g,0,O⟩ a).trans (Fr.set _ ⟨g,1,O⟩ b)).trans (Fr.set _ ⟨g,2,O⟩ c)).trans (Fr.set _ ⟨g,3,O⟩ d);refine⟨h.os,h.tape,h.output,Nat.le_trans h.size hF.1,fun k hk=>(hF.2 k (Nat.lt_of_lt_of_le hk h.size) (fun e=>?_)).trans (h.block k hk)⟩;have:k=g:=by simpa using e
 omega
theorem Jp {tx:List UInt8}(h:eZ w v g d)(hd:d<=50)(h9:g.2.2.2+1<=1000000):
 H K 43 #[v,.string (aT tx),I V (d:Int)] w fun e w'=> ∃v',e=G v'/\eZ w' v' (Cq g tx d) d/\aK w w':=by
 obtain⟨su,sr,rfl,h1,h2⟩:=h.form;have d0:=h.d0;have ul:=h.ul;obtain⟨uo,un,uc,rfl⟩:=h1.form;obtain⟨ro,rn,rc,rfl⟩:=h2.form
 have HP:Hid (∀W,aK w W->H K 79 #[Z uo un uc,.string (aT g.1),I V (d:Int)] W fun e w'=> ∃a b c,e=G (Z a b c)/\iJ w' (Z a b c) ((g.1::g.2.1).take d).reverse/\aK W w'):=fun W hW=>by
  have:=Cs (s:=g.1) (h1.aM hW) (by simpa using ul) hd;rw[List.reverse_reverse]at this;refine this.mono ?_;rintro e w' ⟨v',rfl,k1,k2⟩;obtain⟨a,b,c,rfl⟩:=k1.form;exact⟨a,b,c,rfl,k1,k2⟩
 have HD:Hid (0<=g.2.2.2/\g.2.2.2+1<=1000000):=⟨d0,h9⟩;clear h1 h2 h;generalize rR:g.2.2.2=dn at*;have XO:Hid (g.2.2.2=dn):=rR;clear rR;obtain⟨w1,dU⟩:∃w1,w1=(w.alloc (C #[.string (aT g.1),Z uo un uc,Z ro rn rc,I V dn] 36)).alloc (C #[.string ⟨#[]⟩,Z O 0 0,Z O 0 0,I V 0] 36):=⟨_,rfl⟩
 have lG:w1.heap[w.heap.size]?=M (C #[.string (aT g.1),Z uo un uc,Z ro rn rc,I V dn] 36 (0,0)):=by
  rw[dU];exact(aU _ _).block _ (by simp)|>.trans (heap_alloc_new w _)
 have bX:w1.heap[w.heap.size+1]?=M (C #[.string ⟨#[]⟩,Z O 0 0,Z O 0 0,I V 0] 36 (0,0)):=by
  rw[dU];have:=heap_alloc_new (w.alloc (C #[.string (aT g.1),Z uo un uc,Z ro rn rc,I V dn] 36)) (C #[.string ⟨#[]⟩,Z O 0 0,Z O 0 0,I V 0] 36);rwa[World.size_alloc]at this
 have G1:aK w w1:=by rw[dU];exact((aK.refl w).alloc _).alloc _
 go_enter Tryz.func43,Tryz.ntmps43
 go_upto_region 1 with fail
 rw[<-dU];obtain⟨c0,c1,-,c3⟩:=bC lG;have HB:Hid (∀W,aK w1 W->W.heap[w.heap.size+1]?=M (C #[.string ⟨#[]⟩,Z O 0 0,Z O 0 0,I V 0] 36 (0,0))):=fun W hW=>(hW.block _ (aL bX)).trans bX
 have HG:Hid (∀W,aK w1 W->aK w W):=fun W hW=>G1.then hW
 clear dU lG bX G1;have e0:w1.drew.cell? ⟨w.heap.size,0,O⟩=M (.string (aT g.1)):=c0;have e1:w1.drew.cell? ⟨w.heap.size,1,O⟩=M (Z uo un uc):=c1;have e3:w1.drew.cell? ⟨w.heap.size,3,O⟩=M (I V dn):=c3
 go_region_held3 (fun w'=>w'.cell? ⟨w.heap.size,0,O⟩=M (.string (aT g.1))/\w'.cell? ⟨w.heap.size,1,O⟩=M (Z uo un uc)/\w'.cell? ⟨w.heap.size,3,O⟩=M (I V dn))
  (first|(with_reducible exact⟨e0,e1,e3⟩)|(with_reducible exact⟨y0,y1,y3⟩)|(simp[World.cell?_setCell_far,y0,y1,y3];done))
  (first|(go_at_call 79;refine(HP.out _ (HG.out _ (aK.drew (aK.refl _)))).mono ?_;rintro e w5 ⟨x1,x2,x3,rfl,hsl,DR⟩;have dY:aK w1 w5:=aK.then (aK.drew (aK.refl _)) DR;have y0:=dY.cell c0;have y1:=dY.cell c1;have y3:=dY.cell c3;refine fT (HB.out _ dY) ?_;intro z0 z1 z2 z3 zf))
 have qK:=HB.out _ dY;have pI:=iG qK (.string (aT tx)) (Z x1 x2 x3) (Z O 0 0) (I V (IntKind.i64.wrap (dn+1)));have rE:=xI hsl qK (.string (aT tx)) (Z x1 x2 x3) (Z O 0 0) (I V (IntKind.i64.wrap (dn+1)));have hG6:=Ii (g:=w.heap.size+1) (HG.out _ dY) (by omega) (.string (aT tx)) (Z x1 x2 x3) (Z O 0 0) (I V (IntKind.i64.wrap (dn+1)));clear z0 z1 z2 z3 zf y0 y1 y3 e0 e1 e3 c0 c1 c3 hsl qK dY DR HB HG HP;generalize ((((w5.setCell ⟨w.heap.size+1,0,O⟩ (.string (aT tx))).setCell ⟨w.heap.size+1,1,O⟩ (Z x1 x2 x3)).setCell ⟨w.heap.size+1,2,O⟩ (Z O 0 0)).setCell ⟨w.heap.size+1,3,O⟩ (I V (IntKind.i64.wrap (dn+1))))=w6 at*;rw[show IntKind.i64.wrap (dn+1)=dn+1 from by rw[IntKind.wrap_i64];omega]at pI;obtain⟨q0,q1,q2,q3⟩:=bC pI
 go_wp2_with fail
 refine bodyPost_ret (v:= .agg #[.string (aT tx),Z x1 x2 x3,Z O 0 0,I V (dn+1)]) (by simp[results,Tryz.results43,go_sem,q0,q1,q2,q3]) rfl ?_;refine⟨_,rfl,⟨⟨Z x1 x2 x3,Z O 0 0,?_,rE,iJ.nil _⟩,?_,Nat.zero_le _,?_,?_⟩,hG6⟩
 ·show _=Value.agg #[.string (aT tx),Z x1 x2 x3,Z O 0 0,I V (g.2.2.2+1)];rw[XO.out]
 ·show((g.1::g.2.1).take d).length<=d;rw[List.length_take];omega
 ·show 0<=g.2.2.2+1;rw[XO.out];omega
 ·show g.2.2.2+1<=1000000;rw[XO.out];exact h9
end Go.Proofs.YtfplgfodoiiobaaGreatDoor
