/- KwA, KwB, KwC, KwD (joined). -/
import Derived.Test.YtfplgfodoiiobaaGreatDoorJ36
import Derived.Test.YtfplgfodoiiobaaGreatDoorJ38
open Option renaming none→O,some→M
open Go.Value renaming int→I,slice→Z,pointer→U
open Go.IntKind renaming i64→V
open Go.Obj renaming cells→C
open Go.Ending renaming returned→G
open Go renaming World→F,Value→Y,Calls→H
open Go.Proofs.Tryz renaming prog→K
namespace Go.Proofs.YtfplgfodoiiobaaGreatDoor
set_option maxHeartbeats 1000000
set_option maxRecDepth 100000
open Go.RowKit
variable {w w':F}{k d qp b k' B:Nat}{g:Gm}{X:Nat->Prop}{ps:Nat->Addr}{l:List (List UInt8)}{v y z u:Y}{s:Sc}{n pos:Int}{x:St}
def qZ (g:Gm)(pos:Int)(text:ByteArray)(d:Nat):Gm×Int:=if pos<0\/(g.1.length:Int)<pos then (g,5)else if text.size<1\/200<text.size then (g,6)else if 5000<(g.1.length:Int)+(text.size:Int)then (g,7)else (Kc g (g.1.take pos.toNat++text.data.toList++g.1.drop pos.toNat) d,0)
def vB (g:Gm)(pos n:Int)(d:Nat):Gm×Int:=if pos<0\/(g.1.length:Int)<pos\/n<1\/(g.1.length:Int)-pos<n then (g,5)else (Kc g (g.1.take pos.toNat++g.1.drop (pos+n).toNat) d,0)
def nC (g:Gm)(d:Nat):Gm×Int:=if g.2.1=[]then (g,8)else (yM g d,0)
def nD (g:Gm)(d:Nat):Gm×Int:=if g.2.2.1=[]then (g,8)else (yN g d,0)
def Ae (g:Gm)(pos n:Int):ByteArray×Int:=if pos<0\/(g.1.length:Int)<pos\/n<0\/(g.1.length:Int)-pos<n then (⟨#[]⟩,5)else (⟨((g.1.drop pos.toNat).take n.toNat).toArray⟩,0)
structure Hy (s:Sc)(k:Nat):Prop where
 bK:fU s
 qC:0<=s.after
 RD:Xx s (5*(450-(k:Int)))
theorem Hy.more (h:Hy s k)(hk:k<=k'):Hy s k':=⟨h.bK,h.qC,fun q=>by have:=h.RD q;omega⟩
theorem Hy.has (h:Hy s k)(hk:k<=400)(hn:n<=5):Xx s n:=fun q=>by have:=h.RD q;omega
theorem Hy.lk {s' c:Sc}(h:Hy s k)(hl:Lk s c s' n)(hk:k<=400)(hn:n<=5)(hg:fU c):Hy s' (k+1):=⟨VF hl hg h.bK,KJ hl (h.has hk hn) h.qC,fun q=>by have:=h.RD (by rw[<-hl.arm];exact q);have:=hl.lo;omega⟩
theorem Hy.calm (hg:fU s)(ha:0<=s.after)(h:s.eG=false):Hy s k:=⟨hg,ha,fun q=>by rw[h]at q;cases q⟩
def rO (w:F)(ps:Nat->Addr)(qp d:Nat)(g:Gm)(k:Nat)(X:Nat->Prop):Prop:=Gl w ps/\∃s fs m t,pF w qp s fs m X/\nG (aY s,fs,m) g k t/\s.depth=(d:Int)/\Hy s k
def BM (w w':F)(ps:Nat->Addr)(qp d:Nat)(X:Nat->Prop)(g:Gm)(k:Nat):Prop:=∃X',rO w' ps qp d g k X'/\Dk w w' X X'
theorem rO.aM (h:rO w ps qp d g k X)(hg:aJ w w'):rO w' ps qp d g k X:=by
 obtain⟨h1,s,fs,m,t,h2,h3⟩:=h;exact⟨h1.aM hg,s,fs,m,t,h2.aM hg,h3⟩
theorem rO.ty (h:rO w ps qp d g k X)(hb:X b):lD w b:=by
 obtain⟨-,s,fs,m,t,h2,-⟩:=h;exact h2.ty hb
theorem rO.more (h:rO w ps qp d g k X)(hk:k<=k'):rO w ps qp d g k' X:=by
 obtain⟨h1,s,fs,m,t,h2,h3,h4,h5⟩:=h;exact⟨h1,s,fs,m,t,h2,⟨h3.snd.more hk,h3.tell⟩,h4,h5.more hk⟩
theorem nG.more {t:Tm}(h:nG x g k t)(hk:k<=k'):nG x g k' t:=⟨h.snd.more hk,h.tell⟩
theorem Oi {fs:List bF}{m:bT}(hG:Gl w ps)(hQ:pF w qp s fs m X)(h:vV w w' qp X x)(ht:∃t,nG (aY x.1,x.2) g k t)(hd:x.1.depth=(d:Int))(hw:Hy x.1 k):BM w w' ps qp d X g k:=by
 obtain⟨X',h1,h2⟩:=h;obtain⟨t,ht⟩:=ht;exact⟨X',⟨hG.q h2.1 (fun b hb=>hQ.ty hb),x.1,x.2.1,x.2.2,t,h1,ht,hd,hw⟩,h2⟩
theorem BN {y:St}{s':Sc}{fs:List bF}{m:bT}(hG:Gl w ps)(hQ:pF w qp s fs m X)(h:vV w w' qp X (s',y.2))(hl:Lk s y.1 s' n)(ht:∃t,nG y g (k+1) t)(hd:y.1.depth=(d:Int))(hw:Hy s k)(hk:k<=400)(hn:n<=5):BM w w' ps qp d X g (k+1):=by
 obtain⟨t,ht⟩:=ht;have e:=hl.calm;refine Oi hG hQ h ⟨t,?_⟩ ?_ (hw.lk hl hk hn ht.snd.gs.bk.bK)
 ·simp only;rw[e];exact ht
 ·show(aY s').depth=_;rw[e];exact hd
theorem wW {t:Tm}{kind:Int}{text:ByteArray}(h:En x t k)(hk:k<=400):(eZ x kind pos n text).1.1.depth=x.1.depth:=by
 by_cases hc:(kK x kind pos n text).2=0
 ·obtain⟨bN,e,-⟩:=Hr h hk hc;rw[e]
 ·rw[vO h.op h.ro hc]
theorem sK (h:s.depth=(d:Int)):s.depth.toNat=d:=by omega
theorem K_ {text:ByteArray}(h:rO w ps qp d g k X)(hk:k<=400)(ht:text.size<=140737488355328):
 H K 28 #[U (M ⟨qp,0,O⟩),I V pos,.string text] w fun e w'=>e=G (I V (qZ g pos text d).2)/\BM w w' ps qp d X (qZ g pos text d).1 (k+1):=by
 obtain⟨hG,s,fs,m,t,hQ,hS,hd,hW⟩:=h;refine(BF (n:=0) hQ hG (jK hS.snd.gs hW.bK hW.qC) (by omega) ht).mono ?_;rintro e w' ⟨rfl,hq⟩;obtain⟨s',e1,hl⟩:=qJ (fs:=fs) (m:=m) (hW.has hk (n:=2) (by omega)) 73 pos 0 text;rw[e1]at hq ⊢;clear e1;obtain⟨c1,c2,c3,c4⟩:=UZ hS hk (pos:=pos) (n:=0) (text:=text);have Wy:=(wW (kind:=73) (pos:=pos) (n:=0) (text:=text) hS.snd hk).trans hd
 have key:(eZ (aY s,fs,m) 73 pos 0 text).2=(qZ g pos text d).2/\∃t',nG (eZ (aY s,fs,m) 73 pos 0 text).1 (qZ g pos text d).1 (k+1) t':=by
  unfold qZ;by_cases h1:pos<0\/(g.1.length:Int)<pos
  ·rw[if_pos h1,c1 h1];exact⟨rfl,t,hS.more (by omega)⟩
  ·rw[if_neg h1];by_cases h2:text.size<1\/200<text.size
   ·rw[if_pos h2,c2 h1 h2];exact⟨rfl,t,hS.more (by omega)⟩
   ·rw[if_neg h2];by_cases h3:5000<(g.1.length:Int)+(text.size:Int)
    ·rw[if_pos h3,c3 h1 h2 h3];exact⟨rfl,t,hS.more (by omega)⟩
    ·rw[if_neg h3];obtain⟨e1,e2⟩:=c4 h1 h2 h3;simp only[sK (show(aY s).depth=(d:Int) from hd)]at e2;exact⟨e1,e2⟩
 simp only;rw[key.1];exact⟨rfl,BN hG hQ hq hl key.2 Wy hW hk (by omega)⟩
theorem L_ (h:rO w ps qp d g k X)(hk:k<=400)(hn:n<=9223372036854775807):
 H K 44 #[U (M ⟨qp,0,O⟩),I V pos,I V n] w fun e w'=>e=G (I V (vB g pos n d).2)/\BM w w' ps qp d X (vB g pos n d).1 (k+1):=by
 obtain⟨hG,s,fs,m,t,hQ,hS,hd,hW⟩:=h;refine(UY hQ hG (jK hS.snd.gs hW.bK hW.qC) (by omega) hn).mono ?_;rintro e w' ⟨rfl,hq⟩;obtain⟨s',e1,hl⟩:=qJ (fs:=fs) (m:=m) (hW.has hk (n:=2) (by omega)) 68 pos n ⟨#[]⟩;rw[e1]at hq ⊢;clear e1;obtain⟨c1,c2⟩:=VA hS hk (pos:=pos) (n:=n) (text:=⟨#[]⟩);have Wy:=(wW (kind:=68) (pos:=pos) (n:=n) (text:=⟨#[]⟩) hS.snd hk).trans hd
 have key:(eZ (aY s,fs,m) 68 pos n ⟨#[]⟩).2=(vB g pos n d).2/\∃t',nG (eZ (aY s,fs,m) 68 pos n ⟨#[]⟩).1 (vB g pos n d).1 (k+1) t':=by
  unfold vB;by_cases h1:pos<0\/(g.1.length:Int)<pos\/n<1\/(g.1.length:Int)-pos<n
  ·rw[if_pos h1,c1 h1];exact⟨rfl,t,hS.more (by omega)⟩
  ·rw[if_neg h1];obtain⟨e1,e2⟩:=c2 h1;simp only[sK (show(aY s).depth=(d:Int) from hd)]at e2;exact⟨e1,e2⟩
 simp only;rw[key.1];exact⟨rfl,BN hG hQ hq hl key.2 Wy hW hk (by omega)⟩
theorem s_undo (h:rO w ps qp d g k X)(hk:k<=400):
 H K 29 #[U (M ⟨qp,0,O⟩)] w fun e w'=>e=G (I V (nC g d).2)/\BM w w' ps qp d X (nC g d).1 (k+1):=by
 obtain⟨hG,s,fs,m,t,hQ,hS,hd,hW⟩:=h;refine(w_ (pos:=0) (n:=0) hQ hG (jK hS.snd.gs hW.bK hW.qC) (by omega)).mono ?_;rintro e w' ⟨rfl,hq⟩;obtain⟨s',e1,hl⟩:=qJ (fs:=fs) (m:=m) (hW.has hk (n:=2) (by omega)) 85 0 0 ⟨#[]⟩;rw[e1]at hq ⊢;clear e1;obtain⟨c1,c2⟩:=KF hS hk (pos:=0) (n:=0) (text:=⟨#[]⟩);have Wy:=(wW (kind:=85) (pos:=0) (n:=0) (text:=⟨#[]⟩) hS.snd hk).trans hd
 have key:(eZ (aY s,fs,m) 85 0 0 ⟨#[]⟩).2=(nC g d).2/\∃t',nG (eZ (aY s,fs,m) 85 0 0 ⟨#[]⟩).1 (nC g d).1 (k+1) t':=by
  unfold nC;by_cases h1:g.2.1=[]
  ·rw[if_pos h1,c1 h1];exact⟨rfl,t,hS.more (by omega)⟩
  ·rw[if_neg h1];obtain⟨e1,e2⟩:=c2 h1;simp only[sK (show(aY s).depth=(d:Int) from hd)]at e2;exact⟨e1,e2⟩
 simp only;rw[key.1];exact⟨rfl,BN hG hQ hq hl key.2 Wy hW hk (by omega)⟩
theorem s_redo (h:rO w ps qp d g k X)(hk:k<=400):
 H K 46 #[U (M ⟨qp,0,O⟩)] w fun e w'=>e=G (I V (nD g d).2)/\BM w w' ps qp d X (nD g d).1 (k+1):=by
 obtain⟨hG,s,fs,m,t,hQ,hS,hd,hW⟩:=h;refine(qredo (pos:=0) (n:=0) hQ hG (jK hS.snd.gs hW.bK hW.qC) (by omega)).mono ?_;rintro e w' ⟨rfl,hq⟩;obtain⟨s',e1,hl⟩:=qJ (fs:=fs) (m:=m) (hW.has hk (n:=2) (by omega)) 82 0 0 ⟨#[]⟩;rw[e1]at hq ⊢;clear e1;obtain⟨c1,c2⟩:=KG hS hk (pos:=0) (n:=0) (text:=⟨#[]⟩);have Wy:=(wW (kind:=82) (pos:=0) (n:=0) (text:=⟨#[]⟩) hS.snd hk).trans hd
 have key:(eZ (aY s,fs,m) 82 0 0 ⟨#[]⟩).2=(nD g d).2/\∃t',nG (eZ (aY s,fs,m) 82 0 0 ⟨#[]⟩).1 (nD g d).1 (k+1) t':=by
  unfold nD;by_cases h1:g.2.2.1=[]
  ·rw[if_pos h1,c1 h1];exact⟨rfl,t,hS.more (by omega)⟩
  ·rw[if_neg h1];obtain⟨e1,e2⟩:=c2 h1;simp only[sK (show(aY s).depth=(d:Int) from hd)]at e2;exact⟨e1,e2⟩
 simp only;rw[key.1];exact⟨rfl,BN hG hQ hq hl key.2 Wy hW hk (by omega)⟩
theorem M_ (h:rO w ps qp d g k X)(hn:n<=9223372036854775807):
 H K 39 #[U (M ⟨qp,0,O⟩),I V pos,I V n] w fun e w'=>e=G (.tuple #[.string (Ae g pos n).1,I V (Ae g pos n).2])/\aJ w w':=by
 obtain⟨hG,s,fs,m,t,hQ,hS,hd,hW⟩:=h;refine(xread hQ (jK hS.snd.gs hW.bK hW.qC) hn).mono ?_;rintro e w' ⟨rfl,hg⟩;refine⟨?_,hg⟩;have er:mX (s,fs,m) pos n=mX (aY s,fs,m) pos n:=rfl;rw[er];clear er;obtain⟨c1,c2⟩:=KC hS (pos:=pos) (n:=n);unfold Ae;by_cases h1:pos<0\/(g.1.length:Int)<pos\/n<0\/(g.1.length:Int)-pos<n
 ·rw[if_pos h1,c1 h1]
 ·rw[if_neg h1];obtain⟨e1,e2⟩:=c2 h1;have e3:(mX (aY s,fs,m) pos n).1=⟨((g.1.drop pos.toNat).take n.toNat).toArray⟩:=pW (by rw[e2]);rw[e1,e3]
theorem KO (h:rO w ps qp d g k X):
 H K 40 #[U (M ⟨qp,0,O⟩)] w fun e w'=>e=G (.tuple #[I V (g.1.length:Int),I V 0])/\w'=w:=by
 obtain⟨hG,s,fs,m,t,hQ,hS,hd,hW⟩:=h;have xY:s.aS=true:=hS.snd.op;have:=VH hQ;rw[xY]at this;simp only[if_true]at this;rw[hS.len];exact this
theorem s_done (h:rO w ps qp d g k X):
 H K 25 #[U (M ⟨qp,0,O⟩)] w fun e w'=>e=G (.tuple #[I V g.2.2.2,I V 0])/\w'=w:=by
 obtain⟨hG,s,fs,m,t,hQ,hS,hd,hW⟩:=h;have xY:s.aS=true:=hS.snd.op;have:=xdone hQ;rw[xY]at this;simp only[if_true]at this;rw[hS.done];exact this
theorem tH {c:Int}(Ig: -9223372036854775808<=c)(Oo:c<=9223372036854775807)(hn:0<=n)(oW:n<=5000):
 H K 41 #[I V c,I V n] w fun e w'=> ∃r:Int,e=G (I V r)/\-9223372036854775808<=r/\r<=9223372036854775807/\w'=w:=by
 by_cases h0:c<0
 ·go_enter Tryz.func41,Tryz.ntmps41
  go_wp2_with fail
  go_ret;exact⟨c,rfl,Ig,Oo,rfl⟩
 ·by_cases h1:3*n+9<c
  ·go_enter Tryz.func41,Tryz.ntmps41
   go_wp2_with fail
   go_ret;exact⟨c,rfl,Ig,Oo,rfl⟩
  ·have hp:=vZ (w:=w) (c:=c) (n:=n+1) Ig Oo (by omega) (by omega);go_enter Tryz.func41,Tryz.ntmps41
   go_wp2_with (go_at_call 15;refine hp.mono ?_;rintro e w' ⟨r,rfl,r1,r2,rfl⟩)
   go_ret;exact⟨r,rfl,by omega,by omega,rfl⟩
def aR (l:List UInt8):ByteArray:=⟨l.toArray⟩
def di (w:F)(ao:Option Addr)(l:List (List UInt8)):Prop:=l=[]\/∃b off,ao=M ⟨b,off,O⟩/\(∀(i:Nat) x,l[i]?=M x->w.cell? ⟨b,off+i,O⟩=M (.string (aR x)))/\∃aT f,w.heap[b]?=M (C aT 9 f)
def jI (w:F)(v:Y)(l:List (List UInt8)):Prop:=∃ao c,v=Z ao l.length c/\l.length<=c/\(ao=O->l=[]/\c=0)/\di w ao l
def BO (w:F)(B:Nat)(v:Y)(l:List (List UInt8)):Prop:=w.ownsRow B 9 1 v l.length (l.map (fun x=>Value.string (aR x)))
theorem di.fr {ao:Option Addr}(h:di w ao l)(hF:Fr w w' X)(hx:∀(b:Nat) (aT:Array Y) (f:Nat×Nat),w.heap[b]?=M (C aT 9 f)->¬X b):di w' ao l:=by
 rcases h with h|⟨b,off,e,hc,aT,f,hb⟩
 ·exact Or.inl h
 ·have hn:=hx b aT f hb;have pR:=hF.at hb hn;refine Or.inr ⟨b,off,e,fun i x hi=>?_,aT,f,pR⟩;have:=hc i x hi;simp only[World.cell?,hb,pR]at this ⊢;exact this
theorem jI.fr (h:jI w v l)(hF:Fr w w' X)(hx:∀(b:Nat) (aT:Array Y) (f:Nat×Nat),w.heap[b]?=M (C aT 9 f)->¬X b):jI w' v l:=by
 obtain⟨ao,c,e,h1,h2,h3⟩:=h;exact⟨ao,c,e,h1,h2,h3.fr hF hx⟩
theorem jI.aM (h:jI w v l)(hg:aJ w w'):jI w' v l:=h.fr (Fr.dO hg (fun _=>False)) (fun _ _ _ _=>id)
theorem jI.q {aB:Nat->Prop}(h:jI w v l)(hF:Fr w w' aB)(hY:∀b,aB b->lD w b):jI w' v l:=h.fr hF (fun b aT f hb e=>(hY _ e).ne hb (by decide) rfl)
theorem jI.nil (w:F):jI w (Z O 0 0) []:=⟨O,0,rfl,Nat.le_refl _,fun _=>⟨rfl,rfl⟩,Or.inl rfl⟩
theorem jI.tail {off c:Nat}{x:List UInt8}(h:di w (M ⟨b,off,O⟩) (x::l))(hc:l.length+1<=c):jI w (Z (M ⟨b,off+1,O⟩) l.length (c-1)) l:=by
 refine⟨_,c-1,rfl,by omega,(fun k=>by cases k),?_⟩;rcases h with h|⟨b',Tz,e,hc,hb⟩
 ·cases h
 ·cases e
  refine Or.inr ⟨b,off+1,rfl,fun i y hi=>?_,hb⟩;have:=hc (i+1) y (by simpa using hi);rwa[show off+1+i=off+(i+1) from by omega]
theorem BO.sl (h:BO w B v l):jI w v l:=by
 have h0:=h;rcases h.2 with⟨rfl,e⟩|⟨g,cap,aT,rfl,ZU,hg,hnc,hcm,hcs,htake⟩
 ·have:l=[]:=List.eq_nil_of_length_eq_zero e;subst this;exact jI.nil w
 ·refine⟨_,cap,rfl,hnc,(fun k=>by cases k),?_⟩;have:=World.ownsRow.cells h0 (g:=g) rfl;refine Or.inr ⟨g,0,rfl,fun i x hi=>?_,aT,_,hg⟩;have:=this i (.string (aR x)) (by rw[List.getElem?_map,hi];rfl);rw[show(⟨g,0,O⟩:Addr).add i=⟨g,0+i,O⟩ from by unfold Addr.add;split<;>simp_all]at this;exact this
theorem Tryz.infoStr:(Tryz.prog.info? 9).map (fun i=>(i.zero,i.size,i.bytes))=M (M (.string ⟨#[]⟩),1,16):=by kernel_rfl
theorem di.cells {ad:Addr}(hr:di w (M ad) l):∀j u,(l.map (fun x=>Value.string (aR x)))[j]?=M u->w.cell? (ad.add j)=M u:=by
 intro j u hj;rw[List.getElem?_map]at hj;cases hx:l[j]? with
 |none=>rw[hx]at hj;cases hj
 |some x=>
  rw[hx]at hj;cases hj
  rcases hr with rfl|⟨b,off,e,hc,-⟩
  ·simp at hx
  ·cases e
   rw[show(⟨b,off,O⟩:Addr).add j=⟨b,off+j,O⟩ from by unfold Addr.add;split<;>simp_all];exact hc j x hx
theorem Af {ops:Array Oper}{rest:List Oper}{o:Oper}{a:Act}{Q:Exit->Act->F->Prop}(Bq:o.guard=O)(s x:Operand)
 (ho:o.op= .call { callee:= .builtin .append,args:=#[s,x],argTypes:=#[34,34] })
 (base:Nat)(v:Y)(ys zs:List (List UInt8))(hs:a.eval s=v)(cZ:BO w base v ys)(ao:Option Addr)(m c:Nat)(hx:a.eval x=Z ao m c)(hm:m=zs.length)(gJ:ao=O->zs=[]/\c=0)(hr:di w ao zs)
 (hlen:ys.length+zs.length<=1000000)(kW:base<=w.heap.size)
 (h:∀v' w',BO w' base v' (ys++zs)->w.grownBy w' v.ownBlock->fI w v v'->wpList K ops Q rest (a.put o.dst v') w'):wpList K ops Q (o::rest) a w:=by
 obtain⟨i0,hi,tO,tQ,uW⟩:=info_parts Tryz.infoStr;subst hm;cases ao with
 |none=>
  obtain⟨rfl,rfl⟩:=gJ rfl;exact wpList_append_own_none Bq s x 34 ho base 9 i0 1 Tryz.underlying34 hi v _ _ hs cZ hx (h v w (by simpa using cZ) (World.grownBy.refl _ _) (Or.inl rfl))
 |some ad=>
  obtain⟨v',w',Fh,CV,Cv,CW⟩:=tY (P:=K) w base 34 o.type 9 i0 (.string ⟨#[]⟩) 1 16 Tryz.underlying34 hi tO tQ uW rfl (by decide) v ys.length _ cZ ad zs.length c (zs.map (fun x=>Value.string (aR x))) (by simp) (di.cells hr) (by
   intro u hu;obtain⟨z,-,rfl⟩:=List.mem_map.1 hu;rfl) (by unfold maxLen;omega) (by omega) kW
  refine wpList_plain Bq fun _ hK=>?_
  unfold Oper.wp execOp;simp only[ho,resolve,invoke,builtin,Sem.run_bind,Sem.run_pure,Result.andThen_ok,List.map_toArray,List.map_cons,List.map_nil,hs,hx,Fh];refine hK _ _ (h v' w' ?_ Cv CW);unfold BO;rw[List.map_append,List.length_append];exact CV
theorem Ry (w:F)(hB:B<=w.heap.size):BO (w.alloc (C #[] 9)) B (Z (M ⟨w.heap.size,0,O⟩) 0 0) []:=World.ownsRow_made w #[] 0 hB (by decide) rfl
theorem rds_one (w:F)(s:List UInt8):di (w.alloc (C #[.string (aR s)] 9)) (M ⟨w.heap.size,0,O⟩) [s]:=by
 have hb:=heap_alloc_new w (C #[.string (aR s)] 9);refine Or.inr ⟨w.heap.size,0,rfl,fun i x hi=>?_,_,_,hb⟩;cases i with
 |zero=>simp at hi;subst hi;simp only[World.cell?,hb];rfl
 |succ i=>simp at hi
theorem BO.form (h:BO w B v l)(hl:l≠[]):∃b c,v=Z (M ⟨b,0,O⟩) l.length c/\l.length<=c/\di w (M ⟨b,0,O⟩) l/\B<=b:=by
 have h0:=h.sl;rcases h.2 with⟨rfl,e⟩|⟨g,cap,aT,rfl,ZU,hg,hnc,hcm,hcs,htake⟩
 ·exact absurd (List.eq_nil_of_length_eq_zero e) hl
 ·obtain⟨ao,c,e,h1,h2,h3⟩:=h0;cases e
  exact⟨g,cap,rfl,hnc,h3,ZU⟩
theorem ZA {s:List UInt8}(h:l.length<=d):((s::l.reverse).take d).reverse=if d<l.length+1 then (l++ [s]).drop 1 else l++ [s]:=by
 have e:(s::l.reverse)=(l++ [s]).reverse:=by simp
 rw[e,List.take_reverse,List.reverse_reverse,List.length_append,List.length_singleton];by_cases hd:d<l.length+1
 ·rw[if_pos hd,show l.length+1-d=1 from by omega]
 ·rw[if_neg hd,show l.length+1-d=0 from by omega];rfl
theorem Dz {s:List UInt8}(h:jI w v l)(hl:l.length<=d)(hd:d<=50):
 H K 79 #[v,.string (aR s),I V (d:Int)] w fun e w'=> ∃v',e=G v'/\jI w' v' ((s::l.reverse).take d).reverse/\aJ w w':=by
 obtain⟨ao,c,rfl,h1,h2,h3⟩:=h;have HP:Hid (((s::l.reverse).take d).reverse=if d<l.length+1 then (l++ [s]).drop 1 else l++ [s]):=ZA hl;have h3':di (w.alloc (C #[] 9)) ao l:=h3.fr (Fr.dO (aU w _) (fun _=>False)) (fun _ _ _ _=>id);go_enter Tryz.func79,Tryz.ntmps79
 go_upto_region 2 with(at_builtin;go_must (refine Af (by rfl) (.tmp 8) (.tmp 9) (by rfl) w.heap.size (Z (M ⟨w.heap.size,0,O⟩) 0 0) [] l (by rfl) (by exact Ry w (Nat.le_refl _)) ao l.length c (by rfl) rfl h2 (by exact h3') (by simp;omega) (by simp) ?_);intro v1 w1 Je kL yC)
 rw[List.nil_append]at Je;have G1:Below w.heap.size w w1:=(aU w (C #[] 9)).grown kL (aU w (C #[] 9)).size (fun k e=>(World.ownsRow.lt (Ry w (Nat.le_refl _)) k e).1);have ho1':BO (w1.alloc (C #[.string (aR s)] 9)) w.heap.size v1 l:=World.ownsRow.alloc Je _;have Tv:=G1.size;have yK:=rds_one w1 s;clear kL yC h3'
 go_upto_region 3 with(at_builtin;go_must (refine Af (by rfl) (.tmp 11) (.tmp 13) (by rfl) w.heap.size v1 l [s] (by rfl) (by exact ho1') (M ⟨w1.heap.size,0,O⟩) 1 1 (by rfl) rfl (by intro k;cases k) (by exact yK) (by simp;omega) (by simp;omega) ?_);intro v2 w2 ho2 jL hs2)
 have G2:Below w.heap.size w w2:=(NP G1 (aU w1 _) Tv).grown jL (by simp;omega) (fun k e=>(World.ownsRow.lt ho1' k e).1);obtain⟨b2,c2,rfl,k1,k2,k3⟩:=ho2.form (by simp);have HO:Hid (jI w2 (Z (M ⟨b2,0,O⟩) (l++ [s]).length c2) (l++ [s])):=ho2.sl
 have HT:Hid (∀x l',l++ [s]=x::l'->jI w2 (Z (M ⟨b2,0+1,O⟩) l'.length (c2-1)) l'):=fun x l' e=>by
  rw[e]at k2 k1;exact jI.tail k2 (by simpa using k1)
 have hlen:(l++ [s]).length=l.length+1:=by simp
 rw[hlen]at k1 ⊢;clear Je ho2 hs2 jL k2 ho1' yK;by_cases hdl:d<l.length+1
 ·have i1:(d:Int)<((l.length+1:Nat):Int):=by omega
  obtain⟨x,l',e⟩:∃x l',l++ [s]=x::l':=by
   cases l with
   |nil=>exact⟨s,[],rfl⟩
   |cons y l=>exact⟨y,l++ [s],rfl⟩
  have HF:Hid (((s::l.reverse).take d).reverse=l'):=by
   show _=_;rw[HP.out,if_pos hdl,e];rfl
  have hl9:l'.length=l.length:=by have:=congrArg List.length e;simp at this;omega
  have HT2:Hid (jI w2 (Z (M ⟨b2,0+1,O⟩) l.length (c2-1)) l'):=by have:=HT.out x l' e;rwa[hl9]at this
  have HZ:Hid (c2=1->jI w2 (Z (M ⟨b2,0,O⟩) l.length 0) l'):=fun hc=>by
   have:l=[]:=List.eq_nil_of_length_eq_zero (by omega);subst this;have:l'=[]:=List.eq_nil_of_length_eq_zero (by omega);subst this;exact⟨_,0,rfl,Nat.le_refl _,(fun k=>by cases k),Or.inl rfl⟩
  clear HT HP HO e hl9 hlen;by_cases Ig:c2=1
  ·have hz:=HZ.out Ig;subst Ig;have hl0:l.length=0:=by omega
   rw[hl0]at hz
   go_wp2_with fail
   go_ret;rw[HF.out];exact⟨_,rfl,hz,G2⟩
  ·have hz:=HT2.out
   go_wp2_with fail
   go_ret;rw[HF.out];exact⟨_,rfl,hz,G2⟩
 ·have i1:¬(d:Int)<((l.length+1:Nat):Int):=by omega
  go_wp2_with fail
  go_ret;rw[HP.out,if_neg hdl];have:=HO.out;rw[hlen]at this;exact⟨_,rfl,this,G2⟩
structure eU (w:F)(v:Y)(g:Gm)(d:Nat):Prop where
 form:∃su sr,v= .agg #[.string (aR g.1),su,sr,I V g.2.2.2]/\jI w su g.2.1.reverse/\jI w sr g.2.2.1.reverse
 ul:g.2.1.length<=d
 rl:g.2.2.1.length<=d
 d0:0<=g.2.2.2
 d1:g.2.2.2<=1000000
theorem eU.aM (h:eU w v g d)(hg:aJ w w'):eU w' v g d:=by
 obtain⟨su,sr,e,h1,h2⟩:=h.form;exact⟨⟨su,sr,e,h1.aM hg,h2.aM hg⟩,h.ul,h.rl,h.d0,h.d1⟩
theorem eU.q {aB:Nat->Prop}(h:eU w v g d)(hF:Fr w w' aB)(hY:∀b,aB b->lD w b):eU w' v g d:=by
 obtain⟨su,sr,e,h1,h2⟩:=h.form;exact⟨⟨su,sr,e,h1.q hF hY,h2.q hF hY⟩,h.ul,h.rl,h.d0,h.d1⟩
theorem jI.form (h:jI w v l):∃ao n c,v=Z ao n c:=by
 obtain⟨ao,c,e,-⟩:=h;exact⟨ao,_,c,e⟩
theorem aZ {x:Y}(h:w.heap[b]?=M (C #[x,y,z,u] 36 (0,0))):w.cell? ⟨b,0,O⟩=M x/\w.cell? ⟨b,1,O⟩=M y/\w.cell? ⟨b,2,O⟩=M z/\w.cell? ⟨b,3,O⟩=M u:=by simp[World.cell?,h]
theorem fZ {x:Y}{P:Prop}(h:w.heap[b]?=M (C #[x,y,z,u] 36 (0,0)))(k:w.cell? ⟨b,0,O⟩=M x->w.cell? ⟨b,1,O⟩=M y->w.cell? ⟨b,2,O⟩=M z->w.cell? ⟨b,3,O⟩=M u->(∀j,w.frozen? ⟨b,j,O⟩=false)->P):P:=by
 obtain⟨a,b1,c,d⟩:=aZ h;exact k a b1 c d (fun j=>by simp[World.frozen?,h])
theorem iP {W:F}{R:Nat}{a b c d:Y}(h:W.heap[R]?=M (C #[a,b,c,d] 36 (0,0)))(a' b' c' d':Y):((((W.setCell ⟨R,0,O⟩ a').setCell ⟨R,1,O⟩ b').setCell ⟨R,2,O⟩ c').setCell ⟨R,3,O⟩ d').heap[R]?=M (C #[a',b',c',d'] 36 (0,0)):=by
 have h0:(W.setCell ⟨R,0,O⟩ a').heap[R]?=M (C #[a',b,c,d] 36 (0,0)):=by rw[heap_setCell_same W R 0 _ _ _ h];rfl
 have h1:((W.setCell ⟨R,0,O⟩ a').setCell ⟨R,1,O⟩ b').heap[R]?=M (C #[a',b',c,d] 36 (0,0)):=by rw[heap_setCell_same _ R 1 _ _ _ h0];rfl
 have h2:(((W.setCell ⟨R,0,O⟩ a').setCell ⟨R,1,O⟩ b').setCell ⟨R,2,O⟩ c').heap[R]?=M (C #[a',b',c',d] 36 (0,0)):=by rw[heap_setCell_same _ R 2 _ _ _ h1];rfl
 rw[heap_setCell_same _ R 3 _ _ _ h2];rfl
theorem xZ {R:Nat}{x:Y}(h:jI w v l)(hb:w.heap[R]?=M (C #[x,y,z,u] 36 (0,0)))(a b c d:Y):jI ((((w.setCell ⟨R,0,O⟩ a).setCell ⟨R,1,O⟩ b).setCell ⟨R,2,O⟩ c).setCell ⟨R,3,O⟩ d) v l:=by
 have hF:=(((Fr.set w ⟨R,0,O⟩ a).trans (Fr.set _ ⟨R,1,O⟩ b)).trans (Fr.set _ ⟨R,2,O⟩ c)).trans (Fr.set _ ⟨R,3,O⟩ d);exact h.fr hF (fun k aT f hk e=>aW hk hb (by decide) (by simpa using e))
theorem Kh {W:F}{g:Nat}(h:aJ w W)(hg:w.heap.size<=g)(a b c d:Y):aJ w ((((W.setCell ⟨g,0,O⟩ a).setCell ⟨g,1,O⟩ b).setCell ⟨g,2,O⟩ c).setCell ⟨g,3,O⟩ d):=by
 have hF:=(((Fr.set W ⟨g,0,O⟩ a).trans (Fr.set _ ⟨g,1,O⟩ b)).trans (Fr.set _ ⟨g,2,O⟩ c)).trans (Fr.set _ ⟨g,3,O⟩ d);refine⟨h.os,h.tape,h.output,Nat.le_trans h.size hF.1,fun k hk=>(hF.2 k (Nat.lt_of_lt_of_le hk h.size) (fun e=>?_)).trans (h.block k hk)⟩;have:k=g:=by simpa using e
 omega
theorem Lv {tx:List UInt8}(h:eU w v g d)(hd:d<=50)(h9:g.2.2.2+1<=1000000):
 H K 43 #[v,.string (aR tx),I V (d:Int)] w fun e w'=> ∃v',e=G v'/\eU w' v' (Kc g tx d) d/\aJ w w':=by
 obtain⟨su,sr,rfl,h1,h2⟩:=h.form;have d0:=h.d0;have ul:=h.ul;obtain⟨uo,un,uc,rfl⟩:=h1.form;obtain⟨ro,rn,rc,rfl⟩:=h2.form
 have HP:Hid (∀W,aJ w W->H K 79 #[Z uo un uc,.string (aR g.1),I V (d:Int)] W fun e w'=> ∃a b c,e=G (Z a b c)/\jI w' (Z a b c) ((g.1::g.2.1).take d).reverse/\aJ W w'):=fun W hW=>by
  have:=Dz (s:=g.1) (h1.aM hW) (by simpa using ul) hd;rw[List.reverse_reverse]at this;refine this.mono ?_;rintro e w' ⟨v',rfl,k1,k2⟩;obtain⟨a,b,c,rfl⟩:=k1.form;exact⟨a,b,c,rfl,k1,k2⟩
 have HD:Hid (0<=g.2.2.2/\g.2.2.2+1<=1000000):=⟨d0,h9⟩;clear h1 h2 h;generalize rJ:g.2.2.2=dn at*;have wm:Hid (g.2.2.2=dn):=rJ;clear rJ;obtain⟨w1,dU⟩:∃w1,w1=(w.alloc (C #[.string (aR g.1),Z uo un uc,Z ro rn rc,I V dn] 36)).alloc (C #[.string ⟨#[]⟩,Z O 0 0,Z O 0 0,I V 0] 36):=⟨_,rfl⟩
 have kT:w1.heap[w.heap.size]?=M (C #[.string (aR g.1),Z uo un uc,Z ro rn rc,I V dn] 36 (0,0)):=by
  rw[dU];exact(aU _ _).block _ (by simp)|>.trans (heap_alloc_new w _)
 have bX:w1.heap[w.heap.size+1]?=M (C #[.string ⟨#[]⟩,Z O 0 0,Z O 0 0,I V 0] 36 (0,0)):=by
  rw[dU];have:=heap_alloc_new (w.alloc (C #[.string (aR g.1),Z uo un uc,Z ro rn rc,I V dn] 36)) (C #[.string ⟨#[]⟩,Z O 0 0,Z O 0 0,I V 0] 36);rwa[World.size_alloc]at this
 have G1:aJ w w1:=by rw[dU];exact((aJ.refl w).alloc _).alloc _
 go_enter Tryz.func43,Tryz.ntmps43
 go_upto_region 1 with fail
 rw[<-dU];obtain⟨c0,c1,-,c3⟩:=aZ kT;have HB:Hid (∀W,aJ w1 W->W.heap[w.heap.size+1]?=M (C #[.string ⟨#[]⟩,Z O 0 0,Z O 0 0,I V 0] 36 (0,0))):=fun W hW=>(hW.block _ (aK bX)).trans bX
 have HG:Hid (∀W,aJ w1 W->aJ w W):=fun W hW=>G1.then hW
 clear dU kT bX G1;have e0:w1.drew.cell? ⟨w.heap.size,0,O⟩=M (.string (aR g.1)):=c0;have e1:w1.drew.cell? ⟨w.heap.size,1,O⟩=M (Z uo un uc):=c1;have e3:w1.drew.cell? ⟨w.heap.size,3,O⟩=M (I V dn):=c3
 go_region_held3 (fun w'=>w'.cell? ⟨w.heap.size,0,O⟩=M (.string (aR g.1))/\w'.cell? ⟨w.heap.size,1,O⟩=M (Z uo un uc)/\w'.cell? ⟨w.heap.size,3,O⟩=M (I V dn))
  (first|(with_reducible exact⟨e0,e1,e3⟩)|(with_reducible exact⟨y0,y1,y3⟩)|(simp[World.cell?_setCell_far,y0,y1,y3];done))
  (first|(go_at_call 79;refine(HP.out _ (HG.out _ (aJ.drew (aJ.refl _)))).mono ?_;rintro e w5 ⟨x1,x2,x3,rfl,hsl,KP⟩;have dK:aJ w1 w5:=aJ.then (aJ.drew (aJ.refl _)) KP;have y0:=dK.cell c0;have y1:=dK.cell c1;have y3:=dK.cell c3;refine fZ (HB.out _ dK) ?_;intro z0 z1 z2 z3 zf))
 have rG:=HB.out _ dK;have qK:=iP rG (.string (aR tx)) (Z x1 x2 x3) (Z O 0 0) (I V (IntKind.i64.wrap (dn+1)));have sM:=xZ hsl rG (.string (aR tx)) (Z x1 x2 x3) (Z O 0 0) (I V (IntKind.i64.wrap (dn+1)));have hG6:=Kh (g:=w.heap.size+1) (HG.out _ dK) (by omega) (.string (aR tx)) (Z x1 x2 x3) (Z O 0 0) (I V (IntKind.i64.wrap (dn+1)));clear z0 z1 z2 z3 zf y0 y1 y3 e0 e1 e3 c0 c1 c3 hsl rG dK KP HB HG HP;generalize ((((w5.setCell ⟨w.heap.size+1,0,O⟩ (.string (aR tx))).setCell ⟨w.heap.size+1,1,O⟩ (Z x1 x2 x3)).setCell ⟨w.heap.size+1,2,O⟩ (Z O 0 0)).setCell ⟨w.heap.size+1,3,O⟩ (I V (IntKind.i64.wrap (dn+1))))=w6 at*;rw[show IntKind.i64.wrap (dn+1)=dn+1 from by rw[IntKind.wrap_i64];omega]at qK;obtain⟨q0,q1,q2,q3⟩:=aZ qK
 go_wp2_with fail
 refine bodyPost_ret (v:= .agg #[.string (aR tx),Z x1 x2 x3,Z O 0 0,I V (dn+1)]) (by simp[results,Tryz.results43,go_sem,q0,q1,q2,q3]) rfl ?_;refine⟨_,rfl,⟨⟨Z x1 x2 x3,Z O 0 0,?_,sM,jI.nil _⟩,?_,Nat.zero_le _,?_,?_⟩,hG6⟩
 ·show _=Value.agg #[.string (aR tx),Z x1 x2 x3,Z O 0 0,I V (g.2.2.2+1)];rw[wm.out]
 ·show((g.1::g.2.1).take d).length<=d;rw[List.length_take];omega
 ·show 0<=g.2.2.2+1;rw[wm.out];omega
 ·show g.2.2.2+1<=1000000;rw[wm.out];exact h9
end Go.Proofs.YtfplgfodoiiobaaGreatDoor
