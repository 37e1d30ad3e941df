/- KpQ, KxN, KwK, KwN (joined). -/
import Derived.Test.YtfplgfodoiiobaaGreatDoorJ43
open Option renaming none→O,some→M
open Go.Value renaming int→I,pointer→U
open Go.IntKind renaming i64→V
open Go.Obj renaming cells→C
open Go.Ending renaming returned→G
open Go renaming World→F,Value→Y,Calls→H
open Go.Proofs.Tryz renaming prog→K
namespace Go.Proofs.YtfplgfodoiiobaaGreatDoor
set_option maxHeartbeats 1000000
open Go.RowKit
variable {k d qp T k':Nat}{g g':Gm}{aA:List Gm}{w w' w1 w2:F}{ps:Nat->Addr}{X X1:Nat->Prop}{x:St}{t t':Tm}{n kind pos:Int}{text:ByteArray}
def Yg (x:St)(aA:List Gm)(g:Gm)(k:Nat):Prop:=∃t rs ms ts gs,nG x g k t/\Uy x.1.depth.toNat x.1.aV (aL x.2.1 2) (aL x.2.1 1).data.toList rs ms ts gs k/\(aL x.2.1 (10+x.1.aV)).data.toList=rs.flatten/\ms rs.length=x.2.2/\rs.length<=aA.length/\(∀j,j<=rs.length->(aA++ [g])[aA.length-rs.length+j]?=M (gs j))/\(aA.length:Int)=g.2.2.2
theorem Yg.Ep (h:Yg x aA g k):∃t,nG x g k t:=by
 obtain⟨t,rs,ms,ts,gs,h1,-⟩:=h;exact⟨t,h1⟩
theorem Uy.more {ep:Int}{ck:ByteArray}{B:List UInt8}{rs:List (List UInt8)}{ms:Nat->bT}{ts:Nat->Tm}{gs:Nat->Gm}(h:Uy d ep ck B rs ms ts gs k)(hk:k<=k'):Uy d ep ck B rs ms ts gs k':=
 ⟨h.chk,h.r22,h.stp,h.bK,h.yV,fun j hj=>by obtain⟨X,a,b⟩:=h.cnt j hj;exact⟨X,by omega,b⟩,h.tell,h.top,by have:=h.bB;omega,h.bck,by have:=h.bep;omega,by have:=h.bdn;omega,by have:=h.brs;omega⟩
theorem uT (h:nG x g k t)(hk:k<=k'):nG x g k' t:=⟨h.snd.more hk,h.tell⟩
theorem Yg.more (h:Yg x aA g k)(hk:k<=k'):Yg x aA g k':=by
 obtain⟨t,rs,ms,ts,gs,h1,h2,h3⟩:=h;exact⟨t,rs,ms,ts,gs,uT h1 hk,h2.more hk,h3⟩
theorem Yg.same {x':St}(h:Yg x aA g k)(hs:nG x' g k t')(hd:x'.1.depth=x.1.depth)(he:x'.1.aV=x.1.aV)(hm:x'.2.2=x.2.2)(hb:∀n,aL x'.2.1 n=aL x.2.1 n):Yg x' aA g k:=by
 obtain⟨t,rs,ms,ts,gs,h1,h2,h3,h4,h5⟩:=h;exact⟨t',rs,ms,ts,gs,hs,by rw[hd,he,hb,hb];exact h2,by rw[he,hb];exact h3,by rw[hm];exact h4,h5⟩
theorem T_ {buf:Int}(h:En x t k)(hk:k<=400)(hK:isK kind)(hc:(kK x kind pos n text).2=0)(hb:((aL x.2.1 1).size:Int)+lC kind text<=buf):nI x.2.2 (fO kind (x.2.2.2.2.2.1+1) (qH kind pos) (pG x.2.1 kind n) (lC kind text)).data.toList buf x.1.depth.toNat=M (kK x kind pos n text).1:=by
 obtain⟨bN,e,-,-,-,-,u1,u2,u3,u4⟩:=Hr h hk hc;have Xo:=h.gs.wU h.op h.ro;have Wt:=h.bK.done;have ZX:=h.gs.done h.op;have Ht:=h.most;have hc5:(gK x.2.2 kind (qH kind pos) (pG x.2.1 kind n) (lC kind text) 5000 x.1.depth.toNat).2=0:=by rw[<-Ht];exact hc
 have kR:pI x.2.2 buf kind (qH kind pos) (pG x.2.1 kind n) (lC kind text)=true:=by
  unfold pI qH pG;rcases hK with rfl|rfl|rfl|rfl
  ·simp only[if_true,true_or];simp[Xo,hb]
  ·unfold lC;simp
  ·unfold lC;simp
  ·unfold lC;simp
 have:=UR (m:=x.2.2) (kind:=kind) (buf:=buf) (depth:=x.1.depth.toNat) (by rcases hK with rfl|rfl|rfl|rfl<;>omega) (by rcases hK with rfl|rfl|rfl|rfl<;>omega) (by unfold bS;omega) u1 u2 u3 kR hc5 [];rw[List.append_nil]at this;have h5:(kK x kind pos n text).1=(gK x.2.2 kind (qH kind pos) (pG x.2.1 kind n) (lC kind text) 5000 x.1.depth.toNat).1:=by unfold kK;rw[Ht]
 rw[h5];exact this
theorem hst_act (h:Yg x aA g k)(hk:k<=400)(hK:isK kind)(hc:(kK x kind pos n text).2=0)(hs:nG (eZ x kind pos n text).1 g' (k+1) t'):Yg (eZ x kind pos n text).1 (aA++ [g]) g' (k+1):=by
 obtain⟨t,rs,ms,ts,gs,h1,h2,h3,h4,h5,h6,h7⟩:=h;obtain⟨bN,e,b1,b2,bj,Wz,-⟩:=Hr h1.snd hk hc
 have YD:=T_ (buf:=((aL bN 1).size:Int)) h1.snd hk hK hc (by
  rw[b1];unfold lC;split
  ·rw[dR];omega
  ·omega)
 have RA:=(B_ kind (x.2.2.2.2.2.1+1) (qH kind pos) (pG x.2.1 kind n) (lC kind text)).2;have rJ:=(Hf (show(gK x.2.2 kind (qH kind pos) (pG x.2.1 kind n) (lC kind text) x.1.most x.1.depth.toNat).2=0 from hc)).1;have kL:=h1.done;have jL:=hs.done;rw[e]at hs jL ⊢;simp only at jL
 obtain⟨T,hT⟩:∃T,(aL bN 1).data.toList=(aL x.2.1 1).data.toList++T:=by
  rw[b1];split
  ·exact⟨_,eY _ _⟩
  ·exact⟨[],by simp⟩
 obtain⟨R,hR⟩:∃R,R=(fO kind (x.2.2.2.2.2.1+1) (qH kind pos) (pG x.2.1 kind n) (lC kind text)).data.toList:=⟨_,rfl⟩;rw[<-hR]at YD RA;have hszl:((aL x.2.1 1).data.toList.length:Int)<=((aL bN 1).data.toList.length:Int):=by rw[hT,List.length_append];omega
 have Jw:=Dy (aL bN 1);have htop:=h2.top;rw[h4]at htop;have Zh:∀j,j<=rs.length+1->j<=rs.length\/j=rs.length+1:=fun j hj=>by omega
 refine⟨t',rs++ [R],fun j=>if j<=rs.length then ms j else (kK x kind pos n text).1,fun j=>if j<=rs.length then ts j else t',fun j=>if j<=rs.length then gs j else g',hs,⟨?_,fun r hr=>?_,fun j hj=>?_,fun j hj=>?_,fun j hj=>?_,fun j hj=>?_,fun j hj=>?_,?_,?_,?_,?_,?_,?_⟩,?_,?_,?_,fun j hj=>?_,?_⟩
 ·simp only[Nat.zero_le,if_true];rw[b2];exact xV h2.chk hszl
 ·rcases List.mem_append.1 hr with hr|hr
  ·exact h2.r22 r hr
  ·rw[List.mem_singleton]at hr;rw[hr];exact RA
 ·rw[List.length_append,List.length_singleton]at hj;simp only;rcases Nat.lt_or_ge j rs.length with bV|Lc
  ·rw[if_pos (by omega),if_pos (by omega)];have:(rs++ [R]).getD j []=rs.getD j []:=by simp[List.getD,List.getElem?_append_left bV]
   rw[this];exact Xj (h2.stp j bV) hszl
  ·have hje:j=rs.length:=by omega
   subst hje;rw[if_pos (Nat.le_refl _),if_neg (by omega),h4];have:(rs++ [R]).getD rs.length []=R:=by simp[List.getD]
   rw[this,Jw];exact YD
 ·rw[List.length_append,List.length_singleton]at hj
  try simp only
  rcases Zh j hj with q|q
  ·rw[if_pos q];exact h2.bK j q
  ·rw[if_neg (by omega)];exact hs.snd.bK
 ·rw[List.length_append,List.length_singleton]at hj
  try simp only
  rcases Zh j hj with q|q
  ·rw[if_pos q,if_pos q];exact h2.yV j q
  ·rw[if_neg (by omega),if_neg (by omega)];exact hs.snd.yV
 ·rw[List.length_append,List.length_singleton]at hj
  try simp only
  rcases Zh j hj with q|q
  ·rw[if_pos q,if_pos q];obtain⟨X,a,b⟩:=h2.cnt j q;exact⟨X,by omega,b⟩
  ·rw[if_neg (by omega),if_neg (by omega)];exact hs.snd.cnt
 ·rw[List.length_append,List.length_singleton]at hj
  try simp only
  rcases Zh j hj with q|q
  ·rw[if_pos q,if_pos q,hT];obtain⟨i1,i2,i3⟩:=C_ (h2.bK j q) (h2.yV j q);have hmi:=(h2.le q (Nat.le_refl _)).1;rw[h4]at hmi;rw[Xv i1 i2 i3 (by omega)];exact h2.tell j q
  ·rw[if_neg (by omega),if_neg (by omega)];exact hs.tell
 ·rw[List.length_append,List.length_singleton]
  try simp only
  rw[if_neg (by omega),Jw];exact hs.snd.gs.wU hs.snd.op hs.snd.ro
 ·have:=hs.snd.b1;simp only at this ⊢;omega
 ·have:=hs.snd.b2;exact this
 ·have:=h2.bep;simp only;omega
 ·rw[List.length_append,List.length_singleton]
  try simp only
  rw[if_neg (by omega)];exact hs.snd.gs.done hs.snd.op
 ·rw[List.length_append,List.length_singleton];have:=h2.brs;omega
 ·simp only;rw[bj,eY,h3,List.flatten_append,hR];simp
 ·rw[List.length_append,List.length_singleton]
  try simp only
  rw[if_neg (by omega)]
 ·rw[List.length_append,List.length_append,List.length_singleton,List.length_singleton];omega
 ·rw[List.length_append,List.length_singleton]at hj;simp only;rw[List.length_append,List.length_append,List.length_singleton,List.length_singleton];rcases Zh j hj with q|q
  ·rw[if_pos q,show aA.length+1-(rs.length+1)+j=aA.length-rs.length+j by omega,List.getElem?_append_left (by rw[List.length_append,List.length_singleton];omega)];exact h6 j q
  ·rw[if_neg (by omega),show aA.length+1-(rs.length+1)+j=(aA++ [g]).length by rw[List.length_append,List.length_singleton];omega];simp
 ·rw[List.length_append,List.length_singleton,jL];have:(kK x kind pos n text).1.2.2.2.1=x.2.2.2.2.2.1+1:=rJ;rw[this,<-kL];omega
theorem U_ (h:Yg x aA g k)(hk:k<=122):(gG x).2=0/\Yg (gG x).1 aA g (k+1):=by
 obtain⟨t,rs,ms,ts,gs,h1,h2,h3,h4,h5,h6,h7⟩:=h;obtain⟨c1,c2⟩:=KE h1 hk;obtain⟨-,-,d3,-,d5⟩:=Hu h1.snd hk;have vL:=c2.snd.gs.bk.bK.nK;have hj0:aL (gG x).1.2.1 (10+(gG x).1.1.aV)=⟨#[]⟩:=Rw (fun f hf e=>by rcases d5 f hf with q|q<;>omega);obtain⟨m0,dH,r1,r2,r3,r4⟩:=c2.snd.rd
 have hrs:dH=[]:=by
  rw[hj0]at r2;have:=Gw r3;rw[<-r2]at this;exact List.eq_nil_of_length_eq_zero (by have e:(⟨#[]⟩:ByteArray).data.toList.length=0:=rfl;omega)
 subst hrs;simp[zW]at r4;subst r4;have Jw:=Dy (aL (gG x).1.2.1 1);refine⟨c1,t,[],fun _=>(gG x).1.2.2,fun _=>t,fun _=>g,c2,⟨?_,by simp,fun j hj=>absurd hj (by simp),fun j _=>c2.snd.bK,fun j _=>c2.snd.yV,fun j _=>c2.snd.cnt,fun j _=>c2.tell,?_,?_,c2.snd.b2,c2.snd.ep,c2.snd.gs.done c2.snd.op,Nat.zero_le _⟩,r2,rfl,Nat.zero_le _,fun j hj=>?_,h7⟩
 ·rw[Jw];exact r1
 ·rw[Jw];exact c2.snd.gs.wU c2.snd.op c2.snd.ro
 ·rw[Jw];exact c2.snd.b1
 ·simp only[List.length_nil,Nat.le_zero_eq]at hj;subst hj;simp
theorem V_ (h:Yg x aA g k)(hd:(iG x).1.1.depth=x.1.depth)(he:(iG x).1.1.aV=x.1.aV)(hm:(iG x).1.2.2=x.2.2):(iG x).2=0/\Yg (iG x).1 aA g k:=by
 obtain⟨t,hs⟩:=h.Ep;obtain⟨c1,c2⟩:=D_ hs;obtain⟨-,-,c3⟩:=Rt hs.snd;exact⟨c1,h.same c2 hd he hm c3⟩
def Mx (aA:List Gm)(g g':Gm):List Gm:=if g.2.2.2<g'.2.2.2 then aA++ [g]else aA
theorem Sd (aA:List Gm)(g:Gm):Mx aA g g=aA:=by unfold Mx;rw[if_neg (by omega)]
theorem RL (h:nG x g k t)(h':nG x g' k' t'):g'=g:=by
 have e:t'=t:=by
  obtain⟨a,b,c,e⟩:=t;obtain⟨a',b',c',e'⟩:=t';have r:=h.snd.yV;have r':=h'.snd.yV;have q1:=r'.text.trans r.text.symm;have q2:=r'.lK.trans r.lK.symm;have q3:=r'.nJ.trans r.nJ.symm;have q4:=r'.done.trans r.done.symm;simp only at q1 q2 q3 q4;rw[q1,q2,q3,q4]
 rw[<-h.tell,<-h'.tell,e]
theorem pst_act (h:Yg x aA g k)(hk:k<=400)(hK:isK kind)(hs:∃t',nG (eZ x kind pos n text).1 g' (k+1) t'):Yg (eZ x kind pos n text).1 (Mx aA g g') g' (k+1)/\(aL (eZ x kind pos n text).1.2.1 1).size<=(aL x.2.1 1).size+text.size:=by
 obtain⟨t',hs⟩:=hs;obtain⟨t,h1⟩:=h.Ep;by_cases hc:(kK x kind pos n text).2=0
 ·have hh:=hst_act h hk hK hc hs
  have e:Mx aA g g'=aA++ [g]:=by
   obtain⟨-,-,-,-,-,-,-,-,-,-,-,l1⟩:=h;have hh':=hh;obtain⟨-,-,-,-,-,-,-,-,-,-,-,l2⟩:=hh';rw[List.length_append,List.length_singleton]at l2;unfold Mx;rw[if_pos (by omega)]
  rw[e];refine⟨hh,?_⟩;obtain⟨bN,e,b1,-⟩:=Hr h1.snd hk hc;rw[e];simp only;rw[b1];split
  ·rw[dR];exact Nat.le_refl _
  ·omega
 ·have e:=vO (kind:=kind) (pos:=pos) (n:=n) (text:=text) h1.snd.op h1.snd.ro hc;rw[e]at hs ⊢;have eg:=RL h1 hs;subst eg;rw[Sd];exact⟨h.more (by omega),by simp only;omega⟩
theorem key_ins (hS:nG x g k t)(hk:k<=400)(hd:x.1.depth.toNat=d)(pos n:Int)(text:ByteArray):(eZ x 73 pos n text).2=(qZ g pos text d).2/\∃t',nG (eZ x 73 pos n text).1 (qZ g pos text d).1 (k+1) t':=by
 obtain⟨c1,c2,c3,c4⟩:=UZ hS hk (pos:=pos) (n:=n) (text:=text);unfold qZ;by_cases h1:pos<0\/(g.1.length:Int)<pos
 ·rw[if_pos h1,c1 h1];exact⟨rfl,t,uT hS (by omega)⟩
 ·rw[if_neg h1];by_cases h2:text.size<1\/200<text.size
  ·rw[if_pos h2,c2 h1 h2];exact⟨rfl,t,uT hS (by omega)⟩
  ·rw[if_neg h2];by_cases h3:5000<(g.1.length:Int)+(text.size:Int)
   ·rw[if_pos h3,c3 h1 h2 h3];exact⟨rfl,t,uT hS (by omega)⟩
   ·rw[if_neg h3];obtain⟨e1,e2⟩:=c4 h1 h2 h3;rw[hd]at e2;exact⟨e1,e2⟩
theorem key_del (hS:nG x g k t)(hk:k<=400)(hd:x.1.depth.toNat=d)(pos n:Int)(text:ByteArray):(eZ x 68 pos n text).2=(vB g pos n d).2/\∃t',nG (eZ x 68 pos n text).1 (vB g pos n d).1 (k+1) t':=by
 obtain⟨c1,c2⟩:=VA hS hk (pos:=pos) (n:=n) (text:=text);unfold vB;by_cases h1:pos<0\/(g.1.length:Int)<pos\/n<1\/(g.1.length:Int)-pos<n
 ·rw[if_pos h1,c1 h1];exact⟨rfl,t,uT hS (by omega)⟩
 ·rw[if_neg h1];obtain⟨e1,e2⟩:=c2 h1;rw[hd]at e2;exact⟨e1,e2⟩
theorem W_ (hS:nG x g k t)(hk:k<=400)(hd:x.1.depth.toNat=d)(pos n:Int)(text:ByteArray):(eZ x 85 pos n text).2=(nC g d).2/\∃t',nG (eZ x 85 pos n text).1 (nC g d).1 (k+1) t':=by
 obtain⟨c1,c2⟩:=KF hS hk (pos:=pos) (n:=n) (text:=text);unfold nC;by_cases h1:g.2.1=[]
 ·rw[if_pos h1,c1 h1];exact⟨rfl,t,uT hS (by omega)⟩
 ·rw[if_neg h1];obtain⟨e1,e2⟩:=c2 h1;rw[hd]at e2;exact⟨e1,e2⟩
theorem X_ (hS:nG x g k t)(hk:k<=400)(hd:x.1.depth.toNat=d)(pos n:Int)(text:ByteArray):(eZ x 82 pos n text).2=(nD g d).2/\∃t',nG (eZ x 82 pos n text).1 (nD g d).1 (k+1) t':=by
 obtain⟨c1,c2⟩:=KG hS hk (pos:=pos) (n:=n) (text:=text);unfold nD;by_cases h1:g.2.2.1=[]
 ·rw[if_pos h1,c1 h1];exact⟨rfl,t,uT hS (by omega)⟩
 ·rw[if_neg h1];obtain⟨e1,e2⟩:=c2 h1;rw[hd]at e2;exact⟨e1,e2⟩
def rF (w:F)(ps:Nat->Addr)(qp d:Nat)(aA:List Gm)(g:Gm)(k T:Nat)(X:Nat->Prop):Prop:=Gl w ps/\∃s fs m,pF w qp s fs m X/\Yg (aY s,fs,m) aA g k/\s.depth=(d:Int)/\Hy s k/\(aL fs 1).size<=T
def Ih (w w':F)(ps:Nat->Addr)(qp d:Nat)(X:Nat->Prop)(aA:List Gm)(g:Gm)(k T:Nat):Prop:=∃X',rF w' ps qp d aA g k T X'/\Dk w w' X X'
theorem rF.sat (h:rF w ps qp d aA g k T X):rO w ps qp d g k X:=by
 obtain⟨h1,s,fs,m,h2,h3,h4,h5,-⟩:=h;obtain⟨t,ht⟩:=h3.Ep;exact⟨h1,s,fs,m,t,h2,ht,h4,h5⟩
theorem rF.aM (h:rF w ps qp d aA g k T X)(hg:aJ w w'):rF w' ps qp d aA g k T X:=by
 obtain⟨h1,s,fs,m,h2,h3⟩:=h;exact⟨h1.aM hg,s,fs,m,h2.aM hg,h3⟩
theorem rF.ty (h:rF w ps qp d aA g k T X){b:Nat}(hb:X b):lD w b:=h.sat.ty hb
theorem rF.gm (h:rF w ps qp d aA g k T X):(g.1.length:Int)<=5000/\0<=g.2.2.2/\g.2.2.2<=(k:Int)/\g.2.1.length<=d/\g.2.2.1.length<=d:=h.sat.gm
theorem rF.more {T':Nat}(h:rF w ps qp d aA g k T X)(hk:k<=k')(hT:T<=T'):rF w ps qp d aA g k' T' X:=by
 obtain⟨h1,s,fs,m,h2,h3,h4,h5,h6⟩:=h;exact⟨h1,s,fs,m,h2,h3.more hk,h4,h5.more hk,Nat.le_trans h6 hT⟩
theorem rF.off {R:Nat}{aT:Array Y}{f:Nat×Nat}(h:rF w ps qp d aA g k T X)(hF:Fr w w' (fun b=>b=R))(hR:w.heap[R]?=M (C aT 36 f))(hp:∀k,k<5->(ps k).block≠R):rF w' ps qp d aA g k T X:=by
 obtain⟨h1,s,fs,m,h2,h3⟩:=h;refine⟨h1.off hF hR hp,s,fs,m,h2.fr2 hF ?_ ?_,h3⟩
 ·rintro b rfl;exact KQ.of hR (by decide) (by decide) (by decide) (by decide)
 ·rintro b hb rfl;exact(h2.ty hb).ne hR (by decide) rfl
theorem Bo:VK ps (fun w X=>rF w ps qp d aA g k T X):=⟨fun h hg=>h.aM hg,fun h a b c=>h.off a b c⟩
theorem Om {s:Sc}{fs:List bF}{m:bT}(hG:Gl w ps)(hQ:pF w qp s fs m X)(hH:Yg (aY s,fs,m) aA g k)(hd:s.depth=(d:Int))(hW:Hy s k)(hT:(aL fs 1).size<=T)(hk:k<=400)(hK:isK kind)(hs:∃t',nG (eZ (aY s,fs,m) kind pos n text).1 g' (k+1) t')(hq:vV w w' qp X (eZ (s,fs,m) kind pos n text).1):Ih w w' ps qp d X (Mx aA g g') g' (k+1) (T+text.size):=by
 obtain⟨s',e1,hl⟩:=qJ (fs:=fs) (m:=m) (hW.has hk (n:=2) (by omega)) kind pos n text;rw[e1]at hq;obtain⟨X',q1,q2⟩:=hq;obtain⟨p1,p2⟩:=pst_act hH hk hK hs;obtain⟨t,ht⟩:=hH.Ep;have Wy:=wW (kind:=kind) (pos:=pos) (n:=n) (text:=text) ht.snd hk;have e:=hl.calm;obtain⟨t',hs⟩:=hs;refine⟨X',⟨hG.q q2.1 (fun b hb=>hQ.ty hb),s',_,_,q1,?_,?_,hW.lk hl hk (by omega) hs.snd.gs.bk.bK,?_⟩,q2⟩
 ·rw[e];exact p1
 ·show(aY s').depth=_;rw[e,Wy];exact hd
 ·simp only at p2 ⊢;omega
def Y_ (w w':F)(ps:Nat->Addr)(qp d:Nat)(X:Nat->Prop)(aA:List Gm)(k T:Nat)(e:Ending)(g:Gm)(kind m:Int)(S:ByteArray):Prop:=
 ∃pos c v',e=G (.tuple #[I V c,I V c,v'])/\Ih w w' ps qp d X (Mx aA g (dL g kind pos m S d)) (dL g kind pos m S d) (k+1) (T+S.size)/\eU w' v' (dL g kind pos m S d) d
theorem p_call {v:Y}{q m kk:Int}{S:ByteArray}(h:rF w ps qp d aA g k T X)(hm:eU w v g d)(hk:k<=400)(hd:d<=50)(pQ: -9223372036854775808<=n)(oW:n<=9223372036854775807)(BP: -9223372036854775808<=m)(hm2:m<=9223372036854775807)(hs:S.size<=140737488355328):
 H K 23 #[U (M ⟨qp,0,O⟩),v,.agg #[I V q,I V n,I V m,I V kk,.string S],I V (d:Int)] w fun e w'=>Y_ w w' ps qp d X aA k T e g q m S:=by
 obtain⟨b1,b2,b3,-,-⟩:=h.gm
 have fin:∀ {e w'},Yb w w' (fun r w' X'=>rF w' ps qp d (Mx aA g (dL g q r m S d)) (dL g q r m S d) (k+1) (T+S.size) X') (fun r=>eT g q r m S d) X d e g q m S->Y_ w w' ps qp d X aA k T e g q m S:=fun {e w'} hc=>by
  obtain⟨r,v',rfl,h1,h2⟩:=hc;exact⟨r,_,v',rfl,h1,h2⟩
 have mo:∀ {W w':F} {X:Nat->Prop} {aA g T'},Ih W w' ps qp d X aA g (k+1) T'->T'<=T+S.size->Ih W w' ps qp d X aA g (k+1) (T+S.size):=fun {W w' X aA g T'} hp hT=>by
  obtain⟨X',a,b⟩:=hp;exact⟨X',a.more (Nat.le_refl _) hT,b⟩
 by_cases h1:q=1
 ·subst h1;refine(KR (P:=fun r w' X'=>rF w' ps qp d (Mx aA g (dL g 1 r m S d)) (dL g 1 r m S d) (k+1) (T+S.size) X') (E:=fun r=>eT g 1 r m S d) h.1 (fun b hb=>h.ty hb) (fun _=>Bo) (fun W hW r=>?_) hm b1 (by omega) hd pQ oW hs).mono (fun _ _ hc=>fin hc);obtain⟨hG,s,fs,mm,hQ,hH,hdd,Sg,hT⟩:=h.aM hW;obtain⟨t,ht⟩:=hH.Ep;refine(BF (n:=0) hQ hG (jK ht.snd.gs Sg.bK Sg.qC) (by omega) hs).mono ?_;rintro e w' ⟨rfl,hq⟩;obtain⟨k1,k2⟩:=key_ins ht hk (sK (show(aY s).depth=(d:Int) from hdd)) r 0 S;obtain⟨s',e1,-⟩:=qJ (fs:=fs) (m:=mm) (Sg.has hk (n:=2) (by omega)) 73 r 0 S;have eg:dL g 1 r m S d=(qZ g r S d).1:=by simp[dL]
  have ec:eT g 1 r m S d=(qZ g r S d).2:=by simp[eT]
  refine⟨by rw[ec,e1,<-k1],?_⟩;show Ih _ _ _ _ _ _ _ _ _ _;rw[eg];exact Om hG hQ hH hdd Sg hT hk (Or.inl rfl) k2 hq
 ·by_cases h2:q=2
  ·subst h2;refine(KS (P:=fun r w' X'=>rF w' ps qp d (Mx aA g (dL g 2 r m S d)) (dL g 2 r m S d) (k+1) (T+S.size) X') (E:=fun r=>eT g 2 r m S d) h.1 (fun b hb=>h.ty hb) (fun _=>Bo) (fun W hW r=>?_) hm b1 (by omega) hd pQ oW BP hm2).mono (fun _ _ hc=>fin hc);obtain⟨hG,s,fs,mm,hQ,hH,hdd,Sg,hT⟩:=h.aM hW;obtain⟨t,ht⟩:=hH.Ep;refine(UY hQ hG (jK ht.snd.gs Sg.bK Sg.qC) (by omega) hm2).mono ?_;rintro e w' ⟨rfl,hq⟩;obtain⟨k1,k2⟩:=key_del ht hk (sK (show(aY s).depth=(d:Int) from hdd)) r m ⟨#[]⟩;obtain⟨s',e1,-⟩:=qJ (fs:=fs) (m:=mm) (Sg.has hk (n:=2) (by omega)) 68 r m ⟨#[]⟩;have eg:dL g 2 r m S d=(vB g r m d).1:=by simp[dL]
   have ec:eT g 2 r m S d=(vB g r m d).2:=by simp[eT]
   refine⟨by rw[ec,e1,<-k1],?_⟩;show Ih _ _ _ _ _ _ _ _ _ _;rw[eg];exact mo (Om hG hQ hH hdd Sg hT hk (Or.inr (Or.inl rfl)) k2 hq) (Nat.le_add_right _ _)
  ·by_cases h3:q=3
   ·subst h3;refine(Yc (P:=fun r w' X'=>rF w' ps qp d (Mx aA g (dL g 3 r m S d)) (dL g 3 r m S d) (k+1) (T+S.size) X') (E:=fun r=>eT g 3 r m S d) h.1 (fun b hb=>h.ty hb) (fun _=>Bo) (fun W hW=>?_) hm b1 (by omega) hd pQ oW).mono (fun _ _ hc=>fin hc);obtain⟨hG,s,fs,mm,hQ,hH,hdd,Sg,hT⟩:=h.aM hW;obtain⟨t,ht⟩:=hH.Ep;refine(w_ (pos:=0) (n:=0) hQ hG (jK ht.snd.gs Sg.bK Sg.qC) (by omega)).mono ?_;rintro e w' ⟨rfl,hq⟩;obtain⟨k1,k2⟩:=W_ ht hk (sK (show(aY s).depth=(d:Int) from hdd)) 0 0 ⟨#[]⟩;obtain⟨s',e1,-⟩:=qJ (fs:=fs) (m:=mm) (Sg.has hk (n:=2) (by omega)) 85 0 0 ⟨#[]⟩;have eg:dL g 3 0 m S d=(nC g d).1:=by simp[dL]
    have ec:eT g 3 0 m S d=(nC g d).2:=by simp[eT]
    refine⟨by rw[ec,e1,<-k1],?_⟩;show Ih _ _ _ _ _ _ _ _ _ _;rw[eg];exact mo (Om hG hQ hH hdd Sg hT hk (Or.inr (Or.inr (Or.inl rfl))) k2 hq) (Nat.le_add_right _ _)
   ·by_cases h4:q=4
    ·subst h4;refine(Yd (P:=fun r w' X'=>rF w' ps qp d (Mx aA g (dL g 4 r m S d)) (dL g 4 r m S d) (k+1) (T+S.size) X') (E:=fun r=>eT g 4 r m S d) h.1 (fun b hb=>h.ty hb) (fun _=>Bo) (fun W hW=>?_) hm b1 (by omega) hd pQ oW).mono (fun _ _ hc=>fin hc);obtain⟨hG,s,fs,mm,hQ,hH,hdd,Sg,hT⟩:=h.aM hW;obtain⟨t,ht⟩:=hH.Ep;refine(qredo (pos:=0) (n:=0) hQ hG (jK ht.snd.gs Sg.bK Sg.qC) (by omega)).mono ?_;rintro e w' ⟨rfl,hq⟩;obtain⟨k1,k2⟩:=X_ ht hk (sK (show(aY s).depth=(d:Int) from hdd)) 0 0 ⟨#[]⟩;obtain⟨s',e1,-⟩:=qJ (fs:=fs) (m:=mm) (Sg.has hk (n:=2) (by omega)) 82 0 0 ⟨#[]⟩;have eg:dL g 4 0 m S d=(nD g d).1:=by simp[dL]
     have ec:eT g 4 0 m S d=(nD g d).2:=by simp[eT]
     refine⟨by rw[ec,e1,<-k1],?_⟩;show Ih _ _ _ _ _ _ _ _ _ _;rw[eg];exact mo (Om hG hQ hH hdd Sg hT hk (Or.inr (Or.inr (Or.inr rfl))) k2 hq) (Nat.le_add_right _ _)
    ·have eg:∀r,dL g q r m S d=g:=fun r=>by simp[dL,h1,h2,h3,h4]
     have ec:∀r,eT g q r m S d=0:=fun r=>by simp[eT,h1,h2,h3,h4]
     refine(Ye (P:=fun r w' X'=>rF w' ps qp d (Mx aA g (dL g q r m S d)) (dL g q r m S d) (k+1) (T+S.size) X') (E:=fun r=>eT g q r m S d) h.1 (fun b hb=>h.ty hb) (fun _=>Bo) ?_ (ec 0) hm b1 pQ oW h1 h2 h3 h4).mono (fun _ _ hc=>fin hc);show rF _ _ _ _ _ _ _ _ _;rw[eg,Sd];exact h.more (by omega) (Nat.le_add_right _ _)
theorem ZH (h:En x t k):∃uw,iG x=((x.1,uw,x.2.2),0):=by
 obtain⟨Kb,e1,i1,-,-⟩:=qG h.arm h.gs.bk.bK h.gs.bk.inv 1;obtain⟨uw,e2,-,-,-⟩:=qG h.arm h.gs.bk.bK i1 (10+x.1.aV);have xY:=h.op;have hro:=h.ro;refine⟨uw,?_⟩;unfold iG;rw[if_neg (by simp[xY]),if_neg (by simp[hro])];simp only;rw[e1];simp only[Bool.true_eq_false,if_false];rw[e2];simp
theorem p_sync (h:rF w ps qp d aA g k T X)(hk:k<=400):
 H K 30 #[U (M ⟨qp,0,O⟩)] w fun e w'=>e=G (I V 0)/\Ih w w' ps qp d X aA g (k+1) T:=by
 obtain⟨hG,s,fs,m,hQ,hH,hd,hW,hT⟩:=h;obtain⟨t,hS⟩:=hH.Ep;refine(qsync hQ hG (jK hS.snd.gs hW.bK hW.qC)).mono ?_;rintro e w' ⟨rfl,hq⟩;obtain⟨s',e1,hl⟩:=G_ (fs:=fs) (m:=m) (hW.has hk (n:=2) (by omega));obtain⟨uw,ec⟩:=ZH hS.snd;obtain⟨c1,c2⟩:=V_ hH (by rw[ec]) (by rw[ec]) (by rw[ec]);obtain⟨-,-,c3⟩:=Rt hS.snd;rw[e1]at hq ⊢;rw[ec]at hq hl c2 c3 ⊢;obtain⟨X',q1,q2⟩:=hq;have e:=hl.calm;have hb:=c3 1;simp only at hb;refine⟨rfl,X',⟨hG.q q2.1 (fun b hb=>hQ.ty hb),s',uw,m,q1,by rw[e];exact c2.more (by omega),?_,hW.lk hl hk (by omega) hS.snd.gs.bk.bK,by rw[hb];exact hT⟩,q2⟩;show(aY s').depth=_;rw[e];exact hd
theorem Si (h:En x t k):(gG x).1.1.depth=x.1.depth:=by
 have hF:=(Rn (ep:=x.1.aV) (b:=⟨(xU (x.1.aV+1) x.2.2).toArray⟩) (by have:=AX (x.1.aV+1) x.2.2;omega) 5 0 50 x.1 x.2.1 h.gs.bk.dok h.op h.ro).2;unfold gG;simp only;split
 ·rfl
 split
 ·rfl
 split
 ·rfl
 simp only;split
 ·simp only;exact hF.2.1
 ·exact hF.2.1
theorem p_ckpt (h:rF w ps qp d aA g k T X)(hk:k<=122):
 H K 31 #[U (M ⟨qp,0,O⟩)] w fun e w'=>e=G (I V 0)/\Ih w w' ps qp d X aA g (k+1) T:=by
 obtain⟨hG,s,fs,m,hQ,hH,hd,hW,hT⟩:=h;obtain⟨t,hS⟩:=hH.Ep;refine(z_ hQ hG (jK hS.snd.gs hW.bK hW.qC) (by omega)).mono ?_;rintro e w' ⟨rfl,hq⟩;obtain⟨s',e1,hl⟩:=KI (fs:=fs) (m:=m) (hW.has (by omega) (n:=5) (by omega));obtain⟨c1,c2⟩:=U_ hH hk;obtain⟨t2,c2s⟩:=c2.Ep;obtain⟨-,-,c3,-⟩:=Hu hS.snd hk;have Wy:=Si hS.snd;rw[e1]at hq ⊢;obtain⟨X',q1,q2⟩:=hq;have e:=hl.calm;simp only;rw[c1];refine⟨rfl,X',⟨hG.q q2.1 (fun b hb=>hQ.ty hb),s',_,_,q1,by rw[e];exact c2,?_,hW.lk hl (by omega) (by omega) c2s.snd.gs.bk.bK,by simp only at c3 ⊢;rw[c3];exact hT⟩,q2⟩;show(aY s').depth=_;rw[e,Wy];exact hd
theorem Z_ (h:Dk w w1 X X1)(h2:BM w1 w2 ps qp d X1 g k):BM w w2 ps qp d X g k:=by
 obtain⟨X',a,b⟩:=h2;exact⟨X',a,h.trans b⟩
def PcAt (w:F)(ps:Nat->Addr)(qp d:Nat)(aA:List Gm)(g:Gm)(k T:Nat)(X:Nat->Prop):Prop:=Gl w ps/\∃s fs m,pF w qp { s with aS:=false } fs m X/\Yg (aY s,fs,m) aA g k/\s.depth=(d:Int)/\Hy s k/\(aL fs 1).size<=T
theorem p_close (h:rF w ps qp d aA g k T X):
 H K 32 #[U (M ⟨qp,0,O⟩)] w fun e w'=>e=G (I V 0)/\∃X',PcAt w' ps qp d aA g k T X'/\Dk w w' X X':=by
 obtain⟨hG,s,fs,m,hQ,hH,hd,hW,hT⟩:=h;obtain⟨t,hS⟩:=hH.Ep;have xY:s.aS=true:=hS.snd.op;have e:jW s=({ s with aS:=false },0):=by unfold jW;rw[if_pos xY]
 refine(BJ hQ).mono ?_;rintro e' w' ⟨rfl,X',h1,h2⟩;rw[e]at h1 ⊢;exact⟨rfl,X',⟨hG.q h2.1 (fun b hb=>hQ.ty hb),s,fs,m,h1,hH,hd,hW,hT⟩,h2⟩
theorem p_open (h:PcAt w ps qp d aA g k T X):
 H K 24 #[U (M ⟨qp,0,O⟩)] w fun e w'=>e=G (I V 0)/\Ih w w' ps qp d X aA g k T:=by
 obtain⟨hG,s,fs,m,hQ,hH,hd,hW,hT⟩:=h;obtain⟨t,hS⟩:=hH.Ep;have xY:s.aS=true:=hS.snd.op;have e:jW s=({ s with aS:=false },0):=by unfold jW;rw[if_pos xY]
 have hr:=Md hS.snd;have MW:=JS (jK hS.snd.gs hW.bK hW.qC);simp only at MW;rw[e]at MW;refine(KL hQ hG MW).mono ?_;rintro e' w' ⟨rfl,X',h1,h2⟩;rw[hr]at h1 ⊢;exact⟨rfl,X',⟨hG.q h2.1 (fun b hb=>hQ.ty hb),s,fs,m,h1,hH,hd,hW,hT⟩,h2⟩
theorem aAa (h:Dk w w1 X X1)(h2:Ih w1 w2 ps qp d X1 aA g k T):Ih w w2 ps qp d X aA g k T:=by
 obtain⟨X',a,b⟩:=h2;exact⟨X',a,h.trans b⟩
theorem aAb (h:Ih w w' ps qp d X aA g k T)(hk:k<=k'):Ih w w' ps qp d X aA g k' T:=by
 obtain⟨X',a,b⟩:=h;exact⟨X',a.more hk (Nat.le_refl _),b⟩
theorem kept_p (h:rF w ps qp d aA g k T X)(hk:k<=122):
 H K 22 #[U (M ⟨qp,0,O⟩),I V kind] w fun e w'=>e=G (I V 0)/\Ih w w' ps qp d X aA g (k+1) T:=by
 have hS:=p_sync h (by omega);have hC:=p_ckpt h hk;have hX:=p_close h;clear h;by_cases k1:kind=6
 ·subst k1;go_enter Tryz.func22,Tryz.ntmps22
  go_wp2_with (go_at_call 30;refine hS.mono ?_;rintro e w' ⟨rfl,hd⟩)
  go_ret;exact⟨rfl,hd⟩
 ·by_cases k2:kind=7
  ·subst k2;go_enter Tryz.func22,Tryz.ntmps22
   go_wp2_with (go_at_call 31;refine hC.mono ?_;rintro e w' ⟨rfl,hd⟩)
   go_ret;exact⟨rfl,hd⟩
  ·have p1:(kind==6)=false:=by simpa using k1
   have p2:(kind==7)=false:=by simpa using k2
   go_enter Tryz.func22,Tryz.ntmps22
   go_wp2_with (first|(go_at_call 32;refine hX.mono ?_;rintro e w1 ⟨rfl,X1,hc,DL⟩;have hO:=p_open hc)|(go_at_call 24;refine hO.mono ?_;rintro e w2 ⟨rfl,hd2⟩))
   go_ret;exact⟨rfl,aAb (aAa DL hd2) (by omega)⟩
theorem nV (hg:aJ w w1)(hX:∀b,X b->w.heap.size<=b)(h:Dk w1 w2 X X1):aJ w w2/\∀b,X1 b->w.heap.size<=b:=by
 refine⟨⟨h.2.1.1.trans hg.os,h.2.1.2.1.trans hg.tape,h.2.1.2.2.trans hg.output,Nat.le_trans hg.size h.1.1,fun b hb=>(h.1.2 b (Nat.lt_of_lt_of_le hb hg.size) (fun e=>by have:=hX b e;omega)).trans (hg.block b hb)⟩,fun b hb=>?_⟩;rcases h.2.2 b hb with e|e
 ·exact hX b e
 ·exact Nat.le_trans hg.size e
theorem ZI (hd:d<=50):Yg (aY { iF 5000 (d:Int) 1000000 with aS:=true,ro:=false },[],jF) [] ([],[],[],0) 0:=by
 have hS:=ZG hd;refine⟨_,[],fun _=>jF,fun _=>([],[],[],0),fun _=>([],[],[],0),hS,⟨?_,by simp,fun j hj=>absurd hj (by simp),fun j _=>hS.snd.bK,fun j _=>hS.snd.yV,fun j _=>hS.snd.cnt,fun j _=>hS.tell,rfl,Nat.zero_le _,Nat.zero_le _,Int.le_refl _,Int.le_refl _,Nat.le_refl _⟩,rfl,rfl,Nat.le_refl _,fun j hj=>?_,rfl⟩
 ·exact KV _
 ·simp only[List.length_nil,Nat.le_zero_eq]at hj;subst hj;rfl
theorem BR (hG:Gl w ps)(hd:d<=50):
 H K 17 #[I V (d:Int)] w fun e w'=> ∃qp X,e=G (U (M ⟨qp,0,O⟩))/\rF w' ps qp d [] ([],[],[],0) 0 0 X/\(∀b,X b->w.heap.size<=b)/\aJ w w':=by
 have hN:=xnew (w:=w) (most:=5000) (depth:=(d:Int)) (room:=1000000) (by unfold JL;omega)
 have HC:Hid (∀W qp X,pF W qp (iF 5000 (d:Int) 1000000) [] jF X->H K 32 #[U (M ⟨qp,0,O⟩)] W fun e w'=>e=G (I V 3)/\vV W w' qp X (iF 5000 (d:Int) 1000000,[],jF)):=fun W qp X h=>by
  have:=BJ h;have e:jW (iF 5000 (d:Int) 1000000)=(iF 5000 (d:Int) 1000000,3):=rfl;rwa[e]at this
 have HO:Hid (∀W qp X,Gl W ps->pF W qp (iF 5000 (d:Int) 1000000) [] jF X->H K 24 #[U (M ⟨qp,0,O⟩)] W fun e w'=>e=G (I V 0)/\Ih W w' ps qp d X [] ([],[],[],0) 0 0):=fun W qp X hg h=>by
  refine(KL (D:=0) h hg (GS.shut ⟨rA hd false,Int.le_refl _,Bn,Nat.zero_le _⟩ rfl)).mono ?_;rintro e w' ⟨rfl,hq⟩;rw[KW]at hq ⊢;obtain⟨X',q1,q2⟩:=hq;exact⟨rfl,X',⟨hg.q q2.1 (fun b hb=>h.ty hb),_,[],jF,q1,ZI hd,rfl,Hy.calm (rA hd true) (Int.le_refl _) rfl,Nat.zero_le _⟩,q2⟩
 have HG:Hid (Gl w ps):=hG;clear hG;go_enter Tryz.func17,Tryz.ntmps17
 go_wp2_with (first|(go_at_call 33;refine hN.mono ?_;clear hN;rintro e w1 ⟨X1,rfl,q1,ay,g1⟩;have hC:=HC.out _ _ _ q1)|(go_at_call 32;refine hC.mono ?_;clear hC;rintro e w2 ⟨rfl,X2,q2,k2⟩;obtain⟨g2,hx2⟩:=nV g1 ay k2;have hO:=HO.out _ _ _ (HG.out.aM g2) q2)|(go_at_call 24;refine hO.mono ?_;clear hO;rintro e w3 ⟨rfl,X3,q3,k3⟩;obtain⟨g3,hx3⟩:=nV g2 hx2 k3;have hL:=KO q3.sat)|(go_at_call 40;refine hL.mono ?_;rintro e w4 ⟨rfl,rfl⟩))
 go_ret;exact⟨_,_,rfl,q3,hx3,g3⟩
theorem KX {v:Y}{q m kk:Int}{S:ByteArray}(h:rO w ps qp d g k X)(hm:eU w v g d)(hk:k<=400)(hd:d<=50)(pQ: -9223372036854775808<=n)(oW:n<=9223372036854775807)(BP: -9223372036854775808<=m)(hm2:m<=9223372036854775807)(hs:S.size<=140737488355328):
 H K 23 #[U (M ⟨qp,0,O⟩),v,.agg #[I V q,I V n,I V m,I V kk,.string S],I V (d:Int)] w fun e w'=>Mc w w' ps qp d X k e g q m S:=by
 by_cases h1:q=1
 ·subst h1;exact R_ h hm hk hd pQ oW hs
 ·by_cases h2:q=2
  ·subst h2;exact S_ h hm hk hd pQ oW BP hm2
  ·by_cases h3:q=3
   ·subst h3;exact ZC h hm hk hd pQ oW
   ·by_cases h4:q=4
    ·subst h4;exact ZE h hm hk hd pQ oW
    ·exact ZF h hm pQ oW h1 h2 h3 h4
end Go.Proofs.YtfplgfodoiiobaaGreatDoor
