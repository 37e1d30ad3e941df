/- TreesM, TreesN, TreesO, TreesQ, TreesR, RefG (joined). -/
import Derived.Test.YtfplgfodoiiobaaGreatDoorD06
open Option renaming none→O,some→M
open Go.Value renaming int→I,slice→Z,pointer→U
open Go.IntKind renaming i64→V
open Go.Obj renaming cells→C
open Go.Ending renaming returned→G
open Go renaming World→F,Value→Y,Calls→H
open Go.Proofs.Tryz renaming prog→K
open Go.Proofs.Tryz
namespace Go.Proofs.YtfplgfodoiiobaaGreatDoor
set_option maxHeartbeats 1000000
set_option maxRecDepth 100000
open Go.RowKit
abbrev Aai:=@List.mem_of_getElem?
abbrev Aca:=@Ne.symm
abbrev Adx:=@List.map_set
abbrev AcE:=@List.ext_getElem?
abbrev Acd:=@List.getElem?_set
abbrev Abh:=@List.getElem_of_mem
abbrev Abw:=@List.getElem_set
abbrev AaL:=@List.pairwise_iff_getElem
abbrev Abx:=@List.getElem_mem
abbrev AaR:=@List.getElem?_append_right
variable {w w' w0:F}{l:List (Int×Int)}{tb B wb c:Nat}{ao:Option Addr}{pos:Int}{rs:List Rec}{r:Rec}{a:Addr}
def Sm (l:List (Int×Int))(pos x y:Int):List (Int×Int)×Int:=
 if pos<0\/sz l<pos then (l,5)else if ¬(1<=y/\y<=5000/\0<=x/\x<=1000000000)then (l,1)else if 4096<(FT l pos (x,y)).length then (l,13)else (FT l pos (x,y),0)
def Kj (l:List (Int×Int))(pos n:Int):List (Int×Int)×List (Int×Int)×Int:=
 if n<0\/pos<0\/sz l<pos\/sz l-pos<n then (l,[],5)else if n=0 then (l,[],0)else if 4096<(Kb l pos n).length then (l,[],13)else (Kb l pos n,wH l pos n,0)
def oU (l:List (Int×Int))(pos:Int):(Int×Int)×Int:=
 if pos<0\/sz l<=pos then ((0,0),5)else (((bT l pos).head?).getD (0,0),0)
theorem dG.ok (t:dG w tb l):eY l/\l.length<=4096:=by
 obtain⟨_,_,_,_,h1,h2⟩:=t;exact⟨h1,h2⟩
theorem Ik (t:dG w tb l){x y:Int}:
 H K 63 #[U (M ⟨tb,0,O⟩),I V pos,.agg #[I V x,I V y]] w fun e w'=>
  e=G (I V (Sm l pos x y).2)/\dG w' tb (Sm l pos x y).1/\w.grownBy w' (M tb):=by
 by_cases h1:pos<0\/sz l<pos
 ·refine(OD t h1).mono ?_;rintro e w' ⟨rfl,hb⟩;simp only[Sm,Aad h1];exact⟨trivial,t.below hb,jZ hb _⟩
 ·by_cases h2:FP x y
  ·refine(WW t (by omega) (by omega) h2).mono ?_;rintro e w' (⟨h3,rfl,hb⟩|⟨h3,rfl,ht,hg⟩)
   ·simp only[Sm,Aaa h1,Aaa (not_not_intro (show 1<=y/\y<=5000/\0<=x/\x<=1000000000 from h2)),Aad h3];exact⟨trivial,t.below hb,jZ hb _⟩
   ·simp only[Sm,Aaa h1,Aaa (not_not_intro (show 1<=y/\y<=5000/\0<=x/\x<=1000000000 from h2)),Aaa (Nat.not_lt.2 h3)];exact⟨trivial,ht,hg⟩
  ·refine(OE t (by omega) (by omega) h2).mono ?_;rintro e w' ⟨rfl,hb⟩;simp only[Sm,Aaa h1,Aad (show ¬(1<=y/\y<=5000/\0<=x/\x<=1000000000) from h2)];exact⟨trivial,t.below hb,jZ hb _⟩
theorem GD (t:dG w tb l){n:Int}(Ox:n<=9223372036854775807)(hp2:pos<=9223372036854775807):
 H K 101 #[U (M ⟨tb,0,O⟩),I V pos,I V n] w fun e w'=>
  ∃ao,e=G (.tuple #[Z ao (Kj l pos n).2.1.length (Kj l pos n).2.1.length,I V (Kj l pos n).2.2])/\gY w' w.heap.size (Z ao (Kj l pos n).2.1.length (Kj l pos n).2.1.length) (Kj l pos n).2.1
   /\dG w' tb (Kj l pos n).1/\w.grownBy w' (M tb):=by
 by_cases h1:n<0\/pos<0\/sz l<pos\/sz l-pos<n
 ·refine(OG t Ox hp2 h1).mono ?_;rintro e w' ⟨rfl,rfl⟩;simp only[Kj,Aad h1];exact⟨O,rfl,AaI _ _ _ _,t,Abn _ _⟩
 ·by_cases h2:n=0
  ·subst h2;refine(FU t (by omega) (by omega)).mono ?_;rintro e w' ⟨rfl,rfl⟩;simp only[Kj,Aaa h1,Aad];exact⟨O,rfl,AaI _ _ _ _,t,Abn _ _⟩
  ·refine(WX t (by omega) (by omega) (by omega) (by omega)).mono ?_;rintro e w' (⟨h3,rfl,hb⟩|⟨h3,g,rfl,ho,hg,ht,Cq⟩)
   ·simp only[Kj,Aaa h1,Aaa h2,Aad h3];exact⟨O,rfl,AaI _ _ _ _,t.below hb,jZ hb _⟩
   ·simp only[Kj,Aaa h1,Aaa h2,Aaa (Nat.not_lt.2 h3)];exact⟨_,rfl,gY.weak (B':=g) ho hg,ht,Cq⟩
theorem Sq (t:dG w tb l):
 H K 104 #[U (M ⟨tb,0,O⟩),I V pos] w fun e w'=>
  e=G (.tuple #[.agg #[I V (oU l pos).1.1,I V (oU l pos).1.2],I V (oU l pos).2])/\Below w.heap.size w w':=by
 by_cases h1:pos<0\/sz l<=pos
 ·simp only[oU,Aad h1];exact find_no t h1
 ·refine(ou t (by omega) (by omega)).mono ?_;rintro e w' ⟨q,hq,rfl,hb⟩;simp only[oU,Aaa h1,hq,AcJ];exact⟨trivial,hb⟩
def Keep7 (w w':F)(wb:Nat):Prop:=
 (∀(b:Nat) (aS:Array Y) (t:TypeId) (f:Nat×Nat),t≠119->t≠160->t≠71->t≠102->t≠3->t≠114->w.heap[b]?=M (C aS t f)->w'.heap[b]?=M (C aS t f))
 /\∀oQ n vp vm,w.heap[wb]?=M (qV oQ n vp vm)->w'.cell? ⟨wb,0,O⟩=M oQ
def StepOk (w w':F)(B wb:Nat)(rs:List Rec)(c:Nat):Prop:=Keep7 w w' wb/\Below B w w'/\∃dP c',INV w' B wb dP c'/\dP.length<=rs.length+1/\c'<=c+1
theorem INV.lt (h:INV w B wb rs c):B<=w.heap.size/\wb<w.heap.size:=by
 obtain⟨oQ,vp,vm,hs,h1,h2,-⟩:=h;have:=aM h1;omega
theorem INV.rec {i:Nat}(h:INV w B wb rs c)(hr:rs[i]?=M r):Ke w B r:=by
 obtain⟨oQ,vp,vm,hs,-,-,-,h4,-⟩:=h;exact h4 r (Aai hr)
theorem INV.step {k:Nat}{oQ vp vm XC Ye:Y}{hs g:List bS}(h1:w.heap[wb]?=M (qV oQ (c:Int) vp vm))(h2:B<=wb)
 (h3:w.ownsRow B 117 1 oQ rs.length (rs.map (fun r:Rec=>Value.pointer (M ⟨r.sb,0,O⟩))))(h4:∀r∈rs,Ke w B r)(h5:rs.Pairwise FV)
 (h6:w.ownsRow B 102 1 vp hs.length (hs.map bS.v))(h7:hs.length=4*c)(h8:OJ w hs)(h9:iZ w B vm (marks c))
 (hr:rs[k]?=M r){ca:Nat}
 (hF:Fr w w' (fun b=>b=r.sb\/b=r.tb\/b=wb\/vp.ownBlock=M b\/vm.ownBlock=M b))(hp:w'.heap[r.sb]?=M (pz r.tb (Z ao l.length ca)))(ht:dG w' r.tb l)(hl:yF w' ao l)
 (g1:g.length=4)(g2:w'.heap[wb]?=M (qV oQ ((c:Int)+1) XC Ye))(g3:w'.ownsRow B 102 1 XC (hs++g).length ((hs++g).map bS.v))(g4:iZ w' B Ye (marks (c+1)))
 (g5:∀x∈g,yF w' x.1 (List.replicate x.2.1 (mk c))/\x.2.1<=9000):INV w' B wb (rs.set k (r.sb,r.tb,ao,ca,l)) (c+1):=by
 have xM:r∈rs:=Aai hr;obtain⟨p1,⟨q1,q2,q3,-⟩,p3,p4,p5⟩:=h4 r xM;have Qu:k<rs.length:=(Aae.1 hr).1
 have hX:∀b (aS:Array Y) (t:TypeId) (f:Nat×Nat),t≠119->t≠160->t≠71->t≠102->t≠3->w.heap[b]?=M (C aS t f)->¬(b=r.sb\/b=r.tb\/b=wb\/vp.ownBlock=M b\/vm.ownBlock=M b):=by
  intro b aS t f e1 e2 e3 e4 e5 hb hx;rcases hx with rfl|rfl|rfl|hx|hx
  ·exact bU hb p1 (gH e1)
  ·exact bU hb q3 (gH e2)
  ·exact bU hb h1 (gH e3)
  ·exact qW h6 hb (Aca e4) hx
  ·exact qW h9 hb (Aca e5) hx
 refine⟨oQ,XC,Ye,hs++g,by rw[g2];rfl,h2,?_,?_,?_,g3,by rw[Aah];omega,?_,g4⟩
 ·rw[Acg,Adx]
  have e:(rs.map (fun r:Rec=>Value.pointer (M ⟨r.sb,0,O⟩))).set k (Value.pointer (M ⟨Rec.sb (r.sb,r.tb,ao,ca,l),0,O⟩))=rs.map (fun r:Rec=>Value.pointer (M ⟨r.sb,0,O⟩)):=by
   apply AcE;intro i;rw[Acd];by_cases hi:k=i
   ·subst hi;simp[Qu,Rec.sb];have:=(Aae.1 hr).2;rw[this]
   ·simp[hi]
  rw[e];exact bK h3 hF (fun g aS _ e=>hX _ _ _ _ (by decide) (by decide) (by decide) (by decide) (by decide) e)
 ·intro s Si;obtain⟨i,hi,rfl⟩:=Abh Si;rw[Abw];by_cases Sr:k=i
  ·rw[Aad Sr];exact⟨hp,ht,hl,p4,p5⟩
  ·rw[Aaa Sr];have Qv:i<rs.length:=by simpa using hi
   have Cr:FV rs[i] r:=by
    have Fe:rs[k]=r:=(Aae.1 hr).2;rcases Nat.lt_or_ge i k with bP|Kc
    ·have:=AaL.1 h5 i k Qv Qu bP;rw[Fe]at this;exact this
    ·have:=AaL.1 h5 k i Qu Qv (by omega);rw[Fe]at this;exact⟨this.1.symm,this.2.symm⟩
   have hi4:=h4 rs[i] (Abx Qv);have hi5:=hi4;obtain⟨z1,⟨y1,y2,y3,-⟩,-⟩:=hi4;refine hi5.fr hF ?_ ?_ (fun b la ra p h l e=>hX _ _ _ _ (by decide) (by decide) (by decide) (by decide) (by decide) e) (fun b aS e=>hX _ _ _ _ (by decide) (by decide) (by decide) (by decide) (by decide) e)
   ·rintro(e|e|e|e|e)
    ·exact Cr.1 e
    ·rw[e]at z1;exact bU z1 q3 (gH (by decide))
    ·rw[e]at z1;exact bU z1 h1 (gH (by decide))
    ·exact qW h6 z1 (by decide) e
    ·exact qW h9 z1 (by decide) e
   ·rintro(e|e|e|e|e)
    ·rw[e]at y3;exact bU y3 p1 (gH (by decide))
    ·exact Cr.2 e
    ·rw[e]at y3;exact bU y3 h1 (gH (by decide))
    ·exact qW h6 y3 (by decide) e
    ·exact qW h9 y3 (by decide) e
 ·refine AaL.2 fun i j hi hj hij=>?_;have Qv:i<rs.length:=by simpa using hi
  have rz:j<rs.length:=by simpa using hj
  have Fe:rs[k]=r:=(Aae.1 hr).2;have h0:=AaL.1 h5 i j Qv rz hij;rw[Abw,Abw];by_cases h1:k=i
  ·subst h1;rw[Aad rfl,Aaa (by omega)];rw[Fe]at h0;exact h0
  ·rw[Aaa h1];by_cases h2:k=j
   ·subst h2;rw[Aad rfl];rw[Fe]at h0;exact h0
   ·rw[Aaa h2];exact h0
 ·intro i x hx;by_cases hi:i<hs.length
  ·rw[Abt hi]at hx;obtain⟨a1,a2⟩:=h8 i x hx;exact⟨a1.fr hF (fun b aS e=>hX _ _ _ _ (by decide) (by decide) (by decide) (by decide) (by decide) e),a2⟩
  ·rw[AaR (by omega)]at hx;have bP:=(Aae.1 hx).1;rw[show i / 4=c from by omega];exact g5 x (Aai hx)
theorem INV.own {w3:F}{k:Nat}{oQ vp vm:Y}{hs:List bS}(h1:w.heap[wb]?=M (qV oQ (c:Int) vp vm))(h2:B<=wb)
 (h3:w.ownsRow B 117 1 oQ rs.length (rs.map (fun r:Rec=>Value.pointer (M ⟨r.sb,0,O⟩))))(h4:∀r∈rs,Ke w B r)(h5:rs.Pairwise FV)
 (h6:w.ownsRow B 102 1 vp hs.length (hs.map bS.v))(h7:hs.length=4*c)(h8:OJ w hs)(h9:iZ w B vm (marks c))
 (hr:rs[k]?=M r){go:Option Addr}{ca:Nat}
 (hF:Fr w w3 (fun b=>b=r.sb\/b=r.tb))(hB:Below B w w3)(hp:w3.heap[r.sb]?=M (pz r.tb (Z ao l.length ca)))(ht:dG w3 r.tb l)(hl:yF w3 ao l)
 (hgo:∀a,go=M a->w.heap.size<=a.block)(hgt:∀a,go=M a->∃aS,w3.heap[a.block]?=M (C aS 114 (0,0)))(hag:∀a,ao=M a->∀g,go=M g->a.block≠g.block)
 (hD:OwnDone w3 w' B wb c oQ vp vm hs go):StepOk w w' B wb rs c:=by
 obtain⟨p1,⟨q1,q2,q3,-⟩,p3,p4,p5⟩:=h4 r (Aai hr)
 have hX3:∀b (aS:Array Y) (t:TypeId) (f:Nat×Nat),t≠119->t≠160->w.heap[b]?=M (C aS t f)->¬(b=r.sb\/b=r.tb):=by
  intro b aS t f e1 e2 hb hx;rcases hx with rfl|rfl
  ·exact bU hb p1 (gH e1)
  ·exact bU hb q3 (gH e2)
 have w1:w3.heap[wb]?=M (qV oQ (c:Int) vp vm):=hF.at h1 (hX3 _ _ _ _ (by decide) (by decide) h1);have w6:=bK h6 hF (fun g aS _ e=>hX3 _ _ _ _ (by decide) (by decide) e);have w9:iZ w3 B vm (marks c):=bK h9 hF (fun g aS _ e=>hX3 _ _ _ _ (by decide) (by decide) e);obtain⟨XC,Ye,g,g1,g2,g3,g4,g5,g6,g7⟩:=hD
 have hX:∀b (aS:Array Y) (t:TypeId) (f:Nat×Nat),t≠71->t≠102->t≠3->(∀a,go=M a->b≠a.block)->w3.heap[b]?=M (C aS t f)->¬(b=wb\/(∃a,go=M a/\b=a.block)\/vp.ownBlock=M b\/vm.ownBlock=M b):=by
  intro b aS t f e1 e2 e3 e4 hb hx;rcases hx with rfl|⟨a,ha,rfl⟩|hx|hx
  ·exact bU hb w1 (gH e1)
  ·exact e4 a ha rfl
  ·exact qW w6 hb (Aca e2) hx
  ·exact qW w9 hb (Aca e3) hx
 have vV:∀b (aS:Array Y) (t:TypeId) (f:Nat×Nat),t≠114->w3.heap[b]?=M (C aS t f)->∀a,go=M a->b≠a.block:=by
  intro b aS t f e hb a ha Ki;obtain⟨qN,hc⟩:=hgt a ha;rw[Ki]at hb;exact bU hb hc (gH e)
 obtain⟨u1,u2,u3,-⟩:=id ht
 have hK:Keep7 w w' wb:=by
  refine⟨fun b aS t f e1 e2 e3 e4 e5 e6 e=>?_,fun vts0 n0 vp0 vm0 e=>?_⟩
  ·have e3':=hF.at e (hX3 _ _ _ _ e1 e2 e);exact g6.at e3' (hX _ _ _ _ e3 e4 e5 (vV _ _ _ _ e6 e3') e3')
  ·rw[h1]at e
   have:oQ=vts0:=by
    have e':=AbK e;unfold qV at e';injection e' with e1;have:=congrArg (fun x:Array Y=>x[0]?) e1;simpa using this
   subst this;exact(FW g2).1
 refine⟨hK,⟨g7.os.trans hB.os,g7.tape.trans hB.tape,g7.output.trans hB.output,Aam hB.size g7.size,fun b hb=>(g7.block b hb).trans (hB.block b hb)⟩,_,c+1,INV.step h1 h2 h3 h4 h5 h6 h7 h8 h9 hr ?_ (g6.at hp ?_) (ht.fr g6 ?_ ?_) ⟨hl.1.fr g6 ?_,?_⟩ g1 g2 g3 g4 g5,by simp,by omega⟩
 ·refine⟨Aam hF.1 g6.1,fun b hb hx=>?_⟩;have e1:=hF.2 b hb (fun e=>hx (by rcases e with e|e;exact Aac e;exact Aab (Aac e)));refine(g6.2 b (AaC hb hF.1) ?_).trans e1;rintro(e|⟨a,ha,rfl⟩|e|e)
  ·exact hx (Aab (Aab (Aac e)))
  ·have:=hgo a ha;omega
  ·exact hx (Aab (Aab (Aab (Aac e))))
  ·exact hx (Aab (Aab (Aab (Aab e))))
 ·exact hX _ _ _ _ (by decide) (by decide) (by decide) (vV _ _ _ _ (by decide) hp) hp
 ·exact hX _ _ _ _ (by decide) (by decide) (by decide) (vV _ _ _ _ (by decide) u3) u3
 ·intro b la ra p h l e;exact hX _ _ _ _ (by decide) (by decide) (by decide) (vV _ _ _ _ (by decide) e) e
 ·intro a ha;obtain⟨aS,hc⟩:=hl.2 a ha;exact hX _ _ _ _ (by decide) (by decide) (by decide) (fun g hg=>hag a ha g hg) hc
 ·intro a ha;obtain⟨aS,hc⟩:=hl.2 a ha;exact⟨aS,g6.at hc (hX _ _ _ _ (by decide) (by decide) (by decide) (fun g hg=>hag a ha g hg) hc)⟩
theorem aL.set (h:aL w0 w)(ha:w0.heap.size<=a.block)(v:Y):aL w0 (w.setCell a v):=Below.setCell h ha v
def Gt (tb:Nat)(w0 w:F):Prop:=w0.grownBy w (M tb)
theorem Gt.refl (tb:Nat)(w:F):Gt tb w w:=Abn _ _
theorem Gt.drew (h:Gt tb w0 w):Gt tb w0 w.drew:=⟨h.os,h.tape,h.output,h.size,h.block⟩
theorem Gt.more (h:Gt tb w0 w)(h2:w.grownBy w' (M tb)):Gt tb w0 w':=lX h h2
theorem Gt.cell (h:Gt tb w0 w){v:Y}(hc:w0.cell? a=M v)(hne:a.block≠tb):w.cell? a=M v:=World.grownBy.cell h hc (by simpa using hne)
theorem dG.drew (t:dG w tb l):dG w.drew tb l:=t.below ⟨rfl,rfl,rfl,Aak _,fun _ _=>rfl⟩
theorem si {b c:Addr}{p q r:Y}(h1:w0.cell? a=M p)(h2:w0.cell? b=M q)(h3:w0.cell? c=M r)
 (h:aL w0 w):w.cell? a=M p/\w.cell? b=M q/\w.cell? c=M r/\aL w0 w:=⟨h.cell h1,h.cell h2,h.cell h3,h⟩
theorem gY.lt {n cap:Nat}(h:gY w B (Z ao n cap) l):∀a,ao=M a->B<=a.block/\a.block<w.heap.size:=fun a e=>by
 obtain⟨aS,h1,h2⟩:=h.typed a e;exact⟨h2,aM h1⟩
theorem Qw (h:eY l){n:Int}(h0:0<=pos)(hn:0<=n)(h1:n<=sz l-pos):sz (bL l pos n).1=sz l-n:=by
 unfold bL;split
 ·rename_i e;subst e;simp
 ·simp only[Kb,oI];rw[yQ h h0 (by omega),mJ (kL h pos) hn (by rw[mJ h h0 (by omega)];omega),mJ h h0 (by omega)];omega
theorem Kk (h:eY l)(pos n:Int):eY (bL l pos n).1:=by
 unfold bL;split
 ·exact h
 ·exact iD (vQ h pos) (kL (kL h pos) n)
theorem GH (l:List (Int×Int))(pos n:Int):(bL l pos n).1.length<=l.length+2:=by
 unfold bL;split
 ·simp
 ·have h1:=qF l pos;have h2:=qF (bT l pos) n;simp only[Kb,Aah];omega
theorem eP.head {xo:Option Addr}{xn xc:Nat}{e:Ed}{l:List Ed}(h:eP w (xo,xn,xc) (e::l)):∃(b off:Nat) (r:fP),xo=M ⟨b,off,O⟩/\xn=l.length+1/\xn<=xn/\w.cell? ⟨b,off,O⟩=M (I V r.1)/\w.cell? ⟨b,off+1,O⟩=M r.2.1.v/\w.cell? ⟨b,off+2,O⟩=M r.2.2.v/\rP w r e:=by
 obtain⟨raw,h1,h2,h3,h4,h5⟩:=h;simp only at h1 h2 h3
 match raw,h4 with
 |r::raw,h4=>
  rcases h1.1 with h|⟨b,off,rfl,hc⟩
  ·cases h
  ·refine⟨b,off,r,rfl,by simp at h4;simp at h2;omega,Aak _,?_,hc 1 _ rfl,hc 2 _ rfl,h5 0 r e rfl rfl⟩;have:=hc 0 _ rfl;simpa using this
theorem eP.tail {b off xn xc:Nat}{e:Ed}{l:List Ed}(h:eP w (M ⟨b,off,O⟩,xn,xc) (e::l)):eP w ((if xc=1 then M ⟨b,off,O⟩else M ⟨b,off+3,O⟩),l.length,xc-1) l:=by
 obtain⟨raw,h1,h2,h3,h4,h5⟩:=h;simp only at h1 h2 h3
 match raw,h4 with
 |r::raw,h4=>
  simp at h4 h2;obtain⟨c1,c2⟩:=h1;obtain⟨aS,hc⟩:=c2 _ rfl;have vV:∀o:Nat,∀a,M (⟨b,o,O⟩:Addr)=M a->∃aS,w.heap[a.block]?=M (C aS 302 (0,0)):=fun o a e=>by cases e;exact⟨aS,hc⟩
  by_cases hx:xc=1
  ·have Jt:raw=[]:=Aax (by omega);subst Jt;rw[Aad hx];have hl0:l.length=0:=(by simpa using h4.symm);exact⟨[],⟨Aac rfl,vV off⟩,hl0,⟨fun e=>(by cases e),by simp only;omega⟩,by rw[hl0];rfl,fun i r' e' a' b'=>by simp at a'⟩
  ·rw[Aaa hx];refine⟨raw,⟨?_,vV _⟩,by simp only;omega,⟨fun e=>(by cases e),by simp only;omega⟩,h4,fun i r' e' a' b'=>h5 (i+1) r' e' (by simpa using a') (by simpa using b')⟩;rcases c1 with c1|⟨b',Qf,e',XF⟩
   ·cases c1
   ·cases e'
    refine Aab ⟨b,off+3,rfl,fun j u hu=>?_⟩;have:=XF (j+3) u (by rw[wM,AaR (by simp)];simpa using hu);rwa[show off+(j+3)=off+3+j from by omega]at this
theorem nT {g:Nat}{a b c:Y}(h:w.heap[g]?=M (C #[a,b,c] 302)):w.cell? ⟨g,0,O⟩=M a/\w.cell? ⟨g,1,O⟩=M b/\w.cell? ⟨g,2,O⟩=M c:=by
 simp[World.cell?,h]
theorem Da.TN (h:Da w ao l)(hg:aL w w'):Da w' ao l:=h.below hg
theorem yF.grewT (h:yF w ao l)(hg:aL w w'):yF w' ao l:=h.below hg
def uY (m:dD)(depth:Nat):dD×Int:=
 match m.2.1 with
 | []=>(m,8)
 |e::rest=>if 4096<(bQ (bL m.1 e.1 (sz e.2.2)).1 e.1 e.2.1).length then (m,13)else ((bQ (bL m.1 e.1 (sz e.2.2)).1 e.1 e.2.1,rest,(e::m.2.2.1).take depth,m.2.2.2.1+1,m.2.2.2.2),0)
def Bw (n:Int)(pos:Int)(gone come:List (Int×Int)):Prop:=0<=pos/\pos+sz gone<=n/\eY gone/\eY come/\gone.length<=6000/\come.length<=6000
theorem GI {r:fC}{m:dD}{a b c most:Int}{depth:Nat}(hm:dZ w r m)(ok:okM m)(hd:depth<=100)(yG:∀e rest,m.2.1=e::rest->Bw (sz m.1) e.1 e.2.2 e.2.1):
 H K 162 #[r.v,I V 85,I V a,I V b,I V c,I V most,I V (depth:Int)] w fun e w'=>
  ∃r',e=G (.tuple #[fC.v r',I V (uY m depth).2])/\dZ w' r' (uY m depth).1/\Below w.heap.size w w':=by
 have HM:Hid (dZ w r m):=hm;obtain⟨m1,m2,m3,m4,m5⟩:=hm;obtain⟨⟨po,tl,tc⟩,⟨uo,ul,uc⟩,⟨ro,rl,rc⟩,dn,bf⟩:=r;obtain⟨text,jA,jO,Wp,Gf⟩:=m;simp only at m1 m2 m3 m4 m5 yG;subst m4 m5;obtain⟨o1,o2,o3,o4,o5,o6,o7,o8⟩:=ok;simp only at o1 o2 o3 o4 o5 o6 o7 o8;obtain⟨t1,t2,t3⟩:=m1;simp only at t1 t2 t3;subst t2;have bs:=lW o1;simp only[fC.v,bS.v];cases jA with
 |nil=>
  have Il:ul=0:=by obtain⟨raw,-,h2,-,h4,-⟩:=m2;simp at h2 h4;rw[h2,h4];rfl
  subst Il;have HE:Hid (uY (text,[],jO,dn,bf) depth=((text,[],jO,dn,bf),8)):=rfl;go_enter func162,ntmps162;go_wp2_with fail;refine(fO (l:=text) (t1.1.below (aQ (aP _ _) (aP _ _))) rfl o1 (by omega)).mono ?_;rintro e w1 ⟨rfl,rfl⟩;go_wp2_with fail;have B3:=(three w (C #[Z po text.length tc,Z uo 0 uc,Z ro rl rc,I V dn,I V bf] 187) (C #[Z po text.length tc,Z uo 0 uc,Z ro rl rc,I V dn,I V bf] 187) (C #[Z po text.length tc,Z uo 0 uc,Z ro rl rc,I V dn,I V bf] 187)).2.2.2.2;refine Aan (v:= .tuple #[.agg #[Z po text.length tc,Z uo 0 uc,Z ro rl rc,I V dn,I V bf],I V 8]) (by simp[results,results162,go_sem]) rfl ?_;rw[HE.out];exact⟨((po,text.length,tc),(uo,0,uc),(ro,rl,rc),dn,bf),rfl,HM.out.aN B3,B3⟩
 |cons e rest=>
  obtain⟨f1,f2,f3,f4,f5,f6⟩:=yG e rest rfl;obtain⟨eb,fK,er,rfl,Il,-,e0,e1,e2,Ju⟩:=m2.head;have hbi:=lW f3;have hsc:=Qw o1 f1 (by omega) (by omega:sz e.2.2<=sz text-e.1);have hoc:=Kk o1 e.1 (sz e.2.2);have hlc:=GH text e.1 (sz e.2.2);have HA:Hid (4096<(bQ (bL text e.1 (sz e.2.2)).1 e.1 e.2.1).length->uY (text,e::rest,jO,dn,bf) depth=((text,e::rest,jO,dn,bf),13)):=fun hf=>by simp only[uY,Aad hf]
  have HB:Hid (¬4096<(bQ (bL text e.1 (sz e.2.2)).1 e.1 e.2.1).length->uY (text,e::rest,jO,dn,bf) depth=((bQ (bL text e.1 (sz e.2.2)).1 e.1 e.2.1,rest,(e::jO).take depth,dn+1,bf),0)):=fun hf=>by simp only[uY,Aaa hf]
  obtain⟨ep,⟨xo,xn,xc⟩,⟨yo,yn,yc⟩⟩:=er;obtain⟨epos,iR,rU⟩:=e;obtain⟨g1,⟨g2,g3,g4⟩,⟨g5,g6,g7⟩⟩:=Ju;simp only at g1 g2 g3 g4 g5 g6 g7 f1 f2 f3 f4 f5 f6 hbi hsc hoc hlc;simp only[bS.v]at e0 e1 e2;subst g1 g3 g6;have j1:(0:Int)<(ul:Int):=by omega
  have j2:¬((ul:Int)=0):=by omega
  have j3:((ul:Int)==0)=false:=by rw[Aat];exact j2
  go_enter func162,ntmps162;go_wp2_with fail;refine(fO (l:=text) (t1.1.below (aQ (aP _ _) (aP _ _))) rfl o1 (by omega)).mono ?_;rintro e w1 ⟨rfl,rfl⟩;subst Il;go_upto_region 26 with fail;obtain⟨r1,r2,r3,q4,B2⟩:=three w (bR (Z po text.length tc) (Z (M ⟨eb,fK,O⟩) (rest.length+1) uc) (Z ro rl rc) (I V dn) (I V bf)) (bR (Z O 0 0) (Z O 0 0) (Z O 0 0) (I V 0) (I V 0)) (bR (Z po text.length tc) (Z (M ⟨eb,fK,O⟩) (rest.length+1) uc) (Z ro rl rc) (I V dn) (I V bf))
  rw[show(Obj.cells #[Z po text.length tc,Z (M ⟨eb,fK,O⟩) (rest.length+1) uc,Z ro rl rc,I V dn,I V bf] 187)=bR (Z po text.length tc) (Z (M ⟨eb,fK,O⟩) (rest.length+1) uc) (Z ro rl rc) (I V dn) (I V bf) from rfl,
   show(Obj.cells #[Z O 0 0,Z O 0 0,Z O 0 0,I V 0,I V 0] 187)=bR (Z O 0 0) (Z O 0 0) (Z O 0 0) (I V 0) (I V 0) from rfl]
  generalize ((w.alloc (bR (Z po text.length tc) (Z (M ⟨eb,fK,O⟩) (rest.length+1) uc) (Z ro rl rc) (I V dn) (I V bf))).alloc (bR (Z O 0 0) (Z O 0 0) (Z O 0 0) (I V 0) (I V 0))).alloc (bR (Z po text.length tc) (Z (M ⟨eb,fK,O⟩) (rest.length+1) uc) (Z ro rl rc) (I V dn) (I V bf))=w2 at*;obtain⟨x0,x1,x2,x3,x4,-⟩:=aW r1;have n1:w.heap.size≠w.heap.size+1+1:=by omega
  have n2:w.heap.size+1≠w.heap.size+1+1:=by omega
  have Sv:=AaB B2 e0;have rV:=AaB B2 e1;have Di:=AaB B2 e2;have k1:(0:Int)<(rest.length:Int)+1:=by omega
  go_upto_region 27 with fail;have jh:=Aaf w2 (C #[I V ep,Z xo iR.length xc,Z yo rU.length yc] 302);rw[q4]at jh;have Ki:=aP w2 (C #[I V ep,Z xo iR.length xc,Z yo rU.length yc] 302);have B3:=aQ B2 Ki;have s1:=bE Ki r1;have s2:=bE Ki r2;have s3:=bE Ki r3;clear Ki q4 r1 r2 r3 Sv rV Di x0 x1 x2 x3 x4 B2;generalize w2.alloc (C #[I V ep,Z xo iR.length xc,Z yo rU.length yc] 302)=w3 at*;obtain⟨x0,x1,x2,x3,x4,-⟩:=aW s1;obtain⟨Sv,rV,Di⟩:=nT jh;have Gr:=g5.below B3;have htx:=t1.below B3
  go_cut [22,23] (fun v g wc=> ∃ao ca,v=Z ao (bL text ep (sz rU)).1.length ca/\yF wc ao (bL text ep (sz rU)).1/\wN ao (bL text ep (sz rU)).1.length ca/\aL w3 wc)
  case first=>
   have ga:=aL.refl w3;clear e0 e1 e2 rV m2 m3 s1 s2 s3 jh
   go_region_held3 (fun w'=>w'.cell? ⟨w.heap.size,0,O⟩=M (Z po text.length tc)/\w'.cell? ⟨w.heap.size+1+1+1,0,O⟩=M (I V ep)/\w'.cell? ⟨w.heap.size+1+1+1,2,O⟩=M (Z yo rU.length yc)/\aL w3 w')
    (first|(refine si x0 Sv Di ?_;go_split_ands;first|assumption|(exact aL.drew (by assumption))|(exact aL.more (by assumption) (by assumption))))
    (first|(go_at_call 106;refine(fO (l:=rU) (by go_split_ands;exact Gr.1.TN (by assumption)) rfl f3 (by omega)).mono ?_;rintro e w5 ⟨rfl,rfl⟩)|(go_at_call 157;refine(BN (l:=text) (by go_split_ands;exact htx.grewT (by assumption)) rfl t3 o1 (by omega) f1 (by omega) (by omega)).mono ?_;rintro e w5 ⟨Vw,ca5,go5,gc5,rfl,Gd,Kh,hgr5,hgn5,nJ⟩))
   all_goals go_wp2_with fail
   all_goals go_meet
   all_goals exact⟨Vw,ca5,rfl,Gd,Kh,by go_split_ands;assumption⟩
  case rest=>
   obtain⟨Vw,ca5,rfl,Gd,Kh,G5⟩:=hcut
   rename F=>w5
   have u1:=bE G5 s1;have u2:=bE G5 s2;have u3:=bE G5 s3;have he5:=bE G5 jh;have B5:=aQ B3 G5;have hou:=g2.below B5;clear s1 s2 s3 jh G5 x0 x1 x2 x3 x4 Sv rV Di Gr htx B3;obtain⟨x0,x1,x2,x3,x4,-⟩:=aW u1;obtain⟨Sv,rV,Di⟩:=nT he5;go_wp2_with fail;refine(BM (l:=(bL text ep (sz rU)).1) (more:=iR) Gd rfl Kh hou rfl g4 hoc (by omega) (by omega) f1 (by omega)).mono ?_;rintro e w6 ⟨Mi,Mw,rfl,Vx,hn6,Gs⟩;have s1:=bE Gs u1;have s2:=bE Gs u2;have s3:=bE Gs u3;have he6:=bE Gs he5;have B6:=aQ B5 Gs;have t6:bH w6 (Mi,(bQ (bL text ep (sz rU)).1 ep iR).length,Mw) (bQ (bL text ep (sz rU)).1 ep iR):=⟨Vx,rfl,hn6⟩;clear u1 u2 u3 he5 Gs x0 x1 x2 x3 x4 Sv rV Di Gd Kh hou B5 Vx hn6;obtain⟨x0,x1,x2,x3,x4,-⟩:=aW s1;obtain⟨Sv,rV,Di⟩:=nT he6;obtain⟨y0,y1,y2,y3,y4,z0,z1,z2,z3,z4⟩:=aW s3;have n4:w.heap.size+1+1+1≠w.heap.size+1+1:=(by omega);have k2:(1:Int)<=(rest.length:Int)+1:=(by omega);go_upto_region 30 with fail;have v1:=dN (g:=w.heap.size+1+1) (i:=1) (v:=Z (if uc=1 then M ⟨eb,fK,O⟩else M ⟨eb,fK+3,O⟩) rest.length (uc-1)) (dN (g:=w.heap.size+1+1) (i:=0) (v:=Z Mi (bQ (bL text ep (sz rU)).1 ep iR).length Mw) s1 n1) n1;have v2:=dN (g:=w.heap.size+1+1) (i:=1) (v:=Z (if uc=1 then M ⟨eb,fK,O⟩else M ⟨eb,fK+3,O⟩) rest.length (uc-1)) (dN (g:=w.heap.size+1+1) (i:=0) (v:=Z Mi (bQ (bL text ep (sz rU)).1 ep iR).length Mw) s2 n2) n2;have s4:=nR (v:=Z Mi (bQ (bL text ep (sz rU)).1 ep iR).length Mw) s3;have v3:=mD (v:=Z (if uc=1 then M ⟨eb,fK,O⟩else M ⟨eb,fK+3,O⟩) rest.length (uc-1)) s4;have he7:=dN (g:=w.heap.size+1+1) (i:=1) (v:=Z (if uc=1 then M ⟨eb,fK,O⟩else M ⟨eb,fK+3,O⟩) rest.length (uc-1)) (dN (g:=w.heap.size+1+1) (i:=0) (v:=Z Mi (bQ (bL text ep (sz rU)).1 ep iR).length Mw) he6 n4) n4;have t7:=(t6.jI (i:=0) (v:=Z Mi (bQ (bL text ep (sz rU)).1 ep iR).length Mw) s3).jI (i:=1) (v:=Z (if uc=1 then M ⟨eb,fK,O⟩else M ⟨eb,fK+3,O⟩) rest.length (uc-1)) s4;have B7:=(B6.setCell (p:=⟨w.heap.size+1+1,0,O⟩) (by simp only;omega) (Z Mi (bQ (bL text ep (sz rU)).1 ep iR).length Mw)).setCell (p:=⟨w.heap.size+1+1,1,O⟩) (by simp only;omega) (Z (if uc=1 then M ⟨eb,fK,O⟩else M ⟨eb,fK+3,O⟩) rest.length (uc-1));have mt:=m2.tail;clear s1 s2 s3 s4 he6 t6 B6 x0 x1 x2 x3 x4 Sv rV Di y0 y1 y2 y3 y4 z0 z1 z2 z3 z4;generalize (if uc=1 then M (⟨eb,fK,O⟩:Addr)else M ⟨eb,fK+3,O⟩)=XG at*;generalize (w6.setCell ⟨w.heap.size+1+1,0,O⟩ (Z Mi (bQ (bL text ep (sz rU)).1 ep iR).length Mw)).setCell ⟨w.heap.size+1+1,1,O⟩ (Z XG rest.length (uc-1))=w7 at*;obtain⟨x0,x1,x2,x3,x4,-⟩:=aW v1;obtain⟨Sv,rV,Di⟩:=nT he7;have sj:rP w7 (ep,(xo,iR.length,xc),(yo,rU.length,yc)) (ep,iR,rU):=⟨rfl,⟨g2.below B7,rfl,g4⟩,⟨g5.below B7,rfl,g7⟩⟩;go_wp2_with fail;refine(Ae (r:=(ep,(xo,iR.length,xc),(yo,rU.length,yc))) (e:=(ep,iR,rU)) (x:=(ro,rl,rc)) (l:=jO) sj (m3.aN B7) (by omega) (by omega)).mono ?_;rintro e w8 ⟨⟨qo,qn,qc⟩,rfl,hy8,GJ⟩;simp only[bS.v];have u1:=bE GJ v1;have u2:=bE GJ v2;have u3:=bE GJ v3;have t8:=t7.aN GJ;have B8:=aQ B7 GJ;clear v1 v2 v3 he7 t7 B7 GJ x0 x1 x2 x3 x4 Sv rV Di sj;obtain⟨x0,x1,x2,x3,x4,-⟩:=aW u1;obtain⟨y0,y1,y2,y3,y4,z0,z1,z2,z3,z4⟩:=aW u3;go_upto_region 39 with fail;have v1:=dN (g:=w.heap.size+1+1) (i:=2) (v:=Z qo qn qc) u1 n1;have v2:=dN (g:=w.heap.size+1+1) (i:=2) (v:=Z qo qn qc) u2 n2;have v3:=mF (v:=Z qo qn qc) u3;have t6:=t8.jI (i:=2) (v:=Z qo qn qc) u3;have e6:=hy8.jI (i:=2) (v:=Z qo qn qc) u3;have B6:=B8.setCell (p:=⟨w.heap.size+1+1,2,O⟩) (by simp only;omega) (Z qo qn qc);clear u1 u2 u3 t8 hy8 B8 x0 x1 x2 x3 x4 y0 y1 y2 y3 y4 z0 z1 z2 z3 z4;generalize w8.setCell ⟨w.heap.size+1+1,2,O⟩ (Z qo qn qc)=w6 at*;have eU:=mt.aN B6;obtain⟨x0,x1,x2,x3,x4,-⟩:=aW v1;obtain⟨k0,k1,k2,k3,k4,l0,l1,l2,l3,l4⟩:=aW v2;obtain⟨y0,y1,y2,y3,y4,f0,f1,f2,f3,f4⟩:=aW v3;have n3:w.heap.size≠w.heap.size+1:=(by omega);by_cases hf:4096<(bQ (bL text ep (sz rU)).1 ep iR).length
   ·have hf':(4096:Int)<((bQ (bL text ep (sz rU)).1 ep iR).length:Int):=(by omega);go_wp2_with fail;obtain⟨v5,B7⟩:=Ag (T:=Z po text.length tc) (aH:=Z (M ⟨eb,fK,O⟩) (rest.length+1) uc) (R:=Z ro rl rc) (D:=I V dn) (Bf:=I V bf) (by omega) v2 B6;generalize ((((w6.setCell ⟨w.heap.size+1,0,O⟩ (Z po text.length tc)).setCell ⟨w.heap.size+1,1,O⟩ (Z (M ⟨eb,fK,O⟩) (rest.length+1) uc)).setCell ⟨w.heap.size+1,2,O⟩ (Z ro rl rc)).setCell ⟨w.heap.size+1,3,O⟩ (I V dn)).setCell ⟨w.heap.size+1,4,O⟩ (I V bf)=w7 at*;obtain⟨i0,i1,i2,i3,i4,-⟩:=aW v5;refine Aan (v:= .tuple #[.agg #[Z po text.length tc,Z (M ⟨eb,fK,O⟩) (rest.length+1) uc,Z ro rl rc,I V dn,I V bf],I V 13]) (by simp[results,results162,go_sem,i0,i1,i2,i3,i4]) rfl ?_;rw[HA.out hf];exact⟨((po,text.length,tc),(M ⟨eb,fK,O⟩,rest.length+1,uc),(ro,rl,rc),dn,bf),rfl,HM.out.aN B7,B7⟩
   ·have hf':¬(4096:Int)<((bQ (bL text ep (sz rU)).1 ep iR).length:Int):=(by omega);go_wp2_with fail;obtain⟨v5,M7,B7⟩:=Fb (ot:=w.heap.size+1+1) (rs:=w.heap.size+1) (T:=(Mi,(bQ (bL text ep (sz rU)).1 ep iR).length,Mw)) (aH:=(XG,rest.length,uc-1)) (R:=(qo,qn,qc)) (D:=dn) (D':=dn+1) (Bf:=bf) n2 (by omega) (by omega) v2 v3 t6 eU e6 B6;simp only[bS.v]at v5 M7 B7;generalize ((((((w6.setCell ⟨w.heap.size+1+1,3,O⟩ (I V (dn+1))).setCell ⟨w.heap.size+1,0,O⟩ (Z Mi (bQ (bL text ep (sz rU)).1 ep iR).length Mw)).setCell ⟨w.heap.size+1,1,O⟩ (Z XG rest.length (uc-1))).setCell ⟨w.heap.size+1,2,O⟩ (Z qo qn qc)).setCell ⟨w.heap.size+1,3,O⟩ (I V (dn+1))).setCell ⟨w.heap.size+1,4,O⟩ (I V (bf)))=w7 at*;obtain⟨i0,i1,i2,i3,i4,-⟩:=aW v5;refine Aan (v:= .tuple #[.agg #[Z Mi (bQ (bL text ep (sz rU)).1 ep iR).length Mw,Z XG rest.length (uc-1),Z qo qn qc,I V (dn+1),I V (bf)],I V 0]) (by simp[results,results162,go_sem,i0,i1,i2,i3,i4]) rfl ?_;rw[HB.out hf]
    first
     |exact⟨((Mi,(bQ (bL text ep (sz rU)).1 ep iR).length,Mw),(XG,rest.length,uc-1),(qo,qn,qc),dn+1,bf),rfl,M7,B7⟩
     |exact⟨Mi,(bQ (bL text ep (sz rU)).1 ep iR).length,Mw,XG,rest.length,uc-1,qo,qn,qc,dn+1,bf,rfl,M7,B7⟩
end Go.Proofs.YtfplgfodoiiobaaGreatDoor
