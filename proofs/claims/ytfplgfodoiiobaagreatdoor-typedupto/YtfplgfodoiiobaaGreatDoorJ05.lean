/- RefD, RefE, RefF, TreesM, TreesN, TreesO, TreesQ, TreesR, RefG, RefH, RefI, RefJ, RefL, RefM, RefN (joined). -/
import Derived.Test.YtfplgfodoiiobaaGreatDoorJ04
open Option renaming none→O,some→M
open Go.Value renaming int→I,slice→Z,pointer→U
open Go.IntKind renaming i64→V
open Go.Obj renaming cells→C
open Go.Ending renaming returned→G
open Go renaming World→F,Value→Y,Calls→H
open Go.Proofs.Tryz renaming prog→K
namespace Go.Proofs.YtfplgfodoiiobaaGreatDoor
open Go.RowKit
variable {w w' w0 w1:F}{l:List (Int×Int)}{ao:Option Addr}{tb g B wb k xb i:Nat}{a b c d e:Y}{x f1:dS}{X:Nat->Prop}{pos:Int}{rs:List Rec}{r:Rec}
def bY (l:List (Int×Int))(pos:Int)(more:List (Int×Int)):List (Int×Int):=if more=[]then l else cB l pos++more++bH l pos
def bU (l:List (Int×Int))(pos n:Int):List (Int×Int)×List (Int×Int):=if n=0 then (l,[])else (Gf l pos n,tK l pos n)
def Rt (ao:Option Addr)(n c:Nat):Prop:=ao=O->n=0/\c=0
theorem Lr.below (h:Lr w ao l)(hb:Below w.heap.size w w'):Lr w' ao l:=h.fr (Fr.bT hb (fun _=>False)) (fun _ _ _=>id)
abbrev Ed:=Int×List (Int×Int)×List (Int×Int)
def bF (w:F)(x:dS)(l:List (Int×Int)):Prop:=Lr w x.1 l/\x.2.1=l.length/\Rt x.1 x.2.1 x.2.2
def qO (w:F)(r:fH)(e:Ed):Prop:=r.1=e.1/\bF w r.2.1 e.2.1/\bF w r.2.2 e.2.2
def nO (w:F)(x:dS)(l:List Ed):Prop:=∃raw:List fH,KU w x.1 raw/\x.2.1=raw.length/\(Rt x.1 x.2.1 x.2.2/\x.2.1<=x.2.2)/\raw.length=l.length/\∀(i:Nat) (r:fH) (e:Ed),raw[i]?=M r->l[i]?=M e->qO w r e
theorem bF.aM (h:bF w x l)(hg:aK w w'):bF w' x l:=⟨h.1.below hg,h.2⟩
theorem qO.aM {r:fH}{e:Ed}(h:qO w r e)(hg:aK w w'):qO w' r e:=⟨h.1,h.2.1.aM hg,h.2.2.aM hg⟩
theorem nO.aM {l:List Ed}(h:nO w x l)(hg:aK w w'):nO w' x l:=by
 obtain⟨raw,h1,h2,h3,h4,h5⟩:=h;exact⟨raw,h1.aM hg,h2,h3,h4,fun i r e a b=>(h5 i r e a b).aM hg⟩
theorem nO.nil (w:F):nO w (O,0,0) []:=⟨[],KU.nil w,rfl,⟨fun _=>⟨rfl,rfl⟩,Nat.le_refl _⟩,rfl,fun i r e a _=>by simp at a⟩
abbrev bR:=List (Int×Int)×List Ed×List Ed×Int×Int
abbrev Bo:=dS×dS×dS×Int×Int
def Bo.v (r:Bo):Y:= .agg #[r.1.v,r.2.1.v,r.2.2.1.v,I V r.2.2.2.1,I V r.2.2.2.2]
def qI (w:F)(r:Bo)(m:bR):Prop:=bF w r.1 m.1/\nO w r.2.1 m.2.1/\nO w r.2.2.1 m.2.2.1/\r.2.2.2.1=m.2.2.2.1/\r.2.2.2.2=m.2.2.2.2
theorem qI.aM {r:Bo}{m:bR}(h:qI w r m)(hg:aK w w'):qI w' r m:=⟨h.1.aM hg,h.2.1.aM hg,h.2.2.1.aM hg,h.2.2.2⟩
def sW (m:bR)(a b c most:Int)(depth:Nat):bR×Int:=
 if a<0\/sz m.1<a then (m,5)else if c<1\/200<c then (m,6)else if most<sz m.1+c then (m,7)
 else if 4096<(bY m.1 a [(b,c)]).length then (m,13)else ((bY m.1 a [(b,c)],((a,[],[(b,c)])::m.2.1).take depth,[],m.2.2.2.1+1,m.2.2.2.2+c),0)
theorem bF.fr (h:bF w x l)(hF:Fr w w' X)(hx:∀b aQ,w.heap[b]?=M (C aQ 114 (0,0))->¬X b):bF w' x l:=⟨h.1.fr hF hx,h.2⟩
theorem nO.fr {l:List Ed}(h:nO w x l)(hF:Fr w w' X)(hx:∀b aQ,w.heap[b]?=M (C aQ 114 (0,0))->¬X b)(hy:∀b aQ,w.heap[b]?=M (C aQ 302 (0,0))->¬X b):nO w' x l:=by
 obtain⟨raw,h1,h2,h3,h4,h5⟩:=h;exact⟨raw,h1.fr hF hy,h2,h3,h4,fun i r e a b=>⟨(h5 i r e a b).1,(h5 i r e a b).2.1.fr hF hx,(h5 i r e a b).2.2.fr hF hx⟩⟩
def iI (a b c d e:Y):Obj:=C #[a,b,c,d,e] 187 (0,0)
theorem Yi (h:w.heap[g]?=M (iI a b c d e)):
 w.cell? ⟨g,0,O⟩=M a/\w.cell? ⟨g,1,O⟩=M b/\w.cell? ⟨g,2,O⟩=M c/\w.cell? ⟨g,3,O⟩=M d/\w.cell? ⟨g,4,O⟩=M e/\w.frozen? ⟨g,0,O⟩=false/\w.frozen? ⟨g,1,O⟩=false/\w.frozen? ⟨g,2,O⟩=false/\w.frozen? ⟨g,3,O⟩=false/\w.frozen? ⟨g,4,O⟩=false:=by
 simp[World.cell?,World.frozen?,h,iI]
theorem FD {v:Y}(h:w.heap[g]?=M (iI a b c d e)):(w.setCell ⟨g,0,O⟩ v).heap[g]?=M (iI v b c d e):=by rw[heap_setCell_same w g 0 _ _ v h];rfl
theorem FE {v:Y}(h:w.heap[g]?=M (iI a b c d e)):(w.setCell ⟨g,1,O⟩ v).heap[g]?=M (iI a v c d e):=by rw[heap_setCell_same w g 1 _ _ v h];rfl
theorem FH {v:Y}(h:w.heap[g]?=M (iI a b c d e)):(w.setCell ⟨g,2,O⟩ v).heap[g]?=M (iI a b v d e):=by rw[heap_setCell_same w g 2 _ _ v h];rfl
theorem FI {v:Y}(h:w.heap[g]?=M (iI a b c d e)):(w.setCell ⟨g,3,O⟩ v).heap[g]?=M (iI a b c v e):=by rw[heap_setCell_same w g 3 _ _ v h];rfl
theorem FJ {v:Y}(h:w.heap[g]?=M (iI a b c d e)):(w.setCell ⟨g,4,O⟩ v).heap[g]?=M (iI a b c d v):=by rw[heap_setCell_same w g 4 _ _ v h];rfl
def yA (m:bR)(a b:Int)(depth:Nat):bR×Int:=
 if a<0\/b<1\/sz m.1<a\/sz m.1-a<b then (m,5)
 else if 4096<(bU m.1 a b).1.length then (m,13)else (((bU m.1 a b).1,((a,(bU m.1 a b).2,[])::m.2.1).take depth,[],m.2.2.2.1+1,m.2.2.2.2),0)
def Ul (l:List (Int×Int))(pos x y:Int):List (Int×Int)×Int:=
 if pos<0\/sz l<pos then (l,5)else if ¬(1<=y/\y<=5000/\0<=x/\x<=1000000000)then (l,1)else if 4096<(Yb l pos (x,y)).length then (l,13)else (Yb l pos (x,y),0)
def Dp (l:List (Int×Int))(pos n:Int):List (Int×Int)×List (Int×Int)×Int:=
 if n<0\/pos<0\/sz l<pos\/sz l-pos<n then (l,[],5)else if n=0 then (l,[],0)else if 4096<(Gf l pos n).length then (l,[],13)else (Gf l pos n,tK l pos n,0)
def lF (l:List (Int×Int))(pos:Int):(Int×Int)×Int:=
 if pos<0\/sz l<=pos then ((0,0),5)else (((bH l pos).head?).getD (0,0),0)
theorem bN.ok (t:bN w tb l):dX l/\l.length<=4096:=by
 obtain⟨_,_,_,_,h1,h2⟩:=t;exact⟨h1,h2⟩
theorem FK (t:bN w tb l){x y:Int}:
 H K 63 #[U (M ⟨tb,0,O⟩),I V pos,.agg #[I V x,I V y]] w fun e w'=>
  e=G (I V (Ul l pos x y).2)/\bN w' tb (Ul l pos x y).1/\w.grownBy w' (M tb):=by
 by_cases h1:pos<0\/sz l<pos
 ·refine(ET t h1).mono ?_;rintro e w' ⟨rfl,hb⟩;simp only[Ul,if_pos h1];exact⟨trivial,t.below hb,iD hb _⟩
 ·by_cases h2:Xz x y
  ·refine(OE t (by omega) (by omega) h2).mono ?_;rintro e w' (⟨h3,rfl,hb⟩|⟨h3,rfl,ht,hg⟩)
   ·simp only[Ul,if_neg h1,if_neg (not_not_intro (show 1<=y/\y<=5000/\0<=x/\x<=1000000000 from h2)),if_pos h3];exact⟨trivial,t.below hb,iD hb _⟩
   ·simp only[Ul,if_neg h1,if_neg (not_not_intro (show 1<=y/\y<=5000/\0<=x/\x<=1000000000 from h2)),if_neg (Nat.not_lt.2 h3)];exact⟨trivial,ht,hg⟩
  ·refine(EU t (by omega) (by omega) h2).mono ?_;rintro e w' ⟨rfl,hb⟩;simp only[Ul,if_neg h1,if_pos (show ¬(1<=y/\y<=5000/\0<=x/\x<=1000000000) from h2)];exact⟨trivial,t.below hb,iD hb _⟩
theorem Yj (t:bN w tb l){n:Int}(uY:n<=9223372036854775807)(L_:pos<=9223372036854775807):
 H K 101 #[U (M ⟨tb,0,O⟩),I V pos,I V n] w fun e w'=>
  ∃ao,e=G (.tuple #[Z ao (Dp l pos n).2.1.length (Dp l pos n).2.1.length,I V (Dp l pos n).2.2])/\iV w' w.heap.size (Z ao (Dp l pos n).2.1.length (Dp l pos n).2.1.length) (Dp l pos n).2.1
   /\bN w' tb (Dp l pos n).1/\w.grownBy w' (M tb):=by
 by_cases h1:n<0\/pos<0\/sz l<pos\/sz l-pos<n
 ·refine(EW t uY L_ h1).mono ?_;rintro e w' ⟨rfl,rfl⟩;simp only[Dp,if_pos h1];exact⟨O,rfl,World.ownsRow_nil _ _ _ _,t,World.grownBy.refl _ _⟩
 ·by_cases h2:n=0
  ·subst h2;refine(Yc t (by omega) (by omega)).mono ?_;rintro e w' ⟨rfl,rfl⟩;simp only[Dp,if_neg h1,if_pos];exact⟨O,rfl,World.ownsRow_nil _ _ _ _,t,World.grownBy.refl _ _⟩
  ·refine(OG t (by omega) (by omega) (by omega) (by omega)).mono ?_;rintro e w' (⟨h3,rfl,hb⟩|⟨h3,g,rfl,ho,hg,ht,Ls⟩)
   ·simp only[Dp,if_neg h1,if_neg h2,if_pos h3];exact⟨O,rfl,World.ownsRow_nil _ _ _ _,t.below hb,iD hb _⟩
   ·simp only[Dp,if_neg h1,if_neg h2,if_neg (Nat.not_lt.2 h3)];exact⟨_,rfl,iV.weak (B':=g) ho hg,ht,Ls⟩
theorem Lu (t:bN w tb l):
 H K 104 #[U (M ⟨tb,0,O⟩),I V pos] w fun e w'=>
  e=G (.tuple #[.agg #[I V (lF l pos).1.1,I V (lF l pos).1.2],I V (lF l pos).2])/\Below w.heap.size w w':=by
 by_cases h1:pos<0\/sz l<=pos
 ·simp only[lF,if_pos h1];exact mo t h1
 ·refine(UA t (by omega) (by omega)).mono ?_;rintro e w' ⟨q,hq,rfl,hb⟩;simp only[lF,if_neg h1,hq,Option.getD_some];exact⟨trivial,hb⟩
def M_ (w w':F)(wb:Nat):Prop:=
 (∀(b:Nat) (aQ:Array Y) (t:TypeId) (f:Nat×Nat),t≠119->t≠160->t≠71->t≠102->t≠3->t≠114->w.heap[b]?=M (C aQ t f)->w'.heap[b]?=M (C aQ t f))
 /\∀wD n vp vm,w.heap[wb]?=M (nN wD n vp vm)->w'.cell? ⟨wb,0,O⟩=M wD
def StepOk (w w':F)(B wb:Nat)(rs:List Rec)(c:Nat):Prop:=M_ w w' wb/\Below B w w'/\∃dH c',INV w' B wb dH c'/\dH.length<=rs.length+1/\c'<=c+1
theorem INV.lt {c:Nat}(h:INV w B wb rs c):B<=w.heap.size/\wb<w.heap.size:=by
 obtain⟨wD,vp,vm,hs,h1,h2,-⟩:=h;have:=aL h1;omega
theorem INV.rec {c:Nat}(h:INV w B wb rs c)(hr:rs[i]?=M r):Dm w B r:=by
 obtain⟨wD,vp,vm,hs,-,-,-,h4,-⟩:=h;exact h4 r (List.mem_of_getElem? hr)
theorem INV.step {c:Nat}{wD vp vm vp' vm':Y}{hs g:List dS}(h1:w.heap[wb]?=M (nN wD (c:Int) vp vm))(h2:B<=wb)
 (h3:w.ownsRow B 117 1 wD rs.length (rs.map (fun r:Rec=>Value.pointer (M ⟨r.sb,0,O⟩))))(h4:∀r∈rs,Dm w B r)(h5:rs.Pairwise Ye)
 (h6:w.ownsRow B 102 1 vp hs.length (hs.map dS.v))(h7:hs.length=4*c)(h8:EX w hs)(h9:nM w B vm (marks c))
 (hr:rs[k]?=M r){ca:Nat}
 (hF:Fr w w' (fun b=>b=r.sb\/b=r.tb\/b=wb\/vp.ownBlock=M b\/vm.ownBlock=M b))(hp:w'.heap[r.sb]?=M (UD r.tb (Z ao l.length ca)))(ht:bN w' r.tb l)(hl:Lr w' ao l)
 (g1:g.length=4)(g2:w'.heap[wb]?=M (nN wD ((c:Int)+1) vp' vm'))(g3:w'.ownsRow B 102 1 vp' (hs++g).length ((hs++g).map dS.v))(g4:nM w' B vm' (marks (c+1)))
 (g5:∀x∈g,Lr w' x.1 (List.replicate x.2.1 (mk c))/\x.2.1<=9000):INV w' B wb (rs.set k (r.sb,r.tb,ao,ca,l)) (c+1):=by
 have OJ:r∈rs:=List.mem_of_getElem? hr;obtain⟨p1,⟨q1,q2,q3,-⟩,p3,p4,p5⟩:=h4 r OJ;have KV:k<rs.length:=(List.getElem?_eq_some_iff.1 hr).1
 have hX:∀b (aQ:Array Y) (t:TypeId) (f:Nat×Nat),t≠119->t≠160->t≠71->t≠102->t≠3->w.heap[b]?=M (C aQ t f)->¬(b=r.sb\/b=r.tb\/b=wb\/vp.ownBlock=M b\/vm.ownBlock=M b):=by
  intro b aQ t f e1 e2 e3 e4 e5 hb hx;rcases hx with rfl|rfl|rfl|hx|hx
  ·exact eT hb p1 (lD e1)
  ·exact eT hb q3 (lD e2)
  ·exact eT hb h1 (lD e3)
  ·exact yP h6 hb (Ne.symm e4) hx
  ·exact yP h9 hb (Ne.symm e5) hx
 refine⟨wD,vp',vm',hs++g,by rw[g2];rfl,h2,?_,?_,?_,g3,by rw[List.length_append];omega,?_,g4⟩
 ·rw[List.length_set,List.map_set]
  have e:(rs.map (fun r:Rec=>Value.pointer (M ⟨r.sb,0,O⟩))).set k (Value.pointer (M ⟨Rec.sb (r.sb,r.tb,ao,ca,l),0,O⟩))=rs.map (fun r:Rec=>Value.pointer (M ⟨r.sb,0,O⟩)):=by
   apply List.ext_getElem?;intro i;rw[List.getElem?_set];by_cases hi:k=i
   ·subst hi;simp[KV,Rec.sb];have:=(List.getElem?_eq_some_iff.1 hr).2;rw[this]
   ·simp[hi]
  rw[e];exact bO h3 hF (fun g aQ _ e=>hX _ _ _ _ (by decide) (by decide) (by decide) (by decide) (by decide) e)
 ·intro s UE;obtain⟨i,hi,rfl⟩:=List.getElem_of_mem UE;rw[List.getElem_set];by_cases Xh:k=i
  ·rw[if_pos Xh];exact⟨hp,ht,hl,p4,p5⟩
  ·rw[if_neg Xh];have EB:i<rs.length:=by simpa using hi
   have Lv:Ye rs[i] r:=by
    have Yk:rs[k]=r:=(List.getElem?_eq_some_iff.1 hr).2;rcases Nat.lt_or_ge i k with bS|Fw
    ·have:=List.pairwise_iff_getElem.1 h5 i k EB KV bS;rw[Yk]at this;exact this
    ·have:=List.pairwise_iff_getElem.1 h5 k i KV EB (by omega);rw[Yk]at this;exact⟨this.1.symm,this.2.symm⟩
   have hi4:=h4 rs[i] (List.getElem_mem EB);have hi5:=hi4;obtain⟨z1,⟨y1,y2,y3,-⟩,-⟩:=hi4;refine hi5.fr hF ?_ ?_ (fun b la ra p h l e=>hX _ _ _ _ (by decide) (by decide) (by decide) (by decide) (by decide) e) (fun b aQ e=>hX _ _ _ _ (by decide) (by decide) (by decide) (by decide) (by decide) e)
   ·rintro(e|e|e|e|e)
    ·exact Lv.1 e
    ·rw[e]at z1;exact eT z1 q3 (lD (by decide))
    ·rw[e]at z1;exact eT z1 h1 (lD (by decide))
    ·exact yP h6 z1 (by decide) e
    ·exact yP h9 z1 (by decide) e
   ·rintro(e|e|e|e|e)
    ·rw[e]at y3;exact eT y3 p1 (lD (by decide))
    ·exact Lv.2 e
    ·rw[e]at y3;exact eT y3 h1 (lD (by decide))
    ·exact yP h6 y3 (by decide) e
    ·exact yP h9 y3 (by decide) e
 ·refine List.pairwise_iff_getElem.2 fun i j hi hj N_=>?_
  have EB:i<rs.length:=by simpa using hi
  have O_:j<rs.length:=by simpa using hj
  have Yk:rs[k]=r:=(List.getElem?_eq_some_iff.1 hr).2;have h0:=List.pairwise_iff_getElem.1 h5 i j EB O_ N_;rw[List.getElem_set,List.getElem_set];by_cases h1:k=i
  ·subst h1;rw[if_pos rfl,if_neg (by omega)];rw[Yk]at h0;exact h0
  ·rw[if_neg h1];by_cases h2:k=j
   ·subst h2;rw[if_pos rfl];rw[Yk]at h0;exact h0
   ·rw[if_neg h2];exact h0
 ·intro i x hx;by_cases hi:i<hs.length
  ·rw[List.getElem?_append_left hi]at hx;obtain⟨a1,a2⟩:=h8 i x hx;exact⟨a1.fr hF (fun b aQ e=>hX _ _ _ _ (by decide) (by decide) (by decide) (by decide) (by decide) e),a2⟩
  ·rw[List.getElem?_append_right (by omega)]at hx;have bS:=(List.getElem?_eq_some_iff.1 hx).1;rw[show i / 4=c from by omega];exact g5 x (List.mem_of_getElem? hx)
theorem INV.own {w3:F}{c:Nat}{wD vp vm:Y}{hs:List dS}(h1:w.heap[wb]?=M (nN wD (c:Int) vp vm))(h2:B<=wb)
 (h3:w.ownsRow B 117 1 wD rs.length (rs.map (fun r:Rec=>Value.pointer (M ⟨r.sb,0,O⟩))))(h4:∀r∈rs,Dm w B r)(h5:rs.Pairwise Ye)
 (h6:w.ownsRow B 102 1 vp hs.length (hs.map dS.v))(h7:hs.length=4*c)(h8:EX w hs)(h9:nM w B vm (marks c))
 (hr:rs[k]?=M r){go:Option Addr}{ca:Nat}
 (hF:Fr w w3 (fun b=>b=r.sb\/b=r.tb))(hB:Below B w w3)(hp:w3.heap[r.sb]?=M (UD r.tb (Z ao l.length ca)))(ht:bN w3 r.tb l)(hl:Lr w3 ao l)
 (hgo:∀a,go=M a->w.heap.size<=a.block)(hgt:∀a,go=M a->∃aQ,w3.heap[a.block]?=M (C aQ 114 (0,0)))(hag:∀a,ao=M a->∀g,go=M g->a.block≠g.block)
 (hD:ol w3 w' B wb c wD vp vm hs go):StepOk w w' B wb rs c:=by
 obtain⟨p1,⟨q1,q2,q3,-⟩,p3,p4,p5⟩:=h4 r (List.mem_of_getElem? hr)
 have hX3:∀b (aQ:Array Y) (t:TypeId) (f:Nat×Nat),t≠119->t≠160->w.heap[b]?=M (C aQ t f)->¬(b=r.sb\/b=r.tb):=by
  intro b aQ t f e1 e2 hb hx;rcases hx with rfl|rfl
  ·exact eT hb p1 (lD e1)
  ·exact eT hb q3 (lD e2)
 have w1:w3.heap[wb]?=M (nN wD (c:Int) vp vm):=hF.at h1 (hX3 _ _ _ _ (by decide) (by decide) h1);have w6:=bO h6 hF (fun g aQ _ e=>hX3 _ _ _ _ (by decide) (by decide) e);have w9:nM w3 B vm (marks c):=bO h9 hF (fun g aQ _ e=>hX3 _ _ _ _ (by decide) (by decide) e);obtain⟨vp',vm',g,g1,g2,g3,g4,g5,g6,g7⟩:=hD
 have hX:∀b (aQ:Array Y) (t:TypeId) (f:Nat×Nat),t≠71->t≠102->t≠3->(∀a,go=M a->b≠a.block)->w3.heap[b]?=M (C aQ t f)->¬(b=wb\/(∃a,go=M a/\b=a.block)\/vp.ownBlock=M b\/vm.ownBlock=M b):=by
  intro b aQ t f e1 e2 e3 e4 hb hx;rcases hx with rfl|⟨a,ha,rfl⟩|hx|hx
  ·exact eT hb w1 (lD e1)
  ·exact e4 a ha rfl
  ·exact yP w6 hb (Ne.symm e2) hx
  ·exact yP w9 hb (Ne.symm e3) hx
 have yB:∀b (aQ:Array Y) (t:TypeId) (f:Nat×Nat),t≠114->w3.heap[b]?=M (C aQ t f)->∀a,go=M a->b≠a.block:=by
  intro b aQ t f e hb a ha hba;obtain⟨oF,hc⟩:=hgt a ha;rw[hba]at hb;exact eT hb hc (lD e)
 obtain⟨u1,u2,u3,-⟩:=id ht
 have hK:M_ w w' wb:=by
  refine⟨fun b aQ t f e1 e2 e3 e4 e5 e6 e=>?_,fun vts0 n0 vp0 vm0 e=>?_⟩
  ·have e3':=hF.at e (hX3 _ _ _ _ e1 e2 e);exact g6.at e3' (hX _ _ _ _ e3 e4 e5 (yB _ _ _ _ e6 e3') e3')
  ·rw[h1]at e
   have:wD=vts0:=by
    have e':=Option.some.inj e;unfold nN at e';injection e' with e1;have:=congrArg (fun x:Array Y=>x[0]?) e1;simpa using this
   subst this;exact(Yf g2).1
 refine⟨hK,⟨g7.os.trans hB.os,g7.tape.trans hB.tape,g7.output.trans hB.output,Nat.le_trans hB.size g7.size,fun b hb=>(g7.block b hb).trans (hB.block b hb)⟩,_,c+1,INV.step h1 h2 h3 h4 h5 h6 h7 h8 h9 hr ?_ (g6.at hp ?_) (ht.fr g6 ?_ ?_) ⟨hl.1.fr g6 ?_,?_⟩ g1 g2 g3 g4 g5,by simp,by omega⟩
 ·refine⟨Nat.le_trans hF.1 g6.1,fun b hb hx=>?_⟩;have e1:=hF.2 b hb (fun e=>hx (by rcases e with e|e;exact Or.inl e;exact Or.inr (Or.inl e)));refine(g6.2 b (Nat.lt_of_lt_of_le hb hF.1) ?_).trans e1;rintro(e|⟨a,ha,rfl⟩|e|e)
  ·exact hx (Or.inr (Or.inr (Or.inl e)))
  ·have:=hgo a ha;omega
  ·exact hx (Or.inr (Or.inr (Or.inr (Or.inl e))))
  ·exact hx (Or.inr (Or.inr (Or.inr (Or.inr e))))
 ·exact hX _ _ _ _ (by decide) (by decide) (by decide) (yB _ _ _ _ (by decide) hp) hp
 ·exact hX _ _ _ _ (by decide) (by decide) (by decide) (yB _ _ _ _ (by decide) u3) u3
 ·intro b la ra p h l e;exact hX _ _ _ _ (by decide) (by decide) (by decide) (yB _ _ _ _ (by decide) e) e
 ·intro a ha;obtain⟨aQ,hc⟩:=hl.2 a ha;exact hX _ _ _ _ (by decide) (by decide) (by decide) (fun g hg=>hag a ha g hg) hc
 ·intro a ha;obtain⟨aQ,hc⟩:=hl.2 a ha;exact⟨aQ,g6.at hc (hX _ _ _ _ (by decide) (by decide) (by decide) (fun g hg=>hag a ha g hg) hc)⟩
theorem aK.set (h:aK w0 w){a:Addr}(ha:w0.heap.size<=a.block)(v:Y):aK w0 (w.setCell a v):=Below.setCell h ha v
def Gt (tb:Nat)(w0 w:F):Prop:=w0.grownBy w (M tb)
theorem Gt.refl (tb:Nat)(w:F):Gt tb w w:=World.grownBy.refl _ _
theorem Gt.drew (h:Gt tb w0 w):Gt tb w0 w.drew:=⟨h.os,h.tape,h.output,h.size,h.block⟩
theorem Gt.more (h:Gt tb w0 w)(h2:w.grownBy w' (M tb)):Gt tb w0 w':=jJ h h2
theorem Gt.cell (h:Gt tb w0 w){a:Addr}{v:Y}(hc:w0.cell? a=M v)(hne:a.block≠tb):w.cell? a=M v:=World.grownBy.cell h hc (by simpa using hne)
theorem bN.drew (t:bN w tb l):bN w.drew tb l:=t.below ⟨rfl,rfl,rfl,Nat.le_refl _,fun _ _=>rfl⟩
theorem iV.lt {n cap:Nat}(h:iV w B (Z ao n cap) l):∀a,ao=M a->B<=a.block/\a.block<w.heap.size:=fun a e=>by
 obtain⟨aQ,h1,h2⟩:=h.typed a e;exact⟨h2,aL h1⟩
theorem KW (h:dX l){n:Int}(h0:0<=pos)(hn:0<=n)(h1:n<=sz l-pos):sz (bU l pos n).1=sz l-n:=by
 unfold bU;split
 ·rename_i e;subst e;simp
 ·simp only[Gf,mV];rw[uX h h0 (by omega),jP (iA h pos) hn (by rw[jP h h0 (by omega)];omega),jP h h0 (by omega)];omega
theorem Yl (h:dX l)(pos n:Int):dX (bU l pos n).1:=by
 unfold bU;split
 ·exact h
 ·exact fM (rG h pos) (iA (iA h pos) n)
theorem nO.head {xo:Option Addr}{xn xc:Nat}{e:Ed}{l:List Ed}(h:nO w (xo,xn,xc) (e::l)):∃(b off:Nat) (r:fH),xo=M ⟨b,off,O⟩/\xn=l.length+1/\xn<=xn/\w.cell? ⟨b,off,O⟩=M (I V r.1)/\w.cell? ⟨b,off+1,O⟩=M r.2.1.v/\w.cell? ⟨b,off+2,O⟩=M r.2.2.v/\qO w r e:=by
 obtain⟨raw,h1,h2,h3,h4,h5⟩:=h;simp only at h1 h2 h3
 match raw,h4 with
 |r::raw,h4=>
  rcases h1.1 with h|⟨b,off,rfl,hc⟩
  ·cases h
  ·refine⟨b,off,r,rfl,by simp at h4;simp at h2;omega,Nat.le_refl _,?_,hc 1 _ rfl,hc 2 _ rfl,h5 0 r e rfl rfl⟩;have:=hc 0 _ rfl;simpa using this
theorem nO.tail {b off xn xc:Nat}{e:Ed}{l:List Ed}(h:nO w (M ⟨b,off,O⟩,xn,xc) (e::l)):nO w ((if xc=1 then M ⟨b,off,O⟩else M ⟨b,off+3,O⟩),l.length,xc-1) l:=by
 obtain⟨raw,h1,h2,h3,h4,h5⟩:=h;simp only at h1 h2 h3
 match raw,h4 with
 |r::raw,h4=>
  simp at h4 h2;obtain⟨c1,c2⟩:=h1;obtain⟨aQ,hc⟩:=c2 _ rfl;have yB:∀o:Nat,∀a,M (⟨b,o,O⟩:Addr)=M a->∃aQ,w.heap[a.block]?=M (C aQ 302 (0,0)):=fun o a e=>by cases e;exact⟨aQ,hc⟩
  by_cases hx:xc=1
  ·have Qn:raw=[]:=List.eq_nil_of_length_eq_zero (by omega);subst Qn;rw[if_pos hx];have SK:l.length=0:=by simpa using h4.symm
   exact⟨[],⟨Or.inl rfl,yB off⟩,SK,⟨fun e=>(by cases e),by simp only;omega⟩,by rw[SK];rfl,fun i r' e' a' b'=>by simp at a'⟩
  ·rw[if_neg hx];refine⟨raw,⟨?_,yB _⟩,by simp only;omega,⟨fun e=>(by cases e),by simp only;omega⟩,h4,fun i r' e' a' b'=>h5 (i+1) r' e' (by simpa using a') (by simpa using b')⟩;rcases c1 with c1|⟨b',Lx,e',UI⟩
   ·cases c1
   ·cases e'
    refine Or.inr ⟨b,off+3,rfl,fun j u hu=>?_⟩;have:=UI (j+3) u (by rw[rY,List.getElem?_append_right (by simp)];simpa using hu);rwa[show off+(j+3)=off+3+j from by omega]at this
theorem Jz.grewP (h:Jz w ao l)(hg:aK w w'):Jz w' ao l:=h.below hg
def pK (m:bR)(depth:Nat):bR×Int:=
 match m.2.1 with
 | []=>(m,8)
 |e::rest=>if 4096<(bY (bU m.1 e.1 (sz e.2.2)).1 e.1 e.2.1).length then (m,13)else ((bY (bU m.1 e.1 (sz e.2.2)).1 e.1 e.2.1,rest,(e::m.2.2.1).take depth,m.2.2.2.1+1,m.2.2.2.2),0)
def Ap (n:Int)(pos:Int)(gone come:List (Int×Int)):Prop:=0<=pos/\pos+sz gone<=n/\dX gone/\dX come/\gone.length<=6000/\come.length<=6000
def pO (m:bR)(depth:Nat):bR×Int:=
 match m.2.2.1 with
 | []=>(m,8)
 |e::rest=>if 4096<(bY (bU m.1 e.1 (sz e.2.1)).1 e.1 e.2.2).length then (m,13)else ((bY (bU m.1 e.1 (sz e.2.1)).1 e.1 e.2.2,(e::m.2.1).take depth,rest,m.2.2.2.1+1,m.2.2.2.2),0)
abbrev bE:=Int×ByteArray×Int
variable {f:bE}
def bE.cells (f:bE):List Y:=[I V f.1,.string f.2.1,I V f.2.2]
def fcs (l:List bE):List Y:=l.flatMap bE.cells
theorem Ym (e:bE)(l:List bE):fcs (e::l)=[I V e.1,.string e.2.1,I V e.2.2]++fcs l:=rfl
theorem KX:∀(l:List bE) (i:Nat) (f:bE),l[i]?=M f->(fcs l)[i*3]?=M (I V f.1)/\(fcs l)[i*3+1]?=M (.string f.2.1)/\(fcs l)[i*3+2]?=M (I V f.2.2):=by
 intro l
 induction l with
 |nil=>intro i f h;simp at h
 |cons e l ih=>
  intro i f h;cases i with
  |zero=>simp at h;subst h;simp[Ym]
  |succ i=>
   have:=ih i f (by simpa using h);rw[Ym,show(i+1)*3=i*3+1+1+1 from by omega];simpa using this
def KY (w:F)(ao:Option Addr)(l:List bE):Prop:=
 (l=[]\/∃b off,ao=M ⟨b,off,O⟩/\∀j u,(fcs l)[j]?=M u->w.cell? ⟨b,off+j,O⟩=M u)/\∀a,ao=M a->∃aQ,w.heap[a.block]?=M (C aQ 193 (0,0))
def OwnF (w:F)(B:Nat)(v:Y)(l:List bE):Prop:=w.ownsRow B 193 3 v l.length (fcs l)
theorem KY.fr {l:List bE}(h:KY w ao l)(hF:Fr w w' X)(hx:∀b aQ,w.heap[b]?=M (C aQ 193 (0,0))->¬X b):KY w' ao l:=by
 obtain⟨h1,h2⟩:=h;refine⟨?_,fun a e=>?_⟩
 ·rcases h1 with h1|⟨b,off,e,hc⟩
  ·exact Or.inl h1
  ·refine Or.inr ⟨b,off,e,fun j u hu=>?_⟩;obtain⟨aQ,hb⟩:=h2 _ e;have mF:w'.heap[b]?=w.heap[b]?:=hF.2 b (aL hb) (hx _ _ hb);exact(World.cell?_of_block (a:=⟨b,off+j,O⟩) mF).trans (hc j u hu)
 ·obtain⟨aQ,hb⟩:=h2 a e;exact⟨aQ,hF.at hb (hx _ _ hb)⟩
theorem KY.aM {l:List bE}(h:KY w ao l)(hg:aK w w'):KY w' ao l:=h.fr (Fr.bT hg (fun _=>False)) (fun _ _ _=>id)
theorem KY.nil (w:F):KY w O []:=⟨Or.inl rfl,fun _ e=>by cases e⟩
theorem KY.at {l:List bE}(h:KY w ao l)(hf:l[i]?=M f):
 ∃b off,ao=M ⟨b,off,O⟩/\w.cell? ⟨b,off+i*3,O⟩=M (I V f.1)/\w.cell? ⟨b,off+i*3+1,O⟩=M (.string f.2.1)/\w.cell? ⟨b,off+i*3+2,O⟩=M (I V f.2.2):=by
 rcases h.1 with rfl|⟨b,off,e,hc⟩
 ·simp at hf
 ·obtain⟨h1,h2,h3⟩:=KX l i f hf;exact⟨b,off,e,hc _ _ h1,by rw[Nat.add_assoc];exact hc _ _ h2,by rw[Nat.add_assoc];exact hc _ _ h3⟩
structure Sc where
 most:Int
 depth:Int
 room:Int
 iH:Bool
 after:Int
 one:Int
 rest:Int
 refusing:Bool
 left:Int
 aX:Bool
 ro:Bool
 aZ:Int
def storeB (s:Sc)(f:dS)(m:Bo):Obj:=C #[I V s.most,I V s.depth,I V s.room,f.v,.bool s.iH,I V s.after,I V s.one,I V s.rest,.bool s.refusing,I V s.left,.bool s.aX,.bool s.ro,I V s.aZ,
 m.1.v,m.2.1.v,m.2.2.1.v,I V m.2.2.2.1,I V m.2.2.2.2] 189 (0,0)
def Ka (w:F)(x:dS)(l:List bE):Prop:=KY w x.1 l/\x.2.1=l.length/\Rt x.1 x.2.1 x.2.2
def UJ (B:Nat)(f:dS):Prop:=∀a,f.1=M a->B<=a.block
def kU (w:F)(xb:Nat)(s:Sc)(fs:List bE)(m:bR)(f:dS):Prop:=∃r:Bo,w.heap[xb]?=M (storeB s f r)/\Ka w f fs/\qI w r m
def Ru (w w':F)(xb:Nat)(f f':dS):Prop:=Fr w w' (fun b=>b=xb\/∃a,f.1=M a/\b=a.block)/\(w'.os=w.os/\w'.tape=w.tape/\w'.output=w.output)/\(f'=f\/UJ w.heap.size f')
theorem Ru.refl (w:F)(xb:Nat)(f:dS):Ru w w xb f f:=⟨Fr.refl _ _,⟨rfl,rfl,rfl⟩,Or.inl rfl⟩
theorem Ru.trans {w2:F}{f f2:dS}(h1:Ru w w1 xb f f1)(h2:Ru w1 w2 xb f1 f2):Ru w w2 xb f f2:=by
 obtain⟨⟨a1,a2⟩,⟨o1,o2,o3⟩,wF⟩:=h1;obtain⟨⟨b1,b2⟩,⟨p1,p2,p3⟩,Qb⟩:=h2;refine⟨⟨Nat.le_trans a1 b1,fun b hb hn=>?_⟩,⟨p1.trans o1,p2.trans o2,p3.trans o3⟩,?_⟩
 ·rw[<-a2 b hb hn];refine b2 b (Nat.lt_of_lt_of_le hb a1) ?_;rintro(h|⟨a,e,h⟩)
  ·exact hn (Or.inl h)
  ·rcases wF with rfl|wF
   ·exact hn (Or.inr ⟨a,e,h⟩)
   ·have:=wF a e;omega
 ·rcases Qb with rfl|Qb
  ·exact wF
  ·exact Or.inr (fun a e=>Nat.le_trans a1 (Qb a e))
theorem Ru.aM {w2:F}{f:dS}(h1:Ru w w1 xb f f1)(hg:aK w1 w2):Ru w w2 xb f f1:=
 ⟨h1.1.trans (Fr.bT hg _),⟨hg.os.trans h1.2.1.1,hg.tape.trans h1.2.1.2.1,hg.output.trans h1.2.1.2.2⟩,h1.2.2⟩
theorem Ru.set {f:dS}{v:Y}(h1:Ru w w1 xb f f1):Ru w (w1.setCell ⟨xb,i,O⟩ v) xb f f1:=by
 refine⟨?_,⟨h1.2.1.1,h1.2.1.2.1,h1.2.1.2.2⟩,h1.2.2⟩;obtain⟨a1,a2⟩:=h1.1;obtain⟨b1,b2⟩:=Fr.set w1 ⟨xb,i,O⟩ v;exact⟨Nat.le_trans a1 b1,fun b hb hn=>(b2 b (Nat.lt_of_lt_of_le hb a1) (fun e=>hn (Or.inl e))).trans (a2 b hb hn)⟩
theorem Ru.row {f f2:dS}(h1:Ru w w1 xb f f1)(h2:UJ w.heap.size f2):Ru w w1 xb f f2:=⟨h1.1,h1.2.1,Or.inr h2⟩
def wG (l:List bE)(n:Int):Option Nat:=l.findIdx? (fun f=>f.1==n)
def aN (l:List bE)(n:Int):ByteArray:=match wG l n with
 |some i=>((l[i]?).getD (0,⟨#[]⟩,0)).2.1
 |none=>⟨#[]⟩
theorem OwnF.at {n cap:Nat}{l:List bE}(h:OwnF w B (Z ao n cap) l)(hf:l[k]?=M f):
 ∃g,ao=M ⟨g,0,O⟩/\n=l.length/\B<=g/\g<w.heap.size/\w.cell? ⟨g,k*3,O⟩=M (I V f.1)/\w.cell? ⟨g,k*3+1,O⟩=M (.string f.2.1)/\w.cell? ⟨g,k*3+2,O⟩=M (I V f.2.2)/\∀j,w.frozen? ⟨g,j,O⟩=false:=by
 have h':=h;have bS:=(List.getElem?_eq_some_iff.1 hf).1;rcases h.2 with⟨-,h0⟩|⟨g,Gd,aQ,hv,hg,hh,-⟩
 ·omega
 ·cases hv
  obtain⟨e1,e2,e3⟩:=KX l k f hf;exact⟨g,rfl,rfl,hg,aL hh,(World.ownsRow.cellAt h' (k*3) (by omega)).trans e1,(World.ownsRow.cellAt h' (k*3+1) (by omega)).trans e2,(World.ownsRow.cellAt h' (k*3+2) (by omega)).trans e3,fun j=>World.ownsRow.frozenAt h' j⟩
def qP:List bE->bE->List bE
 | [],f=> [f]
 |g::r,f=>if f.1<g.1 then g::qP r f else f::g::r
def uJ (l:List bE)(f:bE):List bE:=(qP l.reverse f).reverse
def Bp (l:List bE):List bE:=l.foldl (fun out f=>if f.2.1.size=0 then out else uJ out f) []
def Aq (out:List bE)(f:bE)(A aG:List bE):Prop:=uJ out f=(qP A.reverse f).reverse++aG
theorem Aq.start (out:List bE)(f:bE):Aq out f out []:=by unfold Aq uJ;simp
theorem Aq.next {out A aG:List bE}{g:bE}(h:Aq out f (A++ [g]) aG)(bS:f.1<g.1):Aq out f A (g::aG):=by
 unfold Aq at*;rw[h];simp[qP,bS]
theorem Aq.stop {out A aG:List bE}{g:bE}(h:Aq out f (A++ [g]) aG)(Fw:¬f.1<g.1):uJ out f=A++ [g]++f::aG:=by
 unfold Aq at h;rw[h];simp[qP,Fw]
def Yn (n but:Int)(g:bE):Bool:=g.1 !=n && g.1 !=but
def Ma (l:List bE)(f:bE)(but:Int):List bE:=Bp (l.filter (Yn f.1 but)++ [f])
theorem Ka.fr {l:List bE}(h:Ka w x l)(hF:Fr w w' X)(hx:∀b aQ,w.heap[b]?=M (C aQ 193 (0,0))->¬X b):Ka w' x l:=⟨h.1.fr hF hx,h.2⟩
theorem qI.fr {r:Bo}{m:bR}(h:qI w r m)(hF:Fr w w' X)(hx:∀b aQ,w.heap[b]?=M (C aQ 114 (0,0))->¬X b)(hy:∀b aQ,w.heap[b]?=M (C aQ 302 (0,0))->¬X b):qI w' r m:=
 ⟨h.1.fr hF hx,h.2.1.fr hF hx hy,h.2.2.1.fr hF hx hy,h.2.2.2⟩
def vC (one rest:Int)(f:bE):Int:=if (if f.1=1 then one else rest)<(f.2.1.size:Int)-f.2.2 then f.2.2+(if f.1=1 then one else rest)else (f.2.1.size:Int)
def jK (one rest:Int)(f:bE):bE:=(f.1,f.2.1.extract 0 (vC one rest f).toNat,vC one rest f)
def okF (f:bE):Prop:=0<=f.2.2/\f.2.2<=(f.2.1.size:Int)/\f.2.1.size<=2000000
def dF (s:Sc)(l:List bE):Bool×Sc×List bE:=
 if s.iH=false then (true,s,l)else if 0<s.after then (true,{ s with after:=s.after-1 },l)else (false,{ s with iH:=false,aX:=false },Bp (l.map (jK s.one s.rest)))
theorem map_take {l:List bE}{g:bE}(h:l[k]?=M g)(p:bE->bE):(l.take (k+1)).map p=(l.take k).map p++ [p g]:=by
 have bS:=(List.getElem?_eq_some_iff.1 h).1;rw[List.take_succ_eq_append_getElem bS,List.map_append,(List.getElem?_eq_some_iff.1 h).2];rfl
def kD (s:Sc):Sc×Int:=if s.aX then ({ s with aX:=false },0)else (s,3)
end Go.Proofs.YtfplgfodoiiobaaGreatDoor
