/- DrA, DrB, DrC, DrD (joined). -/
import Derived.Test.YtfplgfodoiiobaaGreatDoorJ13
open Option renaming none→O,some→M
open Go.Value renaming int→I,slice→Z,pointer→U
open Go.IntKind renaming i64→V
open Go.Obj renaming cells→C
open Go.Ending renaming returned→G
open Go renaming World→F,Value→Y,Calls→H
open Go.Proofs.Tryz renaming prog→K
namespace Go.Proofs.YtfplgfodoiiobaaGreatDoor
set_option maxHeartbeats 4000000
set_option maxRecDepth 100000
open Go.RowKit
variable {w w':F}{depth dp tb:Nat}{x y:gN}{l:List (Int×Int)}{m:bT}{p pos n:Int}{ao:Option Addr}
def DJ (w:F)(ao:Option Addr)(l:List iB):Prop:=
 (l=[]\/∃b off,ao=M ⟨b,off,O⟩/\∀j u,(CU l)[j]?=M u->w.cell? ⟨b,off+j,O⟩=M u)/\∀a,ao=M a->∃aT,w.heap[a.block]?=M (C aT 261 (0,0))
def rY (w:F)(B:Nat)(v:Y)(l:List iB):Prop:=w.ownsRow B 261 3 v l.length (CU l)
theorem DJ.fr {X:Nat->Prop}{l:List iB}(h:DJ w ao l)(hF:Fr w w' X)(hx:∀b aT,w.heap[b]?=M (C aT 261 (0,0))->¬X b):DJ w' ao l:=by
 obtain⟨h1,h2⟩:=h;refine⟨?_,fun a e=>?_⟩
 ·rcases h1 with h1|⟨b,off,e,hc⟩
  ·exact Or.inl h1
  ·refine Or.inr ⟨b,off,e,fun j u hu=>?_⟩;obtain⟨aT,hb⟩:=h2 _ e;have pR:w'.heap[b]?=w.heap[b]?:=hF.2 b (aK hb) (hx _ _ hb);exact(World.cell?_of_block (a:=⟨b,off+j,O⟩) pR).trans (hc j u hu)
 ·obtain⟨aT,hb⟩:=h2 a e;exact⟨aT,hF.at hb (hx _ _ hb)⟩
theorem DJ.aM {l:List iB}(h:DJ w ao l)(hg:aJ w w'):DJ w' ao l:=h.fr (Fr.dO hg (fun _=>False)) (fun _ _ _=>id)
theorem DJ.nil (w:F):DJ w O []:=⟨Or.inl rfl,fun _ e=>by cases e⟩
theorem DJ.take {l:List iB}(h:DJ w ao l)(k:Nat):DJ w ao (l.take k):=by
 obtain⟨h1,h2⟩:=h;refine⟨?_,h2⟩;rcases h1 with rfl|⟨b,off,e,hc⟩
 ·left;simp
 ·refine Or.inr ⟨b,off,e,fun j u hu=>hc j u ?_⟩;have e2:CU l=CU (l.take k)++CU (l.drop k):=by rw[<-Ow,List.take_append_drop]
  have bV:=(List.getElem?_eq_some_iff.1 hu).1;rw[e2,List.getElem?_append_left bV];exact hu
theorem rY.form {B:Nat}{v:Y}{l:List iB}(h:rY w B v l):∃ao cap,v=Z ao l.length cap/\DJ w ao l/\(ao=O->l.length=0/\cap=0)/\l.length<=cap:=by
 have h':=h;obtain⟨-,h2⟩:=h;rcases h2 with⟨rfl,h3⟩|⟨g,cap,aT,rfl,hg,hh,gX,-⟩
 ·exact⟨O,0,by rw[h3],⟨Or.inl (List.eq_nil_of_length_eq_zero h3),(fun _ e=>by cases e)⟩,fun _=>⟨h3,rfl⟩,by omega⟩
 ·refine⟨M ⟨g,0,O⟩,cap,rfl,⟨Or.inr ⟨g,0,rfl,fun j u hu=>?_⟩,(fun a e=>by cases e;exact⟨aT,hh⟩)⟩,(fun e=>by cases e),gX⟩;have:=World.ownsRow.cells h' rfl j u hu;cases j with
  |zero=>simpa[Addr.add]using this
  |succ j=>simpa[Addr.add]using this
theorem Tryz.infoEdD:(Tryz.prog.info? 261).map (fun i=>(i.zero,i.size,i.bytes))=M (M (.agg #[I V 0,Z O 0 0,Z O 0 0]),3,56):=by kernel_rfl
theorem vQ {ops:Array Oper}{rest:List Oper}{o:Oper}{a:Act}{Q:Exit->Act->F->Prop}(Bq:o.guard=O)(s x:Operand)
 (ho:o.op= .call { callee:= .builtin .append,args:=#[s,x],argTypes:=#[103,103] })
 (base:Nat)(v:Y)(ys zs:List iB)(hs:a.eval s=v)(cZ:rY w base v ys)(ao:Option Addr)(m c:Nat)(hx:a.eval x=Z ao m c)(hm:m=zs.length)(gJ:ao=O->zs.length=0/\c=0)(hr:DJ w ao zs)
 (hlen:ys.length+zs.length<=1000000000)(kW:base<=w.heap.size)
 (h:∀v' w',rY w' base v' (ys++zs)->w.grownBy w' v.ownBlock->wpList K ops Q rest (a.put o.dst v') w'):wpList K ops Q (o::rest) a w:=by
 obtain⟨i0,hi,tO,tQ,uW⟩:=info_parts Tryz.infoEdD;subst hm;cases ao with
 |none=>
  obtain⟨h1,rfl⟩:=gJ rfl;have hz:zs=[]:=List.eq_nil_of_length_eq_zero h1;subst hz;exact wpList_append_own_none Bq s x 103 ho base 261 i0 3 Tryz.underlying103 hi v _ _ hs cZ hx (h v w (by simpa using cZ) (World.grownBy.refl _ _))
 |some ad=>
  refine wpList_append_own w Bq s x 103 ho base 261 i0 (.agg #[I V 0,Z O 0 0,Z O 0 0]) 3 56 Tryz.underlying103 hi tO tQ uW rfl (by decide) v ys.length (CU ys) hs cZ ad zs.length c (CU zs) hx (NR zs) ?_ ?_ (by unfold maxLen;omega) (by omega) kW ?_
  ·rcases hr.1 with rfl|⟨b,off,e,hc⟩
   ·intro j u hj;simp[CU]at hj
   ·cases e
    intro j u hj;have:=hc j u hj;cases j with
    |zero=>simpa[Addr.add]using this
    |succ j=>simpa[Addr.add]using this
  ·intro u hu;obtain⟨p,-,hp⟩:=List.mem_flatMap.1 hu;simp[iB.cells]at hp;rcases hp with rfl|rfl|rfl<;>rfl
  ·intro v' w' h1 h2 _;refine h v' w' ?_ h2;unfold rY;rw[Ow,List.length_append];exact h1
theorem GH (w:F){B:Nat}(hB:B<=w.heap.size)(e:iB):rY (w.alloc (C #[I V e.1,e.2.1.v,e.2.2.v] 261)) B (Z (M ⟨w.heap.size,0,O⟩) 1 1) [e]:=by
 have:=World.ownsRow_lit (base:=B) (e:=261) (size:=3) w #[I V e.1,e.2.1.v,e.2.2.v] 1 hB (by unfold maxLen;omega) rfl;exact this
def dG (w:F)(x:gN)(l:List Ed):Prop:=∃raw:List iB,DJ w x.1 raw/\x.2.1=raw.length/\(jf x.1 x.2.1 x.2.2/\x.2.1<=x.2.2)/\raw.length=l.length/\∀(i:Nat) (r:iB) (e:Ed),raw[i]?=M r->l[i]?=M e->uX w r e
theorem dG.aM {l:List Ed}(h:dG w x l)(hg:aJ w w'):dG w' x l:=by
 obtain⟨raw,h1,h2,h3,h4,h5⟩:=h;exact⟨raw,h1.aM hg,h2,h3,h4,fun i r e a b=>(h5 i r e a b).aM hg⟩
theorem dG.nil (w:F):dG w (O,0,0) []:=⟨[],DJ.nil w,rfl,⟨fun _=>⟨rfl,rfl⟩,Nat.le_refl _⟩,rfl,fun i r e a _=>by simp at a⟩
theorem dG.fr {X:Nat->Prop}{l:List Ed}(h:dG w x l)(hF:Fr w w' X)(hx:∀b aT,w.heap[b]?=M (C aT 114 (0,0))->¬X b)(hy:∀b aT,w.heap[b]?=M (C aT 261 (0,0))->¬X b):dG w' x l:=by
 obtain⟨raw,h1,h2,h3,h4,h5⟩:=h;exact⟨raw,h1.fr hF hy,h2,h3,h4,fun i r e a b=>⟨(h5 i r e a b).1,(h5 i r e a b).2.1.fr hF hx,(h5 i r e a b).2.2.fr hF hx⟩⟩
theorem dG.take {n cap:Nat}{l:List Ed}(h:dG w (ao,n,cap) l)(k:Nat)(hk:k<=n):dG w (ao,k,cap) (l.take k):=by
 obtain⟨raw,h1,h2,h3,h4,h5⟩:=h;simp only at h1 h2 h3;have hl:(raw.take k).length=k:=by rw[List.length_take];omega
 refine⟨raw.take k,h1.take k,hl.symm,⟨fun e=>?_,by simp only;omega⟩,by simp[h4],fun i r e a b=>?_⟩
 ·have:=h3.1 e;simp only;omega
 ·rw[List.getElem?_take]at a b;split at a
  ·rename_i hi;rw[if_pos hi]at b;exact h5 i r e a b
  ·cases a
theorem Wu {l:List Ed}(h:dG w x l)(hl:l.length<=1000000)(hd:depth<=1000000):
 H K 179 #[x.v,I V (depth:Int)] w fun e w'=> ∃y:gN,e=G y.v/\dG w y (l.take depth)/\w'=w:=by
 obtain⟨ao,n,cap⟩:=x;have hn:n=l.length:=by obtain⟨raw,-,h2,-,h4,-⟩:=h;simp only at h2;omega
 have hc:n<=cap:=by obtain⟨raw,-,-,h3,-⟩:=h;exact h3.2
 have HT:Hid (dG w (ao,min n depth,cap) (l.take depth)):=by
  show dG _ _ _;have:=h.take (min n depth) (Nat.min_le_left _ _);have e:l.take (min n depth)=l.take depth:=by rw[hn,<-List.take_take,List.take_of_length_le (by rw[List.length_take];omega)]
  rw[e]at this;exact this
 subst hn;have hm:(min (l.length:Int) (depth:Int)).toNat=min l.length depth:=by omega
 have HM:Hid ((min (l.length:Int) (depth:Int)).toNat=min l.length depth):=hm;simp only[gN.v];have j1:(0:Int)<=min (l.length:Int) (depth:Int):=by omega
 have j2:min (l.length:Int) (depth:Int)<=(cap:Int):=by omega
 clear h hm;go_enter Tryz.func179,Tryz.ntmps179
 go_wp2_with fail
 go_ret;refine⟨(ao,min l.length depth,cap),?_,HT.out,rfl⟩;rw[<-HM.out];rfl
theorem Dj {r:iB}{e:Ed}{l:List Ed}(he:uX w r e)(h:dG w x l)(hl:l.length<=100000)(hd:depth<=1000000):
 H K 245 #[.agg #[I V r.1,r.2.1.v,r.2.2.v],x.v,I V (depth:Int)] w fun q w'=> ∃y:gN,q=G y.v/\dG w' y ((e::l).take depth)/\aJ w w':=by
 obtain⟨raw,h1,h2,h3,h4,h5⟩:=h;obtain⟨xo,xn,xc⟩:=x;simp only at h1 h2 h3;subst h2;have fP:=bD (aU w (C #[I V r.1,r.2.1.v,r.2.2.v] 261)) (aU (w.alloc (C #[I V r.1,r.2.1.v,r.2.2.v] 261)) (C #[I V r.1,r.2.1.v,r.2.2.v] 261));have cZ:=GH (B:=w.heap.size) (w.alloc (C #[I V r.1,r.2.1.v,r.2.2.v] 261)) (by simp) r;rw[World.size_alloc]at cZ
 have HE:Hid (∀(w5:F) (a5:Option Addr) (c5:Nat),aJ w w5->DJ w5 a5 ([r]++raw)->jf a5 (([r]++raw).length) c5->([r]++raw).length<=c5->dG w5 (a5,([r]++raw).length,c5) (e::l)):=fun w5 a5 c5 hG hr hn hc=>by
  refine⟨[r]++raw,hr,rfl,⟨hn,hc⟩,by simp[h4],fun i r' e' a b=>?_⟩;cases i with
  |zero=>simp at a b;subst a b;exact he.aM hG
  |succ i=>simp at a b;exact(h5 i r' e' a b).aM hG
 clear h5 he;obtain⟨r1,⟨x1,x2,x3⟩,⟨y1,y2,y3⟩⟩:=r;simp only[gN.v]at*;go_enter Tryz.func245,Tryz.ntmps245
 go_wp2_with (at_builtin;go_must (refine vQ (by rfl) (.tmp 8) (.tmp 9) (by rfl) w.heap.size _ [(r1,(x1,x2,x3),(y1,y2,y3))] raw (by rfl) (by exact cZ) _ _ _ (by rfl) (by rfl) (by exact h3.1) (by exact h1.aM fP) (by simp;omega) (by simp;omega) ?_);intro v5 w5 jU dK)
 have B5:aJ w w5:=fP.grown dK (by simp;omega) (fun k e=>by cases e;simp);obtain⟨a5,c5,rfl,OW,hn5,hc5⟩:=jU.form;have hE5:=HE.out w5 a5 c5 B5 OW hn5 hc5;have hF:=Wu (depth:=depth) hE5 (by simp;omega) hd;simp only[gN.v]at hF;refine hF.mono ?_;rintro q w6 ⟨⟨b6,n6,c6⟩,rfl,hE6,rfl⟩
 go_wp2_with fail
 go_ret;exact⟨(b6,n6,c6),rfl,hE6,B5⟩
theorem lN (h:eF l)(k:Nat):0<=sz (l.take k)/\sz (l.take k)<=5000*(k:Int):=by
 have h1:eF (l.take k):=fun p hp=>h p (List.mem_of_mem_take hp)
 have h2:=qL h1;have h3:(l.take k).length<=k:=by rw[List.length_take];omega
 omega
theorem xP {k:Nat}{p:Int×Int}(h:l[k]?=M p):sz (l.take (k+1))=sz (l.take k)+p.2:=by
 obtain⟨bV,he⟩:=List.getElem?_eq_some_iff.1 h;rw[List.take_succ_eq_append_getElem bV,nX,he];simp[sz]
theorem sW (h:bI w x l)(kR:eF l)(hl:l.length<=1000000):
 H K 187 #[x.v] w fun e w'=>e=G (I V (sz l))/\aJ w w':=by
 obtain⟨ao,n,cap⟩:=x;obtain⟨h1,h2,h3⟩:=h;simp only at h1 h2 h3;subst h2;simp only[gN.v];have HR:Hid (Tj w ao l):=h1.1;clear h1;go_enter Tryz.func187,Tryz.ntmps187
 go_wp2_with fail
 go_loopw [3,5,8] (fun c _ i wr=> ∃k:Nat,k<=l.length/\c=I V (sz (l.take k))/\i=I V (k:Int)/\Hid (aJ w wr)) (fun _ _ i _=>l.length-(intOf i).toNat)
 case atStart=>exact⟨0,Nat.zero_le _,rfl,rfl,aJ.refl w⟩
 case round=>
  obtain⟨k,hk,rfl,rfl,HG⟩:=hrel;have hb:=lN kR k;by_cases bV:k<l.length
  ·obtain⟨p,hp⟩:∃p,l[k]?=M p:=⟨_,List.getElem?_eq_getElem bV⟩;have HN:Hid (sz (l.take (k+1))=sz (l.take k)+p.2):=xP hp;have hpo:=kR p (List.mem_of_getElem? hp);unfold kQ at hpo;rcases HR.out with hx|⟨b,off,rfl,hc⟩
   ·rw[hx]at bV;simp at bV
   ·obtain⟨d1,d2⟩:=hc k bV;have Lc:l.getD k (0,0)=p:=by simp[List.getD_eq_getElem?_getD,hp]
    have d1':wr.cell? ⟨b,off+k*2,O⟩=M (I V p.1):=HG.out.cell (by first|simpa[Lc]using d1|(rw[Lc]at d1;exact d1));have d2':wr.cell? ⟨b,off+k*2+1,O⟩=M (I V p.2):=HG.out.cell (by first|simpa[Lc]using d2|(rw[Lc]at d2;exact d2));have i1:(0:Int)<=(k:Int):=by omega
    have i2:(k:Int)<(l.length:Int):=by omega
    generalize sz (l.take k)=z at hb HN;clear hp hc d1 d2 Lc
    go_wp2_with fail
    go_roundw
    case rel=>exact⟨k+1,by omega,by rw[HN.out],by go_num,(show aJ w _ from aJ.alloc HG.out _)⟩
    case measure=>simp[intOf];omega
  ·have e1:l.take k=l:=List.take_of_length_le (by omega);rw[e1]
   go_wp2_with fail
   go_ret;exact⟨rfl,HG.out⟩
theorem Jk:H K 235 #[.agg #[I V p,x.v,y.v]] w fun e w'=>e=G (.agg #[I V p,y.v,x.v])/\aJ w w':=by
 obtain⟨x1,x2,x3⟩:=x;obtain⟨y1,y2,y3⟩:=y;simp only[gN.v];go_enter Tryz.func235,Tryz.ntmps235
 go_wp2_with fail
 refine bodyPost_ret (v:= .agg #[I V p,Z y1 y2 y3,Z x1 x2 x3]) (by simp[results,Tryz.results235,go_sem]) rfl ?_;refine⟨rfl,?_⟩;refine⟨rfl,rfl,rfl,by simp;omega,fun k hk=>?_⟩
 repeat (rw[Below.heap_setCell _ _ _ _ (by simp only;omega)])
 rw[Below.heap_alloc _ _ _ (by simp;omega),Below.heap_alloc _ _ _ hk]
def nN (depth:Int) (tb:Nat) (cnt:Int) (u r:gN) (done buf:Int):Obj:=C #[I V depth,U (M ⟨tb,0,O⟩),I V cnt,u.v,r.v,I V done,I V buf] 147 (0,0)
def aQ (w:F)(dp tb:Nat)(depth:Nat)(m:bT):Prop:=∃u r:gN,w.heap[dp]?=M (nN (depth:Int) tb (m.1.length:Int) u r m.2.2.2.1 m.2.2.2.2)/\bZ w tb m.1/\dG w u m.2.1/\dG w r m.2.2.1
theorem bL {depth cnt done buf:Int}{u r:gN}(h:w.heap[dp]?=M (nN depth tb cnt u r done buf)):
 w.cell? ⟨dp,0,O⟩=M (I V depth)/\w.cell? ⟨dp,1,O⟩=M (U (M ⟨tb,0,O⟩))/\w.cell? ⟨dp,2,O⟩=M (I V cnt)/\w.cell? ⟨dp,3,O⟩=M u.v/\w.cell? ⟨dp,4,O⟩=M r.v/\w.cell? ⟨dp,5,O⟩=M (I V done)/\w.cell? ⟨dp,6,O⟩=M (I V buf)/\∀j,w.frozen? ⟨dp,j,O⟩=false:=by
 simp[World.cell?,World.frozen?,h,nN]
theorem aQ.aM (h:aQ w dp tb depth m)(hg:aJ w w'):aQ w' dp tb depth m:=by
 obtain⟨u,r,h1,h2,h3,h4⟩:=h;have hF:=Fr.dO hg (fun _=>False);exact⟨u,r,hF.at h1 id,h2.fr hF id (fun _ _ _ _ _ _ _=>id),h3.aM hg,h4.aM hg⟩
theorem Dl (h:aQ w dp tb depth m):H K 78 #[U (M ⟨dp,0,O⟩)] w fun e w'=>e=G (I V (sz m.1))/\w'=w:=by
 obtain⟨u,r,h1,h2,-⟩:=h;obtain⟨-,c1,-⟩:=bL h1;have hS:=kD h2;clear h1 h2;go_enter Tryz.func78,Tryz.ntmps78
 go_wp2_with fail
 refine hS.mono ?_;rintro e w ⟨rfl,rfl⟩
 go_wp2_with fail
 go_ret;exact⟨rfl,rfl⟩
theorem Gf (h:aQ w dp tb depth m):H K 50 #[U (M ⟨dp,0,O⟩)] w fun e w'=>e=G (I V m.2.2.2.1)/\w'=w:=by
 obtain⟨u,r,h1,-⟩:=h;obtain⟨-,-,-,-,-,c5,-⟩:=bL h1;clear h1;go_enter Tryz.func50,Tryz.ntmps50
 go_wp2_with fail
 go_ret;exact⟨rfl,rfl⟩
theorem xQ (h:aQ w dp tb depth m):H K 53 #[U (M ⟨dp,0,O⟩)] w fun e w'=>e=G (I V m.2.2.2.2)/\w'=w:=by
 obtain⟨u,r,h1,-⟩:=h;obtain⟨-,-,-,-,-,-,c6,-⟩:=bL h1;clear h1;go_enter Tryz.func53,Tryz.ntmps53
 go_wp2_with fail
 go_ret;exact⟨rfl,rfl⟩
def pE (l:List (Int×Int))(pos n:Int):Bool:=decide (0<=pos) && decide (pos<=sz l-n)
theorem Np (h:aQ w dp tb depth m)(h0:0<=n)(hn:n<=9223372036854775807)(hz:sz m.1<=100000000)(tO:0<=sz m.1):
 H K 118 #[U (M ⟨dp,0,O⟩),I V pos,I V n] w fun e w'=>e=G (.bool (pE m.1 pos n))/\w'=w:=by
 have hL:=Dl h;clear h;by_cases hp:0<=pos
 ·have HE:Hid (pE m.1 pos n=decide (pos<=sz m.1-n)):=by show _=_;unfold pE;rw[decide_eq_true hp];rfl
  generalize sz m.1=z at hL hz tO HE;go_enter Tryz.func118,Tryz.ntmps118
  go_wp2_with fail
  refine hL.mono ?_;rintro e w ⟨rfl,rfl⟩
  go_wp2_with fail
  go_ret;rw[HE.out];exact⟨rfl,rfl⟩
 ·have HE:Hid (pE m.1 pos n=false):=by show _=_;unfold pE;rw[decide_eq_false hp];rfl
  go_enter Tryz.func118,Tryz.ntmps118
  go_wp2_with fail
  go_ret;rw[HE.out];exact⟨rfl,rfl⟩
def gT (l:List (Int×Int))(pos:Int):Bool:=(mH l (pos-1)).2==0 && decide (1<(mH l (pos-1)).1.2)
theorem Jl (h:pos-1<0\/sz l<=pos-1):gT l pos=false:=by
 unfold gT mH;rw[if_pos h];rfl
theorem qA (h:¬(pos-1<0\/sz l<=pos-1)):gT l pos=decide (1<((bJ l (pos-1)).head?.getD (0,0)).2):=by
 unfold gT mH;rw[if_neg h];simp
theorem oN (h:eF l):0<=sz l:=by
 have:=qL h;omega
theorem Dm:∀ {l:List (Int×Int)} (_:eF l) {pos:Int} (_:0<=pos) (_:pos<=sz l),(cO l pos).length+(bJ l pos).length=l.length+(if gT l pos then 1 else 0):=by
 intro l
 induction l with
 |nil=>
  intro _ pos h0 h1;simp[sz]at h1;rw[Jl (by omega)];simp[cO,bJ]
 |cons p l ih=>
  intro h pos h0 h1;have hp:=dQ h;have ho:=bU h;have hn:=oN ho;unfold kQ at hp;rw[oG]at h1;by_cases hz:pos<=0
  ·rw[Jl (by omega),cO,bJ,if_pos hz,if_pos hz];simp
  ·rw[cO,bJ,if_neg hz,if_neg hz];by_cases h2:p.2<=pos
   ·rw[if_pos h2,if_pos h2];have hi:=ih ho (pos:=pos-p.2) (by omega) (by omega)
    have hw:gT (p::l) pos=gT l (pos-p.2):=by
     by_cases h3:pos=p.2
     ·rw[Jl (l:=l) (by omega),qA (by rw[oG];omega),bJ];by_cases h4:pos-1<=0
      ·rw[if_pos h4];show decide (1<p.2)=false;exact decide_eq_false (by omega)
      ·rw[if_neg h4,if_neg (by omega)];show decide (1<p.2-(pos-1))=false;exact decide_eq_false (by omega)
     ·rw[qA (by rw[oG];omega),qA (by omega),bJ,if_neg (by omega),if_pos (by omega)];rw[show pos-1-p.2=pos-p.2-1 from by omega]
    rw[hw];simp only[List.length_cons];omega
   ·rw[if_neg h2,if_neg h2]
    have hw:gT (p::l) pos=true:=by
     rw[qA (by rw[oG];omega),bJ];by_cases h4:pos-1<=0
     ·rw[if_pos h4];show decide (1<p.2)=true;exact decide_eq_true (by omega)
     ·rw[if_neg h4,if_neg (by omega)];show decide (1<p.2-(pos-1))=true;exact decide_eq_true (by omega)
    rw[hw];simp;omega
def Px (l:List (Int×Int))(p n:Int)(c:Nat):Int:=
 if n=0 then (l.length:Int)+(c:Int)+(if decide (0<c) && gT l p then 1 else 0)
 else (l.length:Int)+(c:Int)+(if gT l p then 1 else 0)+(if gT l (p+n)then 1 else 0)-((vC l p n).length:Int)
theorem GI (h:eF l)(hp:0<=p)(hn:0<n)(hs:p+n<=sz l):gT (bJ l p) n=gT l (p+n):=by
 have gQ:=kC h hp (by omega);rw[qA (by rw[gQ];omega),qA (by omega),zB h hp (by omega)];rw[show p+(n-1)=p+n-1 from by omega]
theorem ql (h:eF l){came:List (Int×Int)}(hp:0<=p)(hn:0<=n)(hs:p+n<=sz l):Px l p n came.length=((cB (bY l p n).1 p came).length:Int):=by
 have h1:=Dm h hp (by omega);unfold Px bY;by_cases h0:n=0
 ·rw[if_pos h0,if_pos h0];unfold cB;by_cases hc:came=[]
  ·rw[if_pos hc,hc];simp
  ·rw[if_neg hc]
   have hl:0<came.length:=by
    cases came with
    |nil=>exact absurd rfl hc
    |cons a b=>simp
   rw[decide_eq_true hl,Bool.true_and];simp only[List.length_append];split<;>split at h1<;>simp_all<;>omega
 ·rw[if_neg h0,if_neg h0];have ht:=iI h p;have gQ:=kC h hp (by omega);have h2:=Dm ht (pos:=n) hn (by omega);rw[GI h hp (by omega) hs]at h2
  have hlen:(cB (Il l p n) p came).length=(cO l p).length+came.length+(bJ (bJ l p) n).length:=by
   unfold cB Il;by_cases hc:came=[]
   ·rw[if_pos hc,hc];simp
   ·rw[if_neg hc];have hh:=sP h p;have hhs:=vY h hp (by omega);rw[oH _ hh,if_pos (by omega),oI _ hh,if_pos (by omega),Ii hh (by omega),Aj hh (by omega)];simp;omega
  rw[hlen];unfold vC;split at h1<;>split at h2<;>simp_all<;>omega
theorem OX (h:aQ w dp tb depth m)(h0: -1000000000<=pos)(h1:pos<=1000000000):
 H K 254 #[U (M ⟨dp,0,O⟩),I V pos] w fun e w'=>e=G (.bool (gT m.1 pos))/\aJ w w':=by
 obtain⟨u,r,hb,ht,-⟩:=h;obtain⟨-,c1,-⟩:=bL hb;have hF:=Ox ht (pos:=pos-1);have HE:Hid (gT m.1 pos=((mH m.1 (pos-1)).2==0 && decide (1<(mH m.1 (pos-1)).1.2))):=rfl;clear hb ht;generalize mH m.1 (pos-1)=q at hF HE;obtain⟨⟨q1,q2⟩,q3⟩:=q;simp only at hF HE;by_cases h3:q3=0
 ·subst h3;go_enter Tryz.func254,Tryz.ntmps254
  go_wp2_with fail
  refine hF.mono ?_;rintro e w1 ⟨rfl,hg⟩
  go_wp2_with fail
  go_ret;rw[HE.out];refine⟨by simp,?_⟩;exact aJ.alloc hg _
 ·have h3':(q3==0)=false:=beq_eq_false_iff_ne.2 h3;go_enter Tryz.func254,Tryz.ntmps254
  go_wp2_with fail
  refine hF.mono ?_;rintro e w1 ⟨rfl,hg⟩
  go_wp2_with fail
  go_ret;rw[HE.out,h3'];refine⟨rfl,?_⟩;exact aJ.alloc hg _
theorem tail_drop:∀ {l:List (Int×Int)} (_:eF l) (k:Nat),k<=l.length->bJ l (sz (l.take k))=l.drop k:=by
 intro l
 induction l with
 |nil=>intro _ k _;simp[bJ]
 |cons p l ih=>
  intro h k hk;have hp:=dQ h;unfold kQ at hp;cases k with
  |zero=>simp[sz,bJ]
  |succ k=>
   have hb:=lN (bU h) k;rw[List.take_succ_cons,oG,bJ,if_neg (by omega),if_pos (by omega)];rw[show p.2+sz (l.take k)-p.2=sz (l.take k) from by omega];exact ih (bU h) k (by simpa using hk)
theorem qo:∀ {l:List (Int×Int)} (_:eF l) (k:Nat) (n:Int),k<=l.length->(∀j,j<k->sz (l.take j)<n)->n<=sz (l.take k)->(cO l n).length=k:=by
 intro l
 induction l with
 |nil=>intro _ k n hk _ _;simp at hk;subst hk;simp[cO]
 |cons p l ih=>
  intro h k n hk h1 h2;have hp:=dQ h;unfold kQ at hp;cases k with
  |zero=>
   have:n<=0:=by simpa[sz]using h2
   rw[lU _ this];rfl
  |succ k=>
   have h0:=h1 0 (by omega);simp[sz]at h0;rw[List.take_succ_cons,oG]at h2;rw[cO,if_neg (by omega)];by_cases h3:p.2<=n
   ·rw[if_pos h3]
    have:=ih (bU h) k (n-p.2) (by simpa using hk) (fun j hj=>by
     have:=h1 (j+1) (by omega);rw[List.take_succ_cons,oG]at this;omega) (by omega)
    simp[this]
   ·rw[if_neg h3];cases k with
    |zero=>rfl
    |succ k=>
     have:=h1 1 (by omega);rw[List.take_succ_cons,oG]at this;simp[sz]at this;omega
theorem aJ.then {a b c:F}(h1:aJ a b)(h2:aJ b c):aJ a c:=bD h1 h2
theorem keepD {w0:F}{a1 a2 a3 a4:Addr}{v1 v2 v3 v4:Y}(h1:w0.cell? a1=M v1)(h2:w0.cell? a2=M v2)(h3:w0.cell? a3=M v3)(h4:w0.cell? a4=M v4)(h:aJ w0 w):w.cell? a1=M v1/\w.cell? a2=M v2/\w.cell? a3=M v3/\w.cell? a4=M v4/\aJ w0 w:=⟨h.cell h1,h.cell h2,h.cell h3,h.cell h4,h⟩
theorem Wv {g c:List (Int×Int)}(h:aQ w dp tb depth m)(hx:bI w x g)(hy:bI w y c)(hg:eF g)(OY:g.length<=10000)(SS:c.length<=10000)(hp:0<=p)(hs:p+sz g<=sz m.1)(hz:sz m.1<=100000000):
 H K 233 #[U (M ⟨dp,0,O⟩),.agg #[I V p,x.v,y.v]] w fun e w'=>e=G (I V (Px m.1 p (sz g) c.length))/\aJ w w':=by
 have hgn:=oN hg;have HB:Hid (∀W,aJ w W->H K 187 #[x.v] W fun e w'=>e=G (I V (sz g))/\aJ W w'):=fun W hW=>sW (hx.aM hW) hg (by omega)
 have HW:Hid (∀W,aJ w W->∀q,-1000000000<=q->q<=1000000000->H K 254 #[U (M ⟨dp,0,O⟩),I V q] W fun e w'=>e=G (.bool (gT m.1 q))/\aJ W w'):=fun W hW q h1 h2=>OX (h.aM hW) h1 h2
 obtain⟨u,r,hb,ht,-⟩:=h;have hm:m.1.length<=4096:=ht.ok.2;have kR:eF m.1:=ht.ok.1;have HF:Hid (∀W,aJ w W->∀q,H K 104 #[U (M ⟨tb,0,O⟩),I V q] W fun e w'=>e=G (.tuple #[.agg #[I V (mH m.1 q).1.1,I V (mH m.1 q).1.2],I V (mH m.1 q).2])/\aJ W w'):=fun W hW q=>Ox (ht.below hW)
 obtain⟨-,c1,c2,-⟩:=bL hb;have hyl:y.2.1=c.length:=hy.2.1;obtain⟨x1,x2,x3⟩:=x;obtain⟨y1,y2,y3⟩:=y;simp only at hyl;subst hyl;simp only[gN.v]at*;obtain⟨w0,GD⟩:∃w0,w0=w.alloc (C #[I V p,Z x1 x2 x3,Z y1 c.length y3] 261):=⟨_,rfl⟩;have Ml:aJ w w0:=by rw[GD];exact aJ.alloc (aJ.refl w) _
 have kT:w0.heap[w.heap.size]?=M (C #[I V p,Z x1 x2 x3,Z y1 c.length y3] 261 (0,0)):=by rw[GD];exact heap_alloc_new w _
 have b0:w0.cell? ⟨w.heap.size,0,O⟩=M (I V p):=by simp[World.cell?,kT]
 have b1:w0.cell? ⟨w.heap.size,1,O⟩=M (Z x1 x2 x3):=by simp[World.cell?,kT]
 have b2:w0.cell? ⟨w.heap.size,2,O⟩=M (Z y1 c.length y3):=by simp[World.cell?,kT]
 have d1:=Ml.cell c1;have d2:=Ml.cell c2;have qc:Hid (aJ w w0):=Ml;clear hx hy hb c1 c2 ht kT Ml;go_enter Tryz.func233,Tryz.ntmps233
 go_upto_region 1 with fail
 rw[<-GD];clear GD
 go_cut [5,6] (fun f t wc=>f=I V p/\t=I V (p+sz g)/\Hid (aJ w0 wc))
 case first=>
  have G0:=aJ.refl w0;have hwp:IntKind.i64.wrap (p+sz g)=p+sz g:=by rw[IntKind.wrap_i64];omega
  go_region_held3 (fun w'=>w'.cell? ⟨w.heap.size,0,O⟩=M (I V p)/\w'.cell? ⟨w.heap.size,1,O⟩=M (Z x1 x2 x3)/\w'.cell? ⟨w.heap.size,2,O⟩=M (Z y1 c.length y3)/\w'.cell? ⟨dp,2,O⟩=M (I V (m.1.length:Int))/\aJ w0 w')
   (first|(refine keepD b0 b1 b2 d2 ?_;go_split_ands;with_reducible (first|assumption|exact G0|(refine aJ.drew ?_;assumption)|(refine aJ.then ?_ dK;assumption)|(refine aJ.then ?_ dK;refine aJ.drew ?_;assumption))))
   (first|(go_at_call 187;refine(HB.out _ (aJ.then qc.out (by go_split_ands;with_reducible (first|assumption|(refine aJ.drew ?_;assumption))))).mono ?_;rintro e w5 ⟨rfl,dK⟩))
  all_goals go_wp2_with fail
  all_goals go_meet
  all_goals exact⟨rfl,rfl,by show aJ w0 _;go_split_ands;assumption⟩
 case rest=>
  obtain⟨rfl,rfl,HGc⟩:=hcut
  rename F=>w2
  have e2:=HGc.out.cell b2;have e3:=HGc.out.cell d2;have e4:=HGc.out.cell d1;have Jj:Hid (aJ w w2):=qc.out.then HGc.out;clear b0 b1 b2 d1 d2;by_cases h0:sz g=0
  ·have hpp:p+sz g=p:=by omega
   rw[hpp];have XF:IntKind.i64.wrap ((m.1.length:Int)+(c.length:Int))=(m.1.length:Int)+(c.length:Int):=by rw[IntKind.wrap_i64];omega
   by_cases hc:0<c.length
   ·have hc':(0:Int)<(c.length:Int):=by omega
    have hW:=fun W hW=>HW.out W hW p (by omega) (by omega)
    cases hwi:gT m.1 p with
    |true=>
     have HE:Hid (Px m.1 p (sz g) c.length=(m.1.length:Int)+(c.length:Int)+1):=by show _=_;unfold Px;rw[if_pos h0,decide_eq_true hc,hwi];rfl
     rw[hwi]at hW;clear hwi
     go_wp2_with fail
     go_quiet (fail)
     go_wp2_with (go_at_call 254;refine(hW _ (bG Jj.out _)).mono ?_;rintro e w5 ⟨rfl,dK⟩)
     go_ret;rw[HE.out];exact⟨rfl,aJ.then (bG Jj.out _) dK⟩
    |false=>
     have HE:Hid (Px m.1 p (sz g) c.length=(m.1.length:Int)+(c.length:Int)):=by show _=_;unfold Px;rw[if_pos h0,decide_eq_true hc,hwi];simp
     rw[hwi]at hW;clear hwi
     go_wp2_with fail
     go_quiet (fail)
     go_wp2_with (go_at_call 254;refine(hW _ (bG Jj.out _)).mono ?_;rintro e w5 ⟨rfl,dK⟩)
     go_ret;rw[HE.out];exact⟨rfl,aJ.then (bG Jj.out _) dK⟩
   ·have Nq:c.length=0:=by omega
    have hc':¬(0:Int)<(c.length:Int):=by omega
    have HE:Hid (Px m.1 p (sz g) c.length=(m.1.length:Int)+(c.length:Int)):=by show _=_;unfold Px;rw[if_pos h0,decide_eq_false hc];simp
    clear Nq
    go_wp2_with fail
    go_quiet (fail)
    go_wp2_with fail
    go_ret;rw[HE.out];exact⟨rfl,bG Jj.out _⟩
  ·have hgp:0<sz g:=by omega
   have hne:(p==p+sz g)=false:=by rw[beq_eq_false_iff_ne];omega
   have XF:IntKind.i64.wrap ((m.1.length:Int)+(c.length:Int))=(m.1.length:Int)+(c.length:Int):=by rw[IntKind.wrap_i64];omega
   have HE:Hid (Px m.1 p (sz g) c.length=(m.1.length:Int)+(c.length:Int)+(if gT m.1 p then 1 else 0)+(if gT m.1 (p+sz g)then 1 else 0)-((vC m.1 p (sz g)).length:Int)):=by show _=_;unfold Px;rw[if_neg h0]
   have CY:=fun W hW=>HW.out W hW p (by omega) (by omega)
   have TH:=fun W hW=>HW.out W hW (p+sz g) (by omega) (by omega)
   generalize gT m.1 p=b1 at CY HE;generalize gT m.1 (p+sz g)=b2 at TH HE
   go_wp2_with fail
   go_quiet (fail)
   go_upto_region 7 with fail
   have ah:Hid (aJ w (w2.drewN nq)):=bG Jj.out _;obtain⟨w3,hw3'⟩:∃w3,w3=w2.drewN nq:=⟨_,rfl⟩;have e4':w3.cell? ⟨dp,1,O⟩=M (U (M ⟨tb,0,O⟩)):=by rw[hw3'];exact e4
   rw[<-hw3']at ah ⊢;clear hw3' e2 e3 e4 Jj HGc
   go_upto_if 44 with(go_at_call 254;refine(CY _ ah.out).mono ?_;rintro e w5 ⟨rfl,dK⟩)
   go_cut [7] (fun v wc=>v=I V ((m.1.length:Int)+(c.length:Int)+(if b1 then 1 else 0))/\wc=w5)
   case first=>
    cases b1 with
    |true=>
     go_wp2_with fail
     go_meet;exact⟨by simp,rfl⟩
    |false=>
     go_wp2_with fail
     go_meet;exact⟨by simp,rfl⟩
   case rest=>
    obtain⟨rfl,rfl⟩:=hcut
    rename F=>w4
    have XG:Hid (aJ w3 w4):=dK;clear dK;have bX:0<=(if b1=true then (1:Int)else 0)/\(if b1=true then (1:Int)else 0)<=1:=by split<;>omega
    generalize (if b1=true then (1:Int)else 0)=z1 at HE bX
    go_upto_if 49 with(go_at_call 254;refine(TH _ (ah.out.then XG.out)).mono ?_;rintro e w5 ⟨rfl,dK⟩)
    go_cut [7] (fun v wc=>v=I V ((m.1.length:Int)+(c.length:Int)+z1+(if b2 then 1 else 0))/\wc=w5)
    case first=>
     cases b2 with
     |true=>
      go_wp2_with fail
      go_meet;exact⟨by simp,rfl⟩
     |false=>
      go_wp2_with fail
      go_meet;exact⟨by simp,rfl⟩
    case rest=>
     obtain⟨rfl,rfl⟩:=hcut
     rename F=>w5
     have HG5:Hid (aJ w4 w5):=dK;clear dK;have fP:0<=(if b2=true then (1:Int)else 0)/\(if b2=true then (1:Int)else 0)<=1:=by split<;>omega
     generalize (if b2=true then (1:Int)else 0)=z2 at HE fP;have HG6:Hid (aJ w w5):=ah.out.then (XG.out.then HG5.out);have k1:=(XG.out.then HG5.out).cell e4';clear e4' ah XG HG5 CY TH HB HW;have hT:=iI kR p;have hTs:=kC kR hp (by omega)
     have HT:Hid (∀k:Nat,k<=(bJ m.1 p).length->bJ m.1 (p+sz ((bJ m.1 p).take k))=(bJ m.1 p).drop k):=fun k hk=>by
      rw[<-zB kR hp (lN hT k).1,tail_drop hT k hk]
     have HL:Hid (∀k:Nat,k<=(bJ m.1 p).length->(∀j,j<k->sz ((bJ m.1 p).take j)<sz g)->sz g<=sz ((bJ m.1 p).take k)->(vC m.1 p (sz g)).length=k):=fun k hk h1 h2=>qo hT k (sz g) hk h1 h2
     have hTl:(bJ m.1 p).length<=4097:=by have:=lV m.1 p;omega
     generalize bJ m.1 p=T at hT hTs HT HL hTl
     go_upto_region 12 with fail
     go_loopw [7,8,9,10] (fun cv pv _ _ wr=> ∃k:Nat,k<=T.length/\cv=I V ((m.1.length:Int)+(c.length:Int)+z1+z2-(k:Int))/\pv=I V (p+sz (T.take k))/\Hid (∀j,j<k->sz (T.take j)<sz g)/\Hid (aJ w5 wr)) (fun _ pv _ _ _=>(p+sz g-intOf pv).toNat)
     case atStart=>exact⟨0,Nat.zero_le _,by simp,by simp[sz],(fun j hj=>by omega),aJ.refl w5⟩
     case round=>
      obtain⟨k,hk,rfl,rfl,HJ,HG⟩:=hrel;have Tp:=lN hT k;by_cases bV:sz (T.take k)<sz g
      ·have hkl:k<T.length:=by
        by_cases hkl:k<T.length
        ·exact hkl
        ·rw[List.take_of_length_le (by omega)]at bV;omega
       obtain⟨q,hq⟩:∃q,T[k]?=M q:=⟨_,List.getElem?_eq_getElem hkl⟩;have hqo:=hT q (List.mem_of_getElem? hq);unfold kQ at hqo
       have Wl:mH m.1 (p+sz (T.take k))=(q,0):=by
        unfold mH;rw[if_neg (by omega),HT.out k hk,List.head?_drop,hq];rfl
       have eP:=HF.out wr (HG6.out.then HG.out) (p+sz (T.take k));rw[Wl]at eP;have HN:Hid (sz (T.take (k+1))=sz (T.take k)+q.2):=xP hq;have k2:=HG.out.cell k1;have fo:p+sz (T.take k)<p+sz g:=by omega
       obtain⟨q1,q2⟩:=q;simp only at eP hqo HN;clear Wl hq;have aj:Hid (sz (T.take k)<sz g):=bV;generalize sz (T.take k)=z at Tp bV fo HN eP
       go_wp2_with (go_at_call 104;refine eP.mono ?_;rintro e w7 ⟨rfl,jS⟩)
       go_roundw
       case rel=>exact⟨k+1,by omega,by go_num,by rw[HN.out];go_num,(fun j hj=>by
        by_cases hjk:j=k
        ·subst hjk;exact aj.out
        ·exact HJ.out j (by omega)),aJ.alloc (HG.out.then jS) _⟩
       case measure=>simp[intOf];omega
      ·have Lc:=HL.out k hk HJ.out (by omega);have fo:¬p+sz (T.take k)<p+sz g:=by omega
       rw[Lc]at HE
       go_wp2_with fail
       go_ret;rw[HE.out];exact⟨rfl,HG6.out.then HG.out⟩
theorem Py {g c:List (Int×Int)}(h:aQ w dp tb depth m)(hx:bI w x g)(hy:bI w y c)(hg:eF g)(OY:g.length<=10000)(SS:c.length<=10000)(hp:0<=p)(hs:p+sz g<=sz m.1)(hz:sz m.1<=100000000):
 H K 240 #[U (M ⟨dp,0,O⟩),.agg #[I V p,x.v,y.v]] w fun e w'=>e=G (.bool (decide ((cB (bY m.1 p (sz g)).1 p c).length<=4096)))/\aJ w w':=by
 have kR:eF m.1:=by obtain⟨_,_,_,ht,_⟩:=h;exact ht.ok.1
 have hC:=fun W (hW:aJ w W)=>Wv (h.aM hW) (hx.aM hW) (hy.aM hW) hg OY SS hp hs hz
 have e1:=ql (came:=c) kR hp (oN hg) hs;rw[e1]at hC;obtain⟨x1,x2,x3⟩:=x;obtain⟨y1,y2,y3⟩:=y;simp only[gN.v]at*
 have HD:Hid (decide ((cB (bY m.1 p (sz g)).1 p c).length<=4096)=decide (((cB (bY m.1 p (sz g)).1 p c).length:Int)<=4096)):=by
  show _=_;rw[decide_eq_decide];omega
 clear h hx hy e1;generalize (cB (bY m.1 p (sz g)).1 p c).length=n at hC HD;go_enter Tryz.func240,Tryz.ntmps240
 go_wp2_with fail
 refine(hC _ (aJ.alloc (aJ.refl w) _)).mono ?_;rintro e w1 ⟨rfl,kL⟩
 go_wp2_with fail
 go_ret;rw[HD.out];exact⟨rfl,(aJ.alloc (aJ.refl w) _).then kL⟩
end Go.Proofs.YtfplgfodoiiobaaGreatDoor
