/- a part of the proof. -/
import Derived.Test.YtfplgfodoiiobabGreatDoorJ29
import Derived.Test.YtfplgfodoiiobabGreatDoorJ30
import Derived.Test.YtfplgfodoiiobabGreatDoorJ31
import Derived.Test.YtfplgfodoiiobabGreatDoorJ33
open Option renaming none->O,some->M
open Go.Value renaming int->I,slice->Z,pointer->U
open Go.IntKind renaming i64->V
open Go.Obj renaming cells->C
open Go.Ending renaming returned->G
open Go renaming World->F,Value->Y,Calls->H
open Go.Proofs.Tryz renaming prog→K
open Go.Proofs.Tryz
namespace Go.Proofs.YtfplgfodoiiobabGreatDoor
set_option maxHeartbeats 16000000
set_option maxRecDepth 100000
open Go.RowKit
variable {s s':Sc}{w W w':F}{db lp qp qb fb cap N n sp dp tb B fl fc:Nat}{fv:Y}{rs:List FR}{ep a c b D q d k most depth:Int}{fs:List bD}{ps:Nat->Addr}{m:dI}{x:St}{text:ByteArray}{ad:Addr}{o:Option Nat}{r:gZ}{X:Nat->Prop}{fo:Option Addr}
theorem UH (h:aU w db s fv rs)(hL:w.heap[lp]?=M (jW db ep))(hG:Gl w ps)(hO:qB 998 s (plain rs))(zD:0<=ep)(Jg:ep<=1000)(Ur: -9223372036854775808<=d)(Rb:d<=9223372036854775807)(hq:0<=q)(yM:q<256)(hd:dF d)(ha:dF a)(hb:dF b)(hc:dF c):
 H K 93 #[U (M ⟨lp,0,O⟩),I V d,iN q a b c,.string ⟨#[]⟩] w λe w'=> ∃v,e=G v/\oQ w w' ps db fv rs 2 v (bY s (plain rs) (10+ep) (fV q d a b c)):=by
 have HR:Hid (∀W,H K 138 #[I V d,.agg #[I .u8 q,I V a,I V b,I V c]] W λe w'=> ∃g cap,e=G (Z (M g) 22 cap)/\pX w' (M g) (fV q d a b c).data.toList/\(∃r f,w'.heap[g.block]?=M (C r 5 f))/\aL W w'):=λW=>by
  refine(Ph hq yM hd ha hb hc).mono ?_;rintro e w' ⟨v,rfl,bB,hg⟩;obtain⟨ao,cap,rfl,P,iW,hn,hx⟩:=bL.form bB;have X:(fV q d a b c).data.toList.length=22:=by have:=qR q d a b c;simpa using this
  cases ao with
  |none=>obtain⟨e,-⟩:=hn rfl;omega
  |some g=>
   obtain⟨L,A,r,Tp,hk⟩:=hx g rfl;rw[X];exact⟨_,_,rfl,P,⟨r,_,hk⟩,hg⟩
 obtain⟨i,J⟩:∃i,i=w.alloc (C #[I .u8 q,I V a,I V b,I V c] 128):=⟨_,rfl⟩;have D:aL w i:=by rw[J];exact(aL.refl w).alloc _
 have MU:Wl i lp w.heap.size db ep q a b c:=⟨(D.block _ (aM hL)).trans hL,by rw[J];exact Aag w _⟩;have HI:Hid (H K 136 #[I V d] i λe w'=> ∃s:ByteArray,e=G (.string s)/\s.size<=100/\aL i w'):=FJ (hG.aN D) Ur Rb;have E:Hid (aL w i):=D;have MV:Hid (Wl i lp w.heap.size db ep q a b c):=MU;unfold iN;clear hL MU D;go_enter func93,ntmps93;go_upto_region 1 with fail;rw[<-J];clear J;go_upto_region 6 with(go_at_call 136;refine HI.out.mono ?_;rintro e B ⟨k,rfl,a3,o⟩;have Ox:∀(p:ByteArray) (w:F),p.size<=100->(Op.stringOp .add p k).run K w= .ok (.string (p++k)) w:=λp w hp=>AaV w _ _ (by omega);have YJ:=λw=>Ox ⟨#[99,104,97,110,103,101,32]⟩ w (by decide);clear Ox);have z:=MV.out.aN o;have a2:Hid (Wl B lp w.heap.size db ep q a b c):=z;have wV:=(h.aN E.out).aN o;have Yr:=(hG.aN E.out).aN o;have u:=hO;have HJ:Hid (∀W,aL B W->H K 128 #[U (M ⟨lp,0,O⟩)] W λe w'=>e=G (I V (10+ep))/\w'=W):=λW t=>qQ (z.aN t).1 zD (by omega)
 have HA:Hid (∀W g cap,aL B W->pX W (M g) (fV q d a b c).data.toList->(∃r f,W.heap[g.block]?=M (C r 5 f))->H K 137 #[U (M ⟨db,0,O⟩),I V (10+ep),Z (M g) 22 cap] W λe w'=> ∃v,e=G v/\oQ w w' ps db fv rs 1 v (bY s (plain rs) (10+ep) (fV q d a b c))):=λW g cap t P ht=>by
  have X:=qR q d a b c;have:=xZ (n:=10+ep) (cap:=cap) (wV.aN t) (Yr.yQ.aN t) u.dJ u.Ef u.inv (by have:=u.len;rw[bP]at this;omega) (by omega) (by omega) P ht;rw[X]at this;refine this.mono ?_;rintro e w' ⟨v,rfl,R,dY,L,A,S,k4⟩;exact⟨v,rfl,R,dY,L,A,(Dk.bZ (E.out.then (o.then t))).trans S,k4.wG⟩
 have HT:Hid (∀W v (k:ByteArray),oQ w W ps db fv rs 1 v (bY s (plain rs) (10+ep) (fV q d a b c))->H K 87 #[.string k,v] W λe w'=> ∃y,e=G y/\oQ w w' ps db fv rs 2 y (bY s (plain rs) (10+ep) (fV q d a b c))):=λW v k hv=>by
  obtain⟨R,dY,L,A,S,k4⟩:=hv;refine(Je k4).mono ?_;rintro e w' ⟨y,rfl,m1,m2⟩;exact⟨y,rfl,R,dY,L.aN m2,A,S.Jf m2,m1⟩
 obtain⟨x0,x1,x2,x3,x4⟩:=z.cells;clear z wV Yr u h hG o HI MV E
 go_region_law (first
  |(refine dD (by rfl) 128 _ _ (by rfl) _ (by simp[Act.eval,Act.put];done) Pw ((HJ.out _ (by repeat (first|exact aL.refl _|exact j|refine aL.drew ?_))).mono ?_);rintro v w' ⟨rfl,rfl⟩;refine⟨_,rfl,?_⟩)|(refine dD (by rfl) 138 _ _ (by rfl) _ (by simp[Act.eval];done) MS ((HR.out _).mono ?_);rintro v wR ⟨g,cap,rfl,Q,N,x⟩;have j:aL B wR:=aL.then (by repeat (first|exact aL.refl _|refine aL.drew ?_)) x;obtain⟨z0,z1,z2,z3,z4⟩:=(Wl.aN a2.out j).cells;refine⟨_,rfl,?_⟩)|(refine dD (by rfl) 137 _ _ (by rfl) _ (by simp[Act.eval];done) Px ((HA.out _ g cap j Q N).mono ?_);rintro v wA ⟨vA,rfl,a1⟩;refine⟨_,rfl,?_⟩)|(refine dD (by rfl) 87 _ _ (by rfl) _ (by simp[Act.eval];done) e_at ((HT.out wA vA (⟨#[99,104,97,110,103,101,32]⟩++k) a1).mono ?_);rintro v wT ⟨vT,rfl,a0⟩;refine⟨_,rfl,?_⟩))
 all_goals go_wp2_with fail
 all_goals go_ret
 all_goals exact⟨_,rfl,a0⟩
theorem qh (h:aU w db s fv rs)(hL:w.heap[lp]?=M (jW db ep))(hG:Gl w ps)(hO:qB 998 s (plain rs))(_he0:0<=ep)(_he1:ep<=1000)(Ur: -9223372036854775808<=d)(Rb:d<=9223372036854775807)(hq:0<=q)(yM:q<256)(hd:dF d)(ha:dF a)(hb:dF b)(hc:dF c)(FK:text.size≠0)(pJ:text.size<=1000000)(hE:(bY s (plain rs) 1 text).1≠0):
 H K 93 #[U (M ⟨lp,0,O⟩),I V d,iN q a b c,.string text] w λe w'=> ∃v,e=G v/\oQ w w' ps db fv rs 2 v (bY s (plain rs) 1 text):=by
 have HR:Hid (∀W,H K 138 #[I V d,.agg #[I .u8 q,I V a,I V b,I V c]] W λe w'=> ∃B g,e=G (Z (M B) 22 g)/\pX w' (M B) (fV q d a b c).data.toList/\(∃X f,w'.heap[B.block]?=M (C X 5 f))/\aL W w'):=λW=>by
  refine(Ph hq yM hd ha hb hc).mono ?_;rintro e w' ⟨v,rfl,bB,hg⟩;obtain⟨ao,g,rfl,hr,iW,hn,hx⟩:=bL.form bB;have m_:(fV q d a b c).data.toList.length=22:=by have:=qR q d a b c;simpa using this
  cases ao with
  |none=>obtain⟨e,-⟩:=hn rfl;omega
  |some B=>
   obtain⟨D,A,X,Tp,hk⟩:=hx B rfl;rw[m_];exact⟨_,_,rfl,hr,⟨X,_,hk⟩,hg⟩
 obtain⟨i,P⟩:∃i,i=w.alloc (C #[I .u8 q,I V a,I V b,I V c] 128):=⟨_,rfl⟩;have N:aL w i:=by rw[P];exact(aL.refl w).alloc _
 have MU:Wl i lp w.heap.size db ep q a b c:=⟨(N.block _ (aM hL)).trans hL,by rw[P];exact Aag w _⟩;have HI:Hid (H K 136 #[I V d] i λe w'=> ∃s:ByteArray,e=G (.string s)/\s.size<=100/\aL i w'):=FJ (hG.aN N) Ur Rb;have u:Hid (aL w i):=N;have MV:Hid (Wl i lp w.heap.size db ep q a b c):=MU
 have a2:text.toList.isEmpty=false:=by
  rw[AcO];cases hz:text.data.toList with
  |nil=>exact absurd (show text.size=0 by have:=congrArg List.length hz;simpa using this) FK
  |cons x l=>rfl
 unfold iN;clear hL MU N;go_enter func93,ntmps93;go_upto_region 1 with fail;rw[<-P];clear P;go_upto_region 3 with(go_at_call 136;refine HI.out.mono ?_;rintro e w2 ⟨o,rfl,a1,j⟩;have Ox:∀(p:ByteArray) (w:F),p.size<=100->(Op.stringOp .add p o).run K w= .ok (.string (p++o)) w:=λp w hp=>AaV w _ _ (by omega);have YJ:=λw=>Ox ⟨#[99,104,97,110,103,101,32]⟩ w (by decide);clear Ox);have S:=MV.out.aN j;obtain⟨x0,x1,x2,x3,x4⟩:=S.cells;obtain⟨g,w3,a0,Gs,E,k⟩:=Wi w2 text
 have Q:Hid (H K 137 #[U (M ⟨db,0,O⟩),I V 1,Z (M ⟨w2.heap.size,0,O⟩) text.size g] w3 λe w'=> ∃v,e=G v/\oQ w w' ps db fv rs 1 v (bY s (plain rs) 1 text)/\Gl w' ps/\Wl w' lp w.heap.size db ep q a b c):=by
  refine(xZ (((h.aN u.out).aN j).aN k) (((hG.yQ.aN u.out).aN j).aN k) hO.dJ hO.Ef hO.inv (by have:=hO.len;rw[bP]at this;omega) FK (by omega) Gs E).mono ?_;rintro e w' ⟨v,rfl,J,L,D,A,n,z⟩;exact⟨v,rfl,⟨J,L,D,A,(Dk.bZ (u.out.then (j.then k))).trans n,z.wG⟩,(((hG.aN u.out).aN j).aN k).dk (((h.aN u.out).aN j).aN k) n,(S.aN k).dk (((h.aN u.out).aN j).aN k) n⟩
 clear S Gs E HI MV
 have HT:Hid (∀W v (o:ByteArray),oQ w W ps db fv rs 1 v (bY s (plain rs) 1 text)->H K 87 #[.string o,v] W λe w'=> ∃y,e=G y/\oQ w w' ps db fv rs 2 y (bY s (plain rs) 1 text)):=λW v o r=>by
  obtain⟨J,L,D,A,n,z⟩:=r;refine(Je z).mono ?_;rintro e w' ⟨y,rfl,m1,m2⟩;exact⟨y,rfl,J,L,D.aN m2,A,n.Jf m2,m1⟩
 have HE:Hid ((bY s (plain rs) 1 text).1≠0):=hE;clear h hG hO hE;go_upto_region 4 with(go_at_call 137;refine Q.out.mono ?_;rintro e w4 ⟨v,rfl,r,-,-⟩);obtain⟨t,bb,rfl⟩:∃t b,v= .iface t (U (M b)):=by obtain⟨J,L,D,A,n,z⟩:=r;exact z.yes HE.out
 have Tq:=HT.out w4 _ (⟨#[99,104,97,110,103,101,32]⟩++o) r;have HV:Hid (oQ w w4 ps db fv rs 1 (.iface t (U (M bb))) (bY s (plain rs) 1 text)):=r;clear r HT;go_wp2_with (go_at_call 87;refine Tq.mono ?_;rintro e w5 ⟨y,rfl,R⟩);go_ret;exact⟨_,rfl,R⟩
theorem qi (h:aU w db s fv rs)(hL:w.heap[lp]?=M (jW db ep))(hG:Gl w ps)(hO:qB 998 s (plain rs))(zD:0<=ep)(Jg:ep<=1000)(Ur: -9223372036854775808<=d)(Rb:d<=9223372036854775807)(hq:0<=q)(yM:q<256)(hd:dF d)(ha:dF a)(hb:dF b)(hc:dF c)(FK:text.size≠0)(pJ:text.size<=1000000)(hE:(bY s (plain rs) 1 text).1=0):
 H K 93 #[U (M ⟨lp,0,O⟩),I V d,iN q a b c,.string text] w λe w'=> ∃v,e=G v/\oQ w w' ps db fv rs 2 v (bY (bY s (plain rs) 1 text).2.1 (bY s (plain rs) 1 text).2.2 (10+ep) (fV q d a b c)):=by
 have L:qB 999 (bY s (plain rs) 1 text).2.1 (bY s (plain rs) 1 text).2.2:=hO.add (by omega) FK;have YC:Hid (∃D Wm,D=(bY s (plain rs) 1 text).2.1/\Wm=(bY s (plain rs) 1 text).2.2):=⟨_,_,rfl,rfl⟩;obtain⟨D,Wm,r,A⟩:=YC.out;rw[<-r,<-A]at L ⊢;have N:Hid (D=(bY s (plain rs) 1 text).2.1/\Wm=(bY s (plain rs) 1 text).2.2):=⟨r,A⟩;have HE:Hid _:=hE;clear r A YC hE
 have HR:Hid (∀W,H K 138 #[I V d,.agg #[I .u8 q,I V a,I V b,I V c]] W λe w'=> ∃g cap,e=G (Z (M g) 22 cap)/\pX w' (M g) (fV q d a b c).data.toList/\(∃Q f,w'.heap[g.block]?=M (C Q 5 f))/\aL W w'):=λW=>by
  refine(Ph hq yM hd ha hb hc).mono ?_;rintro e w' ⟨v,rfl,bB,hg⟩;obtain⟨ao,cap,rfl,hr,iW,hn,hx⟩:=bL.form bB;have m_:(fV q d a b c).data.toList.length=22:=by have:=qR q d a b c;simpa using this
  cases ao with
  |none=>obtain⟨e,-⟩:=hn rfl;omega
  |some g=>
   obtain⟨E,B,Q,Tp,hk⟩:=hx g rfl;rw[m_];exact⟨_,_,rfl,hr,⟨Q,_,hk⟩,hg⟩
 obtain⟨i,jJ⟩:∃i,i=w.alloc (C #[I .u8 q,I V a,I V b,I V c] 128):=⟨_,rfl⟩;have G1:aL w i:=by rw[jJ];exact(aL.refl w).alloc _
 have MU:Wl i lp w.heap.size db ep q a b c:=⟨(G1.block _ (aM hL)).trans hL,by rw[jJ];exact Aag w _⟩;have HI:Hid (H K 136 #[I V d] i λe w'=> ∃s:ByteArray,e=G (.string s)/\s.size<=100/\aL i w'):=FJ (hG.aN G1) Ur Rb;have t:Hid (aL w i):=G1;have MV:Hid (Wl i lp w.heap.size db ep q a b c):=MU
 have b1:text.toList.isEmpty=false:=by
  rw[AcO];cases hz:text.data.toList with
  |nil=>exact absurd (show text.size=0 by have:=congrArg List.length hz;simpa using this) FK
  |cons x l=>rfl
 unfold iN;clear hL MU G1;go_enter func93,ntmps93;go_upto_region 1 with fail;rw[<-jJ];clear jJ;go_upto_region 3 with(go_at_call 136;refine HI.out.mono ?_;rintro e w2 ⟨J,rfl,a9,j⟩;have Ox:∀(p:ByteArray) (w:F),p.size<=100->(Op.stringOp .add p J).run K w= .ok (.string (p++J)) w:=λp w hp=>AaV w _ _ (by omega);have YJ:=λw=>Ox ⟨#[99,104,97,110,103,101,32]⟩ w (by decide);clear Ox);have k:=MV.out.aN j;obtain⟨x0,x1,x2,x3,x4⟩:=k.cells;obtain⟨cap,w3,a5,Gs,a1,o⟩:=Wi w2 text
 have S:Hid (H K 137 #[U (M ⟨db,0,O⟩),I V 1,Z (M ⟨w2.heap.size,0,O⟩) text.size cap] w3 λe w'=> ∃v,e=G v/\oQ w w' ps db fv rs 1 v (bY s (plain rs) 1 text)/\Gl w' ps/\Wl w' lp w.heap.size db ep q a b c):=by
  refine(xZ (((h.aN t.out).aN j).aN o) (((hG.yQ.aN t.out).aN j).aN o) hO.dJ hO.Ef hO.inv (by have:=hO.len;rw[bP]at this;omega) FK (by omega) Gs a1).mono ?_;rintro e w' ⟨v,rfl,X,dY,E,B,y,k4⟩;exact⟨v,rfl,⟨X,dY,E,B,(Dk.bZ (t.out.then (j.then o))).trans y,k4.wG⟩,(((hG.aN t.out).aN j).aN o).dk (((h.aN t.out).aN j).aN o) y,(k.aN o).dk (((h.aN t.out).aN j).aN o) y⟩
 clear k Gs a1 HI MV;clear h hG hO;go_upto_region 4 with(go_at_call 137;refine S.out.mono ?_;rintro e w4 ⟨v,rfl,hv,Yr,k⟩);clear j o a5;obtain⟨b0,z,wV,P,mo,a2⟩:=hv;rw[HE.out]at a2;obtain rfl:=a2.no;rw[<-N.out.1]at wV;rw[<-N.out.2]at P;subst P;have a8:Hid (Wl w4 lp w.heap.size db ep q a b c):=k;have HJ:Hid (∀W,aL w4 W->H K 128 #[U (M ⟨lp,0,O⟩)] W λe w'=>e=G (I V (10+ep))/\w'=W):=λW R=>qQ (k.aN R).1 zD (by omega)
 have HA:Hid (∀W g cap,aL w4 W->pX W (M g) (fV q d a b c).data.toList->(∃Q f,W.heap[g.block]?=M (C Q 5 f))->H K 137 #[U (M ⟨db,0,O⟩),I V (10+ep),Z (M g) 22 cap] W λe w'=> ∃v,e=G v/\oQ w w' ps db fv rs 1 v (bY D (plain z) (10+ep) (fV q d a b c))):=λW g cap R hr ht=>by
  have m_:=qR q d a b c;have:=xZ (n:=10+ep) (cap:=cap) (wV.aN R) (Yr.yQ.aN R) L.dJ L.Ef L.inv (by have:=L.len;rw[bP]at this;omega) (by omega) (by omega) hr ht;rw[m_]at this;refine this.mono ?_;rintro e w' ⟨v,rfl,X,dY,E,B,y,k4⟩;exact⟨v,rfl,X,dY,E,B,mo.trans ((Dk.bZ R).trans y),k4.wG⟩
 have HT:Hid (∀W v (J:ByteArray),oQ w W ps db fv rs 1 v (bY D (plain z) (10+ep) (fV q d a b c))->H K 87 #[.string J,v] W λe w'=> ∃v',e=G v'/\oQ w w' ps db fv rs 2 v' (bY D (plain z) (10+ep) (fV q d a b c))):=λW v J hv=>by
  obtain⟨X,dY,E,B,y,k4⟩:=hv;refine(Je k4).mono ?_;rintro e w' ⟨v',rfl,m1,m2⟩;exact⟨v',rfl,X,dY,E.aN m2,B,y.Jf m2,m1⟩
 obtain⟨y0,y1,y2,y3,y4⟩:=k.cells;clear k wV Yr L t S x0 x1 x2 x3 x4 mo;go_upto_region 6 with fail
 go_region_law (first
  |(refine dD (by rfl) 128 _ _ (by rfl) _ (by simp[Act.eval,Act.put];done) Pw ((HJ.out _ (by repeat (first|exact aL.refl _|exact u|refine aL.drew ?_))).mono ?_);rintro v w' ⟨rfl,rfl⟩;refine⟨_,rfl,?_⟩)|(refine dD (by rfl) 138 _ _ (by rfl) _ (by simp[Act.eval];done) MS ((HR.out _).mono ?_);rintro v wR ⟨g,cap,rfl,a4,a3,a0⟩;have u:aL w4 wR:=aL.then (by repeat (first|exact aL.refl _|refine aL.drew ?_)) a0;obtain⟨z0,z1,z2,z3,z4⟩:=(Wl.aN a8.out u).cells;refine⟨_,rfl,?_⟩)|(refine dD (by rfl) 137 _ _ (by rfl) _ (by simp[Act.eval];done) Px ((HA.out _ g cap u a4 a3).mono ?_);rintro v wA ⟨vA,rfl,a7⟩;refine⟨_,rfl,?_⟩)|(refine dD (by rfl) 87 _ _ (by rfl) _ (by simp[Act.eval];done) e_at ((HT.out wA vA (⟨#[99,104,97,110,103,101,32]⟩++J) a7).mono ?_);rintro v wT ⟨vT,rfl,a6⟩;refine⟨_,rfl,?_⟩))
 all_goals go_wp2_with fail
 all_goals go_ret
 all_goals exact⟨_,rfl,a6⟩
theorem qB.cut (h:qB N s fs)(n:Int)(hk:0<=k):qB N (bM s fs n k).2.1 (bM s fs n k).2.2:=by
 have c:=cut_aft (fs:=fs) (n:=n) (k:=k) h.Ef;have i:=h.len;rcases Tj h.dJ h.inv n hk with⟨-,e⟩|⟨g,j,e,a,d⟩|⟨-,j,o,e,a⟩
 ·rw[e]at c ⊢;exact⟨h.dJ,c,h.inv,i⟩
 ·rw[e]at c ⊢;exact⟨a.2.2.2,c,d.room a.1.2.2.1,by have:=cut_len h.inv n hk g;simp only;omega⟩
 ·rw[e]at c ⊢;exact⟨a.2.2.1,c,a.2.2.2.1.room a.1.2.2.1,by have:=a.2.2.2.2;simp only;omega⟩
theorem step1_pg (h:v_ W qb fb lp db ep ad n cap)(hD:aU W db s fv rs)(hG:Gl W ps)(hO:qB 1000 s (plain rs)):
 H K 196 #[U (M ⟨qb,0,O⟩)] W λe w'=> ∃v,e=G v/\tH W w' ps db fv rs v (cO s (plain rs) 1):=by
 obtain⟨g,-,i,-⟩:=h.cells;have c:Hid (H K 148 #[U (M ⟨db,0,O⟩),I V 1] W λe w'=> ∃v,e=G v/\tH W w' ps db fv rs v (cO s (plain rs) 1)):=Vq hD hG.yQ hO.dJ hO.Ef hO.inv (by have:=hO.len;rw[bP]at this;exact this);clear h hD hG hO;go_enter func196,ntmps196;go_wp2_with (go_at_call 148;refine c.out.mono ?_;rintro e d ⟨v,rfl,a⟩);go_ret;exact⟨v,rfl,a⟩
theorem step3_pg (h:v_ W qb fb lp db ep ad n cap)(hD:aU W db s fv rs)(hG:Gl W ps)(hO:qB 1000 s (plain rs)):
 H K 198 #[U (M ⟨qb,0,O⟩)] W λe w'=> ∃v,e=G v/\tH W w' ps db fv rs v (cO s (plain rs) 3):=by
 obtain⟨g,-,i,-⟩:=h.cells;have c:Hid (H K 148 #[U (M ⟨db,0,O⟩),I V 3] W λe w'=> ∃v,e=G v/\tH W w' ps db fv rs v (cO s (plain rs) 3)):=Vq hD hG.yQ hO.dJ hO.Ef hO.inv (by have:=hO.len;rw[bP]at this;exact this);clear h hD hG hO;go_enter func198,ntmps198;go_wp2_with (go_at_call 148;refine c.out.mono ?_;rintro e d ⟨v,rfl,a⟩);go_ret;exact⟨v,rfl,a⟩
theorem step4_pg (h:v_ W qb fb lp db ep ad n cap)(hD:aU W db s fv rs)(hG:Gl W ps)(hO:qB 1000 s (plain rs)):
 H K 199 #[U (M ⟨qb,0,O⟩)] W λe w'=> ∃v,e=G v/\tH W w' ps db fv rs v (lW s (plain rs) 3 2):=by
 obtain⟨g,-,i,-⟩:=h.cells;have c:Hid (H K 200 #[U (M ⟨db,0,O⟩),I V 3,I V 2] W λe w'=> ∃v,e=G v/\tH W w' ps db fv rs v (lW s (plain rs) 3 2)):=move_pg hD hG.yQ hO.dJ hO.Ef hO.inv (by have:=hO.len;rw[bP]at this;exact this);clear h hD hG hO;go_enter func199,ntmps199;go_wp2_with (go_at_call 200;refine c.out.mono ?_;rintro e d ⟨v,rfl,a⟩);go_ret;exact⟨v,rfl,a⟩
theorem step2_pg {b:ByteArray}(h:v_ W qb fb lp db ep ad b.size cap)(hD:aU W db s fv rs)(hG:Gl W ps)(hO:qB 1000 s (plain rs))(Cr:b.size≠0)(hb:b.size<=1000000000)(hr:pX W (M ad) b.data.toList)(Vp:∃aR f,W.heap[ad.block]?=M (C aR 5 f)):
 H K 197 #[U (M ⟨qb,0,O⟩),U (M ⟨fb,0,O⟩)] W λe w'=> ∃v,e=G v/\oQ W w' ps db fv rs 1 v (bY s (plain rs) 3 b):=by
 obtain⟨t,y,z,-⟩:=h.cells
 have n:Hid (∀d,aL W d->H K 137 #[U (M ⟨db,0,O⟩),I V 3,Z (M ad) b.size cap] d λe w'=> ∃v,e=G v/\oQ W w' ps db fv rs 1 v (bY s (plain rs) 3 b)):=λd a=>by
  obtain⟨aR,f,Vp⟩:=Vp;refine(xZ (hD.aN a) (hG.aN a).yQ hO.dJ hO.Ef hO.inv (by have:=hO.len;rw[bP]at this;exact this) Cr hb (hr.aN a) ⟨aR,f,(a.block _ (aM Vp)).trans Vp⟩).mono ?_;rintro e w' ⟨v,rfl,j,i,o,g,k,r⟩;exact⟨v,rfl,j,i,o,g,(Dk.bZ a).trans k,r.wG⟩
 clear h hD hG hO hr Vp;generalize b.size=u at*;go_enter func197,ntmps197;go_wp2_with fail
 go_region_law (first
  |(refine dD (by rfl) 137 _ _ (by rfl) _ (by simp[Act.eval];done) Px ((n.out _ (by repeat (first|exact aL.refl _|refine aL.drew ?_))).mono ?_);rintro v w ⟨x,rfl,c⟩;refine⟨_,rfl,?_⟩))
 all_goals go_wp2_with fail
 all_goals go_ret
 all_goals exact⟨_,rfl,c⟩
theorem ck1_ok {b:ByteArray}(h:qB N s fs)(hb:b.size≠0)(k:Nat):qB (N+1) (Ga ep b s fs k).2.1 (Ga ep b s fs k).2.2:=by
 match k with
 |0=>exact(h.flush 1).mono (by omega)
 |1=>exact h.add (by omega) hb
 |2=>exact(h.flush 3).mono (by omega)
 |3=>exact h.move 3 (by omega)
 |k+4=>exact(h.cut (10+ep) (AaT 0)).mono (by omega)
theorem NQ (h:w.heap[qp]?=M (yF most depth db (M sp))):H K 64 #[U (M ⟨qp,0,O⟩)] w λe w'=>e=G (I V 0)/\w'.heap[qp]?=M (yF most depth db O)/\Og w w' qp:=by
 obtain⟨-,-,-,c,a⟩:=fG h;have g:=a 3;have d:(w.setCell ⟨qp,3,O⟩ (U O)).heap[qp]?=M (yF most depth db O):=by rw[Aaj w qp 3 _ _ _ h];rfl
 simp only[Abi]at c;clear h a;go_enter func64,ntmps64;go_wp2_with fail;go_ret;exact⟨rfl,d,(Og.refl w qp).set⟩
theorem NR (h:w.heap[qp]?=M (yF most depth db o))(hD:aU w db s fv rs)(ha:0<=a):H K 70 #[U (M ⟨qp,0,O⟩),I V a] w λe w'=>e=G (I V 0)/\aU w' db { s with refusing:=true,left:=a } fv rs/\Og w w' db:=by
 obtain⟨-,-,k,-,-⟩:=fG h;have d:=MC (a:=a) hD;have j:¬a<0:=by omega
 clear h hD;go_enter func70,ntmps70;go_wp2_with (go_at_call 113;refine d.mono ?_;rintro e i ⟨rfl,c,g⟩);go_ret;exact⟨rfl,c,g⟩
theorem UY (h:w.heap[qp]?=M (yF most depth db o))(hD:aU w db s fv rs)(ha:0<=a)(hb:0<=b)(hc:0<=c):H K 68 #[U (M ⟨qp,0,O⟩),I V a,I V b,I V c] w λe w'=>e=G (I V 0)/\aU w' db { s with jV:=true,after:=a,one:=b,rest:=c } fv rs/\Og w w' db:=by
 obtain⟨-,-,t,-,-⟩:=fG h;have d:=TT (a:=a) (b:=b) (c:=c) hD;have n:¬a<0:=by omega
 have r:¬b<0:=by omega
 have j:¬c<0:=by omega
 clear h hD;go_enter func68,ntmps68;go_wp2_with (go_at_call 112;refine d.mono ?_;rintro e k ⟨rfl,g,i⟩);go_ret;exact⟨rfl,g,i⟩
theorem uq (h:aU w db s fv rs)(hL:w.heap[lp]?=M (jW db ep))(hG:Gl w ps)(hO:qB 998 s (plain rs))(zD:0<=ep)(Jg:ep<=1000)(hq:0<=q)(yM:q<256)(hd:dF d)(ha:dF a)(hb:dF b)(hc:dF c)(pJ:text.size<=1000000):
 H K 93 #[U (M ⟨lp,0,O⟩),I V d,iN q a b c,.string text] w λe w'=> ∃v,e=G v/\oQ w w' ps db fv rs 2 v (QS s (plain rs) ep text (fV q d a b c)):=by
 have j:=hd;unfold dF at j;unfold QS;by_cases g:text.size=0
 ·rw[Aad g]
  have e:text=⟨#[]⟩:=by
   cases text with
   |mk a=>simp[ByteArray.size]at g;rw[g]
  rw[e];exact UH h hL hG hO zD Jg (by omega) (by omega) hq yM hd ha hb hc
 ·rw[Aaa g];by_cases i:(bY s (plain rs) 1 text).1=0
  ·rw[Aaa (λk=>k i)];exact qi h hL hG hO zD Jg (by omega) (by omega) hq yM hd ha hb hc g pJ i
  ·rw[Aad i];exact qh h hL hG hO zD Jg (by omega) (by omega) hq yM hd ha hb hc g pJ i
theorem Gf (hB:BK s fs)(n:Int):
 BK (cO s fs n).2.1 (cO s fs n).2.2/\iR s (cO s fs n).2.1/\(((cO s fs n).1=true/\(cO s fs n).2.1.aX=s.aX/\(cO s fs n).2.1.ro=s.ro/\(cO s fs n).2.2.map (λf=>(f.1,f.2.1))=fs.map (λf=>(f.1,f.2.1)))\/((cO s fs n).1=false/\(cO s fs n).2.1.aX=false)):=by
 have c:=uz (fs:=fs) (n:=n) hB.Ef;rcases qZ hB.dJ hB.inv n with⟨j,d,e,a,g,i,h⟩|⟨j,d,e,a⟩
 ·rw[e]at c ⊢;exact⟨⟨a.2.2.2,c,g.room a.1.2.2.1,by rw[i];exact hB.len⟩,a.1,Aac ⟨rfl,a.2.1,a.2.2.1,h⟩⟩
 ·rw[e]at c ⊢;exact⟨⟨a.2.2.1,c,a.2.2.2.1.room a.1.2.2.1,Aal a.2.2.2.2 hB.len⟩,a.1,Aab ⟨rfl,a.2.1⟩⟩
theorem GS.flush (h:GS (s,fs,m) D)(ho:s.aX=true)(n:Int):GS ((cO s fs n).2.1,(cO s fs n).2.2,m) D:=by
 obtain⟨i,d,j⟩:=Gf h.bk n;rcases j with⟨-,c,e,a⟩|⟨-,c⟩
 ·simp only at c e a;refine⟨i,λ_=>?_,λ_=>h.done ho,λ_=>?_,λ_=>?_,λ_ g=>?_⟩
  ·simp only;rw[d.2.1];exact h.Ee ho
  ·simp only;rw[d.2.2.2];exact Xe a (h.nam ho)
  ·simp only;rw[Da a];exact h.buf ho
  ·simp only at g ⊢;rw[Da a];exact h.GL ho (by rw[<-e];exact g)
 ·exact GS.shut i c
theorem gs_sync (h:GS x D):GS (mY x).1 D:=by
 obtain⟨s,j,m⟩:=x;unfold mY;simp only;by_cases a:s.aX=false
 ·rw[Aad a];exact h
 ·rw[Aaa a];have g:s.aX=true:=by simpa using a
  split
  ·exact h
  ·have e:=h.flush g 1;obtain⟨-,-,d⟩:=Gf h.bk 1;simp only at d;rcases d with⟨c,i,-⟩|⟨c,i⟩
   ·rw[Aaa (by rw[c];simp)];exact e.flush (i.trans g) _
   ·rw[Aad c];exact e
theorem gs_close (h:GS x D):GS ((pU x.1).1,x.2) D:=by
 unfold pU;split
 ·exact GS.shut ⟨{ h.bk.dJ with },h.bk.Ef,h.bk.inv,h.bk.len⟩ rfl
 ·exact h
theorem vg (h:GS x D)(ha:a<=9223372036854775807):GS ((pK x.1 a).1,x.2) D:=by
 unfold pK;split
 ·exact h
 ·exact⟨⟨{ h.bk.dJ with Iq:=by simp only;omega,Mg:=ha },h.bk.Ef,h.bk.inv,h.bk.len⟩,h.Ee,h.done,h.nam,h.buf,h.GL⟩
theorem gs_load {l:List (Int×ByteArray)}(h:GS x D)(hn:∀f∈l,f.1<=9223372036854775807):GS (gT x l).1 D:=by
 unfold gT;by_cases d:x.1.aX=true
 ·rw[Aad d];exact h
 ·rw[Aaa d];split
  ·rename_i j;obtain⟨o,k,e,i⟩:=j;have r:=h.bk.dJ.kZ;refine GS.shut ⟨h.bk.dJ,h.bk.Ef,⟨⟨?_,?_⟩,?_,?_,i⟩,by simp only[AbM];omega⟩ (by simpa using d)
   ·rw[Adq];exact k
   ·intro f a;obtain⟨g,c,rfl⟩:=AaS.1 a;exact(e g c).2
   ·intro f a;have n:=Ac a;obtain⟨g,c,rfl⟩:=AaS.1 a;unfold okF;simp only at n i ⊢;omega
   ·intro f a;obtain⟨g,c,rfl⟩:=AaS.1 a;exact⟨(e g c).1,hn g c⟩
  ·exact h
theorem Gh (hB:BK s fs)(n:Int)(h0:0<=k):
 BK (bM s fs n k).2.1 (bM s fs n k).2.2/\iR s (bM s fs n k).2.1/\(((bM s fs n k).1=true/\(bM s fs n k).2.1.aX=s.aX/\(bM s fs n k).2.1.ro=s.ro/\(∀f∈(bM s fs n k).2.2,(∃g∈fs,g.1=f.1)/\(k=0->f.1≠n))/\((aP (bM s fs n k).2.2 n).size:Int)<=k/\((aP (bM s fs n k).2.2 n).size:Int)=min k ((aP fs n).size:Int)/\∀j,j≠n->aP (bM s fs n k).2.2 j=aP fs j)\/((bM s fs n k).1=false/\(bM s fs n k).2.1.aX=false)):=by
 have c:=(hB.dok.cut n h0).bk;rcases Tj hB.dJ hB.inv n h0 with⟨d,e⟩|⟨d,w,e,a,x⟩|⟨d,w,y,e,a⟩
 ·rw[e]at c ⊢;refine⟨c,iR.refl s,Aac ⟨rfl,rfl,rfl,λf h=>⟨⟨f,h,rfl⟩,λt=>?_⟩,d,by simp only;omega,λ_ _=>rfl⟩⟩;exact ZA hB.inv (by omega) f h
 ·rw[e]at c ⊢
  have z:((aP (Vi fs n k) n).size:Int)=k:=by
   rw[DF hB.inv.sort,Aad rfl];exact extract_size _ h0 (by omega)
  refine⟨c,a.1,Aac ⟨rfl,a.2.1,a.2.2.1,λf h=>?_,by simp only;omega,by simp only;omega,λj u=>?_⟩⟩
  ·rcases mem_cut h with⟨o,i⟩|⟨o,i⟩
   ·refine⟨?_,λt=>(o t).elim⟩;rw[i];cases r:gK fs n with
    |none=>
     rw[fP,r]at d;have:((⟨#[]⟩:ByteArray).size:Int)=0:=rfl;simp only[Option.map_none,Option.getD_none]at d;omega
    |some g=>exact⟨g,uQ r⟩
   ·exact⟨⟨f,o,rfl⟩,i⟩
  ·simp only;rw[DF hB.inv.sort,Aaa (λe=>u e.symm)]
 ·rw[e]at c ⊢;exact⟨c,a.1,Aab ⟨rfl,a.2.1⟩⟩
theorem GU:∀(l:List Int) {s:Sc} {fs:List bD},BK s fs->
 BK (gM s fs l).2.1 (gM s fs l).2.2/\iR s (gM s fs l).2.1/\(((gM s fs l).1=true/\(gM s fs l).2.1.aX=s.aX/\(gM s fs l).2.1.ro=s.ro/\(∀f∈(gM s fs l).2.2,(∃g∈fs,g.1=f.1)/\f.1 ∉ l)/\∀j,j ∉ l->aP (gM s fs l).2.2 j=aP fs j)\/((gM s fs l).1=false/\(gM s fs l).2.1.aX=false))
 | [],s,fs,hB=>⟨hB,iR.refl s,Or.inl ⟨rfl,rfl,rfl,λf hf=>⟨⟨f,hf,rfl⟩,by simp⟩,λ_ _=>rfl⟩⟩
 |n::l,s,fs,hB=>by
  obtain⟨k1,k2,k3⟩:=Gh hB n (k:=0) (Int.le_refl _);unfold gM;simp only;rcases k3 with⟨a,e,o,D,-,-,L⟩|⟨a,e⟩
  ·rw[if_pos a];obtain⟨E,t,B⟩:=GU l k1;refine⟨E,k2.trans t,?_⟩;rcases B with⟨y,w,z,u,P⟩|r
   ·refine Or.inl ⟨y,w.trans e,z.trans o,λf hf=>?_,λj c=>?_⟩
    ·obtain⟨⟨g,A,h⟩,x⟩:=u f hf;obtain⟨⟨N,J,d⟩,i⟩:=D g A;refine⟨⟨N,J,d.trans h⟩,?_⟩;simp only[List.mem_cons,not_or];exact⟨by rw[<-h];exact i rfl,x⟩
    ·simp only[List.mem_cons,not_or]at c;rw[P j c.2,L j c.1]
   ·exact Or.inr r
  ·rw[if_neg (by rw[a];simp)];exact⟨k1,k2,Or.inr ⟨a,e⟩⟩
theorem gs_opn (hB:BK s fs)(ep:Int)(j:Nat)(hb:0<=b):
 BK (rF s fs ep (j:Int) b).2.1 (rF s fs ep (j:Int) b).2.2/\iR s (rF s fs ep (j:Int) b).2.1/\(((rF s fs ep (j:Int) b).1=0/\(rF s fs ep (j:Int) b).2.1.aX=s.aX)\/((rF s fs ep (j:Int) b).1≠0/\(rF s fs ep (j:Int) b).2.1.aX=false)):=by
 unfold rF;obtain⟨t,a,A⟩:=GU (tK fs ep) hB;generalize gM s fs (tK fs ep)=r at*;rcases A with⟨h,n,-⟩|⟨h,n⟩
 ·simp only[h,AbN,if_false];obtain⟨u,d,z⟩:=Gh t (10+ep) (k:=(j:Int)) (by omega);generalize bM r.2.1 r.2.2 (10+ep) (j:Int)=o at*;rcases z with⟨c,e,-⟩|⟨c,e⟩
  ·simp only[c,AbN,if_false];obtain⟨x,w,y⟩:=Gh u 1 (k:=b) hb;generalize bM o.2.1 o.2.2 1 b=B at*;rcases y with⟨i,g,-⟩|⟨i,g⟩
   ·simp only[i,if_true];exact⟨x,(a.trans d).trans w,Aac ⟨by simp,(g.trans e).trans n⟩⟩
   ·simp only[i,AaF,if_false];exact⟨x,(a.trans d).trans w,Aab ⟨by simp,g⟩⟩
  ·simp only[c,if_true];exact⟨u,a.trans d,Aab ⟨by simp,e⟩⟩
 ·simp only[h,if_true];exact⟨t,a,Aab ⟨by simp,n⟩⟩
theorem wB.num (h:wB w qp s fs m X)(hs:s'.aX=s.aX/\s'.ro=s.ro/\iR s s')(hD:∀db fv rs,aU w db s fv rs->w.heap[qp]?=M (yF s.most s.depth db O)\/(∃sp,w.heap[qp]?=M (yF s.most s.depth db (M sp)))->aU w' db s' fv rs/\Og w w' db):zS w w' qp X (s',fs,m):=by
 obtain⟨r,u,k,i,-,t⟩:=hs;rcases h with⟨g,db,fv,rs,a,rfl,d,rfl⟩|⟨g,db,fv,rs,sp,n,o,tb,a,rfl,rfl⟩
 ·obtain⟨e,c⟩:=hD db fv rs a (Aac d);refine⟨JF qp db fv rs,Aac ⟨r.trans g,db,fv,rs,e,rfl,?_,rfl⟩,c.1.mono ?_,c.2,λb j=>Aac j⟩
  ·simp only;rw[k,i];exact c.1.at d (aZ d a.1 (by decide))
  ·rintro b rfl;exact Aab (Aac rfl)
 ·obtain⟨e,c⟩:=hD db fv rs a.disk (Aab ⟨sp,a.qu⟩);refine⟨Ud qp db fv rs sp n o tb,Aab ⟨r.trans g,db,fv,rs,sp,n,o,tb,⟨e,?_,?_,?_,?_⟩,rfl,rfl⟩,c.1.mono ?_,c.2,λb j=>Aac j⟩
  ·simp only;rw[k,i];exact c.1.at a.qu (aZ a.qu a.disk.1 (by decide))
  ·simp only;rw[u];exact c.1.at a.Bg (aZ a.Bg a.disk.1 (by decide))
  ·simp only;rw[t];exact c.1.at a.wG (aZ a.wG a.disk.1 (by decide))
  ·simp only;rw[i];exact a.CX.off c.1 a.disk.1 (by decide) (by decide) (by decide) (by decide) (by decide)
  ·rintro b rfl;exact Aab (Aac (Aac rfl))
theorem wB.num1 (h:wB w qp s fs m X)(hq:w.heap[qp]?=M (yF s.most s.depth db o))(Ur:aU w db s fv rs)(hs:s'.aX=s.aX/\s'.ro=s.ro/\iR s s')(hb:∀fv,(∃rs,aU w db s fv rs)->∀rs,aU w db s fv rs->aU w' db s' fv rs)(kR:Og w w' db):zS w w' qp X (s',fs,m):=by
 refine h.num hs λc g d e a=>?_
 have:c=db:=by
  rcases a with a|⟨i,a⟩
  ·exact ZB a hq
  ·exact ZB a hq
 subst this;exact⟨hb g ⟨d,e⟩ d e,kR⟩
theorem clo_pg {ob cb xb dd:Nat}(hB:VB w ob cb xb sp lp dp q a b c text)(hdr:aW w dp tb dd m)(h:aU w db s fv rs)(hL:w.heap[lp]?=M (jW db ep))(hG:Gl w ps)(hO:qB 998 s (plain rs))(zD:0<=ep)(Jg:ep<=1000)(hq:0<=q)(yM:q<256)(hd:0<=m.2.2.2.1)(Zy:m.2.2.2.1<=2000000000)(ha:dF a)(hb:dF b)(hc:dF c)(pJ:text.size<=1000000):
 H K 92 #[U (M ⟨ob,0,O⟩),U (M ⟨cb,0,O⟩),U (M ⟨xb,0,O⟩)] w λe w'=> ∃v,e=G v/\oQ w w' ps db fv rs 2 v (QS s (plain rs) ep text (fV q (m.2.2.2.1+1) a b c)):=by
 obtain⟨n,i,k,X,j⟩:=hB;obtain⟨R,Q,-⟩:=lH j;have N:w.cell? ⟨ob,0,O⟩=M (U (M ⟨sp,0,O⟩)):=by simp[World.cell?,n]
 have E:w.cell? ⟨cb,0,O⟩=M (I .u8 q):=by simp[World.cell?,i]
 have S:w.cell? ⟨cb,1,O⟩=M (I V a):=by simp[World.cell?,i]
 have D:w.cell? ⟨cb,2,O⟩=M (I V b):=by simp[World.cell?,i]
 have P:w.cell? ⟨cb,3,O⟩=M (I V c):=by simp[World.cell?,i]
 have t0:w.cell? ⟨xb,0,O⟩=M (.string text):=by simp[World.cell?,k]
 have A:Hid (∀W,aL w W->H K 54 #[U (M ⟨dp,0,O⟩)] W λe w'=>e=G (I V m.2.2.2.1)/\w'=W):=λW g=>Mq (hdr.aN g)
 have y:Hid (∀W,aL w W->H K 93 #[U (M ⟨lp,0,O⟩),I V (m.2.2.2.1+1),.agg #[I .u8 q,I V a,I V b,I V c],.string text] W λe w'=> ∃v,e=G v/\oQ w w' ps db fv rs 2 v (QS s (plain rs) ep text (fV q (m.2.2.2.1+1) a b c))):=λW g=>by
  have:=uq (d:=m.2.2.2.1+1) (h.aN g) ((g.block _ (aM hL)).trans hL) (hG.aN g) hO zD Jg hq yM (by unfold dF;omega) ha hb hc pJ;refine this.mono ?_;rintro e w' ⟨v,rfl,t,r,z,o,u,B⟩;exact⟨v,rfl,t,r,z,o,Fu g u,B⟩
 have J:IntKind.i64.wrap (m.2.2.2.1+1)=m.2.2.2.1+1:=by rw[AaC];omega
 generalize m.2.2.2.1=L at*;clear n i k j hdr h hL hG hO;go_enter func92,ntmps92;go_upto_region 1 with fail;refine Abx 12 (by kernel_rfl) (by kernel_rfl) ?_;simp only[AaY,AbI,Abr,Abs]
 repeat still_step
 still_call (A.out _ (aL.drew (aL.refl w)))
 repeat still_step
 refine AcC ?_;go_wp2_with (go_at_call 93;refine(y.out _ (aL.drew (aL.refl w))).mono ?_;rintro e w' ⟨v,rfl,x⟩);go_ret;exact⟨_,rfl,x⟩
theorem syn_flg (hB:BK s fs)(ho:s.aX=true)(hr:s.ro=false):uw (sS s fs s.aY).2.1 (sS s fs s.aY).1/\iR s (sS s fs s.aY).2.1/\∀m,mY (s,fs,m)=(((sS s fs s.aY).2.1,(sS s fs s.aY).2.2,m),(sS s fs s.aY).1):=by
 have a:uZ s fs s.aY 1=cO s fs 1:=rfl;have g:uZ s fs s.aY 2=cO (cO s fs 1).2.1 (cO s fs 1).2.2 (10+s.aY):=rfl;obtain⟨j,c,n⟩:=Gf hB 1
 have o:∀m,mY (s,fs,m)=(((sS s fs s.aY).2.1,(sS s fs s.aY).2.2,m),(sS s fs s.aY).1):=λm=>by
  unfold mY sS;simp only;rw[Aaa (by simp[ho]),Aaa (by simp[hr]),a,g,c.2.2.2];split<;>rfl
 refine⟨?_,?_,o⟩
 ·unfold sS;rw[a,g];rcases n with⟨h,i,k,-⟩|⟨h,i⟩
  ·rw[Aaa (by rw[h];simp)];obtain⟨-,-,r⟩:=Gf j (10+s.aY);rcases r with⟨d,e,t,-⟩|⟨d,e⟩
   ·rw[Aad d];exact Aab (Aab ⟨by simp,by simp,(e.trans i).trans ho,(t.trans k).trans hr⟩)
   ·rw[Aaa (by rw[d];simp)];exact Aac ⟨rfl,e⟩
  ·rw[Aad h];exact Aac ⟨rfl,i⟩
 ·unfold sS;rw[a,g];split
  ·exact c
  ·exact c.trans (Gf j (10+s.aY)).2.1
theorem Qd.symm {q:gZ}(h:Qd r q):Qd q r:=⟨λe=>h.1 e.symm,λb a c=>h.2 b c a⟩
theorem Jj {f:FuncId}{args:Array Y}{x1:St}{code:Int}(h:∀W,aL w W->H K f args W λe w'=>e=G (I V code)/\zS W w' r.qp r.X x1):OU w r f args x1 code:=λW a=>by
 refine(h W a).mono ?_;rintro e w' ⟨rfl,g,c,d⟩;exact⟨rfl,g,c,Fu a d⟩
theorem VL {n m:Int}{s:ByteArray}(hP:gI w B r):
 H K 23 #[U (M ⟨r.sb,0,O⟩),.agg #[I V 20,I V a,I V n,I V m,I V k,.string s,Z fo fl fc]] w λe w'=>e=G (.bool true)/\aL w w':=by
 obtain⟨c,d⟩:∃c,c=w.alloc (iZ 20 a n m k s fo fl fc):=⟨_,rfl⟩;have j:aL w c:=by rw[d];exact(aL.refl w).alloc _
 have u:c.heap[w.heap.size]?=M (iZ 20 a n m k s fo fl fc):=by rw[d];exact Aag w _
 have i:=hP.aN j;obtain⟨W,R⟩:=lM i.sb;obtain⟨S,-,-,-,-,-,-⟩:=iI u;have g:=xdone i.q;obtain⟨Q,o,J,t⟩:=i.y;have D:c.cell? ⟨r.xb,10,O⟩=M (.bool r.x.1.aX):=by simp[World.cell?,o,bR]
 have h:c.cell? ⟨r.xb,16,O⟩=M (I V Q.2.2.2.1):=by simp[World.cell?,o,bR]
 rw[t.2.2.2.1]at h;have A:Hid (aL w c):=j;unfold iZ at d;cases E:r.x.1.aX with
 |true=>
  rw[E]at g D;simp only[if_true]at g;generalize r.x.2.2.2.2.2.1=z at*;clear hP i u j o J t;go_enter func23,ntmps23;go_upto_region 1 with fail;rw[<-d];clear d;generalize w.heap.size=P at*;go_wp2_with (first|(go_at_call 19;refine g.mono ?_;rintro e L ⟨rfl,rfl⟩)|(go_at_call 27;refine kW.mono ?_;rintro e N ⟨rfl,rfl⟩));go_ret;exact⟨by simp,A.out⟩
 |false=>
  rw[E]at g D;simp only[AaF,if_false]at g;clear hP i u j o J t h;go_enter func23,ntmps23;go_upto_region 1 with fail;rw[<-d];clear d;generalize w.heap.size=P at*;go_wp2_with (first|(go_at_call 19;refine g.mono ?_;rintro e L ⟨rfl,rfl⟩)|(go_at_call 27;refine kW.mono ?_;rintro e N ⟨rfl,rfl⟩));go_ret;exact⟨by simp,A.out⟩
theorem cut_h2 (hc:iX s)(h:gH s.room fs)(n:Int):(∃s' dZ,bM s fs n 0=(true,s',dZ)/\Aj s s')\/(∃s' dZ,bM s fs n 0=(false,s',dZ)/\Qw s s' fs dZ):=by
 rcases Tj hc h n (AaT 0)with⟨-,e⟩|⟨-,s',e,a,-⟩|⟨-,s',dZ,e,a⟩
 ·exact Aac ⟨s,fs,e,iR.refl s,rfl,rfl,hc⟩
 ·exact Aac ⟨s',_,e,a⟩
 ·exact Aab ⟨s',dZ,e,a⟩
theorem flg_zero (h:uw s c)(hc:c=0):s.aX=true/\s.ro=false:=by
 rcases h with⟨e,-⟩|⟨e,-,-⟩|⟨-,-,d,a⟩
 ·omega
 ·omega
 ·exact⟨d,a⟩
theorem sF.ck {ro:Bool}{eD:Y}{dY:List FR}(h:sF w qp db s ro fv rs sp lp dp tb m)(hd:aU w' db s' eD dY)(hk:Dk w w' (λb=>DX db fv rs b\/b=lp) (λb=>DX db eD dY b\/b=lp))(hs:iR s s')(hl:w'.heap[lp]?=M (jW db ep)):
 sF w' qp db { s' with aY:=ep } ro eD dY sp lp dp tb m/\Dk w w' (Ud qp db fv rs sp lp dp tb) (Ud qp db eD dY sp lp dp tb):=by
 obtain⟨E,n,N,Q⟩:=hs
 have d:∀ {b:Nat} {g:Array Y} {t:TypeId} {f:Nat×Nat},w.heap[b]?=M (C g t f)->t≠155->t≠200->t≠202->t≠5->t≠157->¬(DX db fv rs b\/b=lp):=λ{b g t f} a D B y L J e=>by
  rcases e with e|rfl
  ·exact h.disk.other a D B y L e
  ·exact aZ a h.wG J rfl
 refine⟨⟨hd,?_,hk.1.at h.Bg (d h.Bg (by decide) (by decide) (by decide) (by decide) (by decide)),hl,?_⟩,hk.1.mono (λb a=>a.elim (λx=>Aab (Aac x)) (λx=>Aab (Aab (Aab (Aac x))))),hk.2.1,?_⟩
 ·simp only;rw[E,n];exact hk.1.at h.qu (d h.qu (by decide) (by decide) (by decide) (by decide) (by decide))
 ·simp only;rw[n];obtain⟨u,r,j,i,o,z⟩:=h.CX;obtain⟨c,A⟩:=i.ty;exact⟨u,r,hk.1.at j (d j (by decide) (by decide) (by decide) (by decide) (by decide)),i.fr hk.1 (d A (by decide) (by decide) (by decide) (by decide) (by decide)) (λb R P p h l a=>d a (by decide) (by decide) (by decide) (by decide) (by decide)),o.fr hk.1 (λb g a=>d a (by decide) (by decide) (by decide) (by decide) (by decide)) (λb g a=>d a (by decide) (by decide) (by decide) (by decide) (by decide)),z.fr hk.1 (λb g a=>d a (by decide) (by decide) (by decide) (by decide) (by decide)) (λb g a=>d a (by decide) (by decide) (by decide) (by decide) (by decide))⟩
 ·rintro b (a|a|a|a|a)
  ·exact Aac (Aac a)
  ·rcases hk.2.2 b (Aac a)with(k|k)|k
   ·exact Aac (Aab (Aac k))
   ·exact Aac (Aab (Aab (Aab (Aac k))))
   ·exact Aab k
  ·exact Aac (Aab (Aab (Aac a)))
  ·exact Aac (Aab (Aab (Aab (Aac a))))
  ·exact Aac (Aab (Aab (Aab (Aab a))))
theorem flg_ep (h:uw s c):uw { s with aY:=ep } c:=h
theorem cut_ep {n:Int}(hc:iX s)(hI:gH s.room fs):(bM s fs n 0).2.1.aY=s.aY:=by
 rcases Tj hc hI n (AaT 0)with⟨-,e⟩|⟨-,c,e,a,-⟩|⟨-,c,d,e,a⟩
 ·rw[e]
 ·rw[e];exact a.1.2.2.2
 ·rw[e];exact a.1.2.2.2
theorem GS.ZM (h:qB N s fs)(hN:N<=50)(ho:s.aX=false):GS (s,fs,m) D:=GS.shut (x:=(s,fs,m)) ⟨h.dJ,h.Ef,h.inv,Aal h.len hN⟩ ho
theorem gs_ckpt (h:GS x D):GS (iU x).1 D:=by
 obtain⟨s,fs,m⟩:=x;by_cases e1:s.aX=false
 ·unfold iU;rw[Aad e1];exact h
 have y:s.aX=true:=by simpa using e1
 by_cases e2:s.ro=true
 ·unfold iU;rw[Aaa e1,Aad e2];exact h
 have Es:s.ro=false:=by simpa using e2
 by_cases e3:999<=s.aY
 ·unfold iU;rw[Aaa e1,Aaa e2,Aad e3];exact h
 have a2:=ZK (fs:=fs) (m:=m) y Es e3;have hc:=h.bk.dJ;have hI:=h.bk.inv;have Q:=h.nam y;simp only at hc hI Q;have d0:qB 4 s fs:=⟨hc,h.bk.Ef,hI,few4 hI.sort.1 Q⟩;have z:=d0.flush 1
 have Cr:(ckA (s,fs,m)).size≠0:=by
  show(Rq _ _).length≠0;unfold Rq QX UQ;simp
 rw[a2];generalize ckA (s,fs,m)=B at*;rcases qZ hc hI 1 with⟨s1,W,w,S,-,-,Iu⟩|⟨s1,W,w,S⟩
 ·rw[w]at z;simp only at z;have Lj:=Xe Iu Q;have a:=z.add (n:=3) (by omega) Cr
  have h3:∀g∈W,g.1≠3:=λg X e=>by
   have:=Lj g X;have:=hc.oM;omega
  have L:aP W 1=aP fs 1:=Da Iu 1;rcases Hf z.dJ z.inv (n:=3) (b:=B) (by omega) Cr with⟨s2,o,Zy,-⟩|⟨s2,o,Ll,Xv,zH,-⟩|⟨s2,Wm,o,Zy⟩
  ·rw[DN h3]at o;rw[o]at a;simp only at a;have E:=a.flush 3;rcases qZ a.dJ a.inv 3 with⟨s3,c,N,u,-,-,a5⟩|⟨s3,c,N,u⟩
   ·have Jr:gK (jA W (3,B,0)) 3=M (3,B,0):=(by rw[Ey z.inv.sort];exact Aad rfl);have PG:=DR a.inv Jr N a.dJ;rw[N]at E;simp only at E PG;have Jz:gK c 3=M (3,B,(B.size:Int)):=(by rw[PG,Ey a.inv.sort];exact Aad rfl);have J:=E.move 3 (t:=2) (by omega);rcases nO E.dJ E.inv with⟨i,et,r⟩|⟨i,a0,et,r⟩
    ·have R:lW s3 c 3 2=(true,i,jA (jE c 3) (2,B,(B.size:Int))):=by
      unfold lW;rw[Jz];simp only;rw[et];rfl
     rw[R]at J;simp only at J;have QT:BK i (jA (jE c 3) (2,B,(B.size:Int))):=⟨J.dJ,J.Ef,J.inv,by have:=J.len;omega⟩;obtain⟨k1,k2,k3⟩:=Gh QT (10+s.aY) (AaT 0);have a7:i.aX=true:=r.2.1.trans (u.2.1.trans (Zy.2.1.trans (S.2.1.trans y)));have a8:i.ro=false:=r.2.2.1.trans (u.2.2.1.trans (Zy.2.2.1.trans (S.2.2.1.trans Es)));have A:=((S.1.trans Zy.1).trans u.1).trans r.1
     have P:aP (jA (jE c 3) (2,B,(B.size:Int))) 1=aP fs 1:=by
      have a1:vY (jE c 3):=⟨E.inv.sort.1.sublist (AbA),λg X=>E.inv.sort.2 g (Abl.1 X).1⟩;rw[Ay a1,Aaa (by simp),CZ,Aaa (by decide),PG,Ay a.inv.sort,Aaa (by simp),Ay z.inv.sort,Aaa (by simp),L]
     have a3:∀f∈jA (jE c 3) (2,B,(B.size:Int)),f.1=1\/f.1=2\/f.1=10+s.aY:=λf k=>by
      rcases Cb k with rfl|k
      ·exact Aab (Aac rfl)
      ·obtain⟨k,j⟩:=Abl.1 k;have j:f.1≠3:=(by simpa using j);rw[PG]at k;rcases Cb k with rfl|k
       ·exact absurd rfl j
       ·rcases Cb k with rfl|k
        ·exact absurd rfl j
        ·exact Lj f k
     rcases k3 with⟨p1,p2,p3,p4,-,-,p5⟩|⟨p1,p2⟩
     ·have d:lD s.aY B 5 0 s fs=(0,(bM i (jA (jE c 3) (2,B,(B.size:Int))) (10+s.aY) 0).2.1,(bM i (jA (jE c 3) (2,B,(B.size:Int))) (10+s.aY) 0).2.2):=(by simp[lD,Ga,vO,w,o,N,R,p1]);simp only[d,if_true];have WZ:=k1.dJ;have a6:=hc.oM;refine⟨⟨{ WZ with oM:=by simp only;omega,rW:=by simp only;omega },k1.Ef,k1.inv,k1.len⟩,λ_=>?_,λ_=>h.done y,λ_ f k=>?_,λ_=>?_,λ_ _=>?_⟩
      ·simp only;rw[k2.2.1,A.2.1];exact h.Ee y
      ·obtain⟨⟨g,X,a4⟩,j⟩:=p4 f k;have:=a3 g X;have:=j rfl;simp only;omega
      ·simp only;rw[p5 1 (by omega),P];exact h.buf y
      ·simp only;rw[p5 1 (by omega),P];exact h.GL y Es
     ·have d:lD s.aY B 5 0 s fs=(10,(bM i (jA (jE c 3) (2,B,(B.size:Int))) (10+s.aY) 0).2.1,(bM i (jA (jE c 3) (2,B,(B.size:Int))) (10+s.aY) 0).2.2):=(by simp[lD,Ga,vO,w,o,N,R,p1]);simp only[d];rw[Aaa (by decide)];exact GS.shut (x:=((bM i (jA (jE c 3) (2,B,(B.size:Int))) (10+s.aY) 0).2.1,(bM i (jA (jE c 3) (2,B,(B.size:Int))) (10+s.aY) 0).2.2,m)) k1 p2
    ·have R:lW s3 c 3 2=(false,i,a0):=by
      unfold lW;rw[Jz];simp only;rw[et];simp
     rw[R]at J;have d:lD s.aY B 5 0 s fs=(10,i,a0):=(by simp[lD,Ga,vO,w,o,N,R]);simp only[d];rw[Aaa (by decide)];exact GS.ZM J (by decide) r.2.1
   ·rw[N]at E;have d:lD s.aY B 5 0 s fs=(10,s3,c):=(by simp[lD,Ga,vO,w,o,N]);simp only[d];rw[Aaa (by decide)];exact GS.ZM E (by decide) u.2.1
  ·rw[o]at a;simp only at a;have d:lD s.aY B 5 0 s fs=(9,s2,W):=(by simp[lD,Ga,vO,w,o]);simp only[d];rw[Aaa (by decide)];have A:=S.1.trans Ll;refine⟨⟨a.dJ,a.Ef,a.inv,by have:=a.len;simp only;omega⟩,λ_=>?_,λ_=>h.done y,λ_=>?_,λ_=>?_,λ_ hr=>?_⟩
   ·simp only;rw[A.2.1];exact h.Ee y
   ·simp only;rw[A.2.2.2];exact Lj
   ·simp only;rw[L];exact h.buf y
   ·simp only at hr;rw[zH]at hr;cases hr
  ·rw[o]at a;have d:lD s.aY B 5 0 s fs=(10,s2,Wm):=(by simp[lD,Ga,vO,w,o]);simp only[d];rw[Aaa (by decide)];exact GS.ZM a (by decide) Zy.2.1
 ·rw[w]at z;have d:lD s.aY B 5 0 s fs=(10,s1,W):=by simp[lD,Ga,vO,w]
  simp only[d];rw[Aaa (by decide)];exact GS.ZM z (by decide) S.2.1
section
variable {w:F} {B wb c p:Nat} {rs:List gZ} {D:Int} {eZ vf vm:Y} {hs:List bT} {r:gZ} {ps:Nat->Addr} {a n m k:Int} {s:ByteArray} {fo:Option Addr} {fl fc:Nat}
structure wO (w:F)(B:Nat)(fo:Option Addr)(fl fc:Nat)(l:List AF):Prop where
 rd:Cn w fo l
 len:fl=l.length
 nil:fo=O->fl=0/\fc=0
 wX:∀a,fo=M a->l≠[]->a.block<B
 few:l.length<=1000000000
 sz:∀g∈l,g.2.size<=140737488355328
 num:∀g∈l,g.1<=9223372036854775807
end
def ZO (w:F)(b o:Nat)(q a n m k:Int)(s:ByteArray)(fo:Option Addr)(fl fc:Nat)(l:List AF):Prop:=
 i64 q/\i64 a/\i64 n/\i64 m/\i64 k/\s.size<=140737488355328/\wO w w.heap.size fo fl fc l/\w.cell? ⟨b,o,O⟩=M (I V q)/\w.cell? ⟨b,o+1,O⟩=M (I V a)/\w.cell? ⟨b,o+2,O⟩=M (I V n)/\w.cell? ⟨b,o+3,O⟩=M (I V m)
  /\w.cell? ⟨b,o+4,O⟩=M (I V k)/\w.cell? ⟨b,o+5,O⟩=M (.string s)/\w.cell? ⟨b,o+6,O⟩=M (Z fo fl fc)
def RdSS (w:F)(ao:Option Addr)(len:Nat):Prop:=len=0\/∃b off,ao=M ⟨b,off,O⟩/\∀i,i<len->∃q a n m k s fo fl fc l,ZO w b (off+i*7) q a n m k s fo fl fc l
theorem wO.aN {l:List AF}(h:wO w B fo fl fc l)(hg:aL w W):wO W B fo fl fc l:=⟨h.rd.aN hg,h.len,h.nil,h.wX,h.few,h.sz,h.num⟩
section
variable {w w':F} {X:Nat->Prop} {B k:Nat} {ts:List Rec} {ss:List gZ} {bs:List Bool} {D D':Int} {dX eZ vp vf vts' vss' yw vf':Y} {hs gs g:List bT}
theorem STy.freeA {w:F}{b:Nat}(h:STy w b):oC w b:=⟨h.free,λa f e=>h.ne e (by decide)⟩
theorem Jl.add {r:Rec}(h:Jl w B dX ts)(hF:Fr w w' X)(hX:∀b,X b->oC w b)(hn:∀r∈ts,¬X r.sb/\¬X r.tb)(bB:w'.ownsRow B 39 1 vts' (ts.length+1) (VW ts++ [Value.pointer (M ⟨r.sb,0,O⟩)]))(h':yU w' B r)(hs:w.heap.size<=r.sb)(ht:w.heap.size<=r.tb):Jl w' B vts' (ts++ [r]):=by
 obtain⟨j,c,g⟩:=h;refine⟨?_,λq a=>?_,?_⟩
 ·rw[Aah];unfold VW at*;rw[AaR];exact bB
 ·rcases AaZ.1 a with a|a
  ·exact(c q a).yB hF hX (hn q a).1 (hn q a).2
  ·simp at a;subst a;exact h'
 ·rw[Abe];refine⟨g,by simp,λq a k d=>?_⟩;simp at d;subst d;obtain⟨e,⟨t,u,i,-⟩,-⟩:=c q a;have o:=aM e;have n:=aM i;exact⟨by omega,by omega⟩
end
section
variable {w:F} {B wb p:Nat} {ts:List Rec} {rs:List gZ} {bs:List Bool} {D:Int} {dX eZ vp vf vm:Y} {hs gs:List bT} {r:gZ} {ps:Nat->Addr} {a n m k:Int} {s:ByteArray} {fo:Option Addr} {fl fc:Nat}
theorem oV (h:fI w B wb ts rs bs D dX eZ vp vf vm hs gs){W:F}(hW:aL w W):B<=W.heap.size:=by
 have:=h.lt;have:=hW.size;omega
end
section
variable {w:F} {B wb p:Nat} {ts:List Rec} {rs:List gZ} {bs:List Bool} {D:Int} {dX eZ vp vf vm:Y} {hs gs:List bT} {r:gZ} {ps:Nat->Addr} {q a n m k:Int} {s:ByteArray} {fo:Option Addr} {fl fc:Nat} {l:List AF}
theorem zq {v:Y}(hq:q<12\/26<q):
 H K 25 #[v,.agg #[I V q,I V a,I V n,I V m,I V k,.string s,Z fo fl fc]] w λe w'=>e=G (.bool true)/\aL w w':=by
 have c:(q==12)=false:=by simp;omega
 have i:(q==13)=false:=by simp;omega
 have h:(q==21)=false:=by simp;omega
 have o:(q==24)=false:=by simp;omega
 have j:(q==25)=false:=by simp;omega
 have g:(q==26)=false:=by simp;omega
 go_enter func25,ntmps25;go_wp2_with fail;refine kW.mono ?_;rintro e d ⟨rfl,rfl⟩;go_wp2_with fail;go_ret;exact⟨by simp,(aL.refl _).alloc _⟩
end
section
variable {w wr w1 w2:F} {B wb nt ns nb nb' k i:Nat} {ts:List Rec} {ss:List gZ} {bs:List Bool} {D:Int} {dX eZ vp vf vm:Y} {hs gs:List bT}
theorem gX.after (h1:Below B w w1)(h2:gX w1 w2 B wb nt ns nb D):gX w w2 B wb nt ns nb D:=
 ⟨⟨h2.1.os.trans h1.os,h2.1.tape.trans h1.tape,h2.1.output.trans h1.output,Aal h1.size h2.1.size,λb a=>(h2.1.block b a).trans (h1.block b a)⟩,h2.2⟩
theorem gX.few (h:gX w w1 B wb nt ns nb D)(hn:nb<=nb'):gX w w1 B wb nt ns nb' D:=by
 obtain⟨d,e,j,k,i,a,g,c⟩:=h;exact⟨d,e,j,k,i,a,g,Aal c hn⟩
theorem fI.start {wa:F}(hb:aL w wa):fI (wa.alloc (dN (Z O 0 0) (Z O 0 0) 0 (Z O 0 0) (Z O 0 0) (Z O 0 0))) w.heap.size wa.heap.size [] [] [] D (Z O 0 0) (Z O 0 0) (Z O 0 0) (Z O 0 0) (Z O 0 0) [] []:=
 ⟨Aag wa _,hb.size,⟨AaH _ _ _ _,(λr a=>by cases a),List.Pairwise.nil⟩,⟨AaH _ _ _ _,(λr a=>by cases a),List.Pairwise.nil⟩,(λr a=>by cases a),⟨AaH _ _ _ _,rfl,(λi t x e=>by simp at e)⟩,⟨AaH _ _ _ _,rfl,(λi t x e=>by simp at e)⟩,AaH _ _ _ _⟩
def UpA (w wr:F)(wb i:Nat):Prop:=∃nt ns,nt<=i/\ns<=i/\gX w wr w.heap.size wb nt ns (i*(i+2)) (1000100000+(i:Int))
theorem UpA.start {wa:F}(hb:aL w wa):UpA w (wa.alloc (dN (Z O 0 0) (Z O 0 0) 0 (Z O 0 0) (Z O 0 0) (Z O 0 0))) wa.heap.size 0:=
 ⟨0,0,Aak _,Aak _,aQ hb (aO wa _),[],[],[],⟨_,_,_,_,_,_,_,fI.start hb⟩,rfl,rfl,Aao _⟩
theorem UpA.next (h1:nt<=i+1)(h2:ns<=i+1)(h:gX w wr w.heap.size wb nt ns (i*(i+2)+1+nt+ns) (1000100000+(i:Int)+1)):UpA w wr wb (i+1):=by
 refine⟨nt,ns,h1,h2,?_⟩;have e:(1000100000+(i:Int)+1)=1000100000+((i+1:Nat):Int):=by omega
 rw[<-e];refine h.few ?_;have:(i+1)*(i+1+2)=i*(i+2)+2*i+3:=by simp only[Nat.add_mul,Nat.mul_add];omega
 omega
theorem up_bound (h:i<=1048576):i*(i+2)<=1099514000000:=Aal (Nat.mul_le_mul h (Nat.add_le_add_right h 2)) (by decide)
theorem ZT (h:fI w B wb ts ss bs D dX eZ vp vf vm hs gs):∃x c,w.cell? ⟨wb,0,O⟩=M (Z x ts.length c)/\∀k r,ts[k]?=M r->∃g,x=M ⟨g,0,O⟩/\(∃aR,w.heap[g]?=M (C aR 39 (0,0))/\aR[k]?=M (U (M ⟨r.sb,0,O⟩)))/\w.cell? ⟨g,k,O⟩=M (U (M ⟨r.sb,0,O⟩)):=by
 have j:=(bW h.wX).1;have t:=h.tp.1;rcases t.2 with⟨rfl,A⟩|⟨g,d,aR,rfl,J,o,E,u,y,n⟩
 ·exact⟨O,0,by rw[j,A],λk r a=>by have:=(Aae.1 a).1;omega⟩
 ·refine⟨_,d,j,λk r a=>⟨g,rfl,⟨aR,o,?_⟩,?_⟩⟩
  ·have i:=(Aae.1 a).1;have e:=congrArg (λz=>z[k]?) n;simp only[VW,Aby,AaU,a,Abi,AcJ]at e;rw[Aad i]at e;rw[<-Adz];exact e
  ·have i:=(Aae.1 a).1;have e:=congrArg (λz=>z[k]?) n;simp only[VW,Aby,AaU,a,Abi,AcJ]at e;rw[Aad i]at e;rw[AcT w g k aR _ _ o,<-Adz];exact e
theorem QG (h:fI w B wb ts ss bs D dX eZ vp vf vm hs gs):∃x c,w.cell? ⟨wb,1,O⟩=M (Z x ss.length c)/\∀k r,ss[k]?=M r->∃g,x=M ⟨g,0,O⟩/\w.cell? ⟨g,k,O⟩=M (U (M ⟨r.sb,0,O⟩)):=by
 have i:=(bW h.wX).2.1;rcases h.sp.1.2 with⟨e,n⟩|⟨g,a,t,e,-⟩
 ·exact⟨O,0,by rw[i,e,n],λk r d=>by have:=(Aae.1 d).1;omega⟩
 ·refine⟨_,a,by rw[i,e],λk r d=>?_⟩;obtain⟨y,u,j,o⟩:=ZN h.sp.1 d;rw[e]at j;cases j
  exact⟨g,rfl,o⟩
theorem low_A (h:IA w B wb ts ss bs D){r:Rec}(hr:ts[k]?=M r):H K 7 #[U (M ⟨r.sb,0,O⟩)] w λe w'=>e=G (.bool true)/\w'=w:=by
 obtain⟨c,a,-,-,-⟩:=h.rec hr;exact WS c a
end
end Go.Proofs.YtfplgfodoiiobabGreatDoor
