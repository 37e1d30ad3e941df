/- DrH, DrI (joined). -/
import Derived.Test.YtfplgfodoiiobaaGreatDoorJ19
open Option renaming none→O,some→M
open Go.Value renaming int→I,slice→Z,pointer→U
open Go.IntKind renaming i64→V
open Go.Obj renaming cells→C
open Go.Ending renaming returned→G
open Go renaming World→F,Value→Y,Calls→H
open Go.Proofs.Tryz renaming prog→K
namespace Go.Proofs.YtfplgfodoiiobaaGreatDoor
set_option maxHeartbeats 2000000
set_option maxRecDepth 100000
open Go.RowKit
variable {w w':F}{dp tb depth:Nat}{m:bR}{x u r:dS}{e:Ed}{q a b c cnt dn bf:Int}
theorem nA {depth:Int}(hb:w.heap[dp]?=M (mH depth tb cnt u r dn bf)):
 (∀x:dS,(w.setCell ⟨dp,3,O⟩ x.v).heap[dp]?=M (mH depth tb cnt x r dn bf))/\(∀x:dS,(w.setCell ⟨dp,4,O⟩ x.v).heap[dp]?=M (mH depth tb cnt u x dn bf))/\(∀n,(w.setCell ⟨dp,5,O⟩ (I V n)).heap[dp]?=M (mH depth tb cnt u r n bf))/\(∀n,(w.setCell ⟨dp,6,O⟩ (I V n)).heap[dp]?=M (mH depth tb cnt u r dn n)):=
 ⟨fun x=>by rw[heap_setCell_same w dp 3 _ _ _ hb];rfl,fun x=>by rw[heap_setCell_same w dp 4 _ _ _ hb];rfl,fun x=>by rw[heap_setCell_same w dp 5 _ _ _ hb];rfl,fun x=>by rw[heap_setCell_same w dp 6 _ _ _ hb];rfl⟩
theorem sJ {i:Nat}{v:Y}{depth:Int}(hb:w.heap[dp]?=M (mH depth tb cnt u r dn bf)):
 (∀l,bN w tb l->bN (w.setCell ⟨dp,i,O⟩ v) tb l)/\(∀x l,bF w x l->bF (w.setCell ⟨dp,i,O⟩ v) x l)/\(∀x l,cO w x l->cO (w.setCell ⟨dp,i,O⟩ v) x l):=by
 have hF:=Fr.set w ⟨dp,i,O⟩ v;refine⟨fun l ht=>?_,fun x l hx=>hx.fr hF (fun b aQ hn=>aW hn hb (by decide)),fun x l hx=>hx.fr hF (fun b aQ hn=>aW hn hb (by decide)) (fun b aQ hn=>aW hn hb (by decide))⟩;obtain⟨tc,htc⟩:=ht.ty;exact ht.fr hF (aW htc hb (by decide)) (fun b la ra p h l hn=>aW hn hb (by decide))
theorem aR.put {i:Nat}{v:Y}{dn' QB:Int}{u' r':dS}{l:List (Int×Int)}{ul rl:List Ed}(hb:w.heap[dp]?=M (mH (depth:Int) tb cnt u r dn bf))(hs:(w.setCell ⟨dp,i,O⟩ v).heap[dp]?=M (mH (depth:Int) tb (l.length:Int) u' r' dn' QB))(ht:bN w tb l)(hu:cO w u' ul)(hr:cO w r' rl):aR (w.setCell ⟨dp,i,O⟩ v) dp tb depth (l,ul,rl,dn',QB):=by
 obtain⟨k1,k2,k3⟩:=sJ (i:=i) (v:=v) hb;exact⟨u',r',hs,k1 _ ht,k3 _ _ hu,k3 _ _ hr⟩
theorem Jj {p:Int}{y:dS}(h:aR w dp tb depth m)(he:qO w (p,x,y) e)(hl:m.2.1.length<=100000)(hd:depth<=1000000):
 H K 242 #[U (M ⟨dp,0,O⟩),.agg #[I V p,x.v,y.v]] w fun q w'=>q=G (.tuple #[])/\aR w' dp tb depth (m.1,(e::m.2.1).take depth,[],m.2.2.2.1,m.2.2.2.2)/\Dk w w' (TX dp tb) (TX dp tb):=by
 obtain⟨u,r,hb,ht,hu,hr⟩:=h
 have HP:Hid (∀W,aK w W->H K 245 #[.agg #[I V p,x.v,y.v],u.v,I V (depth:Int)] W fun q w'=> ∃y1 y2 y3,q=G (Z y1 y2 y3)/\w'.cell? ⟨dp,3,O⟩=M u.v/\w'.cell? ⟨dp,4,O⟩=M r.v/\w'.frozen? ⟨dp,3,O⟩=false/\w'.frozen? ⟨dp,4,O⟩=false/\aR ((w'.setCell ⟨dp,3,O⟩ (Z y1 y2 y3)).setCell ⟨dp,4,O⟩ (Z O 0 0)) dp tb depth (m.1,(e::m.2.1).take depth,[],m.2.2.2.1,m.2.2.2.2)/\Dk w ((w'.setCell ⟨dp,3,O⟩ (Z y1 y2 y3)).setCell ⟨dp,4,O⟩ (Z O 0 0)) (TX dp tb) (TX dp tb)):=fun W hW=>by
  refine(Bz (r:=(p,x,y)) (he.aM hW) (hu.aM hW) hl hd).mono ?_;rintro q w' ⟨⟨y1,y2,y3⟩,rfl,hE,hg⟩;have yE:=hW.then hg;have mF:=(yE.block _ (aL hb)).trans hb;obtain⟨-,-,-,d3,d4,-,-,df⟩:=bJ mF;have hs:=(nA mF).1 (y1,y2,y3);obtain⟨k1,k2,k3⟩:=sJ (i:=3) (v:=dS.v (y1,y2,y3)) mF;refine⟨y1,y2,y3,rfl,d3,d4,df 3,df 4,?_,((Dk.bI yE).set (Or.inl rfl)).set (Or.inl rfl)⟩;exact aR.put hs ((nA hs).2.1 (O,0,0)) (k1 _ (ht.below yE)) (k3 _ _ hE) (cO.nil _)
 obtain⟨d0,-,-,d3,-⟩:=bJ hb;obtain⟨w1,dU⟩:∃w1,w1=w.alloc (C #[I V p,x.v,y.v] 261):=⟨_,rfl⟩;have bX:w1.heap[w.heap.size]?=M (C #[I V p,x.v,y.v] 261 (0,0)):=by rw[dU];exact heap_alloc_new w _
 have k0:w1.cell? ⟨w.heap.size,0,O⟩=M (I V p):=by simp[World.cell?,bX]
 have k1:w1.cell? ⟨w.heap.size,1,O⟩=M x.v:=by simp[World.cell?,bX]
 have k2:w1.cell? ⟨w.heap.size,2,O⟩=M y.v:=by simp[World.cell?,bX]
 have G1:Hid (aK w w1):=by show aK _ _;rw[dU];exact(aK.refl w).alloc _
 have d0':=G1.out.cell d0;have d3':=G1.out.cell d3;obtain⟨x1,x2,x3⟩:=x;obtain⟨y1,y2,y3⟩:=y;obtain⟨u1,u2,u3⟩:=u;obtain⟨r1,r2,r3⟩:=r;simp only[dS.v]at*;clear hb ht hu hr he d0 d3 bX;go_enter Tryz.func242,Tryz.ntmps242
 go_upto_region 1 with fail
 rw[<-dU];clear dU
 go_region_law ((refine bK (by rfl) 245 _ _ (by rfl) _ (by simp[Act.eval];done) Nj ((HP.out _ (by repeat (first|exact G1.out|refine aK.drew ?_))).mono ?_);rintro q w7 ⟨z1,z2,z3,rfl,c3,c4,f3,f4,hD,hK⟩;refine⟨_,rfl,?_⟩))
 all_goals go_wp2_with fail
 all_goals go_end0
 all_goals exact⟨rfl,hD,hK⟩
theorem aR.lt (h:aR w dp tb depth m):dp<w.heap.size/\tb<w.heap.size:=by
 obtain⟨u,r,hb,ht,-⟩:=h;exact⟨aL hb,ht.lt⟩
theorem gD {g:Nat}{a b c:Y}(h:w.heap[g]?=M (C #[a,b,c] 261 (0,0))):w.cell? ⟨g,0,O⟩=M a/\w.cell? ⟨g,1,O⟩=M b/\w.cell? ⟨g,2,O⟩=M c/\∀j,w.frozen? ⟨g,j,O⟩=false:=by
 simp[World.cell?,World.frozen?,h]
theorem cO.WT {X:Nat->Prop}{l:List Ed}(h:cO w x l)(hF:Fr w w' X)(hx:∀b aQ,w.heap[b]?=M (C aQ 114 (0,0))->¬X b)(hy:∀a,x.1=M a->¬X a.block):cO w' x l:=by
 obtain⟨raw,⟨h1,Qm⟩,h2,h3,h4,h5⟩:=h;refine⟨raw,⟨?_,fun a e=>?_⟩,h2,h3,h4,fun i r e a b=>⟨(h5 i r e a b).1,(h5 i r e a b).2.1.fr hF hx,(h5 i r e a b).2.2.fr hF hx⟩⟩
 ·rcases h1 with h1|⟨b,off,e,hc⟩
  ·exact Or.inl h1
  ·refine Or.inr ⟨b,off,e,fun j u hu=>?_⟩;obtain⟨aQ,hb⟩:=Qm _ e;exact(World.cell?_of_block (a:=⟨b,off+j,O⟩) (hF.2 b (aL hb) (hy _ e))).trans (hc j u hu)
 ·obtain⟨aQ,hb⟩:=Qm a e;exact⟨aQ,hF.at hb (hy _ e)⟩
theorem cO.lt {l:List Ed}(h:cO w x l){a:Addr}(e:x.1=M a):a.block<w.heap.size:=by
 obtain⟨raw,⟨h1,Qm⟩,-⟩:=h;obtain⟨aQ,hb⟩:=Qm a e;exact aL hb
theorem dS.v_inj {y:dS}(h:M x.v=M y.v):x=y:=by
 obtain⟨a,b,c⟩:=x;obtain⟨a',b',c'⟩:=y;simp only[dS.v,Option.some.injEq]at h;cases h
 rfl
theorem bF.tx {l:List (Int×Int)}(hd:aR w dp tb depth m)(h:bF w x l)(hK:Dk w w' (TX dp tb) (TX dp tb)):bF w' x l:=by
 obtain⟨u,r,hb,ht,-⟩:=hd;exact h.fr hK.1 (fun b aQ hn=>tx_ty hb ht.ty hn (by decide) (by decide))
theorem WU (h:aR w dp tb depth m)(hg:dJ m depth)(hd:depth<=100)(h0:0<=a)(h1:a<=sz m.1)(lG:0<=b)(bX:b<=1000000)(hc:1<=c)(Qk:c<=200)(hr:(bY m.1 a [(b,c)]).length<=4096):
 H K 202 #[U (M ⟨dp,0,O⟩),fK q a b c] w fun e w'=>e=G (.tuple #[])/\aR w' dp tb depth (bY m.1 a [(b,c)],((a,[],[(b,c)])::m.2.1).take depth,[],m.2.2.2.1,m.2.2.2.2+c)/\Dk w w' (TX dp tb) (TX dp tb):=by
 have hz:=hg.long;have hf0:=hg.yT;have uh:=hg.tC;have Qw:=hg.Br;have kV:dX [(b,c)]:=fun q hq=>by simp at hq;subst hq;unfold jU;simp only;omega
 have bS:=h.lt;have HI:Hid (∀W,aK w W->H K 241 #[fK q a b c] W fun e w'=> ∃yb:Nat,e=G (.agg #[I V a,Z O 0 0,Z (M ⟨yb,0,O⟩) 1 1])/\bF w' (M ⟨yb,0,O⟩,1,1) [(b,c)]/\aK W w'):=fun W hW=>En
 have HA:Hid (∀W (yb:Nat) (o:Obj),aK w W->bF W (M ⟨yb,0,O⟩,1,1) [(b,c)]->H K 180 #[U (M ⟨dp,0,O⟩),.agg #[I V a,Z O 0 0,Z (M ⟨yb,0,O⟩) 1 1]] (W.alloc o) fun e w'=> ∃g1 g2 g3,e=G (Z g1 g2 g3)/\aR w' dp tb depth (bY m.1 a [(b,c)],m.2)/\bF w' (M ⟨yb,0,O⟩,1,1) [(b,c)]/\Dk w w' (TX dp tb) (TX dp tb)/\w'.heap[W.heap.size]?=M o):=fun W yb o hW hy=>by
  have gA:=(aK.refl W).alloc o;have hD:=h.aM (hW.then gA);have:=vP (p:=a) hD (qV (W.alloc o)) (hy.aM gA) (fun q hq=>by simp at hq) (by simp) kV (fun q hq=>by simp at hq;subst hq;simp only;omega) (by simp) h0 (by simp[sz];omega) (by omega) (by simpa[bU,sz]using hr);refine this.mono ?_;rintro e w' ⟨⟨g1,g2,g3⟩,rfl,hL,jl,hK,-⟩;refine⟨g1,g2,g3,rfl,by simpa[bU,sz]using jl,(hy.aM gA).tx hD hK,(Dk.bI (hW.then gA)).trans hK,?_⟩;have:=h.lt;have h2:=hW.le;exact hK.1.at (heap_alloc_new W o) (by rintro(e|e)<;>omega)
 have HR:Hid (∀W W5 (yb:Nat),aR W dp tb depth (bY m.1 a [(b,c)],m.2)->bF W (M ⟨yb,0,O⟩,1,1) [(b,c)]->Dk w W (TX dp tb) (TX dp tb)->aK W W5->H K 242 #[U (M ⟨dp,0,O⟩),.agg #[I V a,Z O 0 0,Z (M ⟨yb,0,O⟩) 1 1]] (W5.setCell ⟨dp,6,O⟩ (I V (m.2.2.2.2+c))) fun e w'=>e=G (.tuple #[])/\aR w' dp tb depth (bY m.1 a [(b,c)],((a,[],[(b,c)])::m.2.1).take depth,[],m.2.2.2.1,m.2.2.2.2+c)/\Dk w w' (TX dp tb) (TX dp tb)):=fun W W5 yb hD hy hK hG=>by
  obtain⟨u,r,hb,ht,hu,hr⟩:=hD.aM hG;have hD6:=aR.put hb ((nA hb).2.2.2 (m.2.2.2.2+c)) ht hu hr;have Vd:=(sJ (i:=6) (v:=I V (m.2.2.2.2+c)) hb).2.1 _ _ (hy.aM hG);have:=Jj (p:=a) (x:=(O,0,0)) (y:=(M ⟨yb,0,O⟩,1,1)) (e:=(a,[],[(b,c)])) hD6 ⟨rfl,qV _,Vd⟩ (by simp only;omega) (by omega);refine this.mono ?_;rintro e w' ⟨rfl,h1,h2⟩;exact⟨rfl,h1,(hK.trans ((Dk.bI hG).set (Or.inl rfl))).trans h2⟩
 have HB:Hid (∀W (yb:Nat),bF W (M ⟨yb,0,O⟩,1,1) [(b,c)]->H K 187 #[dS.v (M ⟨yb,0,O⟩,1,1)] W fun e w'=>e=G (I V c)/\aK W w'):=fun W yb hy=>by
  have:=rO hy kV (by simp);simpa[sz]using this
 have HC:Hid (∀W,aR W dp tb depth (bY m.1 a [(b,c)],m.2)->W.cell? ⟨dp,6,O⟩=M (I V m.2.2.2.2)/\W.frozen? ⟨dp,6,O⟩=false):=fun W hD=>by
  obtain⟨u,r,hb,-⟩:=hD;obtain⟨-,-,-,-,-,-,d6,df⟩:=bJ hb;exact⟨d6,df 6⟩
 have WR:IntKind.i64.wrap (m.2.2.2.2+c)=m.2.2.2.2+c:=by rw[IntKind.wrap_i64];omega
 unfold fK at*;simp only[dS.v]at HB;clear h hg kV;go_enter Tryz.func202,Tryz.ntmps202
 go_upto_region 3 with(first|(go_at_call 241;refine(HI.out _ ((aK.refl w).alloc _)).mono ?_;rintro e w2 ⟨yb,rfl,hy2,jA⟩)|(go_at_call 180;refine(HA.out w2 yb _ (((aK.refl w).alloc _).then jA) hy2).mono ?_;rintro e w4 ⟨g1,g2,g3,rfl,Xk,hy4,hK4,Qd⟩))
 obtain⟨k0,k1,k2,-⟩:=gD Qd;obtain⟨d6,f6⟩:=HC.out w4 Xk;have hne:dp≠w2.heap.size:=by have:=(((aK.refl w).alloc (C #[I .u8 q,I V a,I V b,I V c] 99)).then jA).le;omega
 have HD4:Hid (aR w4 dp tb depth (bY m.1 a [(b,c)],m.2)):=Xk;have HY4:Hid (bF w4 (M ⟨yb,0,O⟩,1,1) [(b,c)]):=hy4;have W_:Hid (Dk w w4 (TX dp tb) (TX dp tb)):=hK4;clear Qd Xk hy4 hK4
 go_region_law ((refine bK (by rfl) 187 _ _ (by rfl) _ (by simp[Act.eval];done) MC ((HB.out _ yb (HY4.out.aM (by repeat (first|exact aK.refl _|refine aK.drew ?_)))).mono ?_);rintro q w7 ⟨rfl,jG⟩;refine⟨_,rfl,?_⟩;have k07:=jG.cell (show _=M (I V a) from k0);have k17:=jG.cell (show _=M (Z O 0 0) from k1);have k27:=jG.cell (show _=M (Z (M ⟨yb,0,O⟩) 1 1) from k2);have d67:=jG.cell (show _=M (I V m.2.2.2.2) from d6);have f67:=(HC.out w7 (HD4.out.aM (aK.then (by repeat (first|exact aK.refl _|refine aK.drew ?_)) jG))).2))
 all_goals go_wp2_with (first|(go_at_call 242;refine(HR.out w4 w7 yb HD4.out HY4.out W_.out (aK.then (by repeat (first|exact aK.refl _|refine aK.drew ?_)) jG)).mono ?_;rintro e w8 ⟨rfl,hD8,hK8⟩))
 all_goals go_end0
 all_goals exact⟨rfl,hD8,hK8⟩
theorem WV (h:aR w dp tb depth m)(hg:dJ m depth)(hd:depth<=100)(h0:0<=a)(hb:1<=b)(h1:a+b<=sz m.1)(hr:(bU m.1 a b).1.length<=4096):
 H K 204 #[U (M ⟨dp,0,O⟩),fK q a b c] w fun e w'=>e=G (.tuple #[])/\aR w' dp tb depth ((bU m.1 a b).1,((a,(bU m.1 a b).2,[])::m.2.1).take depth,[],m.2.2.2.1,m.2.2.2.2)/\Dk w w' (TX dp tb) (TX dp tb):=by
 have hz:=hg.long;have Qw:=hg.Br;have kV:dX [(0,b)]:=fun q hq=>by simp at hq;subst hq;unfold jU;simp only;omega
 have bS:=h.lt;have HI:Hid (∀W,aK w W->H K 243 #[fK q a b c] W fun e w'=> ∃yb:Nat,e=G (.agg #[I V a,Z (M ⟨yb,0,O⟩) 1 1,Z O 0 0])/\bF w' (M ⟨yb,0,O⟩,1,1) [(0,b)]/\aK W w'):=fun W hW=>Jh
 have HA:Hid (∀W (yb:Nat) (o:Obj),aK w W->bF W (M ⟨yb,0,O⟩,1,1) [(0,b)]->H K 180 #[U (M ⟨dp,0,O⟩),.agg #[I V a,Z (M ⟨yb,0,O⟩) 1 1,Z O 0 0]] (W.alloc o) fun e w'=> ∃g1 g2 g3,e=G (Z g1 g2 g3)/\aR w' dp tb depth ((bU m.1 a b).1,m.2)/\bF w' (g1,g2,g3) (bU m.1 a b).2/\Dk w w' (TX dp tb) (TX dp tb)/\w'.heap[W.heap.size]?=M o/\w.heap.size<=W.heap.size/\(w'.cell? ⟨dp,3,O⟩=w.cell? ⟨dp,3,O⟩/\w'.cell? ⟨dp,4,O⟩=w.cell? ⟨dp,4,O⟩)):=fun W yb o hW hy=>by
  have gA:=(aK.refl W).alloc o;have hD:=h.aM (hW.then gA);have:=vP (p:=a) hD (hy.aM gA) (qV (W.alloc o)) kV (by simp) (fun q hq=>by simp at hq) (fun q hq=>by simp at hq) (by simp) h0 (by simp[sz];omega) (by omega) (by simpa[bY,sz]using hr);refine this.mono ?_;rintro e w' ⟨⟨g1,g2,g3⟩,rfl,hL,jl,hK,qw,hc4⟩;have d34:∀i,(W.alloc o).cell? ⟨dp,i,O⟩=w.cell? ⟨dp,i,O⟩:=fun i=>World.cell?_of_block ((hW.then gA).block _ h.lt.1)
  refine⟨g1,g2,g3,rfl,by simpa[bY,sz]using jl,by simpa[sz]using hL,(Dk.bI (hW.then gA)).trans hK,?_,hW.le,qw.trans (d34 3),hc4.trans (d34 4)⟩;have:=h.lt;have h2:=hW.le;exact hK.1.at (heap_alloc_new W o) (by rintro(e|e)<;>omega)
 have HR:Hid (∀W (eb:Nat) (o:Array Y) (g1:Option Addr) (g2 g3:Nat),w.heap.size<=eb->W.heap[eb]?=M (C o 261 (0,0))->aR W dp tb depth ((bU m.1 a b).1,m.2)->bF W (g1,g2,g3) (bU m.1 a b).2->Dk w W (TX dp tb) (TX dp tb)->(W.cell? ⟨dp,3,O⟩=w.cell? ⟨dp,3,O⟩/\W.cell? ⟨dp,4,O⟩=w.cell? ⟨dp,4,O⟩)->H K 242 #[U (M ⟨dp,0,O⟩),.agg #[I V a,Z g1 g2 g3,Z O 0 0]] (W.setCell ⟨eb,1,O⟩ (Z g1 g2 g3)) fun e w'=>e=G (.tuple #[])/\aR w' dp tb depth ((bU m.1 a b).1,((a,(bU m.1 a b).2,[])::m.2.1).take depth,[],m.2.2.2.1,m.2.2.2.2)/\Dk w w' (TX dp tb) (TX dp tb)):=fun W eb o g1 g2 g3 heb ho hD hy hK UI=>by
  obtain⟨u,r,hb,ht,hu,hr⟩:=hD;obtain⟨u0,r0,lG,ht0,hu0,Qn⟩:=h;obtain⟨-,-,-,d3,d4,-⟩:=bJ hb;obtain⟨-,-,-,c3,c4,-⟩:=bJ lG;have eu:u=u0:=dS.v_inj (d3.symm.trans (UI.1.trans c3));have er:r=r0:=dS.v_inj (d4.symm.trans (UI.2.trans c4));have hF:=Fr.set W ⟨eb,1,O⟩ (Z g1 g2 g3);obtain⟨tc,htc⟩:=ht.ty
  have hD6:aR (W.setCell ⟨eb,1,O⟩ (Z g1 g2 g3)) dp tb depth ((bU m.1 a b).1,m.2):=by
   refine⟨u,r,hF.at hb (aW hb ho (by decide)),ht.fr hF (aW htc ho (by decide)) (fun b la ra p h l hn=>aW hn ho (by decide)),hu.WT hF (fun b aQ hn=>aW hn ho (by decide)) (fun a e=>?_),hr.WT hF (fun b aQ hn=>aW hn ho (by decide)) (fun a e=>?_)⟩
   ·have:=hu0.lt (eu ▸ e);simp only;omega
   ·have:=Qn.lt (er ▸ e);simp only;omega
  have Vd:=hy.fr hF (fun b aQ hn=>aW hn ho (by decide));have:=Jj (p:=a) (x:=(g1,g2,g3)) (y:=(O,0,0)) (e:=(a,(bU m.1 a b).2,[])) hD6 ⟨rfl,Vd,qV _⟩ (by simp only;omega) (by omega);refine this.mono ?_;rintro e w' ⟨rfl,h1,h2⟩
  have hKs:Dk w (W.setCell ⟨eb,1,O⟩ (Z g1 g2 g3)) (TX dp tb) (TX dp tb):=by
   obtain⟨⟨s1,s2⟩,OP,hn⟩:=hK;refine⟨⟨Nat.le_trans s1 hF.1,fun b hb hx=>?_⟩,OP,fun b hb=>Or.inl hb⟩;rw[hF.2 b (Nat.lt_of_lt_of_le hb s1) (by simp only;omega),s2 b hb hx]
  exact⟨rfl,h1,hKs.trans h2⟩
 unfold fK at*;clear h hg kV;go_enter Tryz.func204,Tryz.ntmps204
 go_wp2_with (first|(go_at_call 243;refine(HI.out _ ((aK.refl w).alloc _)).mono ?_;rintro e w2 ⟨yb,rfl,hy2,jA⟩)|(go_at_call 180;refine(HA.out w2 yb _ (((aK.refl w).alloc _).then jA) hy2).mono ?_;rintro e w4 ⟨g1,g2,g3,rfl,Xk,hy4,hK4,Qd,hle4,hcc4⟩;obtain⟨k0,k1,k2,kf⟩:=gD Qd;have kf1:=kf 1)|(go_at_call 242;refine(HR.out w4 w2.heap.size _ g1 g2 g3 hle4 Qd Xk hy4 hK4 hcc4).mono ?_;rintro e w8 ⟨rfl,hD8,hK8⟩))
 go_end0;exact⟨rfl,hD8,hK8⟩
theorem qO.tx {r:fH}(hd:aR w dp tb depth m)(h:qO w r e)(hK:Dk w w' (TX dp tb) (TX dp tb)):qO w' r e:=⟨h.1,h.2.1.tx hd hK,h.2.2.tx hd hK⟩
theorem QC {rest:List Ed}(h:aR w dp tb depth m)(hm:m.2.1=e::rest)(hd:depth<=100)(SY:m.2.2.1.length<=100)(hz:sz m.1<=5000)(hf:Ap (sz m.1) e.1 e.2.2 e.2.1)(h9:∀q∈e.2.1,q.1<=1000000000)(hr:(bY (bU m.1 e.1 (sz e.2.2)).1 e.1 e.2.1).length<=4096):
 H K 206 #[U (M ⟨dp,0,O⟩),fK q a b c] w fun v w'=>v=G (.tuple #[])/\aR w' dp tb depth (bY (bU m.1 e.1 (sz e.2.2)).1 e.1 e.2.1,rest,(e::m.2.2.1).take depth,m.2.2.2.1,m.2.2.2.2)/\Dk w w' (TX dp tb) (TX dp tb):=by
 obtain⟨f1,f2,f3,f4,f5,f6⟩:=hf;have bS:=h.lt
 have HA:Hid (∀W (x y:dS),aR W dp tb depth (m.1,rest,m.2.2)->bF W x e.2.2->bF W y e.2.1->H K 180 #[U (M ⟨dp,0,O⟩),.agg #[I V e.1,x.v,y.v]] W fun v w'=> ∃g1 g2 g3,v=G (Z g1 g2 g3)/\aR w' dp tb depth (bY (bU m.1 e.1 (sz e.2.2)).1 e.1 e.2.1,rest,m.2.2)/\Dk W w' (TX dp tb) (TX dp tb)):=fun W x y hD hx hy=>by
  refine(vP (p:=e.1) hD hx hy f3 (by omega) f4 h9 (by omega) f1 f2 (by simp only;omega) hr).mono ?_;rintro v w' ⟨⟨g1,g2,g3⟩,rfl,hL,jl,hK,-⟩;exact⟨g1,g2,g3,rfl,jl,hK⟩
 have HP:Hid (∀W (r:fH),aR W dp tb depth (bY (bU m.1 e.1 (sz e.2.2)).1 e.1 e.2.1,rest,m.2.2)->qO W r e->∃(s1:Option Addr) (s2 s3:Nat),W.cell? ⟨dp,0,O⟩=M (I V (depth:Int))/\W.cell? ⟨dp,4,O⟩=M (Z s1 s2 s3)/\∀W',aK W W'->H K 245 #[.agg #[I V r.1,r.2.1.v,r.2.2.v],Z s1 s2 s3,I V (depth:Int)] W' fun v w'=> ∃y1 y2 y3,v=G (Z y1 y2 y3)/\w'.cell? ⟨dp,4,O⟩=M (Z s1 s2 s3)/\w'.frozen? ⟨dp,4,O⟩=false/\aR (w'.setCell ⟨dp,4,O⟩ (Z y1 y2 y3)) dp tb depth (bY (bU m.1 e.1 (sz e.2.2)).1 e.1 e.2.1,rest,(e::m.2.2.1).take depth,m.2.2.2.1,m.2.2.2.2)/\Dk W (w'.setCell ⟨dp,4,O⟩ (Z y1 y2 y3)) (TX dp tb) (TX dp tb)):=fun W r hD he=>by
  obtain⟨u,⟨s1,s2,s3⟩,hb,ht,hu,hr⟩:=hD;obtain⟨d0,-,-,-,d4,-⟩:=bJ hb;refine⟨s1,s2,s3,d0,d4,fun W' hW=>?_⟩;refine(Bz (he.aM hW) (hr.aM hW) (by simp only;omega) (by omega)).mono ?_;rintro v w' ⟨⟨y1,y2,y3⟩,rfl,hE,hg⟩;have yE:=hW.then hg;have mF:=(yE.block _ (aL hb)).trans hb;obtain⟨-,-,-,-,d4',-,-,df⟩:=bJ mF;refine⟨y1,y2,y3,rfl,d4',df 4,?_,(Dk.bI yE).set (Or.inl rfl)⟩;exact aR.put mF ((nA mF).2.1 (y1,y2,y3)) (ht.below yE) (hu.aM yE) hE
 have HT:Hid (∀W (p:Int) (x y:dS),H K 235 #[.agg #[I V p,x.v,y.v]] W fun v w'=>v=G (.agg #[I V p,y.v,x.v])/\aK W w'):=fun W p x y=>Ho
 obtain⟨⟨u1,u2,u3⟩,r,hb,ht,hu,Yk⟩:=h;rw[hm]at hu;obtain⟨eb,oV,er,rfl,Qw,gG,e0,e1,e2,Ji⟩:=hu.head;have Uv:=hu.tail;obtain⟨-,-,-,d3,-,-,-,df⟩:=bJ hb;have f3':=df 3;have jH:aK w ((w.alloc (C #[I .u8 q,I V a,I V b,I V c] 99)).alloc (C #[I V er.1,er.2.1.v,er.2.2.v] 261)):=((aK.refl w).alloc _).alloc _
 have HS:Hid (∀(w2:F),aK w w2->w2.heap[w.heap.size+1]?=M (C #[I V er.1,er.2.1.v,er.2.2.v] 261 (0,0))->aR (w2.setCell ⟨dp,3,O⟩ (Z (if u3=1 then M ⟨eb,oV,O⟩else M ⟨eb,oV+3,O⟩) rest.length (u3-1))) dp tb depth (m.1,rest,m.2.2)/\qO (w2.setCell ⟨dp,3,O⟩ (Z (if u3=1 then M ⟨eb,oV,O⟩else M ⟨eb,oV+3,O⟩) rest.length (u3-1))) er e/\Dk w (w2.setCell ⟨dp,3,O⟩ (Z (if u3=1 then M ⟨eb,oV,O⟩else M ⟨eb,oV+3,O⟩) rest.length (u3-1))) (TX dp tb) (TX dp tb)/\(w2.setCell ⟨dp,3,O⟩ (Z (if u3=1 then M ⟨eb,oV,O⟩else M ⟨eb,oV+3,O⟩) rest.length (u3-1))).heap[w.heap.size+1]?=M (C #[I V er.1,er.2.1.v,er.2.2.v] 261 (0,0))):=fun w2 hg ho=>by
  have fG:=(hg.block _ (aL hb)).trans hb;obtain⟨k1,k2,k3⟩:=sJ (i:=3) (v:=Z (if u3=1 then M ⟨eb,oV,O⟩else M ⟨eb,oV+3,O⟩) rest.length (u3-1)) fG;refine⟨aR.put fG ((nA fG).1 (_,_,_)) (ht.below hg) (Uv.aM hg) (Yk.aM hg),⟨Ji.1,k2 _ _ (Ji.2.1.aM hg),k2 _ _ (Ji.2.2.aM hg)⟩,(Dk.bI hg).set (Or.inl rfl),?_⟩;exact(Fr.set w2 ⟨dp,3,O⟩ _).at ho (by simp only;omega)
 have WW:=Ji.1;obtain⟨ep,⟨x1,x2,x3⟩,⟨y1,y2,y3⟩⟩:=er;simp only at WW;subst WW Qw;unfold fK at*;simp only[dS.v]at d3 e0 e1 e2 jH HS;have pW:Hid (aK w ((w.alloc (C #[I .u8 q,I V a,I V b,I V c] 99)).alloc (C #[I V e.1,Z x1 x2 x3,Z y1 y2 y3] 261))):=jH;have ga:=(aK.refl w).alloc (C #[I .u8 q,I V a,I V b,I V c] 99);have d3a:=ga.cell d3;have e0a:=ga.cell e0;have e1a:=ga.cell e1;have e2a:=ga.cell e2;have d3b:=jH.cell d3;have fr1:((w.alloc (C #[I .u8 q,I V a,I V b,I V c] 99)).alloc (C #[I V e.1,Z x1 x2 x3,Z y1 y2 y3] 261)).frozen? ⟨dp,3,O⟩=false:=(bJ ((jH.block _ (aL hb)).trans hb)).2.2.2.2.2.2.2 3;have j1:(0:Int)<((rest.length+1:Nat):Int):=by omega
 have j1':(0:Int)<(rest.length:Int)+1:=by omega
 have j2':(1:Int)<=(rest.length:Int)+1:=by omega
 clear hb ht hu Yk Uv Ji ga;go_enter Tryz.func206,Tryz.ntmps206
 go_upto_region 2 with fail
 have fG:=heap_alloc_new (w.alloc (C #[I .u8 q,I V a,I V b,I V c] 99)) (C #[I V e.1,Z x1 x2 x3,Z y1 y2 y3] 261);rw[World.size_alloc]at fG;clear d3a e0a e1a e2a jH d3 e0 e1 e2 f3' df;generalize ((w.alloc (C #[I .u8 q,I V a,I V b,I V c] 99)).alloc (C #[I V e.1,Z x1 x2 x3,Z y1 y2 y3] 261))=w2 at*
 go_upto_region 3 with fail
 generalize (if u3=1 then M (⟨eb,oV,O⟩:Addr)else M ⟨eb,oV+3,O⟩)=ts at*;obtain⟨q1,q2,q3,q4⟩:=HS.out _ pW.out fG;clear d3b fr1 pW HS fG;generalize (w2.setCell ⟨dp,3,O⟩ (Z ts rest.length (u3-1)))=w3 at*;obtain⟨k0,k1,k2,-⟩:=gD q4;have HT2:=HT.out w3 e.1 (x1,x2,x3) (y1,y2,y3);have SV:Hid (∀W,aK w3 W->_):=fun W hW=>HA.out W (y1,y2,y3) (x1,x2,x3) (q1.aM hW) (q2.2.2.aM hW) (q2.2.1.aM hW)
 simp only[dS.v]at HT2 SV
 have VS:Hid (∀w4 w5,aK w3 w4->Dk w4 w5 (TX dp tb) (TX dp tb)->aR w5 dp tb depth (bY (bU m.1 e.1 (sz e.2.2)).1 e.1 e.2.1,rest,m.2.2)->∃(s1:Option Addr) (s2 s3:Nat),w5.cell? ⟨dp,0,O⟩=M (I V (depth:Int))/\w5.cell? ⟨dp,4,O⟩=M (Z s1 s2 s3)/\w5.cell? ⟨w.heap.size+1,0,O⟩=M (I V e.1)/\w5.cell? ⟨w.heap.size+1,1,O⟩=M (Z x1 x2 x3)/\w5.cell? ⟨w.heap.size+1,2,O⟩=M (Z y1 y2 y3)/\∀W',aK w5 W'->H K 245 #[.agg #[I V e.1,Z x1 x2 x3,Z y1 y2 y3],Z s1 s2 s3,I V (depth:Int)] W' fun v w'=> ∃y1 y2 y3,v=G (Z y1 y2 y3)/\w'.cell? ⟨dp,4,O⟩=M (Z s1 s2 s3)/\w'.frozen? ⟨dp,4,O⟩=false/\aR (w'.setCell ⟨dp,4,O⟩ (Z y1 y2 y3)) dp tb depth (bY (bU m.1 e.1 (sz e.2.2)).1 e.1 e.2.1,rest,(e::m.2.2.1).take depth,m.2.2.2.1,m.2.2.2.2)/\Dk w (w'.setCell ⟨dp,4,O⟩ (Z y1 y2 y3)) (TX dp tb) (TX dp tb)):=fun w4 w5 hg hK hD=>by
  obtain⟨s1,s2,s3,c0,c4,hc⟩:=HP.out w5 (e.1,(x1,x2,x3),(y1,y2,y3)) hD ((q2.aM hg).tx (q1.aM hg) hK);have qK:=hK.1.at ((hg.block _ (aL q4)).trans q4) (by rintro(e|e)<;>omega);obtain⟨b0,b1,b2,-⟩:=gD qK;refine⟨s1,s2,s3,c0,c4,b0,b1,b2,fun W' hW=>(hc W' hW).mono ?_⟩;rintro v w' ⟨y1,y2,y3,rfl,r1,r2,r3,r4⟩;exact⟨y1,y2,y3,rfl,r1,r2,r3,(q3.trans ((Dk.bI hg).trans hK)).trans r4⟩
 clear q1 q2 q3 q4 HP HA HT
 go_upto_region 4 with(first|(go_at_call 235;refine HT2.mono ?_;rintro v w4 ⟨rfl,lS⟩)|(go_at_call 180;refine(SV.out w4 lS).mono ?_;rintro v w5 ⟨g1,g2,g3,rfl,hD5,hK5⟩))
 obtain⟨s1,s2,s3,c0,c4,b0,b1,b2,hc⟩:=VS.out w4 w5 lS hK5 hD5;have HC:Hid (∀W',aK w5 W'->_):=hc;clear hc k0 k1 k2 VS SV HT2 hD5 hK5
 go_region_law ((refine bK (by rfl) 245 _ _ (by rfl) _ (by simp[Act.eval];done) Nj ((HC.out _ (by repeat (first|exact aK.refl _|refine aK.drew ?_))).mono ?_);rintro v w7 ⟨z1,z2,z3,rfl,m4,mf4,hD,hK⟩;refine⟨_,rfl,?_⟩))
 all_goals go_wp2_with fail
 all_goals go_end0
 all_goals exact⟨rfl,hD,hK⟩
theorem QE {rest:List Ed}(h:aR w dp tb depth m)(hm:m.2.2.1=e::rest)(hd:depth<=100)(SY:m.2.1.length<=100)(hz:sz m.1<=5000)(hf:Ap (sz m.1) e.1 e.2.1 e.2.2)(h9:∀q∈e.2.2,q.1<=1000000000)(hr:(bY (bU m.1 e.1 (sz e.2.1)).1 e.1 e.2.2).length<=4096):
 H K 208 #[U (M ⟨dp,0,O⟩),fK q a b c] w fun v w'=>v=G (.tuple #[])/\aR w' dp tb depth (bY (bU m.1 e.1 (sz e.2.1)).1 e.1 e.2.2,(e::m.2.1).take depth,rest,m.2.2.2.1,m.2.2.2.2)/\Dk w w' (TX dp tb) (TX dp tb):=by
 obtain⟨f1,f2,f3,f4,f5,f6⟩:=hf;have bS:=h.lt
 have HA:Hid (∀W (x y:dS),aR W dp tb depth (m.1,m.2.1,rest,m.2.2.2)->bF W x e.2.1->bF W y e.2.2->H K 180 #[U (M ⟨dp,0,O⟩),.agg #[I V e.1,x.v,y.v]] W fun v w'=> ∃g1 g2 g3,v=G (Z g1 g2 g3)/\aR w' dp tb depth (bY (bU m.1 e.1 (sz e.2.1)).1 e.1 e.2.2,m.2.1,rest,m.2.2.2)/\Dk W w' (TX dp tb) (TX dp tb)):=fun W x y hD hx hy=>by
  refine(vP (p:=e.1) hD hx hy f3 (by omega) f4 h9 (by omega) f1 f2 (by simp only;omega) hr).mono ?_;rintro v w' ⟨⟨g1,g2,g3⟩,rfl,hL,jl,hK,-⟩;exact⟨g1,g2,g3,rfl,jl,hK⟩
 have HP:Hid (∀W (r:fH),aR W dp tb depth (bY (bU m.1 e.1 (sz e.2.1)).1 e.1 e.2.2,m.2.1,rest,m.2.2.2)->qO W r e->∃(s1:Option Addr) (s2 s3:Nat),W.cell? ⟨dp,0,O⟩=M (I V (depth:Int))/\W.cell? ⟨dp,3,O⟩=M (Z s1 s2 s3)/\∀W',aK W W'->H K 245 #[.agg #[I V r.1,r.2.1.v,r.2.2.v],Z s1 s2 s3,I V (depth:Int)] W' fun v w'=> ∃y1 y2 y3,v=G (Z y1 y2 y3)/\w'.cell? ⟨dp,3,O⟩=M (Z s1 s2 s3)/\w'.frozen? ⟨dp,3,O⟩=false/\aR (w'.setCell ⟨dp,3,O⟩ (Z y1 y2 y3)) dp tb depth (bY (bU m.1 e.1 (sz e.2.1)).1 e.1 e.2.2,(e::m.2.1).take depth,rest,m.2.2.2.1,m.2.2.2.2)/\Dk W (w'.setCell ⟨dp,3,O⟩ (Z y1 y2 y3)) (TX dp tb) (TX dp tb)):=fun W r hD he=>by
  obtain⟨⟨s1,s2,s3⟩,r',hb,ht,hr,hu⟩:=hD;obtain⟨d0,-,-,d4,-⟩:=bJ hb;refine⟨s1,s2,s3,d0,d4,fun W' hW=>?_⟩;refine(Bz (he.aM hW) (hr.aM hW) (by simp only;omega) (by omega)).mono ?_;rintro v w' ⟨⟨y1,y2,y3⟩,rfl,hE,hg⟩;have yE:=hW.then hg;have mF:=(yE.block _ (aL hb)).trans hb;obtain⟨-,-,-,d4',-,-,-,df⟩:=bJ mF;refine⟨y1,y2,y3,rfl,d4',df 3,?_,(Dk.bI yE).set (Or.inl rfl)⟩;exact aR.put mF ((nA mF).1 (y1,y2,y3)) (ht.below yE) hE (hu.aM yE)
 obtain⟨r,⟨u1,u2,u3⟩,hb,ht,Yk,hu⟩:=h;rw[hm]at hu;obtain⟨eb,oV,er,rfl,Qw,gG,e0,e1,e2,Ji⟩:=hu.head;have Uv:=hu.tail;obtain⟨-,-,-,-,d3,-,-,df⟩:=bJ hb;have f3':=df 4;have jH:aK w ((w.alloc (C #[I .u8 q,I V a,I V b,I V c] 99)).alloc (C #[I V er.1,er.2.1.v,er.2.2.v] 261)):=((aK.refl w).alloc _).alloc _
 have HS:Hid (∀(w2:F),aK w w2->w2.heap[w.heap.size+1]?=M (C #[I V er.1,er.2.1.v,er.2.2.v] 261 (0,0))->aR (w2.setCell ⟨dp,4,O⟩ (Z (if u3=1 then M ⟨eb,oV,O⟩else M ⟨eb,oV+3,O⟩) rest.length (u3-1))) dp tb depth (m.1,m.2.1,rest,m.2.2.2)/\qO (w2.setCell ⟨dp,4,O⟩ (Z (if u3=1 then M ⟨eb,oV,O⟩else M ⟨eb,oV+3,O⟩) rest.length (u3-1))) er e/\Dk w (w2.setCell ⟨dp,4,O⟩ (Z (if u3=1 then M ⟨eb,oV,O⟩else M ⟨eb,oV+3,O⟩) rest.length (u3-1))) (TX dp tb) (TX dp tb)/\(w2.setCell ⟨dp,4,O⟩ (Z (if u3=1 then M ⟨eb,oV,O⟩else M ⟨eb,oV+3,O⟩) rest.length (u3-1))).heap[w.heap.size+1]?=M (C #[I V er.1,er.2.1.v,er.2.2.v] 261 (0,0))):=fun w2 hg ho=>by
  have fG:=(hg.block _ (aL hb)).trans hb;obtain⟨k1,k2,k3⟩:=sJ (i:=4) (v:=Z (if u3=1 then M ⟨eb,oV,O⟩else M ⟨eb,oV+3,O⟩) rest.length (u3-1)) fG;refine⟨aR.put fG ((nA fG).2.1 (_,_,_)) (ht.below hg) (Yk.aM hg) (Uv.aM hg),⟨Ji.1,k2 _ _ (Ji.2.1.aM hg),k2 _ _ (Ji.2.2.aM hg)⟩,(Dk.bI hg).set (Or.inl rfl),?_⟩;exact(Fr.set w2 ⟨dp,4,O⟩ _).at ho (by simp only;omega)
 have WW:=Ji.1;obtain⟨ep,⟨x1,x2,x3⟩,⟨y1,y2,y3⟩⟩:=er;simp only at WW;subst WW Qw;unfold fK at*;simp only[dS.v]at d3 e0 e1 e2 jH HS;have pW:Hid (aK w ((w.alloc (C #[I .u8 q,I V a,I V b,I V c] 99)).alloc (C #[I V e.1,Z x1 x2 x3,Z y1 y2 y3] 261))):=jH;have ga:=(aK.refl w).alloc (C #[I .u8 q,I V a,I V b,I V c] 99);have d3a:=ga.cell d3;have e0a:=ga.cell e0;have e1a:=ga.cell e1;have e2a:=ga.cell e2;have d3b:=jH.cell d3;have fr1:((w.alloc (C #[I .u8 q,I V a,I V b,I V c] 99)).alloc (C #[I V e.1,Z x1 x2 x3,Z y1 y2 y3] 261)).frozen? ⟨dp,4,O⟩=false:=(bJ ((jH.block _ (aL hb)).trans hb)).2.2.2.2.2.2.2 4;have j1:(0:Int)<((rest.length+1:Nat):Int):=by omega
 have j1':(0:Int)<(rest.length:Int)+1:=by omega
 have j2':(1:Int)<=(rest.length:Int)+1:=by omega
 clear hb ht hu Yk Uv Ji ga;go_enter Tryz.func208,Tryz.ntmps208
 go_upto_region 2 with fail
 have fG:=heap_alloc_new (w.alloc (C #[I .u8 q,I V a,I V b,I V c] 99)) (C #[I V e.1,Z x1 x2 x3,Z y1 y2 y3] 261);rw[World.size_alloc]at fG;clear d3a e0a e1a e2a jH d3 e0 e1 e2 f3' df;generalize ((w.alloc (C #[I .u8 q,I V a,I V b,I V c] 99)).alloc (C #[I V e.1,Z x1 x2 x3,Z y1 y2 y3] 261))=w2 at*
 go_upto_region 3 with fail
 generalize (if u3=1 then M (⟨eb,oV,O⟩:Addr)else M ⟨eb,oV+3,O⟩)=ts at*;obtain⟨q1,q2,q3,q4⟩:=HS.out _ pW.out fG;clear d3b fr1 pW HS fG;generalize (w2.setCell ⟨dp,4,O⟩ (Z ts rest.length (u3-1)))=w3 at*;obtain⟨k0,k1,k2,-⟩:=gD q4;have SV:Hid (∀W,aK w3 W->_):=fun W hW=>HA.out W (x1,x2,x3) (y1,y2,y3) (q1.aM hW) (q2.2.1.aM hW) (q2.2.2.aM hW)
 simp only[dS.v]at SV
 have VS:Hid (∀w4 w5,aK w3 w4->Dk w4 w5 (TX dp tb) (TX dp tb)->aR w5 dp tb depth (bY (bU m.1 e.1 (sz e.2.1)).1 e.1 e.2.2,m.2.1,rest,m.2.2.2)->∃(s1:Option Addr) (s2 s3:Nat),w5.cell? ⟨dp,0,O⟩=M (I V (depth:Int))/\w5.cell? ⟨dp,3,O⟩=M (Z s1 s2 s3)/\w5.cell? ⟨w.heap.size+1,0,O⟩=M (I V e.1)/\w5.cell? ⟨w.heap.size+1,1,O⟩=M (Z x1 x2 x3)/\w5.cell? ⟨w.heap.size+1,2,O⟩=M (Z y1 y2 y3)/\∀W',aK w5 W'->H K 245 #[.agg #[I V e.1,Z x1 x2 x3,Z y1 y2 y3],Z s1 s2 s3,I V (depth:Int)] W' fun v w'=> ∃y1 y2 y3,v=G (Z y1 y2 y3)/\w'.cell? ⟨dp,3,O⟩=M (Z s1 s2 s3)/\w'.frozen? ⟨dp,3,O⟩=false/\aR (w'.setCell ⟨dp,3,O⟩ (Z y1 y2 y3)) dp tb depth (bY (bU m.1 e.1 (sz e.2.1)).1 e.1 e.2.2,(e::m.2.1).take depth,rest,m.2.2.2.1,m.2.2.2.2)/\Dk w (w'.setCell ⟨dp,3,O⟩ (Z y1 y2 y3)) (TX dp tb) (TX dp tb)):=fun w4 w5 hg hK hD=>by
  obtain⟨s1,s2,s3,c0,c4,hc⟩:=HP.out w5 (e.1,(x1,x2,x3),(y1,y2,y3)) hD ((q2.aM hg).tx (q1.aM hg) hK);have qK:=hK.1.at ((hg.block _ (aL q4)).trans q4) (by rintro(e|e)<;>omega);obtain⟨b0,b1,b2,-⟩:=gD qK;refine⟨s1,s2,s3,c0,c4,b0,b1,b2,fun W' hW=>(hc W' hW).mono ?_⟩;rintro v w' ⟨y1,y2,y3,rfl,r1,r2,r3,r4⟩;exact⟨y1,y2,y3,rfl,r1,r2,r3,(q3.trans ((Dk.bI hg).trans hK)).trans r4⟩
 clear q1 q2 q3 q4 HP HA
 go_upto_region 4 with(first|(go_at_call 180;refine(SV.out w3 (aK.refl w3)).mono ?_;rintro v w5 ⟨g1,g2,g3,rfl,hD5,hK5⟩))
 obtain⟨s1,s2,s3,c0,c4,b0,b1,b2,hc⟩:=VS.out w3 w5 (aK.refl w3) hK5 hD5;have HC:Hid (∀W',aK w5 W'->_):=hc;clear hc k0 k1 k2 VS SV hD5 hK5
 go_region_law ((refine bK (by rfl) 245 _ _ (by rfl) _ (by simp[Act.eval];done) Nj ((HC.out _ (by repeat (first|exact aK.refl _|refine aK.drew ?_))).mono ?_);rintro v w7 ⟨z1,z2,z3,rfl,m4,mf4,hD,hK⟩;refine⟨_,rfl,?_⟩))
 all_goals go_wp2_with fail
 all_goals go_end0
 all_goals exact⟨rfl,hD,hK⟩
end Go.Proofs.YtfplgfodoiiobaaGreatDoor
