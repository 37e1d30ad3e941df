/- DrH, DrI, DrJ (joined). -/
import Derived.Laws.EntriesVeiled
import Derived.Test.YtfplgfodoiiobaaGreatDoorJ24
open Option renaming none→O,some→M
open Go.Value renaming int→I,slice→Z,pointer→U
open Go.IntKind renaming i64→V
open Go.Obj renaming cells→C
open Go.Ending renaming returned→G
open Go renaming World→F,Value→Y,Calls→H
open Go.Proofs.Tryz renaming prog→K
namespace Go.Proofs.YtfplgfodoiiobaaGreatDoor
set_option maxHeartbeats 4000000
set_option maxRecDepth 100000
open Go.RowKit
variable {w w':F}{dp tb depth:Nat}{m:dF}{x u r:bS}{q a b c cnt dn bf:Int}{e:Ed}
theorem pV {depth:Int}(hb:w.heap[dp]?=M (oW depth tb cnt u r dn bf)):
 (∀x:bS,(w.setCell ⟨dp,3,O⟩ x.v).heap[dp]?=M (oW depth tb cnt x r dn bf))/\(∀x:bS,(w.setCell ⟨dp,4,O⟩ x.v).heap[dp]?=M (oW depth tb cnt u x dn bf))/\(∀n,(w.setCell ⟨dp,5,O⟩ (I V n)).heap[dp]?=M (oW depth tb cnt u r n bf))/\(∀n,(w.setCell ⟨dp,6,O⟩ (I V n)).heap[dp]?=M (oW depth tb cnt u r dn n)):=
 ⟨fun x=>by rw[heap_setCell_same w dp 3 _ _ _ hb];rfl,fun x=>by rw[heap_setCell_same w dp 4 _ _ _ hb];rfl,fun x=>by rw[heap_setCell_same w dp 5 _ _ _ hb];rfl,fun x=>by rw[heap_setCell_same w dp 6 _ _ _ hb];rfl⟩
theorem wW {i:Nat}{v:Y}{depth:Int}(hb:w.heap[dp]?=M (oW depth tb cnt u r dn bf)):
 (∀l,dD w tb l->dD (w.setCell ⟨dp,i,O⟩ v) tb l)/\(∀x l,bL w x l->bL (w.setCell ⟨dp,i,O⟩ v) x l)/\(∀x l,dY w x l->dY (w.setCell ⟨dp,i,O⟩ v) x l):=by
 have hF:=Fr.set w ⟨dp,i,O⟩ v;refine⟨fun l ht=>?_,fun x l hx=>hx.fr hF (fun b aS hn=>bB hn hb (by decide)),fun x l hx=>hx.fr hF (fun b aS hn=>bB hn hb (by decide)) (fun b aS hn=>bB hn hb (by decide))⟩;obtain⟨tc,htc⟩:=ht.ty;exact ht.fr hF (bB htc hb (by decide)) (fun b la ra p h l hn=>bB hn hb (by decide))
theorem aV.put {i:Nat}{v:Y}{Nb Aq:Int}{u' r':bS}{l:List (Int×Int)}{ul rl:List Ed}(hb:w.heap[dp]?=M (oW (depth:Int) tb cnt u r dn bf))(hs:(w.setCell ⟨dp,i,O⟩ v).heap[dp]?=M (oW (depth:Int) tb (l.length:Int) u' r' Nb Aq))(ht:dD w tb l)(hu:dY w u' ul)(hr:dY w r' rl):aV (w.setCell ⟨dp,i,O⟩ v) dp tb depth (l,ul,rl,Nb,Aq):=by
 obtain⟨k1,k2,k3⟩:=wW (i:=i) (v:=v) hb;exact⟨u',r',hs,k1 _ ht,k3 _ _ hu,k3 _ _ hr⟩
theorem Nr {p:Int}{y:bS}(h:aV w dp tb depth m)(he:qR w (p,x,y) e)(hl:m.2.1.length<=100000)(hd:depth<=1000000):
 H K 242 #[U (M ⟨dp,0,O⟩),.agg #[I V p,x.v,y.v]] w fun q w'=>q=G (.tuple #[])/\aV w' dp tb depth (m.1,(e::m.2.1).take depth,[],m.2.2.2.1,m.2.2.2.2)/\Dk w w' (TX dp tb) (TX dp tb):=by
 obtain⟨u,r,hb,ht,hu,hr⟩:=h
 have HP:Hid (∀W,aL w W->H K 245 #[.agg #[I V p,x.v,y.v],u.v,I V (depth:Int)] W fun q w'=> ∃y1 y2 y3,q=G (Z y1 y2 y3)/\w'.cell? ⟨dp,3,O⟩=M u.v/\w'.cell? ⟨dp,4,O⟩=M r.v/\w'.frozen? ⟨dp,3,O⟩=false/\w'.frozen? ⟨dp,4,O⟩=false/\aV ((w'.setCell ⟨dp,3,O⟩ (Z y1 y2 y3)).setCell ⟨dp,4,O⟩ (Z O 0 0)) dp tb depth (m.1,(e::m.2.1).take depth,[],m.2.2.2.1,m.2.2.2.2)/\Dk w ((w'.setCell ⟨dp,3,O⟩ (Z y1 y2 y3)).setCell ⟨dp,4,O⟩ (Z O 0 0)) (TX dp tb) (TX dp tb)):=fun W hW=>by
  refine(Gi (r:=(p,x,y)) (he.aN hW) (hu.aN hW) hl hd).mono ?_;rintro q w' ⟨⟨y1,y2,y3⟩,rfl,hE,hg⟩;have wU:=hW.then hg;have pX:=(wU.block _ (aM hb)).trans hb;obtain⟨-,-,-,d3,d4,-,-,df⟩:=cB pX;have hs:=(pV pX).1 (y1,y2,y3);obtain⟨k1,k2,k3⟩:=wW (i:=3) (v:=bS.v (y1,y2,y3)) pX;refine⟨y1,y2,y3,rfl,d3,d4,df 3,df 4,?_,((Dk.dJ wU).set (Or.inl rfl)).set (Or.inl rfl)⟩;exact aV.put hs ((pV hs).2.1 (O,0,0)) (k1 _ (ht.below wU)) (k3 _ _ hE) (dY.nil _)
 obtain⟨d0,-,-,d3,-⟩:=cB hb;obtain⟨w1,jJ⟩:∃w1,w1=w.alloc (C #[I V p,x.v,y.v] 261):=⟨_,rfl⟩;have fC:w1.heap[w.heap.size]?=M (C #[I V p,x.v,y.v] 261 (0,0)):=by rw[jJ];exact heap_alloc_new w _
 have k0:w1.cell? ⟨w.heap.size,0,O⟩=M (I V p):=by simp[World.cell?,fC]
 have k1:w1.cell? ⟨w.heap.size,1,O⟩=M x.v:=by simp[World.cell?,fC]
 have k2:w1.cell? ⟨w.heap.size,2,O⟩=M y.v:=by simp[World.cell?,fC]
 have G1:Hid (aL w w1):=by show aL _ _;rw[jJ];exact(aL.refl w).alloc _
 have d0':=G1.out.cell d0;have d3':=G1.out.cell d3;obtain⟨x1,x2,x3⟩:=x;obtain⟨y1,y2,y3⟩:=y;obtain⟨u1,u2,u3⟩:=u;obtain⟨r1,r2,r3⟩:=r;simp only[bS.v]at*;clear hb ht hu hr he d0 d3 fC;go_enter Tryz.func242,Tryz.ntmps242
 go_upto_region 1 with fail
 rw[<-jJ];clear jJ
 go_region_law ((refine eD (by rfl) 245 _ _ (by rfl) _ (by simp[Act.eval];done) Sj ((HP.out _ (by repeat (first|exact G1.out|refine aL.drew ?_))).mono ?_);rintro q w7 ⟨z1,z2,z3,rfl,c3,c4,f3,f4,hD,hK⟩;refine⟨_,rfl,?_⟩))
 all_goals go_wp2_with fail
 all_goals go_end0
 all_goals exact⟨rfl,hD,hK⟩
theorem aV.lt (h:aV w dp tb depth m):dp<w.heap.size/\tb<w.heap.size:=by
 obtain⟨u,r,hb,ht,-⟩:=h;exact⟨aM hb,ht.lt⟩
theorem kP {g:Nat}{a b c:Y}(h:w.heap[g]?=M (C #[a,b,c] 261 (0,0))):w.cell? ⟨g,0,O⟩=M a/\w.cell? ⟨g,1,O⟩=M b/\w.cell? ⟨g,2,O⟩=M c/\∀j,w.frozen? ⟨g,j,O⟩=false:=by
 simp[World.cell?,World.frozen?,h]
theorem dY.YD {X:Nat->Prop}{l:List Ed}(h:dY w x l)(hF:Fr w w' X)(hx:∀b aS,w.heap[b]?=M (C aS 114 (0,0))->¬X b)(hy:∀a,x.1=M a->¬X a.block):dY w' x l:=by
 obtain⟨raw,⟨h1,Kt⟩,h2,h3,h4,h5⟩:=h;refine⟨raw,⟨?_,fun a e=>?_⟩,h2,h3,h4,fun i r e a b=>⟨(h5 i r e a b).1,(h5 i r e a b).2.1.fr hF hx,(h5 i r e a b).2.2.fr hF hx⟩⟩
 ·rcases h1 with h1|⟨b,off,e,hc⟩
  ·exact Or.inl h1
  ·refine Or.inr ⟨b,off,e,fun j u hu=>?_⟩;obtain⟨aS,hb⟩:=Kt _ e;exact(World.cell?_of_block (a:=⟨b,off+j,O⟩) (hF.2 b (aM hb) (hy _ e))).trans (hc j u hu)
 ·obtain⟨aS,hb⟩:=Kt a e;exact⟨aS,hF.at hb (hy _ e)⟩
theorem dY.lt {l:List Ed}(h:dY w x l){a:Addr}(e:x.1=M a):a.block<w.heap.size:=by
 obtain⟨raw,⟨h1,Kt⟩,-⟩:=h;obtain⟨aS,hb⟩:=Kt a e;exact aM hb
theorem bS.v_inj {y:bS}(h:M x.v=M y.v):x=y:=by
 obtain⟨a,b,c⟩:=x;obtain⟨a',b',c'⟩:=y;simp only[bS.v,Option.some.injEq]at h;cases h
 rfl
theorem bL.tx {l:List (Int×Int)}(hd:aV w dp tb depth m)(h:bL w x l)(hK:Dk w w' (TX dp tb) (TX dp tb)):bL w' x l:=by
 obtain⟨u,r,hb,ht,-⟩:=hd;exact h.fr hK.1 (fun b aS hn=>tx_ty hb ht.ty hn (by decide) (by decide))
theorem oz (h:aV w dp tb depth m)(hg:eG m depth)(hd:depth<=100)(h0:0<=a)(h1:a<=sz m.1)(Eo:0<=b)(fC:b<=1000000)(hc:1<=c)(Uv:c<=200)(hr:(bO m.1 a [(b,c)]).length<=4096):
 H K 202 #[U (M ⟨dp,0,O⟩),iD q a b c] w fun e w'=>e=G (.tuple #[])/\aV w' dp tb depth (bO m.1 a [(b,c)],((a,[],[(b,c)])::m.2.1).take depth,[],m.2.2.2.1,m.2.2.2.2+c)/\Dk w w' (TX dp tb) (TX dp tb):=by
 have hz:=hg.long;have hf0:=hg.Eh;have Aw:=hg.Ei;have Kl:=hg.ME;have kI:fG [(b,c)]:=fun q hq=>by simp at hq;subst hq;unfold lX;simp only;omega
 have bT:=h.lt;have HI:Hid (∀W,aL w W->H K 241 #[iD q a b c] W fun e w'=> ∃yb:Nat,e=G (.agg #[I V a,Z O 0 0,Z (M ⟨yb,0,O⟩) 1 1])/\bL w' (M ⟨yb,0,O⟩,1,1) [(b,c)]/\aL W w'):=fun W hW=>Jg
 have HA:Hid (∀W (yb:Nat) (o:Obj),aL w W->bL W (M ⟨yb,0,O⟩,1,1) [(b,c)]->H K 180 #[U (M ⟨dp,0,O⟩),.agg #[I V a,Z O 0 0,Z (M ⟨yb,0,O⟩) 1 1]] (W.alloc o) fun e w'=> ∃g1 g2 g3,e=G (Z g1 g2 g3)/\aV w' dp tb depth (bO m.1 a [(b,c)],m.2)/\bL w' (M ⟨yb,0,O⟩,1,1) [(b,c)]/\Dk w w' (TX dp tb) (TX dp tb)/\w'.heap[W.heap.size]?=M o):=fun W yb o hW hy=>by
  have gA:=(aL.refl W).alloc o;have hD:=h.aN (hW.then gA);have:=yX (p:=a) hD (uO (W.alloc o)) (hy.aN gA) (fun q hq=>by simp at hq) (by simp) kI (fun q hq=>by simp at hq;subst hq;simp only;omega) (by simp) h0 (by simp[sz];omega) (by omega) (by simpa[bJ,sz]using hr);refine this.mono ?_;rintro e w' ⟨⟨g1,g2,g3⟩,rfl,hL,I_,hK,-⟩;refine⟨g1,g2,g3,rfl,by simpa[bJ,sz]using I_,(hy.aN gA).tx hD hK,(Dk.dJ (hW.then gA)).trans hK,?_⟩;have:=h.lt;have h2:=hW.le;exact hK.1.at (heap_alloc_new W o) (by rintro(e|e)<;>omega)
 have HR:Hid (∀W W5 (yb:Nat),aV W dp tb depth (bO m.1 a [(b,c)],m.2)->bL W (M ⟨yb,0,O⟩,1,1) [(b,c)]->Dk w W (TX dp tb) (TX dp tb)->aL W W5->H K 242 #[U (M ⟨dp,0,O⟩),.agg #[I V a,Z O 0 0,Z (M ⟨yb,0,O⟩) 1 1]] (W5.setCell ⟨dp,6,O⟩ (I V (m.2.2.2.2+c))) fun e w'=>e=G (.tuple #[])/\aV w' dp tb depth (bO m.1 a [(b,c)],((a,[],[(b,c)])::m.2.1).take depth,[],m.2.2.2.1,m.2.2.2.2+c)/\Dk w w' (TX dp tb) (TX dp tb)):=fun W W5 yb hD hy hK hG=>by
  obtain⟨u,r,hb,ht,hu,hr⟩:=hD.aN hG;have hD6:=aV.put hb ((pV hb).2.2.2 (m.2.2.2.2+c)) ht hu hr;have Zl:=(wW (i:=6) (v:=I V (m.2.2.2.2+c)) hb).2.1 _ _ (hy.aN hG);have:=Nr (p:=a) (x:=(O,0,0)) (y:=(M ⟨yb,0,O⟩,1,1)) (e:=(a,[],[(b,c)])) hD6 ⟨rfl,uO _,Zl⟩ (by simp only;omega) (by omega);refine this.mono ?_;rintro e w' ⟨rfl,h1,h2⟩;exact⟨rfl,h1,(hK.trans ((Dk.dJ hG).set (Or.inl rfl))).trans h2⟩
 have HB:Hid (∀W (yb:Nat),bL W (M ⟨yb,0,O⟩,1,1) [(b,c)]->H K 187 #[bS.v (M ⟨yb,0,O⟩,1,1)] W fun e w'=>e=G (I V c)/\aL W w'):=fun W yb hy=>by
  have:=vK hy kI (by simp);simpa[sz]using this
 have HC:Hid (∀W,aV W dp tb depth (bO m.1 a [(b,c)],m.2)->W.cell? ⟨dp,6,O⟩=M (I V m.2.2.2.2)/\W.frozen? ⟨dp,6,O⟩=false):=fun W hD=>by
  obtain⟨u,r,hb,-⟩:=hD;obtain⟨-,-,-,-,-,-,d6,df⟩:=cB hb;exact⟨d6,df 6⟩
 have EP:IntKind.i64.wrap (m.2.2.2.2+c)=m.2.2.2.2+c:=by rw[IntKind.wrap_i64];omega
 unfold iD at*;simp only[bS.v]at HB;clear h hg kI;go_enter Tryz.func202,Tryz.ntmps202
 go_upto_region 3 with(first|(go_at_call 241;refine(HI.out _ ((aL.refl w).alloc _)).mono ?_;rintro e w2 ⟨yb,rfl,hy2,kJ⟩)|(go_at_call 180;refine(HA.out w2 yb _ (((aL.refl w).alloc _).then kJ) hy2).mono ?_;rintro e w4 ⟨g1,g2,g3,rfl,CQ,hy4,hK4,Bb⟩))
 obtain⟨k0,k1,k2,-⟩:=kP Bb;obtain⟨d6,f6⟩:=HC.out w4 CQ;have hne:dp≠w2.heap.size:=by have:=(((aL.refl w).alloc (C #[I .u8 q,I V a,I V b,I V c] 99)).then kJ).le;omega
 have HD4:Hid (aV w4 dp tb depth (bO m.1 a [(b,c)],m.2)):=CQ;have HY4:Hid (bL w4 (M ⟨yb,0,O⟩,1,1) [(b,c)]):=hy4;have HK4:Hid (Dk w w4 (TX dp tb) (TX dp tb)):=hK4;clear Bb CQ hy4 hK4
 go_region_law ((refine eD (by rfl) 187 _ _ (by rfl) _ (by simp[Act.eval];done) RI ((HB.out _ yb (HY4.out.aN (by repeat (first|exact aL.refl _|refine aL.drew ?_)))).mono ?_);rintro q w7 ⟨rfl,oO⟩;refine⟨_,rfl,?_⟩;have k07:=oO.cell (show _=M (I V a) from k0);have k17:=oO.cell (show _=M (Z O 0 0) from k1);have k27:=oO.cell (show _=M (Z (M ⟨yb,0,O⟩) 1 1) from k2);have d67:=oO.cell (show _=M (I V m.2.2.2.2) from d6);have f67:=(HC.out w7 (HD4.out.aN (aL.then (by repeat (first|exact aL.refl _|refine aL.drew ?_)) oO))).2))
 all_goals go_wp2_with (first|(go_at_call 242;refine(HR.out w4 w7 yb HD4.out HY4.out HK4.out (aL.then (by repeat (first|exact aL.refl _|refine aL.drew ?_)) oO)).mono ?_;rintro e w8 ⟨rfl,hD8,hK8⟩))
 all_goals go_end0
 all_goals exact⟨rfl,hD8,hK8⟩
theorem pq (h:aV w dp tb depth m)(hg:eG m depth)(hd:depth<=100)(h0:0<=a)(hb:1<=b)(h1:a+b<=sz m.1)(hr:(bJ m.1 a b).1.length<=4096):
 H K 204 #[U (M ⟨dp,0,O⟩),iD q a b c] w fun e w'=>e=G (.tuple #[])/\aV w' dp tb depth ((bJ m.1 a b).1,((a,(bJ m.1 a b).2,[])::m.2.1).take depth,[],m.2.2.2.1,m.2.2.2.2)/\Dk w w' (TX dp tb) (TX dp tb):=by
 have hz:=hg.long;have Kl:=hg.ME;have kI:fG [(0,b)]:=fun q hq=>by simp at hq;subst hq;unfold lX;simp only;omega
 have bT:=h.lt;have HI:Hid (∀W,aL w W->H K 243 #[iD q a b c] W fun e w'=> ∃yb:Nat,e=G (.agg #[I V a,Z (M ⟨yb,0,O⟩) 1 1,Z O 0 0])/\bL w' (M ⟨yb,0,O⟩,1,1) [(0,b)]/\aL W w'):=fun W hW=>Nq
 have HA:Hid (∀W (yb:Nat) (o:Obj),aL w W->bL W (M ⟨yb,0,O⟩,1,1) [(0,b)]->H K 180 #[U (M ⟨dp,0,O⟩),.agg #[I V a,Z (M ⟨yb,0,O⟩) 1 1,Z O 0 0]] (W.alloc o) fun e w'=> ∃g1 g2 g3,e=G (Z g1 g2 g3)/\aV w' dp tb depth ((bJ m.1 a b).1,m.2)/\bL w' (g1,g2,g3) (bJ m.1 a b).2/\Dk w w' (TX dp tb) (TX dp tb)/\w'.heap[W.heap.size]?=M o/\w.heap.size<=W.heap.size/\(w'.cell? ⟨dp,3,O⟩=w.cell? ⟨dp,3,O⟩/\w'.cell? ⟨dp,4,O⟩=w.cell? ⟨dp,4,O⟩)):=fun W yb o hW hy=>by
  have gA:=(aL.refl W).alloc o;have hD:=h.aN (hW.then gA);have:=yX (p:=a) hD (hy.aN gA) (uO (W.alloc o)) kI (by simp) (fun q hq=>by simp at hq) (fun q hq=>by simp at hq) (by simp) h0 (by simp[sz];omega) (by omega) (by simpa[bO,sz]using hr);refine this.mono ?_;rintro e w' ⟨⟨g1,g2,g3⟩,rfl,hL,I_,hK,hc3,hc4⟩;have d34:∀i,(W.alloc o).cell? ⟨dp,i,O⟩=w.cell? ⟨dp,i,O⟩:=fun i=>World.cell?_of_block ((hW.then gA).block _ h.lt.1)
  refine⟨g1,g2,g3,rfl,by simpa[bO,sz]using I_,by simpa[sz]using hL,(Dk.dJ (hW.then gA)).trans hK,?_,hW.le,hc3.trans (d34 3),hc4.trans (d34 4)⟩;have:=h.lt;have h2:=hW.le;exact hK.1.at (heap_alloc_new W o) (by rintro(e|e)<;>omega)
 have HR:Hid (∀W (eb:Nat) (o:Array Y) (g1:Option Addr) (g2 g3:Nat),w.heap.size<=eb->W.heap[eb]?=M (C o 261 (0,0))->aV W dp tb depth ((bJ m.1 a b).1,m.2)->bL W (g1,g2,g3) (bJ m.1 a b).2->Dk w W (TX dp tb) (TX dp tb)->(W.cell? ⟨dp,3,O⟩=w.cell? ⟨dp,3,O⟩/\W.cell? ⟨dp,4,O⟩=w.cell? ⟨dp,4,O⟩)->H K 242 #[U (M ⟨dp,0,O⟩),.agg #[I V a,Z g1 g2 g3,Z O 0 0]] (W.setCell ⟨eb,1,O⟩ (Z g1 g2 g3)) fun e w'=>e=G (.tuple #[])/\aV w' dp tb depth ((bJ m.1 a b).1,((a,(bJ m.1 a b).2,[])::m.2.1).take depth,[],m.2.2.2.1,m.2.2.2.2)/\Dk w w' (TX dp tb) (TX dp tb)):=fun W eb o g1 g2 g3 heb ho hD hy hK ZO=>by
  obtain⟨u,r,hb,ht,hu,hr⟩:=hD;obtain⟨u0,r0,Eo,ht0,hu0,Hl⟩:=h;obtain⟨-,-,-,d3,d4,-⟩:=cB hb;obtain⟨-,-,-,c3,c4,-⟩:=cB Eo;have eu:u=u0:=bS.v_inj (d3.symm.trans (ZO.1.trans c3));have er:r=r0:=bS.v_inj (d4.symm.trans (ZO.2.trans c4));have hF:=Fr.set W ⟨eb,1,O⟩ (Z g1 g2 g3);obtain⟨tc,htc⟩:=ht.ty
  have hD6:aV (W.setCell ⟨eb,1,O⟩ (Z g1 g2 g3)) dp tb depth ((bJ m.1 a b).1,m.2):=by
   refine⟨u,r,hF.at hb (bB hb ho (by decide)),ht.fr hF (bB htc ho (by decide)) (fun b la ra p h l hn=>bB hn ho (by decide)),hu.YD hF (fun b aS hn=>bB hn ho (by decide)) (fun a e=>?_),hr.YD hF (fun b aS hn=>bB hn ho (by decide)) (fun a e=>?_)⟩
   ·have:=hu0.lt (eu ▸ e);simp only;omega
   ·have:=Hl.lt (er ▸ e);simp only;omega
  have Zl:=hy.fr hF (fun b aS hn=>bB hn ho (by decide));have:=Nr (p:=a) (x:=(g1,g2,g3)) (y:=(O,0,0)) (e:=(a,(bJ m.1 a b).2,[])) hD6 ⟨rfl,Zl,uO _⟩ (by simp only;omega) (by omega);refine this.mono ?_;rintro e w' ⟨rfl,h1,h2⟩
  have hKs:Dk w (W.setCell ⟨eb,1,O⟩ (Z g1 g2 g3)) (TX dp tb) (TX dp tb):=by
   obtain⟨⟨s1,s2⟩,Uw,hn⟩:=hK;refine⟨⟨Nat.le_trans s1 hF.1,fun b hb hx=>?_⟩,Uw,fun b hb=>Or.inl hb⟩;rw[hF.2 b (Nat.lt_of_lt_of_le hb s1) (by simp only;omega),s2 b hb hx]
  exact⟨rfl,h1,hKs.trans h2⟩
 unfold iD at*;clear h hg kI;go_enter Tryz.func204,Tryz.ntmps204
 go_wp2_with (first|(go_at_call 243;refine(HI.out _ ((aL.refl w).alloc _)).mono ?_;rintro e w2 ⟨yb,rfl,hy2,kJ⟩)|(go_at_call 180;refine(HA.out w2 yb _ (((aL.refl w).alloc _).then kJ) hy2).mono ?_;rintro e w4 ⟨g1,g2,g3,rfl,CQ,hy4,hK4,Bb,hle4,hcc4⟩;obtain⟨k0,k1,k2,kf⟩:=kP Bb;have kf1:=kf 1)|(go_at_call 242;refine(HR.out w4 w2.heap.size _ g1 g2 g3 hle4 Bb CQ hy4 hK4 hcc4).mono ?_;rintro e w8 ⟨rfl,hD8,hK8⟩))
 go_end0;exact⟨rfl,hD8,hK8⟩
theorem qR.tx {r:gH}(hd:aV w dp tb depth m)(h:qR w r e)(hK:Dk w w' (TX dp tb) (TX dp tb)):qR w' r e:=⟨h.1,h.2.1.tx hd hK,h.2.2.tx hd hK⟩
theorem VI {rest:List Ed}(h:aV w dp tb depth m)(hm:m.2.1=e::rest)(hd:depth<=100)(El:m.2.2.1.length<=100)(hz:sz m.1<=5000)(hf:Ar (sz m.1) e.1 e.2.2 e.2.1)(h9:∀q∈e.2.1,q.1<=1000000000)(hr:(bO (bJ m.1 e.1 (sz e.2.2)).1 e.1 e.2.1).length<=4096):
 H K 206 #[U (M ⟨dp,0,O⟩),iD q a b c] w fun v w'=>v=G (.tuple #[])/\aV w' dp tb depth (bO (bJ m.1 e.1 (sz e.2.2)).1 e.1 e.2.1,rest,(e::m.2.2.1).take depth,m.2.2.2.1,m.2.2.2.2)/\Dk w w' (TX dp tb) (TX dp tb):=by
 obtain⟨f1,f2,f3,f4,f5,f6⟩:=hf;have bT:=h.lt
 have HA:Hid (∀W (x y:bS),aV W dp tb depth (m.1,rest,m.2.2)->bL W x e.2.2->bL W y e.2.1->H K 180 #[U (M ⟨dp,0,O⟩),.agg #[I V e.1,x.v,y.v]] W fun v w'=> ∃g1 g2 g3,v=G (Z g1 g2 g3)/\aV w' dp tb depth (bO (bJ m.1 e.1 (sz e.2.2)).1 e.1 e.2.1,rest,m.2.2)/\Dk W w' (TX dp tb) (TX dp tb)):=fun W x y hD hx hy=>by
  refine(yX (p:=e.1) hD hx hy f3 (by omega) f4 h9 (by omega) f1 f2 (by simp only;omega) hr).mono ?_;rintro v w' ⟨⟨g1,g2,g3⟩,rfl,hL,I_,hK,-⟩;exact⟨g1,g2,g3,rfl,I_,hK⟩
 have HP:Hid (∀W (r:gH),aV W dp tb depth (bO (bJ m.1 e.1 (sz e.2.2)).1 e.1 e.2.1,rest,m.2.2)->qR W r e->∃(s1:Option Addr) (s2 s3:Nat),W.cell? ⟨dp,0,O⟩=M (I V (depth:Int))/\W.cell? ⟨dp,4,O⟩=M (Z s1 s2 s3)/\∀W',aL W W'->H K 245 #[.agg #[I V r.1,r.2.1.v,r.2.2.v],Z s1 s2 s3,I V (depth:Int)] W' fun v w'=> ∃y1 y2 y3,v=G (Z y1 y2 y3)/\w'.cell? ⟨dp,4,O⟩=M (Z s1 s2 s3)/\w'.frozen? ⟨dp,4,O⟩=false/\aV (w'.setCell ⟨dp,4,O⟩ (Z y1 y2 y3)) dp tb depth (bO (bJ m.1 e.1 (sz e.2.2)).1 e.1 e.2.1,rest,(e::m.2.2.1).take depth,m.2.2.2.1,m.2.2.2.2)/\Dk W (w'.setCell ⟨dp,4,O⟩ (Z y1 y2 y3)) (TX dp tb) (TX dp tb)):=fun W r hD he=>by
  obtain⟨u,⟨s1,s2,s3⟩,hb,ht,hu,hr⟩:=hD;obtain⟨d0,-,-,-,d4,-⟩:=cB hb;refine⟨s1,s2,s3,d0,d4,fun W' hW=>?_⟩;refine(Gi (he.aN hW) (hr.aN hW) (by simp only;omega) (by omega)).mono ?_;rintro v w' ⟨⟨y1,y2,y3⟩,rfl,hE,hg⟩;have wU:=hW.then hg;have pX:=(wU.block _ (aM hb)).trans hb;obtain⟨-,-,-,-,d4',-,-,df⟩:=cB pX;refine⟨y1,y2,y3,rfl,d4',df 4,?_,(Dk.dJ wU).set (Or.inl rfl)⟩;exact aV.put pX ((pV pX).2.1 (y1,y2,y3)) (ht.below wU) (hu.aN wU) hE
 have HT:Hid (∀W (p:Int) (x y:bS),H K 235 #[.agg #[I V p,x.v,y.v]] W fun v w'=>v=G (.agg #[I V p,y.v,x.v])/\aL W w'):=fun W p x y=>Lv
 obtain⟨⟨u1,u2,u3⟩,r,hb,ht,hu,Pg⟩:=h;rw[hm]at hu;obtain⟨eb,fM,er,rfl,Kl,iL,e0,e1,e2,Ho⟩:=hu.head;have Un:=hu.tail;obtain⟨-,-,-,d3,-,-,-,df⟩:=cB hb;have f3':=df 3;have iH:aL w ((w.alloc (C #[I .u8 q,I V a,I V b,I V c] 99)).alloc (C #[I V er.1,er.2.1.v,er.2.2.v] 261)):=((aL.refl w).alloc _).alloc _
 have HS:Hid (∀(w2:F),aL w w2->w2.heap[w.heap.size+1]?=M (C #[I V er.1,er.2.1.v,er.2.2.v] 261 (0,0))->aV (w2.setCell ⟨dp,3,O⟩ (Z (if u3=1 then M ⟨eb,fM,O⟩else M ⟨eb,fM+3,O⟩) rest.length (u3-1))) dp tb depth (m.1,rest,m.2.2)/\qR (w2.setCell ⟨dp,3,O⟩ (Z (if u3=1 then M ⟨eb,fM,O⟩else M ⟨eb,fM+3,O⟩) rest.length (u3-1))) er e/\Dk w (w2.setCell ⟨dp,3,O⟩ (Z (if u3=1 then M ⟨eb,fM,O⟩else M ⟨eb,fM+3,O⟩) rest.length (u3-1))) (TX dp tb) (TX dp tb)/\(w2.setCell ⟨dp,3,O⟩ (Z (if u3=1 then M ⟨eb,fM,O⟩else M ⟨eb,fM+3,O⟩) rest.length (u3-1))).heap[w.heap.size+1]?=M (C #[I V er.1,er.2.1.v,er.2.2.v] 261 (0,0))):=fun w2 hg ho=>by
  have gG:=(hg.block _ (aM hb)).trans hb;obtain⟨k1,k2,k3⟩:=wW (i:=3) (v:=Z (if u3=1 then M ⟨eb,fM,O⟩else M ⟨eb,fM+3,O⟩) rest.length (u3-1)) gG;refine⟨aV.put gG ((pV gG).1 (_,_,_)) (ht.below hg) (Un.aN hg) (Pg.aN hg),⟨Ho.1,k2 _ _ (Ho.2.1.aN hg),k2 _ _ (Ho.2.2.aN hg)⟩,(Dk.dJ hg).set (Or.inl rfl),?_⟩;exact(Fr.set w2 ⟨dp,3,O⟩ _).at ho (by simp only;omega)
 have J_:=Ho.1;obtain⟨ep,⟨x1,x2,x3⟩,⟨y1,y2,y3⟩⟩:=er;simp only at J_;subst J_ Kl;unfold iD at*;simp only[bS.v]at d3 e0 e1 e2 iH HS;have yU:Hid (aL w ((w.alloc (C #[I .u8 q,I V a,I V b,I V c] 99)).alloc (C #[I V e.1,Z x1 x2 x3,Z y1 y2 y3] 261))):=iH;have ga:=(aL.refl w).alloc (C #[I .u8 q,I V a,I V b,I V c] 99);have d3a:=ga.cell d3;have e0a:=ga.cell e0;have e1a:=ga.cell e1;have e2a:=ga.cell e2;have d3b:=iH.cell d3;have fr1:((w.alloc (C #[I .u8 q,I V a,I V b,I V c] 99)).alloc (C #[I V e.1,Z x1 x2 x3,Z y1 y2 y3] 261)).frozen? ⟨dp,3,O⟩=false:=(cB ((iH.block _ (aM hb)).trans hb)).2.2.2.2.2.2.2 3;have j1:(0:Int)<((rest.length+1:Nat):Int):=by omega
 have j1':(0:Int)<(rest.length:Int)+1:=by omega
 have j2':(1:Int)<=(rest.length:Int)+1:=by omega
 clear hb ht hu Pg Un Ho ga;go_enter Tryz.func206,Tryz.ntmps206
 go_upto_region 2 with fail
 have gG:=heap_alloc_new (w.alloc (C #[I .u8 q,I V a,I V b,I V c] 99)) (C #[I V e.1,Z x1 x2 x3,Z y1 y2 y3] 261);rw[World.size_alloc]at gG;clear d3a e0a e1a e2a iH d3 e0 e1 e2 f3' df;generalize ((w.alloc (C #[I .u8 q,I V a,I V b,I V c] 99)).alloc (C #[I V e.1,Z x1 x2 x3,Z y1 y2 y3] 261))=w2 at*
 go_upto_region 3 with fail
 generalize (if u3=1 then M (⟨eb,fM,O⟩:Addr)else M ⟨eb,fM+3,O⟩)=ts at*;obtain⟨q1,q2,q3,q4⟩:=HS.out _ yU.out gG;clear d3b fr1 yU HS gG;generalize (w2.setCell ⟨dp,3,O⟩ (Z ts rest.length (u3-1)))=w3 at*;obtain⟨k0,k1,k2,-⟩:=kP q4;have HT2:=HT.out w3 e.1 (x1,x2,x3) (y1,y2,y3);have RG:Hid (∀W,aL w3 W->_):=fun W hW=>HA.out W (y1,y2,y3) (x1,x2,x3) (q1.aN hW) (q2.2.2.aN hW) (q2.2.1.aN hW)
 simp only[bS.v]at HT2 RG
 have FC:Hid (∀w4 w5,aL w3 w4->Dk w4 w5 (TX dp tb) (TX dp tb)->aV w5 dp tb depth (bO (bJ m.1 e.1 (sz e.2.2)).1 e.1 e.2.1,rest,m.2.2)->∃(s1:Option Addr) (s2 s3:Nat),w5.cell? ⟨dp,0,O⟩=M (I V (depth:Int))/\w5.cell? ⟨dp,4,O⟩=M (Z s1 s2 s3)/\w5.cell? ⟨w.heap.size+1,0,O⟩=M (I V e.1)/\w5.cell? ⟨w.heap.size+1,1,O⟩=M (Z x1 x2 x3)/\w5.cell? ⟨w.heap.size+1,2,O⟩=M (Z y1 y2 y3)/\∀W',aL w5 W'->H K 245 #[.agg #[I V e.1,Z x1 x2 x3,Z y1 y2 y3],Z s1 s2 s3,I V (depth:Int)] W' fun v w'=> ∃y1 y2 y3,v=G (Z y1 y2 y3)/\w'.cell? ⟨dp,4,O⟩=M (Z s1 s2 s3)/\w'.frozen? ⟨dp,4,O⟩=false/\aV (w'.setCell ⟨dp,4,O⟩ (Z y1 y2 y3)) dp tb depth (bO (bJ m.1 e.1 (sz e.2.2)).1 e.1 e.2.1,rest,(e::m.2.2.1).take depth,m.2.2.2.1,m.2.2.2.2)/\Dk w (w'.setCell ⟨dp,4,O⟩ (Z y1 y2 y3)) (TX dp tb) (TX dp tb)):=fun w4 w5 hg hK hD=>by
  obtain⟨s1,s2,s3,c0,c4,hc⟩:=HP.out w5 (e.1,(x1,x2,x3),(y1,y2,y3)) hD ((q2.aN hg).tx (q1.aN hg) hK);have pY:=hK.1.at ((hg.block _ (aM q4)).trans q4) (by rintro(e|e)<;>omega);obtain⟨b0,b1,b2,-⟩:=kP pY;refine⟨s1,s2,s3,c0,c4,b0,b1,b2,fun W' hW=>(hc W' hW).mono ?_⟩;rintro v w' ⟨y1,y2,y3,rfl,r1,r2,r3,r4⟩;exact⟨y1,y2,y3,rfl,r1,r2,r3,(q3.trans ((Dk.dJ hg).trans hK)).trans r4⟩
 clear q1 q2 q3 q4 HP HA HT
 go_upto_region 4 with(first|(go_at_call 235;refine HT2.mono ?_;rintro v w4 ⟨rfl,oD⟩)|(go_at_call 180;refine(RG.out w4 oD).mono ?_;rintro v w5 ⟨g1,g2,g3,rfl,hD5,hK5⟩))
 obtain⟨s1,s2,s3,c0,c4,b0,b1,b2,hc⟩:=FC.out w4 w5 oD hK5 hD5;have HC:Hid (∀W',aL w5 W'->_):=hc;clear hc k0 k1 k2 FC RG HT2 hD5 hK5
 go_region_law ((refine eD (by rfl) 245 _ _ (by rfl) _ (by simp[Act.eval];done) Sj ((HC.out _ (by repeat (first|exact aL.refl _|refine aL.drew ?_))).mono ?_);rintro v w7 ⟨z1,z2,z3,rfl,m4,mf4,hD,hK⟩;refine⟨_,rfl,?_⟩))
 all_goals go_wp2_with fail
 all_goals go_end0
 all_goals exact⟨rfl,hD,hK⟩
theorem VJ {rest:List Ed}(h:aV w dp tb depth m)(hm:m.2.2.1=e::rest)(hd:depth<=100)(El:m.2.1.length<=100)(hz:sz m.1<=5000)(hf:Ar (sz m.1) e.1 e.2.1 e.2.2)(h9:∀q∈e.2.2,q.1<=1000000000)(hr:(bO (bJ m.1 e.1 (sz e.2.1)).1 e.1 e.2.2).length<=4096):
 H K 208 #[U (M ⟨dp,0,O⟩),iD q a b c] w fun v w'=>v=G (.tuple #[])/\aV w' dp tb depth (bO (bJ m.1 e.1 (sz e.2.1)).1 e.1 e.2.2,(e::m.2.1).take depth,rest,m.2.2.2.1,m.2.2.2.2)/\Dk w w' (TX dp tb) (TX dp tb):=by
 obtain⟨f1,f2,f3,f4,f5,f6⟩:=hf;have bT:=h.lt
 have HA:Hid (∀W (x y:bS),aV W dp tb depth (m.1,m.2.1,rest,m.2.2.2)->bL W x e.2.1->bL W y e.2.2->H K 180 #[U (M ⟨dp,0,O⟩),.agg #[I V e.1,x.v,y.v]] W fun v w'=> ∃g1 g2 g3,v=G (Z g1 g2 g3)/\aV w' dp tb depth (bO (bJ m.1 e.1 (sz e.2.1)).1 e.1 e.2.2,m.2.1,rest,m.2.2.2)/\Dk W w' (TX dp tb) (TX dp tb)):=fun W x y hD hx hy=>by
  refine(yX (p:=e.1) hD hx hy f3 (by omega) f4 h9 (by omega) f1 f2 (by simp only;omega) hr).mono ?_;rintro v w' ⟨⟨g1,g2,g3⟩,rfl,hL,I_,hK,-⟩;exact⟨g1,g2,g3,rfl,I_,hK⟩
 have HP:Hid (∀W (r:gH),aV W dp tb depth (bO (bJ m.1 e.1 (sz e.2.1)).1 e.1 e.2.2,m.2.1,rest,m.2.2.2)->qR W r e->∃(s1:Option Addr) (s2 s3:Nat),W.cell? ⟨dp,0,O⟩=M (I V (depth:Int))/\W.cell? ⟨dp,3,O⟩=M (Z s1 s2 s3)/\∀W',aL W W'->H K 245 #[.agg #[I V r.1,r.2.1.v,r.2.2.v],Z s1 s2 s3,I V (depth:Int)] W' fun v w'=> ∃y1 y2 y3,v=G (Z y1 y2 y3)/\w'.cell? ⟨dp,3,O⟩=M (Z s1 s2 s3)/\w'.frozen? ⟨dp,3,O⟩=false/\aV (w'.setCell ⟨dp,3,O⟩ (Z y1 y2 y3)) dp tb depth (bO (bJ m.1 e.1 (sz e.2.1)).1 e.1 e.2.2,(e::m.2.1).take depth,rest,m.2.2.2.1,m.2.2.2.2)/\Dk W (w'.setCell ⟨dp,3,O⟩ (Z y1 y2 y3)) (TX dp tb) (TX dp tb)):=fun W r hD he=>by
  obtain⟨⟨s1,s2,s3⟩,r',hb,ht,hr,hu⟩:=hD;obtain⟨d0,-,-,d4,-⟩:=cB hb;refine⟨s1,s2,s3,d0,d4,fun W' hW=>?_⟩;refine(Gi (he.aN hW) (hr.aN hW) (by simp only;omega) (by omega)).mono ?_;rintro v w' ⟨⟨y1,y2,y3⟩,rfl,hE,hg⟩;have wU:=hW.then hg;have pX:=(wU.block _ (aM hb)).trans hb;obtain⟨-,-,-,d4',-,-,-,df⟩:=cB pX;refine⟨y1,y2,y3,rfl,d4',df 3,?_,(Dk.dJ wU).set (Or.inl rfl)⟩;exact aV.put pX ((pV pX).1 (y1,y2,y3)) (ht.below wU) hE (hu.aN wU)
 obtain⟨r,⟨u1,u2,u3⟩,hb,ht,Pg,hu⟩:=h;rw[hm]at hu;obtain⟨eb,fM,er,rfl,Kl,iL,e0,e1,e2,Ho⟩:=hu.head;have Un:=hu.tail;obtain⟨-,-,-,-,d3,-,-,df⟩:=cB hb;have f3':=df 4;have iH:aL w ((w.alloc (C #[I .u8 q,I V a,I V b,I V c] 99)).alloc (C #[I V er.1,er.2.1.v,er.2.2.v] 261)):=((aL.refl w).alloc _).alloc _
 have HS:Hid (∀(w2:F),aL w w2->w2.heap[w.heap.size+1]?=M (C #[I V er.1,er.2.1.v,er.2.2.v] 261 (0,0))->aV (w2.setCell ⟨dp,4,O⟩ (Z (if u3=1 then M ⟨eb,fM,O⟩else M ⟨eb,fM+3,O⟩) rest.length (u3-1))) dp tb depth (m.1,m.2.1,rest,m.2.2.2)/\qR (w2.setCell ⟨dp,4,O⟩ (Z (if u3=1 then M ⟨eb,fM,O⟩else M ⟨eb,fM+3,O⟩) rest.length (u3-1))) er e/\Dk w (w2.setCell ⟨dp,4,O⟩ (Z (if u3=1 then M ⟨eb,fM,O⟩else M ⟨eb,fM+3,O⟩) rest.length (u3-1))) (TX dp tb) (TX dp tb)/\(w2.setCell ⟨dp,4,O⟩ (Z (if u3=1 then M ⟨eb,fM,O⟩else M ⟨eb,fM+3,O⟩) rest.length (u3-1))).heap[w.heap.size+1]?=M (C #[I V er.1,er.2.1.v,er.2.2.v] 261 (0,0))):=fun w2 hg ho=>by
  have gG:=(hg.block _ (aM hb)).trans hb;obtain⟨k1,k2,k3⟩:=wW (i:=4) (v:=Z (if u3=1 then M ⟨eb,fM,O⟩else M ⟨eb,fM+3,O⟩) rest.length (u3-1)) gG;refine⟨aV.put gG ((pV gG).2.1 (_,_,_)) (ht.below hg) (Pg.aN hg) (Un.aN hg),⟨Ho.1,k2 _ _ (Ho.2.1.aN hg),k2 _ _ (Ho.2.2.aN hg)⟩,(Dk.dJ hg).set (Or.inl rfl),?_⟩;exact(Fr.set w2 ⟨dp,4,O⟩ _).at ho (by simp only;omega)
 have J_:=Ho.1;obtain⟨ep,⟨x1,x2,x3⟩,⟨y1,y2,y3⟩⟩:=er;simp only at J_;subst J_ Kl;unfold iD at*;simp only[bS.v]at d3 e0 e1 e2 iH HS;have yU:Hid (aL w ((w.alloc (C #[I .u8 q,I V a,I V b,I V c] 99)).alloc (C #[I V e.1,Z x1 x2 x3,Z y1 y2 y3] 261))):=iH;have ga:=(aL.refl w).alloc (C #[I .u8 q,I V a,I V b,I V c] 99);have d3a:=ga.cell d3;have e0a:=ga.cell e0;have e1a:=ga.cell e1;have e2a:=ga.cell e2;have d3b:=iH.cell d3;have fr1:((w.alloc (C #[I .u8 q,I V a,I V b,I V c] 99)).alloc (C #[I V e.1,Z x1 x2 x3,Z y1 y2 y3] 261)).frozen? ⟨dp,4,O⟩=false:=(cB ((iH.block _ (aM hb)).trans hb)).2.2.2.2.2.2.2 4;have j1:(0:Int)<((rest.length+1:Nat):Int):=by omega
 have j1':(0:Int)<(rest.length:Int)+1:=by omega
 have j2':(1:Int)<=(rest.length:Int)+1:=by omega
 clear hb ht hu Pg Un Ho ga;go_enter Tryz.func208,Tryz.ntmps208
 go_upto_region 2 with fail
 have gG:=heap_alloc_new (w.alloc (C #[I .u8 q,I V a,I V b,I V c] 99)) (C #[I V e.1,Z x1 x2 x3,Z y1 y2 y3] 261);rw[World.size_alloc]at gG;clear d3a e0a e1a e2a iH d3 e0 e1 e2 f3' df;generalize ((w.alloc (C #[I .u8 q,I V a,I V b,I V c] 99)).alloc (C #[I V e.1,Z x1 x2 x3,Z y1 y2 y3] 261))=w2 at*
 go_upto_region 3 with fail
 generalize (if u3=1 then M (⟨eb,fM,O⟩:Addr)else M ⟨eb,fM+3,O⟩)=ts at*;obtain⟨q1,q2,q3,q4⟩:=HS.out _ yU.out gG;clear d3b fr1 yU HS gG;generalize (w2.setCell ⟨dp,4,O⟩ (Z ts rest.length (u3-1)))=w3 at*;obtain⟨k0,k1,k2,-⟩:=kP q4;have RG:Hid (∀W,aL w3 W->_):=fun W hW=>HA.out W (x1,x2,x3) (y1,y2,y3) (q1.aN hW) (q2.2.1.aN hW) (q2.2.2.aN hW)
 simp only[bS.v]at RG
 have FC:Hid (∀w4 w5,aL w3 w4->Dk w4 w5 (TX dp tb) (TX dp tb)->aV w5 dp tb depth (bO (bJ m.1 e.1 (sz e.2.1)).1 e.1 e.2.2,m.2.1,rest,m.2.2.2)->∃(s1:Option Addr) (s2 s3:Nat),w5.cell? ⟨dp,0,O⟩=M (I V (depth:Int))/\w5.cell? ⟨dp,3,O⟩=M (Z s1 s2 s3)/\w5.cell? ⟨w.heap.size+1,0,O⟩=M (I V e.1)/\w5.cell? ⟨w.heap.size+1,1,O⟩=M (Z x1 x2 x3)/\w5.cell? ⟨w.heap.size+1,2,O⟩=M (Z y1 y2 y3)/\∀W',aL w5 W'->H K 245 #[.agg #[I V e.1,Z x1 x2 x3,Z y1 y2 y3],Z s1 s2 s3,I V (depth:Int)] W' fun v w'=> ∃y1 y2 y3,v=G (Z y1 y2 y3)/\w'.cell? ⟨dp,3,O⟩=M (Z s1 s2 s3)/\w'.frozen? ⟨dp,3,O⟩=false/\aV (w'.setCell ⟨dp,3,O⟩ (Z y1 y2 y3)) dp tb depth (bO (bJ m.1 e.1 (sz e.2.1)).1 e.1 e.2.2,(e::m.2.1).take depth,rest,m.2.2.2.1,m.2.2.2.2)/\Dk w (w'.setCell ⟨dp,3,O⟩ (Z y1 y2 y3)) (TX dp tb) (TX dp tb)):=fun w4 w5 hg hK hD=>by
  obtain⟨s1,s2,s3,c0,c4,hc⟩:=HP.out w5 (e.1,(x1,x2,x3),(y1,y2,y3)) hD ((q2.aN hg).tx (q1.aN hg) hK);have pY:=hK.1.at ((hg.block _ (aM q4)).trans q4) (by rintro(e|e)<;>omega);obtain⟨b0,b1,b2,-⟩:=kP pY;refine⟨s1,s2,s3,c0,c4,b0,b1,b2,fun W' hW=>(hc W' hW).mono ?_⟩;rintro v w' ⟨y1,y2,y3,rfl,r1,r2,r3,r4⟩;exact⟨y1,y2,y3,rfl,r1,r2,r3,(q3.trans ((Dk.dJ hg).trans hK)).trans r4⟩
 clear q1 q2 q3 q4 HP HA
 go_upto_region 4 with(first|(go_at_call 180;refine(RG.out w3 (aL.refl w3)).mono ?_;rintro v w5 ⟨g1,g2,g3,rfl,hD5,hK5⟩))
 obtain⟨s1,s2,s3,c0,c4,b0,b1,b2,hc⟩:=FC.out w3 w5 (aL.refl w3) hK5 hD5;have HC:Hid (∀W',aL w5 W'->_):=hc;clear hc k0 k1 k2 FC RG hD5 hK5
 go_region_law ((refine eD (by rfl) 245 _ _ (by rfl) _ (by simp[Act.eval];done) Sj ((HC.out _ (by repeat (first|exact aL.refl _|refine aL.drew ?_))).mono ?_);rintro v w7 ⟨z1,z2,z3,rfl,m4,mf4,hD,hK⟩;refine⟨_,rfl,?_⟩))
 all_goals go_wp2_with fail
 all_goals go_end0
 all_goals exact⟨rfl,hD,hK⟩
def TK:Nat->Int×Nat×Nat
 |0=>(73,201,202)
 |1=>(68,203,204)
 |2=>(85,205,206)
 |_=>(82,207,208)
def wX:Y:= .agg #[I .u8 73,.func (.func 201) #[] #[],.func (.func 202) #[] #[],I .u8 68,.func (.func 203) #[] #[],.func (.func 204) #[] #[],I .u8 85,.func (.func 205) #[] #[],.func (.func 206) #[] #[],I .u8 82,.func (.func 207) #[] #[],.func (.func 208) #[] #[]]
theorem Jh:H K 131 #[] w fun e w'=>e=G wX/\aL w w':=by
 unfold wX;go_enter Tryz.func131,Tryz.ntmps131
 go_wp2_with fail
 refine bodyPost_ret (v:= .agg #[I .u8 73,.func (.func 201) #[] #[],.func (.func 202) #[] #[],I .u8 68,.func (.func 203) #[] #[],.func (.func 204) #[] #[],I .u8 85,.func (.func 205) #[] #[],.func (.func 206) #[] #[],I .u8 82,.func (.func 207) #[] #[],.func (.func 208) #[] #[]]) (by simp[results,Tryz.results131,go_sem]) rfl ?_;exact⟨rfl,(aL.refl w).alloc _⟩
theorem Ji (w:F){k:Nat}(hk:k<4):(Instr.index 223 wX (I V (k:Int))).run K w= .ok (.agg #[I .u8 (TK k).1,.func (.func (TK k).2.1) #[] #[],.func (.func (TK k).2.2) #[] #[]]) w:=by
 have h:k=0\/k=1\/k=2\/k=3:=by omega
 rcases h with rfl|rfl|rfl|rfl<;>rfl
def NE (w:F)(v:Y)(q e:Int):Prop:=∃b,v= .iface 213 (U (M ⟨b,0,O⟩))/\w.heap[b]?=M (C #[I .u8 q,I V e] 217 (0,0))
theorem Py (k:Nat):0<=(TK k).1/\(TK k).1<256:=by
 match k with
 |0=>simp[TK]
 |1=>simp[TK]
 |2=>simp[TK]
 |k+3=>simp[TK]
theorem rW {J fm fd g:Nat}{most E:Int}{lb:Array Y}(hJ:J<4)(hT:TK J=(q,fm,fd))(hL:∀k,k<J->(TK k).1≠q)(em:∀(args:Array Y) (w:F),(callFunc fm args).run K w= .ok (.enter fm args) w)(hm:∀W,aL w W->H K fm #[U (M ⟨dp,0,O⟩),iD q a b c,I V most] W fun e w'=>e=G (I V E)/\aL W w')(hE:E≠0):
 H K 85 #[U (M ⟨dp,0,O⟩),iD q a b c,I V most,.func (.func g) #[] lb] w fun e w'=> ∃v,e=G v/\NE w' v q E/\aL w w':=by
 have HL:Hid (∀k,k<J->(TK k).1≠q):=hL;have HM:Hid (∀W,aL w W->H K fm #[U (M ⟨dp,0,O⟩),iD q a b c,I V most] W fun e w'=>e=G (I V E)/\aL W w'):=hm;have hE':(E==0)=false:=beq_eq_false_iff_ne.2 hE;clear hm hL;obtain⟨w1,jJ⟩:∃w1,w1=w.alloc (C #[I .u8 q,I V a,I V b,I V c] 99):=⟨_,rfl⟩;have fC:w1.heap[w.heap.size]?=M (C #[I .u8 q,I V a,I V b,I V c] 99 (0,0)):=by rw[jJ];exact heap_alloc_new w _
 have G1:Hid (aL w w1):=by show aL _ _;rw[jJ];exact(aL.refl w).alloc _
 have HB:Hid (∀W,aL w1 W->W.cell? ⟨w.heap.size,0,O⟩=M (I .u8 q)/\W.cell? ⟨w.heap.size,1,O⟩=M (I V a)/\W.cell? ⟨w.heap.size,2,O⟩=M (I V b)/\W.cell? ⟨w.heap.size,3,O⟩=M (I V c)):=fun W hW=>by
  have:=(hW.block _ (aM fC)).trans fC;simp[World.cell?,this]
 have hK:=Jh (w:=w1);have HX:Hid (∀(k:Nat),k<4->∀w,(Instr.index 223 wX (I V (k:Int))).run K w= .ok (.agg #[I .u8 (TK k).1,.func (.func (TK k).2.1) #[] #[],.func (.func (TK k).2.2) #[] #[]]) w):=fun k hk w=>Ji w hk
 generalize wX=kv at*;unfold iD at*;clear fC;go_enter Tryz.func85,Tryz.ntmps85
 go_upto_region 1 with fail
 rw[<-jJ];clear jJ
 go_upto_region 2 with(go_at_call 131;refine hK.mono ?_;rintro v w2 ⟨rfl,kJ⟩)
 have Hq:Hid (aL w1 w2):=kJ;clear kJ hK
 go_loopw [10,11,12,14] (fun _ _ _ i wr=> ∃k:Nat,k<=J/\i=I V (k:Int)/\Hid (aL w1 wr)) (fun _ _ _ i _=>4-(intOf i).toNat)
 case atStart=>exact⟨0,Nat.zero_le _,rfl,Hq.out⟩
 case round=>
  obtain⟨k,hk,rfl,HG⟩:=hrel;obtain⟨b0,b1,b2,b3⟩:=HB.out wr HG.out;by_cases hkJ:k<J
  ·have hx:=HX.out k (by omega);have hq:=HL.out k hkJ;have K_:((TK k).1==q)=false:=beq_eq_false_iff_ne.2 hq;have bT:(k:Int)<4:=by omega
   have hbo:=Py k;generalize TK k=t at*;obtain⟨t1,t2,t3⟩:=t;simp only at hx hq K_ hbo;obtain⟨c0,-⟩:=HB.out _ (HG.out.alloc (C #[I .u8 t1,.func (.func t2) #[] #[],.func (.func t3) #[] #[]] 222));clear hq b0 b1 b2 b3
   go_wp2_with fail
   go_roundw
   case rel=>exact⟨k+1,by omega,by go_num,(show aL w1 _ from HG.out.alloc _)⟩
   case measure=>simp[intOf];omega
  ·have z_:k=J:=by omega
   subst z_;have hx:=HX.out k hJ;rw[hT]at hx;simp only at hx;have bT:(k:Int)<4:=by omega
   have gA:=HG.out.alloc (C #[I .u8 q,.func (.func fm) #[] #[],.func (.func fd) #[] #[]] 222);obtain⟨c0,c1,c2,c3⟩:=HB.out _ gA;have Xo:=heap_alloc_new wr (C #[I .u8 q,.func (.func fm) #[] #[],.func (.func fd) #[] #[]] 222);have k0:(wr.alloc (C #[I .u8 q,.func (.func fm) #[] #[],.func (.func fd) #[] #[]] 222)).cell? ⟨wr.heap.size,1,O⟩=M (.func (.func fm) #[] #[]):=by simp only[World.cell?,Xo];rfl
   have hmc:=HM.out _ (G1.out.then gA);clear b0 b1 b2 b3
   go_upto_region 4 with fail
   have GA:Hid (aL w1 (wr.alloc (C #[I .u8 q,.func (.func fm) #[] #[],.func (.func fd) #[] #[]] 222))):=gA;clear gA HG;have k9:(wr.alloc (C #[I .u8 q,.func (.func fm) #[] #[],.func (.func fd) #[] #[]] 222)).cell? ⟨wr.heap.size,0,O⟩=M (I .u8 q):=by simp only[World.cell?,Xo];rfl
   generalize (wr.alloc (C #[I .u8 q,.func (.func fm) #[] #[],.func (.func fd) #[] #[]] 222))=wa at*
   go_wp2_with (first|(go_at_fn fm;refine hmc.mono ?_;rintro v w5 ⟨rfl,fQ⟩;obtain⟨l0,-⟩:=HB.out w5 (GA.out.then fQ)))
   go_ret;exact⟨_,rfl,⟨_,rfl,heap_alloc_new w5 _⟩,(G1.out.then (GA.out.then fQ)).alloc _⟩
end Go.Proofs.YtfplgfodoiiobaaGreatDoor
