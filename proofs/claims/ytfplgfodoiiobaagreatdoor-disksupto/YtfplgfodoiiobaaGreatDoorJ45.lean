/- RpB, SwA (joined). -/
import Derived.Test.YtfplgfodoiiobaaGreatDoorJ41
import Derived.Test.YtfplgfodoiiobaaGreatDoorJ43
import Derived.Test.YtfplgfodoiiobaaGreatDoorJ44
open Option renaming none→O,some→M
open Go.Value renaming int→I,slice→Z,pointer→U
open Go.IntKind renaming i64→V
open Go.Obj renaming cells→C
open Go.Ending renaming returned→G
open Go renaming World→F,Value→Y,Calls→H
open Go.Proofs.Tryz renaming prog→K
namespace Go.Proofs.YtfplgfodoiiobaaGreatDoor
set_option maxHeartbeats 8000000
set_option maxRecDepth 100000
open Go.RowKit
variable {w w' wr:F}{s s1:Sc}{fs mM:List bE}{m m0 m1:dF}{xb b B mb:Nat}{f f1:bS}{aS:Array Y}{e0 gk:Int}
structure BG (w wr:F)(xb mb:Nat)(r:fF)(m0:dF)(s:Sc)(fs:List bE)(m:dF)(f f1:bS):Prop where
 st:bH wr xb s fs m f1
 did:jN w wr xb f f1
 mod:wr.heap[mb]?=M (bK r.1.v r.2.1.v r.2.2.1.v (I V r.2.2.2.1) (I V r.2.2.2.2))
 Dv:dQ wr r m0
theorem BG.more {wr':F}{r:fF}(h:BG w wr xb mb r m0 s fs m f f1)(hg:aL wr wr'):BG w wr' xb mb r m0 s fs m f f1:=
 ⟨h.st.aN hg,h.did.aN hg,(hg.block _ (aM h.mod)).trans h.mod,h.Dv.aN hg⟩
theorem SI {f':bS}(hS:bH w xb s fs m f)(hd:jN w w' xb f f'){t:TypeId}(n1:t≠189)(n2:t≠193)(hb:w.heap[b]?=M (C aS t (0,0))):¬(b=xb\/∃a,f.1=M a/\b=a.block):=by
 obtain⟨r0,hx,hf,-⟩:=hS;intro hX;rcases hX with rfl|⟨a,e,rfl⟩
 ·exact bX hb hx (gJ n1)
 ·obtain⟨cu,hh⟩:=hf.1.2 a e;exact bX hb hh (gJ n2)
theorem BG.after {wr':F}{r:fF}{s':Sc}{fZ:List bE}(h:BG w wr xb mb r m0 s fs m f f1)(ha:After wr wr' xb s' fZ m f1):∃f2,BG w wr' xb mb r m0 s' fZ m f f2/\jN wr wr' xb f1 f2:=by
 obtain⟨f2,hs,hd⟩:=ha;exact⟨f2,⟨hs,h.did.trans hd,hd.1.at h.mod (SI h.st hd (by decide) (by decide) h.mod),jN.Dv h.st h.Dv hd⟩,hd⟩
theorem iP.did {f':bS}{v:Y}{l:List Int}(h:iP w B v l)(hS:bH w xb s fs m f)(hd:jN w w' xb f f'):iP w' B v l:=
 bI h hd.1 (fun g aS e hc=>SI hS hd (by decide) (by decide) hc)
theorem OO {e:Int}{k:Nat}{f:bE}(h:fs[k]?=M f):gK (fs.take (k+1)) e=gK (fs.take k) e++(if (f.1 !=1 && f.1 !=10+e && (f.1 !=2||e==0))=true then [f.1]else []):=by
 obtain⟨hl,he⟩:=List.getElem?_eq_some_iff.1 h;unfold gK;rw[List.take_succ_eq_append_getElem hl,List.map_append,List.filter_append,he];congr 1;simp only[List.map_cons,List.map_nil,List.filter_cons,List.filter_nil]
theorem h_:∀(args:Array Y) (w:F),(callFunc 166 args).run K w= .ok (.enter 166 args) w:=enters_of Tryz.func166 (by kernel_rfl) rfl
theorem WS:∀(args:Array Y) (w:F),(callFunc 168 args).run K w= .ok (.enter 168 args) w:=enters_of Tryz.func168 (by kernel_rfl) rfl
theorem BG.open {r:fF}(h:BG w wr xb mb r m0 s fs m f f1):BG w (wr.setCell ⟨xb,10,O⟩ (.bool true)) xb mb r m0 { s with aX:=true } fs m f f1:=by
 obtain⟨⟨rx,hx,hf,hm⟩,h2,h3,h4⟩:=h;exact⟨⟨rx,Ch true hx,hf.iV hx,hm.iV hx⟩,h2.set,(Fr.set wr ⟨xb,10,O⟩ _).at h3 (fun e=>by subst e;exact bX h3 hx (gJ (by decide))),h4.iV hx⟩
def Vo (s:Sc)(fs:List bE)(m:dF)(e0:Int)(m1:dF)(gk:Int):St×Int:=
 let r:=gB { s with aX:=true } fs (gK fs e0);if r.1=false then ((r.2.1,r.2.2,m),10)else
 let r2:=bP r.2.1 r.2.2 (10+e0) gk;if r2.1=false then ((r2.2.1,r2.2.2,m),10)else
 let r3:=bP r2.2.1 r2.2.2 1 m1.2.2.2.2;if r3.1=false then ((r3.2.1,r3.2.2,m),10)else (({ r3.2.1 with ro:=false,bC:=e0 },r3.2.2,m1),0)
theorem begT_a {r:Bool×Sc×List bE}(h:gB { s with aX:=true } fs (gK fs e0)=r)(h1:r.1=false):Vo s fs m e0 m1 gk=((r.2.1,r.2.2,m),10):=by
 unfold Vo;simp only[h,h1,if_true]
theorem begT_b (h:gB { s with aX:=true } fs (gK fs e0)=(true,s1,mM))(h1:(bP s1 mM (10+e0) gk).1=false):Vo s fs m e0 m1 gk=(((bP s1 mM (10+e0) gk).2.1,(bP s1 mM (10+e0) gk).2.2,m),10):=by
 unfold Vo;simp only[h,h1,if_true,Bool.true_eq_false,if_false]
theorem begT_c (h:gB { s with aX:=true } fs (gK fs e0)=(true,s1,mM))(h1:(bP s1 mM (10+e0) gk).1=true)(h2:(bP (bP s1 mM (10+e0) gk).2.1 (bP s1 mM (10+e0) gk).2.2 1 m1.2.2.2.2).1=false):Vo s fs m e0 m1 gk=(((bP (bP s1 mM (10+e0) gk).2.1 (bP s1 mM (10+e0) gk).2.2 1 m1.2.2.2.2).2.1,(bP (bP s1 mM (10+e0) gk).2.1 (bP s1 mM (10+e0) gk).2.2 1 m1.2.2.2.2).2.2,m),10):=by
 unfold Vo;simp only[h,h1,h2,if_true,Bool.true_eq_false,if_false]
theorem begT_d (h:gB { s with aX:=true } fs (gK fs e0)=(true,s1,mM))(h1:(bP s1 mM (10+e0) gk).1=true)(h2:(bP (bP s1 mM (10+e0) gk).2.1 (bP s1 mM (10+e0) gk).2.2 1 m1.2.2.2.2).1=true):Vo s fs m e0 m1 gk=(({ (bP (bP s1 mM (10+e0) gk).2.1 (bP s1 mM (10+e0) gk).2.2 1 m1.2.2.2.2).2.1 with ro:=false,bC:=e0 },(bP (bP s1 mM (10+e0) gk).2.1 (bP s1 mM (10+e0) gk).2.2 1 m1.2.2.2.2).2.2,m1),0):=by
 unfold Vo;simp only[h,h1,h2,Bool.true_eq_false,if_false]
theorem WT {L:List Int}{k:Nat}{n:Int}(h:L[k]?=M n):gB s fs (L.drop k)=if (bP s fs n 0).1=true then gB (bP s fs n 0).2.1 (bP s fs n 0).2.2 (L.drop (k+1))else bP s fs n 0:=by
 obtain⟨hl,he⟩:=List.getElem?_eq_some_iff.1 h;rw[List.drop_eq_getElem_cons hl,he];rfl
theorem Ob {r:fF}(n:Int)(h:w.heap[xb]?=M (bM s f r)):(w.setCell ⟨xb,12,O⟩ (I V n)).heap[xb]?=M (bM { s with bC:=n } f r):=by rw[heap_setCell_same w xb 12 _ _ _ h];rfl
theorem BG.close {r:fF}(h:BG w wr xb mb r m0 s fs m f f1)(e0:Int):
 After w (((((((wr.setCell ⟨xb,11,O⟩ (.bool false)).setCell ⟨xb,12,O⟩ (I V e0)).setCell ⟨xb,13,O⟩ r.1.v).setCell ⟨xb,14,O⟩ r.2.1.v).setCell ⟨xb,15,O⟩ r.2.2.1.v).setCell ⟨xb,16,O⟩ (I V r.2.2.2.1)).setCell ⟨xb,17,O⟩ (I V r.2.2.2.2)) xb { s with ro:=false,bC:=e0 } fs m0 f:=by
 obtain⟨⟨rx,hx,hf,hm⟩,h2,-,h4⟩:=h;have x1:=sM false hx;have x2:=Ob e0 x1;have S2:bH ((wr.setCell ⟨xb,11,O⟩ (.bool false)).setCell ⟨xb,12,O⟩ (I V e0)) xb { s with ro:=false,bC:=e0 } fs m f1:=⟨rx,x2,(hf.iV hx).iV x1,(hm.iV hx).iV x1⟩;have q:=sN S2 ((h4.iV hx).iV x1);exact⟨f1,q.1,((h2.set).set).trans q.2⟩
theorem WU (h:bH w xb s fs m f)(hB:BK s fs):
 H K 112 #[U (M ⟨xb,0,O⟩)] w fun e w'=>e=G (I V (iZ (s,fs,m)).2)/\After w w' xb (iZ (s,fs,m)).1.1 (iZ (s,fs,m)).1.2.1 (iZ (s,fs,m)).1.2.2 f:=by
 have hlen:fs.length<=50:=hB.len;have sF:=hB.dX.kM;have hlb:((aP fs 1).size:Int)<=1000000:=by have:=gM hB.inv 1;omega
 have wC:w.cell? ⟨xb,10,O⟩=M (.bool s.aX):=by obtain⟨r,hx,-⟩:=h;simp[World.cell?,hx,bM]
 cases ho:s.aX with
 |true=>
  rw[ho]at wC;have e:iZ (s,fs,m)=((s,fs,m),2):=by unfold iZ;rw[if_pos ho]
  rw[e];go_enter Tryz.func112,Tryz.ntmps112
  go_wp2_with fail
  go_ret;exact⟨rfl,f,h,jN.refl _ _ _⟩
 |false=>
  rw[ho]at wC;have hck:=WR h (by omega) hB.dX hB.inv;cases hem:jG (aP fs 2) ((aP fs 1).size:Int) s.depth.toNat with
  |none=>
   rw[hem]at hck;have e:iZ (s,fs,m)=((s,fs,m),11):=by unfold iZ;rw[if_neg (by simp[ho])];simp only[hem]
   rw[e];have HA:Hid (∀W,aL w W->After w W xb s fs m f):=fun W hW=>⟨f,h.aN hW,(jN.refl w xb f).aN hW⟩
   clear e h hem;go_enter Tryz.func112,Tryz.ntmps112
   go_wp2_with (go_at_call 167;refine hck.mono ?_;rintro e w1 ⟨rfl,iH⟩;unfold Rv fF.v;simp only[bS.v])
   go_ret;exact⟨rfl,HA.out _ (iH.alloc _)⟩
  |some em=>
   rw[hem]at hck;obtain⟨-,z1,z2,z3,z4,z5⟩:=Db ((yw fs s.depth.toNat).trans hem) hlb;obtain⟨e0,m0⟩:=em;simp only at z1 z2 z3 z4 z5;obtain⟨J,hJ⟩:∃J,J=aP fs (10+e0):=⟨_,rfl⟩;have hJz:J.size<=1000000:=by rw[hJ];have:=gM hB.inv (10+e0);omega
   obtain⟨g,qE⟩:∃g,g=iK ((aP fs 1).size:Int) s.depth.toNat (J.size / 22+1) m0 J.data.toList:=⟨_,rfl⟩;obtain⟨gk,hgk⟩:∃gk:Int,gk=((22*g.2:Nat):Int):=⟨_,rfl⟩;have hgk0:0<=gk:=by omega
   have HBE:Hid (iZ (s,fs,m)=Vo s fs m e0 g.1 gk):=by
    show _=_;unfold Vo;unfold iZ;rw[if_neg (by simp[ho])];simp only[hem];have hjl:(aP fs (10+e0)).data.toList.length=J.size:=by rw[hJ];simp
    rw[hjl,<-hJ,<-qE,<-hgk]
   have HRp:Hid (∀W (r0:fF),aL w W->dQ W r0 m0->H K 168 #[U (M ⟨xb,0,O⟩),r0.v,.string J] W fun e w'=> ∃r':fF,e=G (.tuple #[r'.v,I V gk])/\dQ w' r' g.1/\aL W w'):=fun W r0 hW hm0=>by
    have:=OI (h.aN hW) (by omega) hB.dX hB.inv hm0 z1 z2 hJz;rw[<-qE,<-hgk]at this;exact this
   have HBy:Hid (∀W,aL w W->H K 166 #[U (M ⟨xb,0,O⟩),I V (10+e0)] W fun e w'=>e=G (.string J)/\w'=W):=fun W hW=>by
    obtain⟨rx,hx,hf,-⟩:=h.aN hW;rw[hJ];exact vF hx hf (by omega)
   have RY:0<=g.1.2.2.2.2:=by
    have q:=(Jw hlb s.depth.toNat (J.size / 22+1) m0 J.data.toList z1 z3).1.Eh;rw[OE,<-qE]at q;exact q
   have HW:Hid (bH w xb s fs m f):=h;have EP:IntKind.i64.wrap (10+e0)=10+e0:=by rw[IntKind.wrap_i64];omega
   clear hem h qE hJ hgk;go_enter Tryz.func112,Tryz.ntmps112
   go_upto_region 7 with(go_at_call 167;refine hck.mono ?_;rintro e w1 ⟨⟨r1,rfl,Bo⟩,iH⟩;obtain⟨⟨a1,a2,a3⟩,⟨a4,a5,a6⟩,⟨a7,a8,a9⟩,dn,bf⟩:=r1;unfold fF.v;simp only[bS.v])
   obtain⟨w2,Dy⟩:∃w2,w2=w1.alloc (bK (Z a1 a2 a3) (Z a4 a5 a6) (Z a7 a8 a9) (I V dn) (I V bf)):=⟨_,rfl⟩;have G2:aL w w2:=by rw[Dy];exact iH.alloc _
   have G12:aL w1 w2:=by rw[Dy];exact(aL.refl w1).alloc _
   have Yx:w2.heap[w1.heap.size]?=M (bK (Z a1 a2 a3) (Z a4 a5 a6) (Z a7 a8 a9) (I V dn) (I V bf)):=by rw[Dy];exact heap_alloc_new w1 _
   have hM2:dQ w2 ((a1,a2,a3),(a4,a5,a6),(a7,a8,a9),dn,bf) m0:=Bo.aN G12;have hmb:w.heap.size<=w1.heap.size:=iH.size;unfold bK at Dy;rw[<-Dy];clear Dy G12 Bo iH hck;obtain⟨y0,y1,y2,y3,y4,f0,f1,f2,f3,f4⟩:=aT Yx;generalize w1.heap.size=mb at*
   have HR7:Hid (∀W,aL w2 W->H K 168 #[U (M ⟨xb,0,O⟩),.agg #[Z a1 a2 a3,Z a4 a5 a6,Z a7 a8 a9,I V dn,I V bf],.string J] W fun e w'=> ∃b1 b2 b3 b4 b5 b6 b7 b8 b9 Nb Aq,e=G (.tuple #[.agg #[Z b1 b2 b3,Z b4 b5 b6,Z b7 b8 b9,I V Nb,I V Aq],I V gk])/\dQ w' ((b1,b2,b3),(b4,b5,b6),(b7,b8,b9),Nb,Aq) g.1/\aL w2 w'):=fun W hW=>by
    refine(HRp.out W ((a1,a2,a3),(a4,a5,a6),(a7,a8,a9),dn,bf) (aQ G2 hW) (hM2.aN hW)).mono ?_;rintro e w' ⟨⟨⟨b1,b2,b3⟩,⟨b4,b5,b6⟩,⟨b7,b8,b9⟩,Nb,Aq⟩,rfl,k1,k2⟩;exact⟨b1,b2,b3,b4,b5,b6,b7,b8,b9,Nb,Aq,rfl,k1,aQ hW k2⟩
   have HB7:Hid (∀W,aL w2 W->H K 166 #[U (M ⟨xb,0,O⟩),I V (10+e0)] W fun e w'=>e=G (.string J)/\w'=W):=fun W hW=>HBy.out W (aQ G2 hW)
   clear HRp HBy
   go_cut [7] (fun v wc=>v=I V gk/\∃r2,BG w wc xb mb r2 g.1 s fs m f f)
   case first=>
    go_region_law (first
     |(refine He (by rfl) 166 _ _ (by rfl) _ (by first|(simp[Act.eval];done)|(simp[Act.eval,Act.put];done)) h_ ((HB7.out _ (by repeat (first|exact aL.refl _|refine aL.drew ?_))).mono ?_);rintro v w' ⟨rfl,rfl⟩;refine⟨_,rfl,?_⟩)|(refine He (by rfl) 168 _ _ (by rfl) #[U (M ⟨xb,0,O⟩),.agg #[Z a1 a2 a3,Z a4 a5 a6,Z a7 a8 a9,I V dn,I V bf],.string J] (by first|(simp[Act.eval];done)|(simp[Act.eval,Act.put];done)) WS ((HR7.out _ (by repeat (first|exact aL.refl _|refine aL.drew ?_))).mono ?_);rintro v w7 ⟨b1,b2,b3,b4,b5,b6,b7,b8,b9,Nb,Aq,rfl,Zd,oO⟩;have hm7':=(oO.block _ (aM Yx)).trans Yx;obtain⟨v0,v1,v2,v3,v4,k0,k1,k2,k3,k4⟩:=aT hm7';refine⟨_,rfl,?_⟩))
    all_goals go_wp2_with fail
    all_goals go_meet
    all_goals
     have ga:=bZ (aQ G2 oO) hmb (Z b1 b2 b3) (Z b4 b5 b6) (Z b7 b8 b9) (I V Nb) (I V Aq);exact⟨rfl,((b1,b2,b3),(b4,b5,b6),(b7,b8,b9),Nb,Aq),⟨HW.out.aN ga,(jN.refl w xb f).aN ga,lM hm7' _ _ _ _ _,Zd.Vb hm7' _ _ _ _ _⟩⟩
   case rest=>
    obtain⟨rfl,r2,HBG⟩:=hcut
    rename F=>wc
    clear HR7 HB7 Yx hM2 y0 y1 y2 y3 y4 f0 f1 f2 f3 f4 G2 hmb wC;have hxs:∃rx,wc.heap[xb]?=M (bM s f rx):=by obtain⟨rx,hx,-⟩:=HBG.st;exact⟨rx,hx⟩
    obtain⟨rx,hx⟩:=hxs;have d10:wc.cell? ⟨xb,10,O⟩=M (.bool s.aX):=by simp[World.cell?,hx,bM]
    have f10:wc.frozen? ⟨xb,10,O⟩=false:=by simp[World.frozen?,hx,bM]
    have HB1:Hid (BG w (wc.setCell ⟨xb,10,O⟩ (.bool true)) xb mb r2 g.1 { s with aX:=true } fs m f f):=HBG.open
    go_upto_region 9 with fail
    obtain⟨w3,hw3⟩:∃w3,w3=wc.setCell ⟨xb,10,O⟩ (.bool true):=⟨_,rfl⟩;rw[<-hw3]at HB1 ⊢;clear hw3 d10 f10 hx HBG;obtain⟨rx3,zH,Km,-⟩:=HB1.out.st;have x3:=iX zH;obtain⟨fo,fl,fc⟩:=f;obtain⟨k1,k2,k3⟩:=Km;simp only at k1 k2 k3;subst k2;simp only[bS.v]at x3;have HK1:Hid (Uq w3 fo fs):=k1;clear zH k1 k3
    go_wp2_with fail
    go_loopw [8,9,10] (fun v i _ wr=> ∃k:Nat,k<=fs.length/\i=I V (k:Int)/\Hid (iP wr w3.heap.size v (gK (fs.take k) e0)/\aL w3 wr)) (fun _ i _ _=>fs.length-(intOf i).toNat)
    case atStart=>exact⟨0,Nat.zero_le _,rfl,World.ownsRow_nil _ _ _ _,aL.refl w3⟩
    case round=>
     obtain⟨k,hk,rfl,HO⟩:=hrel;obtain⟨qP,qV,ev,-⟩:=iP.form HO.out.1;subst ev;have x3':=HO.out.2.cell x3;by_cases bT:k<fs.length
     ·obtain⟨fk,TR⟩:∃f,fs[k]?=M f:=⟨_,List.getElem?_eq_getElem bT⟩;obtain⟨b,off,rfl,d1,-,-⟩:=HK1.out.at TR;have d1':=HO.out.2.cell d1;have i1:(0:Int)<=(k:Int):=by omega
      have i2:(k:Int)<(fs.length:Int):=by omega
      have HN:=OO (e:=e0) TR;clear TR x3 d1;obtain⟨n,hn⟩:∃n,n=fk.1:=⟨_,rfl⟩;rw[<-hn]at HN d1';clear hn;cases hb:(n !=1 && n !=10+e0 && (n !=2||e0==0))with
      |false=>
       rw[hb]at HN;simp only[Bool.false_eq_true,if_false,List.append_nil]at HN;have HN:Hid (gK (fs.take (k+1)) e0=gK (fs.take k) e0):=HN;have HX:Hid (∃wz,aL wr wz):=⟨wr,aL.refl wr⟩
       have hcs:n=1\/(n≠1/\n=10+e0)\/(n≠1/\n≠10+e0/\n=2/\e0≠0):=by
        simp only[bne,Bool.and_eq_false_iff,Bool.not_eq_false',beq_iff_eq,Bool.or_eq_false_iff]at hb;have gG:=hb;by_cases q1:n=1
        ·exact Or.inl q1
        by_cases q2:n=10+e0
        ·exact Or.inr (Or.inl ⟨q1,q2⟩)
        by_cases q3:n=2
        ·by_cases q4:e0=0
         ·simp[q3,q4]at hb
         ·exact Or.inr (Or.inr ⟨q1,q2,q3,q4⟩)
        ·simp[q1,q2,q3]at hb
       clear hb;have HF:Hid (∀n',n'=k+1->Hid (iP wr w3.heap.size (Z qP (gK (fs.take k) e0).length qV) (gK (fs.take n') e0)/\aL w3 wr)):=fun n' e=>by rw[e,HN.out];exact HO
       have hz:(n !=1 && n !=10+e0 && (n !=2||e0==0))=false:=by
        rcases hcs with q|⟨q1,q2⟩|⟨q1,q2,q3,q4⟩
        ·simp[q]
        ·simp[q2]
        ·simp[q3,q4]
       cases b1:(n==1)with
       |true=>
        have c1:(n !=1)=false:=by simp only[bne,b1];rfl
        clear hcs hz
        go_wp2_with fail
        go_roundw
        case rel=>exact⟨k+1,by omega,by go_num,HF.out _ rfl⟩
        case measure=>simp[intOf];omega
       |false=>
        have c1:(n !=1)=true:=by simp only[bne,b1];rfl
        cases b2:(n==10+e0)with
        |true=>
         have c2:(n !=10+e0)=false:=by simp only[bne,b2];rfl
         clear hcs hz
         go_wp2_with fail
         go_roundw
         case rel=>exact⟨k+1,by omega,by go_num,HF.out _ rfl⟩
         case measure=>simp[intOf];omega
        |false=>
         have c2:(n !=10+e0)=true:=by simp only[bne,b2];rfl
         have b3:(n==2)=true:=by
          have b1':¬n=1:=by simpa using b1
          have b2':¬n=10+e0:=by simpa using b2
          simp;omega
         have c3:(n !=2)=false:=by simp only[bne,b3];rfl
         have b4:(e0==0)=false:=by
          have b1':¬n=1:=by simpa using b1
          have b2':¬n=10+e0:=by simpa using b2
          simp;omega
         clear hcs hz
         go_wp2_with fail
         go_roundw
         case rel=>exact⟨k+1,by omega,by go_num,HF.out _ rfl⟩
         case measure=>simp[intOf];omega
      |true=>
       rw[hb]at HN;simp only[if_true]at HN;have HN:Hid (gK (fs.take (k+1)) e0=gK (fs.take k) e0++ [n]):=HN;simp only[Bool.and_eq_true,Bool.or_eq_true]at hb;obtain⟨⟨c1,c2⟩,c3⟩:=hb;have b1:(n==1)=false:=by simpa[bne]using c1
       have b2:(n==10+e0)=false:=by simpa[bne]using c2
       have Mt:(gK (fs.take k) e0).length<=1000000:=by
        have q1:(gK (fs.take k) e0).length<=((fs.take k).map (fun f=>f.1)).length:=List.length_filter_le _ _;simp at q1;omega
       have vB:Vw (wr.alloc (C #[I V n] 3)) (M ⟨wr.heap.size,0,O⟩) [n]:=Or.inr ⟨wr.heap.size,0,rfl,fun i hi=>by
        have:i=0:=by simp at hi;omega
        subst this;simp⟩
       have hws:w3.heap.size<=wr.heap.size:=HO.out.2.size
       have HE:Hid (∀v5 w5,iP w5 w3.heap.size v5 (gK (fs.take k) e0++ [n])->(wr.alloc (C #[I V n] 3)).grownBy w5 (Value.slice qP (gK (fs.take k) e0).length qV).ownBlock->Hid (iP w5 w3.heap.size v5 (gK (fs.take (k+1)) e0)/\aL w3 w5)):=fun v5 w5 cO fQ=>by
        refine⟨by rw[HN.out];exact cO,?_⟩;have h1:=kV fQ;refine⟨h1.os.trans HO.out.2.os,h1.tape.trans HO.out.2.tape,h1.output.trans HO.out.2.output,Nat.le_trans HO.out.2.size h1.size,fun k hk=>?_⟩;rw[<-HO.out.2.block k hk];refine h1.block k (Nat.lt_of_lt_of_le hk HO.out.2.size) (fun e=>?_);have:=(World.ownsRow.lt HO.out.1 k e.symm).1;omega
       cases b3:(n==2)with
       |true=>
        have c4:(n !=2)=false:=by simp only[bne,b3];rfl
        have b4:(e0==0)=true:=by
         rcases c3 with c3|c3
         ·rw[c4]at c3;cases c3
         ·exact c3
        clear c3
        go_wp2_with (at_builtin;go_must (refine vS (by rfl) (.tmp 70) (.tmp 72) (by rfl) w3.heap.size _ (gK (fs.take k) e0) [n] (by rfl) (by exact World.ownsRow.alloc HO.out.1 _) _ _ _ (by rfl) (by rfl) (by intro e;cases e) (by exact vB) (by simp only[List.length_singleton];omega) (by simp;omega) ?_);intro v5 w5 cO fQ)
        go_roundw
        case rel=>exact⟨k+1,by omega,by go_num,HE.out _ _ cO fQ⟩
        case measure=>simp[intOf];omega
       |false=>
        have c4:(n !=2)=true:=by simp only[bne,b3];rfl
        clear c3
        go_wp2_with (at_builtin;go_must (refine vS (by rfl) (.tmp 70) (.tmp 72) (by rfl) w3.heap.size _ (gK (fs.take k) e0) [n] (by rfl) (by exact World.ownsRow.alloc HO.out.1 _) _ _ _ (by rfl) (by rfl) (by intro e;cases e) (by exact vB) (by simp only[List.length_singleton];omega) (by simp;omega) ?_);intro v5 w5 cO fQ)
        go_roundw
        case rel=>exact⟨k+1,by omega,by go_num,HE.out _ _ cO fQ⟩
        case measure=>simp[intOf];omega
     ·have HL:Hid (iP wr w3.heap.size (Z qP (gK fs e0).length qV) (gK fs e0)/\BG w wr xb mb r2 g.1 { s with aX:=true } fs m (fo,fs.length,fc) (fo,fs.length,fc)):=by
       have q:=HO.out;rw[List.take_of_length_le (by omega)]at q;exact⟨q.1,HB1.out.more q.2⟩
      have e8:(gK (fs.take k) e0).length=(gK fs e0).length:=by rw[List.take_of_length_le (by omega)]
      rw[e8];clear HO HB1 HK1 x3 e8
      have Mt:(gK fs e0).length<=50:=by
       have q1:(gK fs e0).length<=(fs.map (fun f=>f.1)).length:=List.length_filter_le _ _;simp at q1;omega
      have HBK:Hid (BK { s with aX:=true } fs):=⟨⟨hB.dX.Rp,hB.dX.Ng,hB.dX.wO,hB.dX.wP,hB.dX.Ws,hB.dX.kM,hB.dX.oH,hB.dX.Om,hB.dX.UB,hB.dX.Av,hB.dX.Wt,hB.dX.Ey,hB.dX.Ir,hB.dX.qM,hB.dX.rJ⟩,hB.Ov,hB.inv,hB.len⟩;obtain⟨L,hLL⟩:∃L,L=gK fs e0:=⟨_,rfl⟩;have HLL:Hid (L=gK fs e0):=hLL;rw[<-hLL]at HL Mt ⊢;clear hLL
      go_wp2_with fail
      clear x3'
      go_loopw [5,11] (fun o i wq=> ∃(k:Nat) (s1:Sc) (mM:List bE) (f1:bS),k<=L.length/\o= .bool true/\i=I V (k:Int)/\Hid (iP wq w3.heap.size (Z qP L.length qV) L/\BG w wq xb mb r2 g.1 s1 mM m (fo,fs.length,fc) f1/\BK s1 mM/\gB { s with aX:=true } fs L=gB s1 mM (L.drop k))) (fun _ i _=>L.length-(intOf i).toNat)
      case atStart=>exact⟨0,_,_,_,Nat.zero_le _,rfl,rfl,HL.out.1,HL.out.2,HBK.out,by simp⟩
      case round=>
       obtain⟨k,s1,mM,f1,hk,rfl,rfl,HI⟩:=hrel;clear HL;by_cases bT:k<L.length
       ·obtain⟨n,hn⟩:∃n,L[k]?=M n:=⟨_,List.getElem?_eq_getElem bT⟩;obtain⟨ao4,cap4,ev,yR,-⟩:=iP.form HI.out.1;cases ev
        rcases yR with e|⟨b,off,rfl,hc⟩
        ·rw[e]at bT;simp at bT
        ·have d1:=hc k bT;have e1:L.getD k 0=n:=by rw[List.getD_eq_getElem?_getD,hn];rfl
         rw[e1]at d1;have i1:(0:Int)<=(k:Int):=by omega
         have i2:(k:Int)<(L.length:Int):=by omega
         have HCN:=WT (s:=s1) (fs:=mM) hn;have hlen1:=HI.out.2.2.1.len;have HC:=Zb (n:=n) (k:=0) HI.out.2.1.st (by omega) HI.out.2.2.1.dX HI.out.2.2.1.inv (Int.le_refl 0);clear hc hn e1;cases hr:(bP s1 mM n 0).1 with
         |false=>
          rw[hr]at HC
          have HX:Hid (iZ (s,fs,m)=(((bP s1 mM n 0).2.1,(bP s1 mM n 0).2.2,m),10)):=by
           show _=_;rw[HBE.out];refine begT_a (r:=bP s1 mM n 0) ?_ hr;rw[<-HLL.out,HI.out.2.2.2,HCN,if_neg (by rw[hr];simp)]
          clear HCN
          go_wp2_with (go_at_call 169;refine HC.mono ?_;rintro e w8 ⟨rfl,ha⟩)
          go_ret;rw[HX.out];obtain⟨f2,gG,-⟩:=HI.out.2.1.after ha;exact⟨rfl,f2,gG.st,gG.did⟩
         |true=>
          rw[hr]at HC
          have HX:Hid (∀n',n'=k+1->gB { s with aX:=true } fs L=gB (bP s1 mM n 0).2.1 (bP s1 mM n 0).2.2 (L.drop n')):=fun n' e=>by
           rw[e,HI.out.2.2.2,HCN,if_pos hr]
          clear HCN
          go_wp2_with (go_at_call 169;refine HC.mono ?_;rintro e w8 ⟨rfl,ha⟩)
          obtain⟨f2,gG,ZV⟩:=HI.out.2.1.after ha;have HF:Hid (iP w8 w3.heap.size (Z (M ⟨b,off,O⟩) L.length qV) L/\BG w w8 xb mb r2 g.1 (bP s1 mM n 0).2.1 (bP s1 mM n 0).2.2 m (fo,fs.length,fc) f2/\BK (bP s1 mM n 0).2.1 (bP s1 mM n 0).2.2):=⟨iP.did HI.out.1 HI.out.2.1.st ZV,gG,(Gy HI.out.2.2.1 n (Int.le_refl 0)).1⟩;go_roundw
          case rel=>exact⟨k+1,_,_,f2,by omega,rfl,by go_num,HF.out.1,HF.out.2.1,HF.out.2.2,HX.out _ rfl⟩
          case measure=>simp[intOf];omega
       ·have HX:Hid (gB { s with aX:=true } fs (gK fs e0)=(true,s1,mM)):=by
         show _=_;rw[<-HLL.out,HI.out.2.2.2,List.drop_eq_nil_of_le (by omega)];rfl
        have hlen1:=HI.out.2.2.1.len;have HC:=Zb (n:=10+e0) (k:=gk) HI.out.2.1.st (by omega) HI.out.2.2.1.dX HI.out.2.2.1.inv hgk0;have HBI:Hid (BG w wr xb mb r2 g.1 s1 mM m (fo,fs.length,fc) f1/\BK s1 mM):=⟨HI.out.2.1,HI.out.2.2.1⟩;clear HI;cases hr:(bP s1 mM (10+e0) gk).1 with
        |false=>
         rw[hr]at HC;have HE:Hid (iZ (s,fs,m)=(((bP s1 mM (10+e0) gk).2.1,(bP s1 mM (10+e0) gk).2.2,m),10)):=HBE.out.trans (begT_b HX.out hr)
         go_wp2_with (go_at_call 169;refine HC.mono ?_;rintro e w8 ⟨rfl,ha⟩)
         go_ret;rw[HE.out];obtain⟨f2,gG,-⟩:=HBI.out.1.after ha;exact⟨rfl,f2,gG.st,gG.did⟩
        |true=>
         rw[hr]at HC;have j_:=(Gy HBI.out.2 (10+e0) hgk0).1;obtain⟨s2,Kz⟩:∃s2,s2=(bP s1 mM (10+e0) gk).2.1:=⟨_,rfl⟩;obtain⟨Zq,hfs2⟩:∃Zq,Zq=(bP s1 mM (10+e0) gk).2.2:=⟨_,rfl⟩;rw[<-Kz,<-hfs2]at HC j_;have tu:Hid (s2=(bP s1 mM (10+e0) gk).2.1/\Zq=(bP s1 mM (10+e0) gk).2.2):=⟨Kz,hfs2⟩;clear Kz hfs2
         go_upto_region 23 with(go_at_call 169;refine HC.mono ?_;rintro e w8 ⟨rfl,ha⟩)
         obtain⟨f2,gG,-⟩:=HBI.out.1.after ha;have Bt:=j_.len;have hmb5:r2.2.2.2.2=g.1.2.2.2.2:=gG.Dv.2.2.2.2;obtain⟨y0,y1,y2,y3,y4,-⟩:=aT gG.mod;rw[hmb5]at y4;have HC2:=Zb (n:=1) (k:=g.1.2.2.2.2) gG.st (by omega) j_.dX j_.inv RY;have QS:Hid (BG w w8 xb mb r2 g.1 s2 Zq m (fo,fs.length,fc) f2):=gG;clear HC ha gG y0 y1 y2 y3;cases Bn:(bP s2 Zq 1 g.1.2.2.2.2).1 with
         |false=>
          rw[Bn]at HC2
          have HE:Hid (iZ (s,fs,m)=(((bP s2 Zq 1 g.1.2.2.2.2).2.1,(bP s2 Zq 1 g.1.2.2.2.2).2.2,m),10)):=by
           show _=_;rw[HBE.out,tu.out.1,tu.out.2];exact begT_c HX.out hr (by rw[<-tu.out.1,<-tu.out.2];exact Bn)
          go_wp2_with (go_at_call 169;refine HC2.mono ?_;rintro e w9 ⟨rfl,ha⟩)
          go_ret;rw[HE.out];obtain⟨f3,sZ,-⟩:=QS.out.after ha;exact⟨rfl,f3,sZ.st,sZ.did⟩
         |true=>
          rw[Bn]at HC2
          have HE:Hid (iZ (s,fs,m)=(({ (bP s2 Zq 1 g.1.2.2.2.2).2.1 with ro:=false,bC:=e0 },(bP s2 Zq 1 g.1.2.2.2.2).2.2,g.1),0)):=by
           show _=_;rw[HBE.out,tu.out.1,tu.out.2];exact begT_d HX.out hr (by rw[<-tu.out.1,<-tu.out.2];exact Bn)
          go_upto_region 25 with(go_at_call 169;refine HC2.mono ?_;rintro e w9 ⟨rfl,ha⟩)
          obtain⟨f3,sZ,-⟩:=QS.out.after ha;obtain⟨y0,y1,y2,y3,y4',-⟩:=aT sZ.mod;obtain⟨rx9,Oo,-,-⟩:=sZ.st;have HB3:Hid (∀s3 fs3,s3=(bP s2 Zq 1 g.1.2.2.2.2).2.1->fs3=(bP s2 Zq 1 g.1.2.2.2.2).2.2->BG w w9 xb mb r2 g.1 s3 fs3 m (fo,fs.length,fc) f3):=fun s3 fs3 e1 e2=>by rw[e1,e2];exact sZ
          have hne:mb≠xb:=fun e=>by subst e;exact bX sZ.mod Oo (gJ (by decide))
          have hne':xb≠mb:=fun e=>hne e.symm
          have HCL:Hid (After w (((((((w9.setCell ⟨xb,11,O⟩ (.bool false)).setCell ⟨xb,12,O⟩ (I V e0)).setCell ⟨xb,13,O⟩ r2.1.v).setCell ⟨xb,14,O⟩ r2.2.1.v).setCell ⟨xb,15,O⟩ r2.2.2.1.v).setCell ⟨xb,16,O⟩ (I V r2.2.2.2.1)).setCell ⟨xb,17,O⟩ (I V r2.2.2.2.2)) xb { (bP s2 Zq 1 g.1.2.2.2.2).2.1 with ro:=false,bC:=e0 } (bP s2 Zq 1 g.1.2.2.2.2).2.2 g.1 (fo,fs.length,fc)):=sZ.close e0;generalize (bP s2 Zq 1 g.1.2.2.2.2).2.1=s3 at HE HCL Oo;generalize (bP s2 Zq 1 g.1.2.2.2.2).2.2=fs3 at HE HCL;have s11:w9.cell? ⟨xb,11,O⟩=M (.bool s3.ro):=by simp[World.cell?,Oo,bM]
          have s12:w9.cell? ⟨xb,12,O⟩=M (I V s3.bC):=by simp[World.cell?,Oo,bM]
          have sf1:w9.frozen? ⟨xb,11,O⟩=false:=by simp[World.frozen?,Oo,bM]
          have sf2:w9.frozen? ⟨xb,12,O⟩=false:=by simp[World.frozen?,Oo,bM]
          have Oz:((w9.setCell ⟨xb,11,O⟩ (.bool false)).setCell ⟨xb,12,O⟩ (I V e0)).heap[xb]?=M (bM { s3 with ro:=false,bC:=e0 } f3 rx9):=Ob e0 (sM false Oo);have hm10:=(Fr.set (w9.setCell ⟨xb,11,O⟩ (.bool false)) ⟨xb,12,O⟩ (I V e0)).at ((Fr.set w9 ⟨xb,11,O⟩ (.bool false)).at sZ.mod hne) hne;clear sZ Oo ha HC2 HB3 QS tu j_ Bn hr HX HBI HBK HLL HBE hlen1 Bt Mt y0 y1 y2 y3 y4 y4' hmb5 RY HW hB hlb z1 z2 z3 sF hlen
          go_upto_region 28 with fail
          go_upto_region 29 with fail
          obtain⟨Ow,hw10⟩:∃Ow,Ow=(w9.setCell ⟨xb,11,O⟩ (.bool false)).setCell ⟨xb,12,O⟩ (I V e0):=⟨_,rfl⟩;rw[<-hw10]at Oz hm10 HCL ⊢;clear hw10 s11 s12 sf1 sf2;obtain⟨y0,y1,y2,y3,y4,-⟩:=aT hm10;have s13:Ow.cell? ⟨xb,13,O⟩=M rx9.1.v:=by simp[World.cell?,Oz,bM]
          have s14:Ow.cell? ⟨xb,14,O⟩=M rx9.2.1.v:=by simp[World.cell?,Oz,bM]
          have s15:Ow.cell? ⟨xb,15,O⟩=M rx9.2.2.1.v:=by simp[World.cell?,Oz,bM]
          have s16:Ow.cell? ⟨xb,16,O⟩=M (I V rx9.2.2.2.1):=by simp[World.cell?,Oz,bM]
          have s17:Ow.cell? ⟨xb,17,O⟩=M (I V rx9.2.2.2.2):=by simp[World.cell?,Oz,bM]
          have sf13:Ow.frozen? ⟨xb,13,O⟩=false:=by simp[World.frozen?,Oz,bM]
          have sf14:Ow.frozen? ⟨xb,14,O⟩=false:=by simp[World.frozen?,Oz,bM]
          have sf15:Ow.frozen? ⟨xb,15,O⟩=false:=by simp[World.frozen?,Oz,bM]
          have sf16:Ow.frozen? ⟨xb,16,O⟩=false:=by simp[World.frozen?,Oz,bM]
          have sf17:Ow.frozen? ⟨xb,17,O⟩=false:=by simp[World.frozen?,Oz,bM]
          clear Oz hm10;obtain⟨⟨b1,b2,b3⟩,⟨b4,b5,b6⟩,⟨b7,b8,b9⟩,Nb,Aq⟩:=r2;simp only[bS.v]at y0 y1 y2 y3 y4 HCL
          go_wp2_with fail
          go_ret;rw[HE.out];exact⟨rfl,HCL.out⟩
def Ka (w:F)(b:Nat):Prop:=∃aS t mk,w.heap[b]?=M (C aS t mk)/\t≠234/\t≠114/\t≠261/\t≠302
theorem Ka.no (h:Ka w b){t:TypeId}{f:Nat×Nat}(hb:w.heap[b]?=M (C aS t f))(ht:t=234\/t=114\/t=261\/t=302):False:=by
 obtain⟨tN,t',mk,h1,k1,k2,k3,k4⟩:=h;rw[hb]at h1;cases h1
 rcases ht with e|e|e|e
 ·exact k1 e
 ·exact k2 e
 ·exact k3 e
 ·exact k4 e
theorem Ka.of {t:TypeId}{f:Nat×Nat}(hb:w.heap[b]?=M (C aS t f))(h1:t≠234)(h2:t≠114)(h3:t≠261)(h4:t≠302):Ka w b:=⟨aS,t,f,hb,h1,h2,h3,h4⟩
theorem WG.free (h:WG w b):Ka w b:=by
 obtain⟨aS,t,mk,h1,h2⟩:=h;refine⟨aS,t,mk,h1,?_⟩;rcases h2 with rfl|rfl|rfl|rfl|rfl|rfl|rfl|rfl|rfl<;>decide
theorem aV.YD {aB:Nat->Prop}{dp tb depth:Nat}(h:aV w dp tb depth m)(hF:Fr w w' aB)(hY:∀b,aB b->Ka w b)(h1:¬aB dp)(h2:¬aB tb):aV w' dp tb depth m:=by
 obtain⟨u,r,k1,k2,k3,k4⟩:=h;have no:∀ {b:Nat} {aS:Array Y} {t:TypeId} {f:Nat×Nat},w.heap[b]?=M (C aS t f)->(t=234\/t=114\/t=261\/t=302)->¬aB b:=fun hb ht e=>(hY _ e).no hb ht
 exact⟨u,r,hF.at k1 h1,k2.fr hF h2 (fun b la ra p h l hb=>no hb (by decide)),k3.fr hF (fun b aS hb=>no hb (by decide)) (fun b aS hb=>no hb (by decide)),k4.fr hF (fun b aS hb=>no hb (by decide)) (fun b aS hb=>no hb (by decide))⟩
theorem tH.YD {aB:Nat->Prop}{qp:Nat}{X:Nat->Prop}(h:tH w qp s fs m X)(hF:Fr w w' aB)(hY:∀b,aB b->Ka w b)(hX:∀b,X b->¬aB b):tH w' qp s fs m X:=by
 rcases h with⟨h0,db,fv,rs,h1,h2,h3,rfl⟩|⟨h0,db,fv,rs,sp,lp,dp,tb,h1,h2,rfl⟩
 ·exact Or.inl ⟨h0,db,fv,rs,h1.fr hF (fun b hb=>hX b (Or.inr hb)),h2,hF.at h3 (hX _ (Or.inl rfl)),rfl⟩
 ·exact Or.inr ⟨h0,db,fv,rs,sp,lp,dp,tb,⟨h1.disk.fr hF (fun b hb=>hX b (Or.inr (Or.inl hb))),hF.at h1.qu (hX _ (Or.inl rfl)),hF.at h1.Nz (hX _ (Or.inr (Or.inr (Or.inl rfl)))),hF.at h1.Cs (hX _ (Or.inr (Or.inr (Or.inr (Or.inl rfl))))),h1.CW.YD hF hY (hX _ (Or.inr (Or.inr (Or.inr (Or.inr (Or.inl rfl)))))) (hX _ (Or.inr (Or.inr (Or.inr (Or.inr (Or.inr rfl))))))⟩,h2,rfl⟩
theorem Uq.YD {X:Nat->Prop}{ao:Option Addr}{l:List bE}(h:Uq w ao l)(hF:Fr w w' X)(hx:∀a,ao=M a->¬X a.block):Uq w' ao l:=by
 obtain⟨h1,h2⟩:=h;refine⟨?_,fun a e=>?_⟩
 ·rcases h1 with h1|⟨b,off,e,hc⟩
  ·exact Or.inl h1
  ·refine Or.inr ⟨b,off,e,fun j u hu=>?_⟩;obtain⟨aS,hb⟩:=h2 _ e;have pX:w'.heap[b]?=w.heap[b]?:=hF.2 b (aM hb) (hx _ e);exact(World.cell?_of_block (a:=⟨b,off+j,O⟩) pX).trans (hc j u hu)
 ·obtain⟨aS,hb⟩:=h2 a e;exact⟨aS,hF.at hb (hx _ e)⟩
theorem bH.YD {aB:Nat->Prop}(h:bH w xb s fs m f)(hF:Fr w w' aB)(hY:∀b,aB b->Ka w b)(h1:¬aB xb)(h2:∀a,f.1=M a->¬aB a.block):bH w' xb s fs m f:=by
 obtain⟨r,hx,hf,hm⟩:=h;exact⟨r,hF.at hx h1,⟨hf.1.YD hF h2,hf.2⟩,hm.fr hF (fun b aS hb e=>(hY _ e).no hb (by decide)) (fun b aS hb e=>(hY _ e).no hb (by decide))⟩
structure gW where
 sb:Nat
 qp:Nat
 xb:Nat
 x:St
 X:Nat->Prop
 f:bS
variable {r:gW}
def gW.aB (r:gW)(b:Nat):Prop:=r.X b\/b=r.xb\/∃a,r.f.1=M a/\b=a.block
def Fj (qp xb:Nat):Obj:=C #[U (M ⟨qp,0,O⟩),U (M ⟨xb,0,O⟩)] 171 (0,0)
structure dR (w:F)(B:Nat)(r:gW):Prop where
 sb:w.heap[r.sb]?=M (Fj r.qp r.xb)
 q:tH w r.qp r.x.1 r.x.2.1 r.x.2.2 r.X
 y:bH w r.xb r.x.1 r.x.2.1 r.x.2.2 r.f
 sbn:B<=r.sb
 yn:∀b,r.aB b->B<=b
def Hf (r q:gW):Prop:=r.sb≠q.sb/\∀b,r.aB b->¬q.aB b
def STy (w:F)(b:Nat):Prop:=WG w b\/∃aS t mk,w.heap[b]?=M (C aS t mk)/\(t=189\/t=193)
theorem STy.free (h:STy w b):Ka w b:=by
 rcases h with h|⟨aS,t,mk,h1,rfl|rfl⟩
 ·exact h.free
 ·exact⟨_,_,_,h1,by decide⟩
 ·exact⟨_,_,_,h1,by decide⟩
theorem STy.ne (h:STy w b){t:TypeId}{f:Nat×Nat}(hb:w.heap[b]?=M (C aS t f))(ht:(t≠137/\t≠155/\t≠157/\t≠5/\t≠80/\t≠93/\t≠140/\t≠147/\t≠160)/\t≠189/\t≠193):False:=by
 obtain⟨ht,h3,h4⟩:=ht;rcases h with h|⟨tN,t',mk,h1,h2⟩
 ·exact h.ne hb ht rfl
 ·rw[hb]at h1;cases h1
  rcases h2 with e|e
  ·exact h3 e
  ·exact h4 e
theorem dR.ty (h:dR w B r)(hb:r.aB b):STy w b:=by
 rcases hb with hb|rfl|⟨a,e,rfl⟩
 ·exact Or.inl (h.q.ty hb)
 ·obtain⟨rx,hx,-,-⟩:=h.y;exact Or.inr ⟨_,_,_,hx,Or.inl rfl⟩
 ·obtain⟨rx,hx,hf,-⟩:=h.y;obtain⟨aS,hc⟩:=hf.1.2 a e;exact Or.inr ⟨_,_,_,hc,Or.inr rfl⟩
theorem dR.lt (h:dR w B r)(hb:r.aB b):b<w.heap.size:=by
 obtain⟨aS,t,mk,h1,-⟩:=(h.ty hb).free;exact aM h1
theorem dR.fr {aI:Nat->Prop}(h:dR w B r)(hF:Fr w w' aI)(hZ:∀b,aI b->Ka w b)(h1:¬aI r.sb)(h2:∀b,r.aB b->¬aI b):dR w' B r:=
 ⟨hF.at h.sb h1,h.q.YD hF hZ (fun b hb=>h2 b (Or.inl hb)),h.y.YD hF hZ (h2 _ (Or.inr (Or.inl rfl))) (fun a e=>h2 _ (Or.inr (Or.inr ⟨a,e,rfl⟩))),h.sbn,h.yn⟩
theorem dR.aN (h:dR w B r)(hg:aL w w'):dR w' B r:=h.fr (Fr.cZ hg (fun _=>False)) (fun _ h=>h.elim) id (fun _ _=>id)
theorem dR.half {w1:F}(h:dR w B r){X':Nat->Prop}(hk:Dk w w1 r.X X'):bH w1 r.xb r.x.1 r.x.2.1 r.x.2.2 r.f/\w1.heap[r.sb]?=M (Fj r.qp r.xb):=by
 obtain⟨rx,hx,hf,hm⟩:=h.y;refine⟨bH.YD ⟨rx,hx,hf,hm⟩ hk.1 (fun b hb=>(h.q.ty hb).free) (fun e=>(h.q.ty e).ne hx (by decide) rfl) (fun a e e2=>?_),hk.1.at h.sb (fun e=>(h.q.ty e).ne h.sb (by decide) rfl)⟩;obtain⟨aS,hc⟩:=hf.1.2 a e;exact(h.q.ty e2).ne hc (by decide) rfl
structure qY (w w2:F)(B:Nat)(r r':gW):Prop where
 pair:dR w2 B r'
 sb:r'.sb=r.sb
 fr:Fr w w2 r.aB
 io:w2.os=w.os/\w2.tape=w.tape/\w2.output=w.output
 yn:∀b,r'.aB b->r.aB b\/w.heap.size<=b
theorem dR.both {w1 w2:F}(h:dR w B r)(hB:B<=w.heap.size){x1:St}{X':Nat->Prop}(hq:tH w1 r.qp x1.1 x1.2.1 x1.2.2 X')(hk:Dk w w1 r.X X')(ha:After w1 w2 r.xb x1.1 x1.2.1 x1.2.2 r.f):∃r',qY w w2 B r r'/\r'.x=x1:=by
 obtain⟨f',hs,Ze,ZV,hd3⟩:=ha;obtain⟨rx,hx,hf,hm⟩:=(h.half hk).1
 have hY:∀b,(b=r.xb\/∃a,r.f.1=M a/\b=a.block)->STy w1 b:=by
  rintro b (rfl|⟨a,e,rfl⟩)
  ·exact Or.inr ⟨_,_,_,hx,Or.inl rfl⟩
  ·obtain⟨aS,hc⟩:=hf.1.2 a e;exact Or.inr ⟨_,_,_,hc,Or.inr rfl⟩
 have hX:∀b,X' b->¬(b=r.xb\/∃a,r.f.1=M a/\b=a.block):=by
  intro b hb e;have t1:=hq.ty hb;rcases e with rfl|⟨a,e,rfl⟩
  ·exact t1.ne hx (by decide) rfl
  ·obtain⟨aS,hc⟩:=hf.1.2 a e;exact t1.ne hc (by decide) rfl
 have hle:w.heap.size<=w1.heap.size:=hk.1.1
 have hyn:∀b,(X' b\/b=r.xb\/∃a,f'.1=M a/\b=a.block)->r.aB b\/w.heap.size<=b:=by
  rintro b (hb|rfl|⟨a,e,rfl⟩)
  ·rcases hk.2.2 b hb with hb|hb
   ·exact Or.inl (Or.inl hb)
   ·exact Or.inr hb
  ·exact Or.inl (Or.inr (Or.inl rfl))
  ·rcases hd3 with e2|e2
   ·rw[e2]at e;exact Or.inl (Or.inr (Or.inr ⟨a,e,rfl⟩))
   ·have:=e2 a e;exact Or.inr (by omega)
 refine⟨⟨r.sb,r.qp,r.xb,x1,X',f'⟩,⟨⟨Ze.at (h.half hk).2 (fun e=>(hY _ e).ne (h.half hk).2 (by decide)),hq.YD Ze (fun b hb=>(hY b hb).free) hX,hs,h.sbn,fun b hb=>?_⟩,rfl,?_,⟨ZV.1.trans hk.2.1.1,ZV.2.1.trans hk.2.1.2.1,ZV.2.2.trans hk.2.1.2.2⟩,hyn⟩,rfl⟩
 ·rcases hyn b hb with hb|hb
  ·exact h.yn b hb
  ·omega
 ·refine⟨Nat.le_trans hk.1.1 Ze.1,fun b hb hn=>?_⟩;rw[Ze.2 b (by omega) (fun e=>hn (Or.inr e)),hk.1.2 b hb (fun e=>hn (Or.inl e))]
end Go.Proofs.YtfplgfodoiiobaaGreatDoor
