/- RpB, SwA (joined). -/
import Derived.Test.YtfplgfodoiiobaaGreatDoorD40
import Derived.Test.YtfplgfodoiiobaaGreatDoorD41
import Derived.Test.YtfplgfodoiiobaaGreatDoorD42
import Derived.Test.YtfplgfodoiiobaaGreatDoorD43
open Option renaming none→O,some→M
open Go.Value renaming int→I,slice→Z,pointer→U
open Go.IntKind renaming i64→V
open Go.Obj renaming cells→C
open Go.Ending renaming returned→G
open Go renaming World→F,Value→Y,Calls→H
open Go.Proofs.Tryz renaming prog→K
open Go.Proofs.Tryz
namespace Go.Proofs.YtfplgfodoiiobaaGreatDoor
set_option maxHeartbeats 8000000
set_option maxRecDepth 100000
open Go.RowKit
variable {w w' wr:F}{s s1:Sc}{fs jX:List bC}{m m0 m1:dD}{xb b B mb:Nat}{f f1:bS}{aS:Array Y}{e0 gk:Int}
structure EL (w wr:F)(xb mb:Nat)(r:fC)(m0:dD)(s:Sc)(fs:List bC)(m:dD)(f f1:bS):Prop where
 st:bM wr xb s fs m f1
 did:kH w wr xb f f1
 mod:wr.heap[mb]?=M (bR r.1.v r.2.1.v r.2.2.1.v (I V r.2.2.2.1) (I V r.2.2.2.2))
 Cs:dZ wr r m0
theorem EL.more {wr':F}{r:fC}(h:EL w wr xb mb r m0 s fs m f f1)(hg:aL wr wr'):EL w wr' xb mb r m0 s fs m f f1:=
 ⟨h.st.aN hg,h.did.aN hg,(hg.block _ (aM h.mod)).trans h.mod,h.Cs.aN hg⟩
theorem WB {f':bS}(hS:bM w xb s fs m f)(hd:kH w w' xb f f'){t:TypeId}(n1:t≠189)(n2:t≠193)(hb:w.heap[b]?=M (C aS t (0,0))):¬(b=xb\/∃a,f.1=M a/\b=a.block):=by
 obtain⟨r0,hx,hf,-⟩:=hS;intro hX;rcases hX with rfl|⟨a,e,rfl⟩
 ·exact bU hb hx (gH n1)
 ·obtain⟨cu,hh⟩:=hf.1.2 a e;exact bU hb hh (gH n2)
theorem EL.after {wr':F}{r:fC}{s':Sc}{dU:List bC}(h:EL w wr xb mb r m0 s fs m f f1)(ha:After wr wr' xb s' dU m f1):∃f2,EL w wr' xb mb r m0 s' dU m f f2/\kH wr wr' xb f1 f2:=by
 obtain⟨f2,hs,hd⟩:=ha;exact⟨f2,⟨hs,h.did.trans hd,hd.1.at h.mod (WB h.st hd (by decide) (by decide) h.mod),kH.Cs h.st h.Cs hd⟩,hd⟩
theorem iZ.did {f':bS}{v:Y}{l:List Int}(h:iZ w B v l)(hS:bM w xb s fs m f)(hd:kH w w' xb f f'):iZ w' B v l:=
 bK h hd.1 (fun g aS e hc=>WB hS hd (by decide) (by decide) hc)
theorem RX {e:Int}{k:Nat}{f:bC}(h:fs[k]?=M f):gJ (fs.take (k+1)) e=gJ (fs.take k) e++(if (f.1 !=1 && f.1 !=10+e && (f.1 !=2||e==0))=true then [f.1]else []):=by
 obtain⟨hl,he⟩:=Aae.1 h;unfold gJ;rw[Aau hl,Abb,AcQ,he];congr 1;simp only[AaK,AbI,Ads,List.filter_nil]
theorem e_rbytes:∀(args:Array Y) (w:F),(callFunc 166 args).run K w= .ok (.enter 166 args) w:=enters_of func166 (by kernel_rfl) rfl
theorem bg:∀(args:Array Y) (w:F),(callFunc 168 args).run K w= .ok (.enter 168 args) w:=enters_of func168 (by kernel_rfl) rfl
theorem EL.open {r:fC}(h:EL w wr xb mb r m0 s fs m f f1):EL w (wr.setCell ⟨xb,10,O⟩ (.bool true)) xb mb r m0 { s with aX:=true } fs m f f1:=by
 obtain⟨⟨rx,hx,hf,hm⟩,h2,h3,h4⟩:=h;exact⟨⟨rx,Dm true hx,hf.jC hx,hm.jC hx⟩,h2.set,(Fr.set wr ⟨xb,10,O⟩ _).at h3 (fun e=>by subst e;exact bU h3 hx (gH (by decide))),h4.jC hx⟩
def Xn (s:Sc)(fs:List bC)(m:dD)(e0:Int)(m1:dD)(gk:Int):St×Int:=
 let r:=gB { s with aX:=true } fs (gJ fs e0);if r.1=false then ((r.2.1,r.2.2,m),10)else
 let r2:=bJ r.2.1 r.2.2 (10+e0) gk;if r2.1=false then ((r2.2.1,r2.2.2,m),10)else
 let r3:=bJ r2.2.1 r2.2.2 1 m1.2.2.2.2;if r3.1=false then ((r3.2.1,r3.2.2,m),10)else (({ r3.2.1 with ro:=false,aY:=e0 },r3.2.2,m1),0)
theorem begT_a {r:Bool×Sc×List bC}(h:gB { s with aX:=true } fs (gJ fs e0)=r)(h1:r.1=false):Xn s fs m e0 m1 gk=((r.2.1,r.2.2,m),10):=by
 unfold Xn;simp only[h,h1,if_true]
theorem begT_b (h:gB { s with aX:=true } fs (gJ fs e0)=(true,s1,jX))(h1:(bJ s1 jX (10+e0) gk).1=false):Xn s fs m e0 m1 gk=(((bJ s1 jX (10+e0) gk).2.1,(bJ s1 jX (10+e0) gk).2.2,m),10):=by
 unfold Xn;simp only[h,h1,if_true,AbM,if_false]
theorem begT_c (h:gB { s with aX:=true } fs (gJ fs e0)=(true,s1,jX))(h1:(bJ s1 jX (10+e0) gk).1=true)(h2:(bJ (bJ s1 jX (10+e0) gk).2.1 (bJ s1 jX (10+e0) gk).2.2 1 m1.2.2.2.2).1=false):Xn s fs m e0 m1 gk=(((bJ (bJ s1 jX (10+e0) gk).2.1 (bJ s1 jX (10+e0) gk).2.2 1 m1.2.2.2.2).2.1,(bJ (bJ s1 jX (10+e0) gk).2.1 (bJ s1 jX (10+e0) gk).2.2 1 m1.2.2.2.2).2.2,m),10):=by
 unfold Xn;simp only[h,h1,h2,if_true,AbM,if_false]
theorem begT_d (h:gB { s with aX:=true } fs (gJ fs e0)=(true,s1,jX))(h1:(bJ s1 jX (10+e0) gk).1=true)(h2:(bJ (bJ s1 jX (10+e0) gk).2.1 (bJ s1 jX (10+e0) gk).2.2 1 m1.2.2.2.2).1=true):Xn s fs m e0 m1 gk=(({ (bJ (bJ s1 jX (10+e0) gk).2.1 (bJ s1 jX (10+e0) gk).2.2 1 m1.2.2.2.2).2.1 with ro:=false,aY:=e0 },(bJ (bJ s1 jX (10+e0) gk).2.1 (bJ s1 jX (10+e0) gk).2.2 1 m1.2.2.2.2).2.2,m1),0):=by
 unfold Xn;simp only[h,h1,h2,AbM,if_false]
theorem bn {L:List Int}{k:Nat}{n:Int}(h:L[k]?=M n):gB s fs (L.drop k)=if (bJ s fs n 0).1=true then gB (bJ s fs n 0).2.1 (bJ s fs n 0).2.2 (L.drop (k+1))else bJ s fs n 0:=by
 obtain⟨hl,he⟩:=Aae.1 h;rw[AaQ hl,he];rfl
theorem Et {r:fC}(n:Int)(h:w.heap[xb]?=M (bO s f r)):(w.setCell ⟨xb,12,O⟩ (I V n)).heap[xb]?=M (bO { s with aY:=n } f r):=by rw[Aaj w xb 12 _ _ _ h];rfl
theorem EL.close {r:fC}(h:EL w wr xb mb r m0 s fs m f f1)(e0:Int):
 After w (((((((wr.setCell ⟨xb,11,O⟩ (.bool false)).setCell ⟨xb,12,O⟩ (I V e0)).setCell ⟨xb,13,O⟩ r.1.v).setCell ⟨xb,14,O⟩ r.2.1.v).setCell ⟨xb,15,O⟩ r.2.2.1.v).setCell ⟨xb,16,O⟩ (I V r.2.2.2.1)).setCell ⟨xb,17,O⟩ (I V r.2.2.2.2)) xb { s with ro:=false,aY:=e0 } fs m0 f:=by
 obtain⟨⟨rx,hx,hf,hm⟩,h2,-,h4⟩:=h;have x1:=tV false hx;have x2:=Et e0 x1;have S2:bM ((wr.setCell ⟨xb,11,O⟩ (.bool false)).setCell ⟨xb,12,O⟩ (I V e0)) xb { s with ro:=false,aY:=e0 } fs m f1:=⟨rx,x2,(hf.jC hx).jC x1,(hm.jC hx).jC x1⟩;have q:=Du S2 ((h4.jC hx).jC x1);exact⟨f1,q.1,((h2.set).set).trans q.2⟩
theorem dh (h:bM w xb s fs m f)(hB:BK s fs):
 H K 112 #[U (M ⟨xb,0,O⟩)] w fun e w'=>e=G (I V (jG (s,fs,m)).2)/\After w w' xb (jG (s,fs,m)).1.1 (jG (s,fs,m)).1.2.1 (jG (s,fs,m)).1.2.2 f:=by
 have hlen:fs.length<=50:=hB.len;have tC:=hB.cK.kI;have hlb:((aO fs 1).size:Int)<=1000000:=by have:=gD hB.inv 1;omega
 have xO:w.cell? ⟨xb,10,O⟩=M (.bool s.aX):=by obtain⟨r,hx,-⟩:=h;simp[World.cell?,hx,bO]
 cases ho:s.aX with
 |true=>
  rw[ho]at xO;have e:jG (s,fs,m)=((s,fs,m),2):=by unfold jG;rw[Aad ho]
  rw[e];go_enter func112,ntmps112;go_wp2_with fail;go_ret;exact⟨rfl,f,h,kH.refl _ _ _⟩
 |false=>
  rw[ho]at xO;have hck:=ay h (by omega) hB.cK hB.inv;cases hem:jJ (aO fs 2) ((aO fs 1).size:Int) s.depth.toNat with
  |none=>
   rw[hem]at hck;have e:jG (s,fs,m)=((s,fs,m),11):=(by unfold jG;rw[Aaa (by simp[ho])];simp only[hem]);rw[e];have HA:Hid (∀W,aL w W->After w W xb s fs m f):=fun W hW=>⟨f,h.aN hW,(kH.refl w xb f).aN hW⟩
   clear e h hem;go_enter func112,ntmps112;go_wp2_with (go_at_call 167;refine hck.mono ?_;rintro e w1 ⟨rfl,iJ⟩;unfold Ty fC.v;simp only[bS.v]);go_ret;exact⟨rfl,HA.out _ (iJ.alloc _)⟩
  |some em=>
   rw[hem]at hck;obtain⟨-,z1,z2,z3,z4,z5⟩:=Eo ((aAz fs s.depth.toNat).trans hem) hlb;obtain⟨e0,m0⟩:=em;simp only at z1 z2 z3 z4 z5;obtain⟨J,hJ⟩:∃J,J=aO fs (10+e0):=⟨_,rfl⟩;have hJz:J.size<=1000000:=(by rw[hJ];have:=gD hB.inv (10+e0);omega);obtain⟨g,qR⟩:∃g,g=iQ ((aO fs 1).size:Int) s.depth.toNat (J.size / 22+1) m0 J.data.toList:=⟨_,rfl⟩;obtain⟨gk,hgk⟩:∃gk:Int,gk=((22*g.2:Nat):Int):=⟨_,rfl⟩;have hgk0:0<=gk:=by omega
   have HBE:Hid (jG (s,fs,m)=Xn s fs m e0 g.1 gk):=by
    show _=_;unfold Xn;unfold jG;rw[Aaa (by simp[ho])];simp only[hem];have hjl:(aO fs (10+e0)).data.toList.length=J.size:=(by rw[hJ];simp);rw[hjl,<-hJ,<-qR,<-hgk]
   have HRp:Hid (∀W (r0:fC),aL w W->dZ W r0 m0->H K 168 #[U (M ⟨xb,0,O⟩),r0.v,.string J] W fun e w'=> ∃r':fC,e=G (.tuple #[r'.v,I V gk])/\dZ w' r' g.1/\aL W w'):=fun W r0 hW hm0=>by
    have:=RQ (h.aN hW) (by omega) hB.cK hB.inv hm0 z1 z2 hJz;rw[<-qR,<-hgk]at this;exact this
   have HBy:Hid (∀W,aL w W->H K 166 #[U (M ⟨xb,0,O⟩),I V (10+e0)] W fun e w'=>e=G (.string J)/\w'=W):=fun W hW=>by
    obtain⟨rx,hx,hf,-⟩:=h.aN hW;rw[hJ];exact vW hx hf (by omega)
   have VP:0<=g.1.2.2.2.2:=by
    have q:=(Ma hlb s.depth.toNat (J.size / 22+1) m0 J.data.toList z1 z3).1.Dt;rw[RO,<-qR]at q;exact q
   have HW:Hid (bM w xb s fs m f):=h;have TY:IntKind.i64.wrap (10+e0)=10+e0:=(by rw[AaE];omega);clear hem h qR hJ hgk;go_enter func112,ntmps112;go_upto_region 7 with(go_at_call 167;refine hck.mono ?_;rintro e w1 ⟨⟨r1,rfl,Gy⟩,iJ⟩;obtain⟨⟨a1,a2,a3⟩,⟨a4,a5,a6⟩,⟨a7,a8,a9⟩,dn,bf⟩:=r1;unfold fC.v;simp only[bS.v]);obtain⟨w2,Ga⟩:∃w2,w2=w1.alloc (bR (Z a1 a2 a3) (Z a4 a5 a6) (Z a7 a8 a9) (I V dn) (I V bf)):=⟨_,rfl⟩;have G2:aL w w2:=(by rw[Ga];exact iJ.alloc _);have G12:aL w1 w2:=(by rw[Ga];exact(aL.refl w1).alloc _);have BR:w2.heap[w1.heap.size]?=M (bR (Z a1 a2 a3) (Z a4 a5 a6) (Z a7 a8 a9) (I V dn) (I V bf)):=(by rw[Ga];exact Aaf w1 _);have hM2:dZ w2 ((a1,a2,a3),(a4,a5,a6),(a7,a8,a9),dn,bf) m0:=Gy.aN G12;have hmb:w.heap.size<=w1.heap.size:=iJ.size;unfold bR at Ga;rw[<-Ga];clear Ga G12 Gy iJ hck;obtain⟨y0,y1,y2,y3,y4,f0,f1,f2,f3,f4⟩:=aW BR;generalize w1.heap.size=mb at*
   have HR7:Hid (∀W,aL w2 W->H K 168 #[U (M ⟨xb,0,O⟩),.agg #[Z a1 a2 a3,Z a4 a5 a6,Z a7 a8 a9,I V dn,I V bf],.string J] W fun e w'=> ∃b1 b2 b3 b4 b5 b6 b7 b8 b9 Wp Gf,e=G (.tuple #[.agg #[Z b1 b2 b3,Z b4 b5 b6,Z b7 b8 b9,I V Wp,I V Gf],I V gk])/\dZ w' ((b1,b2,b3),(b4,b5,b6),(b7,b8,b9),Wp,Gf) g.1/\aL w2 w'):=fun W hW=>by
    refine(HRp.out W ((a1,a2,a3),(a4,a5,a6),(a7,a8,a9),dn,bf) (aQ G2 hW) (hM2.aN hW)).mono ?_;rintro e w' ⟨⟨⟨b1,b2,b3⟩,⟨b4,b5,b6⟩,⟨b7,b8,b9⟩,Wp,Gf⟩,rfl,k1,k2⟩;exact⟨b1,b2,b3,b4,b5,b6,b7,b8,b9,Wp,Gf,rfl,k1,aQ hW k2⟩
   have HB7:Hid (∀W,aL w2 W->H K 166 #[U (M ⟨xb,0,O⟩),I V (10+e0)] W fun e w'=>e=G (.string J)/\w'=W):=fun W hW=>HBy.out W (aQ G2 hW);clear HRp HBy
   go_cut [7] (fun v wc=>v=I V gk/\∃r2,EL w wc xb mb r2 g.1 s fs m f f)
   case first=>
    go_region_law (first
     |(refine Jo (by rfl) 166 _ _ (by rfl) _ (by first|(simp[Act.eval];done)|(simp[Act.eval,Act.put];done)) e_rbytes ((HB7.out _ (by repeat (first|exact aL.refl _|refine aL.drew ?_))).mono ?_);rintro v w' ⟨rfl,rfl⟩;refine⟨_,rfl,?_⟩)|(refine Jo (by rfl) 168 _ _ (by rfl) #[U (M ⟨xb,0,O⟩),.agg #[Z a1 a2 a3,Z a4 a5 a6,Z a7 a8 a9,I V dn,I V bf],.string J] (by first|(simp[Act.eval];done)|(simp[Act.eval,Act.put];done)) bg ((HR7.out _ (by repeat (first|exact aL.refl _|refine aL.drew ?_))).mono ?_);rintro v w7 ⟨b1,b2,b3,b4,b5,b6,b7,b8,b9,Wp,Gf,rfl,NI,oH⟩;have hm7':=(oH.block _ (aM BR)).trans BR;obtain⟨v0,v1,v2,v3,v4,k0,k1,k2,k3,k4⟩:=aW hm7';refine⟨_,rfl,?_⟩))
    all_goals go_wp2_with fail
    all_goals go_meet
    all_goals
     have ga:=dH (aQ G2 oH) hmb (Z b1 b2 b3) (Z b4 b5 b6) (Z b7 b8 b9) (I V Wp) (I V Gf);exact⟨rfl,((b1,b2,b3),(b4,b5,b6),(b7,b8,b9),Wp,Gf),⟨HW.out.aN ga,(kH.refl w xb f).aN ga,pR hm7' _ _ _ _ _,NI.IJ hm7' _ _ _ _ _⟩⟩
   case rest=>
    obtain⟨rfl,r2,HBG⟩:=hcut
    rename F=>wc
    clear HR7 HB7 BR hM2 y0 y1 y2 y3 y4 f0 f1 f2 f3 f4 G2 hmb xO;have hxs:∃rx,wc.heap[xb]?=M (bO s f rx):=(by obtain⟨rx,hx,-⟩:=HBG.st;exact⟨rx,hx⟩);obtain⟨rx,hx⟩:=hxs;have d10:wc.cell? ⟨xb,10,O⟩=M (.bool s.aX):=(by simp[World.cell?,hx,bO]);have f10:wc.frozen? ⟨xb,10,O⟩=false:=(by simp[World.frozen?,hx,bO]);have HB1:Hid (EL w (wc.setCell ⟨xb,10,O⟩ (.bool true)) xb mb r2 g.1 { s with aX:=true } fs m f f):=HBG.open;go_upto_region 9 with fail;obtain⟨w3,NM⟩:∃w3,w3=wc.setCell ⟨xb,10,O⟩ (.bool true):=⟨_,rfl⟩;rw[<-NM]at HB1 ⊢;clear NM d10 f10 hx HBG;obtain⟨rx3,Gg,Iq,-⟩:=HB1.out.st;have x3:=jR Gg;obtain⟨fo,fl,fc⟩:=f;obtain⟨k1,k2,k3⟩:=Iq;simp only at k1 k2 k3;subst k2;simp only[bS.v]at x3;have HK1:Hid (Vy w3 fo fs):=k1;clear Gg k1 k3;go_wp2_with fail
    go_loopw [8,9,10] (fun v i _ wr=> ∃k:Nat,k<=fs.length/\i=I V (k:Int)/\Hid (iZ wr w3.heap.size v (gJ (fs.take k) e0)/\aL w3 wr)) (fun _ i _ _=>fs.length-(intOf i).toNat)
    case atStart=>exact⟨0,Aap _,rfl,AaI _ _ _ _,aL.refl w3⟩
    case round=>
     obtain⟨k,hk,rfl,HO⟩:=hrel;obtain⟨nI,kX,ev,-⟩:=iZ.form HO.out.1;subst ev;have x3':=HO.out.2.cell x3;by_cases bP:k<fs.length
     ·obtain⟨fk,XH⟩:∃f,fs[k]?=M f:=⟨_,Aag bP⟩;obtain⟨b,off,rfl,d1,-,-⟩:=HK1.out.at XH;have d1':=HO.out.2.cell d1;have i1:(0:Int)<=(k:Int):=(by omega);have i2:(k:Int)<(fs.length:Int):=(by omega);have HN:=RX (e:=e0) XH;clear XH x3 d1;obtain⟨n,hn⟩:∃n,n=fk.1:=⟨_,rfl⟩;rw[<-hn]at HN d1';clear hn;cases hb:(n !=1 && n !=10+e0 && (n !=2||e0==0))with
      |false=>
       rw[hb]at HN;simp only[AaD,if_false,AcP]at HN;have HN:Hid (gJ (fs.take (k+1)) e0=gJ (fs.take k) e0):=HN;have HX:Hid (∃wz,aL wr wz):=⟨wr,aL.refl wr⟩
       have hcs:n=1\/(n≠1/\n=10+e0)\/(n≠1/\n≠10+e0/\n=2/\e0≠0):=by
        simp only[bne,Bool.and_eq_false_iff,Bool.not_eq_false',beq_iff_eq,Bool.or_eq_false_iff]at hb;have fV:=hb;by_cases q1:n=1
        ·exact Aac q1
        by_cases q2:n=10+e0
        ·exact Aab (Aac ⟨q1,q2⟩)
        by_cases q3:n=2
        ·by_cases q4:e0=0
         ·simp[q3,q4]at hb
         ·exact Aab (Aab ⟨q1,q2,q3,q4⟩)
        ·simp[q1,q2,q3]at hb
       clear hb;have HF:Hid (∀n',n'=k+1->Hid (iZ wr w3.heap.size (Z nI (gJ (fs.take k) e0).length kX) (gJ (fs.take n') e0)/\aL w3 wr)):=fun n' e=>by rw[e,HN.out];exact HO
       have hz:(n !=1 && n !=10+e0 && (n !=2||e0==0))=false:=by
        rcases hcs with q|⟨q1,q2⟩|⟨q1,q2,q3,q4⟩
        ·simp[q]
        ·simp[q2]
        ·simp[q3,q4]
       cases b1:(n==1)with
       |true=>
        have c1:(n !=1)=false:=(by simp only[bne,b1];rfl);clear hcs hz;go_wp2_with fail;go_roundw
        case rel=>exact⟨k+1,by omega,by go_num,HF.out _ rfl⟩
        case measure=>simp[intOf];omega
       |false=>
        have c1:(n !=1)=true:=(by simp only[bne,b1];rfl);cases b2:(n==10+e0)with
        |true=>
         have c2:(n !=10+e0)=false:=(by simp only[bne,b2];rfl);clear hcs hz;go_wp2_with fail;go_roundw
         case rel=>exact⟨k+1,by omega,by go_num,HF.out _ rfl⟩
         case measure=>simp[intOf];omega
        |false=>
         have c2:(n !=10+e0)=true:=by simp only[bne,b2];rfl
         have b3:(n==2)=true:=by
          have b1':¬n=1:=(by simpa using b1);have b2':¬n=10+e0:=(by simpa using b2);simp;omega
         have c3:(n !=2)=false:=by simp only[bne,b3];rfl
         have b4:(e0==0)=false:=by
          have b1':¬n=1:=(by simpa using b1);have b2':¬n=10+e0:=(by simpa using b2);simp;omega
         clear hcs hz;go_wp2_with fail;go_roundw
         case rel=>exact⟨k+1,by omega,by go_num,HF.out _ rfl⟩
         case measure=>simp[intOf];omega
      |true=>
       rw[hb]at HN;simp only[if_true]at HN;have HN:Hid (gJ (fs.take (k+1)) e0=gJ (fs.take k) e0++ [n]):=HN;simp only[Abf,Adf]at hb;obtain⟨⟨c1,c2⟩,c3⟩:=hb;have b1:(n==1)=false:=(by simpa[bne]using c1);have b2:(n==10+e0)=false:=by simpa[bne]using c2
       have Ow:(gJ (fs.take k) e0).length<=1000000:=by
        have q1:(gJ (fs.take k) e0).length<=((fs.take k).map (fun f=>f.1)).length:=Acn _ _;simp at q1;omega
       have uP:Ya (wr.alloc (C #[I V n] 3)) (M ⟨wr.heap.size,0,O⟩) [n]:=Aab ⟨wr.heap.size,0,rfl,fun i hi=>by
        have:i=0:=(by simp at hi;omega);subst this;simp⟩
       have hws:w3.heap.size<=wr.heap.size:=HO.out.2.size
       have HE:Hid (∀v5 w5,iZ w5 w3.heap.size v5 (gJ (fs.take k) e0++ [n])->(wr.alloc (C #[I V n] 3)).grownBy w5 (Value.slice nI (gJ (fs.take k) e0).length kX).ownBlock->Hid (iZ w5 w3.heap.size v5 (gJ (fs.take (k+1)) e0)/\aL w3 w5)):=fun v5 w5 dK eO=>by
        refine⟨by rw[HN.out];exact dK,?_⟩;have h1:=lM eO;refine⟨h1.os.trans HO.out.2.os,h1.tape.trans HO.out.2.tape,h1.output.trans HO.out.2.output,Aam HO.out.2.size h1.size,fun k hk=>?_⟩;rw[<-HO.out.2.block k hk];refine h1.block k (AaC hk HO.out.2.size) (fun e=>?_);have:=(AaA HO.out.1 k e.symm).1;omega
       cases b3:(n==2)with
       |true=>
        have c4:(n !=2)=false:=by simp only[bne,b3];rfl
        have b4:(e0==0)=true:=by
         rcases c3 with c3|c3
         ·rw[c4]at c3;cases c3
         ·exact c3
        clear c3;go_wp2_with (at_builtin;go_must (refine wJ (by rfl) (.tmp 70) (.tmp 72) (by rfl) w3.heap.size _ (gJ (fs.take k) e0) [n] (by rfl) (by exact Aay HO.out.1 _) _ _ _ (by rfl) (by rfl) (by intro e;cases e) (by exact uP) (by simp only[Abg];omega) (by simp;omega) ?_);intro v5 w5 dK eO);go_roundw
        case rel=>exact⟨k+1,by omega,by go_num,HE.out _ _ dK eO⟩
        case measure=>simp[intOf];omega
       |false=>
        have c4:(n !=2)=true:=(by simp only[bne,b3];rfl);clear c3;go_wp2_with (at_builtin;go_must (refine wJ (by rfl) (.tmp 70) (.tmp 72) (by rfl) w3.heap.size _ (gJ (fs.take k) e0) [n] (by rfl) (by exact Aay HO.out.1 _) _ _ _ (by rfl) (by rfl) (by intro e;cases e) (by exact uP) (by simp only[Abg];omega) (by simp;omega) ?_);intro v5 w5 dK eO);go_roundw
        case rel=>exact⟨k+1,by omega,by go_num,HE.out _ _ dK eO⟩
        case measure=>simp[intOf];omega
     ·have HL:Hid (iZ wr w3.heap.size (Z nI (gJ fs e0).length kX) (gJ fs e0)/\EL w wr xb mb r2 g.1 { s with aX:=true } fs m (fo,fs.length,fc) (fo,fs.length,fc)):=by
       have q:=HO.out;rw[Aaq (by omega)]at q;exact⟨q.1,HB1.out.more q.2⟩
      have e8:(gJ (fs.take k) e0).length=(gJ fs e0).length:=(by rw[Aaq (by omega)]);rw[e8];clear HO HB1 HK1 x3 e8
      have Ow:(gJ fs e0).length<=50:=by
       have q1:(gJ fs e0).length<=(fs.map (fun f=>f.1)).length:=Acn _ _;simp at q1;omega
      have HBK:Hid (BK { s with aX:=true } fs):=⟨⟨hB.cK.II,hB.cK.Yn,hB.cK.yI,hB.cK.wX,hB.cK.Yo,hB.cK.kI,hB.cK.mX,hB.cK.Nf,hB.cK.XR,hB.cK.zG,hB.cK.Yp,hB.cK.Gw,hB.cK.Ku,hB.cK.nX,hB.cK.rE⟩,hB.Cu,hB.inv,hB.len⟩;obtain⟨L,PE⟩:∃L,L=gJ fs e0:=⟨_,rfl⟩;have T_:Hid (L=gJ fs e0):=PE;rw[<-PE]at HL Ow ⊢;clear PE;go_wp2_with fail;clear x3'
      go_loopw [5,11] (fun o i wq=> ∃(k:Nat) (s1:Sc) (jX:List bC) (f1:bS),k<=L.length/\o= .bool true/\i=I V (k:Int)/\Hid (iZ wq w3.heap.size (Z nI L.length kX) L/\EL w wq xb mb r2 g.1 s1 jX m (fo,fs.length,fc) f1/\BK s1 jX/\gB { s with aX:=true } fs L=gB s1 jX (L.drop k))) (fun _ i _=>L.length-(intOf i).toNat)
      case atStart=>exact⟨0,_,_,_,Aap _,rfl,rfl,HL.out.1,HL.out.2,HBK.out,by simp⟩
      case round=>
       obtain⟨k,s1,jX,f1,hk,rfl,rfl,HI⟩:=hrel;clear HL;by_cases bP:k<L.length
       ·obtain⟨n,hn⟩:∃n,L[k]?=M n:=⟨_,Aag bP⟩;obtain⟨ao4,cap4,ev,Bz,-⟩:=iZ.form HI.out.1;cases ev
        rcases Bz with e|⟨b,off,rfl,hc⟩
        ·rw[e]at bP;simp at bP
        ·have d1:=hc k bP;have e1:L.getD k 0=n:=(by rw[Abo,hn];rfl);rw[e1]at d1;have i1:(0:Int)<=(k:Int):=(by omega);have i2:(k:Int)<(L.length:Int):=(by omega);have HCN:=bn (s:=s1) (fs:=jX) hn;have hlen1:=HI.out.2.2.1.len;have HC:=Ra (n:=n) (k:=0) HI.out.2.1.st (by omega) HI.out.2.2.1.cK HI.out.2.2.1.inv (AaZ 0);clear hc hn e1;cases hr:(bJ s1 jX n 0).1 with
         |false=>
          rw[hr]at HC
          have HX:Hid (jG (s,fs,m)=(((bJ s1 jX n 0).2.1,(bJ s1 jX n 0).2.2,m),10)):=by
           show _=_;rw[HBE.out];refine begT_a (r:=bJ s1 jX n 0) ?_ hr;rw[<-T_.out,HI.out.2.2.2,HCN,Aaa (by rw[hr];simp)]
          clear HCN;go_wp2_with (go_at_call 169;refine HC.mono ?_;rintro e w8 ⟨rfl,ha⟩);go_ret;rw[HX.out];obtain⟨f2,fV,-⟩:=HI.out.2.1.after ha;exact⟨rfl,f2,fV.st,fV.did⟩
         |true=>
          rw[hr]at HC
          have HX:Hid (∀n',n'=k+1->gB { s with aX:=true } fs L=gB (bJ s1 jX n 0).2.1 (bJ s1 jX n 0).2.2 (L.drop n')):=fun n' e=>by
           rw[e,HI.out.2.2.2,HCN,Aad hr]
          clear HCN;go_wp2_with (go_at_call 169;refine HC.mono ?_;rintro e w8 ⟨rfl,ha⟩);obtain⟨f2,fV,Yg⟩:=HI.out.2.1.after ha;have HF:Hid (iZ w8 w3.heap.size (Z (M ⟨b,off,O⟩) L.length kX) L/\EL w w8 xb mb r2 g.1 (bJ s1 jX n 0).2.1 (bJ s1 jX n 0).2.2 m (fo,fs.length,fc) f2/\BK (bJ s1 jX n 0).2.1 (bJ s1 jX n 0).2.2):=⟨iZ.did HI.out.1 HI.out.2.1.st Yg,fV,(Ep HI.out.2.2.1 n (AaZ 0)).1⟩;go_roundw
          case rel=>exact⟨k+1,_,_,f2,by omega,rfl,by go_num,HF.out.1,HF.out.2.1,HF.out.2.2,HX.out _ rfl⟩
          case measure=>simp[intOf];omega
       ·have HX:Hid (gB { s with aX:=true } fs (gJ fs e0)=(true,s1,jX)):=by
         show _=_;rw[<-T_.out,HI.out.2.2.2,Acz (by omega)];rfl
        have hlen1:=HI.out.2.2.1.len;have HC:=Ra (n:=10+e0) (k:=gk) HI.out.2.1.st (by omega) HI.out.2.2.1.cK HI.out.2.2.1.inv hgk0;have HBI:Hid (EL w wr xb mb r2 g.1 s1 jX m (fo,fs.length,fc) f1/\BK s1 jX):=⟨HI.out.2.1,HI.out.2.2.1⟩;clear HI;cases hr:(bJ s1 jX (10+e0) gk).1 with
        |false=>
         rw[hr]at HC;have HE:Hid (jG (s,fs,m)=(((bJ s1 jX (10+e0) gk).2.1,(bJ s1 jX (10+e0) gk).2.2,m),10)):=HBE.out.trans (begT_b HX.out hr);go_wp2_with (go_at_call 169;refine HC.mono ?_;rintro e w8 ⟨rfl,ha⟩);go_ret;rw[HE.out];obtain⟨f2,fV,-⟩:=HBI.out.1.after ha;exact⟨rfl,f2,fV.st,fV.did⟩
        |true=>
         rw[hr]at HC;have hbk2:=(Ep HBI.out.2 (10+e0) hgk0).1;obtain⟨s2,Mh⟩:∃s2,s2=(bJ s1 jX (10+e0) gk).2.1:=⟨_,rfl⟩;obtain⟨Uq,hfs2⟩:∃Uq,Uq=(bJ s1 jX (10+e0) gk).2.2:=⟨_,rfl⟩;rw[<-Mh,<-hfs2]at HC hbk2;have P_:Hid (s2=(bJ s1 jX (10+e0) gk).2.1/\Uq=(bJ s1 jX (10+e0) gk).2.2):=⟨Mh,hfs2⟩;clear Mh hfs2;go_upto_region 23 with(go_at_call 169;refine HC.mono ?_;rintro e w8 ⟨rfl,ha⟩);obtain⟨f2,fV,-⟩:=HBI.out.1.after ha;have Cx:=hbk2.len;have hmb5:r2.2.2.2.2=g.1.2.2.2.2:=fV.Cs.2.2.2.2;obtain⟨y0,y1,y2,y3,y4,-⟩:=aW fV.mod;rw[hmb5]at y4;have HC2:=Ra (n:=1) (k:=g.1.2.2.2.2) fV.st (by omega) hbk2.cK hbk2.inv VP;have BZ:Hid (EL w w8 xb mb r2 g.1 s2 Uq m (fo,fs.length,fc) f2):=fV;clear HC ha fV y0 y1 y2 y3;cases Bt:(bJ s2 Uq 1 g.1.2.2.2.2).1 with
         |false=>
          rw[Bt]at HC2
          have HE:Hid (jG (s,fs,m)=(((bJ s2 Uq 1 g.1.2.2.2.2).2.1,(bJ s2 Uq 1 g.1.2.2.2.2).2.2,m),10)):=by
           show _=_;rw[HBE.out,P_.out.1,P_.out.2];exact begT_c HX.out hr (by rw[<-P_.out.1,<-P_.out.2];exact Bt)
          go_wp2_with (go_at_call 169;refine HC2.mono ?_;rintro e w9 ⟨rfl,ha⟩);go_ret;rw[HE.out];obtain⟨f3,uM,-⟩:=BZ.out.after ha;exact⟨rfl,f3,uM.st,uM.did⟩
         |true=>
          rw[Bt]at HC2
          have HE:Hid (jG (s,fs,m)=(({ (bJ s2 Uq 1 g.1.2.2.2.2).2.1 with ro:=false,aY:=e0 },(bJ s2 Uq 1 g.1.2.2.2.2).2.2,g.1),0)):=by
           show _=_;rw[HBE.out,P_.out.1,P_.out.2];exact begT_d HX.out hr (by rw[<-P_.out.1,<-P_.out.2];exact Bt)
          go_upto_region 25 with(go_at_call 169;refine HC2.mono ?_;rintro e w9 ⟨rfl,ha⟩);obtain⟨f3,uM,-⟩:=BZ.out.after ha;obtain⟨y0,y1,y2,y3,y4',-⟩:=aW uM.mod;obtain⟨rx9,He,-,-⟩:=uM.st;have HB3:Hid (∀s3 Cn,s3=(bJ s2 Uq 1 g.1.2.2.2.2).2.1->Cn=(bJ s2 Uq 1 g.1.2.2.2.2).2.2->EL w w9 xb mb r2 g.1 s3 Cn m (fo,fs.length,fc) f3):=fun s3 Cn e1 e2=>by rw[e1,e2];exact uM
          have hne:mb≠xb:=fun e=>by subst e;exact bU uM.mod He (gH (by decide))
          have hne':xb≠mb:=fun e=>hne e.symm;have HCL:Hid (After w (((((((w9.setCell ⟨xb,11,O⟩ (.bool false)).setCell ⟨xb,12,O⟩ (I V e0)).setCell ⟨xb,13,O⟩ r2.1.v).setCell ⟨xb,14,O⟩ r2.2.1.v).setCell ⟨xb,15,O⟩ r2.2.2.1.v).setCell ⟨xb,16,O⟩ (I V r2.2.2.2.1)).setCell ⟨xb,17,O⟩ (I V r2.2.2.2.2)) xb { (bJ s2 Uq 1 g.1.2.2.2.2).2.1 with ro:=false,aY:=e0 } (bJ s2 Uq 1 g.1.2.2.2.2).2.2 g.1 (fo,fs.length,fc)):=uM.close e0;generalize (bJ s2 Uq 1 g.1.2.2.2.2).2.1=s3 at HE HCL He;generalize (bJ s2 Uq 1 g.1.2.2.2.2).2.2=Cn at HE HCL;have s11:w9.cell? ⟨xb,11,O⟩=M (.bool s3.ro):=(by simp[World.cell?,He,bO]);have s12:w9.cell? ⟨xb,12,O⟩=M (I V s3.aY):=(by simp[World.cell?,He,bO]);have sf1:w9.frozen? ⟨xb,11,O⟩=false:=(by simp[World.frozen?,He,bO]);have sf2:w9.frozen? ⟨xb,12,O⟩=false:=(by simp[World.frozen?,He,bO]);have Qq:((w9.setCell ⟨xb,11,O⟩ (.bool false)).setCell ⟨xb,12,O⟩ (I V e0)).heap[xb]?=M (bO { s3 with ro:=false,aY:=e0 } f3 rx9):=Et e0 (tV false He);have hm10:=(Fr.set (w9.setCell ⟨xb,11,O⟩ (.bool false)) ⟨xb,12,O⟩ (I V e0)).at ((Fr.set w9 ⟨xb,11,O⟩ (.bool false)).at uM.mod hne) hne;clear uM He ha HC2 HB3 BZ P_ hbk2 Bt hr HX HBI HBK T_ HBE hlen1 Cx Ow y0 y1 y2 y3 y4 y4' hmb5 VP HW hB hlb z1 z2 z3 tC hlen;go_upto_region 28 with fail;go_upto_region 29 with fail;obtain⟨Od,hw10⟩:∃Od,Od=(w9.setCell ⟨xb,11,O⟩ (.bool false)).setCell ⟨xb,12,O⟩ (I V e0):=⟨_,rfl⟩;rw[<-hw10]at Qq hm10 HCL ⊢;clear hw10 s11 s12 sf1 sf2;obtain⟨y0,y1,y2,y3,y4,-⟩:=aW hm10;have s13:Od.cell? ⟨xb,13,O⟩=M rx9.1.v:=(by simp[World.cell?,Qq,bO]);have s14:Od.cell? ⟨xb,14,O⟩=M rx9.2.1.v:=(by simp[World.cell?,Qq,bO]);have s15:Od.cell? ⟨xb,15,O⟩=M rx9.2.2.1.v:=(by simp[World.cell?,Qq,bO]);have s16:Od.cell? ⟨xb,16,O⟩=M (I V rx9.2.2.2.1):=(by simp[World.cell?,Qq,bO]);have s17:Od.cell? ⟨xb,17,O⟩=M (I V rx9.2.2.2.2):=(by simp[World.cell?,Qq,bO]);have sf13:Od.frozen? ⟨xb,13,O⟩=false:=(by simp[World.frozen?,Qq,bO]);have sf14:Od.frozen? ⟨xb,14,O⟩=false:=(by simp[World.frozen?,Qq,bO]);have sf15:Od.frozen? ⟨xb,15,O⟩=false:=(by simp[World.frozen?,Qq,bO]);have sf16:Od.frozen? ⟨xb,16,O⟩=false:=(by simp[World.frozen?,Qq,bO]);have sf17:Od.frozen? ⟨xb,17,O⟩=false:=(by simp[World.frozen?,Qq,bO]);clear Qq hm10;obtain⟨⟨b1,b2,b3⟩,⟨b4,b5,b6⟩,⟨b7,b8,b9⟩,Wp,Gf⟩:=r2;simp only[bS.v]at y0 y1 y2 y3 y4 HCL;go_wp2_with fail;go_ret;rw[HE.out];exact⟨rfl,HCL.out⟩
def Me (w:F)(b:Nat):Prop:=∃aS t mk,w.heap[b]?=M (C aS t mk)/\t≠234/\t≠114/\t≠261/\t≠302
theorem Me.no (h:Me w b){t:TypeId}{f:Nat×Nat}(hb:w.heap[b]?=M (C aS t f))(ht:t=234\/t=114\/t=261\/t=302):False:=by
 obtain⟨qN,t',mk,h1,k1,k2,k3,k4⟩:=h;rw[hb]at h1;cases h1
 rcases ht with e|e|e|e
 ·exact k1 e
 ·exact k2 e
 ·exact k3 e
 ·exact k4 e
theorem Me.of {t:TypeId}{f:Nat×Nat}(hb:w.heap[b]?=M (C aS t f))(h1:t≠234)(h2:t≠114)(h3:t≠261)(h4:t≠302):Me w b:=⟨aS,t,f,hb,h1,h2,h3,h4⟩
theorem ZW.free (h:ZW w b):Me w b:=by
 obtain⟨aS,t,mk,h1,h2⟩:=h;refine⟨aS,t,mk,h1,?_⟩;rcases h2 with rfl|rfl|rfl|rfl|rfl|rfl|rfl|rfl|rfl<;>decide
theorem aV.jq {aD:Nat->Prop}{dp tb depth:Nat}(h:aV w dp tb depth m)(hF:Fr w w' aD)(hY:∀b,aD b->Me w b)(h1:¬aD dp)(h2:¬aD tb):aV w' dp tb depth m:=by
 obtain⟨u,r,k1,k2,k3,k4⟩:=h;have no:∀ {b:Nat} {aS:Array Y} {t:TypeId} {f:Nat×Nat},w.heap[b]?=M (C aS t f)->(t=234\/t=114\/t=261\/t=302)->¬aD b:=fun hb ht e=>(hY _ e).no hb ht;exact⟨u,r,hF.at k1 h1,k2.fr hF h2 (fun b la ra p h l hb=>no hb (by decide)),k3.fr hF (fun b aS hb=>no hb (by decide)) (fun b aS hb=>no hb (by decide)),k4.fr hF (fun b aS hb=>no hb (by decide)) (fun b aS hb=>no hb (by decide))⟩
theorem uI.jq {aD:Nat->Prop}{qp:Nat}{X:Nat->Prop}(h:uI w qp s fs m X)(hF:Fr w w' aD)(hY:∀b,aD b->Me w b)(hX:∀b,X b->¬aD b):uI w' qp s fs m X:=by
 rcases h with⟨h0,db,fv,rs,h1,h2,h3,rfl⟩|⟨h0,db,fv,rs,sp,lp,dp,tb,h1,h2,rfl⟩
 ·exact Aac ⟨h0,db,fv,rs,h1.fr hF (fun b hb=>hX b (Aab hb)),h2,hF.at h3 (hX _ (Aac rfl)),rfl⟩
 ·exact Aab ⟨h0,db,fv,rs,sp,lp,dp,tb,⟨h1.disk.fr hF (fun b hb=>hX b (Aab (Aac hb))),hF.at h1.qu (hX _ (Aac rfl)),hF.at h1.zT (hX _ (Aab (Aab (Aac rfl)))),hF.at h1.vF (hX _ (Aab (Aab (Aab (Aac rfl))))),h1.Xh.jq hF hY (hX _ (Aab (Aab (Aab (Aab (Aac rfl)))))) (hX _ (Aab (Aab (Aab (Aab (Aab rfl))))))⟩,h2,rfl⟩
theorem Vy.jq {X:Nat->Prop}{ao:Option Addr}{l:List bC}(h:Vy w ao l)(hF:Fr w w' X)(hx:∀a,ao=M a->¬X a.block):Vy w' ao l:=by
 obtain⟨h1,h2⟩:=h;refine⟨?_,fun a e=>?_⟩
 ·rcases h1 with h1|⟨b,off,e,hc⟩
  ·exact Aac h1
  ·refine Aab ⟨b,off,e,fun j u hu=>?_⟩;obtain⟨aS,hb⟩:=h2 _ e;have qG:w'.heap[b]?=w.heap[b]?:=hF.2 b (aM hb) (hx _ e);exact(AaO (a:=⟨b,off+j,O⟩) qG).trans (hc j u hu)
 ·obtain⟨aS,hb⟩:=h2 a e;exact⟨aS,hF.at hb (hx _ e)⟩
theorem bM.jq {aD:Nat->Prop}(h:bM w xb s fs m f)(hF:Fr w w' aD)(hY:∀b,aD b->Me w b)(h1:¬aD xb)(h2:∀a,f.1=M a->¬aD a.block):bM w' xb s fs m f:=by
 obtain⟨r,hx,hf,hm⟩:=h;exact⟨r,hF.at hx h1,⟨hf.1.jq hF h2,hf.2⟩,hm.fr hF (fun b aS hb e=>(hY _ e).no hb (by decide)) (fun b aS hb e=>(hY _ e).no hb (by decide))⟩
structure iV where
 sb:Nat
 qp:Nat
 xb:Nat
 x:St
 X:Nat->Prop
 f:bS
variable {r:iV}
def iV.aD (r:iV)(b:Nat):Prop:=r.X b\/b=r.xb\/∃a,r.f.1=M a/\b=a.block
def Hz (qp xb:Nat):Obj:=C #[U (M ⟨qp,0,O⟩),U (M ⟨xb,0,O⟩)] 171 (0,0)
structure fU (w:F)(B:Nat)(r:iV):Prop where
 sb:w.heap[r.sb]?=M (Hz r.qp r.xb)
 q:uI w r.qp r.x.1 r.x.2.1 r.x.2.2 r.X
 y:bM w r.xb r.x.1 r.x.2.1 r.x.2.2 r.f
 sbn:B<=r.sb
 yn:∀b,r.aD b->B<=b
def Jp (r q:iV):Prop:=r.sb≠q.sb/\∀b,r.aD b->¬q.aD b
def STy (w:F)(b:Nat):Prop:=ZW w b\/∃aS t mk,w.heap[b]?=M (C aS t mk)/\(t=189\/t=193)
theorem STy.free (h:STy w b):Me w b:=by
 rcases h with h|⟨aS,t,mk,h1,rfl|rfl⟩
 ·exact h.free
 ·exact⟨_,_,_,h1,by decide⟩
 ·exact⟨_,_,_,h1,by decide⟩
theorem STy.ne (h:STy w b){t:TypeId}{f:Nat×Nat}(hb:w.heap[b]?=M (C aS t f))(ht:(t≠137/\t≠155/\t≠157/\t≠5/\t≠80/\t≠93/\t≠140/\t≠147/\t≠160)/\t≠189/\t≠193):False:=by
 obtain⟨ht,h3,h4⟩:=ht;rcases h with h|⟨qN,t',mk,h1,h2⟩
 ·exact h.ne hb ht rfl
 ·rw[hb]at h1;cases h1
  rcases h2 with e|e
  ·exact h3 e
  ·exact h4 e
theorem fU.ty (h:fU w B r)(hb:r.aD b):STy w b:=by
 rcases hb with hb|rfl|⟨a,e,rfl⟩
 ·exact Aac (h.q.ty hb)
 ·obtain⟨rx,hx,-,-⟩:=h.y;exact Aab ⟨_,_,_,hx,Aac rfl⟩
 ·obtain⟨rx,hx,hf,-⟩:=h.y;obtain⟨aS,hc⟩:=hf.1.2 a e;exact Aab ⟨_,_,_,hc,Aab rfl⟩
theorem fU.lt (h:fU w B r)(hb:r.aD b):b<w.heap.size:=by
 obtain⟨aS,t,mk,h1,-⟩:=(h.ty hb).free;exact aM h1
theorem fU.fr {aJ:Nat->Prop}(h:fU w B r)(hF:Fr w w' aJ)(hZ:∀b,aJ b->Me w b)(h1:¬aJ r.sb)(h2:∀b,r.aD b->¬aJ b):fU w' B r:=
 ⟨hF.at h.sb h1,h.q.jq hF hZ (fun b hb=>h2 b (Aac hb)),h.y.jq hF hZ (h2 _ (Aab (Aac rfl))) (fun a e=>h2 _ (Aab (Aab ⟨a,e,rfl⟩))),h.sbn,h.yn⟩
theorem fU.aN (h:fU w B r)(hg:aL w w'):fU w' B r:=h.fr (Fr.cZ hg (fun _=>False)) (fun _ h=>h.elim) id (fun _ _=>id)
theorem fU.half {w1:F}(h:fU w B r){X':Nat->Prop}(hk:Dk w w1 r.X X'):bM w1 r.xb r.x.1 r.x.2.1 r.x.2.2 r.f/\w1.heap[r.sb]?=M (Hz r.qp r.xb):=by
 obtain⟨rx,hx,hf,hm⟩:=h.y;refine⟨bM.jq ⟨rx,hx,hf,hm⟩ hk.1 (fun b hb=>(h.q.ty hb).free) (fun e=>(h.q.ty e).ne hx (by decide) rfl) (fun a e e2=>?_),hk.1.at h.sb (fun e=>(h.q.ty e).ne h.sb (by decide) rfl)⟩;obtain⟨aS,hc⟩:=hf.1.2 a e;exact(h.q.ty e2).ne hc (by decide) rfl
structure xJ (w w2:F)(B:Nat)(r r':iV):Prop where
 pair:fU w2 B r'
 sb:r'.sb=r.sb
 fr:Fr w w2 r.aD
 io:w2.os=w.os/\w2.tape=w.tape/\w2.output=w.output
 yn:∀b,r'.aD b->r.aD b\/w.heap.size<=b
theorem fU.both {w1 w2:F}(h:fU w B r)(hB:B<=w.heap.size){x1:St}{X':Nat->Prop}(hq:uI w1 r.qp x1.1 x1.2.1 x1.2.2 X')(hk:Dk w w1 r.X X')(ha:After w1 w2 r.xb x1.1 x1.2.1 x1.2.2 r.f):∃r',xJ w w2 B r r'/\r'.x=x1:=by
 obtain⟨f',hs,Pn,Yg,hd3⟩:=ha;obtain⟨rx,hx,hf,hm⟩:=(h.half hk).1
 have hY:∀b,(b=r.xb\/∃a,r.f.1=M a/\b=a.block)->STy w1 b:=by
  rintro b (rfl|⟨a,e,rfl⟩)
  ·exact Aab ⟨_,_,_,hx,Aac rfl⟩
  ·obtain⟨aS,hc⟩:=hf.1.2 a e;exact Aab ⟨_,_,_,hc,Aab rfl⟩
 have hX:∀b,X' b->¬(b=r.xb\/∃a,r.f.1=M a/\b=a.block):=by
  intro b hb e;have t1:=hq.ty hb;rcases e with rfl|⟨a,e,rfl⟩
  ·exact t1.ne hx (by decide) rfl
  ·obtain⟨aS,hc⟩:=hf.1.2 a e;exact t1.ne hc (by decide) rfl
 have hle:w.heap.size<=w1.heap.size:=hk.1.1
 have hyn:∀b,(X' b\/b=r.xb\/∃a,f'.1=M a/\b=a.block)->r.aD b\/w.heap.size<=b:=by
  rintro b (hb|rfl|⟨a,e,rfl⟩)
  ·rcases hk.2.2 b hb with hb|hb
   ·exact Aac (Aac hb)
   ·exact Aab hb
  ·exact Aac (Aab (Aac rfl))
  ·rcases hd3 with e2|e2
   ·rw[e2]at e;exact Aac (Aab (Aab ⟨a,e,rfl⟩))
   ·have:=e2 a e;exact Aab (by omega)
 refine⟨⟨r.sb,r.qp,r.xb,x1,X',f'⟩,⟨⟨Pn.at (h.half hk).2 (fun e=>(hY _ e).ne (h.half hk).2 (by decide)),hq.jq Pn (fun b hb=>(hY b hb).free) hX,hs,h.sbn,fun b hb=>?_⟩,rfl,?_,⟨Yg.1.trans hk.2.1.1,Yg.2.1.trans hk.2.1.2.1,Yg.2.2.trans hk.2.1.2.2⟩,hyn⟩,rfl⟩
 ·rcases hyn b hb with hb|hb
  ·exact h.yn b hb
  ·omega
 ·refine⟨Aam hk.1.1 Pn.1,fun b hb hn=>?_⟩;rw[Pn.2 b (by omega) (fun e=>hn (Aab e)),hk.1.2 b hb (fun e=>hn (Aac e))]
end Go.Proofs.YtfplgfodoiiobaaGreatDoor
