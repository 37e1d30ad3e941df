/- DrP, DrQ, LgA, LgB (joined). -/
import Derived.Lib.ConvBytes
import Derived.Lib.ItoaLen
import Derived.Test.YtfplgfodoiiobaaGreatDoorJ18
import Derived.Test.YtfplgfodoiiobaaGreatDoorShlf
open Option renaming none→O,some→M
open Go.Value renaming int→I,slice→Z,pointer→U
open Go.IntKind renaming i64→V
open Go.Obj renaming cells→C
open Go.Ending renaming returned→G
open Go renaming World→F,Value→Y,Calls→H
open Go.Proofs.Tryz renaming prog→K
namespace Go.Proofs.YtfplgfodoiiobaaGreatDoor
set_option maxHeartbeats 4000000
set_option maxRecDepth 100000
open Go.RowKit
variable {w w' W:F}{ps:Nat->Addr}{v fv:Y}{c n ep q a b:Int}{db lp D k bx:Nat}{s:Sc}{X X':Nat->Prop}{rs:List FR}{fs:List bF}
theorem XL {l:List Ed}{e:Ed}(h:l[k]?=M e):nP n (l.drop k)=if e.1<0\/n-sz e.2.1<e.1 then false else if 5000<n+(sz e.2.2-sz e.2.1)then false else nP (n+(sz e.2.2-sz e.2.1)) (l.drop (k+1)):=by
 obtain⟨bV,he⟩:=List.getElem?_eq_some_iff.1 h;rw[List.drop_eq_getElem_cons bV,he,nP]
theorem TU {x:gN}{l:List Ed}(h:dG w x l)(hl:l.length<=1000000)(Yo:0<=n)(hn:n<=5000)(ho:∀e∈l,eF e.2.1/\eF e.2.2/\e.2.1.length<=10000/\e.2.2.length<=10000):
 H K 188 #[I V n,x.v] w fun e w'=>e=G (.bool (nP n l))/\aJ w w':=by
 obtain⟨xo,xn,xc⟩:=x;have hlen:=h.len;simp only at hlen;have HR:Hid (∀(k:Nat) (e:Ed),l[k]?=M e->∃(b off:Nat) (r:iB),xo=M ⟨b,off,O⟩/\w.cell? ⟨b,off+k*3,O⟩=M (I V r.1)/\w.cell? ⟨b,off+k*3+1,O⟩=M r.2.1.v/\w.cell? ⟨b,off+k*3+2,O⟩=M r.2.2.v/\uX w r e):=fun k e he=>h.nth he
 have HB:Hid (∀W (x:gN) (l:List (Int×Int)),bI W x l->eF l->l.length<=10000->H K 187 #[x.v] W fun e w'=>e=G (I V (sz l))/\aJ W w'):=fun W x l h1 h2 h3=>sW h1 h2 (by omega)
 have HOK:Hid (∀e∈l,(eF e.2.1/\eF e.2.2/\e.2.1.length<=10000/\e.2.2.length<=10000)/\(0<=sz e.2.1/\sz e.2.1<=100000000)/\(0<=sz e.2.2/\sz e.2.2<=100000000)):=fun e he=>by
  obtain⟨a,b,c,d⟩:=ho e he;have b1:=lN a e.2.1.length;have b2:=lN b e.2.2.length;rw[List.take_length]at b1 b2;exact⟨⟨a,b,c,d⟩,⟨oN a,by omega⟩,⟨oN b,by omega⟩⟩
 subst hlen;simp only[gN.v];clear h ho;go_enter Tryz.func188,Tryz.ntmps188
 go_wp2_with fail
 go_loopw [0,6,7,10] (fun c _ _ i wr=> ∃(k:Nat) (nk:Int),k<=l.length/\c=I V nk/\i=I V (k:Int)/\(0<=nk/\nk<=5000)/\Hid (nP n l=nP nk (l.drop k))/\Hid (aJ w wr)) (fun _ _ _ i _=>l.length-(intOf i).toNat)
 case atStart=>exact⟨0,n,Nat.zero_le _,rfl,rfl,⟨Yo,hn⟩,rfl,aJ.refl w⟩
 case round=>
  obtain⟨k,nk,hk,rfl,rfl,⟨hk0,TV⟩,HF,HG⟩:=hrel;by_cases bV:k<l.length
  ·obtain⟨e,he⟩:∃e,l[k]?=M e:=⟨_,List.getElem?_eq_getElem bV⟩;obtain⟨b,off,r,rfl,d1,d2,d3,Lj⟩:=HR.out k e he;have d1:=HG.out.cell d1;have d2:=HG.out.cell d2;have d3:=HG.out.cell d3;have i1:(0:Int)<=(k:Int):=by omega
   have i2:(k:Int)<(l.length:Int):=by omega
   obtain⟨⟨o1,o2,o3,o4⟩,⟨s1,s2⟩,⟨s3,s4⟩⟩:=HOK.out e (List.mem_of_getElem? he);have hF:=HF.out;rw[XL he]at hF;have DK:Hid (∀W,aJ wr W->H K 187 #[r.2.1.v] W fun e' w'=>e'=G (I V (sz e.2.1))/\aJ W w'):=fun W hW=>HB.out W _ _ ((Lj.2.1.aM HG.out).aM hW) o1 o3
   have Mq:Hid (∀W,aJ wr W->H K 187 #[r.2.2.v] W fun e' w'=>e'=G (I V (sz e.2.2))/\aJ W w'):=fun W hW=>HB.out W _ _ ((Lj.2.2.aM HG.out).aM hW) o2 o4
   have au:=Lj.1;obtain⟨r1,⟨x1,x2,x3⟩,⟨y1,y2,y3⟩⟩:=r;simp only at au;subst au;simp only[gN.v]at d2 d3 DK Mq;have XM:Hid (nP n l=if e.1<0\/nk-sz e.2.1<e.1 then false else if 5000<nk+(sz e.2.2-sz e.2.1)then false else nP (nk+(sz e.2.2-sz e.2.1)) (l.drop (k+1))):=hF;generalize sz e.2.1=sa at*;generalize sz e.2.2=sb at*;generalize e.1=p at*;clear hF HF he Lj HB HOK o1 o2 o3 o4
   go_upto_region 4 with fail
   have Ba:=heap_alloc_new wr (C #[I V p,Z x1 x2 x3,Z y1 y2 y3] 261);have hGa:Hid (aJ wr (wr.alloc (C #[I V p,Z x1 x2 x3,Z y1 y2 y3] 261))):=(aJ.refl wr).alloc _;generalize (wr.alloc (C #[I V p,Z x1 x2 x3,Z y1 y2 y3] 261))=wq at*
   have HC:Hid (∀W,aJ wq W->W.cell? ⟨wr.heap.size,0,O⟩=M (I V p)/\W.cell? ⟨wr.heap.size,1,O⟩=M (Z x1 x2 x3)/\W.cell? ⟨wr.heap.size,2,O⟩=M (Z y1 y2 y3)):=fun W hW=>by
    obtain⟨a,b,c,-⟩:=gF ((hW.block _ (aK Ba)).trans Ba);exact⟨a,b,c⟩
   obtain⟨q0,q1,q2⟩:=HC.out wq (aJ.refl wq);have bX:=DK.out wq hGa.out;clear Ba;by_cases c1:p<0\/nk-sa<p
   ·have av:Hid (nP n l=false):=by show _=_;rw[XM.out,if_pos c1]
    clear XM
    go_upto_region 5 with(go_at_call 187;refine bX.mono ?_;rintro e' w4 ⟨rfl,mO⟩;obtain⟨z0,z1,z2⟩:=HC.out w4 mO)
    by_cases c2:p<0
    ·go_wp2_with fail
     go_ret;exact⟨by first|(rw[av.out];done)|(rw[av.out];rfl),HG.out.then (hGa.out.then mO)⟩
    ·have c3:nk-sa<p:=by omega
     have c4:wrap64 (nk-sa)=nk-sa:=by unfold wrap64;omega
     go_wp2_with fail
     go_ret;exact⟨by first|(rw[av.out];done)|(rw[av.out];rfl),HG.out.then (hGa.out.then mO)⟩
   ·have c2:¬p<0:=by omega
    have c3:¬nk-sa<p:=by omega
    have c5:nk-sa+sb=nk+(sb-sa):=by omega
    by_cases c6:5000<nk+(sb-sa)
    ·have av:Hid (nP n l=false):=by show _=_;rw[XM.out,if_neg c1,if_pos c6]
     clear XM c1
     go_wp2_with (first|(go_at_call 187;refine bX.mono ?_;rintro e' w4 ⟨rfl,mO⟩;obtain⟨z0,z1,z2⟩:=HC.out w4 mO;have fP:=Mq.out w4 (hGa.out.then mO);clear bX)|(go_at_call 187;refine fP.mono ?_;rintro e' w5 ⟨rfl,dK⟩))
     go_ret;exact⟨by first|(rw[av.out];done)|(rw[av.out];rfl),HG.out.then (hGa.out.then (mO.then dK))⟩
    ·have av:Hid (nP n l=nP (nk+(sb-sa)) (l.drop (k+1))):=by show _=_;rw[XM.out,if_neg c1,if_neg c6]
     have c7:0<=nk+(sb-sa):=by omega
     have c8:nk+(sb-sa)<=5000:=by omega
     clear XM c1
     go_wp2_with (first|(go_at_call 187;refine bX.mono ?_;rintro e' w4 ⟨rfl,mO⟩;obtain⟨z0,z1,z2⟩:=HC.out w4 mO;have fP:=Mq.out w4 (hGa.out.then mO);clear bX)|(go_at_call 187;refine fP.mono ?_;rintro e' w5 ⟨rfl,dK⟩))
     go_roundw
     case rel=>exact⟨k+1,nk+(sb-sa),by omega,by go_num,by go_num,⟨c7,c8⟩,av,(show aJ w _ from HG.out.then (hGa.out.then (mO.then dK)))⟩
     case measure=>simp[intOf];omega
  ·have e1:l.drop k=[]:=List.drop_eq_nil_of_le (by omega);have av:Hid (nP n l=true):=by show _=_;rw[HF.out,e1];rfl
   clear HF e1
   go_wp2_with fail
   go_ret;exact⟨by first|(rw[av.out];done)|(rw[av.out];rfl),HG.out⟩
theorem PL {l:List (Int×Int)}(h:eF l){p:Int}(hp:0<=p)(hn:0<n)(hs:p+n<=sz l):∃q,mH l p=(q,0)/\kQ q/\cO (bJ l p) n=(q.1,min q.2 n)::cO (bJ l (p+min q.2 n)) (n-min q.2 n):=by
 have ht:=kC h (n:=p) hp (by omega);have hokt:=iI h p;cases hT:bJ l p with
 |nil=>rw[hT]at ht;simp[sz]at ht;omega
 |cons q T=>
  rw[hT]at hokt;have hq:=dQ hokt;have xA:=hq;unfold kQ at xA;refine⟨q,?_,hq,?_⟩
  ·unfold mH;rw[if_neg (by omega),hT];rfl
  ·rw[<-zB h hp (by omega:0<=min q.2 n),hT];by_cases hc:q.2<=n
   ·rw[show min q.2 n=q.2 from by omega];rw[cO,if_neg (by omega),if_pos hc,bJ,if_neg (by omega),if_pos (Int.le_refl _)];rw[show q.2-q.2=0 from by omega,sO T (Int.le_refl 0)]
   ·rw[show min q.2 n=n from by omega,show n-n=0 from by omega,lU _ (Int.le_refl 0)];rw[cO,if_neg (by omega),if_neg hc]
theorem um {dp tb depth:Nat}{m:bT}{pos:Int}(h:aQ w dp tb depth m)(hn:n<=9223372036854775807)(hz:sz m.1<=100000000)(tO:0<=sz m.1)(hb:n<0\/pE m.1 pos n=false):
 H K 76 #[U (M ⟨dp,0,O⟩),I V pos,I V n] w fun e w'=>e=G (.tuple #[Z O 0 0,I V 5])/\w'=w:=by
 by_cases h1:n<0
 ·go_enter Tryz.func76,Tryz.ntmps76
  go_wp2_with fail
  refine bodyPost_ret (v:= .tuple #[Z O 0 0,I V 5]) (by simp[results,Tryz.results76,go_sem]) rfl ?_;exact⟨rfl,rfl⟩
 ·have h2:=hb.resolve_left h1;have hc:=Np (pos:=pos) h (by omega) hn hz tO;rw[h2]at hc;clear h hb;go_enter Tryz.func76,Tryz.ntmps76
  go_wp2_with (go_at_call 118;refine hc.mono ?_;rintro e w ⟨rfl,rfl⟩)
  refine bodyPost_ret (v:= .tuple #[Z O 0 0,I V 5]) (by simp[results,Tryz.results76,go_sem]) rfl ?_;exact⟨rfl,rfl⟩
theorem uq {dp tb depth:Nat}{m:bT}{pos:Int}(h:aQ w dp tb depth m)(hz:sz m.1<=5000)(h0:0<=n)(h1:0<=pos)(h2:pos+n<=sz m.1):
 H K 76 #[U (M ⟨dp,0,O⟩),I V pos,I V n] w fun e w'=> ∃x1 x2 x3,e=G (.tuple #[Z x1 x2 x3,I V 0])/\bI w' (x1,x2,x3) (kX m.1 pos (pos+n))/\aJ w w':=by
 have hc:=Np (pos:=pos) (n:=n) h h0 (by omega) (by omega) (by omega);have e0:pE m.1 pos n=true:=by unfold pE;simp;omega
 rw[e0]at hc;obtain⟨u,r,hb,ht,-,-⟩:=h;have kR:=ht.ok.1;have Wy:=aK hb;obtain⟨-,d1,-⟩:=bL hb;have HF:Hid (∀W,aJ w W->∀q,H K 104 #[U (M ⟨tb,0,O⟩),I V q] W fun e w'=>e=G (.tuple #[.agg #[I V (mH m.1 q).1.1,I V (mH m.1 q).1.2],I V (mH m.1 q).2])/\aJ W w'):=fun W hW q=>Ox (ht.below hW)
 have HD:Hid (∀W,aJ w W->W.cell? ⟨dp,1,O⟩=M (U (M ⟨tb,0,O⟩))):=fun W hW=>hW.cell d1
 have HP:Hid (kX m.1 pos (pos+n)=cO (bJ m.1 pos) n):=by
  show _=_;rw[SL kR _ h1,show pos+n-pos=n from by omega]
 have HZ:Hid (pos+n<=sz m.1/\sz m.1<=5000):=⟨h2,hz⟩;have HOK:Hid (eF m.1):=kR;clear hb ht d1 kR hz;obtain⟨i0,hi,tO,tQ,uW⟩:=info_parts Tryz.infoPiece;go_enter Tryz.func76,Tryz.ntmps76;have pQ:¬n<0:=by omega
 go_upto_region 3 with(go_at_call 118;refine hc.mono ?_;rintro e w ⟨rfl,rfl⟩)
 go_wp2_with fail
 go_loopw [1,2,8,9,10] (fun p c v _ _ wr=> ∃(pk nk:Int) (out:List (Int×Int)),p=I V pk/\c=I V nk/\(0<=pk/\0<=nk/\pk+nk=pos+n/\nk<=5000)/\Hid ((out.length:Int)+nk<=5000)/\Hid (cO (bJ m.1 pos) n=out++cO (bJ m.1 pk) nk)/\Hid (rQ wr w.heap.size v out)/\Hid (aJ w wr)) (fun _ c _ _ _ _=>(intOf c).toNat)
 case atStart=>exact⟨pos,n,[],rfl,rfl,⟨h1,h0,rfl,by have:=HZ.out;omega⟩,by have:=HZ.out;show _<=_;simp;omega,rfl,World.ownsRow_nil _ _ _ _,aJ.refl w⟩
 case round=>
  obtain⟨pk,nk,out,rfl,rfl,⟨b1,b2,b3,b4⟩,HL,HH,HO,HG⟩:=hrel;by_cases bV:0<nk
  ·obtain⟨q,hf,hq,hs⟩:=PL HOK.out b1 bV (by have:=HZ.out;omega);have eP:=HF.out wr HG.out pk;rw[hf]at eP;obtain⟨q1,q2⟩:=q;simp only at eP hs;unfold kQ at hq;simp only at hq;have d1:=HD.out wr HG.out
   have HN:Hid (cO (bJ m.1 pos) n=(out++ [(q1,min q2 nk)])++cO (bJ m.1 (pk+min q2 nk)) (nk-min q2 nk)):=by
    show _=_;rw[HH.out,hs];simp
   obtain⟨yI,kJ,ev,-⟩:=rQ.form HO.out;subst ev;have HK:Hid (∀w4,aJ wr w4->rQ w4 w.heap.size (Z yI out.length kJ) out/\aJ w w4):=fun w4 h4=>⟨fK HO.out (Fr.dO h4 (fun _=>False)) (fun _ _ _ _ h=>h),HG.out.then h4⟩
   clear hs hf HF HH HO HD
   go_upto_region 6 with(go_at_call 104;refine eP.mono ?_;rintro e w4 ⟨rfl,mO⟩)
   have Ba:=heap_alloc_new w4 (C #[I V q1,I V q2] 114);have Nv:Hid (aJ w4 (w4.alloc (C #[I V q1,I V q2] 114))):=(aJ.refl w4).alloc _;generalize (w4.alloc (C #[I V q1,I V q2] 114))=wq at*;have x0:wq.cell? ⟨w4.heap.size,0,O⟩=M (I V q1):=by simp[World.cell?,Ba]
   have x1:wq.cell? ⟨w4.heap.size,1,O⟩=M (I V q2):=by simp[World.cell?,Ba]
   have x2:∀j,wq.frozen? ⟨w4.heap.size,j,O⟩=false:=fun j=>by simp[World.frozen?,Ba]
   have HBX:Hid (wq.heap[w4.heap.size]?=M (C #[I V q1,I V q2] 114 (0,0))):=Ba;clear Ba d1
   go_upto_region 7 with fail
   have EN:(wq.setCell ⟨w4.heap.size,1,O⟩ (I V (min q2 nk))).heap[w4.heap.size]?=M (C #[I V q1,I V (min q2 nk)] 114 (0,0)):=by
    rw[heap_setCell_same wq w4.heap.size 1 _ _ _ HBX.out];rfl
   have HGB:Hid (aJ w4 (wq.setCell ⟨w4.heap.size,1,O⟩ (I V (min q2 nk)))):=Nv.out.set (a:=⟨w4.heap.size,1,O⟩) (Nat.le_refl _) _;clear x0 x1 x2 HBX Nv;generalize (wq.setCell ⟨w4.heap.size,1,O⟩ (I V (min q2 nk)))=ws at*;have x0:ws.cell? ⟨w4.heap.size,0,O⟩=M (I V q1):=by simp[World.cell?,EN]
   have x1:ws.cell? ⟨w4.heap.size,1,O⟩=M (I V (min q2 nk)):=by simp[World.cell?,EN]
   have HBY:Hid (ws.heap[w4.heap.size]?=M (C #[I V q1,I V (min q2 nk)] 114 (0,0))):=EN;clear EN;obtain⟨k1,k2⟩:=HK.out ws (mO.then HGB.out);have HOL:Hid (∀g,(Value.slice yI out.length kJ).ownBlock=M g->g<w4.heap.size):=fun g hg=>(World.ownsRow.lt (HK.out w4 mO).1 g hg).2
   have hle:w.heap.size<=ws.heap.size:=k2.le;have holen:out.length<=5000:=by have:=HL.out;omega
   have yK:Tj (ws.alloc (C #[I V q1,I V (min q2 nk)] 114)) (M ⟨ws.heap.size,0,O⟩) [(q1,min q2 nk)]:=(TR ws q1 (min q2 nk)).1.1;have hmin:0<min q2 nk/\min q2 nk<=nk:=by omega
   generalize min q2 nk=mq at*
   go_upto_region 8 with(at_builtin;go_must (refine wB (by rfl) (.tmp 36) (.tmp 38) (by rfl) w.heap.size _ out [(q1,mq)] (by rfl) (by exact World.ownsRow.alloc k1 _) _ _ _ (by rfl) (by rfl) (by intro e;cases e) (by exact yK) (by simp only[List.length_singleton];omega) (by simp;omega) ?_);intro v5 w5 jU dK)
   have HG5:Hid (aJ w w5):=GR k2 (Nat.le_refl _) k1 dK
   have rG:w5.heap[w4.heap.size]?=M (C #[I V q1,I V mq] 114 (0,0)):=by
    have h1:=kM dK;rw[h1.block w4.heap.size (aK HBY.out) (fun e=>by have:=HOL.out _ e.symm;omega)];exact HBY.out
   have y1:w5.cell? ⟨w4.heap.size,1,O⟩=M (I V mq):=by simp[World.cell?,rG]
   have HO5:Hid (rQ w5 w.heap.size v5 (out++ [(q1,mq)])):=jU;clear x0 x1 yK k1 k2 rG jU dK;have hpk:pk<=5000:=by have:=HZ.out;omega
   go_quiet (fail)
   go_wp2_with fail
   go_roundw
   case rel=>exact⟨pk+mq,nk-mq,out++ [(q1,mq)],by go_num,by go_num,⟨by omega,by omega,by omega,by omega⟩,by have:=HL.out;show _<=_;simp;omega,HN,fK HO5.out (Fr.dO (bG (aJ.refl _) _) (fun _=>False)) (fun _ _ _ _ h=>h),(show aJ w _ from bG HG5.out _)⟩
   case measure=>simp[intOf];omega
  ·have e0:nk=0:=by omega
   subst e0;obtain⟨yI,kJ,ev,-⟩:=rQ.form HO.out;subst ev;obtain⟨ao4,cap4,ev,Jr,GU⟩:=ED.zC HO.out;cases ev
   have HE:Hid (kX m.1 pos (pos+n)=out):=by
    show _=_;rw[HP.out,HH.out,lU _ (Int.le_refl 0)];simp
   have HLS:Hid (bI wr (yI,out.length,kJ) out):=⟨Jr,rfl,GU⟩;clear Jr GU HO HH
   go_wp2_with fail
   refine bodyPost_ret (v:= .tuple #[Z yI out.length kJ,I V 0]) (by simp[results,Tryz.results76,go_sem]) rfl ?_;rw[HE.out];exact⟨_,_,_,rfl,HLS.out,HG.out⟩
def PN:List TypeId:=[137,155,157,5,80,93,140,147,160,114,261,266,105]
def Js (t:TypeId):Prop:=t ∉ PN
theorem Js.ne {t T:TypeId}(h:Js t)(hT:T∈PN):t≠T:=fun e=>h (by rw[e];exact hT)
structure Gl (w:F)(ps:Nat->Addr):Prop where
 uM:Ud w ps
 box:∀k,k<5->∃c t,w.heap[(ps k).block]?=M (C c t (0,0))/\Js t
 XO:w.heap[5]?=M (C #[.iface 318 (.agg #[U (M ⟨9,88,O⟩)])] 282 (0,0))
 tab:w.heap[6]?=M (C (Lib.pow10Tab.map fun z=>Value.int .u64 z).toArray 350 (0,0))
theorem Gl.fr (h:Gl w ps)(hF:Fr w w' X)(h1:∀b aT,w.heap[b]?=M (C aT 88 (0,0))->¬X b)(h2:∀b aT t,Js t->w.heap[b]?=M (C aT t (0,0))->¬X b)(h3:∀b aT,w.heap[b]?=M (C aT 282 (0,0))->¬X b)(h4:∀b aT,w.heap[b]?=M (C aT 350 (0,0))->¬X b):Gl w' ps:=
 ⟨h.uM.fr hF h1,fun k hk=>by obtain⟨c,t,hc,ht⟩:=h.box k hk;exact⟨c,t,hF.at hc (h2 _ _ _ ht hc),ht⟩,hF.at h.XO (h3 _ _ h.XO),hF.at h.tab (h4 _ _ h.tab)⟩
theorem Gl.aM (h:Gl w ps)(hg:aJ w w'):Gl w' ps:=h.fr (Fr.dO hg (fun _=>False)) (fun _ _ _=>id) (fun _ _ _ _ _=>id) (fun _ _ _=>id) (fun _ _ _=>id)
theorem Gl.dk (h:Gl w ps)(hd:aP w db s fv rs)(hk:Dk w w' (DX db fv rs) X'):Gl w' ps:=
 h.fr hk.1 (fun b aT hb=>hd.other hb (by decide) (by decide) (by decide) (by decide)) (fun b aT t g hb=>hd.other hb (g.ne (by decide)) (g.ne (by decide)) (g.ne (by decide)) (g.ne (by decide))) (fun b aT hb=>hd.other hb (by decide) (by decide) (by decide) (by decide)) (fun b aT hb=>hd.other hb (by decide) (by decide) (by decide) (by decide))
theorem Zl (h:Gl w ps)(h0: -9223372036854775808<=n)(h1:n<=9223372036854775807):H K 132 #[I V n] w fun e w'=> ∃s:ByteArray,e=G (.string s)/\s.size<=100/\aJ w w':=by
 refine(Tryz.strconv_Itoa n h0 h1 w ?_).mono ?_
 ·unfold Lib.TabIs World.var?;have hg:Program.globalNamed K "internal/strconv.uint64pow10"=M 6:=by kernel_rfl
  rw[hg];simp[h.tab]
 ·rintro e w' ⟨rfl,k,os,rfl⟩;refine⟨_,rfl,?_,?_⟩
  ·show(Lib.itoa n).toArray.size<=100;have d1:Lib.nDigits n.natAbs<=20:=Lib.nDigits_le20 _ (by omega);have d2:Lib.nDigits n.toNat<=20:=Lib.nDigits_le20 _ (by omega);unfold Lib.itoa;split
   ·simp only[List.size_toArray,List.length_cons,Lib.decDigits_length];omega
   ·simp only[List.size_toArray,Lib.decDigits_length];omega
  ·have h1:=bG (aJ.refl w) k;refine aJ.then h1 ⟨rfl,rfl,rfl,by simp[Sort.grow],fun j hj=>?_⟩;simp only[Sort.grow];rw[Array.getElem?_append_left hj]
def nQ (w:F)(ps:Nat->Addr):Nat->Y->Nat->Prop
 |0,v,k=>v=gY (ps k)
 |d+1,v,k=>(∃b nm num x,v= .iface 290 (U (M ⟨b,0,O⟩))/\w.heap[b]?=M (C #[.string nm,I V num,x] 292 (0,0))/\nQ w ps d x k)\/
  ∃b nm x,v= .iface 208 (U (M ⟨b,0,O⟩))/\w.heap[b]?=M (C #[.string nm,x] 210 (0,0))/\nQ w ps d x k
theorem nQ.fr (hF:Fr w w' X)(h1:∀b aT,w.heap[b]?=M (C aT 292 (0,0))->¬X b)(h2:∀b aT,w.heap[b]?=M (C aT 210 (0,0))->¬X b):∀ {d:Nat} {v:Y} {k:Nat},nQ w ps d v k->nQ w' ps d v k
 |0,_,_,h=>h
 |d+1,v,k,h=>by
  rcases h with⟨b,nm,num,x,e,hb,hx⟩|⟨b,nm,x,e,hb,hx⟩
  ·exact Or.inl ⟨b,nm,num,x,e,hF.at hb (h1 _ _ hb),nQ.fr hF h1 h2 hx⟩
  ·exact Or.inr ⟨b,nm,x,e,hF.at hb (h2 _ _ hb),nQ.fr hF h1 h2 hx⟩
theorem nQ.iface {d:Nat}(h:nQ w ps d v k):∃t b,v= .iface t (U (M b)):=by
 cases d with
 |zero=>exact⟨_,_,h⟩
 |succ d=>
  rcases h with⟨b,nm,num,x,e,-⟩|⟨b,nm,x,e,-⟩
  ·exact⟨_,_,e⟩
  ·exact⟨_,_,e⟩
def Qg:Nat->Int
 |0=>12
 |1=>9
 |2=>10
 |_=>11
def jG (w:F)(ps:Nat->Addr)(D:Nat)(v:Y)(c:Int):Prop:=(c=0/\v= .nilIface)\/∃d k,d<=D/\k<5/\c=Qg k/\nQ w ps d v k
theorem jG.fr (h:jG w ps D v c)(hF:Fr w w' X)(h1:∀b aT,w.heap[b]?=M (C aT 292 (0,0))->¬X b)(h2:∀b aT,w.heap[b]?=M (C aT 210 (0,0))->¬X b):jG w' ps D v c:=by
 rcases h with h|⟨d,k,a,b,e,h⟩
 ·exact Or.inl h
 ·exact Or.inr ⟨d,k,a,b,e,h.fr hF h1 h2⟩
theorem jG.aM (h:jG w ps D v c)(hg:aJ w w'):jG w' ps D v c:=h.fr (Fr.dO hg (fun _=>False)) (fun _ _ _=>id) (fun _ _ _=>id)
theorem Wm.chain (h:Wm w ps v k):nQ w ps 1 v k:=by
 obtain⟨b,nm,num,e,hb⟩:=h;exact Or.inl ⟨b,nm,num,_,e,hb,rfl⟩
theorem ErrD.rH (h:ErrD w ps v c):jG w ps 1 v c:=by
 rcases h with⟨a,b⟩|⟨a,b⟩|⟨a,b⟩
 ·exact Or.inl ⟨a,b⟩
 ·exact Or.inr ⟨1,1,Nat.le_refl _,by omega,a,b.chain⟩
 ·exact Or.inr ⟨1,2,Nat.le_refl _,by omega,a,b.chain⟩
theorem FV.rH {c:Bool}(h:FV w ps v c):jG w ps 1 v (if c then 0 else 10):=by
 rcases h with⟨rfl,b⟩|⟨rfl,b⟩
 ·exact Or.inl ⟨rfl,b⟩
 ·exact Or.inr ⟨1,2,Nat.le_refl _,by omega,rfl,b.chain⟩
theorem code_ne (k:Nat):Qg k≠0:=by
 match k with
 |0=>simp[Qg]
 |1=>simp[Qg]
 |2=>simp[Qg]
 |k+3=>simp[Qg]
theorem jG.no (h:jG w ps D v 0):v= .nilIface:=by
 rcases h with h|⟨d,k,-,-,e,-⟩
 ·exact h.2
 ·exact absurd e.symm (code_ne k)
theorem jG.yes (h:jG w ps D v c)(hc:c≠0):∃t b,v= .iface t (U (M b)):=by
 rcases h with h|⟨d,k,-,-,e,h⟩
 ·exact absurd h.1 hc
 ·exact h.iface
theorem Ci {s:ByteArray}(h:jG w ps D v c):H K 81 #[.string s,v] w fun e w'=> ∃v',e=G v'/\jG w' ps (D+1) v' c/\aJ w w':=by
 by_cases hc:c=0
 ·subst hc;have hv:=h.no;subst hv;go_enter Tryz.func81,Tryz.ntmps81
  go_wp2_with fail
  go_ret;exact⟨_,rfl,Or.inl ⟨rfl,rfl⟩,aJ.refl w⟩
 ·obtain⟨t,b,rfl⟩:=h.yes hc;have HL:Hid (jG w ps D (.iface t (U (M b))) c):=h;clear h;go_enter Tryz.func81,Tryz.ntmps81
  go_wp2_with fail
  go_ret;refine⟨_,rfl,?_,(aJ.refl w).alloc _⟩;rcases HL.out with h|⟨d,k,h1,h2,h3,h4⟩
  ·exact absurd h.1 hc
  ·refine Or.inr ⟨d+1,k,by omega,h2,h3,Or.inr ⟨_,s,_,rfl,heap_alloc_new w _,?_⟩⟩;exact h4.fr (Fr.dO ((aJ.refl w).alloc _) (fun _=>False)) (fun _ _ _=>id) (fun _ _ _=>id)
def iA (db:Nat)(ep:Int):Obj:=C #[U (M ⟨db,0,O⟩),I V ep] 140 (0,0)
theorem fJ (h:w.heap[lp]?=M (iA db ep)):w.cell? ⟨lp,0,O⟩=M (U (M ⟨db,0,O⟩))/\w.cell? ⟨lp,1,O⟩=M (I V ep)/\∀j,w.frozen? ⟨lp,j,O⟩=false:=by
 simp[World.cell?,World.frozen?,h,iA]
theorem nR (h:w.heap[lp]?=M (iA db ep))(h0:0<=ep)(h1:ep<=100000):H K 88 #[U (M ⟨lp,0,O⟩)] w fun e w'=>e=G (I V (10+ep))/\w'=w:=by
 obtain⟨-,c1,-⟩:=fJ h;clear h;go_enter Tryz.func88,Tryz.ntmps88
 go_wp2_with fail
 go_ret;exact⟨rfl,rfl⟩
structure mZ (N:Nat)(s:Sc)(fs:List bF):Prop where
 bK:fU s
 qC:0<=s.after
 inv:dY s.room fs
 len:fs.length<=N
theorem qU (ha:0<=s.after):0<=(dF s fs).2.1.after:=by
 unfold dF;split
 ·exact ha
 ·split
  ·simp only;omega
  ·exact ha
theorem add_aft {b:ByteArray}(ha:0<=s.after):0<=(dJ s fs n b).2.1.after:=by
 unfold dJ;split
 ·exact ha
 ·split
  ·exact ha
  ·simp only;have h1:0<=(if s.refusing=true then { s with left:=s.left-1 } else s:Sc).after:=by split<;>exact ha
   generalize (if s.refusing=true then { s with left:=s.left-1 } else s:Sc)=s1 at*;split
   ·exact qU h1
   ·exact qU h1
theorem Qh (f:bF):∀l:List bF,(iR l f).length<=l.length+1
 | []=>by simp[iR]
 |g::r=>by
  unfold iR;split
  ·simp
  ·split
   ·simp
   ·have:=Qh f r;simp;omega
theorem mZ.add {N:Nat}{b:ByteArray}(h:mZ N s fs)(hn:0<=n/\n<=9223372036854775807)(hb:b.size≠0):mZ (N+1) (dJ s fs n b).2.1 (dJ s fs n b).2.2:=by
 have ha:=add_aft (fs:=fs) (n:=n) (b:=b) h.qC;have hl:=h.len;rcases Yv h.bK h.inv hn hb with⟨s',e,hd,hI⟩|⟨s',e,hs,-,-,hg⟩|⟨s',bN,e,hd⟩
 ·rw[e]at ha ⊢;exact⟨hd.2.2.2,ha,hI.room hd.1.2.2.1,by have:=Qh (lX fs n b) fs;simp only;omega⟩
 ·rw[e]at ha ⊢;exact⟨hg,ha,h.inv.room hs.2.2.1,by simp only;omega⟩
 ·rw[e]at ha ⊢;exact⟨hd.2.2.1,ha,hd.2.2.2.1.room hd.1.2.2.1,by have:=hd.2.2.2.2;simp only;omega⟩
theorem Qi (W:F)(s:ByteArray):∃cap w1,(convert 9 153 (.string s)).run K W= .ok (Z (M ⟨W.heap.size,0,O⟩) s.size cap) w1/\mU w1 (M ⟨W.heap.size,0,O⟩) s.data.toList/\(∃aT f,w1.heap[W.heap.size]?=M (C aT 5 f))/\aJ W w1:=by
 refine⟨_,_,Lib.run_convert_string_bytes W 9 153 5 s Tryz.underlying9 Tryz.underlying153 Tryz.underlying5,?_,⟨_,_,Lib.bytesWorld_at_new W 5 s⟩,?_⟩
 ·refine Or.inr ⟨_,0,rfl,fun i x hx=>?_⟩;obtain⟨bV,he⟩:=List.getElem?_eq_some_iff.1 hx;have Ul:i<s.size:=by simpa using bV
  have:=Lib.bytesWorld_cell W 5 s i Ul;rw[Nat.zero_add,this];simp only[List.getD_eq_getElem?_getD,hx,Option.getD_some]
 ·refine⟨rfl,rfl,rfl,by rw[Lib.bytesWorld_size];omega,fun k hk=>Lib.bytesWorld_at_old W 5 s k hk⟩
def lQ (w w':F)(ps:Nat->Addr)(db:Nat)(fv:Y)(rs:List FR)(D:Nat)(v:Y)(r:Int×Sc×List bF):Prop:=
 ∃dN dH,aP w' db r.2.1 dN dH/\plain dH=r.2.2/\Dk w w' (DX db fv rs) (DX db dN dH)/\jG w' ps D v r.1
theorem Dk.Cj {w1 w2:F}(h:Dk w w1 X X')(hg:aJ w1 w2):Dk w w2 X X':=h.trans (Dk.bH hg)
theorem Qj {w1 w2:F}(hg:aJ w w1)(h:Dk w1 w2 X X'):Dk w w2 X X':=(Dk.bH hg).trans h
def MO (s:Sc)(fs:List bF)(ep:Int)(text rec:ByteArray):Int×Sc×List bF:=
 if text.size=0 then dJ s fs (10+ep) rec else if (dJ s fs 1 text).1≠0 then dJ s fs 1 text else dJ (dJ s fs 1 text).2.1 (dJ s fs 1 text).2.2 (10+ep) rec
theorem nT (q d a b c:Int):(fO q d a b c).size=22:=by
 unfold fO;rw[ByteArray.size_append,je];simp[strOfNums,Im,ByteArray.size]
def Qk (W:F)(lp bx db:Nat)(ep q a b c:Int):Prop:=W.heap[lp]?=M (iA db ep)/\W.heap[bx]?=M (C #[I .u8 q,I V a,I V b,I V c] 99 (0,0))
theorem Qk.dk {W':F}(h:Qk W lp bx db ep q a b c)(hd:aP W db s fv rs)(hk:Dk W W' (DX db fv rs) X'):Qk W' lp bx db ep q a b c:=
 ⟨hk.1.at h.1 (hd.other h.1 (by decide) (by decide) (by decide) (by decide)),hk.1.at h.2 (hd.other h.2 (by decide) (by decide) (by decide) (by decide))⟩
theorem Qk.aM {W':F}(h:Qk W lp bx db ep q a b c)(hg:aJ W W'):Qk W' lp bx db ep q a b c:=
 ⟨(hg.block _ (aK h.1)).trans h.1,(hg.block _ (aK h.2)).trans h.2⟩
theorem Qk.cells (h:Qk W lp bx db ep q a b c):W.cell? ⟨lp,0,O⟩=M (U (M ⟨db,0,O⟩))/\W.cell? ⟨bx,0,O⟩=M (I .u8 q)/\W.cell? ⟨bx,1,O⟩=M (I V a)/\W.cell? ⟨bx,2,O⟩=M (I V b)/\W.cell? ⟨bx,3,O⟩=M (I V c):=by
 obtain⟨h1,h2⟩:=h;refine⟨(fJ h1).1,?_⟩;simp[World.cell?,h2]
theorem Jt:∀(args:Array Y) (w:F),(callFunc 88 args).run K w= .ok (.enter 88 args) w:=enters_of Tryz.func88 (by kernel_rfl) rfl
theorem GV:∀(args:Array Y) (w:F),(callFunc 134 args).run K w= .ok (.enter 134 args) w:=enters_of Tryz.func134 (by kernel_rfl) rfl
theorem Ju:∀(args:Array Y) (w:F),(callFunc 133 args).run K w= .ok (.enter 133 args) w:=enters_of Tryz.func133 (by kernel_rfl) rfl
theorem e_at:∀(args:Array Y) (w:F),(callFunc 81 args).run K w= .ok (.enter 81 args) w:=enters_of Tryz.func81 (by kernel_rfl) rfl
theorem PO {d:Int}(h:aP w db s fv rs)(hL:w.heap[lp]?=M (iA db ep))(hG:Gl w ps)(hO:mZ 998 s (plain rs))(vL:0<=ep)(Ck:ep<=1000)(Wt: -9223372036854775808<=d)(DL:d<=9223372036854775807)(hq:0<=q)(xA:q<256)(hd:bS d)(ha:bS a)(hb:bS b)(hc:bS c):
 H K 87 #[U (M ⟨lp,0,O⟩),I V d,fQ q a b c,.string ⟨#[]⟩] w fun e w'=> ∃v,e=G v/\lQ w w' ps db fv rs 2 v (dJ s (plain rs) (10+ep) (fO q d a b c)):=by
 have HR:Hid (∀W,H K 134 #[I V d,.agg #[I .u8 q,I V a,I V b,I V c]] W fun e w'=> ∃ad cap,e=G (Z (M ad) 22 cap)/\mU w' (M ad) (fO q d a b c).data.toList/\(∃aT f,w'.heap[ad.block]?=M (C aT 5 f))/\aJ W w'):=fun W=>by
  refine(Ji hq xA hd ha hb hc).mono ?_;rintro e w' ⟨v,rfl,cZ,hg⟩;obtain⟨ao,cap,rfl,hr,gX,hn,hx⟩:=bC.form cZ;have h22:(fO q d a b c).data.toList.length=22:=by have:=nT q d a b c;simpa using this
  cases ao with
  |none=>obtain⟨e,-⟩:=hn rfl;omega
  |some ad=>
   obtain⟨k1,k2,aT,Nj,hk⟩:=hx ad rfl;rw[h22];exact⟨_,_,rfl,hr,⟨aT,_,hk⟩,hg⟩
 obtain⟨w1,dU⟩:∃w1,w1=w.alloc (C #[I .u8 q,I V a,I V b,I V c] 99):=⟨_,rfl⟩;have G1:aJ w w1:=by rw[dU];exact(aJ.refl w).alloc _
 have GX:Qk w1 lp w.heap.size db ep q a b c:=⟨(G1.block _ (aK hL)).trans hL,by rw[dU];exact heap_alloc_new w _⟩;have HI:Hid (H K 132 #[I V d] w1 fun e w'=> ∃s:ByteArray,e=G (.string s)/\s.size<=100/\aJ w1 w'):=Zl (hG.aM G1) Wt DL;have qQ:Hid (aJ w w1):=G1;have GY:Hid (Qk w1 lp w.heap.size db ep q a b c):=GX;unfold fQ;clear hL GX G1;go_enter Tryz.func87,Tryz.ntmps87
 go_upto_region 1 with fail
 rw[<-dU];clear dU
 go_upto_region 6 with(go_at_call 132;refine HI.out.mono ?_;rintro e w2 ⟨sx,rfl,hsx,jL⟩;have Um:∀(p:ByteArray) (w:F),p.size<=100->(Op.stringOp .add p sx).run K w= .ok (.string (p++sx)) w:=fun p w hp=>run_string_add_sum w _ _ (by omega);have TW:=fun w=>Um ⟨#[99,104,97,110,103,101,32]⟩ w (by decide);clear Um)
 have GZ:Qk w2 lp w.heap.size db ep q a b c:=GY.out.aM jL;have HWB:Hid (Qk w2 lp w.heap.size db ep q a b c):=GZ;have hD2:=(h.aM qQ.out).aM jL;have ZY:=(hG.aM qQ.out).aM jL;have ax:=hO;have HJ:Hid (∀W,aJ w2 W->H K 88 #[U (M ⟨lp,0,O⟩)] W fun e w'=>e=G (I V (10+ep))/\w'=W):=fun W hW=>nR (GZ.aM hW).1 vL (by omega)
 have HA:Hid (∀W ad cap,aJ w2 W->mU W (M ad) (fO q d a b c).data.toList->(∃aT f,W.heap[ad.block]?=M (C aT 5 f))->H K 133 #[U (M ⟨db,0,O⟩),I V (10+ep),Z (M ad) 22 cap] W fun e w'=> ∃v,e=G v/\lQ w w' ps db fv rs 1 v (dJ s (plain rs) (10+ep) (fO q d a b c))):=fun W ad cap hW hr ht=>by
  have h22:=nT q d a b c;have:=uI (n:=10+ep) (cap:=cap) (hD2.aM hW) (ZY.uM.aM hW) ax.bK ax.qC ax.inv (by have:=ax.len;rw[bE]at this;omega) (by omega) (by omega) hr ht;rw[h22]at this;refine this.mono ?_;rintro e w' ⟨v,rfl,dN,dH,k1,k2,k3,k4⟩;exact⟨v,rfl,dN,dH,k1,k2,(Dk.bH (qQ.out.then (jL.then hW))).trans k3,k4.rH⟩
 have HT:Hid (∀W v (sx:ByteArray),lQ w W ps db fv rs 1 v (dJ s (plain rs) (10+ep) (fO q d a b c))->H K 81 #[.string sx,v] W fun e w'=> ∃v',e=G v'/\lQ w w' ps db fv rs 2 v' (dJ s (plain rs) (10+ep) (fO q d a b c))):=fun W v sx hv=>by
  obtain⟨dN,dH,k1,k2,k3,k4⟩:=hv;refine(Ci k4).mono ?_;rintro e w' ⟨v',rfl,m1,m2⟩;exact⟨v',rfl,dN,dH,k1.aM m2,k2,k3.Cj m2,m1⟩
 obtain⟨x0,x1,x2,x3,x4⟩:=GZ.cells;clear GZ hD2 ZY ax h hG jL HI GY qQ
 go_region_law (first
  |(refine bM (by rfl) 88 _ _ (by rfl) _ (by simp[Act.eval,Act.put];done) Jt ((HJ.out _ (by repeat (first|exact aJ.refl _|exact hgR|refine aJ.drew ?_))).mono ?_);rintro v w' ⟨rfl,rfl⟩;refine⟨_,rfl,?_⟩)|(refine bM (by rfl) 134 _ _ (by rfl) _ (by simp[Act.eval];done) GV ((HR.out _).mono ?_);rintro v wR ⟨ad,cap,rfl,hrR,htR,hgR'⟩;have hgR:aJ w2 wR:=aJ.then (by repeat (first|exact aJ.refl _|refine aJ.drew ?_)) hgR';obtain⟨z0,z1,z2,z3,z4⟩:=(Qk.aM HWB.out hgR).cells;refine⟨_,rfl,?_⟩)|(refine bM (by rfl) 133 _ _ (by rfl) _ (by simp[Act.eval];done) Ju ((HA.out _ ad cap hgR hrR htR).mono ?_);rintro v wA ⟨vA,rfl,hvA⟩;refine⟨_,rfl,?_⟩)|(refine bM (by rfl) 81 _ _ (by rfl) _ (by simp[Act.eval];done) e_at ((HT.out wA vA (⟨#[99,104,97,110,103,101,32]⟩++sx) hvA).mono ?_);rintro v wT ⟨vT,rfl,hvT⟩;refine⟨_,rfl,?_⟩))
 all_goals go_wp2_with fail
 all_goals go_ret
 all_goals exact⟨_,rfl,hvT⟩
end Go.Proofs.YtfplgfodoiiobaaGreatDoor
