/- DrP, DrQ, LgA, LgB (joined). -/
import Derived.Lib.ConvBytes
import Derived.Lib.ItoaLen
import Derived.Test.YtfplgfodoiiobaaGreatDoorD25
import Derived.Test.YtfplgfodoiiobaaGreatDoorShlf
open Option renaming none→O,some→M
open Go.Value renaming int→I,slice→Z,pointer→U
open Go.IntKind renaming i64→V
open Go.Obj renaming cells→C
open Go.Ending renaming returned→G
open Go renaming World→F,Value→Y,Calls→H
open Go.Proofs.Tryz renaming prog→K
open Go.Proofs.Tryz
namespace Go.Proofs.YtfplgfodoiiobaaGreatDoor
set_option maxHeartbeats 4000000
set_option maxRecDepth 100000
open Go.RowKit
abbrev Acz:=@List.drop_eq_nil_of_le
abbrev AdA:=@Go.Lib.bytesWorld_size
variable {w w' W:F}{ps:Nat->Addr}{v fv:Y}{c n ep q a b:Int}{db lp D k bx:Nat}{s:Sc}{X X':Nat->Prop}{rs:List FR}{fs:List bC}
theorem ZB {l:List Ed}{e:Ed}(h:l[k]?=M e):pY n (l.drop k)=if e.1<0\/n-sz e.2.1<e.1 then false else if 5000<n+(sz e.2.2-sz e.2.1)then false else pY (n+(sz e.2.2-sz e.2.1)) (l.drop (k+1)):=by
 obtain⟨bP,he⟩:=Aae.1 h;rw[AaQ bP,he,pY]
theorem UZ {x:bS}{l:List Ed}(h:dR w x l)(hl:l.length<=1000000)(Mg:0<=n)(hn:n<=5000)(ho:∀e∈l,eY e.2.1/\eY e.2.2/\e.2.1.length<=10000/\e.2.2.length<=10000):
 H K 188 #[I V n,x.v] w fun e w'=>e=G (.bool (pY n l))/\aL w w':=by
 obtain⟨xo,xn,xc⟩:=x;have hlen:=h.len;simp only at hlen;have HR:Hid (∀(k:Nat) (e:Ed),l[k]?=M e->∃(b off:Nat) (r:fP),xo=M ⟨b,off,O⟩/\w.cell? ⟨b,off+k*3,O⟩=M (I V r.1)/\w.cell? ⟨b,off+k*3+1,O⟩=M r.2.1.v/\w.cell? ⟨b,off+k*3+2,O⟩=M r.2.2.v/\rP w r e):=fun k e he=>h.nth he;have HB:Hid (∀W (x:bS) (l:List (Int×Int)),bH W x l->eY l->l.length<=10000->H K 187 #[x.v] W fun e w'=>e=G (I V (sz l))/\aL W w'):=fun W x l h1 h2 h3=>vZ h1 h2 (by omega)
 have jr:Hid (∀e∈l,(eY e.2.1/\eY e.2.2/\e.2.1.length<=10000/\e.2.2.length<=10000)/\(0<=sz e.2.1/\sz e.2.1<=100000000)/\(0<=sz e.2.2/\sz e.2.2<=100000000)):=fun e he=>by
  obtain⟨a,b,c,d⟩:=ho e he;have b1:=nZ a e.2.1.length;have b2:=nZ b e.2.2.length;rw[Acl]at b1 b2;exact⟨⟨a,b,c,d⟩,⟨rG a,by omega⟩,⟨rG b,by omega⟩⟩
 subst hlen;simp only[bS.v];clear h ho;go_enter func188,ntmps188;go_wp2_with fail
 go_loopw [0,6,7,10] (fun c _ _ i wr=> ∃(k:Nat) (nk:Int),k<=l.length/\c=I V nk/\i=I V (k:Int)/\(0<=nk/\nk<=5000)/\Hid (pY n l=pY nk (l.drop k))/\Hid (aL w wr)) (fun _ _ _ i _=>l.length-(intOf i).toNat)
 case atStart=>exact⟨0,n,Aap _,rfl,rfl,⟨Mg,hn⟩,rfl,aL.refl w⟩
 case round=>
  obtain⟨k,nk,hk,rfl,rfl,⟨hk0,Ea⟩,HF,HG⟩:=hrel;by_cases bP:k<l.length
  ·obtain⟨e,he⟩:∃e,l[k]?=M e:=⟨_,Aag bP⟩;obtain⟨b,off,r,rfl,d1,d2,d3,Ju⟩:=HR.out k e he;have d1:=HG.out.cell d1;have d2:=HG.out.cell d2;have d3:=HG.out.cell d3;have i1:(0:Int)<=(k:Int):=(by omega);have i2:(k:Int)<(l.length:Int):=(by omega);obtain⟨⟨o1,o2,o3,o4⟩,⟨s1,s2⟩,⟨s3,s4⟩⟩:=jr.out e (Aai he);have hF:=HF.out;rw[ZB he]at hF;have HB1:Hid (∀W,aL wr W->H K 187 #[r.2.1.v] W fun e' w'=>e'=G (I V (sz e.2.1))/\aL W w'):=fun W hW=>HB.out W _ _ ((Ju.2.1.aN HG.out).aN hW) o1 o3;have BZ:Hid (∀W,aL wr W->H K 187 #[r.2.2.v] W fun e' w'=>e'=G (I V (sz e.2.2))/\aL W w'):=fun W hW=>HB.out W _ _ ((Ju.2.2.aN HG.out).aN hW) o2 o4;have hep:=Ju.1;obtain⟨r1,⟨x1,x2,x3⟩,⟨y1,y2,y3⟩⟩:=r;simp only at hep;subst hep;simp only[bS.v]at d2 d3 HB1 BZ;have ZC:Hid (pY n l=if e.1<0\/nk-sz e.2.1<e.1 then false else if 5000<nk+(sz e.2.2-sz e.2.1)then false else pY (nk+(sz e.2.2-sz e.2.1)) (l.drop (k+1))):=hF;generalize sz e.2.1=sa at*;generalize sz e.2.2=sb at*;generalize e.1=p at*;clear hF HF he Ju HB jr o1 o2 o3 o4;go_upto_region 4 with fail;have qZ:=Aaf wr (C #[I V p,Z x1 x2 x3,Z y1 y2 y3] 261);have hGa:Hid (aL wr (wr.alloc (C #[I V p,Z x1 x2 x3,Z y1 y2 y3] 261))):=(aL.refl wr).alloc _;generalize (wr.alloc (C #[I V p,Z x1 x2 x3,Z y1 y2 y3] 261))=wq at*
   have HC:Hid (∀W,aL wq W->W.cell? ⟨wr.heap.size,0,O⟩=M (I V p)/\W.cell? ⟨wr.heap.size,1,O⟩=M (Z x1 x2 x3)/\W.cell? ⟨wr.heap.size,2,O⟩=M (Z y1 y2 y3)):=fun W hW=>by
    obtain⟨a,b,c,-⟩:=iM ((hW.block _ (aM qZ)).trans qZ);exact⟨a,b,c⟩
   obtain⟨q0,q1,q2⟩:=HC.out wq (aL.refl wq);have dY:=HB1.out wq hGa.out;clear qZ;by_cases c1:p<0\/nk-sa<p
   ·have jv:Hid (pY n l=false):=(by show _=_;rw[ZC.out,Aad c1]);clear ZC;go_upto_region 5 with(go_at_call 187;refine dY.mono ?_;rintro e' w4 ⟨rfl,nO⟩;obtain⟨z0,z1,z2⟩:=HC.out w4 nO);by_cases c2:p<0
    ·go_wp2_with fail;go_ret;exact⟨by first|(rw[jv.out];done)|(rw[jv.out];rfl),HG.out.then (hGa.out.then nO)⟩
    ·have c3:nk-sa<p:=(by omega);have c4:wrap64 (nk-sa)=nk-sa:=(by unfold wrap64;omega);go_wp2_with fail;go_ret;exact⟨by first|(rw[jv.out];done)|(rw[jv.out];rfl),HG.out.then (hGa.out.then nO)⟩
   ·have c2:¬p<0:=(by omega);have c3:¬nk-sa<p:=(by omega);have c5:nk-sa+sb=nk+(sb-sa):=(by omega);by_cases c6:5000<nk+(sb-sa)
    ·have jv:Hid (pY n l=false):=(by show _=_;rw[ZC.out,Aaa c1,Aad c6]);clear ZC c1;go_wp2_with (first|(go_at_call 187;refine dY.mono ?_;rintro e' w4 ⟨rfl,nO⟩;obtain⟨z0,z1,z2⟩:=HC.out w4 nO;have fV:=BZ.out w4 (hGa.out.then nO);clear dY)|(go_at_call 187;refine fV.mono ?_;rintro e' w5 ⟨rfl,eO⟩));go_ret;exact⟨by first|(rw[jv.out];done)|(rw[jv.out];rfl),HG.out.then (hGa.out.then (nO.then eO))⟩
    ·have jv:Hid (pY n l=pY (nk+(sb-sa)) (l.drop (k+1))):=(by show _=_;rw[ZC.out,Aaa c1,Aaa c6]);have c7:0<=nk+(sb-sa):=(by omega);have c8:nk+(sb-sa)<=5000:=(by omega);clear ZC c1;go_wp2_with (first|(go_at_call 187;refine dY.mono ?_;rintro e' w4 ⟨rfl,nO⟩;obtain⟨z0,z1,z2⟩:=HC.out w4 nO;have fV:=BZ.out w4 (hGa.out.then nO);clear dY)|(go_at_call 187;refine fV.mono ?_;rintro e' w5 ⟨rfl,eO⟩));go_roundw
     case rel=>exact⟨k+1,nk+(sb-sa),by omega,by go_num,by go_num,⟨c7,c8⟩,jv,(show aL w _ from HG.out.then (hGa.out.then (nO.then eO)))⟩
     case measure=>simp[intOf];omega
  ·have e1:l.drop k=[]:=Acz (by omega);have jv:Hid (pY n l=true):=(by show _=_;rw[HF.out,e1];rfl);clear HF e1;go_wp2_with fail;go_ret;exact⟨by first|(rw[jv.out];done)|(rw[jv.out];rfl),HG.out⟩
theorem QL {l:List (Int×Int)}(h:eY l){p:Int}(hp:0<=p)(hn:0<n)(hs:p+n<=sz l):∃q,oU l p=(q,0)/\mV q/\dS (bT l p) n=(q.1,min q.2 n)::dS (bT l (p+min q.2 n)) (n-min q.2 n):=by
 have ht:=mJ h (n:=p) hp (by omega);have hokt:=kL h p;cases hT:bT l p with
 |nil=>rw[hT]at ht;simp[sz]at ht;omega
 |cons q T=>
  rw[hT]at hokt;have hq:=eZ hokt;have xL:=hq;unfold mV at xL;refine⟨q,?_,hq,?_⟩
  ·unfold oU;rw[Aaa (by omega),hT];rfl
  ·rw[<-xV h hp (by omega:0<=min q.2 n),hT];by_cases hc:q.2<=n
   ·rw[show min q.2 n=q.2 from by omega];rw[dS,Aaa (by omega),Aad hc,bT,Aaa (by omega),Aad (AaZ _)];rw[show q.2-q.2=0 from by omega,yP T (AaZ 0)]
   ·rw[show min q.2 n=n from by omega,show n-n=0 from by omega,oJ _ (AaZ 0)];rw[dS,Aaa (by omega),Aaa hc]
theorem L_ {dp tb depth:Nat}{m:dD}{pos:Int}(h:aV w dp tb depth m)(hn:n<=9223372036854775807)(hz:sz m.1<=100000000)(oG:0<=sz m.1)(hb:n<0\/rR m.1 pos n=false):
 H K 76 #[U (M ⟨dp,0,O⟩),I V pos,I V n] w fun e w'=>e=G (.tuple #[Z O 0 0,I V 5])/\w'=w:=by
 by_cases h1:n<0
 ·go_enter func76,ntmps76;go_wp2_with fail;refine Aan (v:= .tuple #[Z O 0 0,I V 5]) (by simp[results,results76,go_sem]) rfl ?_;exact⟨rfl,rfl⟩
 ·have h2:=hb.resolve_left h1;have hc:=Rj (pos:=pos) h (by omega) hn hz oG;rw[h2]at hc;clear h hb;go_enter func76,ntmps76;go_wp2_with (go_at_call 118;refine hc.mono ?_;rintro e w ⟨rfl,rfl⟩);refine Aan (v:= .tuple #[Z O 0 0,I V 5]) (by simp[results,results76,go_sem]) rfl ?_;exact⟨rfl,rfl⟩
theorem M_ {dp tb depth:Nat}{m:dD}{pos:Int}(h:aV w dp tb depth m)(hz:sz m.1<=5000)(h0:0<=n)(h1:0<=pos)(h2:pos+n<=sz m.1):
 H K 76 #[U (M ⟨dp,0,O⟩),I V pos,I V n] w fun e w'=> ∃x1 x2 x3,e=G (.tuple #[Z x1 x2 x3,I V 0])/\bH w' (x1,x2,x3) (fZ m.1 pos (pos+n))/\aL w w':=by
 have hc:=Rj (pos:=pos) (n:=n) h h0 (by omega) (by omega) (by omega);have e0:rR m.1 pos n=true:=by unfold rR;simp;omega
 rw[e0]at hc;obtain⟨u,r,hb,ht,-,-⟩:=h;have kP:=ht.ok.1;have N_:=aM hb;obtain⟨-,d1,-⟩:=bZ hb;have HF:Hid (∀W,aL w W->∀q,H K 104 #[U (M ⟨tb,0,O⟩),I V q] W fun e w'=>e=G (.tuple #[.agg #[I V (oU m.1 q).1.1,I V (oU m.1 q).1.2],I V (oU m.1 q).2])/\aL W w'):=fun W hW q=>Sq (ht.below hW)
 have HD:Hid (∀W,aL w W->W.cell? ⟨dp,1,O⟩=M (U (M ⟨tb,0,O⟩))):=fun W hW=>hW.cell d1
 have HP:Hid (fZ m.1 pos (pos+n)=dS (bT m.1 pos) n):=by
  show _=_;rw[BH kP _ h1,show pos+n-pos=n from by omega]
 have HZ:Hid (pos+n<=sz m.1/\sz m.1<=5000):=⟨h2,hz⟩;have jr:Hid (eY m.1):=kP;clear hb ht d1 kP hz;obtain⟨i0,hi,oG,nM,oP⟩:=AaW Tryz.infoPiece;go_enter func76,ntmps76;have Js:¬n<0:=by omega
 go_upto_region 3 with(go_at_call 118;refine hc.mono ?_;rintro e w ⟨rfl,rfl⟩);go_wp2_with fail
 go_loopw [1,2,8,9,10] (fun p c v _ _ wr=> ∃(pk nk:Int) (out:List (Int×Int)),p=I V pk/\c=I V nk/\(0<=pk/\0<=nk/\pk+nk=pos+n/\nk<=5000)/\Hid ((out.length:Int)+nk<=5000)/\Hid (dS (bT m.1 pos) n=out++dS (bT m.1 pk) nk)/\Hid (gY wr w.heap.size v out)/\Hid (aL w wr)) (fun _ c _ _ _ _=>(intOf c).toNat)
 case atStart=>exact⟨pos,n,[],rfl,rfl,⟨h1,h0,rfl,by have:=HZ.out;omega⟩,by have:=HZ.out;show _<=_;simp;omega,rfl,AaI _ _ _ _,aL.refl w⟩
 case round=>
  obtain⟨pk,nk,out,rfl,rfl,⟨b1,b2,b3,b4⟩,HL,HH,HO,HG⟩:=hrel;by_cases bP:0<nk
  ·obtain⟨q,hf,hq,hs⟩:=QL jr.out b1 bP (by have:=HZ.out;omega);have fT:=HF.out wr HG.out pk;rw[hf]at fT;obtain⟨q1,q2⟩:=q;simp only at fT hs;unfold mV at hq;simp only at hq;have d1:=HD.out wr HG.out
   have HN:Hid (dS (bT m.1 pos) n=(out++ [(q1,min q2 nk)])++dS (bT m.1 (pk+min q2 nk)) (nk-min q2 nk)):=by
    show _=_;rw[HH.out,hs];simp
   obtain⟨nI,kX,ev,-⟩:=gY.form HO.out;subst ev;have HK:Hid (∀w4,aL wr w4->gY w4 w.heap.size (Z nI out.length kX) out/\aL w w4):=fun w4 h4=>⟨bK HO.out (Fr.cZ h4 (fun _=>False)) (fun _ _ _ _ h=>h),HG.out.then h4⟩;clear hs hf HF HH HO HD;go_upto_region 6 with(go_at_call 104;refine fT.mono ?_;rintro e w4 ⟨rfl,nO⟩);have qZ:=Aaf w4 (C #[I V q1,I V q2] 114);have Ro:Hid (aL w4 (w4.alloc (C #[I V q1,I V q2] 114))):=(aL.refl w4).alloc _;generalize (w4.alloc (C #[I V q1,I V q2] 114))=wq at*;have x0:wq.cell? ⟨w4.heap.size,0,O⟩=M (I V q1):=(by simp[World.cell?,qZ]);have x1:wq.cell? ⟨w4.heap.size,1,O⟩=M (I V q2):=(by simp[World.cell?,qZ]);have x2:∀j,wq.frozen? ⟨w4.heap.size,j,O⟩=false:=fun j=>by simp[World.frozen?,qZ]
   have jk:Hid (wq.heap[w4.heap.size]?=M (C #[I V q1,I V q2] 114 (0,0))):=qZ;clear qZ d1;go_upto_region 7 with fail
   have Qg:(wq.setCell ⟨w4.heap.size,1,O⟩ (I V (min q2 nk))).heap[w4.heap.size]?=M (C #[I V q1,I V (min q2 nk)] 114 (0,0)):=by
    rw[Aaj wq w4.heap.size 1 _ _ _ jk.out];rfl
   have HGB:Hid (aL w4 (wq.setCell ⟨w4.heap.size,1,O⟩ (I V (min q2 nk)))):=Ro.out.set (a:=⟨w4.heap.size,1,O⟩) (Aak _) _;clear x0 x1 x2 jk Ro;generalize (wq.setCell ⟨w4.heap.size,1,O⟩ (I V (min q2 nk)))=ws at*;have x0:ws.cell? ⟨w4.heap.size,0,O⟩=M (I V q1):=(by simp[World.cell?,Qg]);have x1:ws.cell? ⟨w4.heap.size,1,O⟩=M (I V (min q2 nk)):=(by simp[World.cell?,Qg]);have HBY:Hid (ws.heap[w4.heap.size]?=M (C #[I V q1,I V (min q2 nk)] 114 (0,0))):=Qg;clear Qg;obtain⟨k1,k2⟩:=HK.out ws (nO.then HGB.out);have HOL:Hid (∀g,(Value.slice nI out.length kX).ownBlock=M g->g<w4.heap.size):=fun g hg=>(AaA (HK.out w4 nO).1 g hg).2;have hle:w.heap.size<=ws.heap.size:=k2.le;have holen:out.length<=5000:=(by have:=HL.out;omega);have uP:Da (ws.alloc (C #[I V q1,I V (min q2 nk)] 114)) (M ⟨ws.heap.size,0,O⟩) [(q1,min q2 nk)]:=(UW ws q1 (min q2 nk)).1.1;have hmin:0<min q2 nk/\min q2 nk<=nk:=(by omega);generalize min q2 nk=mq at*;go_upto_region 8 with(at_builtin;go_must (refine gM (by rfl) (.tmp 36) (.tmp 38) (by rfl) w.heap.size _ out [(q1,mq)] (by rfl) (by exact Aay k1 _) _ _ _ (by rfl) (by rfl) (by intro e;cases e) (by exact uP) (by simp only[Abg];omega) (by simp;omega) ?_);intro v5 w5 dK eO);have HG5:Hid (aL w w5):=KE k2 (Aak _) k1 eO
   have nJ:w5.heap[w4.heap.size]?=M (C #[I V q1,I V mq] 114 (0,0)):=by
    have h1:=lM eO;rw[h1.block w4.heap.size (aM HBY.out) (fun e=>by have:=HOL.out _ e.symm;omega)];exact HBY.out
   have y1:w5.cell? ⟨w4.heap.size,1,O⟩=M (I V mq):=(by simp[World.cell?,nJ]);have HO5:Hid (gY w5 w.heap.size v5 (out++ [(q1,mq)])):=dK;clear x0 x1 uP k1 k2 nJ dK eO;have Wj:pk<=5000:=(by have:=HZ.out;omega);go_quiet (fail);go_wp2_with fail;go_roundw
   case rel=>exact⟨pk+mq,nk-mq,out++ [(q1,mq)],by go_num,by go_num,⟨by omega,by omega,by omega,by omega⟩,by have:=HL.out;show _<=_;simp;omega,HN,bK HO5.out (Fr.cZ (bB (aL.refl _) _) (fun _=>False)) (fun _ _ _ _ h=>h),(show aL w _ from bB HG5.out _)⟩
   case measure=>simp[intOf];omega
  ·have e0:nk=0:=(by omega);subst e0;obtain⟨nI,kX,ev,-⟩:=gY.form HO.out;subst ev;obtain⟨ao4,cap4,ev,Gc,hn4⟩:=yF.nP HO.out;cases ev
   have HE:Hid (fZ m.1 pos (pos+n)=out):=by
    show _=_;rw[HP.out,HH.out,oJ _ (AaZ 0)];simp
   have HLS:Hid (bH wr (nI,out.length,kX) out):=⟨Gc,rfl,hn4⟩;clear Gc hn4 HO HH;go_wp2_with fail;refine Aan (v:= .tuple #[Z nI out.length kX,I V 0]) (by simp[results,results76,go_sem]) rfl ?_;rw[HE.out];exact⟨_,_,_,rfl,HLS.out,HG.out⟩
def QM:List TypeId:=[137,155,157,5,80,93,140,147,160,114,261,266,105]
def Nz (t:TypeId):Prop:=t ∉ QM
theorem Nz.ne {t T:TypeId}(h:Nz t)(hT:T∈QM):t≠T:=fun e=>h (by rw[e];exact hT)
structure Gl (w:F)(ps:Nat->Addr):Prop where
 xR:Wv w ps
 box:∀k,k<5->∃c t,w.heap[(ps k).block]?=M (C c t (0,0))/\Nz t
 errT:w.heap[5]?=M (C #[.iface 318 (.agg #[U (M ⟨9,88,O⟩)])] 282 (0,0))
 tab:w.heap[6]?=M (C (Lib.pow10Tab.map fun z=>Value.int .u64 z).toArray 350 (0,0))
theorem Gl.fr (h:Gl w ps)(hF:Fr w w' X)(h1:∀b aS,w.heap[b]?=M (C aS 88 (0,0))->¬X b)(h2:∀b aS t,Nz t->w.heap[b]?=M (C aS t (0,0))->¬X b)(h3:∀b aS,w.heap[b]?=M (C aS 282 (0,0))->¬X b)(h4:∀b aS,w.heap[b]?=M (C aS 350 (0,0))->¬X b):Gl w' ps:=
 ⟨h.xR.fr hF h1,fun k hk=>by obtain⟨c,t,hc,ht⟩:=h.box k hk;exact⟨c,t,hF.at hc (h2 _ _ _ ht hc),ht⟩,hF.at h.errT (h3 _ _ h.errT),hF.at h.tab (h4 _ _ h.tab)⟩
theorem Gl.aN (h:Gl w ps)(hg:aL w w'):Gl w' ps:=h.fr (Fr.cZ hg (fun _=>False)) (fun _ _ _=>id) (fun _ _ _ _ _=>id) (fun _ _ _=>id) (fun _ _ _=>id)
theorem Gl.dk (h:Gl w ps)(hd:aU w db s fv rs)(hk:Dk w w' (DX db fv rs) X'):Gl w' ps:=
 h.fr hk.1 (fun b aS hb=>hd.other hb (by decide) (by decide) (by decide) (by decide)) (fun b aS t g hb=>hd.other hb (g.ne (by decide)) (g.ne (by decide)) (g.ne (by decide)) (g.ne (by decide))) (fun b aS hb=>hd.other hb (by decide) (by decide) (by decide) (by decide)) (fun b aS hb=>hd.other hb (by decide) (by decide) (by decide) (by decide))
theorem CU (h:Gl w ps)(h0: -9223372036854775808<=n)(h1:n<=9223372036854775807):H K 132 #[I V n] w fun e w'=> ∃s:ByteArray,e=G (.string s)/\s.size<=100/\aL w w':=by
 refine(Tryz.strconv_Itoa n h0 h1 w ?_).mono ?_
 ·unfold Lib.TabIs World.var?;have hg:Program.globalNamed K "internal/strconv.uint64pow10"=M 6:=by kernel_rfl
  rw[hg];simp[h.tab]
 ·rintro e w' ⟨rfl,k,os,rfl⟩;refine⟨_,rfl,?_,?_⟩
  ·show(Lib.itoa n).toArray.size<=100;have d1:Lib.nDigits n.natAbs<=20:=Lib.nDigits_le20 _ (by omega);have d2:Lib.nDigits n.toNat<=20:=Lib.nDigits_le20 _ (by omega);unfold Lib.itoa;split
   ·simp only[List.size_toArray,Aao,Lib.decDigits_length];omega
   ·simp only[List.size_toArray,Lib.decDigits_length];omega
  ·have h1:=bB (aL.refl w) k;refine aL.then h1 ⟨rfl,rfl,rfl,by simp[Sort.grow],fun j hj=>?_⟩;simp only[Sort.grow];rw[Array.getElem?_append_left hj]
def qA (w:F)(ps:Nat->Addr):Nat->Y->Nat->Prop
 |0,v,k=>v=jH (ps k)
 |d+1,v,k=>(∃b nm num x,v= .iface 290 (U (M ⟨b,0,O⟩))/\w.heap[b]?=M (C #[.string nm,I V num,x] 292 (0,0))/\qA w ps d x k)\/
  ∃b nm x,v= .iface 208 (U (M ⟨b,0,O⟩))/\w.heap[b]?=M (C #[.string nm,x] 210 (0,0))/\qA w ps d x k
theorem qA.fr (hF:Fr w w' X)(h1:∀b aS,w.heap[b]?=M (C aS 292 (0,0))->¬X b)(h2:∀b aS,w.heap[b]?=M (C aS 210 (0,0))->¬X b):∀ {d:Nat} {v:Y} {k:Nat},qA w ps d v k->qA w' ps d v k
 |0,_,_,h=>h
 |d+1,v,k,h=>by
  rcases h with⟨b,nm,num,x,e,hb,hx⟩|⟨b,nm,x,e,hb,hx⟩
  ·exact Aac ⟨b,nm,num,x,e,hF.at hb (h1 _ _ hb),qA.fr hF h1 h2 hx⟩
  ·exact Aab ⟨b,nm,x,e,hF.at hb (h2 _ _ hb),qA.fr hF h1 h2 hx⟩
theorem qA.iface {d:Nat}(h:qA w ps d v k):∃t b,v= .iface t (U (M b)):=by
 cases d with
 |zero=>exact⟨_,_,h⟩
 |succ d=>
  rcases h with⟨b,nm,num,x,e,-⟩|⟨b,nm,x,e,-⟩
  ·exact⟨_,_,e⟩
  ·exact⟨_,_,e⟩
def Ul:Nat->Int
 |0=>12
 |1=>9
 |2=>10
 |_=>11
def kZ (w:F)(ps:Nat->Addr)(D:Nat)(v:Y)(c:Int):Prop:=(c=0/\v= .nilIface)\/∃d k,d<=D/\k<5/\c=Ul k/\qA w ps d v k
theorem kZ.fr (h:kZ w ps D v c)(hF:Fr w w' X)(h1:∀b aS,w.heap[b]?=M (C aS 292 (0,0))->¬X b)(h2:∀b aS,w.heap[b]?=M (C aS 210 (0,0))->¬X b):kZ w' ps D v c:=by
 rcases h with h|⟨d,k,a,b,e,h⟩
 ·exact Aac h
 ·exact Aab ⟨d,k,a,b,e,h.fr hF h1 h2⟩
theorem kZ.aN (h:kZ w ps D v c)(hg:aL w w'):kZ w' ps D v c:=h.fr (Fr.cZ hg (fun _=>False)) (fun _ _ _=>id) (fun _ _ _=>id)
theorem Kz.chain (h:Kz w ps v k):qA w ps 1 v k:=by
 obtain⟨b,nm,num,e,hb⟩:=h;exact Aac ⟨b,nm,num,_,e,hb,rfl⟩
theorem ErrD.vF (h:ErrD w ps v c):kZ w ps 1 v c:=by
 rcases h with⟨a,b⟩|⟨a,b⟩|⟨a,b⟩
 ·exact Aac ⟨a,b⟩
 ·exact Aab ⟨1,1,Aak _,by omega,a,b.chain⟩
 ·exact Aab ⟨1,2,Aak _,by omega,a,b.chain⟩
theorem JM.vF {c:Bool}(h:JM w ps v c):kZ w ps 1 v (if c then 0 else 10):=by
 rcases h with⟨rfl,b⟩|⟨rfl,b⟩
 ·exact Aac ⟨rfl,b⟩
 ·exact Aab ⟨1,2,Aak _,by omega,rfl,b.chain⟩
theorem code_ne (k:Nat):Ul k≠0:=by
 match k with
 |0=>simp[Ul]
 |1=>simp[Ul]
 |2=>simp[Ul]
 |k+3=>simp[Ul]
theorem kZ.no (h:kZ w ps D v 0):v= .nilIface:=by
 rcases h with h|⟨d,k,-,-,e,-⟩
 ·exact h.2
 ·exact absurd e.symm (code_ne k)
theorem kZ.yes (h:kZ w ps D v c)(hc:c≠0):∃t b,v= .iface t (U (M b)):=by
 rcases h with h|⟨d,k,-,-,e,h⟩
 ·exact absurd h.1 hc
 ·exact h.iface
theorem Hr {s:ByteArray}(h:kZ w ps D v c):H K 81 #[.string s,v] w fun e w'=> ∃v',e=G v'/\kZ w' ps (D+1) v' c/\aL w w':=by
 by_cases hc:c=0
 ·subst hc;have hv:=h.no;subst hv;go_enter func81,ntmps81;go_wp2_with fail;go_ret;exact⟨_,rfl,Aac ⟨rfl,rfl⟩,aL.refl w⟩
 ·obtain⟨t,b,rfl⟩:=h.yes hc;have HL:Hid (kZ w ps D (.iface t (U (M b))) c):=h;clear h;go_enter func81,ntmps81;go_wp2_with fail;go_ret;refine⟨_,rfl,?_,(aL.refl w).alloc _⟩;rcases HL.out with h|⟨d,k,h1,h2,h3,h4⟩
  ·exact absurd h.1 hc
  ·refine Aab ⟨d+1,k,by omega,h2,h3,Aab ⟨_,s,_,rfl,Aaf w _,?_⟩⟩;exact h4.fr (Fr.cZ ((aL.refl w).alloc _) (fun _=>False)) (fun _ _ _=>id) (fun _ _ _=>id)
def jM (db:Nat)(ep:Int):Obj:=C #[U (M ⟨db,0,O⟩),I V ep] 140 (0,0)
theorem gU (h:w.heap[lp]?=M (jM db ep)):w.cell? ⟨lp,0,O⟩=M (U (M ⟨db,0,O⟩))/\w.cell? ⟨lp,1,O⟩=M (I V ep)/\∀j,w.frozen? ⟨lp,j,O⟩=false:=by
 simp[World.cell?,World.frozen?,h,jM]
theorem qB (h:w.heap[lp]?=M (jM db ep))(h0:0<=ep)(h1:ep<=100000):H K 88 #[U (M ⟨lp,0,O⟩)] w fun e w'=>e=G (I V (10+ep))/\w'=w:=by
 obtain⟨-,c1,-⟩:=gU h;clear h;go_enter func88,ntmps88;go_wp2_with fail;go_ret;exact⟨rfl,rfl⟩
structure pJ (N:Nat)(s:Sc)(fs:List bC):Prop where
 cK:iL s
 Cu:0<=s.after
 inv:fM s.room fs
 len:fs.length<=N
theorem tZ (ha:0<=s.after):0<=(dI s fs).2.1.after:=by
 unfold dI;split
 ·exact ha
 ·split
  ·simp only;omega
  ·exact ha
theorem add_aft {b:ByteArray}(ha:0<=s.after):0<=(bW s fs n b).2.1.after:=by
 unfold bW;split
 ·exact ha
 ·split
  ·exact ha
  ·simp only;have h1:0<=(if s.refusing=true then { s with left:=s.left-1 } else s:Sc).after:=(by split<;>exact ha);generalize (if s.refusing=true then { s with left:=s.left-1 } else s:Sc)=s1 at*;split
   ·exact tZ h1
   ·exact tZ h1
theorem Um (f:bC):∀l:List bC,(iO l f).length<=l.length+1
 | []=>by simp[iO]
 |g::r=>by
  unfold iO;split
  ·simp
  ·split
   ·simp
   ·have:=Um f r;simp;omega
theorem pJ.add {N:Nat}{b:ByteArray}(h:pJ N s fs)(hn:0<=n/\n<=9223372036854775807)(hb:b.size≠0):pJ (N+1) (bW s fs n b).2.1 (bW s fs n b).2.2:=by
 have ha:=add_aft (fs:=fs) (n:=n) (b:=b) h.Cu;have hl:=h.len;rcases Fp h.cK h.inv hn hb with⟨s',e,hd,hI⟩|⟨s',e,hs,-,-,hg⟩|⟨s',dU,e,hd⟩
 ·rw[e]at ha ⊢;exact⟨hd.2.2.2,ha,hI.room hd.1.2.2.1,by have:=Um (mP fs n b) fs;simp only;omega⟩
 ·rw[e]at ha ⊢;exact⟨hg,ha,h.inv.room hs.2.2.1,by simp only;omega⟩
 ·rw[e]at ha ⊢;exact⟨hd.2.2.1,ha,hd.2.2.2.1.room hd.1.2.2.1,by have:=hd.2.2.2.2;simp only;omega⟩
theorem Un (W:F)(s:ByteArray):∃cap w1,(convert 9 153 (.string s)).run K W= .ok (Z (M ⟨W.heap.size,0,O⟩) s.size cap) w1/\pG w1 (M ⟨W.heap.size,0,O⟩) s.data.toList/\(∃aS f,w1.heap[W.heap.size]?=M (C aS 5 f))/\aL W w1:=by
 refine⟨_,_,Lib.run_convert_string_bytes W 9 153 5 s underlying9 underlying153 underlying5,?_,⟨_,_,Lib.bytesWorld_at_new W 5 s⟩,?_⟩
 ·refine Aab ⟨_,0,rfl,fun i x hx=>?_⟩;obtain⟨bP,he⟩:=Aae.1 hx;have Xc:i<s.size:=by simpa using bP
  have:=Lib.bytesWorld_cell W 5 s i Xc;rw[Ach,this];simp only[Abo,hx,AcJ]
 ·refine⟨rfl,rfl,rfl,by rw[AdA];omega,fun k hk=>Lib.bytesWorld_at_old W 5 s k hk⟩
def oC (w w':F)(ps:Nat->Addr)(db:Nat)(fv:Y)(rs:List FR)(D:Nat)(v:Y)(r:Int×Sc×List bC):Prop:=
 ∃dV dP,aU w' db r.2.1 dV dP/\plain dP=r.2.2/\Dk w w' (DX db fv rs) (DX db dV dP)/\kZ w' ps D v r.1
theorem Dk.Ht {w1 w2:F}(h:Dk w w1 X X')(hg:aL w1 w2):Dk w w2 X X':=h.trans (Dk.bX hg)
theorem Eb {w1 w2:F}(hg:aL w w1)(h:Dk w1 w2 X X'):Dk w w2 X X':=(Dk.bX hg).trans h
def NN (s:Sc)(fs:List bC)(ep:Int)(text rec:ByteArray):Int×Sc×List bC:=
 if text.size=0 then bW s fs (10+ep) rec else if (bW s fs 1 text).1≠0 then bW s fs 1 text else bW (bW s fs 1 text).2.1 (bW s fs 1 text).2.2 (10+ep) rec
theorem qC (q d a b c:Int):(fF q d a b c).size=22:=by
 unfold fF;rw[Adu,Tk];simp[strOfNums,gV,ByteArray.size]
def Uo (W:F)(lp bx db:Nat)(ep q a b c:Int):Prop:=W.heap[lp]?=M (jM db ep)/\W.heap[bx]?=M (C #[I .u8 q,I V a,I V b,I V c] 99 (0,0))
theorem Uo.dk {W':F}(h:Uo W lp bx db ep q a b c)(hd:aU W db s fv rs)(hk:Dk W W' (DX db fv rs) X'):Uo W' lp bx db ep q a b c:=
 ⟨hk.1.at h.1 (hd.other h.1 (by decide) (by decide) (by decide) (by decide)),hk.1.at h.2 (hd.other h.2 (by decide) (by decide) (by decide) (by decide))⟩
theorem Uo.aN {W':F}(h:Uo W lp bx db ep q a b c)(hg:aL W W'):Uo W' lp bx db ep q a b c:=
 ⟨(hg.block _ (aM h.1)).trans h.1,(hg.block _ (aM h.2)).trans h.2⟩
theorem Uo.cells (h:Uo W lp bx db ep q a b c):W.cell? ⟨lp,0,O⟩=M (U (M ⟨db,0,O⟩))/\W.cell? ⟨bx,0,O⟩=M (I .u8 q)/\W.cell? ⟨bx,1,O⟩=M (I V a)/\W.cell? ⟨bx,2,O⟩=M (I V b)/\W.cell? ⟨bx,3,O⟩=M (I V c):=by
 obtain⟨h1,h2⟩:=h;refine⟨(gU h1).1,?_⟩;simp[World.cell?,h2]
theorem Oa:∀(args:Array Y) (w:F),(callFunc 88 args).run K w= .ok (.enter 88 args) w:=enters_of func88 (by kernel_rfl) rfl
theorem KF:∀(args:Array Y) (w:F),(callFunc 134 args).run K w= .ok (.enter 134 args) w:=enters_of func134 (by kernel_rfl) rfl
theorem Ob:∀(args:Array Y) (w:F),(callFunc 133 args).run K w= .ok (.enter 133 args) w:=enters_of func133 (by kernel_rfl) rfl
theorem e_at:∀(args:Array Y) (w:F),(callFunc 81 args).run K w= .ok (.enter 81 args) w:=enters_of func81 (by kernel_rfl) rfl
theorem QN {d:Int}(h:aU w db s fv rs)(hL:w.heap[lp]?=M (jM db ep))(hG:Gl w ps)(hO:pJ 998 s (plain rs))(yD:0<=ep)(Hu:ep<=1000)(Sl: -9223372036854775808<=d)(Pn:d<=9223372036854775807)(hq:0<=q)(xL:q<256)(hd:cO d)(ha:cO a)(hb:cO b)(hc:cO c):
 H K 87 #[U (M ⟨lp,0,O⟩),I V d,iC q a b c,.string ⟨#[]⟩] w fun e w'=> ∃v,e=G v/\oC w w' ps db fv rs 2 v (bW s (plain rs) (10+ep) (fF q d a b c)):=by
 have HR:Hid (∀W,H K 134 #[I V d,.agg #[I .u8 q,I V a,I V b,I V c]] W fun e w'=> ∃ad cap,e=G (Z (M ad) 22 cap)/\pG w' (M ad) (fF q d a b c).data.toList/\(∃aS f,w'.heap[ad.block]?=M (C aS 5 f))/\aL W w'):=fun W=>by
  refine(Nq hq xL hd ha hb hc).mono ?_;rintro e w' ⟨v,rfl,bD,hg⟩;obtain⟨ao,cap,rfl,hr,iI,hn,hx⟩:=bI.form bD;have jw:(fF q d a b c).data.toList.length=22:=by have:=qC q d a b c;simpa using this
  cases ao with
  |none=>obtain⟨e,-⟩:=hn rfl;omega
  |some ad=>
   obtain⟨k1,k2,aS,Rf,hk⟩:=hx ad rfl;rw[jw];exact⟨_,_,rfl,hr,⟨aS,_,hk⟩,hg⟩
 obtain⟨w1,iY⟩:∃w1,w1=w.alloc (C #[I .u8 q,I V a,I V b,I V c] 99):=⟨_,rfl⟩;have G1:aL w w1:=by rw[iY];exact(aL.refl w).alloc _
 have KG:Uo w1 lp w.heap.size db ep q a b c:=⟨(G1.block _ (aM hL)).trans hL,by rw[iY];exact Aaf w _⟩;have HI:Hid (H K 132 #[I V d] w1 fun e w'=> ∃s:ByteArray,e=G (.string s)/\s.size<=100/\aL w1 w'):=CU (hG.aN G1) Sl Pn;have yJ:Hid (aL w w1):=G1;have KH:Hid (Uo w1 lp w.heap.size db ep q a b c):=KG;unfold iC;clear hL KG G1;go_enter func87,ntmps87;go_upto_region 1 with fail;rw[<-iY];clear iY;go_upto_region 6 with(go_at_call 132;refine HI.out.mono ?_;rintro e w2 ⟨sx,rfl,hsx,kR⟩;have Ng:∀(p:ByteArray) (w:F),p.size<=100->(Op.stringOp .add p sx).run K w= .ok (.string (p++sx)) w:=fun p w hp=>AaT w _ _ (by omega);have VA:=fun w=>Ng ⟨#[99,104,97,110,103,101,32]⟩ w (by decide);clear Ng);have KI:Uo w2 lp w.heap.size db ep q a b c:=KH.out.aN kR;have HWB:Hid (Uo w2 lp w.heap.size db ep q a b c):=KI;have vY:=(h.aN yJ.out).aN kR;have Ww:=(hG.aN yJ.out).aN kR;have jy:=hO;have HJ:Hid (∀W,aL w2 W->H K 88 #[U (M ⟨lp,0,O⟩)] W fun e w'=>e=G (I V (10+ep))/\w'=W):=fun W hW=>qB (KI.aN hW).1 yD (by omega)
 have HA:Hid (∀W ad cap,aL w2 W->pG W (M ad) (fF q d a b c).data.toList->(∃aS f,W.heap[ad.block]?=M (C aS 5 f))->H K 133 #[U (M ⟨db,0,O⟩),I V (10+ep),Z (M ad) 22 cap] W fun e w'=> ∃v,e=G v/\oC w w' ps db fv rs 1 v (bW s (plain rs) (10+ep) (fF q d a b c))):=fun W ad cap hW hr ht=>by
  have jw:=qC q d a b c;have:=xA (n:=10+ep) (cap:=cap) (vY.aN hW) (Ww.xR.aN hW) jy.cK jy.Cu jy.inv (by have:=jy.len;rw[bN]at this;omega) (by omega) (by omega) hr ht;rw[jw]at this;refine this.mono ?_;rintro e w' ⟨v,rfl,dV,dP,k1,k2,k3,k4⟩;exact⟨v,rfl,dV,dP,k1,k2,(Dk.bX (yJ.out.then (kR.then hW))).trans k3,k4.vF⟩
 have HT:Hid (∀W v (sx:ByteArray),oC w W ps db fv rs 1 v (bW s (plain rs) (10+ep) (fF q d a b c))->H K 81 #[.string sx,v] W fun e w'=> ∃v',e=G v'/\oC w w' ps db fv rs 2 v' (bW s (plain rs) (10+ep) (fF q d a b c))):=fun W v sx hv=>by
  obtain⟨dV,dP,k1,k2,k3,k4⟩:=hv;refine(Hr k4).mono ?_;rintro e w' ⟨v',rfl,m1,m2⟩;exact⟨v',rfl,dV,dP,k1.aN m2,k2,k3.Ht m2,m1⟩
 obtain⟨x0,x1,x2,x3,x4⟩:=KI.cells;clear KI vY Ww jy h hG kR HI KH yJ
 go_region_law (first
  |(refine cB (by rfl) 88 _ _ (by rfl) _ (by simp[Act.eval,Act.put];done) Oa ((HJ.out _ (by repeat (first|exact aL.refl _|exact hgR|refine aL.drew ?_))).mono ?_);rintro v w' ⟨rfl,rfl⟩;refine⟨_,rfl,?_⟩)|(refine cB (by rfl) 134 _ _ (by rfl) _ (by simp[Act.eval];done) KF ((HR.out _).mono ?_);rintro v wR ⟨ad,cap,rfl,hrR,htR,hgR'⟩;have hgR:aL w2 wR:=aL.then (by repeat (first|exact aL.refl _|refine aL.drew ?_)) hgR';obtain⟨z0,z1,z2,z3,z4⟩:=(Uo.aN HWB.out hgR).cells;refine⟨_,rfl,?_⟩)|(refine cB (by rfl) 133 _ _ (by rfl) _ (by simp[Act.eval];done) Ob ((HA.out _ ad cap hgR hrR htR).mono ?_);rintro v wA ⟨vA,rfl,hvA⟩;refine⟨_,rfl,?_⟩)|(refine cB (by rfl) 81 _ _ (by rfl) _ (by simp[Act.eval];done) e_at ((HT.out wA vA (⟨#[99,104,97,110,103,101,32]⟩++sx) hvA).mono ?_);rintro v wT ⟨vT,rfl,hvT⟩;refine⟨_,rfl,?_⟩))
 all_goals go_wp2_with fail
 all_goals go_ret
 all_goals exact⟨_,rfl,hvT⟩
end Go.Proofs.YtfplgfodoiiobaaGreatDoor
