/- RefO, PgS, QlB, JnC, JnD, QlX, KpP, SwG, KwS, KpO, KpS, KpT, KpU, KpZ, KpZa, KpZb, KwT, KpZc (joined). -/
import Derived.Test.YtfplgfodoiiobaaGreatDoorJ47
import Derived.ArgAppend
import Derived.BigQuiet
import Derived.ChangeKeysEq
import Derived.Deep.AppendLies
import Derived.Deep.CutBlock
import Derived.Deep.DeepCutAuto
import Derived.Deep.DeepHandedRow
import Derived.Deep.DeepWitnessRowRef
import Derived.Deep.Draws
import Derived.Deep.LoopGhost
import Derived.Deep.MidRow
import Derived.Deep.QuietTactic
import Derived.Deep.RegionHeld3
import Derived.Deep.RegionLaw
import Derived.Deep.RegionLawGrows
import Derived.Deep.RegionWith
import Derived.Deep.SlicePairs
import Derived.LaidEql
import Derived.LaidHandle
import Derived.LaidLaws
import Derived.LaidSub
import Derived.Laws.AppendOwnNone
import Derived.Laws.BitsAllLaws
import Derived.Laws.BitsLemmas
import Derived.Laws.BytesArg
import Derived.Laws.Closers25b
import Derived.Laws.EntriesVeiled
import Derived.Laws.OwnMore
import Derived.Lib.AppendZerosOnto
import Derived.Lib.ConvBytes
import Derived.Lib.ItoaLen
import Derived.Lib.LaidTab
import Derived.Lib.SliceRun
import Derived.OpenShut
import Derived.ProofKit
import Derived.Shelf.Abstract
import Derived.Shelf.Spec.SlicesInsert
import Derived.Shelf.Strings.Builder1
import Derived.StillTailTactics
import Derived.Stop.Asserts
import Derived.Stop.LaidErr
import Derived.Test.YtfplgfodoiiobaaGreatDoorCards
import Derived.Test.YtfplgfodoiiobaaGreatDoorTie
import Derived.WalkKit
import Derived.WalkSmall
import Derived.WalkSpells
open Option renaming none→O,some→M
open Go.Value renaming int→I,slice→Z,pointer→U
open Go.IntKind renaming i64→V
open Go.Ending renaming returned→G
open Go renaming World→F,Value→Y,Calls→H
open Go.Proofs.Tryz renaming prog→K
namespace Go.Proofs.YtfplgfodoiiobaaGreatDoor
set_option maxHeartbeats 2000000
set_option maxRecDepth 100000
open Go.RowKit
open Go.ChangeShapes Go.WideShapes Go.ChangeAt Go.RowKit Go.Deep
variable {s:Sc}{fs:List bF}{w:F}{d db qp j k:Nat}{a b c n ep:Int}{m:bT}{fv:Y}{x:St}{L:List AF}{g:Gm}{t:ByteArray}
def armS (s:Sc)(a b c:Int):Sc×Int:=if a<0\/b<0\/c<0 then (s,1)else ({ s with eG:=true,after:=a,one:=b,rest:=c },0)
theorem disk_set6 (a:Int)(h:w.heap[db]?=M (iN s fv)):(w.setCell ⟨db,6,O⟩ (I V a)).heap[db]?=M (iN { s with one:=a } fv):=by rw[heap_setCell_same w db 6 _ _ _ h];rfl
theorem disk_set7 (a:Int)(h:w.heap[db]?=M (iN s fv)):(w.setCell ⟨db,7,O⟩ (I V a)).heap[db]?=M (iN { s with rest:=a } fv):=by rw[heap_setCell_same w db 7 _ _ _ h];rfl
theorem crash_disk {rs:List FR}(h:aP w db s fv rs):
 H K 42 #[U (M ⟨db,0,O⟩),I V a,I V b,I V c] w fun e w'=>e=G (.tuple #[])/\aP w' db { s with eG:=true,after:=a,one:=b,rest:=c } fv rs/\Og w w' db:=by
 obtain⟨c0,c1,c2,c3,c4,c5,c6,c7,cf⟩:=bW h.1;have f4:=cf 4;have f5:=cf 5;have f6:=cf 6;have f7:=cf 7;have HD:Hid (aP w db s fv rs):=h;clear h cf c0 c1 c2 c3;go_enter Tryz.func42,Tryz.ntmps42
 go_wp2_with fail
 go_end0;have h1:=HD.out.set (WN true HD.out.1);have h2:=h1.set (WO a h1.1);have h3:=h2.set (disk_set6 b h2.1);have h4:=h3.set (disk_set7 c h3.1);exact⟨rfl,h4,((((Og.refl w db).set).set).set).set⟩
theorem qcrash_no (h:a<0\/b<0\/c<0):H K 21 #[U (M ⟨qp,0,O⟩),I V a,I V b,I V c] w fun e w'=>e=G (I V 1)/\w'=w:=by
 by_cases ha:a<0
 ·clear h;go_enter Tryz.func21,Tryz.ntmps21
  go_wp2_with fail
  go_ret;exact⟨rfl,rfl⟩
 ·by_cases hb:b<0
  ·clear h;go_enter Tryz.func21,Tryz.ntmps21
   go_wp2_with fail
   go_ret;exact⟨rfl,rfl⟩
  ·have hc:c<0:=by omega
   clear h;go_enter Tryz.func21,Tryz.ntmps21
   go_wp2_with fail
   go_ret;exact⟨rfl,rfl⟩
theorem qcrash_yes {most depth:Int}{o:Option Nat}{rs:List FR}(h:w.heap[qp]?=M (uV most depth db o))(hD:aP w db s fv rs)(ha:0<=a)(hb:0<=b)(hc:0<=c):H K 21 #[U (M ⟨qp,0,O⟩),I V a,I V b,I V c] w fun e w'=>e=G (I V 0)/\aP w' db { s with eG:=true,after:=a,one:=b,rest:=c } fv rs/\Og w w' db:=by
 obtain⟨-,-,c2,-,-⟩:=dW h;have hC:=crash_disk (a:=a) (b:=b) (c:=c) hD;have hn:¬a<0:=by omega
 have oW:¬b<0:=by omega
 have Wz:¬c<0:=by omega
 clear h hD;go_enter Tryz.func21,Tryz.ntmps21
 go_wp2_with (go_at_call 42;refine hC.mono ?_;rintro e w1 ⟨rfl,h1,h2⟩)
 go_ret;exact⟨rfl,h1,h2⟩
theorem gs_arm {D:Int}(h:GS x D)(ha:a<=9223372036854775807)(hb:b<=9223372036854775807)(hc:c<=9223372036854775807):GS ((armS x.1 a b c).1,x.2) D:=by
 unfold armS;split
 ·exact h
 ·exact⟨⟨{ h.bk.bK with oL:=ha,Yu:=by simp only;omega,NW:=hb,Fs:=by simp only;omega,Pj:=hc },by simp only;omega,h.bk.inv,h.bk.len⟩,h.YQ,h.done,h.QX,h.buf,h.wU⟩
theorem gs_begin {D:Int}(h:GS x D)(hD:1000100000<=D):GS (jM x).1 D:=by
 obtain⟨s,fs,m⟩:=x;by_cases ho:s.aS=true
 ·unfold jM;simp only;rw[if_pos ho];exact h
 ·have Je:s.aS=false:=by simpa using ho
  have yK:=kI h.bk.inv 1;have Ua:=h.bk.bK.oK;simp only at yK Ua;have Lr:((aL fs 1).size:Int)<=1000000:=by omega
  rw[v_ Je h.bk.inv Lr];cases hr:Gs fs s.depth.toNat with
  |none=>exact h
  |some em=>
   obtain⟨z0,z1,z2,z3,z4,z5⟩:=Rm hr Lr;simp only;have mh:BK { s with aS:=true } fs:=⟨{ h.bk.bK with },h.bk.qC,h.bk.inv,h.bk.len⟩;have hrj:=kI h.bk.inv (10+em.1);simp only at hrj;obtain⟨g1,g2,g3⟩:=JU (buf:=((aL fs 1).size:Int)) (by omega) s.depth.toNat ((aL fs (10+em.1)).size / 22+1) em.2 (aL fs (10+em.1)).data.toList z1 z3;have hMe:wO ((aL fs 1).size:Int) s.depth.toNat ((aL fs (10+em.1)).size / 22+1) em.2 (aL fs (10+em.1)).data.toList=sG fs s.depth.toNat em:=rfl;rw[hMe]at g1 g2 g3;have hbf:=g1.zL;unfold Bt oO;generalize sG fs s.depth.toNat em=g at*;obtain⟨j1,j2,j3⟩:=UX (wL fs em.1) mh
   have OJ:(1:Int) ∉ wL fs em.1/\10+em.1 ∉ wL fs em.1:=by
    unfold wL;constructor<;>simp
   have hoth:∀f∈fs,f.1 ∉ wL fs em.1->f.1=1\/f.1=2\/f.1=3\/f.1=10+em.1:=by
    intro f hf hn;unfold wL at hn;simp only[List.mem_filter,List.mem_map,Bool.and_eq_true,bne_iff_ne,ne_eq,not_and,Decidable.not_not]at hn;by_cases c1:f.1=1
    ·exact Or.inl c1
    ·by_cases c2:f.1=2
     ·exact Or.inr (Or.inl c2)
     ·exact Or.inr (Or.inr (Or.inr (hn ⟨f,hf,rfl⟩ ⟨c1,c2⟩)))
   generalize fF { s with aS:=true } fs (wL fs em.1)=r at*;rcases j3 with⟨q1,q2,q3,q4,q5⟩|⟨q1,q2⟩
   ·simp only[q1,Bool.true_eq_false,if_false];obtain⟨k1,k2,k3⟩:=QZ j1 (10+em.1) (k:=((22*g.2:Nat):Int)) (by omega);generalize bR r.2.1 r.2.2 (10+em.1) ((22*g.2:Nat):Int)=r2 at*;rcases k3 with⟨p1,p2,p3,p4,-,-,p5⟩|⟨p1,p2⟩
    ·simp only[p1,Bool.true_eq_false,if_false];obtain⟨i1,i2,i3⟩:=QZ k1 1 (k:=g.1.2.2.2.2) hbf;generalize bR r2.2.1 r2.2.2 1 g.1.2.2.2.2=r3 at*;rcases i3 with⟨t1,t2,t3,t4,-,t5,-⟩|⟨t1,t2⟩
     ·simp only[t1,if_true];have hsame:=(j2.trans k2).trans i2;have gQ:(aL r2.2.2 1).size=(aL fs 1).size:=by rw[p5 1 (by omega),q5 1 OJ.1]
      have hB3:BK { r3.2.1 with ro:=false,aV:=em.1 } r3.2.2:=⟨{ i1.bK with nK:=z4,zN:=z5 },i1.qC,i1.inv,i1.len⟩;refine⟨hB3,fun _=>?_,fun _=>?_,fun _=>?_,fun _=>?_,fun _ _=>?_⟩
      ·simp only;rw[hsame.2.1];exact g1
      ·simp only;omega
      ·simp only;intro f hf;obtain⟨⟨f1,hf1,e1⟩,-⟩:=t4 f hf;obtain⟨⟨f2,MN,e2⟩,-⟩:=p4 f1 hf1;obtain⟨⟨f3,hf3,e3⟩,h3⟩:=q4 f2 MN;have:=hoth f3 hf3 (by rw[e3];exact h3);rw[<-e1,<-e2,<-e3];exact this
      ·simp only;rw[t5,gQ];omega
      ·simp only;rw[t5,gQ];omega
     ·simp only[t1,Bool.false_eq_true,if_false];exact GS.shut i1 t2
    ·simp only[p1,if_true];exact GS.shut k1 p2
   ·simp only[q1,if_true];exact GS.shut j1 q2
theorem xcrash {X:Nat->Prop}(h:pF w qp s fs m X):H K 21 #[U (M ⟨qp,0,O⟩),I V a,I V b,I V c] w fun e w'=>e=G (I V (armS s a b c).2)/\vV w w' qp X ((armS s a b c).1,fs,m):=by
 unfold armS;by_cases ha:a<0\/b<0\/c<0
 ·rw[if_pos ha];refine(qcrash_no ha).mono ?_;rintro e w' ⟨rfl,rfl⟩;exact⟨rfl,vV.at h⟩
 ·rw[if_neg ha];obtain⟨db,fv,rs,o,h1,-,h3⟩:=h.disk;refine(qcrash_yes h3 h1 (by omega) (by omega) (by omega)).mono ?_;rintro e w' ⟨rfl,hd,iV⟩;refine⟨rfl,h.num1 h3 h1 ⟨rfl,rfl,gU.refl s⟩ (fun dN _ dH Tn=>?_) iV⟩;have hb:=hd.1;have e:dN=fv:=by have:=Tn.1.symm.trans h1.1;unfold iN at this;simp at this;exact this
  subst e;exact Tn.keep hb iV.1 (fun b _ hne=>hne)
theorem aAf (h:s.depth=(d:Int)):s.depth.toNat=d:=by omega
theorem aAq (l:List AF):(MX l).length=l.length*2:=by
 unfold MX
 induction l with
 |nil=>rfl
 |cons a l ih=>simp[AFc,ih];omega
theorem TD.cells {ad:Addr}{l:List AF}(h:TD w (M ad) l):∀j u,(MX l)[j]?=M u->w.cell? (ad.add j)=M u:=by
 intro j u hj;rcases h with rfl|⟨b,off,e,hc⟩
 ·simp[MX]at hj
 ·cases e
  have bV:j<(MX l).length:=(List.getElem?_eq_some_iff.1 hj).1;rw[aAq]at bV;obtain⟨f,hf⟩:∃f,l[j / 2]?=M f:=⟨_,List.getElem?_eq_getElem (by omega)⟩;obtain⟨q1,q2⟩:=VO l (j / 2) f hf;obtain⟨c1,c2⟩:=hc (j / 2) f hf;rw[Addr.add_lit];rcases Nat.mod_two_eq_zero_or_one j with e|e
  ·rw[show j / 2*2=j by omega]at q1 c1;rw[q1]at hj;cases hj
   exact c1
  ·rw[show j / 2*2+1=j by omega]at q2;rw[show off+j / 2*2+1=off+j by omega]at c2;rw[q2]at hj;cases hj
   exact c2
theorem aAh {ops:Array Oper}{rest:List Oper}{o:Oper}{a:Act}{Q:Exit->Act->F->Prop}(Bq:o.guard=O)(s x:Operand)
 (ho:o.op= .call { callee:= .builtin .append,args:=#[s,x],argTypes:=#[54,54] })
 (base:Nat)(v:Y)(ys zs:List AF)(hs:a.eval s=v)(cZ:Ad w base v ys)(ao:Option Addr)(m c:Nat)(hx:a.eval x=Z ao m c)(hm:m=zs.length)(gJ:ao=O->zs.length=0/\c=0)(hr:TD w ao zs)
 (hlen:ys.length+zs.length<=1000000000000)(kW:base<=w.heap.size)
 (h:∀v' w',Ad w' base v' (ys++zs)->w.grownBy w' v.ownBlock->(v'=Z O 0 0->v=Z O 0 0)->wpList K ops Q rest (a.put o.dst v') w'):wpList K ops Q (o::rest) a w:=by
 obtain⟨i0,hi,tO,tQ,uW⟩:=info_parts Tryz.infoAF;subst hm;cases ao with
 |none=>
  obtain⟨h1,rfl⟩:=gJ rfl;have hz:zs=[]:=List.eq_nil_of_length_eq_zero h1;subst hz;exact wpList_append_own_none Bq s x 54 ho base 58 i0 2 Tryz.underlying54 hi v _ _ hs cZ hx (h v w (by simpa using cZ) (World.grownBy.refl _ _) id)
 |some ad=>
  have h1c:∀u∈MX zs,u.oneCell'=true:=by
   intro u hu;obtain⟨p,-,hp⟩:=List.mem_flatMap.1 hu;simp[AFc]at hp;rcases hp with rfl|rfl<;>rfl
  obtain⟨v',w',Fh,CV,Cv,hiff⟩:=run_append_own (P:=K) w base 54 o.type 58 i0 (.agg #[I V 0,.string ⟨#[]⟩]) 2 24 Tryz.underlying54 hi tO tQ uW rfl (by decide) v ys.length (MX ys) cZ ad zs.length c (MX zs) (aAq zs) (TD.cells hr) h1c (by unfold maxLen;omega) (by omega) kW;refine wpList_plain Bq fun _ hK=>?_
  unfold Oper.wp execOp;simp only[ho,resolve,invoke,builtin,Sem.run_bind,Sem.run_pure,Result.andThen_ok,List.map_toArray,List.map_cons,List.map_nil,hs,hx,Fh];refine hK _ _ (h v' w' ?_ Cv (fun e=>(hiff.1 e).1));unfold Ad;rw[RF,List.length_append];exact CV
theorem str_open {aA:Type}{iQ:TypeId×Y->aA}{W:F}{s:ByteArray}{d0:DataW aA}{p0:List MemPlace}(h0:DataW.Trod iQ K W 0 (fun _=>true) true 9 (.string s) d0 p0)(hb:Rows.uptoBulk d0<=1048576):s.size<=1048576:=by
 obtain⟨fi,hfi⟩:=h0;obtain⟨s',e0,d4,-⟩:=DataW.trod_string Tryz.underlying9 hfi;simp[Value.cells]at e0;subst e0;have d4:d0= .lit (.string s.data.toList):=congrArg Prod.fst d4;have q:Rows.uptoBulk d0=s.data.toList.length+1:=by rw[d4];simp[Rows.uptoBulk]
 have e7:s.data.toList.length=s.size:=by simp
 omega
theorem LP:∀(l:List Int) (s:Sc) (fs:List bF),Xx s (l.length:Int)->∃s',fF s fs l=((fF (aY s) fs l).1,s',(fF (aY s) fs l).2.2)/\Lk s (fF (aY s) fs l).2.1 s' (l.length:Int)
 | [],s,fs,_=>⟨s,_root_.rfl,Lk.rfl s⟩
 |n::l,s,fs,h=>by
  simp only[List.length_cons]at h;obtain⟨s1,e1,l1⟩:=Oh (s:=s) (fs:=fs) (fun q=>by have:=h q;omega) n 0;unfold fF;simp only;rw[e1];generalize bR (aY s) fs n 0=q at*;obtain⟨q1,q2,q3⟩:=q;simp only at l1 ⊢;have hc:q2=aY s1:=l1.calm.symm;subst hc;cases q1 with
  |true=>
   simp only[if_true];obtain⟨s2,e2,l2⟩:=LP l s1 q3 (fun q=>by have:=l1.RD h q;omega);rw[e2];exact⟨s2,_root_.rfl,(l1.trans l2).le (by simp only[List.length_cons];omega)⟩
  |false=>
   simp only[Bool.false_eq_true,if_false];exact⟨s1,_root_.rfl,l1.le (by simp only[List.length_cons];omega)⟩
theorem ZN {em:Int×bT}(hc:jE (aL fs 2) ((aL fs 1).size:Int) s.depth.toNat=M em)(h:Xx s (((iT fs em.1).length:Int)+2)):∃s',jM (s,fs,m)=((s',(jM (aY s,fs,m)).1.2),(jM (aY s,fs,m)).2)/\Lk s (jM (aY s,fs,m)).1.1 s' (((iT fs em.1).length:Int)+2):=by
 unfold jM;simp only;by_cases ho:s.aS=true
 ·rw[if_pos ho,if_pos (show(aY s).aS=true from ho)];exact⟨s,_root_.rfl,(Lk.rfl s).le (by omega)⟩
 ·rw[if_neg ho,if_neg (show ¬(aY s).aS=true from ho)];have ed:(aY s).depth=s.depth:=_root_.rfl;rw[ed,hc];simp only;generalize lZ ((aL fs 1).size:Int) s.depth.toNat ((aL fs (10+em.1)).data.toList.length / 22+1) em.2 (aL fs (10+em.1)).data.toList=g;obtain⟨s0,Tv⟩:∃s0:Sc,s0= { s with aS:=true }:=⟨_,_root_.rfl⟩;have hk0:({ most:=(aY s).most,depth:=s.depth,room:=(aY s).room,eG:=(aY s).eG,after:=(aY s).after,one:=(aY s).one,rest:=(aY s).rest,refusing:=(aY s).refusing,left:=(aY s).left,aS:=true,ro:=(aY s).ro,aV:=(aY s).aV }:Sc)=aY s0:=by rw[Tv];rfl
  have kT:Xx s0 (((iT fs em.1).length:Int)+2):=by rw[Tv];exact h
  have hL:∀ {c s':Sc} {n:Int},Lk s0 c s' n->Lk s c s' n:=fun {c s' n} q=>by rw[Tv]at q;exact⟨q.calm,q.arm,q.lo,q.hi,q.un⟩
  rw[<-Tv,hk0];obtain⟨s1,e1,l1⟩:=LP (iT fs em.1) s0 fs (fun q=>by have:=kT q;omega);rw[e1];generalize fF (aY s0) fs (iT fs em.1)=q at*;obtain⟨q1,q2,q3⟩:=q;simp only at l1 ⊢;have Ig:q2=aY s1:=l1.calm.symm;subst Ig;by_cases hq:q1=false
  ·rw[if_pos hq,if_pos hq];exact⟨s1,_root_.rfl,hL (l1.le (by omega))⟩
  ·rw[if_neg hq,if_neg hq];have bX:=l1.RD kT;obtain⟨s2,e2,l2⟩:=Oh (s:=s1) (fs:=q3) (fun q=>by have:=bX q;omega) (10+em.1) ((22*g.2:Nat):Int);rw[e2];generalize bR (aY s1) q3 (10+em.1) ((22*g.2:Nat):Int)=r at*;obtain⟨r1,r2,r3⟩:=r;simp only at l2 ⊢;have Oo:r2=aY s2:=l2.calm.symm;subst Oo;have l12:=l1.trans l2;by_cases hr:r1=false
   ·rw[if_pos hr,if_pos hr];exact⟨s2,_root_.rfl,hL (l12.le (by omega))⟩
   ·rw[if_neg hr,if_neg hr];have fP:=l2.RD bX;obtain⟨s3,e3,l3⟩:=Oh (s:=s2) (fs:=r3) (fun q=>by have:=fP q;omega) 1 g.1.2.2.2.2;rw[e3];generalize bR (aY s2) r3 1 g.1.2.2.2.2=u at*;obtain⟨u1,u2,u3⟩:=u;simp only at l3 ⊢;have mr:u2=aY s3:=l3.calm.symm;subst mr;have l13:=l12.trans l3;by_cases hu:u1=false
    ·rw[if_pos hu,if_pos hu];exact⟨s3,_root_.rfl,hL (l13.le (by omega))⟩
    ·rw[if_neg hu,if_neg hu];have l14:Lk s (aY s3) s3 (((iT fs em.1).length:Int)+2):=hL (l13.le (by omega));exact⟨{ s3 with ro:=false,aV:=em.1 },_root_.rfl,_root_.rfl,l14.arm,l14.lo,l14.hi,l14.un⟩
def aAQ (s:Sc):Sc:= { s with eG:=false,aS:=false,after:=0 }
theorem step_die (fs:List bF)(ha:s.eG=true)(h0:s.after=0):dF s fs=(false,aAQ s,Cx (fs.map (jV s.one s.rest))):=by
 unfold dF;rw[if_neg (by simp[ha]),if_neg (by omega)]
 have:({ s with eG:=false,aS:=false }:Sc)=aAQ s:=by
  obtain⟨a1,a2,a3,a4,a5,a6,a7,a8,a9,a10,a11,a12⟩:=s;simp only at h0;subst h0;rfl
 rw[<-this]
theorem step_next (fs:List bF)(ha:s.eG=true)(h0:0<s.after):dF s fs=(true,{ s with after:=s.after-1 },fs):=by
 unfold dF;rw[if_neg (by simp[ha]),if_pos h0]
theorem add_next {b:ByteArray}(ha:s.eG=true)(h0:0<s.after)(hr:s.refusing=false)(hI:dY s.room fs)(hb:b.size≠0)(hu:bP fs+(b.size:Int)<=s.room):dJ s fs n b=(0,{ s with after:=s.after-1 },iR fs (lX fs n b)):=by
 unfold dJ;rw[if_neg (by simp[hr]),if_neg (by omega)];simp only;rw[show(if s.refusing=true then { s with left:=s.left-1 } else s)=s from if_neg (by simp[hr]),step_next fs ha h0];simp only[if_true];rw[tX hI.sort (by rw[(gI fs n b).2,dR];omega) (hI.no (by omega))]
theorem add_die {b:ByteArray}(ha:s.eG=true)(h0:s.after=0)(hr:s.refusing=false)(hu:bP fs+(b.size:Int)<=s.room):dJ s fs n b=(10,aAQ s,Cx (fs.map (jV s.one s.rest))):=by
 unfold dJ;rw[if_neg (by simp[hr]),if_neg (by omega)];simp only;rw[show(if s.refusing=true then { s with left:=s.left-1 } else s)=s from if_neg (by simp[hr]),step_die fs ha h0];simp
def aAO (fs:List bF)(n:Int):Int:=((eO fs n).map (fun f=>f.2.2)).getD 0
theorem crash_file {one rest:Int}{room:Int}(hI:dY room fs)(h1:0<=one)(h2:0<=rest)(n:Int):∃k:Nat,aAO fs n<=(k:Int)/\k<=(aL fs n).size/\aL (Cx (fs.map (jV one rest))) n=(aL fs n).extract 0 k:=by
 rw[Vp hI]
 have key:∀(l:List bF),l.Pairwise (fun a b=>a.1<b.1)->(∀f∈l,okF f)->∃k:Nat,aAO l n<=(k:Int)/\k<=(aL l n).size/\aL ((l.map (jV one rest)).filter (fun f=>f.2.1.size !=0)) n=(aL l n).extract 0 k:=by
  intro l
  induction l with
  |nil=>intro _ _;exact⟨0,by simp[aAO,eO],Nat.zero_le _,rfl⟩
  |cons f l ih=>
   intro hs ho;rw[List.pairwise_cons]at hs;have hof:=ho f (by simp);obtain⟨kb1,kb2⟩:=kept_bd h1 h2 hof
   have hcs:(jV one rest f).2.1.size=(wC one rest f).toNat:=by
    show(f.2.1.extract 0 (wC one rest f).toNat).size=_;rw[ByteArray.size_extract];omega
   by_cases hn:f.1=n
   ·have hm:aAO (f::l) n=f.2.2:=by unfold aAO;rw[lY,if_pos hn];rfl
    have hb:aL (f::l) n=f.2.1:=by rw[cK,lY,if_pos hn];rfl
    have hk:f.2.2<=wC one rest f:=by
     have:=hof.2.1;unfold wC;split<;>split<;>omega
    refine⟨(wC one rest f).toNat,by rw[hm];omega,by rw[hb];omega,?_⟩;rw[hb,List.map_cons];by_cases hz:(wC one rest f).toNat=0
    ·rw[List.filter_cons_of_neg (by rw[hcs,hz];decide),Rw (fun g hg q=>?_),hz]
     ·exact(VB (by rw[ByteArray.size_extract];omega)).symm
     ·obtain⟨q',hq',rfl⟩:=List.mem_map.1 (List.mem_filter.1 hg).1;have:=hs.1 q' hq';have e:(jV one rest q').1=q'.1:=rfl;omega
    ·rw[List.filter_cons_of_pos (by rw[hcs];simpa using hz),cK,lY,if_pos (show(jV one rest f).1=n from hn)];rfl
   ·have hm:aAO (f::l) n=aAO l n:=by unfold aAO;rw[lY,if_neg hn]
    have hb:aL (f::l) n=aL l n:=by rw[cK,lY,if_neg hn,cK]
    obtain⟨k,a,b,c⟩:=ih hs.2 (fun g hg=>ho g (by simp[hg]));refine⟨k,by rw[hm];exact a,by rw[hb];exact b,?_⟩;rw[hb,<-c,List.map_cons,List.filter_cons];split
    ·rw[cK,lY,if_neg (show ¬(jV one rest f).1=n from hn),cK]
    ·rfl
 exact key fs hI.sort.1 hI.ok
theorem act_two {kind pos:Int}{text:ByteArray}(ho:x.1.aS=true)(hr:x.1.ro=false)(hc:(kK x kind pos n text).2=0):eZ x kind pos n text=
 let q:=if kind=73 then dJ x.1 x.2.1 1 text else (0,x.1,x.2.1)
 if q.1≠0 then ((q.2.1,q.2.2,x.2.2),q.1)else
 let q2:=dJ q.2.1 q.2.2 (10+q.2.1.aV) (fO kind (kK x kind pos n text).1.2.2.2.1 (qH kind pos) (pG x.2.1 kind n) (lC kind text))
 ((q2.2.1,q2.2.2,if q2.1=0 then (kK x kind pos n text).1 else x.2.2),q2.1):=by
 have Nq:(gK x.2.2 kind (qH kind pos) (pG x.2.1 kind n) (lC kind text) x.1.most x.1.depth.toNat).2=0:=hc;unfold eZ;rw[if_neg (by simp[ho]),if_neg (by simp[hr])];unfold qH pG lC at Nq;simp only;rw[if_neg (by rw[Nq];simp)];rfl
theorem die_calm (s:Sc):aAQ s= { aY s with aS:=false }:=rfl
theorem die_lk {s':Sc}(h:Lk s (aY s) s' n):aAQ s'=aAQ s/\s'.one=s.one/\s'.rest=s.rest/\s'.aV=s.aV/\s'.room=s.room/\s'.refusing=s.refusing:=by
 have e:=h.calm;refine⟨by rw[die_calm,die_calm,e],?_,?_,?_,?_,?_⟩
 ·show(aY s').one=_;rw[e];rfl
 ·show(aY s').rest=_;rw[e];rfl
 ·show(aY s').aV=_;rw[e];rfl
 ·show(aY s').room=_;rw[e];rfl
 ·show(aY s').refusing=_;rw[e];rfl
theorem bud_or (haf:0<=s.after):Xx s 1\/(s.eG=true/\s.after=0):=by
 by_cases hb:Xx s 1
 ·exact Or.inl hb
 ·refine Or.inr ⟨?_,?_⟩
  ·by_cases q:s.eG=true
   ·exact q
   ·exact absurd (fun q'=>absurd q' q) hb
  ·by_cases q:s.after=0
   ·exact q
   ·exact absurd (fun _=>by omega) hb
def aAP (s:Sc)(Kb:List bF):List bF:=Cx (Kb.map (jV s.one s.rest))
theorem cut_arm (haf:0<=s.after)(n k:Int):(∃s',bR s fs n k=(true,s',(bR (aY s) fs n k).2.2)/\Lk s (aY s) s' 1/\0<=s'.after)\/(s.eG=true/\k<((aL fs n).size:Int)/\bR s fs n k=(false,aAQ s,aAP s fs)):=by
 have calm1:(bR (aY s) fs n k).1=true/\(bR (aY s) fs n k).2.1=aY s:=by
  unfold bR;split
  ·exact⟨rfl,rfl⟩
  ·simp only;rw[Bh];exact⟨rfl,rfl⟩
 rcases bud_or haf with hb|⟨ha,h0⟩
 ·obtain⟨s',e,hl⟩:=Oh (fs:=fs) hb n k;rw[calm1.1]at e;rw[calm1.2]at hl;exact Or.inl ⟨s',e,hl,KJ hl hb haf⟩
 ·by_cases hk:((aL fs n).size:Int)<=k
  ·refine Or.inl ⟨s,?_,(Lk.rfl s).le (by omega),haf⟩;unfold bR;rw[if_pos hk,if_pos hk]
  ·refine Or.inr ⟨ha,by omega,?_⟩;unfold bR;rw[if_neg hk,step_die fs ha h0];simp[aAP]
theorem crash_id {one rest:Int}{f:bF}(h1:0<=one)(h2:0<=rest)(ho:okF f)(hf:f.2.2=(f.2.1.size:Int)):jV one rest f=f:=by
 obtain⟨kb1,kb2⟩:=kept_bd h1 h2 ho
 have hk:wC one rest f=(f.2.1.size:Int):=by
  have:f.2.2<=wC one rest f:=by
   have:=ho.2.1;unfold wC;split<;>split<;>omega
  omega
 show(f.1,f.2.1.extract 0 (wC one rest f).toNat,wC one rest f)=f;rw[hk,Int.toNat_natCast,VD _ (Nat.le_refl _),<-hf]
theorem lost_fl (hI:dY s.room fs)(hf:flF fs)(h1:0<=s.one)(h2:0<=s.rest):aAP s fs=fs:=by
 unfold aAP;rw[Vp hI]
 have e:fs.map (jV s.one s.rest)=fs:=by
  have:fs.map (jV s.one s.rest)=fs.map id:=List.map_congr_left (fun f hq=>crash_id h1 h2 (hI.ok f hq) (hf f hq));rw[this,List.map_id]
 rw[e];exact List.filter_eq_self.2 (fun f hq=>by simpa using hI.sort.2 f hq)
theorem same_disk:∀ {a b:List bF},a.Pairwise (fun x y=>x.1<y.1)->b.Pairwise (fun x y=>x.1<y.1)->(∀f∈a,f.2.1.size≠0)->(∀f∈b,f.2.1.size≠0)->flF a->flF b->(∀n,aL a n=aL b n)->a=b
 | [],[],_,_,_,_,_,_,_=>rfl
 | [],g::b,_,_,_,hb,_,_,h=>by
  have:=h g.1;rw[cK,cK,lY,if_pos rfl]at this;exact absurd (congrArg ByteArray.size this).symm (hb g (by simp))
 |f::a,[],_,_,ha,_,_,_,h=>by
  have:=h f.1;rw[cK,cK,lY,if_pos rfl]at this;exact absurd (congrArg ByteArray.size this) (ha f (by simp))
 |f::a,g::b,sa,sb,ha,hb,fa,fb,h=>by
  rw[List.pairwise_cons]at sa sb
  have key:∀ {x y:bF} {l m:List bF},(∀z∈m,y.1<z.1)->(x::l).Pairwise (fun p q=>p.1<q.1)->x.2.1.size≠0->(∀n,aL (x::l) n=aL (y::m) n)->y.1<=x.1:=fun {x y l m} hm _ hx hh=>by
   rcases Int.lt_or_le x.1 y.1 with q|q
   ·exfalso;have e:=hh x.1;rw[cK,lY,if_pos rfl,cK,lY,if_neg (by omega),sV (fun z hz=>by have:=hm z hz;omega)]at e;exact hx (congrArg ByteArray.size e)
   ·exact q
  have e1:f.1=g.1:=by
   have p:=key sb.1 (List.pairwise_cons.2 sa) (ha f (by simp)) h;have q:=key sa.1 (List.pairwise_cons.2 sb) (hb g (by simp)) (fun n=>(h n).symm);omega
  have e2:f.2.1=g.2.1:=by
   have:=h f.1;rw[cK,lY,if_pos rfl,cK,lY,if_pos e1.symm]at this;exact this
  have e3:f=g:=by
   have p:=fa f (by simp);have q:=fb g (by simp);obtain⟨f1,f2,f3⟩:=f;obtain⟨g1,g2,g3⟩:=g;simp only at e1 e2 p q;subst e1 e2;rw[p,q]
  subst e3
  have:=same_disk sa.2 sb.2 (fun z hz=>ha z (by simp[hz])) (fun z hz=>hb z (by simp[hz])) (fun z hz=>fa z (by simp[hz])) (fun z hz=>fb z (by simp[hz])) (fun n=>by
   by_cases hn:f.1=n
   ·rw[Rw (fun z hz q=>by have:=sa.1 z hz;omega),Rw (fun z hz q=>by have:=sb.1 z hz;omega)]
   ·have:=h n;rw[cK,lY,if_neg hn,cK,lY,if_neg hn]at this;rw[cK,cK];exact this)
  rw[this]
theorem good_calm (h:fU s):fU (aY s):=⟨h.ES,h.Vt,h.Db,h.xD,h.Vu,h.oK,by show(0:Int)<=_;decide,h.Yu,h.NW,h.Fs,h.Pj,h.zM,h.Cb,h.nK,h.zN⟩
theorem cutk_arm (haf:0<=s.after)(hc:fU s)(hI:dY s.room fs)(hf:flF fs)(n:Int){k:Int}(h0:0<=k):
 (∃s' f1,bR s fs n k=(true,s',f1)/\bR (aY s) fs n k=(true,aY s,f1)/\aY s'=aY s/\aAQ s'=aAQ s/\s'.room=s.room/\0<=s'.after/\fU s'/\dY s.room f1/\flF f1/\(∀j,aL f1 j=if j=n then (aL fs n).extract 0 k.toNat else aL fs j))\/bR s fs n k=(false,aAQ s,fs):=by
 obtain⟨f1,e1,i1,b1,m1⟩:=Ke (s:=aY s) rfl (good_calm hc) hI n h0;rcases cut_arm (fs:=fs) haf n k with⟨s',q,l1,a1⟩|⟨-,-,q⟩
 ·rw[e1]at q;obtain⟨d1,-,-,-,d5,-⟩:=die_lk l1;refine Or.inl ⟨s',f1,q,e1,l1.calm,d1,d5,a1,VF l1 (good_calm hc) hc,i1,fun f hq=>?_,b1⟩;rcases(m1 f hq).1 with z|⟨-,z,-⟩
  ·exact hf f z
  ·exact z
 ·rw[lost_fl hI hf hc.Yu hc.Fs]at q;exact Or.inr q
theorem cuts_arm:∀(l:List Int) {s:Sc} {fs:List bF},0<=s.after->fU s->dY s.room fs->flF fs->
 (∃s' f1,fF s fs l=(true,s',f1)/\fF (aY s) fs l=(true,aY s,f1)/\aY s'=aY s/\aAQ s'=aAQ s/\s'.room=s.room/\0<=s'.after/\fU s'/\dY s.room f1/\flF f1/\(∀n,n ∉ l->aL f1 n=aL fs n))\/(∃f1,fF s fs l=(false,aAQ s,f1)/\dY s.room f1/\flF f1/\(∀n,n ∉ l->aL f1 n=aL fs n))
 | [],s,fs,haf,hc,hI,hf=>Or.inl ⟨s,fs,rfl,rfl,rfl,rfl,rfl,haf,hc,hI,hf,fun _ _=>rfl⟩
 |a::l,s,fs,haf,hc,hI,hf=>by
  rcases cutk_arm haf hc hI hf a (Int.le_refl 0)with⟨s1,f1,q1,q2,q3,q4,q5,q6,q7,q8,q9,qb⟩|q
  ·have hb:∀n,n ∉ a::l->aL f1 n=aL fs n:=fun n hn=>by rw[qb,if_neg (fun e=>hn (by rw[e];simp))]
   rcases cuts_arm l (s:=s1) (fs:=f1) q6 q7 (by rw[q5];exact q8) q9 with⟨s2,f2,p1,p2,p3,p4,p5,p6,p7,p8,p9,pb⟩|⟨f2,p1,p2,p3,pb⟩
   ·refine Or.inl ⟨s2,f2,?_,?_,p3.trans q3,p4.trans q4,p5.trans q5,p6,p7,by rw[<-q5];exact p8,p9,fun n hn=>?_⟩
    ·unfold fF;simp only[q1,if_true];exact p1
    ·unfold fF;simp only[q2,if_true];rw[<-q3];exact p2
    ·rw[pb n (fun e=>hn (by simp[e])),hb n hn]
   ·refine Or.inr ⟨f2,?_,by rw[<-q5];exact p2,p3,fun n hn=>?_⟩
    ·unfold fF;simp only[q1,if_true];rw[<-q4];exact p1
    ·rw[pb n (fun e=>hn (by simp[e])),hb n hn]
  ·refine Or.inr ⟨fs,?_,hI,hf,fun _ _=>rfl⟩;unfold fF;simp only[q,Bool.false_eq_true,if_false]
theorem begin_arm {m1:bT}(o:s.aS=false)(haf:0<=s.after)(hc:fU s)(hI:dY s.room fs)(hf:flF fs)(hR:Rdn fs s.depth.toNat ep m1 j)(hb:0<=m1.2.2.2.2):
 (∃s' y,jM (s,fs,m)=((s',y),0)/\jM (aY s,fs,m)=((aY s',y),0)/\0<=s'.after/\fU s')\/
 (∃Kb,jM (s,fs,m)=((aAQ s,Kb,m),10)/\dY s.room Kb/\flF Kb/\aL Kb 1=aL fs 1/\aL Kb 2=aL fs 2/\(aL Kb (10+ep)=aL fs (10+ep)\/aL Kb (10+ep)=(aL fs (10+ep)).extract 0 (22*j))):=by
 obtain⟨m0,h1,h2⟩:=hR;have au:0<=ep/\ep<=999:=by rcases Ru h1 with⟨-,e⟩|⟨-,e,e'⟩<;>simp at e<;>omega
 have n2:(2:Int) ∉ iT fs ep:=fun h=>by
  have e0:=(Kg h).2.2 rfl
  have hz:(aL fs 2).size=0:=by
   rcases Ru h1 with⟨z,-⟩|⟨-,z,-⟩
   ·exact z
   ·simp only at z;omega
  unfold iT at h;obtain⟨f,hq,e⟩:=List.mem_map.1 (List.mem_filter.1 h).1;exact Hg hI hz f hq e
 have n1:(1:Int) ∉ iT fs ep:=fun h=>(Kg h).1 rfl
 have nj:(10+ep) ∉ iT fs ep:=fun h=>(Kg h).2.1 rfl
 obtain⟨s0,Tv⟩:∃s0:Sc,s0= { s with aS:=true }:=⟨_,rfl⟩;have Nq:fU s0:=by rw[Tv];exact { hc with }
 have ha0:0<=s0.after:=by rw[Tv];exact haf
 have Mr:s0.room=s.room:=by rw[Tv]
 have Wt:aAQ s0=aAQ s:=by rw[Tv];rfl
 have hk0:({ aY s with aS:=true }:Sc)=aY s0:=by rw[Tv];rfl
 have un:∀c:Sc,c.aS=false->c.depth=s.depth->jM (c,fs,m)=
  (if (fF { c with aS:=true } fs (iT fs ep)).1=false then (((fF { c with aS:=true } fs (iT fs ep)).2.1,(fF { c with aS:=true } fs (iT fs ep)).2.2,m),10)else
   if (bR (fF { c with aS:=true } fs (iT fs ep)).2.1 (fF { c with aS:=true } fs (iT fs ep)).2.2 (10+ep) ((22*j:Nat):Int)).1=false then (((bR (fF { c with aS:=true } fs (iT fs ep)).2.1 (fF { c with aS:=true } fs (iT fs ep)).2.2 (10+ep) ((22*j:Nat):Int)).2.1,(bR (fF { c with aS:=true } fs (iT fs ep)).2.1 (fF { c with aS:=true } fs (iT fs ep)).2.2 (10+ep) ((22*j:Nat):Int)).2.2,m),10)else
   let r3:=bR (bR (fF { c with aS:=true } fs (iT fs ep)).2.1 (fF { c with aS:=true } fs (iT fs ep)).2.2 (10+ep) ((22*j:Nat):Int)).2.1 (bR (fF { c with aS:=true } fs (iT fs ep)).2.1 (fF { c with aS:=true } fs (iT fs ep)).2.2 (10+ep) ((22*j:Nat):Int)).2.2 1 m1.2.2.2.2
   if r3.1=false then ((r3.2.1,r3.2.2,m),10)else (({ r3.2.1 with ro:=false,aV:=ep },r3.2.2,m1),0)):=fun c ho hd=>by
  unfold jM;simp only;rw[if_neg (by simp[ho]),hd,h1];simp only;rw[h2]
 rw[un s o rfl,un (aY s) o rfl,<-Tv,hk0];rcases cuts_arm (iT fs ep) ha0 Nq (by rw[Mr];exact hI) hf with⟨s1,f1,p1,p2,p3,p4,p5,p6,p7,p8,p9,pb⟩|⟨f1,p1,p2,p3,pb⟩
 ·rw[Mr]at p5 p8;rcases cutk_arm (s:=s1) (fs:=f1) p6 p7 (by rw[p5];exact p8) p9 (10+ep) (k:=((22*j:Nat):Int)) (by omega)with⟨s2,f2,q1,q2,q3,q4,q5,q6,q7,q8,q9,qb⟩|q
  ·rw[p5]at q5 q8;rcases cutk_arm (s:=s2) (fs:=f2) q6 q7 (by rw[q5];exact q8) q9 1 (k:=m1.2.2.2.2) hb with⟨s3,f3,r1,r2,r3,r4,r5,r6,r7,r8,r9,rb⟩|r
   ·refine Or.inl ⟨{ s3 with ro:=false,aV:=ep },(f3,m1),?_,?_,r6,⟨r7.ES,r7.Vt,r7.Db,r7.xD,r7.Vu,r7.oK,r7.oL,r7.Yu,r7.NW,r7.Fs,r7.Pj,r7.zM,r7.Cb,au.1,au.2⟩⟩
    ·simp only[p1,q1,r1,Bool.true_eq_false,if_false]
    ·rw[p3]at q2;rw[q3.trans p3]at r2;have e3:=r3.trans (q3.trans p3);simp only[p2,q2,r2,Bool.true_eq_false,if_false];rw[<-e3];rfl
   ·refine Or.inr ⟨f2,?_,q8,q9,?_,?_,Or.inr ?_⟩
    ·simp only[p1,q1,r,Bool.true_eq_false,if_false,if_true,q4,p4,Wt]
    ·rw[qb,if_neg (by omega),pb 1 n1]
    ·rw[qb,if_neg (by omega),pb 2 n2]
    ·rw[qb,if_pos rfl,pb _ nj,Int.toNat_natCast]
  ·refine Or.inr ⟨f1,?_,p8,p9,pb 1 n1,pb 2 n2,Or.inl (pb _ nj)⟩;simp only[p1,q,Bool.true_eq_false,if_false,if_true,p4,Wt]
 ·rw[Mr]at p2;refine Or.inr ⟨f1,?_,p2,p3,pb 1 n1,pb 2 n2,Or.inl (pb _ nj)⟩;simp only[p1,if_true,Wt]
theorem replay_stop {buf:Int}:∀(fuel:Nat) {m m':bT} {l:List UInt8} {j:Nat},lZ buf d fuel m l=(m',j)->22*j<=l.length/\∀f,j<f->lZ buf d f m (l.take (22*j))=(m',j)
 |0,m,m',l,j,h=>by
  rw[lZ]at h;cases h
  refine⟨by omega,fun f hf=>?_⟩;obtain⟨f,rfl⟩:∃k,f=k+1:=⟨f-1,by omega⟩;rw[lZ,Du (by simp)]
 |fuel+1,m,m',l,j,h=>by
  rw[lZ]at h;cases e:nI m l buf d with
  |none=>
   rw[e]at h;cases h
   refine⟨by omega,fun f hf=>?_⟩;obtain⟨f,rfl⟩:∃k,f=k+1:=⟨f-1,by omega⟩;rw[lZ,Du (by simp)]
  |some m2=>
   rw[e]at h;simp only at h;obtain⟨r1,r2⟩:∃a b,lZ buf d fuel m2 (l.drop 22)=(a,b):=⟨_,_,rfl⟩;obtain⟨b,hr⟩:=r2;rw[hr]at h;simp only[Prod.mk.injEq]at h;obtain⟨rfl,rfl⟩:=h;have h22:=(Qx e).1;obtain⟨k1,k2⟩:=replay_stop fuel hr;rw[List.length_drop]at k1;refine⟨by omega,fun f hf=>?_⟩;obtain⟨f,rfl⟩:∃k,f=k+1:=⟨f-1,by omega⟩
   have e2:nI m (l.take (22*(b+1))) buf d=M m2:=by
    rw[<-e];exact yj (by rw[List.take_take,Nat.min_eq_left (by omega)]) (by rw[List.length_take];omega) h22
   have e3:(l.take (22*(b+1))).drop 22=(l.drop 22).take (22*b):=by
    rw[List.drop_take,show 22*(b+1)-22=22*b by omega]
   rw[lZ,e2];simp only;rw[e3,k2 f (by omega)]
theorem rdn_half {Kb:List bF}(h:Rdn fs d ep m j)(b1:aL Kb 1=aL fs 1)(b2:aL Kb 2=aL fs 2)(bj:aL Kb (10+ep)=aL fs (10+ep)\/aL Kb (10+ep)=(aL fs (10+ep)).extract 0 (22*j)):Rdn Kb d ep m j:=by
 obtain⟨m0,h1,h2⟩:=h;refine⟨m0,by rw[b1,b2];exact h1,?_⟩;rw[b1];rcases bj with bj|bj
 ·rw[bj];exact h2
 ·obtain⟨k1,k2⟩:=replay_stop _ h2;rw[bj,iC,List.drop_zero,Nat.sub_zero];exact k2 _ (by rw[List.length_take,Nat.min_eq_left k1];omega)
theorem begin_same {s1:Sc}{Kb:List bF}{m' m1:bT}(o:s.aS=false)(am:s.eG=false)(hc:fU s)(hI:dY s.room fs)(hf:flF fs)(hR:Rdn fs s.depth.toNat ep m1 j)(hb:0<=m1.2.2.2.2)(o1:s1.aS=false)(am1:s1.eG=false)(Ig:fU s1)(hI1:dY s1.room Kb)(hf1:flF Kb)(hd:s1.depth=s.depth)
 (b1:aL Kb 1=aL fs 1)(b2:aL Kb 2=aL fs 2)(bj:aL Kb (10+ep)=aL fs (10+ep)\/aL Kb (10+ep)=(aL fs (10+ep)).extract 0 (22*j)):
 ∃aF,jM (s,fs,m)=(({ s with aS:=true,ro:=false,aV:=ep },aF,m1),0)/\jM (s1,Kb,m')=(({ s1 with aS:=true,ro:=false,aV:=ep },aF,m1),0)/\dY s.room aF/\Ho aF ep/\flF aF:=by
 obtain⟨aF,e,i,n,f,hbs⟩:=YX (m':=m) o am hc hI hR hb;have hR1:Rdn Kb s1.depth.toNat ep m1 j:=by rw[hd];exact rdn_half hR b1 b2 bj
 obtain⟨F1,e1,i1,n1,f1,hbs1⟩:=YX (m':=m') o1 am1 Ig hI1 hR1 hb
 have au:0<=ep:=by
  obtain⟨m0,h1,-⟩:=hR;rcases Ru h1 with⟨-,e⟩|⟨-,e,-⟩<;>simp at e<;>omega
 have hFF:aF=F1:=same_disk i.sort.1 i1.sort.1 i.sort.2 i1.sort.2 (f hf) (f1 hf1) (fun n=>by
  rw[hbs,hbs1,b1,b2];by_cases q1:n=1
  ·rw[if_pos q1,if_pos q1]
  ·rw[if_neg q1,if_neg q1];by_cases q2:n=10+ep
   ·rw[if_pos q2,if_pos q2];rcases bj with bj|bj
    ·rw[bj]
    ·rw[bj];refine pW ?_;rw[iC,iC,iC];simp only[List.drop_zero,Nat.sub_zero,List.take_take,Nat.min_self]
   ·rw[if_neg q2,if_neg q2])
 subst hFF;exact⟨aF,e,e1,i,n,f hf⟩
theorem laid_fl (L:List AF):flF (Sm L):=fun f hf=>by
 obtain⟨g,-,rfl⟩:=List.mem_map.1 hf;rfl
def aAV (L:List AF)(t:ByteArray):List AF:=L.map (fun f=>if f.1=2 then f else (f.1,f.2++t))
def aAW (L:List AF)(t:ByteArray):List AF:=aAV L t++ [(2000,⟨#[120]⟩),(3000,⟨#[121]⟩)]
theorem tail_used (t:ByteArray):∀L:List AF,bP (Sm (aAV L t))<=bP (Sm L)+(t.size:Int)*(L.length:Int)
 | []=>by simp[Sm,aAV,bP]
 |f::L=>by
  have ih:=tail_used t L
  have e:(((if f.1=2 then f else (f.1,f.2++t)):AF).2.size:Int)<=(f.2.size:Int)+(t.size:Int):=by
   split
   ·omega
   ·simp only;rw[dR];omega
  show(((if f.1=2 then f else (f.1,f.2++t)):AF).2.size:Int)+bP (Sm (aAV L t))<=((f.2.size:Int)+bP (Sm L))+_;rw[List.length_cons]
  have:(t.size:Int)*((L.length+1:Nat):Int)=(t.size:Int)*(L.length:Int)+(t.size:Int):=by
   rw[Int.natCast_add,Int.mul_add];simp
  omega
theorem aAX (t:ByteArray)(f:AF):((if f.1=2 then f else (f.1,f.2++t)):AF).1=f.1:=by split<;>rfl
theorem tail_size (t:ByteArray)(f:AF):f.2.size<=((if f.1=2 then f else (f.1,f.2++t)):AF).2.size:=by
 split
 ·exact Nat.le_refl _
 ·simp only;rw[dR];omega
theorem stp_load (h:Img L d g k)(hk:k<=400)(ht:t.size<=100):yF (iF 5000 (d:Int) 1000000,[],jF) (aAW L t)=((iF 5000 (d:Int) 1000000,Sm (aAW L t),jF),0):=by
 obtain⟨x,tt,hS,hd,rfl⟩:=h;have hI:=hS.snd.gs.bk.inv;have h4:=VQ hS.snd;have hu:=hS.snd.used;have au:=hS.snd.ep;have hnm:=hS.snd.QX
 have bV:∀f∈aAV (x.2.1.map (fun f=>(f.1,f.2.1))) t,0<=f.1/\f.1<2000/\f.2.size≠0:=fun f hf=>by
  obtain⟨q,hq,rfl⟩:=List.mem_map.1 hf;obtain⟨p,hp,rfl⟩:=List.mem_map.1 hq;have h0:=(hI.nn p hp).1;have hz:=hI.sort.2 p hp;have hs:=tail_size t (p.1,p.2.1);refine⟨?_,?_,fun e=>hz (by rw[e]at hs;exact Nat.le_zero.1 hs)⟩
  ·rw[aAX];exact h0
  ·rw[aAX];show p.1<2000;rcases hnm p hp with z|z|z<;>omega
 unfold yF;rw[if_neg (by simp[iF]),if_pos]
 ·rfl
 ·refine⟨?_,?_,fun f hf=>?_,?_⟩
  ·simp[aAW,aAV];omega
  ·unfold aAW;refine List.pairwise_append.2 ⟨?_,by simp,fun a ha b hb=>?_⟩
   ·unfold aAV;rw[List.pairwise_map,List.pairwise_map];refine hI.sort.1.imp (fun {a b} hab=>?_);rw[aAX,aAX];exact hab
   ·have:=(bV a ha).2.1;simp at hb;rcases hb with rfl|rfl
    ·simp only;omega
    ·simp only;omega
  ·rcases List.mem_append.1 hf with hf|hf
   ·exact⟨(bV f hf).1,(bV f hf).2.2⟩
   ·simp at hf;rcases hf with rfl|rfl
    ·exact⟨by decide,by decide⟩
    ·exact⟨by decide,by decide⟩
  ·show bP (Sm (aAW _ t))<=(1000000:Int);unfold aAW;have e:Sm (aAV (x.2.1.map (fun f=>(f.1,f.2.1))) t++ [(2000,⟨#[120]⟩),(3000,⟨#[121]⟩)])=Sm (aAV (x.2.1.map (fun f=>(f.1,f.2.1))) t)++Sm [(2000,⟨#[120]⟩),(3000,⟨#[121]⟩)]:=by simp[Sm]
   rw[e,rU];have u1:=tail_used t (x.2.1.map (fun f=>(f.1,f.2.1)))
   have u2:bP (Sm (x.2.1.map (fun f=>(f.1,f.2.1))))<=bP x.2.1:=by
    unfold Sm;rw[List.map_map];exact Vo (fun f _=>Nat.le_refl _)
   have u3:bP (Sm [((2000:Int),(⟨#[120]⟩:ByteArray)),(3000,⟨#[121]⟩)])=2:=by decide
   have u4:(t.size:Int)*((x.2.1.map (fun f=>(f.1,f.2.1))).length:Int)<=400:=by
    rw[List.length_map];have:t.size*x.2.1.length<=100*4:=Nat.mul_le_mul ht h4;omega
   omega
theorem stp_bk (h:Img L d g k)(hk:k<=400)(ht:t.size<=100)(hd:d<=50):BK (iF 5000 (d:Int) 1000000) (Sm (aAW L t)):=by
 have h0:=stp_load h hk ht;obtain⟨x,tt,hS,-,rfl⟩:=h;have hI:=hS.snd.gs.bk.inv
 have:=gs_load (x:=(iF 5000 (d:Int) 1000000,[],jF)) (D:=0) (l:=aAW (x.2.1.map (fun f=>(f.1,f.2.1))) t) (GS.shut ⟨rA hd false,Int.le_refl _,Bn,Nat.zero_le _⟩ rfl) (fun f hf=>by
  rcases List.mem_append.1 hf with hf|hf
  ·obtain⟨q,hq,rfl⟩:=List.mem_map.1 hf;obtain⟨p,hp,rfl⟩:=List.mem_map.1 hq;rw[aAX];exact(hI.nn p hp).2
  ·simp at hf;rcases hf with rfl|rfl
   ·decide
   ·decide)
 rw[h0]at this;exact this.bk
theorem tail_bytes (t:ByteArray)(r:List AF)(n:Int)(hr:aL (Sm r) n=⟨#[]⟩):∀L:List AF,∃T,aL (Sm (aAV L t++r)) n=aL (Sm L) n++T/\(n=2->T=⟨#[]⟩)/\(t.size=0->T=⟨#[]⟩)/\T.size<=t.size
 | []=>⟨⟨#[]⟩,by
  show aL (Sm r) n=_;rw[hr];rfl,fun _=>rfl,fun _=>rfl,Nat.zero_le _⟩
 |f::L=>by
  obtain⟨T,h1,h2,h3,h4⟩:=tail_bytes t r n hr L;have e:Sm (aAV (f::L) t++r)=((((if f.1=2 then f else (f.1,f.2++t)):AF).1,((if f.1=2 then f else (f.1,f.2++t)):AF).2,(((if f.1=2 then f else (f.1,f.2++t)):AF).2.size:Int)):bF)::Sm (aAV L t++r):=rfl;have e2:Sm (f::L)=((f.1,f.2,(f.2.size:Int)):bF)::Sm L:=rfl;by_cases hn:f.1=n
  ·have hb:aL (Sm (f::L)) n=f.2:=by rw[e2,cK,lY,if_pos hn];rfl
   have fP:aL (Sm (aAV (f::L) t++r)) n=((if f.1=2 then f else (f.1,f.2++t)):AF).2:=by rw[e,cK,lY,if_pos ((aAX t f).trans hn)];rfl
   rw[hb,fP];by_cases h2':f.1=2
   ·rw[if_pos h2'];exact⟨⟨#[]⟩,pW (by rw[eY];simp),fun _=>rfl,fun _=>rfl,Nat.zero_le _⟩
   ·rw[if_neg h2'];exact⟨t,rfl,fun z=>absurd (hn.trans z) h2',fun z=>VB z,Nat.le_refl _⟩
  ·have hb:aL (Sm (f::L)) n=aL (Sm L) n:=by rw[e2,cK,lY,if_neg hn,cK]
   have fP:aL (Sm (aAV (f::L) t++r)) n=aL (Sm (aAV L t++r)) n:=by rw[e,cK,lY,if_neg (fun q=>hn ((aAX t f).symm.trans q)),cK]
   rw[hb,fP];exact⟨T,h1,h2,h3,h4⟩
theorem stp_bytes (t:ByteArray)(hn:n<2000):∃T,aL (Sm (aAW (x.2.1.map (fun f=>(f.1,f.2.1))) t)) n=aL x.2.1 n++T/\(n=2->T=⟨#[]⟩)/\(t.size=0->T=⟨#[]⟩)/\T.size<=t.size:=by
 obtain⟨T,h1,h2⟩:=tail_bytes t [(2000,⟨#[120]⟩),(3000,⟨#[121]⟩)] n (Rw (fun f hf e=>by
  simp[Sm]at hf;rcases hf with rfl|rfl
  ·simp only at e;omega
  ·simp only at e;omega)) (x.2.1.map (fun f=>(f.1,f.2.1)))
 rw[Ei]at h1;exact⟨T,h1,h2⟩
theorem stp_rdn (h:Img L d g k)(hk:k<=400)(ht:t.size<=100):∃ep m j,Rdn (Sm (aAW L t)) d ep m j/\0<=m.2.2.2.2:=by
 obtain⟨x,tt,hS,hd,rfl⟩:=h;obtain⟨m0,rs,r1,-⟩:=hS.snd.rd;have hdd:x.1.depth.toNat=d:=aAf hd;rw[hdd]at r1;obtain⟨T1,e1,-,-,s1⟩:=stp_bytes (x:=x) (n:=1) t (by decide);obtain⟨T2,e2,z2,-,-⟩:=stp_bytes (x:=x) (n:=2) t (by decide);have bX:=hS.snd.b1;have hz:(aL (Sm (aAW (x.2.1.map (fun f=>(f.1,f.2.1))) t)) 1).size=(aL x.2.1 1).size+T1.size:=by rw[e1,dR]
 have e2':aL (Sm (aAW (x.2.1.map (fun f=>(f.1,f.2.1))) t)) 2=aL x.2.1 2:=by
  rw[e2,z2 rfl];exact pW (by rw[eY];simp)
 have hck:jE (aL (Sm (aAW (x.2.1.map (fun f=>(f.1,f.2.1))) t)) 2) ((aL (Sm (aAW (x.2.1.map (fun f=>(f.1,f.2.1))) t)) 1).size:Int) d=M (x.1.aV,m0):=by
  rw[e2'];exact xV r1 (by omega)
 obtain⟨-,hg,-,hbf,-,-⟩:=Rm (fs:=Sm (aAW (x.2.1.map (fun f=>(f.1,f.2.1))) t)) (depth:=d) (em:=(x.1.aV,m0)) (by rw[res_eq];exact hck) (by omega);refine⟨x.1.aV,_,_,⟨m0,hck,rfl⟩,?_⟩;have:=(JU (buf:=((aL (Sm (aAW (x.2.1.map (fun f=>(f.1,f.2.1))) t)) 1).size:Int)) (by omega) d ((aL (Sm (aAW (x.2.1.map (fun f=>(f.1,f.2.1))) t)) (10+x.1.aV)).data.toList.length / 22+1) m0 (aL (Sm (aAW (x.2.1.map (fun f=>(f.1,f.2.1))) t)) (10+x.1.aV)).data.toList hg hbf).1.zL;rw[yg]at this;exact this
end Go.Proofs.YtfplgfodoiiobaaGreatDoor
