/- RefO, PgS, KpC, QlB, JnC, QlX, KpP, KpS, KpT, KpU, KpV, KpW, KpX, KpY, KxZ0 (joined). -/
import Derived.ArgAppend
import Derived.BigQuiet
import Derived.ChangeKeysEq
import Derived.Deep.AppendLies
import Derived.Deep.CutBlock
import Derived.Deep.DeepCutAuto
import Derived.Deep.Draws
import Derived.Deep.LoopGhost
import Derived.Deep.MidRow
import Derived.Deep.QuietTactic
import Derived.Deep.RegionHeld3
import Derived.Deep.RegionLaw
import Derived.Deep.RegionLawGrows
import Derived.Deep.RegionWith
import Derived.LaidEql
import Derived.Laws.AppendOwnNone
import Derived.Laws.BitsAllLaws
import Derived.Laws.BitsLemmas
import Derived.Laws.BytesArg
import Derived.Laws.Closers25b
import Derived.Laws.EntriesVeiled
import Derived.Laws.OwnMore
import Derived.Lib.AppendZerosOnto
import Derived.Lib.ConvBytes
import Derived.Lib.ItoaLen
import Derived.Lib.SliceRun
import Derived.Shelf.Abstract
import Derived.Shelf.Spec.SlicesInsert
import Derived.Shelf.Strings.Builder1
import Derived.StillTailTactics
import Derived.Stop.Asserts
import Derived.Test.YtfplgfodoiiobaaGreatDoorJ47
import Derived.WalkKit
import Derived.WalkSmall
import Derived.WalkSpells
open Option renaming none→O,some→M
open Go.Value renaming int→I,pointer→U
open Go.IntKind renaming i64→V
open Go.Ending renaming returned→G
open Go renaming World→F,Value→Y,Calls→H
open Go.Proofs.Tryz renaming prog→K
namespace Go.Proofs.YtfplgfodoiiobaaGreatDoor
set_option maxHeartbeats 2000000
set_option maxRecDepth 100000
open Go.RowKit
variable {s s':Sc}{fs Kb:List bF}{k d sf db k' qp j:Nat}{g:Gm}{ep n b c room a pos kind buf:Int}{aA:List Gm}{m:bT}{x:St}{ck text:ByteArray}{B T:List UInt8}{rs:List (List UInt8)}{ms:Nat->bT}{ts:Nat->Tm}{gs:Nat->Gm}{t:Tm}{w:F}{fv:Y}
def armS (s:Sc)(a b c:Int):Sc×Int:=if a<0\/b<0\/c<0 then (s,1)else ({ s with eG:=true,after:=a,one:=b,rest:=c },0)
theorem disk_set6 (a:Int)(h:w.heap[db]?=M (iN s fv)):(w.setCell ⟨db,6,O⟩ (I V a)).heap[db]?=M (iN { s with one:=a } fv):=by rw[heap_setCell_same w db 6 _ _ _ h];rfl
theorem disk_set7 (a:Int)(h:w.heap[db]?=M (iN s fv)):(w.setCell ⟨db,7,O⟩ (I V a)).heap[db]?=M (iN { s with rest:=a } fv):=by rw[heap_setCell_same w db 7 _ _ _ h];rfl
theorem crash_disk {rs:List FR}(h:aP w db s fv rs):
 H K 42 #[U (M ⟨db,0,O⟩),I V a,I V b,I V c] w fun e w'=>e=G (.tuple #[])/\aP w' db { s with eG:=true,after:=a,one:=b,rest:=c } fv rs/\Og w w' db:=by
 obtain⟨c0,c1,c2,c3,c4,c5,c6,c7,cf⟩:=bW h.1;have f4:=cf 4;have f5:=cf 5;have f6:=cf 6;have f7:=cf 7;have HD:Hid (aP w db s fv rs):=h;clear h cf c0 c1 c2 c3;go_enter Tryz.func42,Tryz.ntmps42
 go_wp2_with fail
 go_end0;have h1:=HD.out.set (WN true HD.out.1);have h2:=h1.set (WO a h1.1);have h3:=h2.set (disk_set6 b h2.1);have h4:=h3.set (disk_set7 c h3.1);exact⟨rfl,h4,((((Og.refl w db).set).set).set).set⟩
theorem aAx {s:ByteArray}{oQ:Int}{depth:Nat}{x:Int×bT}(h:jE s buf depth=M x)(hb:x.2.2.2.2.2<=oQ)(h0:s.size≠0):jE s oQ depth=M x:=by
 unfold jE at h ⊢;rw[if_neg h0]at h ⊢;split at h
 ·cases h
 rename_i e2;rw[if_neg e2];simp only at h ⊢;split at h
 ·rename_i e3;obtain⟨a1,a2,a3,a4,a5,a6,a7,a8⟩:=e3;cases h
  rw[if_pos ⟨a1,a2,a3,a4,a5,a6,hb,a8⟩]
 ·cases h
theorem qcrash_no (h:a<0\/b<0\/c<0):H K 21 #[U (M ⟨qp,0,O⟩),I V a,I V b,I V c] w fun e w'=>e=G (I V 1)/\w'=w:=by
 by_cases ha:a<0
 ·clear h;go_enter Tryz.func21,Tryz.ntmps21
  go_wp2_with fail
  go_ret;exact⟨rfl,rfl⟩
 ·by_cases hb:b<0
  ·clear h;go_enter Tryz.func21,Tryz.ntmps21
   go_wp2_with fail
   go_ret;exact⟨rfl,rfl⟩
  ·have hc:c<0:=by omega
   clear h;go_enter Tryz.func21,Tryz.ntmps21
   go_wp2_with fail
   go_ret;exact⟨rfl,rfl⟩
theorem qcrash_yes {most depth:Int}{o:Option Nat}{rs:List FR}(h:w.heap[qp]?=M (uV most depth db o))(hD:aP w db s fv rs)(ha:0<=a)(hb:0<=b)(hc:0<=c):H K 21 #[U (M ⟨qp,0,O⟩),I V a,I V b,I V c] w fun e w'=>e=G (I V 0)/\aP w' db { s with eG:=true,after:=a,one:=b,rest:=c } fv rs/\Og w w' db:=by
 obtain⟨-,-,c2,-,-⟩:=dW h;have hC:=crash_disk (a:=a) (b:=b) (c:=c) hD;have hn:¬a<0:=by omega
 have oW:¬b<0:=by omega
 have Wz:¬c<0:=by omega
 clear h hD;go_enter Tryz.func21,Tryz.ntmps21
 go_wp2_with (go_at_call 42;refine hC.mono ?_;rintro e w1 ⟨rfl,h1,h2⟩)
 go_ret;exact⟨rfl,h1,h2⟩
theorem gs_arm {D:Int}(h:GS x D)(ha:a<=9223372036854775807)(hb:b<=9223372036854775807)(hc:c<=9223372036854775807):GS ((armS x.1 a b c).1,x.2) D:=by
 unfold armS;split
 ·exact h
 ·exact⟨⟨{ h.bk.bK with oL:=ha,Yu:=by simp only;omega,NW:=hb,Fs:=by simp only;omega,Pj:=hc },by simp only;omega,h.bk.inv,h.bk.len⟩,h.YQ,h.done,h.QX,h.buf,h.wU⟩
theorem xcrash {X:Nat->Prop}(h:pF w qp s fs m X):H K 21 #[U (M ⟨qp,0,O⟩),I V a,I V b,I V c] w fun e w'=>e=G (I V (armS s a b c).2)/\vV w w' qp X ((armS s a b c).1,fs,m):=by
 unfold armS;by_cases ha:a<0\/b<0\/c<0
 ·rw[if_pos ha];refine(qcrash_no ha).mono ?_;rintro e w' ⟨rfl,rfl⟩;exact⟨rfl,vV.at h⟩
 ·rw[if_neg ha];obtain⟨db,fv,rs,o,h1,-,h3⟩:=h.disk;refine(qcrash_yes h3 h1 (by omega) (by omega) (by omega)).mono ?_;rintro e w' ⟨rfl,hd,iV⟩;refine⟨rfl,h.num1 h3 h1 ⟨rfl,rfl,gU.refl s⟩ (fun dN _ dH Tn=>?_) iV⟩;have hb:=hd.1;have e:dN=fv:=by have:=Tn.1.symm.trans h1.1;unfold iN at this;simp at this;exact this
  subst e;exact Tn.keep hb iV.1 (fun b _ hne=>hne)
theorem aAp {r:List UInt8}:∀ {l:List (List UInt8)} {m x:bT},zW buf d m (l++ [r])=M x->∃y,zW buf d m l=M y/\nI y r buf d=M x
 | [],m,x,h=>by
  obtain⟨m1,e,h⟩:=Oa h;cases h
  exact⟨m,rfl,e⟩
 |q::l,m,x,h=>by
  obtain⟨m1,e,h⟩:=Oa h;obtain⟨y,h1,h2⟩:=aAp h;exact⟨y,by rw[zX e];exact h1,h2⟩
theorem aAn {oQ:Int}:∀(rs:List (List UInt8)) (m m':bT) (n fuel:Nat),(∀r∈rs,r.length=22)->zW buf d m rs=M m'->n<=22*rs.length->n / 22<fuel->
 ∃j mj,22*j<=n/\zW oQ d m (rs.take j)=M mj/\lZ oQ d fuel m (rs.flatten.take n)=(mj,j)/\∀i mi,22*i<=n->zW oQ d m (rs.take i)=M mi->i<=j
 |rs,m,m',n,0,_,_,_,hf=>by omega
 | [],m,m',n,fuel+1,_,_,hn,_=>by
  refine⟨0,m,by omega,rfl,?_,fun i mi hi _=>by simp at hn;omega⟩;rw[lZ,Du (by simp)]
 |r::rs,m,m',n,fuel+1,h,hr,hn,hf=>by
  obtain⟨m1,e1,hr⟩:=Oa hr;have hl:=h r (by simp);rw[List.length_cons]at hn;by_cases h22:n<22
  ·refine⟨0,m,by omega,rfl,?_,fun i mi hi _=>by omega⟩;rw[lZ,Du (by rw[List.length_take];omega)]
  ·have et:(r::rs).flatten.take n=r++rs.flatten.take (n-22):=by
    rw[List.flatten_cons,List.take_append,hl,List.take_of_length_le (by omega)]
   have ed:(r++rs.flatten.take (n-22)).drop 22=rs.flatten.take (n-22):=List.drop_left' hl;have eq:nI m (r++rs.flatten.take (n-22)) oQ d=nI m r oQ d:=yj (by rw[List.take_left' hl,List.take_of_length_le (by omega)]) (by rw[List.length_append];omega) (by omega);rw[et,lZ,eq,ed];cases e2:nI m r oQ d with
   |none=>
    refine⟨0,m,by omega,rfl,rfl,fun i mi hi hm=>?_⟩;cases i with
    |zero=>omega
    |succ i=>
     rw[List.take_succ_cons]at hm;obtain⟨m2,e3,-⟩:=Oa hm;rw[e3]at e2;cases e2
   |some m2=>
    have:=YE e1 e2;subst this;obtain⟨j,mj,j1,j2,j3,j4⟩:=aAn rs m2 m' (n-22) fuel (fun q hq=>h q (by simp[hq])) hr (by omega) (by omega);refine⟨j+1,mj,by omega,by rw[List.take_succ_cons,zX e2];exact j2,?_,fun i mi hi hm=>?_⟩
    ·simp only;rw[j3]
    ·cases i with
     |zero=>omega
     |succ i=>
      rw[List.take_succ_cons,zX e2]at hm;have:=j4 i mi (by omega) hm;omega
theorem aAy:∀(rs:List (List UInt8)) (j:Nat),(∀r∈rs,r.length=22)->rs.flatten.take (22*j)=(rs.take j).flatten
 | [],j,_=>by simp
 |r::rs,0,_=>by simp
 |r::rs,j+1,h=>by
  have hr:=h r (by simp);simp only[List.flatten_cons,List.take_succ_cons];rw[List.take_append,hr,show 22*(j+1)-22=22*j by omega,aAy rs j (fun q hq=>h q (by simp[hq])),List.take_of_length_le (by omega)]
theorem aAz (rs:List (List UInt8))(hj:j<rs.length):rs.take (j+1)=rs.take j++ [rs.getD j []]:=by
 rw[List.take_succ_eq_append_getElem hj];simp[List.getD,hj]
theorem Uy.fit (h:Uy d ep ck B rs ms ts gs k):∀ {j:Nat},j<=rs.length->(ms j).2.2.2.2<=b->zW b d (ms 0) (rs.take j)=M (ms j)
 |0,_,_=>by simp[zW]
 |j+1,hj,hb=>by
  obtain⟨a,-,-,c⟩:=ok_next (h.bK j (by omega)) (h.stp j (by omega));rw[aAz rs (by omega)];exact JF (h.fit (by omega) (by omega)) (c b hb)
theorem Uy.run (h:Uy d ep ck B rs ms ts gs k)(hj:j<=rs.length):zW (B.length:Int) d (ms 0) (rs.take j)=M (ms j):=h.fit hj (by have:=(h.le hj (Nat.le_refl _)).1;rw[h.top]at this;exact this)
theorem Uy.cut (h:Uy d ep ck B rs ms ts gs k)(hj:j<=rs.length):Uy d ep ck (B.take (ms j).2.2.2.2.toNat) (rs.take j) ms ts gs k:=by
 have kT:=(h.bK j hj).zL;have hbj:=(h.le hj (Nat.le_refl _)).1;rw[h.top]at hbj;have hlB:((B.take (ms j).2.2.2.2.toNat).length:Int)=(ms j).2.2.2.2:=by rw[List.length_take];omega
 have hlr:(rs.take j).length=j:=by rw[List.length_take];omega
 have hm:=h.le (Nat.zero_le j) hj;refine⟨?_,fun r hr=>h.r22 r (List.mem_of_mem_take hr),fun i hi=>?_,fun i hi=>h.bK i (by omega),fun i hi=>h.yV i (by omega),fun i hi=>h.cnt i (by omega),fun i hi=>?_,by rw[hlr,hlB],by have:=h.bB;rw[List.length_take];omega,h.bck,h.bep,?_,by have:=h.brs;omega⟩
 ·rw[hlB];by_cases h0:ck.size=0
  ·have:=h.chk;rw[QI _ _ h0]at this ⊢;exact this
  ·exact aAx h.chk hm.1 h0
 ·rw[hlB]
  have hg:(rs.take j).getD i []=rs.getD i []:=by
   rw[hlr]at hi;simp[List.getD,hi]
  rw[hg];rw[hlr]at hi;exact(ok_next (h.bK i (by omega)) (h.stp i (by omega))).2.2.2 _ (h.le (by omega) hj).1
 ·rw[hlr]at hi;rw[<-h.tell i (by omega)];obtain⟨i1,i2,i3⟩:=C_ (h.bK i (by omega)) (h.yV i (by omega));have hmi:=(h.le hi hj).1;have hX:B=B.take (ms j).2.2.2.2.toNat++B.drop (ms j).2.2.2.2.toNat:=(List.take_append_drop _ _).symm;have:=Xv (B:=B.take (ms j).2.2.2.2.toNat) (X:=B.drop (ms j).2.2.2.2.toNat) i1 i2 i3 (by omega);rw[<-hX]at this;exact this.symm
 ·rw[hlr];have:=(h.le hj (Nat.le_refl _)).2;have:=h.bdn;omega
theorem Uy.at (h:Uy d ep ck B rs ms ts gs k)(h0:(ms 0).2.2.2.2<=b):∀ {j:Nat} {x:bT},j<=rs.length->zW b d (ms 0) (rs.take j)=M x->x=ms j/\(ms j).2.2.2.2<=b
 |0,x,_,hr=>by
  simp[zW]at hr;exact⟨hr.symm,h0⟩
 |j+1,x,hj,hr=>by
  rw[aAz rs (by omega)]at hr;obtain⟨y,hy,hx⟩:=aAp hr;obtain⟨rfl,hb⟩:=h.at h0 (by omega) hy;have e:=YE (h.stp j (by omega)) hx;subst e;exact⟨rfl,(ok_next (h.bK j (by omega)) hx).2.2.1 hb⟩
theorem aAf (h:s.depth=(d:Int)):s.depth.toNat=d:=by omega
def aAQ (s:Sc):Sc:= { s with eG:=false,aS:=false,after:=0 }
theorem step_die (fs:List bF)(ha:s.eG=true)(h0:s.after=0):dF s fs=(false,aAQ s,Cx (fs.map (jV s.one s.rest))):=by
 unfold dF;rw[if_neg (by simp[ha]),if_neg (by omega)]
 have:({ s with eG:=false,aS:=false }:Sc)=aAQ s:=by
  obtain⟨a1,a2,a3,a4,a5,a6,a7,a8,a9,a10,a11,a12⟩:=s;simp only at h0;subst h0;rfl
 rw[<-this]
theorem step_next (fs:List bF)(ha:s.eG=true)(h0:0<s.after):dF s fs=(true,{ s with after:=s.after-1 },fs):=by
 unfold dF;rw[if_neg (by simp[ha]),if_pos h0]
theorem add_next {b:ByteArray}(ha:s.eG=true)(h0:0<s.after)(hr:s.refusing=false)(hI:dY s.room fs)(hb:b.size≠0)(hu:bP fs+(b.size:Int)<=s.room):dJ s fs n b=(0,{ s with after:=s.after-1 },iR fs (lX fs n b)):=by
 unfold dJ;rw[if_neg (by simp[hr]),if_neg (by omega)];simp only;rw[show(if s.refusing=true then { s with left:=s.left-1 } else s)=s from if_neg (by simp[hr]),step_next fs ha h0];simp only[if_true];rw[tX hI.sort (by rw[(gI fs n b).2,dR];omega) (hI.no (by omega))]
theorem add_die {b:ByteArray}(ha:s.eG=true)(h0:s.after=0)(hr:s.refusing=false)(hu:bP fs+(b.size:Int)<=s.room):dJ s fs n b=(10,aAQ s,Cx (fs.map (jV s.one s.rest))):=by
 unfold dJ;rw[if_neg (by simp[hr]),if_neg (by omega)];simp only;rw[show(if s.refusing=true then { s with left:=s.left-1 } else s)=s from if_neg (by simp[hr]),step_die fs ha h0];simp
theorem flush_die (ha:s.eG=true)(h0:s.after=0)(hf:∃f,eO fs n=M f):bQ s fs n=(false,aAQ s,Cx (fs.map (jV s.one s.rest))):=by
 unfold bQ;cases hp:vP fs n with
 |none=>
  obtain⟨f,hf⟩:=hf;rw[(jg fs n).1 hp]at hf;cases hf
 |some i=>
  simp only;rw[step_die fs ha h0];simp
theorem flush_skip (hf:eO fs n=O):bQ s fs n=(true,s,fs):=by
 unfold bQ;rw[(jg fs n).2 hf]
def aAO (fs:List bF)(n:Int):Int:=((eO fs n).map (fun f=>f.2.2)).getD 0
theorem crash_file {one rest:Int}(hI:dY room fs)(h1:0<=one)(h2:0<=rest)(n:Int):∃k:Nat,aAO fs n<=(k:Int)/\k<=(aL fs n).size/\aL (Cx (fs.map (jV one rest))) n=(aL fs n).extract 0 k:=by
 rw[Vp hI]
 have key:∀(l:List bF),l.Pairwise (fun a b=>a.1<b.1)->(∀f∈l,okF f)->∃k:Nat,aAO l n<=(k:Int)/\k<=(aL l n).size/\aL ((l.map (jV one rest)).filter (fun f=>f.2.1.size !=0)) n=(aL l n).extract 0 k:=by
  intro l
  induction l with
  |nil=>intro _ _;exact⟨0,by simp[aAO,eO],Nat.zero_le _,rfl⟩
  |cons f l ih=>
   intro hs ho;rw[List.pairwise_cons]at hs;have hof:=ho f (by simp);obtain⟨kb1,kb2⟩:=kept_bd h1 h2 hof
   have hcs:(jV one rest f).2.1.size=(wC one rest f).toNat:=by
    show(f.2.1.extract 0 (wC one rest f).toNat).size=_;rw[ByteArray.size_extract];omega
   by_cases hn:f.1=n
   ·have hm:aAO (f::l) n=f.2.2:=by unfold aAO;rw[lY,if_pos hn];rfl
    have hb:aL (f::l) n=f.2.1:=by rw[cK,lY,if_pos hn];rfl
    have hk:f.2.2<=wC one rest f:=by
     have:=hof.2.1;unfold wC;split<;>split<;>omega
    refine⟨(wC one rest f).toNat,by rw[hm];omega,by rw[hb];omega,?_⟩;rw[hb,List.map_cons];by_cases hz:(wC one rest f).toNat=0
    ·rw[List.filter_cons_of_neg (by rw[hcs,hz];decide),Rw (fun g hg q=>?_),hz]
     ·exact(VB (by rw[ByteArray.size_extract];omega)).symm
     ·obtain⟨q',hq',rfl⟩:=List.mem_map.1 (List.mem_filter.1 hg).1;have:=hs.1 q' hq';have e:(jV one rest q').1=q'.1:=rfl;omega
    ·rw[List.filter_cons_of_pos (by rw[hcs];simpa using hz),cK,lY,if_pos (show(jV one rest f).1=n from hn)];rfl
   ·have hm:aAO (f::l) n=aAO l n:=by unfold aAO;rw[lY,if_neg hn]
    have hb:aL (f::l) n=aL l n:=by rw[cK,lY,if_neg hn,cK]
    obtain⟨k,a,b,c⟩:=ih hs.2 (fun g hg=>ho g (by simp[hg]));refine⟨k,by rw[hm];exact a,by rw[hb];exact b,?_⟩;rw[hb,<-c,List.map_cons,List.filter_cons];split
    ·rw[cK,lY,if_neg (show ¬(jV one rest f).1=n from hn),cK]
    ·rfl
 exact key fs hI.sort.1 hI.ok
theorem crash_fl {one rest:Int}(hI:dY room fs)(h1:0<=one)(h2:0<=rest):flF (Cx (fs.map (jV one rest))):=by
 rw[Vp hI];intro f hf;obtain⟨q,hq,rfl⟩:=List.mem_map.1 (List.mem_filter.1 hf).1;obtain⟨kb1,kb2⟩:=kept_bd h1 h2 (hI.ok q hq);show wC one rest q=(((q.2.1.extract 0 (wC one rest q).toNat).size:Nat):Int);rw[ByteArray.size_extract];omega
theorem mark_app (hI:dY room fs)(b:ByteArray)(j:Int):aAO (iR fs (lX fs 1 b)) j=aAO fs j:=by
 unfold aAO;rw[jh hI.sort,(gI fs 1 b).1];by_cases hj:(1:Int)=j
 ·rw[if_pos hj,<-hj];unfold lX;cases eO fs 1 with
  |none=>rfl
  |some f=>rfl
 ·rw[if_neg hj]
theorem act_two (ho:x.1.aS=true)(hr:x.1.ro=false)(hc:(kK x kind pos n text).2=0):eZ x kind pos n text=
 let q:=if kind=73 then dJ x.1 x.2.1 1 text else (0,x.1,x.2.1)
 if q.1≠0 then ((q.2.1,q.2.2,x.2.2),q.1)else
 let q2:=dJ q.2.1 q.2.2 (10+q.2.1.aV) (fO kind (kK x kind pos n text).1.2.2.2.1 (qH kind pos) (pG x.2.1 kind n) (lC kind text))
 ((q2.2.1,q2.2.2,if q2.1=0 then (kK x kind pos n text).1 else x.2.2),q2.1):=by
 have Nq:(gK x.2.2 kind (qH kind pos) (pG x.2.1 kind n) (lC kind text) x.1.most x.1.depth.toNat).2=0:=hc;unfold eZ;rw[if_neg (by simp[ho]),if_neg (by simp[hr])];unfold qH pG lC at Nq;simp only;rw[if_neg (by rw[Nq];simp)];rfl
theorem act_arm (h:En (aY s,fs,m) t k)(hk:k<=400)(haf:0<=s.after):
 (∃s',eZ (s,fs,m) kind pos n text=((s',(eZ (aY s,fs,m) kind pos n text).1.2),(eZ (aY s,fs,m) kind pos n text).2)/\Lk s (eZ (aY s,fs,m) kind pos n text).1.1 s' 2)\/
 (s.eG=true/\∃Kb,dY s.room Kb/\Ho Kb s.aV/\(∃T:ByteArray,∀j,aL Kb j=if j=1 then aL fs 1++T else aL fs j)/\(∀j,aAO Kb j=aAO fs j)/\eZ (s,fs,m) kind pos n text=((aAQ s,Cx (Kb.map (jV s.one s.rest)),m),10)):=by
 by_cases hb:Xx s 2
 ·exact Or.inl (qJ hb kind pos n text)
 have ha:s.eG=true:=by
  by_cases q:s.eG=true
  ·exact q
  ·exact absurd (fun q'=>absurd q' q) hb
 have h2:s.after<2:=by
  by_cases q:s.after<2
  ·exact q
  ·exact absurd (fun _=>by omega) hb
 have ho:s.aS=true:=h.op;have hr:s.ro=false:=h.ro;have OG:s.refusing=false:=h.ref;have nZ:s.room=1000000:=h.room;have hI:dY s.room fs:=h.gs.bk.inv;have Wz:Ho fs s.aV:=h.QX;have hu:=h.used;simp only at hu
 have nil1:∀j,aL fs j=if j=1 then aL fs 1++⟨#[]⟩else aL fs j:=fun j=>by
  by_cases hj:j=1
  ·rw[if_pos hj,hj];exact pW (by rw[eY];simp)
  ·rw[if_neg hj]
 by_cases hc:(kK (aY s,fs,m) kind pos n text).2=0
 ·obtain⟨bN,-,-,-,-,-,-,-,-,u4⟩:=Hr h hk hc;have hcr:(kK (s,fs,m) kind pos n text).2=0:=hc;have e1:=act_two (x:=(s,fs,m)) ho hr hcr;have e2:=act_two (x:=(aY s,fs,m)) ho hr hc;have rJ:(kK (s,fs,m) kind pos n text).1=(kK (aY s,fs,m) kind pos n text).1:=rfl;rw[rJ]at e1;generalize Mj:fO kind (kK (aY s,fs,m) kind pos n text).1.2.2.2.1 (qH kind pos) (pG fs kind n) (lC kind text)=R at e1 e2;have hR:R.size=22:=by rw[<-Mj];exact(B_ _ _ _ _ _).1
  simp only at e1 e2;by_cases hk73:kind=73
  ·have ht:text.size≠0/\text.size<=200:=by
    have:=u4 hk73;unfold lC at this;rw[if_pos hk73]at this;omega
   simp only[if_pos hk73]at e1;by_cases h0:s.after=0
   ·rw[add_die ha h0 OG (by omega)]at e1;simp only at e1;rw[if_pos (by decide)]at e1;exact Or.inr ⟨ha,fs,hI,Wz,⟨_,nil1⟩,fun _=>rfl,e1⟩
   ·have hu1:bP fs+(text.size:Int)<=s.room:=by omega
    rw[add_next ha (by omega) OG hI ht.1 hu1]at e1;simp only at e1;rw[if_neg (by decide)]at e1;have i1:=(hI.app (n:=1) (by omega) (by omega) ht.1 hu1).1
    have hus:bP (iR fs (lX fs 1 text))+(R.size:Int)<=s.room:=by
     rw[EM hI.sort,(gI fs 1 text).1,(gI fs 1 text).2,dR];omega
    rw[add_die (s:= { s with after:=s.after-1 }) ha (by simp only;omega) OG hus]at e1;simp only at e1;rw[if_neg (by decide)]at e1;refine Or.inr ⟨ha,iR fs (lX fs 1 text),i1,fun f hf=>?_,⟨text,fun j=>?_⟩,fun j=>mark_app hI text j,e1⟩
    ·rcases rV hf with rfl|hf
     ·exact Or.inl (gI fs 1 text).1
     ·exact Wz f hf
    ·rw[jR hI.sort,(gI fs 1 text).1];by_cases hj:j=1
     ·rw[if_pos hj.symm,if_pos hj,(gI fs 1 text).2]
     ·rw[if_neg (fun q=>hj q.symm),if_neg hj]
  ·simp only[if_neg hk73]at e1 e2;rw[if_neg (by decide)]at e1 e2;by_cases h0:s.after=0
   ·rw[add_die ha h0 OG (by omega)]at e1;simp only at e1;rw[if_neg (by decide)]at e1;exact Or.inr ⟨ha,fs,hI,Wz,⟨_,nil1⟩,fun _=>rfl,e1⟩
   ·rw[add_next ha (by omega) OG hI (by omega) (by omega)]at e1;rw[Rq (s:=aY s) rfl OG hI (by omega) (by show _<=s.room;omega)]at e2;refine Or.inl ⟨{ s with after:=s.after-1 },?_,?_⟩
    ·rw[e1,e2];rfl
    ·rw[e2];exact⟨rfl,rfl,by simp only;omega,by simp only;omega,fun q=>by rw[ha]at q;cases q⟩
 ·have e1:=vO (x:=(s,fs,m)) (kind:=kind) (pos:=pos) (n:=n) (text:=text) ho hr hc;have e2:=vO (x:=(aY s,fs,m)) (kind:=kind) (pos:=pos) (n:=n) (text:=text) ho hr hc;refine Or.inl ⟨s,?_,?_⟩
  ·rw[e1,e2];rfl
  ·rw[e2];exact(Lk.rfl s).le (by omega)
theorem die_calm (s:Sc):aAQ s= { aY s with aS:=false }:=rfl
theorem die_lk (h:Lk s (aY s) s' n):aAQ s'=aAQ s/\s'.one=s.one/\s'.rest=s.rest/\s'.aV=s.aV/\s'.room=s.room/\s'.refusing=s.refusing:=by
 have e:=h.calm;refine⟨by rw[die_calm,die_calm,e],?_,?_,?_,?_,?_⟩
 ·show(aY s').one=_;rw[e];rfl
 ·show(aY s').rest=_;rw[e];rfl
 ·show(aY s').aV=_;rw[e];rfl
 ·show(aY s').room=_;rw[e];rfl
 ·show(aY s').refusing=_;rw[e];rfl
theorem bud_or (haf:0<=s.after):Xx s 1\/(s.eG=true/\s.after=0):=by
 by_cases hb:Xx s 1
 ·exact Or.inl hb
 ·refine Or.inr ⟨?_,?_⟩
  ·by_cases q:s.eG=true
   ·exact q
   ·exact absurd (fun q'=>absurd q' q) hb
  ·by_cases q:s.after=0
   ·exact q
   ·exact absurd (fun _=>by omega) hb
def aAP (s:Sc)(Kb:List bF):List bF:=Cx (Kb.map (jV s.one s.rest))
theorem flush_arm (haf:0<=s.after)(n:Int):(∃s',bQ s fs n=(true,s',(bQ (aY s) fs n).2.2)/\Lk s (aY s) s' 1/\0<=s'.after)\/(s.eG=true/\bQ s fs n=(false,aAQ s,aAP s fs)):=by
 have calm1:(bQ (aY s) fs n).1=true/\(bQ (aY s) fs n).2.1=aY s:=by
  unfold bQ;cases vP fs n with
  |none=>exact⟨rfl,rfl⟩
  |some i=>simp only;rw[Bh];exact⟨rfl,rfl⟩
 rcases bud_or haf with hb|⟨ha,h0⟩
 ·obtain⟨s',e,hl⟩:=Bj (fs:=fs) hb n;rw[calm1.1]at e;rw[calm1.2]at hl;exact Or.inl ⟨s',e,hl,KJ hl hb haf⟩
 ·cases hf:eO fs n with
  |none=>
   refine Or.inl ⟨s,?_,(Lk.rfl s).le (by omega),haf⟩;rw[flush_skip hf,flush_skip hf]
  |some f=>exact Or.inr ⟨ha,flush_die ha h0 ⟨f,hf⟩⟩
theorem cut_arm (haf:0<=s.after)(n k:Int):(∃s',bR s fs n k=(true,s',(bR (aY s) fs n k).2.2)/\Lk s (aY s) s' 1/\0<=s'.after)\/(s.eG=true/\k<((aL fs n).size:Int)/\bR s fs n k=(false,aAQ s,aAP s fs)):=by
 have calm1:(bR (aY s) fs n k).1=true/\(bR (aY s) fs n k).2.1=aY s:=by
  unfold bR;split
  ·exact⟨rfl,rfl⟩
  ·simp only;rw[Bh];exact⟨rfl,rfl⟩
 rcases bud_or haf with hb|⟨ha,h0⟩
 ·obtain⟨s',e,hl⟩:=Oh (fs:=fs) hb n k;rw[calm1.1]at e;rw[calm1.2]at hl;exact Or.inl ⟨s',e,hl,KJ hl hb haf⟩
 ·by_cases hk:((aL fs n).size:Int)<=k
  ·refine Or.inl ⟨s,?_,(Lk.rfl s).le (by omega),haf⟩;unfold bR;rw[if_pos hk,if_pos hk]
  ·refine Or.inr ⟨ha,by omega,?_⟩;unfold bR;rw[if_neg hk,step_die fs ha h0];simp[aAP]
theorem move_arm (haf:0<=s.after)(n k:Int):(∃s',jP s fs n k=(true,s',(jP (aY s) fs n k).2.2)/\Lk s (aY s) s' 1/\0<=s'.after)\/(s.eG=true/\jP s fs n k=(false,aAQ s,aAP s fs)):=by
 have calm1:(jP (aY s) fs n k).1=true/\(jP (aY s) fs n k).2.1=aY s:=by
  unfold jP;cases eO fs n with
  |none=>exact⟨rfl,rfl⟩
  |some i=>simp only;rw[Bh];exact⟨rfl,rfl⟩
 rcases bud_or haf with hb|⟨ha,h0⟩
 ·obtain⟨s',e,hl⟩:=F_ (fs:=fs) hb n k;rw[calm1.1]at e;rw[calm1.2]at hl;exact Or.inl ⟨s',e,hl,KJ hl hb haf⟩
 ·cases hf:eO fs n with
  |none=>
   refine Or.inl ⟨s,?_,(Lk.rfl s).le (by omega),haf⟩;unfold jP;rw[hf]
  |some f=>
   refine Or.inr ⟨ha,?_⟩;unfold jP;rw[hf];simp only;rw[step_die fs ha h0];simp[aAP]
theorem add_arm (haf:0<=s.after)(hr:s.refusing=false)(hI:dY s.room fs)(n:Int){b:ByteArray}(kT:b.size≠0)(hu:bP fs+(b.size:Int)<=s.room):(∃s',dJ s fs n b=(0,s',iR fs (lX fs n b))/\Lk s (aY s) s' 1/\0<=s'.after)\/(s.eG=true/\dJ s fs n b=(10,aAQ s,aAP s fs)):=by
 have ec:=Rq (s:=aY s) (n:=n) (b:=b) rfl hr hI kT hu;rcases bud_or haf with hb|⟨ha,h0⟩
 ·obtain⟨s',e,hl⟩:=BH (fs:=fs) hb n b;rw[ec]at e hl;exact Or.inl ⟨s',e,hl,KJ hl hb haf⟩
 ·exact Or.inr ⟨ha,add_die ha h0 hr hu⟩
theorem sync_arm (h:En (aY s,fs,m) t k)(haf:0<=s.after):
 (∃s',iG (s,fs,m)=((s',(iG (aY s,fs,m)).1.2),(iG (aY s,fs,m)).2)/\Lk s (iG (aY s,fs,m)).1.1 s' 2)\/
 (s.eG=true/\∃Kb,(Kb=fs\/Kb=(bQ (aY s) fs 1).2.2)/\iG (s,fs,m)=((aAQ s,aAP s Kb,m),10)):=by
 have ho:s.aS=true:=h.op;have hr:s.ro=false:=h.ro;obtain⟨f1,e1,i1,-,-⟩:=qG h.arm h.gs.bk.bK h.gs.bk.inv 1;obtain⟨f2,e2,-,-,-⟩:=qG h.arm h.gs.bk.bK i1 (10+s.aV);simp only at e1 e2
 have ec:iG (aY s,fs,m)=((aY s,f2,m),0):=by
  unfold iG;simp only;rw[if_neg (by simp[show(aY s).aS=true from ho]),if_neg (by simp[show(aY s).ro=false from hr]),e1];simp only[Bool.true_eq_false,if_false];rw[show(aY s).aV=s.aV from rfl,e2];simp
 rw[ec];unfold iG;simp only;rw[if_neg (by simp[ho]),if_neg (by simp[hr])];rcases flush_arm (fs:=fs) haf 1 with⟨s1,q1,l1,a1⟩|⟨ha,q1⟩
 ·rw[q1,e1];simp only[Bool.true_eq_false,if_false];obtain⟨d1,d2,d3,d4,d5,d6⟩:=die_lk l1;rw[d4];rcases flush_arm (s:=s1) (fs:=f1) a1 (10+s.aV)with⟨s2,q2,l2,a2⟩|⟨ha,q2⟩
  ·rw[q2,l1.calm,e2];rw[l1.calm]at l2;exact Or.inl ⟨s2,by simp,l1.trans l2⟩
  ·rw[q2];refine Or.inr ⟨by rw[<-l1.arm];exact ha,f1,Or.inr rfl,?_⟩;unfold aAP;rw[d1,d2,d3];simp
 ·rw[q1];exact Or.inr ⟨ha,fs,Or.inl rfl,by simp⟩
theorem aAT (hI:dY s.room fs)(n:Int):(∀j,aL (bQ (aY s) fs n).2.2 j=aL fs j)/\aAO (bQ (aY s) fs n).2.2 n=((aL fs n).size:Int)/\(∀j,j≠n->aAO (bQ (aY s) fs n).2.2 j=aAO fs j)/\dY s.room (bQ (aY s) fs n).2.2:=by
 unfold bQ;cases hp:vP fs n with
 |none=>
  have hf:=(jg fs n).1 hp;refine⟨fun _=>rfl,?_,fun _ _=>rfl,hI⟩;simp only;unfold aAO;rw[cK,hf];rfl
 |some i=>
  simp only;rw[Bh];simp only[if_true];rw[set_put hI.sort hp];obtain⟨f,h1,h2,-⟩:=Fg hp
  have hf:∃f,eO fs n=M f:=by
   cases hq:eO fs n with
   |none=>rw[(jg fs n).2 hq]at hp;cases hp
   |some f=>exact⟨f,rfl⟩
  obtain⟨f,hf⟩:=hf;have hbf:aL fs n=f.2.1:=by rw[cK,hf];rfl
  refine⟨fun j=>?_,?_,fun j hj=>?_,?_⟩
  ·rw[jR hI.sort];simp only;by_cases hj:n=j
   ·rw[if_pos hj,hj]
   ·rw[if_neg hj]
  ·unfold aAO;rw[jh hI.sort,if_pos rfl];rfl
  ·unfold aAO;rw[jh hI.sort,if_neg (fun q=>hj q.symm)]
  ·rw[hbf];exact hI.flush hf
theorem ok_mark (hI:dY room fs)(n:Int):0<=aAO fs n/\aAO fs n<=((aL fs n).size:Int):=by
 unfold aAO;rw[cK];cases hf:eO fs n with
 |none=>exact⟨Int.le_refl _,Int.le_refl _⟩
 |some f=>
  have:=hI.ok f (mQ hf).1;exact⟨this.1,this.2.1⟩
theorem flush_c (s:Sc)(fs:List bF)(n:Int):bQ (aY s) fs n=(true,aY s,(bQ (aY s) fs n).2.2):=by
 unfold bQ;cases vP fs n with
 |none=>rfl
 |some i=>simp only;rw[Bh];rfl
theorem cut_c (s:Sc)(fs:List bF)(n k:Int):bR (aY s) fs n k=(true,aY s,(bR (aY s) fs n k).2.2):=by
 unfold bR;split
 ·rfl
 ·simp only;rw[Bh];rfl
theorem move_c (s:Sc)(fs:List bF)(n k:Int):jP (aY s) fs n k=(true,aY s,(jP (aY s) fs n k).2.2):=by
 unfold jP;cases eO fs n with
 |none=>rfl
 |some f=>simp only;rw[Bh];rfl
theorem aAR {B:ByteArray}{n:Nat}{bN:List bF}(h:Jz ep B s fs k=(0,s',bN)):nA ep B (n+1) k s fs=nA ep B n (k+1) s' bN:=by
 rw[nA,h];rfl
theorem ckp_no {B:ByteArray}{n:Nat}{bN:List bF}(h:Jz ep B s fs k=(10,s',bN)):nA ep B (n+1) k s fs=(10,s',bN):=by
 rw[nA,h];rfl
def CkHalf (fs Kb:List bF)(ck:ByteArray):Prop:=(∀j,j≠3->aL Kb j=aL fs j/\aAO fs j<=aAO Kb j)\/(aL Kb 1=aL fs 1/\aAO Kb 1=((aL fs 1).size:Int)/\aL Kb 2=ck/\aAO Kb 2=(ck.size:Int)/\∀j,j≠1->j≠2->j≠3->aL Kb j=aL fs j)
theorem ckp_arm {B:ByteArray}(haf:0<=s.after)(hr:s.refusing=false)(hI:dY s.room fs)(hrm:s.room<=1000000)(h3:eO fs 3=O)(hB:B.size≠0)(hu:bP (bQ (aY s) fs 1).2.2+(B.size:Int)<=s.room):
 (∃s',nA ep B 5 0 s fs=((nA ep B 5 0 (aY s) fs).1,s',(nA ep B 5 0 (aY s) fs).2.2)/\Lk s (nA ep B 5 0 (aY s) fs).2.1 s' 5)\/(s.eG=true/\∃Kb,nA ep B 5 0 s fs=(10,aAQ s,aAP s Kb)/\dY s.room Kb/\CkHalf fs Kb B):=by
 obtain⟨f1,hf1⟩:∃f1,f1=(bQ (aY s) fs 1).2.2:=⟨_,rfl⟩;obtain⟨b1,m1,n1,i1⟩:=aAT hI 1;rw[<-hf1]at b1 m1 n1 i1;have old0:CkHalf fs fs B:=Or.inl (fun j _=>⟨rfl,Int.le_refl _⟩)
 have mk1:∀j,aAO fs j<=aAO f1 j:=fun j=>by
  by_cases hj:j=1
  ·rw[hj,m1];exact(ok_mark hI 1).2
  ·rw[n1 j hj];exact Int.le_refl _
 have old1:CkHalf fs f1 B:=Or.inl (fun j _=>⟨b1 j,mk1 j⟩);rw[<-hf1]at hu;obtain⟨f2,MN⟩:∃f2,f2=iR f1 (lX f1 3 B):=⟨_,rfl⟩;have i2:dY s.room f2:=by rw[MN];exact(i1.app (n:=3) (by omega) (by omega) hB hu).1
 have b2:∀j,j≠3->aL f2 j=aL fs j:=fun j hj=>by rw[MN,jR i1.sort,(gI f1 3 B).1,if_neg (fun q=>hj q.symm),b1]
 have b23:aL f2 3=B:=by
  have z:aL f1 3=⟨#[]⟩:=by rw[b1,cK,h3];rfl
  rw[MN,jR i1.sort,(gI f1 3 B).1,if_pos rfl,(gI f1 3 B).2,z];exact pW (by rw[eY];rfl)
 have n2:∀j,j≠3->aAO f2 j=aAO f1 j:=fun j hj=>by
  unfold aAO;rw[MN,jh i1.sort,(gI f1 3 B).1,if_neg (fun q=>hj q.symm)]
 have old2:CkHalf fs f2 B:=Or.inl (fun j hj=>⟨b2 j hj,by rw[n2 j hj];exact mk1 j⟩);obtain⟨f3,hf3⟩:∃f3,f3=(bQ (aY s) f2 3).2.2:=⟨_,rfl⟩;obtain⟨b3,m3,n3,i3⟩:=aAT i2 3;rw[<-hf3]at b3 m3 n3 i3;have old3:CkHalf fs f3 B:=Or.inl (fun j hj=>⟨by rw[b3,b2 j hj],by rw[n3 j hj,n2 j hj];exact mk1 j⟩)
 obtain⟨f,hff,hfb,hfm⟩:∃f,eO f3 3=M f/\f.2.1=B/\f.2.2=(B.size:Int):=by
  have q1:aL f3 3=B:=by rw[b3,b23]
  have q2:=m3;rw[b23]at q2;unfold aAO at q2;rw[cK]at q1;cases hq:eO f3 3 with
  |none=>rw[hq]at q1;exact absurd (congrArg ByteArray.size q1) (by simp only[Option.map_none,Option.getD_none];exact fun e=>hB e.symm)
  |some f=>rw[hq]at q1 q2;exact⟨f,rfl,q1,q2⟩
 obtain⟨f4,hf4⟩:∃f4,f4=(jP (aY s) f3 3 2).2.2:=⟨_,rfl⟩;have hf4':f4=iR (gP f3 3) (2,f.2.1,f.2.2):=by rw[hf4,YT (s:=aY s) rfl hff]
 have sd:=Iq i3.sort 3
 have new4:CkHalf fs f4 B:=by
  refine Or.inr ⟨?_,?_,?_,?_,fun j h1 h2 h3=>?_⟩
  ·rw[hf4',jR sd,if_neg (by show ¬(2:Int)=1;decide),wV,if_neg (by decide),b3,b2 1 (by decide)]
  ·unfold aAO;rw[hf4',jh sd,if_neg (by show ¬(2:Int)=1;decide),ji,if_neg (by decide)];have q:aAO f3 1=_:=(n3 1 (by decide)).trans ((n2 1 (by decide)).trans m1);exact q
  ·rw[hf4',jR sd,if_pos rfl,hfb]
  ·unfold aAO;rw[hf4',jh sd,if_pos rfl];exact hfm
  ·rw[hf4',jR sd,if_neg (fun q=>h2 q.symm),wV,if_neg h3,b3,b2 j h3]
 have i4:dY s.room f4:=by
  rw[hf4'];have kR:=i3.ok f (mQ hff).1;have q1:=zH i3.sort 3;have q2:((aL f3 3).size:Int)=(B.size:Int):=by rw[b3,b23]
  have q3:=i3.used;refine(i3.del 3).put (f:=(2,f.2.1,f.2.2)) (by simp only;rw[hfb];exact hB) kR ⟨by simp only;omega,by simp only;omega⟩ ?_;simp only;rw[hfb,q1,q2];omega
 have e1:bQ (aY s) fs 1=(true,aY s,f1):=by rw[hf1];exact flush_c s fs 1
 have e2:dJ (aY s) f1 3 B=(0,aY s,f2):=by rw[MN];exact Rq (s:=aY s) rfl hr i1 hB hu
 have e3:bQ (aY s) f2 3=(true,aY s,f3):=by rw[hf3];exact flush_c s f2 3
 have e4:jP (aY s) f3 3 2=(true,aY s,f4):=by rw[hf4];exact move_c s f3 3 2
 have e5:=cut_c s f4 (10+ep) 0
 have hcalm:nA ep B 5 0 (aY s) fs=(0,aY s,(bR (aY s) f4 (10+ep) 0).2.2):=by
  rw[aAR (s':=aY s) (bN:=f1) (by show Dv _=_;rw[e1];rfl),aAR (s':=aY s) (bN:=f2) (show Jz ep B (aY s) f1 1=(0,aY s,f2) from e2),aAR (s':=aY s) (bN:=f3) (by show Dv _=_;rw[e3];rfl),aAR (s':=aY s) (bN:=f4) (by show Dv _=_;rw[e4];rfl),aAR (s':=aY s) (bN:=(bR (aY s) f4 (10+ep) 0).2.2) (by show Dv _=_;rw[e5];rfl)];rfl
 rw[hcalm]
 have dl:∀ {s':Sc} {n:Int} (l:Lk s (aY s) s' n) (Kb:List bF),aAQ s'=aAQ s/\aAP s' Kb=aAP s Kb/\(s'.eG=true->s.eG=true):=fun {s' n} l Kb=>by
  obtain⟨d1,d2,d3,-⟩:=die_lk l;exact⟨d1,by unfold aAP;rw[d2,d3],fun q=>by rw[<-l.arm];exact q⟩
 rcases flush_arm (fs:=fs) haf 1 with⟨s1,q1,l1,a1⟩|⟨ha,q1⟩
 rotate_left
 ·exact Or.inr ⟨ha,fs,ckp_no (by show Dv _=_;rw[q1];rfl),hI,old0⟩
 rw[<-hf1]at q1;rw[aAR (s':=s1) (bN:=f1) (by show Dv _=_;rw[q1];rfl)];obtain⟨r1,r2,r3⟩:=(⟨(die_lk l1).2.2.2.2.1,(die_lk l1).2.2.2.2.2.trans hr,l1.calm⟩:s1.room=s.room/\s1.refusing=false/\aY s1=aY s);rcases add_arm (s:=s1) (fs:=f1) a1 r2 (by rw[r1];exact i1) 3 hB (by rw[r1];exact hu)with⟨s2,q2,l2,a2⟩|⟨ha,q2⟩
 rotate_left
 ·obtain⟨d1,d2,d3⟩:=dl l1 f1;exact Or.inr ⟨d3 ha,f1,by rw[ckp_no (s':=aAQ s1) (bN:=aAP s1 f1) (show Jz ep B s1 f1 1=_ from q2),d1,d2],i1,old1⟩
 rw[<-MN]at q2;rw[aAR (s':=s2) (bN:=f2) (show Jz ep B s1 f1 1=(0,s2,f2) from q2)];have l12:=l1.trans (by rw[r3]at l2;exact l2);rcases flush_arm (s:=s2) (fs:=f2) a2 3 with⟨s3,q3,l3,a3⟩|⟨ha,q3⟩
 rotate_left
 ·obtain⟨d1,d2,d3⟩:=dl l12 f2;exact Or.inr ⟨d3 ha,f2,by rw[ckp_no (s':=aAQ s2) (bN:=aAP s2 f2) (by show Dv _=_;rw[q3];rfl),d1,d2],i2,old2⟩
 rw[l12.calm,<-hf3]at q3;rw[aAR (s':=s3) (bN:=f3) (by show Dv _=_;rw[q3];rfl)];have l13:=l12.trans (by rw[l12.calm]at l3;exact l3);rcases move_arm (s:=s3) (fs:=f3) a3 3 2 with⟨s4,q4,l4,a4⟩|⟨ha,q4⟩
 rotate_left
 ·obtain⟨d1,d2,d3⟩:=dl l13 f3;exact Or.inr ⟨d3 ha,f3,by rw[ckp_no (s':=aAQ s3) (bN:=aAP s3 f3) (by show Dv _=_;rw[q4];rfl),d1,d2],i3,old3⟩
 rw[l13.calm,<-hf4]at q4;rw[aAR (s':=s4) (bN:=f4) (by show Dv _=_;rw[q4];rfl)];have l14:=l13.trans (by rw[l13.calm]at l4;exact l4);rcases cut_arm (s:=s4) (fs:=f4) a4 (10+ep) 0 with⟨s5,q5,l5,a5⟩|⟨ha,-,q5⟩
 rotate_left
 ·obtain⟨d1,d2,d3⟩:=dl l14 f4;exact Or.inr ⟨d3 ha,f4,by rw[ckp_no (s':=aAQ s4) (bN:=aAP s4 f4) (by show Dv _=_;rw[q5];rfl),d1,d2],i4,new4⟩
 rw[l14.calm]at q5 l5;refine Or.inl ⟨s5,?_,(l14.trans l5).le (by omega)⟩;rw[aAR (s':=s5) (bN:=(bR (aY s) f4 (10+ep) 0).2.2) (by show Dv _=_;rw[q5];rfl)];rfl
theorem ckpt_arm (h:En (aY s,fs,m) t k)(hk:k<=122)(haf:0<=s.after):
 (∃s',gG (s,fs,m)=((s',(gG (aY s,fs,m)).1.2),(gG (aY s,fs,m)).2)/\Lk s (gG (aY s,fs,m)).1.1 s' 5)\/
 (s.eG=true/\∃Kb,gG (s,fs,m)=((aAQ s,aAP s Kb,m),10)/\dY s.room Kb/\CkHalf fs Kb ⟨(xU (s.aV+1) m).toArray⟩):=by
 have ho:s.aS=true:=h.op;have hr:s.ro=false:=h.ro;have OG:s.refusing=false:=h.ref;have nZ:s.room=1000000:=h.room;have hI:dY s.room fs:=h.gs.bk.inv;have au:s.aV<=(k:Int):=h.ep;have vL:0<=s.aV:=h.gs.bk.bK.nK;have hnm:Ho fs s.aV:=h.QX;have DL:=h.gs.bk.bK.xD;have hu:=h.used;simp only at hu;obtain⟨X,hX,hcx⟩:=h.cnt;have hlen:=yx (s.aV+1) h.bK h.yV hcx (by omega) (by omega);obtain⟨l1,l2⟩:=AO (s.aV+1) m;obtain⟨B,hB⟩:∃B:ByteArray,B=⟨(xU (s.aV+1) m).toArray⟩:=⟨_,rfl⟩;have hBs:B.size=(xU (s.aV+1) m).length:=by rw[hB];simp[ByteArray.size]
 obtain⟨f1,e1,i1,-,m1⟩:=qG h.arm h.gs.bk.bK h.gs.bk.inv 1;simp only at e1 i1 m1;have u1:=A_ i1.sort (Xr m1 hnm) vL;have u0:=A_ hI.sort hnm vL;rw[uR m1,uR m1,uR m1]at u1
 have hu1:bP (bQ (aY s) fs 1).2.2+(B.size:Int)<=s.room:=by
  rw[e1];simp only;simp only at hlen;omega
 rw[<-hB];have key:=ckp_arm (ep:=s.aV) (B:=B) haf OG hI (by omega) (sV (fun g hg q=>by rcases hnm g hg with z|z|z<;>omega)) (by omega) hu1
 have un:∀c:Sc,c.aS=true->c.ro=false->c.aV=s.aV->gG (c,fs,m)=((if (nA s.aV B 5 0 c fs).1=0 then { (nA s.aV B 5 0 c fs).2.1 with aV:=s.aV+1 } else (nA s.aV B 5 0 c fs).2.1,(nA s.aV B 5 0 c fs).2.2,m),(nA s.aV B 5 0 c fs).1):=fun c h1 h2 h3=>by
  unfold gG;simp only;rw[if_neg (by simp[h1]),if_neg (by simp[h2]),h3,if_neg (by omega),<-hB]
 rw[un s ho hr rfl,un (aY s) ho hr rfl];rcases key with⟨s',e,hl⟩|⟨ha,Kb,e,i,c⟩
 ·rw[e];generalize nA s.aV B 5 0 (aY s) fs=q at*;obtain⟨q1,q2,q3⟩:=q;simp only at hl ⊢;have hc:q2=aY s':=hl.calm.symm;subst hc;by_cases hq:q1=0
  ·simp only[if_pos hq];exact Or.inl ⟨_,rfl,rfl,hl.arm,hl.lo,hl.hi,hl.un⟩
  ·simp only[if_neg hq];exact Or.inl ⟨_,rfl,hl⟩
 ·rw[e];exact Or.inr ⟨ha,Kb,by simp,i,c⟩
theorem flat_get:∀(rs:List (List UInt8)) (j:Nat),(∀r∈rs,r.length=22)->j<rs.length->(rs.flatten.drop (22*j)).take 22=rs.getD j []
 | [],j,_,hj=>by simp at hj
 |r::rs,0,h,_=>by
  have hr:=h r (by simp);simp only[Nat.mul_zero,List.drop_zero,List.flatten_cons];rw[List.take_left' hr];rfl
 |r::rs,j+1,h,hj=>by
  have hr:=h r (by simp)
  have e:(r::rs).flatten.drop (22*(j+1))=rs.flatten.drop (22*j):=by
   rw[List.flatten_cons,List.drop_append,List.drop_of_length_le (by omega),List.nil_append,hr];congr 1
  rw[e,flat_get rs j (fun q hq=>h q (by simp[hq])) (by simpa using hj)];simp[List.getD]
theorem his_same {Xg:Int}{B':List UInt8}{dH:List (List UInt8)}{ms':Nat->bT}{ts':Nat->Tm}{gs':Nat->Gm}(h:Uy d ep ck B rs ms ts gs k)(h':Uy d Xg ck B' dH ms' ts' gs' k')(hB:B.length<=B'.length)(hf:dH.flatten=rs.flatten++T):rs.length<=dH.length/\∀j,j<=rs.length->ms' j=ms j:=by
 have l1:=Gw h.r22;have l2:=Gw h'.r22
 have hl:rs.length<=dH.length:=by
  rw[hf,List.length_append]at l2;omega
 refine⟨hl,fun j=>?_⟩
 induction j with
 |zero=>
  intro _;have:=xV h.chk (oQ:=(B'.length:Int)) (by omega);rw[h'.chk]at this;simp at this;exact this.2
 |succ j ih=>
  intro hj;have e1:=ih (by omega)
  have e2:dH.getD j []=rs.getD j []:=by
   rw[<-flat_get rs j h.r22 (by omega),<-flat_get dH j h'.r22 (by omega),hf,List.drop_append,List.take_append,List.length_drop,l1,show 22-(22*rs.length-22*j)=0 by omega];simp
  have r1:=h.stp j (by omega);have r2:=h'.stp j (by omega);rw[e1,e2]at r2;exact YE r1 r2
theorem his_open2 (h:Uy d ep ck B rs ms ts gs k){m':bT}{b n:Nat}(o:s.aS=false)(am:s.eG=false)(hc:fU s)(ha:0<=s.after)(rf:s.refusing=false)(mo:s.most=5000)(rm:s.room=1000000)(de:s.depth=(d:Int))(hI:dY s.room fs)
 (h1:(aL fs 1).data.toList=(B++T).take b)(hb:b<=(B++T).length)(h2:aL fs 2=ck)(hj:(aL fs (10+ep)).data.toList=rs.flatten.take n)(hn:n<=22*rs.length)(h0:(ms 0).2.2.2.2<=(b:Int)):
 ∃j bN,j<=rs.length/\22*j<=n/\(∀i,i<=rs.length->22*i<=n->(ms i).2.2.2.2<=(b:Int)->i<=j)/\jM (s,fs,m')=(({ s with aS:=true,ro:=false,aV:=ep },bN,ms j),0)/\nG ({ s with aS:=true,ro:=false,aV:=ep },bN,ms j) (gs j) k (ts j)/\(aL bN 1).data.toList=B.take (ms j).2.2.2.2.toNat/\aL bN 2=ck/\(aL bN (10+ep)).data.toList=(rs.take j).flatten/\(flF fs->flF bN):=by
 have hlb:((aL fs 1).size:Int)=(b:Int):=by
  rw[<-Dy,h1,List.length_take];omega
 have hlj:(aL fs (10+ep)).data.toList.length=n:=by
  rw[hj,List.length_take,Gw h.r22];omega
 obtain⟨j,mj,j1,j2,j3,j4⟩:=aAn (buf:=(B.length:Int)) (oQ:=(b:Int)) rs (ms 0) (ms rs.length) n (n / 22+1) h.r22 (by have:=h.run (Nat.le_refl rs.length);rw[List.take_length]at this;exact this) hn (by omega);have hjr:j<=rs.length:=by omega
 obtain⟨rfl,hbj⟩:=h.at h0 hjr j2;have hg:=h.bK j hjr
 have hchk:jE (aL fs 2) ((aL fs 1).size:Int) d=M (ep,ms 0):=by
  rw[hlb,h2];by_cases hz:ck.size=0
  ·have:=h.chk;rw[QI _ _ hz]at this ⊢;exact this
  ·exact aAx h.chk h0 hz
 have au:0<=ep/\ep<=999:=by rcases Ru hchk with⟨-,e⟩|⟨-,e,e'⟩<;>simp at e<;>omega
 have hR:Rdn fs s.depth.toNat ep (ms j) j:=⟨ms 0,by rw[aAf de];exact hchk,by rw[aAf de,hlj,hlb,hj];exact j3⟩;obtain⟨bN,e,i,n3,fl,hbs⟩:=YX (m':=m') o am hc hI hR hg.zL;have hbj2:=(h.le hjr (Nat.le_refl _)).1;rw[h.top]at hbj2
 have c1:(aL bN 1).data.toList=B.take (ms j).2.2.2.2.toNat:=by
  rw[hbs,if_pos rfl,iC,List.drop_zero,Nat.sub_zero,h1,List.take_take,show min (ms j).2.2.2.2.toNat b=(ms j).2.2.2.2.toNat by omega,List.take_append,show(ms j).2.2.2.2.toNat-B.length=0 by omega];simp
 have c2:aL bN 2=ck:=by rw[hbs,if_neg (by omega),if_neg (by omega),if_pos rfl,h2]
 have cj:(aL bN (10+ep)).data.toList=(rs.take j).flatten:=by
  rw[hbs,if_neg (by omega),if_pos rfl,iC,List.drop_zero,Nat.sub_zero,hj,List.take_take,<-aAy rs j h.r22];congr 1;omega
 have hcut:=h.cut hjr
 have hl1:((aL bN 1).size:Int)=(ms j).2.2.2.2:=by
  have:=hg.zL;rw[<-Dy,c1,List.length_take];omega
 have hls:(B.take (ms j).2.2.2.2.toNat).length=(aL bN 1).size:=by rw[<-c1,Dy]
 have hlr:(rs.take j).length=j:=by rw[List.length_take];omega
 have hf4:BB bN ep:=fun f hf=>by
  rcases n3 f hf with q|q|q
  ·exact Or.inl q
  ·exact Or.inr (Or.inl q)
  ·exact Or.inr (Or.inr (Or.inr q))
 have ZX:=hcut.bdn;rw[hlr]at ZX;have hlenf:=YR i.sort.1 hf4;refine⟨j,bN,hjr,j1,fun i hi hi2 hbi=>j4 i (ms i) hi2 (h.fit hi hbi),e,⟨⟨⟨⟨⟨hc.ES,hc.Vt,hc.Db,hc.xD,hc.Vu,hc.oK,hc.oL,hc.Yu,hc.NW,hc.Fs,hc.Pj,hc.zM,hc.Cb,au.1,au.2⟩,ha,i,by simp only;omega⟩,fun _=>by simp only;rw[aAf de];exact hg,fun _=>ZX,fun _=>hf4,fun _=>by simp only;omega,fun _ _=>by simp only;omega⟩,rfl,rfl,am,rf,mo,rm,h.yV j hjr,h.cnt j hjr,⟨ms 0,rs.take j,?_,cj,hcut.r22,?_⟩,n3,?_,by simp only;rw[c2];exact h.bck,?_,h.bep⟩,?_⟩,c1,c2,cj,fl⟩
 ·simp only;rw[c2,<-hls,aAf de];exact hcut.chk
 ·simp only;rw[hl1,aAf de];exact h.fit hjr (Int.le_refl _)
 ·have:=hcut.bB;simp only;omega
 ·simp only;rw[<-Dy,cj,Gw hcut.r22,hlr];have:=h.brs;omega
 ·simp only;rw[c1];have:=hcut.tell j (by omega);exact this
theorem fl_mark (h:flF fs)(n:Int):aAO fs n=((aL fs n).size:Int):=by
 unfold aAO;rw[cK];cases hf:eO fs n with
 |none=>rfl
 |some f=>exact h f (mQ hf).1
def Cst (x:St)(aA:List Gm)(g:Gm)(k sf:Nat):Prop:=∃t rs ms ts gs,nG x g k t/\Uy x.1.depth.toNat x.1.aV (aL x.2.1 2) (aL x.2.1 1).data.toList rs ms ts gs k/\(aL x.2.1 (10+x.1.aV)).data.toList=rs.flatten/\ms rs.length=x.2.2/\rs.length<=aA.length/\(∀j,j<=rs.length->(aA++ [g])[aA.length-rs.length+j]?=M (gs j))/\(aA.length:Int)=g.2.2.2/\
 ∃j0,j0<=rs.length/\sf=aA.length-rs.length+j0/\(ms j0).2.2.2.2<=aAO x.2.1 1/\((22*j0:Nat):Int)<=aAO x.2.1 (10+x.1.aV)/\((aL x.2.1 2).size:Int)<=aAO x.2.1 2
theorem Cst.rX (h:Cst x aA g k sf):Yg x aA g k:=by
 obtain⟨t,rs,ms,ts,gs,h1,h2,h3,h4,h5,h6,h7,-⟩:=h;exact⟨t,rs,ms,ts,gs,h1,h2,h3,h4,h5,h6,h7⟩
theorem Cst.le (h:Cst x aA g k sf):sf<=aA.length:=by
 obtain⟨t,rs,ms,ts,gs,h1,h2,h3,h4,h5,h6,h7,j0,a,b,-⟩:=h;omega
theorem Cst.more (h:Cst x aA g k sf)(hk:k<=k'):Cst x aA g k' sf:=by
 obtain⟨t,rs,ms,ts,gs,h1,h2,h3⟩:=h;exact⟨t,rs,ms,ts,gs,uT h1 hk,h2.more hk,h3⟩
theorem cst_full (h:Yg x aA g k)(m1:((aL x.2.1 1).size:Int)<=aAO x.2.1 1)(m2:((aL x.2.1 2).size:Int)<=aAO x.2.1 2)(mj:((aL x.2.1 (10+x.1.aV)).size:Int)<=aAO x.2.1 (10+x.1.aV)):Cst x aA g k aA.length:=by
 obtain⟨t,rs,ms,ts,gs,h1,h2,h3,h4,h5,h6,h7⟩:=h;refine⟨t,rs,ms,ts,gs,h1,h2,h3,h4,h5,h6,h7,rs.length,Nat.le_refl _,by omega,?_,?_,m2⟩
 ·rw[h2.top,Dy];exact m1
 ·rw[<-Gw h2.r22,<-h3,Dy];exact mj
theorem cst_next {x':St}{H':List Gm}{g':Gm}(h:Cst x aA g k sf)(h':Yg x' H' g' k')(hd:x'.1.depth=x.1.depth)(he:x'.1.aV=x.1.aV){aAN:List UInt8}(b1:(aL x'.2.1 1).data.toList=(aL x.2.1 1).data.toList++T)(b2:aL x'.2.1 2=aL x.2.1 2)(bj:(aL x'.2.1 (10+x.1.aV)).data.toList=(aL x.2.1 (10+x.1.aV)).data.toList++aAN)(hn:22*H'.length=22*aA.length+aAN.length)(hm:∀j,aAO x.2.1 j<=aAO x'.2.1 j):Cst x' H' g' k' sf:=by
 obtain⟨t,rs,ms,ts,gs,h1,h2,h3,h4,h5,h6,h7,j0,a1,a2,a3,a4,a5⟩:=h;obtain⟨t',dH,ms',ts',gs',p1,p2,p3,p4,p5,p6,p7⟩:=h';rw[hd,he,b2]at p2;rw[he,bj,h3]at p3;obtain⟨hl,hs⟩:=his_same h2 p2 (by rw[b1,List.length_append];omega) p3.symm;have l1:=Gw h2.r22;have l2:=Gw p2.r22;rw[<-p3,List.length_append]at l2;refine⟨t',dH,ms',ts',gs',p1,by rw[hd,he,b2];exact p2,by rw[he,bj,h3];exact p3,p4,p5,p6,p7,j0,by omega,by omega,?_,?_,?_⟩
 ·rw[hs j0 a1];exact Int.le_trans a3 (hm 1)
 ·rw[he];exact Int.le_trans a4 (hm _)
 ·rw[b2];exact Int.le_trans a5 (hm 2)
def Die (s:Sc)(fs:List bF)(m:bT)(aA:List Gm)(g:Gm)(k sf:Nat)(d:Nat):Prop:=∃j gj z,sf<=j/\j<=aA.length/\(aA++ [g])[j]?=M gj/\jM (s,fs,m)=(z,0)/\Cst z (aA.take j) gj k j/\z.1.depth=(d:Int)/\aY z.1=z.1
theorem crash_his (h:Uy d ep ck B rs ms ts gs k)(h5:rs.length<=aA.length)(h6:∀j,j<=rs.length->(aA++ [g])[aA.length-rs.length+j]?=M (gs j))(h7:(aA.length:Int)=g.2.2.2)
 (hc:fU s)(rf:s.refusing=false)(mo:s.most=5000)(rm:s.room=1000000)(de:s.depth=(d:Int))(hI:dY s.room Kb)(b1:(aL Kb 1).data.toList=B++T)(b2:aL Kb 2=ck)(bj:(aL Kb (10+ep)).data.toList=rs.flatten){j0:Nat}(hj0:j0<=rs.length)(k1:(ms j0).2.2.2.2<=aAO Kb 1)(kj:((22*j0:Nat):Int)<=aAO Kb (10+ep))(k2:(ck.size:Int)<=aAO Kb 2)(m':bT):Die (aAQ s) (aAP s Kb) m' aA g k (aA.length-rs.length+j0) d:=by
 obtain⟨b,p1,p2,p3⟩:=crash_file hI hc.Yu hc.Fs 1;obtain⟨n,q1,q2,q3⟩:=crash_file hI hc.Yu hc.Fs (10+ep);obtain⟨c,r1,r2,r3⟩:=crash_file hI hc.Yu hc.Fs 2;have hI':=hI.crash hc.Yu hc.Fs;have Yx:=crash_fl hI hc.Yu hc.Fs;have yC:=Dy (aL Kb 1);have hsj:=Dy (aL Kb (10+ep));rw[b1]at yC;rw[bj,Gw h.r22]at hsj;have h0:=(h.le (Nat.zero_le j0) hj0).1;rw[b2]at r2
 obtain⟨j,bN,j1,j2,j3,e,hS,c1,c2,cj,fl⟩:=his_open2 (T:=T) (b:=b) (n:=n) (m':=m') (s:=aAQ s) (fs:=aAP s Kb) h rfl rfl ⟨hc.ES,hc.Vt,hc.Db,hc.xD,hc.Vu,hc.oK,by show(0:Int)<=_;decide,hc.Yu,hc.NW,hc.Fs,hc.Pj,hc.zM,hc.Cb,hc.nK,hc.zN⟩ (Int.le_refl _) rf mo rm de hI'
  (by unfold aAP;rw[p3,iC,List.drop_zero,Nat.sub_zero,b1]) (by omega) (by unfold aAP;rw[r3,b2];exact VD _ (by omega)) (by unfold aAP;rw[q3,iC,List.drop_zero,Nat.sub_zero,bj]) (by omega) (by omega)
 have hj0j:=j3 j0 hj0 (by omega) (by omega);have hfl':=fl Yx;have hcut:=h.cut j1;have hlr:(rs.take j).length=j:=by rw[List.length_take];omega
 have hlH:(aA.take (aA.length-rs.length+j)).length=aA.length-rs.length+j:=by rw[List.length_take];omega
 have rJ:∀i,i<=rs.length->(gs i).2.2.2=(ms i).2.2.2.1:=fun i hi=>by
  rw[<-h.tell i hi];exact(h.yV i hi).done
 have Cv:gs rs.length=g:=by
  have:=h6 rs.length (Nat.le_refl _);rw[show aA.length-rs.length+rs.length=aA.length by omega]at this;simp at this;exact this.symm
 have hdd:=(h.le j1 (Nat.le_refl _)).2;have DL:=rJ j j1;have hd2:=rJ rs.length (Nat.le_refl _);rw[Cv]at hd2;refine⟨aA.length-rs.length+j,gs j,_,by omega,by omega,h6 j j1,e,?_,de,rfl⟩
 have hh:Yg ({ aAQ s with aS:=true,ro:=false,aV:=ep },bN,ms j) (aA.take (aA.length-rs.length+j)) (gs j) k:=by
  refine⟨ts j,rs.take j,ms,ts,gs,hS,?_,cj,by rw[hlr],by rw[hlr,hlH];omega,fun i hi=>?_,by rw[hlH];omega⟩
  ·have e1:(aAQ s).depth.toNat=d:=aAf de;simp only;rw[e1,c1,c2];exact hcut
  ·rw[hlr]at hi ⊢;rw[hlH,show aA.length-rs.length+j-j+i=aA.length-rs.length+i by omega];by_cases hij:i=j
   ·subst hij;rw[List.getElem?_append_right (by rw[hlH];omega),hlH];simp
   ·rw[List.getElem?_append_left (by rw[hlH];omega),List.getElem?_take_of_lt (by omega),<-h6 i (by omega),List.getElem?_append_left (by omega)]
 have:=cst_full hh (Int.le_of_eq (fl_mark hfl' 1).symm) (Int.le_of_eq (fl_mark hfl' 2).symm) (Int.le_of_eq (fl_mark hfl' _).symm);rw[hlH]at this;exact this
theorem cst_die (h:Cst (aY s,fs,m) aA g k sf)(hc:fU s)(de:s.depth=(d:Int))(hI:dY s.room Kb){T:ByteArray}(b1:aL Kb 1=aL fs 1++T)(b2:aL Kb 2=aL fs 2)(bj:aL Kb (10+s.aV)=aL fs (10+s.aV))(hm:∀j,j≠3->aAO fs j<=aAO Kb j)(m':bT):Die (aAQ s) (aAP s Kb) m' aA g k sf d:=by
 obtain⟨t,rs,ms,ts,gs,h1,h2,h3,h4,h5,h6,h7,j0,a1,a2,a3,a4,a5⟩:=h;have vL:0<=s.aV:=hc.nK;have e1:(aY s).depth.toNat=d:=aAf de;simp only at h2 h3 a3 a4 a5;rw[e1]at h2;rw[a2];exact crash_his (T:=T.data.toList) h2 h5 h6 h7 hc h1.snd.ref h1.snd.most h1.snd.room de hI (by rw[b1,eY]) b2 (by show(aL Kb (10+s.aV)).data.toList=_;rw[bj];exact h3) a1 (Int.le_trans a3 (hm 1 (by decide))) (Int.le_trans a4 (hm _ (by show(10+s.aV)≠3;omega))) (Int.le_trans a5 (hm 2 (by decide))) m'
theorem mark_add (hI:dY room fs)(n:Int)(b:ByteArray)(j:Int):aAO (iR fs (lX fs n b)) j=aAO fs j:=by
 unfold aAO;rw[jh hI.sort,(gI fs n b).1];by_cases hj:n=j
 ·rw[if_pos hj,<-hj];unfold lX;cases eO fs n with
  |none=>rfl
  |some f=>rfl
 ·rw[if_neg hj]
theorem act_mark (h:En x t k)(hk:k<=400)(j:Int):aAO (eZ x kind pos n text).1.2.1 j=aAO x.2.1 j:=by
 by_cases hc:(kK x kind pos n text).2=0
 ·obtain⟨bN,-,-,-,-,-,-,-,-,u4⟩:=Hr h hk hc;have hI:=h.gs.bk.inv;have hu:=h.used;have nZ:=h.room;have e:=act_two (x:=x) h.op h.ro hc;generalize Mj:fO kind (kK x kind pos n text).1.2.2.2.1 (qH kind pos) (pG x.2.1 kind n) (lC kind text)=R at e;have hR:R.size=22:=by rw[<-Mj];exact(B_ _ _ _ _ _).1
  simp only at e;by_cases hk73:kind=73
  ·have ht:text.size≠0/\text.size<=200:=by
    have:=u4 hk73;unfold lC at this;rw[if_pos hk73]at this;omega
   simp only[if_pos hk73]at e;have hu1:bP x.2.1+(text.size:Int)<=x.1.room:=by omega
   rw[Rq h.arm h.ref hI ht.1 hu1]at e;simp only at e;rw[if_neg (by decide)]at e;have i1:=(hI.app (n:=1) (by omega) (by omega) ht.1 hu1).1
   have hus:bP (iR x.2.1 (lX x.2.1 1 text))+(R.size:Int)<=x.1.room:=by
    rw[EM hI.sort,(gI x.2.1 1 text).1,(gI x.2.1 1 text).2,dR];omega
   rw[Rq h.arm h.ref i1 (by omega) hus]at e;rw[e];simp only;rw[mark_add i1,mark_add hI]
  ·simp only[if_neg hk73]at e;rw[if_neg (by decide),Rq h.arm h.ref hI (by omega) (by omega)]at e;rw[e];exact mark_add hI _ _ _
 ·rw[vO h.op h.ro hc]
theorem Yg.len (h:Yg x aA g k):(aA.length:Int)=x.2.2.2.2.2.1:=by
 obtain⟨t,rs,ms,ts,gs,h1,h2,h3,h4,h5,h6,h7⟩:=h;rw[h7,h1.done]
theorem Die.le {sf':Nat}(h:Die s fs m aA g k sf d)(hs:sf'<=sf):Die s fs m aA g k sf' d:=by
 obtain⟨j,gj,z,h1,h2⟩:=h;exact⟨j,gj,z,by omega,h2⟩
theorem Die.more (h:Die s fs m aA g k sf d)(hk:k<=k'):Die s fs m aA g k' sf d:=by
 obtain⟨j,gj,z,h1,h2,h3,h4,h5,h6⟩:=h;exact⟨j,gj,z,h1,h2,h3,h4,h5.more hk,h6⟩
theorem cst_act {g':Gm}(h:Cst (aY s,fs,m) aA g k sf)(hk:k<=400)(hc:fU s)(haf:0<=s.after)(de:s.depth=(d:Int))(hK:isK kind)(key:(eZ (aY s,fs,m) kind pos n text).2=c/\∃t',nG (eZ (aY s,fs,m) kind pos n text).1 g' (k+1) t'):
 (∃s' y,eZ (s,fs,m) kind pos n text=((s',y),c)/\Cst (aY s',y) (Mx aA g g') g' (k+1) sf/\s'.depth=(d:Int)/\fU s'/\0<=s'.after)\/
 (∃bN,eZ (s,fs,m) kind pos n text=((aAQ s,bN,m),10)/\BK (aAQ s) bN/\Die (aAQ s) bN m aA g k sf d):=by
 obtain⟨t,hS⟩:=h.rX.Ep;have MW:=t_ (kind:=kind) (pos:=pos) (n:=n) (text:=text) (jK hS.snd.gs hc haf);obtain⟨hp,-⟩:=pst_act h.rX hk hK key.2;have Wy:=wW (kind:=kind) (pos:=pos) (n:=n) (text:=text) hS.snd hk;have hmk:=act_mark (kind:=kind) (pos:=pos) (n:=n) (text:=text) hS.snd hk;have hl1:=h.rX.len;have Uc:=hp.len;rcases act_arm (kind:=kind) (pos:=pos) (n:=n) (text:=text) hS.snd hk haf with⟨s',e,hl⟩|⟨ha,Kb,i1,n3,⟨T,bTz⟩,mk,e⟩
 ·have ec:=hl.calm;rw[e]at MW;refine Or.inl ⟨s',_,by rw[e,key.1],?_,?_,MW.bk.bK,MW.bk.qC⟩
  ·rw[ec];by_cases hz:(kK (aY s,fs,m) kind pos n text).2=0
   ·obtain⟨bN,e',b1,b2,bj,-⟩:=Hr hS.snd hk hz;have rJ:=(Hf (show(gK m kind (qH kind pos) (pG fs kind n) (lC kind text) s.most s.depth.toNat).2=0 from hz)).1;have hdn':(kK (aY s,fs,m) kind pos n text).1.2.2.2.1=m.2.2.2.1+1:=rJ;have hr:=(B_ kind (m.2.2.2.1+1) (qH kind pos) (pG fs kind n) (lC kind text)).2;rw[e']at hp hmk Uc ⊢;simp only at hl1 Uc b1 b2 bj;rw[hdn']at Uc
    obtain⟨aAN,hU⟩:∃aAN,(aL bN 1).data.toList=(aL fs 1).data.toList++aAN:=by
     rw[b1];split
     ·exact⟨_,eY _ _⟩
     ·exact⟨[],by simp⟩
    exact cst_next (T:=aAN) (aAN:=(fO kind (m.2.2.2.1+1) (qH kind pos) (pG fs kind n) (lC kind text)).data.toList) h hp rfl rfl hU b2 (by show(aL bN (10+(aY s).aV)).data.toList=_;rw[bj,eY]) (by rw[hr];omega) (fun j=>Int.le_of_eq (hmk j).symm)
   ·have e':=vO (x:=(aY s,fs,m)) (kind:=kind) (pos:=pos) (n:=n) (text:=text) hS.snd.op hS.snd.ro hz;rw[e']at hp Uc ⊢;simp only at hl1 Uc;exact cst_next (T:=[]) (aAN:=[]) h hp rfl rfl (by simp) rfl (by simp) (by rw[List.length_nil];omega) (fun j=>Int.le_refl _)
  ·show(aY s').depth=_;rw[ec,Wy];exact de
 ·rw[e]at MW;have vL:=hc.nK;refine Or.inr ⟨_,e,MW.bk,?_⟩;exact cst_die h hc de i1 (T:=T) (by rw[bTz,if_pos rfl]) (by rw[bTz,if_neg (by decide)]) (by rw[bTz,if_neg (by omega)]) (fun j _=>Int.le_of_eq (mk j).symm) m
theorem cst_sync (h:Cst (aY s,fs,m) aA g k sf)(hc:fU s)(haf:0<=s.after)(de:s.depth=(d:Int)):
 (∃s' y,iG (s,fs,m)=((s',y),0)/\Cst (aY s',y) aA g k aA.length/\s'.depth=(d:Int)/\fU s'/\0<=s'.after)\/
 (∃bN,iG (s,fs,m)=((aAQ s,bN,m),10)/\BK (aAQ s) bN/\Die (aAQ s) bN m aA g k sf d):=by
 obtain⟨t,hS⟩:=h.rX.Ep;have MW:=gs_sync (jK hS.snd.gs hc haf);have ho:s.aS=true:=hS.snd.op;have hr:s.ro=false:=hS.snd.ro;have vL:=hc.nK;have hI:dY s.room fs:=hS.snd.gs.bk.inv;obtain⟨f1,hf1⟩:∃f1,f1=(bQ (aY s) fs 1).2.2:=⟨_,rfl⟩;obtain⟨b1,m1,n1,i1⟩:=aAT hI 1;rw[<-hf1]at b1 m1 n1 i1;obtain⟨f2,MN⟩:∃f2,f2=(bQ (aY s) f1 (10+s.aV)).2.2:=⟨_,rfl⟩;obtain⟨b2,m2,n2,i2⟩:=aAT i1 (10+s.aV);rw[<-MN]at b2 m2 n2 i2
 have ec:iG (aY s,fs,m)=((aY s,f2,m),0):=by
  unfold iG;simp only;rw[if_neg (by simp[show(aY s).aS=true from ho]),if_neg (by simp[show(aY s).ro=false from hr]),flush_c,<-hf1];simp only[Bool.true_eq_false,if_false];rw[show(aY s).aV=s.aV from rfl,flush_c,<-MN];simp
 rcases sync_arm hS.snd haf with⟨s',e,hl⟩|⟨ha,Kb,hf,e⟩
 ·obtain⟨-,c2⟩:=V_ h.rX (by rw[ec]) (by rw[ec]) (by rw[ec]);rw[ec]at e c2 hl;have el:=hl.calm;rw[e]at MW;refine Or.inl ⟨s',_,e,?_,by show(aY s').depth=_;rw[el];exact de,MW.bk.bK,MW.bk.qC⟩;rw[el];obtain⟨t',rs,ms,ts,gs,q1,q2,q3,q4,q5,q6,q7,j0,a1,a2,a3,a4,a5⟩:=h;refine cst_full c2 ?_ ?_ ?_
  ·simp only;rw[n2 1 (by omega),m1,b2,b1];exact Int.le_refl _
  ·simp only at a5 ⊢;rw[n2 2 (by omega),n1 2 (by decide),b2,b1];exact a5
  ·show((aL f2 (10+s.aV)).size:Int)<=aAO f2 (10+s.aV);rw[m2,b2];exact Int.le_refl _
 ·rw[e]at MW;refine Or.inr ⟨_,e,MW.bk,?_⟩
  have key:∀j,aL Kb j=aL fs j/\aAO fs j<=aAO Kb j:=fun j=>by
   rcases hf with rfl|hf
   ·exact⟨rfl,Int.le_refl _⟩
   ·rw[<-hf1]at hf;subst hf;refine⟨b1 j,?_⟩;by_cases hj:j=1
    ·rw[hj,m1];exact(ok_mark hI 1).2
    ·rw[n1 j hj];exact Int.le_refl _
  have hI1:dY s.room Kb:=by
   rcases hf with rfl|hf
   ·exact hI
   ·rw[hf,<-hf1];exact i1
  exact cst_die h hc de hI1 (T:=⟨#[]⟩) (by rw[(key 1).1];exact pW (by rw[eY];simp)) (key 2).1 (key _).1 (fun j _=>(key j).2) m
theorem ckp_marks {B:ByteArray}(hr:s.refusing=false)(hI:dY s.room fs)(hrm:s.room<=1000000)(au:0<=ep)(h3:eO fs 3=O)(hB:B.size≠0)(hu:bP (bQ (aY s) fs 1).2.2+(B.size:Int)<=s.room):
 (nA ep B 5 0 (aY s) fs).1=0/\aAO (nA ep B 5 0 (aY s) fs).2.2 1=((aL fs 1).size:Int)/\aAO (nA ep B 5 0 (aY s) fs).2.2 2=(B.size:Int):=by
 obtain⟨f1,hf1⟩:∃f1,f1=(bQ (aY s) fs 1).2.2:=⟨_,rfl⟩;obtain⟨b1,m1,n1,i1⟩:=aAT hI 1;rw[<-hf1]at b1 m1 n1 i1 hu;obtain⟨f2,MN⟩:∃f2,f2=iR f1 (lX f1 3 B):=⟨_,rfl⟩;have i2:dY s.room f2:=by rw[MN];exact(i1.app (n:=3) (by omega) (by omega) hB hu).1
 have b23:aL f2 3=B:=by
  have z:aL f1 3=⟨#[]⟩:=by rw[b1,cK,h3];rfl
  rw[MN,jR i1.sort,(gI f1 3 B).1,if_pos rfl,(gI f1 3 B).2,z];exact pW (by rw[eY];rfl)
 have n2:∀j,aAO f2 j=aAO f1 j:=fun j=>by rw[MN];exact mark_add i1 3 B j
 obtain⟨f3,hf3⟩:∃f3,f3=(bQ (aY s) f2 3).2.2:=⟨_,rfl⟩;obtain⟨b3,m3,n3,i3⟩:=aAT i2 3;rw[<-hf3]at b3 m3 n3 i3
 obtain⟨f,hff,hfb,hfm⟩:∃f,eO f3 3=M f/\f.2.1=B/\f.2.2=(B.size:Int):=by
  have q1:aL f3 3=B:=by rw[b3,b23]
  have q2:=m3;rw[b23]at q2;unfold aAO at q2;rw[cK]at q1;cases hq:eO f3 3 with
  |none=>rw[hq]at q1;exact absurd (congrArg ByteArray.size q1) (by simp only[Option.map_none,Option.getD_none];exact fun e=>hB e.symm)
  |some f=>rw[hq]at q1 q2;exact⟨f,rfl,q1,q2⟩
 obtain⟨f4,hf4⟩:∃f4,f4=(jP (aY s) f3 3 2).2.2:=⟨_,rfl⟩;have hf4':f4=iR (gP f3 3) (2,f.2.1,f.2.2):=by rw[hf4,YT (s:=aY s) rfl hff]
 have sd:=Iq i3.sort 3
 have k1:aAO f4 1=((aL fs 1).size:Int):=by
  unfold aAO;rw[hf4',jh sd,if_neg (by show ¬(2:Int)=1;decide),ji,if_neg (by decide)];have q:aAO f3 1=_:=(n3 1 (by decide)).trans ((n2 1).trans m1);exact q
 have k2:aAO f4 2=(B.size:Int):=by
  unfold aAO;rw[hf4',jh sd,if_pos rfl];exact hfm
 have kR:=i3.ok f (mQ hff).1
 have i4:dY s.room f4:=by
  rw[hf4'];have q1:=zH i3.sort 3;have q2:((aL f3 3).size:Int)=(B.size:Int):=by rw[b3,b23]
  have q3:=i3.used;refine(i3.del 3).put (f:=(2,f.2.1,f.2.2)) (by simp only;rw[hfb];exact hB) kR ⟨by simp only;omega,by simp only;omega⟩ ?_;simp only;rw[hfb,q1,q2];omega
 have e1:bQ (aY s) fs 1=(true,aY s,f1):=by rw[hf1];exact flush_c s fs 1
 have e2:dJ (aY s) f1 3 B=(0,aY s,f2):=by rw[MN];exact Rq (s:=aY s) rfl hr i1 hB hu
 have e3:bQ (aY s) f2 3=(true,aY s,f3):=by rw[hf3];exact flush_c s f2 3
 have e4:jP (aY s) f3 3 2=(true,aY s,f4):=by rw[hf4];exact move_c s f3 3 2
 have e5:=cut_c s f4 (10+ep) 0
 have hcalm:nA ep B 5 0 (aY s) fs=(0,aY s,(bR (aY s) f4 (10+ep) 0).2.2):=by
  rw[aAR (s':=aY s) (bN:=f1) (by show Dv _=_;rw[e1];rfl),aAR (s':=aY s) (bN:=f2) (show Jz ep B (aY s) f1 1=(0,aY s,f2) from e2),aAR (s':=aY s) (bN:=f3) (by show Dv _=_;rw[e3];rfl),aAR (s':=aY s) (bN:=f4) (by show Dv _=_;rw[e4];rfl),aAR (s':=aY s) (bN:=(bR (aY s) f4 (10+ep) 0).2.2) (by show Dv _=_;rw[e5];rfl)];rfl
 have km:∀j,j≠10+ep->aAO (bR (aY s) f4 (10+ep) 0).2.2 j=aAO f4 j:=fun j hj=>by
  unfold bR;by_cases hz:((aL f4 (10+ep)).size:Int)<=0
  ·rw[if_pos hz]
  ·rw[if_neg hz];simp only;rw[Bh];simp only[if_true];rw[Oz i4.sort (by simp only[ByteArray.size_extract];omega) (i4.no (by omega))];unfold aAO;rw[ji,if_neg hj]
 rw[hcalm];exact⟨rfl,by rw[km 1 (by omega)];exact k1,by rw[km 2 (by omega)];exact k2⟩
theorem ckpF_dok {b:ByteArray}(hb:b.size≠0):∀(f k N:Nat) (s:Sc) (fs:List bF),mZ N s fs->mZ (N+f) (nA ep b f k s fs).2.1 (nA ep b f k s fs).2.2
 |0,k,N,s,fs,h=>h
 |f+1,k,N,s,fs,h=>by
  have h1:=zq (ep:=ep) h hb k;unfold nA;split
  ·have:=ckpF_dok hb f (k+1) (N+1) _ _ h1;rw[show N+(f+1)=N+1+f by omega];exact this
  ·exact h1.mono (by omega)
theorem half_nam (hI:dY room Kb)(h:CkHalf fs Kb ck)(hn:Ho fs ep):BB Kb ep:=fun f hf=>by
 by_cases h1:f.1=1
 ·exact Or.inl h1
 by_cases h2:f.1=2
 ·exact Or.inr (Or.inl h2)
 by_cases h3:f.1=3
 ·exact Or.inr (Or.inr (Or.inl h3))
 by_cases h4:f.1=10+ep
 ·exact Or.inr (Or.inr (Or.inr h4))
 exfalso
 have hb:aL Kb f.1=aL fs f.1:=by
  rcases h with h|⟨-,-,-,-,h⟩
  ·exact(h f.1 h3).1
  ·exact h f.1 h1 h2 h3
 have hz:aL fs f.1=⟨#[]⟩:=Rw (fun g hg e=>by rcases hn g hg with q|q|q<;>omega);refine Hg hI (n:=f.1) ?_ f hf rfl;rw[hb,hz];rfl
theorem cst_ckpt (h:Cst (aY s,fs,m) aA g k sf)(hk:k<=122)(hc:fU s)(haf:0<=s.after)(de:s.depth=(d:Int)):
 (∃s' y,gG (s,fs,m)=((s',y),0)/\Cst (aY s',y) aA g (k+1) aA.length/\s'.depth=(d:Int)/\fU s'/\0<=s'.after)\/
 (∃bN,gG (s,fs,m)=((aAQ s,bN,m),10)/\BK (aAQ s) bN/\Die (aAQ s) bN m aA g (k+1) sf d):=by
 obtain⟨t,hS⟩:=h.rX.Ep;obtain⟨z1,zHz⟩:=U_ h.rX hk;obtain⟨-,zSz,zb1,zb2,znam⟩:=Hu hS.snd hk;have zd:=Si hS.snd;have ho:s.aS=true:=hS.snd.op;have hr:s.ro=false:=hS.snd.ro;have OG:s.refusing=false:=hS.snd.ref;have nZ:s.room=1000000:=hS.snd.room;have hI:dY s.room fs:=hS.snd.gs.bk.inv;have au:s.aV<=(k:Int):=hS.snd.ep;have vL:0<=s.aV:=hc.nK;have hnm:Ho fs s.aV:=hS.snd.QX;have DL:=hS.snd.gs.bk.bK.xD;have hu:=hS.snd.used;simp only at hu zb1 zb2;obtain⟨X,hX,hcx⟩:=hS.snd.cnt;have hlen:=yx (s.aV+1) hS.snd.bK hS.snd.yV hcx (by omega) (by omega);obtain⟨l1,l2⟩:=AO (s.aV+1) m;obtain⟨B,hB⟩:∃B:ByteArray,B=⟨(xU (s.aV+1) m).toArray⟩:=⟨_,rfl⟩;have hBs:B.size=(xU (s.aV+1) m).length:=by rw[hB];simp[ByteArray.size]
 obtain⟨f1,e1,i1,-,m1⟩:=qG hS.snd.arm hS.snd.gs.bk.bK hS.snd.gs.bk.inv 1;simp only at e1 i1 m1;have u1:=A_ i1.sort (Xr m1 hnm) vL;have u0:=A_ hI.sort hnm vL;rw[uR m1,uR m1,uR m1]at u1
 have hu1:bP (bQ (aY s) fs 1).2.2+(B.size:Int)<=s.room:=by
  rw[e1];simp only;simp only at hlen;omega
 have hB0:B.size≠0:=by omega
 obtain⟨q1,q2,q3⟩:=ckp_marks (ep:=s.aV) (B:=B) OG hI (by omega) vL (sV (fun g hg q=>by rcases hnm g hg with z|z|z<;>omega)) hB0 hu1
 have un:∀c:Sc,c.aS=true->c.ro=false->c.aV=s.aV->gG (c,fs,m)=((if (nA s.aV B 5 0 c fs).1=0 then { (nA s.aV B 5 0 c fs).2.1 with aV:=s.aV+1 } else (nA s.aV B 5 0 c fs).2.1,(nA s.aV B 5 0 c fs).2.2,m),(nA s.aV B 5 0 c fs).1):=fun c h1 h2 h3=>by
  unfold gG;simp only;rw[if_neg (by simp[h1]),if_neg (by simp[h2]),h3,if_neg (by omega),<-hB]
 have uc:=un (aY s) ho hr rfl;have us:=un s ho hr rfl;rw[if_pos q1]at uc;have zep:(gG (aY s,fs,m)).1.1.aV=s.aV+1:=by rw[uc]
 have zf:(gG (aY s,fs,m)).1.2.1=(nA s.aV B 5 0 (aY s) fs).2.2:=by rw[uc]
 rw[<-zf]at q2 q3;rw[show(aY s).aV=s.aV from rfl,<-hB]at zb2;have zj:aL (gG (aY s,fs,m)).1.2.1 (10+(gG (aY s,fs,m)).1.1.aV)=⟨#[]⟩:=Rw (fun f hf e=>by rw[zep]at e;rcases znam f hf with q|q<;>omega);rcases ckpt_arm hS.snd hk haf with⟨s',e,hl⟩|⟨ha,Kb,e,hI1,hh⟩
 ·have el:=hl.calm;have ZX:=ckpF_dok (ep:=s.aV) hB0 5 0 50 s fs (jK hS.snd.gs hc haf).bk.dok
  have hsa:0<=s'.after:=by
   have es:(gG (s,fs,m)).1.1.after=s'.after:=by rw[e]
   rw[us]at es;rw[<-es];simp only;split
   ·exact ZX.qC
   ·exact ZX.qC
  refine Or.inl ⟨s',_,by rw[e,z1],?_,?_,VF hl zSz.gs.bk.bK hc,hsa⟩
  ·rw[el];refine cst_full zHz ?_ ?_ ?_
   ·simp only;rw[q2,zb1];exact Int.le_refl _
   ·simp only;rw[q3,zb2];exact Int.le_refl _
   ·simp only;rw[zj];exact(ok_mark zSz.gs.bk.inv _).1
  ·show(aY s').depth=_;rw[el,zd];exact de
 ·rw[<-hB]at hh;have hI':=hI1.crash hc.Yu hc.Fs
  have hlf:(aAP s Kb).length<=4:=by
   have:=YR hI1.sort.1 (half_nam hI1 hh hnm);unfold aAP;rw[Vp hI1];exact Nat.le_trans (List.length_filter_le _ _) (by rw[List.length_map];exact this)
  refine Or.inr ⟨_,e,⟨⟨hc.ES,hc.Vt,hc.Db,hc.xD,hc.Vu,hc.oK,by show(0:Int)<=_;decide,hc.Yu,hc.NW,hc.Fs,hc.Pj,hc.zM,hc.Cb,hc.nK,hc.zN⟩,Int.le_refl _,hI',by omega⟩,?_⟩;rcases hh with hh|⟨b1,k1,b2,k2,bo⟩
  ·exact(cst_die h hc de hI1 (T:=⟨#[]⟩) (by rw[(hh 1 (by decide)).1];exact pW (by rw[eY];simp)) (hh 2 (by decide)).1 (hh _ (by omega)).1 (fun j hj=>(hh j hj).2) m).more (by omega)
  ·obtain⟨t',rs,ms,ts,gs,p1,p2,p3,p4,p5,p6,p7⟩:=zHz
   have hrs:rs.length=0:=by
    have l:=Gw p2.r22;rw[<-p3,zj]at l;have:(⟨#[]⟩:ByteArray).data.toList.length=0:=rfl;omega
   have e1:(gG (aY s,fs,m)).1.1.depth.toNat=d:=by
    rw[zd];exact aAf de
   rw[e1,zep,zb2,zb1]at p2;have htop:=p2.top;rw[hrs,Dy]at htop
   have hbj:aL Kb (10+(s.aV+1))=⟨#[]⟩:=by
    rw[bo _ (by omega) (by omega) (by omega)];exact Rw (fun f hf q=>by rcases hnm f hf with z|z|z<;>omega)
   have:=crash_his (T:=[]) (j0:=0) p2 p5 p6 p7 hc OG hS.snd.most nZ de hI1 (by rw[b1,List.append_nil]) b2 (by rw[hbj,<-p3,zj]) (Nat.zero_le _) (by rw[k1];omega) (by rw[Nat.mul_zero];exact(ok_mark hI1 _).1) (by rw[k2];exact Int.le_refl _) m;refine this.le ?_;have:=h.le;omega
def abB:ByteArray:=⟨#[97,98]⟩
theorem sto_zero (h:nG x g 0 t):x.2.1=[]:=by
 have vL:=h.snd.gs.bk.bK.nK;have he:=h.snd.ep;have au:x.1.aV=0:=by omega
 obtain⟨m0,rs,r1,-⟩:=h.snd.rd
 have h2:(aL x.2.1 2).size=0:=by
  rcases Ru r1 with⟨z,-⟩|⟨-,z,-⟩
  ·exact z
  ·simp only at z;omega
 have h1:=h.snd.b1;have hj:=h.snd.bj;refine List.eq_nil_iff_forall_not_mem.2 fun f hf=>?_
 rcases h.snd.QX f hf with q|q|q
 ·exact Hg h.snd.gs.bk.inv (n:=1) (by omega) f hf q
 ·exact Hg h.snd.gs.bk.inv h2 f hf q
 ·exact Hg h.snd.gs.bk.inv (n:=10+x.1.aV) (by omega) f hf q
theorem act_die (h:En (aY s,fs,m) t k)(hk:k<=400)(ha:s.eG=true)(h1:s.after=1)(hc:(kK (aY s,fs,m) 73 pos n text).2=0):eZ (s,fs,m) 73 pos n text=((aAQ s,aAP s (iR fs (lX fs 1 text)),m),10):=by
 obtain⟨bN,-,-,-,-,-,-,-,-,u4⟩:=Hr h hk hc
 have ht:text.size≠0/\text.size<=200:=by
  have:=u4 rfl;unfold lC at this;rw[if_pos rfl]at this;omega
 have OG:s.refusing=false:=h.ref;have nZ:s.room=1000000:=h.room;have hI:dY s.room fs:=h.gs.bk.inv;have hu:=h.used;simp only at hu;have hu1:bP fs+(text.size:Int)<=s.room:=by omega
 have e1:=act_two (x:=(s,fs,m)) (kind:=73) (pos:=pos) (n:=n) (text:=text) h.op h.ro hc;simp only[if_true]at e1;rw[add_next ha (by omega) OG hI ht.1 hu1]at e1;simp only at e1;rw[if_neg (by decide)]at e1
 have hus:∀R:ByteArray,R.size=22->bP (iR fs (lX fs 1 text))+(R.size:Int)<=s.room:=fun R hR=>by
  rw[EM hI.sort,(gI fs 1 text).1,(gI fs 1 text).2,dR];omega
 rw[add_die (s:= { s with after:=s.after-1 }) ha (by simp only;omega) OG (hus _ (B_ _ _ _ _ _).1)]at e1;simp only at e1;rw[if_neg (by decide)]at e1;exact e1
theorem stop_read (h1:0<=s.one)(h2:0<=s.rest)(hI:dY s.room (iR [] (lX [] 1 abB)))(d:Nat):Rdn (aAP s (iR [] (lX [] 1 abB))) d 0 ([],[],[],0,0) 0:=by
 have e:∀n,n≠1->aL (aAP s (iR [] (lX [] 1 abB))) n=⟨#[]⟩:=fun n hn=>by
  obtain⟨k,-,-,q⟩:=crash_file hI h1 h2 n;unfold aAP;rw[q,jR (l:=[]) ⟨List.Pairwise.nil,fun f hf=>by simp at hf⟩,(gI [] 1 abB).1,if_neg (fun q=>hn q.symm)];exact VB (by rw[ByteArray.size_extract];show min k 0-0=0;omega)
 refine⟨([],[],[],0,0),?_,?_⟩
 ·rw[e 2 (by decide)];exact QI _ _ rfl
 ·rw[e (10+0) (by decide)];rfl
theorem stop_open (h:nG (aY s,fs,m) g 0 t)(hg:fU s)(kL:g.1=[]):
 eZ ({ s with eG:=true,after:=1,one:=99,rest:=99 },fs,m) 73 0 0 abB=((aAQ { s with eG:=true,after:=1,one:=99,rest:=99 },aAP { s with eG:=true,after:=1,one:=99,rest:=99 } (iR [] (lX [] 1 abB)),m),10)/\BK (aAQ { s with eG:=true,after:=1,one:=99,rest:=99 }) (aAP { s with eG:=true,after:=1,one:=99,rest:=99 } (iR [] (lX [] 1 abB)))/\
 ∃z,jM (aAQ { s with eG:=true,after:=1,one:=99,rest:=99 },aAP { s with eG:=true,after:=1,one:=99,rest:=99 } (iR [] (lX [] 1 abB)),m)=(z,0)/\z.1.aS=true/\z.2.2=([],[],[],0,0):=by
 have hfs:=sto_zero h;simp only at hfs;subst hfs;obtain⟨r,hr⟩:∃r:Sc,r= { s with eG:=true,after:=1,one:=99,rest:=99 }:=⟨_,rfl⟩;rw[<-hr];have hro:r.room=1000000:=by rw[hr];exact h.snd.room
 have hon:r.one=99/\r.rest=99/\r.after=1/\r.eG=true:=by rw[hr];exact⟨rfl,rfl,rfl,rfl⟩
 have hcr:aY r= { aY s with one:=99,rest:=99 }:=by rw[hr];rfl
 have z1:(0:Int)<=99:=by decide
 have z2:(99:Int)<=9223372036854775807:=by decide
 have z3:(0:Int)<=9223372036854775807:=by decide
 have hS:En (aY r,[],m) t 0:=by
  rw[hcr];have q:=h.snd;exact⟨⟨⟨⟨q.gs.bk.bK.ES,q.gs.bk.bK.Vt,q.gs.bk.bK.Db,q.gs.bk.bK.xD,q.gs.bk.bK.Vu,q.gs.bk.bK.oK,q.gs.bk.bK.oL,z1,z2,z1,z2,q.gs.bk.bK.zM,q.gs.bk.bK.Cb,q.gs.bk.bK.nK,q.gs.bk.bK.zN⟩,q.gs.bk.qC,q.gs.bk.inv,q.gs.bk.len⟩,q.gs.YQ,q.gs.done,q.gs.QX,q.gs.buf,q.gs.wU⟩,q.op,q.ro,q.arm,q.ref,q.most,q.room,q.yV,q.cnt,q.rd,q.QX,q.b1,q.b2,q.bj,q.ep⟩
 have hlen:=h.len;rw[kL]at hlen;have hlen':sz m.1=0:=by simpa using hlen.symm
 have Jy:=h.snd.few.1;simp only at Jy;have hlp:=Hq m.1 [(0,2)] 0;simp only[List.length_singleton]at hlp;have Ht:s.most=5000:=h.snd.most
 have hc:(kK (aY r,[],m) 73 0 0 abB).2=0:=by
  have e:kK (aY r,[],m) 73 0 0 abB=rR m 0 0 2 s.most s.depth.toNat:=by rw[hcr];rfl
  rw[e];unfold rR;rw[if_neg (by omega),if_neg (by omega),if_neg (by omega),if_neg (by omega)]
 have hI0:dY r.room []:=by rw[hro];exact Bn
 have hI1:dY r.room (iR [] (lX [] 1 abB)):=by
  have hz:abB.size=2:=rfl;have hu:bP []=0:=rfl;exact(hI0.app (n:=1) (b:=abB) (by omega) (by omega) (by omega) (by omega)).1
 have hB:BK (aAQ r) (aAP r (iR [] (lX [] 1 abB))):=by
  refine⟨?_,Int.le_refl _,hI1.crash (by omega) (by omega),?_⟩
  ·have q:=h.snd.gs.bk.bK;rw[hr];exact⟨q.ES,q.Vt,q.Db,q.xD,q.Vu,q.oK,z3,z1,z2,z1,z2,hg.zM,hg.Cb,hg.nK,hg.zN⟩
  ·have:(aAP r (iR [] (lX [] 1 abB))).length<=1:=by
    unfold aAP;rw[Vp hI1];exact Nat.le_trans (List.length_filter_le _ _) (by rw[List.length_map];exact Nat.le_refl _)
   omega
 refine⟨act_die hS (by decide) hon.2.2.2 hon.2.2.1 hc,hB,?_⟩;obtain⟨bN,e,-⟩:=YX (m':=m) (s:=aAQ r) rfl rfl hB.bK hB.inv (stop_read (by omega) (by omega) hI1 _) (Int.le_refl _);exact⟨_,e,rfl,rfl⟩
end Go.Proofs.YtfplgfodoiiobaaGreatDoor
