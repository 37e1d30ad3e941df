/- QlX, QlU, TkH, QlY (joined). -/
import Derived.Test.YtfplgfodoiiobaaGreatDoorD36
import Derived.Test.YtfplgfodoiiobaaGreatDoorD38
open Option renaming none→O,some→M
open Go.Value renaming int→I,slice→Z,pointer→U
open Go.IntKind renaming i64→V
open Go.Obj renaming cells→C
open Go.Ending renaming returned→G
open Go renaming World→F,Value→Y,Calls→H
open Go.Proofs.Tryz renaming prog→K
open Go.Proofs.Tryz
namespace Go.Proofs.YtfplgfodoiiobaaGreatDoor
set_option maxHeartbeats 4000000
set_option maxRecDepth 100000
open Go.RowKit
abbrev Aal:=@List.setIfInBounds_toArray
abbrev Abj:=@Go.wpAnyH_ready
abbrev AaM:=@Go.AllReadyH.cons
abbrev Abe:=@Go.AllReadyH.nil
variable {w w':F}{s:Sc}{qp db i:Nat}{fs:List bC}{m:dD}{X:Nat->Prop}{a:Int}{rs:List FR}{l:List AF}{p:Prop}{v:Y}
theorem yO.at (h:uI w qp s fs m X):yO w w qp X (s,fs,m):=⟨X,h,Dk.refl w X⟩
theorem xnew {most depth room:Int}(h:Cc most depth room):H K 33 #[I V most,I V depth,I V room] w fun e w'=> ∃X,e=G (.tuple #[U (M ⟨w.heap.size+1,0,O⟩),I V 0])/\uI w' (w.heap.size+1) (mY most depth room) [] Az X/\(∀b,X b->w.heap.size<=b)/\aL w w':=by
 refine(aAn h).mono ?_;rintro e w' ⟨rfl,rfl⟩;have g1:=(aL.refl w).alloc (C #[I V room,Z O 0 0,.bool false,I V 0,.bool false,I V 0,I V 0,I V 0] 137);have hn:=Aaf w (C #[I V room,Z O 0 0,.bool false,I V 0,.bool false,I V 0,I V 0,I V 0] 137);have g2:=(aL.refl (w.alloc (C #[I V room,Z O 0 0,.bool false,I V 0,.bool false,I V 0,I V 0,I V 0] 137))).alloc (xG most depth w.heap.size O);refine⟨FJ (w.heap.size+1) w.heap.size (Z O 0 0) [],rfl,Aac ⟨rfl,w.heap.size,Z O 0 0,[],⟨?_,⟨by simp,Aac ⟨rfl,rfl⟩⟩,fun r hr=>by simp at hr,List.Pairwise.nil⟩,rfl,?_,rfl⟩,?_,g1.then g2⟩
 ·exact(g2.block _ (aM hn)).trans hn
 ·have:=Aaf (w.alloc (C #[I V room,Z O 0 0,.bool false,I V 0,.bool false,I V 0,I V 0,I V 0] 137)) (xG most depth w.heap.size O);rw[show(w.alloc (C #[I V room,Z O 0 0,.bool false,I V 0,.bool false,I V 0,I V 0,I V 0] 137)).heap.size=w.heap.size+1 by simp]at this;exact this
 ·rintro b (rfl|rfl|hb|⟨r,hr,-⟩)
  ·omega
  ·exact Aak _
  ·simp[Value.ownBlock]at hb
  ·simp at hr
theorem xclose (h:uI w qp s fs m X):H K 32 #[U (M ⟨qp,0,O⟩)] w fun e w'=>e=G (I V (oZ s).2)/\yO w w' qp X ((oZ s).1,fs,m):=by
 have h0:=h;rcases h with⟨ho,db,fv,rs,h1,rfl,h3,rfl⟩|⟨ho,db,fv,rs,sp,lp,dp,tb,h1,rfl,rfl⟩
 ·have e:oZ s=(s,3):=by unfold oZ;rw[Aaa (by simp[ho])]
  rw[e];refine(KX h3).mono ?_;rintro e w' ⟨rfl,rfl⟩;exact⟨rfl,yO.at h0⟩
 ·have e:oZ s=({ s with aX:=false },0):=by unfold oZ;rw[Aad ho]
  rw[e];refine(KY h1.qu).mono ?_;rintro e w' ⟨rfl,hq,jY⟩;refine⟨rfl,FJ qp db fv rs,Aac ⟨rfl,db,fv,rs,aU.fr (s:=s) h1.disk jY.1 ?_,rfl,hq,rfl⟩,jY.1.mono ?_,jY.2,?_⟩
  ·rintro b hb rfl;exact h1.disk.other h1.qu (by decide) (by decide) (by decide) (by decide) hb
  ·rintro b rfl;exact Aac rfl
  ·rintro b (hb|hb)
   ·exact Aac (Aac hb)
   ·exact Aac (Aab (Aac hb))
theorem xlength (h:uI w qp s fs m X):H K 40 #[U (M ⟨qp,0,O⟩)] w fun e w'=>e=G (.tuple #[I V (if s.aX then sz m.1 else 0),I V (if s.aX then 0 else 3)])/\w'=w:=by
 rcases h with⟨ho,db,fv,rs,h1,rfl,h3,rfl⟩|⟨ho,db,fv,rs,sp,lp,dp,tb,h1,rfl,rfl⟩
 ·rw[ho];exact DN h3
 ·rw[ho];exact DR h1.qu h1.zT h1.Xh
theorem xdone (h:uI w qp s fs m X):H K 25 #[U (M ⟨qp,0,O⟩)] w fun e w'=>e=G (.tuple #[I V (if s.aX then m.2.2.2.1 else 0),I V (if s.aX then 0 else 3)])/\w'=w:=by
 rcases h with⟨ho,db,fv,rs,h1,rfl,h3,rfl⟩|⟨ho,db,fv,rs,sp,lp,dp,tb,h1,rfl,rfl⟩
 ·rw[ho];exact RA h3
 ·rw[ho];exact RD h1.qu h1.zT h1.Xh
theorem uI.num {s':Sc}(h:uI w qp s fs m X)(hs:s'.aX=s.aX/\s'.ro=s.ro/\iE s s')(hD:∀db fv rs,aU w db s fv rs->w.heap[qp]?=M (xG s.most s.depth db O)\/(∃sp,w.heap[qp]?=M (xG s.most s.depth db (M sp)))->aU w' db s' fv rs/\Og w w' db):yO w w' qp X (s',fs,m):=by
 obtain⟨e1,e2,e3,e4,-,e5⟩:=hs;rcases h with⟨ho,db,fv,rs,h1,rfl,h3,rfl⟩|⟨ho,db,fv,rs,sp,lp,dp,tb,h1,rfl,rfl⟩
 ·obtain⟨hd,jY⟩:=hD db fv rs h1 (Aac h3);refine⟨FJ qp db fv rs,Aac ⟨e1.trans ho,db,fv,rs,hd,rfl,?_,rfl⟩,jY.1.mono ?_,jY.2,fun b hb=>Aac hb⟩
  ·simp only;rw[e3,e4];exact jY.1.at h3 (aZ h3 h1.1 (by decide))
  ·rintro b rfl;exact Aab (Aac rfl)
 ·obtain⟨hd,jY⟩:=hD db fv rs h1.disk (Aab ⟨sp,h1.qu⟩);refine⟨Rs qp db fv rs sp lp dp tb,Aab ⟨e1.trans ho,db,fv,rs,sp,lp,dp,tb,⟨hd,?_,?_,?_,?_⟩,rfl,rfl⟩,jY.1.mono ?_,jY.2,fun b hb=>Aac hb⟩
  ·simp only;rw[e3,e4];exact jY.1.at h1.qu (aZ h1.qu h1.disk.1 (by decide))
  ·simp only;rw[e2];exact jY.1.at h1.zT (aZ h1.zT h1.disk.1 (by decide))
  ·simp only;rw[e5];exact jY.1.at h1.vF (aZ h1.vF h1.disk.1 (by decide))
  ·simp only;rw[e4];exact h1.Xh.off jY.1 h1.disk.1 (by decide) (by decide) (by decide) (by decide) (by decide)
  ·rintro b rfl;exact Aab (Aac (Aac rfl))
theorem uI.disk (h:uI w qp s fs m X):∃db fv rs o,aU w db s fv rs/\plain rs=fs/\w.heap[qp]?=M (xG s.most s.depth db o):=by
 rcases h with⟨ho,db,fv,rs,h1,rfl,h3,rfl⟩|⟨ho,db,fv,rs,sp,lp,dp,tb,h1,rfl,rfl⟩
 ·exact⟨db,fv,rs,O,h1,rfl,h3⟩
 ·exact⟨db,fv,rs,M sp,h1.disk,rfl,h1.qu⟩
theorem VU {db':Nat}{b:Int}{o o':Option Nat}(h:w.heap[qp]?=M (xG a b db o))(h':w.heap[qp]?=M (xG a b db' o')):db=db':=by
 rw[h]at h';unfold xG at h';simp at h';exact h'.1
theorem uI.num1 {s':Sc}{fv:Y}{o:Option Nat}(h:uI w qp s fs m X)(hq:w.heap[qp]?=M (xG s.most s.depth db o))(Sl:aU w db s fv rs)(hs:s'.aX=s.aX/\s'.ro=s.ro/\iE s s')(hb:∀fv,(∃rs,aU w db s fv rs)->∀rs,aU w db s fv rs->aU w' db s' fv rs)(jY:Og w w' db):yO w w' qp X (s',fs,m):=by
 refine h.num hs fun db' dV dP h1 h2=>?_
 have:db'=db:=by
  rcases h2 with h2|⟨sp,h2⟩
  ·exact VU h2 hq
  ·exact VU h2 hq
 subst this;exact⟨hb dV ⟨dP,h1⟩ dP h1,jY⟩
theorem xrefuse (h:uI w qp s fs m X):H K 27 #[U (M ⟨qp,0,O⟩),I V a] w fun e w'=>e=G (I V (oN s a).2)/\yO w w' qp X ((oN s a).1,fs,m):=by
 unfold oN;by_cases ha:a<0
 ·rw[Aad ha];refine(RF ha).mono ?_;rintro e w' ⟨rfl,rfl⟩;exact⟨rfl,yO.at h⟩
 ·rw[Aaa ha];obtain⟨db,fv,rs,o,h1,-,h3⟩:=h.disk;refine(KZ h3 h1 (by omega)).mono ?_;rintro e w' ⟨rfl,hd,jY⟩;refine⟨rfl,h.num1 h3 h1 ⟨rfl,rfl,iE.refl s⟩ (fun dV _ dP Mr=>?_) jY⟩;have hb:=hd.1;have e:dV=fv:=by have:=Mr.1.symm.trans h1.1;unfold jE at this;simp at this;exact this
  subst e;exact Mr.keep hb jY.1 (fun b _ hne=>hne)
theorem xcrash {b c:Int}(h:uI w qp s fs m X):H K 21 #[U (M ⟨qp,0,O⟩),I V a,I V b,I V c] w fun e w'=>e=G (I V (Dp s a b c).2)/\yO w w' qp X ((Dp s a b c).1,fs,m):=by
 unfold Dp;by_cases ha:a<0\/b<0\/c<0
 ·rw[Aad ha];refine(ZR ha).mono ?_;rintro e w' ⟨rfl,rfl⟩;exact⟨rfl,yO.at h⟩
 ·rw[Aaa ha];obtain⟨db,fv,rs,o,h1,-,h3⟩:=h.disk;refine(RG h3 h1 (by omega) (by omega) (by omega)).mono ?_;rintro e w' ⟨rfl,hd,jY⟩;refine⟨rfl,h.num1 h3 h1 ⟨rfl,rfl,iE.refl s⟩ (fun dV _ dP Mr=>?_) jY⟩;have hb:=hd.1;have e:dV=fv:=by have:=Mr.1.symm.trans h1.1;unfold jE at this;simp at this;exact this
  subst e;exact Mr.keep hb jY.1 (fun b _ hne=>hne)
theorem ximage (h:uI w qp s fs m X)(hB:BK s fs):H K 34 #[U (M ⟨qp,0,O⟩)] w fun e w'=> ∃g,e=G (Z (M ⟨g,0,O⟩) fs.length fs.length)/\iB w' w.heap.size (Z (M ⟨g,0,O⟩) fs.length fs.length) (fs.map (fun f=>(f.1,f.2.1)))/\aL w w':=by
 obtain⟨db,fv,rs,o,h1,rfl,h3⟩:=h.disk;have hI:=ai h1 (by have:=hB.len;rw[bN]at this;omega) hB.inv.sort.2;obtain⟨-,-,c2,-,-⟩:=eG h3;rw[bN];clear h h1 h3 hB;go_enter func34,ntmps34;go_wp2_with (go_at_call 59;refine hI.mono ?_;rintro e w' ⟨v,rfl,hv,hg⟩);go_ret;exact⟨_,rfl,hv,hg⟩
def Gj:List AF->Int->Int->Bool
 | [],_,_=>true
 |f::l,last,left=>if f.1<=last\/f.2.size=0\/left<(f.2.size:Int)then false else Gj l f.1 (left-(f.2.size:Int))
theorem LV:∀(l:List AF) (last left:Int),Gj l last left=true↔(l.Pairwise (fun a b=>a.1<b.1)/\(∀f∈l,last<f.1/\f.2.size≠0)/\(l=[]\/bV (l.map Hf)<=left))
 | [],last,left=>by simp[Gj]
 |f::l,last,left=>by
  unfold Gj;have hu:bV ((f::l).map Hf)=(f.2.size:Int)+bV (l.map Hf):=rfl;have hn:0<=bV (l.map Hf):=rC _;by_cases h:f.1<=last\/f.2.size=0\/left<(f.2.size:Int)
  ·rw[Aad h];simp only[AaD,false_iff];rintro⟨-,h2,h3⟩;have h4:=h2 f AdG;rcases h3 with h3|h3
   ·cases h3
   ·rw[hu]at h3;omega
  ·rw[Aaa h,LV l];constructor
   ·rintro⟨h1,h2,h3⟩;refine⟨AbE.2 ⟨fun g hg=>(h2 g hg).1,h1⟩,fun g hg=>?_,Aab ?_⟩
    ·rcases AaF.1 hg with rfl|hg
     ·omega
     ·have:=h2 g hg;omega
    ·rw[hu];rcases h3 with rfl|h3
     ·simp[bV];omega
     ·omega
   ·rintro⟨h1,h2,h3⟩;obtain⟨p1,p2⟩:=AbE.1 h1;refine⟨p2,fun g hg=>⟨p1 g hg,(h2 g (AcX _ hg)).2⟩,Aab ?_⟩;rcases h3 with h3|h3
    ·cases h3
    ·rw[hu]at h3;omega
theorem LW {room:Int}(h0:0<=room):Gj l (-1) room=decide (l.Pairwise (fun a b=>a.1<b.1)/\(∀f∈l,0<=f.1/\f.2.size≠0)/\bV (l.map (fun f=>(f.1,f.2,(f.2.size:Int))))<=room):=by
 rw[Bool.eq_iff_iff,LV,Abz];constructor
 ·rintro⟨h1,h2,h3⟩;refine⟨h1,fun f hf=>?_,?_⟩
  ·have:=h2 f hf;omega
  ·rcases h3 with rfl|h3
   ·simpa[bV]using h0
   ·exact h3
 ·rintro⟨h1,h2,h3⟩;exact⟨h1,fun f hf=>by have:=h2 f hf;omega,Aab h3⟩
theorem dmay_pg {fv:Y}{ao:Option Addr}{la ca:Nat}(h:aU w db s fv rs)(hr:Aw w ao l)(e1:la=l.length)(Jt:0<=s.room)(uP:s.room<=1000000)(Ow:l.length<=140737488355328)(Yw:∀g∈l,g.2.size<=140737488355328):
 H K 60 #[U (M ⟨db,0,O⟩),Z ao la ca] w fun e w'=>e=G (.bool (decide (l.length<=40) && Gj l (-1) s.room))/\aL w w':=by
 subst e1;obtain⟨c0,-⟩:=dJ h.1;by_cases h40:l.length<=40
 ·have z1:¬(40:Int)<(l.length:Int):=by omega
  have Fe:(decide (l.length<=40) && Gj l (-1) s.room)=Gj l (-1) s.room:=by simp[h40]
  rw[Fe];clear h Fe;go_enter func60,ntmps60;go_upto_region 3 with fail
  go_region
  go_wp2_with fail
  go_loopw [5,6,8,9,19] (fun la le _ _ i wr=> ∃(k:Nat) (last left:Int),k<=l.length/\la=I V last/\le=I V left/\i=I V (k:Int)/\0<=left/\left<=1000000/\Hid (aL w wr/\Gj l (-1) s.room=Gj (l.drop k) last left)) (fun _ _ _ _ i _=>l.length-(intOf i).toNat)
  case atStart=>exact⟨0,-1,s.room,Aap _,rfl,rfl,rfl,Jt,uP,(by repeat (first|exact aL.refl _|refine aL.drew ?_)),rfl⟩
  case round=>
   obtain⟨k,last,left,hk,rfl,rfl,rfl,l0,l1,HG⟩:=hrel;by_cases bP:k<l.length
   ·obtain⟨f,hf⟩:∃f,l[k]?=M f:=⟨_,Aag bP⟩;rcases hr with rfl|⟨g,off,rfl,hc⟩
    ·simp at bP
    ·obtain⟨d1,d2⟩:=hc k f hf;have d1:=HG.out.1.cell d1;have d2:=HG.out.1.cell d2;have i1:(0:Int)<=(k:Int):=(by omega);have i2:(k:Int)<(l.length:Int):=(by omega);have ji:=Yw f (Aai hf)
     have HN:Hid (Gj (l.drop k) last left=if f.1<=last\/f.2.size=0\/left<(f.2.size:Int)then false else Gj (l.drop (k+1)) f.1 (left-(f.2.size:Int))):=by
      show _=_;obtain⟨Rh,he⟩:=Aae.1 hf;rw[AaQ Rh,he,Gj]
     have HA:Hid (∀o,aL w (wr.alloc o)):=fun o=>HG.out.1.alloc o;obtain⟨fn,fb⟩:=f;simp only at d1 d2 ji HN;clear hc hf;by_cases c1:fn<=last
     ·have g1:decide (fn<=last)=true:=AaH c1;go_wp2_with fail;go_ret;refine⟨?_,HA.out _⟩;rw[HG.out.2,HN.out,Aad (Aac c1)];rfl
     ·have g1:decide (fn<=last)=false:=AaN c1;by_cases c2:(fb.size:Int)=0
      ·have g2:((fb.size:Int)==0)=true:=(by simp[c2]);go_wp2_with fail;go_ret;refine⟨?_,HA.out _⟩;rw[HG.out.2,HN.out,Aad (Aab (Aac (by omega)))];rfl
      ·have g2:((fb.size:Int)==0)=false:=Aat.2 c2;by_cases c3:left<(fb.size:Int)
       ·have g3:decide (left<(fb.size:Int))=true:=AaH c3;go_wp2_with fail;go_ret;refine⟨?_,HA.out _⟩;rw[HG.out.2,HN.out,Aad (Aab (Aab c3))];rfl
       ·have g3:decide (left<(fb.size:Int))=false:=AaN c3;go_wp2_with fail;go_roundw
        case rel=>
         refine⟨k+1,fn,left-(fb.size:Int),by omega,rfl,by go_num,by go_num,by omega,by omega,HA.out _,?_⟩;rw[HG.out.2,HN.out,Aaa (by omega)]
        case measure=>simp[intOf];omega
   ·go_wp2_with fail;go_ret;refine⟨?_,HG.out.1⟩;rw[HG.out.2,Acz (by omega)];rfl
 ·have z1:(40:Int)<(l.length:Int):=by omega
  have Fe:(decide (l.length<=40) && Gj l (-1) s.room)=false:=by simp[h40]
  rw[Fe];clear h Fe;go_enter func60,ntmps60;go_wp2_with fail;go_ret;exact⟨rfl,aL.refl w⟩
def VW (_:Nat)(p:Prop):Prop:=p
theorem nxs (i:Nat)(h:VW i p):p:=h
theorem nxj (j:Nat)(h:VW j p):VW i p:=h
theorem nxe (h:p):VW i p:=h
theorem VX {P:Program}{ops:Array Oper}{Q:Exit->Act->F->Prop}{md:Region.Mode}{S:F->Prop}{o:Oper}{n:Nat}{listed:Array Bool}{a:Act}(hi:ops[i]?=M o)(hB:(Region.noSelect ops && Region.free md ops listed i && (Region.ready md ops listed).contains i)=true)(hQ:∀c a w,Q (.panic c) (a.put o.dst v) w->Q (.panic c) a w)(hw:Region.wanted o (yielded ops a.tmps)=true)(hS:S w)(hy:∀w,S w->(execOp a.eval o).run P w= .ok (.value v) w)(h:VW (i+1) (wpAnyH P md ops Q S n (listed.setIfInBounds i true) (a.put o.dst v) w)):VW i (wpAnyH P md ops Q S (n+1) listed a w):=by
 simp only[Abf]at hB;exact wpAnyH_take hi hB.1.1 hB.1.2 hB.2 hQ (Aac ⟨hw,hy⟩) hS h
theorem bw_grew (w:F)(e:TypeId)(s:ByteArray):aL w (Lib.bytesWorld w e s):=
 ⟨by unfold Lib.bytesWorld World.freeze;split<;>rfl,by unfold Lib.bytesWorld World.freeze;split<;>rfl,by unfold Lib.bytesWorld World.freeze;split<;>rfl,by rw[AdA];omega,fun j hj=>Lib.bytesWorld_at_old w e s j hj⟩
theorem VY {g:Nat}(h:Og w w' g){a:Addr}(hc:w.cell? a=M v)(hn:a.block≠g):w'.cell? a=M v:=
 (AaO (h.1.2 a.block (Aaz _ _ hc) hn)).trans hc
theorem bw_own (w:F)(s:ByteArray)(hs:s.size<=maxLen):bI (Lib.bytesWorld w 5 s) w.heap.size (Z (M ⟨w.heap.size,0,O⟩) s.size (grownCap w s.size 0 5)) s.data.toList:=by
 have h1:=grownCap_ge w s.size 0 5;have e:s.data.toList.length=s.size:=by simp
 have hz:(Lib.bytesCells w 5 s).size=grownCap w s.size 0 5:=by
  unfold Lib.bytesCells;simp;omega
 refine Aab ⟨w.heap.size,_,_,_,by rw[e],Aak _,Lib.bytesWorld_at_new w 5 s,Aab rfl,by omega,grownCap_le_maxLen w _ _ _ hs,hz,?_⟩;unfold Lib.bytesCells Ij;rw[AcZ,Acs (by simp),Aaq (by simp)];simp
structure LdI (w wr:F)(db:Nat)(s:Sc)(v:Y)(rs:List FR)(l:List AF):Prop where
 zY:wr.heap[db]?=M (jE s v)
 row:wr.ownsRow w.heap.size 155 1 v rs.length (rs.map FR.p)
 fil:∀r∈rs,gP wr r/\w.heap.size<=r.b/\∀g,r.v.ownBlock=M g->w.heap.size<=g
 apart:rs.Pairwise mW
 plain:plain rs=l.map Hf
 og:Og w wr db
theorem Vj {ops:Array Oper}{o:Oper}{a:Act}{aA:Act->F->Prop}{Q:Exit->Act->F->Prop}{E:Prop}(qR:o.guard=O)(s x:Operand)
 (ho:o.op= .call { callee:= .builtin .append,args:=#[s,x],argTypes:=#[135,135] })
 (base:Nat)(v:Y)(n:Nat)(xs:List Y)(q:Y)(hs:a.eval s=v)(bD:w.ownsRow base 155 1 v n xs)(ad:Addr)(m c:Nat)(hx:a.eval x=Z (M ad) m c)(hm:m=1)(hr:w.cell? (ad.add 0)=M q)(hq:q.oneCell'=true)
 (hlen:n<=1000000)(iK:base<=w.heap.size)(db:Nat)(sc:Sc)(fv:Y)(Kv:w.heap[db]?=M (jE sc fv))(hnd:v.ownBlock≠M db)
 (h:∀Gq nH w',w'.ownsRow base 155 1 (Z Gq (n+1) nH) (n+1) (xs++ [q])->w.grownBy w' v.ownBlock->gN w v (Z Gq (n+1) nH)->w'.cell? ⟨db,1,O⟩=M fv->w'.frozen? ⟨db,1,O⟩=false->aA (a.put o.dst (Z Gq (n+1) nH)) w'):if Region.wanted o (yielded ops a.tmps)=true then Oper.wp K o a w aA Q else E:=by
 obtain⟨i0,hi,oG,nM,oP⟩:=AaW Tryz.infoPtr;subst hm
 obtain⟨v',w',yV,Wo,Cq,EY⟩:=wL (P:=K) w base 135 o.type 155 i0 (U O) 1 8 underlying135 hi oG nM oP rfl (by decide) v n xs bD ad 1 c [q] rfl (by
  intro j u hj;cases j with
  |zero=>simp at hj;subst hj;exact hr
  |succ j=>simp at hj) (by
  intro u hu;simp at hu;subst hu;exact hq) (by unfold maxLen;omega) (by omega) iK
 have hw:Region.wanted o (yielded ops a.tmps)=true:=by simp[Region.wanted,qR]
 rw[Aad hw];unfold Oper.wp execOp;simp only[ho,resolve,invoke,builtin,Aci,AcK,Acb,Ack,AaK,AbI,hs,hx,yV];have hdb':=(Cq.block db (aM Kv) (fun e=>hnd e.symm)).trans Kv;obtain⟨-,k1,-,-,-,-,-,-,kf⟩:=dJ hdb'
 obtain⟨Gq,nH,rfl⟩:∃Gq nH,v'=Z Gq (n+1) nH:=by
  rcases Wo.2 with⟨-,e⟩|⟨g,cap,aS,e,-⟩
  ·omega
  ·exact⟨_,_,e⟩
 exact h Gq nH w' Wo Cq EY k1 (kf 1)
theorem ldi_step {wr w1 w5:F}{gb cp fk:Nat}{v5:Y}{fn:Int}{fb:ByteArray}(HI:LdI w wr db s v rs l)(h1:aL wr w1)(XH:w1.heap.size=fk)(hgb:wr.heap.size<=gb)
 (ho:bI w1 0 (Z (M ⟨gb,0,O⟩) fb.size cp) fb.data.toList)
 (bD:w5.ownsRow w.heap.size 155 1 v5 (rs.length+1) (rs.map FR.p++ [U (M ⟨fk,0,O⟩)]))
 (hg:((w1.alloc (C #[I V fn,Z (M ⟨gb,0,O⟩) fb.size cp,I V (fb.size:Int)] 157)).alloc (C #[U (M ⟨fk,0,O⟩)] 155)).grownBy w5 v.ownBlock)
 (EY:gN ((w1.alloc (C #[I V fn,Z (M ⟨gb,0,O⟩) fb.size cp,I V (fb.size:Int)] 157)).alloc (C #[U (M ⟨fk,0,O⟩)] 155)) v v5):
 LdI w (w5.setCell ⟨db,1,O⟩ v5) db s v5 (rs++ [(fk,Z (M ⟨gb,0,O⟩) fb.size cp,(fn,fb,(fb.size:Int)))]) (l++ [(fn,fb)]):=by
 subst XH;obtain⟨h2,h3,h4,h5,h6,h7⟩:=HI;obtain⟨aF,hF⟩:∃aF,aF=Obj.cells #[I V fn,Z (M ⟨gb,0,O⟩) fb.size cp,I V (fb.size:Int)] 157:=⟨_,rfl⟩;obtain⟨R,hR⟩:∃R,R=Obj.cells #[U (M ⟨w1.heap.size,0,O⟩)] 155:=⟨_,rfl⟩;rw[<-hF,<-hR]at hg EY;have G2:=(h1.alloc aF).alloc R;have G1:=((aL.refl w1).alloc aF).alloc R;have hvt:∀g,v.ownBlock=M g->w.heap.size<=g/\g<wr.heap.size/\∃aS,wr.heap[g]?=M (C aS 155 (0,0)):=fun g e=>⟨(h3.lt g e).1,(h3.lt g e).2,jK h3 e⟩
 have hwl:=h1.size;have jW:((w1.alloc aF).alloc R).heap.size=w1.heap.size+2:=by rw[AaG,AaG]
 have hdl:=aM h2
 have keep:∀(b:Nat) (aS:Array Y) (t:TypeId) (mk:Nat×Nat),((w1.alloc aF).alloc R).heap[b]?=M (C aS t mk)->(∀g,v.ownBlock=M g->g≠b)->b≠db->(w5.setCell ⟨db,1,O⟩ v5).heap[b]?=M (C aS t mk):=fun b aS t mk hb h8 hbd=>by
  have h9:=(hg.block b (aM hb) (fun e=>h8 b e.symm rfl)).trans hb;exact(Fr.set w5 ⟨db,1,O⟩ v5).at h9 (fun e=>hbd e)
 have old:∀(b:Nat) (aS:Array Y) (t:TypeId) (mk:Nat×Nat),wr.heap[b]?=M (C aS t mk)->t≠155->t≠137->(w5.setCell ⟨db,1,O⟩ v5).heap[b]?=M (C aS t mk):=fun b aS t mk hb t1 t2=>by
  refine keep b aS t mk ((G2.block b (aM hb)).trans hb) (fun g e=>?_) (aZ hb h2 t2);obtain⟨-,-,c,hc⟩:=hvt g e;exact fun e2=>aZ hb hc t1 e2.symm
 have new:∀(b:Nat) (aS:Array Y) (t:TypeId) (mk:Nat×Nat),((w1.alloc aF).alloc R).heap[b]?=M (C aS t mk)->wr.heap.size<=b->(w5.setCell ⟨db,1,O⟩ v5).heap[b]?=M (C aS t mk):=fun b aS t mk hb hl=>
  keep b aS t mk hb (fun g e=>by have:=(hvt g e).2.1;omega) (by omega)
 have hdb5:w5.heap[db]?=M (jE s v):=by
  refine(hg.block db (by omega) (fun e=>?_)).trans ((G2.block db hdl).trans h2);obtain⟨-,-,c,hc⟩:=hvt db e.symm;exact aZ hc h2 (by decide) rfl
 have hv5:∀g,v5.ownBlock=M g->g≠db:=fun g e=>by
  rcases EY with e2|e2
  ·rw[e2]at e;obtain⟨-,-,c,hc⟩:=hvt g e;exact aZ hc h2 (by decide)
  ·have:=e2 g e;omega
 have hownN:=ho.aN G1;refine⟨by rw[Aaj w5 db 1 _ _ _ hdb5];rfl,?_,?_,?_,?_,?_⟩
 ·rw[Aah,Abb];exact bK bD (Fr.set w5 ⟨db,1,O⟩ v5) (fun g aS e _ e2=>hv5 g e e2)
 ·intro r hr;rcases Aba.1 hr with hr|hr
  ·obtain⟨⟨f1,f2⟩,f3,f4⟩:=h4 r hr;refine⟨⟨old _ _ _ _ f1 (by decide) (by decide),?_⟩,f3,f4⟩;rcases f2 with f2|⟨g,cap,aS,mk,e,f5,f6,f7⟩
   ·exact Aac f2
   ·exact Aab ⟨g,cap,aS,mk,e,f5,old _ _ _ _ f6 (by decide) (by decide),f7⟩
  ·simp at hr;subst hr;have hwl2:=h7.1.1;refine⟨⟨new _ _ _ _ (by show((w1.alloc aF).alloc R).heap[w1.heap.size]?=_;rw[Abv _ _ (by rw[AaG];omega),Aaf,hF];rfl) hwl,?_⟩,by show w.heap.size<=w1.heap.size;omega,fun g e=>?_⟩
   ·rcases hownN with⟨e,-⟩|⟨g,cap,aS,mk,e,f5,f6,f7⟩
    ·cases e
    ·have e':=e;simp only[Value.slice.injEq,AaU,Addr.mk.injEq]at e';obtain⟨⟨rfl,-⟩,-,-⟩:=e';exact Aab ⟨gb,cap,aS,mk,e,f5,new _ _ _ _ f6 hgb,f7⟩
   ·simp[FR.v,Value.ownBlock]at e;omega
 ·rw[Abd];refine⟨h5,by simp,fun r hr q hq=>?_⟩;simp at hq;subst hq;obtain⟨⟨f1,f2⟩,f3,f4⟩:=h4 r hr;have FB:=aM f1;refine⟨by show r.b≠w1.heap.size;omega,fun g e e2=>?_⟩;have h8:=(f2.lt g e).2;simp[FR.v,Value.ownBlock]at e2;omega
 ·unfold Go.Proofs.YtfplgfodoiiobaaGreatDoor.plain at*;rw[Abb,Abb,h6];rfl
 ·have o1:=h7.aN G2
  have o2:Og w w5 db:=by
   refine⟨⟨Aam o1.1.1 hg.size,fun b hb hne=>?_⟩,hg.os.trans o1.2.1,hg.tape.trans o1.2.2.1,hg.output.trans o1.2.2.2⟩;refine(hg.block b (AaC hb o1.1.1) (fun e=>?_)).trans (o1.1.2 b hb hne);have:=(hvt b e.symm).1;omega
  exact o2.set
set_option linter.unusedSimpArgs false in
theorem dload_pg {w:F} {db:Nat} {s:Sc} {fv:Y} {ao:Option Addr} {la ca:Nat} {l:List AF} (h:w.heap[db]?=M (jE s fv)) (hr:Aw w ao l) (hdr:∀a,ao=M a->a.block≠db) (e1:la=l.length) (hl:l.length<=40) (Yw:∀g∈l,g.2.size<=1000000):
 H K 61 #[U (M ⟨db,0,O⟩),Z ao la ca] w fun e w'=>e=G (.tuple #[])/\∃v rs,LdI w w' db s v rs l:=by
 subst e1;obtain⟨-,c1,-,-,-,-,-,-,cf⟩:=dJ h;have cf1:=cf 1;go_enter func61,ntmps61
 go_wp2
 go_loopw [5,11] (fun _ i wr=> ∃(k:Nat) (v:Y) (rs:List FR),k<=l.length/\i=I V (k:Int)/\Hid (LdI w wr db s v rs (l.take k))) (fun _ i _=>l.length-(intOf i).toNat)
 case atStart=>
  refine⟨0,Z O 0 0,[],Aap _,rfl,⟨by rw[Aaj w db 1 _ _ _ h];rfl,AaI _ _ _ _,(fun r hr=>by simp at hr),List.Pairwise.nil,rfl,(Og.refl w db).set⟩⟩
 case round=>
  obtain⟨k,v,rs,hk,rfl,HI⟩:=hrel;by_cases bP:k<l.length
  ·obtain⟨f,hf⟩:∃f,l[k]?=M f:=⟨_,Aag bP⟩;rcases hr with rfl|⟨g,off,rfl,hc⟩
   ·simp at bP
   ·obtain⟨d1,d2⟩:=hc k f hf;have qR:=hdr _ rfl;have d1:=VY HI.out.og d1 qR;have d2:=VY HI.out.og d2 qR;have i1:(0:Int)<=(k:Int):=(by omega);have i2:(k:Int)<(l.length:Int):=(by omega);have ji:=Yw f (Aai hf);obtain⟨-,x1,-,-,-,-,-,-,xf⟩:=dJ HI.out.zY;have iU:=HI.out.row
    have hvl:∀g,v.ownBlock=M g->g<wr.heap.size/\g≠db:=fun g e=>by
     obtain⟨c,hc⟩:=jK iU e;exact⟨aM hc,aZ hc HI.out.zY (by decide)⟩
    have hws:=HI.out.og.1.1;obtain⟨fn,fb⟩:=f;simp only at d1 d2 ji;clear hc cf1 cf c1;have hdl:=aM HI.out.zY;have hne:db≠wr.heap.size:=(by omega);obtain⟨w0,lH⟩:∃w0,w0=(wr.alloc (C #[I V fn,.string fb] 58)).drew:=⟨_,rfl⟩;obtain⟨w1,iY⟩:∃w1,w1=Lib.bytesWorld w0 5 fb:=⟨_,rfl⟩;obtain⟨cp,hcp⟩:∃cp,cp=grownCap w0 fb.size 0 5:=⟨_,rfl⟩;have VE:w0.heap.size=wr.heap.size+1:=by rw[lH];simp
    have hcv:(convert 9 153 (.string fb)).run K (wr.alloc (C #[I V fn,.string fb] 58)).drew= .ok (Z (M ⟨wr.heap.size+1,0,O⟩) fb.size cp) w1:=by
     rw[iY,hcp,<-VE,<-lH];exact Lib.run_convert_string_bytes (P:=K) w0 9 153 5 fb underlying9 underlying153 underlying5
    have sV:w1.heap.size=wr.heap.size+2:=(by rw[iY,AdA,VE]);have G0:aL wr w0:=(by rw[lH];exact aL.drew ((aL.refl wr).alloc _));have G1:aL w0 w1:=(by rw[iY];exact bw_grew w0 5 fb);have G01:=aL.more G0 G1
    have HO:Hid (bI w1 0 (Z (M ⟨wr.heap.size+1,0,O⟩) fb.size cp) fb.data.toList):=by
     show bI _ _ _ _;rw[iY,hcp,<-VE];exact(bw_own w0 fb (by unfold maxLen;omega)).mono (Aap _)
    have uU:w0.heap[wr.heap.size]?=M (C #[I V fn,.string fb] 58):=(by rw[lH];exact Aaf wr _);have y0:w1.cell? ⟨wr.heap.size,0,O⟩=M (I V fn):=G1.cell (by simp[World.cell?,uU]);have y1:w1.cell? ⟨wr.heap.size,1,O⟩=M (.string fb):=G1.cell (by simp[World.cell?,uU]);have y2:=G01.cell x1;have HG:Hid (aL wr w1):=G01;have z1:∀o,(w1.alloc o).cell? ⟨db,1,O⟩=M v:=fun o=>(G01.alloc o).cell x1;have z2:∀o p,((w1.alloc o).alloc p).cell? ⟨db,1,O⟩=M v:=fun o p=>((G01.alloc o).alloc p).cell x1;have Jw:M wr.heap.size≠v.ownBlock:=fun e=>by have:=(hvl _ e.symm).1;omega
    have hvd:v.ownBlock≠M db:=fun e=>(hvl _ e).2 rfl;have HV:Hid _:=hvl
    have HB:Hid (∀o p,((w1.alloc o).alloc p).heap[db]?=M (jE s v)):=fun o p=>by
     have g:=((HG.out.alloc o).alloc p);exact(g.block db hdl).trans HI.out.zY
    have HRw:Hid (∀o p,((w1.alloc o).alloc p).ownsRow w.heap.size 155 1 v rs.length (rs.map FR.p)):=fun o p=>(bK iU (Fr.cZ HG.out (fun _=>False)) (fun _ _ _ _=>id)).alloc o|>.alloc p
    have Gz:rs.length<=1000000:=by
     have:=congrArg List.length HI.out.plain;simp[plain]at this;omega
    have hrc:∀aF p,((w1.alloc aF).alloc (C #[p] 155)).cell? ((⟨wr.heap.size+2+1,0,O⟩:Addr).add 0)=M p:=fun aF p=>by
     have h8:=Aaf (w1.alloc aF) (C #[p] 155);rw[AaG,sV]at h8;simp[World.cell?,Addr.add,h8]
    have HN:Hid (l.take (k+1)=l.take k++ [(fn,fb)]):=by
     show _=_;obtain⟨Rh,he⟩:=Aae.1 hf;rw[Aau Rh,he]
    clear uU iY hcp lH VE G0 G1 G01 iU hvl h Yw hf hdr;go_upto_region 4 with fail;clear d1 d2;refine wp_region_held_drew (S:=fun w'=>w'.cell? ⟨wr.heap.size,0,O⟩=M (I V fn)/\w'.cell? ⟨wr.heap.size,1,O⟩=M (.string fb)) (by kernel_rfl) (by simp[*]) (fun hHeld=>?_);refine nxs 0 ?_
    iterate 4 (refine VX (v:=?_) rfl (by kernel_rfl) (fun _ _ _ h=>h) (by rfl) (by assumption) ?_ ?_;rotate_left;(focus (intro w hSw;(try dsimp only at hSw);go_simp;try with_reducible rfl));(try simp only[Act.put,Aal,Aas,Aar]))
    refine nxj 5 ?_
    iterate 4 (refine VX (v:=?_) rfl (by kernel_rfl) (fun _ _ _ h=>h) (by rfl) (by assumption) ?_ ?_;rotate_left;(focus (intro w hSw;(try dsimp only at hSw);go_simp;try with_reducible rfl));(try simp only[Act.put,Aal,Aas,Aar]))
    refine nxj 10 ?_
    iterate 3 (refine VX (v:=?_) rfl (by kernel_rfl) (fun _ _ _ h=>h) (by rfl) (by assumption) ?_ ?_;rotate_left;(focus (intro w hSw;(try dsimp only at hSw);go_simp;try with_reducible rfl));(try simp only[Act.put,Aal,Aas,Aar]))
    refine nxe ?_
    (refine Abj (rs:=[4,9]) (by kernel_rfl) (by simp) ?_;refine AaM rfl (fun aA hK=>?_) ?_;rotate_left;refine AaM rfl (fun aA hK=>?_) Abe;rotate_right;go_simp;(refine hK.out _ _ ?_ (fun hHeld=>?_);(focus ((try dsimp only);(first|(simp[*,World.cell?_alloc_some,World.cell?_setCell_far];done)|(exact⟨eO.cell (by simp[*]) Jw,eO.cell (by simp[*]) Jw⟩))));clear hK aA;try simp only[Act.put,Aal,Aas,Aar]);rotate_left;go_simp;(refine hK.out _ _ ?_ (fun hHeld=>?_);(focus ((try dsimp only);(first|(simp[*,World.cell?_alloc_some,World.cell?_setCell_far];done)|(exact⟨eO.cell (by simp[*]) Jw,eO.cell (by simp[*]) Jw⟩))));clear hK aA;try simp only[Act.put,Aal,Aas,Aar]);rotate_right)
    (refine Abj (rs:=[9]) (by kernel_rfl) (by simp) ?_;refine AaM rfl (fun aA hK=>?_) Abe;go_simp;(refine hK.out _ _ ?_ (fun hHeld=>?_);(focus ((try dsimp only);(first|(simp[*,World.cell?_alloc_some,World.cell?_setCell_far];done)|(exact⟨eO.cell (by simp[*]) Jw,eO.cell (by simp[*]) Jw⟩))));clear hK aA;try simp only[Act.put,Aal,Aas,Aar]))
    refine nxs 13 ?_
    (refine VX (v:=?_) rfl (by kernel_rfl) (fun _ _ _ h=>h) (by rfl) (by assumption) ?_ ?_;rotate_left;(focus (intro w hSw;(try dsimp only at hSw);go_simp;try with_reducible rfl));(try simp only[Act.put,Aal,Aas,Aar]))
    refine nxe ?_
    (refine Abj (rs:=[14]) (by kernel_rfl) (by simp) ?_;refine AaM rfl (fun aA hK=>?_) Abe;go_simp;(refine hK.out _ _ ?_ (fun hHeld=>?_);(focus ((try dsimp only);(first|(simp[*,World.cell?_alloc_some,World.cell?_setCell_far];done)|(exact⟨eO.cell (by simp[*]) Jw,eO.cell (by simp[*]) Jw⟩))));clear hK aA;try simp only[Act.put,Aal,Aas,Aar]))
    (refine Abj (rs:=[15]) (by kernel_rfl) (by simp) ?_;refine AaM rfl (fun aA hK=>?_) Abe;go_simp;(refine hK.out _ _ ?_ (fun hHeld=>?_);(focus ((try dsimp only);(first|(simp[*,World.cell?_alloc_some,World.cell?_setCell_far];done)|(exact⟨eO.cell (by simp[*]) Jw,eO.cell (by simp[*]) Jw⟩))));clear hK aA;try simp only[Act.put,Aal,Aas,Aar]))
    rotate_left
    refine nxs 13 ?_
    (refine VX (v:=?_) rfl (by kernel_rfl) (fun _ _ _ h=>h) (by rfl) (by assumption) ?_ ?_;rotate_left;(focus (intro w hSw;(try dsimp only at hSw);go_simp;try with_reducible rfl));(try simp only[Act.put,Aal,Aas,Aar]))
    refine nxe ?_
    (refine Abj (rs:=[4,14]) (by kernel_rfl) (by simp) ?_;refine AaM rfl (fun aA hK=>?_) ?_;rotate_left;refine AaM rfl (fun aA hK=>?_) Abe;rotate_right;go_simp;(refine hK.out _ _ ?_ (fun hHeld=>?_);(focus ((try dsimp only);(first|(simp[*,World.cell?_alloc_some,World.cell?_setCell_far];done)|(exact⟨eO.cell (by simp[*]) Jw,eO.cell (by simp[*]) Jw⟩))));clear hK aA;try simp only[Act.put,Aal,Aas,Aar]);rotate_left;go_simp;(refine hK.out _ _ ?_ (fun hHeld=>?_);(focus ((try dsimp only);(first|(simp[*,World.cell?_alloc_some,World.cell?_setCell_far];done)|(exact⟨eO.cell (by simp[*]) Jw,eO.cell (by simp[*]) Jw⟩))));clear hK aA;try simp only[Act.put,Aal,Aas,Aar]);rotate_right)
    (refine Abj (rs:=[14]) (by kernel_rfl) (by simp) ?_;refine AaM rfl (fun aA hK=>?_) Abe;go_simp;(refine hK.out _ _ ?_ (fun hHeld=>?_);(focus ((try dsimp only);(first|(simp[*,World.cell?_alloc_some,World.cell?_setCell_far];done)|(exact⟨eO.cell (by simp[*]) Jw,eO.cell (by simp[*]) Jw⟩))));clear hK aA;try simp only[Act.put,Aal,Aas,Aar]))
    (refine Abj (rs:=[15]) (by kernel_rfl) (by simp) ?_;refine AaM rfl (fun aA hK=>?_) Abe;go_simp;(refine hK.out _ _ ?_ (fun hHeld=>?_);(focus ((try dsimp only);(first|(simp[*,World.cell?_alloc_some,World.cell?_setCell_far];done)|(exact⟨eO.cell (by simp[*]) Jw,eO.cell (by simp[*]) Jw⟩))));clear hK aA;try simp only[Act.put,Aal,Aas,Aar]))
    rotate_left
    (refine Abj (rs:=[4,15]) (by kernel_rfl) (by simp) ?_;refine AaM rfl (fun aA hK=>?_) ?_;rotate_left;refine AaM rfl (fun aA hK=>?_) Abe;rotate_right;go_simp;(refine hK.out _ _ ?_ (fun hHeld=>?_);(focus ((try dsimp only);(first|(simp[*,World.cell?_alloc_some,World.cell?_setCell_far];done)|(exact⟨eO.cell (by simp[*]) Jw,eO.cell (by simp[*]) Jw⟩))));clear hK aA;try simp only[Act.put,Aal,Aas,Aar]);rotate_left;go_simp;(refine hK.out _ _ ?_ (fun hHeld=>?_);(focus ((try dsimp only);(first|(simp[*,World.cell?_alloc_some,World.cell?_setCell_far];done)|(exact⟨eO.cell (by simp[*]) Jw,eO.cell (by simp[*]) Jw⟩))));clear hK aA;try simp only[Act.put,Aal,Aas,Aar]);rotate_right)
    (refine Abj (rs:=[15]) (by kernel_rfl) (by simp) ?_;refine AaM rfl (fun aA hK=>?_) Abe;go_simp;(refine hK.out _ _ ?_ (fun hHeld=>?_);(focus ((try dsimp only);(first|(simp[*,World.cell?_alloc_some,World.cell?_setCell_far];done)|(exact⟨eO.cell (by simp[*]) Jw,eO.cell (by simp[*]) Jw⟩))));clear hK aA;try simp only[Act.put,Aal,Aas,Aar]))
    rotate_left
    (refine Abj (rs:=[4]) (by kernel_rfl) (by simp) ?_;refine AaM rfl (fun aA hK=>?_) Abe;go_simp;(refine hK.out _ _ ?_ (fun hHeld=>?_);(focus ((try dsimp only);(first|(simp[*,World.cell?_alloc_some,World.cell?_setCell_far];done)|(exact⟨eO.cell (by simp[*]) Jw,eO.cell (by simp[*]) Jw⟩))));clear hK aA;try simp only[Act.put,Aal,Aas,Aar]))
    all_goals
     (refine Abj (rs:=[16]) (by kernel_rfl) (by simp) ?_;refine AaM rfl (fun aA hK=>?_) Abe;refine Vj (by rfl) (.tmp 19) (.tmp 30) (by rfl) w.heap.size v rs.length (rs.map FR.p) (U (M ⟨wr.heap.size+2,0,O⟩)) (by rfl) (HRw.out _ _) ⟨wr.heap.size+2+1,0,O⟩ 1 1 (by first|rfl|(simp[Act.eval];done)) rfl (hrc _ _) rfl Gz (by simp;omega) db s v (HB.out _ _) hvd ?_;intro Vw cp5 w5 dK eO hsn5 k5 kf5;(refine hK.out _ _ ?_ (fun hHeld=>?_);(focus ((try dsimp only);(first|(simp[*,World.cell?_alloc_some,World.cell?_setCell_far];done)|(exact⟨eO.cell (by simp[*]) Jw,eO.cell (by simp[*]) Jw⟩))));clear hK aA;try simp only[Act.put,Aal,Aas,Aar]))
     refine nxs 17 ?_
     iterate 2 (refine VX (v:=?_) rfl (by kernel_rfl) (fun _ _ _ h=>h) (by rfl) (by assumption) ?_ ?_;rotate_left;(focus (intro w hSw;(try dsimp only at hSw);go_simp;try with_reducible rfl));(try simp only[Act.put,Aal,Aas,Aar]))
     refine nxe ?_
     (refine Abj (rs:=[19]) (by kernel_rfl) (by simp) ?_;refine AaM rfl (fun aA hK=>?_) Abe;go_simp;(refine hK.out _ _ ?_ (fun hHeld=>?_);(focus ((try dsimp only);(first|(simp[*,World.cell?_alloc_some,World.cell?_setCell_far];done)|(exact⟨eO.cell (by simp[*]) Jw,eO.cell (by simp[*]) Jw⟩))));clear hK aA;try simp only[Act.put,Aal,Aas,Aar]))
     refine wpAnyH_done (by kernel_rfl) ?_ _
    all_goals go_wp2_with fail
    all_goals
     go_roundw
     case rel=>
      have q:=ldi_step HI.out HG.out sV (by omega) HO.out dK eO hsn5;rw[<-HN.out]at q;exact⟨k+1,_,_,by omega,by go_num,q⟩
     case measure=>simp[intOf];omega
  ·go_wp2
   go_end0;rw[Aaq (by omega)]at HI;exact⟨rfl,v,rs,HI.out⟩
theorem pJ.more {N aK:Nat}(h:pJ N s fs)(hn:N<=aK):pJ aK s fs:=⟨h.cK,h.Cu,h.inv,Aam h.len hn⟩
theorem yO.same (h:uI w qp s fs m X)(hg:aL w w'):yO w w' qp X (s,fs,m):=⟨X,h.aN hg,Dk.bX hg⟩
end Go.Proofs.YtfplgfodoiiobaaGreatDoor
