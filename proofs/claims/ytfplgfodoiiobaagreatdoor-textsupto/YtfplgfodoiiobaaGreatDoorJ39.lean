/- QlX, QlU (joined). -/
import Derived.Test.YtfplgfodoiiobaaGreatDoorJ36
import Derived.Test.YtfplgfodoiiobaaGreatDoorJ38
open Option renaming none→O,some→M
open Go.Value renaming int→I,slice→Z,pointer→U
open Go.IntKind renaming i64→V
open Go.Obj renaming cells→C
open Go.Ending renaming returned→G
open Go renaming World→F,Value→Y,Calls→H
open Go.Proofs.Tryz renaming prog→K
namespace Go.Proofs.YtfplgfodoiiobaaGreatDoor
set_option maxHeartbeats 4000000
set_option maxRecDepth 100000
open Go.RowKit
variable {w:F}{qp db:Nat}{s:Sc}{fs:List bE}{m:dF}{X:Nat->Prop}{a:Int}
theorem Bj.at (h:tH w qp s fs m X):Bj w w qp X (s,fs,m):=⟨X,h,Dk.refl w X⟩
theorem xnew {most depth room:Int}(h:Bd most depth room):H K 33 #[I V most,I V depth,I V room] w fun e w'=> ∃X,e=G (.tuple #[U (M ⟨w.heap.size+1,0,O⟩),I V 0])/\tH w' (w.heap.size+1) (mD most depth room) [] Aa X/\(∀b,X b->w.heap.size<=b)/\aL w w':=by
 refine(vw h).mono ?_;rintro e w' ⟨rfl,rfl⟩;have g1:=(aL.refl w).alloc (C #[I V room,Z O 0 0,.bool false,I V 0,.bool false,I V 0,I V 0,I V 0] 137);have hn:=heap_alloc_new w (C #[I V room,Z O 0 0,.bool false,I V 0,.bool false,I V 0,I V 0,I V 0] 137);have g2:=(aL.refl (w.alloc (C #[I V room,Z O 0 0,.bool false,I V 0,.bool false,I V 0,I V 0,I V 0] 137))).alloc (xB most depth w.heap.size O);refine⟨IW (w.heap.size+1) w.heap.size (Z O 0 0) [],rfl,Or.inl ⟨rfl,w.heap.size,Z O 0 0,[],⟨?_,⟨by simp,Or.inl ⟨rfl,rfl⟩⟩,fun r hr=>by simp at hr,List.Pairwise.nil⟩,rfl,?_,rfl⟩,?_,g1.then g2⟩
 ·exact(g2.block _ (aM hn)).trans hn
 ·have:=heap_alloc_new (w.alloc (C #[I V room,Z O 0 0,.bool false,I V 0,.bool false,I V 0,I V 0,I V 0] 137)) (xB most depth w.heap.size O);rw[show(w.alloc (C #[I V room,Z O 0 0,.bool false,I V 0,.bool false,I V 0,I V 0,I V 0] 137)).heap.size=w.heap.size+1 by simp]at this;exact this
 ·rintro b (rfl|rfl|hb|⟨r,hr,-⟩)
  ·omega
  ·exact Nat.le_refl _
  ·simp[Value.ownBlock]at hb
  ·simp at hr
theorem xclose (h:tH w qp s fs m X):H K 32 #[U (M ⟨qp,0,O⟩)] w fun e w'=>e=G (I V (oG s).2)/\Bj w w' qp X ((oG s).1,fs,m):=by
 have h0:=h;rcases h with⟨ho,db,fv,rs,h1,rfl,h3,rfl⟩|⟨ho,db,fv,rs,sp,lp,dp,tb,h1,rfl,rfl⟩
 ·have e:oG s=(s,3):=by unfold oG;rw[if_neg (by simp[ho])]
  rw[e];refine(IK h3).mono ?_;rintro e w' ⟨rfl,rfl⟩;exact⟨rfl,Bj.at h0⟩
 ·have e:oG s=({ s with aX:=false },0):=by unfold oG;rw[if_pos ho]
  rw[e];refine(IL h1.qu).mono ?_;rintro e w' ⟨rfl,hq,nW⟩;refine⟨rfl,IW qp db fv rs,Or.inl ⟨rfl,db,fv,rs,aW.fr (s:=s) h1.disk nW.1 ?_,rfl,hq,rfl⟩,nW.1.mono ?_,nW.2,?_⟩
  ·rintro b hb rfl;exact h1.disk.other h1.qu (by decide) (by decide) (by decide) (by decide) hb
  ·rintro b rfl;exact Or.inl rfl
  ·rintro b (hb|hb)
   ·exact Or.inl (Or.inl hb)
   ·exact Or.inl (Or.inr (Or.inl hb))
theorem xlength (h:tH w qp s fs m X):H K 40 #[U (M ⟨qp,0,O⟩)] w fun e w'=>e=G (.tuple #[I V (if s.aX then sz m.1 else 0),I V (if s.aX then 0 else 3)])/\w'=w:=by
 rcases h with⟨ho,db,fv,rs,h1,rfl,h3,rfl⟩|⟨ho,db,fv,rs,sp,lp,dp,tb,h1,rfl,rfl⟩
 ·rw[ho];exact AA h3
 ·rw[ho];exact AB h1.qu h1.Nz h1.CW
theorem xdone (h:tH w qp s fs m X):H K 25 #[U (M ⟨qp,0,O⟩)] w fun e w'=>e=G (.tuple #[I V (if s.aX then m.2.2.2.1 else 0),I V (if s.aX then 0 else 3)])/\w'=w:=by
 rcases h with⟨ho,db,fv,rs,h1,rfl,h3,rfl⟩|⟨ho,db,fv,rs,sp,lp,dp,tb,h1,rfl,rfl⟩
 ·rw[ho];exact NU h3
 ·rw[ho];exact NV h1.qu h1.Nz h1.CW
theorem tH.num {w':F}{s':Sc}(h:tH w qp s fs m X)(hs:s'.aX=s.aX/\s'.ro=s.ro/\jP s s')(hD:∀db fv rs,aW w db s fv rs->w.heap[qp]?=M (xB s.most s.depth db O)\/(∃sp,w.heap[qp]?=M (xB s.most s.depth db (M sp)))->aW w' db s' fv rs/\Og w w' db):Bj w w' qp X (s',fs,m):=by
 obtain⟨e1,e2,e3,e4,-,e5⟩:=hs;rcases h with⟨ho,db,fv,rs,h1,rfl,h3,rfl⟩|⟨ho,db,fv,rs,sp,lp,dp,tb,h1,rfl,rfl⟩
 ·obtain⟨hd,nW⟩:=hD db fv rs h1 (Or.inl h3);refine⟨IW qp db fv rs,Or.inl ⟨e1.trans ho,db,fv,rs,hd,rfl,?_,rfl⟩,nW.1.mono ?_,nW.2,fun b hb=>Or.inl hb⟩
  ·simp only;rw[e3,e4];exact nW.1.at h3 (bB h3 h1.1 (by decide))
  ·rintro b rfl;exact Or.inr (Or.inl rfl)
 ·obtain⟨hd,nW⟩:=hD db fv rs h1.disk (Or.inr ⟨sp,h1.qu⟩);refine⟨CV qp db fv rs sp lp dp tb,Or.inr ⟨e1.trans ho,db,fv,rs,sp,lp,dp,tb,⟨hd,?_,?_,?_,?_⟩,rfl,rfl⟩,nW.1.mono ?_,nW.2,fun b hb=>Or.inl hb⟩
  ·simp only;rw[e3,e4];exact nW.1.at h1.qu (bB h1.qu h1.disk.1 (by decide))
  ·simp only;rw[e2];exact nW.1.at h1.Nz (bB h1.Nz h1.disk.1 (by decide))
  ·simp only;rw[e5];exact nW.1.at h1.Cs (bB h1.Cs h1.disk.1 (by decide))
  ·simp only;rw[e4];exact h1.CW.off nW.1 h1.disk.1 (by decide) (by decide) (by decide) (by decide) (by decide)
  ·rintro b rfl;exact Or.inr (Or.inl (Or.inl rfl))
theorem tH.disk (h:tH w qp s fs m X):∃db fv rs o,aW w db s fv rs/\plain rs=fs/\w.heap[qp]?=M (xB s.most s.depth db o):=by
 rcases h with⟨ho,db,fv,rs,h1,rfl,h3,rfl⟩|⟨ho,db,fv,rs,sp,lp,dp,tb,h1,rfl,rfl⟩
 ·exact⟨db,fv,rs,O,h1,rfl,h3⟩
 ·exact⟨db,fv,rs,M sp,h1.disk,rfl,h1.qu⟩
theorem SE {db':Nat}{b:Int}{o o':Option Nat}(h:w.heap[qp]?=M (xB a b db o))(h':w.heap[qp]?=M (xB a b db' o')):db=db':=by
 rw[h]at h';unfold xB at h';simp at h';exact h'.1
theorem tH.num1 {w':F}{s':Sc}{fv:Y}{rs:List FR}{o:Option Nat}(h:tH w qp s fs m X)(hq:w.heap[qp]?=M (xB s.most s.depth db o))(Uy:aW w db s fv rs)(hs:s'.aX=s.aX/\s'.ro=s.ro/\jP s s')(hb:∀fv,(∃rs,aW w db s fv rs)->∀rs,aW w db s fv rs->aW w' db s' fv rs)(nW:Og w w' db):Bj w w' qp X (s',fs,m):=by
 refine h.num hs fun db' fO eZ h1 h2=>?_
 have:db'=db:=by
  rcases h2 with h2|⟨sp,h2⟩
  ·exact SE h2 hq
  ·exact SE h2 hq
 subst this;exact⟨hb fO ⟨eZ,h1⟩ eZ h1,nW⟩
theorem xrefuse (h:tH w qp s fs m X):H K 27 #[U (M ⟨qp,0,O⟩),I V a] w fun e w'=>e=G (I V (nV s a).2)/\Bj w w' qp X ((nV s a).1,fs,m):=by
 unfold nV;by_cases ha:a<0
 ·rw[if_pos ha];refine(NW ha).mono ?_;rintro e w' ⟨rfl,rfl⟩;exact⟨rfl,Bj.at h⟩
 ·rw[if_neg ha];obtain⟨db,fv,rs,o,h1,-,h3⟩:=h.disk;refine(IQ h3 h1 (by omega)).mono ?_;rintro e w' ⟨rfl,hd,nW⟩;refine⟨rfl,h.num1 h3 h1 ⟨rfl,rfl,jP.refl s⟩ (fun fO _ eZ Kt=>?_) nW⟩;have hb:=hd.1;have e:fO=fv:=by have:=Kt.1.symm.trans h1.1;unfold jI at this;simp at this;exact this
  subst e;exact Kt.keep hb nW.1 (fun b _ hne=>hne)
theorem xcrash {b c:Int}(h:tH w qp s fs m X):H K 21 #[U (M ⟨qp,0,O⟩),I V a,I V b,I V c] w fun e w'=>e=G (I V (Ci s a b c).2)/\Bj w w' qp X ((Ci s a b c).1,fs,m):=by
 unfold Ci;by_cases ha:a<0\/b<0\/c<0
 ·rw[if_pos ha];refine(WA ha).mono ?_;rintro e w' ⟨rfl,rfl⟩;exact⟨rfl,Bj.at h⟩
 ·rw[if_neg ha];obtain⟨db,fv,rs,o,h1,-,h3⟩:=h.disk;refine(NY h3 h1 (by omega) (by omega) (by omega)).mono ?_;rintro e w' ⟨rfl,hd,nW⟩;refine⟨rfl,h.num1 h3 h1 ⟨rfl,rfl,jP.refl s⟩ (fun fO _ eZ Kt=>?_) nW⟩;have hb:=hd.1;have e:fO=fv:=by have:=Kt.1.symm.trans h1.1;unfold jI at this;simp at this;exact this
  subst e;exact Kt.keep hb nW.1 (fun b _ hne=>hne)
theorem ximage (h:tH w qp s fs m X)(hB:BK s fs):H K 34 #[U (M ⟨qp,0,O⟩)] w fun e w'=> ∃g,e=G (Z (M ⟨g,0,O⟩) fs.length fs.length)/\iC w' w.heap.size (Z (M ⟨g,0,O⟩) fs.length fs.length) (fs.map (fun f=>(f.1,f.2.1)))/\aL w w':=by
 obtain⟨db,fv,rs,o,h1,rfl,h3⟩:=h.disk;have hI:=WL h1 (by have:=hB.len;rw[bW]at this;omega) hB.inv.sort.2;obtain⟨-,-,c2,-,-⟩:=eY h3;rw[bW];clear h h1 h3 hB;go_enter Tryz.func34,Tryz.ntmps34
 go_wp2_with (go_at_call 59;refine hI.mono ?_;rintro e w' ⟨v,rfl,hv,hg⟩)
 go_ret;exact⟨_,rfl,hv,hg⟩
def Es:List AF->Int->Int->Bool
 | [],_,_=>true
 |f::l,last,left=>if f.1<=last\/f.2.size=0\/left<(f.2.size:Int)then false else Es l f.1 (left-(f.2.size:Int))
theorem JI:∀(l:List AF) (last left:Int),Es l last left=true↔(l.Pairwise (fun a b=>a.1<b.1)/\(∀f∈l,last<f.1/\f.2.size≠0)/\(l=[]\/bY (l.map Ez)<=left))
 | [],last,left=>by simp[Es]
 |f::l,last,left=>by
  unfold Es;have hu:bY ((f::l).map Ez)=(f.2.size:Int)+bY (l.map Ez):=rfl;have hn:0<=bY (l.map Ez):=qK _;by_cases h:f.1<=last\/f.2.size=0\/left<(f.2.size:Int)
  ·rw[if_pos h];simp only[Bool.false_eq_true,false_iff];rintro⟨-,h2,h3⟩;have h4:=h2 f List.mem_cons_self;rcases h3 with h3|h3
   ·cases h3
   ·rw[hu]at h3;omega
  ·rw[if_neg h,JI l];constructor
   ·rintro⟨h1,h2,h3⟩;refine⟨List.pairwise_cons.2 ⟨fun g hg=>(h2 g hg).1,h1⟩,fun g hg=>?_,Or.inr ?_⟩
    ·rcases List.mem_cons.1 hg with rfl|hg
     ·omega
     ·have:=h2 g hg;omega
    ·rw[hu];rcases h3 with rfl|h3
     ·simp[bY];omega
     ·omega
   ·rintro⟨h1,h2,h3⟩;obtain⟨p1,p2⟩:=List.pairwise_cons.1 h1;refine⟨p2,fun g hg=>⟨p1 g hg,(h2 g (List.mem_cons_of_mem _ hg)).2⟩,Or.inr ?_⟩;rcases h3 with h3|h3
    ·cases h3
    ·rw[hu]at h3;omega
theorem JJ {room:Int}{l:List AF}(h0:0<=room):Es l (-1) room=decide (l.Pairwise (fun a b=>a.1<b.1)/\(∀f∈l,0<=f.1/\f.2.size≠0)/\bY (l.map (fun f=>(f.1,f.2,(f.2.size:Int))))<=room):=by
 rw[Bool.eq_iff_iff,JI,decide_eq_true_eq];constructor
 ·rintro⟨h1,h2,h3⟩;refine⟨h1,fun f hf=>?_,?_⟩
  ·have:=h2 f hf;omega
  ·rcases h3 with rfl|h3
   ·simpa[bY]using h0
   ·exact h3
 ·rintro⟨h1,h2,h3⟩;exact⟨h1,fun f hf=>by have:=h2 f hf;omega,Or.inr h3⟩
theorem dmay_pg {fv:Y}{rs:List FR}{ao:Option Addr}{la ca:Nat}{l:List AF}(h:aW w db s fv rs)(hr:yS w ao l)(e1:la=l.length)(Hl:0<=s.room)(vB:s.room<=1000000)(Mt:l.length<=140737488355328)(Ww:∀g∈l,g.2.size<=140737488355328):
 H K 60 #[U (M ⟨db,0,O⟩),Z ao la ca] w fun e w'=>e=G (.bool (decide (l.length<=40) && Es l (-1) s.room))/\aL w w':=by
 subst e1;obtain⟨c0,-⟩:=dO h.1;by_cases h40:l.length<=40
 ·have z1:¬(40:Int)<(l.length:Int):=by omega
  have Pg:(decide (l.length<=40) && Es l (-1) s.room)=Es l (-1) s.room:=by simp[h40]
  rw[Pg];clear h Pg;go_enter Tryz.func60,Tryz.ntmps60
  go_upto_region 3 with fail
  go_region
  go_wp2_with fail
  go_loopw [5,6,8,9,19] (fun la le _ _ i wr=> ∃(k:Nat) (last left:Int),k<=l.length/\la=I V last/\le=I V left/\i=I V (k:Int)/\0<=left/\left<=1000000/\Hid (aL w wr/\Es l (-1) s.room=Es (l.drop k) last left)) (fun _ _ _ _ i _=>l.length-(intOf i).toNat)
  case atStart=>exact⟨0,-1,s.room,Nat.zero_le _,rfl,rfl,rfl,Hl,vB,(by repeat (first|exact aL.refl _|refine aL.drew ?_)),rfl⟩
  case round=>
   obtain⟨k,last,left,hk,rfl,rfl,rfl,l0,l1,HG⟩:=hrel;by_cases bT:k<l.length
   ·obtain⟨f,hf⟩:∃f,l[k]?=M f:=⟨_,List.getElem?_eq_getElem bT⟩;rcases hr with rfl|⟨g,off,rfl,hc⟩
    ·simp at bT
    ·obtain⟨d1,d2⟩:=hc k f hf;have d1:=HG.out.1.cell d1;have d2:=HG.out.1.cell d2;have i1:(0:Int)<=(k:Int):=by omega
     have i2:(k:Int)<(l.length:Int):=by omega
     have UD:=Ww f (List.mem_of_getElem? hf)
     have HN:Hid (Es (l.drop k) last left=if f.1<=last\/f.2.size=0\/left<(f.2.size:Int)then false else Es (l.drop (k+1)) f.1 (left-(f.2.size:Int))):=by
      show _=_;obtain⟨Zf,he⟩:=List.getElem?_eq_some_iff.1 hf;rw[List.drop_eq_getElem_cons Zf,he,Es]
     have HA:Hid (∀o,aL w (wr.alloc o)):=fun o=>HG.out.1.alloc o
     obtain⟨fn,fb⟩:=f;simp only at d1 d2 UD HN;clear hc hf;by_cases c1:fn<=last
     ·have g1:decide (fn<=last)=true:=decide_eq_true c1
      go_wp2_with fail
      go_ret;refine⟨?_,HA.out _⟩;rw[HG.out.2,HN.out,if_pos (Or.inl c1)];rfl
     ·have g1:decide (fn<=last)=false:=decide_eq_false c1;by_cases c2:(fb.size:Int)=0
      ·have g2:((fb.size:Int)==0)=true:=by simp[c2]
       go_wp2_with fail
       go_ret;refine⟨?_,HA.out _⟩;rw[HG.out.2,HN.out,if_pos (Or.inr (Or.inl (by omega)))];rfl
      ·have g2:((fb.size:Int)==0)=false:=beq_eq_false_iff_ne.2 c2;by_cases c3:left<(fb.size:Int)
       ·have g3:decide (left<(fb.size:Int))=true:=decide_eq_true c3
        go_wp2_with fail
        go_ret;refine⟨?_,HA.out _⟩;rw[HG.out.2,HN.out,if_pos (Or.inr (Or.inr c3))];rfl
       ·have g3:decide (left<(fb.size:Int))=false:=decide_eq_false c3
        go_wp2_with fail
        go_roundw
        case rel=>
         refine⟨k+1,fn,left-(fb.size:Int),by omega,rfl,by go_num,by go_num,by omega,by omega,HA.out _,?_⟩;rw[HG.out.2,HN.out,if_neg (by omega)]
        case measure=>simp[intOf];omega
   ·go_wp2_with fail
    go_ret;refine⟨?_,HG.out.1⟩;rw[HG.out.2,List.drop_eq_nil_of_le (by omega)];rfl
 ·have z1:(40:Int)<(l.length:Int):=by omega
  have Pg:(decide (l.length<=40) && Es l (-1) s.room)=false:=by simp[h40]
  rw[Pg];clear h Pg;go_enter Tryz.func60,Tryz.ntmps60
  go_wp2_with fail
  go_ret;exact⟨rfl,aL.refl w⟩
end Go.Proofs.YtfplgfodoiiobaaGreatDoor
