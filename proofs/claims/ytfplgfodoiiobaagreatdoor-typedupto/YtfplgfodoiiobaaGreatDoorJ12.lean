/- PgJ, PgK, PgL (joined). -/
import Derived.Test.YtfplgfodoiiobaaGreatDoorJ11
open Option renaming none→O,some→M
open Go.Value renaming int→I,slice→Z,pointer→U
open Go.IntKind renaming i64→V
open Go.Obj renaming cells→C
open Go.Ending renaming returned→G
open Go renaming World→F,Value→Y,Calls→H
open Go.Proofs.Tryz renaming prog→K
namespace Go.Proofs.YtfplgfodoiiobaaGreatDoor
set_option maxHeartbeats 4000000
set_option maxRecDepth 100000
open Go.RowKit
variable {w w':F}{rs:List FR}{r:FR}{db:Nat}{s:Sc}{fv:Y}
theorem jV.symm {s:FR}(h:jV r s):jV s r:=⟨fun e=>h.1 e.symm,fun g hs hr=>h.2 g hr hs⟩
theorem Ee (h:rs.Pairwise jV){i j:Nat}{s:FR}(hi:rs[i]?=M r)(hj:rs[j]?=M s)(hne:i≠j):jV r s:=by
 obtain⟨li,rfl⟩:=List.getElem?_eq_some_iff.1 hi;obtain⟨lj,rfl⟩:=List.getElem?_eq_some_iff.1 hj;rcases Nat.lt_or_gt_of_ne hne with bS|hgt
 ·exact List.pairwise_iff_getElem.1 h i j li lj bS
 ·exact(List.pairwise_iff_getElem.1 h j i lj li hgt).symm
theorem own_lt (h:eY w r){g:Nat}(hg:r.v.ownBlock=M g):g<w.heap.size:=(bB.lt h.2 g hg).2
theorem Ab (rs:List FR)(k:Nat)(r:FR):plain (rs.set k r)=(plain rs).set k r.f:=by simp[plain,List.map_set]
theorem aS.Ef {k:Nat}{r':FR}(h:aS w db s fv rs)(hk:rs[k]?=M r)(hb:r'.b=r.b)(hF:Fr w w' (fun b=>b=r.b\/r.v.ownBlock=M b))(ho:w'.os=w.os/\w'.tape=w.tape/\w'.output=w.output)
 (Kb:eY w' r')(hn:r'.v.ownBlock=r.v.ownBlock\/∀g,r'.v.ownBlock=M g->w.heap.size<=g):aS w' db s fv (rs.set k r')/\Dk w w' (DX db fv rs) (DX db fv (rs.set k r')):=by
 obtain⟨h1,h2,h3,h4⟩:=h;have OJ:=List.mem_of_getElem? hk;have hf:=h3 r OJ;obtain⟨KV,hke⟩:=List.getElem?_eq_some_iff.1 hk
 have hX:∀(b:Nat) (aQ:Array Y) (t:TypeId) (f:Nat×Nat),t≠157->t≠5->w.heap[b]?=M (C aQ t f)->¬(b=r.b\/r.v.ownBlock=M b):=by
  intro b aQ t f e1 e2 hb hx;rcases hx with rfl|hx
  ·exact aW hb hf.1 e1 rfl
  ·obtain⟨c,Ki,hc⟩:=bB.ty hf.2 hx;exact aW hb hc e2 rfl
 have hmap:(rs.set k r').map FR.p=rs.map FR.p:=by
  rw[List.map_set];apply List.ext_getElem?;intro i;rw[List.getElem?_set];by_cases hi:k=i
  ·subst hi;simp[KV,FR.p,hb,hke]
  ·simp[hi]
 refine⟨⟨hF.at h1 (hX _ _ _ _ (by decide) (by decide) h1),?_,?_,?_⟩,?_⟩
 ·unfold fJ;rw[hmap,List.length_set];exact bO h2 hF (fun g aQ _ hc=>hX _ _ _ _ (by decide) (by decide) hc)
 ·intro q hq;obtain⟨i,hi,rfl⟩:=List.getElem_of_mem hq;rw[List.getElem_set];by_cases Xh:k=i
  ·rw[if_pos Xh];exact Kb
  ·rw[if_neg Xh];have EB:i<rs.length:=by simpa using hi
   have Lv:=Ee h4 (List.getElem?_eq_getElem EB) hk (fun e=>Xh e.symm);have hq:=h3 rs[i] (List.getElem_mem EB);refine hq.fr hF (fun hx=>?_) (fun g hg hx=>?_)
   ·rcases hx with hx|hx
    ·exact Lv.1 hx
    ·obtain⟨c,Ki,hc⟩:=bB.ty hf.2 hx;exact aW hq.1 hc (by decide) rfl
   ·rcases hx with hx|hx
    ·obtain⟨c,Ki,hc⟩:=bB.ty hq.2 hg;exact aW hc hf.1 (by decide) hx
    ·exact Lv.2 g hg hx
 ·rw[List.pairwise_iff_getElem]
  have S_:∀i (hi:i<rs.length),i≠k->jV rs[i] r':=by
   intro i hi Xh;have Lv:=Ee h4 (List.getElem?_eq_getElem hi) hk Xh;refine⟨by rw[hb];exact Lv.1,fun g hg yE=>?_⟩;rcases hn with hn|hn
   ·exact Lv.2 g hg (hn ▸ yE)
   ·have:=own_lt (h3 rs[i] (List.getElem_mem hi)) hg;have:=hn g yE;omega
  intro i j hi hj N_;have EB:i<rs.length:=by simpa using hi
  have O_:j<rs.length:=by simpa using hj
  rw[List.getElem_set,List.getElem_set];by_cases Xh:k=i
  ·rw[if_pos Xh,if_neg (by omega)];exact(S_ j O_ (by omega)).symm
  ·rw[if_neg Xh];by_cases hjk:k=j
   ·rw[if_pos hjk];exact S_ i EB (by omega)
   ·rw[if_neg hjk];exact List.pairwise_iff_getElem.1 h4 i j EB O_ N_
 ·refine⟨hF.mono fun b hx=>Or.inr (Or.inr ⟨r,OJ,hx⟩),ho,fun b hx=>?_⟩;rcases hx with hx|hx|⟨q,hq,hx⟩
  ·exact Or.inl (Or.inl hx)
  ·exact Or.inl (Or.inr (Or.inl hx))
  ·rcases List.mem_or_eq_of_mem_set hq with hq|rfl
   ·exact Or.inl (Or.inr (Or.inr ⟨q,hq,hx⟩))
   ·rcases hx with hx|hx
    ·exact Or.inl (Or.inr (Or.inr ⟨r,OJ,Or.inl (by rw[hx,hb])⟩))
    ·rcases hn with hn|hn
     ·exact Or.inl (Or.inr (Or.inr ⟨r,OJ,Or.inr (hn ▸ hx)⟩))
     ·exact Or.inr (hn b hx)
theorem aS.setRow {w1:F}{dI:Y}{dH:List FR}(h:aS w db s fv rs)(je:Fr w w1 (fun b=>fv.ownBlock=M b))(Gy:w1.os=w.os/\w1.tape=w.tape/\w1.output=w.output)(gW:fJ w1 dI dH)(yE:dI.ownBlock=fv.ownBlock)(PG:dH.Sublist rs)(hw':w'=w1.setCell ⟨db,1,O⟩ dI):
 aS w' db s dI dH/\Dk w w' (DX db fv rs) (DX db dI dH):=by
 obtain⟨h1,h2,h3,h4⟩:=h
 have EC:∀b aQ t f,t≠155->w.heap[b]?=M (C aQ t f)->¬fv.ownBlock=M b:=fun b aQ t f ht hb e=>by
  obtain⟨c,hc⟩:=jE h2 e;exact aW hb hc ht rfl
 have Qm:w1.heap[db]?=M (jS s fv):=je.at h1 (EC _ _ _ _ (by decide) h1);have Mw:w'.heap[db]?=M (jS s dI):=by rw[hw',heap_setCell_same w1 db 1 _ _ _ Qm];rfl
 have hF:Fr w w' (fun b=>b=db\/fv.ownBlock=M b):=by
  rw[hw'];exact(je.mono fun b e=>Or.inr e).trans ((Fr.set w1 ⟨db,1,O⟩ dI).mono fun b e=>Or.inl e)
 refine⟨⟨Mw,?_,fun r hr=>?_,h4.sublist PG⟩,?_⟩
 ·rw[hw'];exact bO gW (Fr.set w1 ⟨db,1,O⟩ dI) (fun k aQ e hc hx=>aW hc Qm (by decide) hx)
 ·have hf:=h3 r (PG.subset hr);refine hf.fr hF (fun hx=>?_) (fun k hk hx=>?_)
  ·rcases hx with hx|hx
   ·exact aW hf.1 h1 (by decide) hx
   ·exact EC _ _ _ _ (by decide) hf.1 hx
  ·obtain⟨c,Ki,hc⟩:=bB.ty hf.2 hk;rcases hx with hx|hx
   ·exact aW hc h1 (by decide) hx
   ·exact EC _ _ _ _ (by decide) hc hx
 ·refine⟨hF.mono fun b hx=>?_,?_,fun b hx=>?_⟩
  ·rcases hx with rfl|hx
   ·exact Or.inl rfl
   ·exact Or.inr (Or.inl hx)
  ·rw[hw'];exact Gy
  ·rcases hx with hx|hx|⟨q,hq,hx⟩
   ·exact Or.inl (Or.inl hx)
   ·exact Or.inl (Or.inr (Or.inl (by rw[<-yE];exact hx)))
   ·exact Or.inl (Or.inr (Or.inr ⟨q,PG.subset hq,hx⟩))
theorem aS.LU {w1:F}{i:Nat}{dI:Y}(h:aS w db s fv rs)(Eg:jB w w1 fv dI rs i r)(hr:eY w r)(Lv:∀q∈rs,jV q r)(hw':w'=w1.setCell ⟨db,1,O⟩ dI):
 aS w' db s dI (rs.take i++r::rs.drop i)/\Dk w w' (fun b=>DX db fv rs b\/b=r.b\/r.v.ownBlock=M b) (DX db dI (rs.take i++r::rs.drop i)):=by
 obtain⟨h1,h2,h3,h4⟩:=h;obtain⟨i1,i2,i3⟩:=Eg
 have EC:∀b aQ t f,t≠155->w.heap[b]?=M (C aQ t f)->¬fv.ownBlock=M b:=fun b aQ t f ht hb e=>by
  obtain⟨c,hc⟩:=jE h2 e;exact aW hb hc ht rfl
 have Qm:w1.heap[db]?=M (jS s fv):=lT i2 h1 (EC _ _ _ _ (by decide) h1);have Mw:w'.heap[db]?=M (jS s dI):=by rw[hw',heap_setCell_same w1 db 1 _ _ _ Qm];rfl
 have hF:Fr w w' (fun b=>b=db\/fv.ownBlock=M b):=by
  rw[hw'];exact((Fr.jC i2).mono fun b e=>Or.inr e).trans ((Fr.set w1 ⟨db,1,O⟩ dI).mono fun b e=>Or.inl e)
 have Aw:∀q,eY w q->eY w' q:=fun q hf=>by
  refine hf.fr hF (fun hx=>?_) (fun k hk hx=>?_)
  ·rcases hx with hx|hx
   ·exact aW hf.1 h1 (by decide) hx
   ·exact EC _ _ _ _ (by decide) hf.1 hx
  ·obtain⟨c,Ki,hc⟩:=bB.ty hf.2 hk;rcases hx with hx|hx
   ·exact aW hc h1 (by decide) hx
   ·exact EC _ _ _ _ (by decide) hc hx
 refine⟨⟨Mw,?_,fun q hq=>?_,?_⟩,?_⟩
 ·rw[hw'];exact bO i1 (Fr.set w1 ⟨db,1,O⟩ dI) (fun k aQ e hc hx=>aW hc Qm (by decide) hx)
 ·rcases List.mem_append.1 hq with hq|hq
  ·exact Aw q (h3 q (List.mem_of_mem_take hq))
  ·rcases List.mem_cons.1 hq with rfl|hq
   ·exact Aw q hr
   ·exact Aw q (h3 q (List.mem_of_mem_drop hq))
 ·have h5:(rs.take i++rs.drop i).Pairwise jV:=by rw[List.take_append_drop];exact h4
  rw[List.pairwise_append]at h5;rw[List.pairwise_append,List.pairwise_cons];refine⟨h5.1,⟨fun q hq=>(Lv q (List.mem_of_mem_drop hq)).symm,h5.2.1⟩,fun a ha b hb=>?_⟩;rcases List.mem_cons.1 hb with rfl|hb
  ·exact Lv a (List.mem_of_mem_take ha)
  ·exact h5.2.2 a ha b hb
 ·refine⟨hF.mono fun b hx=>?_,?_,fun b hx=>?_⟩
  ·rcases hx with rfl|hx
   ·exact Or.inl (Or.inl rfl)
   ·exact Or.inl (Or.inr (Or.inl hx))
  ·rw[hw'];exact⟨i2.os,i2.tape,i2.output⟩
  ·rcases hx with hx|hx|⟨q,hq,hx⟩
   ·exact Or.inl (Or.inl (Or.inl hx))
   ·rcases i3 with e|e
    ·exact Or.inl (Or.inl (Or.inr (Or.inl (e ▸ hx))))
    ·exact Or.inr (e b hx)
   ·rcases List.mem_append.1 hq with hq|hq
    ·exact Or.inl (Or.inl (Or.inr (Or.inr ⟨q,List.mem_of_mem_take hq,hx⟩)))
    ·rcases List.mem_cons.1 hq with rfl|hq
     ·exact Or.inl (Or.inr hx)
     ·exact Or.inl (Or.inl (Or.inr (Or.inr ⟨q,List.mem_of_mem_drop hq,hx⟩)))
def mZ (r:FR):Bool:=r.f.2.1.size==0
theorem Zj (h:eY w r):H K 261 #[U (M ⟨r.b,0,O⟩)] w fun e w'=>e=G (.bool (mZ r))/\w'=w:=by
 obtain⟨-,f1,-⟩:=fO h.1;obtain⟨ao,cap,e,-⟩:=bB.form h.2;have hz:r.f.2.1.data.toList.length=r.f.2.1.size:=rfl;rw[e,hz]at f1;have HE:Hid (mZ r=(r.f.2.1.size==0)):=rfl;generalize r.f.2.1.size=z at f1 HE;clear e hz h;cases z with
 |zero=>
  go_enter Tryz.func261,Tryz.ntmps261
  go_wp2_with fail
  go_ret;rw[HE.out];exact⟨rfl,rfl⟩
 |succ z=>
  have hz:¬((z:Int)+1=0):=by omega
  go_enter Tryz.func261,Tryz.ntmps261
  go_wp2_with fail
  go_ret;rw[HE.out];refine⟨?_,rfl⟩;simp
  first|done|omega
def Uy (rs:List FR):Int:=match rs.findIdx? mZ with
 |some i=>(i:Int)
 |none=> -1
theorem VL {g cap:Nat}(hc:∀(i:Nat) (r:FR),rs[i]?=M r->w.cell? ⟨g,i,O⟩=M r.p)(hf:∀r∈rs,eY w r)(hl:rs.length<=1000000):
 H K 268 #[Z (M ⟨g,0,O⟩) rs.length cap,.func (.func 261) #[] #[]] w fun e w'=>e=G (I V (Uy rs))/\w'=w:=by
 have HC:Hid (∀(i:Nat) (r:FR),rs[i]?=M r->w.cell? ⟨g,i,O⟩=M r.p):=hc;have HF:Hid (∀r∈rs,eY w r):=hf;clear hc hf;go_enter Tryz.func268,Tryz.ntmps268
 go_wp2_with fail
 go_loop [5,8] (fun _ i=> ∃k:Nat,k<=rs.length/\i=I V (k:Int)/\Hid (∀j r,j<k->rs[j]?=M r->mZ r=false)) (fun _ i=>rs.length-(intOf i).toNat)
 case atStart=>exact⟨0,Nat.zero_le _,rfl,fun j r hj=>by omega⟩
 case round=>
  obtain⟨k,hk,rfl,HN⟩:=hrel;by_cases bS:k<rs.length
  ·obtain⟨r,hr⟩:∃r,rs[k]?=M r:=⟨_,List.getElem?_eq_getElem bS⟩;have c1:=HC.out _ r hr;unfold FR.p at c1;have dZ:=Zj (HF.out r (List.mem_of_getElem? hr));have HR:Hid (rs[k]?=M r):=hr;clear hr;have i1:(0:Int)<=(k:Int):=by omega
   have i2:(k:Int)<(rs.length:Int):=by omega
   cases hg:mZ r with
   |true=>
    rw[hg]at dZ
    have HE:Hid (Uy rs=(k:Int)):=by
     show _=_;unfold Uy
     have:rs.findIdx? mZ=M k:=by
      rw[List.findIdx?_eq_some_iff_getElem];obtain⟨q1,q2⟩:=List.getElem?_eq_some_iff.1 HR.out;exact⟨q1,by rw[q2,hg],fun j hj=>by simpa using HN.out j _ hj (List.getElem?_eq_getElem (by omega))⟩
     rw[this]
    clear hg
    go_wp2_with (go_at_call 261;refine dZ.mono ?_;rintro e w ⟨rfl,rfl⟩)
    go_ret;rw[HE.out];exact⟨rfl,rfl⟩
   |false=>
    rw[hg]at dZ;have HG:Hid (mZ r=false):=hg;clear hg
    go_wp2_with (go_at_call 261;refine dZ.mono ?_;rintro e w ⟨rfl,rfl⟩)
    go_round
    case rel=>exact⟨k+1,by omega,by go_num,fun j q hj hq=>by
     by_cases hjk:j=k
     ·subst hjk;rw[HR.out]at hq;cases hq;exact HG.out
     ·exact HN.out j q (by omega) hq⟩
    case measure=>simp[intOf];omega
  ·have HE:Hid (Uy rs= -1):=by
    show _=_;unfold Uy
    have:rs.findIdx? mZ=O:=by
     rw[List.findIdx?_eq_none_iff];intro r hr;obtain⟨j,hj,rfl⟩:=List.getElem_of_mem hr;exact HN.out j _ (by omega) (List.getElem?_eq_getElem hj)
    rw[this]
   go_wp2_with fail
   go_ret;rw[HE.out];exact⟨rfl,rfl⟩
def T_ (wr:F)(g cap:Nat)(rs:List FR)(i j:Nat):Prop:=∃aQ,wr.heap[g]?=M (C aQ 155 (0,0))/\aQ.size=cap/\aQ.toList.take i=((rs.take j).filter (fun r=>!mZ r)).map FR.p/\∀t r,j<=t->rs[t]?=M r->aQ.toList[t]?=M r.p
theorem wQ {k:Nat}(h:rs[k]?=M r)(p:FR->Bool):(rs.take (k+1)).filter p=(rs.take k).filter p++(if p r then [r]else []):=by
 obtain⟨bS,he⟩:=List.getElem?_eq_some_iff.1 h;rw[List.take_succ_eq_append_getElem bS,List.filter_append,he];simp[List.filter_cons]
theorem PI {ao:Option Addr}{cap:Nat}{fn:Y}:
 H K 268 #[Z ao 0 cap,fn] w fun e w'=>e=G (I V (-1))/\w'=w:=by
 go_enter Tryz.func268,Tryz.ntmps268
 go_wp2_with fail
 go_loop [5,8] (fun _ i=>i=I V 0) (fun _ _=>0)
 case atStart=>rfl
 case round=>
  subst hrel
  go_wp2_with fail
  go_ret;exact⟨rfl,rfl⟩
def Je (rs:List FR):List FR:=rs.filter (fun r=>!mZ r)
def Uz (w w':F)(v v':Y)(rs:List FR):Prop:=fJ w' v' (Je rs)/\v'.ownBlock=v.ownBlock/\Fr w w' (fun b=>v.ownBlock=M b)/\w'.os=w.os/\w'.tape=w.tape/\w'.output=w.output
theorem GJ {v:Y}(h:fJ w v rs)(hf:∀r∈rs,eY w r)(hl:rs.length<=1000000):
 H K 260 #[v,.func (.func 261) #[] #[]] w fun e w'=> ∃v',e=G v'/\Uz w w' v v' rs:=by
 have HO:Hid (fJ w v rs):=h;obtain⟨ao,cap,rfl,gG,hm,gJ,gW⟩:=fJ.form h;cases ao with
 |none=>
  obtain⟨rfl,rfl⟩:=gJ rfl;have hI:H K 268 #[Z O 0 0,.func (.func 261) #[] #[]] w fun e w'=>e=G (I V (-1))/\w'=w:=PI
  clear h gW gJ hf;go_enter Tryz.func260,Tryz.ntmps260
  go_wp2_with fail
  refine hI.mono ?_;rintro e w ⟨rfl,rfl⟩
  go_wp2_with fail
  go_ret;exact⟨_,rfl,HO.out,rfl,Fr.refl _ _,rfl,rfl,rfl⟩
 |some a=>
  obtain⟨g,aQ,rfl,hg,hcs,Un,hc⟩:=gW a rfl;have hI:=VL (cap:=cap) hc hf hl;have HF:Hid (∀r∈rs,eY w r):=hf;have LA:aQ.toList.length=cap:=by simpa using hcs
  cases he:rs.findIdx? mZ with
  |none=>
   have e1:Uy rs= -1:=by unfold Uy;rw[he]
   rw[e1]at hI
   have HK:Hid (Je rs=rs):=by
    show _=_;unfold Je;rw[List.filter_eq_self];intro r hr;rw[List.findIdx?_eq_none_iff]at he;rw[he r hr];rfl
   clear h gW gJ hf hc Un he e1;go_enter Tryz.func260,Tryz.ntmps260
   go_wp2_with fail
   refine hI.mono ?_;rintro e w ⟨rfl,rfl⟩
   go_wp2_with fail
   go_ret;exact⟨_,rfl,by unfold Uz;rw[HK.out];exact⟨HO.out,rfl,Fr.refl _ _,rfl,rfl,rfl⟩⟩
  |some i0=>
   have e1:Uy rs=(i0:Int):=by unfold Uy;rw[he]
   rw[e1]at hI;obtain⟨qj,U_,hbef⟩:=List.findIdx?_eq_some_iff_getElem.1 he
   have hK0:(rs.take (i0+1)).filter (fun r=>!mZ r)=rs.take i0:=by
    rw[wQ (List.getElem?_eq_getElem qj),U_];simp only[Bool.not_true,Bool.false_eq_true,if_false,List.append_nil];rw[List.filter_eq_self];intro r hr;obtain⟨j,hj,rfl⟩:=List.getElem_of_mem hr;have O_:j<i0:=by simp at hj;omega
    have:=hbef j O_;rw[List.getElem_take];simpa using this
   have HD0:Hid (T_ w g cap rs i0 (i0+1)):=by
    refine⟨aQ,hg,hcs,?_,fun t r ht hr=>?_⟩
    ·rw[hK0,List.map_take,<-Un,List.take_take,Nat.min_eq_left (by omega)]
    ·have:=hc t r hr;rw[(fP hg t).1]at this;exact this
   have HL0:Hid (((rs.take (i0+1)).filter (fun r=>!mZ r)).length=i0):=by show _=_;rw[hK0,List.length_take];omega
   have hi1:((i0:Int)== -1)=false:=by rw[beq_eq_false_iff_ne];omega
   have htyg:w.heap[g]?=M (C aQ 155 (0,0)):=hg;clear h gW gJ hf hc Un he e1 U_ hbef hK0 hg;go_enter Tryz.func260,Tryz.ntmps260
   go_wp2_with fail
   refine hI.mono ?_;rintro e w ⟨rfl,rfl⟩
   go_wp2_with fail
   go_loopw [5,6,7] (fun s5 s6 _ wr=> ∃i j:Nat,s5=I V (i:Int)/\s6=I V (j:Int)/\i<j/\j<=rs.length/\Hid (((rs.take j).filter (fun r=>!mZ r)).length=i)/\Hid (T_ wr g cap rs i j)/\Hid (Og w wr g)) (fun _ s6 _ _=>rs.length-(intOf s6).toNat)
   case atStart=>exact⟨i0,i0+1,rfl,by go_num,by omega,by omega,HL0,HD0,Og.refl w g⟩
   case round=>
    obtain⟨i,j,rfl,rfl,N_,hj,HL,HD,HG⟩:=hrel;by_cases bS:j<rs.length
    ·obtain⟨r,hr⟩:∃r,rs[j]?=M r:=⟨_,List.getElem?_eq_getElem bS⟩;have HR:Hid (rs[j]?=M r):=hr;obtain⟨oO,g1,g2,g3,g4⟩:=HD.out;have c1:wr.cell? ⟨g,j,O⟩=M r.p:=(fP g1 j).1.trans (g4 j r (Nat.le_refl _) hr);have c2:∃u,wr.cell? ⟨g,i,O⟩=M u:=⟨oO.toList[i]'(by simp;omega),by rw[(fP g1 i).1];exact List.getElem?_eq_getElem _⟩;obtain⟨u,c2⟩:=c2;have c3:wr.frozen? ⟨g,i,O⟩=false:=(fP g1 i).2
     have Sq:eY wr r:=by
      have hq:=HF.out r (List.mem_of_getElem? hr);refine hq.fr HG.out.1 (fun e=>aW hq.1 htyg (by decide) e) (fun k hk e=>?_);obtain⟨c,Ki,hc⟩:=bB.ty hq.2 hk;exact aW hc htyg (by decide) e
     have dZ:=Zj Sq;unfold FR.p at c1;have i1:(0:Int)<=(j:Int):=by omega
     have i2:(j:Int)<(rs.length:Int):=by omega
     have i3:(0:Int)<=(i:Int):=by omega
     have i4:(i:Int)<(rs.length:Int):=by omega
     clear hr g1 g2 g3 g4 Sq;cases jf:mZ r with
     |true=>
      rw[jf]at dZ
      have HN:Hid ((rs.take (j+1)).filter (fun r=>!mZ r)=(rs.take j).filter (fun r=>!mZ r)):=by
       show _=_;rw[wQ HR.out,jf];simp
      clear jf
      go_wp2_with (go_at_call 261;refine dZ.mono ?_;rintro e wr ⟨rfl,rfl⟩)
      go_roundw
      case rel=>
       obtain⟨oO,g1,g2,g3,g4⟩:=HD.out;exact⟨i,j+1,rfl,by go_num,by omega,by omega,by show _=_;rw[HN.out];exact HL.out,⟨oO,g1,g2,by rw[HN.out];exact g3,fun t q ht hq=>g4 t q (by omega) hq⟩,HG⟩
      case measure=>simp[intOf];omega
     |false=>
      rw[jf]at dZ
      have HN:Hid ((rs.take (j+1)).filter (fun r=>!mZ r)=(rs.take j).filter (fun r=>!mZ r)++ [r]):=by
       show _=_;rw[wQ HR.out,jf];simp
      clear jf
      go_wp2_with (go_at_call 261;refine dZ.mono ?_;rintro e wr ⟨rfl,rfl⟩)
      go_roundw
      case rel=>
       obtain⟨oO,g1,g2,g3,g4⟩:=HD.out;have GH:oO.toList.length=cap:=by simpa using g2
       refine⟨i+1,j+1,by go_num,by go_num,by omega,by omega,?_,?_,HG.out.set⟩
       ·show _=_;rw[HN.out,List.length_append,HL.out];rfl
       ·refine⟨oO.setIfInBounds i r.p,heap_setCell_same _ g i oO _ _ g1,by simpa using g2,?_,fun t q ht hq=>?_⟩
        ·have e0:(oO.setIfInBounds i r.p).toList=oO.toList.set i r.p:=by simp
         rw[e0,(Sk oO.toList i r.p 0 (by omega)).1,g3,HN.out,List.map_append];rfl
        ·have e0:(oO.setIfInBounds i r.p).toList=oO.toList.set i r.p:=by simp
         rw[e0,List.getElem?_set,if_neg (by omega)];exact g4 t q (by omega) hq
      case measure=>simp[intOf];omega
    ·obtain rfl:j=rs.length:=by omega
     obtain⟨oO,g1,g2,g3,g4⟩:=HD.out;have GH:oO.toList.length=cap:=by simpa using g2
     have ql:∀ty,(Builtin.clear_ #[135] ty #[Z (M ⟨g,i,O⟩) (rs.length-i) (cap-i)]).run K wr= .ok (.tuple #[]) (wr.setCells g i (List.replicate (rs.length-i) (U O))):=
      fun ty=>Lib.run_clear_slice wr _ _ ty _ Tryz.underlying135 Zg rfl rfl g _ _ _ (by omega) (fun t ht=>by rw[(fP g1 _).1];simp;rw[g2];omega) (fun t ht=>(fP g1 _).2)
     obtain⟨Gx,k1,k2⟩:=gZ g 155 (List.replicate (rs.length-i) (U O)) i wr oO g1 (by rw[List.length_replicate,g2];omega);have jY:=Og.cells g (List.replicate (rs.length-i) (U O)) i HG.out
     have VN:Hid (Uz w (wr.setCells g i (List.replicate (rs.length-i) (U O))) (Z (M ⟨g,0,O⟩) rs.length cap) (Z (M ⟨g,0,O⟩) i cap) rs):=by
      have e0:Je rs=(rs.take rs.length).filter (fun r=>!mZ r):=by rw[List.take_length];rfl
      have e1:(Je rs).length=i:=by rw[e0];exact HL.out
      refine⟨⟨by simp,Or.inr ⟨g,cap,Gx,by rw[e1],Nat.zero_le _,k1,by rw[e1];omega,hm,?_,?_⟩⟩,rfl,jY.1.mono fun b e=>by rw[e];rfl,jY.2⟩
      ·have:Gx.toList.length=cap:=by rw[k2];simp;omega
       simpa using this
      ·rw[e1,Nat.mul_one,k2,List.append_assoc,List.take_left' (by rw[List.length_take,GH];omega),g3,e0]
     generalize wr.setCells g i (List.replicate (rs.length-i) (U O))=w9 at ql VN;have i3:(0:Int)<=(i:Int):=by omega
     have i4:(i:Int)<=(rs.length:Int):=by omega
     have i5:¬cap=i:=by omega
     have i6:i<=cap:=by omega
     have i7:i<=rs.length:=by omega
     clear g1 g2 g3 g4 k1 k2 jY
     go_wp2_with fail
     go_ret;exact⟨_,rfl,VN.out⟩
def GK (w wr:F)(db:Nat)(s:Sc)(fv:Y)(rs:List FR)(k:Nat)(done:List FR):Prop:=
 done.length=k/\plain done=((plain rs).take k).map (jK s.one s.rest)/\aS wr db s fv (done++rs.drop k)/\Dk w wr (DX db fv rs) (DX db fv (done++rs.drop k))
theorem VO {one rest:Int}{f:bE}(h:okF f)(h1:0<=one)(h2:0<=rest):0<=vC one rest f/\vC one rest f<=(f.2.1.size:Int):=by
 unfold okF at h;unfold vC;split<;>split at* <;>omega
theorem qz (h:aS w db s fv rs)(hl:rs.length<=1000000)(kV:∀f∈plain rs,okF f)(h1:0<=s.one)(h2:0<=s.rest)(h3:s.one<=9223372036854775807)(h4:s.rest<=9223372036854775807):
 H K 250 #[U (M ⟨db,0,O⟩)] w fun e w'=>e=G (.tuple #[])/\∃dI dH,aS w' db s dI dH/\plain dH=((plain rs).map (jK s.one s.rest)).filter (fun f=>f.2.1.size !=0)/\Dk w w' (DX db fv rs) (DX db dI dH):=by
 obtain⟨-,c1,-⟩:=dP h.1;obtain⟨ao,cap,rfl,gG,hm,gJ,gW⟩:=fJ.form h.2.1;have HS:Hid (GK w w db s (Z ao rs.length cap) rs 0 []):=⟨rfl,by simp[plain],by simpa using h,by simpa using Dk.refl w _⟩;have HK:Hid (∀f∈plain rs,okF f):=kV;clear h gW kV;go_enter Tryz.func250,Tryz.ntmps250
 go_wp2_with fail
 go_loopw [3,4,10] (fun _ _ i wr=> ∃(k:Nat) (done:List FR),i=I V (k:Int)/\k<=rs.length/\Hid (GK w wr db s (Z ao rs.length cap) rs k done)) (fun _ _ i _=>rs.length-(intOf i).toNat)
 case atStart=>exact⟨0,[],rfl,Nat.zero_le _,HS⟩
 case round=>
  obtain⟨k,done,rfl,hk,HL⟩:=hrel;obtain⟨q1,q2,q3,q4⟩:=HL.out;by_cases bS:k<rs.length
  ·obtain⟨r,hr⟩:∃r,rs[k]?=M r:=⟨_,List.getElem?_eq_getElem bS⟩
   have hrk:(done++rs.drop k)[k]?=M r:=by
    rw[List.getElem?_append_right (by omega),q1,Nat.sub_self,List.getElem?_drop,Nat.add_zero,hr]
   have Sq:=q3.2.2.1 r (List.mem_of_getElem? hrk);obtain⟨ao2,Jr,q5,hcap2,hm2,hnil2,V_⟩:=fJ.form q3.2.1;cases ao with
   |none=>obtain⟨rfl,-⟩:=gJ rfl;simp at bS
   |some a=>
    injection q5 with e1 e2 e3;subst e1;clear e2 e3;obtain⟨g,aQ,rfl,-,-,-,hc⟩:=V_ a rfl;have d1:=hc k r hrk;unfold FR.p at d1;obtain⟨d0,d2,d3,df⟩:=fO Sq.1;obtain⟨xU,jT,q6,-⟩:=bB.form Sq.2;have hz:r.f.2.1.data.toList.length=r.f.2.1.size:=rfl;rw[q6,hz]at d2;obtain⟨-,-,-,-,-,-,e6,e7,-⟩:=dP q3.1;have PK:okF r.f:=HK.out _ (List.mem_of_getElem? (iL hr));have hb:=VO PK h1 h2;obtain⟨n,hn⟩:=Int.eq_ofNat_of_zero_le hb.1
    have HC:Hid (∀W:F,aK wr W->H K 237 #[U (M ⟨r.b,0,O⟩),I V (vC s.one s.rest r.f)] W fun e w'=>e=G (.tuple #[])/\∃done',GK w w' db s (Z (M ⟨g,0,O⟩) rs.length cap) rs (k+1) done'):=fun W hW=>by
     rw[hn];refine(LM (n:=n) (⟨(hW.block _ (aL Sq.1)).trans Sq.1,Sq.2.aM hW⟩:eY W r) (by omega) (by unfold okF at PK;omega)).mono ?_;rintro e w' ⟨rfl,v',hF,jY,VP⟩;refine⟨rfl,done++ [(r.b,v',jK s.one s.rest r.f)],?_⟩;have ql:jK s.one s.rest r.f=(r.f.1,r.f.2.1.extract 0 n,(n:Int)):=by unfold jK;rw[hn];rfl
     rw[ql];obtain⟨p1,p2⟩:=(q3.aM hW).Ef (r':=(r.b,v',(r.f.1,r.f.2.1.extract 0 n,(n:Int)))) hrk rfl (jY.1.mono fun b e=>Or.inl e) jY.2 hF (Or.inr VP)
     have hset:(done++rs.drop k).set k (r.b,v',(r.f.1,r.f.2.1.extract 0 n,(n:Int)))=(done++ [(r.b,v',(r.f.1,r.f.2.1.extract 0 n,(n:Int)))])++rs.drop (k+1):=by
      rw[List.set_append_right _ _ (by omega),q1,Nat.sub_self,List.append_assoc];congr 1;rw[List.drop_eq_getElem_cons bS];rfl
     rw[hset]at p1 p2;refine⟨by simp[q1],?_,p1,(q4.aM hW).trans p2⟩;have:plain (done++ [(r.b,v',(r.f.1,r.f.2.1.extract 0 n,(n:Int)))])=plain done++ [(r.f.1,r.f.2.1.extract 0 n,(n:Int))]:=by simp[plain,FR.f]
     rw[this,q2,<-ql,List.take_succ_eq_append_getElem (by rw[bG];exact bS),List.map_append]
     have jA:(plain rs)[k]'(by rw[bG];exact bS)=r.f:=by
      have:=iL hr;exact(List.getElem?_eq_some_iff.1 this).2
     rw[jA];rfl
    have i1:(0:Int)<=(k:Int):=by omega
    have i2:(k:Int)<(rs.length:Int):=by omega
    unfold okF at PK
    have HN1:Hid (vC s.one s.rest r.f=r.f.2.2+min (if r.f.1=1 then s.one else s.rest) ((r.f.2.1.size:Int)-r.f.2.2)):=by
     show _=_;unfold vC;split<;>split<;>omega
    clear hr hrk Sq V_ hc df q1 q2 q3 q4 hnil2 hcap2 hm2 HL HS gJ hn hb q6 hz;have z1:IntKind.i64.wrap ((r.f.2.1.size:Int)-r.f.2.2)=(r.f.2.1.size:Int)-r.f.2.2:=by rw[IntKind.wrap_i64];omega
    by_cases PL:r.f.1=1
    ·have ho:(r.f.1==1)=true:=by simp[PL]
     rw[if_pos PL]at HN1;have z2:IntKind.i64.wrap (r.f.2.2+min s.one ((r.f.2.1.size:Int)-r.f.2.2))=vC s.one s.rest r.f:=by rw[HN1.out,IntKind.wrap_i64];omega
     clear PL
     go_upto_region 6 with fail
     have G0:=aK.refl wr
     go_region_with (first|(go_at_call 237;refine(HC.out _ (by repeat (first|assumption|refine aK.drew ?_))).mono ?_;rintro e w5 ⟨rfl,dn,hL⟩))
     all_goals go_wp2_with fail
     all_goals go_roundw
     all_goals first
      |(case rel=>exact⟨k+1,dn,by go_num,by omega,hL⟩)
      |(case measure=>simp[intOf];omega)
    ·have ho:(r.f.1==1)=false:=by simp[PL]
     rw[if_neg PL]at HN1;have z2:IntKind.i64.wrap (r.f.2.2+min s.rest ((r.f.2.1.size:Int)-r.f.2.2))=vC s.one s.rest r.f:=by rw[HN1.out,IntKind.wrap_i64];omega
     clear PL
     go_upto_region 6 with fail
     have G0:=aK.refl wr
     go_region_with (first|(go_at_call 237;refine(HC.out _ (by repeat (first|assumption|refine aK.drew ?_))).mono ?_;rintro e w5 ⟨rfl,dn,hL⟩))
     all_goals go_wp2_with fail
     all_goals go_roundw
     all_goals first
      |(case rel=>exact⟨k+1,dn,by go_num,by omega,hL⟩)
      |(case measure=>simp[intOf];omega)
  ·obtain rfl:k=rs.length:=by omega
   have VQ:done++rs.drop rs.length=done:=by simp
   rw[VQ]at q3 q4;obtain⟨-,I_,-⟩:=dP q3.1;have hDF:=GJ q3.2.1 q3.2.2.1 (by omega);have HD:Hid (aS wr db s (Z ao rs.length cap) done):=q3;have W_:Hid (Dk w wr (DX db (Z ao rs.length cap) rs) (DX db (Z ao rs.length cap) done)):=q4
   have HP:Hid (plain done=(plain rs).map (jK s.one s.rest)):=by
    show _=_;rw[q2,List.take_of_length_le (by rw[bG];omega)]
   have Mw:=q3.1;clear q1 q2 q3 q4 HL HS gJ VQ
   go_wp2_with fail
   refine hDF.mono ?_;rintro e w2 ⟨v2,rfl,p1,p2,p3,p4⟩;have rf:Hid (fJ w2 v2 (Je done)):=p1;obtain⟨jg,tF,rfl,-⟩:=fJ.form p1
   have hdb2:w2.heap[db]?=M (jS s (Z ao rs.length cap)):=p3.at Mw (fun e=>by
    obtain⟨c,hc⟩:=jE HD.out.2.1 e;exact aW Mw hc (by decide) rfl)
   obtain⟨-,k1,-,-,-,-,-,-,kf⟩:=dP hdb2;have kf1:=kf 1;clear p1 kf
   go_wp2_with fail
   go_end0;obtain⟨r1,r2⟩:=HD.out.setRow p3 p4 rf.out p2 (List.filter_sublist) rfl;refine⟨rfl,_,Je done,r1,?_,W_.out.trans r2⟩;rw[<-HP.out];unfold Je plain;rw[List.filter_map];congr 1
end Go.Proofs.YtfplgfodoiiobaaGreatDoor
