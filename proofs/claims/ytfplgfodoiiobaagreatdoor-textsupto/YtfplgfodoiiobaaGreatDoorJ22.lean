/- PgY, DrA, DrB, DrC (joined). -/
import Derived.Test.YtfplgfodoiiobaaGreatDoorJ21
open Option renaming none→O,some→M
open Go.Value renaming int→I,slice→Z,pointer→U
open Go.IntKind renaming i64→V
open Go.Obj renaming cells→C
open Go.Ending renaming returned→G
open Go renaming World→F,Value→Y,Calls→H
open Go.Proofs.Tryz renaming prog→K
namespace Go.Proofs.YtfplgfodoiiobaaGreatDoor
set_option maxHeartbeats 4000000
set_option maxRecDepth 100000
open Go.RowKit
variable {w w':F}{l:List (Int×Int)}{depth dp tb cap:Nat}{x:bS}{ao:Option Addr}{m:dF}{p pos n:Int}
def kN (l:List UInt8):Option (Int×Int×Int×Int×Int):=
 if l.length<22 then O else match jL (l.take 22)with
  |none=>O
  |some t=>if t.headD 0=74 then M (gX (t.drop 2),(((t.drop 1).headD 0).toNat:Int),gX (t.drop 6),gX (t.drop 10),gX (t.drop 14))else O
def Np:Option (Int×Int×Int×Int×Int)->Ending
 |none=> G (.tuple #[I V 0,.agg #[I .u8 0,I V 0,I V 0,I V 0],.bool false])
 |some (d,q,a,b,c)=> G (.tuple #[I V d,.agg #[I .u8 q,I V a,I V b,I V c],.bool true])
theorem Ff {n:Nat}(h:n<22):
 H K 190 #[Z ao n cap] w fun e w'=>e=Np O/\aL w w':=by
 have z1:(n:Int)<22:=by omega
 go_enter Tryz.func190,Tryz.ntmps190
 go_wp2_with fail
 refine bodyPost_ret (v:= .tuple #[I V 0,.agg #[I .u8 0,I V 0,I V 0,I V 0],.bool false]) (by simp[results,Tryz.results190,go_sem]) rfl ?_;refine⟨rfl,?_⟩;refine⟨rfl,rfl,rfl,by simp,fun k hk=>?_⟩
 repeat (rw[Below.heap_setCell _ _ _ _ (by simp only;omega)])
 exact Below.heap_alloc _ _ _ hk
def FQ (t1:UInt8)(jY:List UInt8)(k:Nat):Obj:=C #[I .u8 (t1.toNat:Int),I V (if 0<k then gX (jY.drop 4)else 0),I V (if 1<k then gX (jY.drop 8)else 0),I V (if 2<k then gX (jY.drop 12)else 0)] 99 (0,0)
theorem oh {wr:F}{g:Nat}{t0 t1:UInt8}{jY:List UInt8}{k:Nat}(h:wr.heap[g]?=M (FQ t1 jY k))(hk:k<3):(wr.setCell ⟨g,1+k,O⟩ (I V (gX ((t0::t1::jY).drop (6+4*k))))).heap[g]?=M (FQ t1 jY (k+1)):=by
 unfold FQ at*;rw[heap_setCell_same _ g (1+k) _ _ _ h];rcases(by omega:k=0\/k=1\/k=2)with rfl|rfl|rfl<;>rfl
theorem yV {w1:F}(h:aL w w1){g:Nat}(hg:w.heap.size<=g)(i:Nat)(v:Y):aL w (w1.setCell ⟨g,i,O⟩ v):=⟨h.os,h.tape,h.output,by have:=h.size;simpa using this,fun k hk=>(Below.heap_setCell _ _ _ _ (by simp only;omega)).trans (h.block k hk)⟩
theorem NA {b off:Nat}{l:List UInt8}(h:qQ w (M ⟨b,off,O⟩) l)(hl:l.length<=900000000)(iL:l.length<=cap):
 H K 190 #[Z (M ⟨b,off,O⟩) l.length cap] w fun e w'=>e=Np (kN l)/\aL w w':=by
 by_cases hs:l.length<22
 ·have e1:kN l=O:=by unfold kN;rw[if_pos hs]
  rw[e1];exact Ff hs
 ·have hl22:(l.take 22).length=22:=by rw[List.length_take];omega
  have HU:Hid (∀W,aL w W->H K 181 #[Z (M ⟨b,off,O⟩) 22 cap] W fun e w'=>e=zL b off cap (jL (l.take 22))/\∃q,w'=W.drewN q):=fun W hW=>by
   have:=Wd (cap:=cap) ((h.aN hW).take 22) (by omega) (by omega);rw[hl22]at this;exact this
  have z1:¬((l.length:Int)<22):=by omega
  have z2:(22:Int)<=(cap:Int):=by omega
  have z2':22<=cap:=by omega
  cases hu:jL (l.take 22)with
  |none=>
   have HE:Hid (kN l=O):=by show _=_;unfold kN;rw[if_neg hs,hu]
   rw[hu]at HU;have HU2:=HU.out _ (aL.alloc (aL.refl w) (C #[I .u8 0,I V 0,I V 0,I V 0] 99));unfold zL at HU2;clear h hu HU;go_enter Tryz.func190,Tryz.ntmps190
   go_wp2_with fail
   refine HU2.mono ?_;rintro e w1 ⟨rfl,q,rfl⟩
   go_wp2_with fail
   refine bodyPost_ret (v:= .tuple #[I V 0,.agg #[I .u8 0,I V 0,I V 0,I V 0],.bool false]) (by simp[results,Tryz.results190,go_sem]) rfl ?_;rw[HE.out];refine⟨rfl,?_⟩;refine⟨rfl,rfl,rfl,by simp,fun k hk=>?_⟩
   repeat (rw[Below.heap_setCell _ _ _ _ (by simp only;omega)])
   exact Below.heap_alloc _ _ _ hk
  |some t=>
   have ht:t=l.take 18:=by
    unfold jL at hu;rw[hl22,if_neg (by omega)]at hu;split at hu
    ·cases hu
     rw[List.take_take];rfl
    ·cases hu
   have Un:t.length=18:=by rw[ht,List.length_take];omega
   have jy:qQ w (M ⟨b,off,O⟩) t:=by rw[ht];exact h.take 18
   rw[hu]at HU
   obtain⟨t0,t1,jY,rfl⟩:∃a b c,t=a::b::c:=by
    match t,Un with
    |a::b::c,_=>exact⟨a,b,c,rfl⟩
   obtain⟨w0,dW⟩:∃w0,w0=w.alloc (C #[I .u8 0,I V 0,I V 0,I V 0] 99):=⟨_,rfl⟩;have Oq:aL w w0:=by rw[dW];exact aL.alloc (aL.refl w) _
   have HU2:H K 181 #[Z (M ⟨b,off,O⟩) 22 cap] w0 fun e w'=>e=G (.tuple #[Z (M ⟨b,off,O⟩) 18 cap,.bool true])/\∃q,w'=w0.drewN q:=(HU.out w0 Oq).mono fun e w' he=>by
    simp only[zL,Un]at he;exact he
   have c0:=fun W (hW:aL w W)=>hW.cell (by
    rcases jy with hx|⟨b',Oh,e,hc⟩
    ·cases hx
    ·cases e
     exact hc 0 t0 rfl:w.cell? ⟨b,off+0,O⟩=M (I .u8 (t0.toNat:Int)))
   have c1:=fun W (hW:aL w W)=>hW.cell (by
    rcases jy with hx|⟨b',Oh,e,hc⟩
    ·cases hx
    ·cases e
     exact hc 1 t1 rfl:w.cell? ⟨b,off+1,O⟩=M (I .u8 (t1.toNat:Int)))
   have HNum:Hid (∀W,aL w W->∀k n c,k+4<=18->4<=n->H K 234 #[Z (M ⟨b,off+k,O⟩) n c] W fun e w'=>e=G (I .u32 (gX ((t0::t1::jY).drop k)))/\∃q,w'=W.drewN q):=fun W hW k n c hk hn=>Ky ((jy.aN hW).drop k) (by rw[List.length_drop,Un];omega) hn
   have Uy:∀W,aL w W->W.cell? ⟨b,off,O⟩=M (I .u8 (t0.toNat:Int)):=c0
   have hR:kN l=if t0=74 then M (gX (jY),(t1.toNat:Int),gX (jY.drop 4),gX (jY.drop 8),gX (jY.drop 12))else O:=by
    unfold kN;rw[if_neg hs,hu];rfl
   have NC:Hid (w0.heap[w.heap.size]?=M (C #[I .u8 0,I V 0,I V 0,I V 0] 99 (0,0))):=by show _=_;rw[dW];exact heap_alloc_new w _
   have d0:=Uy w0 Oq;have d1:=c1 w0 Oq;clear c0 h jy hu HU ht;have Eo:=UInt8.toNat_lt t0;have fC:=UInt8.toNat_lt t1;by_cases h74:t0=74
   ·rw[if_pos h74]at hR;have HE:Hid (kN l=M (gX (jY),(t1.toNat:Int),gX (jY.drop 4),gX (jY.drop 8),gX (jY.drop 12))):=hR;have e74:((t0.toNat:Int) !=74)=false:=by rw[h74];rfl
    have x0:w0.cell? ⟨w.heap.size,0,O⟩=M (I .u8 0):=by have:=NC.out;simp[World.cell?,this]
    have xf0:w0.frozen? ⟨w.heap.size,0,O⟩=false:=by have:=NC.out;simp[World.frozen?,this]
    have y1:¬cap=2:=by omega
    have y2:¬cap-2=4:=by omega
    have y3:2<=cap:=by omega
    clear hR h74;go_enter Tryz.func190,Tryz.ntmps190
    go_upto_region 1 with fail
    rw[<-dW];clear dW
    go_wp2_with fail
    refine HU2.mono ?_;rintro e w1 ⟨rfl,q,rfl⟩
    go_upto_region 6 with fail
    go_cut [0] (fun v0 wc=>v0=Z (M ⟨b,off+2,O⟩) 16 (cap-2)/\Hid (wc.heap[w.heap.size]?=M (C #[I .u8 (t1.toNat:Int),I V 0,I V 0,I V 0] 99 (0,0)))/\Hid (aL w wc))
    case first=>
     go_region
     all_goals go_wp2_with fail
     all_goals go_meet
     all_goals refine⟨rfl,?_,?_⟩
     all_goals first
      |(show aL w _;refine yV ?_ (Nat.le_refl _) _ _;exact aL.drew (aZ Oq _))
      |(show _=_;exact heap_setCell_same _ _ 0 _ _ _ NC.out)
    case rest=>
     obtain⟨rfl,QS,Hq⟩:=hcut
     rename F=>w2
     have H_:Hid (∀W,aL w W->H K 234 #[Z (M ⟨b,off+2,O⟩) 16 (cap-2)] W fun e w'=>e=G (I .u32 (gX jY))/\∃q,w'=W.drewN q):=fun W hW=>HNum.out W hW 2 16 (cap-2) (by omega) (by omega)
     go_upto_region 7 with fail
     go_quiet (first|(go_at_call 234;exact Calls.quiet_of (H_.out _ (aZ Hq.out _))))
     have HWT:Hid (wrap64 (gX jY)=gX jY):=by show _=_;have:=kU jY;unfold wrap64;omega
     have HNA:Hid (∀W,aL w W->∀A k n c,A=off+k->k+4<=18->4<=n->H K 234 #[Z (M ⟨b,A,O⟩) n c] W fun e w'=>e=G (I .u32 (gX ((t0::t1::jY).drop k)))/\∃q,w'=W.drewN q):=fun W hW A k n c hA hk hn=>by rw[hA];exact HNum.out W hW k n c hk hn
     go_wp2_with fail
     obtain⟨w3,hw3⟩:∃w3,w3=w2.drewN nq:=⟨_,rfl⟩;have YB:Hid (aL w w3):=by show aL w w3;rw[hw3];exact aZ Hq.out _
     have HB3:Hid (w3.heap[w.heap.size]?=M (C #[I .u8 (t1.toNat:Int),I V 0,I V 0,I V 0] 99 (0,0))):=by show _=_;rw[hw3];exact QS.out
     rw[<-hw3];clear hw3 QS Hq H_
     go_loopw [5,36] (fun _ i wr=> ∃k:Nat,k<=3/\i=I V (k:Int)/\Hid (wr.heap[w.heap.size]?=M (FQ t1 jY k))/\Hid (aL w wr)) (fun _ i _=>3-(intOf i).toNat)
     case atStart=>exact⟨0,Nat.zero_le _,rfl,HB3,YB⟩
     case round=>
      obtain⟨k,hk,rfl,HB,HG⟩:=hrel;by_cases bT:k<3
      ·have hbe:=kU ((t0::t1::jY).drop (6+4*k));have fT:=fun A n c hA hn=>HNA.out wr HG.out A (6+4*k) n c hA (by omega) hn
       have HN:Hid (∀q,((wr.drewN q).setCell ⟨w.heap.size,1+k,O⟩ (I V (gX ((t0::t1::jY).drop (6+4*k))))).heap[w.heap.size]?=M (FQ t1 jY (k+1))):=fun q=>oh HB.out bT
       have zc:∃u,wr.cell? ⟨w.heap.size,1+k,O⟩=M u:=by
        have:=HB.out;unfold FQ at this;exact⟨_,(iN this (1+k)).1.trans (List.getElem?_eq_getElem (by simp;omega))⟩
       have zf:wr.frozen? ⟨w.heap.size,1+k,O⟩=false:=by have:=HB.out;unfold FQ at this;simp[World.frozen?,this]
       obtain⟨u,zc⟩:=zc;have HGS:Hid (∀q v,aL w ((wr.drewN q).setCell ⟨w.heap.size,1+k,O⟩ v)):=fun q v=>yV (aZ HG.out _) (Nat.le_refl _) _ _
       generalize gX ((t0::t1::jY).drop (6+4*k))=z at hbe fT HN;have nO:wrap64 z=z:=by unfold wrap64;omega
       have hc6:¬cap-2-4=0:=by omega
       have hc7:¬cap-2-4=4:=by omega
       have hc8:¬cap-2-4=8:=by omega
       rcases(by omega:k=0\/k=1\/k=2)with rfl|rfl|rfl
       all_goals go_wp2_with (go_at_call 234;refine(fT _ _ _ (by omega) (by omega)).mono ?_;rintro e w5 ⟨rfl,q5,rfl⟩)
       all_goals go_roundw
       all_goals first
        |(case rel=>exact⟨1,by omega,by go_num,HN.out _,HGS.out _ _⟩)
        |(case rel=>exact⟨2,by omega,by go_num,HN.out _,HGS.out _ _⟩)
        |(case rel=>exact⟨3,by omega,by go_num,HN.out _,HGS.out _ _⟩)
        |(case measure=>simp[intOf])
      ·obtain rfl:k=3:=by omega
       have hB:=HB.out;unfold FQ at hB;simp only[show(0:Nat)<3 from by omega,show(1:Nat)<3 from by omega,show(2:Nat)<3 from by omega,if_true]at hB;generalize gX (jY.drop 4)=n1 at hB HE;generalize gX (jY.drop 8)=n2 at hB HE;generalize gX (jY.drop 12)=n3 at hB HE;have p0:wr.cell? ⟨w.heap.size,0,O⟩=M (I .u8 (t1.toNat:Int)):=by simp[World.cell?,hB]
       have p1:wr.cell? ⟨w.heap.size,1,O⟩=M (I V n1):=by simp[World.cell?,hB]
       have p2:wr.cell? ⟨w.heap.size,2,O⟩=M (I V n2):=by simp[World.cell?,hB]
       have p3:wr.cell? ⟨w.heap.size,3,O⟩=M (I V n3):=by simp[World.cell?,hB]
       have pf:∀j,wr.frozen? ⟨w.heap.size,j,O⟩=false:=fun j=>by simp[World.frozen?,hB]
       have pf0:=pf 0;have pf1:=pf 1;have pf2:=pf 2;have pf3:=pf 3;clear pf hB HB
       go_wp2_with fail
       go_region
       all_goals go_wp2_with fail
       all_goals refine bodyPost_ret (v:= .tuple #[I V (gX jY),.agg #[I .u8 (t1.toNat:Int),I V n1,I V n2,I V n3],.bool true]) (by simp[results,Tryz.results190,go_sem,p0,p1,p2,p3,HWT.out]) rfl ?_
       all_goals rw[HE.out]
       all_goals refine⟨rfl,?_⟩
       all_goals exact aL.drew (yV (yV (yV (yV HG.out (Nat.le_refl _) _ _) (Nat.le_refl _) _ _) (Nat.le_refl _) _ _) (Nat.le_refl _) _ _)
   ·rw[if_neg h74]at hR;have HE:Hid (kN l=O):=hR
    have e74:((t0.toNat:Int) !=74)=true:=by
     rw[bne_iff_ne];intro e;apply h74;have:t0.toNat=74:=by omega
     exact UInt8.toNat.inj this
    have UD:∀j,w0.frozen? ⟨w.heap.size,j,O⟩=false:=fun j=>by have:=NC.out;simp[World.frozen?,this]
    have x0:w0.cell? ⟨w.heap.size,0,O⟩=M (I .u8 0):=by have:=NC.out;simp[World.cell?,this]
    have x1:w0.cell? ⟨w.heap.size,1,O⟩=M (I V 0):=by have:=NC.out;simp[World.cell?,this]
    have x2:w0.cell? ⟨w.heap.size,2,O⟩=M (I V 0):=by have:=NC.out;simp[World.cell?,this]
    have x3:w0.cell? ⟨w.heap.size,3,O⟩=M (I V 0):=by have:=NC.out;simp[World.cell?,this]
    have f0:=UD 0;have f1:=UD 1;have f2:=UD 2;have f3:=UD 3;clear hR h74 UD;go_enter Tryz.func190,Tryz.ntmps190
    go_upto_region 1 with fail
    rw[<-dW];clear dW
    go_wp2_with fail
    refine HU2.mono ?_;rintro e w1 ⟨rfl,q,rfl⟩
    go_wp2_with fail
    refine bodyPost_ret (v:= .tuple #[I V 0,.agg #[I .u8 0,I V 0,I V 0,I V 0],.bool false]) (by simp[results,Tryz.results190,go_sem,x0,x1,x2,x3]) rfl ?_;rw[HE.out];refine⟨rfl,?_⟩;refine⟨Oq.os,Oq.tape,Oq.output,by have:=Oq.size;simpa using this,fun k hk=>?_⟩
    repeat (rw[Below.heap_setCell _ _ _ _ (by simp only;omega)])
    exact Oq.block k hk
def CS (w:F)(ao:Option Addr)(l:List gH):Prop:=
 (l=[]\/∃b off,ao=M ⟨b,off,O⟩/\∀j u,(Ia l)[j]?=M u->w.cell? ⟨b,off+j,O⟩=M u)/\∀a,ao=M a->∃aS,w.heap[a.block]?=M (C aS 261 (0,0))
def uN (w:F)(B:Nat)(v:Y)(l:List gH):Prop:=w.ownsRow B 261 3 v l.length (Ia l)
theorem CS.fr {X:Nat->Prop}{l:List gH}(h:CS w ao l)(hF:Fr w w' X)(hx:∀b aS,w.heap[b]?=M (C aS 261 (0,0))->¬X b):CS w' ao l:=by
 obtain⟨h1,h2⟩:=h;refine⟨?_,fun a e=>?_⟩
 ·rcases h1 with h1|⟨b,off,e,hc⟩
  ·exact Or.inl h1
  ·refine Or.inr ⟨b,off,e,fun j u hu=>?_⟩;obtain⟨aS,hb⟩:=h2 _ e;have pX:w'.heap[b]?=w.heap[b]?:=hF.2 b (aM hb) (hx _ _ hb);exact(World.cell?_of_block (a:=⟨b,off+j,O⟩) pX).trans (hc j u hu)
 ·obtain⟨aS,hb⟩:=h2 a e;exact⟨aS,hF.at hb (hx _ _ hb)⟩
theorem CS.aN {l:List gH}(h:CS w ao l)(hg:aL w w'):CS w' ao l:=h.fr (Fr.cZ hg (fun _=>False)) (fun _ _ _=>id)
theorem CS.nil (w:F):CS w O []:=⟨Or.inl rfl,fun _ e=>by cases e⟩
theorem CS.take {l:List gH}(h:CS w ao l)(k:Nat):CS w ao (l.take k):=by
 obtain⟨h1,h2⟩:=h;refine⟨?_,h2⟩;rcases h1 with rfl|⟨b,off,e,hc⟩
 ·left;simp
 ·refine Or.inr ⟨b,off,e,fun j u hu=>hc j u ?_⟩;have e2:Ia l=Ia (l.take k)++Ia (l.drop k):=by rw[<-zM,List.take_append_drop]
  have bT:=(List.getElem?_eq_some_iff.1 hu).1;rw[e2,List.getElem?_append_left bT];exact hu
theorem uN.form {B:Nat}{v:Y}{l:List gH}(h:uN w B v l):∃ao cap,v=Z ao l.length cap/\CS w ao l/\(ao=O->l.length=0/\cap=0)/\l.length<=cap:=by
 have h':=h;obtain⟨-,h2⟩:=h;rcases h2 with⟨rfl,h3⟩|⟨g,cap,aS,rfl,hg,hh,iL,-⟩
 ·exact⟨O,0,by rw[h3],⟨Or.inl (List.eq_nil_of_length_eq_zero h3),(fun _ e=>by cases e)⟩,fun _=>⟨h3,rfl⟩,by omega⟩
 ·refine⟨M ⟨g,0,O⟩,cap,rfl,⟨Or.inr ⟨g,0,rfl,fun j u hu=>?_⟩,(fun a e=>by cases e;exact⟨aS,hh⟩)⟩,(fun e=>by cases e),iL⟩;have:=World.ownsRow.cells h' rfl j u hu;cases j with
  |zero=>simpa[Addr.add]using this
  |succ j=>simpa[Addr.add]using this
theorem Tryz.infoEdD:(Tryz.prog.info? 261).map (fun i=>(i.zero,i.size,i.bytes))=M (M (.agg #[I V 0,Z O 0 0,Z O 0 0]),3,56):=by kernel_rfl
theorem xZ {ops:Array Oper}{rest:List Oper}{o:Oper}{a:Act}{Q:Exit->Act->F->Prop}(qE:o.guard=O)(s x:Operand)
 (ho:o.op= .call { callee:= .builtin .append,args:=#[s,x],argTypes:=#[103,103] })
 (base:Nat)(v:Y)(ys zs:List gH)(hs:a.eval s=v)(bA:uN w base v ys)(ao:Option Addr)(m c:Nat)(hx:a.eval x=Z ao m c)(hm:m=zs.length)(gP:ao=O->zs.length=0/\c=0)(hr:CS w ao zs)
 (hlen:ys.length+zs.length<=1000000000)(iI:base<=w.heap.size)
 (h:∀v' w',uN w' base v' (ys++zs)->w.grownBy w' v.ownBlock->wpList K ops Q rest (a.put o.dst v') w'):wpList K ops Q (o::rest) a w:=by
 obtain⟨i0,hi,nN,nO,oM⟩:=info_parts Tryz.infoEdD;subst hm;cases ao with
 |none=>
  obtain⟨h1,rfl⟩:=gP rfl;have hz:zs=[]:=List.eq_nil_of_length_eq_zero h1;subst hz;exact wpList_append_own_none qE s x 103 ho base 261 i0 3 Tryz.underlying103 hi v _ _ hs bA hx (h v w (by simpa using bA) (World.grownBy.refl _ _))
 |some ad=>
  refine wpList_append_own w qE s x 103 ho base 261 i0 (.agg #[I V 0,Z O 0 0,Z O 0 0]) 3 56 Tryz.underlying103 hi nN nO oM rfl (by decide) v ys.length (Ia ys) hs bA ad zs.length c (Ia zs) hx (Qr zs) ?_ ?_ (by unfold maxLen;omega) (by omega) iI ?_
  ·rcases hr.1 with rfl|⟨b,off,e,hc⟩
   ·intro j u hj;simp[Ia]at hj
   ·cases e
    intro j u hj;have:=hc j u hj;cases j with
    |zero=>simpa[Addr.add]using this
    |succ j=>simpa[Addr.add]using this
  ·intro u hu;obtain⟨p,-,hp⟩:=List.mem_flatMap.1 hu;simp[gH.cells]at hp;rcases hp with rfl|rfl|rfl<;>rfl
  ·intro v' w' h1 h2 _;refine h v' w' ?_ h2;unfold uN;rw[zM,List.length_append];exact h1
theorem FT (w:F){B:Nat}(hB:B<=w.heap.size)(e:gH):uN (w.alloc (C #[I V e.1,e.2.1.v,e.2.2.v] 261)) B (Z (M ⟨w.heap.size,0,O⟩) 1 1) [e]:=by
 have:=World.ownsRow_lit (base:=B) (e:=261) (size:=3) w #[I V e.1,e.2.1.v,e.2.2.v] 1 hB (by unfold maxLen;omega) rfl;exact this
def dY (w:F)(x:bS)(l:List Ed):Prop:=∃raw:List gH,CS w x.1 raw/\x.2.1=raw.length/\(vY x.1 x.2.1 x.2.2/\x.2.1<=x.2.2)/\raw.length=l.length/\∀(i:Nat) (r:gH) (e:Ed),raw[i]?=M r->l[i]?=M e->qR w r e
theorem dY.aN {l:List Ed}(h:dY w x l)(hg:aL w w'):dY w' x l:=by
 obtain⟨raw,h1,h2,h3,h4,h5⟩:=h;exact⟨raw,h1.aN hg,h2,h3,h4,fun i r e a b=>(h5 i r e a b).aN hg⟩
theorem dY.nil (w:F):dY w (O,0,0) []:=⟨[],CS.nil w,rfl,⟨fun _=>⟨rfl,rfl⟩,Nat.le_refl _⟩,rfl,fun i r e a _=>by simp at a⟩
theorem dY.fr {X:Nat->Prop}{l:List Ed}(h:dY w x l)(hF:Fr w w' X)(hx:∀b aS,w.heap[b]?=M (C aS 114 (0,0))->¬X b)(hy:∀b aS,w.heap[b]?=M (C aS 261 (0,0))->¬X b):dY w' x l:=by
 obtain⟨raw,h1,h2,h3,h4,h5⟩:=h;exact⟨raw,h1.fr hF hy,h2,h3,h4,fun i r e a b=>⟨(h5 i r e a b).1,(h5 i r e a b).2.1.fr hF hx,(h5 i r e a b).2.2.fr hF hx⟩⟩
theorem dY.take {n:Nat}{l:List Ed}(h:dY w (ao,n,cap) l)(k:Nat)(hk:k<=n):dY w (ao,k,cap) (l.take k):=by
 obtain⟨raw,h1,h2,h3,h4,h5⟩:=h;simp only at h1 h2 h3;have hl:(raw.take k).length=k:=by rw[List.length_take];omega
 refine⟨raw.take k,h1.take k,hl.symm,⟨fun e=>?_,by simp only;omega⟩,by simp[h4],fun i r e a b=>?_⟩
 ·have:=h3.1 e;simp only;omega
 ·rw[List.getElem?_take]at a b;split at a
  ·rename_i hi;rw[if_pos hi]at b;exact h5 i r e a b
  ·cases a
theorem Xm {l:List Ed}(h:dY w x l)(hl:l.length<=1000000)(hd:depth<=1000000):
 H K 179 #[x.v,I V (depth:Int)] w fun e w'=> ∃y:bS,e=G y.v/\dY w y (l.take depth)/\w'=w:=by
 obtain⟨ao,n,cap⟩:=x;have hn:n=l.length:=by obtain⟨raw,-,h2,-,h4,-⟩:=h;simp only at h2;omega
 have hc:n<=cap:=by obtain⟨raw,-,-,h3,-⟩:=h;exact h3.2
 have HT:Hid (dY w (ao,min n depth,cap) (l.take depth)):=by
  show dY _ _ _;have:=h.take (min n depth) (Nat.min_le_left _ _);have e:l.take (min n depth)=l.take depth:=by rw[hn,<-List.take_take,List.take_of_length_le (by rw[List.length_take];omega)]
  rw[e]at this;exact this
 subst hn;have hm:(min (l.length:Int) (depth:Int)).toNat=min l.length depth:=by omega
 have HM:Hid ((min (l.length:Int) (depth:Int)).toNat=min l.length depth):=hm;simp only[bS.v];have j1:(0:Int)<=min (l.length:Int) (depth:Int):=by omega
 have j2:min (l.length:Int) (depth:Int)<=(cap:Int):=by omega
 clear h hm;go_enter Tryz.func179,Tryz.ntmps179
 go_wp2_with fail
 go_ret;refine⟨(ao,min l.length depth,cap),?_,HT.out,rfl⟩;rw[<-HM.out];rfl
theorem Gi {r:gH}{e:Ed}{l:List Ed}(he:qR w r e)(h:dY w x l)(hl:l.length<=100000)(hd:depth<=1000000):
 H K 245 #[.agg #[I V r.1,r.2.1.v,r.2.2.v],x.v,I V (depth:Int)] w fun q w'=> ∃y:bS,q=G y.v/\dY w' y ((e::l).take depth)/\aL w w':=by
 obtain⟨raw,h1,h2,h3,h4,h5⟩:=h;obtain⟨xo,xn,xc⟩:=x;simp only at h1 h2 h3;subst h2;have gG:=aQ (aO w (C #[I V r.1,r.2.1.v,r.2.2.v] 261)) (aO (w.alloc (C #[I V r.1,r.2.1.v,r.2.2.v] 261)) (C #[I V r.1,r.2.1.v,r.2.2.v] 261));have bA:=FT (B:=w.heap.size) (w.alloc (C #[I V r.1,r.2.1.v,r.2.2.v] 261)) (by simp) r;rw[World.size_alloc]at bA
 have HE:Hid (∀(w5:F) (a5:Option Addr) (c5:Nat),aL w w5->CS w5 a5 ([r]++raw)->vY a5 (([r]++raw).length) c5->([r]++raw).length<=c5->dY w5 (a5,([r]++raw).length,c5) (e::l)):=fun w5 a5 c5 hG hr hn hc=>by
  refine⟨[r]++raw,hr,rfl,⟨hn,hc⟩,by simp[h4],fun i r' e' a b=>?_⟩;cases i with
  |zero=>simp at a b;subst a b;exact he.aN hG
  |succ i=>simp at a b;exact(h5 i r' e' a b).aN hG
 clear h5 he;obtain⟨r1,⟨x1,x2,x3⟩,⟨y1,y2,y3⟩⟩:=r;simp only[bS.v]at*;go_enter Tryz.func245,Tryz.ntmps245
 go_wp2_with (at_builtin;go_must (refine xZ (by rfl) (.tmp 8) (.tmp 9) (by rfl) w.heap.size _ [(r1,(x1,x2,x3),(y1,y2,y3))] raw (by rfl) (by exact bA) _ _ _ (by rfl) (by rfl) (by exact h3.1) (by exact h1.aN gG) (by simp;omega) (by simp;omega) ?_);intro v5 w5 cO fQ)
 have B5:aL w w5:=gG.grown fQ (by simp;omega) (fun k e=>by cases e;simp);obtain⟨a5,c5,rfl,Ef,Qs,XW⟩:=cO.form;have hE5:=HE.out w5 a5 c5 B5 Ef Qs XW;have hF:=Xm (depth:=depth) hE5 (by simp;omega) hd;simp only[bS.v]at hF;refine hF.mono ?_;rintro q w6 ⟨⟨b6,n6,c6⟩,rfl,hE6,rfl⟩
 go_wp2_with fail
 go_ret;exact⟨(b6,n6,c6),rfl,hE6,B5⟩
theorem nJ (h:fG l)(k:Nat):0<=sz (l.take k)/\sz (l.take k)<=5000*(k:Int):=by
 have h1:fG (l.take k):=fun p hp=>h p (List.mem_of_mem_take hp)
 have h2:=lD h1;have h3:(l.take k).length<=k:=by rw[List.length_take];omega
 omega
theorem Ae {k:Nat}{p:Int×Int}(h:l[k]?=M p):sz (l.take (k+1))=sz (l.take k)+p.2:=by
 obtain⟨bT,he⟩:=List.getElem?_eq_some_iff.1 h;rw[List.take_succ_eq_append_getElem bT,nQ,he];simp[sz]
theorem vK (h:bL w x l)(kI:fG l)(hl:l.length<=1000000):
 H K 187 #[x.v] w fun e w'=>e=G (I V (sz l))/\aL w w':=by
 obtain⟨ao,n,cap⟩:=x;obtain⟨h1,h2,h3⟩:=h;simp only at h1 h2 h3;subst h2;simp only[bS.v];have HR:Hid (Ec w ao l):=h1.1;clear h1;go_enter Tryz.func187,Tryz.ntmps187
 go_wp2_with fail
 go_loopw [3,5,8] (fun c _ i wr=> ∃k:Nat,k<=l.length/\c=I V (sz (l.take k))/\i=I V (k:Int)/\Hid (aL w wr)) (fun _ _ i _=>l.length-(intOf i).toNat)
 case atStart=>exact⟨0,Nat.zero_le _,rfl,rfl,aL.refl w⟩
 case round=>
  obtain⟨k,hk,rfl,rfl,HG⟩:=hrel;have hb:=nJ kI k;by_cases bT:k<l.length
  ·obtain⟨p,hp⟩:∃p,l[k]?=M p:=⟨_,List.getElem?_eq_getElem bT⟩;have HN:Hid (sz (l.take (k+1))=sz (l.take k)+p.2):=Ae hp;have hpo:=kI p (List.mem_of_getElem? hp);unfold lX at hpo;rcases HR.out with hx|⟨b,off,rfl,hc⟩
   ·rw[hx]at bT;simp at bT
   ·obtain⟨d1,d2⟩:=hc k bT;have Oe:l.getD k (0,0)=p:=by simp[List.getD_eq_getElem?_getD,hp]
    have d1':wr.cell? ⟨b,off+k*2,O⟩=M (I V p.1):=HG.out.cell (by first|simpa[Oe]using d1|(rw[Oe]at d1;exact d1));have d2':wr.cell? ⟨b,off+k*2+1,O⟩=M (I V p.2):=HG.out.cell (by first|simpa[Oe]using d2|(rw[Oe]at d2;exact d2));have i1:(0:Int)<=(k:Int):=by omega
    have i2:(k:Int)<(l.length:Int):=by omega
    generalize sz (l.take k)=z at hb HN;clear hp hc d1 d2 Oe
    go_wp2_with fail
    go_roundw
    case rel=>exact⟨k+1,by omega,by rw[HN.out],by go_num,(show aL w _ from aL.alloc HG.out _)⟩
    case measure=>simp[intOf];omega
  ·have e1:l.take k=l:=List.take_of_length_le (by omega);rw[e1]
   go_wp2_with fail
   go_ret;exact⟨rfl,HG.out⟩
theorem Lv {y:bS}:H K 235 #[.agg #[I V p,x.v,y.v]] w fun e w'=>e=G (.agg #[I V p,y.v,x.v])/\aL w w':=by
 obtain⟨x1,x2,x3⟩:=x;obtain⟨y1,y2,y3⟩:=y;simp only[bS.v];go_enter Tryz.func235,Tryz.ntmps235
 go_wp2_with fail
 refine bodyPost_ret (v:= .agg #[I V p,Z y1 y2 y3,Z x1 x2 x3]) (by simp[results,Tryz.results235,go_sem]) rfl ?_;refine⟨rfl,?_⟩;refine⟨rfl,rfl,rfl,by simp;omega,fun k hk=>?_⟩
 repeat (rw[Below.heap_setCell _ _ _ _ (by simp only;omega)])
 rw[Below.heap_alloc _ _ _ (by simp;omega),Below.heap_alloc _ _ _ hk]
def oW (depth:Int) (tb:Nat) (cnt:Int) (u r:bS) (done buf:Int):Obj:=C #[I V depth,U (M ⟨tb,0,O⟩),I V cnt,u.v,r.v,I V done,I V buf] 147 (0,0)
def aV (w:F)(dp tb:Nat)(depth:Nat)(m:dF):Prop:=∃u r:bS,w.heap[dp]?=M (oW (depth:Int) tb (m.1.length:Int) u r m.2.2.2.1 m.2.2.2.2)/\dD w tb m.1/\dY w u m.2.1/\dY w r m.2.2.1
theorem cB {depth cnt done buf:Int}{u r:bS}(h:w.heap[dp]?=M (oW depth tb cnt u r done buf)):
 w.cell? ⟨dp,0,O⟩=M (I V depth)/\w.cell? ⟨dp,1,O⟩=M (U (M ⟨tb,0,O⟩))/\w.cell? ⟨dp,2,O⟩=M (I V cnt)/\w.cell? ⟨dp,3,O⟩=M u.v/\w.cell? ⟨dp,4,O⟩=M r.v/\w.cell? ⟨dp,5,O⟩=M (I V done)/\w.cell? ⟨dp,6,O⟩=M (I V buf)/\∀j,w.frozen? ⟨dp,j,O⟩=false:=by
 simp[World.cell?,World.frozen?,h,oW]
theorem aV.aN (h:aV w dp tb depth m)(hg:aL w w'):aV w' dp tb depth m:=by
 obtain⟨u,r,h1,h2,h3,h4⟩:=h;have hF:=Fr.cZ hg (fun _=>False);exact⟨u,r,hF.at h1 id,h2.fr hF id (fun _ _ _ _ _ _ _=>id),h3.aN hg,h4.aN hg⟩
theorem Gj (h:aV w dp tb depth m):H K 78 #[U (M ⟨dp,0,O⟩)] w fun e w'=>e=G (I V (sz m.1))/\w'=w:=by
 obtain⟨u,r,h1,h2,-⟩:=h;obtain⟨-,c1,-⟩:=cB h1;have hS:=lU h2;clear h1 h2;go_enter Tryz.func78,Tryz.ntmps78
 go_wp2_with fail
 refine hS.mono ?_;rintro e w ⟨rfl,rfl⟩
 go_wp2_with fail
 go_ret;exact⟨rfl,rfl⟩
theorem Jf (h:aV w dp tb depth m):H K 50 #[U (M ⟨dp,0,O⟩)] w fun e w'=>e=G (I V m.2.2.2.1)/\w'=w:=by
 obtain⟨u,r,h1,-⟩:=h;obtain⟨-,-,-,-,-,c5,-⟩:=cB h1;clear h1;go_enter Tryz.func50,Tryz.ntmps50
 go_wp2_with fail
 go_ret;exact⟨rfl,rfl⟩
theorem Af (h:aV w dp tb depth m):H K 53 #[U (M ⟨dp,0,O⟩)] w fun e w'=>e=G (I V m.2.2.2.2)/\w'=w:=by
 obtain⟨u,r,h1,-⟩:=h;obtain⟨-,-,-,-,-,-,c6,-⟩:=cB h1;clear h1;go_enter Tryz.func53,Tryz.ntmps53
 go_wp2_with fail
 go_ret;exact⟨rfl,rfl⟩
def qW (l:List (Int×Int))(pos n:Int):Bool:=decide (0<=pos) && decide (pos<=sz l-n)
theorem Px (h:aV w dp tb depth m)(h0:0<=n)(hn:n<=9223372036854775807)(hz:sz m.1<=100000000)(nN:0<=sz m.1):
 H K 118 #[U (M ⟨dp,0,O⟩),I V pos,I V n] w fun e w'=>e=G (.bool (qW m.1 pos n))/\w'=w:=by
 have hL:=Gj h;clear h;by_cases hp:0<=pos
 ·have HE:Hid (qW m.1 pos n=decide (pos<=sz m.1-n)):=by show _=_;unfold qW;rw[decide_eq_true hp];rfl
  generalize sz m.1=z at hL hz nN HE;go_enter Tryz.func118,Tryz.ntmps118
  go_wp2_with fail
  refine hL.mono ?_;rintro e w ⟨rfl,rfl⟩
  go_wp2_with fail
  go_ret;rw[HE.out];exact⟨rfl,rfl⟩
 ·have HE:Hid (qW m.1 pos n=false):=by show _=_;unfold qW;rw[decide_eq_false hp];rfl
  go_enter Tryz.func118,Tryz.ntmps118
  go_wp2_with fail
  go_ret;rw[HE.out];exact⟨rfl,rfl⟩
def iW (l:List (Int×Int))(pos:Int):Bool:=(oC l (pos-1)).2==0 && decide (1<(oC l (pos-1)).1.2)
theorem Lx (h:pos-1<0\/sz l<=pos-1):iW l pos=false:=by
 unfold iW oC;rw[if_pos h];rfl
theorem rQ (h:¬(pos-1<0\/sz l<=pos-1)):iW l pos=decide (1<((bU l (pos-1)).head?.getD (0,0)).2):=by
 unfold iW oC;rw[if_neg h];simp
theorem qN (h:fG l):0<=sz l:=by
 have:=lD h;omega
theorem Gm:∀ {l:List (Int×Int)}(_:fG l){pos:Int}(_:0<=pos)(_:pos<=sz l),(dS l pos).length+(bU l pos).length=l.length+(if iW l pos then 1 else 0):=by
 intro l
 induction l with
 |nil=>
  intro _ pos h0 h1;simp[sz]at h1;rw[Lx (by omega)];simp[dS,bU]
 |cons p l ih=>
  intro h pos h0 h1;have hp:=fH h;have ho:=dM h;have hn:=qN ho;unfold lX at hp;rw[qB]at h1;by_cases hz:pos<=0
  ·rw[Lx (by omega),dS,bU,if_pos hz,if_pos hz];simp
  ·rw[dS,bU,if_neg hz,if_neg hz];by_cases h2:p.2<=pos
   ·rw[if_pos h2,if_pos h2];have hi:=ih ho (pos:=pos-p.2) (by omega) (by omega)
    have hw:iW (p::l) pos=iW l (pos-p.2):=by
     by_cases h3:pos=p.2
     ·rw[Lx (l:=l) (by omega),rQ (by rw[qB];omega),bU];by_cases h4:pos-1<=0
      ·rw[if_pos h4];show decide (1<p.2)=false;exact decide_eq_false (by omega)
      ·rw[if_neg h4,if_neg (by omega)];show decide (1<p.2-(pos-1))=false;exact decide_eq_false (by omega)
     ·rw[rQ (by rw[qB];omega),rQ (by omega),bU,if_neg (by omega),if_pos (by omega)];rw[show pos-1-p.2=pos-p.2-1 from by omega]
    rw[hw];simp only[List.length_cons];omega
   ·rw[if_neg h2,if_neg h2]
    have hw:iW (p::l) pos=true:=by
     rw[rQ (by rw[qB];omega),bU];by_cases h4:pos-1<=0
     ·rw[if_pos h4];show decide (1<p.2)=true;exact decide_eq_true (by omega)
     ·rw[if_neg h4,if_neg (by omega)];show decide (1<p.2-(pos-1))=true;exact decide_eq_true (by omega)
    rw[hw];simp;omega
def Sd (l:List (Int×Int))(p n:Int)(c:Nat):Int:=
 if n=0 then (l.length:Int)+(c:Int)+(if decide (0<c) && iW l p then 1 else 0)
 else (l.length:Int)+(c:Int)+(if iW l p then 1 else 0)+(if iW l (p+n)then 1 else 0)-((vQ l p n).length:Int)
theorem FU (h:fG l)(hp:0<=p)(hn:0<n)(hs:p+n<=sz l):iW (bU l p) n=iW l (p+n):=by
 have jT:=lT h hp (by omega);rw[rQ (by rw[jT];omega),rQ (by omega),xJ h hp (by omega)];rw[show p+(n-1)=p+n-1 from by omega]
theorem om (h:fG l){came:List (Int×Int)}(hp:0<=p)(hn:0<=n)(hs:p+n<=sz l):Sd l p n came.length=((bO (bJ l p n).1 p came).length:Int):=by
 have h1:=Gm h hp (by omega);unfold Sd bJ;by_cases h0:n=0
 ·rw[if_pos h0,if_pos h0];unfold bO;by_cases hc:came=[]
  ·rw[if_pos hc,hc];simp
  ·rw[if_neg hc]
   have hl:0<came.length:=by
    cases came with
    |nil=>exact absurd rfl hc
    |cons a b=>simp
   rw[decide_eq_true hl,Bool.true_and];simp only[List.length_append];split<;>split at h1<;>simp_all<;>omega
 ·rw[if_neg h0,if_neg h0];have ht:=kG h p;have jT:=lT h hp (by omega);have h2:=Gm ht (pos:=n) hn (by omega);rw[FU h hp (by omega) hs]at h2
  have hlen:(bO (Hy l p n) p came).length=(dS l p).length+came.length+(bU (bU l p) n).length:=by
   unfold bO Hy;by_cases hc:came=[]
   ·rw[if_pos hc,hc];simp
   ·rw[if_neg hc];have hh:=uX h p;have hhs:=yI h hp (by omega);rw[qC _ hh,if_pos (by omega),qD _ hh,if_pos (by omega),Di hh (by omega),Dj hh (by omega)];simp;omega
  rw[hlen];unfold vQ;split at h1<;>split at h2<;>simp_all<;>omega
end Go.Proofs.YtfplgfodoiiobaaGreatDoor
