/- RefM, RefN, RefO (joined). -/
import Derived.Test.YtfplgfodoiiobaaGreatDoorJ09
open Option renaming none→O,some→M
open Go.Value renaming int→I,slice→Z,pointer→U
open Go.IntKind renaming i64→V
open Go.Obj renaming cells→C
open Go.Ending renaming returned→G
open Go renaming World→F,Value→Y,Calls→H
open Go.Proofs.Tryz renaming prog→K
namespace Go.Proofs.YtfplgfodoiiobaaGreatDoor
set_option maxHeartbeats 1000000
set_option maxRecDepth 100000
open Go.RowKit
variable {w:F}{xb:Nat}{s:Sc}{f:bS}{r:fF}{m:dF}{fs l:List bE}
theorem gU.fr {w':F}{X:Nat->Prop}{x:bS}(h:gU w x l)(hF:Fr w w' X)(hx:∀b aS,w.heap[b]?=M (C aS 193 (0,0))->¬X b):gU w' x l:=⟨h.1.fr hF hx,h.2⟩
theorem dQ.fr {w':F}{X:Nat->Prop}(h:dQ w r m)(hF:Fr w w' X)(hx:∀b aS,w.heap[b]?=M (C aS 114 (0,0))->¬X b)(hy:∀b aS,w.heap[b]?=M (C aS 302 (0,0))->¬X b):dQ w' r m:=
 ⟨h.1.fr hF hx,h.2.1.fr hF hx hy,h.2.2.1.fr hF hx hy,h.2.2.2⟩
theorem Dp (h:w.heap[xb]?=M (bM s f r)):∀(b:Nat) (aS:Array Y) (t:TypeId) (g:Nat×Nat),t≠189->w.heap[b]?=M (C aS t g)->¬(b=xb):=
 fun b aS t g e hb hx=>by subst hx;exact bX hb h (gJ e)
theorem gU.iV {i:Nat}{v:Y}{x:bS}(hf:gU w x l)(h:w.heap[xb]?=M (bM s f r)):gU (w.setCell ⟨xb,i,O⟩ v) x l:=
 hf.fr (Fr.set w ⟨xb,i,O⟩ v) (fun b aS e=>Dp h _ _ _ _ (by decide) e)
theorem dQ.iV {i:Nat}{r':fF}{v:Y}(hm:dQ w r' m)(h:w.heap[xb]?=M (bM s f r)):dQ (w.setCell ⟨xb,i,O⟩ v) r' m:=
 hm.fr (Fr.set w ⟨xb,i,O⟩ v) (fun b aS e=>Dp h _ _ _ _ (by decide) e) (fun b aS e=>Dp h _ _ _ _ (by decide) e)
theorem oQ {f':bS}(h:w.heap[xb]?=M (bM s f r)):(w.setCell ⟨xb,3,O⟩ f'.v).heap[xb]?=M (bM s f' r):=by rw[heap_setCell_same w xb 3 _ _ _ h];rfl
theorem Rb (b:Bool)(h:w.heap[xb]?=M (bM s f r)):(w.setCell ⟨xb,4,O⟩ (.bool b)).heap[xb]?=M (bM { s with jH:=b } f r):=by rw[heap_setCell_same w xb 4 _ _ _ h];rfl
theorem Rc (n:Int)(h:w.heap[xb]?=M (bM s f r)):(w.setCell ⟨xb,5,O⟩ (I V n)).heap[xb]?=M (bM { s with after:=n } f r):=by rw[heap_setCell_same w xb 5 _ _ _ h];rfl
theorem Ch (b:Bool)(h:w.heap[xb]?=M (bM s f r)):(w.setCell ⟨xb,10,O⟩ (.bool b)).heap[xb]?=M (bM { s with aX:=b } f r):=by rw[heap_setCell_same w xb 10 _ _ _ h];rfl
theorem iY (h:w.heap[xb]?=M (bM s f r)):
 w.cell? ⟨xb,3,O⟩=M f.v/\w.cell? ⟨xb,4,O⟩=M (.bool s.jH)/\w.cell? ⟨xb,5,O⟩=M (I V s.after)/\w.cell? ⟨xb,6,O⟩=M (I V s.one)/\w.cell? ⟨xb,7,O⟩=M (I V s.rest)/\w.cell? ⟨xb,10,O⟩=M (.bool s.aX)/\∀j,w.frozen? ⟨xb,j,O⟩=false:=by
 simp[World.cell?,World.frozen?,h,bM]
def sH (one rest:Int)(f:bE):Int:=if (if f.1=1 then one else rest)<(f.2.1.size:Int)-f.2.2 then f.2.2+(if f.1=1 then one else rest)else (f.2.1.size:Int)
def gI (one rest:Int)(f:bE):bE:=(f.1,f.2.1.extract 0 (sH one rest f).toNat,sH one rest f)
def okF (f:bE):Prop:=0<=f.2.2/\f.2.2<=(f.2.1.size:Int)/\f.2.1.size<=2000000
def dK (s:Sc)(l:List bE):Bool×Sc×List bE:=
 if s.jH=false then (true,s,l)else if 0<s.after then (true,{ s with after:=s.after-1 },l)else (false,{ s with jH:=false,aX:=false },qU (l.map (gI s.one s.rest)))
theorem nU {ops:Array Oper}{o:Oper}{a:Act}{aH:Act->F->Prop}{Q:Exit->Act->F->Prop}{E:Prop}(qE:o.guard=O)(s x:Operand)
 (ho:o.op= .call { callee:= .builtin .append,args:=#[s,x],argTypes:=#[184,184] })
 (base:Nat)(v:Y)(ys:List bE)(f:bE)(hs:a.eval s=v)(bA:lY w base v ys)(ad:Addr)(m c:Nat)(hx:a.eval x=Z (M ad) m c)(hm:m=1)(hr:∀j u,(Oj [f])[j]?=M u->w.cell? (ad.add j)=M u)
 (hlen:ys.length<=1000000000)(iI:base<=w.heap.size)
 (h:∀v' w',lY w' base v' (ys++ [f])->w.grownBy w' v.ownBlock->aH (a.put o.dst v') w'):if Region.wanted o (yielded ops a.tmps)=true then Oper.wp K o a w aH Q else E:=by
 obtain⟨i0,hi,nN,nO,oM⟩:=info_parts Tryz.infoFile;subst hm;refine step_append_lies w qE s x 184 ho base 193 i0 (.agg #[I V 0,.string ⟨#[]⟩,I V 0]) 3 32 Tryz.underlying184 hi nN nO oM rfl (by decide) v ys.length (Oj ys) hs bA ad 1 c (Oj [f]) hx rfl hr ?_ (by decide) (by unfold maxLen;omega) (by omega) iI w.heap.size rfl ?_
 ·intro u hu;obtain⟨p,-,hp⟩:=List.mem_flatMap.1 hu;simp[bE.cells]at hp;rcases hp with rfl|rfl|rfl<;>rfl
 ·intro g cap w' h1 h2 _ _;refine h _ w' ?_ h2;unfold lY;rw[Qw,List.length_append];exact h1
theorem map_take {k:Nat}{g:bE}(h:l[k]?=M g)(p:bE->bE):(l.take (k+1)).map p=(l.take k).map p++ [p g]:=by
 have bT:=(List.getElem?_eq_some_iff.1 h).1;rw[List.take_succ_eq_append_getElem bT,List.map_append,(List.getElem?_eq_some_iff.1 h).2];rfl
theorem Ih (h:bH w xb s fs m f)(hl:fs.length<=90000)(kI:∀f∈fs,okF f)(h1:0<=s.one)(h2:0<=s.rest)(ha:s.after<=9223372036854775807):
 H K 175 #[U (M ⟨xb,0,O⟩)] w fun e w'=>e=G (.bool (dK s fs).1)/\∃f':bS,bH w' xb (dK s fs).2.1 (dK s fs).2.2 m f'/\jN w w' xb f f':=by
 have HS:Hid (bH w xb s fs m f):=h;obtain⟨r,hx,hf,hm⟩:=h;obtain⟨c3,c4,c5,c6,c7,wC,cf⟩:=iY hx;by_cases e1:s.jH=false
 ·have HE:Hid (dK s fs=(true,s,fs)):=by show _=_;unfold dK;rw[if_pos e1]
  rw[e1]at c4;clear cf;go_enter Tryz.func175,Tryz.ntmps175
  go_wp2_with fail
  go_ret;rw[HE.out];exact⟨rfl,f,HS.out,jN.refl _ _ _⟩
 ·have Au:s.jH=true:=by simpa using e1
  rw[Au]at c4;by_cases e2:0<s.after
  ·have HE:Hid (dK s fs=(true,{ s with after:=s.after-1 },fs)):=by show _=_;unfold dK;rw[if_neg e1,if_pos e2]
   have f5:=cf 5;clear cf;go_enter Tryz.func175,Tryz.ntmps175
   go_wp2_with fail
   go_ret;rw[HE.out];exact⟨rfl,f,⟨r,Rc _ hx,hf.iV hx,hm.iV hx⟩,(jN.refl _ _ _).set⟩
  ·have HE:Hid (dK s fs=(false,{ s with jH:=false,aX:=false },qU (fs.map (gI s.one s.rest)))):=by show _=_;unfold dK;rw[if_neg e1,if_neg e2]
   have f4:=cf 4;have f10:=cf 10;clear cf;go_enter Tryz.func175,Tryz.ntmps175
   go_wp2_with fail
   have mU:=Rb false hx;have Yw:=Ch false mU;have KJ:=(hf.iV (i:=4) (v:= .bool false) hx).iV (i:=10) (v:= .bool false) mU;have Yx:=(hm.iV (i:=4) (v:= .bool false) hx).iV (i:=10) (v:= .bool false) mU;have F2:jN w ((w.setCell ⟨xb,4,O⟩ (.bool false)).setCell ⟨xb,10,O⟩ (.bool false)) xb f f:=(jN.refl _ _ _).set.set;clear mU hf hm hx c3 c4 c5 c6 c7 wC f4 f10;generalize (w.setCell ⟨xb,4,O⟩ (.bool false)).setCell ⟨xb,10,O⟩ (.bool false)=w2 at*;obtain⟨c3,-,-,c6,c7,-,-⟩:=iY Yw;simp only at c6 c7;have ZU:=aM Yw;obtain⟨fo,fl,fc⟩:=f;obtain⟨r1,r2,r3⟩:=KJ;simp only at r1 r2 r3;subst r2;simp only[bS.v]at c3
   go_loopw [3,4] (fun v i wr=> ∃k:Nat,k<=fs.length/\i=I V (k:Int)/\lY wr w2.heap.size v ((fs.take k).map (gI s.one s.rest))/\Below w2.heap.size w2 wr) (fun _ i _=>fs.length-(intOf i).toNat)
   case atStart=>exact⟨0,Nat.zero_le _,rfl,World.ownsRow_nil _ _ _ _,Below.refl _ _⟩
   case round=>
    obtain⟨k,hk,rfl,bA,hB⟩:=hrel;have Mt:((fs.take k).map (gI s.one s.rest)).length<=fs.length:=by rw[List.length_map,List.length_take];omega
    have d3:=cell_later hB c3;have d6:=cell_later hB c6;have d7:=cell_later hB c7;by_cases bT:k<fs.length
    ·obtain⟨⟨gn,gb,gs⟩,hg⟩:∃g,fs[k]?=M g:=⟨_,List.getElem?_eq_getElem bT⟩;have HT:Hid ((fs.take (k+1)).map (gI s.one s.rest)=(fs.take k).map (gI s.one s.rest)++ [gI s.one s.rest (gn,gb,gs)]):=map_take hg _;obtain⟨o1,o2,o3⟩:=kI _ (List.mem_of_getElem? hg);obtain⟨b,off,rfl,p1,p2,p3⟩:=(r1.aN hB).at hg;simp only at p1 p2 p3 o1 o2 o3;have i1:(0:Int)<=(k:Int):=by omega
     have i2:(k:Int)<(fs.length:Int):=by omega
     have hne:wr.heap.size≠xb:=by have:=hB.size;omega
     have hxr:xb<wr.heap.size:=by have:=hB.size;omega
     generalize (fs.take k).map (gI s.one s.rest)=out at bA Mt HT;clear hg r1 c3 c6 c7;by_cases g1:gn=1
     ·subst g1;by_cases g2:s.one<(gb.size:Int)-gs
      ·have hX0:(0:Int)<=gs+s.one:=by omega
       have hX1:gs+s.one<=(gb.size:Int):=by omega
       have HF:Hid (((1:Int),gb.extract 0 (gs+s.one).toNat,gs+s.one)=gI s.one s.rest ((1:Int),gb,gs)):=by show _=_;simp only[gI,sH];simp[*]
       go_upto_region 19 with fail
       have k0:(wr.alloc (C #[I V 1,.string gb,I V gs] 193)).cell? ⟨wr.heap.size,0,O⟩=M (I V 1):=by simp
       have k1:(wr.alloc (C #[I V 1,.string gb,I V gs] 193)).cell? ⟨wr.heap.size,1,O⟩=M (.string gb):=by simp
       have jB:lY (wr.alloc (C #[I V 1,.string gb,I V gs] 193)) w2.heap.size u3 out:=World.ownsRow.alloc bA _;have Eb:Below w2.heap.size w2 (wr.alloc (C #[I V 1,.string gb,I V gs] 193)):=aQ hB (aO _ _);have LV:∀i,M (⟨wr.heap.size,i,O⟩:Addr).block≠u3.ownBlock:=fun i e=>by have:=(World.ownsRow.lt bA _ e.symm).2;simp at this
       have CJ:=World.size_alloc wr (C #[I V 1,.string gb,I V gs] 193);have Kz:=Eb.size;clear bA hB p1 p2 p3 d3 d6 d7;generalize hq:wr.heap.size=tq at*;generalize wr.alloc (C #[I V 1,.string gb,I V gs] 193)=wq at*;have hnw:∀o,(wq.alloc o).heap[tq+1]?=M o:=fun o=>by rw[<-CJ];exact heap_alloc_new wq o
       have ZW:∀o,(wq.alloc o).cell? ⟨tq,0,O⟩=M (I V 1):=fun o=>cell_later (aO _ _) k0
       have ZX:∀o,(wq.alloc o).cell? ⟨tq,1,O⟩=M (.string gb):=fun o=>cell_later (aO _ _) k1
       go_region_held3 (fun w'=>w'.cell? ⟨tq,0,O⟩=M (I V 1)/\w'.cell? ⟨tq,1,O⟩=M (.string gb))
        (first|assumption|(exact⟨k0,k1⟩)|(exact⟨ZW _,ZX _⟩)|(exact⟨fQ.cell (ZW _) (LV 0),fQ.cell (ZX _) (LV 1)⟩))
        ((refine nU (by rfl) (.tmp 71) (.tmp 80) (by rfl) w2.heap.size u3 out ((1:Int),gb.extract 0 (gs+s.one).toNat,gs+s.one) (by rfl) (by exact World.ownsRow.alloc jB _) _ _ _ (by rfl) (by rfl) (by exact World.news_of_block (hnw _)) (by omega) (by simp;omega) ?_;intro v5 w5 cO fQ))
       all_goals go_wp2_with fail
       all_goals go_roundw
       case rel=>exact⟨k+1,by omega,by go_num,by rw[HT.out,<-HF.out];exact cO,(jC Eb (aO _ _) (by omega)).grown ⟨fQ.os,fQ.tape,fQ.output,fQ.size,fQ.block⟩ (by simp;omega) (fun k e=>(World.ownsRow.lt jB k e).1)⟩
       case measure=>simp[intOf];omega
      ·have hX0:(0:Int)<=(gb.size:Int):=by omega
       have hX1:(gb.size:Int)<=(gb.size:Int):=by omega
       have HF:Hid (((1:Int),gb,(gb.size:Int))=gI s.one s.rest ((1:Int),gb,gs)):=by show _=_;simp only[gI,sH];simp[*]
       go_upto_region 19 with fail
       have k0:(wr.alloc (C #[I V 1,.string gb,I V gs] 193)).cell? ⟨wr.heap.size,0,O⟩=M (I V 1):=by simp
       have k1:(wr.alloc (C #[I V 1,.string gb,I V gs] 193)).cell? ⟨wr.heap.size,1,O⟩=M (.string gb):=by simp
       have jB:lY (wr.alloc (C #[I V 1,.string gb,I V gs] 193)) w2.heap.size u3 out:=World.ownsRow.alloc bA _;have Eb:Below w2.heap.size w2 (wr.alloc (C #[I V 1,.string gb,I V gs] 193)):=aQ hB (aO _ _);have LV:∀i,M (⟨wr.heap.size,i,O⟩:Addr).block≠u3.ownBlock:=fun i e=>by have:=(World.ownsRow.lt bA _ e.symm).2;simp at this
       have CJ:=World.size_alloc wr (C #[I V 1,.string gb,I V gs] 193);have Kz:=Eb.size;clear bA hB p1 p2 p3 d3 d6 d7;generalize hq:wr.heap.size=tq at*;generalize wr.alloc (C #[I V 1,.string gb,I V gs] 193)=wq at*;have hnw:∀o,(wq.alloc o).heap[tq+1]?=M o:=fun o=>by rw[<-CJ];exact heap_alloc_new wq o
       have ZW:∀o,(wq.alloc o).cell? ⟨tq,0,O⟩=M (I V 1):=fun o=>cell_later (aO _ _) k0
       have ZX:∀o,(wq.alloc o).cell? ⟨tq,1,O⟩=M (.string gb):=fun o=>cell_later (aO _ _) k1
       go_region_held3 (fun w'=>w'.cell? ⟨tq,0,O⟩=M (I V 1)/\w'.cell? ⟨tq,1,O⟩=M (.string gb))
        (first|assumption|(exact⟨k0,k1⟩)|(exact⟨ZW _,ZX _⟩)|(exact⟨fQ.cell (ZW _) (LV 0),fQ.cell (ZX _) (LV 1)⟩))
        ((refine nU (by rfl) (.tmp 71) (.tmp 80) (by rfl) w2.heap.size u3 out ((1:Int),gb,(gb.size:Int)) (by rfl) (by exact World.ownsRow.alloc jB _) _ _ _ (by rfl) (by rfl) (by exact World.news_of_block (hnw _)) (by omega) (by simp;omega) ?_;intro v5 w5 cO fQ))
       all_goals go_wp2_with fail
       all_goals go_roundw
       case rel=>exact⟨k+1,by omega,by go_num,by rw[HT.out,<-HF.out];exact cO,(jC Eb (aO _ _) (by omega)).grown ⟨fQ.os,fQ.tape,fQ.output,fQ.size,fQ.block⟩ (by simp;omega) (fun k e=>(World.ownsRow.lt jB k e).1)⟩
       case measure=>simp[intOf];omega
     ·have g1':(gn==1)=false:=by simp[g1]
      by_cases g2:s.rest<(gb.size:Int)-gs
      ·have hX0:(0:Int)<=gs+s.rest:=by omega
       have hX1:gs+s.rest<=(gb.size:Int):=by omega
       have HF:Hid ((gn,gb.extract 0 (gs+s.rest).toNat,gs+s.rest)=gI s.one s.rest (gn,gb,gs)):=by show _=_;simp only[gI,sH];simp[*]
       go_upto_region 19 with fail
       have k0:(wr.alloc (C #[I V gn,.string gb,I V gs] 193)).cell? ⟨wr.heap.size,0,O⟩=M (I V gn):=by simp
       have k1:(wr.alloc (C #[I V gn,.string gb,I V gs] 193)).cell? ⟨wr.heap.size,1,O⟩=M (.string gb):=by simp
       have jB:lY (wr.alloc (C #[I V gn,.string gb,I V gs] 193)) w2.heap.size u3 out:=World.ownsRow.alloc bA _;have Eb:Below w2.heap.size w2 (wr.alloc (C #[I V gn,.string gb,I V gs] 193)):=aQ hB (aO _ _);have LV:∀i,M (⟨wr.heap.size,i,O⟩:Addr).block≠u3.ownBlock:=fun i e=>by have:=(World.ownsRow.lt bA _ e.symm).2;simp at this
       have CJ:=World.size_alloc wr (C #[I V gn,.string gb,I V gs] 193);have Kz:=Eb.size;clear bA hB p1 p2 p3 d3 d6 d7;generalize hq:wr.heap.size=tq at*;generalize wr.alloc (C #[I V gn,.string gb,I V gs] 193)=wq at*;have hnw:∀o,(wq.alloc o).heap[tq+1]?=M o:=fun o=>by rw[<-CJ];exact heap_alloc_new wq o
       have ZW:∀o,(wq.alloc o).cell? ⟨tq,0,O⟩=M (I V gn):=fun o=>cell_later (aO _ _) k0
       have ZX:∀o,(wq.alloc o).cell? ⟨tq,1,O⟩=M (.string gb):=fun o=>cell_later (aO _ _) k1
       go_region_held3 (fun w'=>w'.cell? ⟨tq,0,O⟩=M (I V gn)/\w'.cell? ⟨tq,1,O⟩=M (.string gb))
        (first|assumption|(exact⟨k0,k1⟩)|(exact⟨ZW _,ZX _⟩)|(exact⟨fQ.cell (ZW _) (LV 0),fQ.cell (ZX _) (LV 1)⟩))
        ((refine nU (by rfl) (.tmp 71) (.tmp 80) (by rfl) w2.heap.size u3 out (gn,gb.extract 0 (gs+s.rest).toNat,gs+s.rest) (by rfl) (by exact World.ownsRow.alloc jB _) _ _ _ (by rfl) (by rfl) (by exact World.news_of_block (hnw _)) (by omega) (by simp;omega) ?_;intro v5 w5 cO fQ))
       all_goals go_wp2_with fail
       all_goals go_roundw
       case rel=>exact⟨k+1,by omega,by go_num,by rw[HT.out,<-HF.out];exact cO,(jC Eb (aO _ _) (by omega)).grown ⟨fQ.os,fQ.tape,fQ.output,fQ.size,fQ.block⟩ (by simp;omega) (fun k e=>(World.ownsRow.lt jB k e).1)⟩
       case measure=>simp[intOf];omega
      ·have hX0:(0:Int)<=(gb.size:Int):=by omega
       have hX1:(gb.size:Int)<=(gb.size:Int):=by omega
       have HF:Hid ((gn,gb,(gb.size:Int))=gI s.one s.rest (gn,gb,gs)):=by show _=_;simp only[gI,sH];simp[*]
       go_upto_region 19 with fail
       have k0:(wr.alloc (C #[I V gn,.string gb,I V gs] 193)).cell? ⟨wr.heap.size,0,O⟩=M (I V gn):=by simp
       have k1:(wr.alloc (C #[I V gn,.string gb,I V gs] 193)).cell? ⟨wr.heap.size,1,O⟩=M (.string gb):=by simp
       have jB:lY (wr.alloc (C #[I V gn,.string gb,I V gs] 193)) w2.heap.size u3 out:=World.ownsRow.alloc bA _;have Eb:Below w2.heap.size w2 (wr.alloc (C #[I V gn,.string gb,I V gs] 193)):=aQ hB (aO _ _);have LV:∀i,M (⟨wr.heap.size,i,O⟩:Addr).block≠u3.ownBlock:=fun i e=>by have:=(World.ownsRow.lt bA _ e.symm).2;simp at this
       have CJ:=World.size_alloc wr (C #[I V gn,.string gb,I V gs] 193);have Kz:=Eb.size;clear bA hB p1 p2 p3 d3 d6 d7;generalize hq:wr.heap.size=tq at*;generalize wr.alloc (C #[I V gn,.string gb,I V gs] 193)=wq at*;have hnw:∀o,(wq.alloc o).heap[tq+1]?=M o:=fun o=>by rw[<-CJ];exact heap_alloc_new wq o
       have ZW:∀o,(wq.alloc o).cell? ⟨tq,0,O⟩=M (I V gn):=fun o=>cell_later (aO _ _) k0
       have ZX:∀o,(wq.alloc o).cell? ⟨tq,1,O⟩=M (.string gb):=fun o=>cell_later (aO _ _) k1
       go_region_held3 (fun w'=>w'.cell? ⟨tq,0,O⟩=M (I V gn)/\w'.cell? ⟨tq,1,O⟩=M (.string gb))
        (first|assumption|(exact⟨k0,k1⟩)|(exact⟨ZW _,ZX _⟩)|(exact⟨fQ.cell (ZW _) (LV 0),fQ.cell (ZX _) (LV 1)⟩))
        ((refine nU (by rfl) (.tmp 71) (.tmp 80) (by rfl) w2.heap.size u3 out (gn,gb,(gb.size:Int)) (by rfl) (by exact World.ownsRow.alloc jB _) _ _ _ (by rfl) (by rfl) (by exact World.news_of_block (hnw _)) (by omega) (by simp;omega) ?_;intro v5 w5 cO fQ))
       all_goals go_wp2_with fail
       all_goals go_roundw
       case rel=>exact⟨k+1,by omega,by go_num,by rw[HT.out,<-HF.out];exact cO,(jC Eb (aO _ _) (by omega)).grown ⟨fQ.os,fQ.tape,fQ.output,fQ.size,fQ.block⟩ (by simp;omega) (fun k e=>(World.ownsRow.lt jB k e).1)⟩
       case measure=>simp[intOf];omega
    ·have e9:fs.take k=fs:=List.take_of_length_le (by omega);rw[e9]at bA Mt;obtain⟨x9,n9,c9,rfl⟩:=rF bA;obtain⟨k1,k2,k3⟩:=qI bA;simp only at k1 k2 k3;have hxr:=(hB.block xb ZU).trans Yw;have HK:Hid (n9=(fs.map (gI s.one s.rest)).length):=k2;clear bA d6 d7 k2 k3
     go_wp2_with fail
     refine(QI (l:=fs.map (gI s.one s.rest)) hxr k1 HK.out (by omega)).mono ?_;rintro e w6 ⟨rfl,f',w7,rfl,Qy,hb7,Qz⟩
     go_wp2_with fail
     go_ret;rw[HE.out];have Ii:=(hb7.block xb (by have:=hB.size;omega)).trans hxr;have b27:=aQ hB hb7;exact⟨rfl,f',⟨r,oQ Ii,Qy.iV Ii,(Yx.aN b27).iV Ii⟩,((F2.aN b27).row (fun a e=>Nat.le_trans F2.1.1 (Nat.le_trans hB.size (Qz a e)))).set⟩
theorem Ij (h:w.heap[xb]?=M (bM s f r)):w.cell? ⟨xb,8,O⟩=M (.bool s.refusing)/\w.cell? ⟨xb,9,O⟩=M (I V s.left)/\w.cell? ⟨xb,11,O⟩=M (.bool s.ro):=by
 simp[World.cell?,h,bM]
theorem LW (n:Int)(h:w.heap[xb]?=M (bM s f r)):(w.setCell ⟨xb,6,O⟩ (I V n)).heap[xb]?=M (bM { s with one:=n } f r):=by rw[heap_setCell_same w xb 6 _ _ _ h];rfl
theorem LX (n:Int)(h:w.heap[xb]?=M (bM s f r)):(w.setCell ⟨xb,7,O⟩ (I V n)).heap[xb]?=M (bM { s with rest:=n } f r):=by rw[heap_setCell_same w xb 7 _ _ _ h];rfl
theorem Rf (b:Bool)(h:w.heap[xb]?=M (bM s f r)):(w.setCell ⟨xb,8,O⟩ (.bool b)).heap[xb]?=M (bM { s with refusing:=b } f r):=by rw[heap_setCell_same w xb 8 _ _ _ h];rfl
theorem Rh (n:Int)(h:w.heap[xb]?=M (bM s f r)):(w.setCell ⟨xb,9,O⟩ (I V n)).heap[xb]?=M (bM { s with left:=n } f r):=by rw[heap_setCell_same w xb 9 _ _ _ h];rfl
def oG (s:Sc):Sc×Int:=if s.aX then ({ s with aX:=false },0)else (s,3)
theorem TS (h:bH w xb s fs m f):
 H K 113 #[U (M ⟨xb,0,O⟩)] w fun e w'=>e=G (I V (oG s).2)/\bH w' xb (oG s).1 fs m f/\jN w w' xb f f:=by
 have HS:Hid (bH w xb s fs m f):=h;obtain⟨r,hx,hf,hm⟩:=h;obtain⟨-,-,-,-,-,wC,cf⟩:=iY hx;have f10:=cf 10;clear cf;by_cases e1:s.aX=true
 ·have HE:Hid (oG s=({ s with aX:=false },0)):=by show _=_;unfold oG;rw[if_pos e1]
  rw[e1]at wC;go_enter Tryz.func113,Tryz.ntmps113
  go_wp2_with fail
  go_ret;rw[HE.out];exact⟨rfl,⟨r,Ch _ hx,hf.iV hx,hm.iV hx⟩,(jN.refl _ _ _).set⟩
 ·have HE:Hid (oG s=(s,3)):=by show _=_;unfold oG;rw[if_neg e1]
  have Au:s.aX=false:=by simpa using e1
  rw[Au]at wC;go_enter Tryz.func113,Tryz.ntmps113
  go_wp2_with fail
  go_ret;rw[HE.out];exact⟨rfl,HS.out,jN.refl _ _ _⟩
def nV (s:Sc)(a:Int):Sc×Int:=if a<0 then (s,1)else ({ s with refusing:=true,left:=a },0)
theorem LY {a:Int}(h:bH w xb s fs m f):
 H K 116 #[U (M ⟨xb,0,O⟩),I V a] w fun e w'=>e=G (I V (nV s a).2)/\bH w' xb (nV s a).1 fs m f/\jN w w' xb f f:=by
 have HS:Hid (bH w xb s fs m f):=h;obtain⟨r,hx,hf,hm⟩:=h;obtain⟨-,-,-,-,-,-,cf⟩:=iY hx;obtain⟨c8,c9,-⟩:=Ij hx;have f8:=cf 8;have f9:=cf 9;clear cf;by_cases e1:a<0
 ·have HE:Hid (nV s a=(s,1)):=by show _=_;unfold nV;rw[if_pos e1]
  go_enter Tryz.func116,Tryz.ntmps116
  go_wp2_with fail
  go_ret;rw[HE.out];exact⟨rfl,HS.out,jN.refl _ _ _⟩
 ·have HE:Hid (nV s a=({ s with refusing:=true,left:=a },0)):=by show _=_;unfold nV;rw[if_neg e1]
  have mU:=Rf true hx;go_enter Tryz.func116,Tryz.ntmps116
  go_wp2_with fail
  go_ret;rw[HE.out];exact⟨rfl,⟨r,Rh _ mU,(hf.iV hx).iV mU,(hm.iV hx).iV mU⟩,(jN.refl _ _ _).set.set⟩
def Ci (s:Sc)(a b c:Int):Sc×Int:=if a<0\/b<0\/c<0 then (s,1)else ({ s with jH:=true,after:=a,one:=b,rest:=c },0)
theorem TT {a b c:Int}(h:bH w xb s fs m f):
 H K 115 #[U (M ⟨xb,0,O⟩),I V a,I V b,I V c] w fun e w'=>e=G (I V (Ci s a b c).2)/\bH w' xb (Ci s a b c).1 fs m f/\jN w w' xb f f:=by
 have HS:Hid (bH w xb s fs m f):=h;obtain⟨r,hx,hf,hm⟩:=h;obtain⟨-,c4,c5,c6,c7,-,cf⟩:=iY hx;have f4:=cf 4;have f5:=cf 5;have f6:=cf 6;have f7:=cf 7;clear cf;by_cases e1:a<0
 ·have HE:Hid (Ci s a b c=(s,1)):=by show _=_;unfold Ci;rw[if_pos (Or.inl e1)]
  go_enter Tryz.func115,Tryz.ntmps115
  go_wp2_with fail
  go_ret;rw[HE.out];exact⟨rfl,HS.out,jN.refl _ _ _⟩
 ·by_cases e2:b<0
  ·have HE:Hid (Ci s a b c=(s,1)):=by show _=_;unfold Ci;rw[if_pos (Or.inr (Or.inl e2))]
   go_enter Tryz.func115,Tryz.ntmps115
   go_wp2_with fail
   go_ret;rw[HE.out];exact⟨rfl,HS.out,jN.refl _ _ _⟩
  ·by_cases e3:c<0
   ·have HE:Hid (Ci s a b c=(s,1)):=by show _=_;unfold Ci;rw[if_pos (Or.inr (Or.inr e3))]
    go_enter Tryz.func115,Tryz.ntmps115
    go_wp2_with fail
    go_ret;rw[HE.out];exact⟨rfl,HS.out,jN.refl _ _ _⟩
   ·have HE:Hid (Ci s a b c=({ s with jH:=true,after:=a,one:=b,rest:=c },0)):=by show _=_;unfold Ci;rw[if_neg (by omega)]
    have mU:=Rb true hx;have Yw:=Rc a mU;have zH:=LW b Yw;go_enter Tryz.func115,Tryz.ntmps115
    go_wp2_with fail
    go_ret;rw[HE.out];exact⟨rfl,⟨r,LX c zH,(((hf.iV hx).iV mU).iV Yw).iV zH,(((hm.iV hx).iV mU).iV Yw).iV zH⟩,(jN.refl _ _ _).set.set.set.set⟩
end Go.Proofs.YtfplgfodoiiobaaGreatDoor
