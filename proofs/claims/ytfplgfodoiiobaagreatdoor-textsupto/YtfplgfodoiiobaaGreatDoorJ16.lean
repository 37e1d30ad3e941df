/- RefZ, RfA (joined). -/
import Derived.Test.YtfplgfodoiiobaaGreatDoorJ15
open Option renaming none→O,some→M
open Go.Value renaming int→I,slice→Z,pointer→U
open Go.IntKind renaming i64→V
open Go.Obj renaming cells→C
open Go.Ending renaming returned→G
open Go renaming World→F,Value→Y,Calls→H
open Go.Proofs.Tryz renaming prog→K
namespace Go.Proofs.YtfplgfodoiiobaaGreatDoor
set_option maxHeartbeats 4000000
set_option maxRecDepth 100000
open Go.RowKit
variable {w w1:F}{g i k:Nat}{S:ByteArray}{room:Int}{s:Sc}{fs:List bE}{m:dF}{b:Bool}{ao:Option Addr}{r:Sn}
abbrev AF:=Int×ByteArray
variable {l:List AF}{f:AF}
def Ez (f:AF):bE:=(f.1,f.2,(f.2.size:Int))
def yS (w:F)(ao:Option Addr)(l:List AF):Prop:=l=[]\/∃b off,ao=M ⟨b,off,O⟩/\∀(i:Nat) (f:AF),l[i]?=M f->w.cell? ⟨b,off+i*2,O⟩=M (I V f.1)/\w.cell? ⟨b,off+i*2+1,O⟩=M (.string f.2)
theorem yS.aN {w':F}(h:yS w ao l)(hg:aL w w'):yS w' ao l:=by
 rcases h with h|⟨b,off,e,hc⟩
 ·exact Or.inl h
 ·exact Or.inr ⟨b,off,e,fun i f hf=>⟨hg.cell (hc i f hf).1,hg.cell (hc i f hf).2⟩⟩
theorem yS.at (h:yS w ao l)(hf:l[i]?=M f):∃b off,ao=M ⟨b,off,O⟩/\w.cell? ⟨b,off+i*2,O⟩=M (I V f.1)/\w.cell? ⟨b,off+i*2+1,O⟩=M (.string f.2):=by
 rcases h with rfl|⟨b,off,e,hc⟩
 ·simp at hf
 ·exact⟨b,off,e,(hc i f hf).1,(hc i f hf).2⟩
def ja (room:Int)(l:List AF):Prop:=l.Pairwise (fun a b=>a.1<b.1)/\(∀f∈l,0<=f.1/\f.2.size≠0)/\bY (l.map Ez)<=room
theorem ER (h:ja room l)(k:Nat):ja room (l.take k):=by
 obtain⟨h1,h2,h3⟩:=h;refine⟨h1.sublist (List.take_sublist _ _),fun f hf=>h2 f (List.mem_of_mem_take hf),?_⟩;rw[List.map_take];exact Int.le_trans (Ew _ _) h3
theorem Gd (h:l[k]?=M f):bY ((l.take (k+1)).map Ez)=bY ((l.take k).map Ez)+(f.2.size:Int):=by
 have h2:(l.map Ez)[k]?=M (Ez f):=by simp[h]
 rw[List.map_take,List.map_take,zT h2];rfl
theorem rM (h:l[k]?=M f):l.take (k+1)=l.take k++ [f]:=by
 have bT:=(List.getElem?_eq_some_iff.1 h).1;rw[List.take_succ_eq_append_getElem bT,(List.getElem?_eq_some_iff.1 h).2]
theorem UG (h:l[k]?=M f):(l.take (k+1)).map Ez=(l.take k).map Ez++ [(f.1,f.2,(f.2.size:Int))]:=by rw[rM h,List.map_append];rfl
theorem Wv (h:l[k]?=M f):f∈l.take (k+1):=by rw[rM h];simp
theorem ES (h:ja room (l.take k))(hf:l[k]?=M f)(h0:0<=f.1)(h1:∀(j:Nat) (g:AF),k=j+1->l[j]?=M g->g.1<f.1)(h2:f.2.size≠0)(h3:bY ((l.take k).map Ez)+(f.2.size:Int)<=room):ja room (l.take (k+1)):=by
 obtain⟨a,b,c⟩:=h;refine⟨?_,?_,by rw[Gd hf];exact h3⟩
 ·rw[rM hf,List.pairwise_append];refine⟨a,by simp,fun x hx y hy=>?_⟩;simp only[List.mem_singleton]at hy;subst hy;cases k with
  |zero=>simp at hx
  |succ j=>
   obtain⟨g,hg⟩:∃g,l[j]?=M g:=⟨_,List.getElem?_eq_getElem (by have:=(List.getElem?_eq_some_iff.1 hf).1;omega)⟩;have h4:=h1 j g rfl hg;rw[rM hg]at hx a;rw[List.pairwise_append]at a;simp only[List.mem_append,List.mem_singleton]at hx;rcases hx with hx|rfl
   ·have:=a.2.2 x hx g (by simp);omega
   ·exact h4
 ·intro x hx;rw[rM hf]at hx;simp only[List.mem_append,List.mem_singleton]at hx;rcases hx with hx|rfl
  ·exact b x hx
  ·exact⟨h0,h2⟩
theorem zZ (h:¬ja s.room l)(ho:s.aX=false):gD (s,fs,m) l=((s,fs,m),1):=by
 unfold gD;rw[if_neg (by simp[ho]),if_neg (fun h2=>h ⟨h2.2.1,h2.2.2.1,h2.2.2.2⟩)]
theorem jb (h:ja s.room l)(hl:l.length<=40)(ho:s.aX=false):gD (s,fs,m) l=((s,l.map Ez,m),0):=by
 unfold gD;rw[if_neg (by simp[ho]),if_pos ⟨hl,h.1,h.2.1,h.2.2⟩];rfl
theorem Dw (hf:l[k]?=M f)(h:f.1<0\/f.2.size=0\/room<bY ((l.take k).map Ez)+(f.2.size:Int)):¬ja room l:=by
 intro hk;obtain⟨a,b,c⟩:=ER hk (k+1);have hb:=b f (Wv hf);rw[Gd hf]at c;omega
theorem okA_ord {j:Nat}{g:AF}(hf:l[j+1]?=M f)(hg:l[j]?=M g)(h:f.1<=g.1):¬ja room l:=by
 intro hk;obtain⟨a,-,-⟩:=ER hk (j+1+1);rw[rM hf,List.pairwise_append]at a;have:=a.2.2 g (Wv hg) f (by simp);omega
theorem oU {xb:Nat}{f:bS}(h:After w w1 xb s fs m f)(n:Nat):After w (w1.drewN n) xb s fs m f:=by
 obtain⟨f',h1,h2⟩:=h;exact⟨f',h1.aN (aZ (aL.refl w1) n),h2.aN (aZ (aL.refl w1) n)⟩
theorem jc {xb:Nat}{f:bS}{la ca:Nat}(h:bH w xb s fs m f)(hc:jO s)(hr:yS w ao l)(e1:la=l.length)(Mt:l.length<=140737488355328)(Ww:∀g∈l,g.2.size<=140737488355328):
 H K 111 #[U (M ⟨xb,0,O⟩),Z ao la ca] w fun e w'=>e=G (I V (gD (s,fs,m) l).2)/\After w w' xb s (gD (s,fs,m) l).1.2.1 m f:=by
 subst e1;have HS:Hid (bH w xb s fs m f):=h;obtain⟨C_,-⟩:=h.row;obtain⟨r,hx,hf,hm⟩:=h;obtain⟨wC,-⟩:=eF hx;have c2:=Nh hx;clear hx hf hm;by_cases e1:s.aX=true
 ·have HE:Hid (gD (s,fs,m) l=((s,fs,m),2)):=by show _=_;unfold gD;rw[if_pos e1]
  rw[e1]at wC;clear hr;go_enter Tryz.func111,Tryz.ntmps111
  go_wp2_with fail
  go_ret;rw[HE.out];exact⟨rfl,f,HS.out,jN.refl _ _ _⟩
 ·have ho:s.aX=false:=by simpa using e1
  rw[ho]at wC;by_cases e2:40<l.length
  ·have HE:Hid (gD (s,fs,m) l=((s,fs,m),1)):=by show _=_;unfold gD;rw[if_neg e1,if_neg (fun h2=>by omega)]
   clear hr;go_enter Tryz.func111,Tryz.ntmps111
   go_wp2_with fail
   go_ret;rw[HE.out];exact⟨rfl,f,HS.out,jN.refl _ _ _⟩
  ·have rm:=hc.kM;have HO:Hid (s.aX=false):=ho;clear e1 ho;go_enter Tryz.func111,Tryz.ntmps111
   go_wp2_with fail
   go_loopw [5,6,7] (fun u v i wr=> ∃k:Nat,k<=l.length/\i=I V (k:Int)/\u=I V (bY ((l.take k).map Ez))/\lY wr w.heap.size v ((l.take k).map Ez)/\Below w.heap.size w wr/\Hid (ja s.room (l.take k))) (fun _ _ i _=>l.length-(intOf i).toNat)
   case atStart=>exact⟨0,Nat.zero_le _,rfl,rfl,World.ownsRow_nil _ _ _ _,Below.refl _ _,⟨by simp,by simp,by simp[bY];exact hc.Ws⟩⟩
   case round=>
    obtain⟨k,hk,rfl,rfl,bA,hB,kI⟩:=hrel;have hus:bY ((l.take k).map Ez)<=s.room:=kI.out.2.2;have hun:=qK ((l.take k).map Ez);have d2:=cell_later hB c2;by_cases bT:k<l.length
    ·obtain⟨⟨gn,gb⟩,hg⟩:∃g,l[k]?=M g:=⟨_,List.getElem?_eq_getElem bT⟩;have hgb:=Ww _ (List.mem_of_getElem? hg);simp only at hgb;have HT:Hid (bY ((l.take (k+1)).map Ez)=bY ((l.take k).map Ez)+(gb.size:Int)):=Gd hg;have HL:Hid ((l.take (k+1)).map Ez=(l.take k).map Ez++ [(gn,gb,(gb.size:Int))]):=UG hg;have hlen:((l.take k).map Ez).length<=40:=by rw[List.length_map,List.length_take];omega
     have iy:=hr.aN hB;obtain⟨b,off,rfl,p1,p2⟩:=iy.at hg;simp only at p1 p2;have HG:Hid (l[k]?=M (gn,gb)):=hg;have i1:(0:Int)<=(k:Int):=by omega
     have i2:(k:Int)<(l.length:Int):=by omega
     have oI:Hid (bH wr xb s fs m f):=HS.out.aN hB;have xG:Hid (jN w wr xb f f):=(jN.refl w xb f).aN hB;have Hl:=hr;clear hg hr;generalize hUU:bY ((l.take k).map Ez)=aG at*;have HUU:Hid (bY ((l.take k).map Ez)=aG):=hUU;clear hUU;generalize hOO:(l.take k).map Ez=out at*;have HO2:Hid ((l.take k).map Ez=out):=hOO;clear hOO;have hs:=hB.size;by_cases hk0:k=0
     ·have HZ:Hid (k=0):=hk0;have k0:¬(0:Int)<(k:Int):=by omega
      have k1:decide (0<k)=false:=decide_eq_false (by omega);clear hk0;clear iy Hl;by_cases z1:gn<0
      ·have HE:Hid (gD (s,fs,m) l=((s,fs,m),1)):=zZ (Dw HG.out (Or.inl z1)) HO.out
       go_upto_region 12 with fail
       have y0:(wr.alloc (C #[I V gn,.string gb] 58)).cell? ⟨wr.heap.size,0,O⟩=M (I V gn):=by simp
       have y1:(wr.alloc (C #[I V gn,.string gb] 58)).cell? ⟨wr.heap.size,1,O⟩=M (.string gb):=by simp
       have y2:=cell_later (aO wr (C #[I V gn,.string gb] 58)) d2;have jB:lY (wr.alloc (C #[I V gn,.string gb] 58)) w.heap.size u6 out:=World.ownsRow.alloc bA _;have Eb:Below w.heap.size w (wr.alloc (C #[I V gn,.string gb] 58)):=aQ hB (aO _ _);have wS:Hid (After w (wr.alloc (C #[I V gn,.string gb] 58)) xb s fs m f):=⟨f,oI.out.aN (aO _ _),xG.out.aN (aO _ _)⟩;clear bA hB p1 p2 d2;have CJ:wr.heap.size<(wr.alloc (C #[I V gn,.string gb] 58)).heap.size:=by simp
       generalize hq:wr.heap.size=tq at*;generalize wr.alloc (C #[I V gn,.string gb] 58)=wq at*
       go_quiet (fail)
       go_wp2_with fail
       go_ret;rw[HE.out];exact⟨rfl,oU wS.out _⟩
      ·by_cases z3:gb.size=0
       ·have HE:Hid (gD (s,fs,m) l=((s,fs,m),1)):=zZ (Dw HG.out (Or.inr (Or.inl z3))) HO.out;have z3':((gb.size:Int)==0)=true:=by simp[z3]
        go_upto_region 12 with fail
        have y0:(wr.alloc (C #[I V gn,.string gb] 58)).cell? ⟨wr.heap.size,0,O⟩=M (I V gn):=by simp
        have y1:(wr.alloc (C #[I V gn,.string gb] 58)).cell? ⟨wr.heap.size,1,O⟩=M (.string gb):=by simp
        have y2:=cell_later (aO wr (C #[I V gn,.string gb] 58)) d2;have jB:lY (wr.alloc (C #[I V gn,.string gb] 58)) w.heap.size u6 out:=World.ownsRow.alloc bA _;have Eb:Below w.heap.size w (wr.alloc (C #[I V gn,.string gb] 58)):=aQ hB (aO _ _);have wS:Hid (After w (wr.alloc (C #[I V gn,.string gb] 58)) xb s fs m f):=⟨f,oI.out.aN (aO _ _),xG.out.aN (aO _ _)⟩;clear bA hB p1 p2 d2;have CJ:wr.heap.size<(wr.alloc (C #[I V gn,.string gb] 58)).heap.size:=by simp
        generalize hq:wr.heap.size=tq at*;generalize wr.alloc (C #[I V gn,.string gb] 58)=wq at*
        go_quiet (fail)
        go_wp2_with fail
        go_ret;rw[HE.out];exact⟨rfl,oU wS.out _⟩
       ·have z3':((gb.size:Int)==0)=false:=by rw[beq_eq_false_iff_ne];omega
        by_cases z4:s.room<aG+(gb.size:Int)
        ·have HE:Hid (gD (s,fs,m) l=((s,fs,m),1)):=zZ (Dw HG.out (Or.inr (Or.inr (by rw[HO2.out,HUU.out];exact z4)))) HO.out
         go_upto_region 12 with fail
         have y0:(wr.alloc (C #[I V gn,.string gb] 58)).cell? ⟨wr.heap.size,0,O⟩=M (I V gn):=by simp
         have y1:(wr.alloc (C #[I V gn,.string gb] 58)).cell? ⟨wr.heap.size,1,O⟩=M (.string gb):=by simp
         have y2:=cell_later (aO wr (C #[I V gn,.string gb] 58)) d2;have jB:lY (wr.alloc (C #[I V gn,.string gb] 58)) w.heap.size u6 out:=World.ownsRow.alloc bA _;have Eb:Below w.heap.size w (wr.alloc (C #[I V gn,.string gb] 58)):=aQ hB (aO _ _);have wS:Hid (After w (wr.alloc (C #[I V gn,.string gb] 58)) xb s fs m f):=⟨f,oI.out.aN (aO _ _),xG.out.aN (aO _ _)⟩;clear bA hB p1 p2 d2;have CJ:wr.heap.size<(wr.alloc (C #[I V gn,.string gb] 58)).heap.size:=by simp
         generalize hq:wr.heap.size=tq at*;generalize wr.alloc (C #[I V gn,.string gb] 58)=wq at*
         go_quiet (fail)
         go_wp2_with fail
         go_ret;rw[HE.out];exact⟨rfl,oU wS.out _⟩
        ·have HK:Hid (ja s.room (l.take (k+1))):=ES kI.out HG.out (by simp only;omega) (fun i g e hg=>by have:=HZ.out;omega) z3 (by rw[HO2.out,HUU.out];simp only;omega)
         go_upto_region 12 with fail
         have y0:(wr.alloc (C #[I V gn,.string gb] 58)).cell? ⟨wr.heap.size,0,O⟩=M (I V gn):=by simp
         have y1:(wr.alloc (C #[I V gn,.string gb] 58)).cell? ⟨wr.heap.size,1,O⟩=M (.string gb):=by simp
         have y2:=cell_later (aO wr (C #[I V gn,.string gb] 58)) d2;have jB:lY (wr.alloc (C #[I V gn,.string gb] 58)) w.heap.size u6 out:=World.ownsRow.alloc bA _;have Eb:Below w.heap.size w (wr.alloc (C #[I V gn,.string gb] 58)):=aQ hB (aO _ _);have wS:Hid (After w (wr.alloc (C #[I V gn,.string gb] 58)) xb s fs m f):=⟨f,oI.out.aN (aO _ _),xG.out.aN (aO _ _)⟩;clear bA hB p1 p2 d2;have CJ:wr.heap.size<(wr.alloc (C #[I V gn,.string gb] 58)).heap.size:=by simp
         generalize hq:wr.heap.size=tq at*;generalize wr.alloc (C #[I V gn,.string gb] 58)=wq at*
         go_quiet (fail)
         have Fa:lY (wq.drewN nq) w.heap.size u6 out:=jB;have hB9:Below w.heap.size w (wq.drewN nq):=aZ Eb _;have y0':(wq.drewN nq).cell? ⟨tq,0,O⟩=M (I V gn):=y0;have y1':(wq.drewN nq).cell? ⟨tq,1,O⟩=M (.string gb):=y1;have hs9:=hB9.size;have htq:tq<(wq.drewN nq).heap.size:=CJ;clear jB Eb y0 y1 y2;generalize wq.drewN nq=w9 at*
         go_wp2_with (at_builtin;go_must (refine nC (by rfl) (.tmp 63) (.tmp 72) (by rfl) w.heap.size _ out (gn,gb,(gb.size:Int)) (by rfl) (by exact World.ownsRow.alloc Fa _) _ _ _ (by rfl) (by rfl) (by exact World.news_of_block (heap_alloc_new w9 _)) (by omega) (by simp;omega) ?_);intro v5 w5 cO fQ)
         go_roundw
         case rel=>exact⟨k+1,by omega,by go_num,by rw[HT.out],by rw[HL.out];exact cO,(jC hB9 (aO _ _) (by omega)).grown fQ (by simp;omega) (fun k e=>(World.ownsRow.lt Fa k e).1),HK.out⟩
         case measure=>simp[intOf];omega
     ·obtain⟨j,rfl⟩:∃j,k=j+1:=⟨k-1,by omega⟩;clear hk0;obtain⟨⟨vn,vb⟩,hv⟩:∃g,l[j]?=M g:=⟨_,List.getElem?_eq_getElem (by omega)⟩;obtain⟨b',Oh,eb,v1,-⟩:=iy.at hv;cases eb
      simp only at v1;have HV:Hid (l[j]?=M (vn,vb)):=hv;have j0:(0:Int)<((j+1:Nat):Int):=by omega
      have j1:(0:Int)<=((j+1:Nat):Int)-1:=by omega
      have j2:((j+1:Nat):Int)-1<(l.length:Int):=by omega
      clear hv;clear iy Hl;by_cases z1:gn<0
      ·have HE:Hid (gD (s,fs,m) l=((s,fs,m),1)):=zZ (Dw HG.out (Or.inl z1)) HO.out
       go_upto_region 12 with fail
       have y0:(wr.alloc (C #[I V gn,.string gb] 58)).cell? ⟨wr.heap.size,0,O⟩=M (I V gn):=by simp
       have y1:(wr.alloc (C #[I V gn,.string gb] 58)).cell? ⟨wr.heap.size,1,O⟩=M (.string gb):=by simp
       have y2:=cell_later (aO wr (C #[I V gn,.string gb] 58)) d2;have y3:=cell_later (aO wr (C #[I V gn,.string gb] 58)) v1;have jB:lY (wr.alloc (C #[I V gn,.string gb] 58)) w.heap.size u6 out:=World.ownsRow.alloc bA _;have Eb:Below w.heap.size w (wr.alloc (C #[I V gn,.string gb] 58)):=aQ hB (aO _ _);have wS:Hid (After w (wr.alloc (C #[I V gn,.string gb] 58)) xb s fs m f):=⟨f,oI.out.aN (aO _ _),xG.out.aN (aO _ _)⟩;clear bA hB p1 p2 d2;have CJ:wr.heap.size<(wr.alloc (C #[I V gn,.string gb] 58)).heap.size:=by simp
       generalize hq:wr.heap.size=tq at*;generalize wr.alloc (C #[I V gn,.string gb] 58)=wq at*
       go_quiet (fail)
       go_wp2_with fail
       go_ret;rw[HE.out];exact⟨rfl,oU wS.out _⟩
      ·by_cases z2:gn<=vn
       ·have HE:Hid (gD (s,fs,m) l=((s,fs,m),1)):=zZ (okA_ord HG.out HV.out z2) HO.out
        go_upto_region 12 with fail
        have y0:(wr.alloc (C #[I V gn,.string gb] 58)).cell? ⟨wr.heap.size,0,O⟩=M (I V gn):=by simp
        have y1:(wr.alloc (C #[I V gn,.string gb] 58)).cell? ⟨wr.heap.size,1,O⟩=M (.string gb):=by simp
        have y2:=cell_later (aO wr (C #[I V gn,.string gb] 58)) d2;have y3:=cell_later (aO wr (C #[I V gn,.string gb] 58)) v1;have jB:lY (wr.alloc (C #[I V gn,.string gb] 58)) w.heap.size u6 out:=World.ownsRow.alloc bA _;have Eb:Below w.heap.size w (wr.alloc (C #[I V gn,.string gb] 58)):=aQ hB (aO _ _);have wS:Hid (After w (wr.alloc (C #[I V gn,.string gb] 58)) xb s fs m f):=⟨f,oI.out.aN (aO _ _),xG.out.aN (aO _ _)⟩;clear bA hB p1 p2 d2;have CJ:wr.heap.size<(wr.alloc (C #[I V gn,.string gb] 58)).heap.size:=by simp
        generalize hq:wr.heap.size=tq at*;generalize wr.alloc (C #[I V gn,.string gb] 58)=wq at*
        go_quiet (fail)
        go_wp2_with fail
        go_ret;rw[HE.out];exact⟨rfl,oU wS.out _⟩
       ·by_cases z3:gb.size=0
        ·have HE:Hid (gD (s,fs,m) l=((s,fs,m),1)):=zZ (Dw HG.out (Or.inr (Or.inl z3))) HO.out;have z3':((gb.size:Int)==0)=true:=by simp[z3]
         go_upto_region 12 with fail
         have y0:(wr.alloc (C #[I V gn,.string gb] 58)).cell? ⟨wr.heap.size,0,O⟩=M (I V gn):=by simp
         have y1:(wr.alloc (C #[I V gn,.string gb] 58)).cell? ⟨wr.heap.size,1,O⟩=M (.string gb):=by simp
         have y2:=cell_later (aO wr (C #[I V gn,.string gb] 58)) d2;have y3:=cell_later (aO wr (C #[I V gn,.string gb] 58)) v1;have jB:lY (wr.alloc (C #[I V gn,.string gb] 58)) w.heap.size u6 out:=World.ownsRow.alloc bA _;have Eb:Below w.heap.size w (wr.alloc (C #[I V gn,.string gb] 58)):=aQ hB (aO _ _);have wS:Hid (After w (wr.alloc (C #[I V gn,.string gb] 58)) xb s fs m f):=⟨f,oI.out.aN (aO _ _),xG.out.aN (aO _ _)⟩;clear bA hB p1 p2 d2;have CJ:wr.heap.size<(wr.alloc (C #[I V gn,.string gb] 58)).heap.size:=by simp
         generalize hq:wr.heap.size=tq at*;generalize wr.alloc (C #[I V gn,.string gb] 58)=wq at*
         go_quiet (fail)
         go_wp2_with fail
         go_ret;rw[HE.out];exact⟨rfl,oU wS.out _⟩
        ·have z3':((gb.size:Int)==0)=false:=by rw[beq_eq_false_iff_ne];omega
         by_cases z4:s.room<aG+(gb.size:Int)
         ·have HE:Hid (gD (s,fs,m) l=((s,fs,m),1)):=zZ (Dw HG.out (Or.inr (Or.inr (by rw[HO2.out,HUU.out];exact z4)))) HO.out
          go_upto_region 12 with fail
          have y0:(wr.alloc (C #[I V gn,.string gb] 58)).cell? ⟨wr.heap.size,0,O⟩=M (I V gn):=by simp
          have y1:(wr.alloc (C #[I V gn,.string gb] 58)).cell? ⟨wr.heap.size,1,O⟩=M (.string gb):=by simp
          have y2:=cell_later (aO wr (C #[I V gn,.string gb] 58)) d2;have y3:=cell_later (aO wr (C #[I V gn,.string gb] 58)) v1;have jB:lY (wr.alloc (C #[I V gn,.string gb] 58)) w.heap.size u6 out:=World.ownsRow.alloc bA _;have Eb:Below w.heap.size w (wr.alloc (C #[I V gn,.string gb] 58)):=aQ hB (aO _ _);have wS:Hid (After w (wr.alloc (C #[I V gn,.string gb] 58)) xb s fs m f):=⟨f,oI.out.aN (aO _ _),xG.out.aN (aO _ _)⟩;clear bA hB p1 p2 d2;have CJ:wr.heap.size<(wr.alloc (C #[I V gn,.string gb] 58)).heap.size:=by simp
          generalize hq:wr.heap.size=tq at*;generalize wr.alloc (C #[I V gn,.string gb] 58)=wq at*
          go_quiet (fail)
          go_wp2_with fail
          go_ret;rw[HE.out];exact⟨rfl,oU wS.out _⟩
         ·have HK:Hid (ja s.room (l.take (j+1+1))):=ES kI.out HG.out (by simp only;omega) (fun i g e hg=>by(have e':i=j:=by omega);subst e';rw[HV.out]at hg;cases hg;simp only;omega) z3 (by rw[HO2.out,HUU.out];simp only;omega)
          go_upto_region 12 with fail
          have y0:(wr.alloc (C #[I V gn,.string gb] 58)).cell? ⟨wr.heap.size,0,O⟩=M (I V gn):=by simp
          have y1:(wr.alloc (C #[I V gn,.string gb] 58)).cell? ⟨wr.heap.size,1,O⟩=M (.string gb):=by simp
          have y2:=cell_later (aO wr (C #[I V gn,.string gb] 58)) d2;have y3:=cell_later (aO wr (C #[I V gn,.string gb] 58)) v1;have jB:lY (wr.alloc (C #[I V gn,.string gb] 58)) w.heap.size u6 out:=World.ownsRow.alloc bA _;have Eb:Below w.heap.size w (wr.alloc (C #[I V gn,.string gb] 58)):=aQ hB (aO _ _);have wS:Hid (After w (wr.alloc (C #[I V gn,.string gb] 58)) xb s fs m f):=⟨f,oI.out.aN (aO _ _),xG.out.aN (aO _ _)⟩;clear bA hB p1 p2 d2;have CJ:wr.heap.size<(wr.alloc (C #[I V gn,.string gb] 58)).heap.size:=by simp
          generalize hq:wr.heap.size=tq at*;generalize wr.alloc (C #[I V gn,.string gb] 58)=wq at*
          go_quiet (fail)
          have Fa:lY (wq.drewN nq) w.heap.size u6 out:=jB;have hB9:Below w.heap.size w (wq.drewN nq):=aZ Eb _;have y0':(wq.drewN nq).cell? ⟨tq,0,O⟩=M (I V gn):=y0;have y1':(wq.drewN nq).cell? ⟨tq,1,O⟩=M (.string gb):=y1;have hs9:=hB9.size;have htq:tq<(wq.drewN nq).heap.size:=CJ;clear jB Eb y0 y1 y2 y3;generalize wq.drewN nq=w9 at*
          go_wp2_with (at_builtin;go_must (refine nC (by rfl) (.tmp 63) (.tmp 72) (by rfl) w.heap.size _ out (gn,gb,(gb.size:Int)) (by rfl) (by exact World.ownsRow.alloc Fa _) _ _ _ (by rfl) (by rfl) (by exact World.news_of_block (heap_alloc_new w9 _)) (by omega) (by simp;omega) ?_);intro v5 w5 cO fQ)
          go_roundw
          case rel=>exact⟨j+1+1,by omega,by go_num,by rw[HT.out],by rw[HL.out];exact cO,(jC hB9 (aO _ _) (by omega)).grown fQ (by simp;omega) (fun k e=>(World.ownsRow.lt Fa k e).1),HK.out⟩
          case measure=>simp[intOf];omega
    ·have e1:l.take k=l:=List.take_of_length_le (by omega);rw[e1]at bA kI;have HE:Hid (gD (s,fs,m) l=((s,l.map Ez,m),0)):=jb kI.out (by omega) HO.out;have oI:=HS.out.aN hB;obtain⟨r9,Oo,hf9,hm9⟩:=oI;obtain⟨x9,n9,c9,rfl⟩:=rF bA;have Qy:=qI bA;have Qz:=Ev bA;have c3:=iX Oo;obtain⟨-,-,-,-,-,-,cf⟩:=iY Oo;have f3:=cf 3;have tX:After w (wr.setCell ⟨xb,3,O⟩ (Z x9 n9 c9)) xb s (l.map Ez) m f:=⟨(x9,n9,c9),⟨r9,oQ (f':=(x9,n9,c9)) Oo,Qy.iV Oo,hm9.iV Oo⟩,(((jN.refl w xb f).aN hB).row Qz).set⟩;clear cf bA Oo hf9 hm9 hr
     go_wp2_with fail
     go_ret;rw[HE.out];exact⟨rfl,tX⟩
def UH (most depth room:Int):Prop:=most<0\/5000<most\/depth<0\/50<depth\/room<0\/1000000<room
def mD (most depth room:Int):Sc:=⟨most,depth,room,false,0,0,0,false,0,false,false,0⟩
def Rv:fF:=((O,0,0),(O,0,0),(O,0,0),0,0)
def Aa:dF:=([],[],[],0,0)
theorem jd {most depth:Int}(h:UH most depth room):H K 98 #[I V most,I V depth,I V room] w fun e w'=>e=G (U O)/\w'=w:=by
 unfold UH at h;by_cases z0:most<0
 ·clear h;go_enter Tryz.func98,Tryz.ntmps98
  go_wp2_with fail
  go_ret;exact⟨rfl,rfl⟩
 ·by_cases z1:5000<most
  ·clear h;go_enter Tryz.func98,Tryz.ntmps98
   go_wp2_with fail
   go_ret;exact⟨rfl,rfl⟩
  ·by_cases z2:depth<0
   ·clear h;go_enter Tryz.func98,Tryz.ntmps98
    go_wp2_with fail
    go_ret;exact⟨rfl,rfl⟩
   ·by_cases z3:50<depth
    ·clear h;go_enter Tryz.func98,Tryz.ntmps98
     go_wp2_with fail
     go_ret;exact⟨rfl,rfl⟩
    ·by_cases z4:room<0
     ·clear h;go_enter Tryz.func98,Tryz.ntmps98
      go_wp2_with fail
      go_ret;exact⟨rfl,rfl⟩
     ·have z5:1000000<room:=by omega
      clear h;go_enter Tryz.func98,Tryz.ntmps98
      go_wp2_with fail
      go_ret;exact⟨rfl,rfl⟩
theorem UI {most depth:Int}(h:¬UH most depth room):H K 98 #[I V most,I V depth,I V room] w fun e w'=>e=G (U (M ⟨w.heap.size,0,O⟩))/\bH w' w.heap.size (mD most depth room) [] Aa (O,0,0)/\aL w w':=by
 unfold UH at h;have z0:¬most<0:=by omega
 have z1:¬5000<most:=by omega
 have z2:¬depth<0:=by omega
 have z3:¬50<depth:=by omega
 have z4:¬room<0:=by omega
 have z5:¬1000000<room:=by omega
 clear h;go_enter Tryz.func98,Tryz.ntmps98
 go_wp2_with fail
 go_ret;exact⟨rfl,⟨Rv,heap_alloc_new w _,⟨Uq.nil _,rfl,fun _=>⟨rfl,rfl⟩⟩,⟨⟨yF.nil _,rfl,fun _=>⟨rfl,rfl⟩⟩,eX.nil _,eX.nil _,rfl,rfl⟩⟩,aO _ _⟩
def Og (w w':F)(g:Nat):Prop:=Fr w w' (fun b=>b=g)/\(w'.os=w.os/\w'.tape=w.tape/\w'.output=w.output)
theorem Og.refl (w:F)(g:Nat):Og w w g:=⟨Fr.refl _ _,rfl,rfl,rfl⟩
theorem Og.trans {w2:F}(h1:Og w w1 g)(h2:Og w1 w2 g):Og w w2 g:=⟨h1.1.trans h2.1,h2.2.1.trans h1.2.1,h2.2.2.1.trans h1.2.2.1,h2.2.2.2.trans h1.2.2.2⟩
theorem Og.aN {w2:F}(h1:Og w w1 g)(h2:aL w1 w2):Og w w2 g:=⟨h1.1.trans (Fr.cZ h2 _),h2.os.trans h1.2.1,h2.tape.trans h1.2.2.1,h2.output.trans h1.2.2.2⟩
theorem Og.set {v:Y}(h1:Og w w1 g):Og w (w1.setCell ⟨g,i,O⟩ v) g:=⟨h1.1.trans (Fr.set w1 ⟨g,i,O⟩ v),h1.2⟩
theorem Og.drewN (h1:Og w w1 g)(n:Nat):Og w (w1.drewN n) g:=h1.aN (aZ (aL.refl w1) n)
def yT (S:ByteArray)(i:Nat)(bad:Bool):Obj:=C #[.string S,I V (i:Int),.bool bad] 305 (0,0)
def lC (w:F)(g:Nat)(S:ByteArray)(r:Sn):Prop:=∃i:Nat,i<=S.size/\r.1=S.data.toList.drop i/\w.heap[g]?=M (yT S i r.2)
theorem Gf (h:w.heap[g]?=M (yT S i b)):w.cell? ⟨g,0,O⟩=M (.string S)/\w.cell? ⟨g,1,O⟩=M (I V (i:Int))/\w.cell? ⟨g,2,O⟩=M (.bool b)/\∀j,w.frozen? ⟨g,j,O⟩=false:=by
 simp[World.cell?,World.frozen?,h,yT]
theorem UJ (k:Nat)(h:w.heap[g]?=M (yT S i b)):(w.setCell ⟨g,1,O⟩ (I V (k:Int))).heap[g]?=M (yT S k b):=by rw[heap_setCell_same w g 1 _ _ _ h];rfl
theorem UK (c:Bool)(h:w.heap[g]?=M (yT S i b)):(w.setCell ⟨g,2,O⟩ (.bool c)).heap[g]?=M (yT S i c):=by rw[heap_setCell_same w g 2 _ _ _ h];rfl
theorem lC.bad (h:lC w g S r):lC (w.setCell ⟨g,2,O⟩ (.bool true)) g S (r.1,true):=by
 obtain⟨i,h1,h2,h3⟩:=h;exact⟨i,h1,h2,UK true h3⟩
theorem lC.aN {w':F}(h:lC w g S r)(hg:aL w w'):lC w' g S r:=by
 obtain⟨i,h1,h2,h3⟩:=h;exact⟨i,h1,h2,(hg.block g (aM h3)).trans h3⟩
theorem MI (i:Nat)(x y:Int)(ZF:0<=x)(hx:x % 2 ^ i=0)(ZG:x<2 ^ 32)(ZH:0<=y)(hy:y<2 ^ i)(ZI:y<2 ^ 32):bits .or V x y=x+y:=
 bits_join V 32 (by decide) (fun n h0 h1=>by rw[IntKind.wrap_i64];omega) i x y ZF hx ZG ZH hy ZI
theorem Gg (n:Int)(h0:0<=n)(h1:n<=4294967296):wrap64 n=n:=by unfold wrap64;omega
theorem or4 {a b c d:Int}(a0:0<=a)(a1:a<256)(b0:0<=b)(b1:b<256)(c0:0<=c)(c1:c<256)(d0:0<=d)(d1:d<256):
 bits .or V (bits .or V (bits .or V (wrap64 (wrap64 a*16777216)) (wrap64 (wrap64 b*65536))) (wrap64 (wrap64 c*256))) (wrap64 d)=a*16777216+b*65536+c*256+d:=by
 rw[Gg a (by omega) (by omega),Gg b (by omega) (by omega),Gg c (by omega) (by omega),Gg d (by omega) (by omega),Gg (a*16777216) (by omega) (by omega),Gg (b*65536) (by omega) (by omega),Gg (c*256) (by omega) (by omega)];rw[MI 24 (a*16777216) (b*65536) (by omega) (by omega) (by omega) (by omega) (by omega) (by omega)];rw[MI 16 (a*16777216+b*65536) (c*256) (by omega) (by omega) (by omega) (by omega) (by omega) (by omega)];rw[MI 8 (a*16777216+b*65536+c*256) d (by omega) (by omega) (by omega) (by omega) (by omega) (by omega)]
theorem ret_i64 {a b:Int}(h:a=b):Ending.returned (I V a)=G (I V b):=by rw[h]
theorem je {l:List UInt8}(h:w.heap[g]?=M (yT S i b))(hb:b=false)(hi:i+4<=S.size)(hl:l=S.data.toList.drop (i+4))(n m:Nat):lC (((w.drewN n).setCell ⟨g,1,O⟩ (I V ((i:Int)+4))).drewN m) g S (l,false):=by
 subst hb;refine⟨i+4,hi,hl,?_⟩;have h1:(w.drewN n).heap[g]?=M (yT S i false):=h;exact UJ (i+4) h1
theorem four_of {l:List UInt8}(h:4<=l.length):∃a b c d rest,l=a::b::c::d::rest:=by
 match l,h with
 |a::b::c::d::rest,_=>exact⟨a,b,c,d,rest,rfl⟩
theorem jg {a b c d:UInt8}{rest:List UInt8}(h:S.data.toList.drop i=a::b::c::d::rest):S.extract i (i+4)=⟨#[a,b,c,d]⟩:=by
 have h1:(S.extract i (i+4)).data.toList=(S.data.toList.drop i).take 4:=by
  rw[ByteArray.data_extract,Array.toList_extract];simp[List.extract]
 rw[h]at h1
 have h2:(S.extract i (i+4)).data=#[a,b,c,d]:=by
  apply Array.toList_inj.1;rw[h1];rfl
 cases hS:S.extract i (i+4)with
 |mk data=>rw[hS]at h2;simp only at h2;rw[h2]
theorem iR (h:lC w g S r)(hS:S.size<=2000000):
 H K 223 #[U (M ⟨g,0,O⟩)] w fun e w'=>e=G (I V (bG r).1)/\lC w' g S (bG r).2/\Og w w' g:=by
 have HS:Hid (lC w g S r):=h;obtain⟨i,h1,h2,h3⟩:=h;obtain⟨c0,c1,c2,cf⟩:=Gf h3;have f1:=cf 1;have f2:=cf 2;have hlen:r.1.length=S.size-i:=by rw[h2,List.length_drop];rfl
 clear cf;have HX:Hid (w.heap[g]?=M (yT S i r.2)):=h3;clear h3;by_cases hb:r.2=true
 ·have HE:Hid (bG r=(0,(r.1,true))):=by show _=_;exact zX hb
  rw[hb]at c2;go_enter Tryz.func223,Tryz.ntmps223
  go_wp2_with fail
  go_quiet (fail)
  go_wp2_with fail
  go_ret;rw[HE.out];exact⟨rfl,(HS.out.aN (aZ (aL.refl w) _)).bad,((Og.refl w g).drewN _).set⟩
 ·have pX:r.2=false:=by simpa using hb
  rw[pX]at c2;by_cases hs:r.1.length<4
  ·have HE:Hid (bG r=(0,(r.1,true))):=by show _=_;unfold bG;rw[if_pos (Or.inr hs)]
   have z1:(S.size:Int)<(i:Int)+4:=by omega
   clear h2 hlen;go_enter Tryz.func223,Tryz.ntmps223
   go_wp2_with fail
   go_quiet (fail)
   go_wp2_with fail
   go_ret;rw[HE.out];exact⟨rfl,(HS.out.aN (aZ (aL.refl w) _)).bad,((Og.refl w g).drewN _).set⟩
  ·have HE:Hid (bG r=(gX r.1,(r.1.drop 4,false))):=by show _=_;unfold bG;rw[if_neg (by rw[pX];simp;omega)]
   have z1:¬(S.size:Int)<(i:Int)+4:=by omega
   have z2:(i:Int)+4<=(S.size:Int):=by omega
   have z3:(0:Int)<=(i:Int):=by omega
   have z4:(i:Int)<=(i:Int)+4:=by omega
   obtain⟨a,b,c,d,rest,Ee⟩:∃a b c d rest,r.1=a::b::c::d::rest:=four_of (by omega);have hT:S.extract i (i+4)=⟨#[a,b,c,d]⟩:=jg (h2.symm.trans Ee);have HR:Hid (r.1=a::b::c::d::rest):=Ee;have HI:Hid (r.1.drop 4=S.data.toList.drop (i+4)):=by show _=_;rw[h2,List.drop_drop]
   have ba:=UInt8.toNat_lt a;have bb:=UInt8.toNat_lt b;have bc:=UInt8.toNat_lt c;have bd:=UInt8.toNat_lt d;clear h2 hlen Ee;go_enter Tryz.func223,Tryz.ntmps223
   go_wp2_with fail
   go_quiet (fail)
   go_wp2_with fail
   go_quiet (fail)
   go_wp2_with fail
   rw[hT]
   go_quiet (fail)
   go_wp2_with fail
   go_ret;rw[HE.out];refine⟨?_,je HX.out pX (by omega) HI.out _ _,((Og.refl w g).drewN _).set.drewN _⟩;rw[HR.out];exact ret_i64 (or4 (a:=(a.toNat:Int)) (b:=(b.toNat:Int)) (c:=(c.toNat:Int)) (d:=(d.toNat:Int)) (by omega) (by omega) (by omega) (by omega) (by omega) (by omega) (by omega) (by omega))
end Go.Proofs.YtfplgfodoiiobaaGreatDoor
