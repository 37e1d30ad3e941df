/- DrF, DrG (joined). -/
import Derived.ChangeKeysEq
import Derived.Test.YtfplgfodoiiobaaGreatDoorJ18
open Option renaming none→O,some→M
open Go.Value renaming int→I,slice→Z,pointer→U
open Go.IntKind renaming i64→V
open Go.Obj renaming cells→C
open Go.Ending renaming returned→G
open Go renaming World→F,Value→Y,Calls→H
open Go.Proofs.Tryz renaming prog→K
namespace Go.Proofs.YtfplgfodoiiobaaGreatDoor
set_option maxHeartbeats 2000000
set_option maxRecDepth 100000
open Go.RowKit
variable {w:F}{q a b c most:Int}{dp tb depth:Nat}{m:bR}{e:Ed}{l:List Ed}
def fK (q a b c:Int):Y:= .agg #[I .u8 q,I V a,I V b,I V c]
theorem ME (w:F)(b c:Int):bF (w.alloc (C #[I V b,I V c] 114)) (M ⟨w.heap.size,0,O⟩,1,1) [(b,c)]:=by
 have h:iV (w.alloc (C #[I V b,I V c] 114)) 0 (Z (M ⟨w.heap.size,0,O⟩) 1 1) [(b,c)]:=
  World.ownsRow_lit (base:=0) (e:=114) (size:=2) w #[I V b,I V c] 1 (Nat.zero_le _) (by unfold maxLen;omega) rfl
 obtain⟨ao,cap,e,hr,hn⟩:=Lr.yM h;cases e
 exact⟨hr,rfl,fun e=>by cases e⟩
theorem qV (w:F):bF w (O,0,0) []:=⟨Lr.nil w,rfl,fun _=>⟨rfl,rfl⟩⟩
theorem AJ (w:F)(o1 o2:Obj)(b c:Int):bF (((w.alloc o1).alloc o2).alloc (C #[I V b,I V c] 114)) (M ⟨w.heap.size+2,0,O⟩,1,1) [(b,c)]:=by
 have:=ME ((w.alloc o1).alloc o2) b c;simpa using this
theorem En:H K 241 #[fK q a b c] w fun e w'=> ∃yb:Nat,e=G (.agg #[I V a,Z O 0 0,Z (M ⟨yb,0,O⟩) 1 1])/\bF w' (M ⟨yb,0,O⟩,1,1) [(b,c)]/\aK w w':=by
 unfold fK;go_enter Tryz.func241,Tryz.ntmps241
 go_wp2_with fail
 refine bodyPost_ret (v:= .agg #[I V a,Z O 0 0,Z (M ⟨w.heap.size+2,0,O⟩) 1 1]) (by simp[results,Tryz.results241,go_sem]) rfl ?_;exact⟨_,rfl,AJ w _ _ b c,((aK.refl w).alloc _).alloc _|>.alloc _⟩
theorem Jh:H K 243 #[fK q a b c] w fun e w'=> ∃yb:Nat,e=G (.agg #[I V a,Z (M ⟨yb,0,O⟩) 1 1,Z O 0 0])/\bF w' (M ⟨yb,0,O⟩,1,1) [(0,b)]/\aK w w':=by
 unfold fK;go_enter Tryz.func243,Tryz.ntmps243
 go_wp2_with fail
 refine bodyPost_ret (v:= .agg #[I V a,Z (M ⟨w.heap.size+2,0,O⟩) 1 1,Z O 0 0]) (by simp[results,Tryz.results243,go_sem]) rfl ?_;exact⟨_,rfl,AJ w _ _ 0 b,((aK.refl w).alloc _).alloc _|>.alloc _⟩
def AL (m:bR)(a b c most:Int):Int:=
 if oH m.1 a 0=false then 5 else if c<1\/200<c then 6 else if most<sz m.1+c then 7 else if b≠m.2.2.2.2 then 1 else if 4096<(bY m.1 a [(b,c)]).length then 13 else 0
def Vb (m:bR)(a b c:Int):Int:=
 if b<1\/oH m.1 a b=false then 5 else if c≠0 then 1 else if 4096<(bU m.1 a b).1.length then 13 else 0
def yC (m:bR)(a b c:Int)(e:Ed):Int:=
 if ¬(a=0/\b=0/\c=0)then 1 else if 4096<(bY (bU m.1 e.1 (sz e.2.1)).1 e.1 e.2.2).length then 13 else 0
theorem Hr (h:aR w dp tb depth m)(hg:dJ m depth)(hc:c<=9223372036854770000)(Kn: -9223372036854770000<=c):
 H K 201 #[U (M ⟨dp,0,O⟩),fK q a b c,I V most] w fun e w'=>e=G (I V (AL m a b c most))/\aK w w':=by
 have hz:=hg.long;have hzn:0<=sz m.1:=nW hg.Ql;have HH:Hid (∀W,aK w W->H K 118 #[U (M ⟨dp,0,O⟩),I V a,I V 0] W fun e w'=>e=G (.bool (oH m.1 a 0))/\w'=W):=fun W hW=>Km (h.aM hW) (by omega) (by omega) (by omega) hzn
 have HL:Hid (∀W,aK w W->H K 78 #[U (M ⟨dp,0,O⟩)] W fun e w'=>e=G (I V (sz m.1))/\w'=W):=fun W hW=>Ca (h.aM hW)
 have HI:Hid (∀W,aK w W->H K 241 #[fK q a b c] W fun e w'=> ∃yb:Nat,e=G (.agg #[I V a,Z O 0 0,Z (M ⟨yb,0,O⟩) 1 1])/\bF w' (M ⟨yb,0,O⟩,1,1) [(b,c)]/\aK W w'):=fun W hW=>En
 have HR:Hid (oH m.1 a 0=true->∀W (yb:Nat),aK w W->bF W (M ⟨yb,0,O⟩,1,1) [(b,c)]->H K 240 #[U (M ⟨dp,0,O⟩),.agg #[I V a,Z O 0 0,Z (M ⟨yb,0,O⟩) 1 1]] W fun e w'=>e=G (.bool (decide ((bY m.1 a [(b,c)]).length<=4096)))/\aK W w'):=fun hp W yb hW hy=>by
  unfold oH at hp;simp only[Bool.and_eq_true,decide_eq_true_eq]at hp;have:=Nh (p:=a) (h.aM hW) (qV W) hy (fun q hq=>by simp at hq) (by simp) (by simp) hp.1 (by simp[sz];omega) (by omega);simpa[bU,sz,dS.v]using this
 obtain⟨u,r,hb,-⟩:=h;have HB:Hid (∀W,aK w W->W.cell? ⟨dp,6,O⟩=M (I V m.2.2.2.2)):=fun W hW=>hW.cell (bJ hb).2.2.2.2.2.2.1
 clear hb hg;unfold fK at*;have HE:Hid (AL m a b c most=if oH m.1 a 0=false then 5 else if c<1\/200<c then 6 else if most<sz m.1+c then 7 else if b≠m.2.2.2.2 then 1 else if 4096<(bY m.1 a [(b,c)]).length then 13 else 0):=rfl;generalize sz m.1=z at*;generalize m.2.2.2.2=bf at*;generalize (bY m.1 a [(b,c)]).length=N at*;generalize AL m a b c most=R at*;cases hh:oH m.1 a 0 with
 |false=>
  rw[hh]at HH HE;go_enter Tryz.func201,Tryz.ntmps201
  go_upto_region 1 with fail
  go_quiet (fail)
  go_wp2_with (first|(go_at_call 118;refine(HH.out _ (bD (aK.alloc (aK.refl w) _) _)).mono ?_;rintro e w5 ⟨rfl,rfl⟩))
  go_ret;rw[HE.out];exact⟨rfl,bD (aK.alloc (aK.refl w) _) _⟩
 |true=>
  rw[hh]at HH HE;have HR:Hid (∀W (yb:Nat),aK w W->bF W (M ⟨yb,0,O⟩,1,1) [(b,c)]->H K 240 #[U (M ⟨dp,0,O⟩),.agg #[I V a,Z O 0 0,Z (M ⟨yb,0,O⟩) 1 1]] W fun e w'=>e=G (.bool (decide (N<=4096)))/\aK W w'):=HR.out hh;rw[if_neg (by simp)]at HE;by_cases h1:c<1
  ·rw[if_pos (Or.inl h1)]at HE;go_enter Tryz.func201,Tryz.ntmps201
   go_upto_region 1 with fail
   go_quiet (fail)
   have G1:Hid (aK w ((w.alloc (C #[I .u8 q,I V a,I V b,I V c] 99)).drewN nq)):=bD (aK.alloc (aK.refl w) _) _;have t6:=HB.out _ G1.out
   go_wp2_with (first|(go_at_call 118;refine(HH.out _ G1.out).mono ?_;rintro e w5 ⟨rfl,rfl⟩)|(go_at_call 78;refine(HL.out _ G1.out).mono ?_;rintro e w5 ⟨rfl,rfl⟩)|(go_at_call 241;refine(HI.out _ G1.out).mono ?_;rintro e w6 ⟨yb,rfl,Vd,yF⟩)|(go_at_call 240;refine(HR.out w6 yb (G1.out.then yF) Vd).mono ?_;rintro e w7 ⟨rfl,jG⟩))
   go_ret;rw[HE.out];exact⟨rfl,G1.out⟩
  ·by_cases h2:200<c
   ·rw[if_pos (Or.inr h2)]at HE;go_enter Tryz.func201,Tryz.ntmps201
    go_upto_region 1 with fail
    go_quiet (fail)
    have G1:Hid (aK w ((w.alloc (C #[I .u8 q,I V a,I V b,I V c] 99)).drewN nq)):=bD (aK.alloc (aK.refl w) _) _;have t6:=HB.out _ G1.out
    go_wp2_with (first|(go_at_call 118;refine(HH.out _ G1.out).mono ?_;rintro e w5 ⟨rfl,rfl⟩)|(go_at_call 78;refine(HL.out _ G1.out).mono ?_;rintro e w5 ⟨rfl,rfl⟩)|(go_at_call 241;refine(HI.out _ G1.out).mono ?_;rintro e w6 ⟨yb,rfl,Vd,yF⟩)|(go_at_call 240;refine(HR.out w6 yb (G1.out.then yF) Vd).mono ?_;rintro e w7 ⟨rfl,jG⟩))
    go_ret;rw[HE.out];exact⟨rfl,G1.out⟩
   ·rw[if_neg (by omega)]at HE;have WR:IntKind.i64.wrap (z+c)=z+c:=by rw[IntKind.wrap_i64];omega
    by_cases h3:most<z+c
    ·rw[if_pos h3]at HE;go_enter Tryz.func201,Tryz.ntmps201
     go_upto_region 1 with fail
     go_quiet (fail)
     have G1:Hid (aK w ((w.alloc (C #[I .u8 q,I V a,I V b,I V c] 99)).drewN nq)):=bD (aK.alloc (aK.refl w) _) _;have t6:=HB.out _ G1.out
     go_wp2_with (first|(go_at_call 118;refine(HH.out _ G1.out).mono ?_;rintro e w5 ⟨rfl,rfl⟩)|(go_at_call 78;refine(HL.out _ G1.out).mono ?_;rintro e w5 ⟨rfl,rfl⟩)|(go_at_call 241;refine(HI.out _ G1.out).mono ?_;rintro e w6 ⟨yb,rfl,Vd,yF⟩)|(go_at_call 240;refine(HR.out w6 yb (G1.out.then yF) Vd).mono ?_;rintro e w7 ⟨rfl,jG⟩))
     go_ret;rw[HE.out];exact⟨rfl,G1.out⟩
    ·rw[if_neg h3]at HE;by_cases h4:b=bf
     ·rw[if_neg (by simpa using h4)]at HE;subst h4;by_cases h5:4096<N
      ·rw[if_pos h5]at HE;rw[decide_eq_false (by omega)]at HR;go_enter Tryz.func201,Tryz.ntmps201
       go_upto_region 1 with fail
       go_quiet (fail)
       have G1:Hid (aK w ((w.alloc (C #[I .u8 q,I V a,I V b,I V c] 99)).drewN nq)):=bD (aK.alloc (aK.refl w) _) _;have t6:=HB.out _ G1.out
       go_wp2_with (first|(go_at_call 118;refine(HH.out _ G1.out).mono ?_;rintro e w5 ⟨rfl,rfl⟩)|(go_at_call 78;refine(HL.out _ G1.out).mono ?_;rintro e w5 ⟨rfl,rfl⟩)|(go_at_call 241;refine(HI.out _ G1.out).mono ?_;rintro e w6 ⟨yb,rfl,Vd,yF⟩)|(go_at_call 240;refine(HR.out w6 yb (G1.out.then yF) Vd).mono ?_;rintro e w7 ⟨rfl,jG⟩))
       go_ret;rw[HE.out];exact⟨rfl,(G1.out.then yF).then jG⟩
      ·rw[if_neg h5]at HE;rw[decide_eq_true (by omega)]at HR;go_enter Tryz.func201,Tryz.ntmps201
       go_upto_region 1 with fail
       go_quiet (fail)
       have G1:Hid (aK w ((w.alloc (C #[I .u8 q,I V a,I V b,I V c] 99)).drewN nq)):=bD (aK.alloc (aK.refl w) _) _;have t6:=HB.out _ G1.out
       go_wp2_with (first|(go_at_call 118;refine(HH.out _ G1.out).mono ?_;rintro e w5 ⟨rfl,rfl⟩)|(go_at_call 78;refine(HL.out _ G1.out).mono ?_;rintro e w5 ⟨rfl,rfl⟩)|(go_at_call 241;refine(HI.out _ G1.out).mono ?_;rintro e w6 ⟨yb,rfl,Vd,yF⟩)|(go_at_call 240;refine(HR.out w6 yb (G1.out.then yF) Vd).mono ?_;rintro e w7 ⟨rfl,jG⟩))
       go_ret;rw[HE.out];exact⟨rfl,(G1.out.then yF).then jG⟩
     ·rw[if_pos h4]at HE;have h4':(b==bf)=false:=beq_eq_false_iff_ne.2 h4;go_enter Tryz.func201,Tryz.ntmps201
      go_upto_region 1 with fail
      go_quiet (fail)
      have G1:Hid (aK w ((w.alloc (C #[I .u8 q,I V a,I V b,I V c] 99)).drewN nq)):=bD (aK.alloc (aK.refl w) _) _;have t6:=HB.out _ G1.out
      go_wp2_with (first|(go_at_call 118;refine(HH.out _ G1.out).mono ?_;rintro e w5 ⟨rfl,rfl⟩)|(go_at_call 78;refine(HL.out _ G1.out).mono ?_;rintro e w5 ⟨rfl,rfl⟩)|(go_at_call 241;refine(HI.out _ G1.out).mono ?_;rintro e w6 ⟨yb,rfl,Vd,yF⟩)|(go_at_call 240;refine(HR.out w6 yb (G1.out.then yF) Vd).mono ?_;rintro e w7 ⟨rfl,jG⟩))
      go_ret;rw[HE.out];exact⟨rfl,G1.out⟩
theorem Ht (h:aR w dp tb depth m)(hg:dJ m depth)(fG:b<=9223372036854775807):
 H K 203 #[U (M ⟨dp,0,O⟩),fK q a b c,I V most] w fun e w'=>e=G (I V (Vb m a b c))/\aK w w':=by
 have hz:=hg.long;have hzn:0<=sz m.1:=nW hg.Ql;have HE:Hid (Vb m a b c=if b<1\/oH m.1 a b=false then 5 else if c≠0 then 1 else if 4096<(bU m.1 a b).1.length then 13 else 0):=rfl;by_cases h1:b<1
 ·rw[if_pos (Or.inl h1)]at HE;generalize Vb m a b c=R at*;unfold fK;clear h hg hz hzn;go_enter Tryz.func203,Tryz.ntmps203
  go_upto_region 1 with fail
  go_quiet (fail)
  have G1:Hid (aK w ((w.alloc (C #[I .u8 q,I V a,I V b,I V c] 99)).drewN nq)):=bD (aK.alloc (aK.refl w) _) _
  go_wp2_with fail
  go_ret;rw[HE.out];exact⟨rfl,G1.out⟩
 ·have HH:Hid (∀W,aK w W->H K 118 #[U (M ⟨dp,0,O⟩),I V a,I V b] W fun e w'=>e=G (.bool (oH m.1 a b))/\w'=W):=fun W hW=>Km (h.aM hW) (by omega) fG (by omega) hzn
  have HI:Hid (∀W,aK w W->H K 243 #[fK q a b c] W fun e w'=> ∃yb:Nat,e=G (.agg #[I V a,Z (M ⟨yb,0,O⟩) 1 1,Z O 0 0])/\bF w' (M ⟨yb,0,O⟩,1,1) [(0,b)]/\aK W w'):=fun W hW=>Jh
  have HR0:Hid (oH m.1 a b=true->(∀W (yb:Nat),aK w W->bF W (M ⟨yb,0,O⟩,1,1) [(0,b)]->H K 240 #[U (M ⟨dp,0,O⟩),.agg #[I V a,Z (M ⟨yb,0,O⟩) 1 1,Z O 0 0]] W fun e w'=>e=G (.bool (decide ((bU m.1 a b).1.length<=4096)))/\aK W w')):=fun hp W yb hW hy=>by
   unfold oH at hp;simp only[Bool.and_eq_true,decide_eq_true_eq]at hp;have:=Nh (p:=a) (h.aM hW) hy (qV W) (fun q hq=>by simp at hq;subst hq;unfold jU;simp only;omega) (by simp) (by simp) hp.1 (by simp[sz];omega) (by omega);simpa[bY,sz,dS.v]using this
  clear h hg;unfold fK at*;generalize sz m.1=z at*;generalize (bU m.1 a b).1.length=N at*;generalize Vb m a b c=R at*;cases hh:oH m.1 a b with
  |false=>
   rw[hh]at HH HE;rw[if_pos (Or.inr rfl)]at HE;clear HR0;go_enter Tryz.func203,Tryz.ntmps203
   go_upto_region 1 with fail
   go_quiet (fail)
   have G1:Hid (aK w ((w.alloc (C #[I .u8 q,I V a,I V b,I V c] 99)).drewN nq)):=bD (aK.alloc (aK.refl w) _) _
   go_wp2_with (first|(go_at_call 118;refine(HH.out _ G1.out).mono ?_;rintro e w5 ⟨rfl,rfl⟩))
   go_ret;rw[HE.out];exact⟨rfl,G1.out⟩
  |true=>
   rw[hh]at HH HE;have HR:Hid (∀W (yb:Nat),aK w W->bF W (M ⟨yb,0,O⟩,1,1) [(0,b)]->H K 240 #[U (M ⟨dp,0,O⟩),.agg #[I V a,Z (M ⟨yb,0,O⟩) 1 1,Z O 0 0]] W fun e w'=>e=G (.bool (decide (N<=4096)))/\aK W w'):=HR0.out hh;rw[if_neg (by simp;omega)]at HE;by_cases h4:c=0
   ·rw[if_neg (by simpa using h4)]at HE;subst h4;by_cases h5:4096<N
    ·rw[if_pos h5]at HE;rw[decide_eq_false (by omega)]at HR;go_enter Tryz.func203,Tryz.ntmps203
     go_upto_region 1 with fail
     go_quiet (fail)
     have G1:Hid (aK w ((w.alloc (C #[I .u8 q,I V a,I V b,I V 0] 99)).drewN nq)):=bD (aK.alloc (aK.refl w) _) _
     go_wp2_with (first|(go_at_call 118;refine(HH.out _ G1.out).mono ?_;rintro e w5 ⟨rfl,rfl⟩)|(go_at_call 243;refine(HI.out _ G1.out).mono ?_;rintro e w6 ⟨yb,rfl,Vd,yF⟩)|(go_at_call 240;refine(HR.out w6 yb (G1.out.then yF) Vd).mono ?_;rintro e w7 ⟨rfl,jG⟩))
     go_ret;rw[HE.out];exact⟨rfl,(G1.out.then yF).then jG⟩
    ·rw[if_neg h5]at HE;rw[decide_eq_true (by omega)]at HR;go_enter Tryz.func203,Tryz.ntmps203
     go_upto_region 1 with fail
     go_quiet (fail)
     have G1:Hid (aK w ((w.alloc (C #[I .u8 q,I V a,I V b,I V 0] 99)).drewN nq)):=bD (aK.alloc (aK.refl w) _) _
     go_wp2_with (first|(go_at_call 118;refine(HH.out _ G1.out).mono ?_;rintro e w5 ⟨rfl,rfl⟩)|(go_at_call 243;refine(HI.out _ G1.out).mono ?_;rintro e w6 ⟨yb,rfl,Vd,yF⟩)|(go_at_call 240;refine(HR.out w6 yb (G1.out.then yF) Vd).mono ?_;rintro e w7 ⟨rfl,jG⟩))
     go_ret;rw[HE.out];exact⟨rfl,(G1.out.then yF).then jG⟩
   ·rw[if_pos h4]at HE;have h4':(c==0)=false:=beq_eq_false_iff_ne.2 h4;go_enter Tryz.func203,Tryz.ntmps203
    go_upto_region 1 with fail
    go_quiet (fail)
    have G1:Hid (aK w ((w.alloc (C #[I .u8 q,I V a,I V b,I V c] 99)).drewN nq)):=bD (aK.alloc (aK.refl w) _) _
    go_wp2_with (first|(go_at_call 118;refine(HH.out _ G1.out).mono ?_;rintro e w5 ⟨rfl,rfl⟩))
    go_ret;rw[HE.out];exact⟨rfl,G1.out⟩
theorem eq3 (w:F)(a b c:Int):(Op.equalIn 10000 97 (.agg #[I V a,I V b,I V c]) (.agg #[I V 0,I V 0,I V 0])).run K w= .ok (decide (a=0/\b=0/\c=0)) w:=by
 obtain⟨i0,hi,uZ,wE,xZ⟩:=info_parts Tryz.infoInt;rw[run_equalIn_array w 9999 _ _ Tryz.underlying97 hi];have LA:Tryz.prog.cellsOf 3=1:=by kernel_rfl
 rw[LA];simp[List.range,List.range.loop,Op.eqItems,part,go_sem];by_cases h1:a=0<;>by_cases h2:b=0<;>by_cases h3:c=0<;>simp[h1,h2,h3]
theorem Ni {x y:dS}(h:aR w dp tb depth m)(hx:bF w x e.2.1)(hy:bF w y e.2.2)(hf:Ap (sz m.1) e.1 e.2.1 e.2.2)(hz:sz m.1<=5000):
 H K 244 #[U (M ⟨dp,0,O⟩),fK q a b c,.agg #[I V e.1,x.v,y.v]] w fun r w'=>r=G (I V (yC m a b c e))/\aK w w':=by
 obtain⟨f1,f2,f3,f4,f5,f6⟩:=hf;have HR:Hid (∀W,aK w W->H K 240 #[U (M ⟨dp,0,O⟩),.agg #[I V e.1,x.v,y.v]] W fun r w'=>r=G (.bool (decide ((bY (bU m.1 e.1 (sz e.2.1)).1 e.1 e.2.2).length<=4096)))/\aK W w'):=fun W hW=>Nh (h.aM hW) (hx.aM hW) (hy.aM hW) f3 (by omega) (by omega) f1 f2 (by omega)
 have HE:Hid (yC m a b c e=if ¬(a=0/\b=0/\c=0)then 1 else if 4096<(bY (bU m.1 e.1 (sz e.2.1)).1 e.1 e.2.2).length then 13 else 0):=rfl;generalize (bY (bU m.1 e.1 (sz e.2.1)).1 e.1 e.2.2).length=N at*;generalize yC m a b c e=R at*;obtain⟨x1,x2,x3⟩:=x;obtain⟨y1,y2,y3⟩:=y;obtain⟨e1,e2,e3⟩:=e;unfold fK;simp only[dS.v]at*;have G1:Hid (aK w ((w.alloc (C #[I .u8 q,I V a,I V b,I V c] 99)).alloc (C #[I V e1,Z x1 x2 x3,Z y1 y2 y3] 261))):=((aK.refl w).alloc _).alloc _;clear h hx hy f1 f2 f3 f4 f5 f6;by_cases h0:a=0/\b=0/\c=0
 ·have hq:∀w,_=Result.ok true w:=fun w=>(eq3 w a b c).trans (by rw[decide_eq_true h0])
  rw[if_neg (not_not_intro h0)]at HE;clear h0;by_cases h5:4096<N
  ·rw[if_pos h5]at HE;rw[decide_eq_false (by omega)]at HR;go_enter Tryz.func244,Tryz.ntmps244
   go_wp2_with (first|(go_at_call 240;refine(HR.out _ G1.out).mono ?_;rintro e w7 ⟨rfl,jG⟩))
   go_ret;rw[HE.out];exact⟨rfl,G1.out.then jG⟩
  ·rw[if_neg h5]at HE;rw[decide_eq_true (by omega)]at HR;go_enter Tryz.func244,Tryz.ntmps244
   go_wp2_with (first|(go_at_call 240;refine(HR.out _ G1.out).mono ?_;rintro e w7 ⟨rfl,jG⟩))
   go_ret;rw[HE.out];exact⟨rfl,G1.out.then jG⟩
 ·rw[if_pos h0]at HE;have hq:∀w,_=Result.ok false w:=fun w=>(eq3 w a b c).trans (by rw[decide_eq_false h0])
  clear h0;go_enter Tryz.func244,Tryz.ntmps244
  go_wp2_with fail
  go_ret;rw[HE.out];exact⟨rfl,G1.out⟩
theorem cO.head {xo:Option Addr}{xn xc:Nat}(h:cO w (xo,xn,xc) (e::l)):∃(b off:Nat) (r:fH),xo=M ⟨b,off,O⟩/\xn=l.length+1/\xn<=xc/\w.cell? ⟨b,off,O⟩=M (I V r.1)/\w.cell? ⟨b,off+1,O⟩=M r.2.1.v/\w.cell? ⟨b,off+2,O⟩=M r.2.2.v/\qO w r e:=by
 obtain⟨raw,h1,h2,h3,h4,h5⟩:=h;simp only at h1 h2 h3
 match raw,h4 with
 |r::raw,h4=>
  rcases h1.1 with h|⟨b,off,rfl,hc⟩
  ·cases h
  ·refine⟨b,off,r,rfl,by simp at h4;simp at h2;omega,h3.2,?_,hc 1 _ rfl,hc 2 _ rfl,h5 0 r e rfl rfl⟩;have:=hc 0 _ rfl;simpa using this
theorem cO.tail {b off xn xc:Nat}(h:cO w (M ⟨b,off,O⟩,xn,xc) (e::l)):cO w ((if xc=1 then M ⟨b,off,O⟩else M ⟨b,off+3,O⟩),l.length,xc-1) l:=by
 obtain⟨raw,h1,h2,h3,h4,h5⟩:=h;simp only at h1 h2 h3
 match raw,h4 with
 |r::raw,h4=>
  simp at h4 h2;obtain⟨c1,c2⟩:=h1;obtain⟨aQ,hc⟩:=c2 _ rfl;have yB:∀o:Nat,∀a,M (⟨b,o,O⟩:Addr)=M a->∃aQ,w.heap[a.block]?=M (C aQ 261 (0,0)):=fun o a e=>by cases e;exact⟨aQ,hc⟩
  by_cases hx:xc=1
  ·have Qn:raw=[]:=List.eq_nil_of_length_eq_zero (by omega);subst Qn;rw[if_pos hx];have SK:l.length=0:=by simpa using h4.symm
   exact⟨[],⟨Or.inl rfl,yB off⟩,SK,⟨fun e=>(by cases e),by simp only;omega⟩,by rw[SK];rfl,fun i r' e' a' b'=>by simp at a'⟩
  ·rw[if_neg hx];refine⟨raw,⟨?_,yB _⟩,by simp only;omega,⟨fun e=>(by cases e),by simp only;omega⟩,h4,fun i r' e' a' b'=>h5 (i+1) r' e' (by simpa using a') (by simpa using b')⟩;rcases c1 with c1|⟨b',Lx,e',UI⟩
   ·cases c1
   ·cases e'
    refine Or.inr ⟨b,off+3,rfl,fun j u hu=>?_⟩;have:=UI (j+3) u (by rw[rY,List.getElem?_append_right (by simp)];simpa using hu);rwa[show off+(j+3)=off+3+j from by omega]at this
theorem cO.len {x:dS}(h:cO w x l):x.2.1=l.length:=by
 obtain⟨raw,-,h2,-,h4,-⟩:=h;omega
def Qu (m:bR)(a b c:Int):Int:=match m.2.1 with
 | []=>8
 |e::_=>yC m a b c (e.1,e.2.2,e.2.1)
def Qv (m:bR)(a b c:Int):Int:=match m.2.2.1 with
 | []=>8
 |e::_=>yC m a b c e
theorem WS:∀(args:Array Y) (w:F),(callFunc 235 args).run K w= .ok (.enter 235 args) w:=enters_of Tryz.func235 (by kernel_rfl) rfl
theorem Td:∀(args:Array Y) (w:F),(callFunc 244 args).run K w= .ok (.enter 244 args) w:=enters_of Tryz.func244 (by kernel_rfl) rfl
theorem Nj:∀(args:Array Y) (w:F),(callFunc 245 args).run K w= .ok (.enter 245 args) w:=enters_of Tryz.func245 (by kernel_rfl) rfl
theorem Cc (h:aR w dp tb depth m)(hz:sz m.1<=5000)(Mg:∀e rest,m.2.1=e::rest->Ap (sz m.1) e.1 e.2.2 e.2.1):
 H K 205 #[U (M ⟨dp,0,O⟩),fK q a b c,I V most] w fun e w'=>e=G (I V (Qu m a b c))/\aK w w':=by
 have HM:Hid (∀W (x y:dS) (e:Ed),aK w W->bF W x e.2.1->bF W y e.2.2->Ap (sz m.1) e.1 e.2.1 e.2.2->H K 244 #[U (M ⟨dp,0,O⟩),fK q a b c,.agg #[I V e.1,x.v,y.v]] W fun r w'=>r=G (I V (yC m a b c e))/\aK W w'):=fun W x y e hW hx hy hf=>Ni (h.aM hW) hx hy hf hz
 obtain⟨u,r,hb,ht,hu,hr⟩:=h;obtain⟨-,-,-,d3,-⟩:=bJ hb;have G1:Hid (aK w (w.alloc (C #[I .u8 q,I V a,I V b,I V c] 99))):=(aK.refl w).alloc _;obtain⟨text,lN,nT,dn,bf⟩:=m;obtain⟨u1,u2,u3⟩:=u;simp only at*;clear hb ht hr;cases lN with
 |nil=>
  have Qw:u2=0:=hu.len;subst Qw;have HE:Hid (Qu (text,[],nT,dn,bf) a b c=8):=rfl;unfold fK;clear hu HM Mg;simp only[dS.v]at d3;have d3':=G1.out.cell d3;generalize Qu (text,[],nT,dn,bf) a b c=R at*;go_enter Tryz.func205,Tryz.ntmps205
  go_wp2_with fail
  go_ret;rw[HE.out];exact⟨rfl,G1.out⟩
 |cons e rest=>
  obtain⟨eb,oV,er,rfl,Qw,gG,e0,e1,e2,Ji⟩:=hu.head;have hf:=Mg e rest rfl;have HE:Hid (Qu (text,e::rest,nT,dn,bf) a b c=yC (text,e::rest,nT,dn,bf) a b c (e.1,e.2.2,e.2.1)):=rfl;have HT:Hid (∀W,aK w W->H K 235 #[.agg #[I V er.1,er.2.1.v,er.2.2.v]] W fun e w'=>e=G (.agg #[I V er.1,er.2.2.v,er.2.1.v])/\aK W w'):=fun W hW=>Ho
  have HC:Hid (∀W,aK w W->H K 244 #[U (M ⟨dp,0,O⟩),fK q a b c,.agg #[I V er.1,er.2.2.v,er.2.1.v]] W fun r w'=>r=G (I V (yC (text,e::rest,nT,dn,bf) a b c (e.1,e.2.2,e.2.1)))/\aK W w'):=fun W hW=>by
   rw[Ji.1];exact HM.out W er.2.2 er.2.1 (e.1,e.2.2,e.2.1) hW (Ji.2.2.aM hW) (Ji.2.1.aM hW) hf
  clear HM hu Ji hf Mg;generalize Qu (text,e::rest,nT,dn,bf) a b c=R at*;generalize yC (text,e::rest,nT,dn,bf) a b c (e.1,e.2.2,e.2.1)=R' at*;obtain⟨ep,⟨xo,xn,xc⟩,⟨yo,yn,yc⟩⟩:=er;subst Qw;unfold fK at*;simp only[dS.v]at*;have j3:(((rest.length+1:Nat):Int)==0)=false:=by rw[beq_eq_false_iff_ne];omega
  have j1:(0:Int)<((rest.length+1:Nat):Int):=by omega
  obtain⟨w1,dU⟩:∃w1,w1=w.alloc (C #[I .u8 q,I V a,I V b,I V c] 99):=⟨_,rfl⟩;have bX:w1.heap[w.heap.size]?=M (C #[I .u8 q,I V a,I V b,I V c] 99 (0,0)):=by rw[dU];exact heap_alloc_new w _
  have k0:w1.cell? ⟨w.heap.size,0,O⟩=M (I .u8 q):=by simp[World.cell?,bX]
  have k1:w1.cell? ⟨w.heap.size,1,O⟩=M (I V a):=by simp[World.cell?,bX]
  have k2:w1.cell? ⟨w.heap.size,2,O⟩=M (I V b):=by simp[World.cell?,bX]
  have k3:w1.cell? ⟨w.heap.size,3,O⟩=M (I V c):=by simp[World.cell?,bX]
  rw[<-dU]at G1;have d3':=G1.out.cell d3;have e0':=G1.out.cell e0;have e1':=G1.out.cell e1;have e2':=G1.out.cell e2;clear bX d3 e0 e1 e2;go_enter Tryz.func205,Tryz.ntmps205
  go_upto_region 1 with fail
  rw[<-dU];clear dU
  go_upto_region 3 with fail
  go_region_law (first|(refine bK (by rfl) 235 _ _ (by rfl) _ (by simp[Act.eval];done) WS ((HT.out _ (by repeat (first|exact G1.out|refine aK.drew ?_))).mono ?_);rintro e w7 ⟨rfl,jG⟩;refine⟨_,rfl,?_⟩;have k07:=jG.cell (show _=M (I .u8 q) from k0);have k17:=jG.cell (show _=M (I V a) from k1);have k27:=jG.cell (show _=M (I V b) from k2);have k37:=jG.cell (show _=M (I V c) from k3))|(refine bK (by rfl) 244 _ _ (by rfl) _ (by simp[Act.eval];done) Td ((HC.out _ (by repeat (first|exact G1.out|refine aK.drew ?_|refine aK.then ?_ jG))).mono ?_);rintro e w8 ⟨rfl,SQ⟩;refine⟨_,rfl,?_⟩))
  all_goals go_wp2_with fail
  all_goals go_ret
  all_goals rw[HE.out]
  all_goals exact⟨rfl,(by refine aK.then ?_ SQ;repeat (first|exact G1.out|refine aK.drew ?_|refine aK.then ?_ jG))⟩
theorem Ce (h:aR w dp tb depth m)(hz:sz m.1<=5000)(Mg:∀e rest,m.2.2.1=e::rest->Ap (sz m.1) e.1 e.2.1 e.2.2):
 H K 207 #[U (M ⟨dp,0,O⟩),fK q a b c,I V most] w fun e w'=>e=G (I V (Qv m a b c))/\aK w w':=by
 have HM:Hid (∀W (x y:dS) (e:Ed),aK w W->bF W x e.2.1->bF W y e.2.2->Ap (sz m.1) e.1 e.2.1 e.2.2->H K 244 #[U (M ⟨dp,0,O⟩),fK q a b c,.agg #[I V e.1,x.v,y.v]] W fun r w'=>r=G (I V (yC m a b c e))/\aK W w'):=fun W x y e hW hx hy hf=>Ni (h.aM hW) hx hy hf hz
 obtain⟨r,u,hb,ht,hr,hu⟩:=h;obtain⟨-,-,-,-,d3,-⟩:=bJ hb;have G1:Hid (aK w (w.alloc (C #[I .u8 q,I V a,I V b,I V c] 99))):=(aK.refl w).alloc _;obtain⟨text,lN,nT,dn,bf⟩:=m;obtain⟨u1,u2,u3⟩:=u;simp only at*;clear hb ht hr;cases nT with
 |nil=>
  have Qw:u2=0:=hu.len;subst Qw;have HE:Hid (Qv (text,lN,[],dn,bf) a b c=8):=rfl;unfold fK;clear hu HM Mg;simp only[dS.v]at d3;have d3':=G1.out.cell d3;generalize Qv (text,lN,[],dn,bf) a b c=R at*;go_enter Tryz.func207,Tryz.ntmps207
  go_wp2_with fail
  go_ret;rw[HE.out];exact⟨rfl,G1.out⟩
 |cons e rest=>
  obtain⟨eb,oV,er,rfl,Qw,gG,e0,e1,e2,Ji⟩:=hu.head;have hf:=Mg e rest rfl;have HE:Hid (Qv (text,lN,e::rest,dn,bf) a b c=yC (text,lN,e::rest,dn,bf) a b c e):=rfl
  have HC:Hid (∀W,aK w W->H K 244 #[U (M ⟨dp,0,O⟩),fK q a b c,.agg #[I V er.1,er.2.1.v,er.2.2.v]] W fun r w'=>r=G (I V (yC (text,lN,e::rest,dn,bf) a b c e))/\aK W w'):=fun W hW=>by
   rw[Ji.1];exact HM.out W er.2.1 er.2.2 e hW (Ji.2.1.aM hW) (Ji.2.2.aM hW) hf
  clear HM hu Ji hf Mg;generalize Qv (text,lN,e::rest,dn,bf) a b c=R at*;generalize yC (text,lN,e::rest,dn,bf) a b c e=R' at*;obtain⟨ep,⟨xo,xn,xc⟩,⟨yo,yn,yc⟩⟩:=er;subst Qw;unfold fK at*;simp only[dS.v]at*;have j3:(((rest.length+1:Nat):Int)==0)=false:=by rw[beq_eq_false_iff_ne];omega
  have j1:(0:Int)<((rest.length+1:Nat):Int):=by omega
  obtain⟨w1,dU⟩:∃w1,w1=w.alloc (C #[I .u8 q,I V a,I V b,I V c] 99):=⟨_,rfl⟩;have bX:w1.heap[w.heap.size]?=M (C #[I .u8 q,I V a,I V b,I V c] 99 (0,0)):=by rw[dU];exact heap_alloc_new w _
  have k0:w1.cell? ⟨w.heap.size,0,O⟩=M (I .u8 q):=by simp[World.cell?,bX]
  have k1:w1.cell? ⟨w.heap.size,1,O⟩=M (I V a):=by simp[World.cell?,bX]
  have k2:w1.cell? ⟨w.heap.size,2,O⟩=M (I V b):=by simp[World.cell?,bX]
  have k3:w1.cell? ⟨w.heap.size,3,O⟩=M (I V c):=by simp[World.cell?,bX]
  rw[<-dU]at G1;have d3':=G1.out.cell d3;have e0':=G1.out.cell e0;have e1':=G1.out.cell e1;have e2':=G1.out.cell e2;clear bX d3 e0 e1 e2;go_enter Tryz.func207,Tryz.ntmps207
  go_upto_region 1 with fail
  rw[<-dU];clear dU
  go_upto_region 3 with fail
  go_region_law (first|(refine bK (by rfl) 244 _ _ (by rfl) _ (by simp[Act.eval];done) Td ((HC.out _ (by repeat (first|exact G1.out|refine aK.drew ?_))).mono ?_);rintro e w8 ⟨rfl,SQ⟩;refine⟨_,rfl,?_⟩))
  all_goals go_wp2_with fail
  all_goals go_ret
  all_goals rw[HE.out]
  all_goals exact⟨rfl,(by refine aK.then ?_ SQ;repeat (first|exact G1.out|refine aK.drew ?_))⟩
end Go.Proofs.YtfplgfodoiiobaaGreatDoor
