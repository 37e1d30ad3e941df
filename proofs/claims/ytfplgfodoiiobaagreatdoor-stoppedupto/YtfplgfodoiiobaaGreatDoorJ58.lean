/- KxS (joined). -/
import Derived.Test.YtfplgfodoiiobaaGreatDoorJ57
open Option renaming none→O,some→M
open Go.Value renaming int→I,slice→Z,pointer→U
open Go.IntKind renaming i64→V
open Go.Obj renaming cells→C
open Go.Ending renaming returned→G
open Go renaming World→F,Calls→H
open Go.Proofs.Tryz renaming prog→K
namespace Go.Proofs.YtfplgfodoiiobaaGreatDoor
set_option maxHeartbeats 4000000
set_option maxRecDepth 100000
open Go.RowKit
theorem stopped_walk {w:F}{ps:Nat->Addr}{QG:Int}{ao so:Option Addr}{len cap slen scap:Nat}{tail:ByteArray}(hG:Gl w ps)(hA:vX w w.heap.size ao len)(DL: -9223372036854775808<=QG)(hd2:QG<=9223372036854775807)(hlen:(len:Int)<=9223372036854775807)(Zc:tail.size<=1048576)(hI:IntsOk w w.heap.size so slen)(_hsl:(slen:Int)<=9223372036854775807):
 H K 11 #[I V QG,Z ao len cap,.string tail,Z so slen scap] w fun e w'=>e=G (.bool true)/\aJ w w':=by
 have hP:=vZ (w:=w) (c:=QG) (n:=51) DL hd2 (by decide) (by decide);have hSt:=stops_any hG;have HF:Hid (∀W (d:Nat),aJ w W->d<=50->H K 17 #[I V (d:Int)] W fun e w'=> ∃qp X,e=G (U (M ⟨qp,0,O⟩))/\rF w' ps qp d [] ([],[],[],0) 0 0 X/\(∀b,X b->W.heap.size<=b)/\aJ W w'):=fun W d hW hd=>BR (hG.aM hW) hd
 have HN:Hid (∀W (d:Nat),aJ w W->d<=50->H K 33 #[I V 5000,I V (d:Int),I V 1000000] W fun e w'=> ∃qp X,e=G (.tuple #[U (M ⟨qp,0,O⟩),I V 0])/\LF w' ps qp d [] X/\(∀b,X b->W.heap.size<=b)/\aJ W w'):=fun W d hW hd=>knew_any (hG.aM hW) hd
 have HA0:Hid (vX w w.heap.size ao len):=hA;have HI0:Hid (IntsOk w w.heap.size so slen):=hI;clear hG hA hI;go_enter Tryz.func11,Tryz.ntmps11
 go_upto_region 4 with(first|(go_at_call 15;refine hP.mono ?_;rintro e w0 ⟨r,rfl,r1,r2,rfl⟩;obtain⟨d,rfl⟩:=Int.eq_ofNat_of_zero_le r1;have hd:d<=50:=by omega)|(go_at_call 20;refine hSt.mono ?_;rintro e w1 ⟨rfl,g1⟩;have hFr:=HF.out _ d g1 hd)|(go_at_call 17;refine hFr.mono ?_;clear hFr;rintro e w2 ⟨qx,X,rfl,s2,x2,g2⟩;have hN:=HN.out _ d (g1.then g2) hd))
 go_upto_region 5 with(go_at_call 33;refine hN.mono ?_;clear hN;rintro e w3 ⟨qy,aB,rfl,s3,y3,g3⟩;have hN:=HN.out _ d ((g1.then g2).then g3) hd)
 go_upto_region 6 with(go_at_call 33;refine hN.mono ?_;clear hN;rintro e w4 ⟨aAU,qm,rfl,s4,z4,g4⟩)
 have hPl:=stp_any (cap:=cap) HA0.out hlen (((g1.then g2).then g3).then g4) hd ((s2.aM g3).aM g4) (s3.aM g4) s4 (fun b hb hy=>by have h1:=(s2.ty hb).lt;have h2:=y3 b hy;omega) (fun b hb hy=>by have h1:=(s2.ty hb).lt;have h2:=z4 b hy;have:=g3.size;omega) (fun b hb hy=>by have h1:=(s3.ty hb).lt;have h2:=z4 b hy;omega) (fun b hb=>Nat.le_trans g1.size (x2 b hb)) (fun b hb=>Nat.le_trans (g1.then g2).size (y3 b hb)) (fun b hb=>Nat.le_trans ((g1.then g2).then g3).size (z4 b hb));clear s2 s3 s4 x2 y3 z4 hP hSt HF HN
 go_upto_region 9 with(go_at_call 18;refine hPl.mono ?_;clear hPl;rintro e w5 ⟨ga,n,c,rfl,hc,hn,g,X5,HC⟩)
 clear g1 g2 g3 g4
 go_upto_if 83 with fail
 go_cut [2] from 81 (fun v wc=> ∃t:ByteArray,v= .string t/\t.size<=100/\wc=w5)
 case first=>
  by_cases h100:100<tail.size
  ·have h1:(100:Int)<(tail.size:Int):=by omega
   have h2:(100:Int)<=(tail.size:Int):=by omega
   go_wp2_with fail
   go_meet;exact⟨_,rfl,by rw[ByteArray.size_extract];omega,rfl⟩
  ·have h1:¬(100:Int)<(tail.size:Int):=by omega
   go_wp2_with fail
   go_meet;exact⟨tail,rfl,by omega,rfl⟩
 case rest=>
  obtain⟨t,rfl,ht,rfl⟩:=hcut
  rename F=>w5
  have hIm:=s_image HC.out.at'
  go_upto_region 14 with(go_at_call 34;refine hIm.mono ?_;clear hIm;rintro e w6 ⟨gb,L,rfl,o6,i6,g6⟩)
  have HC6:Hid _:=HC.out.aM g6;have El:Hid (Ad w6 w5.heap.size (Z (M ⟨gb,0,O⟩) L.length L.length) L):=o6;have HI6:Hid (Img L d g 120):=i6
  have HL4:Hid (L.length<=4):=by
   obtain⟨x,tt,hS,-,rfl⟩:=i6;show(List.map _ _).length<=4;rw[List.length_map];exact VQ hS.snd
  have HL0:Hid (Ad w6 w6.heap.size (Z O 0 0) (aAV (L.take 0) t)/\aJ w6 w6):=⟨⟨rfl,Or.inl ⟨rfl,rfl⟩⟩,aJ.refl _⟩;clear HC o6 i6 g6
  go_wp2_with fail
  go_loopw [19,20] (fun vl vi wr=> ∃i:Nat,i<=L.length/\vi=I V (i:Int)/\Hid (Ad wr w6.heap.size vl (aAV (L.take i) t)/\aJ w6 wr)) (fun _ vi _=>L.length-(intOf vi).toNat)
  case atStart=>exact⟨0,Nat.zero_le _,rfl,HL0⟩
  case round=>
   clear HL0;obtain⟨i,hi,rfl,HS⟩:=hrel;have hL4:L.length<=4:=HL4.out;by_cases bV:i<L.length
   ·obtain⟨hM,hG⟩:=HS.out;obtain⟨f,hf⟩:∃f,L[i]?=M f:=⟨L[i],List.getElem?_eq_getElem bV⟩;obtain⟨y0,y1⟩:=rda_at (Ad.gr El.out hG) hf;have i1:(0:Int)<=(i:Int):=by omega
    have i2:(i:Int)<(L.length:Int):=by omega
    have HNx:Hid (aAV (L.take (i+1)) t=aAV (L.take i) t++ [if f.1=2 then f else (f.1,f.2++t)]):=by
     show _=_;rw[take_one hf];simp[aAV]
    have HML:Hid ((aAV (L.take i) t).length<=4):=by
     show _<=_;simp[aAV];omega
    obtain⟨w7,hw7⟩:∃w7,w7=wr.alloc (C #[I V f.1,.string f.2] 58):=⟨_,rfl⟩;have G7:aJ wr w7:=by rw[hw7];exact(aJ.refl _).alloc _
    have hb7:w7.heap[wr.heap.size]?=M (C #[I V f.1,.string f.2] 58 (0,0)):=by rw[hw7];exact heap_alloc_new wr _
    have HM7:Hid (Ad w7 w6.heap.size u19 (aAV (L.take i) t)):=Ad.gr hM G7;have HG7:Hid (aJ w6 w7):=hG.then G7;have HRl:Hid (∀R,Value.ownBlock u19=M R->R<wr.heap.size):=fun R e=>(World.ownsRow.lt hM R e).2
    have HR7:Hid (w6.heap.size<=wr.heap.size):=hG.size;have HB7:Hid (w7.heap[wr.heap.size]?=M (C #[I V f.1,.string f.2] 58 (0,0))):=hb7
    have hfz:f.2.size<=2000000:=by
     obtain⟨x,tt,hS,-,e⟩:=HI6.out;have OJ:=List.mem_of_getElem? hf;rw[e]at OJ;obtain⟨q,hq,rfl⟩:=List.mem_map.1 OJ;exact(hS.snd.gs.bk.inv.ok q hq).2.2
    have Um:∀w,(Op.stringOp .add f.2 t).run K w= .ok (.string (f.2++t)) w:=fun w=>run_string_add_sum w _ _ (by omega)
    clear hM hG HS G7 hfz
    go_upto_region 19 with fail
    rw[<-hw7];clear hw7 y0 y1 hf;refine aAC hb7 ?_;intro c0 c1 cf;clear hb7;by_cases h2:f.1=2
    ·have p2:(f.1 !=2)=false:=by simp[h2]
     have HNX:Hid (aAV (L.take (i+1)) t=aAV (L.take i) t++ [f]):=by
      show _=_;rw[HNx.out,if_pos h2]
     clear h2
     go_upto_region 21 with fail
     go_wp2_with (at_builtin;go_must (refine aAh (by rfl) (.tmp 106) (.tmp 108) (by rfl) w6.heap.size _ (aAV (L.take i) t) [f] (by rfl) (by exact World.ownsRow.alloc HM7.out _) _ _ _ (by rfl) (by rfl) (by intro e;cases e) (by exact rda_new w7 _ _) (by have:=HML.out;rw[List.length_singleton];omega) (by rw[World.size_alloc];have:=HG7.out.size;omega) ?_);intro v8 w8 hown8 af _)
     have HN8:Hid (Ad w8 w6.heap.size v8 (aAV (L.take (i+1)) t)/\aJ w6 w8):=⟨by rw[HNX.out];exact hown8,ownA_gr (World.ownsRow.alloc HM7.out _) af (HG7.out.alloc _)⟩;clear hown8 af;go_roundw
     case rel=>exact⟨i+1,by omega,by go_num,HN8⟩
     case measure=>simp[intOf];omega
    ·have p2:(f.1 !=2)=true:=by simp[h2]
     have HNX:Hid (aAV (L.take (i+1)) t=aAV (L.take i) t++ [(f.1,f.2++t)]):=by
      show _=_;rw[HNx.out,if_neg h2]
     go_upto_region 21 with fail
     have HM9:Hid (Ad (w7.setCell ⟨wr.heap.size,1,O⟩ (.string (f.2++t))) w6.heap.size u19 (aAV (L.take i) t)):=fK HM7.out (Fr.set w7 ⟨wr.heap.size,1,O⟩ _) (fun g aT e _ hX=>by have:=HRl.out g e;have:g=wr.heap.size:=hX;omega);have HG9:Hid (aJ w6 (w7.setCell ⟨wr.heap.size,1,O⟩ (.string (f.2++t)))):=grew_set1 HG7.out HR7.out _;have hb9:=af_set1 HB7.out (.string (f.2++t));clear c0 c1 cf HM7 HG7 HB7;generalize (w7.setCell ⟨wr.heap.size,1,O⟩ (.string (f.2++t)))=w9 at*;generalize f.2++t=E0 at*;refine aAC hb9 ?_;intro c0 c1 cf;clear hb9 h2
     go_wp2_with (at_builtin;go_must (refine aAh (by rfl) (.tmp 106) (.tmp 108) (by rfl) w6.heap.size _ (aAV (L.take i) t) [(f.1,E0)] (by rfl) (by exact World.ownsRow.alloc HM9.out _) _ _ _ (by rfl) (by rfl) (by intro e;cases e) (by exact rda_new w9 _ _) (by have:=HML.out;rw[List.length_singleton];omega) (by rw[World.size_alloc];have:=HG9.out.size;omega) ?_);intro v8 w8 hown8 af _)
     have HN8:Hid (Ad w8 w6.heap.size v8 (aAV (L.take (i+1)) t)/\aJ w6 w8):=⟨by rw[HNX.out];exact hown8,ownA_gr (World.ownsRow.alloc HM9.out _) af (HG9.out.alloc _)⟩;clear hown8 af;go_roundw
     case rel=>exact⟨i+1,by omega,by go_num,HN8⟩
     case measure=>simp[intOf];omega
   ·have i2:¬(i:Int)<(L.length:Int):=by omega
    have he:i=L.length:=by omega
    subst he;obtain⟨hM,hG⟩:=HS.out;rw[List.take_length]at hM;have HM:Hid (Ad wr w6.heap.size u19 (aAV L t)):=hM;have HG:Hid (aJ w6 wr):=hG
    have HTl:Hid ((aAV L t).length<=4):=by
     show _<=_;simp[aAV];omega
    clear HS hM hG El
    go_upto_region 23 with(at_builtin;go_must (refine aAh (by rfl) (.tmp 110) (.tmp 113) (by rfl) w6.heap.size _ (aAV L t) [(2000,⟨#[120]⟩),(3000,⟨#[121]⟩)] (by rfl) (by exact World.ownsRow.alloc HM.out _) _ _ _ (by rfl) (by rfl) (by intro e;cases e) (by exact rda_two wr _ _ _ _) (by have:=HTl.out;simp only[List.length_cons,List.length_nil];omega) (by rw[World.size_alloc];have:=HG.out.size;omega) ?_);intro v8 w8 hown8 af _)
    have HO8:Hid (Ad w8 w6.heap.size v8 (aAW L t)):=hown8;have HC8:Hid _:=HC6.out.aM (ownA_gr (World.ownsRow.alloc HM.out _) af (HG.out.alloc _));clear hown8 af HM HG HTl HC6;have hLy:=ld_y HC8.out HI6.out ht hd HO8.out
    go_upto_region 24 with(go_at_call 35;refine hLy.mono ?_;clear hLy;rintro e w9 ⟨rfl,Y9,HL1,HO9⟩)
    have hLz:=ld_z HL1.out HI6.out ht hd HO9.out;clear HC8 HO8
    go_upto_region 25 with(go_at_call 35;refine hLz.mono ?_;clear hLz;rintro e PV ⟨rfl,Z10,HL2⟩)
    obtain⟨aF,ep,m1,j,hD⟩:=dsk_of HI6.out ht hd;have HD:Hid (Dsk L t d g aF ep m1 j):=hD;have Sq:=ld_open HL2.out hD;clear hD HL1 HO9
    go_upto_region 26 with(go_at_call 24;refine Sq.mono ?_;clear Sq;rintro e XY ⟨rfl,Y11,HP⟩)
    clear HL2
    go_upto_block 2 with fail
    have HPs:Hid (∀W aH YY ZZ c,LpSt w0 W ps qy aAU d aH n g (Sm (aAW L t)) aF ep m1 j c YY ZZ->∀i,i<slen->∃b off,so=M ⟨b,off,O⟩/\∃q,(-9223372036854775808<=q/\q<=9223372036854775807)/\W.cell? ⟨b,off+i,O⟩=M (I V q)):=fun W aH YY ZZ c h i hi=>by
     rcases HI0.out with e|⟨b,off,e,hb,hc⟩
     ·omega
     ·obtain⟨q,hq,z⟩:=hc i hi;exact⟨b,off,e,q,hq,h.two.gr.cell z⟩
    go_cut [25,26] from 123 to 145 (fun vh _ wc=> ∃ch:Int,vh=I V ch/\(ch=0\/ch=10)/\∃Zhhh,Hid (LpSt w0 wc ps qy aAU d (Z (M ⟨ga,0,O⟩) (n+1) c) n g (Sm (aAW L t)) aF ep m1 j ch Y11 Zhhh))
    case first=>
     go_wp2_with fail
     go_loopw [25,26] (fun vh vi wr=> ∃i:Nat,i<=5/\i<=slen/\vi=I V (i:Int)/\∃ch:Int,vh=I V ch/\(ch=0\/ch=10)/\∃Zhhh,Hid (LpSt w0 wr ps qy aAU d (Z (M ⟨ga,0,O⟩) (n+1) c) n g (Sm (aAW L t)) aF ep m1 j ch Y11 Zhhh)) (fun _ vi _=>5-(intOf vi).toNat)
     case atStart=>exact⟨0,by decide,Nat.zero_le _,rfl,10,rfl,Or.inr rfl,Z10,HP⟩
     case round=>
      clear HP;obtain⟨i,hi,hi2,rfl,ch,rfl,wo,Zhhh,HP⟩:=hrel;by_cases h1:i<slen
      ·have Tn:(i:Int)<(slen:Int):=by omega
       by_cases h2:i<5
       ·have h2':(i:Int)<5:=by omega
        rcases wo with rfl|rfl
        ·go_wp2_with fail
         go_meet;exact⟨0,rfl,Or.inl rfl,Zhhh,HP⟩
        ·obtain⟨b,off,rfl,q,hq,y0⟩:=HPs.out _ _ _ _ _ HP.out i h1;obtain⟨r,r1,r2,hPv⟩:=pick_v (c:=q) (n:=4) hq.1 hq.2 (by decide) (by decide);have hCr:=lp_crash HP.out (a:=r) ⟨r1,by omega⟩;have HPv:Hid _:=hPv;have i1:(0:Int)<=(i:Int):=by omega
         clear hPv hq
         go_upto_region 31 with(first|(go_at_call 15;refine(HPv.out _).mono ?_;rintro e w12 ⟨rfl,rfl⟩)|(go_at_call 21;refine hCr.mono ?_;clear hCr;rintro e w13 ⟨rfl,Z13,HP13⟩))
         have Sq:=lp_open HP13.out HD.out
         go_wp2_with (go_at_call 24;refine Sq.mono ?_;clear Sq;rintro e PW ⟨ch,rfl,wo,Z14,HP14⟩)
         go_roundw
         case rel=>exact⟨i+1,by omega,by omega,by go_num,ch,rfl,wo,Z14,HP14⟩
         case measure=>simp[intOf];omega
       ·have h2':¬(i:Int)<5:=by omega
        go_wp2_with fail
        go_meet;exact⟨ch,rfl,wo,Zhhh,HP⟩
      ·have Tn:¬(i:Int)<(slen:Int):=by omega
       go_wp2_with fail
       go_meet;exact⟨ch,rfl,wo,Zhhh,HP⟩
    case rest=>
     clear HP HPs HI0;obtain⟨ch,rfl,wo,Z12,HP⟩:=hcut
     rename F=>w12
     go_upto_if 147 with fail
     go_cut [25] from 146 to 151 (fun vh wc=>vh=I V 0/\∃Zhhh,Hid (LpSt w0 wc ps qy aAU d (Z (M ⟨ga,0,O⟩) (n+1) c) n g (Sm (aAW L t)) aF ep m1 j 0 Y11 Zhhh))
     case first=>
      rcases wo with rfl|rfl
      ·go_wp2_with fail
       go_meet;exact⟨rfl,Z12,HP⟩
      ·have hFa:=lp_far HP.out
       go_upto_region 34 with(go_at_call 21;refine hFa.mono ?_;clear hFa;rintro e w13 ⟨rfl,Z13,HP13⟩)
       have hLa:=lf_last HP13.out HD.out
       go_wp2_with (go_at_call 24;refine hLa.mono ?_;clear hLa;rintro e PW ⟨rfl,Z14,HP14⟩)
       go_meet;exact⟨rfl,Z14,HP14⟩
     case rest=>
      clear HP wo;obtain⟨rfl,Z14,HP⟩:=hcut
      rename F=>PW
      have hEn:=lp_end HP.out;obtain⟨A,hA⟩:∃A,aF.map (fun f=>(f.1,f.2.1))=A:=⟨_,rfl⟩;have hA50:A.length<=50:=by rw[<-hA,List.length_map];exact HD.out.few
      have HA:Hid (aF.map (fun f=>(f.1,f.2.1))=A):=hA;clear hA
      go_upto_region 38 with(go_at_call 21;refine hEn.mono ?_;clear hEn;rintro e w15 ⟨rfl,Z15,HF⟩)
      have hIy:=fn_iy HF.out HD.out.inv HD.out.few HA.out
      go_upto_region 39 with(go_at_call 34;refine hIy.mono ?_;clear hIy;rintro e w16 ⟨gp,rfl,o16,g16⟩)
      have HF16:Hid _:=HF.out.aM g16;have hIz:=fn_iz HF16.out HD.out.inv HD.out.few HA.out;have HO16:Hid (Ad w16 w15.heap.size (Z (M ⟨gp,0,O⟩) A.length A.length) A):=o16;clear o16 g16 HF HP
      go_upto_region 40 with(go_at_call 34;refine hIz.mono ?_;clear hIz;rintro e w17 ⟨gq,rfl,o17,g17⟩)
      have HF17:Hid _:=HF16.out.aM g17;have HOp:Hid (Ad w17 w15.heap.size (Z (M ⟨gp,0,O⟩) A.length A.length) A):=Ad.gr HO16.out g17;have HOq:Hid (Ad w17 w16.heap.size (Z (M ⟨gq,0,O⟩) A.length A.length) A):=o17;clear o17 g17 HF16 HO16
      go_upto_block 4 with fail
      go_cut [10,29] from 181 to 198 (fun vo _ wc=>vo= .bool true/\Hid (aJ w17 wc))
      case first=>
       have qc:Hid (aJ w17 w17):=aJ.refl _
       go_wp2_with fail
       go_loopw [10,29] (fun vo vi wr=>vo= .bool true/\∃i:Nat,i<=A.length/\vi=I V (i:Int)/\Hid (aJ w17 wr)) (fun _ vi _=>A.length-(intOf vi).toNat)
       case atStart=>exact⟨by first|rfl|simp,0,Nat.zero_le _,rfl,qc⟩
       case round=>
        clear qc;obtain⟨rfl,i,hi,rfl,HG⟩:=hrel;by_cases bV:i<A.length
        ·obtain⟨f,hf⟩:∃f,A[i]?=M f:=⟨A[i],List.getElem?_eq_getElem bV⟩;obtain⟨y0,y1⟩:=rda_at (Ad.gr HOp.out HG.out) hf;obtain⟨z0,z1⟩:=rda_at (Ad.gr HOq.out HG.out) hf;have i1:(0:Int)<=(i:Int):=by omega
         have i2:(i:Int)<(A.length:Int):=by omega
         clear hf
         go_upto_region 44 with fail
         go_quiet (fail)
         have HG9:Hid (aJ w17 (wr.drewN nq)):=HG.out.then ⟨rfl,rfl,rfl,Nat.le_refl _,fun _ _=>rfl⟩;clear y0 y1 z0 z1 HG;generalize wr.drewN nq=w9 at HG9 ⊢
         go_wp2_with fail
         go_roundw
         case rel=>exact⟨by first|rfl|simp,i+1,by omega,by go_num,HG9⟩
         case measure=>simp[intOf];omega
        ·have i2:¬(i:Int)<(A.length:Int):=by omega
         go_wp2_with fail
         go_meet;exact⟨rfl,HG⟩
      case rest=>
       clear HOp HOq HA;obtain⟨rfl,HG⟩:=hcut
       rename F=>w18
       have HF18:Hid _:=HF17.out.aM HG.out;obtain⟨q1,a1,a2,a3,b1,b2,b3,dn,z0,z1,z2,z3,hm⟩:=HF18.out.two.last;have HM:Hid (eU w18 (.agg #[.string q1,Z a1 a2 a3,Z b1 b2 b3,I V dn]) g d):=hm;have dU:IntKind.i64.wrap (((n+1:Nat):Int)-1)=(n:Int):=by rw[IntKind.wrap_i64];omega
       have Em:IntKind.i64.wrap ((n:Int)+1-1)=(n:Int):=by rw[IntKind.wrap_i64];omega
       have i1:(0:Int)<=(n:Int):=by omega
       have i2:(n:Int)<((n+1:Nat):Int):=by omega
       have hz:(((n+1:Nat):Int)-1)=(n:Int):=by omega
       clear hm HF17 HG
       go_upto_region 46 with fail
       obtain⟨Tw,hw19⟩:∃Tw,Tw=w18.alloc (C #[.string q1,Z a1 a2 a3,Z b1 b2 b3,I V dn] 36):=⟨_,rfl⟩;have G19:aJ w18 Tw:=by rw[hw19];exact(aJ.refl _).alloc _
       have hb19:Tw.heap[w18.heap.size]?=M (C #[.string q1,Z a1 a2 a3,Z b1 b2 b3,I V dn] 36 (0,0)):=by rw[hw19];exact heap_alloc_new w18 _
       rw[<-hw19];have HF19:Hid _:=HF18.out.aM G19;have HM19:Hid (eU Tw (.agg #[.string q1,Z a1 a2 a3,Z b1 b2 b3,I V dn]) g d):=HM.out.aM G19;clear hw19 z0 z1 z2 z3 dU Em hz i1 i2 HF18 HM G19;generalize w18.heap.size=R at*;by_cases ht0:t.size=0
       ·obtain rfl:t=⟨#[]⟩:=VB ht0;obtain⟨hy,hz⟩:=fn_sat HF19.out HD.out ht0;have hSy:=sm_y HF19.out.two hy hz HM19.out hd;obtain⟨c0,c1,c2,c3⟩:=aZ hb19;have HB19:Hid (Tw.heap[R]?=M (C #[.string q1,Z a1 a2 a3,Z b1 b2 b3,I V dn] 36 (0,0))):=hb19;have HTy:Hid (∀b,Y11 b->lD Tw b):=HF19.out.two.ty;clear hb19 hy hz ht0 HF19
        go_upto_region 47 with(first|(go_at_call 19;refine hSy.mono ?_;clear hSy;rintro e w20 ⟨rfl,Y20,HS20,HK20⟩;obtain⟨e0,e1,e2,e3⟩:=aZ (HK20.out.1.at HB19.out (fun e=>(HTy.out _ e).ne HB19.out (by decide) rfl));have hSz:=sm_z HS20.out (HM19.out.q HK20.out.1 HTy.out) hd)|(go_at_call 19;refine hSz.mono ?_;clear hSz;rintro e w21 ⟨rfl,HE⟩))
        have hDy:=HE.out.y;have hDz:=HE.out.z
        go_wp2_with (first|(go_at_call 25;refine hDy.mono ?_;clear hDy;rintro e w22 ⟨rfl,rfl⟩)|(go_at_call 25;refine hDz.mono ?_;clear hDz;rintro e w23 ⟨rfl,rfl⟩))
        go_ret;exact⟨rfl,HE.out.gr⟩
       ·have htb:¬t.toList=[]:=fun e=>ht0 (by
         rw[Lib.toList_data]at e;rw[<-ByteArray.size_data,<-Array.length_toList,e];rfl)
        have HE:Hid (EdS w0 Tw ps qy aAU m1.2.2.2.1):=fn_ed HF19.out;have hDy:=HE.out.y;have hDz:=HE.out.z;generalize m1.2.2.2.1=DD at*;clear HF19 HM19 hb19 ht0
        go_wp2_with (first|(go_at_call 25;refine hDy.mono ?_;clear hDy;rintro e w22 ⟨rfl,rfl⟩)|(go_at_call 25;refine hDz.mono ?_;clear hDz;rintro e w23 ⟨rfl,rfl⟩))
        go_ret;exact⟨rfl,HE.out.gr⟩
end Go.Proofs.YtfplgfodoiiobaaGreatDoor
