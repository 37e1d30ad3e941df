/- KxM (joined). -/
import Derived.Test.YtfplgfodoiiobaaGreatDoorJ48
open Option renaming none→O,some→M
open Go.Value renaming int→I,slice→Z,pointer→U
open Go.IntKind renaming i64→V
open Go.Obj renaming cells→C
open Go.Ending renaming returned→G
open Go renaming World→F,Value→Y,Calls→H
open Go.Proofs.Tryz renaming prog→K
namespace Go.Proofs.YtfplgfodoiiobaaGreatDoor
set_option maxHeartbeats 2000000
set_option maxRecDepth 100000
open Go.RowKit
variable {w:F}{ps:Nat->Addr}
def PlaP (w W:F)(ps:Nat->Addr)(qp d T:Nat)(v:Y):Prop:=∃g X aA,rF W ps qp d aA g 120 T X/\eU W v g d/\(∀b,X b->w.heap.size<=b)/\aJ w W
theorem plp_any {W:F}{qp d:Nat}{X:Nat->Prop}{ao:Option Addr}{len cap:Nat}{sz:Nat->Nat}(hA:Me w w.heap.size ao len sz)(hlen:(len:Int)<=9223372036854775807)(hW:aJ w W)(hd:d<=50)(hS:rF W ps qp d [] ([],[],[],0) 0 0 X)(hX:∀b,X b->w.heap.size<=b):H K 18 #[U (M ⟨qp,0,O⟩),Z ao len cap,I V (d:Int)] W fun e w'=> ∃g n c q1 u1 u2 u3 r1 r2 r3 dn,e=G (.tuple #[Z (M ⟨g,0,O⟩) (n+1) c,.bool true])/\n+1<=c/\n<=120/\w'.cell? ⟨g,n*4,O⟩=M (.string q1)/\w'.cell? ⟨g,n*4+1,O⟩=M (Z u1 u2 u3)/\w'.cell? ⟨g,n*4+2,O⟩=M (Z r1 r2 r3)/\w'.cell? ⟨g,n*4+3,O⟩=M (I V dn)/\Hid (PlaP w w' ps qp d (oF sz (min len 120)) (.agg #[.string q1,Z u1 u2 u3,Z r1 r2 r3,I V dn])):=by
 refine(LC (N:=w.heap.size) hS hd (hA.dk (Dk.bH (X:=fun _=>False) hW) (Nat.le_refl _) (fun b e=>e.elim)) hW.size hX hlen).mono ?_;rintro e w3 ⟨v,rfl,g,X',L,q,aA,s3,k3,m3,o3,l3⟩;obtain⟨g3,x3⟩:=nV hW hX k3;obtain⟨gb,c,rfl,hc,-,z0,z1,z2,z3⟩:=o3.last;exact⟨gb,L.length,c,_,_,_,_,_,_,_,_,rfl,hc,l3,z0,z1,z2,z3,g,X',aA,s3,m3.1,x3,g3⟩
theorem mpp_make {W:F}{qp d T:Nat}{a b c e:Y}(h:PlaP w W ps qp d T (.agg #[a,b,c,e])):∃g X aA,rF (W.alloc (C #[a,b,c,e] 36)) ps qp d aA g 120 T X/\Hid (Mp w (W.alloc (C #[a,b,c,e] 36)) d g W.heap.size a b c e X):=by
 obtain⟨g,X,aA,h1,h3,h5,h7⟩:=h;have hg:aJ W (W.alloc (C #[a,b,c,e] 36)):=(aJ.refl W).alloc _;exact⟨g,X,aA,h1.aM hg,h3.aM hg,heap_alloc_new W _,h5,h7.then hg⟩
theorem tot_le {sz:Nat->Nat}:∀ {i:Nat},(∀j,j<i->sz j<=140737488355328)->oF sz i<=i*140737488355328
 |0,_=>Nat.zero_le _
 |i+1,h=>by
  have h1:=tot_le (fun j hj=>h j (Nat.lt_succ_of_lt hj));have h2:=h i (Nat.lt_succ_self i);show oF sz i+sz i<=_;omega
theorem rda1 {gb:Nat}{c:ByteArray}(h:TD w (M ⟨gb,0,O⟩) [(2,c)]):w.cell? ⟨gb,0,O⟩=M (I V 2)/\w.cell? ⟨gb,1,O⟩=M (.string c):=by
 rcases h with h|⟨b,off,e,h⟩
 ·cases h
 ·cases e
  exact h 0 (2,c) rfl
theorem rda2 {gb:Nat}{b c:ByteArray}(h:TD w (M ⟨gb,0,O⟩) [(1,b),(2,c)]):w.cell? ⟨gb,0,O⟩=M (I V 1)/\w.cell? ⟨gb,1,O⟩=M (.string b)/\w.cell? ⟨gb,2,O⟩=M (I V 2)/\w.cell? ⟨gb,3,O⟩=M (.string c):=by
 rcases h with h|⟨b',off,e,h⟩
 ·cases h
 ·cases e
  have h0:=h 0 (1,b) rfl;have h1:=h 1 (2,c) rfl;exact⟨h0.1,h0.2,h1.1,h1.2⟩
theorem CO {QG:Int}{ao:Option Addr}{len cap:Nat}(hG:Gl w ps)(hA0:vX w w.heap.size ao len)(DL: -9223372036854775808<=QG)(hd2:QG<=9223372036854775807)(hlen:(len:Int)<=9223372036854775807):
 H K 12 #[I V QG,Z ao len cap] w fun e w'=>e=G (.bool true)/\aJ w w':=by
 obtain⟨sz,hA⟩:=VN hA0;have hP:=vZ (w:=w) (c:=QG) (n:=51) DL hd2 (by decide) (by decide);have HF:Hid (∀W (d:Nat),aJ w W->d<=50->H K 17 #[I V (d:Int)] W fun e w'=> ∃qp X,e=G (U (M ⟨qp,0,O⟩))/\rF w' ps qp d [] ([],[],[],0) 0 0 X/\(∀b,X b->W.heap.size<=b)/\aJ W w'):=fun W d hW hd=>BR (hG.aM hW) hd
 have HPl:Hid (∀W qp (d:Nat) X,aJ w W->d<=50->rF W ps qp d [] ([],[],[],0) 0 0 X->(∀b,X b->w.heap.size<=b)->_):=fun W qp d X h1 h2 h3 h4=>plp_any (cap:=cap) hA hlen h1 h2 h3 h4
 have HAc:Hid (∀W,aJ w W->Me W w.heap.size ao len sz):=fun W hW=>hA.dk (Dk.bH (X:=fun _=>False) hW) (Nat.le_refl _) (fun b e=>e.elim)
 have HSm:Hid (∀i,i<=len->oF sz i<=i*140737488355328):=fun i hi=>tot_le (fun j hj=>by
  rcases hA with h|⟨b,off,-,-,h⟩
  ·omega
  ·obtain⟨q,n,m,kk,S,ha,hz⟩:=h j (by omega);rw[<-hz];exact ha.2.2.1)
 clear hG hA hA0;go_enter Tryz.func12,Tryz.ntmps12
 go_upto_region 5 with(first|(go_at_call 15;refine hP.mono ?_;rintro e w0 ⟨r,rfl,r1,r2,rfl⟩;obtain⟨d,rfl⟩:=Int.eq_ofNat_of_zero_le r1;have hd:d<=50:=by omega)|(go_at_call 17;refine(HF.out _ d (aJ.refl _) hd).mono ?_;rintro e w2 ⟨qp,X2,rfl,s2,x2,g2⟩;have hPl:=HPl.out _ qp d X2 g2 hd s2 x2;clear s2 x2))
 go_upto_region 6 with(go_at_call 18;refine hPl.mono ?_;clear hPl;rintro e w3 ⟨g,n,c,q1,u1,u2,u3,a1,a2,a3,dn,rfl,hc,hn,z0,z1,z2,z3,HC⟩)
 have dU:IntKind.i64.wrap (((n+1:Nat):Int)-1)=(n:Int):=by rw[IntKind.wrap_i64];omega
 have Em:IntKind.i64.wrap ((n:Int)+1-1)=(n:Int):=by rw[IntKind.wrap_i64];omega
 have i1:(0:Int)<=(n:Int):=by omega
 have i2:(n:Int)<((n+1:Nat):Int):=by omega
 have hz:(((n+1:Nat):Int)-1)=(n:Int):=by omega
 clear g2 hP HF HPl
 go_upto_region 7 with fail
 obtain⟨aC,X,aA,s5,ZM⟩:=mpp_make HC.out
 have Xd:q1=aR aC.1/\aC.1.length<=5000:=by
  obtain⟨su,sr,e,-⟩:=ZM.out.md.form;simp only[Value.agg.injEq,Array.mk.injEq,List.cons.injEq,Value.string.injEq]at e;obtain⟨b1,-⟩:=s5.gm;exact⟨e.1,by omega⟩
 obtain⟨rfl,dK⟩:=Xd;clear z0 z1 z2 z3 HC dU Em i1 i2 hz hc hn;obtain⟨R,hR⟩:∃R,R=w3.heap.size:=⟨_,rfl⟩;generalize (w3.alloc (C #[.string (aR aC.1),Z u1 u2 u3,Z a1 a2 a3,I V dn] 36))=w5 at*;rw[<-hR]at ZM ⊢;clear hR;have hCk:=c_ckpt s5 (by decide);have uh:Hid (∀b,X b->lD w5 b):=fun b hb=>s5.ty hb
 clear s5
 go_upto_region 8 with(go_at_call 31;refine hCk.mono ?_;clear hCk;rintro e w6 ⟨rfl,X6,s6,k6⟩)
 have HC6:Hid _:=ZM.out.dk uh.out k6;have hIm:=c_image s6;have Er:Hid (ZT w6 ps qp d aC 121 (oF sz (min len 120)) X6):=s6;clear ZM uh k6 s6
 go_upto_region 9 with(go_at_call 34;refine hIm.mono ?_;clear hIm;rintro e w7 ⟨gb,L,rfl,r7,i7,g7⟩)
 have Mf:Hid _:=HC6.out.aM g7;have DT:Hid _:=Er.out.aM g7;have HR7:Hid (TD w7 (M ⟨gb,0,O⟩) L):=r7;have HI7:Hid (ImC L aC (oF sz (min len 120))):=i7;have l0:(0:Int)<=(len:Int):=by omega
 clear HC6 Er g7 r7 i7
 go_wp2_with fail
 go_loopw [12,13] (fun vt vi wr=> ∃i:Nat,i<=len/\i<=120/\vt=I V ((oF sz i:Nat):Int)/\vi=I V (i:Int)/\Hid (aJ w7 wr)) (fun _ vi _=>len-(intOf vi).toNat)
 case atStart=>exact⟨0,Nat.zero_le _,Nat.zero_le _,rfl,rfl,aJ.refl _⟩
 case round=>
  obtain⟨i,hi,hi2,rfl,rfl,HG⟩:=hrel;by_cases bV:i<len
  ·by_cases ZL:i<120
   ·obtain⟨b,off,rfl,kd,n',m',kk,S,⟨-,-,hs,y0,y1,y2,y3,y4⟩,HZ⟩:∃b off,ao=M ⟨b,off,O⟩/\∃kd n m kk S,KY wr b (off+i*5) kd n m kk S/\Hid (S.size=sz i):=by
     rcases HAc.out _ (Mf.out.gr.then HG.out)with h|⟨b,off,h1,-,h2⟩
     ·omega
     ·exact⟨b,off,h1,h2 i bV⟩
    have hto:=HSm.out i hi;have hto2:((oF sz i:Nat):Int)<=16888498602639360:=by omega
    have hto3:(0:Int)<=((oF sz i:Nat):Int):=by omega
    have i1:(0:Int)<=(i:Int):=by omega
    have i2:(i:Int)<(len:Int):=by omega
    have i3:(i:Int)<120:=by omega
    have hsum:Hid (∀x:Int,x=((oF sz i:Nat):Int)+(S.size:Int)->x=((oF sz (i+1):Nat):Int)):=fun x hx=>by have:=HZ.out;show x=((oF sz i+sz i:Nat):Int);omega
    go_wp2_with fail
    go_roundw
    case rel=>exact⟨i+1,by omega,by omega,by rw[hsum.out _ rfl],by go_num,HG⟩
    case measure=>simp[intOf];omega
   ·have i3:¬(i:Int)<120:=by omega
    have i2:(i:Int)<(len:Int):=by omega
    go_upto_region 14 with fail
    have HI:Hid (ImC L aC (oF sz i)):=by show ImC _ _ _;rw[show i=min len 120 by omega];exact HI7.out
    have HRr:Hid (TD wr (M ⟨gb,0,O⟩) L):=HR7.out.aM HG.out;clear HI7 HR7;have gQ:=iX aC.1;rcases HI.out with⟨c,rfl,SA⟩|⟨b,c,rfl,SA,hgb,hbt⟩
    ·rw[show([(2,c)]:List AF).length=1 from rfl];obtain⟨k0,k1⟩:=rda1 HRr.out;have h29:¬(c.size:Int)<29:=by omega
     clear HI HRr SA gQ;obtain⟨z0,z1,z2,z3⟩:=aZ (Mf.out.aM HG.out).bl
     go_upto_region 16 with fail
     go_quiet (fail)
     have G9:aJ wr (wr.drewN nq):=⟨rfl,rfl,rfl,Nat.le_refl _,fun _ _=>rfl⟩;generalize wr.drewN nq=w9 at G9 ⊢;have SB:=(DT.out.1.aM HG.out).aM G9;have Bb:Hid _:=(Mf.out.aM HG.out).aM G9;have Yi:=Ol SB;have LQ:Hid (∀b,X6 b->lD w9 b):=fun b hb=>SB.ty hb
     clear SB Mf DT HG z0 z1 z2 z3 k0 k1
     go_upto_region 19 with(go_at_call 32;refine Yi.mono ?_;clear Yi;rintro e PW ⟨rfl,ZP,Km,Yj⟩)
     have wY:Hid _:=Bb.out.dk LQ.out Yj;have wZ:Hid (∀b,ZP b->lD PW b):=fun b hb=>by obtain⟨-,s,fs,m,t,q,-⟩:=Km;exact q.ty hb
     have Sq:=BQ Km;clear Km Yj Bb LQ
     go_upto_region 20 with(go_at_call 24;refine Sq.mono ?_;clear Sq;rintro e w15 ⟨rfl,X15,Yk,Yl⟩)
     have mG:Hid _:=wY.out.dk wZ.out Yl;have Hl:=mF Yk mG.out.md (by decide) hd;obtain⟨y0,y1,y2,y3⟩:=aZ mG.out.bl;clear Yk Yl wY wZ
     go_wp2_with (go_at_call 19;refine Hl.mono ?_;clear Hl;rintro e w16 ⟨rfl,g16,X16,s16,ZQ⟩)
     go_ret;exact⟨rfl,(nV mG.out.gr mG.out.nx ZQ).1⟩
    ·rw[show([(1,b),(2,c)]:List AF).length=2 from rfl];obtain⟨k0,k1,k2,k3⟩:=rda2 HRr.out;have h29:¬(c.size:Int)<29:=by omega
     have h30:¬(b.size:Int)<((aR aC.1).size:Int):=by omega
     have h31:¬((oF sz i:Nat):Int)<(b.size:Int):=by omega
     clear HI HRr SA hgb hbt gQ;obtain⟨z0,z1,z2,z3⟩:=aZ (Mf.out.aM HG.out).bl
     go_upto_region 16 with fail
     go_quiet (fail)
     have G9:aJ wr (wr.drewN nq):=⟨rfl,rfl,rfl,Nat.le_refl _,fun _ _=>rfl⟩;generalize wr.drewN nq=w9 at G9 ⊢;have SB:=(DT.out.1.aM HG.out).aM G9;have Bb:Hid _:=(Mf.out.aM HG.out).aM G9;have Yi:=Ol SB;have LQ:Hid (∀b,X6 b->lD w9 b):=fun b hb=>SB.ty hb
     clear SB Mf DT HG z0 z1 z2 z3 k0 k1 k2 k3
     go_upto_region 19 with(go_at_call 32;refine Yi.mono ?_;clear Yi;rintro e PW ⟨rfl,ZP,Km,Yj⟩)
     have wY:Hid _:=Bb.out.dk LQ.out Yj;have wZ:Hid (∀b,ZP b->lD PW b):=fun b hb=>by obtain⟨-,s,fs,m,t,q,-⟩:=Km;exact q.ty hb
     have Sq:=BQ Km;clear Km Yj Bb LQ
     go_upto_region 20 with(go_at_call 24;refine Sq.mono ?_;clear Sq;rintro e w15 ⟨rfl,X15,Yk,Yl⟩)
     have mG:Hid _:=wY.out.dk wZ.out Yl;have Hl:=mF Yk mG.out.md (by decide) hd;obtain⟨y0,y1,y2,y3⟩:=aZ mG.out.bl;clear Yk Yl wY wZ
     go_wp2_with (go_at_call 19;refine Hl.mono ?_;clear Hl;rintro e w16 ⟨rfl,g16,X16,s16,ZQ⟩)
     go_ret;exact⟨rfl,(nV mG.out.gr mG.out.nx ZQ).1⟩
  ·have i2:¬(i:Int)<(len:Int):=by omega
   go_upto_region 14 with fail
   have HI:Hid (ImC L aC (oF sz i)):=by show ImC _ _ _;rw[show i=min len 120 by omega];exact HI7.out
   have HRr:Hid (TD wr (M ⟨gb,0,O⟩) L):=HR7.out.aM HG.out;clear HI7 HR7;have gQ:=iX aC.1;rcases HI.out with⟨c,rfl,SA⟩|⟨b,c,rfl,SA,hgb,hbt⟩
   ·rw[show([(2,c)]:List AF).length=1 from rfl];obtain⟨k0,k1⟩:=rda1 HRr.out;have h29:¬(c.size:Int)<29:=by omega
    clear HI HRr SA gQ;obtain⟨z0,z1,z2,z3⟩:=aZ (Mf.out.aM HG.out).bl
    go_upto_region 16 with fail
    go_quiet (fail)
    have G9:aJ wr (wr.drewN nq):=⟨rfl,rfl,rfl,Nat.le_refl _,fun _ _=>rfl⟩;generalize wr.drewN nq=w9 at G9 ⊢;have SB:=(DT.out.1.aM HG.out).aM G9;have Bb:Hid _:=(Mf.out.aM HG.out).aM G9;have Yi:=Ol SB;have LQ:Hid (∀b,X6 b->lD w9 b):=fun b hb=>SB.ty hb
    clear SB Mf DT HG z0 z1 z2 z3 k0 k1
    go_upto_region 19 with(go_at_call 32;refine Yi.mono ?_;clear Yi;rintro e PW ⟨rfl,ZP,Km,Yj⟩)
    have wY:Hid _:=Bb.out.dk LQ.out Yj;have wZ:Hid (∀b,ZP b->lD PW b):=fun b hb=>by obtain⟨-,s,fs,m,t,q,-⟩:=Km;exact q.ty hb
    have Sq:=BQ Km;clear Km Yj Bb LQ
    go_upto_region 20 with(go_at_call 24;refine Sq.mono ?_;clear Sq;rintro e w15 ⟨rfl,X15,Yk,Yl⟩)
    have mG:Hid _:=wY.out.dk wZ.out Yl;have Hl:=mF Yk mG.out.md (by decide) hd;obtain⟨y0,y1,y2,y3⟩:=aZ mG.out.bl;clear Yk Yl wY wZ
    go_wp2_with (go_at_call 19;refine Hl.mono ?_;clear Hl;rintro e w16 ⟨rfl,g16,X16,s16,ZQ⟩)
    go_ret;exact⟨rfl,(nV mG.out.gr mG.out.nx ZQ).1⟩
   ·rw[show([(1,b),(2,c)]:List AF).length=2 from rfl];obtain⟨k0,k1,k2,k3⟩:=rda2 HRr.out;have h29:¬(c.size:Int)<29:=by omega
    have h30:¬(b.size:Int)<((aR aC.1).size:Int):=by omega
    have h31:¬((oF sz i:Nat):Int)<(b.size:Int):=by omega
    clear HI HRr SA hgb hbt gQ;obtain⟨z0,z1,z2,z3⟩:=aZ (Mf.out.aM HG.out).bl
    go_upto_region 16 with fail
    go_quiet (fail)
    have G9:aJ wr (wr.drewN nq):=⟨rfl,rfl,rfl,Nat.le_refl _,fun _ _=>rfl⟩;generalize wr.drewN nq=w9 at G9 ⊢;have SB:=(DT.out.1.aM HG.out).aM G9;have Bb:Hid _:=(Mf.out.aM HG.out).aM G9;have Yi:=Ol SB;have LQ:Hid (∀b,X6 b->lD w9 b):=fun b hb=>SB.ty hb
    clear SB Mf DT HG z0 z1 z2 z3 k0 k1 k2 k3
    go_upto_region 19 with(go_at_call 32;refine Yi.mono ?_;clear Yi;rintro e PW ⟨rfl,ZP,Km,Yj⟩)
    have wY:Hid _:=Bb.out.dk LQ.out Yj;have wZ:Hid (∀b,ZP b->lD PW b):=fun b hb=>by obtain⟨-,s,fs,m,t,q,-⟩:=Km;exact q.ty hb
    have Sq:=BQ Km;clear Km Yj Bb LQ
    go_upto_region 20 with(go_at_call 24;refine Sq.mono ?_;clear Sq;rintro e w15 ⟨rfl,X15,Yk,Yl⟩)
    have mG:Hid _:=wY.out.dk wZ.out Yl;have Hl:=mF Yk mG.out.md (by decide) hd;obtain⟨y0,y1,y2,y3⟩:=aZ mG.out.bl;clear Yk Yl wY wZ
    go_wp2_with (go_at_call 19;refine Hl.mono ?_;clear Hl;rintro e w16 ⟨rfl,g16,X16,s16,ZQ⟩)
    go_ret;exact⟨rfl,(nV mG.out.gr mG.out.nx ZQ).1⟩
end Go.Proofs.YtfplgfodoiiobaaGreatDoor
