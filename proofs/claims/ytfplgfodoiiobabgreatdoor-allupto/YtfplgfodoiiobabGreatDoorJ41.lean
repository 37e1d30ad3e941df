/- a part of the proof. -/
import Derived.Test.YtfplgfodoiiobabGreatDoorJ35
import Derived.Test.YtfplgfodoiiobabGreatDoorJ36
import Derived.Test.YtfplgfodoiiobabGreatDoorJ37
open Option renaming none->O,some->M
open Go.Value renaming int->I,slice->Z,pointer->U
open Go.IntKind renaming i64->V
open Go.Obj renaming cells->C
open Go.Ending renaming returned->G
open Go renaming World->F,Value->Y,Calls->H
open Go.Proofs.Tryz renaming prog→K
open Go.Proofs.Tryz
namespace Go.Proofs.YtfplgfodoiiobabGreatDoor
set_option maxHeartbeats 4000000
set_option maxRecDepth 100000
open Go.RowKit
variable {w:F}{lp db depth:Nat}{s:Sc}{fv:Y}{rs:List FR}{ps:Nat->Addr}{ep:Int}
theorem UJ {k:Nat}{n:Int}(h:aU w db s fv rs)(hL:w.heap[lp]?=M (jW db ep))(hG:Gl w ps)(hO:qB 1000 s (plain rs)):
 H K 132 #[U (M ⟨lp,0,O⟩),I V n,I V (k:Int)] w λe w'=> ∃v,e=G v/\tH w w' ps db fv rs v (bM s (plain rs) n (k:Int)):=by
 have i:rs.length<=1000:=by have:=hO.len;rw[bP]at this;exact this
 have a:=He (n:=n) h hO.inv.sort.1 (by omega);obtain⟨u,-⟩:=iE hL;by_cases x:(aP (plain rs) n).size<=k
 ·have r:Hid (tH w w ps db fv rs .nilIface (bM s (plain rs) n (k:Int))):=by
   have e:bM s (plain rs) n (k:Int)=(true,s,plain rs):=(by unfold bM;rw[Aad (by omega)]);rw[e];exact⟨fv,rs,h,rfl,Dk.refl _ _,Aac ⟨rfl,rfl⟩⟩
  have o:((aP (plain rs) n).size:Int)<=(k:Int):=by omega
  clear h hL hG hO;go_enter func132,ntmps132;go_wp2_with (go_at_call 127;refine a.mono ?_;rintro e w ⟨rfl,rfl⟩);go_ret;exact⟨_,rfl,r.out⟩
 ·have o:¬((aP (plain rs) n).size:Int)<=(k:Int):=by omega
  by_cases j:k=0
  ·have d:Hid (H K 131 #[U (M ⟨db,0,O⟩),I V n] w λe w'=> ∃v,e=G v/\tH w w' ps db fv rs v (bM s (plain rs) n (k:Int))):=by
    rw[j];exact Pg h hG.yQ hO.dJ hO.Ef hO.inv i
   have g:((k:Int)==0)=true:=(by rw[beq_iff_eq];omega);clear h hL hG hO;generalize (aP (plain rs) n).size=z at*;go_enter func132,ntmps132;go_wp2_with (first|(go_at_call 127;refine a.mono ?_;rintro e w ⟨rfl,rfl⟩)|(go_at_call 131;refine d.out.mono ?_;rintro e t ⟨v,rfl,c⟩));go_ret;exact⟨_,rfl,c⟩
  ·have d:Hid (H K 168 #[U (M ⟨db,0,O⟩),I V n,I V (k:Int)] w λe w'=> ∃v,e=G v/\tH w w' ps db fv rs v (bM s (plain rs) n (k:Int))):=cut_pg h hG.yQ hO.dJ hO.Ef hO.inv i (by omega) (by omega);have g:((k:Int)==0)=false:=(by rw[Aat];omega);clear h hL hG hO;generalize (aP (plain rs) n).size=z at*;go_enter func132,ntmps132;go_wp2_with (first|(go_at_call 127;refine a.mono ?_;rintro e w ⟨rfl,rfl⟩)|(go_at_call 168;refine d.out.mono ?_;rintro e t ⟨v,rfl,c⟩));go_ret;exact⟨_,rfl,c⟩
theorem tidy_pg {j b:Nat}(h:aU w db s fv rs)(hL:w.heap[lp]?=M (jW db ep))(hG:Gl w ps)(hO:qB 1000 s (plain rs))(zD:0<=ep)(Jg:ep<=1000):
 H K 89 #[U (M ⟨lp,0,O⟩),I V (j:Int),I V (b:Int)] w λe w'=> ∃v,e=G v/\oQ w w' ps db fv rs 1 v (rF s (plain rs) ep (j:Int) (b:Int)):=by
 have hl:rs.length<=1000:=by have:=hO.len;rw[bP]at this;exact this
 have hN:=TU h (by omega);obtain⟨c0,-⟩:=iE hL;have HS:Hid (Ar w w ps lp db ep fv rs s (plain rs)):=Ar.start h hL hG;have HJ:Hid (∀W o r,Ar w W ps lp db ep fv rs o r->H K 128 #[U (M ⟨lp,0,O⟩)] W λe w'=>e=G (I V (10+ep))/\w'=W):=λW o r L=>qQ L.1 zD (by omega)
 have a2:Hid (∀W o r n,Ar w W ps lp db ep fv rs o r->qB 1000 o r->H K 131 #[U (M ⟨db,0,O⟩),I V n] W λe w'=> ∃v,e=G v/\Ar w w' ps lp db ep fv rs (bM o r n 0).2.1 (bM o r n 0).2.2/\LY w' ps v (bM o r n 0).1/\MX W w'):=λW o r n L kD=>by
  have FL:=L.2.1;obtain⟨eD,dY,k1,rfl,k3⟩:=L.res;refine(Pg k1 FL.yQ kD.dJ kD.Ef kD.inv (by have:=kD.len;rw[bP]at this;exact this)).mono ?_;rintro e w' ⟨v,rfl,hr⟩;exact⟨v,rfl,k3 w' v _ hr⟩
 have X:Hid (∀W o r n (k:Nat),Ar w W ps lp db ep fv rs o r->qB 1000 o r->H K 132 #[U (M ⟨lp,0,O⟩),I V n,I V (k:Int)] W λe w'=> ∃v,e=G v/\Ar w w' ps lp db ep fv rs (bM o r n (k:Int)).2.1 (bM o r n (k:Int)).2.2/\LY w' ps v (bM o r n (k:Int)).1):=λW o r n k L kD=>by
  have FL:=L.2.1;have b3:=L.1;obtain⟨eD,dY,k1,rfl,k3⟩:=L.res;refine(UJ k1 b3 FL kD).mono ?_;rintro e w' ⟨v,rfl,hr⟩;exact⟨v,rfl,(k3 w' v _ hr).1,(k3 w' v _ hr).2.1⟩
 have E:Hid (∀W o r v (ok:Bool) D,Ar w W ps lp db ep fv rs o r->LY W ps v ok->1<=D->oQ w W ps db fv rs D v (if ok then 0 else 10,o,r)):=λW o r v ok D L hv hD=>by
  obtain⟨-,-,eD,dY,a,b,c⟩:=L;refine⟨eD,dY,a,b,c,?_⟩;rcases hv.wG with h|⟨d,k,h1,h2⟩
  ·exact Aac h
  ·exact Aab ⟨d,k,by omega,h2⟩
 generalize a1:(plain rs).map (λf=>f.1)=J at hN;have a3:Hid _:=a1;have b9:J.length<=1000:=by rw[<-a1,AbM,bP];exact hl
 have j_:Hid _:=hO;clear h hL hG hO a1;go_enter func89,ntmps89;go_upto_region 2 with(go_at_call 130;refine hN.mono ?_;rintro e w1 ⟨v1,rfl,bB,iV⟩;obtain⟨a6,b7,rfl,a7,-,b1,-⟩:=kK.form bB)
 have a4:Hid (∀k n,J[k]?=M n->∃g off A,a6=M ⟨g,off,O⟩/\w1.heap[g]?=M (C A 3 (0,0))/\A[off+k]?=M (I V n)):=λk n hk=>by
  obtain⟨bQ,he⟩:=Aae.1 hk;rcases bB.2 with⟨e,e2⟩|⟨g,b8,A,e,-,hh,h4,-,h6,h7⟩
  ·omega
  ·cases e
   refine⟨g,0,A,rfl,hh,?_⟩;have h8:(J.map (Value.int V))[k]?=M (I V n):=(by rw[AaU,hk];rfl);rw[<-h7,Aby]at h8;rw[Ach];split at h8
   ·simpa using h8
   ·cases h8
 have b2:Hid _:=HS.out.aN iV;clear hN a7 bB iV HS c0 b1
 go_loopw [8,9,17,22] (λ_ _ i _ wr=> ∃(k:Nat) (o:Sc) (r:List bD),k<=J.length/\i=I V (k:Int)/\Hid (Sr s (plain rs) ep J k o r)/\Hid (Ar w wr ps lp db ep fv rs o r)/\Hid (qB 1000 o r)/\Hid (∀(g:Nat) (A:Array Y),w1.heap[g]?=M (Obj.cells A 3 (0,0))->wr.heap[g]?=M (Obj.cells A 3 (0,0)))) (λ_ _ i _ _=>J.length-(intOf i).toNat)
 case atStart=>exact⟨0,s,plain rs,Aao _,rfl,(by show Sr _ _ _ _ _ _ _;unfold Sr;rw[Abs]),b2,j_,λ_ _ h=>h⟩
 case round=>
  obtain⟨k,o,r,hk,rfl,HT,HW,HK,HR⟩:=hrel;by_cases bQ:k<J.length
  ·obtain⟨n,N⟩:∃n,J[k]?=M n:=⟨_,Aaf bQ⟩;obtain⟨g,off,A,rfl,hg,qm⟩:=a4.out k n N;have a9:wr.cell? ⟨g,off+k,O⟩=M (I V n):=(by simp[World.cell?,HR.out g A hg,qm]);have i1:(0:Int)<=(k:Int):=(by omega);have i2:(k:Int)<(J.length:Int):=(by omega);obtain⟨c0,-⟩:=iE HW.out.1;have hj:=HJ.out wr o r HW.out;by_cases e1:n=1
   ·have t:Hid _:=HT.out.skip N (Aac e1);subst e1;clear N hg qm
    go_wp2
    go_roundw
    case rel=>exact⟨k+1,o,r,by omega,by go_num,t,HW,HK,HR⟩
    case measure=>simp[intOf];omega
   ·by_cases e2:n=2
    ·have t:Hid _:=HT.out.skip N (Aab (Aac e2));subst e2;clear N hg qm
     go_wp2
     go_roundw
     case rel=>exact⟨k+1,o,r,by omega,by go_num,t,HW,HK,HR⟩
     case measure=>simp[intOf];omega
    ·have sP:=Aat.2 e1;have Es:=Aat.2 e2;by_cases e3:n=10+ep
     ·have t:Hid _:=HT.out.skip N (Aab (Aab e3));have b6:=beq_iff_eq.2 e3;clear N hg qm e3;go_wp2_with (go_at_call 128;refine hj.mono ?_;rintro e wr ⟨rfl,rfl⟩);go_roundw
      case rel=>exact⟨k+1,o,r,by omega,by go_num,t,HW,HK,HR⟩
      case measure=>simp[intOf];omega
     ·have b6:=Aat.2 e3;obtain⟨t1,t2⟩:=HT.out.step N e1 e2 e3;have R:=a2.out wr o r n HW.out HK.out;have a0:Hid _:=HK.out.cut n (AaT 0);cases u:(bM o r n 0).1 with
      |true=>
       have t:Hid _:=t1 u
       have B:H K 131 #[U (M ⟨db,0,O⟩),I V n] wr λe w'=>e=G .nilIface/\Hid (Ar w w' ps lp db ep fv rs (bM o r n 0).2.1 (bM o r n 0).2.2)/\Hid (MX wr w'):=R.mono (by
        rintro e w' ⟨v,rfl,a,b,c⟩;rw[u]at b;rcases b with⟨-,rfl⟩|⟨b,-⟩
        ·exact⟨rfl,a,c⟩
        ·cases b)
       clear R u t1 t2 N hg qm;go_wp2_with (first|(go_at_call 128;refine hj.mono ?_;rintro e wr ⟨rfl,rfl⟩)|(go_at_call 131;refine B.mono ?_;rintro e P ⟨rfl,rO,a8⟩));go_roundw
       case rel=>exact⟨k+1,_,_,by omega,by go_num,t,rO,a0,λg A hg=>a8.out g A 3 (0,0) (HR.out g A hg) (by decide) (by decide) (by decide) (by decide)⟩
       case measure=>simp[intOf];omega
      |false=>
       have HE:Hid (rF s (plain rs) ep (j:Int) (b:Int)=(10,(bM o r n 0).2)):=by
        show _=_;have e:=t2 u;rw[<-a3.out]at e;have e':gM s (plain rs) (tK (plain rs) ep)=bM o r n 0:=e;unfold rF;rw[e',Aad u]
       have B:H K 131 #[U (M ⟨db,0,O⟩),I V n] wr λe w'=> ∃S,e=G (.iface 278 (U (M ⟨S,0,O⟩)))/\Hid (oQ w w' ps db fv rs 1 (.iface 278 (U (M ⟨S,0,O⟩))) (10,(bM o r n 0).2)):=R.mono (by
        rintro e w' ⟨v,rfl,a,b,c⟩;rw[u]at b;have hl:=E.out w' _ _ v false 1 a b (Aak _);rcases b with⟨b,-⟩|⟨-,S,nm,num,rfl,-⟩
        ·cases b
        ·exact⟨S,rfl,hl⟩)
       clear R u t1 t2 N hg qm;go_wp2_with (first|(go_at_call 128;refine hj.mono ?_;rintro e wr ⟨rfl,rfl⟩)|(go_at_call 131;refine B.mono ?_;rintro e P ⟨b4,rfl,rO⟩));go_ret;rw[HE.out];exact⟨_,rfl,rO.out⟩
  ·have e1:J.drop k=[]:=AcB (by omega)
   have HC:Hid (gM s (plain rs) (tK (plain rs) ep)=(true,o,r)):=by
    have:=HT.out;unfold Sr at this;rw[e1,<-a3.out]at this;exact this
   have hj:=HJ.out wr o r HW.out;have Q:=X.out wr o r (10+ep) j HW.out HK.out;have a0:Hid (qB 1000 (bM o r (10+ep) (j:Int)).2.1 (bM o r (10+ep) (j:Int)).2.2):=HK.out.cut _ (by omega);clear e1 HT a2;cases u:(bM o r (10+ep) (j:Int)).1 with
   |true=>
    have z:H K 132 #[U (M ⟨lp,0,O⟩),I V (10+ep),I V (j:Int)] wr λe w'=>e=G .nilIface/\Hid (Ar w w' ps lp db ep fv rs (bM o r (10+ep) (j:Int)).2.1 (bM o r (10+ep) (j:Int)).2.2):=Q.mono (by
     rintro e w' ⟨v,rfl,a,b⟩;rw[u]at b;rcases b with⟨-,rfl⟩|⟨b,-⟩
     ·exact⟨rfl,a⟩
     ·cases b)
    have HE:Hid (rF s (plain rs) ep (j:Int) (b:Int)=(if (bM (bM o r (10+ep) (j:Int)).2.1 (bM o r (10+ep) (j:Int)).2.2 1 (b:Int)).1 then 0 else 10,(bM (bM o r (10+ep) (j:Int)).2.1 (bM o r (10+ep) (j:Int)).2.2 1 (b:Int)).2)):=by
     show _=_;unfold rF;rw[HC.out];simp only;rw[Aaa (by simp),Aaa (by rw[u];simp)]
    generalize bM o r (10+ep) (j:Int)=r2 at*;clear Q u HC
    have b5:Hid (∀P,Ar w P ps lp db ep fv rs r2.2.1 r2.2.2->H K 132 #[U (M ⟨lp,0,O⟩),I V 1,I V (b:Int)] P λe w'=> ∃v,e=G v/\oQ w w' ps db fv rs 1 v (if (bM r2.2.1 r2.2.2 1 (b:Int)).1 then 0 else 10,(bM r2.2.1 r2.2.2 1 (b:Int)).2)):=λP h4=>(X.out P _ _ 1 b h4 a0.out).mono (by
     rintro e w' ⟨v,rfl,x,y⟩;exact⟨v,rfl,E.out w' _ _ v _ 1 x y (Aak _)⟩)
    clear X E HJ;go_wp2_with (first|(go_at_call 128;refine hj.mono ?_;clear hj;rintro e wr ⟨rfl,rfl⟩)|(go_at_call 132;refine z.mono ?_;clear z;rintro e P ⟨rfl,rO⟩;have a5:=b5.out P rO.out)|(go_at_call 132;refine a5.mono ?_;rintro e w5 ⟨v5,rfl,Bn⟩));go_ret;rw[HE.out];exact⟨_,rfl,Bn⟩
   |false=>
    have z:H K 132 #[U (M ⟨lp,0,O⟩),I V (10+ep),I V (j:Int)] wr λe w'=> ∃S,e=G (.iface 278 (U (M ⟨S,0,O⟩)))/\Hid (oQ w w' ps db fv rs 1 (.iface 278 (U (M ⟨S,0,O⟩))) (10,(bM o r (10+ep) (j:Int)).2)):=Q.mono (by
     rintro e w' ⟨v,rfl,a,b⟩;rw[u]at b;have hl:=E.out w' _ _ v false 1 a b (Aak _);rcases b with⟨b,-⟩|⟨-,S,nm,num,rfl,-⟩
     ·cases b
     ·exact⟨S,rfl,hl⟩)
    have HE:Hid (rF s (plain rs) ep (j:Int) (b:Int)=(10,(bM o r (10+ep) (j:Int)).2)):=by
     show _=_;unfold rF;rw[HC.out];simp only;rw[Aaa (by simp),Aad u]
    clear Q u HC X E HJ;go_wp2_with (first|(go_at_call 128;refine hj.mono ?_;clear hj;rintro e wr ⟨rfl,rfl⟩)|(go_at_call 132;refine z.mono ?_;rintro e P ⟨b4,rfl,rO⟩));go_ret;rw[HE.out];exact⟨_,rfl,rO.out⟩
theorem Wu (hL:w.heap[lp]?=M (jW db ep))(hD:aU w db s fv rs)(hO:qB 1000 s (plain rs))(hd:depth<=100)(hz:(aP (plain rs) 2).size=0):
 H K 86 #[U (M ⟨lp,0,O⟩),I V (depth:Int)] w λe w'=> ∃dp tb:Nat,e=G (.tuple #[U (M ⟨dp,0,O⟩),.nilIface])/\aW w' dp tb depth ([],[],[],0,0)/\w.heap.size<=dp/\w.heap.size<=tb/\aL w w':=by
 have z:rs.length<=1000:=by have:=hO.len;rw[bP]at this;exact this
 have a:=xS (n:=2) hD hO.inv.sort.1 (by omega);obtain⟨A,i,c,-⟩:=yE hD hO.inv.sort.1 2;rw[c,hz]at a;obtain⟨y,-⟩:=iE hL
 have h:Hid (∀W,H K 125 #[I V (depth:Int),.agg #[I V 0,I V 0,Z O 0 0,Z O 0 0,Z O 0 0]] W λe w'=> ∃dp tb,e=G (U (M ⟨dp,0,O⟩))/\aW w' dp tb depth ([],[],[],0,0)/\W.heap.size<=dp/\W.heap.size<=tb/\aL W w'):=λW=>by
  have:=Vz (w:=W) (dn:=0) (bf:=0) (t:=(O,0,0)) (u:=(O,0,0)) (r:=(O,0,0)) (l:=[]) (ul:=[]) (rl:=[]) (wF W) (dV.nil W) (dV.nil W) (by simp) (by simp) hd wC (by simp) (λq g=>by simp at g);simpa[MN,bT.v]using this
 clear hL hD hO c;go_enter func86,ntmps86;go_wp2_with (first|(go_at_call 95;refine a.mono ?_;rintro e w ⟨rfl,rfl⟩)|(go_at_call 125;refine(h.out _).mono ?_;rintro e x ⟨dp,tb,rfl,o,k,d,j⟩));refine Aap (v:= .tuple #[U (M ⟨dp,0,O⟩),.nilIface]) (by simp[results,results86,go_sem]) rfl ?_;exact⟨dp,tb,rfl,o,k,d,j⟩
theorem FT {CU:Int}{m:dI}(hL:w.heap[lp]?=M (jW db ep))(hD:aU w db s fv rs)(hO:qB 1000 s (plain rs))(hG:Gl w ps)(hd:depth<=100)(hz:(aP (plain rs) 2).size≠0)(hr:zQ (aP (plain rs) 2).data.toList ((aP (plain rs) 1).size:Int)=M (CU,m)):
 H K 86 #[U (M ⟨lp,0,O⟩),I V (depth:Int)] w λe w'=> ∃dp tb:Nat,e=G (.tuple #[U (M ⟨dp,0,O⟩),.nilIface])/\aW w' dp tb depth (Sv m depth)/\w'.heap[lp]?=M (jW db CU)/\w.heap.size<=dp/\w.heap.size<=tb/\Og w w' lp:=by
 have hl:rs.length<=1000:=by have:=hO.len;rw[bP]at this;exact this
 have jY:(aP (plain rs) 2).size<=1000000/\(aP (plain rs) 1).size<=1000000:=by
  have h1:=gN hO.inv 2;have h2:=gN hO.inv 1;have h3:=hO.dJ.kZ;exact⟨by omega,by omega⟩
 obtain⟨-,X,-,sj,Ju,Iw,Im⟩:=Ws hr (by omega) depth;have kD:=X.IY;have Ig:=X.few;have h9:∀q∈m.1,q.1<=1000000000:=λq B=>by have:=Im q B;omega
 have hB:=xS (n:=2) hD hO.inv.sort.1 (by omega);have hN:=He (n:=1) hD hO.inv.sort.1 (by omega);obtain⟨ao,cap,ev,iW,Jh⟩:=yE hD hO.inv.sort.1 2;rw[ev]at hB;obtain⟨c0,-⟩:=iE hL;rcases Jh with⟨-,h0,-⟩|⟨b,off,rfl,rA,Jt⟩
 ·exact absurd h0 hz
 ·have N:=CO (cap:=cap) (buf:=((aP (plain rs) 1).size:Int)) rA Jt (by simpa using iW) (by have:=jY.1;simp;omega) hG (by omega) (by omega);rw[hr]at N;have y:(aP (plain rs) 2).data.toList.length=(aP (plain rs) 2).size:=by simp
  rw[y]at N
  have HC:Hid (H K 126 #[Z (M ⟨b,off,O⟩) (aP (plain rs) 2).size cap,I V ((aP (plain rs) 1).size:Int)] w λe w'=> ∃(i:Option Addr) (g j:Nat) (u1:Option Addr) (u2 u3:Nat) (c:Option Addr) (d h:Nat),e=G (.tuple #[I V CU,.agg #[I V m.2.2.2.1,I V m.2.2.2.2,Z i g j,Z u1 u2 u3,Z c d h],.nilIface])/\(bJ w' (i,g,j) m.1/\dV w' (u1,u2,u3) m.2.1/\dV w' (c,d,h) m.2.2.1)/\aL w w'):=N.mono (by
   rintro e w' ⟨⟨⟨i,g,j⟩,⟨u1,u2,u3⟩,⟨c,d,h⟩,rfl,q1,q2,R⟩,hg⟩;exact⟨i,g,j,u1,u2,u3,c,d,h,rfl,⟨q1,q2,R⟩,hg⟩)
  have a0:Hid (∀W i g j u1 u2 u3 c d h,bJ W (i,g,j) m.1->dV W (u1,u2,u3) m.2.1->dV W (c,d,h) m.2.2.1->H K 125 #[I V (depth:Int),.agg #[I V m.2.2.2.1,I V m.2.2.2.2,Z i g j,Z u1 u2 u3,Z c d h]] W λe w'=> ∃dp tb,e=G (U (M ⟨dp,0,O⟩))/\aW w' dp tb depth (Sv m depth)/\W.heap.size<=dp/\W.heap.size<=tb/\aL W w'):=λW i g j u1 u2 u3 c d h q1 q2 R=>by
   exact Vz (t:=(i,g,j)) (u:=(u1,u2,u3)) (r:=(c,d,h)) q1 q2 R (by omega) (by omega) hd kD Ig h9
  have HK:Hid (∀a i g j u1 u2 u3 c d h,aL w a->(bJ a (i,g,j) m.1/\dV a (u1,u2,u3) m.2.1/\dV a (c,d,h) m.2.2.1)->(a.cell? ⟨lp,1,O⟩=M (I V ep)/\a.frozen? ⟨lp,1,O⟩=false)/\(a.setCell ⟨lp,1,O⟩ (I V CU)).heap[lp]?=M (jW db CU)/\(bJ (a.setCell ⟨lp,1,O⟩ (I V CU)) (i,g,j) m.1/\dV (a.setCell ⟨lp,1,O⟩ (I V CU)) (u1,u2,u3) m.2.1/\dV (a.setCell ⟨lp,1,O⟩ (I V CU)) (c,d,h) m.2.2.1)/\Og w (a.setCell ⟨lp,1,O⟩ (I V CU)) lp):=λa i g j u1 u2 u3 c d h E B=>by
   have k:=(E.block _ (aM hL)).trans hL;have hF:=Fr.set a ⟨lp,1,O⟩ (I V CU);obtain⟨-,k1,kf⟩:=iE k;refine⟨⟨k1,kf 1⟩,YQ k CU,⟨B.1.fr hF (λb P o=>aZ o k (by decide)),B.2.1.fr hF (λb P o=>aZ o k (by decide)) (λb P o=>aZ o k (by decide)),B.2.2.fr hF (λb P o=>aZ o k (by decide)) (λb P o=>aZ o k (by decide))⟩,((Og.refl w lp).aN E).set⟩
  have a3:Hid (lp<w.heap.size):=aM hL;have a4:(((aP (plain rs) 2).size:Int)==0)=false:=by rw[Aat];omega
  generalize (aP (plain rs) 2).size=z2 at*;generalize (aP (plain rs) 1).size=z1 at*;clear hL hD hO hG rA Jt N ev hr y X Im h9 kD Ig sj Ju Iw;go_enter func86,ntmps86;go_upto_region 7 with(first|(go_at_call 95;refine hB.mono ?_;rintro e w ⟨rfl,rfl⟩)|(go_at_call 127;refine hN.mono ?_;rintro e w ⟨rfl,rfl⟩)|(go_at_call 126;refine HC.out.mono ?_;rintro e a ⟨i,g,j,u1,u2,u3,c,d,h,rfl,x,oD⟩));have A:=(aL.refl a).alloc (C #[I V m.2.2.2.1,I V m.2.2.2.2,Z i g j,Z u1 u2 u3,Z c d h] 193);have rR:=Aag a (C #[I V m.2.2.2.1,I V m.2.2.2.2,Z i g j,Z u1 u2 u3,Z c d h] 193);obtain⟨⟨k1,kf⟩,k2,Q,k4⟩:=HK.out _ i g j u1 u2 u3 c d h (oD.then A) ⟨x.1.aN A,x.2.1.aN A,x.2.2.aN A⟩;have pu:Hid (w.heap.size<=a.heap.size):=oD.le;generalize (a.alloc (C #[I V m.2.2.2.1,I V m.2.2.2.2,Z i g j,Z u1 u2 u3,Z c d h] 193))=z at*;have J:Hid (w.heap.size<=z.heap.size):=Aal pu.out A.le;have S:Hid (z.heap[a.heap.size]?=_):=rR;clear rR A x oD HK c0;go_upto_region 8 with fail;have L:a.heap.size≠lp:=by have:=a3.out;have:=pu.out;omega
  obtain⟨⟨y0,y1,y2,y3,y4⟩,-⟩:=rZ ((Fr.set z ⟨lp,1,O⟩ (I V CU)).at S.out L);have D:Hid (_=M (jW db CU)):=k2;have a1:Hid (Og w _ lp):=k4;have dw:=a0.out _ i g j u1 u2 u3 c d h Q.1 Q.2.1 Q.2.2;have a2:Hid (z.heap.size<=(z.setCell ⟨lp,1,O⟩ (I V CU)).heap.size):=(Fr.set z ⟨lp,1,O⟩ (I V CU)).1;clear k1 kf k2 Q k4 L;generalize (z.setCell ⟨lp,1,O⟩ (I V CU))=w6 at*;go_wp2_with (go_at_call 125;refine dw.mono ?_;rintro e w7 ⟨dp,tb,rfl,h1,h2,h3,E⟩);refine Aap (v:= .tuple #[U (M ⟨dp,0,O⟩),.nilIface]) (by simp[results,results86,go_sem]) rfl ?_;have h5:=a2.out;have h6:=J.out;exact⟨dp,tb,rfl,h1,(E.block _ (aM D.out)).trans D.out,by omega,by omega,a1.out.aN E⟩
theorem FU {em:Int×dI}(hL:w.heap[lp]?=M (jW db 0))(hD:aU w db s fv rs)(hO:qB 1000 s (plain rs))(hG:Gl w ps)(hd:depth<=100)(hr:Kv (plain rs) depth=M em):
 (H K 86 #[U (M ⟨lp,0,O⟩),I V (depth:Int)] w λe w'=> ∃dp tb:Nat,e=G (.tuple #[U (M ⟨dp,0,O⟩),.nilIface])/\aW w' dp tb depth em.2/\w'.heap[lp]?=M (jW db em.1)/\w.heap.size<=dp/\w.heap.size<=tb/\Og w w' lp)/\eX em.2 depth/\em.2.2.2.2.1<=1000000000/\0<=em.1/\em.1<=999:=by
 unfold Kv at hr;split at hr
 ·rename_i c;simp only[AaW]at hr;subst hr;refine⟨?_,Wt depth,by simp,by simp,by simp⟩;refine(Wu hL hD hO hd c).mono ?_;rintro e w' ⟨dp,tb,rfl,j,h,d,g⟩;exact⟨dp,tb,rfl,j,(g.block _ (aM hL)).trans hL,h,d,(Og.refl w lp).aN g⟩
 ·rename_i c;cases a:zQ (aP (plain rs) 2).data.toList ((aP (plain rs) 1).size:Int)with
  |none=>rw[a]at hr;cases hr
  |some q=>
   obtain⟨n,m⟩:=q;rw[a]at hr;simp only[AaW]at hr;subst hr;have h:=gN hO.inv 1;have d:=hO.dJ.kZ;obtain⟨o,k,i,-⟩:=Ws a (by omega) depth;exact⟨FT hL hD hO hG hd c a,k,i,by simp only;omega,by simp only;omega⟩
section
variable {w:F} {B:Nat} {r:gZ} {x1:St} {code a n m k q:Int} {s:ByteArray} {fo:Option Addr} {fl fc fn aD aC:Nat} {PA DA:Array Y}
theorem pair_10 (hq:q=24/\fn=25/\aD=68/\PA=#[U (M ⟨r.qp,0,O⟩),I V n,I V m,I V k]/\aC=69/\DA=#[U (M ⟨r.xb,0,O⟩),I V n,I V m,I V k])(hP:gI w B r)(h1:∀w0,aL w w0->OU w0 r aD PA x1 code)(h2:∀w0,aL w w0->DocC w0 B r aC DA x1 code):
 H K fn #[U (M ⟨r.sb,0,O⟩),.agg #[I V q,I V a,I V n,I V m,I V k,.string s,Z fo fl fc]] w λe w'=>e=G (.bool true)/\∃w0 r',aL w w0/\wN w0 w' B r r'/\r'.x=x1:=by
 obtain⟨w0,c⟩:∃w0,w0=w.alloc (iZ q a n m k s fo fl fc):=⟨_,rfl⟩;have d:aL w w0:=by rw[c];exact(aL.refl w).alloc _
 have i:w0.heap[w.heap.size]?=M (iZ q a n m k s fo fl fc):=by rw[c];exact Aag w _
 have h:=hP.aN d;obtain⟨R,N⟩:=lM h.sb;obtain⟨P,A,W,Q,S,D,X⟩:=iI i;have y:Hid _:=h;have E:Hid _:=i;have u:=h1 w0 d;have o:=h2 w0 d;have L:Hid (aL w w0):=d;unfold iZ at c;clear hP h i h1 h2 d;obtain⟨rfl,rfl,rfl,rfl,rfl,rfl⟩:=hq;go_enter func25,ntmps25;go_upto_region 1 with fail;rw[<-c];clear c;generalize w.heap.size=ob at*;go_upto_region 14 with fail;refine Abx 10 (by kernel_rfl) (by kernel_rfl) ?_;simp only[AaY,AbI,Abr,Abs]
 repeat still_step
 refine AcC ?_;go_wp2_with fail;refine(u _ (aL.drew (aL.refl w0))).mono ?_;rintro e j ⟨rfl,J,t,g⟩;have HD:=o j J t g;have p2:=tQ y.out g;obtain⟨t0,t1,t2,t3,t4,t5,t6⟩:=iI (Az y.out g E.out);clear u o t g R N P A W Q S D X;go_upto_region 15 with fail;refine Abx 10 (by kernel_rfl) (by kernel_rfl) ?_;simp only[AaY,AbI,Abr,Abs]
 repeat still_step
 refine AcC ?_;go_wp2_with fail;refine(HD _ (aL.drew (aL.refl j))).mono ?_;rintro e w2 ⟨rfl,r',z⟩;go_wp2_with (go_at_call 27;refine kW.mono ?_;rintro e w3 ⟨rfl,rfl⟩);go_ret;refine⟨by simp,w0,r',L.out,z.1,z.2⟩
theorem pair_6 (hq:q=25/\fn=25/\aD=70/\PA=#[U (M ⟨r.qp,0,O⟩),I V n]/\aC=71/\DA=#[U (M ⟨r.xb,0,O⟩),I V n])(hP:gI w B r)(h1:∀w0,aL w w0->OU w0 r aD PA x1 code)(h2:∀w0,aL w w0->DocC w0 B r aC DA x1 code):
 H K fn #[U (M ⟨r.sb,0,O⟩),.agg #[I V q,I V a,I V n,I V m,I V k,.string s,Z fo fl fc]] w λe w'=>e=G (.bool true)/\∃w0 r',aL w w0/\wN w0 w' B r r'/\r'.x=x1:=by
 obtain⟨w0,c⟩:∃w0,w0=w.alloc (iZ q a n m k s fo fl fc):=⟨_,rfl⟩;have d:aL w w0:=by rw[c];exact(aL.refl w).alloc _
 have i:w0.heap[w.heap.size]?=M (iZ q a n m k s fo fl fc):=by rw[c];exact Aag w _
 have h:=hP.aN d;obtain⟨R,N⟩:=lM h.sb;obtain⟨P,A,W,Q,S,D,X⟩:=iI i;have y:Hid _:=h;have E:Hid _:=i;have u:=h1 w0 d;have o:=h2 w0 d;have L:Hid (aL w w0):=d;unfold iZ at c;clear hP h i h1 h2 d;obtain⟨rfl,rfl,rfl,rfl,rfl,rfl⟩:=hq;go_enter func25,ntmps25;go_upto_region 1 with fail;rw[<-c];clear c;generalize w.heap.size=ob at*;go_upto_region 17 with fail;refine Abx 6 (by kernel_rfl) (by kernel_rfl) ?_;simp only[AaY,AbI,Abr,Abs]
 repeat still_step
 refine AcC ?_;go_wp2_with fail;refine(u _ (aL.drew (aL.refl w0))).mono ?_;rintro e j ⟨rfl,J,t,g⟩;have HD:=o j J t g;have p2:=tQ y.out g;obtain⟨t0,t1,t2,t3,t4,t5,t6⟩:=iI (Az y.out g E.out);clear u o t g R N P A W Q S D X;go_upto_region 18 with fail;refine Abx 6 (by kernel_rfl) (by kernel_rfl) ?_;simp only[AaY,AbI,Abr,Abs]
 repeat still_step
 refine AcC ?_;go_wp2_with fail;refine(HD _ (aL.drew (aL.refl j))).mono ?_;rintro e w2 ⟨rfl,r',z⟩;go_wp2_with (go_at_call 27;refine kW.mono ?_;rintro e w3 ⟨rfl,rfl⟩);go_ret;refine⟨by simp,w0,r',L.out,z.1,z.2⟩
end
end Go.Proofs.YtfplgfodoiiobabGreatDoor
