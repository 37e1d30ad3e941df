/- PgQ, PgR, PgS, PgT, PgU (joined). -/
import Derived.Test.YtfplgfodoiiobaaGreatDoorD17
open Option renaming none→O,some→M
open Go.Value renaming int→I,slice→Z,pointer→U
open Go.IntKind renaming i64→V
open Go.Obj renaming cells→C
open Go.Ending renaming returned→G
open Go renaming World→F,Value→Y,Calls→H
open Go.Proofs.Tryz renaming prog→K
open Go.Proofs.Tryz
namespace Go.Proofs.YtfplgfodoiiobaaGreatDoor
set_option maxHeartbeats 4000000
set_option maxRecDepth 100000
open Go.RowKit
abbrev AcT:=@List.eraseIdx_sublist
variable {rs:List FR}{w:F}{db lo bx g cap c5 j b2:Nat}{s:Sc}{fv:Y}{r:FR}{n t2:Int}{ps:Nat->Addr}
def JM (w:F)(ps:Nat->Addr)(v:Y)(ok:Bool):Prop:=(ok=true/\v= .nilIface)\/(ok=false/\Kz w ps v 2)
def sH (w w':F)(ps:Nat->Addr)(db:Nat)(fv:Y)(rs:List FR)(v:Y)(r:Bool×Sc×List bC):Prop:=
 ∃dV dP,aU w' db r.2.1 dV dP/\plain dP=r.2.2/\Dk w w' (DX db fv rs) (DX db dV dP)/\JM w' ps v r.1
def DoD (w w':F)(db:Nat)(s:Sc)(fv:Y)(rs:List FR)(dU:List bC):Prop:=∃dV dP,aU w' db s dV dP/\plain dP=dU/\Dk w w' (DX db fv rs) (DX db dV dP)
theorem aU.at (h:aU w db s fv rs)(hr:rs[lo]?=M r):∃g cap,fv=Z (M ⟨g,0,O⟩) rs.length cap/\w.cell? ⟨db,1,O⟩=M (Z (M ⟨g,0,O⟩) rs.length cap)/\w.frozen? ⟨db,1,O⟩=false/\w.cell? ⟨g,lo,O⟩=M (U (M ⟨r.b,0,O⟩))/\lo<rs.length/\gP w r:=by
 have bP:=(Aae.1 hr).1;obtain⟨-,c1,-,-,-,-,-,-,cf⟩:=dJ h.1;obtain⟨ao,cap,rfl,-,-,gL,iU⟩:=iA.form h.2.1;cases ao with
 |none=>obtain⟨rfl,-⟩:=gL rfl;simp at bP
 |some a=>
  obtain⟨g,aS,rfl,-,-,-,hc⟩:=iU a rfl;exact⟨g,cap,rfl,c1,cf 1,hc _ r hr,bP,h.2.2.1 r (Aai hr)⟩
theorem YS (h:aU w db s fv rs)(hr:rs[lo]?=M r)(c0:w.cell? ⟨bx,0,O⟩=M (U (M ⟨db,0,O⟩))):
 H K 136 #[I V (lo:Int),U (M ⟨bx,0,O⟩)] w fun e w'=>e=G (.tuple #[])/\DoD w w' db s fv rs ((plain rs).set lo (r.f.1,r.f.2.1,(r.f.2.1.size:Int))):=by
 obtain⟨g,cap,rfl,c1,-,c2,bP,hf⟩:=h.at hr;have hFl:=Za hf;have HD:Hid (aU w db s (Z (M ⟨g,0,O⟩) rs.length cap) rs):=h;have HR:Hid (rs[lo]?=M r):=hr;have i1:(0:Int)<=(lo:Int):=by omega
 have i2:(lo:Int)<(rs.length:Int):=by omega
 clear h hr hf;go_enter func136,ntmps136;go_wp2_with fail;refine hFl.mono ?_;rintro e w1 ⟨rfl,hF1,Bb⟩;go_wp2_with fail;go_end0;obtain⟨p1,p2⟩:=HD.out.Ky (r':=(r.b,r.v,(r.f.1,r.f.2.1,(r.f.2.1.size:Int)))) HR.out rfl (Bb.1.mono fun b e=>Aac e) Bb.2 hF1 (Aac rfl);exact⟨rfl,_,_,p1,by rw[Fw];rfl,p2⟩
theorem e_cut:∀(args:Array Y) (w:F),(callFunc 237 args).run K w= .ok (.enter 237 args) w:=enters_of func237 (by kernel_rfl) rfl
theorem JN:∀(args:Array Y) (w:F),(callFunc 193 args).run K w= .ok (.enter 193 args) w:=enters_of func193 (by kernel_rfl) rfl
theorem zy:∀(args:Array Y) (w:F),(callFunc 136 args).run K w= .ok (.enter 136 args) w:=enters_of func136 (by kernel_rfl) rfl
theorem e_cut1:∀(args:Array Y) (w:F),(callFunc 236 args).run K w= .ok (.enter 236 args) w:=enters_of func236 (by kernel_rfl) rfl
theorem YT:∀(args:Array Y) (w:F),(callFunc 192 args).run K w= .ok (.enter 192 args) w:=enters_of func192 (by kernel_rfl) rfl
theorem cut1_pg {by' k:Nat}(h:aU w db s fv rs)(hr:rs[lo]?=M r)(hk:k<=r.f.2.1.size)(hz:r.f.2.1.size<=2000000)(c0:w.cell? ⟨bx,0,O⟩=M (U (M ⟨db,0,O⟩)))(c0':w.cell? ⟨by',0,O⟩=M (I V (k:Int))):
 H K 236 #[I V (lo:Int),U (M ⟨bx,0,O⟩),U (M ⟨by',0,O⟩)] w fun e w'=>e=G (.tuple #[])/\DoD w w' db s fv rs ((plain rs).set lo (r.f.1,r.f.2.1.extract 0 k,(k:Int))):=by
 obtain⟨g,cap,rfl,c1,-,c2,bP,hf⟩:=h.at hr
 have HC:Hid (∀W,aL w W->H K 237 #[U (M ⟨r.b,0,O⟩),I V (k:Int)] W fun e w'=>e=G (.tuple #[])/\DoD w w' db s (Z (M ⟨g,0,O⟩) rs.length cap) rs ((plain rs).set lo (r.f.1,r.f.2.1.extract 0 k,(k:Int)))):=fun W hW=>by
  refine(UE (w:=W) (n:=k) ⟨(hW.block _ (aM hf.1)).trans hf.1,hf.2.aN hW⟩ hk hz).mono ?_;rintro e w' ⟨rfl,v',hF,jY,CJ⟩;obtain⟨p1,p2⟩:=(h.aN hW).Ky (r':=(r.b,v',(r.f.1,r.f.2.1.extract 0 k,(k:Int)))) hr rfl (jY.1.mono fun b e=>Aac e) jY.2 hF (Aab CJ);exact⟨rfl,_,_,p1,by rw[Fw];rfl,(Dk.bX hW).trans p2⟩
 have i1:(0:Int)<=(lo:Int):=by omega
 have i2:(lo:Int)<(rs.length:Int):=by omega
 clear h hr hf;go_enter func236,ntmps236
 go_region_law ((refine cB (by rfl) 237 _ _ (by rfl) _ (by simp[Act.eval];done) e_cut ((HC.out _ (by repeat (first|exact aL.refl _|refine aL.drew ?_))).mono ?_);rintro e w5 ⟨rfl,PV⟩;refine⟨_,rfl,?_⟩))
 all_goals go_wp2_with fail
 all_goals go_end0
 all_goals exact⟨rfl,PV⟩
theorem PZ (h:aU w db s fv rs)(hr:rs[lo]?=M r)(hl:rs.length<=1000000)(c0:w.heap[bx]?=M (C #[U (M ⟨db,0,O⟩)] 77 (0,0))):
 H K 192 #[I V (lo:Int),U (M ⟨bx,0,O⟩)] w fun e w'=>e=G (.tuple #[])/\DoD w w' db s fv rs ((plain rs).eraseIdx lo):=by
 obtain⟨g,cap,rfl,c1,c1f,c2,bP,hf⟩:=h.at hr
 have HC:Hid (∀W,aL w W->H K 193 #[Z (M ⟨g,0,O⟩) rs.length cap,I V (lo:Int),I V ((lo:Int)+1)] W fun e w'=> ∃(c5 n5:Nat),e=G (Z (M ⟨g,0,O⟩) n5 c5)/\w'.cell? ⟨bx,0,O⟩=M (U (M ⟨db,0,O⟩))/\w'.cell? ⟨db,1,O⟩=M (Z (M ⟨g,0,O⟩) rs.length cap)/\w'.frozen? ⟨db,1,O⟩=false/\DoD w (w'.setCell ⟨db,1,O⟩ (Z (M ⟨g,0,O⟩) n5 c5)) db s (Z (M ⟨g,0,O⟩) rs.length cap) rs ((plain rs).eraseIdx lo)):=fun W hW=>by
  refine(Zc (h.aN hW).2.1 bP hl).mono ?_;rintro e w' ⟨v',g',rfl,iU,uN,a_,jY⟩;simp[Value.ownBlock]at uN;subst uN;obtain⟨Vw,xQ,e5,-,-,-,hro5⟩:=iA.form iU;subst e5;cases Vw with
  |none=>simp[Value.ownBlock]at a_
  |some a5=>
   obtain⟨g6,cur6,rfl,-⟩:=hro5 a5 rfl;simp[Value.ownBlock]at a_;subst a_;obtain⟨cg,Zj⟩:=jK (h.aN hW).2.1 (g:=g6) rfl;have Kv:w'.heap[db]?=M (jE s (Z (M ⟨g6,0,O⟩) rs.length cap)):=jY.1.at (h.aN hW).1 (fun e=>aZ (h.aN hW).1 Zj (by decide) e);have qZ:w'.heap[bx]?=M (C #[U (M ⟨db,0,O⟩)] 77 (0,0)):=jY.1.at ((hW.block _ (aM c0)).trans c0) (fun e=>aZ ((hW.block _ (aM c0)).trans c0) Zj (by decide) e);obtain⟨-,m1,-,-,-,-,-,-,mf⟩:=dJ Kv;obtain⟨p1,p2⟩:=(h.aN hW).setRow (dV:=Z (M ⟨g6,0,O⟩) (rs.eraseIdx lo).length xQ) (jY.1.mono fun b e=>by rw[e];rfl) jY.2 iU rfl (AcT rs lo) rfl;refine⟨xQ,(rs.eraseIdx lo).length,rfl,by simp[World.cell?,qZ],m1,mf 1,_,_,p1,?_,(Dk.bX hW).trans p2⟩;unfold plain;rw[nY,nY,Abb,AbB,List.map_drop]
 have c0':w.cell? ⟨bx,0,O⟩=M (U (M ⟨db,0,O⟩)):=by simp[World.cell?,c0]
 have iY:IntKind.i64.wrap ((lo:Int)+1)=(lo:Int)+1:=by rw[AaE];omega
 clear h hr hf c0 c2;go_enter func192,ntmps192
 go_region_law ((refine cB (by rfl) 193 _ _ (by rfl) _ (by simp[Act.eval];done) JN ((HC.out _ (by repeat (first|exact aL.refl _|refine aL.drew ?_))).mono ?_);rintro e w5 ⟨c5,n5,rfl,y0,y1,y2,PV⟩;refine⟨_,rfl,?_⟩))
 all_goals go_wp2_with fail
 all_goals go_end0
 all_goals exact⟨rfl,PV⟩
theorem new1c (w:F)(o:Obj):aL w (w.alloc o)/\(w.alloc o).heap[w.heap.size]?=M o:=⟨aL.alloc (aL.refl w) _,Aaf w o⟩
theorem Ub (h:aU w db s fv rs)(hG:Wv w ps)(hC:iL s)(ha:0<=s.after)(hI:fM s.room (plain rs))(hl:rs.length<=1000):
 H K 89 #[U (M ⟨db,0,O⟩),I V n] w fun e w'=> ∃v,e=G v/\sH w w' ps db fv rs v (bY s (plain rs) n):=by
 obtain⟨k0,k1⟩:=new1c w (C #[U (M ⟨db,0,O⟩)] 77);have hD:=h.aN k0;have hp:=Kr hI.sort.1 n
 have HC:Hid (H K 135 #[U (M ⟨db,0,O⟩),.string ⟨#[102,108,117,115,104]⟩,I V n,.func (.func 136) #[] #[U (M ⟨w.heap.size,0,O⟩)]] (w.alloc (C #[U (M ⟨db,0,O⟩)] 77)) fun e w'=> ∃v,e=G v/\sH w w' ps db fv rs v (bY s (plain rs) n)):=by
  cases hh:jV (plain rs) n with
  |false=>
   have e1:bY s (plain rs) n=(true,s,plain rs):=(by unfold bY;rw[hp,hh];rfl);refine(Dx hD hI.sort.1 (by omega) hh).mono ?_;rintro e w' ⟨rfl,hg⟩;exact⟨_,rfl,fv,rs,by rw[e1];exact hD.aN hg,by rw[e1],Dk.bX (aQ k0 hg),by rw[e1];exact Aac ⟨rfl,rfl⟩⟩
  |true=>
   rw[hh]at hp;obtain⟨r,hr,hn⟩:=xZ hh;cases gK:(dI s (plain rs)).1 with
   |true=>
    have JK:=Fh gK
    have hb:aO (plain rs) n=r.f.2.1:=by
     rcases Ap hI.sort.1 n with⟨q,-,hq,-,e,-⟩|⟨e,-⟩
     ·rw[hr]at hq;cases hq;exact e
     ·rw[hh]at e;cases e
    have e1:bY s (plain rs) n=(true,(dI s (plain rs)).2.1,(plain rs).set (eF (plain rs) n) (r.f.1,r.f.2.1,(r.f.2.1.size:Int))):=by
     unfold bY;rw[hp];simp only[if_true,gK,JK,hb,hn]
    refine(Bc (R:=fun w2=>DoD w w2 db (dI s (plain rs)).2.1 fv rs ((plain rs).set (eF (plain rs) n) (r.f.1,r.f.2.1,(r.f.2.1.size:Int)))) hD hI.sort.1 (by omega) hh ha hC.mX zy gK (fun w1 yN Bb=>?_)).mono ?_
    ·refine(YS yN hr ?_).mono ?_
     ·have:=Bb.1.at k1 (fun e=>aZ k1 hD.1 (by decide) e);simp[World.cell?,this]
     ·rintro e w2 ⟨rfl,dV,dP,p1,p2,p3⟩;exact⟨rfl,dV,dP,p1,p2,((Dk.bX k0).trans (Dk.Ph Bb.1 Bb.2 (Aac rfl))).trans p3⟩
    ·rintro e w2 ⟨rfl,dV,dP,p1,p2,p3⟩;exact⟨_,rfl,dV,dP,by rw[e1];exact p1,by rw[e1];exact p2,p3,by rw[e1];exact Aac ⟨rfl,rfl⟩⟩
   |false=>
    have e1:bY s (plain rs) n=dI s (plain rs):=by
     unfold bY;rw[hp];simp only[if_true,gK,AaD,if_false]
    refine(Fx hD (hG.aN k0) hC ha hI (by omega) hh gK).mono ?_;rintro e w2 ⟨v,rfl,hE,dV,dP,p1,p2,p3⟩;exact⟨v,rfl,dV,dP,by rw[e1];exact p1,by rw[e1];exact p2,(Dk.bX k0).trans p3,by rw[e1,gK];exact Aab ⟨rfl,hE⟩⟩
 clear h hG hC ha hI hl k0 k1 hD hp;go_enter func89,ntmps89;go_wp2_with fail;refine HC.out.mono ?_;rintro e w1 ⟨v,rfl,hR⟩;obtain⟨dV,dP,p1,p2,p3,p4⟩:=hR;have hR:sH w w1 ps db fv rs v (bY s (plain rs) n):=⟨dV,dP,p1,p2,p3,p4⟩;rcases p4 with⟨-,rfl⟩|⟨-,bb,nm,num,rfl,-⟩
 ·clear p1 p2 p3;go_wp2_with fail;go_ret;exact⟨_,rfl,hR⟩
 ·clear p1 p2 p3;go_wp2_with fail;go_ret;exact⟨_,rfl,hR⟩
theorem Zk (hs:(plain rs).Pairwise (fun a b=>a.1<b.1))(hh:jV (plain rs) n=true)(hr:rs[eF (plain rs) n]?=M r):aO (plain rs) n=r.f.2.1:=by
 rcases Ap hs n with⟨q,-,hq,-,e,-⟩|⟨e,-⟩
 ·rw[hr]at hq;cases hq;exact e
 ·rw[hh]at e;cases e
theorem Zl (hs:(plain rs).Pairwise (fun a b=>a.1<b.1))(hh:jV (plain rs) n=false):aO (plain rs) n=⟨#[]⟩:=by
 rcases Ap hs n with⟨q,e,-⟩|⟨-,e,-⟩
 ·rw[hh]at e;cases e
 ·exact e
theorem JO (hs:(plain rs).Pairwise (fun a b=>a.1<b.1))(h:(aO (plain rs) n).size≠0):jV (plain rs) n=true:=by
 cases hh:jV (plain rs) n with
 |true=>rfl
 |false=>rw[Zl hs hh]at h;exact absurd rfl h
theorem UN {l:List bC}(hs:l.Pairwise (fun a b=>a.1<b.1))(hh:jV l n=true):iT l n=l.eraseIdx (eF l n):=by
 obtain⟨h1,h2⟩:=Zh hs n;unfold jV at hh;cases e:l[eF l n]? with
 |none=>rw[e]at hh;simp at hh
 |some g=>
  rw[e]at hh;have hg:g.1=n:=by simpa using hh
  obtain⟨bP,Kc⟩:=Aae.1 e;have e1:l=l.take (eF l n)++g::l.drop (eF l n+1):=by rw[<-Kc,<-AaQ bP,AbW]
  have h3:∀q∈l.drop (eF l n+1),n<q.1:=by
   intro q hq;have hp:(l.take (eF l n)++g::l.drop (eF l n+1)).Pairwise (fun a b=>a.1<b.1):=(by rw[<-e1];exact hs);rw[Abd,AbE]at hp;have:=hp.2.1.1 q hq;omega
  rw[nY];unfold iT;have e2:l.filter (fun g=>g.1 !=n)=(l.take (eF l n)++g::l.drop (eF l n+1)).filter (fun g=>g.1 !=n):=by rw[<-e1]
  rw[e2,AcQ,Ads];have e3:(g.1 !=n)=false:=by simp[hg]
  rw[e3];simp only[AaD,if_false];rw[AbS.2,AbS.2]
  ·intro q hq;have:=h3 q hq;simp;omega
  ·intro q hq;have:=h1 q hq;simp;omega
theorem cut_pg {k:Nat}(h:aU w db s fv rs)(hG:Wv w ps)(hC:iL s)(ha:0<=s.after)(hI:fM s.room (plain rs))(hl:rs.length<=1000)(hk0:0<k)(hk:k<(aO (plain rs) n).size):
 H K 194 #[U (M ⟨db,0,O⟩),I V n,I V (k:Int)] w fun e w'=> ∃v,e=G v/\sH w w' ps db fv rs v (bJ s (plain rs) n (k:Int)):=by
 obtain⟨k0,k1,k2⟩:=JL w (C #[U (M ⟨db,0,O⟩)] 77) (C #[I V (k:Int)] 3);have hD:=h.aN k0;have lC:=hI.sort.1;have hh:=JO lC (n:=n) (by omega);obtain⟨r,hr,hn⟩:=xZ hh;have hb:=Zk lC hh hr;have YI:=hI.ok _ (Aai (jU hr))
 have HC:Hid (H K 135 #[U (M ⟨db,0,O⟩),.string ⟨#[99,117,116]⟩,I V n,.func (.func 236) #[] #[U (M ⟨w.heap.size,0,O⟩),U (M ⟨w.heap.size+1,0,O⟩)]] ((w.alloc (C #[U (M ⟨db,0,O⟩)] 77)).alloc (C #[I V (k:Int)] 3)) fun e w'=> ∃v,e=G v/\sH w w' ps db fv rs v (bJ s (plain rs) n (k:Int))):=by
  cases gK:(dI s (plain rs)).1 with
  |true=>
   have JK:=(Fh gK).1;have hz:(r.f.2.1.extract 0 k).size≠0:=by rw[Acj,<-hb];omega
   have e1:bJ s (plain rs) n (k:Int)=(true,(dI s (plain rs)).2.1,(plain rs).set (eF (plain rs) n) (r.f.1,r.f.2.1.extract 0 k,(k:Int))):=by
    unfold bJ;rw[Aaa (by omega)];simp only[gK,if_true,JK,hb,Ace];rw[yY hI.sort (f:=(n,r.f.2.1.extract 0 k,(k:Int))) hz (hI.no (by omega)),Dw lC,hh,Aad rfl,hn]
   refine(Bc (R:=fun w2=>DoD w w2 db (dI s (plain rs)).2.1 fv rs ((plain rs).set (eF (plain rs) n) (r.f.1,r.f.2.1.extract 0 k,(k:Int)))) hD lC (by omega) hh ha hC.mX e_cut1 gK (fun w1 yN Bb=>?_)).mono ?_
   ·refine(cut1_pg (k:=k) yN hr (by rw[<-hb];omega) YI.2.2 ?_ ?_).mono ?_
    ·have:=Bb.1.at k1 (fun e=>aZ k1 hD.1 (by decide) e);simp[World.cell?,this]
    ·have:=Bb.1.at k2 (fun e=>aZ k2 hD.1 (by decide) e);simp[World.cell?,this]
    ·rintro e w2 ⟨rfl,dV,dP,p1,p2,p3⟩;exact⟨rfl,dV,dP,p1,p2,((Dk.bX k0).trans (Dk.Ph Bb.1 Bb.2 (Aac rfl))).trans p3⟩
   ·rintro e w2 ⟨rfl,dV,dP,p1,p2,p3⟩;exact⟨_,rfl,dV,dP,by rw[e1];exact p1,by rw[e1];exact p2,p3,by rw[e1];exact Aac ⟨rfl,rfl⟩⟩
  |false=>
   have e1:bJ s (plain rs) n (k:Int)=dI s (plain rs):=by
    unfold bJ;rw[Aaa (by omega)];simp only[gK,AaD,if_false]
   refine(Fx hD (hG.aN k0) hC ha hI (by omega) hh gK).mono ?_;rintro e w2 ⟨v,rfl,hE,dV,dP,p1,p2,p3⟩;exact⟨v,rfl,dV,dP,by rw[e1];exact p1,by rw[e1];exact p2,(Dk.bX k0).trans p3,by rw[e1,gK];exact Aab ⟨rfl,hE⟩⟩
 clear h hG hC ha hI hl k0 k1 k2 hD lC hh hr hb YI hk;go_enter func194,ntmps194;go_wp2_with fail;refine HC.out.mono ?_;rintro e w1 ⟨v,rfl,hR⟩;obtain⟨dV,dP,p1,p2,p3,p4⟩:=hR;have hR:sH w w1 ps db fv rs v (bJ s (plain rs) n (k:Int)):=⟨dV,dP,p1,p2,p3,p4⟩;rcases p4 with⟨-,rfl⟩|⟨-,bb,nm,num,rfl,-⟩
 ·clear p1 p2 p3;go_wp2_with fail;go_ret;exact⟨_,rfl,hR⟩
 ·clear p1 p2 p3;go_wp2_with fail;go_ret;exact⟨_,rfl,hR⟩
theorem Np (h:aU w db s fv rs)(hG:Wv w ps)(hC:iL s)(ha:0<=s.after)(hI:fM s.room (plain rs))(hl:rs.length<=1000):
 H K 127 #[U (M ⟨db,0,O⟩),I V n] w fun e w'=> ∃v,e=G v/\sH w w' ps db fv rs v (bJ s (plain rs) n 0):=by
 obtain⟨k0,k1⟩:=new1c w (C #[U (M ⟨db,0,O⟩)] 77);have hD:=h.aN k0;have lC:=hI.sort.1
 have HC:Hid (H K 135 #[U (M ⟨db,0,O⟩),.string ⟨#[114,101,109,111,118,101]⟩,I V n,.func (.func 192) #[] #[U (M ⟨w.heap.size,0,O⟩)]] (w.alloc (C #[U (M ⟨db,0,O⟩)] 77)) fun e w'=> ∃v,e=G v/\sH w w' ps db fv rs v (bJ s (plain rs) n 0)):=by
  cases hh:jV (plain rs) n with
  |false=>
   have e1:bJ s (plain rs) n 0=(true,s,plain rs):=(by unfold bJ;rw[Zl lC hh];rfl);refine(Dx hD lC (by omega) hh).mono ?_;rintro e w' ⟨rfl,hg⟩;exact⟨_,rfl,fv,rs,by rw[e1];exact hD.aN hg,by rw[e1],Dk.bX (aQ k0 hg),by rw[e1];exact Aac ⟨rfl,rfl⟩⟩
  |true=>
   obtain⟨r,hr,hn⟩:=xZ hh;have hb:=Zk lC hh hr;have hnz:r.f.2.1.size≠0:=hI.sort.2 _ (Aai (jU hr));cases gK:(dI s (plain rs)).1 with
   |true=>
    have JK:=(Fh gK).1
    have e1:bJ s (plain rs) n 0=(true,(dI s (plain rs)).2.1,(plain rs).eraseIdx (eF (plain rs) n)):=by
     unfold bJ;rw[Aaa (by rw[hb];omega)];simp only[gK,if_true,JK];rw[Tg hI.sort (f:=(n,(aO (plain rs) n).extract 0 (0:Int).toNat,0)) (by simp) (hI.no (by omega)),UN lC hh]
    refine(Bc (R:=fun w2=>DoD w w2 db (dI s (plain rs)).2.1 fv rs ((plain rs).eraseIdx (eF (plain rs) n))) hD lC (by omega) hh ha hC.mX YT gK (fun w1 yN Bb=>?_)).mono ?_
    ·refine(PZ yN hr (by omega) (Bb.1.at k1 (fun e=>aZ k1 hD.1 (by decide) e))).mono ?_;rintro e w2 ⟨rfl,dV,dP,p1,p2,p3⟩;exact⟨rfl,dV,dP,p1,p2,((Dk.bX k0).trans (Dk.Ph Bb.1 Bb.2 (Aac rfl))).trans p3⟩
    ·rintro e w2 ⟨rfl,dV,dP,p1,p2,p3⟩;exact⟨_,rfl,dV,dP,by rw[e1];exact p1,by rw[e1];exact p2,p3,by rw[e1];exact Aac ⟨rfl,rfl⟩⟩
   |false=>
    have e1:bJ s (plain rs) n 0=dI s (plain rs):=by
     unfold bJ;rw[Aaa (by rw[hb];omega)];simp only[gK,AaD,if_false]
    refine(Fx hD (hG.aN k0) hC ha hI (by omega) hh gK).mono ?_;rintro e w2 ⟨v,rfl,hE,dV,dP,p1,p2,p3⟩;exact⟨v,rfl,dV,dP,by rw[e1];exact p1,by rw[e1];exact p2,(Dk.bX k0).trans p3,by rw[e1,gK];exact Aab ⟨rfl,hE⟩⟩
 clear h hG hC ha hI hl k0 k1 hD lC;go_enter func127,ntmps127;go_wp2_with fail;refine HC.out.mono ?_;rintro e w1 ⟨v,rfl,hR⟩;obtain⟨dV,dP,p1,p2,p3,p4⟩:=hR;have hR:sH w w1 ps db fv rs v (bJ s (plain rs) n 0):=⟨dV,dP,p1,p2,p3,p4⟩;rcases p4 with⟨-,rfl⟩|⟨-,bb,nm,num,rfl,-⟩
 ·clear p1 p2 p3;go_wp2_with fail;go_ret;exact⟨_,rfl,hR⟩
 ·clear p1 p2 p3;go_wp2_with fail;go_ret;exact⟨_,rfl,hR⟩
theorem YU (a:Int)(h:w.heap[db]?=M (jE s fv)):(w.setCell ⟨db,6,O⟩ (I V a)).heap[db]?=M (jE { s with one:=a } fv):=by rw[Aaj w db 6 _ _ _ h];rfl
theorem YV (a:Int)(h:w.heap[db]?=M (jE s fv)):(w.setCell ⟨db,7,O⟩ (I V a)).heap[db]?=M (jE { s with rest:=a } fv):=by rw[Aaj w db 7 _ _ _ h];rfl
theorem JQ {a:Int}(h:aU w db s fv rs):
 H K 51 #[U (M ⟨db,0,O⟩),I V a] w fun e w'=>e=G (.tuple #[])/\aU w' db { s with refusing:=true,left:=a } fv rs/\Og w w' db:=by
 obtain⟨c0,c1,c2,c3,c4,c5,c6,c7,cf⟩:=dJ h.1;have f2:=cf 2;have f3:=cf 3;have HD:Hid (aU w db s fv rs):=h;clear h cf c0 c1 c4 c5 c6 c7;go_enter func51,ntmps51;go_wp2_with fail;go_end0;have h1:=HD.out.set (Nj true HD.out.1);have h2:=h1.set (Yx a h1.1);exact⟨rfl,h2,((Og.refl w db).set).set⟩
theorem QA {a b c:Int}(h:aU w db s fv rs):
 H K 42 #[U (M ⟨db,0,O⟩),I V a,I V b,I V c] w fun e w'=>e=G (.tuple #[])/\aU w' db { s with jL:=true,after:=a,one:=b,rest:=c } fv rs/\Og w w' db:=by
 obtain⟨c0,c1,c2,c3,c4,c5,c6,c7,cf⟩:=dJ h.1;have f4:=cf 4;have f5:=cf 5;have f6:=cf 6;have f7:=cf 7;have HD:Hid (aU w db s fv rs):=h;clear h cf c0 c1 c2 c3;go_enter func42,ntmps42;go_wp2_with fail;go_end0;have h1:=HD.out.set (Yy true HD.out.1);have h2:=h1.set (Yz a h1.1);have h3:=h2.set (YU b h2.1);have h4:=h3.set (YV c h3.1);exact⟨rfl,h4,((((Og.refl w db).set).set).set).set⟩
theorem b_:H K 58 #[I V n] w fun e w'=>e=G (U (M ⟨w.heap.size,0,O⟩))/\w'=w.alloc (C #[I V n,Z O 0 0,.bool false,I V 0,.bool false,I V 0,I V 0,I V 0] 137):=by
 go_enter func58,ntmps58;go_wp2_with fail;go_ret;exact⟨rfl,rfl⟩
theorem QB (h:aU w db s fv rs)(hl:rs.length<=1000000):
 H K 126 #[U (M ⟨db,0,O⟩)] w fun e w'=> ∃v,e=G v/\iZ w' w.heap.size v ((plain rs).map (fun f=>f.1))/\aL w w':=by
 obtain⟨-,c1,-⟩:=dJ h.1;obtain⟨ao,cap,rfl,iI,hm,gL,iU⟩:=iA.form h.2.1;have HD:Hid (aU w db s (Z ao rs.length cap) rs):=h
 have HR:Hid (∀a,ao=M a->∃g,a=⟨g,0,O⟩/\∀(i:Nat) (r:FR),rs[i]?=M r->w.cell? ⟨g,i,O⟩=M r.p):=fun a e=>by
  obtain⟨g,aS,e1,-,-,-,hc⟩:=iU a e;exact⟨g,e1,hc⟩
 clear h iU;obtain⟨i0,hi,oG,nM,oP⟩:=AaW Tryz.infoInt;go_enter func126,ntmps126;go_upto_region 2 with(at_make;refine Adw _ rfl _ _ 60 rfl w.heap.size 3 i0 (I V 0) 1 underlying60 hi oG nM _ _ _ rs.length rfl rfl (by omega) (by rw[oP];omega) (by unfold maxLen;omega) (Aak _) ?_;intro w0 wZ lN);have Qk:aL w w0:=⟨lN.os,lN.tape,lN.output,lN.size,fun k hk=>lN.block k hk (by simp)⟩;have c1':=Qk.cell c1;have HO0:Hid (iZ w0 w.heap.size (Z (M ⟨w.heap.size,0,O⟩) 0 rs.length) []):=wZ;have UO:Hid (aL w w0):=Qk;clear wZ lN Qk c1;go_wp2_with fail
 go_loopw [3,5,17] (fun v _ i wr=> ∃k:Nat,k<=rs.length/\i=I V (k:Int)/\Hid (iZ wr w.heap.size v (((plain rs).take k).map (fun f=>f.1)))/\Hid (aL w wr)) (fun _ _ i _=>rs.length-(intOf i).toNat)
 case atStart=>exact⟨0,Aap _,rfl,by simpa using HO0,UO⟩
 case round=>
  obtain⟨k,hk,rfl,HO,HG⟩:=hrel;by_cases bP:k<rs.length
  ·obtain⟨r,hr⟩:∃r,rs[k]?=M r:=⟨_,Aag bP⟩;cases ao with
   |none=>obtain⟨rfl,-⟩:=gL rfl;simp at bP
   |some a=>
    obtain⟨g,rfl,hc⟩:=HR.out a rfl;have d1:=HG.out.cell (hc k r hr);unfold FR.p at d1;have d2:=HG.out.cell (HD.out.row r (Aai hr));have i1:(0:Int)<=(k:Int):=(by omega);have i2:(k:Int)<(rs.length:Int):=by omega
    have HN:Hid (((plain rs).take (k+1)).map (fun f=>f.1)=((plain rs).take k).map (fun f=>f.1)++ [r.f.1]):=by
     show _=_;have hp:=jU hr;obtain⟨Rh,he⟩:=Aae.1 hp;rw[Aau Rh,Abb,he];rfl
    obtain⟨nI,kX,ev,-⟩:=iZ.form HO.out;subst ev;have HOW:Hid (wr.heap.size<=wr.heap.size):=Aak _;have hws:w.heap.size<=wr.heap.size:=HG.out.size;have Ow:(((plain rs).take k).map (fun f=>f.1)).length<=1000000:=by simp[plain];omega
    have uP:Ya (wr.alloc (C #[I V r.f.1] 3)) (M ⟨wr.heap.size,0,O⟩) [r.f.1]:=Aab ⟨wr.heap.size,0,rfl,fun i hi=>by
     have:i=0:=(by simp at hi;omega);subst this;simp⟩
    clear hr hc;go_wp2_with (at_builtin;go_must (refine wJ (by rfl) (.tmp 21) (.tmp 26) (by rfl) w.heap.size _ (((plain rs).take k).map (fun f=>f.1)) [r.f.1] (by rfl) (by exact Aay HO.out _) _ _ _ (by rfl) (by rfl) (by intro e;cases e) (by exact uP) (by simp only[Abg];omega) (by simp;omega) ?_);intro v5 w5 dK eO);have hlt5:∀g,v5.ownBlock=M g->True:=fun _ _=>trivial
    have sP:aL w w5:=by
     have h1:=lM eO;refine⟨h1.os.trans HG.out.os,h1.tape.trans HG.out.tape,h1.output.trans HG.out.output,Aam HG.out.size h1.size,fun k hk=>?_⟩;rw[<-HG.out.block k hk];refine h1.block k (AaC hk HG.out.size) (fun e=>?_);have:=(AaA HO.out k e.symm).1;omega
    go_roundw
    case rel=>exact⟨k+1,by omega,by go_num,by show iZ _ _ _ _;rw[HN.out];exact dK,sP⟩
    case measure=>simp[intOf];omega
  ·obtain⟨nI,kX,ev,-⟩:=iZ.form HO.out;subst ev;have e1:(plain rs).take k=plain rs:=Aaq (by rw[bN];omega);go_wp2_with fail;go_ret;refine⟨_,rfl,?_,HG.out⟩;have:=HO.out;rw[e1]at this
   first|exact this|(rw[e1];exact this)
theorem del_row (h:aU w db s (Z (M ⟨g,0,O⟩) rs.length cap) rs)(bP:lo<rs.length)(hl:rs.length<=1000000):
 H K 193 #[Z (M ⟨g,0,O⟩) rs.length cap,I V (lo:Int),I V ((lo:Int)+1)] w fun e w'=> ∃c5,e=G (Z (M ⟨g,0,O⟩) (rs.eraseIdx lo).length c5)/\Og w w' g/\w'.heap[db]?=M (jE s (Z (M ⟨g,0,O⟩) rs.length cap))/\
  aU (w'.setCell ⟨db,1,O⟩ (Z (M ⟨g,0,O⟩) (rs.eraseIdx lo).length c5)) db s (Z (M ⟨g,0,O⟩) (rs.eraseIdx lo).length c5) (rs.eraseIdx lo):=by
 refine(Zc h.2.1 bP hl).mono ?_;rintro e w' ⟨v',g',rfl,iU,uN,a_,jY⟩;simp[Value.ownBlock]at uN;subst uN;obtain⟨Vw,xQ,e5,-,-,-,hro5⟩:=iA.form iU;subst e5;cases Vw with
 |none=>simp[Value.ownBlock]at a_
 |some a5=>
  obtain⟨g6,cur6,rfl,-⟩:=hro5 a5 rfl;simp[Value.ownBlock]at a_;subst a_;obtain⟨cg,Zj⟩:=jK h.2.1 (g:=g6) rfl;have Kv:w'.heap[db]?=M (jE s (Z (M ⟨g6,0,O⟩) rs.length cap)):=jY.1.at h.1 (fun e=>aZ h.1 Zj (by decide) e);obtain⟨p1,p2⟩:=h.setRow (dV:=Z (M ⟨g6,0,O⟩) (rs.eraseIdx lo).length xQ) (jY.1.mono fun b e=>by rw[e];rfl) jY.2 iU rfl (AcT rs lo) rfl;exact⟨xQ,rfl,jY,Kv,p1⟩
theorem tY (h:rs.Pairwise mW)(hr:rs[lo]?=M r):∀q∈rs.eraseIdx lo,mW q r:=by
 intro q hq;obtain⟨bP,Kc⟩:=Aae.1 hr;rw[nY]at hq;rcases Aba.1 hq with hq|hq
 ·obtain⟨i,hi,rfl⟩:=Abh hq;have hi2:i<lo:=by simp at hi;omega
  rw[AdH];exact Kw h (Aag (by omega)) hr (by omega)
 ·obtain⟨i,hi,rfl⟩:=Abh hq;have hi2:lo+1+i<rs.length:=by simp at hi;omega
  rw[AdI];exact Kw h (Aag hi2) hr (by omega)
theorem aU.swap {w':F}(h:aU w db s (Z (M ⟨g,0,O⟩) rs.length cap) rs)(hr:gP w r)(Cr:∀q∈rs,mW q r)(hw:w'=w.setCell ⟨g,j,O⟩ r.p):
 aU w' db s (Z (M ⟨g,0,O⟩) rs.length cap) (rs.set j r)/\Fr w w' (fun b=>b=g):=by
 obtain⟨h1,h2,h3,h4⟩:=h;obtain⟨aS,Zj⟩:=jK h2 (g:=g) rfl;have hF:Fr w w' (fun b=>b=g):=by rw[hw];exact Fr.set w ⟨g,j,O⟩ r.p
 have Ho:∀q,gP w q->gP w' q:=fun q hf=>hf.fr hF (fun hx=>aZ hf.1 Zj (by decide) hx) (fun k hk hx=>by
  obtain⟨c,Rf,hc⟩:=bI.ty hf.2 hk;exact aZ hc Zj (by decide) hx)
 refine⟨⟨hF.at h1 (fun e=>aZ h1 Zj (by decide) e),?_,fun q hq=>?_,?_⟩,hF⟩
 ·obtain⟨ao,nH,e,iI,hm,-,iU⟩:=iA.form h2;cases e
  obtain⟨g',qN,e,hg,hcs,Vv,-⟩:=iU _ rfl;cases e
  refine⟨by simp,Aab ⟨g,cap,qN.setIfInBounds j r.p,by rw[Acg],Aap _,by rw[hw];exact Aaj w g j qN _ _ hg,by rw[Acg];exact iI,hm,by simpa using hcs,?_⟩⟩;have e0:(qN.setIfInBounds j r.p).toList=qN.toList.set j r.p:=by simp
  rw[e0,Acg,Adp,List.take_set,Vv,Adx]
 ·rcases Ade hq with hq|rfl
  ·exact Ho q (h3 q hq)
  ·exact Ho q hr
 ·rw[AaL];intro i k hi hk Sr;have Qv:i<rs.length:=by simpa using hi
  have hk':k<rs.length:=by simpa using hk
  rw[Abw,Abw];by_cases hij:j=i
  ·rw[Aad hij,Aaa (by omega)];exact(Cr _ (Abx hk')).symm
  ·rw[Aaa hij];by_cases hkj:j=k
   ·rw[Aad hkj];exact Cr _ (Abx Qv)
   ·rw[Aaa hkj];exact AaL.1 h4 i k Qv hk' Sr
def lD (s:Sc)(fs:List bC)(n t2:Int):Bool×Sc×List bC:=match fQ fs n with
 |none=>(true,s,fs)
 |some f=>let r:=dI s fs;if r.1 then (true,r.2.1,iO (iT fs n) (t2,f.2.1,f.2.2))else r
def MvD (w w':F)(db:Nat)(s:Sc)(fv:Y)(rs:List FR)(lo:Nat)(r:FR)(t2:Int):Prop:=∃dV dP,aU w' db s dV dP/\plain dP=iO (plain (rs.eraseIdx lo)) (t2,r.f.2.1,r.f.2.2)/\Dk w w' (DX db fv rs) (DX db dV dP)
theorem Pp (rs:List FR)(lo:Nat):plain (rs.eraseIdx lo)=(plain rs).eraseIdx lo:=by
 unfold plain;rw[nY,nY,Abb,AbB,List.map_drop]
theorem Bd (hs:(plain rs).Pairwise (fun a b=>a.1<b.1))(lo:Nat):(plain (rs.eraseIdx lo)).Pairwise (fun a b=>a.1<b.1):=by
 rw[Pp];exact hs.sublist (AcT _ _)
def d_ (w w3:F)(db g cap c5 bx b2:Nat)(s:Sc)(rs:List FR)(lo:Nat)(r:FR)(t2:Int):Prop:=
 aU w3 db s (Z (M ⟨g,0,O⟩) (rs.eraseIdx lo).length c5) (rs.eraseIdx lo)/\gP w3 (r.b,r.v,(t2,r.f.2.1,r.f.2.2))/\Fr w w3 (DX db (Z (M ⟨g,0,O⟩) rs.length cap) rs)/\(w3.os=w.os/\w3.tape=w.tape/\w3.output=w.output)/\
 w3.heap[bx]?=M (C #[U (M ⟨db,0,O⟩)] 77 (0,0))/\w3.heap[b2]?=M (C #[I V t2] 3 (0,0))
theorem mv_at {w1:F}(h:aU w db s (Z (M ⟨g,0,O⟩) rs.length cap) rs)(hr:rs[lo]?=M r)(c0:w.heap[bx]?=M (C #[U (M ⟨db,0,O⟩)] 77 (0,0)))(c2:w.heap[b2]?=M (C #[I V t2] 3 (0,0)))
 {W:F}(hW:aL w W)(jY:Og W w1 g)(Kv:w1.heap[db]?=M (jE s (Z (M ⟨g,0,O⟩) rs.length cap)))(hD:aU (w1.setCell ⟨db,1,O⟩ (Z (M ⟨g,0,O⟩) (rs.eraseIdx lo).length c5)) db s (Z (M ⟨g,0,O⟩) (rs.eraseIdx lo).length c5) (rs.eraseIdx lo)):
 d_ w ((w1.setCell ⟨db,1,O⟩ (Z (M ⟨g,0,O⟩) (rs.eraseIdx lo).length c5)).setCell ⟨r.b,0,O⟩ (I V t2)) db g cap c5 bx b2 s rs lo r t2:=by
 obtain⟨cg,Zj⟩:=jK h.2.1 (g:=g) rfl;have hf:=h.2.2.1 r (Aai hr);have hfW:gP W r:=⟨(hW.block _ (aM hf.1)).trans hf.1,hf.2.aN hW⟩;have hcgW:W.heap[g]?=M (C cg 155 (0,0)):=(hW.block _ (aM Zj)).trans Zj
 have Gx:gP w1 r:=hfW.fr jY.1 (fun e=>aZ hfW.1 hcgW (by decide) e) (fun k hk e=>by
  obtain⟨c,Rf,hc⟩:=bI.ty hfW.2 hk;exact aZ hc hcgW (by decide) e)
 have F1:=Fr.set w1 ⟨db,1,O⟩ (Z (M ⟨g,0,O⟩) (rs.eraseIdx lo).length c5)
 have Ii:=Gx.fr F1 (fun e=>aZ Gx.1 Kv (by decide) e) (fun k hk e=>by
  obtain⟨c,Rf,hc⟩:=bI.ty Gx.2 hk;exact aZ hc Kv (by decide) e)
 have F2:=Fr.set (w1.setCell ⟨db,1,O⟩ (Z (M ⟨g,0,O⟩) (rs.eraseIdx lo).length c5)) ⟨r.b,0,O⟩ (I V t2);have Cr:=tY h.2.2.2 hr
 have Ri:∀(k:Nat) (aS:Array Y) (t:TypeId),w.heap[k]?=M (Obj.cells aS t (0,0))->t≠137->t≠155->t≠157->((w1.setCell ⟨db,1,O⟩ (Z (M ⟨g,0,O⟩) (rs.eraseIdx lo).length c5)).setCell ⟨r.b,0,O⟩ (I V t2)).heap[k]?=M (Obj.cells aS t (0,0)):=fun k aS t hk h1 h2 h3=>by
  have k1:W.heap[k]?=M (Obj.cells aS t (0,0)):=(hW.block _ (aM hk)).trans hk;have k2:=jY.1.at k1 (fun e=>aZ k1 hcgW h2 e);have k3:=F1.at k2 (fun e=>aZ k2 Kv h1 e);exact F2.at k3 (fun e=>aZ k3 Ii.1 h3 e)
 refine⟨?_,?_,?_,?_,Ri _ _ _ c0 (by decide) (by decide) (by decide),Ri _ _ _ c2 (by decide) (by decide) (by decide)⟩
 ·refine hD.fr F2 (fun b hb e=>?_);rcases hb with hb|hb|⟨q,hq,hb|hb⟩
  ·exact aZ Ii.1 hD.1 (by decide) (e.symm.trans hb)
  ·obtain⟨c,hc⟩:=jK hD.2.1 hb;exact aZ hc Ii.1 (by decide) e
  ·exact(Cr q hq).1 (hb.symm.trans e)
  ·obtain⟨c,Rf,hc⟩:=bI.ty (hD.2.2.1 q hq).2 hb;exact aZ hc Ii.1 (by decide) e
 ·refine⟨?_,Ii.2.fr F2 (fun k hk e=>?_)⟩
  ·show _=M (tK (r.b,r.v,(t2,r.f.2.1,r.f.2.2)));have:=Aaj (w1.setCell ⟨db,1,O⟩ (Z (M ⟨g,0,O⟩) (rs.eraseIdx lo).length c5)) r.b 0 _ _ (I V t2) Ii.1;exact this
  ·obtain⟨c,Rf,hc⟩:=bI.ty Ii.2 hk;exact aZ hc Ii.1 (by decide) e
 ·have hF:Fr w w1 (DX db (Z (M ⟨g,0,O⟩) rs.length cap) rs):=(Fr.cZ hW _).trans (jY.1.mono fun b e=>Aab (Aac (by rw[e];rfl)));exact(hF.trans (F1.mono fun b e=>Aac e)).trans (F2.mono fun b e=>Aab (Aab ⟨r,Aai hr,Aac e⟩))
 ·exact⟨jY.2.1.trans hW.os,jY.2.2.1.trans hW.tape,jY.2.2.2.trans hW.output⟩
theorem f_ {b:Nat}(h:DX db (Z (M ⟨g,0,O⟩) (rs.eraseIdx lo).length c5) (rs.eraseIdx lo) b):DX db (Z (M ⟨g,0,O⟩) rs.length cap) rs b:=by
 rcases h with h|h|⟨q,hq,h⟩
 ·exact Aac h
 ·exact Aab (Aac h)
 ·exact Aab (Aab ⟨q,(AcT rs lo).subset hq,h⟩)
theorem g_ {w3:F}(hr:rs[lo]?=M r)(hp:rs.Pairwise mW)(hm:d_ w w3 db g cap c5 bx b2 s rs lo r t2)(hs:(plain rs).Pairwise (fun a b=>a.1<b.1))(hh:jV (plain (rs.eraseIdx lo)) t2=true)(hj:j=eF (plain (rs.eraseIdx lo)) t2):
 MvD w (w3.setCell ⟨g,j,O⟩ (U (M ⟨r.b,0,O⟩))) db s (Z (M ⟨g,0,O⟩) rs.length cap) rs lo r t2:=by
 obtain⟨m1,m2,m3,m4,-⟩:=hm;have Cr:∀q∈rs.eraseIdx lo,mW q (r.b,r.v,(t2,r.f.2.1,r.f.2.2)):=fun q hq=>⟨(tY hp hr q hq).1,(tY hp hr q hq).2⟩;obtain⟨p1,p2⟩:=m1.swap (j:=j) (r:=(r.b,r.v,(t2,r.f.2.1,r.f.2.2))) m2 Cr rfl;refine⟨_,_,p1,?_,m3.trans (p2.mono fun b e=>Aab (Aac (by rw[e];rfl))),m4,fun b hb=>?_⟩
 ·rw[Fw,Dw (Bd hs lo),hh,Aad rfl,hj];rfl
 ·rcases hb with hb|hb|⟨q,hq,hb⟩
  ·exact Aac (Aac hb)
  ·exact Aac (Aab (Aac hb))
  ·rcases Ade hq with hq|rfl
   ·exact Aac (f_ (c5:=c5) (Aab (Aab ⟨q,hq,hb⟩)))
   ·exact Aac (Aab (Aab ⟨r,Aai hr,hb⟩))
theorem mv_new {w3 W w5:F}{v5:Y}(hr:rs[lo]?=M r)(hp:rs.Pairwise mW)(hm:d_ w w3 db g cap c5 bx b2 s rs lo r t2)(hs:(plain rs).Pairwise (fun a b=>a.1<b.1))(hh:jV (plain (rs.eraseIdx lo)) t2=false)(hj:j=eF (plain (rs.eraseIdx lo)) t2)
 (hW:aL w3 W)(Gr:lJ W w5 (Z (M ⟨g,0,O⟩) (rs.eraseIdx lo).length c5) v5 (rs.eraseIdx lo) j (r.b,r.v,(t2,r.f.2.1,r.f.2.2))):
 MvD w (w5.setCell ⟨db,1,O⟩ v5) db s (Z (M ⟨g,0,O⟩) rs.length cap) rs lo r t2:=by
 obtain⟨m1,m2,m3,m4,-⟩:=hm;have Cr:∀q∈rs.eraseIdx lo,mW q (r.b,r.v,(t2,r.f.2.1,r.f.2.2)):=fun q hq=>⟨(tY hp hr q hq).1,(tY hp hr q hq).2⟩;obtain⟨p1,p2⟩:=(m1.aN hW).UH Gr ⟨(hW.block _ (aM m2.1)).trans m2.1,m2.2.aN hW⟩ Cr rfl
 have YF:∀b,(DX db (Z (M ⟨g,0,O⟩) (rs.eraseIdx lo).length c5) (rs.eraseIdx lo) b\/b=FR.b (r.b,r.v,(t2,r.f.2.1,r.f.2.2))\/(FR.v (r.b,r.v,(t2,r.f.2.1,r.f.2.2))).ownBlock=M b)->DX db (Z (M ⟨g,0,O⟩) rs.length cap) rs b:=fun b hb=>by
  rcases hb with hb|hb
  ·exact f_ hb
  ·exact Aab (Aab ⟨r,Aai hr,hb⟩)
 refine⟨_,_,p1,?_,(m3.trans (Fr.cZ hW _)).trans (p2.1.mono YF),⟨p2.2.1.1.trans (hW.os.trans m4.1),p2.2.1.2.1.trans (hW.tape.trans m4.2.1),p2.2.1.2.2.trans (hW.output.trans m4.2.2)⟩,fun b hb=>?_⟩
 ·rw[Dw (Bd hs lo),hh,Aaa (by simp),<-hj];simp[plain,FR.f]
 ·rcases p2.2.2 b hb with h|h
  ·exact Aac (YF b h)
  ·exact Aab (Aam (Aam m3.1 hW.size) h)
end Go.Proofs.YtfplgfodoiiobaaGreatDoor
