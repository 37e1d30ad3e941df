/- PgV, PgW, PgX, PgY, DrA (joined). -/
import Derived.Test.YtfplgfodoiiobaaGreatDoorD18
open Option renaming none→O,some→M
open Go.Value renaming int→I,slice→Z,pointer→U
open Go.IntKind renaming i64→V
open Go.Obj renaming cells→C
open Go.Ending renaming returned→G
open Go renaming World→F,Value→Y,Calls→H
open Go.Proofs.Tryz renaming prog→K
open Go.Proofs.Tryz
namespace Go.Proofs.YtfplgfodoiiobaaGreatDoor
set_option maxHeartbeats 4000000
set_option maxRecDepth 100000
open Go.RowKit
variable {w w':F}{ao:Option Addr}{l:List Ed}{x:bS}{cap:Nat}
theorem e_move1:∀(args:Array Y) (w:F),(callFunc 216 args).run K w= .ok (.enter 216 args) w:=enters_of func216 (by kernel_rfl) rfl
theorem new1G (w:F)(o:Obj):aL w (w.alloc o).drew:=aL.drew (aL.alloc (aL.refl w) _)
theorem new1a (w:F)(o:Obj):(w.alloc o).drew.heap[w.heap.size]?=M o:=Aaf w o
theorem h_ {db bx b2 lo:Nat}{s:Sc}{fv:Y}{rs:List FR}{r:FR}{t2:Int}(h:aU w db s fv rs)(hs:(plain rs).Pairwise (fun a b=>a.1<b.1))(hr:rs[lo]?=M r)(hl:rs.length<=1000000)(c0:w.heap[bx]?=M (C #[U (M ⟨db,0,O⟩)] 77 (0,0)))(c2:w.heap[b2]?=M (C #[I V t2] 3 (0,0))):
 H K 216 #[I V (lo:Int),U (M ⟨bx,0,O⟩),U (M ⟨b2,0,O⟩)] w fun e w'=>e=G (.tuple #[])/\MvD w w' db s fv rs lo r t2:=by
 obtain⟨g,cap,rfl,c1,c1f,cr,bP,hf⟩:=h.at hr;have HP:Hid (rs.Pairwise mW):=h.2.2.2;have HR:Hid (rs[lo]?=M r):=hr;have HS:Hid ((plain rs).Pairwise (fun a b=>a.1<b.1)):=hs;have j_:(rs.eraseIdx lo).length<=1000000:=by rw[AcW];split<;>omega
 have HC:Hid (∀W,aL w W->H K 193 #[Z (M ⟨g,0,O⟩) rs.length cap,I V (lo:Int),I V ((lo:Int)+1)] W fun e w'=> ∃(c5 n5:Nat),e=G (Z (M ⟨g,0,O⟩) n5 c5)/\Hid (n5=(rs.eraseIdx lo).length)/\w'.cell? ⟨bx,0,O⟩=M (U (M ⟨db,0,O⟩))/\w'.cell? ⟨db,1,O⟩=M (Z (M ⟨g,0,O⟩) rs.length cap)/\w'.frozen? ⟨db,1,O⟩=false/\Hid (d_ w ((w'.setCell ⟨db,1,O⟩ (Z (M ⟨g,0,O⟩) n5 c5)).setCell ⟨r.b,0,O⟩ (I V t2)) db g cap c5 bx b2 s rs lo r t2)
  /\Hid ((w'.setCell ⟨db,1,O⟩ (Z (M ⟨g,0,O⟩) n5 c5)).heap[r.b]?=M (tK r)/\(w'.setCell ⟨db,1,O⟩ (Z (M ⟨g,0,O⟩) n5 c5)).heap[b2]?=M (C #[I V t2] 3 (0,0)))):=fun W hW=>by
  refine(del_row (h.aN hW) bP hl).mono ?_;rintro e w' ⟨c5,rfl,jY,Kv,hD⟩;obtain⟨cg,Zj⟩:=jK (h.aN hW).2.1 (g:=g) rfl;obtain⟨-,m1,-,-,-,-,-,-,mf⟩:=dJ Kv;have F1:=Fr.set w' ⟨db,1,O⟩ (Z (M ⟨g,0,O⟩) (rs.eraseIdx lo).length c5)
  have Ri:∀(k:Nat) (aS:Array Y) (t:TypeId),w.heap[k]?=M (Obj.cells aS t (0,0))->t≠137->t≠155->w'.heap[k]?=M (Obj.cells aS t (0,0)):=fun k aS t hk h1 h2=>by
   have k1:W.heap[k]?=M (Obj.cells aS t (0,0)):=(hW.block _ (aM hk)).trans hk;exact jY.1.at k1 (fun e=>aZ k1 Zj h2 e)
  have qZ:=Ri _ _ _ c0 (by decide) (by decide);have fV:=Ri _ _ _ c2 (by decide) (by decide);have FB:=Ri _ _ _ hf.1 (by decide) (by decide);exact⟨c5,_,rfl,rfl,by simp[World.cell?,qZ],m1,mf 1,mv_at h hr c0 c2 hW jY Kv hD,F1.at FB (fun e=>aZ FB Kv (by decide) e),F1.at fV (fun e=>aZ fV Kv (by decide) e)⟩
 have c0':w.cell? ⟨bx,0,O⟩=M (U (M ⟨db,0,O⟩)):=by simp[World.cell?,c0]
 have iY:IntKind.i64.wrap ((lo:Int)+1)=(lo:Int)+1:=by rw[AaE];omega
 have i1:(0:Int)<=(lo:Int):=by omega
 have i2:(lo:Int)<(rs.length:Int):=by omega
 clear h hr hs hf c0 c2;go_enter func216,ntmps216;go_upto_region 1 with fail
 go_cut [14] (fun _ wc=> ∃(w5:F) (c5 n5:Nat),wc=w5.setCell ⟨db,1,O⟩ (Z (M ⟨g,0,O⟩) n5 c5)/\Hid (n5=(rs.eraseIdx lo).length)/\Hid (d_ w ((w5.setCell ⟨db,1,O⟩ (Z (M ⟨g,0,O⟩) n5 c5)).setCell ⟨r.b,0,O⟩ (I V t2)) db g cap c5 bx b2 s rs lo r t2)/\Hid ((w5.setCell ⟨db,1,O⟩ (Z (M ⟨g,0,O⟩) n5 c5)).heap[r.b]?=M (tK r)/\(w5.setCell ⟨db,1,O⟩ (Z (M ⟨g,0,O⟩) n5 c5)).heap[b2]?=M (C #[I V t2] 3 (0,0))))
 case first=>
  go_region_law ((refine cB (by rfl) 193 _ _ (by rfl) _ (by simp[Act.eval];done) JN ((HC.out _ (by repeat (first|exact aL.refl _|refine aL.drew ?_))).mono ?_);rintro e w5 ⟨c5,n5,rfl,Kh,y0,y1,y2,Wx,FB⟩;refine⟨_,rfl,?_⟩))
  all_goals go_wp2_with fail
  all_goals go_meet
  all_goals exact⟨w5,c5,n5,rfl,Kh,Wx,FB⟩
 case rest=>
  obtain⟨w5,c5,n5,rfl,Kh,Wx,FB⟩:=hcut;obtain⟨w6,h6⟩:∃w6,w6=w5.setCell ⟨db,1,O⟩ (Z (M ⟨g,0,O⟩) n5 c5):=⟨_,rfl⟩;rw[<-h6]at Wx FB ⊢;obtain⟨q1,q2⟩:=FB.out;obtain⟨x0,-,-,xf⟩:=gQ q1;have xf0:=xf 0;have x2:w6.cell? ⟨b2,0,O⟩=M (I V t2):=by simp[World.cell?,q2]
  clear h6 q1 q2 xf FB c1 c1f cr c0';go_upto_region 3 with fail;obtain⟨w7,h7⟩:∃w7,w7=w6.setCell ⟨r.b,0,O⟩ (I V t2):=⟨_,rfl⟩;rw[<-h7]at Wx ⊢;clear h7 x0 xf0 x2;have hM:=Wx.out;have hF:=Ao (n:=t2) hM.1 (Bd HS.out lo) j_;have y0:w7.cell? ⟨bx,0,O⟩=M (U (M ⟨db,0,O⟩)):=by have:=hM.2.2.2.2.1;simp[World.cell?,this]
  have y2:w7.cell? ⟨b2,0,O⟩=M (I V t2):=by have:=hM.2.2.2.2.2;simp[World.cell?,this]
  cases hh:jV (plain (rs.eraseIdx lo)) t2 with
  |true=>
   rw[hh]at hF;obtain⟨q,hq,-⟩:=xZ hh;obtain⟨g',nH,e',d1,d1f,d2,hjl,-⟩:=hM.1.at hq;cases e'
   obtain⟨cg,Zj⟩:=jK hM.1.2.1 (g:=g) rfl;have d2f:=(iG Zj (eF (plain (rs.eraseIdx lo)) t2)).2;have ze:Hid (MvD w (w7.setCell ⟨g,eF (plain (rs.eraseIdx lo)) t2,O⟩ (U (M ⟨r.b,0,O⟩))) db s (Z (M ⟨g,0,O⟩) rs.length cap) rs lo r t2):=g_ HR.out HP.out hM HS.out hh rfl;clear hM Wx hq Zj hh;rw[<-Kh.out]at d1 hjl;generalize eF (plain (rs.eraseIdx lo)) t2=j at hF d2 d2f hjl ze;have i3:(0:Int)<=(j:Int):=(by omega);have i4:(j:Int)<(n5:Int):=(by omega);go_wp2_with (go_at_call 177;refine hF.mono ?_;rintro e w8 ⟨rfl,rfl⟩);refine Aan (results_none rfl _ _ _) rfl ?_;exact⟨rfl,ze.out⟩
  |false=>
   rw[hh]at hF;obtain⟨-,d1,-,-,-,-,-,-,df⟩:=dJ hM.1.1;have df1:=df 1;have hle:eF (plain (rs.eraseIdx lo)) t2<=(rs.eraseIdx lo).length:=(by have:=Kq (plain (rs.eraseIdx lo)) t2;rwa[bN]at this);obtain⟨cg,Zj⟩:=jK hM.1.2.1 (g:=g) rfl;have oH:=aM Zj
   have HI:Hid (∀W:F,aL w7 W->W.heap[w7.heap.size]?=M (C #[U (M ⟨r.b,0,O⟩)] 155 (0,0))->
    H K 213 #[Z (M ⟨g,0,O⟩) n5 c5,I V (eF (plain (rs.eraseIdx lo)) t2:Nat),Z (M ⟨w7.heap.size,0,O⟩) 1 1] W fun e w'=> ∃(a9:Option Addr) (m9 c9:Nat),e=G (Z a9 m9 c9)/\w'.cell? ⟨bx,0,O⟩=M (U (M ⟨db,0,O⟩))/\w'.cell? ⟨db,1,O⟩=M (Z (M ⟨g,0,O⟩) n5 c5)/\w'.frozen? ⟨db,1,O⟩=false/\MvD w (w'.setCell ⟨db,1,O⟩ (Z a9 m9 c9)) db s (Z (M ⟨g,0,O⟩) rs.length cap) rs lo r t2):=fun W hW h2=>by
    rw[Kh.out];refine(Ze (r:=(r.b,r.v,(t2,r.f.2.1,r.f.2.2))) (hM.1.aN hW).2.1 hle h2 (fun e=>by simp[Value.ownBlock]at e;omega) j_).mono ?_;rintro e w' ⟨v',rfl,Gr⟩;obtain⟨a9,c9,ev,-⟩:=iA.form Gr.1;have Au:=mv_new HR.out HP.out hM HS.out hh rfl hW Gr;subst ev
    have Ri:∀(k:Nat) (aS:Array Y) (t:TypeId),w7.heap[k]?=M (Obj.cells aS t (0,0))->t≠155->w'.heap[k]?=M (Obj.cells aS t (0,0)):=fun k aS t hk h2=>
     mO Gr.2.1 ((hW.block _ (aM hk)).trans hk) (fun e=>by
      simp[Value.ownBlock]at e;subst e;exact aZ hk Zj h2 rfl)
    have qZ:=Ri _ _ _ hM.2.2.2.2.1 (by decide);obtain⟨-,z1,-,-,-,-,-,-,zf⟩:=dJ (Ri _ _ _ hM.1.1 (by decide));exact⟨a9,_,c9,rfl,by simp[World.cell?,qZ],z1,zf 1,Au⟩
   rw[<-Kh.out]at d1;clear hM Wx Zj hh df hle oH;generalize eF (plain (rs.eraseIdx lo)) t2=j at hF HI;have a0:∀o,(w7.alloc o).cell? ⟨bx,0,O⟩=M (U (M ⟨db,0,O⟩)):=fun o=>AaB (aP _ _) y0
   have a1:∀o,(w7.alloc o).cell? ⟨db,1,O⟩=M (Z (M ⟨g,0,O⟩) n5 c5):=fun o=>AaB (aP _ _) d1;go_wp2_with (go_at_call 177;refine hF.mono ?_;rintro e w8 ⟨rfl,rfl⟩)
   go_region_law ((refine cB (by rfl) 213 _ _ (by rfl) _ (by simp[Act.eval];done) JH ((HI.out _ (new1G _ _) (new1a _ _)).mono ?_);rintro e w9 ⟨a9,m9,c9,rfl,z0,z1,z2,Au⟩;refine⟨_,rfl,?_⟩))
   all_goals go_wp2_with fail
   all_goals go_end0
   all_goals exact⟨rfl,Au⟩
theorem move_pg {ps:Nat->Addr}{db:Nat}{s:Sc}{fv:Y}{rs:List FR}{n t2:Int}(h:aU w db s fv rs)(hG:Wv w ps)(hC:iL s)(ha:0<=s.after)(hI:fM s.room (plain rs))(hl:rs.length<=1000):
 H K 142 #[U (M ⟨db,0,O⟩),I V n,I V t2] w fun e w'=> ∃v,e=G v/\sH w w' ps db fv rs v (lD s (plain rs) n t2):=by
 obtain⟨k0,k1,k2⟩:=JL w (C #[U (M ⟨db,0,O⟩)] 77) (C #[I V t2] 3);have hD:=h.aN k0;have lC:=hI.sort.1;have hfl:=Nl lC n
 have HC:Hid (H K 135 #[U (M ⟨db,0,O⟩),.string ⟨#[109,111,118,101]⟩,I V n,.func (.func 216) #[] #[U (M ⟨w.heap.size,0,O⟩),U (M ⟨w.heap.size+1,0,O⟩)]] ((w.alloc (C #[U (M ⟨db,0,O⟩)] 77)).alloc (C #[I V t2] 3)) fun e w'=> ∃v,e=G v/\sH w w' ps db fv rs v (lD s (plain rs) n t2)):=by
  cases hh:jV (plain rs) n with
  |false=>
   have e1:lD s (plain rs) n t2=(true,s,plain rs):=(by unfold lD;rw[hfl,hh];rfl);refine(Dx hD lC (by omega) hh).mono ?_;rintro e w' ⟨rfl,hg⟩;exact⟨_,rfl,fv,rs,by rw[e1];exact hD.aN hg,by rw[e1],Dk.bX (aQ k0 hg),by rw[e1];exact Aac ⟨rfl,rfl⟩⟩
  |true=>
   obtain⟨r,hr,hn⟩:=xZ hh;rw[hh,Aad rfl,hr]at hfl;have hfl':fQ (plain rs) n=M r.f:=hfl;cases gK:(dI s (plain rs)).1 with
   |true=>
    have e1:lD s (plain rs) n t2=(true,(dI s (plain rs)).2.1,iO (plain (rs.eraseIdx (eF (plain rs) n))) (t2,r.f.2.1,r.f.2.2)):=by
     unfold lD;rw[hfl',Pp,<-UN lC hh];simp only[gK,if_true]
    refine(Bc (R:=fun w2=> ∃dV dP,aU w2 db (dI s (plain rs)).2.1 dV dP/\plain dP=iO (plain (rs.eraseIdx (eF (plain rs) n))) (t2,r.f.2.1,r.f.2.2)/\Dk w w2 (DX db fv rs) (DX db dV dP)) hD lC (by omega) hh ha hC.mX e_move1 gK (fun w1 yN Bb=>?_)).mono ?_
    ·refine(h_ (t2:=t2) yN lC hr (by omega) (Bb.1.at k1 (fun e=>aZ k1 hD.1 (by decide) e)) (Bb.1.at k2 (fun e=>aZ k2 hD.1 (by decide) e))).mono ?_;rintro e w2 ⟨rfl,dV,dP,p1,p2,p3⟩;exact⟨rfl,dV,dP,p1,p2,((Dk.bX k0).trans (Dk.Ph Bb.1 Bb.2 (Aac rfl))).trans p3⟩
    ·rintro e w2 ⟨rfl,dV,dP,p1,p2,p3⟩;exact⟨_,rfl,dV,dP,by rw[e1];exact p1,by rw[e1];exact p2,p3,by rw[e1];exact Aac ⟨rfl,rfl⟩⟩
   |false=>
    have e1:lD s (plain rs) n t2=dI s (plain rs):=by
     unfold lD;rw[hfl'];simp only[gK,AaD,if_false]
    refine(Fx hD (hG.aN k0) hC ha hI (by omega) hh gK).mono ?_;rintro e w2 ⟨v,rfl,hE,dV,dP,p1,p2,p3⟩;exact⟨v,rfl,dV,dP,by rw[e1];exact p1,by rw[e1];exact p2,(Dk.bX k0).trans p3,by rw[e1,gK];exact Aab ⟨rfl,hE⟩⟩
 clear h hG hC ha hI hl k0 k1 k2 hD lC hfl;go_enter func142,ntmps142;go_wp2_with fail;refine HC.out.mono ?_;rintro e w1 ⟨v,rfl,hR⟩;obtain⟨dV,dP,p1,p2,p3,p4⟩:=hR;have hR:sH w w1 ps db fv rs v (lD s (plain rs) n t2):=⟨dV,dP,p1,p2,p3,p4⟩;rcases p4 with⟨-,rfl⟩|⟨-,bb,nm,num,rfl,-⟩
 ·clear p1 p2 p3;go_wp2_with fail;go_ret;exact⟨_,rfl,hR⟩
 ·clear p1 p2 p3;go_wp2_with fail;go_ret;exact⟨_,rfl,hR⟩
def JR (q d a b c:Int):List UInt8:=[74,UInt8.ofNat q.toNat]++fJ d++fJ a++fJ b++fJ c
theorem recB_h (q d a b c:Int):(BV q d a b c).data.toList=JR q d a b c:=by
 unfold BV JR;rw[qK,qK,qK,qK,qK];rfl
theorem l_ (q d a b c:Int):(fF q d a b c).data.toList=JR q d a b c++fJ (kD (JR q d a b c)):=by
 unfold fF;rw[qK,recB_h];rfl
theorem La {wr w5:F}{v:Y}{l:List UInt8}(hG:aL w wr)(hO:bI wr w.heap.size v l)(hg:wr.grownBy w5 v.ownBlock):aL w w5:=by
 refine⟨hg.os.trans hG.os,hg.tape.trans hG.tape,hg.output.trans hG.output,Aam hG.size hg.size,fun k hk=>?_⟩;rw[<-hG.block k hk];refine hg.block k (AaC hk hG.size) (fun e=>?_);have:=(bI.lt hO k e.symm).1;omega
def Lb (q d a b c:Int)(k:Nat):List UInt8:=[74,UInt8.ofNat q.toNat]++fJ d++(([a,b,c].take k).flatMap fJ)
theorem m_ (q d a b c:Int)(k:Nat):(Lb q d a b c k).length<=100:=by
 unfold Lb
 match k with
 |0=>simp[dL]
 |1=>simp[dL]
 |2=>simp[dL]
 |k+3=>simp[dL]
theorem recK_3 (q d a b c:Int):Lb q d a b c 3=JR q d a b c:=by simp[Lb,JR]
theorem YW {q d a b c x:Int}{k:Nat}(h:[a,b,c][k]?=M x):Lb q d a b c (k+1)=Lb q d a b c k++fJ x:=by
 unfold Lb
 match k,h with
 |0,h=>simp at h;subst h;simp
 |1,h=>simp at h;subst h;simp
 |2,h=>simp at h;subst h;simp
 |k+3,h=>simp at h
theorem Nq {q d a b c:Int}(hq:0<=q)(xL:q<256)(hd:cO d)(ha:cO a)(hb:cO b)(hc:cO c):
 H K 134 #[I V d,.agg #[I .u8 q,I V a,I V b,I V c]] w fun e w'=> ∃v,e=G v/\bI w' w.heap.size v (fF q d a b c).data.toList/\aL w w':=by
 unfold cO at hd ha hb hc;have z1:IntKind.u32.wrap d=d:=by rw[AcV];omega
 have wZ:bI ((w.alloc (C #[I .u8 q,I V a,I V b,I V c] 99)).alloc (C #[I .u8 74,I .u8 q] 5)) w.heap.size (Z (M ⟨w.heap.size+1,0,O⟩) 2 2) [74,UInt8.ofNat q.toNat]:=by
  have:=Aco (base:=w.heap.size) (e:=5) (size:=1) (w.alloc (C #[I .u8 q,I V a,I V b,I V c] 99)) #[I .u8 74,I .u8 q] 2 (by simp) (by unfold maxLen;omega) rfl;rw[AaG]at this;refine bI.of (n:=2) ?_;unfold Ij;simp only[AaK,AbI];rw[Dh hq xL];exact this
 have HA:=Fa wZ (by simp;omega) hd.1 hd.2 (by simp);have Qk:aL w ((w.alloc (C #[I .u8 q,I V a,I V b,I V c] 99)).alloc (C #[I .u8 74,I .u8 q] 5)):=aL.alloc (aL.alloc (aL.refl w) _) _;have HO0:Hid (bI ((w.alloc (C #[I .u8 q,I V a,I V b,I V c] 99)).alloc (C #[I .u8 74,I .u8 q] 5)) w.heap.size (Z (M ⟨w.heap.size+1,0,O⟩) 2 2) [74,UInt8.ofNat q.toNat]):=wZ;have k1:=(JL w (C #[I .u8 q,I V a,I V b,I V c] 99) (C #[I .u8 74,I .u8 q] 5)).2.1;clear wZ;go_enter func134,ntmps134;go_wp2_with fail;refine HA.mono ?_;rintro e w1 ⟨v1,rfl,Bb,iJ,sV⟩;have YK:=La Qk HO0.out iJ;have dY:w1.heap[w.heap.size]?=M (C #[I .u8 q,I V a,I V b,I V c] 99 (0,0)):=mO iJ k1 (fun e=>by simp[Value.ownBlock]at e);have x0:w1.cell? ⟨w.heap.size,1,O⟩=M (I V a):=by simp[World.cell?,dY]
 have x1:w1.cell? ⟨w.heap.size,2,O⟩=M (I V b):=by simp[World.cell?,dY]
 have x2:w1.cell? ⟨w.heap.size,3,O⟩=M (I V c):=by simp[World.cell?,dY]
 obtain⟨PL,Ja,ev1,-⟩:=bI.form Bb;subst ev1;clear dY k1 Qk HO0 HA iJ sV;have HO1:Hid (bI w1 w.heap.size (Z PL ([74,UInt8.ofNat q.toNat]++fJ d).length Ja) (Lb q d a b c 0)):=by show bI _ _ _ _;simpa[Lb]using Bb
 clear Bb;go_wp2_with fail;have j0:∀w,(Instr.index 97 (.agg #[I V a,I V b,I V c]) (I V 0)).run K w= .ok (I V a) w:=fun _=>by kernel_rfl
 have j1:∀w,(Instr.index 97 (.agg #[I V a,I V b,I V c]) (I V 1)).run K w= .ok (I V b) w:=fun _=>by kernel_rfl
 have j2:∀w,(Instr.index 97 (.agg #[I V a,I V b,I V c]) (I V 2)).run K w= .ok (I V c) w:=fun _=>by kernel_rfl
 go_loopw [5,7,16] (fun v _ i wr=> ∃k:Nat,k<=3/\i=I V (k:Int)/\Hid (bI wr w.heap.size v (Lb q d a b c k))/\Hid (aL w wr)) (fun _ _ i _=>3-(intOf i).toNat)
 case atStart=>exact⟨0,Aap _,rfl,HO1,YK⟩
 case round=>
  obtain⟨k,hk,rfl,HO,HG⟩:=hrel;obtain⟨nI,kX,ev,-⟩:=bI.form HO.out;have jW:=HG.out.size;have Qu:=m_ q d a b c k;by_cases bP:k<3
  ·obtain⟨x,hx,hux⟩:∃x,[a,b,c][k]?=M x/\(0<=x/\x<4294967296):=by
    match k,bP with
    |0,_=>exact⟨a,rfl,ha⟩
    |1,_=>exact⟨b,rfl,hb⟩
    |2,_=>exact⟨c,rfl,hc⟩
   have HN:Hid (Lb q d a b c (k+1)=Lb q d a b c k++fJ x):=YW hx;have UQ:=Fa HO.out jW hux.1 hux.2 (by omega);subst ev;have zx:IntKind.u32.wrap x=x:=(by rw[AcV];omega);have HHH:Hid ([a,b,c][k]?=M x):=hx;clear hx;rcases(by omega:k=0\/k=1\/k=2)with rfl|rfl|rfl
   all_goals (have hxx:=HHH.out;simp at hxx;subst hxx)
   all_goals clear HHH
   all_goals go_wp2_with (go_at_call 214;refine UQ.mono ?_;rintro e w5 ⟨v5,rfl,Wy,eO,Ab⟩)
   all_goals have sP:=La HG.out HO.out eO
   all_goals go_roundw
   all_goals first
    |(case rel=>exact⟨1,by omega,by go_num,by show bI _ _ _ _;rw[HN.out];exact Wy,sP⟩)
    |(case rel=>exact⟨2,by omega,by go_num,by show bI _ _ _ _;rw[HN.out];exact Wy,sP⟩)
    |(case rel=>exact⟨3,by omega,by go_num,by show bI _ _ _ _;rw[HN.out];exact Wy,sP⟩)
    |(case measure=>simp[intOf])
  ·obtain rfl:k=3:=by omega
   have HS:=TJ HO.out jW (by omega);subst ev;have HRS:Hid ((fF q d a b c).data.toList=Lb q d a b c 3++fJ (kD (Lb q d a b c 3))):=(by show _=_;rw[recK_3,l_]);go_wp2_with fail;refine HS.mono ?_;rintro e w5 ⟨v5,rfl,Wy,eO,Ab⟩;have sP:=La HG.out HO.out eO;obtain⟨Vw,xQ,ev5,-⟩:=bI.form Wy;subst ev5;go_wp2_with fail;go_ret;exact⟨_,rfl,by rw[HRS.out];exact Wy,sP⟩
def lQ (l:List UInt8):Option (Int×Int×Int×Int×Int):=
 if l.length<22 then O else match jN (l.take 22)with
  |none=>O
  |some t=>if t.headD 0=74 then M (gZ (t.drop 2),(((t.drop 1).headD 0).toNat:Int),gZ (t.drop 6),gZ (t.drop 10),gZ (t.drop 14))else O
def Pq:Option (Int×Int×Int×Int×Int)->Ending
 |none=> G (.tuple #[I V 0,.agg #[I .u8 0,I V 0,I V 0,I V 0],.bool false])
 |some (d,q,a,b,c)=> G (.tuple #[I V d,.agg #[I .u8 q,I V a,I V b,I V c],.bool true])
theorem Hq {n:Nat}(h:n<22):
 H K 190 #[Z ao n cap] w fun e w'=>e=Pq O/\aL w w':=by
 have z1:(n:Int)<22:=by omega
 go_enter func190,ntmps190
 go_wp2
 refine Aan (v:= .tuple #[I V 0,.agg #[I .u8 0,I V 0,I V 0,I V 0],.bool false]) (by simp[results,results190,go_sem]) rfl ?_;refine⟨rfl,?_⟩;refine⟨rfl,rfl,rfl,by simp,fun k hk=>?_⟩
 repeat (rw[Abm _ _ _ _ (by simp only;omega)])
 exact AbF _ _ _ hk
def JS (t1:UInt8)(lS:List UInt8)(k:Nat):Obj:=C #[I .u8 (t1.toNat:Int),I V (if 0<k then gZ (lS.drop 4)else 0),I V (if 1<k then gZ (lS.drop 8)else 0),I V (if 2<k then gZ (lS.drop 12)else 0)] 99 (0,0)
theorem n_ {wr:F}{g:Nat}{t0 t1:UInt8}{lS:List UInt8}{k:Nat}(h:wr.heap[g]?=M (JS t1 lS k))(hk:k<3):(wr.setCell ⟨g,1+k,O⟩ (I V (gZ ((t0::t1::lS).drop (6+4*k))))).heap[g]?=M (JS t1 lS (k+1)):=by
 unfold JS at*;rw[Aaj _ g (1+k) _ _ _ h];rcases(by omega:k=0\/k=1\/k=2)with rfl|rfl|rfl<;>rfl
theorem zK {w1:F}(h:aL w w1){g:Nat}(hg:w.heap.size<=g)(i:Nat)(v:Y):aL w (w1.setCell ⟨g,i,O⟩ v):=⟨h.os,h.tape,h.output,by have:=h.size;simpa using this,fun k hk=>(Abm _ _ _ _ (by simp only;omega)).trans (h.block k hk)⟩
theorem QC {b off:Nat}{l:List UInt8}(h:pG w (M ⟨b,off,O⟩) l)(hl:l.length<=900000000)(iI:l.length<=cap):
 H K 190 #[Z (M ⟨b,off,O⟩) l.length cap] w fun e w'=>e=Pq (lQ l)/\aL w w':=by
 by_cases hs:l.length<22
 ·have e1:lQ l=O:=by unfold lQ;rw[Aad hs]
  rw[e1];exact Hq hs
 ·have hl22:(l.take 22).length=22:=by rw[Aaw];omega
  have HU:Hid (∀W,aL w W->H K 181 #[Z (M ⟨b,off,O⟩) 22 cap] W fun e w'=>e=Ac b off cap (jN (l.take 22))/\∃q,w'=W.drewN q):=fun W hW=>by
   have:=Yd (cap:=cap) ((h.aN hW).take 22) (by omega) (by omega);rw[hl22]at this;exact this
  have z1:¬((l.length:Int)<22):=by omega
  have z2:(22:Int)<=(cap:Int):=by omega
  have z2':22<=cap:=by omega
  cases hu:jN (l.take 22)with
  |none=>
   have HE:Hid (lQ l=O):=(by show _=_;unfold lQ;rw[Aaa hs,hu]);rw[hu]at HU;have HU2:=HU.out _ (aL.alloc (aL.refl w) (C #[I .u8 0,I V 0,I V 0,I V 0] 99));unfold Ac at HU2;clear h hu HU;go_enter func190,ntmps190;go_wp2_with fail;refine HU2.mono ?_;rintro e w1 ⟨rfl,q,rfl⟩
   go_wp2
   refine Aan (v:= .tuple #[I V 0,.agg #[I .u8 0,I V 0,I V 0,I V 0],.bool false]) (by simp[results,results190,go_sem]) rfl ?_;rw[HE.out];refine⟨rfl,?_⟩;refine⟨rfl,rfl,rfl,by simp,fun k hk=>?_⟩
   repeat (rw[Abm _ _ _ _ (by simp only;omega)])
   exact AbF _ _ _ hk
  |some t=>
   have ht:t=l.take 18:=by
    unfold jN at hu;rw[hl22,Aaa (by omega)]at hu;split at hu
    ·cases hu
     rw[AcI];rfl
    ·cases hu
   have Vu:t.length=18:=(by rw[ht,Aaw];omega);have Ua:pG w (M ⟨b,off,O⟩) t:=(by rw[ht];exact h.take 18);rw[hu]at HU
   obtain⟨t0,t1,lS,rfl⟩:∃a b c,t=a::b::c:=by
    match t,Vu with
    |a::b::c,_=>exact⟨a,b,c,rfl⟩
   obtain⟨w0,lH⟩:∃w0,w0=w.alloc (C #[I .u8 0,I V 0,I V 0,I V 0] 99):=⟨_,rfl⟩;have Qk:aL w w0:=by rw[lH];exact aL.alloc (aL.refl w) _
   have HU2:H K 181 #[Z (M ⟨b,off,O⟩) 22 cap] w0 fun e w'=>e=G (.tuple #[Z (M ⟨b,off,O⟩) 18 cap,.bool true])/\∃q,w'=w0.drewN q:=(HU.out w0 Qk).mono fun e w' he=>by
    simp only[Ac,Vu]at he;exact he
   have c0:=fun W (hW:aL w W)=>hW.cell (by
    rcases Ua with hx|⟨b',Qf,e,hc⟩
    ·cases hx
    ·cases e
     exact hc 0 t0 rfl:w.cell? ⟨b,off+0,O⟩=M (I .u8 (t0.toNat:Int)))
   have c1:=fun W (hW:aL w W)=>hW.cell (by
    rcases Ua with hx|⟨b',Qf,e,hc⟩
    ·cases hx
    ·cases e
     exact hc 1 t1 rfl:w.cell? ⟨b,off+1,O⟩=M (I .u8 (t1.toNat:Int)))
   have HNum:Hid (∀W,aL w W->∀k n c,k+4<=18->4<=n->H K 234 #[Z (M ⟨b,off+k,O⟩) n c] W fun e w'=>e=G (I .u32 (gZ ((t0::t1::lS).drop k)))/\∃q,w'=W.drewN q):=fun W hW k n c hk hn=>Mv ((Ua.aN hW).drop k) (by rw[AaP,Vu];omega) hn;have Sl:∀W,aL w W->W.cell? ⟨b,off,O⟩=M (I .u8 (t0.toNat:Int)):=c0
   have hR:lQ l=if t0=74 then M (gZ (lS),(t1.toNat:Int),gZ (lS.drop 4),gZ (lS.drop 8),gZ (lS.drop 12))else O:=by
    unfold lQ;rw[Aaa hs,hu];rfl
   have QE:Hid (w0.heap[w.heap.size]?=M (C #[I .u8 0,I V 0,I V 0,I V 0] 99 (0,0))):=(by show _=_;rw[lH];exact Aaf w _);have d0:=Sl w0 Qk;have d1:=c1 w0 Qk;clear c0 h Ua hu HU ht;have uU:=Abl t0;have dY:=Abl t1;by_cases h74:t0=74
   ·rw[Aad h74]at hR;have HE:Hid _:=hR;have e74:((t0.toNat:Int) !=74)=false:=(by rw[h74];rfl);have x0:w0.cell? ⟨w.heap.size,0,O⟩=M (I .u8 0):=(by have:=QE.out;simp[World.cell?,this]);have xf0:w0.frozen? ⟨w.heap.size,0,O⟩=false:=(by have:=QE.out;simp[World.frozen?,this]);have y1:¬cap=2:=(by omega);have y2:¬cap-2=4:=(by omega);have y3:2<=cap:=(by omega);clear hR h74;go_enter func190,ntmps190;go_upto_region 1 with fail;rw[<-lH];clear lH;go_wp2_with fail;refine HU2.mono ?_;rintro e w1 ⟨rfl,q,rfl⟩;go_upto_region 6 with fail
    go_cut [0] (fun v0 wc=>v0=Z (M ⟨b,off+2,O⟩) 16 (cap-2)/\Hid (wc.heap[w.heap.size]?=M (C #[I .u8 (t1.toNat:Int),I V 0,I V 0,I V 0] 99 (0,0)))/\Hid (aL w wc))
    case first=>
     go_region
     all_goals go_wp2
     all_goals go_meet
     all_goals refine⟨rfl,?_,?_⟩
     all_goals first
      |(show aL w _;refine zK ?_ (Aak _) _ _;exact aL.drew (bB Qk _))
      |(show _=_;exact Aaj _ _ 0 _ _ _ QE.out)
    case rest=>
     obtain⟨rfl,BZ,Fy⟩:=hcut
     rename F=>w2
     have hN2:Hid (∀W,aL w W->H K 234 #[Z (M ⟨b,off+2,O⟩) 16 (cap-2)] W fun e w'=>e=G (I .u32 (gZ lS))/\∃q,w'=W.drewN q):=fun W hW=>HNum.out W hW 2 16 (cap-2) (by omega) (by omega);go_upto_region 7 with fail;go_quiet (first|(go_at_call 234;exact Acm (hN2.out _ (bB Fy.out _))));have HWT:Hid (wrap64 (gZ lS)=gZ lS):=(by show _=_;have:=lK lS;unfold wrap64;omega);have HNA:Hid (∀W,aL w W->∀A k n c,A=off+k->k+4<=18->4<=n->H K 234 #[Z (M ⟨b,A,O⟩) n c] W fun e w'=>e=G (I .u32 (gZ ((t0::t1::lS).drop k)))/\∃q,w'=W.drewN q):=fun W hW A k n c hA hk hn=>by rw[hA];exact HNum.out W hW k n c hk hn
     go_wp2_with fail;obtain⟨w3,NM⟩:∃w3,w3=w2.drewN nq:=⟨_,rfl⟩;have jm:Hid (aL w w3):=(by show aL w w3;rw[NM];exact bB Fy.out _);have HB3:Hid (w3.heap[w.heap.size]?=M (C #[I .u8 (t1.toNat:Int),I V 0,I V 0,I V 0] 99 (0,0))):=(by show _=_;rw[NM];exact BZ.out);rw[<-NM];clear NM BZ Fy hN2
     go_loopw [5,36] (fun _ i wr=> ∃k:Nat,k<=3/\i=I V (k:Int)/\Hid (wr.heap[w.heap.size]?=M (JS t1 lS k))/\Hid (aL w wr)) (fun _ i _=>3-(intOf i).toNat)
     case atStart=>exact⟨0,Aap _,rfl,HB3,jm⟩
     case round=>
      obtain⟨k,hk,rfl,HB,HG⟩:=hrel;by_cases bP:k<3
      ·have hbe:=lK ((t0::t1::lS).drop (6+4*k));have fT:=fun A n c hA hn=>HNA.out wr HG.out A (6+4*k) n c hA (by omega) hn;have HN:Hid (∀q,((wr.drewN q).setCell ⟨w.heap.size,1+k,O⟩ (I V (gZ ((t0::t1::lS).drop (6+4*k))))).heap[w.heap.size]?=M (JS t1 lS (k+1))):=fun q=>n_ HB.out bP
       have zc:∃u,wr.cell? ⟨w.heap.size,1+k,O⟩=M u:=by
        have:=HB.out;unfold JS at this;exact⟨_,(iG this (1+k)).1.trans (Aag (by simp;omega))⟩
       have zf:wr.frozen? ⟨w.heap.size,1+k,O⟩=false:=(by have:=HB.out;unfold JS at this;simp[World.frozen?,this]);obtain⟨u,zc⟩:=zc;have HGS:Hid (∀q v,aL w ((wr.drewN q).setCell ⟨w.heap.size,1+k,O⟩ v)):=fun q v=>zK (bB HG.out _) (Aak _) _ _;generalize gZ ((t0::t1::lS).drop (6+4*k))=z at hbe fT HN;have nM:wrap64 z=z:=(by unfold wrap64;omega);have hc6:¬cap-2-4=0:=(by omega);have hc7:¬cap-2-4=4:=(by omega);have hc8:¬cap-2-4=8:=(by omega);rcases(by omega:k=0\/k=1\/k=2)with rfl|rfl|rfl
       all_goals go_wp2_with (go_at_call 234;refine(fT _ _ _ (by omega) (by omega)).mono ?_;rintro e w5 ⟨rfl,q5,rfl⟩)
       all_goals go_roundw
       all_goals first
        |(case rel=>exact⟨1,by omega,by go_num,HN.out _,HGS.out _ _⟩)
        |(case rel=>exact⟨2,by omega,by go_num,HN.out _,HGS.out _ _⟩)
        |(case rel=>exact⟨3,by omega,by go_num,HN.out _,HGS.out _ _⟩)
        |(case measure=>simp[intOf])
      ·obtain rfl:k=3:=by omega
       have hB:=HB.out;unfold JS at hB;simp only[show(0:Nat)<3 from by omega,show(1:Nat)<3 from by omega,show(2:Nat)<3 from by omega,if_true]at hB;generalize gZ (lS.drop 4)=n1 at hB HE;generalize gZ (lS.drop 8)=n2 at hB HE;generalize gZ (lS.drop 12)=n3 at hB HE;have p0:wr.cell? ⟨w.heap.size,0,O⟩=M (I .u8 (t1.toNat:Int)):=(by simp[World.cell?,hB]);have p1:wr.cell? ⟨w.heap.size,1,O⟩=M (I V n1):=(by simp[World.cell?,hB]);have p2:wr.cell? ⟨w.heap.size,2,O⟩=M (I V n2):=(by simp[World.cell?,hB]);have p3:wr.cell? ⟨w.heap.size,3,O⟩=M (I V n3):=(by simp[World.cell?,hB]);have pf:∀j,wr.frozen? ⟨w.heap.size,j,O⟩=false:=fun j=>by simp[World.frozen?,hB]
       have pf0:=pf 0;have pf1:=pf 1;have pf2:=pf 2;have pf3:=pf 3;clear pf hB HB;go_wp2_with fail
       go_region
       all_goals go_wp2
       all_goals refine Aan (v:= .tuple #[I V (gZ lS),.agg #[I .u8 (t1.toNat:Int),I V n1,I V n2,I V n3],.bool true]) (by simp[results,results190,go_sem,p0,p1,p2,p3,HWT.out]) rfl ?_
       all_goals rw[HE.out]
       all_goals refine⟨rfl,?_⟩
       all_goals exact aL.drew (zK (zK (zK (zK HG.out (Aak _) _ _) (Aak _) _ _) (Aak _) _ _) (Aak _) _ _)
   ·rw[Aaa h74]at hR;have HE:Hid _:=hR
    have e74:((t0.toNat:Int) !=74)=true:=by
     rw[bne_iff_ne];intro e;apply h74;have:t0.toNat=74:=(by omega);exact UInt8.toNat.inj this
    have ji:∀j,w0.frozen? ⟨w.heap.size,j,O⟩=false:=fun j=>by have:=QE.out;simp[World.frozen?,this]
    have x0:w0.cell? ⟨w.heap.size,0,O⟩=M (I .u8 0):=(by have:=QE.out;simp[World.cell?,this]);have x1:w0.cell? ⟨w.heap.size,1,O⟩=M (I V 0):=(by have:=QE.out;simp[World.cell?,this]);have x2:w0.cell? ⟨w.heap.size,2,O⟩=M (I V 0):=(by have:=QE.out;simp[World.cell?,this]);have x3:w0.cell? ⟨w.heap.size,3,O⟩=M (I V 0):=(by have:=QE.out;simp[World.cell?,this]);have f0:=ji 0;have f1:=ji 1;have f2:=ji 2;have f3:=ji 3;clear hR h74 ji;go_enter func190,ntmps190;go_upto_region 1 with fail;rw[<-lH];clear lH;go_wp2_with fail;refine HU2.mono ?_;rintro e w1 ⟨rfl,q,rfl⟩
    go_wp2
    refine Aan (v:= .tuple #[I V 0,.agg #[I .u8 0,I V 0,I V 0,I V 0],.bool false]) (by simp[results,results190,go_sem,x0,x1,x2,x3]) rfl ?_;rw[HE.out];refine⟨rfl,?_⟩;refine⟨Qk.os,Qk.tape,Qk.output,by have:=Qk.size;simpa using this,fun k hk=>?_⟩
    repeat (rw[Abm _ _ _ _ (by simp only;omega)])
    exact Qk.block k hk
def FH (w:F)(ao:Option Addr)(l:List fP):Prop:=
 (l=[]\/∃b off,ao=M ⟨b,off,O⟩/\∀j u,(Kg l)[j]?=M u->w.cell? ⟨b,off+j,O⟩=M u)/\∀a,ao=M a->∃aS,w.heap[a.block]?=M (C aS 261 (0,0))
def vI (w:F)(B:Nat)(v:Y)(l:List fP):Prop:=w.ownsRow B 261 3 v l.length (Kg l)
theorem FH.fr {X:Nat->Prop}{l:List fP}(h:FH w ao l)(hF:Fr w w' X)(hx:∀b aS,w.heap[b]?=M (C aS 261 (0,0))->¬X b):FH w' ao l:=by
 obtain⟨h1,h2⟩:=h;refine⟨?_,fun a e=>?_⟩
 ·rcases h1 with h1|⟨b,off,e,hc⟩
  ·exact Aac h1
  ·refine Aab ⟨b,off,e,fun j u hu=>?_⟩;obtain⟨aS,hb⟩:=h2 _ e;have qG:w'.heap[b]?=w.heap[b]?:=hF.2 b (aM hb) (hx _ _ hb);exact(AaO (a:=⟨b,off+j,O⟩) qG).trans (hc j u hu)
 ·obtain⟨aS,hb⟩:=h2 a e;exact⟨aS,hF.at hb (hx _ _ hb)⟩
theorem FH.aN {l:List fP}(h:FH w ao l)(hg:aL w w'):FH w' ao l:=h.fr (Fr.cZ hg (fun _=>False)) (fun _ _ _=>id)
theorem FH.nil (w:F):FH w O []:=⟨Aac rfl,fun _ e=>by cases e⟩
theorem FH.take {l:List fP}(h:FH w ao l)(k:Nat):FH w ao (l.take k):=by
 obtain⟨h1,h2⟩:=h;refine⟨?_,h2⟩;rcases h1 with rfl|⟨b,off,e,hc⟩
 ·left;simp
 ·refine Aab ⟨b,off,e,fun j u hu=>hc j u ?_⟩;have e2:Kg l=Kg (l.take k)++Kg (l.drop k):=by rw[<-Ad,AbW]
  have bP:=(Aae.1 hu).1;rw[e2,Abt bP];exact hu
theorem vI.form {B:Nat}{v:Y}{l:List fP}(h:vI w B v l):∃ao cap,v=Z ao l.length cap/\FH w ao l/\(ao=O->l.length=0/\cap=0)/\l.length<=cap:=by
 have h':=h;obtain⟨-,h2⟩:=h;rcases h2 with⟨rfl,h3⟩|⟨g,cap,aS,rfl,hg,hh,iI,-⟩
 ·exact⟨O,0,by rw[h3],⟨Aac (Aax h3),(fun _ e=>by cases e)⟩,fun _=>⟨h3,rfl⟩,by omega⟩
 ·refine⟨M ⟨g,0,O⟩,cap,rfl,⟨Aab ⟨g,0,rfl,fun j u hu=>?_⟩,(fun a e=>by cases e;exact⟨aS,hh⟩)⟩,(fun e=>by cases e),iI⟩;have:=AcY h' rfl j u hu;cases j with
  |zero=>simpa[Addr.add]using this
  |succ j=>simpa[Addr.add]using this
theorem Tryz.infoEdD:(Tryz.prog.info? 261).map (fun i=>(i.zero,i.size,i.bytes))=M (M (.agg #[I V 0,Z O 0 0,Z O 0 0]),3,56):=by kernel_rfl
theorem yK {ops:Array Oper}{rest:List Oper}{o:Oper}{a:Act}{Q:Exit->Act->F->Prop}(qR:o.guard=O)(s x:Operand)
 (ho:o.op= .call { callee:= .builtin .append,args:=#[s,x],argTypes:=#[103,103] })
 (base:Nat)(v:Y)(ys zs:List fP)(hs:a.eval s=v)(bD:vI w base v ys)(ao:Option Addr)(m c:Nat)(hx:a.eval x=Z ao m c)(hm:m=zs.length)(gL:ao=O->zs.length=0/\c=0)(hr:FH w ao zs)
 (hlen:ys.length+zs.length<=1000000000)(iK:base<=w.heap.size)
 (h:∀v' w',vI w' base v' (ys++zs)->w.grownBy w' v.ownBlock->wpList K ops Q rest (a.put o.dst v') w'):wpList K ops Q (o::rest) a w:=by
 obtain⟨i0,hi,oG,nM,oP⟩:=AaW Tryz.infoEdD;subst hm;cases ao with
 |none=>
  obtain⟨h1,rfl⟩:=gL rfl;have hz:zs=[]:=Aax h1;subst hz;exact AbO qR s x 103 ho base 261 i0 3 underlying103 hi v _ _ hs bD hx (h v w (by simpa using bD) (Abn _ _))
 |some ad=>
  refine AbG w qR s x 103 ho base 261 i0 (.agg #[I V 0,Z O 0 0,Z O 0 0]) 3 56 underlying103 hi oG nM oP rfl (by decide) v ys.length (Kg ys) hs bD ad zs.length c (Kg zs) hx (Sk zs) ?_ ?_ (by unfold maxLen;omega) (by omega) iK ?_
  ·rcases hr.1 with rfl|⟨b,off,e,hc⟩
   ·intro j u hj;simp[Kg]at hj
   ·cases e
    intro j u hj;have:=hc j u hj;cases j with
    |zero=>simpa[Addr.add]using this
    |succ j=>simpa[Addr.add]using this
  ·intro u hu;obtain⟨p,-,hp⟩:=AbX.1 hu;simp[fP.cells]at hp;rcases hp with rfl|rfl|rfl<;>rfl
  ·intro v' w' h1 h2 _;refine h v' w' ?_ h2;unfold vI;rw[Ad,Aah];exact h1
theorem JU (w:F){B:Nat}(hB:B<=w.heap.size)(e:fP):vI (w.alloc (C #[I V e.1,e.2.1.v,e.2.2.v] 261)) B (Z (M ⟨w.heap.size,0,O⟩) 1 1) [e]:=by
 have:=Aco (base:=B) (e:=261) (size:=3) w #[I V e.1,e.2.1.v,e.2.2.v] 1 hB (by unfold maxLen;omega) rfl;exact this
def dR (w:F)(x:bS)(l:List Ed):Prop:=∃raw:List fP,FH w x.1 raw/\x.2.1=raw.length/\(wN x.1 x.2.1 x.2.2/\x.2.1<=x.2.2)/\raw.length=l.length/\∀(i:Nat) (r:fP) (e:Ed),raw[i]?=M r->l[i]?=M e->rP w r e
theorem dR.aN (h:dR w x l)(hg:aL w w'):dR w' x l:=by
 obtain⟨raw,h1,h2,h3,h4,h5⟩:=h;exact⟨raw,h1.aN hg,h2,h3,h4,fun i r e a b=>(h5 i r e a b).aN hg⟩
theorem dR.nil (w:F):dR w (O,0,0) []:=⟨[],FH.nil w,rfl,⟨fun _=>⟨rfl,rfl⟩,Aak _⟩,rfl,fun i r e a _=>by simp at a⟩
theorem dR.fr {X:Nat->Prop}(h:dR w x l)(hF:Fr w w' X)(hx:∀b aS,w.heap[b]?=M (C aS 114 (0,0))->¬X b)(hy:∀b aS,w.heap[b]?=M (C aS 261 (0,0))->¬X b):dR w' x l:=by
 obtain⟨raw,h1,h2,h3,h4,h5⟩:=h;exact⟨raw,h1.fr hF hy,h2,h3,h4,fun i r e a b=>⟨(h5 i r e a b).1,(h5 i r e a b).2.1.fr hF hx,(h5 i r e a b).2.2.fr hF hx⟩⟩
theorem dR.take {n:Nat}(h:dR w (ao,n,cap) l)(k:Nat)(hk:k<=n):dR w (ao,k,cap) (l.take k):=by
 obtain⟨raw,h1,h2,h3,h4,h5⟩:=h;simp only at h1 h2 h3;have hl:(raw.take k).length=k:=by rw[Aaw];omega
 refine⟨raw.take k,h1.take k,hl.symm,⟨fun e=>?_,by simp only;omega⟩,by simp[h4],fun i r e a b=>?_⟩
 ·have:=h3.1 e;simp only;omega
 ·rw[AbC]at a b;split at a
  ·rename_i hi;rw[Aad hi]at b;exact h5 i r e a b
  ·cases a
theorem Zm {depth:Nat}(h:dR w x l)(hl:l.length<=1000000)(hd:depth<=1000000):
 H K 179 #[x.v,I V (depth:Int)] w fun e w'=> ∃y:bS,e=G y.v/\dR w y (l.take depth)/\w'=w:=by
 obtain⟨ao,n,cap⟩:=x;have hn:n=l.length:=by obtain⟨raw,-,h2,-,h4,-⟩:=h;simp only at h2;omega
 have hc:n<=cap:=by obtain⟨raw,-,-,h3,-⟩:=h;exact h3.2
 have HT:Hid (dR w (ao,min n depth,cap) (l.take depth)):=by
  show dR _ _ _;have:=h.take (min n depth) (Nat.min_le_left _ _);have e:l.take (min n depth)=l.take depth:=by rw[hn,<-AcI,Aaq (by rw[Aaw];omega)]
  rw[e]at this;exact this
 subst hn;have hm:(min (l.length:Int) (depth:Int)).toNat=min l.length depth:=by omega
 have HM:Hid ((min (l.length:Int) (depth:Int)).toNat=min l.length depth):=hm;simp only[bS.v];have j1:(0:Int)<=min (l.length:Int) (depth:Int):=by omega
 have j2:min (l.length:Int) (depth:Int)<=(cap:Int):=by omega
 clear h hm;go_enter func179,ntmps179;go_wp2_with fail;go_ret;refine⟨(ao,min l.length depth,cap),?_,HT.out,rfl⟩;rw[<-HM.out];rfl
theorem Jb {r:fP}{e:Ed}{depth:Nat}(he:rP w r e)(h:dR w x l)(hl:l.length<=100000)(hd:depth<=1000000):
 H K 245 #[.agg #[I V r.1,r.2.1.v,r.2.2.v],x.v,I V (depth:Int)] w fun q w'=> ∃y:bS,q=G y.v/\dR w' y ((e::l).take depth)/\aL w w':=by
 obtain⟨raw,h1,h2,h3,h4,h5⟩:=h;obtain⟨xo,xn,xc⟩:=x;simp only at h1 h2 h3;subst h2;have fV:=aQ (aP w (C #[I V r.1,r.2.1.v,r.2.2.v] 261)) (aP (w.alloc (C #[I V r.1,r.2.1.v,r.2.2.v] 261)) (C #[I V r.1,r.2.1.v,r.2.2.v] 261));have bD:=JU (B:=w.heap.size) (w.alloc (C #[I V r.1,r.2.1.v,r.2.2.v] 261)) (by simp) r;rw[AaG]at bD
 have HE:Hid (∀(w5:F) (a5:Option Addr) (c5:Nat),aL w w5->FH w5 a5 ([r]++raw)->wN a5 (([r]++raw).length) c5->([r]++raw).length<=c5->dR w5 (a5,([r]++raw).length,c5) (e::l)):=fun w5 a5 c5 hG hr hn hc=>by
  refine⟨[r]++raw,hr,rfl,⟨hn,hc⟩,by simp[h4],fun i r' e' a b=>?_⟩;cases i with
  |zero=>simp at a b;subst a b;exact he.aN hG
  |succ i=>simp at a b;exact(h5 i r' e' a b).aN hG
 clear h5 he;obtain⟨r1,⟨x1,x2,x3⟩,⟨y1,y2,y3⟩⟩:=r;simp only[bS.v]at*;go_enter func245,ntmps245;go_wp2_with (at_builtin;go_must (refine yK (by rfl) (.tmp 8) (.tmp 9) (by rfl) w.heap.size _ [(r1,(x1,x2,x3),(y1,y2,y3))] raw (by rfl) (by exact bD) _ _ _ (by rfl) (by rfl) (by exact h3.1) (by exact h1.aN fV) (by simp;omega) (by simp;omega) ?_);intro v5 w5 dK eO);have B5:aL w w5:=fV.grown eO (by simp;omega) (fun k e=>by cases e;simp);obtain⟨a5,c5,rfl,Gd,Kh,TM⟩:=dK.form;have hE5:=HE.out w5 a5 c5 B5 Gd Kh TM;have hF:=Zm (depth:=depth) hE5 (by simp;omega) hd;simp only[bS.v]at hF;refine hF.mono ?_;rintro q w6 ⟨⟨b6,n6,c6⟩,rfl,hE6,rfl⟩;go_wp2_with fail;go_ret;exact⟨(b6,n6,c6),rfl,hE6,B5⟩
end Go.Proofs.YtfplgfodoiiobaaGreatDoor
