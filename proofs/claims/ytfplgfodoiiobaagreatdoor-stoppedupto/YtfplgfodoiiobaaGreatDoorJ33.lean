/- QlR (joined). -/
import Derived.Test.YtfplgfodoiiobaaGreatDoorJ32
open Option renaming none→O,some→M
open Go.Value renaming int→I,pointer→U
open Go.IntKind renaming i64→V
open Go.Ending renaming returned→G
open Go renaming World→F,Calls→H
open Go.Proofs.Tryz renaming prog→K
namespace Go.Proofs.YtfplgfodoiiobaaGreatDoor
set_option maxHeartbeats 1000000
open Go.RowKit
variable {s:Sc}{fs:List bF}{w:F}{ps:Nat->Addr}{qp:Nat}{m:bT}{X:Nat->Prop}{D pos n:Int}
theorem UY (h:pF w qp s fs m X)(hG:Gl w ps)(hS:GS (s,fs,m) D)(hD:D<=1999999999)(hn:n<=9223372036854775807):
 H K 44 #[U (M ⟨qp,0,O⟩),I V pos,I V n] w fun e w'=>e=G (I V (eZ (s,fs,m) 68 pos n ⟨#[]⟩).2)/\vV w w' qp X (eZ (s,fs,m) 68 pos n ⟨#[]⟩).1:=by
 rw[Oc hS (Or.inr (Or.inl rfl)) (fun _=>rfl)];have e1:Ab 68 pos=pos:=by simp[Ab]
 have e2:Dx fs 68 n=n:=by simp[Dx]
 have e3:Ac 68 ⟨#[]⟩=0:=by simp[Ac]
 rw[e1,e2,e3];have hc:=Ob (q:=68) (a:=pos) (b:=n) (c:=0) (text:=⟨#[]⟩) h hG hS hD (by omega) (by omega) hn (Or.inl rfl);generalize yS (s,fs,m) 68 pos n 0 ⟨#[]⟩=R at*;clear h hG hS e1 e2 e3;go_enter Tryz.func44,Tryz.ntmps44
 go_wp2_with (go_at_call 54;refine hc.mono ?_;rintro e w' ⟨rfl,hq⟩)
 go_ret;exact⟨rfl,hq⟩
theorem w_ (h:pF w qp s fs m X)(hG:Gl w ps)(hS:GS (s,fs,m) D)(hD:D<=1999999999):
 H K 29 #[U (M ⟨qp,0,O⟩)] w fun e w'=>e=G (I V (eZ (s,fs,m) 85 pos n ⟨#[]⟩).2)/\vV w w' qp X (eZ (s,fs,m) 85 pos n ⟨#[]⟩).1:=by
 rw[Oc hS (Or.inr (Or.inr (Or.inl rfl))) (fun _=>rfl)];have e1:Ab 85 pos=0:=by simp[Ab]
 have e2:Dx fs 85 n=0:=by simp[Dx]
 have e3:Ac 85 ⟨#[]⟩=0:=by simp[Ac]
 rw[e1,e2,e3];have hc:=Ob (q:=85) (a:=0) (b:=0) (c:=0) (text:=⟨#[]⟩) h hG hS hD (by omega) (by omega) (by omega) (Or.inl rfl);generalize yS (s,fs,m) 85 0 0 0 ⟨#[]⟩=R at*;clear h hG hS e1 e2 e3;go_enter Tryz.func29,Tryz.ntmps29
 go_wp2_with (go_at_call 54;refine hc.mono ?_;rintro e w' ⟨rfl,hq⟩)
 go_ret;exact⟨rfl,hq⟩
theorem qredo (h:pF w qp s fs m X)(hG:Gl w ps)(hS:GS (s,fs,m) D)(hD:D<=1999999999):
 H K 46 #[U (M ⟨qp,0,O⟩)] w fun e w'=>e=G (I V (eZ (s,fs,m) 82 pos n ⟨#[]⟩).2)/\vV w w' qp X (eZ (s,fs,m) 82 pos n ⟨#[]⟩).1:=by
 rw[Oc hS (Or.inr (Or.inr (Or.inr rfl))) (fun _=>rfl)];have e1:Ab 82 pos=0:=by simp[Ab]
 have e2:Dx fs 82 n=0:=by simp[Dx]
 have e3:Ac 82 ⟨#[]⟩=0:=by simp[Ac]
 rw[e1,e2,e3];have hc:=Ob (q:=82) (a:=0) (b:=0) (c:=0) (text:=⟨#[]⟩) h hG hS hD (by omega) (by omega) (by omega) (Or.inl rfl);generalize yS (s,fs,m) 82 0 0 0 ⟨#[]⟩=R at*;clear h hG hS e1 e2 e3;go_enter Tryz.func46,Tryz.ntmps46
 go_wp2_with (go_at_call 54;refine hc.mono ?_;rintro e w' ⟨rfl,hq⟩)
 go_ret;exact⟨rfl,hq⟩
theorem BF {text:ByteArray}(h:pF w qp s fs m X)(hG:Gl w ps)(hS:GS (s,fs,m) D)(hD:D<=1999999999)(ht:text.size<=140737488355328):
 H K 28 #[U (M ⟨qp,0,O⟩),I V pos,.string text] w fun e w'=>e=G (I V (eZ (s,fs,m) 73 pos n text).2)/\vV w w' qp X (eZ (s,fs,m) 73 pos n text).1:=by
 rw[Oc hS (Or.inl rfl) (fun e=>(e rfl).elim)];have e1:Ab 73 pos=pos:=by simp[Ab]
 have e2:Dx fs 73 n=((aL fs 1).size:Int):=by simp[Dx]
 have e3:Ac 73 text=(text.size:Int):=by simp[Ac]
 rw[e1,e2,e3];clear e1 e2 e3;have nZ:=kI hS.bk.inv 1;have QY:=hS.bk.bK.oK;simp only at nZ QY;have hc:=Ob (q:=73) (a:=pos) (b:=((aL fs 1).size:Int)) (c:=(text.size:Int)) (text:=text) h hG hS hD (by omega) (by omega) (by omega) (Or.inr rfl);have h0:=h;rcases h with⟨ho,db,fv,rs,h1,rfl,h3,rfl⟩|⟨ho,db,fv,rs,sp,lp,dp,tb,h1,rfl,rfl⟩
 ·have hM:=Bf h3;have e:yS (s,plain rs,m) 73 pos ((aL (plain rs) 1).size:Int) (text.size:Int) text=((s,plain rs,m),3):=by unfold yS;rw[if_pos ho]
  rw[e];have HQ:Hid (pF w qp s (plain rs) m (BA qp db fv rs)):=h0;clear hc h0 hG hS h1 h3 e;go_enter Tryz.func28,Tryz.ntmps28
  go_wp2_with (go_at_call 52;refine hM.mono ?_;rintro e w' ⟨rfl,rfl⟩)
  go_ret;exact⟨rfl,vV.same HQ.out (aJ.refl _)⟩
 ·have hM:=wQ h1.qu h1.wS;cases hr:s.ro with
  |true=>
   have e:yS (s,plain rs,m) 73 pos ((aL (plain rs) 1).size:Int) (text.size:Int) text=((s,plain rs,m),4):=by unfold yS;simp only;rw[if_neg (by simp[ho]),if_pos hr]
   rw[e];rw[hr,if_pos rfl]at hM;have HQ:Hid (pF w qp s (plain rs) m (Mt qp db fv rs sp lp dp tb)):=h0;clear hc h0 hG hS h1 e hr ho;go_enter Tryz.func28,Tryz.ntmps28
   go_wp2_with (go_at_call 52;refine hM.mono ?_;rintro e w' ⟨rfl,rfl⟩)
   go_ret;exact⟨rfl,vV.same HQ.out (aJ.refl _)⟩
  |false=>
   rw[hr]at hM;simp only[if_neg (show ¬(false=true) by decide)]at hM;have hb:=hS.wU ho hr;simp only at hb;have hB:=xQ h1.Uw;rw[hb]at hB;obtain⟨-,-,-,c3,-⟩:=dW h1.qu;obtain⟨-,d1,-⟩:=iW h1.wS;simp only[Option.map_some]at c3;generalize yS (s,plain rs,m) 73 pos ((aL (plain rs) 1).size:Int) (text.size:Int) text=R at*;generalize ((aL (plain rs) 1).size:Int)=bz at*;clear h0 hG hS h1 hr ho hb nZ QY;go_enter Tryz.func28,Tryz.ntmps28
   go_wp2_with (first|(go_at_call 52;refine hM.mono ?_;rintro e w' ⟨rfl,rfl⟩)|(go_at_call 53;refine hB.mono ?_;rintro e w' ⟨rfl,rfl⟩)|(go_at_call 54;refine hc.mono ?_;rintro e w' ⟨rfl,hq⟩))
   go_ret;exact⟨rfl,hq⟩
theorem syn_flg (hB:BK s fs)(ho:s.aS=true)(hr:s.ro=false):YN (pO s fs s.aV).2.1 (pO s fs s.aV).1/\gU s (pO s fs s.aV).2.1/\∀m,iG (s,fs,m)=(((pO s fs s.aV).2.1,(pO s fs s.aV).2.2,m),(pO s fs s.aV).1):=by
 have e1:qV s fs s.aV 1=bQ s fs 1:=rfl;have e2:qV s fs s.aV 2=bQ (bQ s fs 1).2.1 (bQ s fs 1).2.2 (10+s.aV):=rfl;obtain⟨k1,k2,k3⟩:=Aa hB 1
 have hS:∀m,iG (s,fs,m)=(((pO s fs s.aV).2.1,(pO s fs s.aV).2.2,m),(pO s fs s.aV).1):=fun m=>by
  unfold iG pO;simp only;rw[if_neg (by simp[ho]),if_neg (by simp[hr]),e1,e2,k2.2.2.2];split<;>rfl
 refine⟨?_,?_,hS⟩
 ·unfold pO;rw[e1,e2];rcases k3 with⟨q1,q2,q3,-⟩|⟨q1,q2⟩
  ·rw[if_neg (by rw[q1];simp)];obtain⟨-,-,j3⟩:=Aa k1 (10+s.aV);rcases j3 with⟨r1,r2,r3,-⟩|⟨r1,r2⟩
   ·rw[if_pos r1];exact Or.inr (Or.inr ⟨by simp,by simp,(r2.trans q2).trans ho,(r3.trans q3).trans hr⟩)
   ·rw[if_neg (by rw[r1];simp)];exact Or.inl ⟨rfl,r2⟩
  ·rw[if_pos q1];exact Or.inl ⟨rfl,q2⟩
 ·unfold pO;rw[e1,e2];split
  ·exact k2
  ·exact k2.trans (Aa k1 (10+s.aV)).2.1
theorem qsync (h:pF w qp s fs m X)(hG:Gl w ps)(hS:GS (s,fs,m) D):
 H K 30 #[U (M ⟨qp,0,O⟩)] w fun e w'=>e=G (I V (iG (s,fs,m)).2)/\vV w w' qp X (iG (s,fs,m)).1:=by
 have h0:=h;have vL:=hS.bk.bK.nK;have Ck:=hS.bk.bK.zN;simp only at vL Ck;rcases h with⟨ho,db,fv,rs,h1,rfl,h3,rfl⟩|⟨ho,db,fv,rs,sp,lp,dp,tb,h1,rfl,rfl⟩
 ·have hM:=Bf h3;have e:iG (s,plain rs,m)=((s,plain rs,m),3):=by unfold iG;rw[if_pos ho]
  rw[e];have HQ:Hid (pF w qp s (plain rs) m (BA qp db fv rs)):=h0;clear h0 hG hS h1 h3 e;go_enter Tryz.func30,Tryz.ntmps30
  go_wp2_with (go_at_call 52;refine hM.mono ?_;rintro e w' ⟨rfl,rfl⟩)
  go_ret;exact⟨rfl,vV.same HQ.out (aJ.refl _)⟩
 ·have hM:=wQ h1.qu h1.wS;cases hr:s.ro with
  |true=>
   have e:iG (s,plain rs,m)=((s,plain rs,m),4):=by unfold iG;simp only;rw[if_neg (by simp[ho]),if_pos hr]
   rw[e];rw[hr,if_pos rfl]at hM;have HQ:Hid (pF w qp s (plain rs) m (Mt qp db fv rs sp lp dp tb)):=h0;clear h0 hG hS h1 e hr ho;go_enter Tryz.func30,Tryz.ntmps30
   go_wp2_with (go_at_call 52;refine hM.mono ?_;rintro e w' ⟨rfl,rfl⟩)
   go_ret;exact⟨rfl,vV.same HQ.out (aJ.refl _)⟩
  |false=>
   rw[hr]at hM h1;simp only[if_neg (show ¬(false=true) by decide)]at hM;obtain⟨hF,Hl,hEq⟩:=syn_flg hS.bk ho hr;have hY:=sync_pg h1.disk h1.rH hG (hS.bk.dok.more (by omega)) vL (by omega);simp only at hF Hl hEq;rw[hEq m];generalize pO s (plain rs) s.aV=r at*;obtain⟨-,-,-,c3,-⟩:=dW h1.qu;obtain⟨d0,-,-⟩:=iW h1.wS;simp only[Option.map_some]at c3
   have HY:Hid (H K 55 #[U (M ⟨lp,0,O⟩)] w fun e w'=> ∃v,e=G v/\H K 49 #[U (M ⟨qp,0,O⟩),v] w' fun e w2=>e=G (I V r.1)/\vV w w2 qp (Mt qp db fv rs sp lp dp tb) (r.2.1,r.2.2,m)):=by
    refine hY.mono ?_;rintro e w' ⟨v,rfl,dN,dH,k1,k2,k3,k4⟩;obtain⟨cu,TV⟩:=h1.dk k1 k3 Hl;refine⟨v,rfl,?_⟩;rw[<-k2];exact UW cu hF (uQ (hG.dk h1.disk k3) k4 (by omega)) TV
   clear hY h0 hG hS h1 hr ho hF Hl hEq;go_enter Tryz.func30,Tryz.ntmps30
   go_wp2_with (first|(go_at_call 52;refine hM.mono ?_;rintro e w' ⟨rfl,rfl⟩)|(go_at_call 55;refine HY.out.mono ?_;rintro e w' ⟨v,rfl,hA⟩)|(go_at_call 49;refine hA.mono ?_;rintro e w2 ⟨rfl,hq⟩))
   go_ret;exact⟨rfl,hq⟩
end Go.Proofs.YtfplgfodoiiobaaGreatDoor
