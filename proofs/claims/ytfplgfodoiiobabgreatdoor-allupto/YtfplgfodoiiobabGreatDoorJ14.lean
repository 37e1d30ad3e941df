/- a part of the proof. -/
import Derived.Test.YtfplgfodoiiobabGreatDoorJ09
open Option renaming none->O,some->M
open Go.Value renaming int->I,slice->Z,pointer->U
open Go.IntKind renaming i64->V
open Go.Ending renaming returned->G
open Go renaming World->F,Value->Y,Calls->H
open Go.Proofs.Tryz renaming prog→K
open Go.Proofs.Tryz
namespace Go.Proofs.YtfplgfodoiiobabGreatDoor
set_option maxHeartbeats 4000000
set_option maxRecDepth 100000
open Go.RowKit
theorem lose_pg {w:F}{db:Nat}{s:Sc}{fv:Y}{rs:List FR}(h:aU w db s fv rs)(hl:rs.length<=1000000)(kD:∀f∈plain rs,okF f)(h1:0<=s.one)(h2:0<=s.rest)(h3:s.one<=9223372036854775807)(h4:s.rest<=9223372036854775807):
 H K 224 #[U (M ⟨db,0,O⟩)] w λe w'=>e=G (.tuple #[])/\∃eD dY,aU w' db s eD dY/\plain dY=((plain rs).map (gQ s.one s.rest)).filter (λf=>f.2.1.size !=0)/\Dk w w' (DX db fv rs) (DX db eD dY):=by
 obtain⟨-,c1,-⟩:=dM h.1;obtain⟨x,d,rfl,iW,hm,gV,jG⟩:=iL.form h.2.1;have HS:Hid (TM w w db s (Z x rs.length d) rs 0 []):=⟨rfl,by simp[plain],by simpa using h,by simpa using Dk.refl w _⟩;have HK:Hid (∀f∈plain rs,okF f):=kD;clear h jG kD;go_enter func224,ntmps224;go_wp2_with fail
 go_loopw [3,4,10] (λ_ _ i wr=> ∃(k:Nat) (done:List FR),i=I V (k:Int)/\k<=rs.length/\Hid (TM w wr db s (Z x rs.length d) rs k done)) (λ_ _ i _=>rs.length-(intOf i).toNat)
 case atStart=>exact⟨0,[],rfl,Aao _,HS⟩
 case round=>
  obtain⟨k,done,rfl,hk,HL⟩:=hrel;obtain⟨N,q2,j,L⟩:=HL.out;by_cases Q:k<rs.length
  ·obtain⟨r,R⟩:∃r,rs[k]?=M r:=⟨_,Aaf Q⟩
   have XO:(done++rs.drop k)[k]?=M r:=by
    rw[Abb (by omega),N,AcW,AcR,Nat.add_zero,R]
   have D:=j.2.2.1 r (Aai XO);obtain⟨a3,Ov,q5,u,EP,z,o⟩:=iL.form j.2.1;cases x with
   |none=>obtain⟨rfl,-⟩:=gV rfl;simp at Q
   |some a=>
    injection q5 with e1 e2 e3;subst e1;clear e2 e3;obtain⟨g,aR,rfl,-,-,-,hc⟩:=o a rfl;have d1:=hc k r XO;unfold FR.p at d1;obtain⟨d0,d2,d3,df⟩:=iC D.1;obtain⟨nX,lQ,q6,-⟩:=bL.form D.2;have hz:r.f.2.1.data.toList.length=r.f.2.1.size:=rfl;rw[q6,hz]at d2;obtain⟨-,-,-,-,-,-,e6,e7,-⟩:=dM j.1;have mg:okF r.f:=HK.out _ (Aai (kM R));have hb:=keptN_bd mg h1 h2;obtain⟨n,hn⟩:=AbC hb.1
    have HC:Hid (∀W:F,aL wr W->H K 211 #[U (M ⟨r.b,0,O⟩),I V (uP s.one s.rest r.f)] W λe w'=>e=G (.tuple #[])/\∃y,TM w w' db s (Z (M ⟨g,0,O⟩) rs.length d) rs (k+1) y):=λW X=>by
     rw[hn];refine(XP (n:=n) (⟨(X.block _ (aM D.1)).trans D.1,D.2.aN X⟩:iB W r) (by omega) (by unfold okF at mg;omega)).mono ?_;rintro e w' ⟨rfl,E,hF,kR,Yp⟩;refine⟨rfl,done++ [(r.b,E,gQ s.one s.rest r.f)],?_⟩;have XQ:gQ s.one s.rest r.f=(r.f.1,r.f.2.1.extract 0 n,(n:Int)):=(by unfold gQ;rw[hn];rfl);rw[XQ];obtain⟨A,S⟩:=(j.aN X).Mj (r':=(r.b,E,(r.f.1,r.f.2.1.extract 0 n,(n:Int)))) XO rfl (kR.1.mono λb e=>Aac e) kR.2 hF (Aab Yp)
     have Fg:(done++rs.drop k).set k (r.b,E,(r.f.1,r.f.2.1.extract 0 n,(n:Int)))=(done++ [(r.b,E,(r.f.1,r.f.2.1.extract 0 n,(n:Int)))])++rs.drop (k+1):=by
      rw[AbV _ _ (by omega),N,AcW,AaI];congr 1;rw[AaQ Q];rfl
     rw[Fg]at A S;refine⟨by simp[N],?_,A,(L.aN X).trans S⟩;have:plain (done++ [(r.b,E,(r.f.1,r.f.2.1.extract 0 n,(n:Int)))])=plain done++ [(r.f.1,r.f.2.1.extract 0 n,(n:Int))]:=(by simp[plain,FR.f]);rw[this,q2,<-XQ,Aau (by rw[bP];exact Q),AaR]
     have jX:(plain rs)[k]'(by rw[bP];exact Q)=r.f:=by
      have:=kM R;exact(Aae.1 this).2
     rw[jX];rfl
    have i1:(0:Int)<=(k:Int):=(by omega);have i2:(k:Int)<(rs.length:Int):=(by omega);unfold okF at mg
    have t:Hid (uP s.one s.rest r.f=r.f.2.2+min (if r.f.1=1 then s.one else s.rest) ((r.f.2.1.size:Int)-r.f.2.2)):=by
     show _=_;unfold uP;split<;>split<;>omega
    clear R XO D o hc df N q2 j L z u EP HL HS gV hn hb q6 hz;have z1:IntKind.i64.wrap ((r.f.2.1.size:Int)-r.f.2.2)=(r.f.2.1.size:Int)-r.f.2.2:=(by rw[AaC];omega);by_cases B:r.f.1=1
    ·have ho:(r.f.1==1)=true:=(by simp[B]);rw[Aad B]at t;have z2:IntKind.i64.wrap (r.f.2.2+min s.one ((r.f.2.1.size:Int)-r.f.2.2))=uP s.one s.rest r.f:=(by rw[t.out,AaC];omega);clear B;go_upto_region 6 with fail;have G0:=aL.refl wr
     go_region_with (first|(go_at_call 211;refine(HC.out _ (by repeat (first|assumption|refine aL.drew ?_))).mono ?_;rintro e w5 ⟨rfl,dn,hL⟩))
     all_goals go_wp2_with fail
     all_goals go_roundw
     all_goals first
      |(case rel=>exact⟨k+1,dn,by go_num,by omega,hL⟩)
      |(case measure=>simp[intOf];omega)
    ·have ho:(r.f.1==1)=false:=(by simp[B]);rw[Aaa B]at t;have z2:IntKind.i64.wrap (r.f.2.2+min s.rest ((r.f.2.1.size:Int)-r.f.2.2))=uP s.one s.rest r.f:=(by rw[t.out,AaC];omega);clear B;go_upto_region 6 with fail;have G0:=aL.refl wr
     go_region_with (first|(go_at_call 211;refine(HC.out _ (by repeat (first|assumption|refine aL.drew ?_))).mono ?_;rintro e w5 ⟨rfl,dn,hL⟩))
     all_goals go_wp2_with fail
     all_goals go_roundw
     all_goals first
      |(case rel=>exact⟨k+1,dn,by go_num,by omega,hL⟩)
      |(case measure=>simp[intOf];omega)
  ·obtain rfl:k=rs.length:=by omega
   have J:done++rs.drop rs.length=done:=(by simp);rw[J]at j L;obtain⟨-,a4,-⟩:=dM j.1;have a1:=TL j.2.1 j.2.2.1 (by omega);have HD:Hid (aU wr db s (Z x rs.length d) done):=j;have a0:Hid (Dk w wr (DX db (Z x rs.length d) rs) (DX db (Z x rs.length d) done)):=L
   have HP:Hid (plain done=(plain rs).map (gQ s.one s.rest)):=by
    show _=_;rw[q2,Aaq (by rw[bP];omega)]
   have Mh:=j.1;clear N q2 j L HL HS gV J;go_wp2_with fail;refine a1.mono ?_;rintro e w2 ⟨v2,rfl,A,S,p3,p4⟩;have a2:Hid (iL w2 v2 (Rc done)):=A;obtain⟨Yk,yP,rfl,-⟩:=iL.form A
   have P:w2.heap[db]?=M (jO s (Z x rs.length d)):=p3.at Mh (λe=>by
    obtain⟨c,hc⟩:=iH HD.out.2.1 e;exact aZ Mh hc (by decide) rfl)
   obtain⟨-,k1,-,-,-,-,-,-,kf⟩:=dM P;have a5:=kf 1;clear A kf;go_wp2_with fail;go_end0;obtain⟨r1,r2⟩:=HD.out.setRow p3 p4 a2.out S (AbA) rfl;refine⟨rfl,_,Rc done,r1,?_,a0.out.trans r2⟩;rw[<-HP.out];unfold Rc plain;rw[List.filter_map];congr 1
end Go.Proofs.YtfplgfodoiiobabGreatDoor
