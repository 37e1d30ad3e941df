/- KpC, KpD, KpE, KpF (joined). -/
import Derived.Test.YtfplgfodoiiobaaGreatDoorJ26
import Derived.Test.YtfplgfodoiiobaaGreatDoorJ27
open Option renaming none→O,some→M
namespace Go.Proofs.YtfplgfodoiiobaaGreatDoor
variable {m m':bT}{buf oQ size a b n c:Int}{X:List Int}{depth d:Nat}{t:Tm}{l r:List UInt8}{rs:List (List UInt8)}{s:ByteArray}
theorem Be (h:bS n)(l:List UInt8):fC (dV n++l)=n:=by
 unfold bS at h;simp only[dV,Im,List.map_cons,List.map_nil,List.cons_append,List.nil_append,fC];rw[mY (by omega) (by omega),mY (by omega) (by omega),mY (by omega) (by omega),mY (by omega) (by omega)];omega
theorem vN (h:bS n)(l:List UInt8):dX (dV n++l,false)=(n,(l,false)):=by
 unfold dX;rw[if_neg (by simp[bO])];simp only;rw[Be h,List.drop_left' (bO n)]
theorem AL {p:Prop}[Decidable p]{r:Sn}(h:¬p):iZ p r=r:=by unfold iZ;rw[if_neg h]
theorem UO (hs:size<=1000000000):∀(l:List (Int×Int)) (rest:List UInt8),mV size l->Iw l.length size (l.flatMap QB++rest,false)=(l,(rest,false))
 | [],rest,_=>rfl
 |p::l,rest,h=>by
  obtain⟨p1,p2,p3,p4⟩:=h p (by simp);rw[List.length_cons];unfold Iw;rw[if_neg (by simp)];simp only[List.flatMap_cons,QB,List.append_assoc];rw[vN (by unfold bS;omega)];simp only;rw[vN (by unfold bS;omega)];simp only;rw[AL (by omega),UO hs l rest (fun q hq=>h q (by simp[hq]))]
theorem Dt (hs:size<=1000000000){l:List (Int×Int)}(h:mV size l)(hl:l.length<=4096)(hz:sz l<=5000)(rest:List UInt8):jA size (qE l++rest,false)=(l,(rest,false)):=by
 unfold jA qE;rw[List.append_assoc,vN (by unfold bS;omega)];simp only;rw[AL (by omega),Int.toNat_natCast,UO hs l rest h];simp only;rw[AL (by omega)]
def okEd (size:Int)(e:Ed):Prop:=bS e.1/\(mV size e.2.1/\e.2.1.length<=4096/\sz e.2.1<=5000)/\(mV size e.2.2/\e.2.2.length<=4096/\sz e.2.2<=5000)
theorem UQ (hs:size<=1000000000):∀(l:List Ed) (rest:List UInt8),(∀e∈l,okEd size e)->Fj l.length size (l.flatMap Zv++rest,false)=(l,(rest,false))
 | [],rest,_=>rfl
 |e::l,rest,h=>by
  obtain⟨e1,⟨a1,a2,a3⟩,b1,b2,b3⟩:=h e (by simp);rw[List.length_cons];unfold Fj;rw[if_neg (by simp)];simp only[List.flatMap_cons,Zv,List.append_assoc];rw[vN e1];simp only;rw[Dt hs a1 a2 a3];simp only;rw[Dt hs b1 b2 b3];simp only;rw[UQ hs l rest (fun q hq=>h q (by simp[hq]))]
theorem Xi (hs:size<=1000000000){l:List Ed}(h:∀e∈l,okEd size e)(hl:l.length<=50)(rest:List UInt8):jX size (nU l++rest,false)=(l,(rest,false)):=by
 unfold jX nU;rw[List.append_assoc,vN (by unfold bS;omega)];simp only;rw[AL (by omega),Int.toNat_natCast,UQ hs l rest h]
structure okCk (m:bT)(depth:Nat):Prop where
 bK:dM m depth
 QG:depth<=50
 done:m.2.2.2.1<=1000000000
 few:∀e,(e∈m.2.1\/e∈m.2.2.1)->okEd m.2.2.2.2 e
theorem AO (ep:Int)(m:bT):25<=(IX ep m).length/\(xU ep m).length=(IX ep m).length+4:=by
 have h1:(IX ep m).length=13+(4+8*m.1.length)+(nU m.2.1).length+(nU m.2.2.1).length:=by
  unfold IX;rw[List.length_append,List.length_append,List.length_append,sH,Bd _ _ _ (Nat.le_refl 3)]
 have h2:∀l:List Ed,4<=(nU l).length:=fun l=>by unfold nU;rw[List.length_append,bO];omega
 have:=h2 m.2.1;have:=h2 m.2.2.1;refine⟨by omega,?_⟩;unfold xU;rw[List.length_append,bO]
theorem QH (cr:List UInt8->Int)(hcr:∀l,bS (cr l)){ep:Int}(h:okCk m depth)(h1:1<=ep)(h2:ep<=999)(hb:m.2.2.2.2<=buf)(S:List UInt8)(hS:S=IX ep m++dV (cr (IX ep m))):
 (let body:=S.take (S.length-4)
  let e:=dX (body.drop 1,false)
  let d:=dX e.2
  let b:=dX d.2
  let t:=jA b.1 b.2
  let u:=jX b.1 t.2
  let r:=jX b.1 u.2
  if fC (S.drop (S.length-4))=cr body/\r.2.2=false/\r.2.1=[]/\1<=e.1/\e.1<=999/\d.1<=1000000000/\b.1<=buf/\oZ (u.1.map qP) (sz t.1)=true/\oZ (r.1.map mM) (sz t.1)=true
  then M (e.1,(t.1,u.1.take depth,r.1.take depth,d.1,b.1))else O)=M (ep,m):=by
 obtain⟨g,hd,rJ,hf⟩:=h;have hl:S.length-4=(IX ep m).length:=by rw[hS,List.length_append,bO];omega
 have ht:S.take (S.length-4)=IX ep m:=by rw[hl,hS];exact List.take_left' rfl
 have hdr:S.drop (S.length-4)=dV (cr (IX ep m))++ []:=by rw[hl,hS,List.drop_left' rfl,List.append_nil]
 have hbd:=g.uD;have kT:=g.zL;have hdn0:=g.done
 have hk:(IX ep m).drop 1=dV ep++(dV m.2.2.2.1++(dV m.2.2.2.2++(qE m.1++(nU m.2.1++(nU m.2.2.1++ []))))):=by
  simp[IX,DN,List.append_assoc]
 simp only;rw[ht,hdr,Be (hcr _),hk,vN (by unfold bS;omega)];simp only;rw[vN (by unfold bS;omega)];simp only;rw[vN (by unfold bS;omega)];simp only;rw[Dt (by omega) g.text g.few g.long];simp only;rw[Xi (by omega) (fun e he=>hf e (Or.inl he)) (Nat.le_trans g.Da hd)];simp only;rw[Xi (by omega) (fun e he=>hf e (Or.inr he)) (Nat.le_trans g.Iy hd)];simp only;rw[if_pos ⟨trivial,trivial,trivial,h1,h2,rJ,hb,g.Ub,g.EP⟩,List.take_of_length_le g.Da,List.take_of_length_le g.Iy]
theorem yh {ep:Int}(h:okCk m depth)(h1:1<=ep)(h2:ep<=999)(hb:m.2.2.2.2<=buf)(hs:s.data.toList=xU ep m):jE s buf depth=M (ep,m):=by
 obtain⟨l1,l2⟩:=AO ep m;have hz:s.size=(xU ep m).length:=by rw[<-hs];simp
 have hh:s.data.toList.head?=M 75:=by rw[hs];simp[xU,IX,DN]
 unfold jE;rw[if_neg (by omega),if_neg (fun hx=>hx.elim (fun hx=>by omega) (fun hx=>hx hh)),hs,hz];exact QH kH Io h h1 h2 hb (xU ep m) rfl
theorem QI (buf:Int)(depth:Nat)(h:s.size=0):jE s buf depth=M (0,([],[],[],0,0)):=by unfold jE;rw[if_pos h]
theorem xV {x:Int×bT}(h:jE s buf depth=M x)(hb:buf<=oQ):jE s oQ depth=M x:=by
 unfold jE at h ⊢;split at h
 ·rename_i e;rw[if_pos e];exact h
 rename_i e1;rw[if_neg e1];split at h
 ·cases h
 rename_i e2;rw[if_neg e2];simp only at h ⊢;split at h
 ·rename_i e3;obtain⟨a1,a2,a3,a4,a5,a6,a7,a8⟩:=e3;rw[if_pos ⟨a1,a2,a3,a4,a5,a6,by omega,a8⟩];exact h
 ·cases h
theorem UR {kind:Int}(hk0:0<=kind)(TV:kind<256)(hd:bS (m.2.2.2.1+1))(ha:bS a)(hb:bS b)(hc:bS c)(ho:pI m buf kind a b c=true)(wo:(gK m kind a b c 5000 depth).2=0)(rest:List UInt8):
 nI m ((fO kind (m.2.2.2.1+1) a b c).data.toList++rest) buf depth=M (gK m kind a b c 5000 depth).1:=by
 have hl:(fO kind (m.2.2.2.1+1) a b c).data.toList.length=22:=by rw[Pw];rfl
 have e:(fO kind (m.2.2.2.1+1) a b c).data.toList++rest=[74,UInt8.ofNat kind.toNat]++(dV (m.2.2.2.1+1)++(dV a++(dV b++(dV c++(dV (kH (Uf kind (m.2.2.2.1+1) a b c))++rest))))):=by
  rw[Pw];simp only[Uf,List.append_assoc]
 have e1:(((((fO kind (m.2.2.2.1+1) a b c).data.toList++rest).drop 1).headD 0).toNat:Int)=kind:=by
  rw[e];simp only[List.cons_append,List.nil_append,List.drop_succ_cons,List.drop_zero,List.headD_cons];exact mY hk0 TV
 have d2:∀l:List UInt8,([74,UInt8.ofNat kind.toNat]++l).drop 2=l:=fun l=>rfl
 have d4:∀(n:Int) (l:List UInt8),(dV n++l).drop 4=l:=fun n l=>List.drop_left' (bO n)
 have e2:fC (((fO kind (m.2.2.2.1+1) a b c).data.toList++rest).drop 2)=m.2.2.2.1+1:=by
  rw[e,d2,Be hd]
 have e3:fC (((fO kind (m.2.2.2.1+1) a b c).data.toList++rest).drop 6)=a:=by
  rw[e,show(6:Nat)=2+4 from rfl,<-List.drop_drop,d2,d4,Be ha]
 have e4:fC (((fO kind (m.2.2.2.1+1) a b c).data.toList++rest).drop 10)=b:=by
  rw[e,show(10:Nat)=2+4+4 from rfl,<-List.drop_drop,<-List.drop_drop,d2,d4,d4,Be hb]
 have e5:fC (((fO kind (m.2.2.2.1+1) a b c).data.toList++rest).drop 14)=c:=by
  rw[e,show(14:Nat)=2+4+4+4 from rfl,<-List.drop_drop,<-List.drop_drop,<-List.drop_drop,d2,d4,d4,d4,Be hc]
 unfold nI;rw[if_neg (by rw[List.length_append];omega)];simp only;rw[e1,e2,e3,e4,e5,List.take_left' hl,if_pos ⟨rfl,rfl,ho,wo⟩]
theorem Du (h:l.length<22):nI m l buf depth=O:=by unfold nI;rw[if_pos h]
theorem Nz {l':List UInt8}{k:Nat}(h:l.take (k+4)=l'.take (k+4)):fC (l.drop k)=fC (l'.drop k):=by
 have e:∀x:List UInt8,fC x=fC (x.take 4):=fun x=>by
  rcases x with _|⟨a,_|⟨b,_|⟨c,_|⟨d,x⟩⟩⟩⟩<;>rfl
 have e2:∀x:List UInt8,(x.drop k).take 4=(x.take (k+4)).drop k:=fun x=>by rw[List.drop_take,show k+4-k=4 from by omega]
 rw[e (l.drop k),e (l'.drop k),e2,e2,h]
theorem yj {l':List UInt8}(h:l.take 22=l'.take 22)(h1:22<=l.length)(h2:22<=l'.length):nI m l buf depth=nI m l' buf depth:=by
 have pre:∀k,k<=22->l.take k=l'.take k:=fun k hk=>by
  have:=congrArg (List.take k) h;rwa[List.take_take,List.take_take,Nat.min_eq_left hk]at this
 have hd:(l.drop 1).headD 0=(l'.drop 1).headD 0:=by
  rcases l with _|⟨a,_|⟨b,l⟩⟩
  ·simp at h1
  ·simp at h1
  rcases l' with _|⟨a',_|⟨b',l'⟩⟩
  ·simp at h2
  ·simp at h2
  have:=pre 2 (by omega);simp at this;simp[this]
 unfold nI;rw[if_neg (Nat.not_lt.2 h1),if_neg (Nat.not_lt.2 h2),h,hd,Nz (k:=2) (pre 6 (by omega)),Nz (k:=6) (pre 10 (by omega)),Nz (k:=10) (pre 14 (by omega)),Nz (k:=14) (pre 18 (by omega))]
def zW (buf:Int)(d:Nat):bT->List (List UInt8)->Option bT
 |m,[]=>M m
 |m,r::rs=>match nI m r buf d with
  |none=>O
  |some m'=>zW buf d m' rs
theorem zX (h:nI m r buf d=M m'):zW buf d m (r::rs)=zW buf d m' rs:=by rw[zW,h]
theorem Oa (h:zW buf d m (r::rs)=M m'):∃m1,nI m r buf d=M m1/\zW buf d m1 rs=M m':=by
 rw[zW]at h;cases e:nI m r buf d with
 |none=>rw[e]at h;cases h
 |some m1=>rw[e]at h;exact⟨m1,rfl,h⟩
theorem JF:∀ {rs:List (List UInt8)} {m m1 m2:bT},zW buf d m rs=M m1->nI m1 r buf d=M m2->zW buf d m (rs++ [r])=M m2
 | [],m,m1,m2,h1,h2=>by cases h1;rw[List.nil_append,zX h2];rfl
 |r0::rs,m,m1,m2,h1,h2=>by
  obtain⟨m',e,h1⟩:=Oa h1;rw[List.cons_append,zX e];exact JF h1 h2
theorem QJ {kind:Int}(h:pI m buf kind a b c=true)(hb:buf<=oQ):pI m oQ kind a b c=true:=by
 unfold pI at h ⊢;simp only[Bool.or_eq_true,Bool.and_eq_true,decide_eq_true_eq]at h ⊢;rcases h with(⟨⟨h1,h2⟩,h3⟩|h)|h
 ·exact Or.inl (Or.inl ⟨⟨h1,h2⟩,by omega⟩)
 ·exact Or.inl (Or.inr h)
 ·exact Or.inr h
theorem Qx (h:nI m l buf d=M m'):22<=l.length/\∃kind a b c,pI m buf kind a b c=true/\(gK m kind a b c 5000 d).2=0/\m'=(gK m kind a b c 5000 d).1/\∀oQ,nI m l oQ d=if pI m oQ kind a b c=true then M m' else O:=by
 have h0:22<=l.length:=by
  rcases Nat.lt_or_ge l.length 22 with hl|hl
  ·rw[Du hl]at h;cases h
  ·exact hl
 refine⟨h0,(((l.drop 1).headD 0).toNat:Int),fC (l.drop 6),fC (l.drop 10),fC (l.drop 14),?_⟩
 have hu:∀oQ,nI m l oQ d=if l.take 22=(fO (((l.drop 1).headD 0).toNat:Int) (m.2.2.2.1+1) (fC (l.drop 6)) (fC (l.drop 10)) (fC (l.drop 14))).data.toList/\fC (l.drop 2)=m.2.2.2.1+1/\pI m oQ (((l.drop 1).headD 0).toNat:Int) (fC (l.drop 6)) (fC (l.drop 10)) (fC (l.drop 14))=true/\(gK m (((l.drop 1).headD 0).toNat:Int) (fC (l.drop 6)) (fC (l.drop 10)) (fC (l.drop 14)) 5000 d).2=0 then M (gK m (((l.drop 1).headD 0).toNat:Int) (fC (l.drop 6)) (fC (l.drop 10)) (fC (l.drop 14)) 5000 d).1 else O:=fun oQ=>by
  unfold nI;rw[if_neg (by omega)]
 rw[hu]at h;split at h
 ·rename_i hc;obtain⟨c1,c2,c3,c4⟩:=hc;cases h
  refine⟨c3,c4,rfl,fun oQ=>?_⟩;rw[hu];by_cases hk:pI m oQ (((l.drop 1).headD 0).toNat:Int) (fC (l.drop 6)) (fC (l.drop 10)) (fC (l.drop 14))=true
  ·rw[if_pos ⟨c1,c2,hk,c4⟩,if_pos hk]
  ·rw[if_neg (fun hx=>hk hx.2.2.1),if_neg hk]
 ·cases h
theorem Xj (h:nI m l buf d=M m')(hb:buf<=oQ):nI m l oQ d=M m':=by
 obtain⟨-,kind,a,b,c,h1,-,-,h4⟩:=Qx h;rw[h4,if_pos (QJ h1 hb)]
theorem YE {m1 m2:bT}(h1:nI m l buf d=M m1)(h2:nI m l oQ d=M m2):m2=m1:=by
 obtain⟨-,kind,a,b,c,-,-,-,h4⟩:=Qx h1;rw[h4]at h2;split at h2
 ·cases h2;rfl
 ·cases h2
theorem Qy (hb:buf<=oQ):∀ {rs:List (List UInt8)} {m m1:bT},zW buf d m rs=M m1->zW oQ d m rs=M m1
 | [],m,m1,h=>h
 |r::rs,m,m1,h=>by
  obtain⟨m',e,h⟩:=Oa h;rw[zX (Xj e hb)];exact Qy hb h
theorem Gw (h:∀r∈rs,r.length=22):rs.flatten.length=22*rs.length:=by
 induction rs with
 |nil=>rfl
 |cons r rs ih=>
  rw[List.flatten_cons,List.length_append,ih (fun q hq=>h q (by simp[hq])),h r (by simp),List.length_cons];omega
theorem Qz:∀(rs:List (List UInt8)) (m m':bT) (n fuel:Nat),(∀r∈rs,r.length=22)->zW buf d m rs=M m'->n<=22*rs.length->n / 22<fuel->
 ∃j mj,22*j<=n/\zW buf d m (rs.take j)=M mj/\lZ oQ d fuel m (rs.flatten.take n)=(mj,j)/\∀i mi,22*i<=n->zW oQ d m (rs.take i)=M mi->i<=j
 |rs,m,m',n,0,_,_,_,hf=>by omega
 | [],m,m',n,fuel+1,_,_,hn,_=>by
  refine⟨0,m,by omega,rfl,?_,fun i mi hi _=>by simp at hn;omega⟩;rw[lZ,Du (by simp)]
 |r::rs,m,m',n,fuel+1,h,hr,hn,hf=>by
  obtain⟨m1,e1,hr⟩:=Oa hr;have hl:=h r (by simp);rw[List.length_cons]at hn;by_cases h22:n<22
  ·refine⟨0,m,by omega,rfl,?_,fun i mi hi _=>by omega⟩;rw[lZ,Du (by rw[List.length_take];omega)]
  ·have et:(r::rs).flatten.take n=r++rs.flatten.take (n-22):=by
    rw[List.flatten_cons,List.take_append,hl,List.take_of_length_le (by omega)]
   have ed:(r++rs.flatten.take (n-22)).drop 22=rs.flatten.take (n-22):=List.drop_left' hl;have eq:nI m (r++rs.flatten.take (n-22)) oQ d=nI m r oQ d:=yj (by rw[List.take_left' hl,List.take_of_length_le (by omega)]) (by rw[List.length_append];omega) (by omega);rw[et,lZ,eq,ed];cases e2:nI m r oQ d with
   |none=>
    refine⟨0,m,by omega,rfl,rfl,fun i mi hi hm=>?_⟩;cases i with
    |zero=>omega
    |succ i=>
     rw[List.take_succ_cons]at hm;obtain⟨m2,e3,-⟩:=Oa hm;rw[e3]at e2;cases e2
   |some m2=>
    have:=YE e1 e2;subst this;obtain⟨j,mj,j1,j2,j3,j4⟩:=Qz rs m2 m' (n-22) fuel (fun q hq=>h q (by simp[hq])) hr (by omega) (by omega);refine⟨j+1,mj,by omega,by rw[List.take_succ_cons,zX e1];exact j2,?_,fun i mi hi hm=>?_⟩
    ·simp only;rw[j3]
    ·cases i with
     |zero=>omega
     |succ i=>
      rw[List.take_succ_cons,zX e2]at hm;have:=j4 i mi (by omega) hm;omega
theorem Ra (h:∀r∈rs,r.length=22)(hr:zW buf d m rs=M m'):lZ buf d (rs.flatten.length / 22+1) m rs.flatten=(m',rs.length):=by
 have hl:=Gw h;obtain⟨j,mj,j1,j2,j3,j4⟩:=Qz (oQ:=buf) rs m m' rs.flatten.length (rs.flatten.length / 22+1) h hr (by omega) (by omega);have:=j4 rs.length m' (by omega) (by rw[List.take_length];exact hr);have hj:j=rs.length:=by omega
 subst hj;rw[List.take_length]at j2 j3;rw[j2]at hr;cases hr
 exact j3
def lS (X:List Int)(l:List (Int×Int)):Prop:=∀p∈l,p.1∈X
theorem lS.mono {aB:List Int}{l:List (Int×Int)}(h:lS X l)(hs:∀x∈X,x∈aB):lS aB l:=fun p hp=>hs _ (h p hp)
theorem wP (X:List Int):lS X []:=fun p hp=>by simp at hp
theorem xW {a b:List (Int×Int)}(ha:lS X a)(hb:lS X b):lS X (a++b):=fun p hp=>by
 rcases List.mem_append.1 hp with h|h
 ·exact ha p h
 ·exact hb p h
theorem Rb {l:List (Int×Int)}(h:lS X l):∀n:Int,lS X (cO l n):=by
 induction l with
 |nil=>intro n;simpa[cO]using h
 |cons p l ih=>
  intro n;have hl:lS X l:=fun q hq=>h q (by simp[hq])
  have hp:=h p (by simp);simp only[cO];split
  ·exact wP X
  ·split
   ·intro q hq;rcases List.mem_cons.1 hq with rfl|hq
    ·exact hp
    ·exact ih hl _ q hq
   ·intro q hq;rw[List.mem_singleton]at hq;subst hq;exact hp
theorem Rc (l:List (Int×Int)):∀n:Int,∃x,∀X,lS X l->lS (x::X) (bJ l n):=by
 induction l with
 |nil=>intro n;exact⟨0,fun X h p hp=>by simp[bJ]at hp⟩
 |cons p l ih=>
  intro n;simp only[bJ];split
  ·exact⟨0,fun X h q hq=>List.mem_cons_of_mem _ (h q hq)⟩
  ·split
   ·obtain⟨x,hx⟩:=ih (n-p.2);exact⟨x,fun X h=>hx X (fun q hq=>h q (by simp[hq]))⟩
   ·refine⟨p.1+n,fun X h q hq=>?_⟩;rcases List.mem_cons.1 hq with rfl|hq
    ·simp
    ·exact List.mem_cons_of_mem _ (h q (by simp[hq]))
theorem AP (l:List (Int×Int))(pos:Int)(more:List (Int×Int)):∃x,∀X,lS X l->lS X more->lS (x::X) (cB l pos more):=by
 obtain⟨x,hx⟩:=Rc l pos;refine⟨x,fun X h hm=>?_⟩;unfold cB;split
 ·exact h.mono (fun _ hz=>List.mem_cons_of_mem _ hz)
 ·exact xW (xW ((Rb h pos).mono (fun _ hz=>List.mem_cons_of_mem _ hz)) (hm.mono (fun _ hz=>List.mem_cons_of_mem _ hz))) (hx X h)
theorem AQ (l:List (Int×Int))(pos n:Int):∃x y,∀X,lS X l->lS (x::y::X) (bY l pos n).1/\lS (x::y::X) (bY l pos n).2:=by
 obtain⟨y,hy⟩:=Rc l pos;obtain⟨x,hx⟩:=Rc (bJ l pos) n;refine⟨x,y,fun X h=>?_⟩;unfold bY;split
 ·exact⟨h.mono (fun _ hz=>List.mem_cons_of_mem _ (List.mem_cons_of_mem _ hz)),wP _⟩
 ·have h1:=hy X h;refine⟨xW ((Rb h pos).mono (fun _ hz=>List.mem_cons_of_mem _ (List.mem_cons_of_mem _ hz))) (hx _ h1),?_⟩;exact(Rb h1 n).mono (fun _ hz=>List.mem_cons_of_mem _ hz)
theorem AR {l:List (Int×Int)}(hb:lS X l)(hp:∀p∈l,1<=p.2)(hn:(fl l).Nodup):l.length<=X.length:=by
 have key:(l.map (fun p=>p.1)).Nodup:=by
  induction l with
  |nil=>simp
  |cons p l ih=>
   rw[fl,List.nodup_append]at hn;obtain⟨-,h2,h3⟩:=hn;rw[List.map_cons,List.nodup_cons];refine⟨fun hm=>?_,ih (fun q hq=>hb q (by simp[hq])) (fun q hq=>hp q (by simp[hq])) h2⟩;obtain⟨q,hq,e⟩:=List.mem_map.1 hm;have a1:=hp p (by simp);have a2:=hp q (by simp[hq]);have m1:p.1∈(List.range p.2.toNat).map (fun k:Nat=>p.1+(k:Int)):=List.mem_map.2 ⟨0,List.mem_range.2 (by omega),by simp⟩
   have m2:p.1∈fl l:=by
    clear h2 h3 hb ih m1 hm hp
    induction l with
    |nil=>simp at hq
    |cons r l ih=>
     rw[fl,List.mem_append];rcases List.mem_cons.1 hq with rfl|hq
     ·exact Or.inl (List.mem_map.2 ⟨0,List.mem_range.2 (by omega),by simp[e]⟩)
     ·exact Or.inr (ih hq)
   exact h3 _ m1 _ m2 rfl
 have:=List.Nodup.length_le_of_subset key (l₂:=X) (fun x hx=>by obtain⟨p,hp,rfl⟩:=List.mem_map.1 hx;exact hb p hp);simpa using this
structure QK (m:bT)(t:Tm)(X:List Int):Prop where
 txt:lS X m.1
 eds:∀e,(e∈m.2.1\/e∈m.2.2.1)->lS X e.2.1/\lS X e.2.2/\(e.2.1=[]\/e.2.2=[])
 nd:t.1.Nodup
 ndu:∀g∈t.2.1,g.Nodup
 ndr:∀g∈t.2.2.1,g.Nodup
theorem sub1 (x:Int):∀z∈X,z∈x::X:=fun _ h=>List.mem_cons_of_mem _ h
theorem QL (x y:Int):∀z∈X,z∈x::y::X:=fun _ h=>List.mem_cons_of_mem _ (List.mem_cons_of_mem _ h)
theorem sub3 (x y z:Int):∀u∈X,u∈x::y::z::X:=fun _ h=>List.mem_cons_of_mem _ (QL _ _ _ h)
theorem cnt_ins {most:Int}(hg:dM m depth)(hr:Yw m t)(hc:QK m t X)(hb:b=m.2.2.2.2)(h:(rR m a b c most depth).2=0):
 ∃x y,QK (rR m a b c most depth).1 (Df t ((fl m.1).take a.toNat++fl [(b,c)]++(fl m.1).drop a.toNat) depth) (x::y::X):=by
 obtain⟨x,hx⟩:=AP m.1 a [(b,c)];refine⟨x,b,?_⟩
 have hnd:((fl m.1).take a.toNat++fl [(b,c)]++(fl m.1).drop a.toNat).Nodup:=by
  have h1:(fl m.1).Nodup:=by rw[<-hr.text];exact hc.nd
  have Ga:=Po hg.text;have e:((fl m.1).take a.toNat++(fl m.1).drop a.toNat).Nodup:=by rw[List.take_append_drop];exact h1
  rw[List.nodup_append]at e;obtain⟨e1,e2,e3⟩:=e
  have hf:∀k∈fl [(b,c)],b<=k:=fun k hk=>by
   rw[Zb,List.mem_map]at hk;obtain⟨i,-,rfl⟩:=hk;simp only;omega
  have hfn:(fl [(b,c)]).Nodup:=by
   rw[Zb,List.nodup_iff_pairwise_ne,List.pairwise_map];refine List.Pairwise.imp ?_ (List.nodup_iff_pairwise_ne.1 List.nodup_range);intro i j hij;simp only;omega
  rw[List.append_assoc,List.nodup_append];refine⟨e1,?_,?_⟩
  ·rw[List.nodup_append];refine⟨hfn,e2,fun k hk j hj=>?_⟩;have:=hf k hk;have:=Ga j (List.mem_of_mem_drop hj);omega
  ·intro k hk j hj;rcases List.mem_append.1 hj with hj|hj
   ·have:=hf j hj;have:=Ga k (List.mem_of_mem_take hk);omega
   ·exact e3 k hk j hj
 unfold rR at h ⊢;split at h
 ·cases h
 rename_i h1;rw[if_neg h1];split at h
 ·cases h
 rename_i h2;rw[if_neg h2];split at h
 ·cases h
 rename_i h3;rw[if_neg h3];split at h
 ·cases h
 rename_i h4;rw[if_neg h4];have bX:lS (b::X) [(b,c)]:=fun p hp=>by rw[List.mem_singleton]at hp;subst hp;simp
 refine⟨hx _ (hc.txt.mono (sub1 b)) bX,fun e he=>?_,hnd,fun g hg=>?_,fun g hg=>by simp[Df]at hg⟩
 ·rcases he with he|he
  ·rcases List.mem_cons.1 (List.mem_of_mem_take he)with rfl|he
   ·exact⟨wP _,bX.mono (sub1 x),Or.inl rfl⟩
   ·obtain⟨e1,e2,e3⟩:=hc.eds e (Or.inl he);exact⟨e1.mono (QL _ _),e2.mono (QL _ _),e3⟩
  ·simp at he
 ·rcases List.mem_cons.1 (List.mem_of_mem_take hg)with rfl|hg
  ·exact hc.nd
  ·exact hc.ndu g hg
theorem cnt_del (hr:Yw m t)(hc:QK m t X)(h:(yQ m a b depth).2=0):
 ∃x y,QK (yQ m a b depth).1 (Df t ((fl m.1).take a.toNat++(fl m.1).drop (a+b).toNat) depth) (x::y::X):=by
 obtain⟨x,y,hx⟩:=AQ m.1 a b;refine⟨x,y,?_⟩;obtain⟨x1,x2⟩:=hx X hc.txt;unfold yQ at h ⊢;split at h
 ·cases h
 rename_i h1;rw[if_neg h1];split at h
 ·cases h
 rename_i h2;rw[if_neg h2]
 have hnd:((fl m.1).take a.toNat++(fl m.1).drop (a+b).toNat).Nodup:=by
  have h1:(fl m.1).Nodup:=by rw[<-hr.text];exact hc.nd
  refine List.Nodup.sublist ?_ h1;have e:fl m.1=(fl m.1).take a.toNat++(fl m.1).drop a.toNat:=(List.take_append_drop _ _).symm;refine List.Sublist.trans (l₂:=(fl m.1).take a.toNat++(fl m.1).drop a.toNat) (List.Sublist.append_left ?_ _) (by rw[<-e];exact List.Sublist.refl _);rw[show(a+b).toNat=a.toNat+b.toNat from by omega,<-List.drop_drop];exact List.drop_sublist _ _
 refine⟨x1,fun e he=>?_,hnd,fun g hg=>?_,fun g hg=>by simp[Df]at hg⟩
 ·rcases he with he|he
  ·rcases List.mem_cons.1 (List.mem_of_mem_take he)with rfl|he
   ·exact⟨x2,wP _,Or.inr rfl⟩
   ·obtain⟨e1,e2,e3⟩:=hc.eds e (Or.inl he);exact⟨e1.mono (QL _ _),e2.mono (QL _ _),e3⟩
  ·simp at he
 ·rcases List.mem_cons.1 (List.mem_of_mem_take hg)with rfl|hg
  ·exact hc.nd
  ·exact hc.ndu g hg
theorem yu (hr:Yw m t)(hc:QK m t X)(h:(qM m depth).2=0):
 ∃x y z,QK (qM m depth).1 (yG t depth) (x::y::z::X):=by
 obtain⟨l,us,rs,dn,bf⟩:=m;obtain⟨tx,tu,tr,td⟩:=t;obtain⟨r1,r2,r3,r4,r5,r6⟩:=hr;obtain⟨c1,c2,c3,c4,c5⟩:=hc;simp only at*;unfold qM at h ⊢;cases us with
 |nil=>simp only at h;cases h
 |cons e us=>
  simp only at h ⊢;split at h
  ·cases h
  rename_i hf;rw[if_neg hf];obtain⟨e1,e2,e3⟩:=c2 e (Or.inl (by simp));obtain⟨y,z,hyz⟩:=AQ l e.1 (sz e.2.2);obtain⟨x,hx⟩:=AP (bY l e.1 (sz e.2.2)).1 e.1 e.2.1;refine⟨x,y,z,hx _ (hyz X c1).1 (e1.mono (QL _ _)),fun q hq=>?_,?_,?_,?_⟩
  ·simp only at hq
   have:q∈e::us\/q∈rs:=by
    rcases hq with hq|hq
    ·exact Or.inl (by simp[hq])
    ·rcases List.mem_cons.1 (List.mem_of_mem_take hq)with rfl|hq
     ·exact Or.inl (by simp)
     ·exact Or.inr hq
   obtain⟨q1,q2,q3⟩:=c2 q this;exact⟨q1.mono (sub3 _ _ _),q2.mono (sub3 _ _ _),q3⟩
  ·rw[r2];simp only[yG,gH];exact c4 _ (by rw[r2];simp[gH])
  ·rw[r2];simp only[yG,gH];intro g hg;exact c4 g (by rw[r2];simp[gH,hg])
  ·rw[r2];simp only[yG,gH];intro g hg;rcases List.mem_cons.1 (List.mem_of_mem_take hg)with rfl|hg
   ·exact c3
   ·exact c5 g hg
theorem yw (hr:Yw m t)(hc:QK m t X)(h:(qN m depth).2=0):
 ∃x y z,QK (qN m depth).1 (yH t depth) (x::y::z::X):=by
 obtain⟨l,us,rs,dn,bf⟩:=m;obtain⟨tx,tu,tr,td⟩:=t;obtain⟨r1,r2,r3,r4,r5,r6⟩:=hr;obtain⟨c1,c2,c3,c4,c5⟩:=hc;simp only at*;unfold qN at h ⊢;cases rs with
 |nil=>simp only at h;cases h
 |cons e rs=>
  simp only at h ⊢;split at h
  ·cases h
  rename_i hf;rw[if_neg hf];obtain⟨e1,e2,e3⟩:=c2 e (Or.inr (by simp));obtain⟨y,z,hyz⟩:=AQ l e.1 (sz e.2.1);obtain⟨x,hx⟩:=AP (bY l e.1 (sz e.2.1)).1 e.1 e.2.2;refine⟨x,y,z,hx _ (hyz X c1).1 (e2.mono (QL _ _)),fun q hq=>?_,?_,?_,?_⟩
  ·simp only at hq
   have:q∈us\/q∈e::rs:=by
    rcases hq with hq|hq
    ·rcases List.mem_cons.1 (List.mem_of_mem_take hq)with rfl|hq
     ·exact Or.inr (by simp)
     ·exact Or.inl hq
    ·exact Or.inr (by simp[hq])
   obtain⟨q1,q2,q3⟩:=c2 q this;exact⟨q1.mono (sub3 _ _ _),q2.mono (sub3 _ _ _),q3⟩
  ·rw[r3];simp only[yH,gV];exact c5 _ (by rw[r3];simp[gV])
  ·rw[r3];simp only[yH,gV];intro g hg;rcases List.mem_cons.1 (List.mem_of_mem_take hg)with rfl|hg
   ·exact c3
   ·exact c4 g hg
  ·rw[r3];simp only[yH,gV];intro g hg;exact c5 g (by rw[r3];simp[gV,hg])
theorem JG {f come:List Int}{p:Int}(h:(pK f p n come).Nodup):come.Nodup:=by
 unfold pK at h;rw[List.append_assoc,List.nodup_append]at h;have:=h.2.1;rw[List.nodup_append]at this;exact this.1
theorem UU {f g:List Int}{a n:Nat}(h:f.Nodup)(e:(f.drop a).take n=g):g.Nodup:=by
 rw[<-e];exact(h.sublist (List.drop_sublist _ _)).sublist (List.take_sublist _ _)
theorem nodU:∀(us:List Ed) (f:List Int),f.Nodup->Pm f us->(∀g∈gH f us,g.Nodup)->∀e∈us,(fl e.2.1).Nodup/\(fl e.2.2).Nodup
 | [],_,_,_,_,e,he=>by simp at he
 |d::us,f,hf,hu,hc,e,he=>by
  have h1:(wG d f).Nodup:=hc _ (by simp[gH]);rcases List.mem_cons.1 he with rfl|he
  ·exact⟨JG h1,UU hf hu.1.2.2⟩
  ·exact nodU us (wG d f) h1 hu.2 (fun g hg=>hc g (by simp[gH,hg])) e he
theorem nodR:∀(us:List Ed) (f:List Int),f.Nodup->Pn f us->(∀g∈gV f us,g.Nodup)->∀e∈us,(fl e.2.1).Nodup/\(fl e.2.2).Nodup
 | [],_,_,_,_,e,he=>by simp at he
 |d::us,f,hf,hu,hc,e,he=>by
  have h1:(Fv d f).Nodup:=hc _ (by simp[gV]);rcases List.mem_cons.1 he with rfl|he
  ·exact⟨UU hf hu.1.2.2,JG h1⟩
  ·exact nodR us (Fv d f) h1 hu.2 (fun g hg=>hc g (by simp[gV,hg])) e he
theorem AU (hg:dM m depth)(hr:Yw m t)(hc:QK m t X):m.1.length<=X.length/\∀e,(e∈m.2.1\/e∈m.2.2.1)->e.2.1.length<=X.length/\e.2.2.length<=X.length:=by
 have h1:(fl m.1).Nodup:=by rw[<-hr.text];exact hc.nd
 refine⟨AR hc.txt (fun p hp=>(hg.text p hp).1) h1,fun e he=>?_⟩;obtain⟨b1,b2,-⟩:=hc.eds e he
 have hn:(fl e.2.1).Nodup/\(fl e.2.2).Nodup:=by
  rcases he with he|he
  ·exact nodU m.2.1 (fl m.1) h1 hr.fu (by rw[<-hr.lK];exact hc.ndu) e he
  ·exact nodR m.2.2.1 (fl m.1) h1 hr.fr (by rw[<-hr.nJ];exact hc.ndr) e he
 have hi:mV m.2.2.2.2 e.2.1/\mV m.2.2.2.2 e.2.2:=by
  rcases he with he|he
  ·exact(hg.lK e he).2
  ·exact(hg.nJ e he).2
 exact⟨AR b1 (fun p hp=>(hi.1 p hp).1) hn.1,AR b2 (fun p hp=>(hi.2 p hp).1) hn.2⟩
theorem QM:∀(l:List (Int×Int×Int)) (n:Int),oZ l n=true->n<=5000->(∀e∈l,0<=e.1/\0<=e.2.1/\0<=e.2.2)->∀e∈l,e.1<=5000/\e.2.1<=5000/\e.2.2<=5000
 | [],_,_,_,_,e,he=>by simp at he
 |(p,a,b)::l,n,h,hn,hp,e,he=>by
  rw[mW]at h;obtain⟨h1,h2,h3⟩:=h;have q:=hp (p,a,b) (by simp);simp only at q;rcases List.mem_cons.1 he with rfl|he
  ·simp only;omega
  ·exact QM l _ h3 h2 (fun d hd=>hp d (by simp[hd])) e he
theorem ck_can (hg:dM m depth)(hr:Yw m t)(hc:QK m t X)(hX:X.length<=4096)(hd:depth<=50)(rJ:m.2.2.2.1<=1000000000):okCk m depth:=by
 refine⟨hg,hd,rJ,fun e he=>?_⟩;obtain⟨l1,l2⟩:=(AU hg hr hc).2 e he;rcases he with he|he
 ·obtain⟨p0,i1,i2⟩:=hg.lK e he
  have:=QM _ _ hg.Ub hg.long (fun d hd=>by
   obtain⟨q,hq,rfl⟩:=List.mem_map.1 hd;obtain⟨q0,q1,q2⟩:=hg.lK q hq;exact⟨q0,pJ q2,pJ q1⟩) (qP e) (List.mem_map.2 ⟨e,he,rfl⟩)
  unfold qP at this;simp only at this;exact⟨by unfold bS;omega,⟨i1,by omega,this.2.2⟩,i2,by omega,this.2.1⟩
 ·obtain⟨p0,i1,i2⟩:=hg.nJ e he
  have:=QM _ _ hg.EP hg.long (fun d hd=>by
   obtain⟨q,hq,rfl⟩:=List.mem_map.1 hd;obtain⟨q0,q1,q2⟩:=hg.nJ q hq;exact⟨q0,pJ q1,pJ q2⟩) (mM e) (List.mem_map.2 ⟨e,he,rfl⟩)
  unfold mM at this;simp only at this;exact⟨by unfold bS;omega,⟨i1,by omega,this.2.1⟩,i2,by omega,this.2.2⟩
theorem Xk {l:List Ed}(h:∀e∈l,e.2.1.length<=X.length/\e.2.2.length<=X.length/\(e.2.1=[]\/e.2.2=[])):(nU l).length<=4+l.length*(12+8*X.length):=by
 unfold nU;rw[List.length_append,bO]
 have:(l.flatMap Zv).length<=l.length*(12+8*X.length):=by
  induction l with
  |nil=>simp
  |cons e l ih=>
   have hi:=ih (fun q hq=>h q (by simp[hq]));obtain⟨h1,h2,h3⟩:=h e (by simp)
   have he:(Zv e).length<=12+8*X.length:=by
    unfold Zv;rw[List.length_append,List.length_append,bO,sH,sH];rcases h3 with h3|h3<;>rw[h3]<;>simp<;>omega
   rw[List.flatMap_cons,List.length_append,List.length_cons,Nat.succ_mul];omega
 omega
theorem yx (ep:Int)(hg:dM m depth)(hr:Yw m t)(hc:QK m t X)(hX:X.length<=370)(hd:depth<=50):(xU ep m).length<=301000:=by
 obtain⟨c1,c2⟩:=AU hg hr hc;have hu:=hg.Da;have TS:=hg.Iy;have b1:=Xk (X:=X) (l:=m.2.1) (fun e he=>⟨(c2 e (Or.inl he)).1,(c2 e (Or.inl he)).2,(hc.eds e (Or.inl he)).2.2⟩);have b2:=Xk (X:=X) (l:=m.2.2.1) (fun e he=>⟨(c2 e (Or.inr he)).1,(c2 e (Or.inr he)).2,(hc.eds e (Or.inr he)).2.2⟩)
 have h1:(IX ep m).length=13+(4+8*m.1.length)+(nU m.2.1).length+(nU m.2.2.1).length:=by
  unfold IX;rw[List.length_append,List.length_append,List.length_append,sH,Bd _ _ _ (Nat.le_refl 3)]
 have m1:m.2.1.length*(12+8*X.length)<=50*2972:=Nat.mul_le_mul (by omega) (by omega);have m2:m.2.2.1.length*(12+8*X.length)<=50*2972:=Nat.mul_le_mul (by omega) (by omega);rw[(AO ep m).2];omega
end Go.Proofs.YtfplgfodoiiobaaGreatDoor
