/- KpC, KpD, KpE, KpF (joined). -/
import Derived.Test.YtfplgfodoiiobaaGreatDoorJ31
import Derived.Test.YtfplgfodoiiobaaGreatDoorJ32
open Option renaming none→O,some→M
namespace Go.Proofs.YtfplgfodoiiobaaGreatDoor
variable {m m':bR}{buf nZ size a b n c:Int}{X:List Int}{depth d:Nat}{t:Tm}{l r:List UInt8}{rs:List (List UInt8)}{s:ByteArray}
theorem Ag (h:bQ n)(l:List UInt8):eP (dQ n++l)=n:=by
 unfold bQ at h;simp only[dQ,Gg,List.map_cons,List.map_nil,List.cons_append,List.nil_append,eP];rw[lX (by omega) (by omega),lX (by omega) (by omega),lX (by omega) (by omega),lX (by omega) (by omega)];omega
theorem uG (h:bQ n)(l:List UInt8):bM (dQ n++l,false)=(n,(l,false)):=by
 unfold bM;rw[if_neg (by simp[bL])];simp only;rw[Ag h,List.drop_left' (bL n)]
theorem Vy {p:Prop}[Decidable p]{r:Sn}(h:¬p):gX p r=r:=by unfold gX;rw[if_neg h]
theorem ND (hs:size<=1000000000):∀(l:List (Int×Int)) (rest:List UInt8),lV size l->sZ l.length size (l.flatMap IZ++rest,false)=(l,(rest,false))
 | [],rest,_=>rfl
 |p::l,rest,h=>by
  obtain⟨p1,p2,p3,p4⟩:=h p (by simp);rw[List.length_cons];unfold sZ;rw[if_neg (by simp)];simp only[List.flatMap_cons,IZ,List.append_assoc];rw[uG (by unfold bQ;omega)];simp only;rw[uG (by unfold bQ;omega)];simp only;rw[Vy (by omega),ND hs l rest (fun q hq=>h q (by simp[hq]))]
theorem Ci (hs:size<=1000000000){l:List (Int×Int)}(h:lV size l)(hl:l.length<=4096)(hz:sz l<=5000)(rest:List UInt8):eD size (oZ l++rest,false)=(l,(rest,false)):=by
 unfold eD oZ;rw[List.append_assoc,uG (by unfold bQ;omega)];simp only;rw[Vy (by omega),Int.toNat_natCast,ND hs l rest h];simp only;rw[Vy (by omega)]
def okEd (size:Int)(e:Ed):Prop:=bQ e.1/\(lV size e.2.1/\e.2.1.length<=4096/\sz e.2.1<=5000)/\(lV size e.2.2/\e.2.2.length<=4096/\sz e.2.2<=5000)
theorem NE (hs:size<=1000000000):∀(l:List Ed) (rest:List UInt8),(∀e∈l,okEd size e)->sD l.length size (l.flatMap Vq++rest,false)=(l,(rest,false))
 | [],rest,_=>rfl
 |e::l,rest,h=>by
  obtain⟨e1,⟨a1,a2,a3⟩,b1,b2,b3⟩:=h e (by simp);rw[List.length_cons];unfold sD;rw[if_neg (by simp)];simp only[List.flatMap_cons,Vq,List.append_assoc];rw[uG e1];simp only;rw[Ci hs a1 a2 a3];simp only;rw[Ci hs b1 b2 b3];simp only;rw[NE hs l rest (fun q hq=>h q (by simp[hq]))]
theorem Tt (hs:size<=1000000000){l:List Ed}(h:∀e∈l,okEd size e)(hl:l.length<=50)(rest:List UInt8):jL size (mU l++rest,false)=(l,(rest,false)):=by
 unfold jL mU;rw[List.append_assoc,uG (by unfold bQ;omega)];simp only;rw[Vy (by omega),Int.toNat_natCast,NE hs l rest h]
structure okCk (m:bR)(depth:Nat):Prop where
 dN:dJ m depth
 dep:depth<=50
 done:m.2.2.2.1<=1000000000
 few:∀e,(e∈m.2.1\/e∈m.2.2.1)->okEd m.2.2.2.2 e
theorem JD (ep:Int)(m:bR):25<=(BP ep m).length/\(zC ep m).length=(BP ep m).length+4:=by
 have h1:(BP ep m).length=13+(4+8*m.1.length)+(mU m.2.1).length+(mU m.2.2.1).length:=by
  unfold BP;rw[List.length_append,List.length_append,List.length_append,qZ,Af _ _ _ (Nat.le_refl 3)]
 have h2:∀l:List Ed,4<=(mU l).length:=fun l=>by unfold mU;rw[List.length_append,bL];omega
 have:=h2 m.2.1;have:=h2 m.2.2.1;refine⟨by omega,?_⟩;unfold zC;rw[List.length_append,bL]
theorem JE (cr:List UInt8->Int)(ql:∀l,bQ (cr l)){ep:Int}(h:okCk m depth)(h1:1<=ep)(h2:ep<=999)(hb:m.2.2.2.2<=buf)(S:List UInt8)(hS:S=BP ep m++dQ (cr (BP ep m))):
 (let body:=S.take (S.length-4)
  let e:=bM (body.drop 1,false)
  let d:=bM e.2
  let b:=bM d.2
  let t:=eD b.1 b.2
  let u:=jL b.1 t.2
  let r:=jL b.1 u.2
  if eP (S.drop (S.length-4))=cr body/\r.2.2=false/\r.2.1=[]/\1<=e.1/\e.1<=999/\d.1<=1000000000/\b.1<=buf/\oG (u.1.map pU) (sz t.1)=true/\oG (r.1.map lK) (sz t.1)=true
  then M (e.1,(t.1,u.1.take depth,r.1.take depth,d.1,b.1))else O)=M (ep,m):=by
 obtain⟨g,hd,rR,hf⟩:=h;have hl:S.length-4=(BP ep m).length:=by rw[hS,List.length_append,bL];omega
 have ht:S.take (S.length-4)=BP ep m:=by rw[hl,hS];exact List.take_left' rfl
 have hdr:S.drop (S.length-4)=dQ (cr (BP ep m))++ []:=by rw[hl,hS,List.drop_left' rfl,List.append_nil]
 have hbd:=g.tC;have lG:=g.yT;have hdn0:=g.done
 have hk:(BP ep m).drop 1=dQ ep++(dQ m.2.2.2.1++(dQ m.2.2.2.2++(oZ m.1++(mU m.2.1++(mU m.2.2.1++ []))))):=by
  simp[BP,Xr,List.append_assoc]
 simp only;rw[ht,hdr,Ag (ql _),hk,uG (by unfold bQ;omega)];simp only;rw[uG (by unfold bQ;omega)];simp only;rw[uG (by unfold bQ;omega)];simp only;rw[Ci (by omega) g.text g.few g.long];simp only;rw[Tt (by omega) (fun e he=>hf e (Or.inl he)) (Nat.le_trans g.Br hd)];simp only;rw[Tt (by omega) (fun e he=>hf e (Or.inr he)) (Nat.le_trans g.Gq hd)];simp only;rw[if_pos ⟨trivial,trivial,trivial,h1,h2,rR,hb,g.Qo,g.Yu⟩,List.take_of_length_le g.Br,List.take_of_length_le g.Gq]
theorem YB {ep:Int}(h:okCk m depth)(h1:1<=ep)(h2:ep<=999)(hb:m.2.2.2.2<=buf)(hs:s.data.toList=zC ep m):lM s buf depth=M (ep,m):=by
 obtain⟨l1,l2⟩:=JD ep m;have hz:s.size=(zC ep m).length:=by rw[<-hs];simp
 have hh:s.data.toList.head?=M 75:=by rw[hs];simp[zC,BP,Xr]
 unfold lM;rw[if_neg (by omega),if_neg (fun hx=>hx.elim (fun hx=>by omega) (fun hx=>hx hh)),hs,hz];exact JE jR Gh h h1 h2 hb (zC ep m) rfl
theorem JF (buf:Int)(depth:Nat)(h:s.size=0):lM s buf depth=M (0,([],[],[],0,0)):=by unfold lM;rw[if_pos h]
theorem JG {x:Int×bR}(h:lM s buf depth=M x)(hb:buf<=nZ):lM s nZ depth=M x:=by
 unfold lM at h ⊢;split at h
 ·rename_i e;rw[if_pos e];exact h
 rename_i e1;rw[if_neg e1];split at h
 ·cases h
 rename_i e2;rw[if_neg e2];simp only at h ⊢;split at h
 ·rename_i e3;obtain⟨a1,a2,a3,a4,a5,a6,a7,a8⟩:=e3;rw[if_pos ⟨a1,a2,a3,a4,a5,a6,by omega,a8⟩];exact h
 ·cases h
theorem zn {kind:Int}(hk0:0<=kind)(TA:kind<256)(hd:bQ (m.2.2.2.1+1))(ha:bQ a)(hb:bQ b)(hc:bQ c)(ho:tX m buf kind a b c=true)(XP:(gQ m kind a b c 5000 depth).2=0)(rest:List UInt8):
 oM m ((fU kind (m.2.2.2.1+1) a b c).data.toList++rest) buf depth=M (gQ m kind a b c 5000 depth).1:=by
 have hl:(fU kind (m.2.2.2.1+1) a b c).data.toList.length=22:=by rw[Nf];rfl
 have e:(fU kind (m.2.2.2.1+1) a b c).data.toList++rest=[74,UInt8.ofNat kind.toNat]++(dQ (m.2.2.2.1+1)++(dQ a++(dQ b++(dQ c++(dQ (jR (Qr kind (m.2.2.2.1+1) a b c))++rest))))):=by
  rw[Nf];simp only[Qr,List.append_assoc]
 have e1:(((((fU kind (m.2.2.2.1+1) a b c).data.toList++rest).drop 1).headD 0).toNat:Int)=kind:=by
  rw[e];simp only[List.cons_append,List.nil_append,List.drop_succ_cons,List.drop_zero,List.headD_cons];exact lX hk0 TA
 have d2:∀l:List UInt8,([74,UInt8.ofNat kind.toNat]++l).drop 2=l:=fun l=>rfl
 have d4:∀(n:Int) (l:List UInt8),(dQ n++l).drop 4=l:=fun n l=>List.drop_left' (bL n)
 have e2:eP (((fU kind (m.2.2.2.1+1) a b c).data.toList++rest).drop 2)=m.2.2.2.1+1:=by
  rw[e,d2,Ag hd]
 have e3:eP (((fU kind (m.2.2.2.1+1) a b c).data.toList++rest).drop 6)=a:=by
  rw[e,show(6:Nat)=2+4 from rfl,<-List.drop_drop,d2,d4,Ag ha]
 have e4:eP (((fU kind (m.2.2.2.1+1) a b c).data.toList++rest).drop 10)=b:=by
  rw[e,show(10:Nat)=2+4+4 from rfl,<-List.drop_drop,<-List.drop_drop,d2,d4,d4,Ag hb]
 have e5:eP (((fU kind (m.2.2.2.1+1) a b c).data.toList++rest).drop 14)=c:=by
  rw[e,show(14:Nat)=2+4+4+4 from rfl,<-List.drop_drop,<-List.drop_drop,<-List.drop_drop,d2,d4,d4,d4,Ag hc]
 unfold oM;rw[if_neg (by rw[List.length_append];omega)];simp only;rw[e1,e2,e3,e4,e5,List.take_left' hl,if_pos ⟨rfl,rfl,ho,XP⟩]
theorem Cj (h:l.length<22):oM m l buf depth=O:=by unfold oM;rw[if_pos h]
theorem Ky {l':List UInt8}{k:Nat}(h:l.take (k+4)=l'.take (k+4)):eP (l.drop k)=eP (l'.drop k):=by
 have e:∀x:List UInt8,eP x=eP (x.take 4):=fun x=>by
  rcases x with _|⟨a,_|⟨b,_|⟨c,_|⟨d,x⟩⟩⟩⟩<;>rfl
 have e2:∀x:List UInt8,(x.drop k).take 4=(x.take (k+4)).drop k:=fun x=>by rw[List.drop_take,show k+4-k=4 from by omega]
 rw[e (l.drop k),e (l'.drop k),e2,e2,h]
theorem YC {l':List UInt8}(h:l.take 22=l'.take 22)(h1:22<=l.length)(h2:22<=l'.length):oM m l buf depth=oM m l' buf depth:=by
 have pre:∀k,k<=22->l.take k=l'.take k:=fun k hk=>by
  have:=congrArg (List.take k) h;rwa[List.take_take,List.take_take,Nat.min_eq_left hk]at this
 have hd:(l.drop 1).headD 0=(l'.drop 1).headD 0:=by
  rcases l with _|⟨a,_|⟨b,l⟩⟩
  ·simp at h1
  ·simp at h1
  rcases l' with _|⟨a',_|⟨b',l'⟩⟩
  ·simp at h2
  ·simp at h2
  have:=pre 2 (by omega);simp at this;simp[this]
 unfold oM;rw[if_neg (Nat.not_lt.2 h1),if_neg (Nat.not_lt.2 h2),h,hd,Ky (k:=2) (pre 6 (by omega)),Ky (k:=6) (pre 10 (by omega)),Ky (k:=10) (pre 14 (by omega)),Ky (k:=14) (pre 18 (by omega))]
def Ao (buf:Int)(d:Nat):bR->List (List UInt8)->Option bR
 |m,[]=>M m
 |m,r::rs=>match oM m r buf d with
  |none=>O
  |some m'=>Ao buf d m' rs
theorem zF (h:oM m r buf d=M m'):Ao buf d m (r::rs)=Ao buf d m' rs:=by rw[Ao,h]
theorem Kz (h:Ao buf d m (r::rs)=M m'):∃m1,oM m r buf d=M m1/\Ao buf d m1 rs=M m':=by
 rw[Ao]at h;cases e:oM m r buf d with
 |none=>rw[e]at h;cases h
 |some m1=>rw[e]at h;exact⟨m1,rfl,h⟩
theorem CB:∀ {rs:List (List UInt8)} {m m1 m2:bR},Ao buf d m rs=M m1->oM m1 r buf d=M m2->Ao buf d m (rs++ [r])=M m2
 | [],m,m1,m2,h1,h2=>by cases h1;rw[List.nil_append,zF h2];rfl
 |r0::rs,m,m1,m2,h1,h2=>by
  obtain⟨m',e,h1⟩:=Kz h1;rw[List.cons_append,zF e];exact CB h1 h2
theorem JH {kind:Int}(h:tX m buf kind a b c=true)(hb:buf<=nZ):tX m nZ kind a b c=true:=by
 unfold tX at h ⊢;simp only[Bool.or_eq_true,Bool.and_eq_true,decide_eq_true_eq]at h ⊢;rcases h with(⟨⟨h1,h2⟩,h3⟩|h)|h
 ·exact Or.inl (Or.inl ⟨⟨h1,h2⟩,by omega⟩)
 ·exact Or.inl (Or.inr h)
 ·exact Or.inr h
theorem CF (h:oM m l buf d=M m'):22<=l.length/\∃kind a b c,tX m buf kind a b c=true/\(gQ m kind a b c 5000 d).2=0/\m'=(gQ m kind a b c 5000 d).1/\∀nZ,oM m l nZ d=if tX m nZ kind a b c=true then M m' else O:=by
 have h0:22<=l.length:=by
  rcases Nat.lt_or_ge l.length 22 with hl|hl
  ·rw[Cj hl]at h;cases h
  ·exact hl
 refine⟨h0,(((l.drop 1).headD 0).toNat:Int),eP (l.drop 6),eP (l.drop 10),eP (l.drop 14),?_⟩
 have hu:∀nZ,oM m l nZ d=if l.take 22=(fU (((l.drop 1).headD 0).toNat:Int) (m.2.2.2.1+1) (eP (l.drop 6)) (eP (l.drop 10)) (eP (l.drop 14))).data.toList/\eP (l.drop 2)=m.2.2.2.1+1/\tX m nZ (((l.drop 1).headD 0).toNat:Int) (eP (l.drop 6)) (eP (l.drop 10)) (eP (l.drop 14))=true/\(gQ m (((l.drop 1).headD 0).toNat:Int) (eP (l.drop 6)) (eP (l.drop 10)) (eP (l.drop 14)) 5000 d).2=0 then M (gQ m (((l.drop 1).headD 0).toNat:Int) (eP (l.drop 6)) (eP (l.drop 10)) (eP (l.drop 14)) 5000 d).1 else O:=fun nZ=>by
  unfold oM;rw[if_neg (by omega)]
 rw[hu]at h;split at h
 ·rename_i hc;obtain⟨c1,c2,c3,c4⟩:=hc;cases h
  refine⟨c3,c4,rfl,fun nZ=>?_⟩;rw[hu];by_cases hk:tX m nZ (((l.drop 1).headD 0).toNat:Int) (eP (l.drop 6)) (eP (l.drop 10)) (eP (l.drop 14))=true
  ·rw[if_pos ⟨c1,c2,hk,c4⟩,if_pos hk]
  ·rw[if_neg (fun hx=>hk hx.2.2.1),if_neg hk]
 ·cases h
theorem QX (h:oM m l buf d=M m')(hb:buf<=nZ):oM m l nZ d=M m':=by
 obtain⟨-,kind,a,b,c,h1,-,-,h4⟩:=CF h;rw[h4,if_pos (JH h1 hb)]
theorem QY {m1 m2:bR}(h1:oM m l buf d=M m1)(h2:oM m l nZ d=M m2):m2=m1:=by
 obtain⟨-,kind,a,b,c,-,-,-,h4⟩:=CF h1;rw[h4]at h2;split at h2
 ·cases h2;rfl
 ·cases h2
theorem CG (hb:buf<=nZ):∀ {rs:List (List UInt8)} {m m1:bR},Ao buf d m rs=M m1->Ao nZ d m rs=M m1
 | [],m,m1,h=>h
 |r::rs,m,m1,h=>by
  obtain⟨m',e,h⟩:=Kz h;rw[zF (QX e hb)];exact CG hb h
theorem CJ (h:∀r∈rs,r.length=22):rs.flatten.length=22*rs.length:=by
 induction rs with
 |nil=>rfl
 |cons r rs ih=>
  rw[List.flatten_cons,List.length_append,ih (fun q hq=>h q (by simp[hq])),h r (by simp),List.length_cons];omega
theorem Oo:∀(rs:List (List UInt8)) (m m':bR) (n fuel:Nat),(∀r∈rs,r.length=22)->Ao buf d m rs=M m'->n<=22*rs.length->n / 22<fuel->
 ∃j mj,22*j<=n/\Ao buf d m (rs.take j)=M mj/\nP nZ d fuel m (rs.flatten.take n)=(mj,j)/\∀i mi,22*i<=n->Ao nZ d m (rs.take i)=M mi->i<=j
 |rs,m,m',n,0,_,_,_,hf=>by omega
 | [],m,m',n,fuel+1,_,_,hn,_=>by
  refine⟨0,m,by omega,rfl,?_,fun i mi hi _=>by simp at hn;omega⟩;rw[nP,Cj (by simp)]
 |r::rs,m,m',n,fuel+1,h,hr,hn,hf=>by
  obtain⟨m1,e1,hr⟩:=Kz hr;have hl:=h r (by simp);rw[List.length_cons]at hn;by_cases jo:n<22
  ·refine⟨0,m,by omega,rfl,?_,fun i mi hi _=>by omega⟩;rw[nP,Cj (by rw[List.length_take];omega)]
  ·have et:(r::rs).flatten.take n=r++rs.flatten.take (n-22):=by
    rw[List.flatten_cons,List.take_append,hl,List.take_of_length_le (by omega)]
   have ed:(r++rs.flatten.take (n-22)).drop 22=rs.flatten.take (n-22):=List.drop_left' hl;have eq:oM m (r++rs.flatten.take (n-22)) nZ d=oM m r nZ d:=YC (by rw[List.take_left' hl,List.take_of_length_le (by omega)]) (by rw[List.length_append];omega) (by omega);rw[et,nP,eq,ed];cases e2:oM m r nZ d with
   |none=>
    refine⟨0,m,by omega,rfl,rfl,fun i mi hi hm=>?_⟩;cases i with
    |zero=>omega
    |succ i=>
     rw[List.take_succ_cons]at hm;obtain⟨m2,e3,-⟩:=Kz hm;rw[e3]at e2;cases e2
   |some m2=>
    have:=QY e1 e2;subst this;obtain⟨j,mj,j1,j2,j3,j4⟩:=Oo rs m2 m' (n-22) fuel (fun q hq=>h q (by simp[hq])) hr (by omega) (by omega);refine⟨j+1,mj,by omega,by rw[List.take_succ_cons,zF e1];exact j2,?_,fun i mi hi hm=>?_⟩
    ·simp only;rw[j3]
    ·cases i with
     |zero=>omega
     |succ i=>
      rw[List.take_succ_cons,zF e2]at hm;have:=j4 i mi (by omega) hm;omega
theorem JI (h:∀r∈rs,r.length=22)(hr:Ao buf d m rs=M m'):nP buf d (rs.flatten.length / 22+1) m rs.flatten=(m',rs.length):=by
 have hl:=CJ h;obtain⟨j,mj,j1,j2,j3,j4⟩:=Oo (nZ:=buf) rs m m' rs.flatten.length (rs.flatten.length / 22+1) h hr (by omega) (by omega);have:=j4 rs.length m' (by omega) (by rw[List.take_length];exact hr);have hj:j=rs.length:=by omega
 subst hj;rw[List.take_length]at j2 j3;rw[j2]at hr;cases hr
 exact j3
def kM (X:List Int)(l:List (Int×Int)):Prop:=∀p∈l,p.1∈X
theorem kM.mono {aA:List Int}{l:List (Int×Int)}(h:kM X l)(hs:∀x∈X,x∈aA):kM aA l:=fun p hp=>hs _ (h p hp)
theorem vW (X:List Int):kM X []:=fun p hp=>by simp at hp
theorem xA {a b:List (Int×Int)}(ha:kM X a)(hb:kM X b):kM X (a++b):=fun p hp=>by
 rcases List.mem_append.1 hp with h|h
 ·exact ha p h
 ·exact hb p h
theorem Oq {l:List (Int×Int)}(h:kM X l):∀n:Int,kM X (cB l n):=by
 induction l with
 |nil=>intro n;simpa[cB]using h
 |cons p l ih=>
  intro n;have hl:kM X l:=fun q hq=>h q (by simp[hq])
  have hp:=h p (by simp);simp only[cB];split
  ·exact vW X
  ·split
   ·intro q hq;rcases List.mem_cons.1 hq with rfl|hq
    ·exact hp
    ·exact ih hl _ q hq
   ·intro q hq;rw[List.mem_singleton]at hq;subst hq;exact hp
theorem Ot (l:List (Int×Int)):∀n:Int,∃x,∀X,kM X l->kM (x::X) (bH l n):=by
 induction l with
 |nil=>intro n;exact⟨0,fun X h p hp=>by simp[bH]at hp⟩
 |cons p l ih=>
  intro n;simp only[bH];split
  ·exact⟨0,fun X h q hq=>List.mem_cons_of_mem _ (h q hq)⟩
  ·split
   ·obtain⟨x,hx⟩:=ih (n-p.2);exact⟨x,fun X h=>hx X (fun q hq=>h q (by simp[hq]))⟩
   ·refine⟨p.1+n,fun X h q hq=>?_⟩;rcases List.mem_cons.1 hq with rfl|hq
    ·simp
    ·exact List.mem_cons_of_mem _ (h q (by simp[hq]))
theorem Vz (l:List (Int×Int))(pos:Int)(more:List (Int×Int)):∃x,∀X,kM X l->kM X more->kM (x::X) (bY l pos more):=by
 obtain⟨x,hx⟩:=Ot l pos;refine⟨x,fun X h hm=>?_⟩;unfold bY;split
 ·exact h.mono (fun _ hz=>List.mem_cons_of_mem _ hz)
 ·exact xA (xA ((Oq h pos).mono (fun _ hz=>List.mem_cons_of_mem _ hz)) (hm.mono (fun _ hz=>List.mem_cons_of_mem _ hz))) (hx X h)
theorem Wd (l:List (Int×Int))(pos n:Int):∃x y,∀X,kM X l->kM (x::y::X) (bU l pos n).1/\kM (x::y::X) (bU l pos n).2:=by
 obtain⟨y,hy⟩:=Ot l pos;obtain⟨x,hx⟩:=Ot (bH l pos) n;refine⟨x,y,fun X h=>?_⟩;unfold bU;split
 ·exact⟨h.mono (fun _ hz=>List.mem_cons_of_mem _ (List.mem_cons_of_mem _ hz)),vW _⟩
 ·have h1:=hy X h;refine⟨xA ((Oq h pos).mono (fun _ hz=>List.mem_cons_of_mem _ (List.mem_cons_of_mem _ hz))) (hx _ h1),?_⟩;exact(Oq h1 n).mono (fun _ hz=>List.mem_cons_of_mem _ hz)
theorem Wh {l:List (Int×Int)}(hb:kM X l)(hp:∀p∈l,1<=p.2)(hn:(fl l).Nodup):l.length<=X.length:=by
 have key:(l.map (fun p=>p.1)).Nodup:=by
  induction l with
  |nil=>simp
  |cons p l ih=>
   rw[fl,List.nodup_append]at hn;obtain⟨-,h2,h3⟩:=hn;rw[List.map_cons,List.nodup_cons];refine⟨fun hm=>?_,ih (fun q hq=>hb q (by simp[hq])) (fun q hq=>hp q (by simp[hq])) h2⟩;obtain⟨q,hq,e⟩:=List.mem_map.1 hm;have a1:=hp p (by simp);have a2:=hp q (by simp[hq]);have m1:p.1∈(List.range p.2.toNat).map (fun k:Nat=>p.1+(k:Int)):=List.mem_map.2 ⟨0,List.mem_range.2 (by omega),by simp⟩
   have m2:p.1∈fl l:=by
    clear h2 h3 hb ih m1 hm hp
    induction l with
    |nil=>simp at hq
    |cons r l ih=>
     rw[fl,List.mem_append];rcases List.mem_cons.1 hq with rfl|hq
     ·exact Or.inl (List.mem_map.2 ⟨0,List.mem_range.2 (by omega),by simp[e]⟩)
     ·exact Or.inr (ih hq)
   exact h3 _ m1 _ m2 rfl
 have:=List.Nodup.length_le_of_subset key (l₂:=X) (fun x hx=>by obtain⟨p,hp,rfl⟩:=List.mem_map.1 hx;exact hb p hp);simpa using this
structure NG (m:bR)(t:Tm)(X:List Int):Prop where
 txt:kM X m.1
 eds:∀e,(e∈m.2.1\/e∈m.2.2.1)->kM X e.2.1/\kM X e.2.2/\(e.2.1=[]\/e.2.2=[])
 nd:t.1.Nodup
 ndu:∀g∈t.2.1,g.Nodup
 ndr:∀g∈t.2.2.1,g.Nodup
theorem sub1 (x:Int):∀z∈X,z∈x::X:=fun _ h=>List.mem_cons_of_mem _ h
theorem JJ (x y:Int):∀z∈X,z∈x::y::X:=fun _ h=>List.mem_cons_of_mem _ (List.mem_cons_of_mem _ h)
theorem zo (x y z:Int):∀u∈X,u∈x::y::z::X:=fun _ h=>List.mem_cons_of_mem _ (JJ _ _ _ h)
theorem zq {most:Int}(hg:dJ m depth)(hr:Xi m t)(hc:NG m t X)(hb:b=m.2.2.2.2)(h:(sW m a b c most depth).2=0):
 ∃x y,NG (sW m a b c most depth).1 (Bv t ((fl m.1).take a.toNat++fl [(b,c)]++(fl m.1).drop a.toNat) depth) (x::y::X):=by
 obtain⟨x,hx⟩:=Vz m.1 a [(b,c)];refine⟨x,b,?_⟩
 have hnd:((fl m.1).take a.toNat++fl [(b,c)]++(fl m.1).drop a.toNat).Nodup:=by
  have h1:(fl m.1).Nodup:=by rw[<-hr.text];exact hc.nd
  have Eg:=Zb hg.text;have e:((fl m.1).take a.toNat++(fl m.1).drop a.toNat).Nodup:=by rw[List.take_append_drop];exact h1
  rw[List.nodup_append]at e;obtain⟨e1,e2,e3⟩:=e
  have hf:∀k∈fl [(b,c)],b<=k:=fun k hk=>by
   rw[Uu,List.mem_map]at hk;obtain⟨i,-,rfl⟩:=hk;simp only;omega
  have hfn:(fl [(b,c)]).Nodup:=by
   rw[Uu,List.nodup_iff_pairwise_ne,List.pairwise_map];refine List.Pairwise.imp ?_ (List.nodup_iff_pairwise_ne.1 List.nodup_range);intro i j N_;simp only;omega
  rw[List.append_assoc,List.nodup_append];refine⟨e1,?_,?_⟩
  ·rw[List.nodup_append];refine⟨hfn,e2,fun k hk j hj=>?_⟩;have:=hf k hk;have:=Eg j (List.mem_of_mem_drop hj);omega
  ·intro k hk j hj;rcases List.mem_append.1 hj with hj|hj
   ·have:=hf j hj;have:=Eg k (List.mem_of_mem_take hk);omega
   ·exact e3 k hk j hj
 unfold sW at h ⊢;split at h
 ·cases h
 rename_i h1;rw[if_neg h1];split at h
 ·cases h
 rename_i h2;rw[if_neg h2];split at h
 ·cases h
 rename_i h3;rw[if_neg h3];split at h
 ·cases h
 rename_i h4;rw[if_neg h4];have bX:kM (b::X) [(b,c)]:=fun p hp=>by rw[List.mem_singleton]at hp;subst hp;simp
 refine⟨hx _ (hc.txt.mono (sub1 b)) bX,fun e he=>?_,hnd,fun g hg=>?_,fun g hg=>by simp[Bv]at hg⟩
 ·rcases he with he|he
  ·rcases List.mem_cons.1 (List.mem_of_mem_take he)with rfl|he
   ·exact⟨vW _,bX.mono (sub1 x),Or.inl rfl⟩
   ·obtain⟨e1,e2,e3⟩:=hc.eds e (Or.inl he);exact⟨e1.mono (JJ _ _),e2.mono (JJ _ _),e3⟩
  ·simp at he
 ·rcases List.mem_cons.1 (List.mem_of_mem_take hg)with rfl|hg
  ·exact hc.nd
  ·exact hc.ndu g hg
theorem zu (hr:Xi m t)(hc:NG m t X)(h:(yA m a b depth).2=0):
 ∃x y,NG (yA m a b depth).1 (Bv t ((fl m.1).take a.toNat++(fl m.1).drop (a+b).toNat) depth) (x::y::X):=by
 obtain⟨x,y,hx⟩:=Wd m.1 a b;refine⟨x,y,?_⟩;obtain⟨x1,x2⟩:=hx X hc.txt;unfold yA at h ⊢;split at h
 ·cases h
 rename_i h1;rw[if_neg h1];split at h
 ·cases h
 rename_i h2;rw[if_neg h2]
 have hnd:((fl m.1).take a.toNat++(fl m.1).drop (a+b).toNat).Nodup:=by
  have h1:(fl m.1).Nodup:=by rw[<-hr.text];exact hc.nd
  refine List.Nodup.sublist ?_ h1;have e:fl m.1=(fl m.1).take a.toNat++(fl m.1).drop a.toNat:=(List.take_append_drop _ _).symm;refine List.Sublist.trans (l₂:=(fl m.1).take a.toNat++(fl m.1).drop a.toNat) (List.Sublist.append_left ?_ _) (by rw[<-e];exact List.Sublist.refl _);rw[show(a+b).toNat=a.toNat+b.toNat from by omega,<-List.drop_drop];exact List.drop_sublist _ _
 refine⟨x1,fun e he=>?_,hnd,fun g hg=>?_,fun g hg=>by simp[Bv]at hg⟩
 ·rcases he with he|he
  ·rcases List.mem_cons.1 (List.mem_of_mem_take he)with rfl|he
   ·exact⟨x2,vW _,Or.inr rfl⟩
   ·obtain⟨e1,e2,e3⟩:=hc.eds e (Or.inl he);exact⟨e1.mono (JJ _ _),e2.mono (JJ _ _),e3⟩
  ·simp at he
 ·rcases List.mem_cons.1 (List.mem_of_mem_take hg)with rfl|hg
  ·exact hc.nd
  ·exact hc.ndu g hg
theorem YD (hr:Xi m t)(hc:NG m t X)(h:(pK m depth).2=0):
 ∃x y z,NG (pK m depth).1 (xR t depth) (x::y::z::X):=by
 obtain⟨l,us,rs,dn,bf⟩:=m;obtain⟨tx,tu,tr,td⟩:=t;obtain⟨r1,r2,r3,r4,r5,r6⟩:=hr;obtain⟨c1,c2,c3,c4,c5⟩:=hc;simp only at*;unfold pK at h ⊢;cases us with
 |nil=>simp only at h;cases h
 |cons e us=>
  simp only at h ⊢;split at h
  ·cases h
  rename_i hf;rw[if_neg hf];obtain⟨e1,e2,e3⟩:=c2 e (Or.inl (by simp));obtain⟨y,z,hyz⟩:=Wd l e.1 (sz e.2.2);obtain⟨x,hx⟩:=Vz (bU l e.1 (sz e.2.2)).1 e.1 e.2.1;refine⟨x,y,z,hx _ (hyz X c1).1 (e1.mono (JJ _ _)),fun q hq=>?_,?_,?_,?_⟩
  ·simp only at hq
   have:q∈e::us\/q∈rs:=by
    rcases hq with hq|hq
    ·exact Or.inl (by simp[hq])
    ·rcases List.mem_cons.1 (List.mem_of_mem_take hq)with rfl|hq
     ·exact Or.inl (by simp)
     ·exact Or.inr hq
   obtain⟨q1,q2,q3⟩:=c2 q this;exact⟨q1.mono (zo _ _ _),q2.mono (zo _ _ _),q3⟩
  ·rw[r2];simp only[xR,gF];exact c4 _ (by rw[r2];simp[gF])
  ·rw[r2];simp only[xR,gF];intro g hg;exact c4 g (by rw[r2];simp[gF,hg])
  ·rw[r2];simp only[xR,gF];intro g hg;rcases List.mem_cons.1 (List.mem_of_mem_take hg)with rfl|hg
   ·exact c3
   ·exact c5 g hg
theorem YE (hr:Xi m t)(hc:NG m t X)(h:(pO m depth).2=0):
 ∃x y z,NG (pO m depth).1 (xS t depth) (x::y::z::X):=by
 obtain⟨l,us,rs,dn,bf⟩:=m;obtain⟨tx,tu,tr,td⟩:=t;obtain⟨r1,r2,r3,r4,r5,r6⟩:=hr;obtain⟨c1,c2,c3,c4,c5⟩:=hc;simp only at*;unfold pO at h ⊢;cases rs with
 |nil=>simp only at h;cases h
 |cons e rs=>
  simp only at h ⊢;split at h
  ·cases h
  rename_i hf;rw[if_neg hf];obtain⟨e1,e2,e3⟩:=c2 e (Or.inr (by simp));obtain⟨y,z,hyz⟩:=Wd l e.1 (sz e.2.1);obtain⟨x,hx⟩:=Vz (bU l e.1 (sz e.2.1)).1 e.1 e.2.2;refine⟨x,y,z,hx _ (hyz X c1).1 (e2.mono (JJ _ _)),fun q hq=>?_,?_,?_,?_⟩
  ·simp only at hq
   have:q∈us\/q∈e::rs:=by
    rcases hq with hq|hq
    ·rcases List.mem_cons.1 (List.mem_of_mem_take hq)with rfl|hq
     ·exact Or.inr (by simp)
     ·exact Or.inl hq
    ·exact Or.inr (by simp[hq])
   obtain⟨q1,q2,q3⟩:=c2 q this;exact⟨q1.mono (zo _ _ _),q2.mono (zo _ _ _),q3⟩
  ·rw[r3];simp only[xS,gN];exact c5 _ (by rw[r3];simp[gN])
  ·rw[r3];simp only[xS,gN];intro g hg;rcases List.mem_cons.1 (List.mem_of_mem_take hg)with rfl|hg
   ·exact c3
   ·exact c4 g hg
  ·rw[r3];simp only[xS,gN];intro g hg;exact c5 g (by rw[r3];simp[gN,hg])
theorem CK {f come:List Int}{p:Int}(h:(oJ f p n come).Nodup):come.Nodup:=by
 unfold oJ at h;rw[List.append_assoc,List.nodup_append]at h;have:=h.2.1;rw[List.nodup_append]at this;exact this.1
theorem NH {f g:List Int}{a n:Nat}(h:f.Nodup)(e:(f.drop a).take n=g):g.Nodup:=by
 rw[<-e];exact(h.sublist (List.drop_sublist _ _)).sublist (List.take_sublist _ _)
theorem nodU:∀(us:List Ed) (f:List Int),f.Nodup->Mt f us->(∀g∈gF f us,g.Nodup)->∀e∈us,(fl e.2.1).Nodup/\(fl e.2.2).Nodup
 | [],_,_,_,_,e,he=>by simp at he
 |d::us,f,hf,hu,hc,e,he=>by
  have h1:(vN d f).Nodup:=hc _ (by simp[gF]);rcases List.mem_cons.1 he with rfl|he
  ·exact⟨CK h1,NH hf hu.1.2.2⟩
  ·exact nodU us (vN d f) h1 hu.2 (fun g hg=>hc g (by simp[gF,hg])) e he
theorem nodR:∀(us:List Ed) (f:List Int),f.Nodup->Mv f us->(∀g∈gN f us,g.Nodup)->∀e∈us,(fl e.2.1).Nodup/\(fl e.2.2).Nodup
 | [],_,_,_,_,e,he=>by simp at he
 |d::us,f,hf,hu,hc,e,he=>by
  have h1:(Dx d f).Nodup:=hc _ (by simp[gN]);rcases List.mem_cons.1 he with rfl|he
  ·exact⟨NH hf hu.1.2.2,CK h1⟩
  ·exact nodR us (Dx d f) h1 hu.2 (fun g hg=>hc g (by simp[gN,hg])) e he
theorem Wi (hg:dJ m depth)(hr:Xi m t)(hc:NG m t X):m.1.length<=X.length/\∀e,(e∈m.2.1\/e∈m.2.2.1)->e.2.1.length<=X.length/\e.2.2.length<=X.length:=by
 have h1:(fl m.1).Nodup:=by rw[<-hr.text];exact hc.nd
 refine⟨Wh hc.txt (fun p hp=>(hg.text p hp).1) h1,fun e he=>?_⟩;obtain⟨b1,b2,-⟩:=hc.eds e he
 have hn:(fl e.2.1).Nodup/\(fl e.2.2).Nodup:=by
  rcases he with he|he
  ·exact nodU m.2.1 (fl m.1) h1 hr.fu (by rw[<-hr.lN];exact hc.ndu) e he
  ·exact nodR m.2.2.1 (fl m.1) h1 hr.fr (by rw[<-hr.nT];exact hc.ndr) e he
 have hi:lV m.2.2.2.2 e.2.1/\lV m.2.2.2.2 e.2.2:=by
  rcases he with he|he
  ·exact(hg.lN e he).2
  ·exact(hg.nT e he).2
 exact⟨Wh b1 (fun p hp=>(hi.1 p hp).1) hn.1,Wh b2 (fun p hp=>(hi.2 p hp).1) hn.2⟩
theorem JK:∀(l:List (Int×Int×Int)) (n:Int),oG l n=true->n<=5000->(∀e∈l,0<=e.1/\0<=e.2.1/\0<=e.2.2)->∀e∈l,e.1<=5000/\e.2.1<=5000/\e.2.2<=5000
 | [],_,_,_,_,e,he=>by simp at he
 |(p,a,b)::l,n,h,hn,hp,e,he=>by
  rw[lW]at h;obtain⟨h1,h2,h3⟩:=h;have q:=hp (p,a,b) (by simp);simp only at q;rcases List.mem_cons.1 he with rfl|he
  ·simp only;omega
  ·exact JK l _ h3 h2 (fun d hd=>hp d (by simp[hd])) e he
theorem ck_can (hg:dJ m depth)(hr:Xi m t)(hc:NG m t X)(hX:X.length<=4096)(hd:depth<=50)(rR:m.2.2.2.1<=1000000000):okCk m depth:=by
 refine⟨hg,hd,rR,fun e he=>?_⟩;obtain⟨l1,l2⟩:=(Wi hg hr hc).2 e he;rcases he with he|he
 ·obtain⟨p0,i1,i2⟩:=hg.lN e he
  have:=JK _ _ hg.Qo hg.long (fun d hd=>by
   obtain⟨q,hq,rfl⟩:=List.mem_map.1 hd;obtain⟨q0,q1,q2⟩:=hg.lN q hq;exact⟨q0,oI q2,oI q1⟩) (pU e) (List.mem_map.2 ⟨e,he,rfl⟩)
  unfold pU at this;simp only at this;exact⟨by unfold bQ;omega,⟨i1,by omega,this.2.2⟩,i2,by omega,this.2.1⟩
 ·obtain⟨p0,i1,i2⟩:=hg.nT e he
  have:=JK _ _ hg.Yu hg.long (fun d hd=>by
   obtain⟨q,hq,rfl⟩:=List.mem_map.1 hd;obtain⟨q0,q1,q2⟩:=hg.nT q hq;exact⟨q0,oI q1,oI q2⟩) (lK e) (List.mem_map.2 ⟨e,he,rfl⟩)
  unfold lK at this;simp only at this;exact⟨by unfold bQ;omega,⟨i1,by omega,this.2.1⟩,i2,by omega,this.2.2⟩
theorem Tv {l:List Ed}(h:∀e∈l,e.2.1.length<=X.length/\e.2.2.length<=X.length/\(e.2.1=[]\/e.2.2=[])):(mU l).length<=4+l.length*(12+8*X.length):=by
 unfold mU;rw[List.length_append,bL]
 have:(l.flatMap Vq).length<=l.length*(12+8*X.length):=by
  induction l with
  |nil=>simp
  |cons e l ih=>
   have hi:=ih (fun q hq=>h q (by simp[hq]));obtain⟨h1,h2,h3⟩:=h e (by simp)
   have he:(Vq e).length<=12+8*X.length:=by
    unfold Vq;rw[List.length_append,List.length_append,bL,qZ,qZ];rcases h3 with h3|h3<;>rw[h3]<;>simp<;>omega
   rw[List.flatMap_cons,List.length_append,List.length_cons,Nat.succ_mul];omega
 omega
theorem YF (ep:Int)(hg:dJ m depth)(hr:Xi m t)(hc:NG m t X)(hX:X.length<=370)(hd:depth<=50):(zC ep m).length<=301000:=by
 obtain⟨c1,c2⟩:=Wi hg hr hc;have hu:=hg.Br;have SY:=hg.Gq;have b1:=Tv (X:=X) (l:=m.2.1) (fun e he=>⟨(c2 e (Or.inl he)).1,(c2 e (Or.inl he)).2,(hc.eds e (Or.inl he)).2.2⟩);have b2:=Tv (X:=X) (l:=m.2.2.1) (fun e he=>⟨(c2 e (Or.inr he)).1,(c2 e (Or.inr he)).2,(hc.eds e (Or.inr he)).2.2⟩)
 have h1:(BP ep m).length=13+(4+8*m.1.length)+(mU m.2.1).length+(mU m.2.2.1).length:=by
  unfold BP;rw[List.length_append,List.length_append,List.length_append,qZ,Af _ _ _ (Nat.le_refl 3)]
 have m1:m.2.1.length*(12+8*X.length)<=50*2972:=Nat.mul_le_mul (by omega) (by omega);have m2:m.2.2.1.length*(12+8*X.length)<=50*2972:=Nat.mul_le_mul (by omega) (by omega);rw[(JD ep m).2];omega
end Go.Proofs.YtfplgfodoiiobaaGreatDoor
