/- a part of the proof. -/
import Derived.Test.YtfplgfodoiiobabGreatDoorJ14
import Derived.Test.YtfplgfodoiiobabGreatDoorJ15
open Option renaming none->O,some->M
open Go.Value renaming int->I,slice->Z,pointer->U
open Go.IntKind renaming i64->V
open Go.Obj renaming cells->C
open Go.Ending renaming returned->G
open Go renaming World->F,Value->Y,Calls->H
open Go.Proofs.Tryz renaming prog→K
open Go.Proofs.Tryz
namespace Go.Proofs.YtfplgfodoiiobabGreatDoor
set_option maxHeartbeats 4000000
set_option maxRecDepth 100000
open Go.RowKit
variable {w:F}{s:Sc}{rs:List FR}{fs l:List bD}{m m':dI}{n p room:Int}{db dp tb depth xb bx lo:Nat}{fv:Y}{x y:bT}{f:bD}{r:FR}{g c:List (Int×Int)}{e:Ed}
theorem SA {ao:Option Addr}{la ca:Nat}{l:List (Int×Int)}{pos:Int}(hr:vI w ao l)(e1:la=l.length)(ok:fC l)(hlen:l.length<=8000)(h0:0<=pos)(h1:pos<=sz l)(hn:0<n)(h2:n<=sz l-pos):
 H K 29 #[Z ao la ca,I V pos,I V n] w λe w'=>
  (4096<(zV l pos n).length/\e=G (.tuple #[Z ao la ca,Z O 0 0,I V 13])/\Below w.heap.size w w')
  \/((zV l pos n).length<=4096/\∃v g,e=G (.tuple #[v,g,I V 0])/\fH w' w.heap.size v (zV l pos n)/\fH w' w.heap.size g (uH l pos n)/\Below w.heap.size w w'):=by
 subst e1;have r:=kT ok;go_enter func29,ntmps29;go_wp2_with fail;refine(cB hr rfl ok (by omega)).mono ?_;rintro e w ⟨rfl,rfl⟩;go_wp2_with fail;refine(cB hr rfl ok (by omega)).mono ?_;rintro e w ⟨rfl,rfl⟩;go_wp2_with fail;refine(WR hr rfl ok hlen h0 hn h2).mono ?_;rintro e u ⟨o,g2,rfl,c,a,d⟩;obtain⟨h,j,rfl,t,x⟩:=c.form;by_cases k:4096<(zV l pos n).length
 ·have i:((4096:Int)<((zV l pos n).length:Int)):=by omega
  go_wp2_with fail
  go_ret3
  exact Aac ⟨k,rfl,d⟩
 ·have i:¬((4096:Int)<((zV l pos n).length:Int)):=by omega
  go_wp2_with fail
  go_ret3
  exact Aab ⟨by omega,_,_,rfl,c,a,d⟩
theorem Vb (h:vY l)(hf:f.2.1.size=0){but:Int}(hb:∀g∈l,g.1≠but):qI l f but=jE l f.1:=by
 have d:l.filter (qA f.1 but)=jE l f.1:=by
  unfold jE;refine Adp (λg c=>?_);have:=hb g c;simp[qA,this]
 unfold qI;rw[d,Ot,Aad hf];have e:(jE l f.1).Pairwise (λa b=>a.1<b.1):=h.1.sublist AbA;rw[yY e,AbR];intro g c;have:=h.2 g (Abl.1 c).1;simpa using this
theorem gH.step (h:gH s.room fs)(h1:0<=s.one)(h2:0<=s.rest):gH s.room (dL s fs).2.2:=by
 unfold dL;split
 ·exact h
 ·split
  ·exact h
  ·exact h.crash h1 h2
theorem KM (h:vY l)(n:Int):bX (jE l n)=bX l-((aP l n).size:Int):=by
 rw[fP];obtain⟨A,B,j,i,c⟩:=sZ h.1 n;have o:jE A n=A:=wU (λg a=>by have:=j g a;omega);have k:jE B n=B:=wU (λg a=>by have:=i g a;omega);have r:gK A n=O:=Gy (λg a=>by have:=j g a;omega);have d:gK B n=O:=Gy (λg a=>by have:=i g a;omega);rcases c with rfl|⟨g,e,rfl⟩
 ·rw[lJ,o,k,oL,r,d];simp[EQ]
 ·rw[lJ,o,show g::B=[g]++B from rfl,lJ,k,oL,oL,r,d];have:jE [g] n=[]:=by simp[jE,e]
  have t:gK [g] n=M g:=by simp[gK,e]
  rw[this,t];simp only[rT,bX,Option.none_or,Option.or_none,Abi,Acy,Acf];omega
theorem T_ (h:vY l)(f:bD):bX (jA l f)=bX l-((aP l f.1).size:Int)+(f.2.1.size:Int):=by
 have n:=KM h f.1;rw[<-n];obtain⟨A,B,d,i,c⟩:=sZ h.1 f.1;have k:jE A f.1=A:=wU (λg a=>by have:=d g a;omega);have j:jE B f.1=B:=wU (λg a=>by have:=i g a;omega);rcases c with rfl|⟨g,e,rfl⟩
 ·rw[xQ d i,lJ,k,j];simp only[rT,bX];omega
 ·rw[qY d e,lJ,k,show g::B=[g]++B from rfl,lJ,j];have:jE [g] f.1=[]:=by simp[jE,e]
  rw[this];simp only[rT,bX,Acf];omega
theorem gH.put (h:gH room fs)(hz:f.2.1.size≠0)(kD:okF f)(hn:0<=f.1/\f.1<=9223372036854775807)(hu:bX fs-((aP fs f.1).size:Int)+(f.2.1.size:Int)<=room):gH room (jA fs f):=
 ⟨iw h.sort hz,λg a=>(Cb a).elim (λe=>by rw[e];exact kD) (h.ok g),λg a=>(Cb a).elim (λe=>by rw[e];exact hn) (h.nn g),by rw[T_ h.sort];exact hu⟩
theorem Gz (h:(dL s fs).1=true):(dL s fs).2.2=fs/\((dL s fs).2.1=s\/(0<s.after/\(dL s fs).2.1= { s with after:=s.after-1 })):=by
 rcases Cc s fs with⟨_,e⟩|⟨_,a,e⟩|⟨_,_,e⟩
 ·rw[e];exact⟨rfl,Aac rfl⟩
 ·rw[e];exact⟨rfl,Aab ⟨a,rfl⟩⟩
 ·rw[e]at h;cases h
theorem gH.flush (h:gH room fs)(hf:gK fs n=M f):gH room (jA fs (n,f.2.1,(f.2.1.size:Int))):=by
 obtain⟨d,g⟩:=uQ hf;obtain⟨a,b,c⟩:=h.ok f d;have e:aP fs n=f.2.1:=by rw[fP,hf];rfl
 refine h.put (h.sort.2 f d) ⟨?_,?_,?_⟩ ?_ ?_
 ·simp only;omega
 ·exact AaT _
 ·exact c
 ·have:=h.nn f d;simp only;omega
 ·simp only;rw[e];have:=h.used;omega
theorem Ch (hs:(plain rs).Pairwise (λa b=>a.1<b.1))(n:Int):(∃r,kP (plain rs) n=true/\rs[fF (plain rs) n]?=M r/\r.f.1=n/\aP (plain rs) n=r.f.2.1/\xR rs n=r.v)\/(kP (plain rs) n=false/\aP (plain rs) n=⟨#[]⟩/\xR rs n=Z O 0 0):=by
 cases c:kP (plain rs) n with
 |false=>
  right;refine⟨rfl,?_,by unfold xR;rw[c]⟩;unfold aP;rw[Me hs,c];rfl
 |true=>
  left;obtain⟨r,d,e⟩:=yZ c;refine⟨r,rfl,d,e,?_,by unfold xR;rw[c,d]⟩;unfold aP;rw[Me hs,c];simp only[if_true,kM d,Acy]
theorem After.trans {w1 w2:F}{f f1:bT}(h1:kX w w1 xb f f1)(h2:After w1 w2 xb s fs m f1):After w w2 xb s fs m f:=by
 obtain⟨d,a,c⟩:=h2;exact⟨d,a,h1.trans c⟩
theorem Fb {f:bT}{r':fU}(h:bO w xb s fs m f)(hm:eT w r' m'):
 bO (((((w.setCell ⟨xb,13,O⟩ r'.1.v).setCell ⟨xb,14,O⟩ r'.2.1.v).setCell ⟨xb,15,O⟩ r'.2.2.1.v).setCell ⟨xb,16,O⟩ (I V r'.2.2.2.1)).setCell ⟨xb,17,O⟩ (I V r'.2.2.2.2)) xb s fs m' f/\
 kX w (((((w.setCell ⟨xb,13,O⟩ r'.1.v).setCell ⟨xb,14,O⟩ r'.2.1.v).setCell ⟨xb,15,O⟩ r'.2.2.1.v).setCell ⟨xb,16,O⟩ (I V r'.2.2.2.1)).setCell ⟨xb,17,O⟩ (I V r'.2.2.2.2)) xb f f:=by
 obtain⟨r,a,g,-⟩:=h;have d:=setM_fr w xb r'.1.v r'.2.1.v r'.2.2.1.v (I V r'.2.2.2.1) (I V r'.2.2.2.2);refine⟨⟨r',SY r' a,g.fr d (λb c e=>Gx a _ _ _ _ (by decide) e),hm.fr d (λb c e=>Gx a _ _ _ _ (by decide) e) (λb c e=>Gx a _ _ _ _ (by decide) e)⟩,?_⟩;exact(((((kX.refl w xb f).set).set).set).set).set
theorem kX.Ee {w':F}{f f':bT}{r:fU}(hS:bO w xb s fs m f)(hm:eT w r m')(hd:kX w w' xb f f'):eT w' r m':=by
 obtain⟨u,k,o,-⟩:=hS
 have d:∀(b:Nat) (c:Array Y) (t:TypeId),t≠93->t≠97->w.heap[b]?=M (C c t (0,0))->¬(b=xb\/∃a,f.1=M a/\b=a.block):=by
  intro b c t h i g j;rcases j with rfl|⟨a,e,rfl⟩
  ·exact bF g k (dQ h)
  ·obtain⟨x,n⟩:=o.1.2 a e;exact bF g n (dQ i)
 exact hm.fr hd.1 (λb c e=>d b c _ (by decide) (by decide) e) (λb c e=>d b c _ (by decide) (by decide) e)
theorem XW {ps:Nat->Addr}{nm:ByteArray}{num:Int}{fn:Y}(h:aU w db s fv rs)(hG:Yq w ps)(ha:0<=s.after)(dx:s.after<=9223372036854775807)(hl:rs.length<=1000000)(kD:∀f∈plain rs,okF f)(lV:(plain rs).Pairwise (λa b=>a.1<b.1))
 (h1:0<=s.one)(h2:0<=s.rest)(h3:s.one<=9223372036854775807)(h4:s.rest<=9223372036854775807)(hs:(dL s (plain rs)).1=false):
 H K 185 #[U (M ⟨db,0,O⟩),.string nm,I V num,fn] w λe w'=> ∃v,e=G v/\TP w w' ps db s fv rs v:=by
 obtain⟨c0,c1,c2,c3,A,E,c6,X,R⟩:=dM h.1;have n:=ER A E R ha dx
 have g:s.jV=true:=by
  unfold dL at hs;cases e:s.jV with
  |true=>rfl
  |false=>rw[Aad e]at hs;cases hs
 have hz:s.after<=0:=by
  unfold dL at hs;rw[Aaa (by rw[g];simp)]at hs;split at hs
  ·cases hs
  ·omega
 have B:Ez s.jV s.after=true:=by rw[Vo s ha,g,AaJ (by omega)];rfl
 have P:Hid (dL s (plain rs)=(false,{ s with jV:=false,aX:=false },sJ ((plain rs).map (gQ s.one s.rest)))):=by
  show _=_;unfold dL;rw[Aaa (by rw[g];simp),Aaa (by omega)]
 have d:Hid (sJ ((plain rs).map (gQ s.one s.rest))=((plain rs).map (gQ s.one s.rest)).filter (λf=>f.2.1.size !=0)):=by
  show _=_;refine yY ?_;rw[Adq];exact lV
 rw[B]at n;simp only[if_true]at n;have j:=h.set (BF false h.1);have D:∀b t,w.heap[b]?=M (C t 119 (0,0))->¬b=db:=λb t x=>aZ x h.1 (by decide)
 have Q:Yq (w.setCell ⟨db,4,O⟩ (.bool false)) ps:=hG.fr (Fr.set w ⟨db,4,O⟩ _) D;have i:=lose_pg j hl kD h1 h2 h3 h4;have o:Hid (Dk w (w.setCell ⟨db,4,O⟩ (.bool false)) (DX db fv rs) (DX db fv rs)):=Dk.Qv (Fr.set w ⟨db,4,O⟩ _) ⟨rfl,rfl,rfl⟩ (Aac rfl);have y:Hid (aU (w.setCell ⟨db,4,O⟩ (.bool false)) db { s with jV:=false } fv rs):=j;have zM:Hid (Yq (w.setCell ⟨db,4,O⟩ (.bool false)) ps):=Q;clear h hG c0 c1 c2 c3 A E c6 X R hs g hz B lV kD j D Q;go_enter func185,ntmps185;go_wp2_with (go_at_call 223;refine n.mono ?_;rintro e w1 ⟨rfl,rfl⟩);refine i.mono ?_;rintro e u ⟨rfl,z,L,N,c,J⟩;have S:=zM.out.fr J.1 (λb t x=>y.out.other x (by decide) (by decide) (by decide) (by decide));have W:=S.cell (k:=1) (by omega);have r:Hid (aU u db { s with jV:=false } z L):=N;have LH:Hid _:=c;clear N c;unfold jQ at W;go_wp2_with fail;go_ret;refine⟨_,rfl,⟨u.heap.size,nm,num,rfl,?_⟩,z,L,?_,?_,?_⟩
 ·exact Aag u _
 ·rw[P.out];exact r.out.aN (aO _ _)
 ·rw[P.out,LH.out,d.out]
 ·exact(o.out.trans J).aN (aO _ _)
theorem LP {b0 b1 b2 Ov:Nat}{ad:Addr}{b:ByteArray}(h:aU w db s fv rs)(hs:(plain rs).Pairwise (λa b=>a.1<b.1))(hl:rs.length<=1000000)(hz:∀f∈plain rs,f.2.1.size<=2000000)(hb:b.size<=2000000)
 (c0:w.cell? ⟨b0,0,O⟩=M (U (M ⟨db,0,O⟩)))(c1:w.cell? ⟨b1,0,O⟩=M (I V n))(c2:w.cell? ⟨b2,0,O⟩=M (Z (M ad) b.size Ov))(hr:pX w (M ad) b.data.toList)(hh:kP (plain rs) n=true):
 H K 186 #[U (M ⟨b0,0,O⟩),U (M ⟨b1,0,O⟩),U (M ⟨b2,0,O⟩)] w λe w'=>e=G (.tuple #[])/\AppD w w' db s fv rs n b:=by
 have y:=Cg (n:=n) h hs hl;obtain⟨-,d1,-⟩:=dM h.1;obtain⟨ao,a0,rfl,iW,hm,W,N⟩:=iL.form h.2.1;obtain⟨r,i,hn⟩:=yZ hh;have HD:Hid _:=h;have HS:Hid _:=hs;have HH:Hid _:=hh;rw[hh]at y;have Q:=(Aae.1 i).1;have d:=h.2.2.1 r (Aai i);obtain⟨f0,f1,f2,ff⟩:=iC d.1;have a2:=hz _ (Aai (kM i));cases ao with
 |none=>obtain⟨rfl,-⟩:=W rfl;simp at Q
 |some a=>
  obtain⟨g,aR,rfl,-,-,-,u⟩:=N a rfl;have X:=u _ r i;unfold FR.p at X;obtain⟨B,z,o,-⟩:=bL.form d.2;have P:r.f.2.1.data.toList.length=r.f.2.1.size:=rfl;rw[P]at o;have R:=d.2;have L:Hid _:=o;have LQ:Hid _:=i;rw[o]at f1 R;obtain⟨x,E⟩:∃x,x=fF (plain rs) n:=⟨_,rfl⟩;have a1:Hid _:=E;rw[<-E]at y Q X
  have D:Hid (∀(j:F),w.grownBy j (Value.slice B r.f.2.1.size z).ownBlock->j.heap[r.b]?=M (uR r)):=λj hg=>iP hg d.1 (λe=>by
   rw[<-o]at e;obtain⟨c,Tp,u⟩:=bL.ty d.2 e;exact aZ d.1 u (by decide) rfl)
  have i1:(0:Int)<=(x:Int):=by omega
  have i2:(x:Int)<(rs.length:Int):=by omega
  have A:Hid ((r.f.2.1.data.toList++b.data.toList).length=r.f.2.1.size+b.size):=by show _=_;rw[Aah];rfl
  clear h hs hh N W u i E d o hz ff P;go_enter func186,ntmps186;go_wp2_with fail;refine y.mono ?_;rintro e w ⟨rfl,rfl⟩;go_wp2_with fail
  go_region_law ((refine zB (by rfl) (.tmp 38) (.tmp 39) (by rfl) 0 (Z B r.f.2.1.size z) r.f.2.1.data.toList b.data.toList (by rfl) (by exact R) ad b.size Ov (by rfl) (by rfl) (by exact hr) (by show r.f.2.1.size+b.size<=_;omega) (Aao _) ?_;intro v5 j J k Bn;have S:w.grownBy j (Value.slice B r.f.2.1.size z).ownBlock:=⟨k.os,k.tape,k.output,k.size,k.block⟩;have QM:=D.out j S;obtain⟨-,x1,-,xf⟩:=iC QM;have a3:=xf 1;clear xf;obtain⟨Yk,yP,t,-⟩:=bL.form J;rw[A.out]at t;subst t))
  all_goals go_wp2
  all_goals go_end0
  all_goals exact⟨rfl,app_done HD.out HS.out HH.out rfl LQ.out hn J (by rw[L.out];exact S) (by rw[L.out];exact Bn)⟩
theorem oq (h:aU w db s fv rs)(hr:rs[lo]?=M r)(c0:w.cell? ⟨bx,0,O⟩=M (U (M ⟨db,0,O⟩))):
 H K 194 #[I V (lo:Int),U (M ⟨bx,0,O⟩)] w λe w'=>e=G (.tuple #[])/\DoD w w' db s fv rs ((plain rs).set lo (r.f.1,r.f.2.1,(r.f.2.1.size:Int))):=by
 obtain⟨g,a,rfl,z,-,B,x,j⟩:=h.at hr;have d:=BH j;have t:Hid (aU w db s (Z (M ⟨g,0,O⟩) rs.length a) rs):=h;have k:Hid (rs[lo]?=M r):=hr;have y:(0:Int)<=(lo:Int):=by omega
 have A:(lo:Int)<(rs.length:Int):=by omega
 clear h hr j;go_enter func194,ntmps194;go_wp2_with fail;refine d.mono ?_;rintro e u ⟨rfl,c,i⟩;go_wp2_with fail;go_end0;obtain⟨o,n⟩:=t.out.Mj (r':=(r.b,r.v,(r.f.1,r.f.2.1,(r.f.2.1.size:Int)))) k.out rfl (i.1.mono λb e=>Aac e) i.2 c (Aac rfl);exact⟨rfl,_,_,o,by rw[Hq];rfl,n⟩
theorem TS (h:aU w db s fv rs)(hr:rs[lo]?=M r)(hl:rs.length<=1000000)(c0:w.heap[bx]?=M (C #[U (M ⟨db,0,O⟩)] 111 (0,0))):
 H K 166 #[I V (lo:Int),U (M ⟨bx,0,O⟩)] w λe w'=>e=G (.tuple #[])/\DoD w w' db s fv rs ((plain rs).eraseIdx lo):=by
 obtain⟨g,c,rfl,c1,N,c2,S,J⟩:=h.at hr
 have y:Hid (∀W,aL w W->H K 167 #[Z (M ⟨g,0,O⟩) rs.length c,I V (lo:Int),I V ((lo:Int)+1)] W λe w'=> ∃(k n:Nat),e=G (Z (M ⟨g,0,O⟩) n k)/\w'.cell? ⟨bx,0,O⟩=M (U (M ⟨db,0,O⟩))/\w'.cell? ⟨db,1,O⟩=M (Z (M ⟨g,0,O⟩) rs.length c)/\w'.frozen? ⟨db,1,O⟩=false/\DoD w (w'.setCell ⟨db,1,O⟩ (Z (M ⟨g,0,O⟩) n k)) db s (Z (M ⟨g,0,O⟩) rs.length c) rs ((plain rs).eraseIdx lo)):=λW a=>by
  refine(BJ (h.aN a).2.1 S hl).mono ?_;rintro e w' ⟨v',g',rfl,o,x,d,j⟩;simp[Value.ownBlock]at x;subst x;obtain⟨D,X,P,-,-,-,i⟩:=iL.form o;subst P;cases D with
  |none=>simp[Value.ownBlock]at d
  |some R=>
   obtain⟨g6,u,rfl,-⟩:=i R rfl;simp[Value.ownBlock]at d;subst d;obtain⟨cg,t⟩:=iH (h.aN a).2.1 rfl;have A:=j.1.at (h.aN a).1 (λe=>aZ (h.aN a).1 t (by decide) e);have B:=j.1.at ((a.block _ (aM c0)).trans c0) (λe=>aZ ((a.block _ (aM c0)).trans c0) t (by decide) e);obtain⟨-,m1,-,-,-,-,-,-,E⟩:=dM A;obtain⟨z,Q⟩:=(h.aN a).setRow (j.1.mono λb e=>by rw[e];rfl) j.2 o rfl (AcX rs lo) rfl;refine⟨X,(rs.eraseIdx lo).length,rfl,by simp[World.cell?,B],m1,E 1,_,_,z,?_,(Dk.bZ a).trans Q⟩;unfold plain;rw[oO,oO,AaR,AbE,List.map_drop]
 have a0:w.cell? ⟨bx,0,O⟩=M (U (M ⟨db,0,O⟩)):=by simp[World.cell?,c0]
 have jJ:IntKind.i64.wrap ((lo:Int)+1)=(lo:Int)+1:=by rw[AaC];omega
 clear h hr J c0 c2;go_enter func166,ntmps166
 go_region_law ((refine dD (by rfl) 167 _ _ (by rfl) _ (by simp[Act.eval];done) LZ ((y.out _ (by repeat (first|exact aL.refl _|refine aL.drew ?_))).mono ?_);rintro e w5 ⟨k,n,rfl,y0,y1,y2,L⟩;refine⟨_,rfl,?_⟩))
 all_goals go_wp2_with fail
 all_goals go_end0
 all_goals exact⟨rfl,L⟩
theorem new1c (w:F)(o:Obj):aL w (w.alloc o)/\(w.alloc o).heap[w.heap.size]?=M o:=⟨aL.alloc (aL.refl w) _,Aag w o⟩
theorem BU (hs:(plain rs).Pairwise (λa b=>a.1<b.1))(hh:kP (plain rs) n=true)(hr:rs[fF (plain rs) n]?=M r):aP (plain rs) n=r.f.2.1:=by
 rcases Ch hs n with⟨q,-,c,-,e,-⟩|⟨e,-⟩
 ·rw[hr]at c;cases c;exact e
 ·rw[hh]at e;cases e
theorem BV (hs:(plain rs).Pairwise (λa b=>a.1<b.1))(hh:kP (plain rs) n=false):aP (plain rs) n=⟨#[]⟩:=by
 rcases Ch hs n with⟨q,e,-⟩|⟨-,e,-⟩
 ·rw[hh]at e;cases e
 ·exact e
theorem MB (hs:(plain rs).Pairwise (λa b=>a.1<b.1))(h:(aP (plain rs) n).size≠0):kP (plain rs) n=true:=by
 cases c:kP (plain rs) n with
 |true=>rfl
 |false=>rw[BV hs c]at h;exact absurd rfl h
def lW (s:Sc)(fs:List bD)(n t2:Int):Bool×Sc×List bD:=match gK fs n with
 |none=>(true,s,fs)
 |some f=>let r:=dL s fs;if r.1 then (true,r.2.1,jA (jE fs n) (t2,f.2.1,f.2.2))else r
theorem BZ (h:aW w dp tb depth m)(hx:bJ w x g)(hy:bJ w y c)(hg:fC g)(Dm:g.length<=10000)(JW:c.length<=10000)(hp:0<=p)(hs:p+sz g<=sz m.1)(hz:sz m.1<=100000000):
 H K 205 #[U (M ⟨dp,0,O⟩),.agg #[I V p,x.v,y.v]] w λe w'=>e=G (I V (Vr m.1 p (sz g) c.length))/\aL w w':=by
 have BO:=rY hg;have HB:Hid (∀W,aL w W->H K 160 #[x.v] W λe w'=>e=G (I V (sz g))/\aL W w'):=λW a=>wW (hx.aN a) hg (by omega);have HW:Hid (∀W,aL w W->∀q,-1000000000<=q->q<=1000000000->H K 229 #[U (M ⟨dp,0,O⟩),I V q] W λe w'=>e=G (.bool (jN m.1 q))/\aL W w'):=λW a q h1 h2=>TW (h.aN a) h1 h2;obtain⟨u,r,hb,ht,-⟩:=h;have hm:=ht.ok.2;have kD:=ht.ok.1;have HF:Hid (∀W,aL w W->∀q,H K 31 #[U (M ⟨tb,0,O⟩),I V q] W λe w'=>e=G (.tuple #[.agg #[I V (jU m.1 q).1.1,I V (jU m.1 q).1.2],I V (jU m.1 q).2])/\aL W w'):=λW a q=>Ls (ht.below a);obtain⟨-,c1,c2,-⟩:=cZ hb;have a0:=hy.2.1;obtain⟨x1,x2,x3⟩:=x;obtain⟨y1,y2,y3⟩:=y;simp only at a0;subst a0;simp only[bT.v]at*;obtain⟨o,lY⟩:∃o,o=w.alloc (C #[I V p,Z x1 x2 x3,Z y1 c.length y3] 248):=⟨_,rfl⟩;have Sm:aL w o:=by rw[lY];exact aL.alloc (aL.refl w) _
 have Cr:o.heap[w.heap.size]?=M (C #[I V p,Z x1 x2 x3,Z y1 c.length y3] 248 (0,0)):=by rw[lY];exact Aag w _
 have b0:o.cell? ⟨w.heap.size,0,O⟩=M (I V p):=by simp[World.cell?,Cr]
 have J:o.cell? ⟨w.heap.size,1,O⟩=M (Z x1 x2 x3):=by simp[World.cell?,Cr]
 have E:o.cell? ⟨w.heap.size,2,O⟩=M (Z y1 c.length y3):=by simp[World.cell?,Cr]
 have d1:=Sm.cell c1;have d2:=Sm.cell c2;have YB:Hid (aL w o):=Sm;clear hx hy hb c1 c2 ht Cr Sm;go_enter func205,ntmps205;go_upto_region 1 with fail;rw[<-lY];clear lY
 go_cut [5,6] (λf t wc=>f=I V p/\t=I V (p+sz g)/\Hid (aL o wc))
 case first=>
  have G0:=aL.refl o;have a4:IntKind.i64.wrap (p+sz g)=p+sz g:=by rw[AaC];omega
  go_region_held3 (λw'=>w'.cell? ⟨w.heap.size,0,O⟩=M (I V p)/\w'.cell? ⟨w.heap.size,1,O⟩=M (Z x1 x2 x3)/\w'.cell? ⟨w.heap.size,2,O⟩=M (Z y1 c.length y3)/\w'.cell? ⟨dp,2,O⟩=M (I V (m.1.length:Int))/\aL o w')
   (first|(refine keepD b0 J E d2 ?_;go_split_ands;with_reducible (first|assumption|exact G0|(refine aL.drew ?_;assumption)|(refine aL.then ?_ i;assumption)|(refine aL.then ?_ i;refine aL.drew ?_;assumption))))
   (first|(go_at_call 160;refine(HB.out _ (aL.then YB.out (by go_split_ands;with_reducible (first|assumption|(refine aL.drew ?_;assumption))))).mono ?_;rintro e D ⟨rfl,i⟩))
  all_goals go_wp2
  all_goals go_meet
  all_goals exact⟨rfl,rfl,by show aL o _;go_split_ands;assumption⟩
 case rest=>
  obtain⟨rfl,rfl,A⟩:=hcut
  rename F=>w2
  have e2:=A.out.cell E;have e3:=A.out.cell d2;have e4:=A.out.cell d1;have L:Hid _:=YB.out.then A.out;clear b0 J E d1 d2;by_cases h0:sz g=0
  ·have a3:p+sz g=p:=(by omega);rw[a3];have QN:IntKind.i64.wrap ((m.1.length:Int)+(c.length:Int))=(m.1.length:Int)+(c.length:Int):=(by rw[AaC];omega);by_cases hc:0<c.length
   ·have Yc:(0:Int)<(c.length:Int):=(by omega);have a:=λW a=>HW.out W a p (by omega) (by omega);cases d:jN m.1 p with
    |true=>
     have n:Hid (Vr m.1 p (sz g) c.length=(m.1.length:Int)+(c.length:Int)+1):=(by show _=_;unfold Vr;rw[Aad h0,AaJ hc,d];rfl);rw[d]at a;clear d;go_wp2_with fail;go_quiet (fail);go_wp2_with (go_at_call 229;refine(a _ (bC L.out _)).mono ?_;rintro e D ⟨rfl,i⟩);go_ret;rw[n.out];exact⟨rfl,aL.then (bC L.out _) i⟩
    |false=>
     have n:Hid (Vr m.1 p (sz g) c.length=(m.1.length:Int)+(c.length:Int)):=(by show _=_;unfold Vr;rw[Aad h0,AaJ hc,d];simp);rw[d]at a;clear d;go_wp2_with fail;go_quiet (fail);go_wp2_with (go_at_call 229;refine(a _ (bC L.out _)).mono ?_;rintro e D ⟨rfl,i⟩);go_ret;rw[n.out];exact⟨rfl,aL.then (bC L.out _) i⟩
   ·have Kl:c.length=0:=(by omega);have Yc:¬(0:Int)<(c.length:Int):=(by omega);have n:Hid (Vr m.1 p (sz g) c.length=(m.1.length:Int)+(c.length:Int)):=(by show _=_;unfold Vr;rw[Aad h0,AaM hc];simp);clear Kl;go_wp2_with fail;go_quiet (fail)
    go_wp2
    go_ret;rw[n.out];exact⟨rfl,bC L.out _⟩
  ·have a5:0<sz g:=(by omega);have a6:(p==p+sz g)=false:=(by rw[Aat];omega);have QN:IntKind.i64.wrap ((m.1.length:Int)+(c.length:Int))=(m.1.length:Int)+(c.length:Int):=(by rw[AaC];omega);have n:Hid (Vr m.1 p (sz g) c.length=(m.1.length:Int)+(c.length:Int)+(if jN m.1 p then 1 else 0)+(if jN m.1 (p+sz g)then 1 else 0)-((uH m.1 p (sz g)).length:Int)):=(by show _=_;unfold Vr;rw[Aaa h0]);have BL:=λW a=>HW.out W a p (by omega) (by omega);have XR:=λW a=>HW.out W a (p+sz g) (by omega) (by omega);generalize jN m.1 p=J at BL n;generalize jN m.1 (p+sz g)=E at XR n;go_wp2_with fail;go_quiet (fail);go_upto_region 7 with fail;have f_:Hid (aL w (w2.drewN nq)):=bC L.out _;obtain⟨w3,B⟩:∃w3,w3=w2.drewN nq:=⟨_,rfl⟩;have R:w3.cell? ⟨dp,1,O⟩=M (U (M ⟨tb,0,O⟩)):=(by rw[B];exact e4);rw[<-B]at f_ ⊢;clear B e2 e3 e4 L A;go_upto_if 44 with(go_at_call 229;refine(BL _ f_.out).mono ?_;rintro e D ⟨rfl,i⟩)
   go_cut [7] (λv wc=>v=I V ((m.1.length:Int)+(c.length:Int)+(if J then 1 else 0))/\wc=D)
   case first=>
    cases J with
    |true=>
     go_wp2
     go_meet;exact⟨by simp,rfl⟩
    |false=>
     go_wp2
     go_meet;exact⟨by simp,rfl⟩
   case rest=>
    obtain⟨rfl,rfl⟩:=hcut
    rename F=>w4
    have pu:Hid (aL w3 w4):=i;clear i;have eO:0<=(if J=true then (1:Int)else 0)/\(if J=true then (1:Int)else 0)<=1:=(by split<;>omega);generalize (if J=true then (1:Int)else 0)=z1 at n eO;go_upto_if 49 with(go_at_call 229;refine(XR _ (f_.out.then pu.out)).mono ?_;rintro e D ⟨rfl,i⟩)
    go_cut [7] (λv wc=>v=I V ((m.1.length:Int)+(c.length:Int)+z1+(if E then 1 else 0))/\wc=D)
    case first=>
     cases E with
     |true=>
      go_wp2_with fail;go_meet;exact⟨by simp,rfl⟩
     |false=>
      go_wp2_with fail;go_meet;exact⟨by simp,rfl⟩
    case rest=>
     obtain⟨rfl,rfl⟩:=hcut
     rename F=>D
     have N:Hid (aL w4 D):=i;clear i;have fQ:0<=(if E=true then (1:Int)else 0)/\(if E=true then (1:Int)else 0)<=1:=(by split<;>omega);generalize (if E=true then (1:Int)else 0)=z2 at n fQ;have S:Hid (aL w D):=f_.out.then (pu.out.then N.out);have k1:=(pu.out.then N.out).cell R;clear R f_ pu N BL XR HB HW;have P:=lF kD p;have a1:=nJ kD hp (by omega)
     have HT:Hid (∀k:Nat,k<=(bV m.1 p).length->bV m.1 (p+sz ((bV m.1 p).take k))=(bV m.1 p).drop k):=λk Q=>by
      rw[<-yT kD hp (oP P k).1,tail_drop P k Q]
     have HL:Hid (∀k:Nat,k<=(bV m.1 p).length->(∀j,j<k->sz ((bV m.1 p).take j)<sz g)->sz g<=sz ((bV m.1 p).take k)->(uH m.1 p (sz g)).length=k):=λk Q h1 h2=>head_len P k (sz g) Q h1 h2;have a2:(bV m.1 p).length<=4097:=(by have:=nR m.1 p;omega);generalize bV m.1 p=T at P a1 HT HL a2;go_upto_region 12 with fail
     go_loopw [7,8,9,10] (λcv pv _ _ wr=> ∃k:Nat,k<=T.length/\cv=I V ((m.1.length:Int)+(c.length:Int)+z1+z2-(k:Int))/\pv=I V (p+sz (T.take k))/\Hid (∀j,j<k->sz (T.take j)<sz g)/\Hid (aL D wr)) (λ_ pv _ _ _=>(p+sz g-intOf pv).toNat)
     case atStart=>exact⟨0,Aao _,by simp,by simp[sz],(λj hj=>by omega),aL.refl D⟩
     case round=>
      obtain⟨k,Q,rfl,rfl,HJ,HG⟩:=hrel;have JE:=oP P k;by_cases bQ:sz (T.take k)<sz g
      ·have EX:k<T.length:=by
        by_cases EX:k<T.length
        ·exact EX
        ·rw[Aaq (by omega)]at bQ;omega
       obtain⟨q,hq⟩:∃q,T[k]?=M q:=⟨_,Aaf EX⟩;have X:=P q (Aai hq);unfold nQ at X
       have BN:jU m.1 (p+sz (T.take k))=(q,0):=by
        unfold jU;rw[Aaa (by omega),HT.out k Q,List.head?_drop,hq];rfl
       have gL:=HF.out wr (S.out.then HG.out) (p+sz (T.take k));rw[BN]at gL;have HN:Hid _:=Cv hq;have k2:=HG.out.cell k1;have Od:p+sz (T.take k)<p+sz g:=(by omega);obtain⟨q1,q2⟩:=q;simp only at gL X HN;clear BN hq;have g_:Hid _:=bQ;generalize sz (T.take k)=z at JE bQ Od HN gL;go_wp2_with (go_at_call 31;refine gL.mono ?_;rintro e w7 ⟨rfl,oZ⟩);go_roundw
       case rel=>exact⟨k+1,by omega,by go_num,by rw[HN.out];go_num,(λj hj=>by
        by_cases P_:j=k
        ·subst P_;exact g_.out
        ·exact HJ.out j (by omega)),aL.alloc (HG.out.then oZ) _⟩
       case measure=>simp[intOf];omega
      ·have Qt:=HL.out k Q HJ.out (by omega);have Od:¬p+sz (T.take k)<p+sz g:=(by omega);rw[Qt]at n;go_wp2_with fail;go_ret;rw[n.out];exact⟨rfl,S.out.then HG.out⟩
theorem Vs (h:aW w dp tb depth m)(hx:bJ w x g)(hy:bJ w y c)(hg:fC g)(Dm:g.length<=10000)(JW:c.length<=10000)(hp:0<=p)(hs:p+sz g<=sz m.1)(hz:sz m.1<=100000000):
 H K 214 #[U (M ⟨dp,0,O⟩),.agg #[I V p,x.v,y.v]] w λe w'=>e=G (.bool (decide ((bS (bN m.1 p (sz g)).1 p c).length<=4096)))/\aL w w':=by
 have o:fC m.1:=by obtain⟨_,_,_,k,_⟩:=h;exact k.ok.1
 have a:=λW (d:aL w W)=>BZ (h.aN d) (hx.aN d) (hy.aN d) hg Dm JW hp hs hz;have i:=cnt_ok (came:=c) o hp (rY hg) hs;rw[i]at a;obtain⟨D,t,z⟩:=x;obtain⟨A,E,B⟩:=y;simp only[bT.v]at*
 have j:Hid (decide ((bS (bN m.1 p (sz g)).1 p c).length<=4096)=decide (((bS (bN m.1 p (sz g)).1 p c).length:Int)<=4096)):=by
  show _=_;rw[decide_eq_decide];omega
 clear h hx hy i;generalize (bS (bN m.1 p (sz g)).1 p c).length=n at a j;go_enter func214,ntmps214;go_wp2_with fail;refine(a _ (aL.alloc (aL.refl w) _)).mono ?_;rintro e u ⟨rfl,r⟩
 go_wp2
 go_ret;rw[j.out];exact⟨rfl,(aL.alloc (aL.refl w) _).then r⟩
theorem Vt {q a b c:Int}(h:aW w dp tb depth m)(hx:bJ w x e.2.1)(hy:bJ w y e.2.2)(hf:Dl (sz m.1) e.1 e.2.1 e.2.2)(hz:sz m.1<=5000):
 H K 218 #[U (M ⟨dp,0,O⟩),iN q a b c,.agg #[I V e.1,x.v,y.v]] w λr w'=>r=G (I V (Dy m a b c e))/\aL w w':=by
 obtain⟨o,t,u,B,E,f6⟩:=hf;have j:Hid (∀W,aL w W->H K 214 #[U (M ⟨dp,0,O⟩),.agg #[I V e.1,x.v,y.v]] W λr w'=>r=G (.bool (decide ((bS (bN m.1 e.1 (sz e.2.1)).1 e.1 e.2.2).length<=4096)))/\aL W w'):=λW k=>Vs (h.aN k) (hx.aN k) (hy.aN k) u (by omega) (by omega) o t (by omega);have d:Hid (Dy m a b c e=if ¬(a=0/\b=0/\c=0)then 1 else if 4096<(bS (bN m.1 e.1 (sz e.2.1)).1 e.1 e.2.2).length then 13 else 0):=rfl;generalize (bS (bN m.1 e.1 (sz e.2.1)).1 e.1 e.2.2).length=N at*;generalize Dy m a b c e=R at*;obtain⟨X,D,J⟩:=x;obtain⟨L,y2,Q⟩:=y;obtain⟨P,e2,e3⟩:=e;unfold iN;simp only[bT.v]at*;have i:Hid (aL w ((w.alloc (C #[I .u8 q,I V a,I V b,I V c] 128)).alloc (C #[I V P,Z X D J,Z L y2 Q] 248))):=((aL.refl w).alloc _).alloc _;clear h hx hy o t u B E f6;by_cases g:a=0/\b=0/\c=0
 ·have A:∀w,_=Result.ok true w:=λw=>(eq3 w a b c).trans (by rw[AaJ g]);rw[Aaa (Adt g)]at d;clear g;by_cases z:4096<N
  ·rw[Aad z]at d;rw[AaM (by omega)]at j;go_enter func218,ntmps218;go_wp2_with (first|(go_at_call 214;refine(j.out _ i.out).mono ?_;rintro e S ⟨rfl,n⟩));go_ret;rw[d.out];exact⟨rfl,i.out.then n⟩
  ·rw[Aaa z]at d;rw[AaJ (by omega)]at j;go_enter func218,ntmps218;go_wp2_with (first|(go_at_call 214;refine(j.out _ i.out).mono ?_;rintro e S ⟨rfl,n⟩));go_ret;rw[d.out];exact⟨rfl,i.out.then n⟩
 ·rw[Aad g]at d;have A:∀w,_=Result.ok false w:=λw=>(eq3 w a b c).trans (by rw[AaM g])
  clear g;go_enter func218,ntmps218
  go_wp2
  go_ret;rw[d.out];exact⟨rfl,i.out⟩
theorem Rj (h:aW w dp tb depth m)(he:sI w (p,x,y) e)(hl:m.2.1.length<=100000)(hd:depth<=1000000):
 H K 216 #[U (M ⟨dp,0,O⟩),.agg #[I V p,x.v,y.v]] w λq w'=>q=G (.tuple #[])/\aW w' dp tb depth (m.1,(e::m.2.1).take depth,[],m.2.2.2.1,m.2.2.2.2)/\Dk w w' (TX dp tb) (TX dp tb):=by
 obtain⟨u,r,n,B,E,hr⟩:=h
 have HP:Hid (∀W,aL w W->H K 219 #[.agg #[I V p,x.v,y.v],u.v,I V (depth:Int)] W λq w'=> ∃c g d,q=G (Z c g d)/\w'.cell? ⟨dp,3,O⟩=M u.v/\w'.cell? ⟨dp,4,O⟩=M r.v/\w'.frozen? ⟨dp,3,O⟩=false/\w'.frozen? ⟨dp,4,O⟩=false/\aW ((w'.setCell ⟨dp,3,O⟩ (Z c g d)).setCell ⟨dp,4,O⟩ (Z O 0 0)) dp tb depth (m.1,(e::m.2.1).take depth,[],m.2.2.2.1,m.2.2.2.2)/\Dk w ((w'.setCell ⟨dp,3,O⟩ (Z c g d)).setCell ⟨dp,4,O⟩ (Z O 0 0)) (TX dp tb) (TX dp tb)):=λW z=>by
  refine(Ki (he.aN z) (E.aN z) hl hd).mono ?_;rintro q w' ⟨⟨c,g,d⟩,rfl,hE,hg⟩;have A:=z.then hg;have o:=(A.block _ (aM n)).trans n;obtain⟨-,-,-,j,P,-,-,D⟩:=cZ o;have L:=(rE o).1 (c,g,d);obtain⟨N,X,R⟩:=yA o;refine⟨c,g,d,rfl,j,P,D 3,D 4,?_,((Dk.bZ A).set (Aac rfl)).set (Aac rfl)⟩;exact aW.put L ((rE L).2.1 (O,0,0)) (N _ (B.below A)) (R _ _ hE) (dV.nil _)
 obtain⟨J,-,-,j,-⟩:=cZ n;obtain⟨a,k⟩:∃a,a=w.alloc (C #[I V p,x.v,y.v] 248):=⟨_,rfl⟩;have i:a.heap[w.heap.size]?=M (C #[I V p,x.v,y.v] 248 (0,0)):=by rw[k];exact Aag w _
 have k0:a.cell? ⟨w.heap.size,0,O⟩=M (I V p):=by simp[World.cell?,i]
 have N:a.cell? ⟨w.heap.size,1,O⟩=M x.v:=by simp[World.cell?,i]
 have X:a.cell? ⟨w.heap.size,2,O⟩=M y.v:=by simp[World.cell?,i]
 have t:Hid (aL w a):=by show aL _ _;rw[k];exact(aL.refl w).alloc _
 have Q:=t.out.cell J;have S:=t.out.cell j;obtain⟨x1,x2,x3⟩:=x;obtain⟨c,g,d⟩:=y;obtain⟨u1,u2,u3⟩:=u;obtain⟨r1,r2,r3⟩:=r;simp only[bT.v]at*;clear n B E hr he J j i;go_enter func216,ntmps216;go_upto_region 1 with fail;rw[<-k];clear k
 go_region_law ((refine dD (by rfl) 219 _ _ (by rfl) _ (by simp[Act.eval];done) Vu ((HP.out _ (by repeat (first|exact t.out|refine aL.drew ?_))).mono ?_);rintro q w7 ⟨z1,z2,z3,rfl,c3,c4,f3,f4,hD,hK⟩;refine⟨_,rfl,?_⟩))
 all_goals go_wp2
 all_goals go_end0
 all_goals exact⟨rfl,hD,hK⟩
theorem Ms:H K 135 #[] w λe w'=>e=G yC/\aL w w':=by
 unfold yC;go_enter func135,ntmps135;go_wp2_with fail;refine Aap (v:= .agg #[I .u8 73,.func (.func 175) #[] #[],.func (.func 176) #[] #[],I .u8 68,.func (.func 177) #[] #[],.func (.func 178) #[] #[],I .u8 85,.func (.func 179) #[] #[],.func (.func 180) #[] #[],I .u8 82,.func (.func 181) #[] #[],.func (.func 182) #[] #[]]) (by simp[results,results135,go_sem]) rfl ?_;exact⟨rfl,(aL.refl w).alloc _⟩
end Go.Proofs.YtfplgfodoiiobabGreatDoor
