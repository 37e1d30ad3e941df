/- WkG, WkA (joined). -/
import Derived.Test.YtfplgfodoiiobaaGreatDoorD47
open Option renaming none→O,some→M
open Go.Value renaming int→I,slice→Z
open Go.IntKind renaming i64→V
open Go.Ending renaming returned→G
open Go renaming World→F,Value→Y,Calls→H
open Go.Proofs.Tryz renaming prog→K
open Go.Proofs.Tryz
namespace Go.Proofs.YtfplgfodoiiobaaGreatDoor
set_option maxHeartbeats 2000000
set_option maxRecDepth 100000
open Go.RowKit
variable {P:Program} {ops:Array Oper} {S:F->Prop} {md:Region.Mode} {Q:Exit->Act->F->Prop}
variable {w:F}{a:Act}{aA:Act->Prop}{v:Y}{k:Nat}{l:List Ed}
def outG (P:Program)(S:F->Prop)(v:Y):Result Next->Prop
 | .ok (.value u) w=>u=v/\S w
 | .ok (.enter f args) w=>H P f args w fun e w'=>e=G v/\S w'
 |_=>False
def YG (P:Program)(ops:Array Oper)(S:F->Prop)(o:Oper)(v:Y)(a:Act):Prop:=Region.wanted o (yielded ops a.tmps)=true/\∀w,S w->outG P S v ((execOp a.eval o).run P w)
theorem YG.wpOp {i:Nat}{o:Oper}(hi:ops[i]?=M o)(hy:YG P ops S o v a){aA:Act->F->Prop}(hS:S w)(h:∀w',S w'->aA (a.put o.dst v) w'):wpOp P ops Q i aA a w:=by
 unfold Go.wpOp;have hv:=hy.2 w hS;simp only[hi,hy.1,if_true];refine .inl ?_;unfold Oper.wp;generalize (execOp a.eval o).run P w=r at*;cases r with
 |ok n w'=>
  cases n<;>simp only[outG]at hv<;>simp only[Oper.upon]
  case value u=>obtain⟨rfl,h2⟩:=hv;exact h _ h2
  case enter f args=>exact hv.mono fun e w'' ⟨he,hw⟩=>by subst he;exact h _ hw
 |halt x w'=>simp only[outG]at hv
theorem YG.same {o:Oper}{a':Act}(hy:YG P ops S o v a)(he:execOp a'.eval o=execOp a.eval o)(hw:Region.wanted o (yielded ops a'.tmps)=Region.wanted o (yielded ops a.tmps)):YG P ops S o v a':=by
 unfold YG at*;rw[he,hw];exact hy
def anyG (P:Program)(md:Region.Mode)(ops:Array Oper)(S:F->Prop)(aA:Act->Prop):Nat->Array Bool->Act->Prop
 |0,listed,a=>Region.ready md ops listed=[]/\aA a
 |n+1,listed,a=>(Region.ready md ops listed=[]->aA a)/\∀i∈Region.ready md ops listed,∃o v,ops[i]?=M o/\YG P ops S o v a/\anyG P md ops S aA n (listed.setIfInBounds i true) (a.put o.dst v)
theorem Vp (hK:∀a w,aA a->S w->Q .normal a w):∀(n:Nat) (listed:Array Bool) (a:Act) (w:F),anyG P md ops S aA n listed a->S w->wpAny P md ops Q n listed a w
 |0,_,_,_,h,hS=>⟨h.1,hK _ _ h.2 hS⟩
 |n+1,_,_,_,h,hS=>⟨fun h0=>hK _ _ (h.1 h0) hS,fun i hi=>by
  obtain⟨o,v,h1,h2,h3⟩:=h.2 i hi;exact h2.wpOp h1 hS (fun w' hS'=>Vp hK n _ _ w' h3 hS')⟩
theorem SC {i:Nat}{oi:Oper}(hi:ops[i]?=M oi)(hsel:∀(j:Nat) (o:Oper) cs b,ops[j]?=M o->o.op≠.select cs b):∀(n:Nat) (listed:Array Bool) (a:Act),
 (∀j oj,ops[j]?=M oj->j≠i->listed.getD j true=false->(∀e∈oj.after,Region.binds md e=true->e.on≠i)->oi.apart ops oj=true)->
 i∈Region.ready md ops listed->YG P ops S oi v a->anyG P md ops S aA n (listed.setIfInBounds i true) (a.put oi.dst v)->anyG P md ops S aA (n+1) listed a:=by
 intro n
 induction n with
 |zero=>
  intro listed a _ hr hy aC;refine⟨fun h=>(by rw[h]at hr;cases hr),fun j hj=>?_⟩;by_cases hji:j=i
  ·subst hji;exact⟨oi,v,hi,hy,aC⟩
  ·have:=ready_mono hj hji;rw[aC.1]at this;cases this
 |succ n ih=>
  intro listed a WC hr hy aC;refine⟨fun h=>(by rw[h]at hr;cases hr),fun j hj=>?_⟩;by_cases hji:j=i
  ·subst hji;exact⟨oi,v,hi,hy,aC⟩
  ·obtain⟨oj,u,hoj,hu,h3⟩:=aC.2 j (ready_mono hj hji);obtain⟨hjun,oj',hoj',hall⟩:=mem_ready.1 hj;obtain rfl:oj=oj':=AbK (hoj.symm.trans hoj')
   have hnot:∀e∈oj.after,Region.binds md e=true->e.on≠i:=fun e he hb heq=>by
    have h1:=hall e he hb;rw[heq,getD_both (mem_ready.1 hr).1]at h1;cases h1
   obtain⟨a1,a2,a3⟩:=Oper.apart_spec (WC j oj hoj hji hjun hnot);refine⟨oj,u,hoj,hu.same (execOp_put oj (fun cs b=>hsel j oj cs b hoj) a oi.dst v a1).symm (wanted_put oj a oi.dst v a1).symm,ih _ _ (fun k ok hk hki hun Pf=>?_) (ready_mono hr (Aca hji)) (hy.same (execOp_put oi (fun cs b=>hsel i oi cs b hi) a oj.dst u a3) (wanted_put oi a oj.dst u a3)) ?_⟩
   ·refine WC k ok hk hki ?_ Pf;by_cases sw:j=k
    ·subst sw;exact hjun
    ·rw[getD_set_ne true sw]at hun;exact hun
   ·rw[Array.setIfInBounds_comm _ _ hji,<-Act.put_comm a v u a2];exact h3
def seqG (P:Program)(ops:Array Oper)(S:F->Prop)(aA:Act->Prop):List Oper->Act->Prop
 | [],a=>aA a
 |o::l,a=> ∃v,YG P ops S o v a/\seqG P ops S aA l (a.put o.dst v)
theorem MP (h:aA a):seqG P ops S aA [] a:=h
theorem MQ (hs:Region.noSelect ops=true):∀(l:List Oper) (k:Nat) (listed:Array Bool) (a:Act),(∀j,l[j]?=ops[k+j]?)->Region.lexFrom md ops l.length k listed=true->seqG P ops S aA l a->anyG P md ops S aA l.length listed a
 | [],_,_,_,_,hB,h=>⟨by simpa[Region.lexFrom]using hB,h⟩
 |o::l,k,listed,a,hl,hB,h=>by
  have h0:ops[k]?=M o:=by simpa using(hl 0).symm
  simp only[Aao,Region.lexFrom,Abf]at hB;obtain⟨v,hy,hK⟩:=h;exact SC h0 (Region.noSelect_spec hs) l.length listed a (Region.free_spec h0 hB.1.2) (by simpa using hB.1.1) hy (MQ hs l (k+1) _ _ (fun j=>by have:=hl (j+1);simpa[Acr,Nat.add_comm 1 j]using this) hB.2 hK)
theorem Eu (S:F->Prop){id:Nat}{l:List Oper}(hm:P.follows .mixedOrders=true)(hB:Region.lexB .any l.toArray=true)(hS:S { w with drawn:=w.drawn+1 })(h:seqG P l.toArray S (fun a'=> ∀w',S w'->Q .normal a' w') l a):(Code.region id l.toArray true).wp P Q a w:=by
 simp only[Region.lexB,Abf]at hB;refine wp_region_any hm (Vp (aA:=fun a'=> ∀w',S w'->Q .normal a' w') (fun _ _ h hS=>h _ hS) _ _ _ _ ?_ hS);have:=MQ (md:= .any) hB.1 l 0 (Array.replicate l.toArray.size false) a (by simp) (by simpa using hB.2) h;simpa using this
theorem EP (n:Int):strOfNums (gV n)=⟨(fJ n).toArray⟩:=ba_ext (by rw[qg])
theorem qE (a b:List UInt8):(⟨a.toArray⟩:ByteArray)++⟨b.toArray⟩=⟨(a++b).toArray⟩:=ba_ext (by rw[qK])
theorem Vq (a:List UInt8):(⟨a.toArray⟩:ByteArray).size=a.length:=rfl
def Oo (l:List (Int×Int))(k:Nat):List UInt8:=fJ (l.length:Int)++(l.take k).flatMap KU
theorem gy (l:List (Int×Int))(k:Nat):(Oo l k).length<=4+8*k:=by
 unfold Oo;rw[Aah,dL]
 have:∀l:List (Int×Int),(l.flatMap KU).length=8*l.length:=fun l=>by
  induction l with
  |nil=>rfl
  |cons p l ih=>rw[AdK,Aah,ih];simp[KU,dL];omega
 rw[this,Aaw];omega
theorem ic {l:List (Int×Int)}(h:k<l.length):Oo l (k+1)=Oo l k++fJ (l.getD k (0,0)).1++fJ (l.getD k (0,0)).2:=by
 unfold Oo;rw[Aau h,Ada];simp[KU,List.getD_eq_getElem?_getD,h]
theorem keepN2 {a b:Addr}{x y:Y}(h1:w.cell? a=M x)(h2:w.cell? b=M y):∀W,aL w W->W.cell? a=M x/\W.cell? b=M y/\aL w W:=fun _ hW=>⟨hW.cell h1,hW.cell h2,hW⟩
theorem EQ {ao:Option Addr}{ca:Nat}{l:List (Int×Int)}(hr:Da w ao l)(hp:∀p∈l,KV p)(hlen:l.length<=100000):
 H K 172 #[Z ao l.length ca] w fun e w'=>e=G (.string ⟨(lI l).toArray⟩)/\aL w w':=by
 have Mg:=nQ (w:=w) (n:=(l.length:Int)) (by omega) (by omega);go_enter func172,ntmps172;go_upto_region 2 with(go_at_call 171;refine Mg.mono ?_;clear Mg;rintro e w1 ⟨rfl,dY⟩);rw[EP]
 go_wp2
 go_loopw [3,4] (fun v i wr=> ∃k:Nat,k<=l.length/\i=I V (k:Int)/\v= .string ⟨(Oo l k).toArray⟩/\aL w wr) (fun _ i _=>l.length-(intOf i).toNat)
 case atStart=>exact⟨0,Aap _,rfl,by simp[Oo],dY⟩
 case round=>
  clear dY;obtain⟨k,hk,rfl,rfl,hG⟩:=hrel;by_cases bP:k<l.length
  ·have HT:Hid _:=ic bP;have xM:l.getD k (0,0)∈l:=(by rw[Abo,Aag bP];simp);obtain⟨⟨p1,p2⟩,p3,p4⟩:=hp _ xM;have UD:=hr.below hG;obtain⟨b,off,rfl,k0,k1⟩:=UD.at bP;have hz:=gy l k;clear xM UD hr;generalize (l.getD k (0,0)).1=x at*;generalize (l.getD k (0,0)).2=y at*
   have HA:Hid ((⟨(Oo l k).toArray⟩:ByteArray)++strOfNums (gV x)++strOfNums (gV y)=⟨(Oo l (k+1)).toArray⟩):=by
    show _=_;rw[EP,EP,qE,qE,HT.out]
   have oP:(⟨(Oo l k).toArray⟩:ByteArray).size<=4+8*k:=hz;have HG:Hid (aL w wr):=hG;generalize (⟨(Oo l k).toArray⟩:ByteArray)=acc at*;have i1:(0:Int)<=(k:Int):=(by omega);have i2:(k:Int)<(l.length:Int):=(by omega);have qU:∀x,(strOfNums (gV x)).size=4:=fun x=>rfl;have Ng:∀w:F,(Op.stringOp .add acc (strOfNums (gV x))).run K w= .ok (.string (acc++strOfNums (gV x))) w:=fun w=>AaT w _ _ (by rw[qU];omega);have VA:∀w:F,(Op.stringOp .add (acc++strOfNums (gV x)) (strOfNums (gV y))).run K w= .ok (.string (acc++strOfNums (gV x)++strOfNums (gV y))) w:=fun w=>AaT w _ _ (by rw[qU,dF,qU];omega);have HK:Hid _:=keepN2 k0 k1;have gr:=aL.refl wr;clear hz oP hp HT hG qU;go_upto_region 5 with fail
   go_region_held3 (fun w'=>w'.cell? ⟨b,off+k*2,O⟩=M (I V x)/\w'.cell? ⟨b,off+k*2+1,O⟩=M (I V y)/\aL wr w')
    (first|(refine HK.out _ ?_;go_split_ands;with_reducible (first|assumption|(refine aL.drew ?_;assumption)|(refine aL.more ?_ nJ;assumption))))
    (first|(go_at_call 171;refine(nQ (by omega) (by omega)).mono ?_;rintro e w5 ⟨rfl,nJ⟩))
   all_goals go_wp2_with fail
   all_goals rw[HA.out]
   all_goals go_roundw
   all_goals first|exact⟨k+1,by omega,by go_num,rfl,HG.out.then (by go_split_ands;assumption)⟩|(simp[intOf];omega)
  ·have he:k=l.length:=(by omega);subst he;have e9:Oo l l.length=lI l:=(by unfold Oo lI;rw[Acl]);rw[e9];clear hr hp
   go_wp2
   go_ret;exact⟨rfl,hG⟩
def Co (l:List Ed)(k:Nat):List UInt8:=fJ (l.length:Int)++(l.take k).flatMap NP
theorem AX {e:Ed}(h:l[k]?=M e):Co l (k+1)=Co l k++fJ e.1++lI e.2.1++lI e.2.2:=by
 have hk:=(Aae.1 h).1;unfold Co;rw[Aau hk,Ada,(Aae.1 h).2];simp[NP]
def okEs (l:List Ed):Prop:=∀e∈l,(0<=e.1/\e.1<4294967296)/\(∀p∈e.2.1,KV p)/\(∀p∈e.2.2,KV p)/\e.2.1.length<=10000/\e.2.2.length<=10000
theorem Oq (h:okEs l):∀k,(Co l k).length<=4+200000*k
 |0=>by simp[Co,dL]
 |k+1=>by
  have ih:=Oq h k;by_cases hk:k<l.length
  ·rw[AX (Aag hk)];obtain⟨-,-,-,h1,h2⟩:=h _ (Abx hk);simp only[Aah,dL,vM];omega
  ·have:Co l (k+1)=Co l k:=by
    unfold Co;rw[Aaq (by omega),Aaq (by omega)]
   rw[this];omega
theorem keepN3 {a b c:Addr}{x y z:Y}(h1:w.cell? a=M x)(h2:w.cell? b=M y)(h3:w.cell? c=M z):∀W,aL w W->W.cell? a=M x/\W.cell? b=M y/\W.cell? c=M z/\aL w W:=fun _ hW=>⟨hW.cell h1,hW.cell h2,hW.cell h3,hW⟩
theorem rdr_at {ao:Option Addr}{l:List fP}{r:fP}(h:BL w ao l)(hk:l[k]?=M r):∃b off,ao=M ⟨b,off,O⟩/\w.cell? ⟨b,off+k*3,O⟩=M (I V r.1)/\w.cell? ⟨b,off+k*3+1,O⟩=M (Z r.2.1.1 r.2.1.2.1 r.2.1.2.2)/\w.cell? ⟨b,off+k*3+2,O⟩=M (Z r.2.2.1 r.2.2.2.1 r.2.2.2.2):=by
 obtain⟨a1,a2,a3⟩:=MB l k r hk;rcases h.1 with h|⟨b,off,e,hc⟩
 ·rw[h]at hk;cases hk
 ·exact⟨b,off,e,hc _ _ a1,hc _ _ a2,hc _ _ a3⟩
def PcOk (w:F)(a:Option Addr)(n c:Nat)(S:ByteArray):Prop:=∀W,aL w W->H K 172 #[Z a n c] W fun e w'=>e=G (.string S)/\aL W w'
theorem pc_use {W:F}{a:Option Addr}{n c:Nat}{S:ByteArray}(h:PcOk w a n c S)(hW:aL w W):H K 172 #[Z a n c] W fun e w'=>e=G (.string S)/\aL W w':=h W hW
theorem WE {x:bS}(hx:eP w x l)(hp:okEs l)(hlen:l.length<=100):
 H K 173 #[x.v] w fun e w'=>e=G (.string ⟨(oD l).toArray⟩)/\aL w w':=by
 obtain⟨ao,xn,ca⟩:=x;obtain⟨raw,hr,hn,-,Gz,Fe⟩:=hx;simp only at hr hn;rw[Gz]at hn;subst hn;show H _ _ #[Z ao l.length ca] _ _;have Mg:=nQ (w:=w) (n:=(l.length:Int)) (by omega) (by omega);go_enter func173,ntmps173;go_upto_region 2 with(go_at_call 171;refine Mg.mono ?_;clear Mg;rintro e w1 ⟨rfl,dY⟩);rw[EP];have HRr:Hid _:=hr;have HRe:Hid _:=Fe;have HRl:Hid _:=Gz;clear hr Fe Gz
 go_wp2
 go_loopw [3,4] (fun v i wr=> ∃k:Nat,k<=l.length/\i=I V (k:Int)/\v= .string ⟨(Co l k).toArray⟩/\aL w wr) (fun _ i _=>l.length-(intOf i).toNat)
 case atStart=>exact⟨0,Aap _,rfl,by simp[Co],dY⟩
 case round=>
  clear dY;obtain⟨k,hk,rfl,rfl,hG⟩:=hrel;by_cases bP:k<l.length
  ·obtain⟨e,he⟩:∃e,l[k]?=M e:=⟨_,Aag bP⟩;obtain⟨r,Fe⟩:∃r,raw[k]?=M r:=⟨_,Aag (by rw[HRl.out];exact bP)⟩;have HT:Hid _:=AX he;obtain⟨⟨p1,p2⟩,p3,p4,p5,p6⟩:=hp e (Aai he);obtain⟨q1,⟨q2,q2n,-⟩,q3,q3n,-⟩:=HRe.out k r e Fe he;obtain⟨b,off,rfl,k0,k1,k2⟩:=rdr_at HRr.out Fe;rw[q1]at k0;rw[q2n]at k1;rw[q3n]at k2;have k0:=hG.cell k0;have k1:=hG.cell k1;have k2:=hG.cell k2;have hz:=Oq hp k;have hP1:PcOk w r.2.1.1 e.2.1.length r.2.1.2.2 ⟨(lI e.2.1).toArray⟩:=fun W hW=>EQ (q2.1.below hW) p3 (by omega);have hP2:PcOk w r.2.2.1 e.2.2.length r.2.2.2.2 ⟨(lI e.2.2).toArray⟩:=fun W hW=>EQ (q3.1.below hW) p4 (by omega);have sV:(⟨(lI e.2.1).toArray⟩:ByteArray).size<=80004:=(by rw[Vq,vM];omega);have Mh:(⟨(lI e.2.2).toArray⟩:ByteArray).size<=80004:=by rw[Vq,vM];omega
   have HA:Hid ((⟨(Co l k).toArray⟩:ByteArray)++strOfNums (gV e.1)++⟨(lI e.2.1).toArray⟩++⟨(lI e.2.2).toArray⟩=⟨(Co l (k+1)).toArray⟩):=by
    show _=_;rw[EP,qE,qE,qE,HT.out]
   have oP:(⟨(Co l k).toArray⟩:ByteArray).size<=4+200000*k:=hz;have HG:Hid (aL w wr):=hG;clear hz hp HT hG q1 q2 q2n q3 q3n p3 p4 p5 p6 he Fe;generalize (⟨(Co l k).toArray⟩:ByteArray)=acc at*;generalize (⟨(lI e.2.1).toArray⟩:ByteArray)=S1 at*;generalize (⟨(lI e.2.2).toArray⟩:ByteArray)=S2 at*;generalize e.2.1.length=n1 at*;generalize e.2.2.length=n2 at*;generalize e.1=x at*;generalize r.2.1.1=a1 at*;generalize r.2.1.2.2=c1 at*;generalize r.2.2.1=a2 at*;generalize r.2.2.2.2=c2 at*;have i1:(0:Int)<=(k:Int):=(by omega);have i2:(k:Int)<(l.length:Int):=(by omega);have qU:∀x,(strOfNums (gV x)).size=4:=fun x=>rfl;have Ng:∀w:F,(Op.stringOp .add acc (strOfNums (gV x))).run K w= .ok (.string (acc++strOfNums (gV x))) w:=fun w=>AaT w _ _ (by rw[qU];omega);have VA:∀w:F,(Op.stringOp .add (acc++strOfNums (gV x)) S1).run K w= .ok (.string (acc++strOfNums (gV x)++S1)) w:=fun w=>AaT w _ _ (by rw[dF,qU];omega);have hadd3:∀w:F,(Op.stringOp .add (acc++strOfNums (gV x)++S1) S2).run K w= .ok (.string (acc++strOfNums (gV x)++S1++S2)) w:=fun w=>AaT w _ _ (by rw[dF,dF,qU];omega);have HK:Hid _:=keepN3 k0 k1 k2;have gr:=aL.refl wr;clear oP qU sV Mh;go_upto_region 5 with fail;refine Eu (fun w'=>w'.cell? ⟨b,off+k*3,O⟩=M (I V x)/\w'.cell? ⟨b,off+k*3+1,O⟩=M (Z a1 n1 c1)/\w'.cell? ⟨b,off+k*3+2,O⟩=M (Z a2 n2 c2)/\aL wr w') (by kernel_rfl) (by kernel_rfl) (HK.out _ gr.drew) ?_
   repeat (refine⟨?_,⟨by rfl,fun w' hS=>?_⟩,?_⟩;rotate_left;(focus (obtain⟨y0,y1,y2,y3⟩:=hS;go_simp;first|(refine⟨?_,y0,y1,y2,y3⟩;rfl)|(refine(nQ p1 p2).mono ?_;rintro e w5 ⟨rfl,nJ⟩;refine⟨?_,HK.out _ (y3.more nJ)⟩;rfl)|(refine(pc_use (by with_reducible assumption) (HG.out.then y3)).mono ?_;rintro e w5 ⟨rfl,nJ⟩;refine⟨?_,HK.out _ (y3.then nJ)⟩;rfl)));simp only[Act.put,Aal,Aas,Aar])
   refine MP ?_;intro w' hS;rw[HA.out];have hS4:=hS.2.2.2
   go_wp2
   go_roundw
   case rel=>exact⟨k+1,by omega,by go_num,rfl,HG.out.then hS4⟩
   case measure=>simp[intOf];omega
  ·have he:k=l.length:=(by omega);subst he;have e9:Co l l.length=oD l:=(by unfold Co oD;rw[Acl]);rw[e9];clear hp
   go_wp2
   go_ret;exact⟨rfl,hG⟩
end Go.Proofs.YtfplgfodoiiobaaGreatDoor
