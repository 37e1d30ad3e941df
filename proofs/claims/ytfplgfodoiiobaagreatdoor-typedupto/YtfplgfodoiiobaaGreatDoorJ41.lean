/- KpK, QlS, QlV, QlT, QlX, QlY, QlZ (joined). -/
import Derived.Test.YtfplgfodoiiobaaGreatDoorJ40
open Option renaming none→O,some→M
open Go.Value renaming int→I,slice→Z,pointer→U
open Go.IntKind renaming i64→V
open Go.Obj renaming cells→C
open Go.Ending renaming returned→G
open Go renaming World→F,Value→Y,Calls→H
open Go.Proofs.Tryz renaming prog→K
namespace Go.Proofs.YtfplgfodoiiobaaGreatDoor
set_option maxHeartbeats 2000000
set_option maxRecDepth 100000
open Go.RowKit
variable {t:Tm}{x:St}{k qp db:Nat}{w:F}{n pos most depth:Int}{m:bR}{s:Sc}{fs:List bE}{X:Nat->Prop}{text:ByteArray}
abbrev Gm:=List UInt8×List (List UInt8)×List (List UInt8)×Int
variable {g:Gm}
def sS (B:List UInt8)(t:Tm):Gm:=(Dy B t.1,t.2.1.map (Dy B),t.2.2.1.map (Dy B),t.2.2.2)
def Cq (g:Gm)(text:List UInt8)(d:Nat):Gm:=(text,(g.1::g.2.1).take d,[],g.2.2.2+1)
def qL (g:Gm)(d:Nat):Gm:=match g.2.1 with
 | []=>g
 |f::l=>(f,l,(g.1::g.2.2.1).take d,g.2.2.2+1)
def xX (g:Gm)(d:Nat):Gm:=match g.2.2.1 with
 | []=>g
 |f::l=>(f,(g.1::g.2.1).take d,l,g.2.2.2+1)
theorem DJ (B:List UInt8)(t:Tm)(f:List Int)(d:Nat):sS B (Bv t f d)=Cq (sS B t) (Dy B f) d:=by
 simp[sS,Bv,Cq,List.map_take]
theorem RQ (B:List UInt8)(t:Tm)(d:Nat):sS B (xR t d)=qL (sS B t) d:=by
 obtain⟨a,b,c,e⟩:=t;cases b with
 |nil=>simp[sS,xR,qL]
 |cons f l=>simp[sS,xR,qL,List.map_take]
theorem RS (B:List UInt8)(t:Tm)(d:Nat):sS B (xS t d)=xX (sS B t) d:=by
 obtain⟨a,b,c,e⟩:=t;cases c with
 |nil=>simp[sS,xS,xX]
 |cons f l=>simp[sS,xS,xX,List.map_take]
def Xu (n:Int)(f:List Int):Prop:=∀k∈f,0<=k/\k<n
theorem DK {p q:Int}{f come:List Int}(h:Xu n f)(hc:Xu n come):Xu n (oJ f p q come):=fun k hk=>by
 unfold oJ at hk;rcases List.mem_append.1 hk with hk|hk
 ·rcases List.mem_append.1 hk with hk|hk
  ·exact h k (List.mem_of_mem_take hk)
  ·exact hc k hk
 ·exact h k (List.mem_of_mem_drop hk)
theorem Uc:∀(us:List Ed) (f:List Int),Xu n f->(∀e∈us,lV n e.2.1)->∀g∈gF f us,Xu n g
 | [],_,_,_,g,hg=>by simp[gF]at hg
 |e::us,f,hf,he,g,hg=>by
  have h1:Xu n (vN e f):=DK hf (Zb (he e (by simp)));rcases List.mem_cons.1 hg with rfl|hg
  ·exact h1
  ·exact Uc us _ h1 (fun d hd=>he d (by simp[hd])) g hg
theorem Ud:∀(us:List Ed) (f:List Int),Xu n f->(∀e∈us,lV n e.2.2)->∀g∈gN f us,Xu n g
 | [],_,_,_,g,hg=>by simp[gN]at hg
 |e::us,f,hf,he,g,hg=>by
  have h1:Xu n (Dx e f):=DK hf (Zb (he e (by simp)));rcases List.mem_cons.1 hg with rfl|hg
  ·exact h1
  ·exact Ud us _ h1 (fun d hd=>he d (by simp[hd])) g hg
theorem rep_in {d:Nat}(hg:dJ m d)(hr:Xi m t):Xu m.2.2.2.2 t.1/\(∀g∈t.2.1,Xu m.2.2.2.2 g)/\(∀g∈t.2.2.1,Xu m.2.2.2.2 g):=by
 have h1:Xu m.2.2.2.2 (fl m.1):=Zb hg.text;exact⟨by rw[hr.text];exact h1,by rw[hr.lN];exact Uc _ _ h1 (fun e he=>(hg.lN e he).2.1),by rw[hr.nT];exact Ud _ _ h1 (fun e he=>(hg.nT e he).2.2)⟩
theorem RU {B X:List UInt8}(h1:Xu n t.1)(h2:∀g∈t.2.1,Xu n g)(h3:∀g∈t.2.2.1,Xu n g)(hn:n<=(B.length:Int)):sS (B++X) t=sS B t:=by
 have k:∀g,Xu n g->Dy (B++X) g=Dy B g:=fun g hg=>LH (fun j hj=>by have:=hg j hj;omega)
 unfold sS;rw[k _ h1,List.map_congr_left (fun g hg=>k g (h2 g hg)),List.map_congr_left (fun g hg=>k g (h3 g hg))]
structure Aj (x:St)(g:Gm)(k:Nat)(t:Tm):Prop where
 snd:Pj x t k
 tell:sS (aN x.2.1 1).data.toList t=g
theorem JY (b:ByteArray):b.data.toList.length=b.size:=by simp
theorem Aj.len (h:Aj x g k t):(g.1.length:Int)=sz x.2.2.1:=by
 rw[<-h.tell];show((Dy _ t.1).length:Int)=_;rw[OU,h.snd.Lf.text,mW h.snd.dN.Ql]
theorem Aj.done (h:Aj x g k t):g.2.2.2=x.2.2.2.2.2.1:=by
 rw[<-h.tell];exact h.snd.Lf.done
theorem Aj.Br (h:Aj x g k t):g.2.1=[]↔x.2.2.2.1=[]:=by
 rw[<-h.tell];show t.2.1.map _=[]↔_;rw[h.snd.Lf.lN];cases x.2.2.2.1<;>simp[gF]
theorem Aj.Gq (h:Aj x g k t):g.2.2.1=[]↔x.2.2.2.2.1=[]:=by
 rw[<-h.tell];show t.2.2.1.map _=[]↔_;rw[h.snd.Lf.nT];cases x.2.2.2.2.1<;>simp[gN]
theorem ZV (h:Aj x g k t):(pos<0\/(g.1.length:Int)<pos\/n<0\/(g.1.length:Int)-pos<n->vM x pos n=(⟨#[]⟩,5))/\(¬(pos<0\/(g.1.length:Int)<pos\/n<0\/(g.1.length:Int)-pos<n)->(vM x pos n).2=0/\(vM x pos n).1.data.toList=(g.1.drop pos.toNat).take n.toNat):=by
 have hl:=h.len;have Co:=h.snd.op;have JU:=h.snd.gs.Pb h.snd.op h.snd.ro;have bX:=h.snd.b1;have hg:=h.snd.dN;have hb:=hg.tC;unfold vM;rw[if_neg (by simp[Co])];constructor
 ·intro hp;rw[if_pos (by omega)]
 ·intro hp;rw[if_neg (by omega)];refine⟨rfl,?_⟩;simp only;rw[qc (hg.text.mono (by omega)) (by omega) (by omega) (by omega),<-h.tell];show _=((Dy _ t.1).drop _).take _;rw[h.snd.Lf.text]
theorem DL {x':St}{k':Nat}(h:Aj x g k t)(hs:Pj x' t k')(hb:aN x'.2.1 1=aN x.2.1 1):Aj x' g k' t:=⟨hs,by rw[hb];exact h.tell⟩
theorem ZW (h:Aj x g k t):(nQ x).2=0/\Aj (nQ x).1 g k t:=by
 obtain⟨h1,h2,h3⟩:=ZR h.snd;exact⟨h1,DL h h2 (h3 1)⟩
theorem ZX (h:Aj x g k t)(hk:k<=122):(kP x).2=0/\Aj (kP x).1 g (k+1) t:=by
 obtain⟨h1,h2,h3,-⟩:=ZU h.snd hk;exact⟨h1,DL h h2 h3⟩
theorem z_ (h:Aj x g k t)(hk:k<=400):
 (pos<0\/(g.1.length:Int)<pos->iW x 73 pos n text=(x,5))/\(¬(pos<0\/(g.1.length:Int)<pos)->(text.size<1\/200<text.size)->iW x 73 pos n text=(x,6))/\
 (¬(pos<0\/(g.1.length:Int)<pos)->¬(text.size<1\/200<text.size)->5000<(g.1.length:Int)+(text.size:Int)->iW x 73 pos n text=(x,7))/\
 (¬(pos<0\/(g.1.length:Int)<pos)->¬(text.size<1\/200<text.size)->¬5000<(g.1.length:Int)+(text.size:Int)->(iW x 73 pos n text).2=0/\∃t',Aj (iW x 73 pos n text).1 (Cq g (g.1.take pos.toNat++text.data.toList++g.1.drop pos.toNat) x.1.depth.toNat) (k+1) t'):=by
 have hl:=h.len;have Co:=h.snd.op;have hro:=h.snd.ro;have NP:=h.snd.most;have Oi:=h.snd.few.1;have JU:=h.snd.gs.Pb h.snd.op h.snd.ro;have Xq:=JY (aN x.2.1 1)
 have eX:nG x 73 pos n text=sW x.2.2 pos ((aN x.2.1 1).size:Int) (text.size:Int) 5000 x.1.depth.toNat:=by
  unfold nG gQ xE vZ rD;rw[if_pos rfl,if_pos (Or.inl rfl),if_pos rfl,if_pos rfl,NP]
 have hlp:=Pk x.2.2.1 [(((aN x.2.1 1).size:Int),(text.size:Int))] pos;simp only[List.length_singleton]at hlp;refine⟨fun h1=>?_,fun h1 h2=>?_,fun h1 h2 h3=>?_,fun h1 h2 h3=>?_⟩
 ·have e:(nG x 73 pos n text).2=5:=by rw[eX];unfold sW;rw[if_pos (by omega)]
  rw[xG Co hro (by rw[e];decide),e]
 ·have e:(nG x 73 pos n text).2=6:=by rw[eX];unfold sW;rw[if_neg (by omega),if_pos (by omega)]
  rw[xG Co hro (by rw[e];decide),e]
 ·have e:(nG x 73 pos n text).2=7:=by rw[eX];unfold sW;rw[if_neg (by omega),if_neg (by omega),if_pos (by omega)]
  rw[xG Co hro (by rw[e];decide),e]
 ·have e0:(sW x.2.2 pos ((aN x.2.1 1).size:Int) (text.size:Int) 5000 x.1.depth.toNat).2=0:=by unfold sW;rw[if_neg (by omega),if_neg (by omega),if_neg (by omega),if_neg (by omega)]
  have e:(nG x 73 pos n text).2=0:=by rw[eX];exact e0
  have hr:=pq h.snd.dN h.snd.Lf e0
  obtain⟨a1,a2,a3⟩:=Lg h.snd hk (Or.inl rfl) e (t':=Bv t ((fl x.2.2.1).take pos.toNat++fl [(((aN x.2.1 1).size:Int),(text.size:Int))]++(fl x.2.2.1).drop pos.toNat) x.1.depth.toNat) (by rw[eX];exact hr) (fun X hX=>by
   obtain⟨u,v,hc⟩:=zq h.snd.dN h.snd.Lf hX JU.symm e0;exact⟨u::v::X,by simp,by rw[eX];exact hc⟩)
  refine⟨a1,_,a2,?_⟩;rw[a3,if_pos rfl,gI,DJ];obtain⟨i1,i2,i3⟩:=rep_in h.snd.dN h.snd.Lf;rw[RU i1 i2 i3 (by omega),h.tell];congr 1;have hfi:Xu x.2.2.2.2.2.2 (fl x.2.2.1):=Zb h.snd.dN.text
  have k1:Dy ((aN x.2.1 1).data.toList++text.data.toList) (fl x.2.2.1)=g.1:=by
   rw[LH (fun j hj=>by have:=hfi j hj;omega),<-h.tell];show _=Dy _ t.1;rw[h.snd.Lf.text]
  rw[zY,zY,Us,Ut,k1,Uu];simp only;rw[Za (by omega) (by rw[List.length_append,Xq,JY];omega),Int.toNat_natCast,Int.toNat_natCast,<-Xq,List.drop_left,<-JY text,List.take_length]
theorem A_ (h:Aj x g k t)(hk:k<=400):
 (pos<0\/(g.1.length:Int)<pos\/n<1\/(g.1.length:Int)-pos<n->iW x 68 pos n text=(x,5))/\
 (¬(pos<0\/(g.1.length:Int)<pos\/n<1\/(g.1.length:Int)-pos<n)->(iW x 68 pos n text).2=0/\∃t',Aj (iW x 68 pos n text).1 (Cq g (g.1.take pos.toNat++g.1.drop (pos+n).toNat) x.1.depth.toNat) (k+1) t'):=by
 have hl:=h.len;have Co:=h.snd.op;have hro:=h.snd.ro;have Oi:=h.snd.few.1
 have eX:nG x 68 pos n text=yA x.2.2 pos n x.1.depth.toNat:=by
  unfold nG gQ xE vZ rD;rw[if_neg (by decide),if_pos rfl,if_pos (Or.inr rfl),if_neg (by decide),if_pos rfl]
 have hlp:=Pm x.2.2.1 pos n;refine⟨fun h1=>?_,fun h1=>?_⟩
 ·have e:(nG x 68 pos n text).2=5:=by rw[eX];unfold yA;rw[if_pos (by omega)]
  rw[xG Co hro (by rw[e];decide),e]
 ·have e0:(yA x.2.2 pos n x.1.depth.toNat).2=0:=by unfold yA;rw[if_neg (by omega),if_neg (by omega)]
  have e:(nG x 68 pos n text).2=0:=by rw[eX];exact e0
  have hr:=pu h.snd.dN h.snd.Lf e0
  obtain⟨a1,a2,a3⟩:=Lg h.snd hk (Or.inr (Or.inl rfl)) e (by rw[eX];exact hr) (fun X hX=>by
   obtain⟨u,v,hc⟩:=zu h.snd.Lf hX e0;exact⟨u::v::X,by simp,by rw[eX];exact hc⟩)
  refine⟨a1,_,a2,?_⟩;rw[a3,if_neg (by decide),DJ,h.tell];congr 1
  have k1:Dy (aN x.2.1 1).data.toList (fl x.2.2.1)=g.1:=by
   rw[<-h.tell];show _=Dy _ t.1;rw[h.snd.Lf.text]
  rw[zY,Us,Ut,k1]
theorem ZY (h:Aj x g k t)(hk:k<=400):
 (g.2.1=[]->iW x 85 pos n text=(x,8))/\(g.2.1≠[]->(iW x 85 pos n text).2=0/\∃t',Aj (iW x 85 pos n text).1 (qL g x.1.depth.toNat) (k+1) t'):=by
 have Co:=h.snd.op;have hro:=h.snd.ro;have Oi:=h.snd.few
 have eX:nG x 85 pos n text=pK x.2.2 x.1.depth.toNat:=by
  unfold nG gQ;rw[if_neg (by decide),if_neg (by decide),if_pos rfl]
 refine⟨fun h1=>?_,fun h1=>?_⟩
 ·have hz:=h.Br.1 h1;have e:(nG x 85 pos n text).2=8:=by rw[eX];unfold pK;rw[hz]
  rw[xG Co hro (by rw[e];decide),e]
 ·have hz:x.2.2.2.1≠[]:=fun e=>h1 (h.Br.2 e)
  have e0:(pK x.2.2 x.1.depth.toNat).2=0:=by
   unfold pK;cases hu:x.2.2.2.1 with
   |nil=>exact absurd hu hz
   |cons e l=>
    simp only;have f1:=Pm x.2.2.1 e.1 (sz e.2.2);have f2:=Pk (bU x.2.2.1 e.1 (sz e.2.2)).1 e.2.1 e.1;have f3:=(Oi.2 e (Or.inl (by rw[hu];simp))).1;rw[if_neg (by omega)]
  have e:(nG x 85 pos n text).2=0:=by rw[eX];exact e0
  have hr:=(UZ h.snd.dN h.snd.Lf e0).1
  obtain⟨a1,a2,a3⟩:=Lg h.snd hk (Or.inr (Or.inr (Or.inl rfl))) e (by rw[eX];exact hr) (fun X hX=>by
   obtain⟨u,v,z,hc⟩:=YD h.snd.Lf hX e0;exact⟨u::v::z::X,by simp,by rw[eX];exact hc⟩)
  refine⟨a1,_,a2,?_⟩;rw[a3,if_neg (by decide),RQ,h.tell]
theorem af (h:Aj x g k t)(hk:k<=400):
 (g.2.2.1=[]->iW x 82 pos n text=(x,8))/\(g.2.2.1≠[]->(iW x 82 pos n text).2=0/\∃t',Aj (iW x 82 pos n text).1 (xX g x.1.depth.toNat) (k+1) t'):=by
 have Co:=h.snd.op;have hro:=h.snd.ro;have Oi:=h.snd.few
 have eX:nG x 82 pos n text=pO x.2.2 x.1.depth.toNat:=by
  unfold nG gQ;rw[if_neg (by decide),if_neg (by decide),if_neg (by decide)]
 refine⟨fun h1=>?_,fun h1=>?_⟩
 ·have hz:=h.Gq.1 h1;have e:(nG x 82 pos n text).2=8:=by rw[eX];unfold pO;rw[hz]
  rw[xG Co hro (by rw[e];decide),e]
 ·have hz:x.2.2.2.2.1≠[]:=fun e=>h1 (h.Gq.2 e)
  have e0:(pO x.2.2 x.1.depth.toNat).2=0:=by
   unfold pO;cases hu:x.2.2.2.2.1 with
   |nil=>exact absurd hu hz
   |cons e l=>
    simp only;have f1:=Pm x.2.2.1 e.1 (sz e.2.1);have f2:=Pk (bU x.2.2.1 e.1 (sz e.2.1)).1 e.2.2 e.1;have f3:=(Oi.2 e (Or.inr (by rw[hu];simp))).2;rw[if_neg (by omega)]
  have e:(nG x 82 pos n text).2=0:=by rw[eX];exact e0
  have hr:=(VA h.snd.dN h.snd.Lf e0).1
  obtain⟨a1,a2,a3⟩:=Lg h.snd hk (Or.inr (Or.inr (Or.inr rfl))) e (by rw[eX];exact hr) (fun X hX=>by
   obtain⟨u,v,z,hc⟩:=YE h.snd.Lf hX e0;exact⟨u::v::z::X,by simp,by rw[eX];exact hc⟩)
  refine⟨a1,_,a2,?_⟩;rw[a3,if_neg (by decide),RS,h.tell]
theorem NQ:∀(args:Array Y) (w:F),(callFunc 48 args).run K w= .ok (.enter 48 args) w:=enters_of Tryz.func48 (by kernel_rfl) rfl
theorem Bg {code:Int}{Q:F->Prop}(h:w.heap[qp]?=M (xC most depth db O))
 (hO:∀W,aK w W->H K 48 #[U (M ⟨db,0,O⟩),I V depth] W fun e w'=> ∃t b,e=G (.tuple #[U O,U O,.iface t (U (M b))])/\∀W',aK w' W'->H K 49 #[U (M ⟨qp,0,O⟩),.iface t (U (M b))] W' fun e w2=>e=G (I V code)/\Q w2):
 H K 24 #[U (M ⟨qp,0,O⟩)] w fun e w'=>e=G (I V code)/\Q w':=by
 have HO:Hid (∀W,aK w W->H K 48 #[U (M ⟨db,0,O⟩),I V depth] W fun e w'=> ∃t b,e=G (.tuple #[U O,U O,.iface t (U (M b))])/\∀W',aK w' W'->H K 49 #[U (M ⟨qp,0,O⟩),.iface t (U (M b))] W' fun e w2=>e=G (I V code)/\Q w2):=hO;obtain⟨-,c1,c2,c3,-⟩:=eG h;simp only[Option.map_none]at c3;clear h hO;go_enter Tryz.func24,Tryz.ntmps24
 go_upto_region 3 with fail
 go_cut [3,4,5] (fun x y z wc=> ∃t b,x=U O/\y=U O/\z= .iface t (U (M b))/\H K 49 #[U (M ⟨qp,0,O⟩),.iface t (U (M b))] wc fun e w2=>e=G (I V code)/\Q w2)
 case first=>
  go_region_law ((refine bK (by rfl) 48 _ _ (by rfl) #[U (M ⟨db,0,O⟩),I V depth] (by first|(simp[Act.eval];done)|(simp[Act.eval,Act.put];done)) NQ ((HO.out _ (by repeat (first|exact aK.refl _|refine aK.drew ?_))).mono ?_);rintro v wR ⟨t,b,rfl,hR⟩;refine⟨_,rfl,?_⟩))
  all_goals go_wp2_with fail
  all_goals go_meet
  all_goals exact⟨t,b,rfl,rfl,rfl,hR _ (by repeat (first|exact aK.refl _|refine aK.drew ?_))⟩
 case rest=>
  obtain⟨t,b,rfl,rfl,rfl,hA⟩:=hcut;clear c1 c2 c3 HO
  go_wp2_with (go_at_call 49;refine hA.mono ?_;rintro e w2 ⟨rfl,hq⟩)
  go_ret;exact⟨rfl,hq⟩
theorem Wp {R:F->Nat->Nat->Prop}(h:w.heap[qp]?=M (xC most depth db O))
 (hO:∀W,aK w W->H K 48 #[U (M ⟨db,0,O⟩),I V depth] W fun e w'=> ∃lp dp,e=G (.tuple #[U (M ⟨lp,0,O⟩),U (M ⟨dp,0,O⟩),.nilIface])/\R w' lp dp/\w'.heap[qp]?=M (xC most depth db O)):
 H K 24 #[U (M ⟨qp,0,O⟩)] w fun e w'=>e=G (I V 0)/\∃w1 W lp dp,R w1 lp dp/\aK w1 W/\w'=(W.alloc (qH lp dp false)).setCell ⟨qp,3,O⟩ (U (M ⟨W.heap.size,0,O⟩)):=by
 have HO:Hid (∀W,aK w W->H K 48 #[U (M ⟨db,0,O⟩),I V depth] W fun e w'=> ∃lp dp,e=G (.tuple #[U (M ⟨lp,0,O⟩),U (M ⟨dp,0,O⟩),.nilIface])/\R w' lp dp/\w'.heap[qp]?=M (xC most depth db O)):=hO;obtain⟨-,c1,c2,c3,-⟩:=eG h;simp only[Option.map_none]at c3;clear h hO;go_enter Tryz.func24,Tryz.ntmps24
 go_upto_region 3 with fail
 go_cut [3,4,5] (fun x y z wc=> ∃w1 lp dp,x=U (M ⟨lp,0,O⟩)/\y=U (M ⟨dp,0,O⟩)/\z= .nilIface/\R w1 lp dp/\aK w1 wc/\wc.heap[qp]?=M (xC most depth db O))
 case first=>
  go_region_law ((refine bK (by rfl) 48 _ _ (by rfl) #[U (M ⟨db,0,O⟩),I V depth] (by first|(simp[Act.eval];done)|(simp[Act.eval,Act.put];done)) NQ ((HO.out _ (by repeat (first|exact aK.refl _|refine aK.drew ?_))).mono ?_);rintro v wR ⟨lp,dp,rfl,hR,hq⟩;refine⟨_,rfl,?_⟩))
  all_goals go_wp2_with fail
  all_goals go_meet
  all_goals exact⟨wR,lp,dp,rfl,rfl,rfl,hR,by repeat (first|exact aK.refl _|refine aK.drew ?_),hq⟩
 case rest=>
  rename F=>wc
  obtain⟨w1,lp,dp,rfl,rfl,rfl,hR,hg,hq⟩:=hcut;have zS:=(((aK.refl wc).alloc (qH lp dp false)).block _ (aL hq)).trans hq;obtain⟨-,-,-,b3,bf⟩:=eG zS;have f3:=bf 3;unfold qH at b3 f3;clear c1 c2 c3 HO bf zS hq
  go_wp2_with fail
  go_ret;exact⟨rfl,w1,wc,lp,dp,hR,hg,rfl⟩
theorem qopen {ps:Nat->Addr}{D:Int}(h:uR w qp s fs m X)(hG:Gl w ps)(hS:GS (s,fs,m) D):
 H K 24 #[U (M ⟨qp,0,O⟩)] w fun e w'=>e=G (I V (uK (s,fs,m)).2)/\Bf w w' qp X (uK (s,fs,m)).1:=by
 have h0:=h;have wF:=kI hS.bk.inv 1;have Qb:=hS.bk.dN.sF;have EG:=hS.bk.dN.Mk;have MI:=hS.bk.dN.Bt;simp only at wF Qb EG MI;have Jm:((aN fs 1).size:Int)<=1000000:=by omega
 rcases h with⟨ho,db,fv,rs,h1,rfl,h3,rfl⟩|⟨ho,db,fv,rs,sp,lp,dp,tb,h1,rfl,rfl⟩
 ·rw[ZL ho hS.bk.inv Jm];have VK:BK { s with aX:=true } (plain rs):=⟨{ hS.bk.dN with },hS.bk.Fx,hS.bk.inv,hS.bk.len⟩;have Kj:aS w db { s with aX:=true } fv rs:=h1;have hde:((s.depth.toNat:Nat):Int)=s.depth:=by omega
  have hne:∀ {W:F} {dI dH},aK w W->aS W db { s with aX:=true } fv rs->∀ {w'},Dk W w' (DX db fv rs) (DX db dI dH)->w'.heap[qp]?=M (xC s.most s.depth db O):=fun {W dI dH} hW hD {w'} hk=>by
   have hq:=(hW.block _ (aL h3)).trans h3;exact hk.1.at hq (hD.other hq (by decide) (by decide) (by decide) (by decide))
  cases hr:Ew (plain rs) s.depth.toNat with
  |none=>
   simp only;refine Bg h3 fun W hW=>?_
   have:=BN (Kj.aM hW) (VK.m_.more (by omega)) (hG.aM hW) hr;rw[hde]at this;refine this.mono ?_;rintro e w' ⟨v,rfl,hv,hg⟩;obtain⟨t,b,rfl⟩:=hv.yes (by omega);refine⟨t,b,rfl,fun W' yH=>?_⟩;have g1:=hW.then (hg.then yH);exact CV (h1.aM g1) ((g1.block _ (aL h3)).trans h3) ho (sQ (hG.aM g1) (hv.aM yH) (by omega)) (Dk.bI g1)
  |some em=>
   simp only;obtain⟨z0,z1,z2,z3,z4,z5⟩:=Pd hr Jm
   have hY:∀W,aK w W->H K 48 #[U (M ⟨db,0,O⟩),I V s.depth] W fun e w'=>OpnA W w' ps db s.depth.toNat fv rs em.1 (qY (plain rs) s.depth.toNat em).1 (Am { s with aX:=true } (plain rs) s.depth.toNat em) e:=fun W hW=>by
    have:=XR (Kj.aM hW) (VK.m_.more (by omega)) (hG.aM hW) (by omega) hr;rwa[hde]at this
   obtain⟨kB,kS,kF⟩:=gs_opn VK em.1 (22*(qY (plain rs) s.depth.toNat em).2) (n_ hr Jm);have hTe:nX { s with aX:=true } (plain rs) em.1 ((22*(qY (plain rs) s.depth.toNat em).2:Nat):Int) (qY (plain rs) s.depth.toNat em).1.2.2.2.2=Am { s with aX:=true } (plain rs) s.depth.toNat em:=rfl;rw[hTe]at kB kS kF;generalize Am { s with aX:=true } (plain rs) s.depth.toNat em=r at*;generalize (qY (plain rs) s.depth.toNat em).1=m' at*;by_cases Qn:r.1=0
   ·rw[if_pos Qn,Qn];rcases kF with⟨-,kO⟩|⟨kE,-⟩
    ·refine(Wp (R:=fun w' lp dp=> ∃W tb,aK w W/\OpnD W w' ps lp dp tb db s.depth.toNat fv rs em.1 m' r) h3 fun W hW=>?_).mono ?_
     ·refine(hY W hW).mono ?_;rintro e w' ⟨k1,-⟩;obtain⟨lp,dp,tb,rfl,hO⟩:=k1 Qn;obtain⟨dI,dH,-,-,hk⟩:=hO.dsk;exact⟨lp,dp,rfl,⟨W,tb,hW,hO⟩,hne hW (Kj.aM hW) hk⟩
     ·rintro e w' ⟨rfl,w1,W1,lp,dp,⟨W,tb,hW,hO⟩,jH,rfl⟩;refine⟨rfl,?_⟩;obtain⟨dI,dH,hd,hp,hk⟩:=hO.dsk;have XK:=(jH.block _ (aL (hne hW (Kj.aM hW) hk))).trans (hne hW (Kj.aM hW) hk);have ga:=(aK.refl W1).alloc (qH lp dp false);have gb:=jH.then ga;have zS:=(ga.block _ (aL XK)).trans XK;have hF:=Fr.set (W1.alloc (qH lp dp false)) ⟨qp,3,O⟩ (U (M ⟨W1.heap.size,0,O⟩));have hse:=heap_alloc_new W1 (qH lp dp false);have hld:=(gb.block _ (aL hO.rP)).trans hO.rP;have hdd:=hd.aM gb;refine⟨La qp db dI dH W1.heap.size lp dp tb,Or.inr ⟨kO,db,dI,dH,W1.heap.size,lp,dp,tb,⟨?_,?_,?_,?_,?_⟩,hp,rfl⟩,?_⟩
      ·refine aS.fr (s:=r.2.1) hdd hF ?_;rintro b hb rfl;exact hdd.other zS (by decide) (by decide) (by decide) (by decide) hb
      ·rw[heap_setCell_same _ qp 3 _ _ _ zS];simp only;rw[kS.1,kS.2.1];rfl
      ·exact hF.at hse (aW hse zS (by decide))
      ·exact hF.at hld (aW hld zS (by decide))
      ·simp only;rw[kS.2.1];exact(hO.dr.aM gb).off hF zS (by decide) (by decide) (by decide) (by decide) (by decide)
      ·have iU:=hW.size;have hsz2:=hk.1.1;have hsz3:=jH.size
       have k1:Dk w w1 (JS qp db fv rs) (JS qp db dI dH):=by
        refine Nu hW ⟨hk.1.mono (fun b hb=>Or.inr hb),hk.2.1,?_⟩;rintro b (hb|hb)
        ·exact Or.inl (Or.inl hb)
        ·rcases hk.2.2 b hb with k|k
         ·exact Or.inl (Or.inr k)
         ·exact Or.inr k
       have k2:=k1.aM gb;refine⟨k2.1.trans (hF.mono (fun b e=>Or.inl e)),k2.2.1,?_⟩;obtain⟨n1,n2,n3⟩:=hO.new;rintro b (hb|hb|rfl|rfl|rfl|rfl)
       ·exact Or.inl (Or.inl hb)
       ·exact k2.2.2 b (Or.inr hb)
       ·exact Or.inr (by omega)
       ·exact Or.inr (by omega)
       ·exact Or.inr (by omega)
       ·exact Or.inr (by omega)
    ·omega
   ·rw[if_neg Qn];rcases kF with⟨kE,-⟩|⟨-,kO⟩
    ·exact absurd kE Qn
    ·refine Bg h3 fun W hW=>?_
     refine(hY W hW).mono ?_;rintro e w' ⟨-,k2⟩;obtain⟨v,rfl,dI,dH,hd,hp,hk,hE⟩:=k2 Qn;obtain⟨t,b,rfl⟩:=hE.yes Qn;refine⟨t,b,rfl,fun W' yH=>?_⟩;have hq:=hne hW (Kj.aM hW) hk
     have k1:Dk w w' (JS qp db fv rs) (JS qp db dI dH):=by
      refine Nu hW ⟨hk.1.mono (fun b hb=>Or.inr hb),hk.2.1,?_⟩;rintro b (hb|hb)
      ·exact Or.inl (Or.inl hb)
      ·rcases hk.2.2 b hb with k|k
       ·exact Or.inl (Or.inr k)
       ·exact Or.inr k
     rw[<-hp];refine CV (hd.aM yH) ?_ kO (sQ (((hG.aM hW).dk (Kj.aM hW) hk).aM yH) (hE.aM yH) (by omega)) (k1.aM yH);rw[kS.1,kS.2.1];exact(yH.block _ (aL hq)).trans hq
 ·have e:uK (s,plain rs,m)=((s,plain rs,m),2):=by unfold uK;simp only;rw[if_pos ho]
  rw[e];obtain⟨-,-,-,c3,-⟩:=eG h1.qu;simp only[Option.map_some]at c3;have HQ:Hid (uR w qp s (plain rs) m (La qp db fv rs sp lp dp tb)):=h0;clear h0 hG hS h1 e ho;go_enter Tryz.func24,Tryz.ntmps24
  go_wp2_with fail
  go_ret;exact⟨rfl,Bf.same HQ.out (aK.refl _)⟩
def AFc (f:AF):List Y:=[I V f.1,.string f.2]
def ah (l:List AF):List Y:=l.flatMap AFc
def B_ (w:F)(B:Nat)(v:Y)(l:List AF):Prop:=w.ownsRow B 58 2 v l.length (ah l)
theorem Bf.at (h:uR w qp s fs m X):Bf w w qp X (s,fs,m):=⟨X,h,Dk.refl w X⟩
theorem xnew {room:Int}(h:NI most depth room):H K 33 #[I V most,I V depth,I V room] w fun e w'=> ∃X,e=G (.tuple #[U (M ⟨w.heap.size+1,0,O⟩),I V 0])/\uR w' (w.heap.size+1) (nV most depth room) [] oN X/\(∀b,X b->w.heap.size<=b)/\aK w w':=by
 refine(YU h).mono ?_;rintro e w' ⟨rfl,rfl⟩;have g1:=(aK.refl w).alloc (C #[I V room,Z O 0 0,.bool false,I V 0,.bool false,I V 0,I V 0,I V 0] 137);have hn:=heap_alloc_new w (C #[I V room,Z O 0 0,.bool false,I V 0,.bool false,I V 0,I V 0,I V 0] 137);have g2:=(aK.refl (w.alloc (C #[I V room,Z O 0 0,.bool false,I V 0,.bool false,I V 0,I V 0,I V 0] 137))).alloc (xC most depth w.heap.size O);refine⟨JS (w.heap.size+1) w.heap.size (Z O 0 0) [],rfl,Or.inl ⟨rfl,w.heap.size,Z O 0 0,[],⟨?_,⟨by simp,Or.inl ⟨rfl,rfl⟩⟩,fun r hr=>by simp at hr,List.Pairwise.nil⟩,rfl,?_,rfl⟩,?_,g1.then g2⟩
 ·exact(g2.block _ (aL hn)).trans hn
 ·have:=heap_alloc_new (w.alloc (C #[I V room,Z O 0 0,.bool false,I V 0,.bool false,I V 0,I V 0,I V 0] 137)) (xC most depth w.heap.size O);rw[show(w.alloc (C #[I V room,Z O 0 0,.bool false,I V 0,.bool false,I V 0,I V 0,I V 0] 137)).heap.size=w.heap.size+1 by simp]at this;exact this
 ·rintro b (rfl|rfl|hb|⟨r,hr,-⟩)
  ·omega
  ·exact Nat.le_refl _
  ·simp[Value.ownBlock]at hb
  ·simp at hr
theorem ai (h:uR w qp s fs m X):H K 32 #[U (M ⟨qp,0,O⟩)] w fun e w'=>e=G (I V (kD s).2)/\Bf w w' qp X ((kD s).1,fs,m):=by
 have h0:=h;rcases h with⟨ho,db,fv,rs,h1,rfl,h3,rfl⟩|⟨ho,db,fv,rs,sp,lp,dp,tb,h1,rfl,rfl⟩
 ·have e:kD s=(s,3):=by unfold kD;rw[if_neg (by simp[ho])]
  rw[e];refine(CP h3).mono ?_;rintro e w' ⟨rfl,rfl⟩;exact⟨rfl,Bf.at h0⟩
 ·have e:kD s=({ s with aX:=false },0):=by unfold kD;rw[if_pos ho]
  rw[e];refine(CQ h1.qu).mono ?_;rintro e w' ⟨rfl,hq,jY⟩;refine⟨rfl,JS qp db fv rs,Or.inl ⟨rfl,db,fv,rs,aS.fr (s:=s) h1.disk jY.1 ?_,rfl,hq,rfl⟩,jY.1.mono ?_,jY.2,?_⟩
  ·rintro b hb rfl;exact h1.disk.other h1.qu (by decide) (by decide) (by decide) (by decide) hb
  ·rintro b rfl;exact Or.inl rfl
  ·rintro b (hb|hb)
   ·exact Or.inl (Or.inl hb)
   ·exact Or.inl (Or.inr (Or.inl hb))
theorem C_ (h:uR w qp s fs m X):H K 40 #[U (M ⟨qp,0,O⟩)] w fun e w'=>e=G (.tuple #[I V (if s.aX then sz m.1 else 0),I V (if s.aX then 0 else 3)])/\w'=w:=by
 rcases h with⟨ho,db,fv,rs,h1,rfl,h3,rfl⟩|⟨ho,db,fv,rs,sp,lp,dp,tb,h1,rfl,rfl⟩
 ·rw[ho];exact Wm h3
 ·rw[ho];exact Wn h1.qu h1.xD h1.Ty
theorem xdone (h:uR w qp s fs m X):H K 25 #[U (M ⟨qp,0,O⟩)] w fun e w'=>e=G (.tuple #[I V (if s.aX then m.2.2.2.1 else 0),I V (if s.aX then 0 else 3)])/\w'=w:=by
 rcases h with⟨ho,db,fv,rs,h1,rfl,h3,rfl⟩|⟨ho,db,fv,rs,sp,lp,dp,tb,h1,rfl,rfl⟩
 ·rw[ho];exact JM h3
 ·rw[ho];exact JN h1.qu h1.xD h1.Ty
theorem uR.disk (h:uR w qp s fs m X):∃db fv rs o,aS w db s fv rs/\plain rs=fs/\w.heap[qp]?=M (xC s.most s.depth db o):=by
 rcases h with⟨ho,db,fv,rs,h1,rfl,h3,rfl⟩|⟨ho,db,fv,rs,sp,lp,dp,tb,h1,rfl,rfl⟩
 ·exact⟨db,fv,rs,O,h1,rfl,h3⟩
 ·exact⟨db,fv,rs,M sp,h1.disk,rfl,h1.qu⟩
structure LdI (w wr:F)(db:Nat)(s:Sc)(v:Y)(rs:List FR)(l:List AF):Prop where
 Qy:wr.heap[db]?=M (jS s v)
 row:wr.ownsRow w.heap.size 155 1 v rs.length (rs.map FR.p)
 fil:∀r∈rs,eY wr r/\w.heap.size<=r.b/\∀g,r.v.ownBlock=M g->w.heap.size<=g
 apart:rs.Pairwise jV
 plain:plain rs=l.map toF
 og:Og w wr db
theorem Wq {B B' e size n:Nat}{v:Y}{xs:List Y}(h:w.ownsRow B e size v n xs)(hB:B'<=B):w.ownsRow B' e size v n xs:=by
 obtain⟨h1,h2⟩:=h;refine⟨h1,?_⟩;rcases h2 with h2|⟨g,cap,aQ,rfl,hg,hh⟩
 ·exact Or.inl h2
 ·exact Or.inr ⟨g,cap,aQ,rfl,Nat.le_trans hB hg,hh⟩
theorem LdI.disk {w':F}{v:Y}{rs:List FR}{l:List AF}(h:LdI w w' db s v rs l):aS w' db s v rs:=
 ⟨h.Qy,Wq h.row (Nat.zero_le _),fun r hr=>(h.fil r hr).1,h.apart⟩
theorem xread {D:Int}(h:uR w qp s fs m X)(hg:GS (s,fs,m) D)(hn:n<=9223372036854775807):
 H K 39 #[U (M ⟨qp,0,O⟩),I V pos,I V n] w fun e w'=>e=G (.tuple #[.string (vM (s,fs,m) pos n).1,I V (vM (s,fs,m) pos n).2])/\aK w w':=by
 rcases h with⟨ho,db,fv,rs,h1,rfl,h3,rfl⟩|⟨ho,db,fv,rs,sp,lp,dp,tb,h1,rfl,rfl⟩
 ·have e:vM (s,plain rs,m) pos n=(⟨#[]⟩,3):=by unfold vM;rw[if_pos ho]
  rw[e];refine(JO h3).mono ?_;rintro e w' ⟨rfl,rfl⟩;exact⟨rfl,aK.refl _⟩
 ·have gm:dJ m s.depth.toNat:=hg.OT ho;have hz:sz m.1<=5000:=gm.long;have uZ:0<=sz m.1:=oI (fun p hp=>by have:=gm.text p hp;omega);by_cases hc:pos<0\/n<0\/sz m.1<pos\/sz m.1-pos<n
  ·have e:vM (s,plain rs,m) pos n=(⟨#[]⟩,5):=by unfold vM;rw[if_neg (by simp[ho]),if_pos hc]
   rw[e]
   have hb:n<0\/oH m.1 pos n=false:=by
    by_cases h5:n<0
    ·exact Or.inl h5
    ·refine Or.inr ?_;unfold oH;rw[Bool.and_eq_false_iff,decide_eq_false_iff_not,decide_eq_false_iff_not];omega
   refine(YV h1.qu h1.xD h1.Ty hn (by omega) uZ hb).mono ?_;rintro e w' ⟨rfl,rfl⟩;exact⟨rfl,aK.refl _⟩
  ·have e:vM (s,plain rs,m) pos n=(jD (aN (plain rs) 1) (jX m.1 pos (pos+n)),0):=by unfold vM;rw[if_neg (by simp[ho]),if_neg hc]
   rw[e];have hbuf:=hg.buf ho;have hlen:=hg.bk.len;simp only[bG]at hlen;have iU:=kI hg.bk.inv 1;have wF:=hg.bk.dN.sF;have fG:m.2.2.2.2<=((aN (plain rs) 1).size:Int):=hbuf;have hs2:((aN (plain rs) 1).size:Int)<=s.room:=iU;have Qb:s.room<=1000000:=wF;have EF:m.1.length<=4096:=gm.few;exact RG h1.qu h1.xD h1.rP h1.disk hg.bk.inv.sort.1 (by omega) (by omega) h1.Ty hz (by omega) (by omega) (by omega) (fun p hp=>by have:=gm.text p hp;omega) (by omega)
end Go.Proofs.YtfplgfodoiiobaaGreatDoor
