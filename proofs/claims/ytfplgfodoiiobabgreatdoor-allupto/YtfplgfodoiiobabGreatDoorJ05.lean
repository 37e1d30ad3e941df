/- a part of the proof. -/
import Derived.Test.YtfplgfodoiiobabGreatDoorJc
import Derived.Test.YtfplgfodoiiobabGreatDoorCards
import Derived.Stop.LaidErr
import Derived.LaidSub
import Derived.Lib.LaidTab
import Derived.Test.YtfplgfodoiiobabGreatDoorTie
import Derived.WalkKit
import Derived.ProofKit
import Derived.OpenShut
import Derived.LaidHandle
import Derived.LaidLaws
import Derived.Deep.DeepHandedRow
import Derived.Deep.DeepWitnessRowRef
import Derived.Deep.SlicePairs
open Option renaming none->O,some->M
open Go.Obj renaming cells->C
open Go renaming World->F,Value->Y
open Go.Proofs.Tryz renaming prog→K
open Go.Proofs.Tryz
namespace Go.Proofs.YtfplgfodoiiobabGreatDoor
open Go.RowKit
open Go.ChangeShapes Go.WideShapes Go.ChangeAt Go.RowKit
open Go.ChangeShapes Go.WideShapes Go.ChangeAt Go.RowKit Go.Deep
variable {g:Nat}
def Ns (p:Program)(fits:TypeId->Bool):Nat->TypeId->Bool
 |0,_=>false
 |d+1,e=>fits e||(match p.underlying e with
  |some (.struct fs)=>fs.any λf=>Ns p fits d f.type
  |some (.array _ e')=>Ns p fits d e'
  |_=>false)
theorem Qh {p:Program}{fits:TypeId->Bool}:∀(d:Nat) (e:TypeId) (count off n:Nat),rowAt p fits d e count off n=true->Ns p fits d e=true
 |0,_,_,_,_,h=>by simp[rowAt]at h
 |d+1,e,count,off,n,h=>by
  unfold rowAt at h;unfold Ns;simp only at h;split at h
  ·cases h
  ·rw[Bool.or_eq_true]at h ⊢;rcases h with h|h
   ·simp only[Bool.and_eq_true]at h;exact Or.inl h.2
   ·right;rw[Bool.and_eq_true]at h;obtain⟨-,h⟩:=h;split at h
    ·rename_i j a;rw[Bool.and_eq_true]at h;obtain⟨-,h⟩:=h;simp only[a];rw[Array.any_eq_true']at h ⊢;obtain⟨f,i,c⟩:=h;simp only[Bool.and_eq_true]at c;exact⟨f,i,Qh d _ _ _ _ c.2⟩
    ·rename_i m k g;simp only[g];exact Qh d _ _ _ _ h
    ·cases h
theorem Tryz.cellsES:Tryz.prog.cellsOf 353=1:=by kernel_rfl
theorem Tryz.cellsS9:Tryz.prog.cellsOf 9=1:=by kernel_rfl
theorem Tryz.star: "*"++ "errors.errorString"= "*errors.errorString":=by decide
theorem Tryz.rowES (u:TypeId)(h:Tryz.prog.typeName? 3 u=M "*errors.errorString"):u=335:=
 typeName_ptr_named (nm:= "errors.errorString") (by rw[Tryz.star];kernel_rfl) (by kernel_rfl) (by decide) u (by rw[Tryz.star];exact h)
theorem Tryz.depthPos:Tryz.prog.depth=(Tryz.prog.depth-1)+1:=by kernel_rfl
theorem Tryz.globTypes:(List.range 7).map (λg=>(((begin K (λ_ _=>0) default).world.heap[g]?).bind Obj.row?).map (·.2))=[M 119,M 119,M 119,M 119,M 119,M 270,M 327]:=by kernel_rfl
theorem Tryz.globSize:Tryz.prog.globals.size=9:=by kernel_rfl
theorem Tryz.errRows:(List.range Tryz.prog.types.size).all (λt=>!Tryz.prog.rowNamed t [101,114,114,111,114]||t==119)=true:=by kernel_rfl
theorem Tryz.rtypeRow:(Tryz.prog.cutTypes.find? (·.1== "internal/reflectlite.rtype")).map (·.2)=M 295:=by kernel_rfl
theorem yI {W:F}{n:String}{t:TypeId}{cs:Array Y}(hS:W.ShapedOpen K)(hg:Tryz.prog.globalNamed n=M g)(bQ:g<9)(hz:(((begin K (λ_ _=>0) default).world.heap[g]?).bind Obj.row?).map (·.2)=M t)(hv:W.var? K n=M cs):W.heap[g]?=M (C cs t (0,0)):=by
 obtain⟨z,h,c⟩:=AbP.1 hz;obtain⟨zero,e⟩:=z;simp only at c;subst c;obtain⟨d,a,-,-⟩:=hS.1 g zero e (by rw[Tryz.globSize];exact bQ) h;unfold World.var? at hv;rw[hg]at hv;simp only[Option.bind_some,a]at hv;cases hv
 exact a
theorem Tryz.g0:Tryz.prog.globalNamed "quill/ledger.ErrExhausted"=M 2:=by kernel_rfl
theorem Tryz.g1:Tryz.prog.globalNamed "quill/disk.ErrRefused"=M 0:=by kernel_rfl
theorem Tryz.g2:Tryz.prog.globalNamed "quill/disk.ErrStopped"=M 1:=by kernel_rfl
theorem Tryz.g3:Tryz.prog.globalNamed "quill/ledger.ErrSpoilt"=M 3:=by kernel_rfl
theorem Tryz.g4:Tryz.prog.globalNamed "quill/ledger.errMissing"=M 4:=by kernel_rfl
theorem Tryz.g5:Tryz.prog.globalNamed "errors.errorType"=M 5:=by kernel_rfl
theorem Tryz.g6:Tryz.prog.globalNamed "internal/strconv.uint64pow10"=M 6:=by kernel_rfl
theorem Tryz.gTypes:(List.range 5).map (λg=>(Tryz.prog.globals[g]?).map (·.type))=[M 119,M 119,M 119,M 119,M 119]:=by kernel_rfl
theorem Tryz.g6Type:(Tryz.prog.globals[6]?).map (·.type)=M 327:=by kernel_rfl
theorem Tryz.cellsTab:Tryz.prog.cellsOf 327=20:=by kernel_rfl
theorem Tryz.cellsU64:Tryz.prog.cellsOf 318=1:=by kernel_rfl
theorem ls_get {α:Type}{l r:List α}(h:l=r)(i:Nat):l[i]?=r[i]?:=by rw[h]
theorem Dc {t:TypeId}(h:[M 119,M 119,M 119,M 119,M 119,M 270,M 327][g]?=M (M t))(hg:g<7):(((begin K (λ_ _=>0) default).world.heap[g]?).bind Obj.row?).map (·.2)=M t:=by
 have e:=ls_get Tryz.globTypes g;rw[h,AaU,AdF hg]at e;simpa using e
theorem Bb (hg:g<5):(Tryz.prog.globals[g]?).map (·.type)=M 119:=by
 have e:=ls_get Tryz.gTypes g;rw[AaU,AdF hg]at e
 have a:[M 119,M 119,M 119,M 119,M (119:TypeId)][g]?=M (M 119):=by
  have:g=0\/g=1\/g=2\/g=3\/g=4:=by omega
  rcases this with rfl|rfl|rfl|rfl|rfl<;>rfl
 rw[a]at e;simpa using e
abbrev DT (W:F)(ps:List MemPlace):Prop:=∀b off,MemPlace.cell b off∈ps->(∃c t,W.heap[b]?=M (C c t (0,0)))/\∀u v,W.cell? ⟨b,off,O⟩=M (.iface u v)->Value.okWide K W .any 0 u v
theorem Tryz.own:ownKnob Tryz.prog.godebug=O:=by kernel_rfl
theorem Tryz.laidOut:laidOutB K=true:=by kernel_rfl
theorem Tryz.cellsInt:Tryz.prog.cellsOf 3=1:=by kernel_rfl
theorem Tryz.cellsStr:Tryz.prog.cellsOf 9=1:=by kernel_rfl
theorem Tryz.cellsFiles:Tryz.prog.cellsOf 35=1:=by kernel_rfl
theorem Tryz.cellsStep:Tryz.prog.cellsOf 37=7:=by kernel_rfl
theorem Tryz.cellsAF:Tryz.prog.cellsOf 95=2:=by kernel_rfl
theorem bulk_pos {aB:Type}(d:DataW aB):1<=Rows.uptoBulk d:=by
 cases d with
 |lit x=>cases x<;>simp[Rows.uptoBulk]
 |nil=>simp[Rows.uptoBulk]
 |ptr x=>simp[Rows.uptoBulk]
 |slice x y=>simp[Rows.uptoBulk]
 |agg x=>simp[Rows.uptoBulk]
 |iface t x=>simp[Rows.uptoBulk]
 |map x=>simp[Rows.uptoBulk]
 |held x=>simp[Rows.uptoBulk]
theorem PK {aB:Type}:∀l:List (DataW aB),l.length<=Rows.uptoBulkAll l:=by
 intro l
 induction l with
 |nil=>simp
 |cons d r a=>
  have:=bulk_pos d;simp only[Rows.uptoBulkAll,Aan];omega
theorem PL {aB:Type}:∀ {l:List (DataW aB)} {d:DataW aB},d∈l->Rows.uptoBulk d<=Rows.uptoBulkAll l:=by
 intro l
 induction l with
 |nil=>intro d h;cases h
 |cons e r a=>
  intro d h;simp only[Rows.uptoBulkAll];rcases AaG.1 h with rfl|h
  ·omega
  ·have:=a h;omega
def strOf:Y->ByteArray
 | .string s=>s
 |_=>⟨#[]⟩
end Go.Proofs.YtfplgfodoiiobabGreatDoor
