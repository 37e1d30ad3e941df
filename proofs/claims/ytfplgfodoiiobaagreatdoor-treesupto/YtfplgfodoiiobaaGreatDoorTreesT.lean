/- The walk of a step of the script, on trees. -/
import Derived.Test.YtfplgfodoiiobaaGreatDoorTreesS
namespace Go.Proofs.YtfplgfodoiiobaaGreatDoor
open Go.RowKit

/-- What a step of the script leaves. -/
def StepDone (w w' : World) (B wb : Nat) (rs : List Rec) (c : Nat) : Prop := Below B w w' ∧ ∃ rs' c', INV w' B wb rs' c' ∧ rs'.length ≤ rs.length + 1 ∧ c' ≤ c + 1

theorem made_done {w wa w5 : World} {B wb c tb n8 c8 : Nat} {rs : List Rec} {vts vp vm : Value} {hs : List Lst} {x8 : Option Addr} (h1 : w.heap[wb]? = some (worldB vts (c : Int) vp vm)) (h2 : B ≤ wb)
    (h3 : w.ownsRow B 117 1 vts rs.length (rs.map (fun r : Rec => Value.pointer (some ⟨r.sb, 0, none⟩)))) (h4 : ∀ r ∈ rs, RecAt w B r) (h5 : rs.Pairwise Apart)
    (h6 : w.ownsRow B 102 1 vp hs.length (hs.map Lst.v)) (h7 : hs.length = 4 * c) (h8 : Held w hs) (h9 : OwnI w B vm (marks c))
    (ba : Below w.heap.size w wa) (hta : TreeAt wa tb []) (htb : w.heap.size ≤ tb)
    (hg : ((wa.alloc (pairB tb (.slice none 0 0))).alloc (.cells #[.pointer (some ⟨wa.heap.size, 0, none⟩)] 117)).grownBy w5 vts.ownBlock) (hw5 : w5.heap[wb]? = some (worldB vts (c : Int) vp vm))
    (hown : w5.ownsRow B 117 1 (.slice x8 n8 c8) (rs.length + 1) (rs.map (fun r : Rec => Value.pointer (some ⟨r.sb, 0, none⟩)) ++ [Value.pointer (some ⟨wa.heap.size, 0, none⟩)])) :
    StepDone w (w5.setCell ⟨wb, 0, none⟩ (.slice x8 n8 c8)) B wb rs c := by
  have hlt := lt_of_some h1
  have hsz := ba.size
  have b2 : Below w.heap.size w ((wa.alloc (pairB tb (.slice none 0 0))).alloc (.cells #[.pointer (some ⟨wa.heap.size, 0, none⟩)] 117)) := b_trans ba (b_trans (b_alloc _ _) (b_alloc _ _))
  have pk : ((wa.alloc (pairB tb (.slice none 0 0))).alloc (.cells #[.pointer (some ⟨wa.heap.size, 0, none⟩)] 117)).heap[wa.heap.size]? = some (pairB tb (.slice none 0 0)) := by
    rw [Below.heap_alloc _ _ _ (by simp)]
    exact heap_alloc_new wa _
  have tk := hta.below (b_trans (b_alloc wa (pairB tb (.slice none 0 0))) (b_alloc _ (.cells #[.pointer (some ⟨wa.heap.size, 0, none⟩)] 117)))
  have hnv : ∀ b (cur : Array Value) (t : TypeId) (f : Nat × Nat), t ≠ 117 → ((wa.alloc (pairB tb (.slice none 0 0))).alloc (.cells #[.pointer (some ⟨wa.heap.size, 0, none⟩)] 117)).heap[b]? = some (.cells cur t f) → ¬ vts.ownBlock = some b := by
    intro b cur t f e hb
    exact row_ne (ownsRow_fr h3 (Fr.of_below b2 (fun _ => False)) (fun _ _ _ _ => id)) hb (Ne.symm e)
  have F5 := Fr.of_grown hg
  have p5 := F5.at pk (hnv _ _ _ _ (by decide) pk)
  have tk' := tk
  obtain ⟨y1, y2, y3, -⟩ := tk'
  have t5 : TreeAt w5 tb [] := tk.fr F5 (hnv _ _ _ _ (by decide) y3) (fun b la ra p h l e => hnv _ _ _ _ (by decide) e)
  have hset := Fr.set w5 ⟨wb, 0, none⟩ (.slice x8 n8 c8)
  have hX : ∀ b (cur : Array Value) (t : TypeId) (f : Nat × Nat), t ≠ 71 → w5.heap[b]? = some (.cells cur t f) → ¬ (b = wb) := fun b cur t f e hb hx => by subst hx; exact not_both hb hw5 (ty_ne e)
  have t5' := t5
  obtain ⟨u1, u2, u3, -⟩ := t5'
  have hBs : B ≤ w.heap.size := by omega
  refine ⟨?_, _, c, INV.grown (r := (wa.heap.size, tb, none, 0, [])) h4 h5 h6 h7 h8 h9 h1 h2 h3 ?_ (world_set0 hw5) (ownsRow_fr hown hset (fun g cur _ e => hX _ _ _ _ (by decide) e)) ⟨hset.at p5 (hX _ _ _ _ (by decide) p5), t5.fr hset (hX _ _ _ _ (by decide) u3) (fun b la ra p h l e => hX _ _ _ _ (by decide) e), RdT.nil _, ?_, ?_⟩ hsz htb, by simp, by omega⟩
  · have c1 : Below B w ((wa.alloc (pairB tb (.slice none 0 0))).alloc (.cells #[.pointer (some ⟨wa.heap.size, 0, none⟩)] 117)) := ⟨b2.os, b2.tape, b2.output, b2.size, fun b hb => b2.block b (by omega)⟩
    exact (c1.grown hg (by have := b2.size; omega) (fun k e => (World.ownsRow.lt h3 k e).1)).setCell (p := ⟨wb, 0, none⟩) h2 _
  · exact (Fr.of_below b2 _).trans ((F5.mono (fun b e => Or.inr e)).trans (hset.mono (fun b e => Or.inl e)))
  · show B ≤ wa.heap.size; omega
  · show B ≤ tb; omega

set_option maxRecDepth 100000 in
set_option maxHeartbeats 1000000 in
theorem step1 {w : World} {B wb c : Nat} {rs : List Rec} (h : INV w B wb rs c) (hl : rs.length ≤ 2000000) {a n m k : Int} {s : ByteArray} {fo : Option Addr} {fl fc : Nat} :
    Calls Tryz.prog 37 #[.pointer (some ⟨wb, 0, none⟩), stepV 1 a n m k s fo fl fc] w fun e w' => e = .returned (.bool true) ∧ StepDone w w' B wb rs c := by
  obtain ⟨vts, vp, vm, hs, h1, h2, h3, h4, h5, h6, h7, h8, h9⟩ := h
  have hlt := lt_of_some h1
  have HH : Hid (w.heap[wb]? = some (worldB vts (c : Int) vp vm)) := h1
  clear h1
  unfold stepV
  go_enter Tryz.func37, Tryz.ntmps37
  go_wp2_with fail
  refine (new_any _).mono ?_
  rintro e w1 ⟨rfl, rfl⟩
  have ba : Below w.heap.size w ((w.alloc (.cells #[.int .i64 1, .int .i64 a, .int .i64 n, .int .i64 m, .int .i64 k, .string s, .slice fo fl fc] 73)).alloc (treeB none)) := b_trans (b_alloc _ _) (b_alloc _ _)
  have hta := new_tree (w.alloc (.cells #[.int .i64 1, .int .i64 a, .int .i64 n, .int .i64 m, .int .i64 k, .string s, .slice fo fl fc] 73))
  rw [World.size_alloc] at hta ⊢
  generalize (w.alloc (.cells #[.int .i64 1, .int .i64 a, .int .i64 n, .int .i64 m, .int .i64 k, .string s, .slice fo fl fc] 73)).alloc (treeB none) = wa at *
  have pa : wa.heap[wb]? = some (worldB vts (c : Int) vp vm) := (ba.block wb hlt).trans HH.out
  have h3a := ownsRow_fr h3 (Fr.of_below ba (fun _ => False)) (fun _ _ _ _ => id)
  obtain ⟨d0, -, -, -, -, -, -⟩ := world_cells pa
  have hwa : ∀ o o', ((wa.alloc o).alloc o').heap[wb]? = some (worldB vts (c : Int) vp vm) := fun o o' => ((b_trans (b_alloc wa o) (b_alloc _ o')).block wb (lt_of_some pa)).trans pa
  have hnv : ¬ vts.ownBlock = some wb := row_ne h3a pa (by decide)
  have hBs : B ≤ wa.heap.size := by have := ba.size; omega
  have hpos : wa.heap.size ≠ wb := by have := lt_of_some pa; omega
  go_upto_region 4 with (at_builtin; go_must (refine wp_append_tree (by rfl) (.tmp 15) (.tmp 19) (by rfl) B vts (rs.map (fun r : Rec => Value.pointer (some ⟨r.sb, 0, none⟩))) rs.length (.pointer (some ⟨wa.heap.size, 0, none⟩)) (by rfl) (by exact World.ownsRow.alloc (World.ownsRow.alloc h3a _) _) _ _ _ (by rfl) (by rfl) (by simp [Addr.add]) (by rfl) (by omega) (by simp; omega) ?_); intro v8 w5 hown5 hg5; obtain ⟨x8, n8, c8, rfl⟩ := row_slice hown5; have hw5 := grown_at hg5 (hwa _ _) hnv; obtain ⟨z0, -, -, -, -, -, zf⟩ := world_cells hw5; have zf0 := zf 0; clear zf)
  have HEnd := made_done HH.out h2 h3 h4 h5 h6 h7 h8 h9 ba hta (by omega) hg5 hw5 hown5
  clear hg5 hown5 h3 h4 h5 h6 h8 h9
  go_wp2_with fail
  go_ret
  exact ⟨by simp, HEnd⟩

end Go.Proofs.YtfplgfodoiiobaaGreatDoor
