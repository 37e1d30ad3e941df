/- The walk of a step on a tree: Delete. -/
import Derived.Test.YtfplgfodoiiobaaGreatDoorTreesQ
namespace Go.Proofs.YtfplgfodoiiobaaGreatDoor
open Go.RowKit

theorem changed_facts {w wa wc wd : World} {B wb c i : Nat} {rs : List Rec} {sb tb ca ca' : Nat} {ao ao' : Option Addr} {l l' : List (Int × Int)} (h : INV w B wb rs c) (hr : rs[i]? = some (sb, tb, ao, ca, l))
    (ba : Below w.heap.size w wa) (g1 : Gt tb wa wc) (t1 : TreeAt wc tb l') (g2 : Grew wc wd) (r2 : RdT wd ao' l') :
    Fr w (wd.setCell ⟨sb, 1, none⟩ (.slice ao' l'.length ca')) (fun b => b = sb ∨ b = tb) ∧ Below B w (wd.setCell ⟨sb, 1, none⟩ (.slice ao' l'.length ca'))
      ∧ (wd.setCell ⟨sb, 1, none⟩ (.slice ao' l'.length ca')).heap[sb]? = some (pairB tb (.slice ao' l'.length ca')) ∧ TreeAt (wd.setCell ⟨sb, 1, none⟩ (.slice ao' l'.length ca')) tb l' ∧ RdT (wd.setCell ⟨sb, 1, none⟩ (.slice ao' l'.length ca')) ao' l'
      ∧ (∀ b (cur : Array Value) (t : TypeId) (f : Nat × Nat), t ≠ 119 → wd.heap[b]? = some (.cells cur t f) → ¬ (b = sb)) := by
  obtain ⟨p1, p2, p3, p4, p5⟩ := h.rec hr
  have p6 := p2
  obtain ⟨q1, q2, q3, -⟩ := p6
  have hlt := h.lt
  simp only [Rec.sb, Rec.tb, Rec.l, Rec.v] at p1 p2 p3 p4 p5 q3
  have hne : sb ≠ tb := fun e => by rw [e] at p1; exact not_both p1 q3 (ty_ne (by decide))
  have s0 := lt_of_some p1
  have t0 := lt_of_some q3
  have pa : wa.heap[sb]? = some (pairB tb (.slice ao l.length ca)) := (ba.block sb s0).trans p1
  have pc : wc.heap[sb]? = some (pairB tb (.slice ao l.length ca)) := grown_at g1 pa (by simpa using fun e => hne e.symm)
  have pd : wd.heap[sb]? = some (pairB tb (.slice ao l.length ca)) := (g2.block sb (lt_of_some pc)).trans pc
  have td := t1.below g2
  have hset := Fr.set wd ⟨sb, 1, none⟩ (.slice ao' l'.length ca')
  have hX : ∀ b (cur : Array Value) (t : TypeId) (f : Nat × Nat), t ≠ 119 → wd.heap[b]? = some (.cells cur t f) → ¬ (b = sb) := fun b cur t f e hb hx => by subst hx; exact not_both hb pd (ty_ne e)
  have tz := td
  obtain ⟨y1, y2, y3, -⟩ := tz
  have b1 : Below B w wa := ⟨ba.os, ba.tape, ba.output, ba.size, fun b hb => ba.block b (by omega)⟩
  have b2 : Below B w wc := b1.grown g1 (by have := ba.size; omega) (fun k e => by cases e; exact p5)
  exact ⟨(Fr.of_below ba _).trans (((Fr.of_grown g1).mono (fun b e => Or.inr (by cases e; rfl))).trans ((Fr.of_below g2 _).trans (hset.mono (fun b e => Or.inl e)))),
    (below_grew b2 g2 (by have := lt_of_some pc; omega)).setCell (p := ⟨sb, 1, none⟩) p4 _, pair_set pd, td.fr hset (hX _ _ _ _ (by decide) y3) (fun b la ra p h l e => hX _ _ _ _ (by decide) e), r2.fr hset (fun b cur e => hX _ _ _ _ (by decide) e), hX⟩

theorem delR_len {l : List (Int × Int)} (hlen : l.length ≤ 4096) (n m : Int) : (delR l n m).2.1.length ≤ 8000 := by
  unfold delR
  have h1 := len_split l n
  have h2 := len_split (tailB l n) m
  split
  · simp
  · split
    · simp
    · split
      · simp
      · simp only [goneL]; omega

theorem keepT3 {w0 w : World} {tb : Nat} {a b c : Addr} {p q r : Value} (h1 : w0.cell? a = some p) (h2 : w0.cell? b = some q) (h3 : w0.cell? c = some r) (n1 : a.block ≠ tb) (n2 : b.block ≠ tb) (n3 : c.block ≠ tb)
    (h : Gt tb w0 w) : w.cell? a = some p ∧ w.cell? b = some q ∧ w.cell? c = some r ∧ Gt tb w0 w := ⟨h.cell h1 n1, h.cell h2 n2, h.cell h3 n3, h⟩
theorem keepG3 {w0 w : World} {a b c : Addr} {p q r : Value} (h1 : w0.cell? a = some p) (h2 : w0.cell? b = some q) (h3 : w0.cell? c = some r)
    (h : Grew w0 w) : w.cell? a = some p ∧ w.cell? b = some q ∧ w.cell? c = some r ∧ Grew w0 w := ⟨h.cell h1, h.cell h2, h.cell h3, h⟩

theorem OwnP.lt {w : World} {B n cap : Nat} {ao : Option Addr} {l : List (Int × Int)} (h : OwnP w B (.slice ao n cap) l) : ∀ a, ao = some a → B ≤ a.block ∧ a.block < w.heap.size := fun a e => by
  obtain ⟨cur, h1, h2⟩ := h.typed a e
  exact ⟨h2, lt_of_some h1⟩

set_option maxRecDepth 100000 in
set_option maxHeartbeats 1000000 in
theorem grows3 {w : World} {B wb c i : Nat} {rs : List Rec} {r : Rec} (h : INV w B wb rs c) (hc : c ≤ 2000000) (hr : rs[i]? = some r) {a n m k : Int} {s : ByteArray} {fo : Option Addr} {fl fc : Nat} (hn : n ≤ 9223372036854775807) (hm : m ≤ 9223372036854775807) :
    Calls Tryz.prog 67 #[.pointer (some ⟨wb, 0, none⟩), .pointer (some ⟨r.sb, 0, none⟩), stepV 3 a n m k s fo fl fc] w fun e w' => e = .returned (.bool true) ∧ StepOk w w' B wb rs c := by
  obtain ⟨hp, ht, hrd, -, -⟩ := h.rec hr
  have HI : Hid (INV w B wb rs c) := h
  have hwl := h.lt
  obtain ⟨vts, vp, vm, hs, h1, h2, h3, h4, h5, h6, h7, h8, h9⟩ := h
  have htt := ht
  obtain ⟨q1, q2, q3, -⟩ := htt
  obtain ⟨sb, tb, ao, ca, l⟩ := r
  simp only [Rec.sb, Rec.tb, Rec.l, Rec.v] at hp ht hrd q3 ⊢
  obtain ⟨c0, c1, -⟩ := pair_cells hp
  have hlt := lt_of_some hp
  have hlt2 := lt_of_some q3
  have hne : w.heap.size ≠ sb := by omega
  have n1 : sb ≠ tb := fun e => by rw [e] at hp; exact not_both hp q3 (ty_ne (by decide))
  have n2 : w.heap.size ≠ tb := by omega
  obtain ⟨hok, hlen⟩ := ht.ok
  have HPair : Hid (w.heap[sb]? = some (pairB tb (.slice ao l.length ca))) := hp
  have HH : Hid (w.heap[wb]? = some (worldB vts (c : Int) vp vm)) := h1
  clear hp q3 h1
  unfold stepV
  go_enter Tryz.func67, Tryz.ntmps67
  go_upto_region 9 with fail
  have ba : Below w.heap.size w (w.alloc (.cells #[.int .i64 3, .int .i64 a, .int .i64 n, .int .i64 m, .int .i64 k, .string s, .slice fo fl fc] 73)) := b_alloc _ _
  have x2 : (w.alloc (.cells #[.int .i64 3, .int .i64 a, .int .i64 n, .int .i64 m, .int .i64 k, .string s, .slice fo fl fc] 73)).cell? ⟨w.heap.size, 2, none⟩ = some (.int .i64 n) := by simp
  have x3 : (w.alloc (.cells #[.int .i64 3, .int .i64 a, .int .i64 n, .int .i64 m, .int .i64 k, .string s, .slice fo fl fc] 73)).cell? ⟨w.heap.size, 3, none⟩ = some (.int .i64 m) := by simp
  have x0 := cell_later ba c0
  have x1 := cell_later ba c1
  have hta := ht.below ba
  have hra := hrd.fr (Fr.of_below ba (fun _ => False)) (fun _ _ _ => id)
  clear c0 c1
  generalize w.alloc (.cells #[.int .i64 3, .int .i64 a, .int .i64 n, .int .i64 m, .int .i64 k, .string s, .slice fo fl fc] 73) = wa at *
  go_cut [11, 12] (fun v e wc => ∃ go, v = .slice go (delR l n m).2.1.length (delR l n m).2.1.length ∧ e = .int .i64 (delR l n m).2.2 ∧ OwnP wc wa.heap.size (.slice go (delR l n m).2.1.length (delR l n m).2.1.length) (delR l n m).2.1 ∧ TreeAt wc tb (delR l n m).1 ∧ Gt tb wa wc)
  case first =>
    have ga := Gt.refl tb wa
    have htd := hta.drew
    clear ht hta x1 hrd hra ba h3 h4 h5 h6 h7 h8 h9
    go_region_held3 (fun w' => w'.cell? ⟨sb, 0, none⟩ = some (.pointer (some ⟨tb, 0, none⟩)) ∧ w'.cell? ⟨w.heap.size, 2, none⟩ = some (.int .i64 n) ∧ w'.cell? ⟨w.heap.size, 3, none⟩ = some (.int .i64 m) ∧ Gt tb wa w')
      (first | (refine keepT3 x0 x2 x3 n1 n2 n2 ?_; go_split_ands; first | assumption | (exact Gt.drew (by assumption)) | (exact Gt.more (by assumption) (by assumption))))
      (first | (go_at_call 101; refine (deleteT_all htd hm hn).mono ?_; rintro e w5 ⟨go, rfl, ho5, ht5, hg5⟩))
    all_goals go_wp2_with fail
    all_goals go_meet
    all_goals exact ⟨go, rfl, rfl, ho5, ht5, by go_split_ands; assumption⟩
  case rest =>
    obtain ⟨go, rfl, rfl, ho1, t1, g1⟩ := hcut
    rename World => wz
    have z1 := g1.cell x1 n1
    have z2 := g1.cell x2 n2
    have z3 := g1.cell x3 n2
    have hrz : RdT wz ao l := hra.fr (Fr.of_grown g1) (fun b cur e hx => by
      cases hx
      obtain ⟨_, _, q5, -⟩ := hta
      exact not_both e q5 (ty_ne (by decide)))
    go_upto_region 10 with fail
    go_cut [13, 14, 15] (fun v b f wc => ∃ ao' ca' bo bc, v = .slice ao' (delR l n m).1.length ca' ∧ b = .slice bo (delR l n m).2.1.length bc ∧ f = .int .i64 (delR l n m).2.2 ∧ RdT wc ao' (delR l n m).1 ∧ RdT wc bo (delR l n m).2.1 ∧ (∀ a, ao' = some a → ao = some a ∨ wz.heap.size ≤ a.block) ∧ Grew wz wc)
    case first =>
      have ga := Grew.refl wz
      clear x0 x1 x2 x3 ht hta t1 g1 hra hrd ba ho1 h3 h4 h5 h6 h7 h8 h9
      go_region_held3 (fun w' => w'.cell? ⟨sb, 1, none⟩ = some (.slice ao l.length ca) ∧ w'.cell? ⟨w.heap.size, 2, none⟩ = some (.int .i64 n) ∧ w'.cell? ⟨w.heap.size, 3, none⟩ = some (.int .i64 m) ∧ Grew wz w')
        (first | (refine keepG3 z1 z2 z3 ?_; go_split_ands; first | assumption | (exact Grew.drew (by assumption)) | (exact Grew.more (by assumption) (by assumption))))
        (first | (go_at_call 102; refine (rdelete_all (l := l) (w := wz.drew) (hrz.fr (Fr.of_below (w' := wz.drew) ⟨rfl, rfl, rfl, Nat.le_refl _, fun _ _ => rfl⟩ (fun _ => False)) (fun _ _ _ => id)) rfl hok hlen).mono ?_; rintro e w5 ⟨ao', ca', bo, bc, rfl, hr5, hr6, hl5, hb5⟩))
      all_goals go_wp2_with fail
      all_goals go_meet
      all_goals exact ⟨_, _, _, _, rfl, rfl, rfl, hr5, hr6, hl5, by go_split_ands; assumption⟩
    case rest =>
      obtain ⟨ao', ca', bo, bc, rfl, rfl, rfl, r2, r3, hl2, g2⟩ := hcut
      have pa : wa.heap[sb]? = some (pairB tb (.slice ao l.length ca)) := (ba.block sb hlt).trans HPair.out
      have pc : wz.heap[sb]? = some (pairB tb (.slice ao l.length ca)) := grown_at g1 pa (by simpa using fun e => n1 e.symm)
      have pd := (g2.block sb (lt_of_some pc)).trans pc
      obtain ⟨v0, v1, vf⟩ := pair_cells pd
      obtain ⟨f1, f2, f3, f4, f5, f6⟩ := changed_facts (ca' := ca') HI.out hr ba g1 t1 g2 r2
      have ho2 : OwnP (wc.setCell ⟨sb, 1, none⟩ (.slice ao' (delR l n m).1.length ca')) wa.heap.size (.slice go (delR l n m).2.1.length (delR l n m).2.1.length) (delR l n m).2.1 :=
        ownsRow_fr (ho1.grew g2) (Fr.set wc ⟨sb, 1, none⟩ _) (fun g cur _ e => f6 _ _ _ _ (by decide) e)
      have rd2 : RdT (wc.setCell ⟨sb, 1, none⟩ (.slice ao' (delR l n m).1.length ca')) bo (delR l n m).2.1 := r3.fr (Fr.set wc ⟨sb, 1, none⟩ _) (fun b cur e => f6 _ _ _ _ (by decide) e)
      obtain ⟨go', gc', ego, rd1, -⟩ := RdT.of_own ho2
      obtain rfl : go = go' := by injection ego
      have hgl := delR_len hlen n m
      have hba := ba.size
      have hX3 : ∀ b (cur : Array Value) (t : TypeId) (f : Nat × Nat), t ≠ 119 → t ≠ 160 → w.heap[b]? = some (.cells cur t f) → ¬ (b = sb ∨ b = tb) := by
        intro b cur t f e1 e2 hb hx
        rcases hx with rfl | rfl
        · exact not_both hb HPair.out (ty_ne e1)
        · obtain ⟨_, _, q5, -⟩ := ht
          exact not_both hb q5 (ty_ne e2)
      have w1 := f1.at HH.out (hX3 _ _ _ _ (by decide) (by decide) HH.out)
      have w6 := ownsRow_fr h6 f1 (fun g cur _ e => hX3 _ _ _ _ (by decide) (by decide) e)
      have w9 : OwnI _ B vm (marks c) := ownsRow_fr h9 f1 (fun g cur _ e => hX3 _ _ _ _ (by decide) (by decide) e)
      have hgo := ho1.lt
      have hgt : ∀ a, go = some a → ∃ cur, (wc.setCell ⟨sb, 1, none⟩ (.slice ao' (delR l n m).1.length ca')).heap[a.block]? = some (.cells cur 114 (0, 0)) := fun a e => by
        obtain ⟨cur, hc', -⟩ := ho2.typed a e
        exact ⟨cur, hc'⟩
      have hag : ∀ a, ao' = some a → ∀ g, go = some g → a.block ≠ g.block := fun a ha g hg => by
        obtain ⟨s1, s2⟩ := hgo g hg
        rcases hl2 a ha with e | e
        · obtain ⟨cur, hc'⟩ := hrd.2 a e
          have := lt_of_some hc'
          omega
        · omega
      have HEnd : ∀ nd w', OwnDone ((wc.setCell ⟨sb, 1, none⟩ (.slice ao' (delR l n m).1.length ca')).drewN nd) w' B wb c vts vp vm hs go → StepOk w w' B wb rs c := fun nd w' hD =>
        INV.own (r := (sb, tb, ao, ca, l)) (w3 := (wc.setCell ⟨sb, 1, none⟩ (.slice ao' (delR l n m).1.length ca')).drewN nd) HH.out h2 h3 h4 h5 h6 h7 h8 h9 hr f1 ⟨f2.os, f2.tape, f2.output, f2.size, f2.block⟩ f3 (f4.below ⟨rfl, rfl, rfl, Nat.le_refl _, fun _ _ => rfl⟩) f5
          (fun a e => by have := (hgo a e).1; omega) hgt hag hD
      clear pa pc pd x0 x1 x2 x3 z1 z2 z3 HPair f1 f2 f3 f4 f5 f6 h3 h4 h5 h6 h8 h9 HI hr hra hrd hta t1 ht g1 g2 r2 r3 ho1
      go_wp2_with fail
      refine (same_any (l := (delR l n m).2.1) rd1.1 rd2.1 rfl rfl (by omega)).mono ?_
      rintro e w8 ⟨rfl, nd, rfl⟩
      go_wp2_with fail
      refine (own_any (hs := hs) (l := (delR l n m).2.1) (by exact w1) h2 (by exact w6) h7 (by exact w9) (by exact OwnP.weak ho2 (by omega)) hc (by omega)).mono ?_
      rintro e w9 ⟨rfl, hD⟩
      go_wp2_with fail
      refine num_any.mono ?_
      rintro e w9 ⟨rfl, rfl⟩
      go_wp2_with fail
      go_ret
      exact ⟨by simp, HEnd _ _ hD⟩

end Go.Proofs.YtfplgfodoiiobaaGreatDoor
