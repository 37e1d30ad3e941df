/- Held's round, its third part: no piece is empty. -/
import Derived.Test.YtfplgfodoiiobaaHeldE3
namespace Go.Proofs.Ytfplgfodoiiobaa
open Go.RowKit

set_option maxRecDepth 1000000 in
set_option maxHeartbeats 4000000 in
theorem held_loop {J K : Act → World → Prop} {Q : Exit → Act → World → Prop} {w wr wq : World} {k len cap g5 : Nat} {ao : Option Addr} {l' : List (Int × Int)} {c3 : Int} {v : Value}
    (hk2 : k < 200) (j3 : i64 c3) (t' : TreeAt wq w.heap.size l') (hown' : OwnI wq (w.heap.size + 1) v (fl l')) (hl1' : l'.length ≤ 2 * k + 2) (hl2' : (fl l').length ≤ 30 * k + 30)
    (hB' : Below w.heap.size w wq) (k7 : wq.cell? ⟨wr.heap.size, 3, none⟩ = some (.int .i64 c3))
    (rp7 : RdP wq (some ⟨g5, 0, none⟩) l')
    (u1 u6 u7 u8 u31 u32 u33 u34 u35 u36 u37 u38 u39 u40 u41 u42 u43 u44 u45 u46 u47 : Value)
    (hK : ∀ a' w', Met J a' w' → K a' w') (HK : Hid (∀ wf, HInv w (k + 1) l' v wf → ∀ (v2 v10 v11 v12 v13 v14 v15 v16 v17 v18 v19 v20 v21 v22 v23 v24 v25 v26 v27 v28 v29 v30 v48 v49 v50 v51 v52 v53 v54 v55 v56 v57 v58 v59 v60 v61 v62 v63 v64 v65 v66 v67 v68 v69 v70 v71 v72 v73 v74 v75 v76 v77 v78 v79 v80 v81 v82 v83 v84 v85 v86 v87 v88 v89 v90 v91 v92 v93 v94 v95 v96 v97 v98 v99 v100 v101 v102 v103 v104 v105 v106 v107 v108 v109 v110 v111 v112 v113 v114 v115 v116 v117 v118 v119 v120 v121 v122 v123 v124 v125 v126 v127 v128 v129 v130 v131 v132 v133 v134 v135 v136 v137 v138 v139 v140 v141 v142 v143 v144 v145 v146 v147 v148 v149 v150 v151 v152 v153 v154 v155 v156 v157 v158 v159 v160 v161 v162 v163 v164 v165 v166 v167 v168 v169 v170 v171 v172 v173 v174 v175 v176 v177 v178 v179 v180 v181 v182 v183 v184 v185 v186 v187 v188 v189 v190 v191 v192 v193 v194 v195 v196 v197 v198 v199 v200 v201 v202 v203 v204 v205 v206 v207 v208 v209 v210 v211 v212 v213 v214 v215 v216 v217 v218 v219 v220 v221 v222 v223 v224 v225 v226 v227 v228 v229 v230 v231 v232 v233 v234 v235 v236 v237 v238 v239 v240 v241 v242 v243 v244 v245 : Value), J ⟨#[.slice ao len cap, u1, v2, .pointer (some ⟨w.heap.size, 0, none⟩), v, .int .i64 (l'.length : Int), u6, u7, u8, .int .i64 (k : Int), v10, v11, v12, v13, v14, v15, v16, v17, v18, v19, v20, v21, v22, v23, v24, v25, v26, v27, v28, v29, v30, u31, u32, u33, u34, u35, u36, u37, u38, u39, u40, u41, u42, u43, u44, u45, u46, u47, v48, v49, v50, v51, v52, v53, v54, v55, v56, v57, v58, v59, v60, v61, v62, v63, v64, v65, v66, v67, v68, v69, v70, v71, v72, v73, v74, v75, v76, v77, v78, v79, v80, v81, v82, v83, v84, v85, v86, v87, v88, v89, v90, v91, v92, v93, v94, v95, v96, v97, v98, v99, v100, v101, v102, v103, v104, v105, v106, v107, v108, v109, v110, v111, v112, v113, v114, v115, v116, v117, v118, v119, v120, v121, v122, v123, v124, v125, v126, v127, v128, v129, v130, v131, v132, v133, v134, v135, v136, v137, v138, v139, v140, v141, v142, v143, v144, v145, v146, v147, v148, v149, v150, v151, v152, v153, v154, v155, v156, v157, v158, v159, v160, v161, v162, v163, v164, v165, v166, v167, v168, v169, v170, v171, v172, v173, v174, v175, v176, v177, v178, v179, v180, v181, v182, v183, v184, v185, v186, v187, v188, v189, v190, v191, v192, v193, v194, v195, v196, v197, v198, v199, v200, v201, v202, v203, v204, v205, v206, v207, v208, v209, v210, v211, v212, v213, v214, v215, v216, v217, v218, v219, v220, v221, v222, v223, v224, v225, v226, v227, v228, v229, v230, v231, v232, v233, v234, v235, v236, v237, v238, v239, v240, v241, v242, v243, v244, v245], []⟩ wf))
    (u2 u5 u11 u12 u13 u14 u15 u16 u17 u18 u19 u20 u21 u23 u24 u25 u26 u27 u28 u29 u30 u48 u49 u50 u51 u52 u53 u54 u55 u56 u57 u58 u59 u60 u61 u62 u63 u64 u65 u66 u67 u68 u69 u70 u71 u72 u73 u74 u75 u76 u77 u78 u79 u80 u81 u82 u83 u84 u85 u86 u87 u88 u89 u90 u91 u92 u93 u94 u95 u96 u97 u98 u99 u100 u101 u102 u103 u104 u105 u106 u107 u108 u109 u110 u111 u112 u113 u114 u115 u116 u117 u118 u119 u120 u121 u122 u123 u124 u125 u126 u127 u128 u129 u130 u131 u132 u133 u134 u135 u136 u137 u138 u139 u140 u141 u142 u143 u144 u145 u146 u147 u148 u149 u150 u151 u152 u153 u154 u155 u156 u157 u158 u159 u160 u161 u162 u163 u164 u165 u166 u167 u168 u169 u170 u171 u172 u173 u174 u175 u176 u177 u178 u179 u180 u181 u182 u183 u184 u185 u186 u187 u188 u189 u190 u191 u192 u193 u194 u195 u196 u197 u198 u199 u200 u201 u202 u203 u204 u205 u206 u207 u208 u209 u210 u211 u212 u213 u214 u215 u216 u217 u218 u219 u220 u221 u222 u223 u224 u225 u226 u227 u228 u229 u230 u231 u232 u233 u234 u235 u236 u237 u238 u239 u240 u241 u242 u243 u244 u245 : Value) :
    Code.wp Try.prog ((Try.f3.body.bind (codeAt 41)).getD .skip) (Exit.then K Q) ⟨#[.slice ao len cap, u1, u2, .pointer (some ⟨w.heap.size, 0, none⟩), v, u5, u6, u7, u8, .int .i64 (k : Int), .pointer (some ⟨wr.heap.size, 0, none⟩), u11, u12, u13, u14, u15, u16, u17, u18, u19, u20, u21, .slice (some ⟨g5, 0, none⟩) l'.length l'.length, u23, u24, u25, u26, u27, u28, u29, u30, u31, u32, u33, u34, u35, u36, u37, u38, u39, u40, u41, u42, u43, u44, u45, u46, u47, u48, u49, u50, u51, u52, u53, u54, u55, u56, u57, u58, u59, u60, u61, u62, u63, u64, u65, u66, u67, u68, u69, u70, u71, u72, u73, u74, u75, u76, u77, u78, u79, u80, u81, u82, u83, u84, u85, u86, u87, u88, u89, u90, u91, u92, u93, u94, u95, u96, u97, u98, u99, u100, u101, u102, u103, u104, u105, u106, u107, u108, u109, u110, u111, u112, u113, u114, u115, u116, u117, u118, u119, u120, u121, u122, u123, u124, u125, u126, u127, u128, u129, u130, u131, u132, u133, u134, u135, u136, u137, u138, u139, u140, u141, u142, u143, u144, u145, u146, u147, u148, u149, u150, u151, u152, u153, u154, u155, u156, u157, u158, u159, u160, u161, u162, u163, u164, u165, u166, u167, u168, u169, u170, u171, u172, u173, u174, u175, u176, u177, u178, u179, u180, u181, u182, u183, u184, u185, u186, u187, u188, u189, u190, u191, u192, u193, u194, u195, u196, u197, u198, u199, u200, u201, u202, u203, u204, u205, u206, u207, u208, u209, u210, u211, u212, u213, u214, u215, u216, u217, u218, u219, u220, u221, u222, u223, u224, u225, u226, u227, u228, u229, u230, u231, u232, u233, u234, u235, u236, u237, u238, u239, u240, u241, u242, u243, u244, u245], []⟩ wq := by
  conv => arg 2; whnf
  try dsimp only
  obtain ⟨_, _, _, _, ok', hl4'⟩ := id t'
  have HR : Hid (RdP wq (some ⟨g5, 0, none⟩) l' ∧ okL l') := ⟨rp7, ok'⟩
  clear rp7 ok'
  go_wp2_with fail
  go_loopg [27] l'.length (fun gj i wi => wi = wq ∧ ∃ j : Nat, j ≤ l'.length ∧ gj = l'.length - j ∧ i = .int .i64 (j : Int))
  case atStart => exact ⟨rfl, 0, Nat.zero_le _, rfl, rfl⟩
  case round =>
    obtain ⟨hwz, j, hj, hgj, rfl⟩ := hrel
    rw [hwz]
    clear hwz
    have HJ : Hid (gk = l'.length - j) := hgj
    clear hgj
    by_cases hjl : j < l'.length
    · obtain ⟨rp7, ok'⟩ := HR.out
      have hcl : wq.cell? ⟨g5, j * 2 + 1, none⟩ = some (.int .i64 (l'.getD j (0, 0)).2) := by
        rcases rp7 with h0 | ⟨b', off', h1, h2⟩
        · rw [h0] at hjl; simp at hjl
        · cases h1
          have := (h2 j hjl).2
          simpa only [Nat.zero_add] using this
      have hg1 : 1 ≤ (l'.getD j (0, 0)).2 := (ok' _ (by simp [hjl])).1
      generalize (l'.getD j (0, 0)).2 = z at hcl hg1
      have i3 : (0 : Int) ≤ (j : Int) := by omega
      have i4 : (j : Int) < (l'.length : Int) := by omega
      clear rp7 ok'
      go_wp2_with fail
      go_roundg (l'.length - (j + 1))
      case measure => have := HJ.out; omega
      case rel => exact ⟨rfl, j + 1, by omega, rfl, by go_num⟩
    · clear HR HJ
      unfold i64 at j3
      obtain ⟨_, _, _, _, ok', hl4'⟩ := id t'
      have HFL : Hid (((fl l').length : Int) = sz l') := fl_length ok'
      obtain ⟨mo', cp', rfl, rd7, hcp', hnl', hge'⟩ := hown'.form
      clear hcp' hnl' hge'
      go_wp2_with fail
      refine (pick_any j3.1 j3.2 (by omega) (by omega)).mono ?_
      rintro e wq ⟨r', rfl, p0, p1, rfl⟩
      try dsimp only
      obtain ⟨at', rfl⟩ := Int.eq_ofNat_of_zero_le p0
      go_wp2_with fail
      by_cases ha : at' < (fl l').length
      · refine (find_yes t' (pos := (at' : Int)) (by omega) (by have := HFL.out; omega)).mono ?_
        rintro e w8 ⟨⟨qx, qy⟩, EQ, rfl, hb8⟩
        try dsimp only
        have FB := find_byte ok' ha EQ
        simp only at FB
        have hcz : ∃ b' off', mo' = some ⟨b', off', none⟩ ∧ wq.cell? ⟨b', off' + at', none⟩ = some (.int .i64 ((fl l').getD at' 0)) := by
          rcases rd7 with h0 | ⟨b', off', h1, h2⟩
          · rw [h0] at ha; simp at ha
          · exact ⟨b', off', h1, h2 at' ha⟩
        obtain ⟨b', off', rfl, cz⟩ := hcz
        generalize (fl l').getD at' 0 = z at cz FB
        have cz8 := cell_later hb8 cz
        have hq : (qx != z) = false := by simp; exact FB.1
        have hq2 : 1 ≤ qy := FB.2
        have i3 : (0 : Int) ≤ (at' : Int) := by omega
        have i4 : (at' : Int) < ((fl l').length : Int) := by omega
        have e1 : ((at' : Int) == ((fl l').length : Int)) = false := by simp; omega
        have hlz := World.block_lt_of_cell? _ _ cz8
        clear FB EQ cz rd7
        go_wp2_with fail
        go_region_held3 (fun w' => w'.cell? ⟨w8.heap.size, 0, none⟩ = some (.int .i64 qx) ∧ w'.cell? ⟨w8.heap.size, 1, none⟩ = some (.int .i64 qy) ∧ w'.cell? ⟨b', off' + at', none⟩ = some (.int .i64 z)) (go_keep) (fail)
        all_goals go_wp2_with fail
        all_goals
          refine Met.intro ?_
          apply HK.out
          have BB := b_trans hb8 (b_alloc_drew w8 (.cells #[.int .i64 qx, .int .i64 qy] 29))
          exact ⟨t'.below BB, hown'.below BB, by omega, by omega, b_trans hB' BB⟩
      · have e1 : ((at' : Int) == ((fl l').length : Int)) = true := by simp; omega
        refine (find_no t' (pos := (at' : Int)) (Or.inr (by have := HFL.out; omega))).mono ?_
        rintro e w8 ⟨rfl, hb8⟩
        try dsimp only
        clear rd7
        go_wp2_with fail
        refine Met.intro ?_
        apply HK.out
        have BB := b_trans hb8 (b_alloc w8 (.cells #[.int .i64 0, .int .i64 0] 29))
        exact ⟨t'.below BB, hown'.below BB, by omega, by omega, b_trans hB' BB⟩

end Go.Proofs.Ytfplgfodoiiobaa
