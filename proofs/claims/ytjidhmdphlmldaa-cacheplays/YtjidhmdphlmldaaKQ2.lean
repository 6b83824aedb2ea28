/-
  CachePlays, the ways through its block 4.
-/
import Derived.Test.YtjidhmdphlmldaaKJ
import Derived.Deep.CutBlock
import Derived.Deep.Fields
namespace Go.Proofs.Ytjidhmdphlmldaa
open Go.ChangeShapes Go.WideShapes Go.ChangeAt Go.RowKit
set_option maxRecDepth 1000000

set_option maxHeartbeats 4000000 in
theorem b4d {w U wr : World} {C vm pg k X ncap : Nat} {lv v : Value} {np : Option Addr} {L m : List R5} {Frame : Int} {Wt : Bool} {v0 v1 v2 v4 v5 v6 v11 v12 v13 v14 v15 v16 v17 v18 v19 v20 v21 v22 v23 v24 v25 v26 v27 v28 v29 v30 v31 v32 v33 v34 v35 v36 v37 v38 v39 v40 v41 v42 v43 v44 v45 v46 v47 v48 v49 v50 v51 v52 v53 v54 v55 v56 v57 v58 v59 v60 v61 v62 v63 v64 v65 v66 v67 v68 v69 v70 v71 v72 v73 v74 v75 v76 v77 v78 v79 v80 v81 v82 v83 v84 v85 v86 v87 v88 v89 v90 v91 v92 v93 v94 v95 v96 v97 v98 v99 v100 v101 v102 v103 v104 v106 v107 v108 v109 v110 v111 v112 v113 v114 v115 v116 v117 v118 v119 v120 v121 v122 v123 v124 v125 v126 v127 v128 v129 v130 v131 v132 v133 v134 v135 v136 v137 v138 v139 v140 v141 v142 v143 v144 v145 v146 v147 v148 v149 v150 v151 v152 v153 v154 v155 v156 v157 v158 v159 v160 v161 v162 v163 v164 v165 v166 v167 v168 v169 v170 v171 v172 v173 v174 v175 v176 v177 v178 v179 v180 v181 v182 v183 v184 v185 v186 v187 v188 v189 v190 v191 v192 v193 v194 : Value} (HP2 : Hid (PI w U C lv L)) (HN : Hid (NX U wr (.slice np m.length ncap) m)) (HV : Hid (Ca U w.heap.size C v L)) (HX : Hid (L3 U X (.bool true) (.int .i64 Frame) (.bool Wt))) (HXC : Hid (X ≠ C ∧ v.ownBlock ≠ some X)) (HM : Hid (L.filter (keepB k vm pg) = m)) (hm8 : m.length ≤ 8) (hk : k = 4) {J K' : Act → World → Prop} {Qr : Exit → Act → World → Prop}
    (hJ : ∀ a' w', (∃ u10 u106 u107 u108 u109 u110 u111 u112 u113 u114 u115 u116 u117 u118 u119 u120 u121 u122 u123 u124 u125 u126 u127 u128 u129 u130 u131 u132 u133 u134 u135 u136 u137 : Value, PI w w' C u10 (stepL k vm pg Frame Wt L) ∧ a' = ⟨#[v0, v1, v2, .pointer (some ⟨C, 0, none⟩), v4, v5, v6, .int .i64 (vm : Nat), .int .i64 (pg : Nat), .pointer (some ⟨X, 0, none⟩), u10, v11, v12, v13, v14, v15, v16, v17, v18, v19, v20, v21, v22, v23, v24, v25, v26, v27, v28, v29, v30, v31, v32, v33, v34, v35, v36, v37, v38, v39, v40, v41, v42, v43, v44, v45, v46, v47, v48, v49, v50, v51, v52, v53, v54, v55, v56, v57, v58, v59, v60, v61, v62, v63, v64, v65, v66, v67, v68, v69, v70, v71, v72, v73, v74, v75, v76, v77, v78, v79, v80, v81, v82, v83, v84, v85, v86, v87, v88, v89, v90, v91, v92, v93, v94, v95, v96, v97, v98, v99, v100, v101, v102, v103, v104, .int .u8 (k : Nat), u106, u107, u108, u109, u110, u111, u112, u113, u114, u115, u116, u117, u118, u119, u120, u121, u122, u123, u124, u125, u126, u127, u128, u129, u130, u131, u132, u133, u134, u135, u136, u137, v138, v139, v140, v141, v142, v143, v144, v145, v146, v147, v148, v149, v150, v151, v152, v153, v154, v155, v156, v157, v158, v159, v160, v161, v162, v163, v164, v165, v166, v167, v168, v169, v170, v171, v172, v173, v174, v175, v176, v177, v178, v179, v180, v181, v182, v183, v184, v185, v186, v187, v188, v189, v190, v191, v192, v193, v194], []⟩) → J a' w') (hKK : ∀ a' w', Met J a' w' → K' a' w') :
    Code.wp Try.prog (blk Try.f3 4) (Exit.then K' Qr) ⟨#[v0, v1, v2, .pointer (some ⟨C, 0, none⟩), v4, v5, v6, .int .i64 (vm : Nat), .int .i64 (pg : Nat), .pointer (some ⟨X, 0, none⟩), .slice np m.length ncap, v11, v12, v13, v14, v15, v16, v17, v18, v19, v20, v21, v22, v23, v24, v25, v26, v27, v28, v29, v30, v31, v32, v33, v34, v35, v36, v37, v38, v39, v40, v41, v42, v43, v44, v45, v46, v47, v48, v49, v50, v51, v52, v53, v54, v55, v56, v57, v58, v59, v60, v61, v62, v63, v64, v65, v66, v67, v68, v69, v70, v71, v72, v73, v74, v75, v76, v77, v78, v79, v80, v81, v82, v83, v84, v85, v86, v87, v88, v89, v90, v91, v92, v93, v94, v95, v96, v97, v98, v99, v100, v101, v102, v103, v104, .int .u8 (k : Nat), v106, v107, v108, v109, v110, v111, v112, v113, v114, v115, v116, v117, v118, v119, v120, v121, v122, v123, v124, v125, v126, v127, v128, v129, v130, v131, v132, v133, v134, v135, v136, v137, v138, v139, v140, v141, v142, v143, v144, v145, v146, v147, v148, v149, v150, v151, v152, v153, v154, v155, v156, v157, v158, v159, v160, v161, v162, v163, v164, v165, v166, v167, v168, v169, v170, v171, v172, v173, v174, v175, v176, v177, v178, v179, v180, v181, v182, v183, v184, v185, v186, v187, v188, v189, v190, v191, v192, v193, v194], []⟩ wr := by
  have hall := (And.intro HP2 (And.intro HN (And.intro HV (And.intro HX (And.intro HXC (And.intro HM (And.intro hm8 hk)))))))
  clear hall
  conv => arg 2; whnf
  have e4 : ((k : Int) == 4) = true := by simp; omega
  have e5 : ((k : Int) == 5) = false := by simp; omega
  have e6 : ((k : Int) == 6) = false := by simp; omega
  have HKk := Lib.hid hk
  clear hk
  have hc := drop_in ((HV.out).below (HN.out).be) vm pg
  have HC := Lib.hid hc
  clear hc
  go_wp2_with fail
  refine (HC.out).mono ?_
  intro e w3 h3
  have HT : Hid (PI w w3 C (.slice np m.length ncap) (stepL k vm pg Frame Wt L)) := Lib.hid (by
    have hk := HKk.out
    have hs : stepL k vm pg Frame Wt L = L.filter (fun r => !hitK vm pg r) := by unfold stepL; rw [if_neg (by omega), filter_hit (K := k) (by omega)]
    have := (HP2.out).turn HN.out HV.out h3 (by rw [← hs]; exact (HP2.out).uq.step k vm pg Frame Wt) (by rw [← HM.out]; rw [filter_hit (K := k) (by omega)])
    rw [hs]
    exact this)
  obtain rfl := h3.1
  clear h3 HC
  dsimp only
  go_wp2
  go_meet
  exact HT.out
set_option maxHeartbeats 4000000 in
theorem b4v {w U wr : World} {C vm pg k X ncap : Nat} {lv v : Value} {np : Option Addr} {L m : List R5} {Frame : Int} {Wt : Bool} {v0 v1 v2 v4 v5 v6 v11 v12 v13 v14 v15 v16 v17 v18 v19 v20 v21 v22 v23 v24 v25 v26 v27 v28 v29 v30 v31 v32 v33 v34 v35 v36 v37 v38 v39 v40 v41 v42 v43 v44 v45 v46 v47 v48 v49 v50 v51 v52 v53 v54 v55 v56 v57 v58 v59 v60 v61 v62 v63 v64 v65 v66 v67 v68 v69 v70 v71 v72 v73 v74 v75 v76 v77 v78 v79 v80 v81 v82 v83 v84 v85 v86 v87 v88 v89 v90 v91 v92 v93 v94 v95 v96 v97 v98 v99 v100 v101 v102 v103 v104 v106 v107 v108 v109 v110 v111 v112 v113 v114 v115 v116 v117 v118 v119 v120 v121 v122 v123 v124 v125 v126 v127 v128 v129 v130 v131 v132 v133 v134 v135 v136 v137 v138 v139 v140 v141 v142 v143 v144 v145 v146 v147 v148 v149 v150 v151 v152 v153 v154 v155 v156 v157 v158 v159 v160 v161 v162 v163 v164 v165 v166 v167 v168 v169 v170 v171 v172 v173 v174 v175 v176 v177 v178 v179 v180 v181 v182 v183 v184 v185 v186 v187 v188 v189 v190 v191 v192 v193 v194 : Value} (HP2 : Hid (PI w U C lv L)) (HN : Hid (NX U wr (.slice np m.length ncap) m)) (HV : Hid (Ca U w.heap.size C v L)) (HX : Hid (L3 U X (.bool true) (.int .i64 Frame) (.bool Wt))) (HXC : Hid (X ≠ C ∧ v.ownBlock ≠ some X)) (HM : Hid (L.filter (keepB k vm pg) = m)) (hm8 : m.length ≤ 8) (hk : k = 5) {J K' : Act → World → Prop} {Qr : Exit → Act → World → Prop}
    (hJ : ∀ a' w', (∃ u10 u106 u107 u108 u109 u110 u111 u112 u113 u114 u115 u116 u117 u118 u119 u120 u121 u122 u123 u124 u125 u126 u127 u128 u129 u130 u131 u132 u133 u134 u135 u136 u137 : Value, PI w w' C u10 (stepL k vm pg Frame Wt L) ∧ a' = ⟨#[v0, v1, v2, .pointer (some ⟨C, 0, none⟩), v4, v5, v6, .int .i64 (vm : Nat), .int .i64 (pg : Nat), .pointer (some ⟨X, 0, none⟩), u10, v11, v12, v13, v14, v15, v16, v17, v18, v19, v20, v21, v22, v23, v24, v25, v26, v27, v28, v29, v30, v31, v32, v33, v34, v35, v36, v37, v38, v39, v40, v41, v42, v43, v44, v45, v46, v47, v48, v49, v50, v51, v52, v53, v54, v55, v56, v57, v58, v59, v60, v61, v62, v63, v64, v65, v66, v67, v68, v69, v70, v71, v72, v73, v74, v75, v76, v77, v78, v79, v80, v81, v82, v83, v84, v85, v86, v87, v88, v89, v90, v91, v92, v93, v94, v95, v96, v97, v98, v99, v100, v101, v102, v103, v104, .int .u8 (k : Nat), u106, u107, u108, u109, u110, u111, u112, u113, u114, u115, u116, u117, u118, u119, u120, u121, u122, u123, u124, u125, u126, u127, u128, u129, u130, u131, u132, u133, u134, u135, u136, u137, v138, v139, v140, v141, v142, v143, v144, v145, v146, v147, v148, v149, v150, v151, v152, v153, v154, v155, v156, v157, v158, v159, v160, v161, v162, v163, v164, v165, v166, v167, v168, v169, v170, v171, v172, v173, v174, v175, v176, v177, v178, v179, v180, v181, v182, v183, v184, v185, v186, v187, v188, v189, v190, v191, v192, v193, v194], []⟩) → J a' w') (hKK : ∀ a' w', Met J a' w' → K' a' w') :
    Code.wp Try.prog (blk Try.f3 4) (Exit.then K' Qr) ⟨#[v0, v1, v2, .pointer (some ⟨C, 0, none⟩), v4, v5, v6, .int .i64 (vm : Nat), .int .i64 (pg : Nat), .pointer (some ⟨X, 0, none⟩), .slice np m.length ncap, v11, v12, v13, v14, v15, v16, v17, v18, v19, v20, v21, v22, v23, v24, v25, v26, v27, v28, v29, v30, v31, v32, v33, v34, v35, v36, v37, v38, v39, v40, v41, v42, v43, v44, v45, v46, v47, v48, v49, v50, v51, v52, v53, v54, v55, v56, v57, v58, v59, v60, v61, v62, v63, v64, v65, v66, v67, v68, v69, v70, v71, v72, v73, v74, v75, v76, v77, v78, v79, v80, v81, v82, v83, v84, v85, v86, v87, v88, v89, v90, v91, v92, v93, v94, v95, v96, v97, v98, v99, v100, v101, v102, v103, v104, .int .u8 (k : Nat), v106, v107, v108, v109, v110, v111, v112, v113, v114, v115, v116, v117, v118, v119, v120, v121, v122, v123, v124, v125, v126, v127, v128, v129, v130, v131, v132, v133, v134, v135, v136, v137, v138, v139, v140, v141, v142, v143, v144, v145, v146, v147, v148, v149, v150, v151, v152, v153, v154, v155, v156, v157, v158, v159, v160, v161, v162, v163, v164, v165, v166, v167, v168, v169, v170, v171, v172, v173, v174, v175, v176, v177, v178, v179, v180, v181, v182, v183, v184, v185, v186, v187, v188, v189, v190, v191, v192, v193, v194], []⟩ wr := by
  have hall := (And.intro HP2 (And.intro HN (And.intro HV (And.intro HX (And.intro HXC (And.intro HM (And.intro hm8 hk)))))))
  clear hall
  conv => arg 2; whnf
  have e4 : ((k : Int) == 4) = false := by simp; omega
  have e5 : ((k : Int) == 5) = true := by simp; omega
  have e6 : ((k : Int) == 6) = false := by simp; omega
  have HKk := Lib.hid hk
  clear hk
  have hc := dropVM_in ((HV.out).below (HN.out).be) vm
  have HC := Lib.hid hc
  clear hc
  go_wp2_with fail
  refine (HC.out).mono ?_
  intro e w3 h3
  have HT : Hid (PI w w3 C (.slice np m.length ncap) (stepL k vm pg Frame Wt L)) := Lib.hid (by
    have hk := HKk.out
    have hs : stepL k vm pg Frame Wt L = L.filter (fun r => !decide (r.vm = (vm : Int))) := by unfold stepL; subst hk; rw [if_neg (by omega), filter_vm (vm : Int) (pg : Int)]
    have := (HP2.out).turn HN.out HV.out h3 (by rw [← hs]; exact (HP2.out).uq.step k vm pg Frame Wt) (by rw [← HM.out]; subst hk; rw [filter_vm (vm : Int) (pg : Int)])
    rw [hs]
    exact this)
  obtain rfl := h3.1
  clear h3 HC
  dsimp only
  go_wp2
  go_meet
  exact HT.out
set_option maxHeartbeats 4000000 in
theorem b4c {w U wr : World} {C vm pg k X ncap : Nat} {lv v : Value} {np : Option Addr} {L m : List R5} {Frame : Int} {Wt : Bool} {v0 v1 v2 v4 v5 v6 v11 v12 v13 v14 v15 v16 v17 v18 v19 v20 v21 v22 v23 v24 v25 v26 v27 v28 v29 v30 v31 v32 v33 v34 v35 v36 v37 v38 v39 v40 v41 v42 v43 v44 v45 v46 v47 v48 v49 v50 v51 v52 v53 v54 v55 v56 v57 v58 v59 v60 v61 v62 v63 v64 v65 v66 v67 v68 v69 v70 v71 v72 v73 v74 v75 v76 v77 v78 v79 v80 v81 v82 v83 v84 v85 v86 v87 v88 v89 v90 v91 v92 v93 v94 v95 v96 v97 v98 v99 v100 v101 v102 v103 v104 v106 v107 v108 v109 v110 v111 v112 v113 v114 v115 v116 v117 v118 v119 v120 v121 v122 v123 v124 v125 v126 v127 v128 v129 v130 v131 v132 v133 v134 v135 v136 v137 v138 v139 v140 v141 v142 v143 v144 v145 v146 v147 v148 v149 v150 v151 v152 v153 v154 v155 v156 v157 v158 v159 v160 v161 v162 v163 v164 v165 v166 v167 v168 v169 v170 v171 v172 v173 v174 v175 v176 v177 v178 v179 v180 v181 v182 v183 v184 v185 v186 v187 v188 v189 v190 v191 v192 v193 v194 : Value} (HP2 : Hid (PI w U C lv L)) (HN : Hid (NX U wr (.slice np m.length ncap) m)) (HV : Hid (Ca U w.heap.size C v L)) (HX : Hid (L3 U X (.bool true) (.int .i64 Frame) (.bool Wt))) (HXC : Hid (X ≠ C ∧ v.ownBlock ≠ some X)) (HM : Hid (L.filter (keepB k vm pg) = m)) (hm8 : m.length ≤ 8) (hk : k = 6) {J K' : Act → World → Prop} {Qr : Exit → Act → World → Prop}
    (hJ : ∀ a' w', (∃ u10 u106 u107 u108 u109 u110 u111 u112 u113 u114 u115 u116 u117 u118 u119 u120 u121 u122 u123 u124 u125 u126 u127 u128 u129 u130 u131 u132 u133 u134 u135 u136 u137 : Value, PI w w' C u10 (stepL k vm pg Frame Wt L) ∧ a' = ⟨#[v0, v1, v2, .pointer (some ⟨C, 0, none⟩), v4, v5, v6, .int .i64 (vm : Nat), .int .i64 (pg : Nat), .pointer (some ⟨X, 0, none⟩), u10, v11, v12, v13, v14, v15, v16, v17, v18, v19, v20, v21, v22, v23, v24, v25, v26, v27, v28, v29, v30, v31, v32, v33, v34, v35, v36, v37, v38, v39, v40, v41, v42, v43, v44, v45, v46, v47, v48, v49, v50, v51, v52, v53, v54, v55, v56, v57, v58, v59, v60, v61, v62, v63, v64, v65, v66, v67, v68, v69, v70, v71, v72, v73, v74, v75, v76, v77, v78, v79, v80, v81, v82, v83, v84, v85, v86, v87, v88, v89, v90, v91, v92, v93, v94, v95, v96, v97, v98, v99, v100, v101, v102, v103, v104, .int .u8 (k : Nat), u106, u107, u108, u109, u110, u111, u112, u113, u114, u115, u116, u117, u118, u119, u120, u121, u122, u123, u124, u125, u126, u127, u128, u129, u130, u131, u132, u133, u134, u135, u136, u137, v138, v139, v140, v141, v142, v143, v144, v145, v146, v147, v148, v149, v150, v151, v152, v153, v154, v155, v156, v157, v158, v159, v160, v161, v162, v163, v164, v165, v166, v167, v168, v169, v170, v171, v172, v173, v174, v175, v176, v177, v178, v179, v180, v181, v182, v183, v184, v185, v186, v187, v188, v189, v190, v191, v192, v193, v194], []⟩) → J a' w') (hKK : ∀ a' w', Met J a' w' → K' a' w') :
    Code.wp Try.prog (blk Try.f3 4) (Exit.then K' Qr) ⟨#[v0, v1, v2, .pointer (some ⟨C, 0, none⟩), v4, v5, v6, .int .i64 (vm : Nat), .int .i64 (pg : Nat), .pointer (some ⟨X, 0, none⟩), .slice np m.length ncap, v11, v12, v13, v14, v15, v16, v17, v18, v19, v20, v21, v22, v23, v24, v25, v26, v27, v28, v29, v30, v31, v32, v33, v34, v35, v36, v37, v38, v39, v40, v41, v42, v43, v44, v45, v46, v47, v48, v49, v50, v51, v52, v53, v54, v55, v56, v57, v58, v59, v60, v61, v62, v63, v64, v65, v66, v67, v68, v69, v70, v71, v72, v73, v74, v75, v76, v77, v78, v79, v80, v81, v82, v83, v84, v85, v86, v87, v88, v89, v90, v91, v92, v93, v94, v95, v96, v97, v98, v99, v100, v101, v102, v103, v104, .int .u8 (k : Nat), v106, v107, v108, v109, v110, v111, v112, v113, v114, v115, v116, v117, v118, v119, v120, v121, v122, v123, v124, v125, v126, v127, v128, v129, v130, v131, v132, v133, v134, v135, v136, v137, v138, v139, v140, v141, v142, v143, v144, v145, v146, v147, v148, v149, v150, v151, v152, v153, v154, v155, v156, v157, v158, v159, v160, v161, v162, v163, v164, v165, v166, v167, v168, v169, v170, v171, v172, v173, v174, v175, v176, v177, v178, v179, v180, v181, v182, v183, v184, v185, v186, v187, v188, v189, v190, v191, v192, v193, v194], []⟩ wr := by
  have hall := (And.intro HP2 (And.intro HN (And.intro HV (And.intro HX (And.intro HXC (And.intro HM (And.intro hm8 hk)))))))
  clear hall
  conv => arg 2; whnf
  have e4 : ((k : Int) == 4) = false := by simp; omega
  have e5 : ((k : Int) == 5) = false := by simp; omega
  have e6 : ((k : Int) == 6) = true := by simp; omega
  have HKk := Lib.hid hk
  clear hk
  have hc := clear_in ((HV.out).below (HN.out).be)
  have HC := Lib.hid hc
  clear hc
  go_wp2_with fail
  refine (HC.out).mono ?_
  intro e w3 h3
  have HT : Hid (PI w w3 C (.slice np m.length ncap) (stepL k vm pg Frame Wt L)) := Lib.hid (by
    have hk := HKk.out
    have hs : stepL k vm pg Frame Wt L = [] := by unfold stepL; rw [if_neg (by omega), filter_6 hk]
    have := (HP2.out).turn HN.out HV.out h3 (by rw [← hs]; exact (HP2.out).uq.step k vm pg Frame Wt) (by rw [← HM.out]; rw [filter_6 hk])
    rw [hs]
    exact this)
  obtain rfl := h3.1
  clear h3 HC
  dsimp only
  go_wp2
  go_meet
  exact HT.out
set_option maxHeartbeats 4000000 in
theorem b4p {w U wr : World} {C vm pg k X ncap : Nat} {lv v : Value} {np : Option Addr} {L m : List R5} {Frame : Int} {Wt : Bool} {v0 v1 v2 v4 v5 v6 v11 v12 v13 v14 v15 v16 v17 v18 v19 v20 v21 v22 v23 v24 v25 v26 v27 v28 v29 v30 v31 v32 v33 v34 v35 v36 v37 v38 v39 v40 v41 v42 v43 v44 v45 v46 v47 v48 v49 v50 v51 v52 v53 v54 v55 v56 v57 v58 v59 v60 v61 v62 v63 v64 v65 v66 v67 v68 v69 v70 v71 v72 v73 v74 v75 v76 v77 v78 v79 v80 v81 v82 v83 v84 v85 v86 v87 v88 v89 v90 v91 v92 v93 v94 v95 v96 v97 v98 v99 v100 v101 v102 v103 v104 v106 v107 v108 v109 v110 v111 v112 v113 v114 v115 v116 v117 v118 v119 v120 v121 v122 v123 v124 v125 v126 v127 v128 v129 v130 v131 v132 v133 v134 v135 v136 v137 v138 v139 v140 v141 v142 v143 v144 v145 v146 v147 v148 v149 v150 v151 v152 v153 v154 v155 v156 v157 v158 v159 v160 v161 v162 v163 v164 v165 v166 v167 v168 v169 v170 v171 v172 v173 v174 v175 v176 v177 v178 v179 v180 v181 v182 v183 v184 v185 v186 v187 v188 v189 v190 v191 v192 v193 v194 : Value} (HP2 : Hid (PI w U C lv L)) (HN : Hid (NX U wr (.slice np m.length ncap) m)) (HV : Hid (Ca U w.heap.size C v L)) (HX : Hid (L3 U X (.bool true) (.int .i64 Frame) (.bool Wt))) (HXC : Hid (X ≠ C ∧ v.ownBlock ≠ some X)) (HM : Hid (L.filter (keepB k vm pg) = m)) (hm8 : m.length ≤ 8) (hk : k ≤ 3) (h8 : ¬ m.length = 8) {J K' : Act → World → Prop} {Qr : Exit → Act → World → Prop}
    (hJ : ∀ a' w', (∃ u10 u106 u107 u108 u109 u110 u111 u112 u113 u114 u115 u116 u117 u118 u119 u120 u121 u122 u123 u124 u125 u126 u127 u128 u129 u130 u131 u132 u133 u134 u135 u136 u137 : Value, PI w w' C u10 (stepL k vm pg Frame Wt L) ∧ a' = ⟨#[v0, v1, v2, .pointer (some ⟨C, 0, none⟩), v4, v5, v6, .int .i64 (vm : Nat), .int .i64 (pg : Nat), .pointer (some ⟨X, 0, none⟩), u10, v11, v12, v13, v14, v15, v16, v17, v18, v19, v20, v21, v22, v23, v24, v25, v26, v27, v28, v29, v30, v31, v32, v33, v34, v35, v36, v37, v38, v39, v40, v41, v42, v43, v44, v45, v46, v47, v48, v49, v50, v51, v52, v53, v54, v55, v56, v57, v58, v59, v60, v61, v62, v63, v64, v65, v66, v67, v68, v69, v70, v71, v72, v73, v74, v75, v76, v77, v78, v79, v80, v81, v82, v83, v84, v85, v86, v87, v88, v89, v90, v91, v92, v93, v94, v95, v96, v97, v98, v99, v100, v101, v102, v103, v104, .int .u8 (k : Nat), u106, u107, u108, u109, u110, u111, u112, u113, u114, u115, u116, u117, u118, u119, u120, u121, u122, u123, u124, u125, u126, u127, u128, u129, u130, u131, u132, u133, u134, u135, u136, u137, v138, v139, v140, v141, v142, v143, v144, v145, v146, v147, v148, v149, v150, v151, v152, v153, v154, v155, v156, v157, v158, v159, v160, v161, v162, v163, v164, v165, v166, v167, v168, v169, v170, v171, v172, v173, v174, v175, v176, v177, v178, v179, v180, v181, v182, v183, v184, v185, v186, v187, v188, v189, v190, v191, v192, v193, v194], []⟩) → J a' w') (hKK : ∀ a' w', Met J a' w' → K' a' w') :
    Code.wp Try.prog (blk Try.f3 4) (Exit.then K' Qr) ⟨#[v0, v1, v2, .pointer (some ⟨C, 0, none⟩), v4, v5, v6, .int .i64 (vm : Nat), .int .i64 (pg : Nat), .pointer (some ⟨X, 0, none⟩), .slice np m.length ncap, v11, v12, v13, v14, v15, v16, v17, v18, v19, v20, v21, v22, v23, v24, v25, v26, v27, v28, v29, v30, v31, v32, v33, v34, v35, v36, v37, v38, v39, v40, v41, v42, v43, v44, v45, v46, v47, v48, v49, v50, v51, v52, v53, v54, v55, v56, v57, v58, v59, v60, v61, v62, v63, v64, v65, v66, v67, v68, v69, v70, v71, v72, v73, v74, v75, v76, v77, v78, v79, v80, v81, v82, v83, v84, v85, v86, v87, v88, v89, v90, v91, v92, v93, v94, v95, v96, v97, v98, v99, v100, v101, v102, v103, v104, .int .u8 (k : Nat), v106, v107, v108, v109, v110, v111, v112, v113, v114, v115, v116, v117, v118, v119, v120, v121, v122, v123, v124, v125, v126, v127, v128, v129, v130, v131, v132, v133, v134, v135, v136, v137, v138, v139, v140, v141, v142, v143, v144, v145, v146, v147, v148, v149, v150, v151, v152, v153, v154, v155, v156, v157, v158, v159, v160, v161, v162, v163, v164, v165, v166, v167, v168, v169, v170, v171, v172, v173, v174, v175, v176, v177, v178, v179, v180, v181, v182, v183, v184, v185, v186, v187, v188, v189, v190, v191, v192, v193, v194], []⟩ wr := by
  have hall := (And.intro HP2 (And.intro HN (And.intro HV (And.intro HX (And.intro HXC (And.intro HM (And.intro hm8 (And.intro hk h8))))))))
  clear hall
  conv => arg 2; whnf
  have e4 : ((k : Int) == 4) = false := by simp; omega
  have e5 : ((k : Int) == 5) = false := by simp; omega
  have e6 : ((k : Int) == 6) = false := by simp; omega
  have HSt : Hid (stepL k vm pg Frame Wt L = m ++ [(⟨vm, pg, true, Frame, Wt⟩ : R5)]) := Lib.hid (by rw [step_put hk, HM.out, if_neg h8])
  have HSp : Hid (putL vm pg true Frame Wt L = m ++ [(⟨vm, pg, true, Frame, Wt⟩ : R5)]) := Lib.hid (by rw [← HSt.out]; unfold stepL; rw [if_pos hk])
  have z8 : ((m.length : Int) == 8) = false := by simp; omega
  clear hk h8
  have HC := Lib.hid (put_in ((HV.out).below (HN.out).be) vm pg true Frame Wt)
  obtain ⟨y0, y1, y2, yl, yf⟩ := (HX.out).later (HN.out).be
  go_wp2_with fail
  refine (HC.out).mono ?_
  intro e w3 h3
  obtain ⟨v2, hA, o3, x3, s3⟩ := (HP2.out).put HN.out HV.out h3 HX.out (HXC.out).1 (HXC.out).2
  obtain rfl := h3.1
  clear h3 HC y0 y1 y2 yl yf
  dsimp only
  obtain ⟨x0, x1, x2, xl, xf⟩ := x3
  have HA := Lib.hid hA
  have HO := Lib.hid o3
  have HS := Lib.hid s3
  clear hA o3 s3
  go_upto_region 24 with fail
  go_wp2_with (at_builtin
               refine wpList_lrow rfl (.tmp 116) (.tmp 121) rfl (owns_below HO.out (below_new w3 (.cells #[.int .i64 (vm : Nat), .int .i64 (pg : Nat), .bool true, .int .i64 Frame, .bool Wt] 34))) hm8 (Nat.le_trans HS.out (below_new w3 _).size) rfl ⟨w3.heap.size, 0, none⟩ 1 rfl (⟨vm, pg, true, Frame, Wt⟩ : R5) (lrow_news (r := (⟨vm, pg, true, Frame, Wt⟩ : R5))) ?_
               intro p' cap' w' k1 k2 k3
               have KD : Hid (PI w w' C (.slice p' (m.length + 1) cap') (m ++ [(⟨vm, pg, true, Frame, Wt⟩ : R5)])) := Lib.hid (by
                 have hA := HA.out
                 rw [HSp.out] at hA
                 exact hA.done _ k2 (RowsAt.of_owns k1) k3 (by rw [← HSt.out]; exact (HP2.out).uq.step k vm pg Frame Wt))
               clear k1 k2 k3)
  go_meet
  rw [HSt.out]
  exact KD.out
set_option maxHeartbeats 4000000 in
theorem b4e {w U wr : World} {C vm pg k X ncap g : Nat} {lv v : Value} {L m : List R5} {Frame : Int} {Wt : Bool} {v0 v1 v2 v4 v5 v6 v11 v12 v13 v14 v15 v16 v17 v18 v19 v20 v21 v22 v23 v24 v25 v26 v27 v28 v29 v30 v31 v32 v33 v34 v35 v36 v37 v38 v39 v40 v41 v42 v43 v44 v45 v46 v47 v48 v49 v50 v51 v52 v53 v54 v55 v56 v57 v58 v59 v60 v61 v62 v63 v64 v65 v66 v67 v68 v69 v70 v71 v72 v73 v74 v75 v76 v77 v78 v79 v80 v81 v82 v83 v84 v85 v86 v87 v88 v89 v90 v91 v92 v93 v94 v95 v96 v97 v98 v99 v100 v101 v102 v103 v104 v106 v107 v108 v109 v110 v111 v112 v113 v114 v115 v116 v117 v118 v119 v120 v121 v122 v123 v124 v125 v126 v127 v128 v129 v130 v131 v132 v133 v134 v135 v136 v137 v138 v139 v140 v141 v142 v143 v144 v145 v146 v147 v148 v149 v150 v151 v152 v153 v154 v155 v156 v157 v158 v159 v160 v161 v162 v163 v164 v165 v166 v167 v168 v169 v170 v171 v172 v173 v174 v175 v176 v177 v178 v179 v180 v181 v182 v183 v184 v185 v186 v187 v188 v189 v190 v191 v192 v193 v194 : Value} (HP2 : Hid (PI w U C lv L)) (HN : Hid (NX U wr (.slice (some ⟨g, 0, none⟩) 8 ncap) m)) (HV : Hid (Ca U w.heap.size C v L)) (HX : Hid (L3 U X (.bool true) (.int .i64 Frame) (.bool Wt))) (HXC : Hid (X ≠ C ∧ v.ownBlock ≠ some X)) (HM : Hid (L.filter (keepB k vm pg) = m)) (hk : k ≤ 3) (h8 : m.length = 8) {J K' : Act → World → Prop} {Qr : Exit → Act → World → Prop}
    (hJ : ∀ a' w', (∃ u10 u106 u107 u108 u109 u110 u111 u112 u113 u114 u115 u116 u117 u118 u119 u120 u121 u122 u123 u124 u125 u126 u127 u128 u129 u130 u131 u132 u133 u134 u135 u136 u137 : Value, PI w w' C u10 (stepL k vm pg Frame Wt L) ∧ a' = ⟨#[v0, v1, v2, .pointer (some ⟨C, 0, none⟩), v4, v5, v6, .int .i64 (vm : Nat), .int .i64 (pg : Nat), .pointer (some ⟨X, 0, none⟩), u10, v11, v12, v13, v14, v15, v16, v17, v18, v19, v20, v21, v22, v23, v24, v25, v26, v27, v28, v29, v30, v31, v32, v33, v34, v35, v36, v37, v38, v39, v40, v41, v42, v43, v44, v45, v46, v47, v48, v49, v50, v51, v52, v53, v54, v55, v56, v57, v58, v59, v60, v61, v62, v63, v64, v65, v66, v67, v68, v69, v70, v71, v72, v73, v74, v75, v76, v77, v78, v79, v80, v81, v82, v83, v84, v85, v86, v87, v88, v89, v90, v91, v92, v93, v94, v95, v96, v97, v98, v99, v100, v101, v102, v103, v104, .int .u8 (k : Nat), u106, u107, u108, u109, u110, u111, u112, u113, u114, u115, u116, u117, u118, u119, u120, u121, u122, u123, u124, u125, u126, u127, u128, u129, u130, u131, u132, u133, u134, u135, u136, u137, v138, v139, v140, v141, v142, v143, v144, v145, v146, v147, v148, v149, v150, v151, v152, v153, v154, v155, v156, v157, v158, v159, v160, v161, v162, v163, v164, v165, v166, v167, v168, v169, v170, v171, v172, v173, v174, v175, v176, v177, v178, v179, v180, v181, v182, v183, v184, v185, v186, v187, v188, v189, v190, v191, v192, v193, v194], []⟩) → J a' w') (hKK : ∀ a' w', Met J a' w' → K' a' w') :
    Code.wp Try.prog (blk Try.f3 4) (Exit.then K' Qr) ⟨#[v0, v1, v2, .pointer (some ⟨C, 0, none⟩), v4, v5, v6, .int .i64 (vm : Nat), .int .i64 (pg : Nat), .pointer (some ⟨X, 0, none⟩), .slice (some ⟨g, 0, none⟩) 8 ncap, v11, v12, v13, v14, v15, v16, v17, v18, v19, v20, v21, v22, v23, v24, v25, v26, v27, v28, v29, v30, v31, v32, v33, v34, v35, v36, v37, v38, v39, v40, v41, v42, v43, v44, v45, v46, v47, v48, v49, v50, v51, v52, v53, v54, v55, v56, v57, v58, v59, v60, v61, v62, v63, v64, v65, v66, v67, v68, v69, v70, v71, v72, v73, v74, v75, v76, v77, v78, v79, v80, v81, v82, v83, v84, v85, v86, v87, v88, v89, v90, v91, v92, v93, v94, v95, v96, v97, v98, v99, v100, v101, v102, v103, v104, .int .u8 (k : Nat), v106, v107, v108, v109, v110, v111, v112, v113, v114, v115, v116, v117, v118, v119, v120, v121, v122, v123, v124, v125, v126, v127, v128, v129, v130, v131, v132, v133, v134, v135, v136, v137, v138, v139, v140, v141, v142, v143, v144, v145, v146, v147, v148, v149, v150, v151, v152, v153, v154, v155, v156, v157, v158, v159, v160, v161, v162, v163, v164, v165, v166, v167, v168, v169, v170, v171, v172, v173, v174, v175, v176, v177, v178, v179, v180, v181, v182, v183, v184, v185, v186, v187, v188, v189, v190, v191, v192, v193, v194], []⟩ wr := by
  have hall := (And.intro HP2 (And.intro HN (And.intro HV (And.intro HX (And.intro HXC (And.intro HM (And.intro hk h8)))))))
  clear hall
  conv => arg 2; whnf
  have e4 : ((k : Int) == 4) = false := by simp; omega
  have e5 : ((k : Int) == 5) = false := by simp; omega
  have e6 : ((k : Int) == 6) = false := by simp; omega
  have HSt : Hid (stepL k vm pg Frame Wt L = m.drop 1 ++ [(⟨vm, pg, true, Frame, Wt⟩ : R5)]) := Lib.hid (by rw [step_put hk, HM.out, if_pos h8])
  have HSp : Hid (putL vm pg true Frame Wt L = m.drop 1 ++ [(⟨vm, pg, true, Frame, Wt⟩ : R5)]) := Lib.hid (by rw [← HSt.out]; unfold stepL; rw [if_pos hk])
  have hcap : 8 ≤ ncap ∧ ncap ≤ maxLen := by
    rcases owns_form (HN.out).own with ⟨h, _⟩ | ⟨g', cap', h, _, _, h1, h2⟩
    · simp at h
    · simp only [Value.slice.injEq, Option.some.injEq, Addr.mk.injEq, and_true] at h
      obtain ⟨rfl, _, rfl⟩ := h
      exact ⟨by omega, h2⟩
  obtain ⟨hc1, hc2⟩ := hcap
  unfold maxLen at hc2
  have hc3 : ¬ ncap = 1 := by omega
  have H8 := Lib.hid h8
  clear hk h8
  have HC := Lib.hid (put_in ((HV.out).below (HN.out).be) vm pg true Frame Wt)
  obtain ⟨y0, y1, y2, yl, yf⟩ := (HX.out).later (HN.out).be
  go_wp2_with fail
  refine (HC.out).mono ?_
  intro e w3 h3
  obtain ⟨v2, hA, o3, x3, s3⟩ := (HP2.out).put HN.out HV.out h3 HX.out (HXC.out).1 (HXC.out).2
  obtain rfl := h3.1
  clear h3 HC y0 y1 y2 yl yf
  dsimp only
  obtain ⟨x0, x1, x2, xl, xf⟩ := x3
  have HA := Lib.hid hA
  have HO := Lib.hid o3
  have HS := Lib.hid s3
  clear hA o3 s3
  have o8 := HO.out
  rw [H8.out] at o8
  have HO8 := Lib.hid o8
  clear o8
  go_upto_region 24 with fail
  go_wp2_with (at_builtin
               refine wpList_tail rfl (.tmp 116) (.tmp 121) rfl (owns_below HO8.out (below_new w3 (.cells #[.int .i64 (vm : Nat), .int .i64 (pg : Nat), .bool true, .int .i64 Frame, .bool Wt] 34))) rfl ⟨w3.heap.size, 0, none⟩ 1 rfl (⟨vm, pg, true, Frame, Wt⟩ : R5) (lrow_news (r := (⟨vm, pg, true, Frame, Wt⟩ : R5))) ?_
               intro p' cap' w' k1 k2 k3
               have KD : Hid (PI w w' C (.slice p' 8 cap') (m.drop 1 ++ [(⟨vm, pg, true, Frame, Wt⟩ : R5)])) := Lib.hid (by
                 have hA := HA.out
                 rw [HSp.out] at hA
                 exact hA.done _ k2 k1 (fun b hb => (k3 b hb).imp (fun e => by rw [e]; rfl) id) (by rw [← HSt.out]; exact (HP2.out).uq.step k vm pg Frame Wt))
               clear k1 k2 k3)
  go_meet
  rw [HSt.out]
  exact KD.out
end Go.Proofs.Ytjidhmdphlmldaa
