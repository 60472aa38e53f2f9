/- Laid together: STold, SToldT, SAdd. -/
import Derived.Test.YtbancemhfjjmlaaGreatDoorTk
import Derived.Test.YtbancemhfjjmlaaGreatDoorQA00
set_option maxRecDepth 100000
set_option maxHeartbeats 32000000
namespace Go.Proofs.YtbancemhfjjmlaaGreatDoor
namespace S
open Go.RowKit
theorem q7l (w:World)(R:Nat)(s:ByteArray)(h:w.cell? ⟨R,2,none⟩=some (.string s)) :
  Calls Tryz.prog 150 #[.pointer (some ⟨R,0,none⟩)] w fun e w'=>e=.returned (.bool (!s.toList.isEmpty))∧w'=w:=by
 go_enter Tryz.func150,Tryz.ntmps150
 go_wp2
 go_ret
 exact⟨rfl,rfl⟩
theorem qbh (w:World)(g:Nat)(k:Int)(lb ky fn:Tok)(aw:Option Addr)(nw cw:Nat)(h:w.cell? ⟨g,0,none⟩=some (.int .i64 k)∧w.cell? ⟨g,1,none⟩=some (.string lb.text)∧w.cell? ⟨g,2,none⟩=some (.int .i64 lb.off)∧w.cell? ⟨g,3,none⟩=some (.int .i64 lb.line)∧w.cell? ⟨g,4,none⟩=some (.int .i64 lb.col)∧w.cell? ⟨g,5,none⟩=some (.string ky.text)∧w.cell? ⟨g,6,none⟩=some (.int .i64 ky.off)∧w.cell? ⟨g,7,none⟩=some (.int .i64 ky.line)∧w.cell? ⟨g,8,none⟩=some (.int .i64 ky.col)∧w.cell? ⟨g,9,none⟩=some (.slice aw nw cw)∧w.cell? ⟨g,10,none⟩=some (.string fn.text)∧w.cell? ⟨g,11,none⟩=some (.int .i64 fn.off)∧w.cell? ⟨g,12,none⟩=some (.int .i64 fn.line)∧w.cell? ⟨g,13,none⟩=some (.int .i64 fn.col)) :
  Calls Tryz.prog 337 #[.pointer (some ⟨g,0,none⟩)] w fun e w'=>e=.returned (.agg (q4g k lb ky fn false (.slice aw nw cw) (.slice none 0 0)))∧Below w.heap.size w w':=by
 have hg:g < w.heap.size:=World.block_lt_of_cell? _ _ h.1
 obtain⟨w1,hw1⟩:∃w1,w1=w.alloc (.cells #[.int .i64 0,.string ⟨#[]⟩,.int .i64 0,.int .i64 0,.int .i64 0,.string ⟨#[]⟩,.int .i64 0,.int .i64 0,.int .i64 0,.bool false,.slice none 0 0,.slice none 0 0,.string ⟨#[]⟩,.int .i64 0,.int .i64 0,.int .i64 0] 95):=⟨_,rfl⟩
 have b1:Below w.heap.size w w1:=by rw[hw1];exact qg _ _
 have hk1:w1.drew.heap[w.heap.size]?=some (.cells #[.int .i64 0,.string ⟨#[]⟩,.int .i64 0,.int .i64 0,.int .i64 0,.string ⟨#[]⟩,.int .i64 0,.int .i64 0,.int .i64 0,.bool false,.slice none 0 0,.slice none 0 0,.string ⟨#[]⟩,.int .i64 0,.int .i64 0,.int .i64 0] 95 (0,0)):=by rw[hw1];exact heap_alloc_new w _
 obtain⟨B,hD⟩:∃B,w.heap.size=B:=⟨_,rfl⟩
 have CS:Hid (w1.drew.cell? ⟨g,0,none⟩=some (.int .i64 k)∧w1.drew.cell? ⟨g,1,none⟩=some (.string lb.text)∧w1.drew.cell? ⟨g,2,none⟩=some (.int .i64 lb.off)∧w1.drew.cell? ⟨g,3,none⟩=some (.int .i64 lb.line)∧w1.drew.cell? ⟨g,4,none⟩=some (.int .i64 lb.col)∧w1.drew.cell? ⟨g,5,none⟩=some (.string ky.text)∧w1.drew.cell? ⟨g,6,none⟩=some (.int .i64 ky.off)∧w1.drew.cell? ⟨g,7,none⟩=some (.int .i64 ky.line)∧w1.drew.cell? ⟨g,8,none⟩=some (.int .i64 ky.col)∧w1.drew.cell? ⟨g,9,none⟩=some (.slice aw nw cw)∧w1.drew.cell? ⟨g,10,none⟩=some (.string fn.text)∧w1.drew.cell? ⟨g,11,none⟩=some (.int .i64 fn.off)∧w1.drew.cell? ⟨g,12,none⟩=some (.int .i64 fn.line)∧w1.drew.cell? ⟨g,13,none⟩=some (.int .i64 fn.col)):=by
  have o:∀i,w1.drew.cell? ⟨g,i,none⟩=w.cell? ⟨g,i,none⟩:=fun i=>(below_drewN b1 1).cell (p:=⟨g,i,none⟩) hg
  have h':=h
  simp only[←o] at h'
  exact h'
 rw[hD] at hk1 b1
 have HG:Hid (g≠B):=by show g≠B;omega
 have HW1:Hid (w.alloc (.cells #[.int .i64 0,.string ⟨#[]⟩,.int .i64 0,.int .i64 0,.int .i64 0,.string ⟨#[]⟩,.int .i64 0,.int .i64 0,.int .i64 0,.bool false,.slice none 0 0,.slice none 0 0,.string ⟨#[]⟩,.int .i64 0,.int .i64 0,.int .i64 0] 95)=w1):=hw1.symm
 have HB:Hid (Below B w w1):=b1
 have HK1:Hid (w1.drew.heap[B]?=some (.cells #[.int .i64 0,.string ⟨#[]⟩,.int .i64 0,.int .i64 0,.int .i64 0,.string ⟨#[]⟩,.int .i64 0,.int .i64 0,.int .i64 0,.bool false,.slice none 0 0,.slice none 0 0,.string ⟨#[]⟩,.int .i64 0,.int .i64 0,.int .i64 0] 95 (0,0))):=hk1
 have HD:Hid (w.heap.size=B):=hD
 clear hw1 b1 hk1 hD h hg
 go_enter Tryz.func337,Tryz.ntmps337
 go_upto_region 1 with fail
 rw[HW1.out,HD.out]
 clear HW1
 refine wp_region_held_drew (S:=fun w'=>w'.cell? ⟨g,0,none⟩=some (.int .i64 k)∧w'.cell? ⟨g,1,none⟩=some (.string lb.text)∧w'.cell? ⟨g,2,none⟩=some (.int .i64 lb.off)∧w'.cell? ⟨g,3,none⟩=some (.int .i64 lb.line)∧w'.cell? ⟨g,4,none⟩=some (.int .i64 lb.col)∧w'.cell? ⟨g,5,none⟩=some (.string ky.text)∧w'.cell? ⟨g,6,none⟩=some (.int .i64 ky.off)∧w'.cell? ⟨g,7,none⟩=some (.int .i64 ky.line)∧w'.cell? ⟨g,8,none⟩=some (.int .i64 ky.col)∧w'.cell? ⟨g,9,none⟩=some (.slice aw nw cw)∧w'.cell? ⟨g,10,none⟩=some (.string fn.text)∧w'.cell? ⟨g,11,none⟩=some (.int .i64 fn.off)∧w'.cell? ⟨g,12,none⟩=some (.int .i64 fn.line)∧w'.cell? ⟨g,13,none⟩=some (.int .i64 fn.col)) (by kernel_rfl) ?_ (fun hHeld=>?_)
 ·exact CS.out
 refine tk 0 ⟨some 3,.move (.tmp 0),202,"statement.go:126",#[],none⟩ ?_ hHeld ?_ ?_
 rotate_left
 ·(intro w hSw;(try dsimp only at hSw);go_simp;try with_reducible rfl)
 try simp only[Act.put,List.setIfInBounds_toArray,List.set_cons_zero,List.set_cons_succ]
 refine tk 1 ⟨some 4,.nilCheck (.tmp 3),0,"statement.go:126",#[⟨0,.data⟩],none⟩ ?_ hHeld ?_ ?_
 rotate_left
 ·(intro w hSw;(try dsimp only at hSw);go_simp;try with_reducible rfl)
 try simp only[Act.put,List.setIfInBounds_toArray,List.set_cons_zero,List.set_cons_succ]
 refine tk 2 ⟨some 5,.fieldAddr 199 (.tmp 4) 0,0,"statement.go:126",#[⟨1,.data⟩],none⟩ ?_ hHeld ?_ ?_
 rotate_left
 ·(intro w hSw;(try dsimp only at hSw);go_simp;try with_reducible rfl)
 try simp only[Act.put,List.setIfInBounds_toArray,List.set_cons_zero,List.set_cons_succ]
 refine tk 3 ⟨some 6,.load 3 (.tmp 5),3,"statement.go:126",#[⟨2,.data⟩],none⟩ ?_ hHeld ?_ ?_
 rotate_left
 ·(intro w hSw;(try dsimp only at hSw);go_simp;try with_reducible rfl)
 try simp only[Act.put,List.setIfInBounds_toArray,List.set_cons_zero,List.set_cons_succ]
 refine tk 4 ⟨some 7,.move (.tmp 0),202,"statement.go:126",#[],none⟩ ?_ hHeld ?_ ?_
 rotate_left
 ·(intro w hSw;(try dsimp only at hSw);go_simp;try with_reducible rfl)
 try simp only[Act.put,List.setIfInBounds_toArray,List.set_cons_zero,List.set_cons_succ]
 refine tk 5 ⟨some 8,.nilCheck (.tmp 7),0,"statement.go:126",#[⟨4,.data⟩],none⟩ ?_ hHeld ?_ ?_
 rotate_left
 ·(intro w hSw;(try dsimp only at hSw);go_simp;try with_reducible rfl)
 try simp only[Act.put,List.setIfInBounds_toArray,List.set_cons_zero,List.set_cons_succ]
 refine tk 6 ⟨some 9,.fieldAddr 199 (.tmp 8) 1,0,"statement.go:126",#[⟨5,.data⟩],none⟩ ?_ hHeld ?_ ?_
 rotate_left
 ·(intro w hSw;(try dsimp only at hSw);go_simp;try with_reducible rfl)
 try simp only[Act.put,List.setIfInBounds_toArray,List.set_cons_zero,List.set_cons_succ]
 refine tk 7 ⟨some 10,.load 36 (.tmp 9),36,"statement.go:126",#[⟨6,.data⟩],none⟩ ?_ hHeld ?_ ?_
 rotate_left
 ·(intro w hSw;(try dsimp only at hSw);go_simp;try with_reducible rfl)
 try simp only[Act.put,List.setIfInBounds_toArray,List.set_cons_zero,List.set_cons_succ]
 refine tk 8 ⟨some 11,.move (.tmp 0),202,"statement.go:126",#[],none⟩ ?_ hHeld ?_ ?_
 rotate_left
 ·(intro w hSw;(try dsimp only at hSw);go_simp;try with_reducible rfl)
 try simp only[Act.put,List.setIfInBounds_toArray,List.set_cons_zero,List.set_cons_succ]
 refine tk 9 ⟨some 12,.nilCheck (.tmp 11),0,"statement.go:126",#[⟨8,.data⟩],none⟩ ?_ hHeld ?_ ?_
 rotate_left
 ·(intro w hSw;(try dsimp only at hSw);go_simp;try with_reducible rfl)
 try simp only[Act.put,List.setIfInBounds_toArray,List.set_cons_zero,List.set_cons_succ]
 refine tk 10 ⟨some 13,.fieldAddr 199 (.tmp 12) 2,0,"statement.go:126",#[⟨9,.data⟩],none⟩ ?_ hHeld ?_ ?_
 rotate_left
 ·(intro w hSw;(try dsimp only at hSw);go_simp;try with_reducible rfl)
 try simp only[Act.put,List.setIfInBounds_toArray,List.set_cons_zero,List.set_cons_succ]
 refine tk 11 ⟨some 14,.load 36 (.tmp 13),36,"statement.go:126",#[⟨10,.data⟩],none⟩ ?_ hHeld ?_ ?_
 rotate_left
 ·(intro w hSw;(try dsimp only at hSw);go_simp;try with_reducible rfl)
 try simp only[Act.put,List.setIfInBounds_toArray,List.set_cons_zero,List.set_cons_succ]
 refine tk 12 ⟨some 15,.move (.tmp 0),202,"statement.go:126",#[],none⟩ ?_ hHeld ?_ ?_
 rotate_left
 ·(intro w hSw;(try dsimp only at hSw);go_simp;try with_reducible rfl)
 try simp only[Act.put,List.setIfInBounds_toArray,List.set_cons_zero,List.set_cons_succ]
 refine tk 13 ⟨some 16,.nilCheck (.tmp 15),0,"statement.go:126",#[⟨12,.data⟩],none⟩ ?_ hHeld ?_ ?_
 rotate_left
 ·(intro w hSw;(try dsimp only at hSw);go_simp;try with_reducible rfl)
 try simp only[Act.put,List.setIfInBounds_toArray,List.set_cons_zero,List.set_cons_succ]
 refine tk 14 ⟨some 17,.fieldAddr 199 (.tmp 16) 3,0,"statement.go:126",#[⟨13,.data⟩],none⟩ ?_ hHeld ?_ ?_
 rotate_left
 ·(intro w hSw;(try dsimp only at hSw);go_simp;try with_reducible rfl)
 try simp only[Act.put,List.setIfInBounds_toArray,List.set_cons_zero,List.set_cons_succ]
 refine tk 15 ⟨some 18,.load 32 (.tmp 17),32,"statement.go:126",#[⟨14,.data⟩],none⟩ ?_ hHeld ?_ ?_
 rotate_left
 ·(intro w hSw;(try dsimp only at hSw);go_simp;try with_reducible rfl)
 try simp only[Act.put,List.setIfInBounds_toArray,List.set_cons_zero,List.set_cons_succ]
 refine tk 16 ⟨some 19,.move (.tmp 0),202,"statement.go:126",#[],none⟩ ?_ hHeld ?_ ?_
 rotate_left
 ·(intro w hSw;(try dsimp only at hSw);go_simp;try with_reducible rfl)
 try simp only[Act.put,List.setIfInBounds_toArray,List.set_cons_zero,List.set_cons_succ]
 refine tk 17 ⟨some 20,.nilCheck (.tmp 19),0,"statement.go:126",#[⟨16,.data⟩],none⟩ ?_ hHeld ?_ ?_
 rotate_left
 ·(intro w hSw;(try dsimp only at hSw);go_simp;try with_reducible rfl)
 try simp only[Act.put,List.setIfInBounds_toArray,List.set_cons_zero,List.set_cons_succ]
 refine tk 18 ⟨some 21,.fieldAddr 199 (.tmp 20) 4,0,"statement.go:126",#[⟨17,.data⟩],none⟩ ?_ hHeld ?_ ?_
 rotate_left
 ·(intro w hSw;(try dsimp only at hSw);go_simp;try with_reducible rfl)
 try simp only[Act.put,List.setIfInBounds_toArray,List.set_cons_zero,List.set_cons_succ]
 refine tk 19 ⟨some 22,.load 36 (.tmp 21),36,"statement.go:126",#[⟨18,.data⟩],none⟩ ?_ hHeld ?_ ?_
 rotate_left
 ·(intro w hSw;(try dsimp only at hSw);go_simp;try with_reducible rfl)
 try simp only[Act.put,List.setIfInBounds_toArray,List.set_cons_zero,List.set_cons_succ]
 refine tk 20 ⟨some 23,.build 95 #[(0,.tmp 6),(1,.tmp 10),(2,.tmp 14),(4,.tmp 18),(6,.tmp 22)],95,"statement.go:126",#[⟨3,.data⟩,⟨7,.data⟩,⟨11,.data⟩,⟨15,.data⟩,⟨19,.data⟩],none⟩ ?_ hHeld ?_ ?_
 rotate_left
 ·(intro w hSw;(try dsimp only at hSw);go_simp;try with_reducible rfl)
 try simp only[Act.put,List.setIfInBounds_toArray,List.set_cons_zero,List.set_cons_succ]
 refine wpAnyH_ready (rs:=[21]) (by kernel_rfl) (by simp) ?_
 refine AllReadyH.cons rfl (fun K hK=>?_) AllReadyH.nil
 refine wp_store_mid 95 _ _ rfl B 0 #[.int .i64 k,.string lb.text,.int .i64 lb.off,.int .i64 lb.line,.int .i64 lb.col,.string ky.text,.int .i64 ky.off,.int .i64 ky.line,.int .i64 ky.col,.bool false,.slice aw nw cw,.slice none 0 0,.string fn.text,.int .i64 fn.off,.int .i64 fn.line,.int .i64 fn.col] rfl rfl (show w1.drew.there B 0 16 from q2o (cs:=#[.int .i64 0,.string ⟨#[]⟩,.int .i64 0,.int .i64 0,.int .i64 0,.string ⟨#[]⟩,.int .i64 0,.int .i64 0,.int .i64 0,.bool false,.slice none 0 0,.slice none 0 0,.string ⟨#[]⟩,.int .i64 0,.int .i64 0,.int .i64 0]) (t:=95) HK1.out) (by kernel_rfl) (by simp[Value.oneCell']) ?_
 obtain⟨wz,hwz⟩:∃wz,wz=w1.drew.setCells B 0 (#[.int .i64 k,.string lb.text,.int .i64 lb.off,.int .i64 lb.line,.int .i64 lb.col,.string ky.text,.int .i64 ky.off,.int .i64 ky.line,.int .i64 ky.col,.bool false,.slice aw nw cw,.slice none 0 0,.string fn.text,.int .i64 fn.off,.int .i64 fn.line,.int .i64 fn.col]:Array Value).toList:=⟨_,rfl⟩
 have KZ:Hid (wz.heap[B]?=some (.cells #[.int .i64 k,.string lb.text,.int .i64 lb.off,.int .i64 lb.line,.int .i64 lb.col,.string ky.text,.int .i64 ky.off,.int .i64 ky.line,.int .i64 ky.col,.bool false,.slice aw nw cw,.slice none 0 0,.string fn.text,.int .i64 fn.off,.int .i64 fn.line,.int .i64 fn.col] 95 (0,0))):=by show _=_;rw[hwz];exact q14 B 95 [.int .i64 k,.string lb.text,.int .i64 lb.off,.int .i64 lb.line,.int .i64 lb.col,.string ky.text,.int .i64 ky.off,.int .i64 ky.line,.int .i64 ky.col,.bool false,.slice aw nw cw,.slice none 0 0,.string fn.text,.int .i64 fn.off,.int .i64 fn.line,.int .i64 fn.col] [] [.int .i64 0,.string ⟨#[]⟩,.int .i64 0,.int .i64 0,.int .i64 0,.string ⟨#[]⟩,.int .i64 0,.int .i64 0,.int .i64 0,.bool false,.slice none 0 0,.slice none 0 0,.string ⟨#[]⟩,.int .i64 0,.int .i64 0,.int .i64 0] w1.drew HK1.out rfl
 have BZ:Hid (Below B w wz):=by show Below _ _ _;rw[hwz];exact q2r (Nat.le_refl _) _ _ _ (below_drewN HB.out 1)
 have CZ:Hid (wz.cell? ⟨g,0,none⟩=some (.int .i64 k)∧wz.cell? ⟨g,1,none⟩=some (.string lb.text)∧wz.cell? ⟨g,2,none⟩=some (.int .i64 lb.off)∧wz.cell? ⟨g,3,none⟩=some (.int .i64 lb.line)∧wz.cell? ⟨g,4,none⟩=some (.int .i64 lb.col)∧wz.cell? ⟨g,5,none⟩=some (.string ky.text)∧wz.cell? ⟨g,6,none⟩=some (.int .i64 ky.off)∧wz.cell? ⟨g,7,none⟩=some (.int .i64 ky.line)∧wz.cell? ⟨g,8,none⟩=some (.int .i64 ky.col)∧wz.cell? ⟨g,9,none⟩=some (.slice aw nw cw)∧wz.cell? ⟨g,10,none⟩=some (.string fn.text)∧wz.cell? ⟨g,11,none⟩=some (.int .i64 fn.off)∧wz.cell? ⟨g,12,none⟩=some (.int .i64 fn.line)∧wz.cell? ⟨g,13,none⟩=some (.int .i64 fn.col)):=by
  have o:∀i,wz.cell? ⟨g,i,none⟩=w1.drew.cell? ⟨g,i,none⟩:=fun i=>by rw[hwz];simp only[World.cell?,q44 B _ _ _ g HG.out]
  have h:=CS.out
  simp only[←o] at h
  exact h
 rw[←hwz]
 clear hwz
 refine hK.out _ _ ?_ (fun hHeld_21=>?_)
 ·exact CZ.out
 clear hK K
 try simp only[Act.put]
 refine wpAnyH_done (by kernel_rfl) ?_ _
 go_wp2_with fail
 refine bodyPost_ret (results_cell_row Tryz.results337 _ _ B 95 #[.int .i64 k,.string lb.text,.int .i64 lb.off,.int .i64 lb.line,.int .i64 lb.col,.string ky.text,.int .i64 ky.off,.int .i64 ky.line,.int .i64 ky.col,.bool false,.slice aw nw cw,.slice none 0 0,.string fn.text,.int .i64 fn.off,.int .i64 fn.line,.int .i64 fn.col] (0,0) _ rfl KZ.out Tryz.underlying95 rfl (by kernel_rfl)) rfl ?_
 exact⟨rfl,by rw[HD.out];exact BZ.out⟩
theorem qjb (w:World)(g:Nat)(k:Int)(ky:Tok)(h:w.cell? ⟨g,0,none⟩=some (.int .i64 k)∧w.cell? ⟨g,1,none⟩=some (.string ky.text)∧w.cell? ⟨g,2,none⟩=some (.int .i64 ky.off)∧w.cell? ⟨g,3,none⟩=some (.int .i64 ky.line)∧w.cell? ⟨g,4,none⟩=some (.int .i64 ky.col)) :
  Calls Tryz.prog 338 #[.pointer (some ⟨g,0,none⟩)] w fun e w'=>e=.returned (.agg (q4g k ⟨⟨#[]⟩,0,0,0⟩ ky ky false (.slice none 0 0) (.slice none 0 0)))∧Below w.heap.size w w':=by
 have hg:g < w.heap.size:=World.block_lt_of_cell? _ _ h.1
 obtain⟨w1,hw1⟩:∃w1,w1=w.alloc (.cells #[.int .i64 0,.string ⟨#[]⟩,.int .i64 0,.int .i64 0,.int .i64 0,.string ⟨#[]⟩,.int .i64 0,.int .i64 0,.int .i64 0,.bool false,.slice none 0 0,.slice none 0 0,.string ⟨#[]⟩,.int .i64 0,.int .i64 0,.int .i64 0] 95):=⟨_,rfl⟩
 have b1:Below w.heap.size w w1:=by rw[hw1];exact qg _ _
 have hk1:w1.drew.heap[w.heap.size]?=some (.cells #[.int .i64 0,.string ⟨#[]⟩,.int .i64 0,.int .i64 0,.int .i64 0,.string ⟨#[]⟩,.int .i64 0,.int .i64 0,.int .i64 0,.bool false,.slice none 0 0,.slice none 0 0,.string ⟨#[]⟩,.int .i64 0,.int .i64 0,.int .i64 0] 95 (0,0)):=by rw[hw1];exact heap_alloc_new w _
 obtain⟨B,hD⟩:∃B,w.heap.size=B:=⟨_,rfl⟩
 have CS:Hid (w1.drew.cell? ⟨g,0,none⟩=some (.int .i64 k)∧w1.drew.cell? ⟨g,1,none⟩=some (.string ky.text)∧w1.drew.cell? ⟨g,2,none⟩=some (.int .i64 ky.off)∧w1.drew.cell? ⟨g,3,none⟩=some (.int .i64 ky.line)∧w1.drew.cell? ⟨g,4,none⟩=some (.int .i64 ky.col)):=by
  have o:∀i,w1.drew.cell? ⟨g,i,none⟩=w.cell? ⟨g,i,none⟩:=fun i=>(below_drewN b1 1).cell (p:=⟨g,i,none⟩) hg
  have h':=h
  simp only[←o] at h'
  exact h'
 rw[hD] at hk1 b1
 have HG:Hid (g≠B):=by show g≠B;omega
 have HW1:Hid (w.alloc (.cells #[.int .i64 0,.string ⟨#[]⟩,.int .i64 0,.int .i64 0,.int .i64 0,.string ⟨#[]⟩,.int .i64 0,.int .i64 0,.int .i64 0,.bool false,.slice none 0 0,.slice none 0 0,.string ⟨#[]⟩,.int .i64 0,.int .i64 0,.int .i64 0] 95)=w1):=hw1.symm
 have HB:Hid (Below B w w1):=b1
 have HK1:Hid (w1.drew.heap[B]?=some (.cells #[.int .i64 0,.string ⟨#[]⟩,.int .i64 0,.int .i64 0,.int .i64 0,.string ⟨#[]⟩,.int .i64 0,.int .i64 0,.int .i64 0,.bool false,.slice none 0 0,.slice none 0 0,.string ⟨#[]⟩,.int .i64 0,.int .i64 0,.int .i64 0] 95 (0,0))):=hk1
 have HD:Hid (w.heap.size=B):=hD
 clear hw1 b1 hk1 hD h hg
 go_enter Tryz.func338,Tryz.ntmps338
 go_upto_region 1 with fail
 rw[HW1.out,HD.out]
 clear HW1
 refine wp_region_held_drew (S:=fun w'=>w'.cell? ⟨g,0,none⟩=some (.int .i64 k)∧w'.cell? ⟨g,1,none⟩=some (.string ky.text)∧w'.cell? ⟨g,2,none⟩=some (.int .i64 ky.off)∧w'.cell? ⟨g,3,none⟩=some (.int .i64 ky.line)∧w'.cell? ⟨g,4,none⟩=some (.int .i64 ky.col)) (by kernel_rfl) ?_ (fun hHeld=>?_)
 ·exact CS.out
 refine tk 0 ⟨some 3,.move (.tmp 0),204,"statement.go:123",#[],none⟩ ?_ hHeld ?_ ?_
 rotate_left
 ·(intro w hSw;(try dsimp only at hSw);go_simp;try with_reducible rfl)
 try simp only[Act.put,List.setIfInBounds_toArray,List.set_cons_zero,List.set_cons_succ]
 refine tk 1 ⟨some 4,.nilCheck (.tmp 3),0,"statement.go:123",#[⟨0,.data⟩],none⟩ ?_ hHeld ?_ ?_
 rotate_left
 ·(intro w hSw;(try dsimp only at hSw);go_simp;try with_reducible rfl)
 try simp only[Act.put,List.setIfInBounds_toArray,List.set_cons_zero,List.set_cons_succ]
 refine tk 2 ⟨some 5,.fieldAddr 207 (.tmp 4) 0,0,"statement.go:123",#[⟨1,.data⟩],none⟩ ?_ hHeld ?_ ?_
 rotate_left
 ·(intro w hSw;(try dsimp only at hSw);go_simp;try with_reducible rfl)
 try simp only[Act.put,List.setIfInBounds_toArray,List.set_cons_zero,List.set_cons_succ]
 refine tk 3 ⟨some 6,.load 3 (.tmp 5),3,"statement.go:123",#[⟨2,.data⟩],none⟩ ?_ hHeld ?_ ?_
 rotate_left
 ·(intro w hSw;(try dsimp only at hSw);go_simp;try with_reducible rfl)
 try simp only[Act.put,List.setIfInBounds_toArray,List.set_cons_zero,List.set_cons_succ]
 refine tk 4 ⟨some 7,.move (.tmp 0),204,"statement.go:123",#[],none⟩ ?_ hHeld ?_ ?_
 rotate_left
 ·(intro w hSw;(try dsimp only at hSw);go_simp;try with_reducible rfl)
 try simp only[Act.put,List.setIfInBounds_toArray,List.set_cons_zero,List.set_cons_succ]
 refine tk 5 ⟨some 8,.nilCheck (.tmp 7),0,"statement.go:123",#[⟨4,.data⟩],none⟩ ?_ hHeld ?_ ?_
 rotate_left
 ·(intro w hSw;(try dsimp only at hSw);go_simp;try with_reducible rfl)
 try simp only[Act.put,List.setIfInBounds_toArray,List.set_cons_zero,List.set_cons_succ]
 refine tk 6 ⟨some 9,.fieldAddr 207 (.tmp 8) 1,0,"statement.go:123",#[⟨5,.data⟩],none⟩ ?_ hHeld ?_ ?_
 rotate_left
 ·(intro w hSw;(try dsimp only at hSw);go_simp;try with_reducible rfl)
 try simp only[Act.put,List.setIfInBounds_toArray,List.set_cons_zero,List.set_cons_succ]
 refine tk 7 ⟨some 10,.load 36 (.tmp 9),36,"statement.go:123",#[⟨6,.data⟩],none⟩ ?_ hHeld ?_ ?_
 rotate_left
 ·(intro w hSw;(try dsimp only at hSw);go_simp;try with_reducible rfl)
 try simp only[Act.put,List.setIfInBounds_toArray,List.set_cons_zero,List.set_cons_succ]
 refine tk 8 ⟨some 11,.move (.tmp 0),204,"statement.go:123",#[],none⟩ ?_ hHeld ?_ ?_
 rotate_left
 ·(intro w hSw;(try dsimp only at hSw);go_simp;try with_reducible rfl)
 try simp only[Act.put,List.setIfInBounds_toArray,List.set_cons_zero,List.set_cons_succ]
 refine tk 9 ⟨some 12,.nilCheck (.tmp 11),0,"statement.go:123",#[⟨8,.data⟩],none⟩ ?_ hHeld ?_ ?_
 rotate_left
 ·(intro w hSw;(try dsimp only at hSw);go_simp;try with_reducible rfl)
 try simp only[Act.put,List.setIfInBounds_toArray,List.set_cons_zero,List.set_cons_succ]
 refine tk 10 ⟨some 13,.fieldAddr 207 (.tmp 12) 1,0,"statement.go:123",#[⟨9,.data⟩],none⟩ ?_ hHeld ?_ ?_
 rotate_left
 ·(intro w hSw;(try dsimp only at hSw);go_simp;try with_reducible rfl)
 try simp only[Act.put,List.setIfInBounds_toArray,List.set_cons_zero,List.set_cons_succ]
 refine tk 11 ⟨some 14,.load 36 (.tmp 13),36,"statement.go:123",#[⟨10,.data⟩],none⟩ ?_ hHeld ?_ ?_
 rotate_left
 ·(intro w hSw;(try dsimp only at hSw);go_simp;try with_reducible rfl)
 try simp only[Act.put,List.setIfInBounds_toArray,List.set_cons_zero,List.set_cons_succ]
 refine tk 12 ⟨some 15,.build 95 #[(0,.tmp 6),(2,.tmp 10),(6,.tmp 14)],95,"statement.go:123",#[⟨3,.data⟩,⟨7,.data⟩,⟨11,.data⟩],none⟩ ?_ hHeld ?_ ?_
 rotate_left
 ·(intro w hSw;(try dsimp only at hSw);go_simp;try with_reducible rfl)
 try simp only[Act.put,List.setIfInBounds_toArray,List.set_cons_zero,List.set_cons_succ]
 refine wpAnyH_ready (rs:=[13]) (by kernel_rfl) (by simp) ?_
 refine AllReadyH.cons rfl (fun K hK=>?_) AllReadyH.nil
 refine wp_store_mid 95 _ _ rfl B 0 #[.int .i64 k,.string ⟨#[]⟩,.int .i64 0,.int .i64 0,.int .i64 0,.string ky.text,.int .i64 ky.off,.int .i64 ky.line,.int .i64 ky.col,.bool false,.slice none 0 0,.slice none 0 0,.string ky.text,.int .i64 ky.off,.int .i64 ky.line,.int .i64 ky.col] rfl rfl (show w1.drew.there B 0 16 from q2o (cs:=#[.int .i64 0,.string ⟨#[]⟩,.int .i64 0,.int .i64 0,.int .i64 0,.string ⟨#[]⟩,.int .i64 0,.int .i64 0,.int .i64 0,.bool false,.slice none 0 0,.slice none 0 0,.string ⟨#[]⟩,.int .i64 0,.int .i64 0,.int .i64 0]) (t:=95) HK1.out) (by kernel_rfl) (by simp[Value.oneCell']) ?_
 obtain⟨wz,hwz⟩:∃wz,wz=w1.drew.setCells B 0 (#[.int .i64 k,.string ⟨#[]⟩,.int .i64 0,.int .i64 0,.int .i64 0,.string ky.text,.int .i64 ky.off,.int .i64 ky.line,.int .i64 ky.col,.bool false,.slice none 0 0,.slice none 0 0,.string ky.text,.int .i64 ky.off,.int .i64 ky.line,.int .i64 ky.col]:Array Value).toList:=⟨_,rfl⟩
 have KZ:Hid (wz.heap[B]?=some (.cells #[.int .i64 k,.string ⟨#[]⟩,.int .i64 0,.int .i64 0,.int .i64 0,.string ky.text,.int .i64 ky.off,.int .i64 ky.line,.int .i64 ky.col,.bool false,.slice none 0 0,.slice none 0 0,.string ky.text,.int .i64 ky.off,.int .i64 ky.line,.int .i64 ky.col] 95 (0,0))):=by show _=_;rw[hwz];exact q14 B 95 [.int .i64 k,.string ⟨#[]⟩,.int .i64 0,.int .i64 0,.int .i64 0,.string ky.text,.int .i64 ky.off,.int .i64 ky.line,.int .i64 ky.col,.bool false,.slice none 0 0,.slice none 0 0,.string ky.text,.int .i64 ky.off,.int .i64 ky.line,.int .i64 ky.col] [] [.int .i64 0,.string ⟨#[]⟩,.int .i64 0,.int .i64 0,.int .i64 0,.string ⟨#[]⟩,.int .i64 0,.int .i64 0,.int .i64 0,.bool false,.slice none 0 0,.slice none 0 0,.string ⟨#[]⟩,.int .i64 0,.int .i64 0,.int .i64 0] w1.drew HK1.out rfl
 have BZ:Hid (Below B w wz):=by show Below _ _ _;rw[hwz];exact q2r (Nat.le_refl _) _ _ _ (below_drewN HB.out 1)
 have CZ:Hid (wz.cell? ⟨g,0,none⟩=some (.int .i64 k)∧wz.cell? ⟨g,1,none⟩=some (.string ky.text)∧wz.cell? ⟨g,2,none⟩=some (.int .i64 ky.off)∧wz.cell? ⟨g,3,none⟩=some (.int .i64 ky.line)∧wz.cell? ⟨g,4,none⟩=some (.int .i64 ky.col)):=by
  have o:∀i,wz.cell? ⟨g,i,none⟩=w1.drew.cell? ⟨g,i,none⟩:=fun i=>by rw[hwz];simp only[World.cell?,q44 B _ _ _ g HG.out]
  have h:=CS.out
  simp only[←o] at h
  exact h
 rw[←hwz]
 clear hwz
 refine hK.out _ _ ?_ (fun hHeld_13=>?_)
 ·exact CZ.out
 clear hK K
 try simp only[Act.put]
 refine wpAnyH_done (by kernel_rfl) ?_ _
 go_wp2_with fail
 refine bodyPost_ret (results_cell_row Tryz.results338 _ _ B 95 #[.int .i64 k,.string ⟨#[]⟩,.int .i64 0,.int .i64 0,.int .i64 0,.string ky.text,.int .i64 ky.off,.int .i64 ky.line,.int .i64 ky.col,.bool false,.slice none 0 0,.slice none 0 0,.string ky.text,.int .i64 ky.off,.int .i64 ky.line,.int .i64 ky.col] (0,0) _ rfl KZ.out Tryz.underlying95 rfl (by kernel_rfl)) rfl ?_
 exact⟨rfl,by rw[HD.out];exact BZ.out⟩
end S
namespace S
open Go.RowKit
theorem qjc (w:World)(g:Nat)(k:Int)(lb ky fn:Tok)(aw:Option Addr)(nw cw:Nat)(pr:Bool)(ap:Option Addr)(np cp:Nat)(h:w.cell? ⟨g,0,none⟩=some (.int .i64 k)∧w.cell? ⟨g,1,none⟩=some (.string lb.text)∧w.cell? ⟨g,2,none⟩=some (.int .i64 lb.off)∧w.cell? ⟨g,3,none⟩=some (.int .i64 lb.line)∧w.cell? ⟨g,4,none⟩=some (.int .i64 lb.col)∧w.cell? ⟨g,5,none⟩=some (.string ky.text)∧w.cell? ⟨g,6,none⟩=some (.int .i64 ky.off)∧w.cell? ⟨g,7,none⟩=some (.int .i64 ky.line)∧w.cell? ⟨g,8,none⟩=some (.int .i64 ky.col)∧w.cell? ⟨g,9,none⟩=some (.slice aw nw cw)∧w.cell? ⟨g,10,none⟩=some (.string fn.text)∧w.cell? ⟨g,11,none⟩=some (.int .i64 fn.off)∧w.cell? ⟨g,12,none⟩=some (.int .i64 fn.line)∧w.cell? ⟨g,13,none⟩=some (.int .i64 fn.col)∧w.cell? ⟨g,14,none⟩=some (.bool pr)∧w.cell? ⟨g,15,none⟩=some (.slice ap np cp)) :
  Calls Tryz.prog 336 #[.pointer (some ⟨g,0,none⟩)] w fun e w'=>e=.returned (.agg (q4g k lb ky fn pr (.slice aw nw cw) (.slice ap np cp)))∧Below w.heap.size w w':=by
 have hg:g < w.heap.size:=World.block_lt_of_cell? _ _ h.1
 obtain⟨w1,hw1⟩:∃w1,w1=w.alloc (.cells #[.int .i64 0,.string ⟨#[]⟩,.int .i64 0,.int .i64 0,.int .i64 0,.string ⟨#[]⟩,.int .i64 0,.int .i64 0,.int .i64 0,.bool false,.slice none 0 0,.slice none 0 0,.string ⟨#[]⟩,.int .i64 0,.int .i64 0,.int .i64 0] 95):=⟨_,rfl⟩
 have b1:Below w.heap.size w w1:=by rw[hw1];exact qg _ _
 have hk1:w1.heap[w.heap.size]?=some (.cells #[.int .i64 0,.string ⟨#[]⟩,.int .i64 0,.int .i64 0,.int .i64 0,.string ⟨#[]⟩,.int .i64 0,.int .i64 0,.int .i64 0,.bool false,.slice none 0 0,.slice none 0 0,.string ⟨#[]⟩,.int .i64 0,.int .i64 0,.int .i64 0] 95 (0,0)):=by rw[hw1];exact heap_alloc_new w _
 obtain⟨B,hD⟩:∃B,w.heap.size=B:=⟨_,rfl⟩
 have CS:Hid (w1.cell? ⟨g,0,none⟩=some (.int .i64 k)∧w1.cell? ⟨g,1,none⟩=some (.string lb.text)∧w1.cell? ⟨g,2,none⟩=some (.int .i64 lb.off)∧w1.cell? ⟨g,3,none⟩=some (.int .i64 lb.line)∧w1.cell? ⟨g,4,none⟩=some (.int .i64 lb.col)∧w1.cell? ⟨g,5,none⟩=some (.string ky.text)∧w1.cell? ⟨g,6,none⟩=some (.int .i64 ky.off)∧w1.cell? ⟨g,7,none⟩=some (.int .i64 ky.line)∧w1.cell? ⟨g,8,none⟩=some (.int .i64 ky.col)∧w1.cell? ⟨g,9,none⟩=some (.slice aw nw cw)∧w1.cell? ⟨g,10,none⟩=some (.string fn.text)∧w1.cell? ⟨g,11,none⟩=some (.int .i64 fn.off)∧w1.cell? ⟨g,12,none⟩=some (.int .i64 fn.line)∧w1.cell? ⟨g,13,none⟩=some (.int .i64 fn.col)∧w1.cell? ⟨g,14,none⟩=some (.bool pr)∧w1.cell? ⟨g,15,none⟩=some (.slice ap np cp)):=by
  have o:∀i,w1.cell? ⟨g,i,none⟩=w.cell? ⟨g,i,none⟩:=fun i=>b1.cell (p:=⟨g,i,none⟩) hg
  have h':=h
  simp only[←o] at h'
  exact h'
 have TC:Hid _:=qbh w1 g k lb ky fn aw nw cw (by have h:=CS.out;exact⟨h.1,h.2.1,h.2.2.1,h.2.2.2.1,h.2.2.2.2.1,h.2.2.2.2.2.1,h.2.2.2.2.2.2.1,h.2.2.2.2.2.2.2.1,h.2.2.2.2.2.2.2.2.1,h.2.2.2.2.2.2.2.2.2.1,h.2.2.2.2.2.2.2.2.2.2.1,h.2.2.2.2.2.2.2.2.2.2.2.1,h.2.2.2.2.2.2.2.2.2.2.2.2.1,h.2.2.2.2.2.2.2.2.2.2.2.2.2.1⟩)
 rw[hD] at hk1 b1
 have HG:Hid (g < w1.heap.size):=Nat.lt_of_lt_of_le hg b1.size
 have HW1:Hid (w.alloc (.cells #[.int .i64 0,.string ⟨#[]⟩,.int .i64 0,.int .i64 0,.int .i64 0,.string ⟨#[]⟩,.int .i64 0,.int .i64 0,.int .i64 0,.bool false,.slice none 0 0,.slice none 0 0,.string ⟨#[]⟩,.int .i64 0,.int .i64 0,.int .i64 0] 95)=w1):=hw1.symm
 have HB:Hid (Below B w w1):=b1
 have HK1:Hid (w1.heap[B]?=some (.cells #[.int .i64 0,.string ⟨#[]⟩,.int .i64 0,.int .i64 0,.int .i64 0,.string ⟨#[]⟩,.int .i64 0,.int .i64 0,.int .i64 0,.bool false,.slice none 0 0,.slice none 0 0,.string ⟨#[]⟩,.int .i64 0,.int .i64 0,.int .i64 0] 95 (0,0))):=hk1
 have HD:Hid (w.heap.size=B):=hD
 clear hw1 b1 hk1 hD h hg
 go_enter Tryz.func336,Tryz.ntmps336
 go_upto_region 1 with fail
 rw[HW1.out,HD.out]
 clear HW1
 go_wp2_with fail
 refine Calls.mono TC.out ?_
 rintro e w2 ⟨rfl,hb2⟩
 unfold q4g
 have HB2:Hid (Below w1.heap.size w1 w2):=hb2
 obtain⟨w3,hw3⟩:∃w3,w3=w2.alloc (.cells #[.int .i64 k,.string lb.text,.int .i64 lb.off,.int .i64 lb.line,.int .i64 lb.col,.string ky.text,.int .i64 ky.off,.int .i64 ky.line,.int .i64 ky.col,.bool false,.slice aw nw cw,.slice none 0 0,.string fn.text,.int .i64 fn.off,.int .i64 fn.line,.int .i64 fn.col] 95):=⟨_,rfl⟩
 have b3:Below w1.heap.size w1 w3:=by rw[hw3];exact hb2.alloc hb2.size _
 have hk3:w3.heap[w2.heap.size]?=some (.cells #[.int .i64 k,.string lb.text,.int .i64 lb.off,.int .i64 lb.line,.int .i64 lb.col,.string ky.text,.int .i64 ky.off,.int .i64 ky.line,.int .i64 ky.col,.bool false,.slice aw nw cw,.slice none 0 0,.string fn.text,.int .i64 fn.off,.int .i64 fn.line,.int .i64 fn.col] 95 (0,0)):=by rw[hw3];exact heap_alloc_new w2 _
 have hs3:w1.heap.size≤w2.heap.size:=hb2.size
 obtain⟨D,hD⟩:∃D,w2.heap.size=D:=⟨_,rfl⟩
 rw[hD] at hk3 hs3
 have HB3:Hid (Below w1.heap.size w1 w3):=b3
 have HS3:Hid (w1.heap.size≤D):=hs3
 have Kw3:Hid (w3.heap[D]?=some (.cells #[.int .i64 k,.string lb.text,.int .i64 lb.off,.int .i64 lb.line,.int .i64 lb.col,.string ky.text,.int .i64 ky.off,.int .i64 ky.line,.int .i64 ky.col,.bool false,.slice aw nw cw,.slice none 0 0,.string fn.text,.int .i64 fn.off,.int .i64 fn.line,.int .i64 fn.col] 95 (0,0))):=hk3
 have HW3:Hid (w2.alloc (.cells #[.int .i64 k,.string lb.text,.int .i64 lb.off,.int .i64 lb.line,.int .i64 lb.col,.string ky.text,.int .i64 ky.off,.int .i64 ky.line,.int .i64 ky.col,.bool false,.slice aw nw cw,.slice none 0 0,.string fn.text,.int .i64 fn.off,.int .i64 fn.line,.int .i64 fn.col] 95)=w3):=hw3.symm
 have HD3:Hid (w2.heap.size=D):=hD
 clear hw3 b3 hk3 hD hs3 hb2 TC
 go_upto_region 2 with fail
 rw[HW3.out,HD3.out]
 clear HW3 HD3 HB2
 have Cw4:Hid (M.Ch (fun b=>b=D) w3 w3.drew):=⟨rfl,rfl,rfl,Nat.le_refl _,fun _ _ _=>rfl⟩
 have BC:Hid (∀wx,M.Ch (fun b=>b=D) w3 wx→wx.cell? ⟨g,14,none⟩=some (.bool pr)∧wx.cell? ⟨g,15,none⟩=some (.slice ap np cp)):=fun wx hx=>by
  have o:∀i,wx.cell? ⟨g,i,none⟩=w1.cell? ⟨g,i,none⟩:=fun i=>by
   have h1:=hx.block g (Nat.lt_of_lt_of_le HG.out HB3.out.size) (by have:=HG.out;have:=HS3.out;omega)
   have h2:=HB3.out.cell (p:=⟨g,i,none⟩) HG.out
   rw[←h2]
   simp only[World.cell?,h1]
  rw[o,o]
  exact CS.out.2.2.2.2.2.2.2.2.2.2.2.2.2.2
 refine wp_region_held_drew (S:=fun w'=>w'.cell? ⟨g,14,none⟩=some (.bool pr)∧w'.cell? ⟨g,15,none⟩=some (.slice ap np cp)) (by kernel_rfl) ?_ (fun hHeld=>?_)
 ·exact BC.out _ Cw4.out
 obtain⟨w4,hw4⟩:∃w4,w4=w3.drew:=⟨_,rfl⟩
 have Kw4:Hid (w4.heap[D]?=some (.cells #[.int .i64 k,.string lb.text,.int .i64 lb.off,.int .i64 lb.line,.int .i64 lb.col,.string ky.text,.int .i64 ky.off,.int .i64 ky.line,.int .i64 ky.col,.bool false,.slice aw nw cw,.slice none 0 0,.string fn.text,.int .i64 fn.off,.int .i64 fn.line,.int .i64 fn.col] 95 (0,0))):=by show _=_;rw[hw4];exact Kw3.out
 rw[←hw4] at Cw4 hHeld
 rw[←hw4]
 clear hw4 Kw3
 refine tk 0 ⟨some 8,.move (.tmp 0),197,"statement.go:131",#[],none⟩ ?_ hHeld ?_ ?_
 rotate_left
 ·(intro w hSw;(try dsimp only at hSw);go_simp;try with_reducible rfl)
 try simp only[Act.put,List.setIfInBounds_toArray,List.set_cons_zero,List.set_cons_succ]
 refine tk 1 ⟨some 9,.nilCheck (.tmp 8),0,"statement.go:131",#[⟨0,.data⟩],none⟩ ?_ hHeld ?_ ?_
 rotate_left
 ·(intro w hSw;(try dsimp only at hSw);go_simp;try with_reducible rfl)
 try simp only[Act.put,List.setIfInBounds_toArray,List.set_cons_zero,List.set_cons_succ]
 refine tk 2 ⟨some 10,.fieldAddr 201 (.tmp 9) 1,0,"statement.go:131",#[⟨1,.data⟩],none⟩ ?_ hHeld ?_ ?_
 rotate_left
 ·(intro w hSw;(try dsimp only at hSw);go_simp;try with_reducible rfl)
 try simp only[Act.put,List.setIfInBounds_toArray,List.set_cons_zero,List.set_cons_succ]
 refine tk 3 ⟨some 11,.load 4 (.tmp 10),4,"statement.go:131",#[⟨2,.data⟩],none⟩ ?_ hHeld ?_ ?_
 rotate_left
 ·(intro w hSw;(try dsimp only at hSw);go_simp;try with_reducible rfl)
 try simp only[Act.put,List.setIfInBounds_toArray,List.set_cons_zero,List.set_cons_succ]
 refine tk 4 ⟨some 12,.move (.tmp 0),197,"statement.go:131",#[⟨9,.gcOnly .lateStores⟩],none⟩ ?_ hHeld ?_ ?_
 rotate_left
 ·(intro w hSw;(try dsimp only at hSw);go_simp;try with_reducible rfl)
 try simp only[Act.put,List.setIfInBounds_toArray,List.set_cons_zero,List.set_cons_succ]
 refine tk 5 ⟨some 13,.nilCheck (.tmp 12),0,"statement.go:131",#[⟨4,.data⟩,⟨9,.gcOnly .lateStores⟩],none⟩ ?_ hHeld ?_ ?_
 rotate_left
 ·(intro w hSw;(try dsimp only at hSw);go_simp;try with_reducible rfl)
 try simp only[Act.put,List.setIfInBounds_toArray,List.set_cons_zero,List.set_cons_succ]
 refine tk 6 ⟨some 14,.fieldAddr 201 (.tmp 13) 2,0,"statement.go:131",#[⟨5,.data⟩,⟨9,.gcOnly .lateStores⟩],none⟩ ?_ hHeld ?_ ?_
 rotate_left
 ·(intro w hSw;(try dsimp only at hSw);go_simp;try with_reducible rfl)
 try simp only[Act.put,List.setIfInBounds_toArray,List.set_cons_zero,List.set_cons_succ]
 refine tk 7 ⟨some 15,.load 32 (.tmp 14),32,"statement.go:131",#[⟨6,.data⟩,⟨9,.gcOnly .lateStores⟩],none⟩ ?_ hHeld ?_ ?_
 rotate_left
 ·(intro w hSw;(try dsimp only at hSw);go_simp;try with_reducible rfl)
 try simp only[Act.put,List.setIfInBounds_toArray,List.set_cons_zero,List.set_cons_succ]
 refine tk 8 ⟨some 16,.fieldAddr 95 (.tmp 3) 3,0,"statement.go:131",#[⟨0,.phase⟩,⟨1,.phase⟩,⟨2,.phase⟩,⟨3,.phase⟩,⟨4,.textOnly .lateStores⟩,⟨5,.textOnly .lateStores⟩,⟨6,.textOnly .lateStores⟩,⟨7,.textOnly .lateStores⟩],none⟩ ?_ hHeld ?_ ?_
 rotate_left
 ·(intro w hSw;(try dsimp only at hSw);go_simp;try with_reducible rfl)
 try simp only[Act.put,List.setIfInBounds_toArray,List.set_cons_zero,List.set_cons_succ]
 refine wpAnyH_ready (rs:=[9]) (by kernel_rfl) (by simp) ?_
 refine AllReadyH.cons rfl (fun K hK=>?_) AllReadyH.nil
 obtain⟨w5,hw5⟩:∃w5,w5=w4.setCell ⟨D,9,none⟩ (.bool pr):=⟨_,rfl⟩
 have Kw5:Hid (w5.heap[D]?=some (.cells #[.int .i64 k,.string lb.text,.int .i64 lb.off,.int .i64 lb.line,.int .i64 lb.col,.string ky.text,.int .i64 ky.off,.int .i64 ky.line,.int .i64 ky.col,.bool pr,.slice aw nw cw,.slice none 0 0,.string fn.text,.int .i64 fn.off,.int .i64 fn.line,.int .i64 fn.col] 95 (0,0))):=by show _=_;rw[hw5];exact M.qj Kw4.out
 have Cw5:Hid (M.Ch (fun b=>b=D) w3 w5):=by show M.Ch _ _ _;rw[hw5];exact Cw4.out.trans (M.xu _ _ _ _)
 have gc:w4.cell? ⟨D,9,none⟩=some (.bool false):=M.qc Kw4.out 9
 have gf:w4.frozen? ⟨D,9,none⟩=false:=by simp[World.frozen?,Kw4.out]
 go_simp
 rw[←hw5]
 clear hw5 gc gf
 refine hK.out _ _ ?_ (fun hHeld_9=>?_)
 ·exact BC.out _ Cw5.out
 clear hK K
 try simp only[Act.put,List.setIfInBounds_toArray,List.set_cons_zero,List.set_cons_succ]
 refine tk 10 ⟨some 17,.fieldAddr 95 (.tmp 3) 5,0,"statement.go:131",#[⟨0,.phase⟩,⟨1,.phase⟩,⟨2,.phase⟩,⟨3,.phase⟩,⟨4,.phase⟩,⟨5,.phase⟩,⟨6,.phase⟩,⟨7,.phase⟩,⟨8,.phase⟩,⟨9,.phase⟩],none⟩ ?_ hHeld_9 ?_ ?_
 rotate_left
 ·(intro w hSw;(try dsimp only at hSw);go_simp;try with_reducible rfl)
 try simp only[Act.put,List.setIfInBounds_toArray,List.set_cons_zero,List.set_cons_succ]
 refine wpAnyH_ready (rs:=[11]) (by kernel_rfl) (by simp) ?_
 refine AllReadyH.cons rfl (fun K hK=>?_) AllReadyH.nil
 obtain⟨w6,hw6⟩:∃w6,w6=w5.setCell ⟨D,11,none⟩ (.slice ap np cp):=⟨_,rfl⟩
 have Kw6:Hid (w6.heap[D]?=some (.cells #[.int .i64 k,.string lb.text,.int .i64 lb.off,.int .i64 lb.line,.int .i64 lb.col,.string ky.text,.int .i64 ky.off,.int .i64 ky.line,.int .i64 ky.col,.bool pr,.slice aw nw cw,.slice ap np cp,.string fn.text,.int .i64 fn.off,.int .i64 fn.line,.int .i64 fn.col] 95 (0,0))):=by show _=_;rw[hw6];exact M.qj Kw5.out
 have Cw6:Hid (M.Ch (fun b=>b=D) w3 w6):=by show M.Ch _ _ _;rw[hw6];exact Cw5.out.trans (M.xu _ _ _ _)
 have gc:w5.cell? ⟨D,11,none⟩=some (.slice none 0 0):=M.qc Kw5.out 11
 have gf:w5.frozen? ⟨D,11,none⟩=false:=by simp[World.frozen?,Kw5.out]
 go_simp
 rw[←hw6]
 clear hw6 gc gf
 refine hK.out _ _ ?_ (fun hHeld_11=>?_)
 ·exact BC.out _ Cw6.out
 clear hK K
 try simp only[Act.put,List.setIfInBounds_toArray,List.set_cons_zero,List.set_cons_succ]
 refine wpAnyH_done (by kernel_rfl) ?_ _
 go_upto_region 3 with fail
 have hBl:B < w1.heap.size:=(Array.getElem?_eq_some_iff.1 HK1.out).1
 have KB6:Hid (w6.heap[B]?=some (.cells #[.int .i64 0,.string ⟨#[]⟩,.int .i64 0,.int .i64 0,.int .i64 0,.string ⟨#[]⟩,.int .i64 0,.int .i64 0,.int .i64 0,.bool false,.slice none 0 0,.slice none 0 0,.string ⟨#[]⟩,.int .i64 0,.int .i64 0,.int .i64 0] 95 (0,0))):=by
  have h1:=Cw6.out.block B (Nat.lt_of_lt_of_le hBl HB3.out.size) (by have:=HS3.out;omega)
  exact h1.trans ((HB3.out.block B hBl).trans HK1.out)
 have BD6:Hid (Below B w w6):=HB.out.trans ((HB3.out.trans (Cw6.out.below HB3.out.size fun b e=>by have:=HS3.out;omega)).mono (by omega))
 clear hHeld_9 hHeld_11 Kw4 Kw5 Cw4 Cw5 Cw6 BC
 refine wp_region_list ?_
 refine wpList_load_row rfl 95 _ rfl D rfl 95 #[.int .i64 k,.string lb.text,.int .i64 lb.off,.int .i64 lb.line,.int .i64 lb.col,.string ky.text,.int .i64 ky.off,.int .i64 ky.line,.int .i64 ky.col,.bool pr,.slice aw nw cw,.slice ap np cp,.string fn.text,.int .i64 fn.off,.int .i64 fn.line,.int .i64 fn.col] (0,0) _ Kw6.out Tryz.underlying95 rfl (by kernel_rfl) ?_
 refine wpList_store_mid rfl 95 _ _ rfl B 0 #[.int .i64 k,.string lb.text,.int .i64 lb.off,.int .i64 lb.line,.int .i64 lb.col,.string ky.text,.int .i64 ky.off,.int .i64 ky.line,.int .i64 ky.col,.bool pr,.slice aw nw cw,.slice ap np cp,.string fn.text,.int .i64 fn.off,.int .i64 fn.line,.int .i64 fn.col] rfl rfl (show w6.there B 0 16 from q2o (cs:=#[.int .i64 0,.string ⟨#[]⟩,.int .i64 0,.int .i64 0,.int .i64 0,.string ⟨#[]⟩,.int .i64 0,.int .i64 0,.int .i64 0,.bool false,.slice none 0 0,.slice none 0 0,.string ⟨#[]⟩,.int .i64 0,.int .i64 0,.int .i64 0]) (t:=95) KB6.out) (by kernel_rfl) (by simp[Value.oneCell']) ?_
 obtain⟨wz,hwz⟩:∃wz,wz=w6.setCells B 0 (#[.int .i64 k,.string lb.text,.int .i64 lb.off,.int .i64 lb.line,.int .i64 lb.col,.string ky.text,.int .i64 ky.off,.int .i64 ky.line,.int .i64 ky.col,.bool pr,.slice aw nw cw,.slice ap np cp,.string fn.text,.int .i64 fn.off,.int .i64 fn.line,.int .i64 fn.col]:Array Value).toList:=⟨_,rfl⟩
 have KZ:Hid (wz.heap[B]?=some (.cells #[.int .i64 k,.string lb.text,.int .i64 lb.off,.int .i64 lb.line,.int .i64 lb.col,.string ky.text,.int .i64 ky.off,.int .i64 ky.line,.int .i64 ky.col,.bool pr,.slice aw nw cw,.slice ap np cp,.string fn.text,.int .i64 fn.off,.int .i64 fn.line,.int .i64 fn.col] 95 (0,0))):=by show _=_;rw[hwz];exact q14 B 95 [.int .i64 k,.string lb.text,.int .i64 lb.off,.int .i64 lb.line,.int .i64 lb.col,.string ky.text,.int .i64 ky.off,.int .i64 ky.line,.int .i64 ky.col,.bool pr,.slice aw nw cw,.slice ap np cp,.string fn.text,.int .i64 fn.off,.int .i64 fn.line,.int .i64 fn.col] [] [.int .i64 0,.string ⟨#[]⟩,.int .i64 0,.int .i64 0,.int .i64 0,.string ⟨#[]⟩,.int .i64 0,.int .i64 0,.int .i64 0,.bool false,.slice none 0 0,.slice none 0 0,.string ⟨#[]⟩,.int .i64 0,.int .i64 0,.int .i64 0] w6 KB6.out rfl
 have BZ:Hid (Below B w wz):=by show Below _ _ _;rw[hwz];exact q2r (Nat.le_refl _) _ _ _ BD6.out
 rw[←hwz]
 clear hwz
 go_wp2_with fail
 refine bodyPost_ret (results_cell_row Tryz.results336 _ _ B 95 #[.int .i64 k,.string lb.text,.int .i64 lb.off,.int .i64 lb.line,.int .i64 lb.col,.string ky.text,.int .i64 ky.off,.int .i64 ky.line,.int .i64 ky.col,.bool pr,.slice aw nw cw,.slice ap np cp,.string fn.text,.int .i64 fn.off,.int .i64 fn.line,.int .i64 fn.col] (0,0) _ rfl KZ.out Tryz.underlying95 rfl (by kernel_rfl)) rfl ?_
 exact⟨rfl,by rw[HD.out];exact BZ.out⟩
end S
namespace S
open Go.RowKit
theorem q5h (b:Nat):∀(new:List Value) (o:Nat) (W:World),M.Ch (fun x=>x=b) W (W.setCells b o new)
 | [],_,W=>M.Ch.refl _ W
 | v :: new,o,W=>by
  rw[q2g]
  exact (M.xu W b o v).trans (q5h b new (o + 1) _)
def put4 (cs:Array Value)(o:Nat)(tk:Tok):Array Value:=(((cs.setIfInBounds o (.string tk.text)).setIfInBounds (o + 1) (.int .i64 tk.off)).setIfInBounds (o + 2) (.int .i64 tk.line)).setIfInBounds (o + 3) (.int .i64 tk.col)
theorem q7m {W:World}{b:Nat}{t:TypeId}{cs:Array Value}(h:W.heap[b]?=some (.cells cs t (0,0)))(o:Nat)(tk:Tok):(W.setCells b o [.string tk.text,.int .i64 tk.off,.int .i64 tk.line,.int .i64 tk.col]).heap[b]?=some (.cells (put4 cs o tk) t (0,0)):=by
 simp only[q2g]
 exact M.qj (M.qj (M.qj (M.qj h)))
theorem qfz (w:World) (g:Nat) (cs:Array Value) (t:TypeId) (k:Nat) (hk:k < 10) (aw:Option Addr) (nw cw:Nat) (tk:Tok)
  (hB:w.heap[g]?=some (.cells cs t (0,0))) (h0:cs[0]?=some (.int .i64 k)) (h9:cs[9]?=some (.slice aw nw cw)) (hs:14≤cs.size) (hS:yh w) :
  Calls Tryz.prog 268 #[.pointer (some ⟨g,0,none⟩),zn tk] w fun e w' =>
   e=.returned (.int .i64 (if (nw:Int) < q8x k then 62 else 0))∧M.Ch (fun b=>b=g) w w'∧w'.heap[g]?=some (.cells (if (nw:Int) < q8x k then cs else put4 cs 10 tk) t (0,0)):=by
 unfold zn
 obtain⟨w1,hw1⟩:∃w1,w1=w.alloc (.cells #[.string tk.text,.int .i64 tk.off,.int .i64 tk.line,.int .i64 tk.col] 36):=⟨_,rfl⟩
 have hb1:Below w.heap.size w w1:=by rw[hw1];exact qg _ _
 have hg:g < w.heap.size:=(Array.getElem?_eq_some_iff.1 hB).1
 have HB1:Hid (w1.heap[g]?=some (.cells cs t (0,0))):=(hb1.block g hg).trans hB
 have HN1:Hid (w1.heap[w.heap.size]?=some (.cells #[.string tk.text,.int .i64 tk.off,.int .i64 tk.line,.int .i64 tk.col] 36 (0,0))):=by show _=_;rw[hw1];exact heap_alloc_new w _
 have HC1:Hid (M.Ch (fun b=>b=g) w w1):=M.Ch.of_below hb1
 obtain⟨_,_,l2,_⟩:=(hS.under hb1) k hk
 have c0:w1.cell? ⟨g,0,none⟩=some (.int .i64 k):=(M.qc HB1.out 0).trans h0
 have c9:w1.cell? ⟨g,9,none⟩=some (.slice aw nw cw):=(M.qc HB1.out 9).trans h9
 have k0:(0:Int)≤(k:Int):=by omega
 have k1:(k:Int) < 10:=by omega
 obtain⟨L,hL⟩:∃L,q8x k=L:=⟨_,rfl⟩
 rw[hL] at l2 ⊢
 clear hL hS hb1 h0 h9
 go_enter Tryz.func268,Tryz.ntmps268
 go_upto_region 1 with fail
 rw[←hw1]
 clear hw1
 go_quiet (fail)
 have HB2:Hid ((w1.drewN nq).heap[g]?=some (.cells cs t (0,0))):=HB1.out
 have HN2:Hid ((w1.drewN nq).heap[w.heap.size]?=some (.cells #[.string tk.text,.int .i64 tk.off,.int .i64 tk.line,.int .i64 tk.col] 36 (0,0))):=HN1.out
 have HC2:Hid (M.Ch (fun b=>b=g) w (w1.drewN nq)):=⟨HC1.out.os,HC1.out.tape,HC1.out.output,HC1.out.size,HC1.out.block⟩
 clear HB1 HN1 HC1 c0 c9 l2
 generalize w1.drewN nq=w2 at *
 by_cases hlt:(nw:Int) < L
 ·go_wp2
  go_ret
  exact⟨rfl,HC2.out,HB2.out⟩
 ·have x0:w2.cell? ⟨w.heap.size,0,none⟩=some (.string tk.text):=M.qc HN2.out 0
  have x1:w2.cell? ⟨w.heap.size,1,none⟩=some (.int .i64 tk.off):=M.qc HN2.out 1
  have x2:w2.cell? ⟨w.heap.size,2,none⟩=some (.int .i64 tk.line):=M.qc HN2.out 2
  have x3:w2.cell? ⟨w.heap.size,3,none⟩=some (.int .i64 tk.col):=M.qc HN2.out 3
  obtain⟨v0,v1,v2,v3,d0,d1,d2,d3⟩:∃v0 v1 v2 v3,w2.cell? ⟨g,10,none⟩=some v0∧w2.cell? ⟨g,11,none⟩=some v1∧w2.cell? ⟨g,12,none⟩=some v2∧w2.cell? ⟨g,13,none⟩=some v3 :=
   ⟨cs[10],cs[11],cs[12],cs[13],(M.qc HB2.out 10).trans (Array.getElem?_eq_getElem _),(M.qc HB2.out 11).trans (Array.getElem?_eq_getElem _),(M.qc HB2.out 12).trans (Array.getElem?_eq_getElem _),(M.qc HB2.out 13).trans (Array.getElem?_eq_getElem _)⟩
  have f:∀i,w2.frozen? ⟨g,i,none⟩=false:=fun i=>by simp[World.frozen?,HB2.out]
  have f0:=f 10
  have f1:=f 11
  have f2:=f 12
  have f3:=f 13
  clear f
  go_wp2
  go_ret
  exact⟨rfl,HC2.out.trans (q5h g [.string tk.text,.int .i64 tk.off,.int .i64 tk.line,.int .i64 tk.col] 10 w2),q7m HB2.out 10 tk⟩
def q1y (w w':World)(N g o:Nat)(cs:Array Value)(t:TypeId)(v:Value)(ts:List Tok)(tk:Tok):Prop :=
 ∃v',w'.ownsRow N 36 4 v' (ts.length + 1) (rowT (ts++[tk]))∧(∀b,v'.ownBlock=some b→v.ownBlock=some b∨w.heap.size≤b)∧M.Ch (fun b=>b=g∨v.ownBlock=some b) w w'∧w'.heap[g]?=some (.cells (cs.setIfInBounds o v') t (0,0))
theorem q1y.of {w w0 w1 w2:World} {N g o:Nat} {cs:Array Value} {t:TypeId} {v:Value} {ts:List Tok} {tk:Tok} {gg cap:Nat} (hB:w.heap[g]?=some (.cells cs t (0,0))) (h0:Below w.heap.size w w0) (hgr:w0.grownBy w1 v.ownBlock) (hat:v.ownBlock=some gg∨gg=w0.heap.size) (hvg:v.ownBlock≠some g)
  (ho:w1.ownsRow N 36 4 (.slice (some ⟨gg,0,none⟩) (ts.length + 1) cap) (ts.length + 1) (rowT ts++um tk)) (e2:w2=w1.setCell ⟨g,o,none⟩ (.slice (some ⟨gg,0,none⟩) (ts.length + 1) cap)):q1y w w2 N g o cs t v ts tk:=by
 have hg:g < w.heap.size:=(Array.getElem?_eq_some_iff.1 hB).1
 have hc0:M.Ch (fun b=>b=g∨v.ownBlock=some b) w w0:=M.Ch.of_below h0
 have hc1:M.Ch (fun b=>b=g∨v.ownBlock=some b) w0 w1:=(M.Ch.jm hgr).mono fun _ e=>.inr e
 have hc2:M.Ch (fun b=>b=g) w1 w2:=by rw[e2];exact M.xu _ _ _ _
 have hl:∀b,(Value.slice (some ⟨gg,0,none⟩) (ts.length + 1) cap).ownBlock=some b→v.ownBlock=some b∨w.heap.size≤b:=fun b e=>by
  rcases M.q43 hat b e with h | h
  ·exact .inl h
  ·exact .inr (Nat.le_trans h0.size h)
 refine⟨_,?_,hl,(hc0.trans hc1).trans (hc2.mono fun _ e=>.inl e),?_⟩
 ·rw[qdk]
  refine M.qh (xs:=rowT ts++rowT [tk]) ?_ hc2 fun b e e2=>?_
  ·simpa [rowT] using ho
  ·subst e2
   rcases hl _ e with h | h
   ·exact hvg h
   ·omega
 ·rw[e2]
  exact M.qj ((hgr.block g (Nat.lt_of_lt_of_le hg h0.size) (fun e=>hvg e.symm)).trans ((h0.block g hg).trans hB))
theorem add_any (w:World) (N g:Nat) (cs:Array Value) (t:TypeId) (k:Nat) (hk:k < 10) (aw:Option Addr) (nw cw:Nat) (tk:Tok) (ws:List Tok)
  (hB:w.heap[g]?=some (.cells cs t (0,0))) (h0:cs[0]?=some (.int .i64 k)) (h9:cs[9]?=some (.slice aw nw cw)) (hS:yh w) (hN:N≤w.heap.size) (hl:ws.length=nw) (hn:nw≤1048576)
  (hO:w.ownsRow N 36 4 (.slice aw nw cw) nw (rowT ws)) (hvg:(Value.slice aw nw cw).ownBlock≠some g) :
  Calls Tryz.prog 246 #[.pointer (some ⟨g,0,none⟩),zn tk] w fun e w' =>
   ((nw:Int)=qdl k∧e=.returned (.int .i64 62)∧Below w.heap.size w w')∨((nw:Int)≠qdl k∧e=.returned (.int .i64 0)∧q1y w w' N g 9 cs t (.slice aw nw cw) ws tk):=by
 unfold zn
 obtain⟨ip,hip,ipz,ips,ipb⟩:=info_parts qlv
 obtain⟨w1,hw1⟩:∃w1,w1=w.alloc (.cells #[.string tk.text,.int .i64 tk.off,.int .i64 tk.line,.int .i64 tk.col] 36):=⟨_,rfl⟩
 have hb1:Below w.heap.size w w1:=by rw[hw1];exact qg _ _
 have hg:g < w.heap.size:=(Array.getElem?_eq_some_iff.1 hB).1
 have HB1:Hid (w1.heap[g]?=some (.cells cs t (0,0))):=(hb1.block g hg).trans hB
 have HN1:Hid (w1.heap[w.heap.size]?=some (.cells #[.string tk.text,.int .i64 tk.off,.int .i64 tk.line,.int .i64 tk.col] 36 (0,0))):=by show _=_;rw[hw1];exact heap_alloc_new w _
 have HC1:Hid (Below w.heap.size w w1):=hb1
 obtain⟨_,_,_,l3⟩:=(hS.under hb1) k hk
 have c0:w1.cell? ⟨g,0,none⟩=some (.int .i64 k):=(M.qc HB1.out 0).trans h0
 have c9:w1.cell? ⟨g,9,none⟩=some (.slice aw nw cw):=(M.qc HB1.out 9).trans h9
 have k0:(0:Int)≤(k:Int):=by omega
 have k1:(k:Int) < 10:=by omega
 obtain⟨L,hL⟩:∃L,qdl k=L:=⟨_,rfl⟩
 have O1:Hid (w1.ownsRow N 36 4 (.slice aw nw cw) nw (rowT ws)):=M.qh hO (M.Ch.of_below (X:=fun _=>False) hb1) fun _ _ e=>e
 have HB:Hid (w.heap[g]?=some (.cells cs t (0,0))):=hB
 have HV:Hid ((Value.slice aw nw cw).ownBlock≠some g):=hvg
 have HL:Hid (ws.length=nw):=hl
 have H9:Hid (cs[9]?=some (.slice aw nw cw)):=h9
 rw[hL] at l3 ⊢
 clear hL hS hb1 h0 h9 hO hB hvg hl
 go_enter Tryz.func246,Tryz.ntmps246
 go_upto_region 1 with fail
 rw[←hw1]
 clear hw1
 go_quiet (fail)
 have HB2:Hid ((w1.drewN nq).heap[g]?=some (.cells cs t (0,0))):=HB1.out
 have HN2:Hid ((w1.drewN nq).heap[w.heap.size]?=some (.cells #[.string tk.text,.int .i64 tk.off,.int .i64 tk.line,.int .i64 tk.col] 36 (0,0))):=HN1.out
 have HC2:Hid (Below w.heap.size w (w1.drewN nq)):=below_drewN HC1.out nq
 have O2:Hid ((w1.drewN nq).ownsRow N 36 4 (.slice aw nw cw) nw (rowT ws)):=O1.out
 clear HB1 HN1 HC1 c0 c9 l3 O1
 generalize w1.drewN nq=w2 at *
 by_cases he:(nw:Int)=L
 ·have hb:((nw:Int) == L)=true:=by simpa using he
  go_wp2
  go_ret
  exact .inl ⟨he,rfl,HC2.out⟩
 ·have hb:((nw:Int) == L)=false:=by simpa using he
  have x0:w2.cell? ⟨w.heap.size,0,none⟩=some (.string tk.text):=M.qc HN2.out 0
  have x1:w2.cell? ⟨w.heap.size,1,none⟩=some (.int .i64 tk.off):=M.qc HN2.out 1
  have x2:w2.cell? ⟨w.heap.size,2,none⟩=some (.int .i64 tk.line):=M.qc HN2.out 2
  have x3:w2.cell? ⟨w.heap.size,3,none⟩=some (.int .i64 tk.col):=M.qc HN2.out 3
  have d9:w2.cell? ⟨g,9,none⟩=some (.slice aw nw cw):=(M.qc HB2.out 9).trans H9.out
  have HE:Hid (¬(nw:Int)=L):=he
  clear he
  have hg2:g < w2.heap.size:=(Array.getElem?_eq_some_iff.1 HB2.out).1
  have HG2:Hid (g < w2.heap.size):=hg2
  have HZ:Hid (w.heap.size≤w2.heap.size):=HC2.out.size
  have hne1:g≠w2.heap.size:=by omega
  have hne2:w2.heap.size≠g:=by omega
  clear hg2
  go_upto_region 3 with fail
  have e9:(w2.alloc (.cells #[.string tk.text,.int .i64 tk.off,.int .i64 tk.line,.int .i64 tk.col] 36)).cell? ⟨g,9,none⟩=some (.slice aw nw cw):=(M.qc ((Below.heap_alloc _ _ g HG2.out).trans HB2.out) 9).trans H9.out
  go_region_law (refine step_append_lies _ (by rfl) _ _ _ (by rfl) N 36 ip _ 4 40 Tryz.underlying32 hip ipz ips ipb rfl (by omega) _ nw (rowT ws) (by rfl) (by exact (M.zk O2.out _)) ⟨w2.heap.size,0,none⟩ 1 1 (um tk) (by rfl) (by rfl) (World.news_of_block (cs:=#[.string tk.text,.int .i64 tk.off,.int .i64 tk.line,.int .i64 tk.col]) (t:=36) (fr:=(0,0)) (heap_alloc_new w2 _)) (by simp[um,Value.oneCell']) (by omega) (by unfold maxLen;omega) (by omega) (by have:=HZ.out;simp;omega) _ rfl ?_;intro gg cap' w3 hown3 hgrow hat hlt3;have K3:Hid (w3.heap[g]?=some (.cells cs t (0,0))):=(hgrow.block g (by have:=HG2.out;simp;omega) (fun e=>HV.out e.symm)).trans ((Below.heap_alloc _ _ g HG2.out).trans HB2.out);have d9':w3.cell? ⟨g,9,none⟩=some (.slice aw nw cw):=(M.qc K3.out 9).trans H9.out;have f9':w3.frozen? ⟨g,9,none⟩=false:=(by simp[World.frozen?,K3.out]);have PO:Hid (q1y w (w3.setCell ⟨g,9,none⟩ (.slice (some ⟨gg,0,none⟩) (nw + 1) cap')) N g 9 cs t (.slice aw nw cw) ws tk):=(by have hl:=HL.out;subst hl;exact q1y.of HB.out (show Below w.heap.size w (w2.alloc (.cells #[.string tk.text,.int .i64 tk.off,.int .i64 tk.line,.int .i64 tk.col] 36)).drew from below_drewN (HC2.out.alloc HC2.out.size _) 1) hgrow hat HV.out hown3 rfl);clear hgrow hat hown3 hlt3)
  all_goals go_wp2
  all_goals go_ret
  all_goals exact .inr ⟨HE.out,rfl,PO.out⟩
end S
end Go.Proofs.YtbancemhfjjmlaaGreatDoor
