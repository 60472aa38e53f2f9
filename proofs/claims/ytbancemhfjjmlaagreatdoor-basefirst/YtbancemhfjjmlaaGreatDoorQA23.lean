/- Laid together: BTakeF, BTakeG, BTake, BKept, BNew, BRef, BCatch, BLow, BOk. -/
import Derived.Test.YtbancemhfjjmlaaGreatDoorQA21
import Derived.Test.YtbancemhfjjmlaaGreatDoorQA22
import Derived.Test.YtbancemhfjjmlaaGreatDoorQA16
import Derived.Test.YtbancemhfjjmlaaGreatDoorQA14
import Derived.Test.YtbancemhfjjmlaaGreatDoorQA09
import Derived.Recover
import Derived.Test.YtbancemhfjjmlaaGreatDoorQA06
set_option maxRecDepth 100000
set_option maxHeartbeats 32000000
namespace Go.Proofs.YtbancemhfjjmlaaGreatDoor
namespace B
open Go.RowKit
open S (Tok Stm)
section
variable {N:Nat} {w u:World} {lb:Nat} {txt:ByteArray} {k:Nat} {L L1:Ld} {m m1:LdM} {s:Stm} {vw vp:Value}
theorem ql9 (h:zq N w lb txt k L (Y.numOf L.T.syms) m)(hO:L.Ok k)(hk:k < 1000000000)(hKB:Y.KB w)(hN:1 < N)(hs:q0w N m w s vw vp)(hok:q0y s)(he:q04 s.label=true)(hJ:(Y.zh L.T s.label.text).1=0)(hkd:s.kind=3):Calls Tryz.prog 56 #[.pointer (some ⟨lb,0,none⟩),q09 s vw vp] w (Does N w lb txt m (k + 60000) (ql L s)):=by
 obtain⟨aw,cw,rfl,hW⟩:=hs.words
 obtain⟨ap,cp,rfl,_⟩:=S.gu hs.op
 generalize hnw:s.words.length=nw at *
 generalize hnp:s.proof.length=np at *
 obtain⟨w1,hw1,b0,bn,hsz,PW,LC,CK,FS,PT⟩:=q1d h hO hk hKB hN hs
 have HOK:Hid (q0y s):=hok
 have HN1:Hid (1 < N):=hN
 clear hs hW hO hKB b0 bn hok hN hsz h hnw hnp
 have hl:(!s.label.text.toList.isEmpty)=true:=by rw[ByteArray.toList_eq];exact he
 have z1:w1.cell? ⟨w.heap.size,1,none⟩=some (.string s.label.text):=S.M.qc PW.out.bx 1
 have HJ:Hid (((Y.zh L.T s.label.text).1:Int)=0):=by show _=_;rw[hJ];rfl
 obtain⟨L1,hL1⟩:∃L1:Ld,L1={ L with T:=(Y.zh L.T s.label.text).2 }:=⟨_,rfl⟩
 have R1:Hid (ql L s=xq L1 s):=by rw[hL1];unfold ql q4c jh;show _=_;rw[if_pos he,if_pos HJ.out]
 have FR:Hid (q25 L1.hy s.label.text=none∧q33 L1.al s.label.text=none):=by rw[hL1];exact FS.out hJ
 have SB:Hid (∀w',S.M.Ch m.hot w1.drew w'→w'.cell? ⟨lb,1,none⟩=some (.pointer (some ⟨m.tq,0,none⟩))∧w'.cell? ⟨w.heap.size,1,none⟩=some (.string s.label.text)∧w'.cell? ⟨w.heap.size,2,none⟩=some (.int .i64 s.label.off)∧w'.cell? ⟨w.heap.size,3,none⟩=some (.int .i64 s.label.line)∧w'.cell? ⟨w.heap.size,4,none⟩=some (.int .i64 s.label.col)):=fun w' hc=>by obtain⟨h1,h2,_⟩:=(PW.out.below (S.M.zi (Below.refl _ _) 1)).held hc;exact⟨h2,S.M.qc h1 1,S.M.qc h1 2,S.M.qc h1 3,S.M.qc h1 4⟩
 have CD:Hid (S.M.Ch m.hot w1.drew w1.drew):=S.M.Ch.of_below (Below.refl _ _)
 clear he FS hJ
 unfold S.zn at CK
 unfold q09
 go_enter Tryz.func56,Tryz.ntmps56
 go_upto_region 1 with fail
 rw[←hw1]
 clear hw1
 go_upto_region 2 with fail
 clear hl z1
 go_region_held3 (fun w'=>w'.cell? ⟨lb,1,none⟩=some (.pointer (some ⟨m.tq,0,none⟩))∧w'.cell? ⟨w.heap.size,1,none⟩=some (.string s.label.text)∧w'.cell? ⟨w.heap.size,2,none⟩=some (.int .i64 s.label.off)∧w'.cell? ⟨w.heap.size,3,none⟩=some (.int .i64 s.label.line)∧w'.cell? ⟨w.heap.size,4,none⟩=some (.int .i64 s.label.col)) (refine⟨?_,?_,?_,?_,?_⟩ <;> first | assumption | exact (SB.out _ (by assumption)).1 | exact (SB.out _ (by assumption)).2.1 | exact (SB.out _ (by assumption)).2.2.1 | exact (SB.out _ (by assumption)).2.2.2.1 | exact (SB.out _ (by assumption)).2.2.2.2)
  (first
  | (go_simp;go_at_call 103;refine Calls.mono LC.out ?_;rintro ee w4 ⟨rfl,hg⟩;have GG:Hid (Goes N w1.drew lb txt m (k + 2) { L with T:=(Y.zh L.T s.label.text).2 } (Y.numOf L.T.syms) w4):=hg;have CC:Hid (S.M.Ch m.hot w1.drew w4):=hg.1;clear hg)
  | (go_simp;go_at_call 102;refine Calls.mono (CK.out _) ?_;rintro ee u ⟨hb5,he5⟩;rw[if_pos HJ.out] at he5;subst he5;have G5:Hid (Goes N w1.drew lb txt m (k + 2) { L with T:=(Y.zh L.T s.label.text).2 } (Y.numOf L.T.syms) u):=GG.out.jc hb5;have CC2:Hid (S.M.Ch m.hot w1.drew u):=G5.out.1;clear hb5))
 obtain⟨m1,hp⟩:=PT.out _ G5.out
 rw[←hL1] at hp
 have PA:Hid (Past N w lb txt k m L1 m1 s (.slice aw nw cw) (.slice ap np cp) u):=hp
 clear hp PT G5 CC2 GG CC CK LC SB CD HJ PW hL1
 go_upto_region 3 with fail
 have z:∀i,u.cell? ⟨w.heap.size,i,none⟩=(jw s (.slice aw nw cw) (.slice ap np cp))[i]?:=S.M.qc PA.out.bx
 have R2:Hid (ql L s=q1o L1 s):=R1.out.trans (by unfold xq;rw[hkd];rfl)
 have z0:u.cell? ⟨w.heap.size,0,none⟩=some (.int .i64 3):=(z 0).trans (by show some (Value.int .i64 s.kind)=_;rw[hkd])
 have z1:u.cell? ⟨w.heap.size,1,none⟩=some (.string s.label.text):=z 1
 have z2:u.cell? ⟨w.heap.size,2,none⟩=some (.int .i64 s.label.off):=z 2
 have z3:u.cell? ⟨w.heap.size,3,none⟩=some (.int .i64 s.label.line):=z 3
 have z4:u.cell? ⟨w.heap.size,4,none⟩=some (.int .i64 s.label.col):=z 4
 have z5:u.cell? ⟨w.heap.size,5,none⟩=some (.string s.key.text):=z 5
 have z6:u.cell? ⟨w.heap.size,6,none⟩=some (.int .i64 s.key.off):=z 6
 have z7:u.cell? ⟨w.heap.size,7,none⟩=some (.int .i64 s.key.line):=z 7
 have z8:u.cell? ⟨w.heap.size,8,none⟩=some (.int .i64 s.key.col):=z 8
 have z9:u.cell? ⟨w.heap.size,9,none⟩=some (.bool s.proving):=z 9
 have z10:u.cell? ⟨w.heap.size,10,none⟩=some (.slice aw nw cw):=z 10
 have z11:u.cell? ⟨w.heap.size,11,none⟩=some (.slice ap np cp):=z 11
 have z12:u.cell? ⟨w.heap.size,12,none⟩=some (.string s.fin.text):=z 12
 have z13:u.cell? ⟨w.heap.size,13,none⟩=some (.int .i64 s.fin.off):=z 13
 have z14:u.cell? ⟨w.heap.size,14,none⟩=some (.int .i64 s.fin.line):=z 14
 have z15:u.cell? ⟨w.heap.size,15,none⟩=some (.int .i64 s.fin.col):=z 15
 have DK:Hid _:=PA.out.k3 hk FR.out.1 (HOK.out.two hkd)
 rw[←R2.out] at DK
 unfold q09 jw S.q4g at DK
 rw[hkd] at DK
 clear z FR hkd
 go_wp2_with fail
 refine Calls.mono DK.out ?_
 rintro ee w6 hd
 have HD:Hid _:=hd
 cases hT:ql L s with
 | error f=>rw[hT] at hd;obtain⟨d1,b,rfl,d3⟩:=hd;exact⟨rfl,hT ▸ HD.out⟩
 | ok L9=>rw[hT] at hd;obtain⟨rfl,d1⟩:=hd;have HG:Hid (Goes N w lb txt m (k + 60000) L9 (Y.numOf L9.T.syms) w6):=d1;clear d1 HD;go_wp2;exact bodyPost_end (results_none rfl _ _ _) rfl (wu (by first | rfl | exact hT) rfl HG.out)
theorem qla (h:zq N w lb txt k L (Y.numOf L.T.syms) m)(hO:L.Ok k)(hk:k < 1000000000)(hKB:Y.KB w)(hN:1 < N)(hs:q0w N m w s vw vp)(hok:q0y s)(he:q04 s.label=true)(hJ:(Y.zh L.T s.label.text).1=0)(hkd:s.kind=4):Calls Tryz.prog 56 #[.pointer (some ⟨lb,0,none⟩),q09 s vw vp] w (Does N w lb txt m (k + 60000) (ql L s)):=by
 obtain⟨aw,cw,rfl,hW⟩:=hs.words
 obtain⟨ap,cp,rfl,_⟩:=S.gu hs.op
 generalize hnw:s.words.length=nw at *
 generalize hnp:s.proof.length=np at *
 obtain⟨w1,hw1,b0,bn,hsz,PW,LC,CK,FS,PT⟩:=q1d h hO hk hKB hN hs
 have HOK:Hid (q0y s):=hok
 have HN1:Hid (1 < N):=hN
 clear hs hW hO hKB b0 bn hok hN hsz h hnw hnp
 have hl:(!s.label.text.toList.isEmpty)=true:=by rw[ByteArray.toList_eq];exact he
 have z1:w1.cell? ⟨w.heap.size,1,none⟩=some (.string s.label.text):=S.M.qc PW.out.bx 1
 have HJ:Hid (((Y.zh L.T s.label.text).1:Int)=0):=by show _=_;rw[hJ];rfl
 obtain⟨L1,hL1⟩:∃L1:Ld,L1={ L with T:=(Y.zh L.T s.label.text).2 }:=⟨_,rfl⟩
 have R1:Hid (ql L s=xq L1 s):=by rw[hL1];unfold ql q4c jh;show _=_;rw[if_pos he,if_pos HJ.out]
 have FR:Hid (q25 L1.hy s.label.text=none∧q33 L1.al s.label.text=none):=by rw[hL1];exact FS.out hJ
 have SB:Hid (∀w',S.M.Ch m.hot w1.drew w'→w'.cell? ⟨lb,1,none⟩=some (.pointer (some ⟨m.tq,0,none⟩))∧w'.cell? ⟨w.heap.size,1,none⟩=some (.string s.label.text)∧w'.cell? ⟨w.heap.size,2,none⟩=some (.int .i64 s.label.off)∧w'.cell? ⟨w.heap.size,3,none⟩=some (.int .i64 s.label.line)∧w'.cell? ⟨w.heap.size,4,none⟩=some (.int .i64 s.label.col)):=fun w' hc=>by obtain⟨h1,h2,_⟩:=(PW.out.below (S.M.zi (Below.refl _ _) 1)).held hc;exact⟨h2,S.M.qc h1 1,S.M.qc h1 2,S.M.qc h1 3,S.M.qc h1 4⟩
 have CD:Hid (S.M.Ch m.hot w1.drew w1.drew):=S.M.Ch.of_below (Below.refl _ _)
 clear he FS hJ
 unfold S.zn at CK
 unfold q09
 go_enter Tryz.func56,Tryz.ntmps56
 go_upto_region 1 with fail
 rw[←hw1]
 clear hw1
 go_upto_region 2 with fail
 clear hl z1
 go_region_held3 (fun w'=>w'.cell? ⟨lb,1,none⟩=some (.pointer (some ⟨m.tq,0,none⟩))∧w'.cell? ⟨w.heap.size,1,none⟩=some (.string s.label.text)∧w'.cell? ⟨w.heap.size,2,none⟩=some (.int .i64 s.label.off)∧w'.cell? ⟨w.heap.size,3,none⟩=some (.int .i64 s.label.line)∧w'.cell? ⟨w.heap.size,4,none⟩=some (.int .i64 s.label.col)) (refine⟨?_,?_,?_,?_,?_⟩ <;> first | assumption | exact (SB.out _ (by assumption)).1 | exact (SB.out _ (by assumption)).2.1 | exact (SB.out _ (by assumption)).2.2.1 | exact (SB.out _ (by assumption)).2.2.2.1 | exact (SB.out _ (by assumption)).2.2.2.2)
  (first
  | (go_simp;go_at_call 103;refine Calls.mono LC.out ?_;rintro ee w4 ⟨rfl,hg⟩;have GG:Hid (Goes N w1.drew lb txt m (k + 2) { L with T:=(Y.zh L.T s.label.text).2 } (Y.numOf L.T.syms) w4):=hg;have CC:Hid (S.M.Ch m.hot w1.drew w4):=hg.1;clear hg)
  | (go_simp;go_at_call 102;refine Calls.mono (CK.out _) ?_;rintro ee u ⟨hb5,he5⟩;rw[if_pos HJ.out] at he5;subst he5;have G5:Hid (Goes N w1.drew lb txt m (k + 2) { L with T:=(Y.zh L.T s.label.text).2 } (Y.numOf L.T.syms) u):=GG.out.jc hb5;have CC2:Hid (S.M.Ch m.hot w1.drew u):=G5.out.1;clear hb5))
 obtain⟨m1,hp⟩:=PT.out _ G5.out
 rw[←hL1] at hp
 have PA:Hid (Past N w lb txt k m L1 m1 s (.slice aw nw cw) (.slice ap np cp) u):=hp
 clear hp PT G5 CC2 GG CC CK LC SB CD HJ PW hL1
 go_upto_region 3 with fail
 have z:∀i,u.cell? ⟨w.heap.size,i,none⟩=(jw s (.slice aw nw cw) (.slice ap np cp))[i]?:=S.M.qc PA.out.bx
 have R2:Hid (ql L s=q6p L1 s):=R1.out.trans (by unfold xq;rw[hkd];rfl)
 have z0:u.cell? ⟨w.heap.size,0,none⟩=some (.int .i64 4):=(z 0).trans (by show some (Value.int .i64 s.kind)=_;rw[hkd])
 have z1:u.cell? ⟨w.heap.size,1,none⟩=some (.string s.label.text):=z 1
 have z2:u.cell? ⟨w.heap.size,2,none⟩=some (.int .i64 s.label.off):=z 2
 have z3:u.cell? ⟨w.heap.size,3,none⟩=some (.int .i64 s.label.line):=z 3
 have z4:u.cell? ⟨w.heap.size,4,none⟩=some (.int .i64 s.label.col):=z 4
 have z5:u.cell? ⟨w.heap.size,5,none⟩=some (.string s.key.text):=z 5
 have z6:u.cell? ⟨w.heap.size,6,none⟩=some (.int .i64 s.key.off):=z 6
 have z7:u.cell? ⟨w.heap.size,7,none⟩=some (.int .i64 s.key.line):=z 7
 have z8:u.cell? ⟨w.heap.size,8,none⟩=some (.int .i64 s.key.col):=z 8
 have z9:u.cell? ⟨w.heap.size,9,none⟩=some (.bool s.proving):=z 9
 have z10:u.cell? ⟨w.heap.size,10,none⟩=some (.slice aw nw cw):=z 10
 have z11:u.cell? ⟨w.heap.size,11,none⟩=some (.slice ap np cp):=z 11
 have z12:u.cell? ⟨w.heap.size,12,none⟩=some (.string s.fin.text):=z 12
 have z13:u.cell? ⟨w.heap.size,13,none⟩=some (.int .i64 s.fin.off):=z 13
 have z14:u.cell? ⟨w.heap.size,14,none⟩=some (.int .i64 s.fin.line):=z 14
 have z15:u.cell? ⟨w.heap.size,15,none⟩=some (.int .i64 s.fin.col):=z 15
 have DK:Hid _:=PA.out.k4 hk FR.out.1
 rw[←R2.out] at DK
 unfold q09 jw S.q4g at DK
 rw[hkd] at DK
 clear z FR hkd
 go_wp2_with fail
 refine Calls.mono DK.out ?_
 rintro ee w6 hd
 have HD:Hid _:=hd
 cases hT:ql L s with
 | error f=>rw[hT] at hd;obtain⟨d1,b,rfl,d3⟩:=hd;exact⟨rfl,hT ▸ HD.out⟩
 | ok L9=>rw[hT] at hd;obtain⟨rfl,d1⟩:=hd;have HG:Hid (Goes N w lb txt m (k + 60000) L9 (Y.numOf L9.T.syms) w6):=d1;clear d1 HD;go_wp2;exact bodyPost_end (results_none rfl _ _ _) rfl (wu (by first | rfl | exact hT) rfl HG.out)
theorem qlb (h:zq N w lb txt k L (Y.numOf L.T.syms) m)(hO:L.Ok k)(hk:k < 1000000000)(hKB:Y.KB w)(hN:1 < N)(hs:q0w N m w s vw vp)(hok:q0y s)(he:q04 s.label=true)(hJ:(Y.zh L.T s.label.text).1=0)(hkd:s.kind=6):Calls Tryz.prog 56 #[.pointer (some ⟨lb,0,none⟩),q09 s vw vp] w (Does N w lb txt m (k + 60000) (ql L s)):=by
 obtain⟨aw,cw,rfl,hW⟩:=hs.words
 obtain⟨ap,cp,rfl,_⟩:=S.gu hs.op
 generalize hnw:s.words.length=nw at *
 generalize hnp:s.proof.length=np at *
 obtain⟨w1,hw1,b0,bn,hsz,PW,LC,CK,FS,PT⟩:=q1d h hO hk hKB hN hs
 have HOK:Hid (q0y s):=hok
 have HN1:Hid (1 < N):=hN
 clear hs hW hO hKB b0 bn hok hN hsz h hnw hnp
 have hl:(!s.label.text.toList.isEmpty)=true:=by rw[ByteArray.toList_eq];exact he
 have z1:w1.cell? ⟨w.heap.size,1,none⟩=some (.string s.label.text):=S.M.qc PW.out.bx 1
 have HJ:Hid (((Y.zh L.T s.label.text).1:Int)=0):=by show _=_;rw[hJ];rfl
 obtain⟨L1,hL1⟩:∃L1:Ld,L1={ L with T:=(Y.zh L.T s.label.text).2 }:=⟨_,rfl⟩
 have R1:Hid (ql L s=xq L1 s):=by rw[hL1];unfold ql q4c jh;show _=_;rw[if_pos he,if_pos HJ.out]
 have FR:Hid (q25 L1.hy s.label.text=none∧q33 L1.al s.label.text=none):=by rw[hL1];exact FS.out hJ
 have SB:Hid (∀w',S.M.Ch m.hot w1.drew w'→w'.cell? ⟨lb,1,none⟩=some (.pointer (some ⟨m.tq,0,none⟩))∧w'.cell? ⟨w.heap.size,1,none⟩=some (.string s.label.text)∧w'.cell? ⟨w.heap.size,2,none⟩=some (.int .i64 s.label.off)∧w'.cell? ⟨w.heap.size,3,none⟩=some (.int .i64 s.label.line)∧w'.cell? ⟨w.heap.size,4,none⟩=some (.int .i64 s.label.col)):=fun w' hc=>by obtain⟨h1,h2,_⟩:=(PW.out.below (S.M.zi (Below.refl _ _) 1)).held hc;exact⟨h2,S.M.qc h1 1,S.M.qc h1 2,S.M.qc h1 3,S.M.qc h1 4⟩
 have CD:Hid (S.M.Ch m.hot w1.drew w1.drew):=S.M.Ch.of_below (Below.refl _ _)
 clear he FS hJ
 unfold S.zn at CK
 unfold q09
 go_enter Tryz.func56,Tryz.ntmps56
 go_upto_region 1 with fail
 rw[←hw1]
 clear hw1
 go_upto_region 2 with fail
 clear hl z1
 go_region_held3 (fun w'=>w'.cell? ⟨lb,1,none⟩=some (.pointer (some ⟨m.tq,0,none⟩))∧w'.cell? ⟨w.heap.size,1,none⟩=some (.string s.label.text)∧w'.cell? ⟨w.heap.size,2,none⟩=some (.int .i64 s.label.off)∧w'.cell? ⟨w.heap.size,3,none⟩=some (.int .i64 s.label.line)∧w'.cell? ⟨w.heap.size,4,none⟩=some (.int .i64 s.label.col)) (refine⟨?_,?_,?_,?_,?_⟩ <;> first | assumption | exact (SB.out _ (by assumption)).1 | exact (SB.out _ (by assumption)).2.1 | exact (SB.out _ (by assumption)).2.2.1 | exact (SB.out _ (by assumption)).2.2.2.1 | exact (SB.out _ (by assumption)).2.2.2.2)
  (first
  | (go_simp;go_at_call 103;refine Calls.mono LC.out ?_;rintro ee w4 ⟨rfl,hg⟩;have GG:Hid (Goes N w1.drew lb txt m (k + 2) { L with T:=(Y.zh L.T s.label.text).2 } (Y.numOf L.T.syms) w4):=hg;have CC:Hid (S.M.Ch m.hot w1.drew w4):=hg.1;clear hg)
  | (go_simp;go_at_call 102;refine Calls.mono (CK.out _) ?_;rintro ee u ⟨hb5,he5⟩;rw[if_pos HJ.out] at he5;subst he5;have G5:Hid (Goes N w1.drew lb txt m (k + 2) { L with T:=(Y.zh L.T s.label.text).2 } (Y.numOf L.T.syms) u):=GG.out.jc hb5;have CC2:Hid (S.M.Ch m.hot w1.drew u):=G5.out.1;clear hb5))
 obtain⟨m1,hp⟩:=PT.out _ G5.out
 rw[←hL1] at hp
 have PA:Hid (Past N w lb txt k m L1 m1 s (.slice aw nw cw) (.slice ap np cp) u):=hp
 clear hp PT G5 CC2 GG CC CK LC SB CD HJ PW hL1
 go_upto_region 3 with fail
 have z:∀i,u.cell? ⟨w.heap.size,i,none⟩=(jw s (.slice aw nw cw) (.slice ap np cp))[i]?:=S.M.qc PA.out.bx
 have R2:Hid (ql L s=q1g L1 s):=R1.out.trans (by unfold xq;rw[hkd];rfl)
 have z0:u.cell? ⟨w.heap.size,0,none⟩=some (.int .i64 6):=(z 0).trans (by show some (Value.int .i64 s.kind)=_;rw[hkd])
 have z1:u.cell? ⟨w.heap.size,1,none⟩=some (.string s.label.text):=z 1
 have z2:u.cell? ⟨w.heap.size,2,none⟩=some (.int .i64 s.label.off):=z 2
 have z3:u.cell? ⟨w.heap.size,3,none⟩=some (.int .i64 s.label.line):=z 3
 have z4:u.cell? ⟨w.heap.size,4,none⟩=some (.int .i64 s.label.col):=z 4
 have z5:u.cell? ⟨w.heap.size,5,none⟩=some (.string s.key.text):=z 5
 have z6:u.cell? ⟨w.heap.size,6,none⟩=some (.int .i64 s.key.off):=z 6
 have z7:u.cell? ⟨w.heap.size,7,none⟩=some (.int .i64 s.key.line):=z 7
 have z8:u.cell? ⟨w.heap.size,8,none⟩=some (.int .i64 s.key.col):=z 8
 have z9:u.cell? ⟨w.heap.size,9,none⟩=some (.bool s.proving):=z 9
 have z10:u.cell? ⟨w.heap.size,10,none⟩=some (.slice aw nw cw):=z 10
 have z11:u.cell? ⟨w.heap.size,11,none⟩=some (.slice ap np cp):=z 11
 have z12:u.cell? ⟨w.heap.size,12,none⟩=some (.string s.fin.text):=z 12
 have z13:u.cell? ⟨w.heap.size,13,none⟩=some (.int .i64 s.fin.off):=z 13
 have z14:u.cell? ⟨w.heap.size,14,none⟩=some (.int .i64 s.fin.line):=z 14
 have z15:u.cell? ⟨w.heap.size,15,none⟩=some (.int .i64 s.fin.col):=z 15
 have DK:Hid _:=PA.out.k6 hk FR.out.2
 rw[←R2.out] at DK
 unfold q09 jw S.q4g at DK
 rw[hkd] at DK
 clear z FR hkd
 go_wp2_with fail
 refine Calls.mono DK.out ?_
 rintro ee w6 hd
 have HD:Hid _:=hd
 cases hT:ql L s with
 | error f=>rw[hT] at hd;obtain⟨d1,b,rfl,d3⟩:=hd;exact⟨rfl,hT ▸ HD.out⟩
 | ok L9=>rw[hT] at hd;obtain⟨rfl,d1⟩:=hd;have HG:Hid (Goes N w lb txt m (k + 60000) L9 (Y.numOf L9.T.syms) w6):=d1;clear d1 HD;go_wp2;exact bodyPost_end (results_none rfl _ _ _) rfl (wu (by first | rfl | exact hT) rfl HG.out)
end
end B
namespace B
open Go.RowKit
open S (Tok Stm)
section
variable {N:Nat} {w u:World} {lb:Nat} {txt:ByteArray} {k:Nat} {L L1:Ld} {m m1:LdM} {s:Stm} {vw vp:Value}
theorem qlc (h:zq N w lb txt k L (Y.numOf L.T.syms) m)(hO:L.Ok k)(hk:k < 1000000000)(hKB:Y.KB w)(hN:1 < N)(hs:q0w N m w s vw vp)(hok:q0y s)(he:q04 s.label=true)(hJ:(Y.zh L.T s.label.text).1=0)(hkd:s.kind=7):Calls Tryz.prog 56 #[.pointer (some ⟨lb,0,none⟩),q09 s vw vp] w (Does N w lb txt m (k + 60000) (ql L s)):=by
 obtain⟨aw,cw,rfl,hW⟩:=hs.words
 obtain⟨ap,cp,rfl,_⟩:=S.gu hs.op
 generalize hnw:s.words.length=nw at *
 generalize hnp:s.proof.length=np at *
 obtain⟨w1,hw1,b0,bn,hsz,PW,LC,CK,FS,PT⟩:=q1d h hO hk hKB hN hs
 have HOK:Hid (q0y s):=hok
 have HN1:Hid (1 < N):=hN
 clear hs hW hO hKB b0 bn hok hN hsz h hnw hnp
 have hl:(!s.label.text.toList.isEmpty)=true:=by rw[ByteArray.toList_eq];exact he
 have z1:w1.cell? ⟨w.heap.size,1,none⟩=some (.string s.label.text):=S.M.qc PW.out.bx 1
 have HJ:Hid (((Y.zh L.T s.label.text).1:Int)=0):=by show _=_;rw[hJ];rfl
 obtain⟨L1,hL1⟩:∃L1:Ld,L1={ L with T:=(Y.zh L.T s.label.text).2 }:=⟨_,rfl⟩
 have R1:Hid (ql L s=xq L1 s):=by rw[hL1];unfold ql q4c jh;show _=_;rw[if_pos he,if_pos HJ.out]
 have FR:Hid (q25 L1.hy s.label.text=none∧q33 L1.al s.label.text=none):=by rw[hL1];exact FS.out hJ
 have SB:Hid (∀w',S.M.Ch m.hot w1.drew w'→w'.cell? ⟨lb,1,none⟩=some (.pointer (some ⟨m.tq,0,none⟩))∧w'.cell? ⟨w.heap.size,1,none⟩=some (.string s.label.text)∧w'.cell? ⟨w.heap.size,2,none⟩=some (.int .i64 s.label.off)∧w'.cell? ⟨w.heap.size,3,none⟩=some (.int .i64 s.label.line)∧w'.cell? ⟨w.heap.size,4,none⟩=some (.int .i64 s.label.col)):=fun w' hc=>by obtain⟨h1,h2,_⟩:=(PW.out.below (S.M.zi (Below.refl _ _) 1)).held hc;exact⟨h2,S.M.qc h1 1,S.M.qc h1 2,S.M.qc h1 3,S.M.qc h1 4⟩
 have CD:Hid (S.M.Ch m.hot w1.drew w1.drew):=S.M.Ch.of_below (Below.refl _ _)
 clear he FS hJ
 unfold S.zn at CK
 unfold q09
 go_enter Tryz.func56,Tryz.ntmps56
 go_upto_region 1 with fail
 rw[←hw1]
 clear hw1
 go_upto_region 2 with fail
 clear hl z1
 go_region_held3 (fun w'=>w'.cell? ⟨lb,1,none⟩=some (.pointer (some ⟨m.tq,0,none⟩))∧w'.cell? ⟨w.heap.size,1,none⟩=some (.string s.label.text)∧w'.cell? ⟨w.heap.size,2,none⟩=some (.int .i64 s.label.off)∧w'.cell? ⟨w.heap.size,3,none⟩=some (.int .i64 s.label.line)∧w'.cell? ⟨w.heap.size,4,none⟩=some (.int .i64 s.label.col)) (refine⟨?_,?_,?_,?_,?_⟩ <;> first | assumption | exact (SB.out _ (by assumption)).1 | exact (SB.out _ (by assumption)).2.1 | exact (SB.out _ (by assumption)).2.2.1 | exact (SB.out _ (by assumption)).2.2.2.1 | exact (SB.out _ (by assumption)).2.2.2.2)
  (first
  | (go_simp;go_at_call 103;refine Calls.mono LC.out ?_;rintro ee w4 ⟨rfl,hg⟩;have GG:Hid (Goes N w1.drew lb txt m (k + 2) { L with T:=(Y.zh L.T s.label.text).2 } (Y.numOf L.T.syms) w4):=hg;have CC:Hid (S.M.Ch m.hot w1.drew w4):=hg.1;clear hg)
  | (go_simp;go_at_call 102;refine Calls.mono (CK.out _) ?_;rintro ee u ⟨hb5,he5⟩;rw[if_pos HJ.out] at he5;subst he5;have G5:Hid (Goes N w1.drew lb txt m (k + 2) { L with T:=(Y.zh L.T s.label.text).2 } (Y.numOf L.T.syms) u):=GG.out.jc hb5;have CC2:Hid (S.M.Ch m.hot w1.drew u):=G5.out.1;clear hb5))
 obtain⟨m1,hp⟩:=PT.out _ G5.out
 rw[←hL1] at hp
 have PA:Hid (Past N w lb txt k m L1 m1 s (.slice aw nw cw) (.slice ap np cp) u):=hp
 clear hp PT G5 CC2 GG CC CK LC SB CD HJ PW hL1
 go_upto_region 3 with fail
 have z:∀i,u.cell? ⟨w.heap.size,i,none⟩=(jw s (.slice aw nw cw) (.slice ap np cp))[i]?:=S.M.qc PA.out.bx
 have R2:Hid (ql L s=q1g L1 s):=R1.out.trans (by unfold xq;rw[hkd];rfl)
 have z0:u.cell? ⟨w.heap.size,0,none⟩=some (.int .i64 7):=(z 0).trans (by show some (Value.int .i64 s.kind)=_;rw[hkd])
 have z1:u.cell? ⟨w.heap.size,1,none⟩=some (.string s.label.text):=z 1
 have z2:u.cell? ⟨w.heap.size,2,none⟩=some (.int .i64 s.label.off):=z 2
 have z3:u.cell? ⟨w.heap.size,3,none⟩=some (.int .i64 s.label.line):=z 3
 have z4:u.cell? ⟨w.heap.size,4,none⟩=some (.int .i64 s.label.col):=z 4
 have z5:u.cell? ⟨w.heap.size,5,none⟩=some (.string s.key.text):=z 5
 have z6:u.cell? ⟨w.heap.size,6,none⟩=some (.int .i64 s.key.off):=z 6
 have z7:u.cell? ⟨w.heap.size,7,none⟩=some (.int .i64 s.key.line):=z 7
 have z8:u.cell? ⟨w.heap.size,8,none⟩=some (.int .i64 s.key.col):=z 8
 have z9:u.cell? ⟨w.heap.size,9,none⟩=some (.bool s.proving):=z 9
 have z10:u.cell? ⟨w.heap.size,10,none⟩=some (.slice aw nw cw):=z 10
 have z11:u.cell? ⟨w.heap.size,11,none⟩=some (.slice ap np cp):=z 11
 have z12:u.cell? ⟨w.heap.size,12,none⟩=some (.string s.fin.text):=z 12
 have z13:u.cell? ⟨w.heap.size,13,none⟩=some (.int .i64 s.fin.off):=z 13
 have z14:u.cell? ⟨w.heap.size,14,none⟩=some (.int .i64 s.fin.line):=z 14
 have z15:u.cell? ⟨w.heap.size,15,none⟩=some (.int .i64 s.fin.col):=z 15
 have DK:Hid _:=PA.out.k6 hk FR.out.2
 rw[←R2.out] at DK
 unfold q09 jw S.q4g at DK
 rw[hkd] at DK
 clear z FR hkd
 go_wp2_with fail
 refine Calls.mono DK.out ?_
 rintro ee w6 hd
 have HD:Hid _:=hd
 cases hT:ql L s with
 | error f=>rw[hT] at hd;obtain⟨d1,b,rfl,d3⟩:=hd;exact⟨rfl,hT ▸ HD.out⟩
 | ok L9=>rw[hT] at hd;obtain⟨rfl,d1⟩:=hd;have HG:Hid (Goes N w lb txt m (k + 60000) L9 (Y.numOf L9.T.syms) w6):=d1;clear d1 HD;go_wp2;exact bodyPost_end (results_none rfl _ _ _) rfl (wu (by first | rfl | exact hT) rfl HG.out)
theorem qld (h:zq N w lb txt k L (Y.numOf L.T.syms) m)(hO:L.Ok k)(hk:k < 1000000000)(hKB:Y.KB w)(hN:1 < N)(hs:q0w N m w s vw vp)(hok:q0y s)(he:q04 s.label=true)(hJ:(Y.zh L.T s.label.text).1=0)(h8:s.kind≠8)(h9:s.kind≠9)(h1:s.kind≠1)(h2:s.kind≠2)(h5:s.kind≠5)(h3:s.kind≠3)(h4:s.kind≠4)(h6:s.kind≠6)(h7:s.kind≠7):Calls Tryz.prog 56 #[.pointer (some ⟨lb,0,none⟩),q09 s vw vp] w (Does N w lb txt m (k + 60000) (ql L s)):=by
 obtain⟨aw,cw,rfl,hW⟩:=hs.words
 obtain⟨ap,cp,rfl,_⟩:=S.gu hs.op
 generalize hnw:s.words.length=nw at *
 generalize hnp:s.proof.length=np at *
 obtain⟨w1,hw1,b0,bn,hsz,PW,LC,CK,FS,PT⟩:=q1d h hO hk hKB hN hs
 have HOK:Hid (q0y s):=hok
 have HN1:Hid (1 < N):=hN
 clear hs hW hO hKB b0 bn hok hN hsz h hnw hnp
 have hl:(!s.label.text.toList.isEmpty)=true:=by rw[ByteArray.toList_eq];exact he
 have z1:w1.cell? ⟨w.heap.size,1,none⟩=some (.string s.label.text):=S.M.qc PW.out.bx 1
 have HJ:Hid (((Y.zh L.T s.label.text).1:Int)=0):=by show _=_;rw[hJ];rfl
 obtain⟨L1,hL1⟩:∃L1:Ld,L1={ L with T:=(Y.zh L.T s.label.text).2 }:=⟨_,rfl⟩
 have R1:Hid (ql L s=xq L1 s):=by rw[hL1];unfold ql q4c jh;show _=_;rw[if_pos he,if_pos HJ.out]
 have FR:Hid (q25 L1.hy s.label.text=none∧q33 L1.al s.label.text=none):=by rw[hL1];exact FS.out hJ
 have SB:Hid (∀w',S.M.Ch m.hot w1.drew w'→w'.cell? ⟨lb,1,none⟩=some (.pointer (some ⟨m.tq,0,none⟩))∧w'.cell? ⟨w.heap.size,1,none⟩=some (.string s.label.text)∧w'.cell? ⟨w.heap.size,2,none⟩=some (.int .i64 s.label.off)∧w'.cell? ⟨w.heap.size,3,none⟩=some (.int .i64 s.label.line)∧w'.cell? ⟨w.heap.size,4,none⟩=some (.int .i64 s.label.col)):=fun w' hc=>by obtain⟨h1,h2,_⟩:=(PW.out.below (S.M.zi (Below.refl _ _) 1)).held hc;exact⟨h2,S.M.qc h1 1,S.M.qc h1 2,S.M.qc h1 3,S.M.qc h1 4⟩
 have CD:Hid (S.M.Ch m.hot w1.drew w1.drew):=S.M.Ch.of_below (Below.refl _ _)
 clear he FS hJ
 unfold S.zn at CK
 unfold q09
 go_enter Tryz.func56,Tryz.ntmps56
 go_upto_region 1 with fail
 rw[←hw1]
 clear hw1
 go_upto_region 2 with fail
 clear hl z1
 go_region_held3 (fun w'=>w'.cell? ⟨lb,1,none⟩=some (.pointer (some ⟨m.tq,0,none⟩))∧w'.cell? ⟨w.heap.size,1,none⟩=some (.string s.label.text)∧w'.cell? ⟨w.heap.size,2,none⟩=some (.int .i64 s.label.off)∧w'.cell? ⟨w.heap.size,3,none⟩=some (.int .i64 s.label.line)∧w'.cell? ⟨w.heap.size,4,none⟩=some (.int .i64 s.label.col)) (refine⟨?_,?_,?_,?_,?_⟩ <;> first | assumption | exact (SB.out _ (by assumption)).1 | exact (SB.out _ (by assumption)).2.1 | exact (SB.out _ (by assumption)).2.2.1 | exact (SB.out _ (by assumption)).2.2.2.1 | exact (SB.out _ (by assumption)).2.2.2.2)
  (first
  | (go_simp;go_at_call 103;refine Calls.mono LC.out ?_;rintro ee w4 ⟨rfl,hg⟩;have GG:Hid (Goes N w1.drew lb txt m (k + 2) { L with T:=(Y.zh L.T s.label.text).2 } (Y.numOf L.T.syms) w4):=hg;have CC:Hid (S.M.Ch m.hot w1.drew w4):=hg.1;clear hg)
  | (go_simp;go_at_call 102;refine Calls.mono (CK.out _) ?_;rintro ee u ⟨hb5,he5⟩;rw[if_pos HJ.out] at he5;subst he5;have G5:Hid (Goes N w1.drew lb txt m (k + 2) { L with T:=(Y.zh L.T s.label.text).2 } (Y.numOf L.T.syms) u):=GG.out.jc hb5;have CC2:Hid (S.M.Ch m.hot w1.drew u):=G5.out.1;clear hb5))
 obtain⟨m1,hp⟩:=PT.out _ G5.out
 rw[←hL1] at hp
 have PA:Hid (Past N w lb txt k m L1 m1 s (.slice aw nw cw) (.slice ap np cp) u):=hp
 clear hp PT G5 CC2 GG CC CK LC SB CD HJ PW hL1
 go_upto_region 3 with fail
 have z:∀i,u.cell? ⟨w.heap.size,i,none⟩=(jw s (.slice aw nw cw) (.slice ap np cp))[i]?:=S.M.qc PA.out.bx
 have ks:s.kind≠8∧s.kind≠9∧s.kind≠1∧s.kind≠2∧s.kind≠5∧s.kind≠3∧s.kind≠4∧s.kind≠6∧s.kind≠7:=by refine⟨?_,?_,?_,?_,?_,?_,?_,?_,?_⟩ <;> assumption
 obtain⟨n8,n9,n1,n2,n5,n3,n4,n6,n7⟩:=ks
 have R2:Hid (ql L s=.ok L1):=R1.out.trans (by unfold xq;rw[if_neg n8,if_neg n9,if_neg n1,if_neg n2,if_neg n5,if_neg n3,if_neg n4,if_neg (by omega)])
 replace n8:(s.kind == 8)=false:=by simpa using n8
 replace n9:(s.kind == 9)=false:=by simpa using n9
 replace n1:(s.kind == 1)=false:=by simpa using n1
 replace n2:(s.kind == 2)=false:=by simpa using n2
 replace n5:(s.kind == 5)=false:=by simpa using n5
 replace n3:(s.kind == 3)=false:=by simpa using n3
 replace n4:(s.kind == 4)=false:=by simpa using n4
 replace n6:(s.kind == 6)=false:=by simpa using n6
 replace n7:(s.kind == 7)=false:=by simpa using n7
 have z0:u.cell? ⟨w.heap.size,0,none⟩=some (.int .i64 s.kind):=z 0
 clear z FR
 go_wp2
 exact bodyPost_end (results_none rfl _ _ _) rfl (PA.out.does (by omega) (wu R2.out rfl (Goes.same PA.out.i (Below.refl _ _))))
end
end B
namespace B
open Go.RowKit
open S (Tok Stm)
section
variable {N:Nat} {w u:World} {lb:Nat} {txt:ByteArray} {k:Nat} {L L1:Ld} {m m1:LdM} {s:Stm} {vw vp:Value}
theorem take_any (h:zq N w lb txt k L (Y.numOf L.T.syms) m)(hO:L.Ok k)(hk:k < 1000000000)(hKB:Y.KB w)(hN:1 < N)(hs:q0w N m w s vw vp)(hok:q0y s):Calls Tryz.prog 56 #[.pointer (some ⟨lb,0,none⟩),q09 s vw vp] w (Does N w lb txt m (k + 60000) (ql L s)):=by
 cases he:q04 s.label with
 | false =>
  by_cases h8:s.kind=8
  ·exact qhg h hO hk hKB hN hs hok he h8
  ·by_cases h9:s.kind=9
   ·exact qhh h hO hk hKB hN hs hok he h9
   ·exact qhi h hO hk hKB hN hs hok he h8 h9
 | true =>
  by_cases hJ:(Y.zh L.T s.label.text).1=0
  ·by_cases h8:s.kind=8
   ·exact ql4 h hO hk hKB hN hs hok he hJ h8
   ·by_cases h9:s.kind=9
    ·exact ql5 h hO hk hKB hN hs hok he hJ h9
    ·by_cases h1:s.kind=1
     ·exact ql6 h hO hk hKB hN hs hok he hJ h1
     ·by_cases h2:s.kind=2
      ·exact ql7 h hO hk hKB hN hs hok he hJ h2
      ·by_cases h5:s.kind=5
       ·exact ql8 h hO hk hKB hN hs hok he hJ h5
       ·by_cases h3:s.kind=3
        ·exact ql9 h hO hk hKB hN hs hok he hJ h3
        ·by_cases h4:s.kind=4
         ·exact qla h hO hk hKB hN hs hok he hJ h4
         ·by_cases h6:s.kind=6
          ·exact qlb h hO hk hKB hN hs hok he hJ h6
          ·by_cases h7:s.kind=7
           ·exact qlc h hO hk hKB hN hs hok he hJ h7
           ·exact qld h hO hk hKB hN hs hok he hJ h8 h9 h1 h2 h5 h3 h4 h6 h7
  ·exact qns h hO hk hKB hN hs hok he hJ
end
end B
namespace B
open Go.RowKit
open S (Tok Stm)
theorem qfa (T:Y.Tab):(Y.ji T).2.labels=T.labels:=by unfold Y.ji;split <;> rfl
theorem qc9 (T:Y.Tab):(Y.xg T).2.labels=T.labels:=by unfold Y.xg;split <;> rfl
theorem qfb (T:Y.Tab)(s:ByteArray)(v:Bool):(Y.q20 T s v).2.2.labels=T.labels:=by unfold Y.q20;split <;> rfl
theorem qle (T:Y.Tab)(s:ByteArray):(Y.q02 T s).2.2.labels=T.labels:=by
 unfold Y.q02
 split
 ·rfl
 ·split
  ·rfl
  ·split
   ·rfl
   ·exact qfb _ _ _
theorem lab_var (T:Y.Tab)(s:ByteArray):(Y.q2v T s).2.2.labels=T.labels:=by
 unfold Y.q2v
 split
 ·rfl
 ·split
  ·rfl
  ·split
   ·rfl
   ·exact qfb _ _ _
section
variable {L L':Ld} {k k':Nat} {s:Stm}
theorem Ld.Ok.tabled {T':Y.Tab}(h:L.Ok k)(hT:T'.Ok k')(hl:T'.labels=L.T.labels):Ld.Ok { L with T:=T' } k' :=
 ⟨hT,h.sc1,h.sc2,by show _≤T'.labels.length;rw[hl];exact h.hyl,h.sub,h.ex,h.ps,h.pw,fun s hs=>by show s ∈ T'.labels;rw[hl];exact h.labs s hs⟩
theorem q8e {f:Y.Tab→ByteArray→Nat × Nat × Y.Tab}(hf:∀T s k,Y.Tab.Ok T k→(f T s).2.2.Ok (k + 2)∧(f T s).2.2.labels=T.labels):∀(ts:List Tok) (L L':Ld) (k:Nat),L.Ok k→uy f L ts=.ok L'→L'.Ok (k + 2 * ts.length)
 | [],L,L',k,h,e=>by
  cases e
  exact h.up (by omega)
 | t :: ts,L,L',k,h,e=>by
  unfold uy at e
  split at e
  ·have h2:=hf L.T t.text k h.tab
   exact (q8e hf ts _ L' (k + 2) (h.tabled h2.1 h2.2) e).up (by rw[List.length_cons];omega)
  ·cases e
theorem qiv (f:F.Sa→F.Sa){l:List F.Sa}(h:1≤l.length):∃p a,l=p++[a]∧F.q1w f l=p++[f a]:=by
 have hne:l≠[]:=by rintro rfl;simp at h
 obtain⟨p,a,e⟩:∃p a,l=p++[a]:=⟨_,_,(List.dropLast_concat_getLast hne).symm⟩
 subst e
 exact⟨p,a,rfl,F.q4l f p a⟩
theorem q54 (p:List F.Sa)(a:F.Sa):uw (p++[a])=uw p++a.hs:=by unfold uw;simp
theorem q4e (p:List F.Sa)(a:F.Sa):F.uo (p++[a])=F.uo p++a.ps:=by unfold F.uo;simp
theorem q4f {t:Tok}{c:Int}(h:jh t c L=.ok L'):c=0∧L'=L:=by
 unfold jh at h
 split at h
 ·cases h;exact⟨by assumption,rfl⟩
 ·cases h
theorem qlf {t:Tok}(hO:L.Ok k)(h:qc0 L t=.ok L'):L'.Ok k:=by
 unfold qc0 at h
 split at h
 ·obtain⟨h1,rfl⟩:=q4f h
  have h2:¬17≤L.sc.length:=fun hh=>by unfold F.q1q at h1;rw[if_pos hh] at h1;cases h1
  have e:F.q1b L.sc=L.sc++[⟨[],[]⟩]:=by unfold F.q1b;rw[if_neg h2]
  have e2:uw (F.q1b L.sc)=uw L.sc:=by rw[e,q54];exact List.append_nil _
  have e3:F.uo (F.q1b L.sc)=F.uo L.sc:=by rw[e,q4e];exact List.append_nil _
  refine⟨Y.ok_open hO.tab,?_,?_,?_,?_,hO.ex,?_,?_,?_⟩
  ·show 1≤(F.q1b L.sc).length
   rw[e,List.length_append]
   exact Nat.le_add_left _ _
  ·show (F.q1b L.sc).length≤17
   rw[e,List.length_append]
   show L.sc.length + 1≤17
   omega
  ·show _≤(Y.ji L.T).2.labels.length
   rw[qfa]
   exact hO.hyl
  ·show (uw (F.q1b L.sc)).Sublist L.hy
   rw[e2]
   exact hO.sub
  ·show (F.uo (F.q1b L.sc)).length≤256
   rw[e3]
   exact hO.ps
  ·show ∀p ∈ F.uo (F.q1b L.sc),F.wfP p
   rw[e3]
   exact hO.pw
  ·intro x hx
   show x ∈ (Y.ji L.T).2.labels
   rw[qfa]
   exact hO.labs x hx
 ·cases h
theorem qhj {t:Tok}(hO:L.Ok k)(h:q8c L t=.ok L'):L'.Ok k:=by
 unfold q8c at h
 split at h
 ·obtain⟨h1,rfl⟩:=q4f h
  have h2:¬L.sc.length≤1:=fun hh=>by unfold F.q0p at h1;rw[if_pos hh] at h1;cases h1
  have e:F.q08 L.sc=L.sc.take (L.sc.length - 1):=by unfold F.q08;rw[if_neg h2]
  have hs:L.sc=F.q08 L.sc++L.sc.drop (L.sc.length - 1):=by rw[e,List.take_append_drop]
  have e2:uw L.sc=uw (F.q08 L.sc)++uw (L.sc.drop (L.sc.length - 1)):=by
   conv=>lhs;rw[hs]
   unfold uw
   exact List.flatMap_append ..
  have e3:F.uo L.sc=F.uo (F.q08 L.sc)++F.uo (L.sc.drop (L.sc.length - 1)):=by
   conv=>lhs;rw[hs]
   unfold F.uo
   exact List.flatMap_append ..
  have hl:(F.q08 L.sc).length=L.sc.length - 1:=by rw[e,List.length_take];omega
  have h17:=hO.sc2
  refine⟨Y.qnh hO.tab,?_,?_,?_,?_,hO.ex,?_,?_,?_⟩
  ·show 1≤(F.q08 L.sc).length
   omega
  ·show (F.q08 L.sc).length≤17
   omega
  ·show _≤(Y.xg L.T).2.labels.length
   rw[qc9]
   exact hO.hyl
  ·have h3:=hO.sub
   rw[e2] at h3
   exact (List.sublist_append_left _ _).trans h3
  ·have h3:=hO.ps
   rw[e3,List.length_append] at h3
   show (F.uo (F.q08 L.sc)).length≤256
   omega
  ·intro p hp
   exact hO.pw p (by rw[e3];exact List.mem_append_left _ hp)
  ·intro x hx
   show x ∈ (Y.xg L.T).2.labels
   rw[qc9]
   exact hO.labs x hx
 ·cases h
theorem Ld.Ok.declared (hO:L.Ok k)(hr:L.hy.length + L.al.length + 1≤L.T.labels.length)(x:F.Hy)(hx:x.ex.length≤200∧(∀y ∈ x.ex,F.wfN y)∧F.wfN x.var∧x.lab.size≤65536)(hl:x.lab ∈ L.T.labels):Ld.Ok { L with sc:=F.q1w (fun a=>⟨a.hs++[x],a.ps⟩) L.sc,hy:=L.hy++[x] } k:=by
 obtain⟨p,a,e1,e2⟩:=qiv (fun a=>⟨a.hs++[x],a.ps⟩) hO.sc1
 have h1:=hO.sub
 have h2:=hO.sc2
 have h3:=hO.ps
 have h4:=hO.pw
 rw[e1] at h1 h2 h3 h4
 rw[q54] at h1
 rw[q4e] at h3 h4
 rw[List.length_append] at h2
 refine⟨hO.tab,?_,?_,?_,?_,?_,?_,?_,?_⟩
 ·show 1≤(F.q1w _ L.sc).length
  rw[e2,List.length_append]
  exact Nat.le_add_left _ _
 ·show (F.q1w _ L.sc).length≤17
  rw[e2,List.length_append]
  exact h2
 ·show (L.hy++[x]).length + _≤_
  rw[List.length_append]
  show L.hy.length + 1 + L.al.length≤L.T.labels.length
  omega
 ·show (uw (F.q1w _ L.sc)).Sublist (L.hy++[x])
  rw[e2,q54]
  show (uw p++(a.hs++[x])).Sublist _
  rw[←List.append_assoc]
  exact h1.append (List.Sublist.refl _)
 ·intro y hy
  rcases List.mem_append.1 hy with hy | hy
  ·exact hO.ex y hy
  ·cases List.mem_singleton.1 hy
   exact hx
 ·show (F.uo (F.q1w _ L.sc)).length≤256
  rw[e2,q4e]
  exact h3
 ·show ∀q ∈ F.uo (F.q1w _ L.sc),F.wfP q
  rw[e2,q4e]
  exact h4
 ·rintro y (hy | hy)
  ·have hy':y ∈ (L.hy++[x]).map (·.lab):=hy
   rw[List.map_append] at hy'
   rcases List.mem_append.1 hy' with h | h
   ·exact hO.labs y (.inl h)
   ·cases List.mem_singleton.1 h
    exact hl
  ·exact hO.labs y (.inr hy)
theorem all_wf {m:List Int}(hm:∀x ∈ m,F.wfN x):∀p ∈ F.q6n m,F.wfP p:=fun p hp=>by
 unfold F.q6n F.q0a at hp
 obtain⟨i,_,hp⟩:=List.mem_flatMap.1 hp
 obtain⟨b,hb,rfl⟩:=List.mem_map.1 hp
 have h0:F.wfN (m.getD i 0):=by
  rw[List.getD_eq_getElem?_getD]
  cases h:m[i]? with
  | none=>exact⟨by decide,by decide⟩
  | some y=>exact hm y (List.mem_of_getElem? h)
 exact⟨F.qcu h0,F.qcu (hm b (List.mem_of_mem_drop hb))⟩
theorem qlg (hO:L.Ok k)(h:q2j L s=.ok L'):L'.Ok k:=by
 unfold q2j at h
 cases hp:q0i L [] (uz (F.uo L.sc)) s.words with
 | error f=>rw[hp] at h;cases h
 | ok a =>
  rw[hp] at h
  dsimp only at h
  split at h
  ·obtain⟨h1,rfl⟩:=q4f h
   have hw:=(qah hO.q3u s.words [] _ a hp (fun x hx=>by cases hx)).1
   have e0:F.q1i (isV:=xk L.T) L.sc a=F.q1w (fun b=>⟨b.hs,b.ps++F.q3d (isV:=xk L.T) L.sc a⟩) L.sc:=by unfold F.q1i;rw[if_pos h1]
   have hlen:(F.uo L.sc).length + (F.q3d (isV:=xk L.T) L.sc a).length≤256:=by
    unfold F.q1h at h1
    split at h1
    ·cases h1
    ·split at h1
     ·cases h1
     ·split at h1
      ·cases h1
      ·split at h1
       ·cases h1
       ·omega
   have hf:∀p ∈ F.q3d (isV:=xk L.T) L.sc a,F.wfP p:=fun p hp=>by
    unfold F.q3d at hp
    exact all_wf (fun x hx=>hw x (((F.q8a a).mem x).1 hx).1) p (List.mem_filter.1 hp).1
   obtain⟨p,b,e1,e2⟩:=qiv (fun b=>⟨b.hs,b.ps++F.q3d (isV:=xk L.T) L.sc a⟩) hO.sc1
   rw[←e0] at e2
   generalize F.q3d (isV:=xk L.T) L.sc a=fr at *
   have h1:=hO.sub
   have h2:=hO.sc2
   have h4:=hO.pw
   rw[e1] at h1 h2 hlen h4
   rw[q54] at h1
   rw[q4e] at hlen h4
   rw[List.length_append] at h2 hlen
   refine⟨hO.tab,?_,?_,hO.hyl,?_,hO.ex,?_,?_,hO.labs⟩
   ·show 1≤(F.q1i L.sc a).length
    rw[e2,List.length_append]
    exact Nat.le_add_left _ _
   ·show (F.q1i L.sc a).length≤17
    rw[e2,List.length_append]
    exact h2
   ·show (uw (F.q1i L.sc a)).Sublist L.hy
    rw[e2,q54]
    exact h1
   ·show (F.uo (F.q1i L.sc a)).length≤256
    rw[e2,q4e,List.length_append,List.length_append]
    omega
   ·show ∀q ∈ F.uo (F.q1i L.sc a),F.wfP q
    rw[e2,q4e]
    intro q hq
    rcases List.mem_append.1 hq with hq | hq
    ·exact h4 q (List.mem_append_left _ hq)
    ·rcases List.mem_append.1 hq with hq | hq
     ·exact h4 q (List.mem_append_right _ hq)
     ·exact hf q hq
  ·cases h
   exact hO
theorem qhk (hO:L.Ok k)(hr:L.hy.length + L.al.length + 1≤L.T.labels.length)(hl:s.label.text ∈ L.T.labels)(hz:s.label.text.size≤65536)(h2:q04 s.fin=true→s.words.length=2)(h:q1o L s=.ok L'):L'.Ok k:=by
 unfold q1o at h
 cases hp:q0b L [] s.words with
 | error f=>rw[hp] at h;cases h
 | ok e =>
  rw[hp] at h
  dsimp only at h
  split at h
  ·rename_i he
   obtain⟨h1,rfl⟩:=q4f h
   obtain⟨hw,hlen⟩:=q8d hO.q3u s.words [] e hp (fun x hx=>by cases hx)
   rw[h2 he] at hlen
   obtain⟨x,y,rfl⟩:∃x y,e=[x,y]:=by
    match e,hlen with
    | [x,y],_=>exact⟨x,y,rfl⟩
   have h1':F.q0h (isV:=xk L.T) L.sc x y=0:=h1
   have e0:F.q07 (isV:=xk L.T) L.sc s.label.text x y=F.q1w (fun a=>⟨a.hs++[⟨s.label.text,true,y,[x,y]⟩],a.ps⟩) L.sc:=by unfold F.q07;rw[if_pos h1']
   have h5:=hO.declared hr ⟨s.label.text,true,y,[x,y]⟩ ⟨by show 2≤200;omega,hw,hw y (by simp),hz⟩ hl
   rw[←e0] at h5
   exact h5
  ·cases h
   exact hO
theorem qnt (hO:L.Ok k)(hr:L.hy.length + L.al.length + 1≤L.T.labels.length)(hl:s.label.text ∈ L.T.labels)(hz:s.label.text.size≤65536)(h:q6p L s=.ok L'):L'.Ok k:=by
 unfold q6p at h
 cases hp:uh L [] s.words with
 | error f=>rw[hp] at h;cases h
 | ok e =>
  rw[hp] at h
  dsimp only at h
  split at h
  ·obtain⟨h1,rfl⟩:=q4f h
   obtain⟨hw,hlen,_⟩:=q7f hO.q3u s.words [] e hp (fun x hx=>by cases hx) (by simp)
   have e0:F.q4h (isV:=xk L.T) L.sc s.label.text e=F.q1w (fun a=>⟨a.hs++[⟨s.label.text,false,-1,e⟩],a.ps⟩) L.sc:=by unfold F.q4h;rw[if_pos h1]
   have h5:=hO.declared hr ⟨s.label.text,false,-1,e⟩ ⟨hlen,hw,(show (-9223372036854775808:Int)≤-1∧(-1:Int)≤9223372036854775807 by decide),hz⟩ hl
   rw[←e0] at h5
   exact h5
  ·cases h
   exact hO
theorem qfc (hO:L.Ok k)(hr:L.hy.length + L.al.length + 1≤L.T.labels.length)(hl:s.label.text ∈ L.T.labels)(h:q1g L s=.ok L'):L'.Ok k:=by
 unfold q1g at h
 cases hp:uh L [] s.words with
 | error f=>rw[hp] at h;cases h
 | ok e =>
  rw[hp] at h
  dsimp only at h
  split at h
  ·obtain⟨_,rfl⟩:=q4f h
   refine⟨hO.tab,hO.sc1,hO.sc2,?_,hO.sub,hO.ex,hO.ps,hO.pw,?_⟩
   ·show L.hy.length + (L.al++[q6f L s e]).length≤_
    rw[List.length_append]
    show L.hy.length + (L.al.length + 1)≤L.T.labels.length
    omega
   ·rintro y (hy | hy)
    ·exact hO.labs y (.inl hy)
    ·have hy':y ∈ (L.al++[q6f L s e]).map (·.label.text):=hy
     rw[List.map_append] at hy'
     rcases List.mem_append.1 hy' with h | h
     ·exact hO.labs y (.inr h)
     ·cases List.mem_singleton.1 h
      exact hl
  ·cases h
   exact hO
theorem qnu {t:Tok}(hO:L.Ok k)(h:q4c L t=.ok L'):L'.Ok k∧(q04 t=true→L'.hy.length + L'.al.length + 1≤L'.T.labels.length∧t.text ∈ L'.T.labels):=by
 unfold q4c at h
 split at h
 ·obtain⟨h1,rfl⟩:=q4f h
  have h2:(Y.zh L.T t.text).1=0:=by omega
  refine⟨qnr t.text hO,fun _=>?_⟩
  have e:=(q8q h2).2
  have h3:=hO.hyl
  constructor
  ·show L.hy.length + L.al.length + 1≤(Y.zh L.T t.text).2.labels.length
   rw[e]
   show _≤(L.T.labels++[t.text]).length
   rw[List.length_append]
   show _≤L.T.labels.length + 1
   omega
  ·show t.text ∈ (Y.zh L.T t.text).2.labels
   rw[e]
   exact List.mem_append_right _ (List.mem_singleton.2 rfl)
 ·rename_i hn
  cases h
  exact⟨hO,fun he=>absurd he hn⟩
theorem qlh (hO:L.Ok k)(hs:q0y s)(hz:s.label.text.size≤65536)(hw:s.words.length≤16384)(h:ql L s=.ok L'):L'.Ok (k + 60000):=by
 unfold ql at h
 cases hl:q4c L s.label with
 | error f=>rw[hl] at h;cases h
 | ok L1 =>
  rw[hl] at h
  dsimp only at h
  obtain⟨hO1,hr⟩:=qnu hO hl
  unfold xq at h
  split at h
  ·exact (qlf hO1 h).up (by omega)
  ·split at h
   ·exact (qhj hO1 h).up (by omega)
   ·split at h
    ·unfold q2y at h
     split at h
     ·cases h
     ·exact (q8e (fun T s k hT=>⟨Y.qf5 s hT,qle T s⟩) s.words L1 L' k hO1 h).up (by omega)
    ·split at h
     ·exact (q8e (fun T s k hT=>⟨Y.qnj s hT,lab_var T s⟩) s.words L1 L' k hO1 h).up (by omega)
     ·split at h
      ·exact (qlg hO1 h).up (by omega)
      ·split at h
       ·rename_i h3
        obtain⟨r1,r2⟩:=hr (hs.lab (.inl h3))
        exact (qhk hO1 r1 r2 hz (hs.two h3) h).up (by omega)
       ·split at h
        ·rename_i h4
         obtain⟨r1,r2⟩:=hr (hs.lab (.inr (.inl h4)))
         exact (qnt hO1 r1 r2 hz h).up (by omega)
        ·split at h
         ·rename_i h6
          obtain⟨r1,r2⟩:=hr (hs.lab (by rcases h6 with h6 | h6 <;> simp[h6]))
          exact (qfc hO1 r1 r2 h).up (by omega)
         ·cases h
          exact hO1.up (by omega)
end
end B
namespace B
open Go.RowKit
open S (Tok Stm)
def qiw (w:World)(txt:ByteArray)(lb:Nat)(w':World):Prop:=(∃m,zq w.heap.size w' lb txt 0 ld0 (Y.numOf ld0.T.syms) m)∧w.heap.size≤lb∧Below w.heap.size w w'
theorem qnv {w w1 w2 w3 w4:World} {txt:ByteArray} {bs:List Nat} {tq P b:Nat} {vS:Value} (hT:Y.TabAt w1 bs tq 0 Y.qgf) (hge:∀b ∈ bs,w.heap.size≤b) (h1:Below w.heap.size w w1) (h2:Below w1.heap.size w1 w2)
  (h3:(((w2.alloc (.map #[] 0)).alloc (.map #[] 0)).alloc (.map #[] 0)).alloc (.cells #[.string txt,.pointer (some ⟨tq,0,none⟩),.map (some w2.heap.size),.slice none 0 0,.map (some (w2.heap.size + 1)),.slice none 0 0,.map (some (w2.heap.size + 2))] 121)=w3)
  (hS:F.qw tq (fun g=>w3.heap.size≤g∧g < w4.heap.size) w4 P vS [F.newC b]) (h4:Below w3.heap.size w3 w4) :
  qiw w txt w4.heap.size (w4.alloc (.cells #[.pointer (some ⟨w2.heap.size + 3,0,none⟩),.pointer (some ⟨tq,0,none⟩),.pointer (some ⟨P,0,none⟩)] 106)):=by
 have bA:Below w2.heap.size w2 (w2.alloc (.map #[] 0)):=S.qg _ _
 have mA:=Y.jd.made w2
 have sA:(w2.alloc (.map #[] 0)).heap.size=w2.heap.size + 1:=by simp
 generalize w2.alloc (.map #[] 0)=wA at *
 have bB:Below wA.heap.size wA (wA.alloc (.map #[] 0)):=S.qg _ _
 have mB:=Y.jd.made wA
 have sB:(wA.alloc (.map #[] 0)).heap.size=wA.heap.size + 1:=by simp
 generalize wA.alloc (.map #[] 0)=wB at *
 have bC:Below wB.heap.size wB (wB.alloc (.map #[] 0)):=S.qg _ _
 have mC:=Y.jd.made wB
 have sC:(wB.alloc (.map #[] 0)).heap.size=wB.heap.size + 1:=by simp
 generalize wB.alloc (.map #[] 0)=wC at *
 have bD:Below wC.heap.size wC w3:=by rw[←h3];exact S.qg _ _
 have xD:w3.heap[wC.heap.size]?=some (.cells #[.string txt,.pointer (some ⟨tq,0,none⟩),.map (some w2.heap.size),.slice none 0 0,.map (some (w2.heap.size + 1)),.slice none 0 0,.map (some (w2.heap.size + 2))] 121 (0,0)):=by rw[←h3];exact World.alloc_heap_new _ _
 have sD:w3.heap.size=wC.heap.size + 1:=by rw[←h3];simp
 have bE:Below w4.heap.size w4 (w4.alloc (.cells #[.pointer (some ⟨w2.heap.size + 3,0,none⟩),.pointer (some ⟨tq,0,none⟩),.pointer (some ⟨P,0,none⟩)] 106)):=S.qg _ _
 have xE:(w4.alloc (.cells #[.pointer (some ⟨w2.heap.size + 3,0,none⟩),.pointer (some ⟨tq,0,none⟩),.pointer (some ⟨P,0,none⟩)] 106)).heap[w4.heap.size]?=some (.cells #[.pointer (some ⟨w2.heap.size + 3,0,none⟩),.pointer (some ⟨tq,0,none⟩),.pointer (some ⟨P,0,none⟩)] 106 (0,0)):=World.alloc_heap_new _ _
 have sE:(w4.alloc (.cells #[.pointer (some ⟨w2.heap.size + 3,0,none⟩),.pointer (some ⟨tq,0,none⟩),.pointer (some ⟨P,0,none⟩)] 106)).heap.size=w4.heap.size + 1:=by simp
 generalize w4.alloc (.cells #[.pointer (some ⟨w2.heap.size + 3,0,none⟩),.pointer (some ⟨tq,0,none⟩),.pointer (some ⟨P,0,none⟩)] 106)=w5 at *
 clear h3
 have z1:=h1.size
 have z2:=h2.size
 have z4:=h4.size
 have e4:∀b,b < w3.heap.size→w5.heap[b]?=w3.heap[b]?:=fun b hb=>(bE.block b (by omega)).trans (h4.block b hb)
 have e3:∀b,b < wC.heap.size→w5.heap[b]?=wC.heap[b]?:=fun b hb=>(e4 b (by omega)).trans (bD.block b hb)
 have e2:∀b,b < wB.heap.size→w5.heap[b]?=wB.heap[b]?:=fun b hb=>(e3 b (by omega)).trans (bC.block b hb)
 have e1:∀b,b < wA.heap.size→w5.heap[b]?=wA.heap[b]?:=fun b hb=>(e2 b (by omega)).trans (bB.block b hb)
 have e0:∀b,b < w2.heap.size→w5.heap[b]?=w2.heap[b]?:=fun b hb=>(e1 b (by omega)).trans (bA.block b hb)
 have hlow:=hT.low
 have eC:wC.heap.size=w2.heap.size + 3:=by omega
 have q3:∀x,LdM.q ⟨w2.heap.size + 3,tq,P,w2.heap.size,w2.heap.size + 1,w2.heap.size + 2,bs,fun g=>w3.heap.size≤g∧g < w4.heap.size,vS,.slice none 0 0,.slice none 0 0,[F.newC b],[],[]⟩ x→w2.heap.size≤x∧x < w3.heap.size:=fun x hx=>by
  rcases hx with rfl | rfl | rfl | rfl | hx | hx
  ·show w2.heap.size≤w2.heap.size + 3∧w2.heap.size + 3 < _
   omega
  ·show w2.heap.size≤w2.heap.size∧w2.heap.size < _
   omega
  ·show w2.heap.size≤w2.heap.size + 1∧w2.heap.size + 1 < _
   omega
  ·show w2.heap.size≤w2.heap.size + 2∧w2.heap.size + 2 < _
   omega
  ·cases hx
  ·cases hx
 have hb5:Below w.heap.size w w5:=by
  refine h1.trans (Below.mono (h2.trans (Below.mono (bA.trans (Below.mono (bB.trans (Below.mono (bC.trans (Below.mono (bD.trans (Below.mono (h4.trans (bE.mono z4)) ?_)) ?_)) ?_)) ?_)) z2)) z1) <;> omega
 refine⟨⟨⟨w2.heap.size + 3,tq,P,w2.heap.size,w2.heap.size + 1,w2.heap.size + 2,bs,fun g=>w3.heap.size≤g∧g < w4.heap.size,vS,.slice none 0 0,.slice none 0 0,[F.newC b],[],[]⟩,?_⟩,by omega,hb5⟩
 refine⟨⟨xE,?_,(fun y hy=>by cases hy),fun x hx=>by cases hx⟩,?_,?_,?_,rfl,⟨0,Nat.le_refl _,?_⟩,World.ownsRow_nil _ _ _ _,rfl,⟨0,Nat.le_refl _,?_⟩,World.ownsRow_nil _ _ _ _,rfl,⟨0,Nat.le_refl _,?_⟩,?_,?_,?_,?_,by omega⟩
 ·rintro (hh | hh | hh)
  ·have:=hlow _ hh;omega
  ·have:=hh.2;omega
  ·have:=(q3 _ hh).2;omega
 ·rw[eC] at xD
  exact (e4 (w2.heap.size + 3) (by omega)).trans xD
 ·exact hT.kept fun b hb=>by
   have:=hlow b hb
   exact (e0 b (by omega)).trans (h2.block b this)
 ·exact (hS.below bE)
 ·exact mA.kept (e1 _ (by omega))
 ·rw[sA] at mB
  exact mB.kept (e2 _ (by omega))
 ·rw[sB,sA] at mC
  exact mC.kept (e3 _ (by omega))
 ·intro x hx hO
  have:=hlow x hx
  have:=hO.1
  omega
 ·intro x hx
  obtain⟨h5,h6⟩:=q3 x hx
  exact⟨fun hh=>by have:=hlow x hh;omega,fun hh=>by have:=hh.1;omega⟩
 ·refine⟨?_,?_,?_⟩
  ·show w2.heap.size≠w2.heap.size + 1
   omega
  ·show w2.heap.size≠w2.heap.size + 2
   omega
  ·show w2.heap.size + 1≠w2.heap.size + 2
   omega
 ·rintro x (hh | hh | hh)
  ·exact hge x hh
  ·have:=hh.1;omega
  ·have:=(q3 x hh).1;omega
theorem qbb (w:World)(txt:ByteArray)(ht:txt.size≤281474976710656):Calls Tryz.prog 55 #[.string txt] w fun e w'=>∃lb,e=.returned (.pointer (some ⟨lb,0,none⟩))∧qiw w txt lb w':=by
 have hmm:=@run_makeMap Tryz.prog
 have NT:Hid _:=Y.new_any w
 have SC:Hid (∀wx,Calls Tryz.prog 100 #[.string txt] wx fun e w'=>e=.returned (.string txt)∧Below wx.heap.size wx w'):=fun wx=>F.q9r txt wx ht
 have FN:Hid (∀tq wx,Calls Tryz.prog 101 #[.func (.func 70) #[.pointer (some ⟨tq,0,none⟩)] #[]] wx fun e w'=>∃P vS b,e=.returned (.pointer (some ⟨P,0,none⟩))∧F.qw tq (fun g=>wx.heap.size≤g∧g < w'.heap.size) w' P vS [F.newC b]∧Below wx.heap.size wx w'):=fun tq wx=>F.new_any (tq:=tq) wx
 go_enter Tryz.func55,Tryz.ntmps55
 go_wp2_with fail
 refine Calls.mono NT.out ?_
 rintro e w1 ⟨rfl,⟨bs,hT,hge⟩,hb1⟩
 have HT:Hid (Y.TabAt w1 bs (w.heap.size + 3) 0 Y.qgf∧(∀b ∈ bs,w.heap.size≤b)∧Below w.heap.size w w1):=⟨hT,hge,hb1⟩
 clear hT hge hb1 NT
 obtain⟨tq,htq⟩:∃tq,w.heap.size + 3=tq:=⟨_,rfl⟩
 rw[htq] at HT ⊢
 go_wp2_with fail
 refine Calls.mono (SC.out w1) ?_
 rintro e w2 ⟨rfl,hb2⟩
 have H2:Hid (Below w1.heap.size w1 w2):=hb2
 clear hb2
 go_wp2_with fail
 obtain⟨w3,hw3⟩:∃w3,(((w2.alloc (.map #[] 0)).alloc (.map #[] 0)).alloc (.map #[] 0)).alloc (.cells #[.string txt,.pointer (some ⟨tq,0,none⟩),.map (some w2.heap.size),.slice none 0 0,.map (some (w2.heap.size + 1)),.slice none 0 0,.map (some (w2.heap.size + 1 + 1))] 121)=w3:=⟨_,rfl⟩
 have HW:Hid _:=hw3
 rw[hw3]
 clear hw3
 refine Calls.mono (FN.out tq w3) ?_
 rintro e w4 ⟨P,vS,b,rfl,hS,hb4⟩
 have FI:Hid (qiw w txt w4.heap.size (w4.alloc (.cells #[.pointer (some ⟨w2.heap.size + 3,0,none⟩),.pointer (some ⟨tq,0,none⟩),.pointer (some ⟨P,0,none⟩)] 106))):=qnv HT.out.1 HT.out.2.1 HT.out.2.2 H2.out HW.out hS hb4
 clear hS hb4 HW H2 HT FN SC
 go_wp2
 go_ret
 exact⟨_,rfl,FI.out⟩
end B
namespace B
open Go.RowKit
theorem qfd (w:World):Calls Tryz.prog 53 #[.nilIface] w fun e w'=>e=.returned (.pointer none)∧w'=w:=by
 go_enter Tryz.func53,Tryz.ntmps53
 go_wp2
 go_ret
 exact⟨rfl,rfl⟩
theorem qda (w:World)(b:Nat):Calls Tryz.prog 53 #[.iface 23 (.pointer (some ⟨b,0,none⟩))] w fun e w'=>e=.returned (.pointer (some ⟨b,0,none⟩))∧w'=w:=by
 have hta:∀(v:Value) (w:World),Sem.run Tryz.prog (Instr.typeAssert (.iface 23 v) 20 23 true) w=.ok (.tuple #[v,.bool true]) w:=fun _ _=>by kernel_rfl
 go_enter Tryz.func53,Tryz.ntmps53
 go_wp2
 go_ret
 exact⟨rfl,rfl⟩
end B
namespace B
open Go.RowKit
theorem catch_idle (p q:Addr)(w:World) :
  CallsD Tryz.prog 52 #[.pointer (some p),.pointer (some q)] .returning w fun e u' w'=>e=.returned (.tuple #[])∧u'=.returning∧w'=w:=by
 refine callsD_of_wpS Tryz.func52 rfl fun c₀ cs hu=>?_
 apply wpS_seq
 apply wpS_region
 simp[wpOpsS,go_sem,recoverD,hu,Tryz.ntmps52,Exit.thenS]
 refine (qfd w).mono ?_
 rintro e w' ⟨rfl,rfl⟩
 apply wpS_seq
 apply wpS_region
 simp[wpOpsS,go_sem,Exit.thenS]
 refine wpS_cond (t:=false) (by simp[Act.eval,Array.replicate]) ?_
 simp only[Bool.false_eq_true,if_false]
 refine wpS_of_wp (wp_skip ?_)
 cases c₀
 simp_all [bodyPostS,results,Tryz.results52]
theorem qfe (A B b:Nat)(hAB:A≠B)(older:List PanicEntry)(w:World)(x y:Option Addr)(hA:w.cell? ⟨A,0,none⟩=some (.pointer x))(hB:w.cell? ⟨B,0,none⟩=some (.pointer y))(zA:w.frozen? ⟨A,0,none⟩=false)(zB:w.frozen? ⟨B,0,none⟩=false) :
  CallsD Tryz.prog 52 #[.pointer (some ⟨A,0,none⟩),.pointer (some ⟨B,0,none⟩)] (.panicking ({ v:=.iface 23 (.pointer (some ⟨b,0,none⟩)),recovered:=false } :: older)) w fun e u' w' =>
   e=.returned (.tuple #[])∧u'=.panicking ({ v:=.iface 23 (.pointer (some ⟨b,0,none⟩)),recovered:=true } :: older)∧w'=(w.setCell ⟨A,0,none⟩ (.pointer none)).setCell ⟨B,0,none⟩ (.pointer (some ⟨b,0,none⟩)):=by
 have hBA:B≠A:=fun e=>hAB e.symm
 have hB2:(w.setCell ⟨A,0,none⟩ (.pointer none)).cell? ⟨B,0,none⟩=some (.pointer y):=by simp[go_sem,hB]
 refine callsD_of_wpS Tryz.func52 rfl fun c₀ cs hu=>?_
 apply wpS_seq
 apply wpS_region
 simp[wpOpsS,go_sem,recoverD,hu,Tryz.ntmps52,Exit.thenS]
 refine (qda w b).mono ?_
 rintro e w' ⟨rfl,rfl⟩
 apply wpS_seq
 apply wpS_region
 simp[wpOpsS,go_sem,Exit.thenS]
 refine wpS_cond (t:=true) (by simp[Act.eval,Array.replicate]) ?_
 simp only[if_true]
 apply wpS_region
 simp[wpOpsS,go_sem,hA,zA,hB2,zB,bodyPostS,results,Tryz.results52]
end B
namespace B
open Go.RowKit
section
variable {N:Nat} {W W':World} {lb:Nat} {txt:ByteArray} {k:Nat} {L:Ld} {nf:ByteArray→Option Nat} {m:LdM}
theorem q93.low {x:AsC}(h:q93 N W x)(hc:S.M.Ch (fun b=>b < N) W W'):q93 N W' x :=
 ⟨S.M.qh h.g hc fun b e=>by have:=S.M.zf h.g b e;omega,S.M.qh h.n hc fun b e=>by have:=S.M.zf h.n b e;omega,S.M.qh h.p hc fun b e=>by have:=S.M.zf h.p b e;omega,S.M.qh h.a hc fun b e=>by have:=S.M.zf h.a b e;omega,S.M.qh h.q hc fun b e=>by have:=S.M.zf h.q b e;omega,S.M.qh h.f hc fun b e=>by have:=S.M.zf h.f b e;omega⟩
theorem zq.low_ch (h:zq N W lb txt k L nf m)(hl:N≤lb)(hc:S.M.Ch (fun b=>b < N) W W'):zq N W' lb txt k L nf m:=by
 have old:∀b,b < W.heap.size→N≤b→W'.heap[b]?=W.heap[b]?:=fun b h1 h2=>hc.block b h1 (by omega)
 have hot:∀b,m.hot b→¬b < N:=fun b hb=>by have:=h.low b hb;omega
 refine⟨⟨(old lb (Array.getElem?_eq_some_iff.1 h.cold.lbox).1 hl).trans h.cold.lbox,h.cold.lh,fun y hy=>?_,fun x hx=>?_⟩,?_,qab h.tab hc fun b hb=>hot b (.inl hb),qaa h.stk hc fun b hb=>hot b (.inr (.inl hb)),h.sca,q1f h.num hc (hot _ (.inr (.inr (.inr (.inl rfl))))),S.M.qh h.hyr hc fun b e=>hot b (.inr (.inr (.inr (.inr (.inr (.inr (.inl e))))))),h.hya,q1f h.hym hc (hot _ (.inr (.inr (.inr (.inr (.inl rfl)))))),S.M.qh h.asr hc fun b e=>hot b (.inr (.inr (.inr (.inr (.inr (.inr (.inr e))))))),h.asa,q1f h.asm hc (hot _ (.inr (.inr (.inr (.inr (.inr (.inl rfl))))))),h.ta,h.qa,h.ne,h.low,Nat.le_trans h.ge hc.size⟩
 ·obtain⟨h1,h2⟩:=h.cold.e y hy
  exact⟨S.M.qh h1 hc fun b e=>by have:=S.M.zf h1 b e;omega,h2⟩
 ·obtain⟨h1,h2⟩:=h.cold.a x hx
  exact⟨h1.low hc,h2⟩
 ·exact (old _ (h.lt _ (.inr (.inr (.inl rfl)))) (h.low _ (.inr (.inr (.inl rfl))))).trans h.bbox
end
end B
namespace B
open Go.RowKit
open S (Tok Stm)
structure SOk (s:Stm):Prop where
 lab:s.kind=3∨s.kind=4∨s.kind=6∨s.kind=7→q04 s.label=true
 two:s.kind=3→s.words.length≤2∧(q04 s.fin=true→s.words.length=2)
 ls:s.label.text.size≤65536
 ws:∀t ∈ s.words,t.text.size≤65536
structure POk (P:S.PS):Prop where
 wt:P.wt.text.size≤65536
 all:∀s ∈ P.l,SOk s
 opn:P.opn=true→∀s,P.l.getLast?=some s→s.fin=S.q1v
theorem q9a (t:Tok):S.wtB t=q04 t:=by
 unfold S.wtB q04
 rw[ByteArray.toList_eq]
theorem qix:S.q1v.text.size≤65536:=by decide
theorem endB_z:q04 S.q1v=false:=rfl
theorem qiy {s:Stm}{t:Tok}(h:SOk s)(hz:s.fin=S.q1v)(ht:t.text.size≤65536):SOk (S.q6e s t).2∧(S.q6e s t).2.fin=S.q1v:=by
 unfold S.q6e
 split
 ·exact⟨⟨h.lab,h.two,h.ls,h.ws⟩,hz⟩
 ·split
  ·exact⟨h,hz⟩
  ·rename_i h1 h2
   refine⟨⟨h.lab,fun h3=>?_,h.ls,fun u hu=>?_⟩,hz⟩
   ·have h3':s.kind=3:=h3
    have hw:=(h.two h3').1
    have h2':¬(s.words.length:Int)=2:=by rw[h3'] at h2;exact h2
    refine⟨by simp;omega,fun he=>?_⟩
    have he':q04 s.fin=true:=he
    rw[hz,endB_z] at he'
    cases he'
   ·rcases List.mem_append.1 hu with hu | hu
    ·exact h.ws u hu
    ·rw[List.mem_singleton.1 hu]
     exact ht
theorem qiz {s:Stm}(h:SOk s)(hz:s.fin=S.q1v):SOk (S.q5i s).2∧(S.q5i s).2.fin=S.q1v:=by
 unfold S.q5i
 split
 ·split
  ·exact⟨h,hz⟩
  ·split
   ·exact⟨h,hz⟩
   ·exact⟨⟨h.lab,h.two,h.ls,h.ws⟩,hz⟩
 ·exact⟨h,hz⟩
theorem qj0 {s:Stm}{t:Tok}(h:SOk s)(hz:s.fin=S.q1v):SOk (S.q31 s t).2∧((S.q31 s t).1≠0→(S.q31 s t).2.fin=S.q1v):=by
 unfold S.q31
 split
 ·exact⟨h,fun _=>hz⟩
 ·split
  ·exact⟨h,fun _=>hz⟩
  ·rename_i h1 h2
   refine⟨⟨h.lab,fun h3=>?_,h.ls,h.ws⟩,fun e=>absurd rfl e⟩
   have h3':s.kind=3:=h3
   have hw:=(h.two h3').1
   have h2':¬(s.words.length:Int) < 2:=by rw[h3'] at h2;exact h2
   exact⟨hw,fun _=>by show s.words.length=2;omega⟩
theorem qhl {s:Stm}{t:Tok}(h:SOk s)(hz:s.fin=S.q1v)(ht:t.text.size≤65536):SOk (S.yj s t).2.1∧((S.yj s t).2.2=false→(S.yj s t).2.1.fin=S.q1v):=by
 unfold S.yj
 split
 ·exact⟨(qiy h hz ht).1,fun _=>(qiy h hz ht).2⟩
 ·split
  ·exact⟨(qiz h hz).1,fun _=>(qiz h hz).2⟩
  ·split
   ·exact⟨(qj0 h hz).1,fun e=>(qj0 h hz).2 (of_decide_eq_false e)⟩
   ·exact⟨h,fun _=>hz⟩
theorem newS_ok {k:Int}{lb ky:Tok}(hl:k=3∨k=4∨k=6∨k=7→q04 lb=true)(hz:lb.text.size≤65536):SOk (S.newS k lb ky)∧(S.brk k=false→(S.newS k lb ky).fin=S.q1v):=by
 unfold S.newS
 by_cases hb:S.brk k=true
 ·rw[if_pos hb]
  refine⟨⟨fun h=>?_,fun h=>?_,qix,fun u hu=>by cases hu⟩,fun e=>by rw[hb] at e;cases e⟩
  ·have h':k=3∨k=4∨k=6∨k=7:=h
   exfalso
   rcases h' with rfl | rfl | rfl | rfl <;> cases hb
  ·have h':k=3:=h
   subst h'
   cases hb
 ·rw[if_neg hb]
  refine⟨⟨hl,fun _=>⟨Nat.zero_le _,fun e=>by cases e⟩,hz,fun u hu=>by cases hu⟩,fun _=>rfl⟩
theorem qai {P:S.PS}{t:Tok}(h:POk P)(ht:t.text.size≤65536):POk (S.ql P t).2:=by
 unfold S.ql
 split
 ·rename_i ho
  cases hl:P.l.getLast? with
  | none=>exact h
  | some s =>
   have hm:s ∈ P.l:=List.mem_of_getLast? hl
   have hw:=qhl (h.all s hm) (h.opn ho s hl) ht
   refine⟨h.wt,fun u hu=>?_,fun e u hu=>?_⟩
   ·rcases List.mem_append.1 hu with hu | hu
    ·exact h.all u (List.dropLast_subset _ hu)
    ·rw[List.mem_singleton.1 hu]
     exact hw.1
   ·have e':(S.yj s t).2.2=false:=by simpa using e
    have hu':(P.l.dropLast++[(S.yj s t).2.1]).getLast?=some u:=hu
    rw[List.getLast?_concat] at hu'
    cases hu'
    exact hw.2 e'
 ·rename_i ho
  unfold S.q0s
  split
  ·split
   ·exact h
   ·exact⟨ht,h.all,h.opn⟩
  ·split
   ·exact h
   ·split
    ·exact h
    ·rename_i h1 h2 h3
     have h3':S.qj5 (S.q0r t.text)=S.wtB P.wt:=Decidable.of_not_not h3
     have hn:=newS_ok (k:=(S.q0r t.text:Int)) (lb:=P.wt) (ky:=t) (fun hk=>by
      rw[←q9a,←h3']
      have hk':S.q0r t.text=3∨S.q0r t.text=4∨S.q0r t.text=6∨S.q0r t.text=7:=by omega
      rcases hk' with e | e | e | e <;> rw[e] <;> rfl) h.wt
     refine⟨qix,fun u hu=>?_,fun e u hu=>?_⟩
     ·rcases List.mem_append.1 hu with hu | hu
      ·exact h.all u hu
      ·rw[List.mem_singleton.1 hu]
       exact hn.1
     ·have hu':(P.l++[S.newS (S.q0r t.text) P.wt t]).getLast?=some u:=hu
      rw[List.getLast?_concat] at hu'
      cases hu'
      exact hn.2 (by simpa using e)
theorem qdb:∀(ts:List Tok) (P:S.PS) (j:Nat),POk P→S.q5p P j→(∀t ∈ ts,t.text.size≤65536)→POk (S.runT P ts).1∧S.q5p (S.runT P ts).1 (j + ts.length)
 | [],P,j,h,hs,_=>⟨h,hs⟩
 | t :: ts,P,j,h,hs,ht=>by
  have h1:=qai h (ht t (List.mem_cons_self ..))
  have h2:=S.q5q (t:=t) hs
  unfold S.runT
  split
  ·have:=qdb ts _ (j + 1) h1 h2 fun u hu=>ht u (List.mem_cons_of_mem _ hu)
   have e:j + 1 + ts.length=j + (t :: ts).length:=by rw[List.length_cons];omega
   rw[e] at this
   exact this
  ·refine⟨h1,Nat.le_trans h2.1 (by rw[List.length_cons];omega),fun s hs=>?_⟩
   have h3:=h2.2 s hs
   exact⟨Nat.le_trans h3.1 (by rw[List.length_cons];omega),Nat.le_trans h3.2 (by rw[List.length_cons];omega)⟩
theorem qdc (txt:ByteArray):(S.q0u txt).1=(S.runT S.ps0 (S.vk txt)).1:=by
 unfold S.q0u
 split
 ·rename_i h;rw[h]
 ·rename_i h
  split
  ·rw[h]
  ·split <;> rw[h]
theorem qj1 (txt:ByteArray):(S.q0u txt).1.l.length≤16384∧∀s ∈ (S.q0u txt).1.l,SOk s∧s.words.length≤16384∧s.proof.length≤16384:=by
 have h0:POk S.ps0:=⟨by decide,(fun s hs=>by cases hs),(fun e=>by cases e)⟩
 have h1:S.q5p S.ps0 0:=⟨Nat.le_refl _,fun s hs=>by cases hs⟩
 obtain⟨h2,h3⟩:=qdb (S.vk txt) S.ps0 0 h0 h1 (S.q47 txt)
 have hw:=S.q7w txt
 rw[qdc]
 refine⟨Nat.le_trans h3.1 (by omega),fun s hs=>⟨h2.all s hs,?_,?_⟩⟩
 ·exact Nat.le_trans (h3.2 s hs).1 (by omega)
 ·exact Nat.le_trans (h3.2 s hs).2 (by omega)
def q19 (txt:ByteArray):Res Ld:=match xw ld0 (S.q0u txt).1.l with
 | .error f=>.error f
 | .ok L=>match (S.q0u txt).2 with
  | some f=>.error f
  | none=>if 1 < L.sc.length then .error (S.q2u txt,23) else .ok L
end B
end Go.Proofs.YtbancemhfjjmlaaGreatDoor
