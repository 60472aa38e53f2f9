/- Laid together. -/
import Derived.Test.YtbancemhfjjmlaaGreatDoorQB15
import Derived.Recover
set_option maxRecDepth 100000
set_option maxHeartbeats 32000000
namespace Go.Proofs.YtbancemhfjjmlaaGreatDoor
namespace B
open Go.RowKit
open S (Tok Stm)
section
variable {N:Nat} {w u:World} {lb:Nat} {txt:ByteArray} {k:Nat} {L L1:Ld} {m m1:LdM} {s:Stm} {vw vp:Value}
theorem qo0 (h:xg N w lb txt k L (Y.numOf L.T.syms) m)(hO:L.Ok k)(hk:k < 1000000000)(hKB:Y.KB w)(hN:1 < N)(hs:q1a N m w s vw vp)(hok:q1e s)(he:q0m s.label=true)(hJ:(Y.zh L.T s.label.text).1=0)(hkd:s.kind=1):Calls Tryz.prog 56 #[.pointer (some ⟨lb,0,none⟩),q0o s vw vp] w (Does N w lb txt m (k + 60000) (qm L s)):=by
 obtain⟨aw,cw,rfl,hW⟩:=hs.words;obtain⟨ap,cp,rfl,_⟩:=S.wo hs.op;generalize hnw:s.words.length=nw at *;generalize hnp:s.proof.length=np at *;obtain⟨w1,hw1,b0,bn,hsz,PW,LC,CK,FS,PT⟩:=q1o h hO hk hKB hN hs;have HOK:Hid (q1e s):=hok;have HN1:Hid (1 < N):=hN;clear hs hW hO hKB b0 bn hok hN hsz h hnw hnp;have hl:(!s.label.text.toList.isEmpty)=true:=by rw[ByteArray.toList_eq];exact he
 have z1:w1.cell? ⟨w.heap.size,1,none⟩=some (.string s.label.text):=S.M.qc PW.out.bx 1;have HJ:Hid (((Y.zh L.T s.label.text).1:Int)=0):=by show _=_;rw[hJ];rfl
 obtain⟨L1,hL1⟩:∃L1:Ld,L1={ L with T:=(Y.zh L.T s.label.text).2 }:=⟨_,rfl⟩;have R1:Hid (qm L s=zy L1 s):=by rw[hL1];unfold qm q3y yj;show _=_;rw[if_pos he,if_pos HJ.out]
 have FR:Hid (q1p L1.hy s.label.text=none∧q3a L1.al s.label.text=none):=by rw[hL1];exact FS.out hJ
 have SB:Hid (∀w',S.M.Ch m.hot w1.drew w'→w'.cell? ⟨lb,1,none⟩=some (.pointer (some ⟨m.tq,0,none⟩))∧w'.cell? ⟨w.heap.size,1,none⟩=some (.string s.label.text)∧w'.cell? ⟨w.heap.size,2,none⟩=some (.int .i64 s.label.off)∧w'.cell? ⟨w.heap.size,3,none⟩=some (.int .i64 s.label.line)∧w'.cell? ⟨w.heap.size,4,none⟩=some (.int .i64 s.label.col)):=fun w' hc=>by obtain⟨h1,h2,_⟩:=(PW.out.below (S.M.zi bRf 1)).held hc;exact⟨h2,S.M.qc h1 1,S.M.qc h1 2,S.M.qc h1 3,S.M.qc h1 4⟩
 have CD:Hid (S.M.Ch m.hot w1.drew w1.drew):=S.M.Ch.oB bRf;clear he FS hJ;unfold S.zo at CK;unfold q0o;go_enter Tryz.func56,Tryz.ntmps56;go_upto_region 1 with fail;rw[←hw1];clear hw1;go_upto_region 2 with fail;clear hl z1
 go_region_held3 (fun w'=>w'.cell? ⟨lb,1,none⟩=some (.pointer (some ⟨m.tq,0,none⟩))∧w'.cell? ⟨w.heap.size,1,none⟩=some (.string s.label.text)∧w'.cell? ⟨w.heap.size,2,none⟩=some (.int .i64 s.label.off)∧w'.cell? ⟨w.heap.size,3,none⟩=some (.int .i64 s.label.line)∧w'.cell? ⟨w.heap.size,4,none⟩=some (.int .i64 s.label.col)) (refine⟨?_,?_,?_,?_,?_⟩ <;> first | assumption | exact (SB.out _ (by assumption)).1 | exact (SB.out _ (by assumption)).2.1 | exact (SB.out _ (by assumption)).2.2.1 | exact (SB.out _ (by assumption)).2.2.2.1 | exact (SB.out _ (by assumption)).2.2.2.2)
  (first
  | (go_simp;go_at_call 103;refine cMo LC.out ?_;rintro ee w4 ⟨rfl,hg⟩;have GG:Hid (Goes N w1.drew lb txt m (k + 2) { L with T:=(Y.zh L.T s.label.text).2 } (Y.numOf L.T.syms) w4):=hg;have CC:Hid (S.M.Ch m.hot w1.drew w4):=hg.1;clear hg)
  | (go_simp;go_at_call 102;refine cMo (CK.out _) ?_;rintro ee u ⟨hb5,he5⟩;rw[if_pos HJ.out] at he5;subst he5;have G5:Hid (Goes N w1.drew lb txt m (k + 2) { L with T:=(Y.zh L.T s.label.text).2 } (Y.numOf L.T.syms) u):=GG.out.jd hb5;have CC2:Hid (S.M.Ch m.hot w1.drew u):=G5.out.1;clear hb5))
 obtain⟨m1,hp⟩:=PT.out _ G5.out;rw[←hL1] at hp;have PA:=hid hp;clear hp PT G5 CC2 GG CC CK LC SB CD HJ PW hL1;go_upto_region 3 with fail;have z:∀i,u.cell? ⟨w.heap.size,i,none⟩=(yc s (.slice aw nw cw) (.slice ap np cp))[i]?:=S.M.qc PA.out.bx;have R2:Hid (qm L s=q38 L1 s):=R1.out.trans (by unfold zy;rw[hkd];rfl);have z0:u.cell? ⟨w.heap.size,0,none⟩=some (.int .i64 1):=(z 0).trans (by show some (Value.int .i64 s.kind)=_;rw[hkd]);have z1:u.cell? ⟨w.heap.size,1,none⟩=some (.string s.label.text):=z 1;have z2:u.cell? ⟨w.heap.size,2,none⟩=some (.int .i64 s.label.off):=z 2;have z3:u.cell? ⟨w.heap.size,3,none⟩=some (.int .i64 s.label.line):=z 3;have z4:u.cell? ⟨w.heap.size,4,none⟩=some (.int .i64 s.label.col):=z 4;have z5:u.cell? ⟨w.heap.size,5,none⟩=some (.string s.key.text):=z 5;have z6:u.cell? ⟨w.heap.size,6,none⟩=some (.int .i64 s.key.off):=z 6;have z7:u.cell? ⟨w.heap.size,7,none⟩=some (.int .i64 s.key.line):=z 7;have z8:u.cell? ⟨w.heap.size,8,none⟩=some (.int .i64 s.key.col):=z 8;have z9:u.cell? ⟨w.heap.size,9,none⟩=some (.bool s.proving):=z 9;have z10:u.cell? ⟨w.heap.size,10,none⟩=some (.slice aw nw cw):=z 10;have z11:u.cell? ⟨w.heap.size,11,none⟩=some (.slice ap np cp):=z 11;have z12:u.cell? ⟨w.heap.size,12,none⟩=some (.string s.fin.text):=z 12;have z13:u.cell? ⟨w.heap.size,13,none⟩=some (.int .i64 s.fin.off):=z 13;have z14:u.cell? ⟨w.heap.size,14,none⟩=some (.int .i64 s.fin.line):=z 14;have z15:u.cell? ⟨w.heap.size,15,none⟩=some (.int .i64 s.fin.col):=z 15;have DK:Hid _:=PA.out.k1 hk HN1.out;rw[←R2.out] at DK;unfold q0o yc S.q4w at DK;rw[hkd] at DK;clear z FR hkd;go_wp2_with fail;refine cMo DK.out ?_;rintro ee w6 hd;have HD:Hid _:=hd
 cases hT:qm L s with
 | error f=>rw[hT] at hd;obtain⟨d1,b,rfl,d3⟩:=hd;exact⟨rfl,hT ▸ HD.out⟩
 | ok L9=>rw[hT] at hd;obtain⟨rfl,d1⟩:=hd;have HG:=hid d1;clear d1 HD;go_wp2;exact bodyPost_end (results_none rfl _ _ _) rfl (gq (by first | rfl | exact hT) rfl HG.out)
theorem qo1 (h:xg N w lb txt k L (Y.numOf L.T.syms) m)(hO:L.Ok k)(hk:k < 1000000000)(hKB:Y.KB w)(hN:1 < N)(hs:q1a N m w s vw vp)(hok:q1e s)(he:q0m s.label=true)(hJ:(Y.zh L.T s.label.text).1=0)(hkd:s.kind=2):Calls Tryz.prog 56 #[.pointer (some ⟨lb,0,none⟩),q0o s vw vp] w (Does N w lb txt m (k + 60000) (qm L s)):=by
 obtain⟨aw,cw,rfl,hW⟩:=hs.words;obtain⟨ap,cp,rfl,_⟩:=S.wo hs.op;generalize hnw:s.words.length=nw at *;generalize hnp:s.proof.length=np at *;obtain⟨w1,hw1,b0,bn,hsz,PW,LC,CK,FS,PT⟩:=q1o h hO hk hKB hN hs;have HOK:Hid (q1e s):=hok;have HN1:Hid (1 < N):=hN;clear hs hW hO hKB b0 bn hok hN hsz h hnw hnp;have hl:(!s.label.text.toList.isEmpty)=true:=by rw[ByteArray.toList_eq];exact he
 have z1:w1.cell? ⟨w.heap.size,1,none⟩=some (.string s.label.text):=S.M.qc PW.out.bx 1;have HJ:Hid (((Y.zh L.T s.label.text).1:Int)=0):=by show _=_;rw[hJ];rfl
 obtain⟨L1,hL1⟩:∃L1:Ld,L1={ L with T:=(Y.zh L.T s.label.text).2 }:=⟨_,rfl⟩;have R1:Hid (qm L s=zy L1 s):=by rw[hL1];unfold qm q3y yj;show _=_;rw[if_pos he,if_pos HJ.out]
 have FR:Hid (q1p L1.hy s.label.text=none∧q3a L1.al s.label.text=none):=by rw[hL1];exact FS.out hJ
 have SB:Hid (∀w',S.M.Ch m.hot w1.drew w'→w'.cell? ⟨lb,1,none⟩=some (.pointer (some ⟨m.tq,0,none⟩))∧w'.cell? ⟨w.heap.size,1,none⟩=some (.string s.label.text)∧w'.cell? ⟨w.heap.size,2,none⟩=some (.int .i64 s.label.off)∧w'.cell? ⟨w.heap.size,3,none⟩=some (.int .i64 s.label.line)∧w'.cell? ⟨w.heap.size,4,none⟩=some (.int .i64 s.label.col)):=fun w' hc=>by obtain⟨h1,h2,_⟩:=(PW.out.below (S.M.zi bRf 1)).held hc;exact⟨h2,S.M.qc h1 1,S.M.qc h1 2,S.M.qc h1 3,S.M.qc h1 4⟩
 have CD:Hid (S.M.Ch m.hot w1.drew w1.drew):=S.M.Ch.oB bRf;clear he FS hJ;unfold S.zo at CK;unfold q0o;go_enter Tryz.func56,Tryz.ntmps56;go_upto_region 1 with fail;rw[←hw1];clear hw1;go_upto_region 2 with fail;clear hl z1
 go_region_held3 (fun w'=>w'.cell? ⟨lb,1,none⟩=some (.pointer (some ⟨m.tq,0,none⟩))∧w'.cell? ⟨w.heap.size,1,none⟩=some (.string s.label.text)∧w'.cell? ⟨w.heap.size,2,none⟩=some (.int .i64 s.label.off)∧w'.cell? ⟨w.heap.size,3,none⟩=some (.int .i64 s.label.line)∧w'.cell? ⟨w.heap.size,4,none⟩=some (.int .i64 s.label.col)) (refine⟨?_,?_,?_,?_,?_⟩ <;> first | assumption | exact (SB.out _ (by assumption)).1 | exact (SB.out _ (by assumption)).2.1 | exact (SB.out _ (by assumption)).2.2.1 | exact (SB.out _ (by assumption)).2.2.2.1 | exact (SB.out _ (by assumption)).2.2.2.2)
  (first
  | (go_simp;go_at_call 103;refine cMo LC.out ?_;rintro ee w4 ⟨rfl,hg⟩;have GG:Hid (Goes N w1.drew lb txt m (k + 2) { L with T:=(Y.zh L.T s.label.text).2 } (Y.numOf L.T.syms) w4):=hg;have CC:Hid (S.M.Ch m.hot w1.drew w4):=hg.1;clear hg)
  | (go_simp;go_at_call 102;refine cMo (CK.out _) ?_;rintro ee u ⟨hb5,he5⟩;rw[if_pos HJ.out] at he5;subst he5;have G5:Hid (Goes N w1.drew lb txt m (k + 2) { L with T:=(Y.zh L.T s.label.text).2 } (Y.numOf L.T.syms) u):=GG.out.jd hb5;have CC2:Hid (S.M.Ch m.hot w1.drew u):=G5.out.1;clear hb5))
 obtain⟨m1,hp⟩:=PT.out _ G5.out;rw[←hL1] at hp;have PA:=hid hp;clear hp PT G5 CC2 GG CC CK LC SB CD HJ PW hL1;go_upto_region 3 with fail;have z:∀i,u.cell? ⟨w.heap.size,i,none⟩=(yc s (.slice aw nw cw) (.slice ap np cp))[i]?:=S.M.qc PA.out.bx;have R2:Hid (qm L s=q0l Y.q3g L1 s.words):=R1.out.trans (by unfold zy;rw[hkd];rfl);have z0:u.cell? ⟨w.heap.size,0,none⟩=some (.int .i64 2):=(z 0).trans (by show some (Value.int .i64 s.kind)=_;rw[hkd]);have P0:Hid (Past N w lb txt k m L1 m1 s (.slice aw nw cw) (.slice ap np cp) u.drew):=PA.out.below (S.M.zi bRf 1);obtain⟨h1,x1,x2⟩:=P0.out.held (S.M.Ch.oB bRf);have z10:u.drew.cell? ⟨w.heap.size,10,none⟩=some (.slice aw nw cw):=S.M.qc h1 10;have DK:Hid _:=P0.out.k2 hk HN1.out;rw[←R2.out] at DK;clear z FR hkd h1 P0
 cases hT:qm L s with
 | ok L9 =>
  rw[hT] at DK;go_upto_region 13 with fail
  go_region_law (go_simp;go_at_call 109;refine cMo DK.out ?_;rintro ee w6 ⟨rfl,hg⟩;have HG:=hid hg;clear hg)
  all_goals go_wp2
  all_goals exact bodyPost_end (results_none rfl _ _ _) rfl (gq (by first | rfl | exact hT) rfl HG.out)
 | error f =>
  rw[hT] at DK;go_upto_region 13 with fail
  go_region_law (go_simp;go_at_call 109;refine cMo DK.out ?_;rintro ee w6 ⟨hc,b,rfl,q2,q3⟩;refine q14 (h:=⟨rfl,q0y rfl hc ⟨b,rfl,q2,q3⟩⟩) ?_)
  all_goals trivial
theorem qo2 (h:xg N w lb txt k L (Y.numOf L.T.syms) m)(hO:L.Ok k)(hk:k < 1000000000)(hKB:Y.KB w)(hN:1 < N)(hs:q1a N m w s vw vp)(hok:q1e s)(he:q0m s.label=true)(hJ:(Y.zh L.T s.label.text).1=0)(hkd:s.kind=5):Calls Tryz.prog 56 #[.pointer (some ⟨lb,0,none⟩),q0o s vw vp] w (Does N w lb txt m (k + 60000) (qm L s)):=by
 obtain⟨aw,cw,rfl,hW⟩:=hs.words;obtain⟨ap,cp,rfl,_⟩:=S.wo hs.op;generalize hnw:s.words.length=nw at *;generalize hnp:s.proof.length=np at *;obtain⟨w1,hw1,b0,bn,hsz,PW,LC,CK,FS,PT⟩:=q1o h hO hk hKB hN hs;have HOK:Hid (q1e s):=hok;have HN1:Hid (1 < N):=hN;clear hs hW hO hKB b0 bn hok hN hsz h hnw hnp;have hl:(!s.label.text.toList.isEmpty)=true:=by rw[ByteArray.toList_eq];exact he
 have z1:w1.cell? ⟨w.heap.size,1,none⟩=some (.string s.label.text):=S.M.qc PW.out.bx 1;have HJ:Hid (((Y.zh L.T s.label.text).1:Int)=0):=by show _=_;rw[hJ];rfl
 obtain⟨L1,hL1⟩:∃L1:Ld,L1={ L with T:=(Y.zh L.T s.label.text).2 }:=⟨_,rfl⟩;have R1:Hid (qm L s=zy L1 s):=by rw[hL1];unfold qm q3y yj;show _=_;rw[if_pos he,if_pos HJ.out]
 have FR:Hid (q1p L1.hy s.label.text=none∧q3a L1.al s.label.text=none):=by rw[hL1];exact FS.out hJ
 have SB:Hid (∀w',S.M.Ch m.hot w1.drew w'→w'.cell? ⟨lb,1,none⟩=some (.pointer (some ⟨m.tq,0,none⟩))∧w'.cell? ⟨w.heap.size,1,none⟩=some (.string s.label.text)∧w'.cell? ⟨w.heap.size,2,none⟩=some (.int .i64 s.label.off)∧w'.cell? ⟨w.heap.size,3,none⟩=some (.int .i64 s.label.line)∧w'.cell? ⟨w.heap.size,4,none⟩=some (.int .i64 s.label.col)):=fun w' hc=>by obtain⟨h1,h2,_⟩:=(PW.out.below (S.M.zi bRf 1)).held hc;exact⟨h2,S.M.qc h1 1,S.M.qc h1 2,S.M.qc h1 3,S.M.qc h1 4⟩
 have CD:Hid (S.M.Ch m.hot w1.drew w1.drew):=S.M.Ch.oB bRf;clear he FS hJ;unfold S.zo at CK;unfold q0o;go_enter Tryz.func56,Tryz.ntmps56;go_upto_region 1 with fail;rw[←hw1];clear hw1;go_upto_region 2 with fail;clear hl z1
 go_region_held3 (fun w'=>w'.cell? ⟨lb,1,none⟩=some (.pointer (some ⟨m.tq,0,none⟩))∧w'.cell? ⟨w.heap.size,1,none⟩=some (.string s.label.text)∧w'.cell? ⟨w.heap.size,2,none⟩=some (.int .i64 s.label.off)∧w'.cell? ⟨w.heap.size,3,none⟩=some (.int .i64 s.label.line)∧w'.cell? ⟨w.heap.size,4,none⟩=some (.int .i64 s.label.col)) (refine⟨?_,?_,?_,?_,?_⟩ <;> first | assumption | exact (SB.out _ (by assumption)).1 | exact (SB.out _ (by assumption)).2.1 | exact (SB.out _ (by assumption)).2.2.1 | exact (SB.out _ (by assumption)).2.2.2.1 | exact (SB.out _ (by assumption)).2.2.2.2)
  (first
  | (go_simp;go_at_call 103;refine cMo LC.out ?_;rintro ee w4 ⟨rfl,hg⟩;have GG:Hid (Goes N w1.drew lb txt m (k + 2) { L with T:=(Y.zh L.T s.label.text).2 } (Y.numOf L.T.syms) w4):=hg;have CC:Hid (S.M.Ch m.hot w1.drew w4):=hg.1;clear hg)
  | (go_simp;go_at_call 102;refine cMo (CK.out _) ?_;rintro ee u ⟨hb5,he5⟩;rw[if_pos HJ.out] at he5;subst he5;have G5:Hid (Goes N w1.drew lb txt m (k + 2) { L with T:=(Y.zh L.T s.label.text).2 } (Y.numOf L.T.syms) u):=GG.out.jd hb5;have CC2:Hid (S.M.Ch m.hot w1.drew u):=G5.out.1;clear hb5))
 obtain⟨m1,hp⟩:=PT.out _ G5.out;rw[←hL1] at hp;have PA:=hid hp;clear hp PT G5 CC2 GG CC CK LC SB CD HJ PW hL1;go_upto_region 3 with fail;have z:∀i,u.cell? ⟨w.heap.size,i,none⟩=(yc s (.slice aw nw cw) (.slice ap np cp))[i]?:=S.M.qc PA.out.bx;have R2:Hid (qm L s=q2s L1 s):=R1.out.trans (by unfold zy;rw[hkd];rfl);have z0:u.cell? ⟨w.heap.size,0,none⟩=some (.int .i64 5):=(z 0).trans (by show some (Value.int .i64 s.kind)=_;rw[hkd]);have z1:u.cell? ⟨w.heap.size,1,none⟩=some (.string s.label.text):=z 1;have z2:u.cell? ⟨w.heap.size,2,none⟩=some (.int .i64 s.label.off):=z 2;have z3:u.cell? ⟨w.heap.size,3,none⟩=some (.int .i64 s.label.line):=z 3;have z4:u.cell? ⟨w.heap.size,4,none⟩=some (.int .i64 s.label.col):=z 4;have z5:u.cell? ⟨w.heap.size,5,none⟩=some (.string s.key.text):=z 5;have z6:u.cell? ⟨w.heap.size,6,none⟩=some (.int .i64 s.key.off):=z 6;have z7:u.cell? ⟨w.heap.size,7,none⟩=some (.int .i64 s.key.line):=z 7;have z8:u.cell? ⟨w.heap.size,8,none⟩=some (.int .i64 s.key.col):=z 8;have z9:u.cell? ⟨w.heap.size,9,none⟩=some (.bool s.proving):=z 9;have z10:u.cell? ⟨w.heap.size,10,none⟩=some (.slice aw nw cw):=z 10;have z11:u.cell? ⟨w.heap.size,11,none⟩=some (.slice ap np cp):=z 11;have z12:u.cell? ⟨w.heap.size,12,none⟩=some (.string s.fin.text):=z 12;have z13:u.cell? ⟨w.heap.size,13,none⟩=some (.int .i64 s.fin.off):=z 13;have z14:u.cell? ⟨w.heap.size,14,none⟩=some (.int .i64 s.fin.line):=z 14;have z15:u.cell? ⟨w.heap.size,15,none⟩=some (.int .i64 s.fin.col):=z 15;have DK:Hid _:=PA.out.k5;rw[←R2.out] at DK;unfold q0o yc S.q4w at DK;rw[hkd] at DK;clear z FR hkd;go_wp2_with fail;refine cMo DK.out ?_;rintro ee w6 hd;have HD:Hid _:=hd
 cases hT:qm L s with
 | error f=>rw[hT] at hd;obtain⟨d1,b,rfl,d3⟩:=hd;exact⟨rfl,hT ▸ HD.out⟩
 | ok L9=>rw[hT] at hd;obtain⟨rfl,d1⟩:=hd;have HG:=hid d1;clear d1 HD;go_wp2;exact bodyPost_end (results_none rfl _ _ _) rfl (gq (by first | rfl | exact hT) rfl HG.out)
end
section
variable {N:Nat} {w u:World} {lb:Nat} {txt:ByteArray} {k:Nat} {L L1:Ld} {m m1:LdM} {s:Stm} {vw vp:Value}
theorem qo3 (h:xg N w lb txt k L (Y.numOf L.T.syms) m)(hO:L.Ok k)(hk:k < 1000000000)(hKB:Y.KB w)(hN:1 < N)(hs:q1a N m w s vw vp)(hok:q1e s)(he:q0m s.label=true)(hJ:(Y.zh L.T s.label.text).1=0)(hkd:s.kind=3):Calls Tryz.prog 56 #[.pointer (some ⟨lb,0,none⟩),q0o s vw vp] w (Does N w lb txt m (k + 60000) (qm L s)):=by
 obtain⟨aw,cw,rfl,hW⟩:=hs.words;obtain⟨ap,cp,rfl,_⟩:=S.wo hs.op;generalize hnw:s.words.length=nw at *;generalize hnp:s.proof.length=np at *;obtain⟨w1,hw1,b0,bn,hsz,PW,LC,CK,FS,PT⟩:=q1o h hO hk hKB hN hs;have HOK:Hid (q1e s):=hok;have HN1:Hid (1 < N):=hN;clear hs hW hO hKB b0 bn hok hN hsz h hnw hnp;have hl:(!s.label.text.toList.isEmpty)=true:=by rw[ByteArray.toList_eq];exact he
 have z1:w1.cell? ⟨w.heap.size,1,none⟩=some (.string s.label.text):=S.M.qc PW.out.bx 1;have HJ:Hid (((Y.zh L.T s.label.text).1:Int)=0):=by show _=_;rw[hJ];rfl
 obtain⟨L1,hL1⟩:∃L1:Ld,L1={ L with T:=(Y.zh L.T s.label.text).2 }:=⟨_,rfl⟩;have R1:Hid (qm L s=zy L1 s):=by rw[hL1];unfold qm q3y yj;show _=_;rw[if_pos he,if_pos HJ.out]
 have FR:Hid (q1p L1.hy s.label.text=none∧q3a L1.al s.label.text=none):=by rw[hL1];exact FS.out hJ
 have SB:Hid (∀w',S.M.Ch m.hot w1.drew w'→w'.cell? ⟨lb,1,none⟩=some (.pointer (some ⟨m.tq,0,none⟩))∧w'.cell? ⟨w.heap.size,1,none⟩=some (.string s.label.text)∧w'.cell? ⟨w.heap.size,2,none⟩=some (.int .i64 s.label.off)∧w'.cell? ⟨w.heap.size,3,none⟩=some (.int .i64 s.label.line)∧w'.cell? ⟨w.heap.size,4,none⟩=some (.int .i64 s.label.col)):=fun w' hc=>by obtain⟨h1,h2,_⟩:=(PW.out.below (S.M.zi bRf 1)).held hc;exact⟨h2,S.M.qc h1 1,S.M.qc h1 2,S.M.qc h1 3,S.M.qc h1 4⟩
 have CD:Hid (S.M.Ch m.hot w1.drew w1.drew):=S.M.Ch.oB bRf;clear he FS hJ;unfold S.zo at CK;unfold q0o;go_enter Tryz.func56,Tryz.ntmps56;go_upto_region 1 with fail;rw[←hw1];clear hw1;go_upto_region 2 with fail;clear hl z1
 go_region_held3 (fun w'=>w'.cell? ⟨lb,1,none⟩=some (.pointer (some ⟨m.tq,0,none⟩))∧w'.cell? ⟨w.heap.size,1,none⟩=some (.string s.label.text)∧w'.cell? ⟨w.heap.size,2,none⟩=some (.int .i64 s.label.off)∧w'.cell? ⟨w.heap.size,3,none⟩=some (.int .i64 s.label.line)∧w'.cell? ⟨w.heap.size,4,none⟩=some (.int .i64 s.label.col)) (refine⟨?_,?_,?_,?_,?_⟩ <;> first | assumption | exact (SB.out _ (by assumption)).1 | exact (SB.out _ (by assumption)).2.1 | exact (SB.out _ (by assumption)).2.2.1 | exact (SB.out _ (by assumption)).2.2.2.1 | exact (SB.out _ (by assumption)).2.2.2.2)
  (first
  | (go_simp;go_at_call 103;refine cMo LC.out ?_;rintro ee w4 ⟨rfl,hg⟩;have GG:Hid (Goes N w1.drew lb txt m (k + 2) { L with T:=(Y.zh L.T s.label.text).2 } (Y.numOf L.T.syms) w4):=hg;have CC:Hid (S.M.Ch m.hot w1.drew w4):=hg.1;clear hg)
  | (go_simp;go_at_call 102;refine cMo (CK.out _) ?_;rintro ee u ⟨hb5,he5⟩;rw[if_pos HJ.out] at he5;subst he5;have G5:Hid (Goes N w1.drew lb txt m (k + 2) { L with T:=(Y.zh L.T s.label.text).2 } (Y.numOf L.T.syms) u):=GG.out.jd hb5;have CC2:Hid (S.M.Ch m.hot w1.drew u):=G5.out.1;clear hb5))
 obtain⟨m1,hp⟩:=PT.out _ G5.out;rw[←hL1] at hp;have PA:=hid hp;clear hp PT G5 CC2 GG CC CK LC SB CD HJ PW hL1;go_upto_region 3 with fail;have z:∀i,u.cell? ⟨w.heap.size,i,none⟩=(yc s (.slice aw nw cw) (.slice ap np cp))[i]?:=S.M.qc PA.out.bx;have R2:Hid (qm L s=q1s L1 s):=R1.out.trans (by unfold zy;rw[hkd];rfl);have z0:u.cell? ⟨w.heap.size,0,none⟩=some (.int .i64 3):=(z 0).trans (by show some (Value.int .i64 s.kind)=_;rw[hkd]);have z1:u.cell? ⟨w.heap.size,1,none⟩=some (.string s.label.text):=z 1;have z2:u.cell? ⟨w.heap.size,2,none⟩=some (.int .i64 s.label.off):=z 2;have z3:u.cell? ⟨w.heap.size,3,none⟩=some (.int .i64 s.label.line):=z 3;have z4:u.cell? ⟨w.heap.size,4,none⟩=some (.int .i64 s.label.col):=z 4;have z5:u.cell? ⟨w.heap.size,5,none⟩=some (.string s.key.text):=z 5;have z6:u.cell? ⟨w.heap.size,6,none⟩=some (.int .i64 s.key.off):=z 6;have z7:u.cell? ⟨w.heap.size,7,none⟩=some (.int .i64 s.key.line):=z 7;have z8:u.cell? ⟨w.heap.size,8,none⟩=some (.int .i64 s.key.col):=z 8;have z9:u.cell? ⟨w.heap.size,9,none⟩=some (.bool s.proving):=z 9;have z10:u.cell? ⟨w.heap.size,10,none⟩=some (.slice aw nw cw):=z 10;have z11:u.cell? ⟨w.heap.size,11,none⟩=some (.slice ap np cp):=z 11;have z12:u.cell? ⟨w.heap.size,12,none⟩=some (.string s.fin.text):=z 12;have z13:u.cell? ⟨w.heap.size,13,none⟩=some (.int .i64 s.fin.off):=z 13;have z14:u.cell? ⟨w.heap.size,14,none⟩=some (.int .i64 s.fin.line):=z 14;have z15:u.cell? ⟨w.heap.size,15,none⟩=some (.int .i64 s.fin.col):=z 15;have DK:Hid _:=PA.out.k3 hk FR.out.1 (HOK.out.two hkd);rw[←R2.out] at DK;unfold q0o yc S.q4w at DK;rw[hkd] at DK;clear z FR hkd;go_wp2_with fail;refine cMo DK.out ?_;rintro ee w6 hd;have HD:Hid _:=hd
 cases hT:qm L s with
 | error f=>rw[hT] at hd;obtain⟨d1,b,rfl,d3⟩:=hd;exact⟨rfl,hT ▸ HD.out⟩
 | ok L9=>rw[hT] at hd;obtain⟨rfl,d1⟩:=hd;have HG:=hid d1;clear d1 HD;go_wp2;exact bodyPost_end (results_none rfl _ _ _) rfl (gq (by first | rfl | exact hT) rfl HG.out)
theorem qo4 (h:xg N w lb txt k L (Y.numOf L.T.syms) m)(hO:L.Ok k)(hk:k < 1000000000)(hKB:Y.KB w)(hN:1 < N)(hs:q1a N m w s vw vp)(hok:q1e s)(he:q0m s.label=true)(hJ:(Y.zh L.T s.label.text).1=0)(hkd:s.kind=4):Calls Tryz.prog 56 #[.pointer (some ⟨lb,0,none⟩),q0o s vw vp] w (Does N w lb txt m (k + 60000) (qm L s)):=by
 obtain⟨aw,cw,rfl,hW⟩:=hs.words;obtain⟨ap,cp,rfl,_⟩:=S.wo hs.op;generalize hnw:s.words.length=nw at *;generalize hnp:s.proof.length=np at *;obtain⟨w1,hw1,b0,bn,hsz,PW,LC,CK,FS,PT⟩:=q1o h hO hk hKB hN hs;have HOK:Hid (q1e s):=hok;have HN1:Hid (1 < N):=hN;clear hs hW hO hKB b0 bn hok hN hsz h hnw hnp;have hl:(!s.label.text.toList.isEmpty)=true:=by rw[ByteArray.toList_eq];exact he
 have z1:w1.cell? ⟨w.heap.size,1,none⟩=some (.string s.label.text):=S.M.qc PW.out.bx 1;have HJ:Hid (((Y.zh L.T s.label.text).1:Int)=0):=by show _=_;rw[hJ];rfl
 obtain⟨L1,hL1⟩:∃L1:Ld,L1={ L with T:=(Y.zh L.T s.label.text).2 }:=⟨_,rfl⟩;have R1:Hid (qm L s=zy L1 s):=by rw[hL1];unfold qm q3y yj;show _=_;rw[if_pos he,if_pos HJ.out]
 have FR:Hid (q1p L1.hy s.label.text=none∧q3a L1.al s.label.text=none):=by rw[hL1];exact FS.out hJ
 have SB:Hid (∀w',S.M.Ch m.hot w1.drew w'→w'.cell? ⟨lb,1,none⟩=some (.pointer (some ⟨m.tq,0,none⟩))∧w'.cell? ⟨w.heap.size,1,none⟩=some (.string s.label.text)∧w'.cell? ⟨w.heap.size,2,none⟩=some (.int .i64 s.label.off)∧w'.cell? ⟨w.heap.size,3,none⟩=some (.int .i64 s.label.line)∧w'.cell? ⟨w.heap.size,4,none⟩=some (.int .i64 s.label.col)):=fun w' hc=>by obtain⟨h1,h2,_⟩:=(PW.out.below (S.M.zi bRf 1)).held hc;exact⟨h2,S.M.qc h1 1,S.M.qc h1 2,S.M.qc h1 3,S.M.qc h1 4⟩
 have CD:Hid (S.M.Ch m.hot w1.drew w1.drew):=S.M.Ch.oB bRf;clear he FS hJ;unfold S.zo at CK;unfold q0o;go_enter Tryz.func56,Tryz.ntmps56;go_upto_region 1 with fail;rw[←hw1];clear hw1;go_upto_region 2 with fail;clear hl z1
 go_region_held3 (fun w'=>w'.cell? ⟨lb,1,none⟩=some (.pointer (some ⟨m.tq,0,none⟩))∧w'.cell? ⟨w.heap.size,1,none⟩=some (.string s.label.text)∧w'.cell? ⟨w.heap.size,2,none⟩=some (.int .i64 s.label.off)∧w'.cell? ⟨w.heap.size,3,none⟩=some (.int .i64 s.label.line)∧w'.cell? ⟨w.heap.size,4,none⟩=some (.int .i64 s.label.col)) (refine⟨?_,?_,?_,?_,?_⟩ <;> first | assumption | exact (SB.out _ (by assumption)).1 | exact (SB.out _ (by assumption)).2.1 | exact (SB.out _ (by assumption)).2.2.1 | exact (SB.out _ (by assumption)).2.2.2.1 | exact (SB.out _ (by assumption)).2.2.2.2)
  (first
  | (go_simp;go_at_call 103;refine cMo LC.out ?_;rintro ee w4 ⟨rfl,hg⟩;have GG:Hid (Goes N w1.drew lb txt m (k + 2) { L with T:=(Y.zh L.T s.label.text).2 } (Y.numOf L.T.syms) w4):=hg;have CC:Hid (S.M.Ch m.hot w1.drew w4):=hg.1;clear hg)
  | (go_simp;go_at_call 102;refine cMo (CK.out _) ?_;rintro ee u ⟨hb5,he5⟩;rw[if_pos HJ.out] at he5;subst he5;have G5:Hid (Goes N w1.drew lb txt m (k + 2) { L with T:=(Y.zh L.T s.label.text).2 } (Y.numOf L.T.syms) u):=GG.out.jd hb5;have CC2:Hid (S.M.Ch m.hot w1.drew u):=G5.out.1;clear hb5))
 obtain⟨m1,hp⟩:=PT.out _ G5.out;rw[←hL1] at hp;have PA:=hid hp;clear hp PT G5 CC2 GG CC CK LC SB CD HJ PW hL1;go_upto_region 3 with fail;have z:∀i,u.cell? ⟨w.heap.size,i,none⟩=(yc s (.slice aw nw cw) (.slice ap np cp))[i]?:=S.M.qc PA.out.bx;have R2:Hid (qm L s=q7e L1 s):=R1.out.trans (by unfold zy;rw[hkd];rfl);have z0:u.cell? ⟨w.heap.size,0,none⟩=some (.int .i64 4):=(z 0).trans (by show some (Value.int .i64 s.kind)=_;rw[hkd]);have z1:u.cell? ⟨w.heap.size,1,none⟩=some (.string s.label.text):=z 1;have z2:u.cell? ⟨w.heap.size,2,none⟩=some (.int .i64 s.label.off):=z 2;have z3:u.cell? ⟨w.heap.size,3,none⟩=some (.int .i64 s.label.line):=z 3;have z4:u.cell? ⟨w.heap.size,4,none⟩=some (.int .i64 s.label.col):=z 4;have z5:u.cell? ⟨w.heap.size,5,none⟩=some (.string s.key.text):=z 5;have z6:u.cell? ⟨w.heap.size,6,none⟩=some (.int .i64 s.key.off):=z 6;have z7:u.cell? ⟨w.heap.size,7,none⟩=some (.int .i64 s.key.line):=z 7;have z8:u.cell? ⟨w.heap.size,8,none⟩=some (.int .i64 s.key.col):=z 8;have z9:u.cell? ⟨w.heap.size,9,none⟩=some (.bool s.proving):=z 9;have z10:u.cell? ⟨w.heap.size,10,none⟩=some (.slice aw nw cw):=z 10;have z11:u.cell? ⟨w.heap.size,11,none⟩=some (.slice ap np cp):=z 11;have z12:u.cell? ⟨w.heap.size,12,none⟩=some (.string s.fin.text):=z 12;have z13:u.cell? ⟨w.heap.size,13,none⟩=some (.int .i64 s.fin.off):=z 13;have z14:u.cell? ⟨w.heap.size,14,none⟩=some (.int .i64 s.fin.line):=z 14;have z15:u.cell? ⟨w.heap.size,15,none⟩=some (.int .i64 s.fin.col):=z 15;have DK:Hid _:=PA.out.k4 hk FR.out.1;rw[←R2.out] at DK;unfold q0o yc S.q4w at DK;rw[hkd] at DK;clear z FR hkd;go_wp2_with fail;refine cMo DK.out ?_;rintro ee w6 hd;have HD:Hid _:=hd
 cases hT:qm L s with
 | error f=>rw[hT] at hd;obtain⟨d1,b,rfl,d3⟩:=hd;exact⟨rfl,hT ▸ HD.out⟩
 | ok L9=>rw[hT] at hd;obtain⟨rfl,d1⟩:=hd;have HG:=hid d1;clear d1 HD;go_wp2;exact bodyPost_end (results_none rfl _ _ _) rfl (gq (by first | rfl | exact hT) rfl HG.out)
theorem qo5 (h:xg N w lb txt k L (Y.numOf L.T.syms) m)(hO:L.Ok k)(hk:k < 1000000000)(hKB:Y.KB w)(hN:1 < N)(hs:q1a N m w s vw vp)(hok:q1e s)(he:q0m s.label=true)(hJ:(Y.zh L.T s.label.text).1=0)(hkd:s.kind=6):Calls Tryz.prog 56 #[.pointer (some ⟨lb,0,none⟩),q0o s vw vp] w (Does N w lb txt m (k + 60000) (qm L s)):=by
 obtain⟨aw,cw,rfl,hW⟩:=hs.words;obtain⟨ap,cp,rfl,_⟩:=S.wo hs.op;generalize hnw:s.words.length=nw at *;generalize hnp:s.proof.length=np at *;obtain⟨w1,hw1,b0,bn,hsz,PW,LC,CK,FS,PT⟩:=q1o h hO hk hKB hN hs;have HOK:Hid (q1e s):=hok;have HN1:Hid (1 < N):=hN;clear hs hW hO hKB b0 bn hok hN hsz h hnw hnp;have hl:(!s.label.text.toList.isEmpty)=true:=by rw[ByteArray.toList_eq];exact he
 have z1:w1.cell? ⟨w.heap.size,1,none⟩=some (.string s.label.text):=S.M.qc PW.out.bx 1;have HJ:Hid (((Y.zh L.T s.label.text).1:Int)=0):=by show _=_;rw[hJ];rfl
 obtain⟨L1,hL1⟩:∃L1:Ld,L1={ L with T:=(Y.zh L.T s.label.text).2 }:=⟨_,rfl⟩;have R1:Hid (qm L s=zy L1 s):=by rw[hL1];unfold qm q3y yj;show _=_;rw[if_pos he,if_pos HJ.out]
 have FR:Hid (q1p L1.hy s.label.text=none∧q3a L1.al s.label.text=none):=by rw[hL1];exact FS.out hJ
 have SB:Hid (∀w',S.M.Ch m.hot w1.drew w'→w'.cell? ⟨lb,1,none⟩=some (.pointer (some ⟨m.tq,0,none⟩))∧w'.cell? ⟨w.heap.size,1,none⟩=some (.string s.label.text)∧w'.cell? ⟨w.heap.size,2,none⟩=some (.int .i64 s.label.off)∧w'.cell? ⟨w.heap.size,3,none⟩=some (.int .i64 s.label.line)∧w'.cell? ⟨w.heap.size,4,none⟩=some (.int .i64 s.label.col)):=fun w' hc=>by obtain⟨h1,h2,_⟩:=(PW.out.below (S.M.zi bRf 1)).held hc;exact⟨h2,S.M.qc h1 1,S.M.qc h1 2,S.M.qc h1 3,S.M.qc h1 4⟩
 have CD:Hid (S.M.Ch m.hot w1.drew w1.drew):=S.M.Ch.oB bRf;clear he FS hJ;unfold S.zo at CK;unfold q0o;go_enter Tryz.func56,Tryz.ntmps56;go_upto_region 1 with fail;rw[←hw1];clear hw1;go_upto_region 2 with fail;clear hl z1
 go_region_held3 (fun w'=>w'.cell? ⟨lb,1,none⟩=some (.pointer (some ⟨m.tq,0,none⟩))∧w'.cell? ⟨w.heap.size,1,none⟩=some (.string s.label.text)∧w'.cell? ⟨w.heap.size,2,none⟩=some (.int .i64 s.label.off)∧w'.cell? ⟨w.heap.size,3,none⟩=some (.int .i64 s.label.line)∧w'.cell? ⟨w.heap.size,4,none⟩=some (.int .i64 s.label.col)) (refine⟨?_,?_,?_,?_,?_⟩ <;> first | assumption | exact (SB.out _ (by assumption)).1 | exact (SB.out _ (by assumption)).2.1 | exact (SB.out _ (by assumption)).2.2.1 | exact (SB.out _ (by assumption)).2.2.2.1 | exact (SB.out _ (by assumption)).2.2.2.2)
  (first
  | (go_simp;go_at_call 103;refine cMo LC.out ?_;rintro ee w4 ⟨rfl,hg⟩;have GG:Hid (Goes N w1.drew lb txt m (k + 2) { L with T:=(Y.zh L.T s.label.text).2 } (Y.numOf L.T.syms) w4):=hg;have CC:Hid (S.M.Ch m.hot w1.drew w4):=hg.1;clear hg)
  | (go_simp;go_at_call 102;refine cMo (CK.out _) ?_;rintro ee u ⟨hb5,he5⟩;rw[if_pos HJ.out] at he5;subst he5;have G5:Hid (Goes N w1.drew lb txt m (k + 2) { L with T:=(Y.zh L.T s.label.text).2 } (Y.numOf L.T.syms) u):=GG.out.jd hb5;have CC2:Hid (S.M.Ch m.hot w1.drew u):=G5.out.1;clear hb5))
 obtain⟨m1,hp⟩:=PT.out _ G5.out;rw[←hL1] at hp;have PA:=hid hp;clear hp PT G5 CC2 GG CC CK LC SB CD HJ PW hL1;go_upto_region 3 with fail;have z:∀i,u.cell? ⟨w.heap.size,i,none⟩=(yc s (.slice aw nw cw) (.slice ap np cp))[i]?:=S.M.qc PA.out.bx;have R2:Hid (qm L s=q1m L1 s):=R1.out.trans (by unfold zy;rw[hkd];rfl);have z0:u.cell? ⟨w.heap.size,0,none⟩=some (.int .i64 6):=(z 0).trans (by show some (Value.int .i64 s.kind)=_;rw[hkd]);have z1:u.cell? ⟨w.heap.size,1,none⟩=some (.string s.label.text):=z 1;have z2:u.cell? ⟨w.heap.size,2,none⟩=some (.int .i64 s.label.off):=z 2;have z3:u.cell? ⟨w.heap.size,3,none⟩=some (.int .i64 s.label.line):=z 3;have z4:u.cell? ⟨w.heap.size,4,none⟩=some (.int .i64 s.label.col):=z 4;have z5:u.cell? ⟨w.heap.size,5,none⟩=some (.string s.key.text):=z 5;have z6:u.cell? ⟨w.heap.size,6,none⟩=some (.int .i64 s.key.off):=z 6;have z7:u.cell? ⟨w.heap.size,7,none⟩=some (.int .i64 s.key.line):=z 7;have z8:u.cell? ⟨w.heap.size,8,none⟩=some (.int .i64 s.key.col):=z 8;have z9:u.cell? ⟨w.heap.size,9,none⟩=some (.bool s.proving):=z 9;have z10:u.cell? ⟨w.heap.size,10,none⟩=some (.slice aw nw cw):=z 10;have z11:u.cell? ⟨w.heap.size,11,none⟩=some (.slice ap np cp):=z 11;have z12:u.cell? ⟨w.heap.size,12,none⟩=some (.string s.fin.text):=z 12;have z13:u.cell? ⟨w.heap.size,13,none⟩=some (.int .i64 s.fin.off):=z 13;have z14:u.cell? ⟨w.heap.size,14,none⟩=some (.int .i64 s.fin.line):=z 14;have z15:u.cell? ⟨w.heap.size,15,none⟩=some (.int .i64 s.fin.col):=z 15;have DK:Hid _:=PA.out.k6 hk FR.out.2;rw[←R2.out] at DK;unfold q0o yc S.q4w at DK;rw[hkd] at DK;clear z FR hkd;go_wp2_with fail;refine cMo DK.out ?_;rintro ee w6 hd;have HD:Hid _:=hd
 cases hT:qm L s with
 | error f=>rw[hT] at hd;obtain⟨d1,b,rfl,d3⟩:=hd;exact⟨rfl,hT ▸ HD.out⟩
 | ok L9=>rw[hT] at hd;obtain⟨rfl,d1⟩:=hd;have HG:=hid d1;clear d1 HD;go_wp2;exact bodyPost_end (results_none rfl _ _ _) rfl (gq (by first | rfl | exact hT) rfl HG.out)
end
section
variable {N:Nat} {w u:World} {lb:Nat} {txt:ByteArray} {k:Nat} {L L1:Ld} {m m1:LdM} {s:Stm} {vw vp:Value}
theorem qo6 (h:xg N w lb txt k L (Y.numOf L.T.syms) m)(hO:L.Ok k)(hk:k < 1000000000)(hKB:Y.KB w)(hN:1 < N)(hs:q1a N m w s vw vp)(hok:q1e s)(he:q0m s.label=true)(hJ:(Y.zh L.T s.label.text).1=0)(hkd:s.kind=7):Calls Tryz.prog 56 #[.pointer (some ⟨lb,0,none⟩),q0o s vw vp] w (Does N w lb txt m (k + 60000) (qm L s)):=by
 obtain⟨aw,cw,rfl,hW⟩:=hs.words;obtain⟨ap,cp,rfl,_⟩:=S.wo hs.op;generalize hnw:s.words.length=nw at *;generalize hnp:s.proof.length=np at *;obtain⟨w1,hw1,b0,bn,hsz,PW,LC,CK,FS,PT⟩:=q1o h hO hk hKB hN hs;have HOK:Hid (q1e s):=hok;have HN1:Hid (1 < N):=hN;clear hs hW hO hKB b0 bn hok hN hsz h hnw hnp;have hl:(!s.label.text.toList.isEmpty)=true:=by rw[ByteArray.toList_eq];exact he
 have z1:w1.cell? ⟨w.heap.size,1,none⟩=some (.string s.label.text):=S.M.qc PW.out.bx 1;have HJ:Hid (((Y.zh L.T s.label.text).1:Int)=0):=by show _=_;rw[hJ];rfl
 obtain⟨L1,hL1⟩:∃L1:Ld,L1={ L with T:=(Y.zh L.T s.label.text).2 }:=⟨_,rfl⟩;have R1:Hid (qm L s=zy L1 s):=by rw[hL1];unfold qm q3y yj;show _=_;rw[if_pos he,if_pos HJ.out]
 have FR:Hid (q1p L1.hy s.label.text=none∧q3a L1.al s.label.text=none):=by rw[hL1];exact FS.out hJ
 have SB:Hid (∀w',S.M.Ch m.hot w1.drew w'→w'.cell? ⟨lb,1,none⟩=some (.pointer (some ⟨m.tq,0,none⟩))∧w'.cell? ⟨w.heap.size,1,none⟩=some (.string s.label.text)∧w'.cell? ⟨w.heap.size,2,none⟩=some (.int .i64 s.label.off)∧w'.cell? ⟨w.heap.size,3,none⟩=some (.int .i64 s.label.line)∧w'.cell? ⟨w.heap.size,4,none⟩=some (.int .i64 s.label.col)):=fun w' hc=>by obtain⟨h1,h2,_⟩:=(PW.out.below (S.M.zi bRf 1)).held hc;exact⟨h2,S.M.qc h1 1,S.M.qc h1 2,S.M.qc h1 3,S.M.qc h1 4⟩
 have CD:Hid (S.M.Ch m.hot w1.drew w1.drew):=S.M.Ch.oB bRf;clear he FS hJ;unfold S.zo at CK;unfold q0o;go_enter Tryz.func56,Tryz.ntmps56;go_upto_region 1 with fail;rw[←hw1];clear hw1;go_upto_region 2 with fail;clear hl z1
 go_region_held3 (fun w'=>w'.cell? ⟨lb,1,none⟩=some (.pointer (some ⟨m.tq,0,none⟩))∧w'.cell? ⟨w.heap.size,1,none⟩=some (.string s.label.text)∧w'.cell? ⟨w.heap.size,2,none⟩=some (.int .i64 s.label.off)∧w'.cell? ⟨w.heap.size,3,none⟩=some (.int .i64 s.label.line)∧w'.cell? ⟨w.heap.size,4,none⟩=some (.int .i64 s.label.col)) (refine⟨?_,?_,?_,?_,?_⟩ <;> first | assumption | exact (SB.out _ (by assumption)).1 | exact (SB.out _ (by assumption)).2.1 | exact (SB.out _ (by assumption)).2.2.1 | exact (SB.out _ (by assumption)).2.2.2.1 | exact (SB.out _ (by assumption)).2.2.2.2)
  (first
  | (go_simp;go_at_call 103;refine cMo LC.out ?_;rintro ee w4 ⟨rfl,hg⟩;have GG:Hid (Goes N w1.drew lb txt m (k + 2) { L with T:=(Y.zh L.T s.label.text).2 } (Y.numOf L.T.syms) w4):=hg;have CC:Hid (S.M.Ch m.hot w1.drew w4):=hg.1;clear hg)
  | (go_simp;go_at_call 102;refine cMo (CK.out _) ?_;rintro ee u ⟨hb5,he5⟩;rw[if_pos HJ.out] at he5;subst he5;have G5:Hid (Goes N w1.drew lb txt m (k + 2) { L with T:=(Y.zh L.T s.label.text).2 } (Y.numOf L.T.syms) u):=GG.out.jd hb5;have CC2:Hid (S.M.Ch m.hot w1.drew u):=G5.out.1;clear hb5))
 obtain⟨m1,hp⟩:=PT.out _ G5.out;rw[←hL1] at hp;have PA:=hid hp;clear hp PT G5 CC2 GG CC CK LC SB CD HJ PW hL1;go_upto_region 3 with fail;have z:∀i,u.cell? ⟨w.heap.size,i,none⟩=(yc s (.slice aw nw cw) (.slice ap np cp))[i]?:=S.M.qc PA.out.bx;have R2:Hid (qm L s=q1m L1 s):=R1.out.trans (by unfold zy;rw[hkd];rfl);have z0:u.cell? ⟨w.heap.size,0,none⟩=some (.int .i64 7):=(z 0).trans (by show some (Value.int .i64 s.kind)=_;rw[hkd]);have z1:u.cell? ⟨w.heap.size,1,none⟩=some (.string s.label.text):=z 1;have z2:u.cell? ⟨w.heap.size,2,none⟩=some (.int .i64 s.label.off):=z 2;have z3:u.cell? ⟨w.heap.size,3,none⟩=some (.int .i64 s.label.line):=z 3;have z4:u.cell? ⟨w.heap.size,4,none⟩=some (.int .i64 s.label.col):=z 4;have z5:u.cell? ⟨w.heap.size,5,none⟩=some (.string s.key.text):=z 5;have z6:u.cell? ⟨w.heap.size,6,none⟩=some (.int .i64 s.key.off):=z 6;have z7:u.cell? ⟨w.heap.size,7,none⟩=some (.int .i64 s.key.line):=z 7;have z8:u.cell? ⟨w.heap.size,8,none⟩=some (.int .i64 s.key.col):=z 8;have z9:u.cell? ⟨w.heap.size,9,none⟩=some (.bool s.proving):=z 9;have z10:u.cell? ⟨w.heap.size,10,none⟩=some (.slice aw nw cw):=z 10;have z11:u.cell? ⟨w.heap.size,11,none⟩=some (.slice ap np cp):=z 11;have z12:u.cell? ⟨w.heap.size,12,none⟩=some (.string s.fin.text):=z 12;have z13:u.cell? ⟨w.heap.size,13,none⟩=some (.int .i64 s.fin.off):=z 13;have z14:u.cell? ⟨w.heap.size,14,none⟩=some (.int .i64 s.fin.line):=z 14;have z15:u.cell? ⟨w.heap.size,15,none⟩=some (.int .i64 s.fin.col):=z 15;have DK:Hid _:=PA.out.k6 hk FR.out.2;rw[←R2.out] at DK;unfold q0o yc S.q4w at DK;rw[hkd] at DK;clear z FR hkd;go_wp2_with fail;refine cMo DK.out ?_;rintro ee w6 hd;have HD:Hid _:=hd
 cases hT:qm L s with
 | error f=>rw[hT] at hd;obtain⟨d1,b,rfl,d3⟩:=hd;exact⟨rfl,hT ▸ HD.out⟩
 | ok L9=>rw[hT] at hd;obtain⟨rfl,d1⟩:=hd;have HG:=hid d1;clear d1 HD;go_wp2;exact bodyPost_end (results_none rfl _ _ _) rfl (gq (by first | rfl | exact hT) rfl HG.out)
theorem qo7 (h:xg N w lb txt k L (Y.numOf L.T.syms) m)(hO:L.Ok k)(hk:k < 1000000000)(hKB:Y.KB w)(hN:1 < N)(hs:q1a N m w s vw vp)(hok:q1e s)(he:q0m s.label=true)(hJ:(Y.zh L.T s.label.text).1=0)(h8:s.kind≠8)(h9:s.kind≠9)(h1:s.kind≠1)(h2:s.kind≠2)(h5:s.kind≠5)(h3:s.kind≠3)(h4:s.kind≠4)(h6:s.kind≠6)(h7:s.kind≠7):Calls Tryz.prog 56 #[.pointer (some ⟨lb,0,none⟩),q0o s vw vp] w (Does N w lb txt m (k + 60000) (qm L s)):=by
 obtain⟨aw,cw,rfl,hW⟩:=hs.words;obtain⟨ap,cp,rfl,_⟩:=S.wo hs.op;generalize hnw:s.words.length=nw at *;generalize hnp:s.proof.length=np at *;obtain⟨w1,hw1,b0,bn,hsz,PW,LC,CK,FS,PT⟩:=q1o h hO hk hKB hN hs;have HOK:Hid (q1e s):=hok;have HN1:Hid (1 < N):=hN;clear hs hW hO hKB b0 bn hok hN hsz h hnw hnp;have hl:(!s.label.text.toList.isEmpty)=true:=by rw[ByteArray.toList_eq];exact he
 have z1:w1.cell? ⟨w.heap.size,1,none⟩=some (.string s.label.text):=S.M.qc PW.out.bx 1;have HJ:Hid (((Y.zh L.T s.label.text).1:Int)=0):=by show _=_;rw[hJ];rfl
 obtain⟨L1,hL1⟩:∃L1:Ld,L1={ L with T:=(Y.zh L.T s.label.text).2 }:=⟨_,rfl⟩;have R1:Hid (qm L s=zy L1 s):=by rw[hL1];unfold qm q3y yj;show _=_;rw[if_pos he,if_pos HJ.out]
 have FR:Hid (q1p L1.hy s.label.text=none∧q3a L1.al s.label.text=none):=by rw[hL1];exact FS.out hJ
 have SB:Hid (∀w',S.M.Ch m.hot w1.drew w'→w'.cell? ⟨lb,1,none⟩=some (.pointer (some ⟨m.tq,0,none⟩))∧w'.cell? ⟨w.heap.size,1,none⟩=some (.string s.label.text)∧w'.cell? ⟨w.heap.size,2,none⟩=some (.int .i64 s.label.off)∧w'.cell? ⟨w.heap.size,3,none⟩=some (.int .i64 s.label.line)∧w'.cell? ⟨w.heap.size,4,none⟩=some (.int .i64 s.label.col)):=fun w' hc=>by obtain⟨h1,h2,_⟩:=(PW.out.below (S.M.zi bRf 1)).held hc;exact⟨h2,S.M.qc h1 1,S.M.qc h1 2,S.M.qc h1 3,S.M.qc h1 4⟩
 have CD:Hid (S.M.Ch m.hot w1.drew w1.drew):=S.M.Ch.oB bRf;clear he FS hJ;unfold S.zo at CK;unfold q0o;go_enter Tryz.func56,Tryz.ntmps56;go_upto_region 1 with fail;rw[←hw1];clear hw1;go_upto_region 2 with fail;clear hl z1
 go_region_held3 (fun w'=>w'.cell? ⟨lb,1,none⟩=some (.pointer (some ⟨m.tq,0,none⟩))∧w'.cell? ⟨w.heap.size,1,none⟩=some (.string s.label.text)∧w'.cell? ⟨w.heap.size,2,none⟩=some (.int .i64 s.label.off)∧w'.cell? ⟨w.heap.size,3,none⟩=some (.int .i64 s.label.line)∧w'.cell? ⟨w.heap.size,4,none⟩=some (.int .i64 s.label.col)) (refine⟨?_,?_,?_,?_,?_⟩ <;> first | assumption | exact (SB.out _ (by assumption)).1 | exact (SB.out _ (by assumption)).2.1 | exact (SB.out _ (by assumption)).2.2.1 | exact (SB.out _ (by assumption)).2.2.2.1 | exact (SB.out _ (by assumption)).2.2.2.2)
  (first
  | (go_simp;go_at_call 103;refine cMo LC.out ?_;rintro ee w4 ⟨rfl,hg⟩;have GG:Hid (Goes N w1.drew lb txt m (k + 2) { L with T:=(Y.zh L.T s.label.text).2 } (Y.numOf L.T.syms) w4):=hg;have CC:Hid (S.M.Ch m.hot w1.drew w4):=hg.1;clear hg)
  | (go_simp;go_at_call 102;refine cMo (CK.out _) ?_;rintro ee u ⟨hb5,he5⟩;rw[if_pos HJ.out] at he5;subst he5;have G5:Hid (Goes N w1.drew lb txt m (k + 2) { L with T:=(Y.zh L.T s.label.text).2 } (Y.numOf L.T.syms) u):=GG.out.jd hb5;have CC2:Hid (S.M.Ch m.hot w1.drew u):=G5.out.1;clear hb5))
 obtain⟨m1,hp⟩:=PT.out _ G5.out;rw[←hL1] at hp;have PA:=hid hp;clear hp PT G5 CC2 GG CC CK LC SB CD HJ PW hL1;go_upto_region 3 with fail;have z:∀i,u.cell? ⟨w.heap.size,i,none⟩=(yc s (.slice aw nw cw) (.slice ap np cp))[i]?:=S.M.qc PA.out.bx;have ks:s.kind≠8∧s.kind≠9∧s.kind≠1∧s.kind≠2∧s.kind≠5∧s.kind≠3∧s.kind≠4∧s.kind≠6∧s.kind≠7:=by refine⟨?_,?_,?_,?_,?_,?_,?_,?_,?_⟩ <;> assumption
 obtain⟨n8,n9,n1,n2,n5,n3,n4,n6,n7⟩:=ks;have R2:Hid (qm L s=.ok L1):=R1.out.trans (by unfold zy;rw[if_neg n8,if_neg n9,if_neg n1,if_neg n2,if_neg n5,if_neg n3,if_neg n4,if_neg (by omega)]);replace n8:(s.kind == 8)=false:=by simpa using n8
 replace n9:(s.kind == 9)=false:=by simpa using n9
 replace n1:(s.kind == 1)=false:=by simpa using n1
 replace n2:(s.kind == 2)=false:=by simpa using n2
 replace n5:(s.kind == 5)=false:=by simpa using n5
 replace n3:(s.kind == 3)=false:=by simpa using n3
 replace n4:(s.kind == 4)=false:=by simpa using n4
 replace n6:(s.kind == 6)=false:=by simpa using n6
 replace n7:(s.kind == 7)=false:=by simpa using n7
 have z0:u.cell? ⟨w.heap.size,0,none⟩=some (.int .i64 s.kind):=z 0;clear z FR
 go_wp2
 exact bodyPost_end (results_none rfl _ _ _) rfl (PA.out.does (by omega) (gq R2.out rfl (Goes.same PA.out.i bRf)))
end
section
variable {N:Nat} {w u:World} {lb:Nat} {txt:ByteArray} {k:Nat} {L L1:Ld} {m m1:LdM} {s:Stm} {vw vp:Value}
theorem take_any (h:xg N w lb txt k L (Y.numOf L.T.syms) m)(hO:L.Ok k)(hk:k < 1000000000)(hKB:Y.KB w)(hN:1 < N)(hs:q1a N m w s vw vp)(hok:q1e s):Calls Tryz.prog 56 #[.pointer (some ⟨lb,0,none⟩),q0o s vw vp] w (Does N w lb txt m (k + 60000) (qm L s)):=by
 cases he:q0m s.label with
 | false =>
  by_cases h8:s.kind=8
  ·exact qjt h hO hk hKB hN hs hok he h8
  ·by_cases h9:s.kind=9
   ·exact qju h hO hk hKB hN hs hok he h9
   ·exact qjv h hO hk hKB hN hs hok he h8 h9
 | true =>
  by_cases hJ:(Y.zh L.T s.label.text).1=0
  ·by_cases h8:s.kind=8
   ·exact qny h hO hk hKB hN hs hok he hJ h8
   ·by_cases h9:s.kind=9
    ·exact qnz h hO hk hKB hN hs hok he hJ h9
    ·by_cases h1:s.kind=1
     ·exact qo0 h hO hk hKB hN hs hok he hJ h1
     ·by_cases h2:s.kind=2
      ·exact qo1 h hO hk hKB hN hs hok he hJ h2
      ·by_cases h5:s.kind=5
       ·exact qo2 h hO hk hKB hN hs hok he hJ h5
       ·by_cases h3:s.kind=3
        ·exact qo3 h hO hk hKB hN hs hok he hJ h3
        ·by_cases h4:s.kind=4
         ·exact qo4 h hO hk hKB hN hs hok he hJ h4
         ·by_cases h6:s.kind=6
          ·exact qo5 h hO hk hKB hN hs hok he hJ h6
          ·by_cases h7:s.kind=7
           ·exact qo6 h hO hk hKB hN hs hok he hJ h7
           ·exact qo7 h hO hk hKB hN hs hok he hJ h8 h9 h1 h2 h5 h3 h4 h6 h7
  ·exact qr2 h hO hk hKB hN hs hok he hJ
end
def qlc (w:World)(txt:ByteArray)(lb:Nat)(w':World):Prop:=(∃m,xg w.heap.size w' lb txt 0 ld0 (Y.numOf ld0.T.syms) m)∧w.heap.size≤lb∧Below w.heap.size w w'
theorem qr3 {w w1 w2 w3 w4:World} {txt:ByteArray} {bs:List Nat} {tq P b:Nat} {vS:Value} (hT:Y.TabAt w1 bs tq 0 Y.qit) (hge:∀b ∈ bs,w.heap.size≤b) (h1:Below w.heap.size w w1) (h2:Below w1.heap.size w1 w2)
  (h3:(((w2.alloc (.map #[] 0)).alloc (.map #[] 0)).alloc (.map #[] 0)).alloc (.cells #[.string txt,.pointer (some ⟨tq,0,none⟩),.map (some w2.heap.size),.slice none 0 0,.map (some (w2.heap.size + 1)),.slice none 0 0,.map (some (w2.heap.size + 2))] 121)=w3)
  (hS:F.qw tq (fun g=>w3.heap.size≤g∧g < w4.heap.size) w4 P vS [F.newC b]) (h4:Below w3.heap.size w3 w4) :
  qlc w txt w4.heap.size (w4.alloc (.cells #[.pointer (some ⟨w2.heap.size + 3,0,none⟩),.pointer (some ⟨tq,0,none⟩),.pointer (some ⟨P,0,none⟩)] 106)):=by
 have bA:Below w2.heap.size w2 (w2.alloc (.map #[] 0)):=S.qg _ _;have mA:=Y.jg.made w2;have sA:(w2.alloc (.map #[] 0)).heap.size=w2.heap.size + 1:=by simp
 generalize w2.alloc (.map #[] 0)=wA at *;have bB:Below wA.heap.size wA (wA.alloc (.map #[] 0)):=S.qg _ _;have mB:=Y.jg.made wA;have sB:(wA.alloc (.map #[] 0)).heap.size=wA.heap.size + 1:=by simp
 generalize wA.alloc (.map #[] 0)=wB at *;have bC:Below wB.heap.size wB (wB.alloc (.map #[] 0)):=S.qg _ _;have mC:=Y.jg.made wB;have sC:(wB.alloc (.map #[] 0)).heap.size=wB.heap.size + 1:=by simp
 generalize wB.alloc (.map #[] 0)=wC at *;have bD:Below wC.heap.size wC w3:=by rw[←h3];exact S.qg _ _
 have xD:w3.heap[wC.heap.size]?=some (.cells #[.string txt,.pointer (some ⟨tq,0,none⟩),.map (some w2.heap.size),.slice none 0 0,.map (some (w2.heap.size + 1)),.slice none 0 0,.map (some (w2.heap.size + 2))] 121 (0,0)):=by rw[←h3];exact World.alloc_heap_new _ _
 have sD:w3.heap.size=wC.heap.size + 1:=by rw[←h3];simp
 have bE:Below w4.heap.size w4 (w4.alloc (.cells #[.pointer (some ⟨w2.heap.size + 3,0,none⟩),.pointer (some ⟨tq,0,none⟩),.pointer (some ⟨P,0,none⟩)] 106)):=S.qg _ _;have xE:(w4.alloc (.cells #[.pointer (some ⟨w2.heap.size + 3,0,none⟩),.pointer (some ⟨tq,0,none⟩),.pointer (some ⟨P,0,none⟩)] 106)).heap[w4.heap.size]?=some (.cells #[.pointer (some ⟨w2.heap.size + 3,0,none⟩),.pointer (some ⟨tq,0,none⟩),.pointer (some ⟨P,0,none⟩)] 106 (0,0)):=World.alloc_heap_new _ _;have sE:(w4.alloc (.cells #[.pointer (some ⟨w2.heap.size + 3,0,none⟩),.pointer (some ⟨tq,0,none⟩),.pointer (some ⟨P,0,none⟩)] 106)).heap.size=w4.heap.size + 1:=by simp
 generalize w4.alloc (.cells #[.pointer (some ⟨w2.heap.size + 3,0,none⟩),.pointer (some ⟨tq,0,none⟩),.pointer (some ⟨P,0,none⟩)] 106)=w5 at *;clear h3;have z1:=h1.size;have z2:=h2.size;have z4:=h4.size;have e4:∀b,b < w3.heap.size→w5.heap[b]?=w3.heap[b]?:=fun b hb=>(bE.block b (by omega)).trans (h4.block b hb)
 have e3:∀b,b < wC.heap.size→w5.heap[b]?=wC.heap[b]?:=fun b hb=>(e4 b (by omega)).trans (bD.block b hb)
 have e2:∀b,b < wB.heap.size→w5.heap[b]?=wB.heap[b]?:=fun b hb=>(e3 b (by omega)).trans (bC.block b hb)
 have e1:∀b,b < wA.heap.size→w5.heap[b]?=wA.heap[b]?:=fun b hb=>(e2 b (by omega)).trans (bB.block b hb)
 have e0:∀b,b < w2.heap.size→w5.heap[b]?=w2.heap[b]?:=fun b hb=>(e1 b (by omega)).trans (bA.block b hb)
 have hlow:=hT.low;have eC:wC.heap.size=w2.heap.size + 3:=by omega
 have q3:∀x,LdM.q ⟨w2.heap.size + 3,tq,P,w2.heap.size,w2.heap.size + 1,w2.heap.size + 2,bs,fun g=>w3.heap.size≤g∧g < w4.heap.size,vS,.slice none 0 0,.slice none 0 0,[F.newC b],[],[]⟩ x→w2.heap.size≤x∧x < w3.heap.size:=fun x hx=>by
  rcases hx with rfl | rfl | rfl | rfl | hx | hx
  ·show w2.heap.size≤w2.heap.size + 3∧w2.heap.size + 3 < _
   omega
  ·show w2.heap.size≤w2.heap.size∧w2.heap.size < _
   omega
  ·show w2.heap.size≤w2.heap.size + 1∧w2.heap.size + 1 < _
   omega
  ·show w2.heap.size≤w2.heap.size + 2∧w2.heap.size + 2 < _
   omega
  ·cases hx
  ·cases hx
 have hb5:Below w.heap.size w w5:=by
  refine h1.trans (Below.mono (h2.trans (Below.mono (bA.trans (Below.mono (bB.trans (Below.mono (bC.trans (Below.mono (bD.trans (Below.mono (h4.trans (bE.mono z4)) ?_)) ?_)) ?_)) ?_)) z2)) z1) <;> omega
 refine⟨⟨⟨w2.heap.size + 3,tq,P,w2.heap.size,w2.heap.size + 1,w2.heap.size + 2,bs,fun g=>w3.heap.size≤g∧g < w4.heap.size,vS,.slice none 0 0,.slice none 0 0,[F.newC b],[],[]⟩,?_⟩,by omega,hb5⟩;refine⟨⟨xE,?_,(fun y hy=>by cases hy),fun x hx=>by cases hx⟩,?_,?_,?_,rfl,⟨0,Nat.le_refl _,?_⟩,World.ownsRow_nil _ _ _ _,rfl,⟨0,Nat.le_refl _,?_⟩,World.ownsRow_nil _ _ _ _,rfl,⟨0,Nat.le_refl _,?_⟩,?_,?_,?_,?_,by omega⟩
 ·rintro (hh | hh | hh)
  ·have:=hlow _ hh;omega
  ·have:=hh.2;omega
  ·have:=(q3 _ hh).2;omega
 ·rw[eC] at xD;exact (e4 (w2.heap.size + 3) (by omega)).trans xD
 ·exact hT.kept fun b hb=>by
   have:=hlow b hb
   exact (e0 b (by omega)).trans (h2.block b this)
 ·exact (hS.below bE)
 ·exact mA.kept (e1 _ (by omega))
 ·rw[sA] at mB;exact mB.kept (e2 _ (by omega))
 ·rw[sB,sA] at mC;exact mC.kept (e3 _ (by omega))
 ·intro x hx hO;have:=hlow x hx
  have:=hO.1
  omega
 ·intro x hx;obtain⟨h5,h6⟩:=q3 x hx;exact⟨fun hh=>by have:=hlow x hh;omega,fun hh=>by have:=hh.1;omega⟩
 ·refine⟨?_,?_,?_⟩
  ·show w2.heap.size≠w2.heap.size + 1
   omega
  ·show w2.heap.size≠w2.heap.size + 2
   omega
  ·show w2.heap.size + 1≠w2.heap.size + 2
   omega
 ·rintro x (hh | hh | hh)
  ·exact hge x hh
  ·have:=hh.1;omega
  ·have:=(q3 x hh).1;omega
theorem qcw (w:World)(txt:ByteArray)(ht:txt.size≤281474976710656):Calls Tryz.prog 55 #[.string txt] w fun e w'=>∃lb,e=.returned (.pointer (some ⟨lb,0,none⟩))∧qlc w txt lb w':=by
 have hmm:=@run_makeMap Tryz.prog;have NT:Hid _:=Y.new_any w;have SC:Hid (∀wx,Calls Tryz.prog 100 #[.string txt] wx fun e w'=>e=.returned (.string txt)∧Below wx.heap.size wx w'):=fun wx=>F.qax txt wx ht
 have FN:Hid (∀tq wx,Calls Tryz.prog 101 #[.func (.func 70) #[.pointer (some ⟨tq,0,none⟩)] #[]] wx fun e w'=>∃P vS b,e=.returned (.pointer (some ⟨P,0,none⟩))∧F.qw tq (fun g=>wx.heap.size≤g∧g < w'.heap.size) w' P vS [F.newC b]∧Below wx.heap.size wx w'):=fun tq wx=>F.new_any (tq:=tq) wx
 go_enter Tryz.func55,Tryz.ntmps55;go_wp2_with fail;refine cMo NT.out ?_;rintro e w1 ⟨rfl,⟨bs,hT,hge⟩,hb1⟩;have HT:Hid (Y.TabAt w1 bs (w.heap.size + 3) 0 Y.qit∧(∀b ∈ bs,w.heap.size≤b)∧Below w.heap.size w w1):=⟨hT,hge,hb1⟩;clear hT hge hb1 NT;obtain⟨tq,htq⟩:=eXb (w.heap.size + 3);rw[htq] at HT ⊢;go_wp2_with fail;refine cMo (SC.out w1) ?_;rintro e w2 ⟨rfl,hb2⟩;have H2:=hid hb2;clear hb2;go_wp2_with fail;obtain⟨w3,hw3⟩:=eXb ((((w2.alloc (.map #[] 0)).alloc (.map #[] 0)).alloc (.map #[] 0)).alloc (.cells #[.string txt,.pointer (some ⟨tq,0,none⟩),.map (some w2.heap.size),.slice none 0 0,.map (some (w2.heap.size + 1)),.slice none 0 0,.map (some (w2.heap.size + 1 + 1))] 121));have HW:Hid _:=hw3;rw[hw3];clear hw3;refine cMo (FN.out tq w3) ?_;rintro e w4 ⟨P,vS,b,rfl,hS,hb4⟩;have FI:Hid (qlc w txt w4.heap.size (w4.alloc (.cells #[.pointer (some ⟨w2.heap.size + 3,0,none⟩),.pointer (some ⟨tq,0,none⟩),.pointer (some ⟨P,0,none⟩)] 106))):=qr3 HT.out.1 HT.out.2.1 HT.out.2.2 H2.out HW.out hS hb4;clear hS hb4 HW H2 HT FN SC
 go_wp2
 go_ret
 exact⟨_,rfl,FI.out⟩
theorem qhd (w:World):Calls Tryz.prog 53 #[.nilIface] w fun e w'=>e=.returned (.pointer none)∧w'=w:=by
 go_enter Tryz.func53,Tryz.ntmps53
 go_wp2
 go_ret
 exact⟨rfl,rfl⟩
theorem qey (w:World)(b:Nat):Calls Tryz.prog 53 #[.iface 23 (.pointer (some ⟨b,0,none⟩))] w fun e w'=>e=.returned (.pointer (some ⟨b,0,none⟩))∧w'=w:=by
 have hta:∀(v:Value) (w:World),Sem.run Tryz.prog (Instr.typeAssert (.iface 23 v) 20 23 true) w=.ok (.tuple #[v,.bool true]) w:=fun _ _=>by kernel_rfl
 go_enter Tryz.func53,Tryz.ntmps53
 go_wp2
 go_ret
 exact⟨rfl,rfl⟩
theorem catch_idle (p q:Addr)(w:World) :
  CallsD Tryz.prog 52 #[.pointer (some p),.pointer (some q)] .returning w fun e u' w'=>e=.returned (.tuple #[])∧u'=.returning∧w'=w:=by
 refine callsD_of_wpS Tryz.func52 rfl fun c₀ cs hu=>?_
 apply wpS_seq
 apply wpS_region
 simp[wpOpsS,go_sem,recoverD,hu,Tryz.ntmps52,Exit.thenS];refine (qhd w).mono ?_;rintro e w' ⟨rfl,rfl⟩
 apply wpS_seq
 apply wpS_region
 simp[wpOpsS,go_sem,Exit.thenS];refine wpS_cond (t:=false) (by simp[Act.eval,Array.replicate]) ?_;simp only[Bool.false_eq_true,if_false];refine wpS_of_wp (wp_skip ?_)
 cases c₀
 simp_all [bodyPostS,results,Tryz.results52]
theorem qhe (A B b:Nat)(hAB:A≠B)(older:List PanicEntry)(w:World)(x y:Option Addr)(hA:w.cell? ⟨A,0,none⟩=some (.pointer x))(hB:w.cell? ⟨B,0,none⟩=some (.pointer y))(zA:w.frozen? ⟨A,0,none⟩=false)(zB:w.frozen? ⟨B,0,none⟩=false) :
  CallsD Tryz.prog 52 #[.pointer (some ⟨A,0,none⟩),.pointer (some ⟨B,0,none⟩)] (.panicking ({ v:=.iface 23 (.pointer (some ⟨b,0,none⟩)),recovered:=false } :: older)) w fun e u' w' =>
   e=.returned (.tuple #[])∧u'=.panicking ({ v:=.iface 23 (.pointer (some ⟨b,0,none⟩)),recovered:=true } :: older)∧w'=(w.setCell ⟨A,0,none⟩ (.pointer none)).setCell ⟨B,0,none⟩ (.pointer (some ⟨b,0,none⟩)):=by
 have hBA:B≠A:=fun e=>hAB e.symm
 have hB2:(w.setCell ⟨A,0,none⟩ (.pointer none)).cell? ⟨B,0,none⟩=some (.pointer y):=by simp[go_sem,hB]
 refine callsD_of_wpS Tryz.func52 rfl fun c₀ cs hu=>?_
 apply wpS_seq
 apply wpS_region
 simp[wpOpsS,go_sem,recoverD,hu,Tryz.ntmps52,Exit.thenS];refine (qey w b).mono ?_;rintro e w' ⟨rfl,rfl⟩
 apply wpS_seq
 apply wpS_region
 simp[wpOpsS,go_sem,Exit.thenS];refine wpS_cond (t:=true) (by simp[Act.eval,Array.replicate]) ?_;simp only[if_true]
 apply wpS_region
 simp[wpOpsS,go_sem,hA,zA,hB2,zB,bodyPostS,results,Tryz.results52]
section
variable {N:Nat} {W W':World} {lb:Nat} {txt:ByteArray} {k:Nat} {L:Ld} {nf:ByteArray→Option Nat} {m:LdM}
theorem qa7.low {x:AsC}(h:qa7 N W x)(hc:S.M.Ch (fun b=>b < N) W W'):qa7 N W' x :=
 ⟨S.M.qh h.g hc fun b e=>by have:=S.M.zf h.g b e;omega,S.M.qh h.n hc fun b e=>by have:=S.M.zf h.n b e;omega,S.M.qh h.p hc fun b e=>by have:=S.M.zf h.p b e;omega,S.M.qh h.a hc fun b e=>by have:=S.M.zf h.a b e;omega,S.M.qh h.q hc fun b e=>by have:=S.M.zf h.q b e;omega,S.M.qh h.f hc fun b e=>by have:=S.M.zf h.f b e;omega⟩
theorem xg.low_ch (h:xg N W lb txt k L nf m)(hl:N≤lb)(hc:S.M.Ch (fun b=>b < N) W W'):xg N W' lb txt k L nf m:=by
 have old:∀b,b < W.heap.size→N≤b→W'.heap[b]?=W.heap[b]?:=fun b h1 h2=>hc.block b h1 (by omega)
 have hot:∀b,m.hot b→¬b < N:=fun b hb=>by have:=h.low b hb;omega
 refine⟨⟨(old lb (aIx h.cold.lbox) hl).trans h.cold.lbox,h.cold.lh,fun y hy=>?_,fun x hx=>?_⟩,?_,qbp h.tab hc fun b hb=>hot b (.inl hb),qbo h.stk hc fun b hb=>hot b (.inr (.inl hb)),h.sca,q1q h.num hc (hot _ (.inr (.inr (.inr (.inl rfl))))),S.M.qh h.hyr hc fun b e=>hot b (.inr (.inr (.inr (.inr (.inr (.inr (.inl e))))))),h.hya,q1q h.hym hc (hot _ (.inr (.inr (.inr (.inr (.inl rfl)))))),S.M.qh h.asr hc fun b e=>hot b (.inr (.inr (.inr (.inr (.inr (.inr (.inr e))))))),h.asa,q1q h.asm hc (hot _ (.inr (.inr (.inr (.inr (.inr (.inl rfl))))))),h.ta,h.qa,h.ne,h.low,nLt h.ge hc.size⟩
 ·obtain⟨h1,h2⟩:=h.cold.e y hy;exact⟨S.M.qh h1 hc fun b e=>by have:=S.M.zf h1 b e;omega,h2⟩
 ·obtain⟨h1,h2⟩:=h.cold.a x hx;exact⟨h1.low hc,h2⟩
 ·exact (old _ (h.lt _ (.inr (.inr (.inl rfl)))) (h.low _ (.inr (.inr (.inl rfl))))).trans h.bbox
end
end B
end Go.Proofs.YtbancemhfjjmlaaGreatDoor
