/- Laid together. -/
import Derived.Test.YtbancemhfjjmlaaGreatDoorQB13
set_option maxRecDepth 100000
set_option maxHeartbeats 32000000
namespace Go.Proofs.YtbancemhfjjmlaaGreatDoor
namespace B
open Go.RowKit
open S (Tok Stm)
structure Past (N:Nat)(w:World)(lb:Nat)(txt:ByteArray)(k:Nat)(m:LdM)(L1:Ld)(m1:LdM)(s:Stm)(vw vp:Value)(u:World):Prop where
 i:xg N u lb txt (k + 2) L1 (Y.numOf L1.T.syms) m1
 o:L1.Ok (k + 2)
 c:S.M.Ch m.hot w u
 g:∀b,m1.hot b→m.hot b∨w.heap.size≤b
 st:q1a N m1 u s vw vp
 kb:Y.KB u
 bx:u.heap[w.heap.size]?=some (.cells (yc s vw vp) 95 (0,0))
 nb:¬m1.hot w.heap.size
section
variable {N:Nat} {w u:World} {lb:Nat} {txt:ByteArray} {k:Nat} {L L1:Ld} {m m1:LdM} {s:Stm} {vw vp:Value}
theorem Past.below {W':World}(h:Past N w lb txt k m L1 m1 s vw vp u)(hb:Below u.heap.size u W'):Past N w lb txt k m L1 m1 s vw vp W' :=
 ⟨h.i.below hb,h.o,h.c.trans (S.M.Ch.oB hb),h.g,h.st.below hb,h.kb.kept (hb.block 1 h.kb.pos),(hb.block _ (aIx h.bx)).trans h.bx,h.nb⟩
theorem Past.held {W':World}(h:Past N w lb txt k m L1 m1 s vw vp u)(hc:S.M.Ch m1.hot u W'):W'.heap[w.heap.size]?=some (.cells (yc s vw vp) 95 (0,0))∧W'.cell? ⟨lb,1,none⟩=some (.pointer (some ⟨m1.tq,0,none⟩))∧W'.cell? ⟨lb,2,none⟩=some (.pointer (some ⟨m1.P,0,none⟩)):=by
 have hl:=(hc.block lb (aIx h.i.cold.lbox) h.i.cold.lh).trans h.i.cold.lbox;exact⟨(hc.block _ (aIx h.bx) h.nb).trans h.bx,S.M.qc hl 1,S.M.qc hl 2⟩
theorem Past.does {k':Nat}{r:Res Ld}{e:Ending}{W2:World}(h:Past N w lb txt k m L1 m1 s vw vp u)(hk:k'≤k + 60000)(d:Does N u lb txt m1 k' r e W2):Does N w lb txt m (k + 60000) r e W2:=(Does.via h.c h.g d).up hk
theorem Past.k1 (h:Past N w lb txt k m L1 m1 s vw vp u)(hk:k < 1000000000)(hN:1 < N):Calls Tryz.prog 108 #[.pointer (some ⟨lb,0,none⟩),q0o s vw vp] u (Does N w lb txt m (k + 60000) (q38 L1 s)) :=
 (qcv h.i h.o (by omega) h.kb hN h.st).mono fun _ _ d=>h.does (by omega) d
theorem Past.k5 (h:Past N w lb txt k m L1 m1 s vw vp u):Calls Tryz.prog 111 #[.pointer (some ⟨lb,0,none⟩),q0o s vw vp] u (Does N w lb txt m (k + 60000) (q2s L1 s)) :=
 (qbm h.i h.o h.st).mono fun _ _ d=>h.does (by omega) d
theorem Past.k3 (h:Past N w lb txt k m L1 m1 s vw vp u)(hk:k < 1000000000)(hn:q1p L1.hy s.label.text=none)(h2:q0m s.fin=true→s.words.length=2):Calls Tryz.prog 112 #[.pointer (some ⟨lb,0,none⟩),q0o s vw vp] u (Does N w lb txt m (k + 60000) (q1s L1 s)) :=
 (q90 h.i h.o (by omega) h.st hn h2).mono fun _ _ d=>h.does (by omega) d
theorem Past.k4 (h:Past N w lb txt k m L1 m1 s vw vp u)(hk:k < 1000000000)(hn:q1p L1.hy s.label.text=none):Calls Tryz.prog 113 #[.pointer (some ⟨lb,0,none⟩),q0o s vw vp] u (Does N w lb txt m (k + 60000) (q7e L1 s)) :=
 (qec h.i h.o (by omega) h.st hn).mono fun _ _ d=>h.does (by omega) d
theorem Past.k6 (h:Past N w lb txt k m L1 m1 s vw vp u)(hk:k < 1000000000)(hn:q3a L1.al s.label.text=none):Calls Tryz.prog 114 #[.pointer (some ⟨lb,0,none⟩),q0o s vw vp] u (Does N w lb txt m (k + 60000) (q1m L1 s)) :=
 (qji h.i h.o (by omega) h.st hn).mono fun _ _ d=>h.does (by omega) d
theorem Past.k2 {aw:Option Addr}{nw cw:Nat}(h:Past N w lb txt k m L1 m1 s (.slice aw nw cw) vp u)(hk:k < 1000000000)(hN:1 < N):Calls Tryz.prog 109 #[.pointer (some ⟨lb,0,none⟩),.slice aw nw cw,.func (.func 110) #[.pointer (some ⟨m1.tq,0,none⟩)] #[]] u (Does N w lb txt m (k + 60000) (q0l Y.q3g L1 s.words)):=by
 obtain⟨a,c,e,hW⟩:=h.st.words
 cases e;have hl:=h.st.lw;exact (qeq h.i h.o.tab (by omega) h.kb hN aw _ cw s.words rfl (by omega) hW fun t ht=>by have:=h.st.zw t ht;omega).mono fun _ _ d=>h.does (by omega) d
theorem Past.k8a (h:Past N w lb txt k m L1 m1 s vw vp u)(_:k < 1000000000):Calls Tryz.prog 104 #[.pointer (some ⟨m1.tq,0,none⟩)] u fun e w'=>e=.returned (.int .i64 ((Y.jf L1.T).1:Nat))∧Goes N u lb txt m1 (k + 4) { L1 with T:=(Y.jf L1.T).2 } (Y.numOf L1.T.syms) w':=(h.i.openC).mono fun _ _ d=>⟨d.1,d.2.up (by omega)⟩
theorem Past.k8b {W' W2:World}(h:Past N w lb txt k m L1 m1 s vw vp u)(hg:Goes N u lb txt m1 (k + 4) { L1 with T:=(Y.jf L1.T).2 } (Y.numOf L1.T.syms) W')(hb:Below W'.heap.size W' W2):Calls Tryz.prog 105 #[.pointer (some ⟨m1.P,0,none⟩)] W2 fun e w'=>e=.returned (.int .i64 (F.q1t L1.sc))∧Goes N u lb txt m1 (k + 4) { L1 with T:=(Y.jf L1.T).2,sc:=F.q0t L1.sc } (Y.numOf (Y.jf L1.T).2.syms) w':=by
 obtain⟨c1,m2,i2,g2⟩:=hg.jd hb;have e1:=(h.i.ptrs c1 i2).2.2;have e2:(Y.jf L1.T).2.syms=L1.T.syms:=qjj _;rw[←e1,e2];have h1:=h.o.sc1;have h2:=h.o.sc2;exact (i2.sopenC (by show L1.sc.length≤_;omega)).mono fun e w' hd=>⟨hd.1,q34 c1 g2 hd.2⟩
theorem Past.k9a (h:Past N w lb txt k m L1 m1 s vw vp u)(hk:k < 1000000000):Calls Tryz.prog 106 #[.pointer (some ⟨m1.tq,0,none⟩)] u fun e w'=>e=.returned (.int .i64 ((Y.xk L1.T).1:Nat))∧Goes N u lb txt m1 (k + 4) { L1 with T:=(Y.xk L1.T).2 } (Y.numOf L1.T.syms) w':=(h.i.closeC h.o (by omega)).mono fun _ _ d=>⟨d.1,d.2.up (by omega)⟩
theorem Past.k9b {W' W2:World}(h:Past N w lb txt k m L1 m1 s vw vp u)(hg:Goes N u lb txt m1 (k + 4) { L1 with T:=(Y.xk L1.T).2 } (Y.numOf L1.T.syms) W')(hb:Below W'.heap.size W' W2):Calls Tryz.prog 107 #[.pointer (some ⟨m1.P,0,none⟩)] W2 fun e w'=>e=.returned (.int .i64 (F.q0u L1.sc))∧Goes N u lb txt m1 (k + 4) { L1 with T:=(Y.xk L1.T).2,sc:=F.uy L1.sc } (Y.numOf (Y.xk L1.T).2.syms) w':=by
 obtain⟨c1,m2,i2,g2⟩:=hg.jd hb;have e1:=(h.i.ptrs c1 i2).2.2;have e2:(Y.xk L1.T).2.syms=L1.T.syms:=qgz _;rw[←e1,e2];have h1:=h.o.sc1;have h2:=h.o.sc2;exact (i2.scloseC (by show L1.sc.length≤_;omega) h1).mono fun e w' hd=>⟨hd.1,q34 c1 g2 hd.2⟩
theorem q1o {aw ap:Option Addr}{nw cw np cp:Nat}(h:xg N w lb txt k L (Y.numOf L.T.syms) m)(hO:L.Ok k)(hk:k < 1000000000)(hKB:Y.KB w)(hN:1 < N)(hs:q1a N m w s (.slice aw nw cw) (.slice ap np cp)) :
  ∃w1,w1=w.alloc (.cells (yc s (.slice aw nw cw) (.slice ap np cp)) 95)∧Below w.heap.size w w1∧w1.heap[w.heap.size]?=some (.cells (yc s (.slice aw nw cw) (.slice ap np cp)) 95 (0,0))∧w1.heap.size=w.heap.size + 1∧Hid (Past N w lb txt k m L m s (.slice aw nw cw) (.slice ap np cp) w1)∧Hid (Calls Tryz.prog 103 #[.pointer (some ⟨m.tq,0,none⟩),.string s.label.text] w1.drew fun e w'=>e=.returned (.int .i64 ((Y.zh L.T s.label.text).1:Nat))∧Goes N w1.drew lb txt m (k + 2) { L with T:=(Y.zh L.T s.label.text).2 } (Y.numOf L.T.syms) w')∧Hid (∀wx,Calls Tryz.prog 102 #[S.zo s.label,.int .i64 ((Y.zh L.T s.label.text).1:Nat)] wx (Chk s.label ((Y.zh L.T s.label.text).1:Nat) wx))∧Hid ((Y.zh L.T s.label.text).1=0→q1p L.hy s.label.text=none∧q3a L.al s.label.text=none)∧Hid (∀w5,Goes N w1.drew lb txt m (k + 2) { L with T:=(Y.zh L.T s.label.text).2 } (Y.numOf L.T.syms) w5→∃m1,Past N w lb txt k m { L with T:=(Y.zh L.T s.label.text).2 } m1 s (.slice aw nw cw) (.slice ap np cp) w5):=by
 have b0:Below w.heap.size w (w.alloc (.cells (yc s (.slice aw nw cw) (.slice ap np cp)) 95)):=S.qg _ _;have bn:(w.alloc (.cells (yc s (.slice aw nw cw) (.slice ap np cp)) 95)).heap[w.heap.size]?=some (.cells (yc s (.slice aw nw cw) (.slice ap np cp)) 95 (0,0)):=World.alloc_heap_new w _;obtain⟨w1,hw1⟩:=eXa (w.alloc (.cells (yc s (.slice aw nw cw) (.slice ap np cp)) 95));rw[←hw1] at b0 bn;have hsz:w1.heap.size=w.heap.size + 1:=by rw[hw1];show (w.heap.push _).size=_;simp
 have PW:Hid (Past N w lb txt k m L m s (.slice aw nw cw) (.slice ap np cp) w1):=⟨(h.below b0).up (by omega),hO.up (by omega),S.M.Ch.oB b0,fun _=>.inl,hs.below b0,hKB.kept (b0.block 1 hKB.pos),bn,fun hh=>by have:=h.lt _ hh;omega⟩;have LC:Hid (Calls Tryz.prog 103 #[.pointer (some ⟨m.tq,0,none⟩),.string s.label.text] w1.drew fun e w'=>e=.returned (.int .i64 ((Y.zh L.T s.label.text).1:Nat))∧Goes N w1.drew lb txt m (k + 2) { L with T:=(Y.zh L.T s.label.text).2 } (Y.numOf L.T.syms) w'):=(((h.below b0).below (S.M.zi bRf 1)).labelC hO (by omega) (hKB.kept ((b0.trans (S.M.zi bRf 1)).block 1 hKB.pos)) s.label.text (by have:=hs.zl;unfold maxLen;omega));have CK:Hid (∀wx,Calls Tryz.prog 102 #[S.zo s.label,.int .i64 ((Y.zh L.T s.label.text).1:Nat)] wx (Chk s.label ((Y.zh L.T s.label.text).1:Nat) wx)):=fun wx=>check_any wx s.label _
 have FS:Hid ((Y.zh L.T s.label.text).1=0→q1p L.hy s.label.text=none∧q3a L.al s.label.text=none):=qnn hO;have PT:Hid (∀w5,Goes N w1.drew lb txt m (k + 2) { L with T:=(Y.zh L.T s.label.text).2 } (Y.numOf L.T.syms) w5→∃m1,Past N w lb txt k m { L with T:=(Y.zh L.T s.label.text).2 } m1 s (.slice aw nw cw) (.slice ap np cp) w5):=fun w5 hg=>by
  obtain⟨c5,m5,i5,g5⟩:=hg;have bd:Below w1.heap.size w1 w1.drew:=S.M.zi bRf 1;have g6:∀b,m5.hot b→m.hot b∨w1.heap.size≤b:=g5;have hnb:¬m.hot w.heap.size:=PW.out.nb;have hc:S.M.Ch m.hot w w5:=(S.M.Ch.oB (b0.trans (S.M.zi bRf 1))).trans c5;have hkb:Y.KB w1.drew:=hKB.kept ((b0.trans (S.M.zi bRf 1)).block 1 hKB.pos);refine⟨m5,?_,qqq s.label.text (hO.up (by omega)),hc,fun b hb=>(g6 b hb).imp id fun e=>by omega,(PW.out.st.below bd).ch c5 (fun _=>id) g5,qae hkb hN ((h.below b0).below bd) c5,(c5.block _ (by show _ < w1.heap.size;omega) hnb).trans bn,fun hh=>(g6 _ hh).elim hnb fun e=>by omega⟩;have e2:(Y.zh L.T s.label.text).2.syms=L.T.syms:=qgy _ _;rw[←e2] at i5;exact i5
 exact⟨w1,hw1,b0,bn,hsz,PW,LC,CK,FS,PT⟩
end
section
variable {N:Nat} {w u:World} {lb:Nat} {txt:ByteArray} {k:Nat} {L L1:Ld} {m m1:LdM} {s:Stm} {vw vp:Value}
theorem qjt (h:xg N w lb txt k L (Y.numOf L.T.syms) m)(hO:L.Ok k)(hk:k < 1000000000)(hKB:Y.KB w)(hN:1 < N)(hs:q1a N m w s vw vp)(hok:q1e s)(he:q0m s.label=false)(hkd:s.kind=8):Calls Tryz.prog 56 #[.pointer (some ⟨lb,0,none⟩),q0o s vw vp] w (Does N w lb txt m (k + 60000) (qm L s)):=by
 obtain⟨aw,cw,rfl,hW⟩:=hs.words;obtain⟨ap,cp,rfl,_⟩:=S.wo hs.op;generalize hnw:s.words.length=nw at *;generalize hnp:s.proof.length=np at *;obtain⟨w1,hw1,b0,bn,hsz,PW,LC,CK,FS,PT⟩:=q1o h hO hk hKB hN hs;have HOK:Hid (q1e s):=hok;have HN1:Hid (1 < N):=hN;clear hs hW hO hKB b0 bn hok hN hsz h hnw hnp;have HE:=hid he;have hl:(!s.label.text.toList.isEmpty)=false:=by rw[ByteArray.toList_eq];exact he
 have R1:Hid (qm L s=zy L s):=by unfold qm q3y;show _=_;rw[he];rfl
 clear LC CK FS PT he;have z1:w1.cell? ⟨w.heap.size,1,none⟩=some (.string s.label.text):=S.M.qc PW.out.bx 1;unfold q0o;go_enter Tryz.func56,Tryz.ntmps56;go_upto_region 1 with fail;rw[←hw1];clear hw1;go_upto_region 3 with fail;clear hl z1;have FR:Hid True:=trivial;have PA:=hid PW;clear PW;obtain⟨u,hu⟩:=eXb w1;rw[hu] at PA ⊢;clear hu;obtain⟨m1,hm1⟩:=eXa m;obtain⟨L1,hL1⟩:=eXa L;have PA2:Hid (Past N w lb txt k m L1 m1 s (.slice aw nw cw) (.slice ap np cp) u):=by rw[hm1,hL1];exact PA
 replace R1:Hid (qm L s=zy L1 s):=by rw[hL1];exact R1
 clear PA;have PA:=PA2;clear PA2 hm1 hL1;have z:∀i,u.cell? ⟨w.heap.size,i,none⟩=(yc s (.slice aw nw cw) (.slice ap np cp))[i]?:=S.M.qc PA.out.bx;clear FR;have z0:u.cell? ⟨w.heap.size,0,none⟩=some (.int .i64 8):=(z 0).trans (by show some (Value.int .i64 s.kind)=_;rw[hkd]);clear z;have R2:Hid (qm L s=q89 L1 s.key):=R1.out.trans (by unfold zy;rw[hkd];rfl);have P0:Hid (Past N w lb txt k m L1 m1 s (.slice aw nw cw) (.slice ap np cp) u.drew):=PA.out.below (S.M.zi bRf 1);have SA:Hid (∀w',S.M.Ch m1.hot u.drew w'→w'.cell? ⟨lb,1,none⟩=some (.pointer (some ⟨m1.tq,0,none⟩))∧w'.cell? ⟨lb,2,none⟩=some (.pointer (some ⟨m1.P,0,none⟩))∧w'.cell? ⟨w.heap.size,5,none⟩=some (.string s.key.text)∧w'.cell? ⟨w.heap.size,6,none⟩=some (.int .i64 s.key.off)∧w'.cell? ⟨w.heap.size,7,none⟩=some (.int .i64 s.key.line)∧w'.cell? ⟨w.heap.size,8,none⟩=some (.int .i64 s.key.col)):=fun w' hc=>by obtain⟨h1,h2,h3⟩:=P0.out.held hc;exact⟨h2,h3,S.M.qc h1 5,S.M.qc h1 6,S.M.qc h1 7,S.M.qc h1 8⟩
 have TA:Hid _:=P0.out.k8a hk;have TB:Hid (∀w5,Goes N u.drew lb txt m1 (k + 4) { L1 with T:=(Y.jf L1.T).2 } (Y.numOf L1.T.syms) w5→Calls Tryz.prog 105 #[.pointer (some ⟨m1.P,0,none⟩)] w5.drew fun e w'=>e=.returned (.int .i64 (F.q1t L1.sc))∧Goes N u.drew lb txt m1 (k + 4) { L1 with T:=(Y.jf L1.T).2,sc:=F.q0t L1.sc } (Y.numOf (Y.jf L1.T).2.syms) w'):=fun w5 hg=>P0.out.k8b hg (S.M.zi bRf 1)
 have CKa:Hid (∀wx,Calls Tryz.prog 102 #[S.zo s.key,.int .i64 ((Y.jf L1.T).1:Nat)] wx (Chk s.key ((Y.jf L1.T).1:Nat) wx)):=fun wx=>check_any wx s.key _
 have CKb:Hid (∀wx,Calls Tryz.prog 102 #[S.zo s.key,.int .i64 (F.q1t L1.sc)] wx (Chk s.key (F.q1t L1.sc) wx)):=fun wx=>check_any wx s.key _
 have DN:Hid (∀(w':World) (c:Int) (e:Ending) (w4:World),S.M.Ch m1.hot u.drew w4→Below w4.heap.size w4 w'→qm L s=.error (s.key,c)→Quits s.key c w4.heap.size e w'→Does N w lb txt m (k + 60000) (qm L s) e w'):=fun w' c e w4 hc hb hr hq=>PA.out.does (Nat.le_refl _) (q0y hr (((S.M.Ch.oB (S.M.zi bRf 1)).trans hc).trans (S.M.Ch.oB hb)) (hq.le hc.size))
 have CD:Hid (S.M.Ch m1.hot u.drew u.drew):=S.M.Ch.oB bRf;unfold S.zo at CKa CKb
 by_cases hA:(Y.jf L1.T).1=0
 ·have HA:Hid (((Y.jf L1.T).1:Int)=0):=by show _=_;rw[hA];rfl
  have R3:Hid (qm L s=yj s.key (F.q1t L1.sc) { L1 with T:=(Y.jf L1.T).2,sc:=F.q0t L1.sc }):=R2.out.trans (if_pos hA);clear hA R2 hkd;go_upto_region 5 with fail
  go_region_held3 (fun w'=>w'.cell? ⟨lb,1,none⟩=some (.pointer (some ⟨m1.tq,0,none⟩))∧w'.cell? ⟨lb,2,none⟩=some (.pointer (some ⟨m1.P,0,none⟩))∧w'.cell? ⟨w.heap.size,5,none⟩=some (.string s.key.text)∧w'.cell? ⟨w.heap.size,6,none⟩=some (.int .i64 s.key.off)∧w'.cell? ⟨w.heap.size,7,none⟩=some (.int .i64 s.key.line)∧w'.cell? ⟨w.heap.size,8,none⟩=some (.int .i64 s.key.col)) (refine⟨?_,?_,?_,?_,?_,?_⟩ <;> first | assumption | exact (SA.out _ (by assumption)).1 | exact (SA.out _ (by assumption)).2.1 | exact (SA.out _ (by assumption)).2.2.1 | exact (SA.out _ (by assumption)).2.2.2.1 | exact (SA.out _ (by assumption)).2.2.2.2.1 | exact (SA.out _ (by assumption)).2.2.2.2.2)
   (first
   | (go_simp;go_at_call 104;refine cMo TA.out ?_;rintro ee w4 ⟨rfl,hg⟩;have GG:Hid (Goes N u.drew lb txt m1 (k + 4) { L1 with T:=(Y.jf L1.T).2 } (Y.numOf L1.T.syms) w4):=hg;have CC:Hid (S.M.Ch m1.hot u.drew w4):=hg.1;clear hg)
   | (go_simp;go_at_call 102;refine cMo (CKa.out _) ?_;rintro ee w5 ⟨hb5,he5⟩;rw[if_pos HA.out] at he5;subst he5;have G5:Hid (Goes N u.drew lb txt m1 (k + 4) { L1 with T:=(Y.jf L1.T).2 } (Y.numOf L1.T.syms) w5):=GG.out.jd hb5;have CC2:Hid (S.M.Ch m1.hot u.drew w5.drew):=G5.out.1.trans (S.M.Ch.oB (S.M.zi bRf 1));have CC3:Hid (S.M.Ch m1.hot u.drew w5):=G5.out.1;clear hb5))
  have TB1:Hid _:=TB.out w5 G5.out
  by_cases hB:F.q1t L1.sc=0
  ·have HB:=hid hB;have R4:Hid (qm L s=.ok { L1 with T:=(Y.jf L1.T).2,sc:=F.q0t L1.sc }):=R3.out.trans (if_pos hB);clear hB R3 TB TA CKa GG CC;go_upto_region 6 with fail
   go_region_held3 (fun w'=>w'.cell? ⟨lb,1,none⟩=some (.pointer (some ⟨m1.tq,0,none⟩))∧w'.cell? ⟨lb,2,none⟩=some (.pointer (some ⟨m1.P,0,none⟩))∧w'.cell? ⟨w.heap.size,5,none⟩=some (.string s.key.text)∧w'.cell? ⟨w.heap.size,6,none⟩=some (.int .i64 s.key.off)∧w'.cell? ⟨w.heap.size,7,none⟩=some (.int .i64 s.key.line)∧w'.cell? ⟨w.heap.size,8,none⟩=some (.int .i64 s.key.col)) (refine⟨?_,?_,?_,?_,?_,?_⟩ <;> first | assumption | exact (SA.out _ (by assumption)).1 | exact (SA.out _ (by assumption)).2.1 | exact (SA.out _ (by assumption)).2.2.1 | exact (SA.out _ (by assumption)).2.2.2.1 | exact (SA.out _ (by assumption)).2.2.2.2.1 | exact (SA.out _ (by assumption)).2.2.2.2.2)
    (first
    | (go_simp;go_at_call 105;refine cMo TB1.out ?_;rintro ee w6 ⟨rfl,hg6⟩;have GH:Hid (Goes N u.drew lb txt m1 (k + 4) { L1 with T:=(Y.jf L1.T).2,sc:=F.q0t L1.sc } (Y.numOf (Y.jf L1.T).2.syms) w6):=hg6;have CC6:Hid (S.M.Ch m1.hot u.drew w6):=hg6.1;clear hg6)
    | (go_simp;go_at_call 102;refine cMo (CKb.out _) ?_;rintro ee w7 ⟨hb7,he7⟩;rw[if_pos HB.out] at he7;subst he7;have G7:Hid (Goes N u.drew lb txt m1 (k + 4) { L1 with T:=(Y.jf L1.T).2,sc:=F.q0t L1.sc } (Y.numOf (Y.jf L1.T).2.syms) w7):=GH.out.jd hb7;have CC7:Hid (S.M.Ch m1.hot u.drew w7):=G7.out.1;clear hb7))
   go_wp2
   exact bodyPost_end (results_none rfl _ _ _) rfl (P0.out.does (by omega) (gq R4.out rfl G7.out))
  ·have HB:=hid hB;have R4:Hid (qm L s=.error (s.key,F.q1t L1.sc)):=R3.out.trans (if_neg hB);obtain⟨x1,x2,z5,z6,z7,z8⟩:=SA.out _ CC2.out;clear hB R3 TB TA CKa GG CC;go_upto_region 6 with fail
   go_region_law (first
    | (go_simp;go_at_call 105;refine cMo TB1.out ?_;rintro ee w6 ⟨rfl,hg6⟩;have GH:Hid (Goes N u.drew lb txt m1 (k + 4) { L1 with T:=(Y.jf L1.T).2,sc:=F.q0t L1.sc } (Y.numOf (Y.jf L1.T).2.syms) w6):=hg6;obtain⟨v1,v2,v5,v6,v7,v8⟩:=SA.out _ hg6.1;clear hg6)
    | (go_simp;go_at_call 102;refine cMo (CKb.out _) ?_;rintro ee w7 ⟨hb7,he7⟩;rw[if_neg HB.out] at he7;have he8:=he7;obtain⟨b,rfl,q2,q3⟩:=he7;refine q14 (h:=⟨rfl,DN.out _ _ _ _ GH.out.1 hb7 R4.out he8⟩) ?_))
   all_goals trivial
 ·have HA:Hid (¬((Y.jf L1.T).1:Int)=0):=by show ¬_;omega
  have R3:Hid (qm L s=.error (s.key,((Y.jf L1.T).1:Nat))):=R2.out.trans (if_neg hA);obtain⟨x1,x2,z5,z6,z7,z8⟩:=SA.out _ CD.out;clear hA R2 hkd TB CKb;go_upto_region 5 with fail
  go_region_law (first
   | (go_simp;go_at_call 104;refine cMo TA.out ?_;rintro ee w4 ⟨rfl,hg⟩;have GG:Hid (Goes N u.drew lb txt m1 (k + 4) { L1 with T:=(Y.jf L1.T).2 } (Y.numOf L1.T.syms) w4):=hg;obtain⟨v1,v2,v5,v6,v7,v8⟩:=SA.out _ hg.1;clear hg)
   | (go_simp;go_at_call 102;refine cMo (CKa.out _) ?_;rintro ee w5 ⟨hb5,he5⟩;rw[if_neg HA.out] at he5;have he8:=he5;obtain⟨b,rfl,q2,q3⟩:=he5;refine q14 (h:=⟨rfl,DN.out _ _ _ _ GG.out.1 hb5 R3.out he8⟩) ?_))
  all_goals trivial
theorem qju (h:xg N w lb txt k L (Y.numOf L.T.syms) m)(hO:L.Ok k)(hk:k < 1000000000)(hKB:Y.KB w)(hN:1 < N)(hs:q1a N m w s vw vp)(hok:q1e s)(he:q0m s.label=false)(hkd:s.kind=9):Calls Tryz.prog 56 #[.pointer (some ⟨lb,0,none⟩),q0o s vw vp] w (Does N w lb txt m (k + 60000) (qm L s)):=by
 obtain⟨aw,cw,rfl,hW⟩:=hs.words;obtain⟨ap,cp,rfl,_⟩:=S.wo hs.op;generalize hnw:s.words.length=nw at *;generalize hnp:s.proof.length=np at *;obtain⟨w1,hw1,b0,bn,hsz,PW,LC,CK,FS,PT⟩:=q1o h hO hk hKB hN hs;have HOK:Hid (q1e s):=hok;have HN1:Hid (1 < N):=hN;clear hs hW hO hKB b0 bn hok hN hsz h hnw hnp;have HE:=hid he;have hl:(!s.label.text.toList.isEmpty)=false:=by rw[ByteArray.toList_eq];exact he
 have R1:Hid (qm L s=zy L s):=by unfold qm q3y;show _=_;rw[he];rfl
 clear LC CK FS PT he;have z1:w1.cell? ⟨w.heap.size,1,none⟩=some (.string s.label.text):=S.M.qc PW.out.bx 1;unfold q0o;go_enter Tryz.func56,Tryz.ntmps56;go_upto_region 1 with fail;rw[←hw1];clear hw1;go_upto_region 3 with fail;clear hl z1;have FR:Hid True:=trivial;have PA:=hid PW;clear PW;obtain⟨u,hu⟩:=eXb w1;rw[hu] at PA ⊢;clear hu;obtain⟨m1,hm1⟩:=eXa m;obtain⟨L1,hL1⟩:=eXa L;have PA2:Hid (Past N w lb txt k m L1 m1 s (.slice aw nw cw) (.slice ap np cp) u):=by rw[hm1,hL1];exact PA
 replace R1:Hid (qm L s=zy L1 s):=by rw[hL1];exact R1
 clear PA;have PA:=PA2;clear PA2 hm1 hL1;have z:∀i,u.cell? ⟨w.heap.size,i,none⟩=(yc s (.slice aw nw cw) (.slice ap np cp))[i]?:=S.M.qc PA.out.bx;clear FR;have z0:u.cell? ⟨w.heap.size,0,none⟩=some (.int .i64 9):=(z 0).trans (by show some (Value.int .i64 s.kind)=_;rw[hkd]);clear z;have R2:Hid (qm L s=q63 L1 s.key):=R1.out.trans (by unfold zy;rw[hkd];rfl);have P0:Hid (Past N w lb txt k m L1 m1 s (.slice aw nw cw) (.slice ap np cp) u.drew):=PA.out.below (S.M.zi bRf 1);have SA:Hid (∀w',S.M.Ch m1.hot u.drew w'→w'.cell? ⟨lb,1,none⟩=some (.pointer (some ⟨m1.tq,0,none⟩))∧w'.cell? ⟨lb,2,none⟩=some (.pointer (some ⟨m1.P,0,none⟩))∧w'.cell? ⟨w.heap.size,5,none⟩=some (.string s.key.text)∧w'.cell? ⟨w.heap.size,6,none⟩=some (.int .i64 s.key.off)∧w'.cell? ⟨w.heap.size,7,none⟩=some (.int .i64 s.key.line)∧w'.cell? ⟨w.heap.size,8,none⟩=some (.int .i64 s.key.col)):=fun w' hc=>by obtain⟨h1,h2,h3⟩:=P0.out.held hc;exact⟨h2,h3,S.M.qc h1 5,S.M.qc h1 6,S.M.qc h1 7,S.M.qc h1 8⟩
 have TA:Hid _:=P0.out.k9a hk;have TB:Hid (∀w5,Goes N u.drew lb txt m1 (k + 4) { L1 with T:=(Y.xk L1.T).2 } (Y.numOf L1.T.syms) w5→Calls Tryz.prog 107 #[.pointer (some ⟨m1.P,0,none⟩)] w5.drew fun e w'=>e=.returned (.int .i64 (F.q0u L1.sc))∧Goes N u.drew lb txt m1 (k + 4) { L1 with T:=(Y.xk L1.T).2,sc:=F.uy L1.sc } (Y.numOf (Y.xk L1.T).2.syms) w'):=fun w5 hg=>P0.out.k9b hg (S.M.zi bRf 1)
 have CKa:Hid (∀wx,Calls Tryz.prog 102 #[S.zo s.key,.int .i64 ((Y.xk L1.T).1:Nat)] wx (Chk s.key ((Y.xk L1.T).1:Nat) wx)):=fun wx=>check_any wx s.key _
 have CKb:Hid (∀wx,Calls Tryz.prog 102 #[S.zo s.key,.int .i64 (F.q0u L1.sc)] wx (Chk s.key (F.q0u L1.sc) wx)):=fun wx=>check_any wx s.key _
 have DN:Hid (∀(w':World) (c:Int) (e:Ending) (w4:World),S.M.Ch m1.hot u.drew w4→Below w4.heap.size w4 w'→qm L s=.error (s.key,c)→Quits s.key c w4.heap.size e w'→Does N w lb txt m (k + 60000) (qm L s) e w'):=fun w' c e w4 hc hb hr hq=>PA.out.does (Nat.le_refl _) (q0y hr (((S.M.Ch.oB (S.M.zi bRf 1)).trans hc).trans (S.M.Ch.oB hb)) (hq.le hc.size))
 have CD:Hid (S.M.Ch m1.hot u.drew u.drew):=S.M.Ch.oB bRf;unfold S.zo at CKa CKb
 by_cases hA:(Y.xk L1.T).1=0
 ·have HA:Hid (((Y.xk L1.T).1:Int)=0):=by show _=_;rw[hA];rfl
  have R3:Hid (qm L s=yj s.key (F.q0u L1.sc) { L1 with T:=(Y.xk L1.T).2,sc:=F.uy L1.sc }):=R2.out.trans (if_pos hA);clear hA R2 hkd;go_upto_region 8 with fail
  go_region_held3 (fun w'=>w'.cell? ⟨lb,1,none⟩=some (.pointer (some ⟨m1.tq,0,none⟩))∧w'.cell? ⟨lb,2,none⟩=some (.pointer (some ⟨m1.P,0,none⟩))∧w'.cell? ⟨w.heap.size,5,none⟩=some (.string s.key.text)∧w'.cell? ⟨w.heap.size,6,none⟩=some (.int .i64 s.key.off)∧w'.cell? ⟨w.heap.size,7,none⟩=some (.int .i64 s.key.line)∧w'.cell? ⟨w.heap.size,8,none⟩=some (.int .i64 s.key.col)) (refine⟨?_,?_,?_,?_,?_,?_⟩ <;> first | assumption | exact (SA.out _ (by assumption)).1 | exact (SA.out _ (by assumption)).2.1 | exact (SA.out _ (by assumption)).2.2.1 | exact (SA.out _ (by assumption)).2.2.2.1 | exact (SA.out _ (by assumption)).2.2.2.2.1 | exact (SA.out _ (by assumption)).2.2.2.2.2)
   (first
   | (go_simp;go_at_call 106;refine cMo TA.out ?_;rintro ee w4 ⟨rfl,hg⟩;have GG:Hid (Goes N u.drew lb txt m1 (k + 4) { L1 with T:=(Y.xk L1.T).2 } (Y.numOf L1.T.syms) w4):=hg;have CC:Hid (S.M.Ch m1.hot u.drew w4):=hg.1;clear hg)
   | (go_simp;go_at_call 102;refine cMo (CKa.out _) ?_;rintro ee w5 ⟨hb5,he5⟩;rw[if_pos HA.out] at he5;subst he5;have G5:Hid (Goes N u.drew lb txt m1 (k + 4) { L1 with T:=(Y.xk L1.T).2 } (Y.numOf L1.T.syms) w5):=GG.out.jd hb5;have CC2:Hid (S.M.Ch m1.hot u.drew w5.drew):=G5.out.1.trans (S.M.Ch.oB (S.M.zi bRf 1));have CC3:Hid (S.M.Ch m1.hot u.drew w5):=G5.out.1;clear hb5))
  have TB1:Hid _:=TB.out w5 G5.out
  by_cases hB:F.q0u L1.sc=0
  ·have HB:=hid hB;have R4:Hid (qm L s=.ok { L1 with T:=(Y.xk L1.T).2,sc:=F.uy L1.sc }):=R3.out.trans (if_pos hB);clear hB R3 TB TA CKa GG CC;go_upto_region 9 with fail
   go_region_held3 (fun w'=>w'.cell? ⟨lb,1,none⟩=some (.pointer (some ⟨m1.tq,0,none⟩))∧w'.cell? ⟨lb,2,none⟩=some (.pointer (some ⟨m1.P,0,none⟩))∧w'.cell? ⟨w.heap.size,5,none⟩=some (.string s.key.text)∧w'.cell? ⟨w.heap.size,6,none⟩=some (.int .i64 s.key.off)∧w'.cell? ⟨w.heap.size,7,none⟩=some (.int .i64 s.key.line)∧w'.cell? ⟨w.heap.size,8,none⟩=some (.int .i64 s.key.col)) (refine⟨?_,?_,?_,?_,?_,?_⟩ <;> first | assumption | exact (SA.out _ (by assumption)).1 | exact (SA.out _ (by assumption)).2.1 | exact (SA.out _ (by assumption)).2.2.1 | exact (SA.out _ (by assumption)).2.2.2.1 | exact (SA.out _ (by assumption)).2.2.2.2.1 | exact (SA.out _ (by assumption)).2.2.2.2.2)
    (first
    | (go_simp;go_at_call 107;refine cMo TB1.out ?_;rintro ee w6 ⟨rfl,hg6⟩;have GH:Hid (Goes N u.drew lb txt m1 (k + 4) { L1 with T:=(Y.xk L1.T).2,sc:=F.uy L1.sc } (Y.numOf (Y.xk L1.T).2.syms) w6):=hg6;have CC6:Hid (S.M.Ch m1.hot u.drew w6):=hg6.1;clear hg6)
    | (go_simp;go_at_call 102;refine cMo (CKb.out _) ?_;rintro ee w7 ⟨hb7,he7⟩;rw[if_pos HB.out] at he7;subst he7;have G7:Hid (Goes N u.drew lb txt m1 (k + 4) { L1 with T:=(Y.xk L1.T).2,sc:=F.uy L1.sc } (Y.numOf (Y.xk L1.T).2.syms) w7):=GH.out.jd hb7;have CC7:Hid (S.M.Ch m1.hot u.drew w7):=G7.out.1;clear hb7))
   go_wp2
   exact bodyPost_end (results_none rfl _ _ _) rfl (P0.out.does (by omega) (gq R4.out rfl G7.out))
  ·have HB:=hid hB;have R4:Hid (qm L s=.error (s.key,F.q0u L1.sc)):=R3.out.trans (if_neg hB);obtain⟨x1,x2,z5,z6,z7,z8⟩:=SA.out _ CC2.out;clear hB R3 TB TA CKa GG CC;go_upto_region 9 with fail
   go_region_law (first
    | (go_simp;go_at_call 107;refine cMo TB1.out ?_;rintro ee w6 ⟨rfl,hg6⟩;have GH:Hid (Goes N u.drew lb txt m1 (k + 4) { L1 with T:=(Y.xk L1.T).2,sc:=F.uy L1.sc } (Y.numOf (Y.xk L1.T).2.syms) w6):=hg6;obtain⟨v1,v2,v5,v6,v7,v8⟩:=SA.out _ hg6.1;clear hg6)
    | (go_simp;go_at_call 102;refine cMo (CKb.out _) ?_;rintro ee w7 ⟨hb7,he7⟩;rw[if_neg HB.out] at he7;have he8:=he7;obtain⟨b,rfl,q2,q3⟩:=he7;refine q14 (h:=⟨rfl,DN.out _ _ _ _ GH.out.1 hb7 R4.out he8⟩) ?_))
   all_goals trivial
 ·have HA:Hid (¬((Y.xk L1.T).1:Int)=0):=by show ¬_;omega
  have R3:Hid (qm L s=.error (s.key,((Y.xk L1.T).1:Nat))):=R2.out.trans (if_neg hA);obtain⟨x1,x2,z5,z6,z7,z8⟩:=SA.out _ CD.out;clear hA R2 hkd TB CKb;go_upto_region 8 with fail
  go_region_law (first
   | (go_simp;go_at_call 106;refine cMo TA.out ?_;rintro ee w4 ⟨rfl,hg⟩;have GG:Hid (Goes N u.drew lb txt m1 (k + 4) { L1 with T:=(Y.xk L1.T).2 } (Y.numOf L1.T.syms) w4):=hg;obtain⟨v1,v2,v5,v6,v7,v8⟩:=SA.out _ hg.1;clear hg)
   | (go_simp;go_at_call 102;refine cMo (CKa.out _) ?_;rintro ee w5 ⟨hb5,he5⟩;rw[if_neg HA.out] at he5;have he8:=he5;obtain⟨b,rfl,q2,q3⟩:=he5;refine q14 (h:=⟨rfl,DN.out _ _ _ _ GG.out.1 hb5 R3.out he8⟩) ?_))
  all_goals trivial
end
section
variable {N:Nat} {w u:World} {lb:Nat} {txt:ByteArray} {k:Nat} {L L1:Ld} {m m1:LdM} {s:Stm} {vw vp:Value}
theorem qjv (h:xg N w lb txt k L (Y.numOf L.T.syms) m)(hO:L.Ok k)(hk:k < 1000000000)(hKB:Y.KB w)(hN:1 < N)(hs:q1a N m w s vw vp)(hok:q1e s)(he:q0m s.label=false)(h8:s.kind≠8)(h9:s.kind≠9):Calls Tryz.prog 56 #[.pointer (some ⟨lb,0,none⟩),q0o s vw vp] w (Does N w lb txt m (k + 60000) (qm L s)):=by
 obtain⟨aw,cw,rfl,hW⟩:=hs.words;obtain⟨ap,cp,rfl,_⟩:=S.wo hs.op;generalize hnw:s.words.length=nw at *;generalize hnp:s.proof.length=np at *;obtain⟨w1,hw1,b0,bn,hsz,PW,LC,CK,FS,PT⟩:=q1o h hO hk hKB hN hs;have HOK:Hid (q1e s):=hok;have HN1:Hid (1 < N):=hN;clear hs hW hO hKB b0 bn hok hN hsz h hnw hnp;have HE:=hid he;have hl:(!s.label.text.toList.isEmpty)=false:=by rw[ByteArray.toList_eq];exact he
 have R1:Hid (qm L s=zy L s):=by unfold qm q3y;show _=_;rw[he];rfl
 clear LC CK FS PT he;have z1:w1.cell? ⟨w.heap.size,1,none⟩=some (.string s.label.text):=S.M.qc PW.out.bx 1;unfold q0o;go_enter Tryz.func56,Tryz.ntmps56;go_upto_region 1 with fail;rw[←hw1];clear hw1;go_upto_region 3 with fail;clear hl z1;have FR:Hid True:=trivial;have PA:=hid PW;clear PW;obtain⟨u,hu⟩:=eXb w1;rw[hu] at PA ⊢;clear hu;obtain⟨m1,hm1⟩:=eXa m;obtain⟨L1,hL1⟩:=eXa L;have PA2:Hid (Past N w lb txt k m L1 m1 s (.slice aw nw cw) (.slice ap np cp) u):=by rw[hm1,hL1];exact PA
 replace R1:Hid (qm L s=zy L1 s):=by rw[hL1];exact R1
 clear PA;have PA:=PA2;clear PA2 hm1 hL1;have z:∀i,u.cell? ⟨w.heap.size,i,none⟩=(yc s (.slice aw nw cw) (.slice ap np cp))[i]?:=S.M.qc PA.out.bx
 by_cases hkd:s.kind=1
 ·have R2:Hid (qm L s=q38 L1 s):=R1.out.trans (by unfold zy;rw[hkd];rfl);have z0:u.cell? ⟨w.heap.size,0,none⟩=some (.int .i64 1):=(z 0).trans (by show some (Value.int .i64 s.kind)=_;rw[hkd]);have z1:u.cell? ⟨w.heap.size,1,none⟩=some (.string s.label.text):=z 1;have z2:u.cell? ⟨w.heap.size,2,none⟩=some (.int .i64 s.label.off):=z 2;have z3:u.cell? ⟨w.heap.size,3,none⟩=some (.int .i64 s.label.line):=z 3;have z4:u.cell? ⟨w.heap.size,4,none⟩=some (.int .i64 s.label.col):=z 4;have z5:u.cell? ⟨w.heap.size,5,none⟩=some (.string s.key.text):=z 5;have z6:u.cell? ⟨w.heap.size,6,none⟩=some (.int .i64 s.key.off):=z 6;have z7:u.cell? ⟨w.heap.size,7,none⟩=some (.int .i64 s.key.line):=z 7;have z8:u.cell? ⟨w.heap.size,8,none⟩=some (.int .i64 s.key.col):=z 8;have z9:u.cell? ⟨w.heap.size,9,none⟩=some (.bool s.proving):=z 9;have z10:u.cell? ⟨w.heap.size,10,none⟩=some (.slice aw nw cw):=z 10;have z11:u.cell? ⟨w.heap.size,11,none⟩=some (.slice ap np cp):=z 11;have z12:u.cell? ⟨w.heap.size,12,none⟩=some (.string s.fin.text):=z 12;have z13:u.cell? ⟨w.heap.size,13,none⟩=some (.int .i64 s.fin.off):=z 13;have z14:u.cell? ⟨w.heap.size,14,none⟩=some (.int .i64 s.fin.line):=z 14;have z15:u.cell? ⟨w.heap.size,15,none⟩=some (.int .i64 s.fin.col):=z 15;have DK:Hid _:=PA.out.k1 hk HN1.out;rw[←R2.out] at DK;unfold q0o yc S.q4w at DK;rw[hkd] at DK;clear z FR hkd;go_wp2_with fail;refine cMo DK.out ?_;rintro ee w6 hd;have HD:Hid _:=hd
  cases hT:qm L s with
  | error f=>rw[hT] at hd;obtain⟨d1,b,rfl,d3⟩:=hd;exact⟨rfl,hT ▸ HD.out⟩
  | ok L9=>rw[hT] at hd;obtain⟨rfl,d1⟩:=hd;have HG:=hid d1;clear d1 HD;go_wp2;exact bodyPost_end (results_none rfl _ _ _) rfl (gq (by first | rfl | exact hT) rfl HG.out)
 by_cases hkd:s.kind=2
 ·have R2:Hid (qm L s=q0l Y.q3g L1 s.words):=R1.out.trans (by unfold zy;rw[hkd];rfl);have z0:u.cell? ⟨w.heap.size,0,none⟩=some (.int .i64 2):=(z 0).trans (by show some (Value.int .i64 s.kind)=_;rw[hkd]);have P0:Hid (Past N w lb txt k m L1 m1 s (.slice aw nw cw) (.slice ap np cp) u.drew):=PA.out.below (S.M.zi bRf 1);obtain⟨h1,x1,x2⟩:=P0.out.held (S.M.Ch.oB bRf);have z10:u.drew.cell? ⟨w.heap.size,10,none⟩=some (.slice aw nw cw):=S.M.qc h1 10;have DK:Hid _:=P0.out.k2 hk HN1.out;rw[←R2.out] at DK;clear z FR hkd h1 P0
  cases hT:qm L s with
  | ok L9 =>
   rw[hT] at DK;go_upto_region 13 with fail
   go_region_law (go_simp;go_at_call 109;refine cMo DK.out ?_;rintro ee w6 ⟨rfl,hg⟩;have HG:=hid hg;clear hg)
   all_goals go_wp2
   all_goals exact bodyPost_end (results_none rfl _ _ _) rfl (gq (by first | rfl | exact hT) rfl HG.out)
  | error f =>
   rw[hT] at DK;go_upto_region 13 with fail
   go_region_law (go_simp;go_at_call 109;refine cMo DK.out ?_;rintro ee w6 ⟨hc,b,rfl,q2,q3⟩;refine q14 (h:=⟨rfl,q0y rfl hc ⟨b,rfl,q2,q3⟩⟩) ?_)
   all_goals trivial
 by_cases hkd:s.kind=5
 ·have R2:Hid (qm L s=q2s L1 s):=R1.out.trans (by unfold zy;rw[hkd];rfl);have z0:u.cell? ⟨w.heap.size,0,none⟩=some (.int .i64 5):=(z 0).trans (by show some (Value.int .i64 s.kind)=_;rw[hkd]);have z1:u.cell? ⟨w.heap.size,1,none⟩=some (.string s.label.text):=z 1;have z2:u.cell? ⟨w.heap.size,2,none⟩=some (.int .i64 s.label.off):=z 2;have z3:u.cell? ⟨w.heap.size,3,none⟩=some (.int .i64 s.label.line):=z 3;have z4:u.cell? ⟨w.heap.size,4,none⟩=some (.int .i64 s.label.col):=z 4;have z5:u.cell? ⟨w.heap.size,5,none⟩=some (.string s.key.text):=z 5;have z6:u.cell? ⟨w.heap.size,6,none⟩=some (.int .i64 s.key.off):=z 6;have z7:u.cell? ⟨w.heap.size,7,none⟩=some (.int .i64 s.key.line):=z 7;have z8:u.cell? ⟨w.heap.size,8,none⟩=some (.int .i64 s.key.col):=z 8;have z9:u.cell? ⟨w.heap.size,9,none⟩=some (.bool s.proving):=z 9;have z10:u.cell? ⟨w.heap.size,10,none⟩=some (.slice aw nw cw):=z 10;have z11:u.cell? ⟨w.heap.size,11,none⟩=some (.slice ap np cp):=z 11;have z12:u.cell? ⟨w.heap.size,12,none⟩=some (.string s.fin.text):=z 12;have z13:u.cell? ⟨w.heap.size,13,none⟩=some (.int .i64 s.fin.off):=z 13;have z14:u.cell? ⟨w.heap.size,14,none⟩=some (.int .i64 s.fin.line):=z 14;have z15:u.cell? ⟨w.heap.size,15,none⟩=some (.int .i64 s.fin.col):=z 15;have DK:Hid _:=PA.out.k5;rw[←R2.out] at DK;unfold q0o yc S.q4w at DK;rw[hkd] at DK;clear z FR hkd;go_wp2_with fail;refine cMo DK.out ?_;rintro ee w6 hd;have HD:Hid _:=hd
  cases hT:qm L s with
  | error f=>rw[hT] at hd;obtain⟨d1,b,rfl,d3⟩:=hd;exact⟨rfl,hT ▸ HD.out⟩
  | ok L9=>rw[hT] at hd;obtain⟨rfl,d1⟩:=hd;have HG:=hid d1;clear d1 HD;go_wp2;exact bodyPost_end (results_none rfl _ _ _) rfl (gq (by first | rfl | exact hT) rfl HG.out)
 by_cases hkd:s.kind=3
 ·exact absurd (HOK.out.lab (.inl hkd)) (by rw[HE.out];decide)
 by_cases hkd:s.kind=4
 ·exact absurd (HOK.out.lab (.inr (.inl hkd))) (by rw[HE.out];decide)
 by_cases hkd:s.kind=6
 ·exact absurd (HOK.out.lab (.inr (.inr (.inl hkd)))) (by rw[HE.out];decide)
 by_cases hkd:s.kind=7
 ·exact absurd (HOK.out.lab (.inr (.inr (.inr hkd)))) (by rw[HE.out];decide)
 have ks:s.kind≠8∧s.kind≠9∧s.kind≠1∧s.kind≠2∧s.kind≠5∧s.kind≠3∧s.kind≠4∧s.kind≠6∧s.kind≠7:=by refine⟨?_,?_,?_,?_,?_,?_,?_,?_,?_⟩ <;> assumption
 obtain⟨n8,n9,n1,n2,n5,n3,n4,n6,n7⟩:=ks;have R2:Hid (qm L s=.ok L1):=R1.out.trans (by unfold zy;rw[if_neg n8,if_neg n9,if_neg n1,if_neg n2,if_neg n5,if_neg n3,if_neg n4,if_neg (by omega)]);replace n8:(s.kind == 8)=false:=by simpa using n8
 replace n9:(s.kind == 9)=false:=by simpa using n9
 replace n1:(s.kind == 1)=false:=by simpa using n1
 replace n2:(s.kind == 2)=false:=by simpa using n2
 replace n5:(s.kind == 5)=false:=by simpa using n5
 replace n3:(s.kind == 3)=false:=by simpa using n3
 replace n4:(s.kind == 4)=false:=by simpa using n4
 replace n6:(s.kind == 6)=false:=by simpa using n6
 replace n7:(s.kind == 7)=false:=by simpa using n7
 have z0:u.cell? ⟨w.heap.size,0,none⟩=some (.int .i64 s.kind):=z 0;clear z FR
 go_wp2
 exact bodyPost_end (results_none rfl _ _ _) rfl (PA.out.does (by omega) (gq R2.out rfl (Goes.same PA.out.i bRf)))
end
section
variable {N:Nat} {w u:World} {lb:Nat} {txt:ByteArray} {k:Nat} {L L1:Ld} {m m1:LdM} {s:Stm} {vw vp:Value}
theorem qny (h:xg N w lb txt k L (Y.numOf L.T.syms) m)(hO:L.Ok k)(hk:k < 1000000000)(hKB:Y.KB w)(hN:1 < N)(hs:q1a N m w s vw vp)(hok:q1e s)(he:q0m s.label=true)(hJ:(Y.zh L.T s.label.text).1=0)(hkd:s.kind=8):Calls Tryz.prog 56 #[.pointer (some ⟨lb,0,none⟩),q0o s vw vp] w (Does N w lb txt m (k + 60000) (qm L s)):=by
 obtain⟨aw,cw,rfl,hW⟩:=hs.words;obtain⟨ap,cp,rfl,_⟩:=S.wo hs.op;generalize hnw:s.words.length=nw at *;generalize hnp:s.proof.length=np at *;obtain⟨w1,hw1,b0,bn,hsz,PW,LC,CK,FS,PT⟩:=q1o h hO hk hKB hN hs;have HOK:Hid (q1e s):=hok;have HN1:Hid (1 < N):=hN;clear hs hW hO hKB b0 bn hok hN hsz h hnw hnp;have hl:(!s.label.text.toList.isEmpty)=true:=by rw[ByteArray.toList_eq];exact he
 have z1:w1.cell? ⟨w.heap.size,1,none⟩=some (.string s.label.text):=S.M.qc PW.out.bx 1;have HJ:Hid (((Y.zh L.T s.label.text).1:Int)=0):=by show _=_;rw[hJ];rfl
 obtain⟨L1,hL1⟩:∃L1:Ld,L1={ L with T:=(Y.zh L.T s.label.text).2 }:=⟨_,rfl⟩;have R1:Hid (qm L s=zy L1 s):=by rw[hL1];unfold qm q3y yj;show _=_;rw[if_pos he,if_pos HJ.out]
 have FR:Hid (q1p L1.hy s.label.text=none∧q3a L1.al s.label.text=none):=by rw[hL1];exact FS.out hJ
 have SB:Hid (∀w',S.M.Ch m.hot w1.drew w'→w'.cell? ⟨lb,1,none⟩=some (.pointer (some ⟨m.tq,0,none⟩))∧w'.cell? ⟨w.heap.size,1,none⟩=some (.string s.label.text)∧w'.cell? ⟨w.heap.size,2,none⟩=some (.int .i64 s.label.off)∧w'.cell? ⟨w.heap.size,3,none⟩=some (.int .i64 s.label.line)∧w'.cell? ⟨w.heap.size,4,none⟩=some (.int .i64 s.label.col)):=fun w' hc=>by obtain⟨h1,h2,_⟩:=(PW.out.below (S.M.zi bRf 1)).held hc;exact⟨h2,S.M.qc h1 1,S.M.qc h1 2,S.M.qc h1 3,S.M.qc h1 4⟩
 have CD:Hid (S.M.Ch m.hot w1.drew w1.drew):=S.M.Ch.oB bRf;clear he FS hJ;unfold S.zo at CK;unfold q0o;go_enter Tryz.func56,Tryz.ntmps56;go_upto_region 1 with fail;rw[←hw1];clear hw1;go_upto_region 2 with fail;clear hl z1
 go_region_held3 (fun w'=>w'.cell? ⟨lb,1,none⟩=some (.pointer (some ⟨m.tq,0,none⟩))∧w'.cell? ⟨w.heap.size,1,none⟩=some (.string s.label.text)∧w'.cell? ⟨w.heap.size,2,none⟩=some (.int .i64 s.label.off)∧w'.cell? ⟨w.heap.size,3,none⟩=some (.int .i64 s.label.line)∧w'.cell? ⟨w.heap.size,4,none⟩=some (.int .i64 s.label.col)) (refine⟨?_,?_,?_,?_,?_⟩ <;> first | assumption | exact (SB.out _ (by assumption)).1 | exact (SB.out _ (by assumption)).2.1 | exact (SB.out _ (by assumption)).2.2.1 | exact (SB.out _ (by assumption)).2.2.2.1 | exact (SB.out _ (by assumption)).2.2.2.2)
  (first
  | (go_simp;go_at_call 103;refine cMo LC.out ?_;rintro ee w4 ⟨rfl,hg⟩;have GG:Hid (Goes N w1.drew lb txt m (k + 2) { L with T:=(Y.zh L.T s.label.text).2 } (Y.numOf L.T.syms) w4):=hg;have CC:Hid (S.M.Ch m.hot w1.drew w4):=hg.1;clear hg)
  | (go_simp;go_at_call 102;refine cMo (CK.out _) ?_;rintro ee u ⟨hb5,he5⟩;rw[if_pos HJ.out] at he5;subst he5;have G5:Hid (Goes N w1.drew lb txt m (k + 2) { L with T:=(Y.zh L.T s.label.text).2 } (Y.numOf L.T.syms) u):=GG.out.jd hb5;have CC2:Hid (S.M.Ch m.hot w1.drew u):=G5.out.1;clear hb5))
 obtain⟨m1,hp⟩:=PT.out _ G5.out;rw[←hL1] at hp;have PA:=hid hp;clear hp PT G5 CC2 GG CC CK LC SB CD HJ PW hL1;go_upto_region 3 with fail;have z:∀i,u.cell? ⟨w.heap.size,i,none⟩=(yc s (.slice aw nw cw) (.slice ap np cp))[i]?:=S.M.qc PA.out.bx;clear FR;have z0:u.cell? ⟨w.heap.size,0,none⟩=some (.int .i64 8):=(z 0).trans (by show some (Value.int .i64 s.kind)=_;rw[hkd]);clear z;have R2:Hid (qm L s=q89 L1 s.key):=R1.out.trans (by unfold zy;rw[hkd];rfl);have P0:Hid (Past N w lb txt k m L1 m1 s (.slice aw nw cw) (.slice ap np cp) u.drew):=PA.out.below (S.M.zi bRf 1);have SA:Hid (∀w',S.M.Ch m1.hot u.drew w'→w'.cell? ⟨lb,1,none⟩=some (.pointer (some ⟨m1.tq,0,none⟩))∧w'.cell? ⟨lb,2,none⟩=some (.pointer (some ⟨m1.P,0,none⟩))∧w'.cell? ⟨w.heap.size,5,none⟩=some (.string s.key.text)∧w'.cell? ⟨w.heap.size,6,none⟩=some (.int .i64 s.key.off)∧w'.cell? ⟨w.heap.size,7,none⟩=some (.int .i64 s.key.line)∧w'.cell? ⟨w.heap.size,8,none⟩=some (.int .i64 s.key.col)):=fun w' hc=>by obtain⟨h1,h2,h3⟩:=P0.out.held hc;exact⟨h2,h3,S.M.qc h1 5,S.M.qc h1 6,S.M.qc h1 7,S.M.qc h1 8⟩
 have TA:Hid _:=P0.out.k8a hk;have TB:Hid (∀w5,Goes N u.drew lb txt m1 (k + 4) { L1 with T:=(Y.jf L1.T).2 } (Y.numOf L1.T.syms) w5→Calls Tryz.prog 105 #[.pointer (some ⟨m1.P,0,none⟩)] w5.drew fun e w'=>e=.returned (.int .i64 (F.q1t L1.sc))∧Goes N u.drew lb txt m1 (k + 4) { L1 with T:=(Y.jf L1.T).2,sc:=F.q0t L1.sc } (Y.numOf (Y.jf L1.T).2.syms) w'):=fun w5 hg=>P0.out.k8b hg (S.M.zi bRf 1)
 have CKa:Hid (∀wx,Calls Tryz.prog 102 #[S.zo s.key,.int .i64 ((Y.jf L1.T).1:Nat)] wx (Chk s.key ((Y.jf L1.T).1:Nat) wx)):=fun wx=>check_any wx s.key _
 have CKb:Hid (∀wx,Calls Tryz.prog 102 #[S.zo s.key,.int .i64 (F.q1t L1.sc)] wx (Chk s.key (F.q1t L1.sc) wx)):=fun wx=>check_any wx s.key _
 have DN:Hid (∀(w':World) (c:Int) (e:Ending) (w4:World),S.M.Ch m1.hot u.drew w4→Below w4.heap.size w4 w'→qm L s=.error (s.key,c)→Quits s.key c w4.heap.size e w'→Does N w lb txt m (k + 60000) (qm L s) e w'):=fun w' c e w4 hc hb hr hq=>PA.out.does (Nat.le_refl _) (q0y hr (((S.M.Ch.oB (S.M.zi bRf 1)).trans hc).trans (S.M.Ch.oB hb)) (hq.le hc.size))
 have CD:Hid (S.M.Ch m1.hot u.drew u.drew):=S.M.Ch.oB bRf;unfold S.zo at CKa CKb
 by_cases hA:(Y.jf L1.T).1=0
 ·have HA:Hid (((Y.jf L1.T).1:Int)=0):=by show _=_;rw[hA];rfl
  have R3:Hid (qm L s=yj s.key (F.q1t L1.sc) { L1 with T:=(Y.jf L1.T).2,sc:=F.q0t L1.sc }):=R2.out.trans (if_pos hA);clear hA R2 hkd;go_upto_region 5 with fail
  go_region_held3 (fun w'=>w'.cell? ⟨lb,1,none⟩=some (.pointer (some ⟨m1.tq,0,none⟩))∧w'.cell? ⟨lb,2,none⟩=some (.pointer (some ⟨m1.P,0,none⟩))∧w'.cell? ⟨w.heap.size,5,none⟩=some (.string s.key.text)∧w'.cell? ⟨w.heap.size,6,none⟩=some (.int .i64 s.key.off)∧w'.cell? ⟨w.heap.size,7,none⟩=some (.int .i64 s.key.line)∧w'.cell? ⟨w.heap.size,8,none⟩=some (.int .i64 s.key.col)) (refine⟨?_,?_,?_,?_,?_,?_⟩ <;> first | assumption | exact (SA.out _ (by assumption)).1 | exact (SA.out _ (by assumption)).2.1 | exact (SA.out _ (by assumption)).2.2.1 | exact (SA.out _ (by assumption)).2.2.2.1 | exact (SA.out _ (by assumption)).2.2.2.2.1 | exact (SA.out _ (by assumption)).2.2.2.2.2)
   (first
   | (go_simp;go_at_call 104;refine cMo TA.out ?_;rintro ee w4 ⟨rfl,hg⟩;have GG:Hid (Goes N u.drew lb txt m1 (k + 4) { L1 with T:=(Y.jf L1.T).2 } (Y.numOf L1.T.syms) w4):=hg;have CC:Hid (S.M.Ch m1.hot u.drew w4):=hg.1;clear hg)
   | (go_simp;go_at_call 102;refine cMo (CKa.out _) ?_;rintro ee w5 ⟨hb5,he5⟩;rw[if_pos HA.out] at he5;subst he5;have G5:Hid (Goes N u.drew lb txt m1 (k + 4) { L1 with T:=(Y.jf L1.T).2 } (Y.numOf L1.T.syms) w5):=GG.out.jd hb5;have CC2:Hid (S.M.Ch m1.hot u.drew w5.drew):=G5.out.1.trans (S.M.Ch.oB (S.M.zi bRf 1));have CC3:Hid (S.M.Ch m1.hot u.drew w5):=G5.out.1;clear hb5))
  have TB1:Hid _:=TB.out w5 G5.out
  by_cases hB:F.q1t L1.sc=0
  ·have HB:=hid hB;have R4:Hid (qm L s=.ok { L1 with T:=(Y.jf L1.T).2,sc:=F.q0t L1.sc }):=R3.out.trans (if_pos hB);clear hB R3 TB TA CKa GG CC;go_upto_region 6 with fail
   go_region_held3 (fun w'=>w'.cell? ⟨lb,1,none⟩=some (.pointer (some ⟨m1.tq,0,none⟩))∧w'.cell? ⟨lb,2,none⟩=some (.pointer (some ⟨m1.P,0,none⟩))∧w'.cell? ⟨w.heap.size,5,none⟩=some (.string s.key.text)∧w'.cell? ⟨w.heap.size,6,none⟩=some (.int .i64 s.key.off)∧w'.cell? ⟨w.heap.size,7,none⟩=some (.int .i64 s.key.line)∧w'.cell? ⟨w.heap.size,8,none⟩=some (.int .i64 s.key.col)) (refine⟨?_,?_,?_,?_,?_,?_⟩ <;> first | assumption | exact (SA.out _ (by assumption)).1 | exact (SA.out _ (by assumption)).2.1 | exact (SA.out _ (by assumption)).2.2.1 | exact (SA.out _ (by assumption)).2.2.2.1 | exact (SA.out _ (by assumption)).2.2.2.2.1 | exact (SA.out _ (by assumption)).2.2.2.2.2)
    (first
    | (go_simp;go_at_call 105;refine cMo TB1.out ?_;rintro ee w6 ⟨rfl,hg6⟩;have GH:Hid (Goes N u.drew lb txt m1 (k + 4) { L1 with T:=(Y.jf L1.T).2,sc:=F.q0t L1.sc } (Y.numOf (Y.jf L1.T).2.syms) w6):=hg6;have CC6:Hid (S.M.Ch m1.hot u.drew w6):=hg6.1;clear hg6)
    | (go_simp;go_at_call 102;refine cMo (CKb.out _) ?_;rintro ee w7 ⟨hb7,he7⟩;rw[if_pos HB.out] at he7;subst he7;have G7:Hid (Goes N u.drew lb txt m1 (k + 4) { L1 with T:=(Y.jf L1.T).2,sc:=F.q0t L1.sc } (Y.numOf (Y.jf L1.T).2.syms) w7):=GH.out.jd hb7;have CC7:Hid (S.M.Ch m1.hot u.drew w7):=G7.out.1;clear hb7))
   go_wp2
   exact bodyPost_end (results_none rfl _ _ _) rfl (P0.out.does (by omega) (gq R4.out rfl G7.out))
  ·have HB:=hid hB;have R4:Hid (qm L s=.error (s.key,F.q1t L1.sc)):=R3.out.trans (if_neg hB);obtain⟨x1,x2,z5,z6,z7,z8⟩:=SA.out _ CC2.out;clear hB R3 TB TA CKa GG CC;go_upto_region 6 with fail
   go_region_law (first
    | (go_simp;go_at_call 105;refine cMo TB1.out ?_;rintro ee w6 ⟨rfl,hg6⟩;have GH:Hid (Goes N u.drew lb txt m1 (k + 4) { L1 with T:=(Y.jf L1.T).2,sc:=F.q0t L1.sc } (Y.numOf (Y.jf L1.T).2.syms) w6):=hg6;obtain⟨v1,v2,v5,v6,v7,v8⟩:=SA.out _ hg6.1;clear hg6)
    | (go_simp;go_at_call 102;refine cMo (CKb.out _) ?_;rintro ee w7 ⟨hb7,he7⟩;rw[if_neg HB.out] at he7;have he8:=he7;obtain⟨b,rfl,q2,q3⟩:=he7;refine q14 (h:=⟨rfl,DN.out _ _ _ _ GH.out.1 hb7 R4.out he8⟩) ?_))
   all_goals trivial
 ·have HA:Hid (¬((Y.jf L1.T).1:Int)=0):=by show ¬_;omega
  have R3:Hid (qm L s=.error (s.key,((Y.jf L1.T).1:Nat))):=R2.out.trans (if_neg hA);obtain⟨x1,x2,z5,z6,z7,z8⟩:=SA.out _ CD.out;clear hA R2 hkd TB CKb;go_upto_region 5 with fail
  go_region_law (first
   | (go_simp;go_at_call 104;refine cMo TA.out ?_;rintro ee w4 ⟨rfl,hg⟩;have GG:Hid (Goes N u.drew lb txt m1 (k + 4) { L1 with T:=(Y.jf L1.T).2 } (Y.numOf L1.T.syms) w4):=hg;obtain⟨v1,v2,v5,v6,v7,v8⟩:=SA.out _ hg.1;clear hg)
   | (go_simp;go_at_call 102;refine cMo (CKa.out _) ?_;rintro ee w5 ⟨hb5,he5⟩;rw[if_neg HA.out] at he5;have he8:=he5;obtain⟨b,rfl,q2,q3⟩:=he5;refine q14 (h:=⟨rfl,DN.out _ _ _ _ GG.out.1 hb5 R3.out he8⟩) ?_))
  all_goals trivial
theorem qr2 (h:xg N w lb txt k L (Y.numOf L.T.syms) m)(hO:L.Ok k)(hk:k < 1000000000)(hKB:Y.KB w)(hN:1 < N)(hs:q1a N m w s vw vp)(hok:q1e s)(he:q0m s.label=true)(hJ:¬(Y.zh L.T s.label.text).1=0):Calls Tryz.prog 56 #[.pointer (some ⟨lb,0,none⟩),q0o s vw vp] w (Does N w lb txt m (k + 60000) (qm L s)):=by
 obtain⟨aw,cw,rfl,hW⟩:=hs.words;obtain⟨ap,cp,rfl,_⟩:=S.wo hs.op;generalize hnw:s.words.length=nw at *;generalize hnp:s.proof.length=np at *;obtain⟨w1,hw1,b0,bn,hsz,PW,LC,CK,FS,PT⟩:=q1o h hO hk hKB hN hs;have HOK:Hid (q1e s):=hok;have HN1:Hid (1 < N):=hN;clear hs hW hO hKB b0 bn hok hN hsz h hnw hnp;have hl:(!s.label.text.toList.isEmpty)=true:=by rw[ByteArray.toList_eq];exact he
 have z1:w1.cell? ⟨w.heap.size,1,none⟩=some (.string s.label.text):=S.M.qc PW.out.bx 1;have HJ:Hid (¬((Y.zh L.T s.label.text).1:Int)=0):=by show ¬_;omega
 have R1:Hid (qm L s=.error (s.label,((Y.zh L.T s.label.text).1:Nat))):=by unfold qm q3y yj;show _=_;rw[if_pos he,if_neg HJ.out]
 have SB:Hid (∀w',S.M.Ch m.hot w1.drew w'→w'.cell? ⟨lb,1,none⟩=some (.pointer (some ⟨m.tq,0,none⟩))∧w'.cell? ⟨w.heap.size,1,none⟩=some (.string s.label.text)∧w'.cell? ⟨w.heap.size,2,none⟩=some (.int .i64 s.label.off)∧w'.cell? ⟨w.heap.size,3,none⟩=some (.int .i64 s.label.line)∧w'.cell? ⟨w.heap.size,4,none⟩=some (.int .i64 s.label.col)):=fun w' hc=>by obtain⟨h1,h2,_⟩:=(PW.out.below (S.M.zi bRf 1)).held hc;exact⟨h2,S.M.qc h1 1,S.M.qc h1 2,S.M.qc h1 3,S.M.qc h1 4⟩
 have DN:Hid (∀w4 w5,Goes N w1.drew lb txt m (k + 2) { L with T:=(Y.zh L.T s.label.text).2 } (Y.numOf L.T.syms) w4→Below w4.heap.size w4 w5→S.M.Ch m.hot w w5∧w.heap.size≤w4.heap.size):=fun w4 w5 hg hb=>⟨(PW.out.c.trans (S.M.Ch.oB (S.M.zi bRf 1))).trans (hg.1.trans (S.M.Ch.oB hb)),nLt PW.out.c.size hg.1.size⟩
 obtain⟨y1,y2,y3,y4,y5⟩:=SB.out w1.drew (S.M.Ch.oB bRf);clear he FS hJ PT PW;unfold S.zo at CK;unfold q0o;go_enter Tryz.func56,Tryz.ntmps56;go_upto_region 1 with fail;rw[←hw1];clear hw1;go_upto_region 2 with fail;clear hl z1
 go_region_law (first
  | (go_simp;go_at_call 103;refine cMo LC.out ?_;rintro ee w4 ⟨rfl,hg⟩;have GG:Hid (Goes N w1.drew lb txt m (k + 2) { L with T:=(Y.zh L.T s.label.text).2 } (Y.numOf L.T.syms) w4):=hg;obtain⟨v1,v2,v3,v4,v5⟩:=SB.out _ hg.1;clear hg)
  | (go_simp;go_at_call 102;refine cMo (CK.out _) ?_;rintro ee w5 ⟨hb5,he5⟩;rw[if_neg HJ.out] at he5;obtain⟨b,rfl,q2,q3⟩:=he5;obtain⟨d1,d2⟩:=DN.out _ _ GG.out hb5;refine q14 (h:=⟨rfl,q0y R1.out d1 ⟨b,rfl,q2,nLt d2 q3⟩⟩) ?_))
 all_goals trivial
end
section
variable {N:Nat} {w u:World} {lb:Nat} {txt:ByteArray} {k:Nat} {L L1:Ld} {m m1:LdM} {s:Stm} {vw vp:Value}
theorem qnz (h:xg N w lb txt k L (Y.numOf L.T.syms) m)(hO:L.Ok k)(hk:k < 1000000000)(hKB:Y.KB w)(hN:1 < N)(hs:q1a N m w s vw vp)(hok:q1e s)(he:q0m s.label=true)(hJ:(Y.zh L.T s.label.text).1=0)(hkd:s.kind=9):Calls Tryz.prog 56 #[.pointer (some ⟨lb,0,none⟩),q0o s vw vp] w (Does N w lb txt m (k + 60000) (qm L s)):=by
 obtain⟨aw,cw,rfl,hW⟩:=hs.words;obtain⟨ap,cp,rfl,_⟩:=S.wo hs.op;generalize hnw:s.words.length=nw at *;generalize hnp:s.proof.length=np at *;obtain⟨w1,hw1,b0,bn,hsz,PW,LC,CK,FS,PT⟩:=q1o h hO hk hKB hN hs;have HOK:Hid (q1e s):=hok;have HN1:Hid (1 < N):=hN;clear hs hW hO hKB b0 bn hok hN hsz h hnw hnp;have hl:(!s.label.text.toList.isEmpty)=true:=by rw[ByteArray.toList_eq];exact he
 have z1:w1.cell? ⟨w.heap.size,1,none⟩=some (.string s.label.text):=S.M.qc PW.out.bx 1;have HJ:Hid (((Y.zh L.T s.label.text).1:Int)=0):=by show _=_;rw[hJ];rfl
 obtain⟨L1,hL1⟩:∃L1:Ld,L1={ L with T:=(Y.zh L.T s.label.text).2 }:=⟨_,rfl⟩;have R1:Hid (qm L s=zy L1 s):=by rw[hL1];unfold qm q3y yj;show _=_;rw[if_pos he,if_pos HJ.out]
 have FR:Hid (q1p L1.hy s.label.text=none∧q3a L1.al s.label.text=none):=by rw[hL1];exact FS.out hJ
 have SB:Hid (∀w',S.M.Ch m.hot w1.drew w'→w'.cell? ⟨lb,1,none⟩=some (.pointer (some ⟨m.tq,0,none⟩))∧w'.cell? ⟨w.heap.size,1,none⟩=some (.string s.label.text)∧w'.cell? ⟨w.heap.size,2,none⟩=some (.int .i64 s.label.off)∧w'.cell? ⟨w.heap.size,3,none⟩=some (.int .i64 s.label.line)∧w'.cell? ⟨w.heap.size,4,none⟩=some (.int .i64 s.label.col)):=fun w' hc=>by obtain⟨h1,h2,_⟩:=(PW.out.below (S.M.zi bRf 1)).held hc;exact⟨h2,S.M.qc h1 1,S.M.qc h1 2,S.M.qc h1 3,S.M.qc h1 4⟩
 have CD:Hid (S.M.Ch m.hot w1.drew w1.drew):=S.M.Ch.oB bRf;clear he FS hJ;unfold S.zo at CK;unfold q0o;go_enter Tryz.func56,Tryz.ntmps56;go_upto_region 1 with fail;rw[←hw1];clear hw1;go_upto_region 2 with fail;clear hl z1
 go_region_held3 (fun w'=>w'.cell? ⟨lb,1,none⟩=some (.pointer (some ⟨m.tq,0,none⟩))∧w'.cell? ⟨w.heap.size,1,none⟩=some (.string s.label.text)∧w'.cell? ⟨w.heap.size,2,none⟩=some (.int .i64 s.label.off)∧w'.cell? ⟨w.heap.size,3,none⟩=some (.int .i64 s.label.line)∧w'.cell? ⟨w.heap.size,4,none⟩=some (.int .i64 s.label.col)) (refine⟨?_,?_,?_,?_,?_⟩ <;> first | assumption | exact (SB.out _ (by assumption)).1 | exact (SB.out _ (by assumption)).2.1 | exact (SB.out _ (by assumption)).2.2.1 | exact (SB.out _ (by assumption)).2.2.2.1 | exact (SB.out _ (by assumption)).2.2.2.2)
  (first
  | (go_simp;go_at_call 103;refine cMo LC.out ?_;rintro ee w4 ⟨rfl,hg⟩;have GG:Hid (Goes N w1.drew lb txt m (k + 2) { L with T:=(Y.zh L.T s.label.text).2 } (Y.numOf L.T.syms) w4):=hg;have CC:Hid (S.M.Ch m.hot w1.drew w4):=hg.1;clear hg)
  | (go_simp;go_at_call 102;refine cMo (CK.out _) ?_;rintro ee u ⟨hb5,he5⟩;rw[if_pos HJ.out] at he5;subst he5;have G5:Hid (Goes N w1.drew lb txt m (k + 2) { L with T:=(Y.zh L.T s.label.text).2 } (Y.numOf L.T.syms) u):=GG.out.jd hb5;have CC2:Hid (S.M.Ch m.hot w1.drew u):=G5.out.1;clear hb5))
 obtain⟨m1,hp⟩:=PT.out _ G5.out;rw[←hL1] at hp;have PA:=hid hp;clear hp PT G5 CC2 GG CC CK LC SB CD HJ PW hL1;go_upto_region 3 with fail;have z:∀i,u.cell? ⟨w.heap.size,i,none⟩=(yc s (.slice aw nw cw) (.slice ap np cp))[i]?:=S.M.qc PA.out.bx;clear FR;have z0:u.cell? ⟨w.heap.size,0,none⟩=some (.int .i64 9):=(z 0).trans (by show some (Value.int .i64 s.kind)=_;rw[hkd]);clear z;have R2:Hid (qm L s=q63 L1 s.key):=R1.out.trans (by unfold zy;rw[hkd];rfl);have P0:Hid (Past N w lb txt k m L1 m1 s (.slice aw nw cw) (.slice ap np cp) u.drew):=PA.out.below (S.M.zi bRf 1);have SA:Hid (∀w',S.M.Ch m1.hot u.drew w'→w'.cell? ⟨lb,1,none⟩=some (.pointer (some ⟨m1.tq,0,none⟩))∧w'.cell? ⟨lb,2,none⟩=some (.pointer (some ⟨m1.P,0,none⟩))∧w'.cell? ⟨w.heap.size,5,none⟩=some (.string s.key.text)∧w'.cell? ⟨w.heap.size,6,none⟩=some (.int .i64 s.key.off)∧w'.cell? ⟨w.heap.size,7,none⟩=some (.int .i64 s.key.line)∧w'.cell? ⟨w.heap.size,8,none⟩=some (.int .i64 s.key.col)):=fun w' hc=>by obtain⟨h1,h2,h3⟩:=P0.out.held hc;exact⟨h2,h3,S.M.qc h1 5,S.M.qc h1 6,S.M.qc h1 7,S.M.qc h1 8⟩
 have TA:Hid _:=P0.out.k9a hk;have TB:Hid (∀w5,Goes N u.drew lb txt m1 (k + 4) { L1 with T:=(Y.xk L1.T).2 } (Y.numOf L1.T.syms) w5→Calls Tryz.prog 107 #[.pointer (some ⟨m1.P,0,none⟩)] w5.drew fun e w'=>e=.returned (.int .i64 (F.q0u L1.sc))∧Goes N u.drew lb txt m1 (k + 4) { L1 with T:=(Y.xk L1.T).2,sc:=F.uy L1.sc } (Y.numOf (Y.xk L1.T).2.syms) w'):=fun w5 hg=>P0.out.k9b hg (S.M.zi bRf 1)
 have CKa:Hid (∀wx,Calls Tryz.prog 102 #[S.zo s.key,.int .i64 ((Y.xk L1.T).1:Nat)] wx (Chk s.key ((Y.xk L1.T).1:Nat) wx)):=fun wx=>check_any wx s.key _
 have CKb:Hid (∀wx,Calls Tryz.prog 102 #[S.zo s.key,.int .i64 (F.q0u L1.sc)] wx (Chk s.key (F.q0u L1.sc) wx)):=fun wx=>check_any wx s.key _
 have DN:Hid (∀(w':World) (c:Int) (e:Ending) (w4:World),S.M.Ch m1.hot u.drew w4→Below w4.heap.size w4 w'→qm L s=.error (s.key,c)→Quits s.key c w4.heap.size e w'→Does N w lb txt m (k + 60000) (qm L s) e w'):=fun w' c e w4 hc hb hr hq=>PA.out.does (Nat.le_refl _) (q0y hr (((S.M.Ch.oB (S.M.zi bRf 1)).trans hc).trans (S.M.Ch.oB hb)) (hq.le hc.size))
 have CD:Hid (S.M.Ch m1.hot u.drew u.drew):=S.M.Ch.oB bRf;unfold S.zo at CKa CKb
 by_cases hA:(Y.xk L1.T).1=0
 ·have HA:Hid (((Y.xk L1.T).1:Int)=0):=by show _=_;rw[hA];rfl
  have R3:Hid (qm L s=yj s.key (F.q0u L1.sc) { L1 with T:=(Y.xk L1.T).2,sc:=F.uy L1.sc }):=R2.out.trans (if_pos hA);clear hA R2 hkd;go_upto_region 8 with fail
  go_region_held3 (fun w'=>w'.cell? ⟨lb,1,none⟩=some (.pointer (some ⟨m1.tq,0,none⟩))∧w'.cell? ⟨lb,2,none⟩=some (.pointer (some ⟨m1.P,0,none⟩))∧w'.cell? ⟨w.heap.size,5,none⟩=some (.string s.key.text)∧w'.cell? ⟨w.heap.size,6,none⟩=some (.int .i64 s.key.off)∧w'.cell? ⟨w.heap.size,7,none⟩=some (.int .i64 s.key.line)∧w'.cell? ⟨w.heap.size,8,none⟩=some (.int .i64 s.key.col)) (refine⟨?_,?_,?_,?_,?_,?_⟩ <;> first | assumption | exact (SA.out _ (by assumption)).1 | exact (SA.out _ (by assumption)).2.1 | exact (SA.out _ (by assumption)).2.2.1 | exact (SA.out _ (by assumption)).2.2.2.1 | exact (SA.out _ (by assumption)).2.2.2.2.1 | exact (SA.out _ (by assumption)).2.2.2.2.2)
   (first
   | (go_simp;go_at_call 106;refine cMo TA.out ?_;rintro ee w4 ⟨rfl,hg⟩;have GG:Hid (Goes N u.drew lb txt m1 (k + 4) { L1 with T:=(Y.xk L1.T).2 } (Y.numOf L1.T.syms) w4):=hg;have CC:Hid (S.M.Ch m1.hot u.drew w4):=hg.1;clear hg)
   | (go_simp;go_at_call 102;refine cMo (CKa.out _) ?_;rintro ee w5 ⟨hb5,he5⟩;rw[if_pos HA.out] at he5;subst he5;have G5:Hid (Goes N u.drew lb txt m1 (k + 4) { L1 with T:=(Y.xk L1.T).2 } (Y.numOf L1.T.syms) w5):=GG.out.jd hb5;have CC2:Hid (S.M.Ch m1.hot u.drew w5.drew):=G5.out.1.trans (S.M.Ch.oB (S.M.zi bRf 1));have CC3:Hid (S.M.Ch m1.hot u.drew w5):=G5.out.1;clear hb5))
  have TB1:Hid _:=TB.out w5 G5.out
  by_cases hB:F.q0u L1.sc=0
  ·have HB:=hid hB;have R4:Hid (qm L s=.ok { L1 with T:=(Y.xk L1.T).2,sc:=F.uy L1.sc }):=R3.out.trans (if_pos hB);clear hB R3 TB TA CKa GG CC;go_upto_region 9 with fail
   go_region_held3 (fun w'=>w'.cell? ⟨lb,1,none⟩=some (.pointer (some ⟨m1.tq,0,none⟩))∧w'.cell? ⟨lb,2,none⟩=some (.pointer (some ⟨m1.P,0,none⟩))∧w'.cell? ⟨w.heap.size,5,none⟩=some (.string s.key.text)∧w'.cell? ⟨w.heap.size,6,none⟩=some (.int .i64 s.key.off)∧w'.cell? ⟨w.heap.size,7,none⟩=some (.int .i64 s.key.line)∧w'.cell? ⟨w.heap.size,8,none⟩=some (.int .i64 s.key.col)) (refine⟨?_,?_,?_,?_,?_,?_⟩ <;> first | assumption | exact (SA.out _ (by assumption)).1 | exact (SA.out _ (by assumption)).2.1 | exact (SA.out _ (by assumption)).2.2.1 | exact (SA.out _ (by assumption)).2.2.2.1 | exact (SA.out _ (by assumption)).2.2.2.2.1 | exact (SA.out _ (by assumption)).2.2.2.2.2)
    (first
    | (go_simp;go_at_call 107;refine cMo TB1.out ?_;rintro ee w6 ⟨rfl,hg6⟩;have GH:Hid (Goes N u.drew lb txt m1 (k + 4) { L1 with T:=(Y.xk L1.T).2,sc:=F.uy L1.sc } (Y.numOf (Y.xk L1.T).2.syms) w6):=hg6;have CC6:Hid (S.M.Ch m1.hot u.drew w6):=hg6.1;clear hg6)
    | (go_simp;go_at_call 102;refine cMo (CKb.out _) ?_;rintro ee w7 ⟨hb7,he7⟩;rw[if_pos HB.out] at he7;subst he7;have G7:Hid (Goes N u.drew lb txt m1 (k + 4) { L1 with T:=(Y.xk L1.T).2,sc:=F.uy L1.sc } (Y.numOf (Y.xk L1.T).2.syms) w7):=GH.out.jd hb7;have CC7:Hid (S.M.Ch m1.hot u.drew w7):=G7.out.1;clear hb7))
   go_wp2
   exact bodyPost_end (results_none rfl _ _ _) rfl (P0.out.does (by omega) (gq R4.out rfl G7.out))
  ·have HB:=hid hB;have R4:Hid (qm L s=.error (s.key,F.q0u L1.sc)):=R3.out.trans (if_neg hB);obtain⟨x1,x2,z5,z6,z7,z8⟩:=SA.out _ CC2.out;clear hB R3 TB TA CKa GG CC;go_upto_region 9 with fail
   go_region_law (first
    | (go_simp;go_at_call 107;refine cMo TB1.out ?_;rintro ee w6 ⟨rfl,hg6⟩;have GH:Hid (Goes N u.drew lb txt m1 (k + 4) { L1 with T:=(Y.xk L1.T).2,sc:=F.uy L1.sc } (Y.numOf (Y.xk L1.T).2.syms) w6):=hg6;obtain⟨v1,v2,v5,v6,v7,v8⟩:=SA.out _ hg6.1;clear hg6)
    | (go_simp;go_at_call 102;refine cMo (CKb.out _) ?_;rintro ee w7 ⟨hb7,he7⟩;rw[if_neg HB.out] at he7;have he8:=he7;obtain⟨b,rfl,q2,q3⟩:=he7;refine q14 (h:=⟨rfl,DN.out _ _ _ _ GH.out.1 hb7 R4.out he8⟩) ?_))
   all_goals trivial
 ·have HA:Hid (¬((Y.xk L1.T).1:Int)=0):=by show ¬_;omega
  have R3:Hid (qm L s=.error (s.key,((Y.xk L1.T).1:Nat))):=R2.out.trans (if_neg hA);obtain⟨x1,x2,z5,z6,z7,z8⟩:=SA.out _ CD.out;clear hA R2 hkd TB CKb;go_upto_region 8 with fail
  go_region_law (first
   | (go_simp;go_at_call 106;refine cMo TA.out ?_;rintro ee w4 ⟨rfl,hg⟩;have GG:Hid (Goes N u.drew lb txt m1 (k + 4) { L1 with T:=(Y.xk L1.T).2 } (Y.numOf L1.T.syms) w4):=hg;obtain⟨v1,v2,v5,v6,v7,v8⟩:=SA.out _ hg.1;clear hg)
   | (go_simp;go_at_call 102;refine cMo (CKa.out _) ?_;rintro ee w5 ⟨hb5,he5⟩;rw[if_neg HA.out] at he5;have he8:=he5;obtain⟨b,rfl,q2,q3⟩:=he5;refine q14 (h:=⟨rfl,DN.out _ _ _ _ GG.out.1 hb5 R3.out he8⟩) ?_))
  all_goals trivial
end
end B
end Go.Proofs.YtbancemhfjjmlaaGreatDoor
