/- Laid together. -/
import Derived.Test.YtbancemhfjjmlaaGreatDoorQB12
set_option maxRecDepth 100000
set_option maxHeartbeats 32000000
namespace Go.Proofs.YtbancemhfjjmlaaGreatDoor
namespace B
open Go.RowKit
open S (Tok Stm)
theorem qlb {L:Ld}{t:Tok}{n:Int}(hT:L.T.syms.length≤4611686018427387904)(h:q3o L t=.ok n):F.wfN n:=by
 unfold q3o at h
 cases hs:q33 L t with
 | error f=>rw[hs] at h;cases h
 | ok j =>
  rw[hs] at h;simp only at h
  split at h
  ·cases h;exact q8c hT hs
  ·cases h
theorem qgx {L:Ld}{t:Tok}{n:Int}(hT:L.T.syms.length≤4611686018427387904)(h:q04 L t=.ok n):F.wfN n:=by
 unfold q04 at h
 cases hs:q3o L t with
 | error f=>rw[hs] at h;cases h
 | ok j =>
  rw[hs] at h;simp only at h
  split at h
  ·cases h
  ·cases h;exact qlb hT hs
theorem q7b {L:Ld}(hT:L.T.syms.length≤4611686018427387904):∀(ts:List Tok) (acc e:List Int),q17 L acc ts=.ok e→(∀x ∈ acc,F.wfN x)→(∀x ∈ e,F.wfN x)∧e.length=acc.length + ts.length
 | [],acc,e,h,h1=>by
  cases h;exact⟨h1,rfl⟩
 | t :: ts,acc,e,h,h1=>by
  unfold q17 at h
  cases hr:(if acc.length=0 then q08 L t else q04 L t) with
  | error f=>rw[hr] at h;cases h
  | ok n =>
   rw[hr] at h;have hn:F.wfN n:=by
    split at hr
    ·exact qdk hT hr
    ·exact qgx hT hr
   obtain⟨i1,i3⟩:=q7b hT ts (acc++[n]) e h (fun x hx=>(mAp.1 hx).elim (h1 x) fun hx=>by rw[mSg.1 hx];exact hn);exact⟨i1,by rw[i3];simp;omega⟩
section
variable {N:Nat} {w W':World} {lb:Nat} {txt:ByteArray} {k k':Nat} {L L':Ld} {nf nf':ByteArray→Option Nat} {m m':LdM} {s:Stm} {vw vp:Value}
theorem q90 (h:xg N w lb txt k L (Y.numOf L.T.syms) m)(hO:L.Ok k)(hk:k < 100000000000)(hs:q1a N m w s vw vp)(hn:q1p L.hy s.label.text=none)(h2:q0m s.fin=true→s.words.length=2):Calls Tryz.prog 112 #[.pointer (some ⟨lb,0,none⟩),q0o s vw vp] w (Does N w lb txt m (k + 1) (q1s L s)):=by
 obtain⟨iN,hiN,iNz,iNs,iNb⟩:=info_parts F.q7l;obtain⟨aw,cw,rfl,hW⟩:=hs.words;obtain⟨ap,cp,rfl,_⟩:=S.wo hs.op;have b0:Below w.heap.size w (w.alloc (.cells (yc s (.slice aw s.words.length cw) (.slice ap s.proof.length cp)) 95)):=S.qg _ _;have hlw:=hs.lw;have HI:=hid h;have HO:Hid (L.Ok k):=hO;have H2:=hid h2;have EN:Hid (∀wx,Calls Tryz.prog 165 #[q0o s (.slice aw s.words.length cw) (.slice ap s.proof.length cp)] wx fun e w'=>e=.returned (.bool (q0m s.fin))∧Below wx.heap.size wx w'):=fun wx=>q7a wx s aw _ cw ap _ cp
 have HFR:Hid (∀r,q17 L [] s.words=r→q1s L s=match r with | .ok e=>if q0m s.fin=true then yj s.fin (F.q0s (isV:=zn L.T) L.sc (e.getD 0 0) (e.getD 1 0)) { L with sc:=F.q0j (isV:=zn L.T) L.sc s.label.text (e.getD 0 0) (e.getD 1 0),hy:=L.hy++[⟨s.label.text,true,e.getD 1 0,e⟩] } else .ok L | .error f=>.error f):=fun r er=>by unfold q1s;rw[er] <;> cases r <;> rfl
 have HE:Hid (∀e,q17 L [] s.words=.ok e→(∀x ∈ e,F.wfN x)∧e.length=s.words.length):=fun e he=>by
  obtain⟨h1,h2⟩:=q7b hO.q3p s.words [] e he (fun x hx=>by cases hx);exact⟨h1,by simpa using h2⟩
 have C0:Hid (∀w',Below (w.alloc (.cells (yc s (.slice aw s.words.length cw) (.slice ap s.proof.length cp)) 95)).heap.size (w.alloc (.cells (yc s (.slice aw s.words.length cw) (.slice ap s.proof.length cp)) 95)) w'→∀i,w'.cell? ⟨w.heap.size,i,none⟩=(yc s (.slice aw s.words.length cw) (.slice ap s.proof.length cp))[i]?):=fun w' hb=>q5p hb
 have HZ:Hid (s.label.text.size≤281474976710656):=by have:=hs.zl;show _≤_;omega
 have HNo:=hid hn;obtain⟨w1,hw1⟩:=eXa (w.alloc (.cells (yc s (.slice aw s.words.length cw) (.slice ap s.proof.length cp)) 95));have HS1:Hid (w.heap.size < w1.heap.size):=by rw[hw1];show _ < (w.heap.push _).size;simp
 have HX1:Hid (w1.heap[w.heap.size]?=some (.cells (yc s (.slice aw s.words.length cw) (.slice ap s.proof.length cp)) 95 (0,0))):=by show _=_;rw[hw1];exact World.alloc_heap_new w _
 rw[←hw1] at b0 C0;obtain⟨N0,hN⟩:∃N,w1.heap.size=N:=⟨_,rfl⟩;have HN:=hid hN;have CO:Hid (∀wx,Below N0 w1 wx→∀t,t ∈ s.words→Calls Tryz.prog 167 #[.pointer (some ⟨lb,0,none⟩),S.zo t] wx (Asks wx (q08 L t))):=fun wx hb t ht=>q8a (h.below (b0.trans (hb.mono (by rw[←hN];exact b0.size)))) hO.q3p t (by have:=hs.zw t ht;unfold maxLen;omega)
 have TY:Hid (∀wx,Below N0 w1 wx→∀t,t ∈ s.words→Calls Tryz.prog 168 #[.pointer (some ⟨lb,0,none⟩),S.zo t] wx (Asks wx (q04 L t))):=fun wx hb t ht=>qgn (h.below (b0.trans (hb.mono (by rw[←hN];exact b0.size)))) hO.q3p hO.scN t (by have:=hs.zw t ht;unfold maxLen;omega)
 have HAt:Hid (S.q0i w1 aw s.words):=hW.1.under b0;generalize hnw:s.words.length=nw at *;generalize hnp:s.proof.length=np at *;have HL:=hid hnw;have B0:=hid b0;have z10:w1.cell? ⟨w.heap.size,10,none⟩=some (.slice aw nw cw):=C0.out w1 bRf 10;clear h hO hs hW b0 hn hnw hnp h2 hN;unfold q0o at EN ⊢;go_enter Tryz.func112,Tryz.ntmps112;go_upto_region 1 with fail;rw[←hw1];clear hw1;go_wp2_with fail;clear z10
 go_loopw [4,10] (fun v4 v10 wx=>∃(j:Nat) (acc:List Int),j≤nw∧v10=.int .i64 j∧Hid (acc.length=j)∧Hid (q17 L [] s.words=q17 L acc (s.words.drop j))∧Hid (wx.ownsRow N0 3 1 v4 j (F.xw acc))∧Hid (Below N0 w1 wx)) (fun _ v10 _=>nw - (intOf v10).toNat)
 case atStart=>exact⟨0,[],Nat.zero_le _,rfl,rfl,rfl,World.ownsRow_nil _ _ _ _,bRf⟩
 case round =>
  obtain⟨j,acc,hj,rfl,HA,hR,hO,HB⟩:=hrel;have HNr:Hid (N0≤wr.heap.size):=by have h1:=HB.out.size;have h2:=HN.out;show N0≤_;omega
  by_cases hlt:j < nw
  ·have n1:(j:Int) < (nw:Int):=by omega
   obtain⟨t,ht⟩:∃t,s.words[j]?=some t:=⟨_,gEq (by rw[HL.out];exact hlt)⟩;have hdr:s.words.drop j=t :: s.words.drop (j + 1):=by
    obtain⟨hlt2,e2⟩:=List.getElem?_eq_some_iff.1 ht;rw[List.drop_eq_getElem_cons hlt2,e2]
   have HT:Hid (t ∈ s.words):=mGe ht;obtain⟨g,off,rfl,y0,y1,y2,y3⟩:=HAt.out j t ht;replace y0:=uh y0 HN.out HB.out;replace y1:=uh y1 HN.out HB.out;replace y2:=uh y2 HN.out HB.out;replace y3:=uh y3 HN.out HB.out;have HR2:Hid (q17 L [] s.words=match (if acc.length=0 then q08 L t else q04 L t) with | .ok n=>q17 L (acc++[n]) (s.words.drop (j + 1)) | .error f=>.error f):=hR.out.trans (by rw[hdr,q17] <;> cases (if acc.length=0 then q08 L t else q04 L t) <;> rfl);have HFL:Hid (q1s L s=match q17 L [] s.words with | .ok e=>if q0m s.fin=true then yj s.fin (F.q0s (isV:=zn L.T) L.sc (e.getD 0 0) (e.getD 1 0)) { L with sc:=F.q0j (isV:=zn L.T) L.sc s.label.text (e.getD 0 0) (e.getD 1 0),hy:=L.hy++[⟨s.label.text,true,e.getD 1 0,e⟩] } else .ok L | .error f=>.error f):=HFR.out _ rfl;have nlo:0≤(j:Int):=by omega
   clear hdr ht EN HE
   by_cases hz:j=0
   ·have HZ:Hid (acc.length=0):=by show _=_;rw[HA.out];exact hz
    have nz:((j:Int) == 0)=true:=by simp[hz]
    simp only[hz,Nat.zero_mul,Nat.add_zero] at y0 y1 y2 y3;have A:Hid (Calls Tryz.prog 167 #[.pointer (some ⟨lb,0,none⟩),S.zo t] (wr.alloc (.cells (uq t) 36)) (Asks (wr.alloc (.cells (uq t) 36)) (q08 L t))):=CO.out _ (HB.out.trans (q1i HNr.out _)) t HT.out;unfold S.zo at A
    cases hr:q08 L t with
    | error f =>
     rw[hr] at A;have R2:Hid (q1s L s=.error f):=HFL.out.trans (by rw[HR2.out,if_pos HZ.out,hr]);clear hO hR HR2 hr HT;go_wp2_with fail;refine cMo A.out ?_;rintro e w' ⟨hb,b,rfl,q2,q3⟩;have hs:=(HB.out.trans (q1i HNr.out (.cells (uq t) 36)));have hs2:N0≤(wr.alloc (.cells (uq t) 36)).heap.size:=by rw[←HN.out];exact hs.size
     have B1:=B0.out;have hN0:=HN.out;have bb:Below w.heap.size w w':=B1.trans ((hs.trans (hb.mono hs2)).mono (by rw[←hN0];exact B1.size));exact⟨rfl,q0y R2.out (S.M.Ch.oB bb) ⟨b,rfl,q2,by have:=B1.size;omega⟩⟩
    | ok x =>
     rw[hr] at A;have R2:Hid (q17 L [] s.words=q17 L (acc++[x]) (s.words.drop (j + 1))):=HR2.out.trans (by rw[if_pos HZ.out,hr]);have A2:Hid ((acc++[x]).length=j + 1):=by show _=_;rw[lAp,HA.out];rfl
     have HF:Hid (F.xw (acc++[x])=F.xw acc++[.int .i64 x]):=F.q2o acc [x];clear hR HR2 hr HT;go_wp2_with fail;refine cMo A.out ?_;rintro e w4 ⟨hb1,rfl⟩;have hs:=(HB.out.trans (q1i HNr.out (.cells (uq t) 36)));have hs2:N0≤(wr.alloc (.cells (uq t) 36)).heap.size:=by rw[←HN.out];exact hs.size
     have HB1:Hid (Below N0 w1 w4):=hs.trans (hb1.mono hs2);have HN1:Hid (N0≤w4.heap.size):=nLt hs2 hb1.size;have HO1:Hid (w4.ownsRow N0 3 1 u4 j (F.xw acc)):=S.M.qh (S.M.zk hO.out _) (S.M.Ch.oB (X:=fun _=>False) hb1) fun _ _ e=>e
     clear hb1 hO HB hs hs2 A
     go_wp2_with (at_builtin;refine wpList_append_lies (w:=w4.alloc (.cells #[.int .i64 x] 3)) rfl _ _ 38 rfl N0 3 iN _ 1 8 Tryz.underlying38 hiN iNz iNs iNb rfl (by decide) _ j (F.xw acc) (by rfl) (S.M.zk HO1.out _) ⟨w4.heap.size,0,none⟩ 1 1 [.int .i64 x] (by rfl) (by rfl) (World.news_of_block (cs:=#[.int .i64 x]) (t:=3) (fr:=(0,0)) (World.alloc_heap_new w4 _)) (by simp[Value.oneCell']) (by omega) (by unfold maxLen;omega) (by omega) (nLt HN1.out (S.qg w4 _).size) _ rfl ?_;intro gg cap' w8 hown8 hgrow hat hlt8;have O8:Hid (w8.ownsRow N0 3 1 (.slice (some ⟨gg,0,none⟩) (j + 1) cap') (j + 1) (F.xw (acc++[x]))):=(by show World.ownsRow _ _ _ _ _ _ _;rw[HF.out];exact hown8);have B8:Hid (Below N0 w1 w8):=HB1.out.trans (((Below.refl _ w4).alloc HN1.out _).trans (bRf.grown hgrow (nLt HN1.out (S.qg w4 _).size) (S.M.zf HO1.out)));clear hown8 hgrow hat hlt8)
     exact⟨⟨j + 1,acc++[x],by omega,by go_num,A2.out,R2.out,(by have h8:=O8.out;rw[hz] at h8 ⊢;exact h8),B8.out⟩,by simp[intOf];omega⟩
   ·have HZ:Hid (¬acc.length=0):=by show ¬_;rw[HA.out];exact hz
    have nz:((j:Int) == 0)=false:=by simp;omega
    have A:Hid (Calls Tryz.prog 168 #[.pointer (some ⟨lb,0,none⟩),S.zo t] (wr.alloc (.cells (uq t) 36)) (Asks (wr.alloc (.cells (uq t) 36)) (q04 L t))):=TY.out _ (HB.out.trans (q1i HNr.out _)) t HT.out;unfold S.zo at A
    cases hr:q04 L t with
    | error f =>
     rw[hr] at A;have R2:Hid (q1s L s=.error f):=HFL.out.trans (by rw[HR2.out,if_neg HZ.out,hr]);clear hO hR HR2 hr HT;go_wp2_with fail;refine cMo A.out ?_;rintro e w' ⟨hb,b,rfl,q2,q3⟩;have hs:=(HB.out.trans (q1i HNr.out (.cells (uq t) 36)));have hs2:N0≤(wr.alloc (.cells (uq t) 36)).heap.size:=by rw[←HN.out];exact hs.size
     have B1:=B0.out;have hN0:=HN.out;have bb:Below w.heap.size w w':=B1.trans ((hs.trans (hb.mono hs2)).mono (by rw[←hN0];exact B1.size));exact⟨rfl,q0y R2.out (S.M.Ch.oB bb) ⟨b,rfl,q2,by have:=B1.size;omega⟩⟩
    | ok x =>
     rw[hr] at A;have R2:Hid (q17 L [] s.words=q17 L (acc++[x]) (s.words.drop (j + 1))):=HR2.out.trans (by rw[if_neg HZ.out,hr]);have A2:Hid ((acc++[x]).length=j + 1):=by show _=_;rw[lAp,HA.out];rfl
     have HF:Hid (F.xw (acc++[x])=F.xw acc++[.int .i64 x]):=F.q2o acc [x];clear hR HR2 hr HT;go_wp2_with fail;refine cMo A.out ?_;rintro e w4 ⟨hb1,rfl⟩;have hs:=(HB.out.trans (q1i HNr.out (.cells (uq t) 36)));have hs2:N0≤(wr.alloc (.cells (uq t) 36)).heap.size:=by rw[←HN.out];exact hs.size
     have HB1:Hid (Below N0 w1 w4):=hs.trans (hb1.mono hs2);have HN1:Hid (N0≤w4.heap.size):=nLt hs2 hb1.size;have HO1:Hid (w4.ownsRow N0 3 1 u4 j (F.xw acc)):=S.M.qh (S.M.zk hO.out _) (S.M.Ch.oB (X:=fun _=>False) hb1) fun _ _ e=>e
     clear hb1 hO HB hs hs2 A
     go_wp2_with (at_builtin;refine wpList_append_lies (w:=w4.alloc (.cells #[.int .i64 x] 3)) rfl _ _ 38 rfl N0 3 iN _ 1 8 Tryz.underlying38 hiN iNz iNs iNb rfl (by decide) _ j (F.xw acc) (by rfl) (S.M.zk HO1.out _) ⟨w4.heap.size,0,none⟩ 1 1 [.int .i64 x] (by rfl) (by rfl) (World.news_of_block (cs:=#[.int .i64 x]) (t:=3) (fr:=(0,0)) (World.alloc_heap_new w4 _)) (by simp[Value.oneCell']) (by omega) (by unfold maxLen;omega) (by omega) (nLt HN1.out (S.qg w4 _).size) _ rfl ?_;intro gg cap' w8 hown8 hgrow hat hlt8;have O8:Hid (w8.ownsRow N0 3 1 (.slice (some ⟨gg,0,none⟩) (j + 1) cap') (j + 1) (F.xw (acc++[x]))):=(by show World.ownsRow _ _ _ _ _ _ _;rw[HF.out];exact hown8);have B8:Hid (Below N0 w1 w8):=HB1.out.trans (((Below.refl _ w4).alloc HN1.out _).trans (bRf.grown hgrow (nLt HN1.out (S.qg w4 _).size) (S.M.zf HO1.out)));clear hown8 hgrow hat hlt8)
     exact⟨⟨j + 1,acc++[x],by omega,by go_num,A2.out,R2.out,O8.out,B8.out⟩,by simp[intOf];omega⟩
  ·have n1:¬(j:Int) < (nw:Int):=by omega
   have hall:s.words.drop j=[]:=List.drop_eq_nil_of_le (by rw[HL.out];omega);have R1:q17 L [] s.words=.ok acc:=hR.out.trans (by rw[hall];rfl);have HR:Hid (q1s L s=if q0m s.fin=true then yj s.fin (F.q0s (isV:=zn L.T) L.sc (acc.getD 0 0) (acc.getD 1 0)) { L with sc:=F.q0j (isV:=zn L.T) L.sc s.label.text (acc.getD 0 0) (acc.getD 1 0),hy:=L.hy++[⟨s.label.text,true,acc.getD 1 0,acc⟩] } else .ok L):=HFR.out _ R1;have HE1:Hid ((∀x ∈ acc,F.wfN x)∧acc.length=nw):=HE.out acc R1;obtain⟨av,cv,rfl,hcv,_⟩:=S.M.xq hO.out;have hje:j=nw:=by omega
   have hB2:Hid (Below w1.heap.size w1 wr):=by show Below _ _ _;rw[HN.out];exact HB.out
   have HV:Hid (wr.ownsRow w1.heap.size 3 1 (.slice av j cv) j (F.xw acc)):=by show World.ownsRow _ _ _ _ _ _ _;rw[HN.out];exact hO.out
   have z:=C0.out wr hB2.out;have z0:wr.cell? ⟨w.heap.size,0,none⟩=some (.int .i64 s.kind):=z 0;have z1:wr.cell? ⟨w.heap.size,1,none⟩=some (.string s.label.text):=z 1;have z2:wr.cell? ⟨w.heap.size,2,none⟩=some (.int .i64 s.label.off):=z 2;have z3:wr.cell? ⟨w.heap.size,3,none⟩=some (.int .i64 s.label.line):=z 3;have z4:wr.cell? ⟨w.heap.size,4,none⟩=some (.int .i64 s.label.col):=z 4;have z5:wr.cell? ⟨w.heap.size,5,none⟩=some (.string s.key.text):=z 5;have z6:wr.cell? ⟨w.heap.size,6,none⟩=some (.int .i64 s.key.off):=z 6;have z7:wr.cell? ⟨w.heap.size,7,none⟩=some (.int .i64 s.key.line):=z 7;have z8:wr.cell? ⟨w.heap.size,8,none⟩=some (.int .i64 s.key.col):=z 8;have z9:wr.cell? ⟨w.heap.size,9,none⟩=some (.bool s.proving):=z 9;have z10':wr.cell? ⟨w.heap.size,10,none⟩=some (.slice aw nw cw):=z 10;have z11:wr.cell? ⟨w.heap.size,11,none⟩=some (.slice ap np cp):=z 11;have z12:wr.cell? ⟨w.heap.size,12,none⟩=some (.string s.fin.text):=z 12;have z13:wr.cell? ⟨w.heap.size,13,none⟩=some (.int .i64 s.fin.off):=z 13;have z14:wr.cell? ⟨w.heap.size,14,none⟩=some (.int .i64 s.fin.line):=z 14;have z15:wr.cell? ⟨w.heap.size,15,none⟩=some (.int .i64 s.fin.col):=z 15;have EN2:Hid _:=EN.out wr;unfold yc S.q4w at EN2;have HJE:Hid (j=nw):=hje;clear z hO HB hR hall R1 HE HFR CO TY EN HAt hje;go_wp2_with fail;refine cMo EN2.out ?_;rintro ee w3 ⟨rfl,hb3⟩;clear z0 z1 z2 z3 z4 z5 z6 z7 z8 z9 z10' z11 z12 z13 z14 z15 EN2;have B3:=bTr hB2 hb3;have HV3:Hid (w3.ownsRow w1.heap.size 3 1 (.slice av j cv) j (F.xw acc)):=S.M.qh HV.out (S.M.Ch.oB (X:=fun _=>False) hb3) fun _ _ e=>e
   clear hb3 HV hB2
   cases he:q0m s.fin with
   | false =>
    have R2:Hid (q1s L s=.ok L):=HR.out.trans (by rw[he];rfl)
    go_wp2
    have B4:Below w.heap.size w w3:=B0.out.trans (B3.out.mono B0.out.size);exact bodyPost_end (results_none rfl _ _ _) rfl (gq R2.out rfl ((Goes.same HI.out B4).up (by omega)))
   | true =>
    have hn2:nw=2:=H2.out he;have hj2:j=2:=by rw[HJE.out];exact hn2
    have hal:acc.length=2:=by rw[HA.out];exact hj2
    obtain⟨x,y,rfl⟩:∃x y,acc=[x,y]:=by
     match acc,hal with
     | [x,y],_=>exact⟨x,y,rfl⟩
    subst hj2;have R2:Hid (q1s L s=yj s.fin (F.q0s (isV:=zn L.T) L.sc x y) { L with sc:=F.q0j (isV:=zn L.T) L.sc s.label.text x y,hy:=L.hy++[⟨s.label.text,true,y,[x,y]⟩] }):=HR.out.trans (by rw[he];rfl);have HXY:Hid (F.wfN x∧F.wfN y):=⟨HE1.out.1 x (by simp),HE1.out.1 y (by simp)⟩;clear HR he HE1 hal hn2;obtain⟨g,c2,e2,_,hgN,_⟩:=S.M.q0h HV3.out (by omega);simp only[Value.slice.injEq] at e2;obtain⟨rfl,_,rfl⟩:=e2;have BD:Hid (Below w.heap.size w w3.drew):=S.M.zi (B0.out.trans (B3.out.mono B0.out.size)) 1;have BD1:Hid (Below w1.heap.size w1 w3.drew):=S.M.zi B3.out 1;have ID:Hid (xg N w3.drew lb txt k L (Y.numOf L.T.syms) m):=HI.out.below BD.out;have HVD:Hid (w3.drew.ownsRow w1.heap.size 3 1 (.slice (some ⟨g,0,none⟩) 2 cv) 2 (F.xw [x,y])):=S.M.qh HV3.out (S.M.Ch.oB (X:=fun _=>False) (S.M.zi bRf 1)) fun _ _ e=>e
    have FL:Hid (Calls Tryz.prog 169 #[.pointer (some ⟨m.P,0,none⟩),.string s.label.text,.int .i64 x,.int .i64 y] w3.drew fun ee w'=>ee=.returned (.int .i64 (F.q0s (isV:=zn L.T) L.sc x y))∧Goes N w3.drew lb txt m k { L with sc:=F.q0j (isV:=zn L.T) L.sc s.label.text x y } (Y.numOf L.T.syms) w'):=by
     have h1:=ID.out;have h2:=F.qie (isV:=zn L.T) w3.drew m.O m.P m.vS m.sx s.label.text x y h1.stk (h1.vars HO.out.q3p) (by rw[h1.q49];exact HO.out.sc1) (by rw[h1.q49];exact HO.out.scN) (h1.qqf HO.out) HZ.out HXY.out.1 HXY.out.2;rw[h1.sca] at h2;exact h2.mono fun ee w' hd=>h1.decl hd
    have x2:w3.drew.cell? ⟨lb,2,none⟩=some (.pointer (some ⟨m.P,0,none⟩)):=ID.out.cells.2.2;have z:=C0.out w3.drew BD1.out;have z1:w3.drew.cell? ⟨w.heap.size,1,none⟩=some (.string s.label.text):=z 1;have z12:w3.drew.cell? ⟨w.heap.size,12,none⟩=some (.string s.fin.text):=z 12;have z13:w3.drew.cell? ⟨w.heap.size,13,none⟩=some (.int .i64 s.fin.off):=z 13;have z14:w3.drew.cell? ⟨w.heap.size,14,none⟩=some (.int .i64 s.fin.line):=z 14;have z15:w3.drew.cell? ⟨w.heap.size,15,none⟩=some (.int .i64 s.fin.col):=z 15;have q0:w3.drew.cell? ⟨g,0,none⟩=some (.int .i64 x):=S.M.q3r HVD.out 0 _ rfl;have q1:w3.drew.cell? ⟨g,1,none⟩=some (.int .i64 y):=S.M.q3r HVD.out 1 _ rfl;have ZB:Hid (w3.drew.heap[w.heap.size]?=some (.cells (yc s (.slice aw nw cw) (.slice ap np cp)) 95 (0,0))∧¬m.hot w.heap.size):=⟨(BD1.out.block _ HS1.out).trans HX1.out,fun hh=>by have:=HI.out.lt _ hh;omega⟩;clear z;have CK:Hid (∀wx,Calls Tryz.prog 102 #[S.zo s.fin,.int .i64 (F.q0s (isV:=zn L.T) L.sc x y)] wx (Chk s.fin (F.q0s (isV:=zn L.T) L.sc x y) wx)):=fun wx=>check_any wx s.fin _
    have KP:Hid (∀w5,Goes N w3.drew lb txt m k { L with sc:=F.q0j (isV:=zn L.T) L.sc s.label.text x y } (Y.numOf L.T.syms) w5→w5.cell? ⟨w.heap.size,1,none⟩=some (.string s.label.text)∧w5.cell? ⟨g,1,none⟩=some (.int .i64 y)∧Calls Tryz.prog 170 #[.pointer (some ⟨lb,0,none⟩),.agg #[.string s.label.text,.bool true,.int .i64 y,.slice (some ⟨g,0,none⟩) 2 cv]] w5.drew fun ee w'=>ee=.returned (.tuple #[])∧Goes N w lb txt m (k + 1) { L with sc:=F.q0j (isV:=zn L.T) L.sc s.label.text x y,hy:=L.hy++[⟨s.label.text,true,y,[x,y]⟩] } (Y.numOf L.T.syms) w'):=fun w5 hg5=>by
     have bd5:Below w5.heap.size w5 w5.drew:=S.M.zi bRf 1;obtain⟨c5,m5,i5,g5⟩:=hg5;have hb0:=B0.out;have hlt0:∀b,m.hot b→b < w.heap.size:=HI.out.lt;have hge:∀b,(Value.slice (some ⟨g,0,none⟩) 2 cv).ownBlock=some b→w1.heap.size≤b∧b < w3.heap.size:=fun b eb=>⟨S.M.zf HV3.out b eb,S.M.jr HV3.out b eb⟩
     have hs1:=HS1.out;have ho5:=S.M.qh HVD.out c5 fun b eb hh=>by have:=hlt0 b hh;have:=hge b eb;omega
     have ho:=S.M.qp (S.M.qh ho5 (S.M.Ch.oB (X:=fun _=>False) bd5) fun _ _ e=>e) (base':=N) (by have:=HI.out.ge;omega);refine⟨S.M.qc ((c5.block _ (aIx ZB.out.1) ZB.out.2).trans ZB.out.1) 1,S.M.q3r ho5 1 _ rfl,?_⟩;refine (keep_any (i5.below bd5) ⟨s.label.text,true,y,[x,y]⟩ (some ⟨g,0,none⟩) cv (by have:=HO.out.hy1;show L.hy.length≤_;omega) (by omega) HZ.out HNo.out ho fun b eb hh=>?_).mono fun ee w' hk=>⟨hk.1,(q34 (c5.trans (S.M.Ch.oB bd5)) g5 hk.2).q18 BD.out⟩
     have h3:=hge b eb;rcases g5 b hh with h4 | h4
     ·have:=hlt0 b h4;omega
     ·have h5:w3.drew.heap.size=w3.heap.size:=rfl;omega
    have ST:Hid (∀w4,Goes N w3.drew lb txt m k { L with sc:=F.q0j (isV:=zn L.T) L.sc s.label.text x y } (Y.numOf L.T.syms) w4→w4.heap[w.heap.size]?=some (.cells (yc s (.slice aw nw cw) (.slice ap np cp)) 95 (0,0))):=fun w4 hg=>(hg.1.block _ (aIx ZB.out.1) ZB.out.2).trans ZB.out.1
    have DN:Hid (∀w4 w5,Goes N w3.drew lb txt m k { L with sc:=F.q0j (isV:=zn L.T) L.sc s.label.text x y } (Y.numOf L.T.syms) w4→Below w4.heap.size w4 w5→S.M.Ch m.hot w w5∧w.heap.size≤w4.heap.size):=fun w4 w5 hg hb=>⟨(S.M.Ch.oB BD.out).trans (hg.1.trans (S.M.Ch.oB hb)),nLt BD.out.size hg.1.size⟩
    have SA:Hid (∀w4,Hid (S.M.Ch m.hot w3.drew w4)→w4.cell? ⟨lb,2,none⟩=some (.pointer (some ⟨m.P,0,none⟩))∧w4.cell? ⟨w.heap.size,1,none⟩=some (.string s.label.text)∧w4.cell? ⟨w.heap.size,12,none⟩=some (.string s.fin.text)∧w4.cell? ⟨w.heap.size,13,none⟩=some (.int .i64 s.fin.off)∧w4.cell? ⟨w.heap.size,14,none⟩=some (.int .i64 s.fin.line)∧w4.cell? ⟨w.heap.size,15,none⟩=some (.int .i64 s.fin.col)∧w4.cell? ⟨g,0,none⟩=some (.int .i64 x)∧w4.cell? ⟨g,1,none⟩=some (.int .i64 y)):=fun w4 hc=>by
     have hbx:=(hc.out.block _ (aIx ZB.out.1) ZB.out.2).trans ZB.out.1;have hl:=(hc.out.block lb (aIx ID.out.cold.lbox) ID.out.cold.lh).trans ID.out.cold.lbox;have hg4:=hc.out.block g (bLt q0) fun hh=>by have:=HI.out.lt _ hh;have:=HS1.out;omega
     exact⟨S.M.qc hl 2,S.M.qc hbx 1,S.M.qc hbx 12,S.M.qc hbx 13,S.M.qc hbx 14,S.M.qc hbx 15,(World.cell?_of_block (a:=⟨g,0,none⟩) hg4).trans q0,(World.cell?_of_block (a:=⟨g,1,none⟩) hg4).trans q1⟩
    have C00:Hid (S.M.Ch m.hot w3.drew w3.drew):=S.M.Ch.refl _ _;unfold S.zo at CK;generalize (F.q0s (isV:=zn L.T) L.sc x y)=J at *;clear ID HV3 B3 hgN hcv
    by_cases hJ:J=0
    ·have HJ:Hid (J=0):=hJ;have R3:Hid (q1s L s=.ok { L with sc:=F.q0j (isV:=zn L.T) L.sc s.label.text x y,hy:=L.hy++[⟨s.label.text,true,y,[x,y]⟩] }):=R2.out.trans (if_pos hJ);clear hJ R2;clear z1 z12 z13 z14 z15 x2;go_upto_region 10 with fail
     go_region_held3 (fun w'=>w'.cell? ⟨lb,2,none⟩=some (.pointer (some ⟨m.P,0,none⟩))∧w'.cell? ⟨w.heap.size,1,none⟩=some (.string s.label.text)∧w'.cell? ⟨w.heap.size,12,none⟩=some (.string s.fin.text)∧w'.cell? ⟨w.heap.size,13,none⟩=some (.int .i64 s.fin.off)∧w'.cell? ⟨w.heap.size,14,none⟩=some (.int .i64 s.fin.line)∧w'.cell? ⟨w.heap.size,15,none⟩=some (.int .i64 s.fin.col)∧w'.cell? ⟨g,0,none⟩=some (.int .i64 x)∧w'.cell? ⟨g,1,none⟩=some (.int .i64 y)) (refine⟨?_,?_,?_,?_,?_,?_,?_,?_⟩ <;> first | assumption | exact (SA.out _ (by assumption)).1 | exact (SA.out _ (by assumption)).2.1 | exact (SA.out _ (by assumption)).2.2.1 | exact (SA.out _ (by assumption)).2.2.2.1 | exact (SA.out _ (by assumption)).2.2.2.2.1 | exact (SA.out _ (by assumption)).2.2.2.2.2.1 | exact (SA.out _ (by assumption)).2.2.2.2.2.2.1 | exact (SA.out _ (by assumption)).2.2.2.2.2.2.2)
      (first
      | (go_simp;go_at_call 169;refine cMo FL.out ?_;rintro ee w4 ⟨rfl,hg⟩;have GG:Hid (Goes N w3.drew lb txt m k { L with sc:=F.q0j (isV:=zn L.T) L.sc s.label.text x y } (Y.numOf L.T.syms) w4):=hg;have CC:Hid (S.M.Ch m.hot w3.drew w4):=hg.1;clear hg)
      | (go_simp;go_at_call 102;refine cMo (CK.out _) ?_;rintro ee w5 ⟨hb5,he5⟩;rw[if_pos HJ.out] at he5;subst he5;have G5:Hid (Goes N w3.drew lb txt m k { L with sc:=F.q0j (isV:=zn L.T) L.sc s.label.text x y } (Y.numOf L.T.syms) w5):=GG.out.jd hb5;have CC2:Hid (S.M.Ch m.hot w3.drew w5):=G5.out.1;clear hb5))
     all_goals obtain⟨k1,k2,KP1⟩:=KP.out _ G5.out
     all_goals have KP2:Hid (Calls Tryz.prog 170 #[.pointer (some ⟨lb,0,none⟩),.agg #[.string s.label.text,.bool true,.int .i64 y,.slice (some ⟨g,0,none⟩) 2 cv]] w5.drew fun ee w'=>ee=.returned (.tuple #[])∧Goes N w lb txt m (k + 1) { L with sc:=F.q0j (isV:=zn L.T) L.sc s.label.text x y,hy:=L.hy++[⟨s.label.text,true,y,[x,y]⟩] } (Y.numOf L.T.syms) w'):=KP1
     all_goals clear KP1
     all_goals go_upto_region 11 with fail
     all_goals go_region_law (go_simp;go_at_call 170;refine cMo KP2.out ?_;rintro ee w6 ⟨rfl,hg6⟩;have G6:=hid hg6;clear hg6)
     all_goals go_wp2
     all_goals exact bodyPost_end (results_none rfl _ _ _) rfl (gq R3.out rfl G6.out)
    ·have HJ:Hid (¬J=0):=hJ;have R3:Hid (q1s L s=.error (s.fin,J)):=R2.out.trans (if_neg hJ);clear hJ R2 KP;clear z1 z12 z13 z14 z15 x2;go_upto_region 10 with fail;refine wp_region_held_drew (S:=(fun w'=>w'.cell? ⟨lb,2,none⟩=some (.pointer (some ⟨m.P,0,none⟩))∧w'.cell? ⟨w.heap.size,1,none⟩=some (.string s.label.text)∧w'.cell? ⟨w.heap.size,12,none⟩=some (.string s.fin.text)∧w'.cell? ⟨w.heap.size,13,none⟩=some (.int .i64 s.fin.off)∧w'.cell? ⟨w.heap.size,14,none⟩=some (.int .i64 s.fin.line)∧w'.cell? ⟨w.heap.size,15,none⟩=some (.int .i64 s.fin.col)∧w'.cell? ⟨g,0,none⟩=some (.int .i64 x)∧w'.cell? ⟨g,1,none⟩=some (.int .i64 y))) (by kernel_rfl) ?_ (fun hHeld=>?_)
     ·(refine⟨?_,?_,?_,?_,?_,?_,?_,?_⟩ <;> first | assumption | exact (SA.out _ (by assumption)).1 | exact (SA.out _ (by assumption)).2.1 | exact (SA.out _ (by assumption)).2.2.1 | exact (SA.out _ (by assumption)).2.2.2.1 | exact (SA.out _ (by assumption)).2.2.2.2.1 | exact (SA.out _ (by assumption)).2.2.2.2.2.1 | exact (SA.out _ (by assumption)).2.2.2.2.2.2.1 | exact (SA.out _ (by assumption)).2.2.2.2.2.2.2)
     refine tkq 0 hHeld ?_;refine tkq 1 hHeld ?_;refine tkq 2 hHeld ?_;refine tkq 3 hHeld ?_;refine tkq 4 hHeld ?_;refine tkq 5 hHeld ?_;refine tkq 6 hHeld ?_;refine tkq 7 hHeld ?_;refine tkq 8 hHeld ?_;refine tkq 9 hHeld ?_;refine tkq 10 hHeld ?_;refine tkq 11 hHeld ?_;refine tkq 12 hHeld ?_;refine tkq 13 hHeld ?_;refine tkq 14 hHeld ?_;refine rkq 15 fun K hK=>?_
     go_simp;go_at_call 169;refine cMo FL.out ?_;rintro ee w4 ⟨rfl,hg⟩;have GG:Hid (Goes N w3.drew lb txt m k { L with sc:=F.q0j (isV:=zn L.T) L.sc s.label.text x y } (Y.numOf L.T.syms) w4):=hg;have CC:Hid (S.M.Ch m.hot w3.drew w4):=hg.1;clear hg;refine aQq hK ?_ fun hHeld2=>?_
     ·(refine⟨?_,?_,?_,?_,?_,?_,?_,?_⟩ <;> first | assumption | exact (SA.out _ (by assumption)).1 | exact (SA.out _ (by assumption)).2.1 | exact (SA.out _ (by assumption)).2.2.1 | exact (SA.out _ (by assumption)).2.2.2.1 | exact (SA.out _ (by assumption)).2.2.2.2.1 | exact (SA.out _ (by assumption)).2.2.2.2.2.1 | exact (SA.out _ (by assumption)).2.2.2.2.2.2.1 | exact (SA.out _ (by assumption)).2.2.2.2.2.2.2)
     clear hK K;refine rkq 16 fun K hK=>?_
     go_simp;go_at_call 102;refine cMo (CK.out _) ?_;rintro ee w5 ⟨hb5,he5⟩;rw[if_neg HJ.out] at he5;obtain⟨b,rfl,q2,q3⟩:=he5;obtain⟨d1,d2⟩:=DN.out _ _ GG.out hb5;exact⟨rfl,q0y R3.out d1 ⟨b,rfl,q2,nLt d2 q3⟩⟩
end
theorem qnl (w:World)(a:Option Addr)(n c:Nat)(l:List Int)(v:Int)(hl:l.length=n)(hn:n≤1048576)(hA:F.uj w a l) :
  Calls Tryz.prog 219 #[.slice a n c,.int .i64 v] w fun e w'=>e=.returned (.int .i64 (F.q3x (fun x=>v == x) l))∧w'=w:=by
 have HL:=hid hl;have HA:=hid hA;clear hl hA;go_enter Tryz.func219,Tryz.ntmps219;go_wp2_with fail
 go_loopw [5,8] (fun _v5 v8 wx=>∃j:Nat,j≤n∧v8=.int .i64 j∧wx=w∧Hid ((l.take j).any (fun x=>v == x)=false)) (fun _ v8 _=>n - (intOf v8).toNat)
 case atStart=>exact⟨0,Nat.zero_le _,rfl,rfl,rfl⟩
 case round =>
  obtain⟨j,hj,rfl,rfl,hN⟩:=hrel
  by_cases hlt:j < n
  ·have n1:(j:Int) < (n:Int):=by omega
   obtain⟨x,hx⟩:∃x,l[j]?=some x:=⟨_,gEq (by rw[HL.out];exact hlt)⟩;obtain⟨g,off,rfl,y0⟩:=HA.out j x hx
   cases e1:v == x with
   | true =>
    have N2:Hid (F.q3x (fun x=>v == x) l=(j:Int)):=F.q76 hx e1 hN.out;clear hx hN
    go_wp2
    go_ret
    exact⟨by rw[N2.out];rfl,rfl⟩
   | false =>
    have N2:Hid ((l.take (j + 1)).any (fun x=>v == x)=false):=by
     show _=_
     rw[List.take_add_one,hx,List.any_append,hN.out];simp[e1]
    clear hx hN
    go_wp2
    exact⟨⟨j + 1,by omega,by go_num,trivial,N2.out⟩,by simp[intOf];omega⟩
  ·have n1:¬(j:Int) < (n:Int):=by omega
   have N2:Hid (F.q3x (fun x=>v == x) l=-1):=by
    have h:=hN.out;rw[List.take_of_length_le (by rw[HL.out];omega)] at h;exact F.q5n h
   clear hN
   go_wp2
   go_ret
   exact⟨by rw[N2.out];rfl,rfl⟩
theorem qev (w:World)(a:Option Addr)(n c:Nat)(l:List Int)(v:Int)(hl:l.length=n)(hn:n≤1048576)(hA:F.uj w a l) :
  Calls Tryz.prog 163 #[.slice a n c,.int .i64 v] w fun e w'=>e=.returned (.bool (l.contains v))∧w'=w:=by
 have CC:Hid _:=qnl w a n c l v hl hn hA;have HE:Hid (decide (0≤F.q3x (fun x=>v == x) l)=l.contains v):=by
  show _=_
  rw[F.qbh]
  induction l with
  | nil=>rfl
  | cons y r ih=>rw[List.any_cons,List.contains_cons];congr 1;exact List.any_beq.trans rfl
 obtain⟨i,hi⟩:=eXb (F.q3x (fun x=>v == x) l);rw[hi] at CC HE;clear hl hn hA hi;go_enter Tryz.func163,Tryz.ntmps163;go_wp2_with fail;refine cMo CC.out ?_;rintro e wz ⟨rfl,hwz⟩;subst wz
 go_wp2
 go_ret
 exact⟨by rw[←HE.out];rfl,rfl⟩
theorem qqp (w:World)(N0:Nat)(v:Value)(l:List F.Pp)(p:F.Pp)(ho:w.ownsRow N0 130 2 v l.length (F.jh l))(hN:N0≤w.heap.size)(hl:l.length≤1048576) :
  Calls Tryz.prog 164 #[v,F.q2n p] w fun e w'=>S.M.Ch (fun b=>v.ownBlock=some b) w w'∧∃v',e=.returned v'∧w'.ownsRow N0 130 2 v' (q25 l p).length (F.jh (q25 l p)):=by
 obtain⟨iQ,hiQ,iQz,iQs,iQb⟩:=info_parts F.qeb;obtain⟨a,c,rfl,_⟩:=S.M.xq ho;have HP:Hid (F.yw w a l):=F.q3v ho;have HO:=hid ho;have HN:=hid hN;obtain⟨n,hn⟩:=eXb l.length;have HL:=hid hn;have hb0:Hid (Below w.heap.size w (w.alloc (.cells #[.int .i64 p.1,.int .i64 p.2] 130))):=S.qg w _
 have CH:Hid _:=F.qkr (w.alloc (.cells #[.int .i64 p.1,.int .i64 p.2] 130)) a c n l p hn (by omega) (fun i q hq=>by
  obtain⟨b,off,e,h1,h2⟩:=HP.out i q hq
  exact⟨b,off,e,(hb0.out.cell (p:=⟨b,_,none⟩) (bLt h1)).trans h1,(hb0.out.cell (p:=⟨b,_,none⟩) (bLt h2)).trans h2⟩)
 rw[hn] at HO hl ⊢;unfold F.q2n at CH ⊢
 cases hh:F.q3w l p with
 | true =>
  rw[hh] at CH;have HW:Hid (q25 l p=l):=if_pos hh;clear ho hN hn HP;go_enter Tryz.func164,Tryz.ntmps164;go_wp2_with fail;refine cMo CH.out ?_;rintro e w1 ⟨rfl,hb1⟩;have B1:=bTr hb0 hb1;clear hb1 CH
  go_wp2
  go_ret
  refine⟨S.M.Ch.oB B1.out,_,rfl,?_⟩;rw[HW.out,HL.out];exact S.M.qh HO.out (S.M.Ch.oB (X:=fun _=>False) B1.out) fun _ _ e=>e
 | false =>
  rw[hh] at CH;have HW:Hid (q25 l p=l++[p]):=if_neg (by rw[hh];decide);clear ho hN hn HP;go_enter Tryz.func164,Tryz.ntmps164;go_wp2_with fail;refine cMo CH.out ?_;rintro e w1 ⟨rfl,hb1⟩;have B1:=bTr hb0 hb1;have z0:w1.cell? ⟨w.heap.size,0,none⟩=some (.int .i64 p.1):=(hb1.cell (p:=⟨w.heap.size,0,none⟩) (by show _ < (w.heap.push _).size;simp)).trans (World.cell?_alloc_new w _ 130 0);have z1:w1.cell? ⟨w.heap.size,1,none⟩=some (.int .i64 p.2):=(hb1.cell (p:=⟨w.heap.size,1,none⟩) (by show _ < (w.heap.push _).size;simp)).trans (World.cell?_alloc_new w _ 130 1);have HO1:Hid (w1.ownsRow N0 130 2 (.slice a n c) n (F.jh l)):=S.M.qh HO.out (S.M.Ch.oB (X:=fun _=>False) B1.out) fun _ _ e=>e
  have HN1:Hid (N0≤w1.heap.size):=nLt HN.out B1.out.size;have HF:Hid (F.jh (l++[p])=F.jh l++[.int .i64 p.1,.int .i64 p.2]):=F.q6p l [p];clear hb1 CH
  go_wp2_with (at_builtin;refine wpList_append_lies (w:=w1.alloc (.cells #[.int .i64 p.1,.int .i64 p.2] 130)) rfl _ _ 45 rfl N0 130 iQ _ 2 16 Tryz.underlying45 hiQ iQz iQs iQb rfl (by decide) _ n (F.jh l) (by rfl) (S.M.zk HO1.out _) ⟨w1.heap.size,0,none⟩ 1 1 [.int .i64 p.1,.int .i64 p.2] (by rfl) (by rfl) (World.news_of_block (cs:=#[.int .i64 p.1,.int .i64 p.2]) (t:=130) (fr:=(0,0)) (World.alloc_heap_new w1 _)) (by simp[Value.oneCell']) (by omega) (by unfold maxLen;omega) (by omega) (nLt HN1.out (S.qg w1 _).size) _ rfl ?_;intro gg cap' w8 hown8 hgrow hat hlt8;have O8:Hid (w8.ownsRow N0 130 2 (.slice (some ⟨gg,0,none⟩) (n + 1) cap') (n + 1) (F.jh (l++[p]))):=(by show World.ownsRow _ _ _ _ _ _ _;rw[HF.out];exact hown8);have B8:Hid (S.M.Ch (fun b=>(Value.slice a n c).ownBlock=some b) w w8):=(S.M.Ch.oB B1.out).trans ((S.M.Ch.oB (S.qg w1 _)).trans (S.M.Ch.jw hgrow));clear hown8 hgrow hat hlt8)
  go_ret
  refine⟨B8.out,_,rfl,?_⟩;rw[HW.out,lAp,HL.out];exact O8.out
theorem qnm (l:List F.Pp)(p:F.Pp):(q25 l p).length≤l.length + 1:=by
 unfold q25
 split <;> simp
theorem qdm (v:Int):∀(a:List Int) (l:List F.Pp),(a.foldl (fun l u=>q25 l (u,v)) l).length≤l.length + a.length
 | [],l=>Nat.le_refl _
 | u :: a,l=>by
  have h1:=qdm v a (q25 l (u,v));have h2:=qnm l (u,v);rw[List.foldl_cons,List.length_cons];omega
theorem qc8 {L:Ld}(hT:L.T.syms.length≤4611686018427387904):∀(ts:List Tok) (a:List Int) (ps:List F.Pp) (e:List Int),q1k L a ps ts=.ok e→(∀x ∈ a,F.wfN x)→(∀x ∈ e,F.wfN x)∧e.length=a.length + ts.length
 | [],a,ps,e,h,h1=>by
  cases h;exact⟨h1,rfl⟩
 | t :: ts,a,ps,e,h,h1=>by
  unfold q1k at h
  cases hr:q3o L t with
  | error f=>rw[hr] at h;cases h
  | ok v =>
   rw[hr] at h;simp only at h
   split at h
   ·cases h
   ·split at h
    ·cases h
    ·obtain⟨i1,i2⟩:=qc8 hT ts (a++[v]) _ e h fun x hx=>(mAp.1 hx).elim (h1 x) fun hx=>by rw[mSg.1 hx];exact qlb hT hr
     exact⟨i1,by rw[i2];simp;omega⟩
section
variable {N:Nat} {w W':World} {lb:Nat} {txt:ByteArray} {k k':Nat} {L L':Ld} {nf nf':ByteArray→Option Nat} {m m':LdM} {s:Stm} {vw vp:Value}
theorem qbm (h:xg N w lb txt k L (Y.numOf L.T.syms) m)(hO:L.Ok k)(hs:q1a N m w s vw vp):Calls Tryz.prog 111 #[.pointer (some ⟨lb,0,none⟩),q0o s vw vp] w (Does N w lb txt m k (q2s L s)):=by
 obtain⟨iN,hiN,iNz,iNs,iNb⟩:=info_parts F.q7l;obtain⟨aw,cw,rfl,hW⟩:=hs.words;obtain⟨ap,cp,rfl,_⟩:=S.wo hs.op;have b0:Below w.heap.size w (w.alloc (.cells (yc s (.slice aw s.words.length cw) (.slice ap s.proof.length cp)) 95)):=S.qg _ _;have hlw:=hs.lw;have HI:=hid h;have HO:Hid (L.Ok k):=hO;have EN:Hid (∀wx,Calls Tryz.prog 165 #[q0o s (.slice aw s.words.length cw) (.slice ap s.proof.length cp)] wx fun e w'=>e=.returned (.bool (q0m s.fin))∧Below wx.heap.size wx w'):=fun wx=>q7a wx s aw _ cw ap _ cp
 have HFR:Hid (∀r,q1k L [] (q05 (F.uo L.sc)) s.words=r→q2s L s=match r with | .ok a=>if q0m s.fin=true then yj s.fin (F.q1w (isV:=zn L.T) L.sc a) { L with sc:=F.q1l (isV:=zn L.T) L.sc a } else .ok L | .error f=>.error f):=fun r er=>by unfold q2s;rw[er] <;> cases r <;> rfl
 have HE:Hid (∀e,q1k L [] (q05 (F.uo L.sc)) s.words=.ok e→(∀x ∈ e,F.wfN x)∧e.length=s.words.length):=fun e he=>by
  obtain⟨h1,h2⟩:=qc8 hO.q3p s.words [] _ e he (fun x hx=>by cases hx);exact⟨h1,by simpa using h2⟩
 have C0:Hid (∀w',Below (w.alloc (.cells (yc s (.slice aw s.words.length cw) (.slice ap s.proof.length cp)) 95)).heap.size (w.alloc (.cells (yc s (.slice aw s.words.length cw) (.slice ap s.proof.length cp)) 95)) w'→∀i,w'.cell? ⟨w.heap.size,i,none⟩=(yc s (.slice aw s.words.length cw) (.slice ap s.proof.length cp))[i]?):=fun w' hb=>q5p hb
 have HP0:Hid ((q05 (F.uo L.sc)).length≤256):=nLt (F.qpt (qbn _)) hO.ps;obtain⟨w1,hw1⟩:=eXa (w.alloc (.cells (yc s (.slice aw s.words.length cw) (.slice ap s.proof.length cp)) 95));have HS1:Hid (w.heap.size < w1.heap.size):=by rw[hw1];show _ < (w.heap.push _).size;simp
 have HX1:Hid (w1.heap[w.heap.size]?=some (.cells (yc s (.slice aw s.words.length cw) (.slice ap s.proof.length cp)) 95 (0,0))):=by show _=_;rw[hw1];exact World.alloc_heap_new w _
 rw[←hw1] at b0 C0;obtain⟨N0,hN⟩:∃N,w1.heap.size=N:=⟨_,rfl⟩;have HN:=hid hN;have VA:Hid (∀wx,Below N0 w1 wx→∀t,t ∈ s.words→Calls Tryz.prog 162 #[.pointer (some ⟨lb,0,none⟩),S.zo t] wx (Asks wx (q3o L t))):=fun wx hb t ht=>q8b (h.below (b0.trans (hb.mono (by rw[←hN];exact b0.size)))) hO.q3p t (by have:=hs.zw t ht;unfold maxLen;omega)
 have SCC:Hid (Calls Tryz.prog 161 #[.pointer (some ⟨m.P,0,none⟩)] w1 fun e w'=>Below w1.heap.size w1 w'∧∃vh vp ts,e=.returned (.agg #[vh,vp])∧F.jq w1.heap.size w' vh ts∧ts.map (·.h)=jl L.sc∧w'.ownsRow w1.heap.size 130 2 vp (q05 (F.uo L.sc)).length (F.jh (q05 (F.uo L.sc)))):=h.scope hO w1 b0;have HAt:Hid (S.q0i w1 aw s.words):=hW.1.under b0;generalize hnw:s.words.length=nw at *;generalize hnp:s.proof.length=np at *;have HL:=hid hnw;have B0:=hid b0;have z10:w1.cell? ⟨w.heap.size,10,none⟩=some (.slice aw nw cw):=C0.out w1 bRf 10;have x2:w1.cell? ⟨lb,2,none⟩=some (.pointer (some ⟨m.P,0,none⟩)):=(HI.out.below b0).cells.2.2;clear h hO hs hW b0 hnw hnp hN;unfold q0o at EN ⊢;go_enter Tryz.func111,Tryz.ntmps111;go_upto_region 1 with fail;rw[←hw1];clear hw1;go_wp2_with fail;refine cMo SCC.out ?_;rintro ee w2 ⟨hb2,vh,vp,ts,rfl,hto,hth,hvp⟩;have B2:Hid (Below N0 w1 w2):=by show Below _ _ _;rw[←HN.out];exact hb2
 have P2:Hid (w2.ownsRow N0 130 2 vp (q05 (F.uo L.sc)).length (F.jh (q05 (F.uo L.sc)))):=by show World.ownsRow _ _ _ _ _ _ _;rw[←HN.out];exact hvp
 have z10':=ug z10 hb2;obtain⟨ah,ch,ehh,_⟩:=S.M.xq hto.own;obtain⟨aq,cq,eqq,_⟩:=S.M.xq hvp;subst ehh eqq;have fld:(Instr.field 49 (.agg #[.slice ah ts.length ch,.slice aq (q05 (F.uo L.sc)).length cq]) 1).run Tryz.prog w2=.ok (.slice aq (q05 (F.uo L.sc)).length cq) w2:=by kernel_rfl
 clear hto hth hb2 hvp SCC z10 x2;go_wp2_with fail;clear z10' fld
 go_loopw [4,5,20] (fun v4 v5 v20 wx=>∃(j:Nat) (a:List Int) (ps:List F.Pp),j≤nw∧v20=.int .i64 j∧Hid (a.length=j)∧Hid (ps.length≤256)∧Hid (q1k L [] (q05 (F.uo L.sc)) s.words=q1k L a ps (s.words.drop j))∧Hid (wx.ownsRow N0 3 1 v4 j (F.xw a))∧Hid (wx.ownsRow N0 130 2 v5 ps.length (F.jh ps))∧Hid (Below N0 w1 wx)) (fun _ _ v20 _=>nw - (intOf v20).toNat)
 case atStart=>exact⟨0,[],_,Nat.zero_le _,rfl,rfl,HP0.out,rfl,World.ownsRow_nil _ _ _ _,P2.out,B2.out⟩
 case round =>
  clear B2 P2 HP0;obtain⟨j,a,ps,hj,rfl,HA,HPs,hR,hO,hQ,HB⟩:=hrel;have HNr:Hid (N0≤wr.heap.size):=by have h1:=HB.out.size;have h2:=HN.out;show N0≤_;omega
  by_cases hlt:j < nw
  ·have n1:(j:Int) < (nw:Int):=by omega
   obtain⟨t,ht⟩:∃t,s.words[j]?=some t:=⟨_,gEq (by rw[HL.out];exact hlt)⟩;have hdr:s.words.drop j=t :: s.words.drop (j + 1):=by
    obtain⟨hlt2,e2⟩:=List.getElem?_eq_some_iff.1 ht;rw[List.drop_eq_getElem_cons hlt2,e2]
   have HT:Hid (t ∈ s.words):=mGe ht;obtain⟨g,off,rfl,y0,y1,y2,y3⟩:=HAt.out j t ht;replace y0:=uh y0 HN.out HB.out;replace y1:=uh y1 HN.out HB.out;replace y2:=uh y2 HN.out HB.out;replace y3:=uh y3 HN.out HB.out;have HR2:Hid (q1k L [] (q05 (F.uo L.sc)) s.words=match q3o L t with | .ok v=>if a.contains v=true then .error (t,50) else if 256 < (a.foldl (fun l u=>q25 l (u,v)) ps).length then .error (t,22) else q1k L (a++[v]) (a.foldl (fun l u=>q25 l (u,v)) ps) (s.words.drop (j + 1)) | .error f=>.error f):=hR.out.trans (by rw[hdr,q1k] <;> cases q3o L t <;> rfl);have nlo:0≤(j:Int):=by omega
   have GU:Hid (∀wx c,Calls Tryz.prog 153 #[S.zo t,.int .i64 c] wx fun e w'=>Below wx.heap.size wx w'∧Quits t c wx.heap.size e w'):=fun wx c=>q20 wx t c
   have HFE:Hid (∀f,q1k L [] (q05 (F.uo L.sc)) s.words=.error f→q2s L s=.error f):=fun f e=>HFR.out _ e
   have A:Hid (Calls Tryz.prog 162 #[.pointer (some ⟨lb,0,none⟩),S.zo t] (wr.alloc (.cells (uq t) 36)) (Asks (wr.alloc (.cells (uq t) 36)) (q3o L t))):=VA.out _ (HB.out.trans (q1i HNr.out _)) t HT.out;have QT:Hid (∀(f:Tok × Int) (wy w':World) (e:Ending),q1k L [] (q05 (F.uo L.sc)) s.words=.error f→Below N0 w1 wy→Below wy.heap.size wy w'→Quits f.1 f.2 wy.heap.size e w'→Does N w lb txt m k (q2s L s) e w'):=fun f wy w' e he h1 h2 hq=>by
    have hb:=B0.out;have hN0:=HN.out;have hh1:=h1.size;exact q0y (HFE.out f he) (S.M.Ch.oB (hb.trans ((h1.trans (h2.mono (by omega))).mono (by rw[←hN0];exact hb.size)))) (hq.le (by have:=hb.size;omega))
   have BA:Hid (Below N0 w1 (wr.alloc (.cells (uq t) 36))):=HB.out.trans (q1i HNr.out _);have OA:Hid ((wr.alloc (.cells (uq t) 36)).ownsRow N0 3 1 u4 j (F.xw a)):=S.M.zk hO.out _;have QA:Hid ((wr.alloc (.cells (uq t) 36)).ownsRow N0 130 2 u5 ps.length (F.jh ps)):=S.M.zk hQ.out _;have hsz:Hid (N0≤(wr.alloc (.cells (uq t) 36)).heap.size):=nLt HNr.out (S.qg wr _).size;have CL:Hid (∀w',Below (wr.alloc (.cells (uq t) 36)).heap.size (wr.alloc (.cells (uq t) 36)) w'→w'.cell? ⟨wr.heap.size,0,none⟩=some (.string t.text)∧w'.cell? ⟨wr.heap.size,1,none⟩=some (.int .i64 t.off)∧w'.cell? ⟨wr.heap.size,2,none⟩=some (.int .i64 t.line)∧w'.cell? ⟨wr.heap.size,3,none⟩=some (.int .i64 t.col)):=fun w' hb=>q5o hb
   have BX:Hid ((wr.alloc (.cells (uq t) 36)).heap[wr.heap.size]?=some (.cells (uq t) 36 (0,0))):=World.alloc_heap_new wr _;unfold S.zo at A GU;clear hdr ht EN HE hR HFR HFE
   cases hr:q3o L t with
   | error f =>
    rw[hr] at A;have R2:Hid (q1k L [] (q05 (F.uo L.sc)) s.words=.error f):=HR2.out.trans (by rw[hr]);clear hO hQ HR2 hr HT;go_wp2_with fail;refine cMo A.out ?_;rintro e w' ⟨hb,b,rfl,q2,q3⟩;exact⟨rfl,QT.out f _ _ _ R2.out BA.out hb ⟨b,rfl,q2,q3⟩⟩
   | ok v =>
    rw[hr] at A;have HR3:Hid (q1k L [] (q05 (F.uo L.sc)) s.words=if a.contains v=true then .error (t,50) else if 256 < (a.foldl (fun l u=>q25 l (u,v)) ps).length then .error (t,22) else q1k L (a++[v]) (a.foldl (fun l u=>q25 l (u,v)) ps) (s.words.drop (j + 1))):=HR2.out.trans (by rw[hr]);obtain⟨wx0,hx0⟩:∃q,wr.heap.size=q:=⟨_,rfl⟩;obtain⟨wa,hwa⟩:=eXa (wr.alloc (.cells (uq t) 36));rw[←hwa] at A BA OA QA hsz CL BX;rw[hx0] at CL BX;clear hO hQ HR2 hr HT HB;go_upto_region 6 with fail;rw[←hwa];clear hx0;obtain⟨v0,v1,v2,v3⟩:=CL.out wa bRf;clear hwa y0 y1 y2 y3;go_wp2_with fail;refine cMo A.out ?_;rintro e w4 ⟨hb4,rfl⟩;have B4:Hid (Below N0 w1 w4):=BA.out.trans (hb4.mono hsz.out);have O4:Hid (w4.ownsRow N0 3 1 u4 j (F.xw a)):=S.M.qh OA.out (S.M.Ch.oB (X:=fun _=>False) hb4) fun _ _ e=>e
    have Q4:Hid (w4.ownsRow N0 130 2 u5 ps.length (F.jh ps)):=S.M.qh QA.out (S.M.Ch.oB (X:=fun _=>False) hb4) fun _ _ e=>e
    have S4:Hid (N0≤w4.heap.size):=nLt hsz.out hb4.size;have X4:Hid (w4.heap[wx0]?=some (.cells (uq t) 36 (0,0))):=(hb4.block _ (aIx BX.out)).trans BX.out;obtain⟨t0,t1,t2,t3⟩:=CL.out w4 hb4;clear v0 v1 v2 v3 hb4 A OA QA BX CL BA;obtain⟨a4,c4,e4,_,hA4⟩:=F.q3n O4.out;subst e4;have CT:Hid (Calls Tryz.prog 163 #[.slice a4 j c4,.int .i64 v] w4 fun e w'=>e=.returned (.bool (a.contains v))∧w'=w4):=qev w4 a4 j c4 a v HA.out (by omega) hA4;have HA4:=hid hA4;clear hA4
    cases hc:a.contains v with
    | true =>
     rw[hc] at CT;have R2:Hid (q1k L [] (q05 (F.uo L.sc)) s.words=.error (t,50)):=HR3.out.trans (if_pos hc);clear hc HR3;go_wp2_with fail;refine cMo CT.out ?_;rintro e wz ⟨rfl,hwz⟩;subst wz;go_wp2_with fail;refine cMo (GU.out _ _) ?_;rintro e w' ⟨hb,b,rfl,q2,q3⟩;exact⟨rfl,QT.out (t,50) _ _ _ R2.out B4.out hb ⟨b,rfl,q2,q3⟩⟩
    | false =>
     rw[hc] at CT;have HR4:Hid (q1k L [] (q05 (F.uo L.sc)) s.words=if 256 < (a.foldl (fun l u=>q25 l (u,v)) ps).length then .error (t,22) else q1k L (a++[v]) (a.foldl (fun l u=>q25 l (u,v)) ps) (s.words.drop (j + 1))):=HR3.out.trans (if_neg (by rw[hc];decide));clear hc HR3;go_wp2_with fail;refine cMo CT.out ?_;rintro e wz ⟨rfl,hwz⟩;subst wz;clear CT;go_wp2_with fail;clear t0 t1 t2 t3
     go_loopw [5,34] (fun v5 v34 wx=>∃(i:Nat) (pi:List F.Pp),i≤j∧v34=.int .i64 i∧Hid (pi=(a.take i).foldl (fun l u=>q25 l (u,v)) ps)∧Hid (wx.ownsRow N0 130 2 v5 pi.length (F.jh pi))∧Hid (wx.ownsRow N0 3 1 (.slice a4 j c4) j (F.xw a))∧Hid (wx.heap[wx0]?=some (.cells (uq t) 36 (0,0)))∧Hid (Below N0 w1 wx)∧Hid (N0≤wx.heap.size)) (fun _ v34 _=>j - (intOf v34).toNat)
     case atStart=>exact⟨0,ps,Nat.zero_le _,rfl,rfl,Q4.out,O4.out,X4.out,B4.out,S4.out⟩
     case round =>
      clear Q4 O4 X4 B4 S4 HA4;obtain⟨i,pi,hi,rfl,HPi,Q5,O5,X5,B5,S5⟩:=hrel
      by_cases hlt2:i < j
      ·have n2:(i:Int) < (j:Int):=by omega
       have nli:0≤(i:Int):=by omega
       obtain⟨u,hu⟩:∃u,a[i]?=some u:=⟨_,gEq (by rw[HA.out];exact hlt2)⟩;obtain⟨a5,c5,e5,_,hA5⟩:=F.q3n O5.out
       cases e5;obtain⟨gg,offf,rfl,q0⟩:=hA5 i u hu;have hple:pi.length≤1048576:=by
        have h1:=qdm v (a.take i) ps;rw[←HPi.out] at h1;have h2:=HPs.out;have h3:(a.take i).length≤i:=by simp;omega
        omega
       have W:Hid (Calls Tryz.prog 164 #[u5,F.q2n (u,v)] wr fun e w'=>S.M.Ch (fun b=>u5.ownBlock=some b) wr w'∧∃v',e=.returned v'∧w'.ownsRow N0 130 2 v' (q25 pi (u,v)).length (F.jh (q25 pi (u,v)))):=qqp wr N0 u5 pi (u,v) Q5.out S5.out hple;have HP6:Hid (q25 pi (u,v)=(a.take (i + 1)).foldl (fun l u=>q25 l (u,v)) ps):=by
        show _=_
        rw[List.take_add_one,hu,Option.toList_some,List.foldl_append,←HPi.out]
        rfl
       unfold F.q2n at W;clear hA5 hu hple HPi;go_wp2_with fail;refine cMo W.out ?_;rintro e w6 ⟨hc6,v',rfl,ho6⟩;have Q6:=hid ho6;have O6:Hid (w6.ownsRow N0 3 1 (.slice (some ⟨gg,offf,none⟩) j c4) j (F.xw a)):=S.M.qh O5.out hc6 fun b eb hh=>F.q00 O5.out Q5.out (by decide) b eb hh
       have X6:Hid (w6.heap[wx0]?=some (.cells (uq t) 36 (0,0))):=(hc6.block _ (aIx X5.out) (F.own_ne Q5.out X5.out (by decide))).trans X5.out;have B6:Hid (Below N0 w1 w6):=B5.out.trans (hc6.below S5.out fun b eb=>S.M.zf Q5.out b eb);have S6:Hid (N0≤w6.heap.size):=nLt S5.out hc6.size;clear hc6 ho6 W Q5 O5 X5 B5 S5
       go_wp2
       exact⟨⟨i + 1,q25 pi (u,v),by omega,by go_num,HP6.out,Q6.out,O6.out,X6.out,B6.out,S6.out⟩,by simp[intOf];omega⟩
      ·have n2:¬(i:Int) < (j:Int):=by omega
       have hie:i=j:=by omega
       have HPa:Hid (pi=a.foldl (fun l u=>q25 l (u,v)) ps):=by
        have h:=HPi.out;rw[List.take_of_length_le (by rw[HA.out,hie];exact Nat.le_refl _)] at h;exact h
       obtain⟨aq,cq,rfl,_⟩:=S.M.xq Q5.out;obtain⟨np,hnp⟩:=eXb pi.length;have HNP:=hid hnp;have Q7:Hid (wr.ownsRow N0 130 2 (.slice aq np cq) np (F.jh pi)):=by have h:=Q5.out;rw[hnp] at h;exact h
       rw[hnp];have t0:wr.cell? ⟨wx0,0,none⟩=some (.string t.text):=S.M.qc X5.out 0;have t1:wr.cell? ⟨wx0,1,none⟩=some (.int .i64 t.off):=S.M.qc X5.out 1;have t2:wr.cell? ⟨wx0,2,none⟩=some (.int .i64 t.line):=S.M.qc X5.out 2;have t3:wr.cell? ⟨wx0,3,none⟩=some (.int .i64 t.col):=S.M.qc X5.out 3;have HIE:Hid (i=j):=hie;clear Q5 HPi hnp hie
       by_cases h6:256 < np
       ·have n3:(256:Int) < (np:Int):=by omega
        have R2:Hid (q1k L [] (q05 (F.uo L.sc)) s.words=.error (t,22)):=HR4.out.trans (by rw[←HPa.out,HNP.out,if_pos h6]);clear h6 HR4;go_wp2_with fail;refine cMo (GU.out _ _) ?_;rintro e w' ⟨hb,b,rfl,q2,q3⟩;exact⟨rfl,QT.out (t,22) _ _ _ R2.out B5.out hb ⟨b,rfl,q2,q3⟩⟩
       ·have n3:¬(256:Int) < (np:Int):=by omega
        have h6':np≤256:=by omega
        have R2:Hid (q1k L [] (q05 (F.uo L.sc)) s.words=q1k L (a++[v]) pi (s.words.drop (j + 1))):=HR4.out.trans (by rw[←HPa.out,HNP.out,if_neg h6]);have A2:Hid ((a++[v]).length=j + 1):=by show _=_;rw[lAp,HA.out];rfl
        have HF:Hid (F.xw (a++[v])=F.xw a++[.int .i64 v]):=F.q2o a [v];have HNP2:Hid (pi.length≤256):=by have h1:=HNP.out;show _≤_;omega
        clear h6 HR4 HPa
        go_wp2_with (at_builtin;refine wpList_append_lies (w:=wr.alloc (.cells #[.int .i64 v] 3)) rfl _ _ 38 rfl N0 3 iN _ 1 8 Tryz.underlying38 hiN iNz iNs iNb rfl (by decide) _ j (F.xw a) (by rfl) (S.M.zk O5.out _) ⟨wr.heap.size,0,none⟩ 1 1 [.int .i64 v] (by rfl) (by rfl) (World.news_of_block (cs:=#[.int .i64 v]) (t:=3) (fr:=(0,0)) (World.alloc_heap_new wr _)) (by simp[Value.oneCell']) (by omega) (by unfold maxLen;omega) (by omega) (nLt S5.out (S.qg wr _).size) _ rfl ?_;intro gg cap' w8 hown8 hgrow hat hlt8;have O8:Hid (w8.ownsRow N0 3 1 (.slice (some ⟨gg,0,none⟩) (j + 1) cap') (j + 1) (F.xw (a++[v]))):=(by show World.ownsRow _ _ _ _ _ _ _;rw[HF.out];exact hown8);have B8:Hid (Below N0 w1 w8):=B5.out.trans (((Below.refl _ wr).alloc S5.out _).trans (bRf.grown hgrow (nLt S5.out (S.qg wr _).size) (S.M.zf O5.out)));have Q8:Hid (w8.ownsRow N0 130 2 (.slice aq pi.length cq) pi.length (F.jh pi)):=(by show World.ownsRow _ _ _ _ _ _ _;rw[HNP.out];exact S.M.qh (S.M.zk Q7.out _) (S.M.Ch.jw hgrow) fun b eb hh=>F.q00 Q7.out O5.out (by decide) b eb hh);clear hown8 hgrow hat hlt8)
        exact⟨⟨j + 1,a++[v],pi,by omega,by go_num,A2.out,HNP2.out,R2.out,O8.out,by have h:=Q8.out;rw[HNP.out] at h ⊢;exact h,B8.out⟩,by simp[intOf];omega⟩
  ·have n1:¬(j:Int) < (nw:Int):=by omega
   have hall:s.words.drop j=[]:=List.drop_eq_nil_of_le (by rw[HL.out];omega);have R1:q1k L [] (q05 (F.uo L.sc)) s.words=.ok a:=hR.out.trans (by rw[hall];rfl);have HR:Hid (q2s L s=if q0m s.fin=true then yj s.fin (F.q1w (isV:=zn L.T) L.sc a) { L with sc:=F.q1l (isV:=zn L.T) L.sc a } else .ok L):=HFR.out _ R1;have HE1:Hid ((∀x ∈ a,F.wfN x)∧a.length=nw):=HE.out a R1;obtain⟨av,cv,rfl,hcv,hAv⟩:=F.q3n hO.out;have hB2:Hid (Below w1.heap.size w1 wr):=by show Below _ _ _;rw[HN.out];exact HB.out
   have HV:=hid hAv;have z:=C0.out wr hB2.out;have z0:wr.cell? ⟨w.heap.size,0,none⟩=some (.int .i64 s.kind):=z 0;have z1:wr.cell? ⟨w.heap.size,1,none⟩=some (.string s.label.text):=z 1;have z2:wr.cell? ⟨w.heap.size,2,none⟩=some (.int .i64 s.label.off):=z 2;have z3:wr.cell? ⟨w.heap.size,3,none⟩=some (.int .i64 s.label.line):=z 3;have z4:wr.cell? ⟨w.heap.size,4,none⟩=some (.int .i64 s.label.col):=z 4;have z5:wr.cell? ⟨w.heap.size,5,none⟩=some (.string s.key.text):=z 5;have z6:wr.cell? ⟨w.heap.size,6,none⟩=some (.int .i64 s.key.off):=z 6;have z7:wr.cell? ⟨w.heap.size,7,none⟩=some (.int .i64 s.key.line):=z 7;have z8:wr.cell? ⟨w.heap.size,8,none⟩=some (.int .i64 s.key.col):=z 8;have z9:wr.cell? ⟨w.heap.size,9,none⟩=some (.bool s.proving):=z 9;have z10:wr.cell? ⟨w.heap.size,10,none⟩=some (.slice aw nw cw):=z 10;have z11:wr.cell? ⟨w.heap.size,11,none⟩=some (.slice ap np cp):=z 11;have z12:wr.cell? ⟨w.heap.size,12,none⟩=some (.string s.fin.text):=z 12;have z13:wr.cell? ⟨w.heap.size,13,none⟩=some (.int .i64 s.fin.off):=z 13;have z14:wr.cell? ⟨w.heap.size,14,none⟩=some (.int .i64 s.fin.line):=z 14;have z15:wr.cell? ⟨w.heap.size,15,none⟩=some (.int .i64 s.fin.col):=z 15;have EN2:Hid _:=EN.out wr;unfold yc S.q4w at EN2;clear z hO hQ HB hR hall R1 HE HFR VA EN HAt hAv;go_wp2_with fail;refine cMo EN2.out ?_;rintro ee w3 ⟨rfl,hb3⟩;clear z0 z1 z2 z3 z4 z5 z6 z7 z8 z9 z10 z11 z12 z13 z14 z15 EN2;have B3:=bTr hB2 hb3;have HV3:Hid (F.uj w3 av a):=HV.out.under hb3;clear hb3 HV hB2
   cases he:q0m s.fin with
   | false =>
    have R2:Hid (q2s L s=.ok L):=HR.out.trans (by rw[he];rfl)
    go_wp2
    have B4:Below w.heap.size w w3:=B0.out.trans (B3.out.mono B0.out.size);exact bodyPost_end (results_none rfl _ _ _) rfl (gq R2.out rfl (Goes.same HI.out B4))
   | true =>
    have R2:Hid (q2s L s=yj s.fin (F.q1w (isV:=zn L.T) L.sc a) { L with sc:=F.q1l (isV:=zn L.T) L.sc a }):=HR.out.trans (by rw[he];rfl);clear HR he;have BD:Hid (Below w.heap.size w w3.drew):=S.M.zi (B0.out.trans (B3.out.mono B0.out.size)) 1;have BD1:Hid (Below w1.heap.size w1 w3.drew):=S.M.zi B3.out 1;have ID:Hid (xg N w3.drew lb txt k L (Y.numOf L.T.syms) m):=HI.out.below BD.out;have DI:Hid (Calls Tryz.prog 166 #[.pointer (some ⟨m.P,0,none⟩),.slice av j cv] w3.drew fun ee w'=>ee=.returned (.int .i64 (F.q1w (isV:=zn L.T) L.sc a))∧Goes N w3.drew lb txt m k { L with sc:=F.q1l (isV:=zn L.T) L.sc a } (Y.numOf L.T.syms) w'):=ID.out.distC HO.out av j cv a HA.out (by omega) (HV3.out.under (S.M.zi bRf 1));have x2:w3.drew.cell? ⟨lb,2,none⟩=some (.pointer (some ⟨m.P,0,none⟩)):=ID.out.cells.2.2;have z:=C0.out w3.drew BD1.out;have z12:w3.drew.cell? ⟨w.heap.size,12,none⟩=some (.string s.fin.text):=z 12;have z13:w3.drew.cell? ⟨w.heap.size,13,none⟩=some (.int .i64 s.fin.off):=z 13;have z14:w3.drew.cell? ⟨w.heap.size,14,none⟩=some (.int .i64 s.fin.line):=z 14;have z15:w3.drew.cell? ⟨w.heap.size,15,none⟩=some (.int .i64 s.fin.col):=z 15;have ZB:Hid (w3.drew.heap[w.heap.size]?=some (.cells (yc s (.slice aw nw cw) (.slice ap np cp)) 95 (0,0))∧¬m.hot w.heap.size):=⟨(BD1.out.block _ HS1.out).trans HX1.out,fun hh=>by have:=HI.out.lt _ hh;omega⟩;clear z;have CK:Hid (∀wx,Calls Tryz.prog 102 #[S.zo s.fin,.int .i64 (F.q1w (isV:=zn L.T) L.sc a)] wx (Chk s.fin (F.q1w (isV:=zn L.T) L.sc a) wx)):=fun wx=>check_any wx s.fin _
    have ST:Hid (∀w4,Goes N w3.drew lb txt m k { L with sc:=F.q1l (isV:=zn L.T) L.sc a } (Y.numOf L.T.syms) w4→w4.heap[w.heap.size]?=some (.cells (yc s (.slice aw nw cw) (.slice ap np cp)) 95 (0,0))):=fun w4 hg=>(hg.1.block _ (aIx ZB.out.1) ZB.out.2).trans ZB.out.1
    have DN:Hid (∀w4 w5,Goes N w3.drew lb txt m k { L with sc:=F.q1l (isV:=zn L.T) L.sc a } (Y.numOf L.T.syms) w4→Below w4.heap.size w4 w5→S.M.Ch m.hot w w5∧w.heap.size≤w4.heap.size):=fun w4 w5 hg hb=>⟨(S.M.Ch.oB BD.out).trans (hg.1.trans (S.M.Ch.oB hb)),nLt BD.out.size hg.1.size⟩
    unfold S.zo at CK;generalize (F.q1w (isV:=zn L.T) L.sc a)=J at *;clear ID HV3 B3 hcv HA HPs HE1
    by_cases hJ:J=0
    ·have HJ:Hid (J=0):=hJ;have R3:Hid (q2s L s=.ok { L with sc:=F.q1l (isV:=zn L.T) L.sc a }):=R2.out.trans (if_pos hJ);clear hJ R2;go_upto_region 19 with fail
     go_region_law (first
      | (go_simp;go_at_call 166;refine cMo DI.out ?_;rintro ee w4 ⟨rfl,hg⟩;have GG:Hid (Goes N w3.drew lb txt m k { L with sc:=F.q1l (isV:=zn L.T) L.sc a } (Y.numOf L.T.syms) w4):=hg;have hbx:=ST.out w4 hg;have u12:w4.cell? ⟨w.heap.size,12,none⟩=some (.string s.fin.text):=S.M.qc hbx 12;have u13:w4.cell? ⟨w.heap.size,13,none⟩=some (.int .i64 s.fin.off):=S.M.qc hbx 13;have u14:w4.cell? ⟨w.heap.size,14,none⟩=some (.int .i64 s.fin.line):=S.M.qc hbx 14;have u15:w4.cell? ⟨w.heap.size,15,none⟩=some (.int .i64 s.fin.col):=S.M.qc hbx 15;clear hg hbx)
      | (go_simp;go_at_call 102;refine cMo (CK.out _) ?_;rintro ee w5 ⟨hb5,he5⟩;rw[if_pos HJ.out] at he5;subst he5;have G5:Hid (Goes N w3.drew lb txt m k { L with sc:=F.q1l (isV:=zn L.T) L.sc a } (Y.numOf L.T.syms) w5):=GG.out.jd hb5;clear hb5))
     all_goals go_wp2
     all_goals exact bodyPost_end (results_none rfl _ _ _) rfl (gq R3.out rfl (G5.out.q18 BD.out))
    ·have HJ:Hid (¬J=0):=hJ;have R3:Hid (q2s L s=.error (s.fin,J)):=R2.out.trans (if_neg hJ);clear hJ R2;go_upto_region 19 with fail
     go_region_law (first
      | (go_simp;go_at_call 166;refine cMo DI.out ?_;rintro ee w4 ⟨rfl,hg⟩;have GG:Hid (Goes N w3.drew lb txt m k { L with sc:=F.q1l (isV:=zn L.T) L.sc a } (Y.numOf L.T.syms) w4):=hg;have hbx:=ST.out w4 hg;have u12:w4.cell? ⟨w.heap.size,12,none⟩=some (.string s.fin.text):=S.M.qc hbx 12;have u13:w4.cell? ⟨w.heap.size,13,none⟩=some (.int .i64 s.fin.off):=S.M.qc hbx 13;have u14:w4.cell? ⟨w.heap.size,14,none⟩=some (.int .i64 s.fin.line):=S.M.qc hbx 14;have u15:w4.cell? ⟨w.heap.size,15,none⟩=some (.int .i64 s.fin.col):=S.M.qc hbx 15;clear hg hbx)
      | (go_simp;go_at_call 102;refine cMo (CK.out _) ?_;rintro ee w5 ⟨hb5,he5⟩;rw[if_neg HJ.out] at he5;obtain⟨b,rfl,q2,q3⟩:=he5;obtain⟨d1,d2⟩:=DN.out _ _ GG.out hb5;refine q14 (h:=⟨rfl,q0y R3.out d1 ⟨b,rfl,q2,nLt d2 q3⟩⟩) ?_))
     all_goals trivial
end
structure q1e (s:Stm):Prop where
 lab:s.kind=3∨s.kind=4∨s.kind=6∨s.kind=7→q0m s.label=true
 two:s.kind=3→q0m s.fin=true→s.words.length=2
theorem q70 {T:Y.Tab}{s:ByteArray}(h:(Y.zh T s).1=0):Y.q2e T.labels s=none∧(Y.zh T s).2=Y.labT T s:=by
 unfold Y.zh at h ⊢
 split
 ·rename_i h1;rw[if_pos h1] at h;cases h
 ·rename_i h1
  rw[if_neg h1] at h
  split
  ·rename_i h2;rw[if_pos h2] at h;cases h
  ·rename_i h2
   rw[if_neg h2] at h
   split
   ·rename_i h3;rw[if_pos h3] at h;cases h
   ·exact⟨by simpa using h2,rfl⟩
theorem qgy (T:Y.Tab)(s:ByteArray):(Y.zh T s).2.syms=T.syms:=by
 unfold Y.zh
 split
 ·rfl
 ·split
  ·rfl
  ·split <;> rfl
theorem qjj (T:Y.Tab):(Y.jf T).2.syms=T.syms:=by unfold Y.jf;split <;> rfl
theorem qgz (T:Y.Tab):(Y.xk T).2.syms=T.syms:=by unfold Y.xk;split <;> rfl
theorem qnn {L:Ld}{k:Nat}{s:ByteArray}(hO:L.Ok k)(h:(Y.zh L.T s).1=0):q1p L.hy s=none∧q3a L.al s=none:=by
 obtain⟨h1,_⟩:=q70 h;have h2:s ∉ L.T.labels:=fun hm=>by
  unfold Y.q2e at h1;rw[List.findIdx?_eq_none_iff] at h1;have:=h1 s hm
  simp at this
 constructor
 ·unfold q1p;rw[List.findIdx?_eq_none_iff];intro x hx;have:x.lab≠s:=fun e=>h2 (hO.labs s (.inl (List.mem_map.2 ⟨x,hx,e⟩)))
  simpa using this
 ·unfold q3a;rw[List.findIdx?_eq_none_iff];intro x hx;have:x.label.text≠s:=fun e=>h2 (hO.labs s (.inr (List.mem_map.2 ⟨x,hx,e⟩)))
  simpa using this
theorem qqq {L:Ld}{k:Nat}(s:ByteArray)(hO:L.Ok k):Ld.Ok { L with T:=(Y.zh L.T s).2 } k:=by
 refine⟨Y.qqe s hO.tab,hO.sc1,hO.sc2,?_,hO.sub,hO.ex,hO.ps,hO.pw,?_⟩
 ·have h:=hO.hyl
  show _≤(Y.zh L.T s).2.labels.length
  unfold Y.zh
  split
  ·exact h
  ·split
   ·exact h
   ·split
    ·exact h
    ·show _≤(L.T.labels++[s]).length
     simp;omega
 ·intro x hx;have h:=hO.labs x hx
  show x ∈ (Y.zh L.T s).2.labels
  unfold Y.zh
  split
  ·exact h
  ·split
   ·exact h
   ·split
    ·exact h
    ·exact List.mem_append_left _ h
section
variable {N:Nat} {w W':World} {lb:Nat} {txt:ByteArray} {k k':Nat} {L L':Ld} {nf nf':ByteArray→Option Nat} {m m':LdM} {s:Stm} {vw vp:Value}
theorem Does.via {r:Res Ld}{e:Ending}{u W2:World}(h:S.M.Ch m.hot w u)(g:∀b,m'.hot b→m.hot b∨w.heap.size≤b)(d:Does N u lb txt m' k r e W2):Does N w lb txt m k r e W2:=by
 cases r with
 | ok L'=>exact⟨d.1,q34 h g d.2⟩
 | error f=>exact⟨qbu h g d.1,d.2.le h.size⟩
theorem xg.labelC (h:xg N w lb txt k L (Y.numOf L.T.syms) m)(_:L.Ok k)(hk:k < 17592186044414)(hKB:Y.KB w)(t:ByteArray)(hs:t.size≤maxLen):Calls Tryz.prog 103 #[.pointer (some ⟨m.tq,0,none⟩),.string t] w fun e w'=>e=.returned (.int .i64 ((Y.zh L.T t).1:Nat))∧Goes N w lb txt m (k + 2) { L with T:=(Y.zh L.T t).2 } (Y.numOf L.T.syms) w':=by
 refine (Y.qn1 w m.bs m.tq k L.T t hk hs hKB h.tab).mono ?_;rintro e w' ⟨rfl,bs',h1,h2⟩;exact⟨rfl,h.qbq (by omega) h1 h2⟩
theorem xg.openC (h:xg N w lb txt k L (Y.numOf L.T.syms) m):Calls Tryz.prog 104 #[.pointer (some ⟨m.tq,0,none⟩)] w fun e w'=>e=.returned (.int .i64 ((Y.jf L.T).1:Nat))∧Goes N w lb txt m (k + 2) { L with T:=(Y.jf L.T).2 } (Y.numOf L.T.syms) w':=by
 refine (Y.open_any w m.bs m.tq k L.T h.tab).mono ?_;rintro e w' ⟨rfl,bs',h1,h2⟩;exact⟨rfl,h.qbq (by omega) h1 h2⟩
theorem xg.closeC (h:xg N w lb txt k L (Y.numOf L.T.syms) m)(hO:L.Ok k)(hk:k < 17592186044414):Calls Tryz.prog 106 #[.pointer (some ⟨m.tq,0,none⟩)] w fun e w'=>e=.returned (.int .i64 ((Y.xk L.T).1:Nat))∧Goes N w lb txt m (k + 2) { L with T:=(Y.xk L.T).2 } (Y.numOf L.T.syms) w':=by
 refine (Y.close_any w m.bs m.tq k L.T hO.tab hk h.tab).mono ?_;rintro e w' ⟨rfl,bs',h1,h2⟩;exact⟨rfl,h.qbq (by omega) h1 h2⟩
theorem xg.sopenC (h:xg N w lb txt k L nf m)(hS:L.sc.length≤1048576):Calls Tryz.prog 105 #[.pointer (some ⟨m.P,0,none⟩)] w fun e w'=>e=.returned (.int .i64 (F.q1t L.sc))∧Goes N w lb txt m k { L with sc:=F.q0t L.sc } nf w':=by
 have h1:=F.qmi w m.O m.P m.vS m.sx h.stk (by rw[h.q49];exact hS);rw[h.sca] at h1;exact h1.mono fun ee w' hd=>h.decl hd
theorem xg.scloseC (h:xg N w lb txt k L nf m)(hS:L.sc.length≤1048576)(h0:1≤L.sc.length):Calls Tryz.prog 107 #[.pointer (some ⟨m.P,0,none⟩)] w fun e w'=>e=.returned (.int .i64 (F.q0u L.sc))∧Goes N w lb txt m k { L with sc:=F.uy L.sc } nf w':=by
 have h1:=F.qj8 w m.O m.P m.vS m.sx h.stk (by rw[h.q49];omega) (by rw[h.q49];exact hS);rw[h.sca] at h1;exact h1.mono fun ee w' hd=>h.decl hd
end
end B
end Go.Proofs.YtbancemhfjjmlaaGreatDoor
