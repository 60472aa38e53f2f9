/- Laid together: BFloat, BWith. -/
import Derived.Test.YtbancemhfjjmlaaGreatDoorTk
import Derived.Test.YtbancemhfjjmlaaGreatDoorQA17
import Derived.Test.YtbancemhfjjmlaaGreatDoorQA16
set_option maxRecDepth 100000
set_option maxHeartbeats 32000000
namespace Go.Proofs.YtbancemhfjjmlaaGreatDoor
namespace B
open Go.RowKit
open S (Tok Stm)
theorem qiu {L:Ld}{t:Tok}{n:Int}(hT:L.T.syms.length≤4611686018427387904)(h:q3k L t=.ok n):F.wfN n:=by
 unfold q3k at h
 cases hs:q3q L t with
 | error f=>rw[hs] at h;cases h
 | ok j =>
  rw[hs] at h
  simp only at h
  split at h
  ·cases h;exact q7e hT hs
  ·cases h
theorem qf7 {L:Ld}{t:Tok}{n:Int}(hT:L.T.syms.length≤4611686018427387904)(h:q0d L t=.ok n):F.wfN n:=by
 unfold q0d at h
 cases hs:q3k L t with
 | error f=>rw[hs] at h;cases h
 | ok j =>
  rw[hs] at h
  simp only at h
  split at h
  ·cases h
  ·cases h;exact qiu hT hs
theorem q8d {L:Ld}(hT:L.T.syms.length≤4611686018427387904):∀(ts:List Tok) (acc e:List Int),q0b L acc ts=.ok e→(∀x ∈ acc,F.wfN x)→(∀x ∈ e,F.wfN x)∧e.length=acc.length + ts.length
 | [],acc,e,h,h1=>by
  cases h
  exact⟨h1,rfl⟩
 | t :: ts,acc,e,h,h1=>by
  unfold q0b at h
  cases hr:(if acc.length=0 then q0e L t else q0d L t) with
  | error f=>rw[hr] at h;cases h
  | ok n =>
   rw[hr] at h
   have hn:F.wfN n:=by
    split at hr
    ·exact qc7 hT hr
    ·exact qf7 hT hr
   obtain⟨i1,i3⟩:=q8d hT ts (acc++[n]) e h (fun x hx=>(List.mem_append.1 hx).elim (h1 x) fun hx=>by rw[List.mem_singleton.1 hx];exact hn)
   exact⟨i1,by rw[i3];simp;omega⟩
section
variable {N:Nat} {w W':World} {lb:Nat} {txt:ByteArray} {k k':Nat} {L L':Ld} {nf nf':ByteArray→Option Nat} {m m':LdM} {s:Stm} {vw vp:Value}
theorem q84 (h:zq N w lb txt k L (Y.numOf L.T.syms) m)(hO:L.Ok k)(hk:k < 100000000000)(hs:q0w N m w s vw vp)(hn:q25 L.hy s.label.text=none)(h2:q04 s.fin=true→s.words.length=2):Calls Tryz.prog 112 #[.pointer (some ⟨lb,0,none⟩),q09 s vw vp] w (Does N w lb txt m (k + 1) (q1o L s)):=by
 obtain⟨iN,hiN,iNz,iNs,iNb⟩:=info_parts F.q83
 obtain⟨aw,cw,rfl,hW⟩:=hs.words
 obtain⟨ap,cp,rfl,_⟩:=S.gu hs.op
 have b0:Below w.heap.size w (w.alloc (.cells (jw s (.slice aw s.words.length cw) (.slice ap s.proof.length cp)) 95)):=S.qg _ _
 have hlw:=hs.lw
 have HI:Hid (zq N w lb txt k L (Y.numOf L.T.syms) m):=h
 have HO:Hid (L.Ok k):=hO
 have H2:Hid (q04 s.fin=true→s.words.length=2):=h2
 have EN:Hid (∀wx,Calls Tryz.prog 165 #[q09 s (.slice aw s.words.length cw) (.slice ap s.proof.length cp)] wx fun e w'=>e=.returned (.bool (q04 s.fin))∧Below wx.heap.size wx w'):=fun wx=>q6c wx s aw _ cw ap _ cp
 have HFR:Hid (∀r,q0b L [] s.words=r→q1o L s=match r with | .ok e=>if q04 s.fin=true then jh s.fin (F.q0h (isV:=xk L.T) L.sc (e.getD 0 0) (e.getD 1 0)) { L with sc:=F.q07 (isV:=xk L.T) L.sc s.label.text (e.getD 0 0) (e.getD 1 0),hy:=L.hy++[⟨s.label.text,true,e.getD 1 0,e⟩] } else .ok L | .error f=>.error f):=fun r er=>by unfold q1o;rw[er] <;> cases r <;> rfl
 have HE:Hid (∀e,q0b L [] s.words=.ok e→(∀x ∈ e,F.wfN x)∧e.length=s.words.length):=fun e he=>by
  obtain⟨h1,h2⟩:=q8d hO.q3u s.words [] e he (fun x hx=>by cases hx)
  exact⟨h1,by simpa using h2⟩
 have C0:Hid (∀w',Below (w.alloc (.cells (jw s (.slice aw s.words.length cw) (.slice ap s.proof.length cp)) 95)).heap.size (w.alloc (.cells (jw s (.slice aw s.words.length cw) (.slice ap s.proof.length cp)) 95)) w'→∀i,w'.cell? ⟨w.heap.size,i,none⟩=(jw s (.slice aw s.words.length cw) (.slice ap s.proof.length cp))[i]?):=fun w' hb=>q53 hb
 have HZ:Hid (s.label.text.size≤281474976710656):=by have:=hs.zl;show _≤_;omega
 have HNo:Hid (q25 L.hy s.label.text=none):=hn
 obtain⟨w1,hw1⟩:∃w1,w1=w.alloc (.cells (jw s (.slice aw s.words.length cw) (.slice ap s.proof.length cp)) 95):=⟨_,rfl⟩
 have HS1:Hid (w.heap.size < w1.heap.size):=by rw[hw1];show _ < (w.heap.push _).size;simp
 have HX1:Hid (w1.heap[w.heap.size]?=some (.cells (jw s (.slice aw s.words.length cw) (.slice ap s.proof.length cp)) 95 (0,0))):=by show _=_;rw[hw1];exact World.alloc_heap_new w _
 rw[←hw1] at b0 C0
 obtain⟨N0,hN⟩:∃N,w1.heap.size=N:=⟨_,rfl⟩
 have HN:Hid (w1.heap.size=N0):=hN
 have CO:Hid (∀wx,Below N0 w1 wx→∀t,t ∈ s.words→Calls Tryz.prog 167 #[.pointer (some ⟨lb,0,none⟩),S.zn t] wx (Asks wx (q0e L t))):=fun wx hb t ht=>q7c (h.below (b0.trans (hb.mono (by rw[←hN];exact b0.size)))) hO.q3u t (by have:=hs.zw t ht;unfold maxLen;omega)
 have TY:Hid (∀wx,Below N0 w1 wx→∀t,t ∈ s.words→Calls Tryz.prog 168 #[.pointer (some ⟨lb,0,none⟩),S.zn t] wx (Asks wx (q0d L t))):=fun wx hb t ht=>qf4 (h.below (b0.trans (hb.mono (by rw[←hN];exact b0.size)))) hO.q3u hO.scN t (by have:=hs.zw t ht;unfold maxLen;omega)
 have HAt:Hid (S.q3m w1 aw s.words):=hW.1.under b0
 generalize hnw:s.words.length=nw at *
 generalize hnp:s.proof.length=np at *
 have HL:Hid (s.words.length=nw):=hnw
 have B0:Hid (Below w.heap.size w w1):=b0
 have z10:w1.cell? ⟨w.heap.size,10,none⟩=some (.slice aw nw cw):=C0.out w1 (Below.refl _ _) 10
 clear h hO hs hW b0 hn hnw hnp h2 hN
 unfold q09 at EN ⊢
 go_enter Tryz.func112,Tryz.ntmps112
 go_upto_region 1 with fail
 rw[←hw1]
 clear hw1
 go_wp2_with fail
 clear z10
 go_loopw [4,10] (fun v4 v10 wx=>∃(j:Nat) (acc:List Int),j≤nw∧v10=.int .i64 j∧Hid (acc.length=j)∧Hid (q0b L [] s.words=q0b L acc (s.words.drop j))∧Hid (wx.ownsRow N0 3 1 v4 j (F.zy acc))∧Hid (Below N0 w1 wx)) (fun _ v10 _=>nw - (intOf v10).toNat)
 case atStart=>exact⟨0,[],Nat.zero_le _,rfl,rfl,rfl,World.ownsRow_nil _ _ _ _,Below.refl _ _⟩
 case round =>
  obtain⟨j,acc,hj,rfl,HA,hR,hO,HB⟩:=hrel
  have HNr:Hid (N0≤wr.heap.size):=by have h1:=HB.out.size;have h2:=HN.out;show N0≤_;omega
  by_cases hlt:j < nw
  ·have n1:(j:Int) < (nw:Int):=by omega
   obtain⟨t,ht⟩:∃t,s.words[j]?=some t:=⟨_,List.getElem?_eq_getElem (by rw[HL.out];exact hlt)⟩
   have hdr:s.words.drop j=t :: s.words.drop (j + 1):=by
    obtain⟨hlt2,e2⟩:=List.getElem?_eq_some_iff.1 ht
    rw[List.drop_eq_getElem_cons hlt2,e2]
   have HT:Hid (t ∈ s.words):=List.mem_of_getElem? ht
   obtain⟨g,off,rfl,y0,y1,y2,y3⟩:=HAt.out j t ht
   replace y0:=yu y0 HN.out HB.out
   replace y1:=yu y1 HN.out HB.out
   replace y2:=yu y2 HN.out HB.out
   replace y3:=yu y3 HN.out HB.out
   have HR2:Hid (q0b L [] s.words=match (if acc.length=0 then q0e L t else q0d L t) with | .ok n=>q0b L (acc++[n]) (s.words.drop (j + 1)) | .error f=>.error f):=hR.out.trans (by rw[hdr,q0b] <;> cases (if acc.length=0 then q0e L t else q0d L t) <;> rfl)
   have HFL:Hid (q1o L s=match q0b L [] s.words with | .ok e=>if q04 s.fin=true then jh s.fin (F.q0h (isV:=xk L.T) L.sc (e.getD 0 0) (e.getD 1 0)) { L with sc:=F.q07 (isV:=xk L.T) L.sc s.label.text (e.getD 0 0) (e.getD 1 0),hy:=L.hy++[⟨s.label.text,true,e.getD 1 0,e⟩] } else .ok L | .error f=>.error f):=HFR.out _ rfl
   have nlo:0≤(j:Int):=by omega
   clear hdr ht EN HE
   by_cases hz:j=0
   ·have HZ:Hid (acc.length=0):=by show _=_;rw[HA.out];exact hz
    have nz:((j:Int) == 0)=true:=by simp[hz]
    simp only[hz,Nat.zero_mul,Nat.add_zero] at y0 y1 y2 y3
    have A:Hid (Calls Tryz.prog 167 #[.pointer (some ⟨lb,0,none⟩),S.zn t] (wr.alloc (.cells (gq t) 36)) (Asks (wr.alloc (.cells (gq t) 36)) (q0e L t))):=CO.out _ (HB.out.trans (q18 HNr.out _)) t HT.out
    unfold S.zn at A
    cases hr:q0e L t with
    | error f =>
     rw[hr] at A
     have R2:Hid (q1o L s=.error f):=HFL.out.trans (by rw[HR2.out,if_pos HZ.out,hr])
     clear hO hR HR2 hr HT
     go_wp2_with fail
     refine Calls.mono A.out ?_
     rintro e w' ⟨hb,b,rfl,q2,q3⟩
     have hs:=(HB.out.trans (q18 HNr.out (.cells (gq t) 36)))
     have hs2:N0≤(wr.alloc (.cells (gq t) 36)).heap.size:=by rw[←HN.out];exact hs.size
     have B1:=B0.out
     have hN0:=HN.out
     have bb:Below w.heap.size w w':=B1.trans ((hs.trans (hb.mono hs2)).mono (by rw[←hN0];exact B1.size))
     exact⟨rfl,q0l R2.out (S.M.Ch.of_below bb) ⟨b,rfl,q2,by have:=B1.size;omega⟩⟩
    | ok x =>
     rw[hr] at A
     have R2:Hid (q0b L [] s.words=q0b L (acc++[x]) (s.words.drop (j + 1))):=HR2.out.trans (by rw[if_pos HZ.out,hr])
     have A2:Hid ((acc++[x]).length=j + 1):=by show _=_;rw[List.length_append,HA.out];rfl
     have HF:Hid (F.zy (acc++[x])=F.zy acc++[.int .i64 x]):=F.q2d acc [x]
     clear hR HR2 hr HT
     go_wp2_with fail
     refine Calls.mono A.out ?_
     rintro e w4 ⟨hb1,rfl⟩
     have hs:=(HB.out.trans (q18 HNr.out (.cells (gq t) 36)))
     have hs2:N0≤(wr.alloc (.cells (gq t) 36)).heap.size:=by rw[←HN.out];exact hs.size
     have HB1:Hid (Below N0 w1 w4):=hs.trans (hb1.mono hs2)
     have HN1:Hid (N0≤w4.heap.size):=Nat.le_trans hs2 hb1.size
     have HO1:Hid (w4.ownsRow N0 3 1 u4 j (F.zy acc)):=S.M.qh (S.M.zk hO.out _) (S.M.Ch.of_below (X:=fun _=>False) hb1) fun _ _ e=>e
     clear hb1 hO HB hs hs2 A
     go_wp2_with (at_builtin;refine wpList_append_lies (w:=w4.alloc (.cells #[.int .i64 x] 3)) rfl _ _ 38 rfl N0 3 iN _ 1 8 Tryz.underlying38 hiN iNz iNs iNb rfl (by decide) _ j (F.zy acc) (by rfl) (S.M.zk HO1.out _) ⟨w4.heap.size,0,none⟩ 1 1 [.int .i64 x] (by rfl) (by rfl) (World.news_of_block (cs:=#[.int .i64 x]) (t:=3) (fr:=(0,0)) (World.alloc_heap_new w4 _)) (by simp[Value.oneCell']) (by omega) (by unfold maxLen;omega) (by omega) (Nat.le_trans HN1.out (S.qg w4 _).size) _ rfl ?_;intro gg cap' w8 hown8 hgrow hat hlt8;have O8:Hid (w8.ownsRow N0 3 1 (.slice (some ⟨gg,0,none⟩) (j + 1) cap') (j + 1) (F.zy (acc++[x]))):=(by show World.ownsRow _ _ _ _ _ _ _;rw[HF.out];exact hown8);have B8:Hid (Below N0 w1 w8):=HB1.out.trans (((Below.refl _ w4).alloc HN1.out _).trans ((Below.refl _ _).grown hgrow (Nat.le_trans HN1.out (S.qg w4 _).size) (S.M.zf HO1.out)));clear hown8 hgrow hat hlt8)
     exact⟨⟨j + 1,acc++[x],by omega,by go_num,A2.out,R2.out,(by have h8:=O8.out;rw[hz] at h8 ⊢;exact h8),B8.out⟩,by simp[intOf];omega⟩
   ·have HZ:Hid (¬acc.length=0):=by show ¬_;rw[HA.out];exact hz
    have nz:((j:Int) == 0)=false:=by simp;omega
    have A:Hid (Calls Tryz.prog 168 #[.pointer (some ⟨lb,0,none⟩),S.zn t] (wr.alloc (.cells (gq t) 36)) (Asks (wr.alloc (.cells (gq t) 36)) (q0d L t))):=TY.out _ (HB.out.trans (q18 HNr.out _)) t HT.out
    unfold S.zn at A
    cases hr:q0d L t with
    | error f =>
     rw[hr] at A
     have R2:Hid (q1o L s=.error f):=HFL.out.trans (by rw[HR2.out,if_neg HZ.out,hr])
     clear hO hR HR2 hr HT
     go_wp2_with fail
     refine Calls.mono A.out ?_
     rintro e w' ⟨hb,b,rfl,q2,q3⟩
     have hs:=(HB.out.trans (q18 HNr.out (.cells (gq t) 36)))
     have hs2:N0≤(wr.alloc (.cells (gq t) 36)).heap.size:=by rw[←HN.out];exact hs.size
     have B1:=B0.out
     have hN0:=HN.out
     have bb:Below w.heap.size w w':=B1.trans ((hs.trans (hb.mono hs2)).mono (by rw[←hN0];exact B1.size))
     exact⟨rfl,q0l R2.out (S.M.Ch.of_below bb) ⟨b,rfl,q2,by have:=B1.size;omega⟩⟩
    | ok x =>
     rw[hr] at A
     have R2:Hid (q0b L [] s.words=q0b L (acc++[x]) (s.words.drop (j + 1))):=HR2.out.trans (by rw[if_neg HZ.out,hr])
     have A2:Hid ((acc++[x]).length=j + 1):=by show _=_;rw[List.length_append,HA.out];rfl
     have HF:Hid (F.zy (acc++[x])=F.zy acc++[.int .i64 x]):=F.q2d acc [x]
     clear hR HR2 hr HT
     go_wp2_with fail
     refine Calls.mono A.out ?_
     rintro e w4 ⟨hb1,rfl⟩
     have hs:=(HB.out.trans (q18 HNr.out (.cells (gq t) 36)))
     have hs2:N0≤(wr.alloc (.cells (gq t) 36)).heap.size:=by rw[←HN.out];exact hs.size
     have HB1:Hid (Below N0 w1 w4):=hs.trans (hb1.mono hs2)
     have HN1:Hid (N0≤w4.heap.size):=Nat.le_trans hs2 hb1.size
     have HO1:Hid (w4.ownsRow N0 3 1 u4 j (F.zy acc)):=S.M.qh (S.M.zk hO.out _) (S.M.Ch.of_below (X:=fun _=>False) hb1) fun _ _ e=>e
     clear hb1 hO HB hs hs2 A
     go_wp2_with (at_builtin;refine wpList_append_lies (w:=w4.alloc (.cells #[.int .i64 x] 3)) rfl _ _ 38 rfl N0 3 iN _ 1 8 Tryz.underlying38 hiN iNz iNs iNb rfl (by decide) _ j (F.zy acc) (by rfl) (S.M.zk HO1.out _) ⟨w4.heap.size,0,none⟩ 1 1 [.int .i64 x] (by rfl) (by rfl) (World.news_of_block (cs:=#[.int .i64 x]) (t:=3) (fr:=(0,0)) (World.alloc_heap_new w4 _)) (by simp[Value.oneCell']) (by omega) (by unfold maxLen;omega) (by omega) (Nat.le_trans HN1.out (S.qg w4 _).size) _ rfl ?_;intro gg cap' w8 hown8 hgrow hat hlt8;have O8:Hid (w8.ownsRow N0 3 1 (.slice (some ⟨gg,0,none⟩) (j + 1) cap') (j + 1) (F.zy (acc++[x]))):=(by show World.ownsRow _ _ _ _ _ _ _;rw[HF.out];exact hown8);have B8:Hid (Below N0 w1 w8):=HB1.out.trans (((Below.refl _ w4).alloc HN1.out _).trans ((Below.refl _ _).grown hgrow (Nat.le_trans HN1.out (S.qg w4 _).size) (S.M.zf HO1.out)));clear hown8 hgrow hat hlt8)
     exact⟨⟨j + 1,acc++[x],by omega,by go_num,A2.out,R2.out,O8.out,B8.out⟩,by simp[intOf];omega⟩
  ·have n1:¬(j:Int) < (nw:Int):=by omega
   have hall:s.words.drop j=[]:=List.drop_eq_nil_of_le (by rw[HL.out];omega)
   have R1:q0b L [] s.words=.ok acc:=hR.out.trans (by rw[hall];rfl)
   have HR:Hid (q1o L s=if q04 s.fin=true then jh s.fin (F.q0h (isV:=xk L.T) L.sc (acc.getD 0 0) (acc.getD 1 0)) { L with sc:=F.q07 (isV:=xk L.T) L.sc s.label.text (acc.getD 0 0) (acc.getD 1 0),hy:=L.hy++[⟨s.label.text,true,acc.getD 1 0,acc⟩] } else .ok L):=HFR.out _ R1
   have HE1:Hid ((∀x ∈ acc,F.wfN x)∧acc.length=nw):=HE.out acc R1
   obtain⟨av,cv,rfl,hcv,_⟩:=S.M.zx hO.out
   have hje:j=nw:=by omega
   have hB2:Hid (Below w1.heap.size w1 wr):=by show Below _ _ _;rw[HN.out];exact HB.out
   have HV:Hid (wr.ownsRow w1.heap.size 3 1 (.slice av j cv) j (F.zy acc)):=by show World.ownsRow _ _ _ _ _ _ _;rw[HN.out];exact hO.out
   have z:=C0.out wr hB2.out
   have z0:wr.cell? ⟨w.heap.size,0,none⟩=some (.int .i64 s.kind):=z 0
   have z1:wr.cell? ⟨w.heap.size,1,none⟩=some (.string s.label.text):=z 1
   have z2:wr.cell? ⟨w.heap.size,2,none⟩=some (.int .i64 s.label.off):=z 2
   have z3:wr.cell? ⟨w.heap.size,3,none⟩=some (.int .i64 s.label.line):=z 3
   have z4:wr.cell? ⟨w.heap.size,4,none⟩=some (.int .i64 s.label.col):=z 4
   have z5:wr.cell? ⟨w.heap.size,5,none⟩=some (.string s.key.text):=z 5
   have z6:wr.cell? ⟨w.heap.size,6,none⟩=some (.int .i64 s.key.off):=z 6
   have z7:wr.cell? ⟨w.heap.size,7,none⟩=some (.int .i64 s.key.line):=z 7
   have z8:wr.cell? ⟨w.heap.size,8,none⟩=some (.int .i64 s.key.col):=z 8
   have z9:wr.cell? ⟨w.heap.size,9,none⟩=some (.bool s.proving):=z 9
   have z10':wr.cell? ⟨w.heap.size,10,none⟩=some (.slice aw nw cw):=z 10
   have z11:wr.cell? ⟨w.heap.size,11,none⟩=some (.slice ap np cp):=z 11
   have z12:wr.cell? ⟨w.heap.size,12,none⟩=some (.string s.fin.text):=z 12
   have z13:wr.cell? ⟨w.heap.size,13,none⟩=some (.int .i64 s.fin.off):=z 13
   have z14:wr.cell? ⟨w.heap.size,14,none⟩=some (.int .i64 s.fin.line):=z 14
   have z15:wr.cell? ⟨w.heap.size,15,none⟩=some (.int .i64 s.fin.col):=z 15
   have EN2:Hid _:=EN.out wr
   unfold jw S.q4g at EN2
   have HJE:Hid (j=nw):=hje
   clear z hO HB hR hall R1 HE HFR CO TY EN HAt hje
   go_wp2_with fail
   refine Calls.mono EN2.out ?_
   rintro ee w3 ⟨rfl,hb3⟩
   clear z0 z1 z2 z3 z4 z5 z6 z7 z8 z9 z10' z11 z12 z13 z14 z15 EN2
   have B3:Hid (Below w1.heap.size w1 w3):=hB2.out.trans (hb3.mono hB2.out.size)
   have HV3:Hid (w3.ownsRow w1.heap.size 3 1 (.slice av j cv) j (F.zy acc)):=S.M.qh HV.out (S.M.Ch.of_below (X:=fun _=>False) hb3) fun _ _ e=>e
   clear hb3 HV hB2
   cases he:q04 s.fin with
   | false =>
    have R2:Hid (q1o L s=.ok L):=HR.out.trans (by rw[he];rfl)
    go_wp2
    have B4:Below w.heap.size w w3:=B0.out.trans (B3.out.mono B0.out.size)
    exact bodyPost_end (results_none rfl _ _ _) rfl (wu R2.out rfl ((Goes.same HI.out B4).up (by omega)))
   | true =>
    have hn2:nw=2:=H2.out he
    have hj2:j=2:=by rw[HJE.out];exact hn2
    have hal:acc.length=2:=by rw[HA.out];exact hj2
    obtain⟨x,y,rfl⟩:∃x y,acc=[x,y]:=by
     match acc,hal with
     | [x,y],_=>exact⟨x,y,rfl⟩
    subst hj2
    have R2:Hid (q1o L s=jh s.fin (F.q0h (isV:=xk L.T) L.sc x y) { L with sc:=F.q07 (isV:=xk L.T) L.sc s.label.text x y,hy:=L.hy++[⟨s.label.text,true,y,[x,y]⟩] }):=HR.out.trans (by rw[he];rfl)
    have HXY:Hid (F.wfN x∧F.wfN y):=⟨HE1.out.1 x (by simp),HE1.out.1 y (by simp)⟩
    clear HR he HE1 hal hn2
    obtain⟨g,c2,e2,_,hgN,_⟩:=S.M.q0f HV3.out (by omega)
    simp only[Value.slice.injEq] at e2
    obtain⟨rfl,_,rfl⟩:=e2
    have BD:Hid (Below w.heap.size w w3.drew):=S.M.zi (B0.out.trans (B3.out.mono B0.out.size)) 1
    have BD1:Hid (Below w1.heap.size w1 w3.drew):=S.M.zi B3.out 1
    have ID:Hid (zq N w3.drew lb txt k L (Y.numOf L.T.syms) m):=HI.out.below BD.out
    have HVD:Hid (w3.drew.ownsRow w1.heap.size 3 1 (.slice (some ⟨g,0,none⟩) 2 cv) 2 (F.zy [x,y])):=S.M.qh HV3.out (S.M.Ch.of_below (X:=fun _=>False) (S.M.zi (Below.refl _ _) 1)) fun _ _ e=>e
    have FL:Hid (Calls Tryz.prog 169 #[.pointer (some ⟨m.P,0,none⟩),.string s.label.text,.int .i64 x,.int .i64 y] w3.drew fun ee w'=>ee=.returned (.int .i64 (F.q0h (isV:=xk L.T) L.sc x y))∧Goes N w3.drew lb txt m k { L with sc:=F.q07 (isV:=xk L.T) L.sc s.label.text x y } (Y.numOf L.T.syms) w'):=by
     have h1:=ID.out
     have h2:=F.qgo (isV:=xk L.T) w3.drew m.O m.P m.vS m.sx s.label.text x y h1.stk (h1.vars HO.out.q3u) (by rw[h1.q3r];exact HO.out.sc1) (by rw[h1.q3r];exact HO.out.scN) (h1.qnl HO.out) HZ.out HXY.out.1 HXY.out.2
     rw[h1.sca] at h2
     exact h2.mono fun ee w' hd=>h1.decl hd
    have x2:w3.drew.cell? ⟨lb,2,none⟩=some (.pointer (some ⟨m.P,0,none⟩)):=ID.out.cells.2.2
    have z:=C0.out w3.drew BD1.out
    have z1:w3.drew.cell? ⟨w.heap.size,1,none⟩=some (.string s.label.text):=z 1
    have z12:w3.drew.cell? ⟨w.heap.size,12,none⟩=some (.string s.fin.text):=z 12
    have z13:w3.drew.cell? ⟨w.heap.size,13,none⟩=some (.int .i64 s.fin.off):=z 13
    have z14:w3.drew.cell? ⟨w.heap.size,14,none⟩=some (.int .i64 s.fin.line):=z 14
    have z15:w3.drew.cell? ⟨w.heap.size,15,none⟩=some (.int .i64 s.fin.col):=z 15
    have q0:w3.drew.cell? ⟨g,0,none⟩=some (.int .i64 x):=S.M.q34 HVD.out 0 _ rfl
    have q1:w3.drew.cell? ⟨g,1,none⟩=some (.int .i64 y):=S.M.q34 HVD.out 1 _ rfl
    have ZB:Hid (w3.drew.heap[w.heap.size]?=some (.cells (jw s (.slice aw nw cw) (.slice ap np cp)) 95 (0,0))∧¬m.hot w.heap.size):=⟨(BD1.out.block _ HS1.out).trans HX1.out,fun hh=>by have:=HI.out.lt _ hh;omega⟩
    clear z
    have CK:Hid (∀wx,Calls Tryz.prog 102 #[S.zn s.fin,.int .i64 (F.q0h (isV:=xk L.T) L.sc x y)] wx (Chk s.fin (F.q0h (isV:=xk L.T) L.sc x y) wx)):=fun wx=>check_any wx s.fin _
    have KP:Hid (∀w5,Goes N w3.drew lb txt m k { L with sc:=F.q07 (isV:=xk L.T) L.sc s.label.text x y } (Y.numOf L.T.syms) w5→w5.cell? ⟨w.heap.size,1,none⟩=some (.string s.label.text)∧w5.cell? ⟨g,1,none⟩=some (.int .i64 y)∧Calls Tryz.prog 170 #[.pointer (some ⟨lb,0,none⟩),.agg #[.string s.label.text,.bool true,.int .i64 y,.slice (some ⟨g,0,none⟩) 2 cv]] w5.drew fun ee w'=>ee=.returned (.tuple #[])∧Goes N w lb txt m (k + 1) { L with sc:=F.q07 (isV:=xk L.T) L.sc s.label.text x y,hy:=L.hy++[⟨s.label.text,true,y,[x,y]⟩] } (Y.numOf L.T.syms) w'):=fun w5 hg5=>by
     have bd5:Below w5.heap.size w5 w5.drew:=S.M.zi (Below.refl _ _) 1
     obtain⟨c5,m5,i5,g5⟩:=hg5
     have hb0:=B0.out
     have hlt0:∀b,m.hot b→b < w.heap.size:=HI.out.lt
     have hge:∀b,(Value.slice (some ⟨g,0,none⟩) 2 cv).ownBlock=some b→w1.heap.size≤b∧b < w3.heap.size:=fun b eb=>⟨S.M.zf HV3.out b eb,S.M.jl HV3.out b eb⟩
     have hs1:=HS1.out
     have ho5:=S.M.qh HVD.out c5 fun b eb hh=>by have:=hlt0 b hh;have:=hge b eb;omega
     have ho:=S.M.qp (S.M.qh ho5 (S.M.Ch.of_below (X:=fun _=>False) bd5) fun _ _ e=>e) (base':=N) (by have:=HI.out.ge;omega)
     refine⟨S.M.qc ((c5.block _ (Array.getElem?_eq_some_iff.1 ZB.out.1).1 ZB.out.2).trans ZB.out.1) 1,S.M.q34 ho5 1 _ rfl,?_⟩
     refine (keep_any (i5.below bd5) ⟨s.label.text,true,y,[x,y]⟩ (some ⟨g,0,none⟩) cv (by have:=HO.out.hy1;show L.hy.length≤_;omega) (by omega) HZ.out HNo.out ho fun b eb hh=>?_).mono fun ee w' hk=>⟨hk.1,(q2k (c5.trans (S.M.Ch.of_below bd5)) g5 hk.2).q0q BD.out⟩
     have h3:=hge b eb
     rcases g5 b hh with h4 | h4
     ·have:=hlt0 b h4;omega
     ·have h5:w3.drew.heap.size=w3.heap.size:=rfl
      omega
    have ST:Hid (∀w4,Goes N w3.drew lb txt m k { L with sc:=F.q07 (isV:=xk L.T) L.sc s.label.text x y } (Y.numOf L.T.syms) w4→w4.heap[w.heap.size]?=some (.cells (jw s (.slice aw nw cw) (.slice ap np cp)) 95 (0,0))):=fun w4 hg=>(hg.1.block _ (Array.getElem?_eq_some_iff.1 ZB.out.1).1 ZB.out.2).trans ZB.out.1
    have DN:Hid (∀w4 w5,Goes N w3.drew lb txt m k { L with sc:=F.q07 (isV:=xk L.T) L.sc s.label.text x y } (Y.numOf L.T.syms) w4→Below w4.heap.size w4 w5→S.M.Ch m.hot w w5∧w.heap.size≤w4.heap.size):=fun w4 w5 hg hb=>⟨(S.M.Ch.of_below BD.out).trans (hg.1.trans (S.M.Ch.of_below hb)),Nat.le_trans BD.out.size hg.1.size⟩
    have SA:Hid (∀w4,Hid (S.M.Ch m.hot w3.drew w4)→w4.cell? ⟨lb,2,none⟩=some (.pointer (some ⟨m.P,0,none⟩))∧w4.cell? ⟨w.heap.size,1,none⟩=some (.string s.label.text)∧w4.cell? ⟨w.heap.size,12,none⟩=some (.string s.fin.text)∧w4.cell? ⟨w.heap.size,13,none⟩=some (.int .i64 s.fin.off)∧w4.cell? ⟨w.heap.size,14,none⟩=some (.int .i64 s.fin.line)∧w4.cell? ⟨w.heap.size,15,none⟩=some (.int .i64 s.fin.col)∧w4.cell? ⟨g,0,none⟩=some (.int .i64 x)∧w4.cell? ⟨g,1,none⟩=some (.int .i64 y)):=fun w4 hc=>by
     have hbx:=(hc.out.block _ (Array.getElem?_eq_some_iff.1 ZB.out.1).1 ZB.out.2).trans ZB.out.1
     have hl:=(hc.out.block lb (Array.getElem?_eq_some_iff.1 ID.out.cold.lbox).1 ID.out.cold.lh).trans ID.out.cold.lbox
     have hg4:=hc.out.block g (World.block_lt_of_cell? _ _ q0) fun hh=>by have:=HI.out.lt _ hh;have:=HS1.out;omega
     exact⟨S.M.qc hl 2,S.M.qc hbx 1,S.M.qc hbx 12,S.M.qc hbx 13,S.M.qc hbx 14,S.M.qc hbx 15,(World.cell?_of_block (a:=⟨g,0,none⟩) hg4).trans q0,(World.cell?_of_block (a:=⟨g,1,none⟩) hg4).trans q1⟩
    have C00:Hid (S.M.Ch m.hot w3.drew w3.drew):=S.M.Ch.refl _ _
    unfold S.zn at CK
    generalize (F.q0h (isV:=xk L.T) L.sc x y)=J at *
    clear ID HV3 B3 hgN hcv
    by_cases hJ:J=0
    ·have HJ:Hid (J=0):=hJ
     have R3:Hid (q1o L s=.ok { L with sc:=F.q07 (isV:=xk L.T) L.sc s.label.text x y,hy:=L.hy++[⟨s.label.text,true,y,[x,y]⟩] }):=R2.out.trans (if_pos hJ)
     clear hJ R2
     clear z1 z12 z13 z14 z15 x2
     go_upto_region 10 with fail
     go_region_held3 (fun w'=>w'.cell? ⟨lb,2,none⟩=some (.pointer (some ⟨m.P,0,none⟩))∧w'.cell? ⟨w.heap.size,1,none⟩=some (.string s.label.text)∧w'.cell? ⟨w.heap.size,12,none⟩=some (.string s.fin.text)∧w'.cell? ⟨w.heap.size,13,none⟩=some (.int .i64 s.fin.off)∧w'.cell? ⟨w.heap.size,14,none⟩=some (.int .i64 s.fin.line)∧w'.cell? ⟨w.heap.size,15,none⟩=some (.int .i64 s.fin.col)∧w'.cell? ⟨g,0,none⟩=some (.int .i64 x)∧w'.cell? ⟨g,1,none⟩=some (.int .i64 y)) (refine⟨?_,?_,?_,?_,?_,?_,?_,?_⟩ <;> first | assumption | exact (SA.out _ (by assumption)).1 | exact (SA.out _ (by assumption)).2.1 | exact (SA.out _ (by assumption)).2.2.1 | exact (SA.out _ (by assumption)).2.2.2.1 | exact (SA.out _ (by assumption)).2.2.2.2.1 | exact (SA.out _ (by assumption)).2.2.2.2.2.1 | exact (SA.out _ (by assumption)).2.2.2.2.2.2.1 | exact (SA.out _ (by assumption)).2.2.2.2.2.2.2)
      (first
      | (go_simp;go_at_call 169;refine Calls.mono FL.out ?_;rintro ee w4 ⟨rfl,hg⟩;have GG:Hid (Goes N w3.drew lb txt m k { L with sc:=F.q07 (isV:=xk L.T) L.sc s.label.text x y } (Y.numOf L.T.syms) w4):=hg;have CC:Hid (S.M.Ch m.hot w3.drew w4):=hg.1;clear hg)
      | (go_simp;go_at_call 102;refine Calls.mono (CK.out _) ?_;rintro ee w5 ⟨hb5,he5⟩;rw[if_pos HJ.out] at he5;subst he5;have G5:Hid (Goes N w3.drew lb txt m k { L with sc:=F.q07 (isV:=xk L.T) L.sc s.label.text x y } (Y.numOf L.T.syms) w5):=GG.out.jc hb5;have CC2:Hid (S.M.Ch m.hot w3.drew w5):=G5.out.1;clear hb5))
     all_goals obtain⟨k1,k2,KP1⟩:=KP.out _ G5.out
     all_goals have KP2:Hid (Calls Tryz.prog 170 #[.pointer (some ⟨lb,0,none⟩),.agg #[.string s.label.text,.bool true,.int .i64 y,.slice (some ⟨g,0,none⟩) 2 cv]] w5.drew fun ee w'=>ee=.returned (.tuple #[])∧Goes N w lb txt m (k + 1) { L with sc:=F.q07 (isV:=xk L.T) L.sc s.label.text x y,hy:=L.hy++[⟨s.label.text,true,y,[x,y]⟩] } (Y.numOf L.T.syms) w'):=KP1
     all_goals clear KP1
     all_goals go_upto_region 11 with fail
     all_goals go_region_law (go_simp;go_at_call 170;refine Calls.mono KP2.out ?_;rintro ee w6 ⟨rfl,hg6⟩;have G6:Hid (Goes N w lb txt m (k + 1) { L with sc:=F.q07 (isV:=xk L.T) L.sc s.label.text x y,hy:=L.hy++[⟨s.label.text,true,y,[x,y]⟩] } (Y.numOf L.T.syms) w6):=hg6;clear hg6)
     all_goals go_wp2
     all_goals exact bodyPost_end (results_none rfl _ _ _) rfl (wu R3.out rfl G6.out)
    ·have HJ:Hid (¬J=0):=hJ
     have R3:Hid (q1o L s=.error (s.fin,J)):=R2.out.trans (if_neg hJ)
     clear hJ R2 KP
     clear z1 z12 z13 z14 z15 x2
     go_upto_region 10 with fail
     refine wp_region_held_drew (S:=(fun w'=>w'.cell? ⟨lb,2,none⟩=some (.pointer (some ⟨m.P,0,none⟩))∧w'.cell? ⟨w.heap.size,1,none⟩=some (.string s.label.text)∧w'.cell? ⟨w.heap.size,12,none⟩=some (.string s.fin.text)∧w'.cell? ⟨w.heap.size,13,none⟩=some (.int .i64 s.fin.off)∧w'.cell? ⟨w.heap.size,14,none⟩=some (.int .i64 s.fin.line)∧w'.cell? ⟨w.heap.size,15,none⟩=some (.int .i64 s.fin.col)∧w'.cell? ⟨g,0,none⟩=some (.int .i64 x)∧w'.cell? ⟨g,1,none⟩=some (.int .i64 y))) (by kernel_rfl) ?_ (fun hHeld=>?_)
     ·(refine⟨?_,?_,?_,?_,?_,?_,?_,?_⟩ <;> first | assumption | exact (SA.out _ (by assumption)).1 | exact (SA.out _ (by assumption)).2.1 | exact (SA.out _ (by assumption)).2.2.1 | exact (SA.out _ (by assumption)).2.2.2.1 | exact (SA.out _ (by assumption)).2.2.2.2.1 | exact (SA.out _ (by assumption)).2.2.2.2.2.1 | exact (SA.out _ (by assumption)).2.2.2.2.2.2.1 | exact (SA.out _ (by assumption)).2.2.2.2.2.2.2)
     refine tk 0 ⟨some 32,.fieldAddr 95 (.tmp 3) 6,0,"load.go:143",#[],none⟩ ?_ hHeld ?_ ?_
     rotate_left
     ·(intro w hSw;(try dsimp only at hSw);go_simp;try with_reducible rfl)
     try simp only[Act.put,List.setIfInBounds_toArray,List.set_cons_zero,List.set_cons_succ]
     refine tk 1 ⟨some 33,.load 36 (.tmp 32),36,"load.go:143",#[⟨0,.data⟩],none⟩ ?_ hHeld ?_ ?_
     rotate_left
     ·(intro w hSw;(try dsimp only at hSw);go_simp;try with_reducible rfl)
     try simp only[Act.put,List.setIfInBounds_toArray,List.set_cons_zero,List.set_cons_succ]
     refine tk 2 ⟨some 34,.move (.tmp 0),100,"load.go:143",#[],none⟩ ?_ hHeld ?_ ?_
     rotate_left
     ·(intro w hSw;(try dsimp only at hSw);go_simp;try with_reducible rfl)
     try simp only[Act.put,List.setIfInBounds_toArray,List.set_cons_zero,List.set_cons_succ]
     refine tk 3 ⟨some 35,.nilCheck (.tmp 34),0,"load.go:143",#[⟨2,.data⟩],none⟩ ?_ hHeld ?_ ?_
     rotate_left
     ·(intro w hSw;(try dsimp only at hSw);go_simp;try with_reducible rfl)
     try simp only[Act.put,List.setIfInBounds_toArray,List.set_cons_zero,List.set_cons_succ]
     refine tk 4 ⟨some 36,.fieldAddr 106 (.tmp 35) 2,0,"load.go:143",#[⟨3,.data⟩],none⟩ ?_ hHeld ?_ ?_
     rotate_left
     ·(intro w hSw;(try dsimp only at hSw);go_simp;try with_reducible rfl)
     try simp only[Act.put,List.setIfInBounds_toArray,List.set_cons_zero,List.set_cons_succ]
     refine tk 5 ⟨some 37,.load 104 (.tmp 36),104,"load.go:143",#[⟨4,.data⟩],none⟩ ?_ hHeld ?_ ?_
     rotate_left
     ·(intro w hSw;(try dsimp only at hSw);go_simp;try with_reducible rfl)
     try simp only[Act.put,List.setIfInBounds_toArray,List.set_cons_zero,List.set_cons_succ]
     refine tk 6 ⟨some 38,.fieldAddr 95 (.tmp 3) 1,0,"load.go:143",#[],none⟩ ?_ hHeld ?_ ?_
     rotate_left
     ·(intro w hSw;(try dsimp only at hSw);go_simp;try with_reducible rfl)
     try simp only[Act.put,List.setIfInBounds_toArray,List.set_cons_zero,List.set_cons_succ]
     refine tk 7 ⟨some 39,.fieldAddr 36 (.tmp 38) 0,0,"load.go:143",#[⟨6,.data⟩],none⟩ ?_ hHeld ?_ ?_
     rotate_left
     ·(intro w hSw;(try dsimp only at hSw);go_simp;try with_reducible rfl)
     try simp only[Act.put,List.setIfInBounds_toArray,List.set_cons_zero,List.set_cons_succ]
     refine tk 8 ⟨some 40,.load 9 (.tmp 39),9,"load.go:143",#[⟨7,.data⟩],none⟩ ?_ hHeld ?_ ?_
     rotate_left
     ·(intro w hSw;(try dsimp only at hSw);go_simp;try with_reducible rfl)
     try simp only[Act.put,List.setIfInBounds_toArray,List.set_cons_zero,List.set_cons_succ]
     refine tk 9 ⟨some 41,.move (.tmp 4),38,"load.go:143",#[],none⟩ ?_ hHeld ?_ ?_
     rotate_left
     ·(intro w hSw;(try dsimp only at hSw);go_simp;try with_reducible rfl)
     try simp only[Act.put,List.setIfInBounds_toArray,List.set_cons_zero,List.set_cons_succ]
     refine tk 10 ⟨some 42,.indexAddr 38 (.tmp 41) (.const (.int .i64 0)),0,"load.go:143",#[⟨9,.data⟩],none⟩ ?_ hHeld ?_ ?_
     rotate_left
     ·(intro w hSw;(try dsimp only at hSw);go_simp;try with_reducible rfl)
     try simp only[Act.put,List.setIfInBounds_toArray,List.set_cons_zero,List.set_cons_succ]
     refine tk 11 ⟨some 43,.load 3 (.tmp 42),3,"load.go:143",#[⟨10,.data⟩],none⟩ ?_ hHeld ?_ ?_
     rotate_left
     ·(intro w hSw;(try dsimp only at hSw);go_simp;try with_reducible rfl)
     try simp only[Act.put,List.setIfInBounds_toArray,List.set_cons_zero,List.set_cons_succ]
     refine tk 12 ⟨some 44,.move (.tmp 4),38,"load.go:143",#[],none⟩ ?_ hHeld ?_ ?_
     rotate_left
     ·(intro w hSw;(try dsimp only at hSw);go_simp;try with_reducible rfl)
     try simp only[Act.put,List.setIfInBounds_toArray,List.set_cons_zero,List.set_cons_succ]
     refine tk 13 ⟨some 45,.indexAddr 38 (.tmp 44) (.const (.int .i64 1)),0,"load.go:143",#[⟨12,.data⟩],none⟩ ?_ hHeld ?_ ?_
     rotate_left
     ·(intro w hSw;(try dsimp only at hSw);go_simp;try with_reducible rfl)
     try simp only[Act.put,List.setIfInBounds_toArray,List.set_cons_zero,List.set_cons_succ]
     refine tk 14 ⟨some 46,.load 3 (.tmp 45),3,"load.go:143",#[⟨13,.data⟩],none⟩ ?_ hHeld ?_ ?_
     rotate_left
     ·(intro w hSw;(try dsimp only at hSw);go_simp;try with_reducible rfl)
     try simp only[Act.put,List.setIfInBounds_toArray,List.set_cons_zero,List.set_cons_succ]
     refine wpAnyH_ready (rs:=[15]) (by kernel_rfl) (by simp) ?_
     refine AllReadyH.cons rfl (fun K hK=>?_) AllReadyH.nil
     go_simp
     go_at_call 169
     refine Calls.mono FL.out ?_
     rintro ee w4 ⟨rfl,hg⟩
     have GG:Hid (Goes N w3.drew lb txt m k { L with sc:=F.q07 (isV:=xk L.T) L.sc s.label.text x y } (Y.numOf L.T.syms) w4):=hg
     have CC:Hid (S.M.Ch m.hot w3.drew w4):=hg.1
     clear hg
     refine hK.out _ _ ?_ (fun hHeld2=>?_)
     ·(refine⟨?_,?_,?_,?_,?_,?_,?_,?_⟩ <;> first | assumption | exact (SA.out _ (by assumption)).1 | exact (SA.out _ (by assumption)).2.1 | exact (SA.out _ (by assumption)).2.2.1 | exact (SA.out _ (by assumption)).2.2.2.1 | exact (SA.out _ (by assumption)).2.2.2.2.1 | exact (SA.out _ (by assumption)).2.2.2.2.2.1 | exact (SA.out _ (by assumption)).2.2.2.2.2.2.1 | exact (SA.out _ (by assumption)).2.2.2.2.2.2.2)
     clear hK K
     try simp only[Act.put,List.setIfInBounds_toArray,List.set_cons_zero,List.set_cons_succ]
     refine wpAnyH_ready (rs:=[16]) (by kernel_rfl) (by simp) ?_
     refine AllReadyH.cons rfl (fun K hK=>?_) AllReadyH.nil
     go_simp
     go_at_call 102
     refine Calls.mono (CK.out _) ?_
     rintro ee w5 ⟨hb5,he5⟩
     rw[if_neg HJ.out] at he5
     obtain⟨b,rfl,q2,q3⟩:=he5
     obtain⟨d1,d2⟩:=DN.out _ _ GG.out hb5
     exact⟨rfl,q0l R3.out d1 ⟨b,rfl,q2,Nat.le_trans d2 q3⟩⟩
end
end B
namespace B
open Go.RowKit
theorem ql1 (w:World)(a:Option Addr)(n c:Nat)(l:List Int)(v:Int)(hl:l.length=n)(hn:n≤1048576)(hA:F.q1a w a l) :
  Calls Tryz.prog 219 #[.slice a n c,.int .i64 v] w fun e w'=>e=.returned (.int .i64 (F.q3c (fun x=>v == x) l))∧w'=w:=by
 have HL:Hid (l.length=n):=hl
 have HA:Hid (F.q1a w a l):=hA
 clear hl hA
 go_enter Tryz.func219,Tryz.ntmps219
 go_wp2_with fail
 go_loopw [5,8] (fun _v5 v8 wx=>∃j:Nat,j≤n∧v8=.int .i64 j∧wx=w∧Hid ((l.take j).any (fun x=>v == x)=false)) (fun _ v8 _=>n - (intOf v8).toNat)
 case atStart=>exact⟨0,Nat.zero_le _,rfl,rfl,rfl⟩
 case round =>
  obtain⟨j,hj,rfl,rfl,hN⟩:=hrel
  by_cases hlt:j < n
  ·have n1:(j:Int) < (n:Int):=by omega
   obtain⟨x,hx⟩:∃x,l[j]?=some x:=⟨_,List.getElem?_eq_getElem (by rw[HL.out];exact hlt)⟩
   obtain⟨g,off,rfl,y0⟩:=HA.out j x hx
   cases e1:v == x with
   | true =>
    have N2:Hid (F.q3c (fun x=>v == x) l=(j:Int)):=F.q68 hx e1 hN.out
    clear hx hN
    go_wp2
    go_ret
    exact⟨by rw[N2.out];rfl,rfl⟩
   | false =>
    have N2:Hid ((l.take (j + 1)).any (fun x=>v == x)=false):=by
     show _=_
     rw[List.take_add_one,hx,List.any_append,hN.out]
     simp[e1]
    clear hx hN
    go_wp2
    exact⟨⟨j + 1,by omega,by go_num,trivial,N2.out⟩,by simp[intOf];omega⟩
  ·have n1:¬(j:Int) < (n:Int):=by omega
   have N2:Hid (F.q3c (fun x=>v == x) l=-1):=by
    have h:=hN.out
    rw[List.take_of_length_le (by rw[HL.out];omega)] at h
    exact F.q51 h
   clear hN
   go_wp2
   go_ret
   exact⟨by rw[N2.out];rfl,rfl⟩
theorem qd9 (w:World)(a:Option Addr)(n c:Nat)(l:List Int)(v:Int)(hl:l.length=n)(hn:n≤1048576)(hA:F.q1a w a l) :
  Calls Tryz.prog 163 #[.slice a n c,.int .i64 v] w fun e w'=>e=.returned (.bool (l.contains v))∧w'=w:=by
 have CC:Hid _:=ql1 w a n c l v hl hn hA
 have HE:Hid (decide (0≤F.q3c (fun x=>v == x) l)=l.contains v):=by
  show _=_
  rw[F.qa4]
  induction l with
  | nil=>rfl
  | cons y r ih=>rw[List.any_cons,List.contains_cons];congr 1;exact List.any_beq.trans rfl
 obtain⟨i,hi⟩:∃i,F.q3c (fun x=>v == x) l=i:=⟨_,rfl⟩
 rw[hi] at CC HE
 clear hl hn hA hi
 go_enter Tryz.func163,Tryz.ntmps163
 go_wp2_with fail
 refine Calls.mono CC.out ?_
 rintro e wz ⟨rfl,hwz⟩
 subst wz
 go_wp2
 go_ret
 exact⟨by rw[←HE.out];rfl,rfl⟩
theorem qnq (w:World)(N0:Nat)(v:Value)(l:List F.Pp)(p:F.Pp)(ho:w.ownsRow N0 130 2 v l.length (F.je l))(hN:N0≤w.heap.size)(hl:l.length≤1048576) :
  Calls Tryz.prog 164 #[v,F.q2c p] w fun e w'=>S.M.Ch (fun b=>v.ownBlock=some b) w w'∧∃v',e=.returned v'∧w'.ownsRow N0 130 2 v' (q1r l p).length (F.je (q1r l p)):=by
 obtain⟨iQ,hiQ,iQz,iQs,iQb⟩:=info_parts F.qcw
 obtain⟨a,c,rfl,_⟩:=S.M.zx ho
 have HP:Hid (F.q1c w a l):=F.q50 ho
 have HO:Hid (w.ownsRow N0 130 2 (.slice a l.length c) l.length (F.je l)):=ho
 have HN:Hid (N0≤w.heap.size):=hN
 obtain⟨n,hn⟩:∃n,l.length=n:=⟨_,rfl⟩
 have HL:Hid (l.length=n):=hn
 have hb0:Hid (Below w.heap.size w (w.alloc (.cells #[.int .i64 p.1,.int .i64 p.2] 130))):=S.qg w _
 have CH:Hid _:=F.qik (w.alloc (.cells #[.int .i64 p.1,.int .i64 p.2] 130)) a c n l p hn (by omega) (fun i q hq=>by
  obtain⟨b,off,e,h1,h2⟩:=HP.out i q hq
  exact⟨b,off,e,(hb0.out.cell (p:=⟨b,_,none⟩) (World.block_lt_of_cell? _ _ h1)).trans h1,(hb0.out.cell (p:=⟨b,_,none⟩) (World.block_lt_of_cell? _ _ h2)).trans h2⟩)
 rw[hn] at HO hl ⊢
 unfold F.q2c at CH ⊢
 cases hh:F.q3b l p with
 | true =>
  rw[hh] at CH
  have HW:Hid (q1r l p=l):=if_pos hh
  clear ho hN hn HP
  go_enter Tryz.func164,Tryz.ntmps164
  go_wp2_with fail
  refine Calls.mono CH.out ?_
  rintro e w1 ⟨rfl,hb1⟩
  have B1:Hid (Below w.heap.size w w1):=hb0.out.trans (hb1.mono hb0.out.size)
  clear hb1 CH
  go_wp2
  go_ret
  refine⟨S.M.Ch.of_below B1.out,_,rfl,?_⟩
  rw[HW.out,HL.out]
  exact S.M.qh HO.out (S.M.Ch.of_below (X:=fun _=>False) B1.out) fun _ _ e=>e
 | false =>
  rw[hh] at CH
  have HW:Hid (q1r l p=l++[p]):=if_neg (by rw[hh];decide)
  clear ho hN hn HP
  go_enter Tryz.func164,Tryz.ntmps164
  go_wp2_with fail
  refine Calls.mono CH.out ?_
  rintro e w1 ⟨rfl,hb1⟩
  have B1:Hid (Below w.heap.size w w1):=hb0.out.trans (hb1.mono hb0.out.size)
  have z0:w1.cell? ⟨w.heap.size,0,none⟩=some (.int .i64 p.1):=(hb1.cell (p:=⟨w.heap.size,0,none⟩) (by show _ < (w.heap.push _).size;simp)).trans (World.cell?_alloc_new w _ 130 0)
  have z1:w1.cell? ⟨w.heap.size,1,none⟩=some (.int .i64 p.2):=(hb1.cell (p:=⟨w.heap.size,1,none⟩) (by show _ < (w.heap.push _).size;simp)).trans (World.cell?_alloc_new w _ 130 1)
  have HO1:Hid (w1.ownsRow N0 130 2 (.slice a n c) n (F.je l)):=S.M.qh HO.out (S.M.Ch.of_below (X:=fun _=>False) B1.out) fun _ _ e=>e
  have HN1:Hid (N0≤w1.heap.size):=Nat.le_trans HN.out B1.out.size
  have HF:Hid (F.je (l++[p])=F.je l++[.int .i64 p.1,.int .i64 p.2]):=F.q5v l [p]
  clear hb1 CH
  go_wp2_with (at_builtin;refine wpList_append_lies (w:=w1.alloc (.cells #[.int .i64 p.1,.int .i64 p.2] 130)) rfl _ _ 45 rfl N0 130 iQ _ 2 16 Tryz.underlying45 hiQ iQz iQs iQb rfl (by decide) _ n (F.je l) (by rfl) (S.M.zk HO1.out _) ⟨w1.heap.size,0,none⟩ 1 1 [.int .i64 p.1,.int .i64 p.2] (by rfl) (by rfl) (World.news_of_block (cs:=#[.int .i64 p.1,.int .i64 p.2]) (t:=130) (fr:=(0,0)) (World.alloc_heap_new w1 _)) (by simp[Value.oneCell']) (by omega) (by unfold maxLen;omega) (by omega) (Nat.le_trans HN1.out (S.qg w1 _).size) _ rfl ?_;intro gg cap' w8 hown8 hgrow hat hlt8;have O8:Hid (w8.ownsRow N0 130 2 (.slice (some ⟨gg,0,none⟩) (n + 1) cap') (n + 1) (F.je (l++[p]))):=(by show World.ownsRow _ _ _ _ _ _ _;rw[HF.out];exact hown8);have B8:Hid (S.M.Ch (fun b=>(Value.slice a n c).ownBlock=some b) w w8):=(S.M.Ch.of_below B1.out).trans ((S.M.Ch.of_below (S.qg w1 _)).trans (S.M.Ch.jm hgrow));clear hown8 hgrow hat hlt8)
  go_ret
  refine⟨B8.out,_,rfl,?_⟩
  rw[HW.out,List.length_append,HL.out]
  exact O8.out
end B
end Go.Proofs.YtbancemhfjjmlaaGreatDoor
