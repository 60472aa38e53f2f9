/- Laid together: BPart, BTakeL, BTakeM, BTakeA. -/
import Derived.Test.YtbancemhfjjmlaaGreatDoorQA17
import Derived.Test.YtbancemhfjjmlaaGreatDoorQA20
import Derived.Test.YtbancemhfjjmlaaGreatDoorQA19
set_option maxRecDepth 100000
set_option maxHeartbeats 32000000
namespace Go.Proofs.YtbancemhfjjmlaaGreatDoor
namespace B
open Go.RowKit
open S (Tok Stm)
theorem ql2 (l:List F.Pp)(p:F.Pp):(q1r l p).length≤l.length + 1:=by
 unfold q1r
 split <;> simp
theorem qc8 (v:Int):∀(a:List Int) (l:List F.Pp),(a.foldl (fun l u=>q1r l (u,v)) l).length≤l.length + a.length
 | [],l=>Nat.le_refl _
 | u :: a,l=>by
  have h1:=qc8 v a (q1r l (u,v))
  have h2:=ql2 l (u,v)
  rw[List.foldl_cons,List.length_cons]
  omega
theorem qah {L:Ld}(hT:L.T.syms.length≤4611686018427387904):∀(ts:List Tok) (a:List Int) (ps:List F.Pp) (e:List Int),q0i L a ps ts=.ok e→(∀x ∈ a,F.wfN x)→(∀x ∈ e,F.wfN x)∧e.length=a.length + ts.length
 | [],a,ps,e,h,h1=>by
  cases h
  exact⟨h1,rfl⟩
 | t :: ts,a,ps,e,h,h1=>by
  unfold q0i at h
  cases hr:q3k L t with
  | error f=>rw[hr] at h;cases h
  | ok v =>
   rw[hr] at h
   simp only at h
   split at h
   ·cases h
   ·split at h
    ·cases h
    ·obtain⟨i1,i2⟩:=qah hT ts (a++[v]) _ e h fun x hx=>(List.mem_append.1 hx).elim (h1 x) fun hx=>by rw[List.mem_singleton.1 hx];exact qiu hT hr
     exact⟨i1,by rw[i2];simp;omega⟩
section
variable {N:Nat} {w W':World} {lb:Nat} {txt:ByteArray} {k k':Nat} {L L':Ld} {nf nf':ByteArray→Option Nat} {m m':LdM} {s:Stm} {vw vp:Value}
theorem qa9 (h:zq N w lb txt k L (Y.numOf L.T.syms) m)(hO:L.Ok k)(hs:q0w N m w s vw vp):Calls Tryz.prog 111 #[.pointer (some ⟨lb,0,none⟩),q09 s vw vp] w (Does N w lb txt m k (q2j L s)):=by
 obtain⟨iN,hiN,iNz,iNs,iNb⟩:=info_parts F.q83
 obtain⟨aw,cw,rfl,hW⟩:=hs.words
 obtain⟨ap,cp,rfl,_⟩:=S.gu hs.op
 have b0:Below w.heap.size w (w.alloc (.cells (jw s (.slice aw s.words.length cw) (.slice ap s.proof.length cp)) 95)):=S.qg _ _
 have hlw:=hs.lw
 have HI:Hid (zq N w lb txt k L (Y.numOf L.T.syms) m):=h
 have HO:Hid (L.Ok k):=hO
 have EN:Hid (∀wx,Calls Tryz.prog 165 #[q09 s (.slice aw s.words.length cw) (.slice ap s.proof.length cp)] wx fun e w'=>e=.returned (.bool (q04 s.fin))∧Below wx.heap.size wx w'):=fun wx=>q6c wx s aw _ cw ap _ cp
 have HFR:Hid (∀r,q0i L [] (uz (F.uo L.sc)) s.words=r→q2j L s=match r with | .ok a=>if q04 s.fin=true then jh s.fin (F.q1h (isV:=xk L.T) L.sc a) { L with sc:=F.q1i (isV:=xk L.T) L.sc a } else .ok L | .error f=>.error f):=fun r er=>by unfold q2j;rw[er] <;> cases r <;> rfl
 have HE:Hid (∀e,q0i L [] (uz (F.uo L.sc)) s.words=.ok e→(∀x ∈ e,F.wfN x)∧e.length=s.words.length):=fun e he=>by
  obtain⟨h1,h2⟩:=qah hO.q3u s.words [] _ e he (fun x hx=>by cases hx)
  exact⟨h1,by simpa using h2⟩
 have C0:Hid (∀w',Below (w.alloc (.cells (jw s (.slice aw s.words.length cw) (.slice ap s.proof.length cp)) 95)).heap.size (w.alloc (.cells (jw s (.slice aw s.words.length cw) (.slice ap s.proof.length cp)) 95)) w'→∀i,w'.cell? ⟨w.heap.size,i,none⟩=(jw s (.slice aw s.words.length cw) (.slice ap s.proof.length cp))[i]?):=fun w' hb=>q53 hb
 have HP0:Hid ((uz (F.uo L.sc)).length≤256):=Nat.le_trans (F.qn6 (qf1 _)) hO.ps
 obtain⟨w1,hw1⟩:∃w1,w1=w.alloc (.cells (jw s (.slice aw s.words.length cw) (.slice ap s.proof.length cp)) 95):=⟨_,rfl⟩
 have HS1:Hid (w.heap.size < w1.heap.size):=by rw[hw1];show _ < (w.heap.push _).size;simp
 have HX1:Hid (w1.heap[w.heap.size]?=some (.cells (jw s (.slice aw s.words.length cw) (.slice ap s.proof.length cp)) 95 (0,0))):=by show _=_;rw[hw1];exact World.alloc_heap_new w _
 rw[←hw1] at b0 C0
 obtain⟨N0,hN⟩:∃N,w1.heap.size=N:=⟨_,rfl⟩
 have HN:Hid (w1.heap.size=N0):=hN
 have VA:Hid (∀wx,Below N0 w1 wx→∀t,t ∈ s.words→Calls Tryz.prog 162 #[.pointer (some ⟨lb,0,none⟩),S.zn t] wx (Asks wx (q3k L t))):=fun wx hb t ht=>q7d (h.below (b0.trans (hb.mono (by rw[←hN];exact b0.size)))) hO.q3u t (by have:=hs.zw t ht;unfold maxLen;omega)
 have SCC:Hid (Calls Tryz.prog 161 #[.pointer (some ⟨m.P,0,none⟩)] w1 fun e w'=>Below w1.heap.size w1 w'∧∃vh vp ts,e=.returned (.agg #[vh,vp])∧F.jr w1.heap.size w' vh ts∧ts.map (·.h)=uw L.sc∧w'.ownsRow w1.heap.size 130 2 vp (uz (F.uo L.sc)).length (F.je (uz (F.uo L.sc)))):=h.scope hO w1 b0
 have HAt:Hid (S.q3m w1 aw s.words):=hW.1.under b0
 generalize hnw:s.words.length=nw at *
 generalize hnp:s.proof.length=np at *
 have HL:Hid (s.words.length=nw):=hnw
 have B0:Hid (Below w.heap.size w w1):=b0
 have z10:w1.cell? ⟨w.heap.size,10,none⟩=some (.slice aw nw cw):=C0.out w1 (Below.refl _ _) 10
 have x2:w1.cell? ⟨lb,2,none⟩=some (.pointer (some ⟨m.P,0,none⟩)):=(HI.out.below b0).cells.2.2
 clear h hO hs hW b0 hnw hnp hN
 unfold q09 at EN ⊢
 go_enter Tryz.func111,Tryz.ntmps111
 go_upto_region 1 with fail
 rw[←hw1]
 clear hw1
 go_wp2_with fail
 refine Calls.mono SCC.out ?_
 rintro ee w2 ⟨hb2,vh,vp,ts,rfl,hto,hth,hvp⟩
 have B2:Hid (Below N0 w1 w2):=by show Below _ _ _;rw[←HN.out];exact hb2
 have P2:Hid (w2.ownsRow N0 130 2 vp (uz (F.uo L.sc)).length (F.je (uz (F.uo L.sc)))):=by show World.ownsRow _ _ _ _ _ _ _;rw[←HN.out];exact hvp
 have z10':=yt z10 hb2
 obtain⟨ah,ch,ehh,_⟩:=S.M.zx hto.own
 obtain⟨aq,cq,eqq,_⟩:=S.M.zx hvp
 subst ehh eqq
 have fld:(Instr.field 49 (.agg #[.slice ah ts.length ch,.slice aq (uz (F.uo L.sc)).length cq]) 1).run Tryz.prog w2=.ok (.slice aq (uz (F.uo L.sc)).length cq) w2:=by kernel_rfl
 clear hto hth hb2 hvp SCC z10 x2
 go_wp2_with fail
 clear z10' fld
 go_loopw [4,5,20] (fun v4 v5 v20 wx=>∃(j:Nat) (a:List Int) (ps:List F.Pp),j≤nw∧v20=.int .i64 j∧Hid (a.length=j)∧Hid (ps.length≤256)∧Hid (q0i L [] (uz (F.uo L.sc)) s.words=q0i L a ps (s.words.drop j))∧Hid (wx.ownsRow N0 3 1 v4 j (F.zy a))∧Hid (wx.ownsRow N0 130 2 v5 ps.length (F.je ps))∧Hid (Below N0 w1 wx)) (fun _ _ v20 _=>nw - (intOf v20).toNat)
 case atStart=>exact⟨0,[],_,Nat.zero_le _,rfl,rfl,HP0.out,rfl,World.ownsRow_nil _ _ _ _,P2.out,B2.out⟩
 case round =>
  clear B2 P2 HP0
  obtain⟨j,a,ps,hj,rfl,HA,HPs,hR,hO,hQ,HB⟩:=hrel
  have HNr:Hid (N0≤wr.heap.size):=by have h1:=HB.out.size;have h2:=HN.out;show N0≤_;omega
  by_cases hlt:j < nw
  ·have n1:(j:Int) < (nw:Int):=by omega
   obtain⟨t,ht⟩:∃t,s.words[j]?=some t:=⟨_,List.getElem?_eq_getElem (by rw[HL.out];exact hlt)⟩
   have hdr:s.words.drop j=t :: s.words.drop (j + 1):=by
    obtain⟨hlt2,e2⟩:=List.getElem?_eq_some_iff.1 ht
    rw[List.drop_eq_getElem_cons hlt2,e2]
   have HT:Hid (t ∈ s.words):=List.mem_of_getElem? ht
   obtain⟨g,off,rfl,y0,y1,y2,y3⟩:=HAt.out j t ht
   replace y0:=yu y0 HN.out HB.out
   replace y1:=yu y1 HN.out HB.out
   replace y2:=yu y2 HN.out HB.out
   replace y3:=yu y3 HN.out HB.out
   have HR2:Hid (q0i L [] (uz (F.uo L.sc)) s.words=match q3k L t with | .ok v=>if a.contains v=true then .error (t,50) else if 256 < (a.foldl (fun l u=>q1r l (u,v)) ps).length then .error (t,22) else q0i L (a++[v]) (a.foldl (fun l u=>q1r l (u,v)) ps) (s.words.drop (j + 1)) | .error f=>.error f):=hR.out.trans (by rw[hdr,q0i] <;> cases q3k L t <;> rfl)
   have nlo:0≤(j:Int):=by omega
   have GU:Hid (∀wx c,Calls Tryz.prog 153 #[S.zn t,.int .i64 c] wx fun e w'=>Below wx.heap.size wx w'∧Quits t c wx.heap.size e w'):=fun wx c=>q1l wx t c
   have HFE:Hid (∀f,q0i L [] (uz (F.uo L.sc)) s.words=.error f→q2j L s=.error f):=fun f e=>HFR.out _ e
   have A:Hid (Calls Tryz.prog 162 #[.pointer (some ⟨lb,0,none⟩),S.zn t] (wr.alloc (.cells (gq t) 36)) (Asks (wr.alloc (.cells (gq t) 36)) (q3k L t))):=VA.out _ (HB.out.trans (q18 HNr.out _)) t HT.out
   have QT:Hid (∀(f:Tok × Int) (wy w':World) (e:Ending),q0i L [] (uz (F.uo L.sc)) s.words=.error f→Below N0 w1 wy→Below wy.heap.size wy w'→Quits f.1 f.2 wy.heap.size e w'→Does N w lb txt m k (q2j L s) e w'):=fun f wy w' e he h1 h2 hq=>by
    have hb:=B0.out
    have hN0:=HN.out
    have hh1:=h1.size
    exact q0l (HFE.out f he) (S.M.Ch.of_below (hb.trans ((h1.trans (h2.mono (by omega))).mono (by rw[←hN0];exact hb.size)))) (hq.le (by have:=hb.size;omega))
   have BA:Hid (Below N0 w1 (wr.alloc (.cells (gq t) 36))):=HB.out.trans (q18 HNr.out _)
   have OA:Hid ((wr.alloc (.cells (gq t) 36)).ownsRow N0 3 1 u4 j (F.zy a)):=S.M.zk hO.out _
   have QA:Hid ((wr.alloc (.cells (gq t) 36)).ownsRow N0 130 2 u5 ps.length (F.je ps)):=S.M.zk hQ.out _
   have hsz:Hid (N0≤(wr.alloc (.cells (gq t) 36)).heap.size):=Nat.le_trans HNr.out (S.qg wr _).size
   have CL:Hid (∀w',Below (wr.alloc (.cells (gq t) 36)).heap.size (wr.alloc (.cells (gq t) 36)) w'→w'.cell? ⟨wr.heap.size,0,none⟩=some (.string t.text)∧w'.cell? ⟨wr.heap.size,1,none⟩=some (.int .i64 t.off)∧w'.cell? ⟨wr.heap.size,2,none⟩=some (.int .i64 t.line)∧w'.cell? ⟨wr.heap.size,3,none⟩=some (.int .i64 t.col)):=fun w' hb=>q52 hb
   have BX:Hid ((wr.alloc (.cells (gq t) 36)).heap[wr.heap.size]?=some (.cells (gq t) 36 (0,0))):=World.alloc_heap_new wr _
   unfold S.zn at A GU
   clear hdr ht EN HE hR HFR HFE
   cases hr:q3k L t with
   | error f =>
    rw[hr] at A
    have R2:Hid (q0i L [] (uz (F.uo L.sc)) s.words=.error f):=HR2.out.trans (by rw[hr])
    clear hO hQ HR2 hr HT
    go_wp2_with fail
    refine Calls.mono A.out ?_
    rintro e w' ⟨hb,b,rfl,q2,q3⟩
    exact⟨rfl,QT.out f _ _ _ R2.out BA.out hb ⟨b,rfl,q2,q3⟩⟩
   | ok v =>
    rw[hr] at A
    have HR3:Hid (q0i L [] (uz (F.uo L.sc)) s.words=if a.contains v=true then .error (t,50) else if 256 < (a.foldl (fun l u=>q1r l (u,v)) ps).length then .error (t,22) else q0i L (a++[v]) (a.foldl (fun l u=>q1r l (u,v)) ps) (s.words.drop (j + 1))):=HR2.out.trans (by rw[hr])
    obtain⟨wx0,hx0⟩:∃q,wr.heap.size=q:=⟨_,rfl⟩
    obtain⟨wa,hwa⟩:∃wa,wa=wr.alloc (.cells (gq t) 36):=⟨_,rfl⟩
    rw[←hwa] at A BA OA QA hsz CL BX
    rw[hx0] at CL BX
    clear hO hQ HR2 hr HT HB
    go_upto_region 6 with fail
    rw[←hwa]
    clear hx0
    obtain⟨v0,v1,v2,v3⟩:=CL.out wa (Below.refl _ _)
    clear hwa y0 y1 y2 y3
    go_wp2_with fail
    refine Calls.mono A.out ?_
    rintro e w4 ⟨hb4,rfl⟩
    have B4:Hid (Below N0 w1 w4):=BA.out.trans (hb4.mono hsz.out)
    have O4:Hid (w4.ownsRow N0 3 1 u4 j (F.zy a)):=S.M.qh OA.out (S.M.Ch.of_below (X:=fun _=>False) hb4) fun _ _ e=>e
    have Q4:Hid (w4.ownsRow N0 130 2 u5 ps.length (F.je ps)):=S.M.qh QA.out (S.M.Ch.of_below (X:=fun _=>False) hb4) fun _ _ e=>e
    have S4:Hid (N0≤w4.heap.size):=Nat.le_trans hsz.out hb4.size
    have X4:Hid (w4.heap[wx0]?=some (.cells (gq t) 36 (0,0))):=(hb4.block _ (Array.getElem?_eq_some_iff.1 BX.out).1).trans BX.out
    obtain⟨t0,t1,t2,t3⟩:=CL.out w4 hb4
    clear v0 v1 v2 v3 hb4 A OA QA BX CL BA
    obtain⟨a4,c4,e4,_,hA4⟩:=F.q3o O4.out
    subst e4
    have CT:Hid (Calls Tryz.prog 163 #[.slice a4 j c4,.int .i64 v] w4 fun e w'=>e=.returned (.bool (a.contains v))∧w'=w4):=qd9 w4 a4 j c4 a v HA.out (by omega) hA4
    have HA4:Hid (F.q1a w4 a4 a):=hA4
    clear hA4
    cases hc:a.contains v with
    | true =>
     rw[hc] at CT
     have R2:Hid (q0i L [] (uz (F.uo L.sc)) s.words=.error (t,50)):=HR3.out.trans (if_pos hc)
     clear hc HR3
     go_wp2_with fail
     refine Calls.mono CT.out ?_
     rintro e wz ⟨rfl,hwz⟩
     subst wz
     go_wp2_with fail
     refine Calls.mono (GU.out _ _) ?_
     rintro e w' ⟨hb,b,rfl,q2,q3⟩
     exact⟨rfl,QT.out (t,50) _ _ _ R2.out B4.out hb ⟨b,rfl,q2,q3⟩⟩
    | false =>
     rw[hc] at CT
     have HR4:Hid (q0i L [] (uz (F.uo L.sc)) s.words=if 256 < (a.foldl (fun l u=>q1r l (u,v)) ps).length then .error (t,22) else q0i L (a++[v]) (a.foldl (fun l u=>q1r l (u,v)) ps) (s.words.drop (j + 1))):=HR3.out.trans (if_neg (by rw[hc];decide))
     clear hc HR3
     go_wp2_with fail
     refine Calls.mono CT.out ?_
     rintro e wz ⟨rfl,hwz⟩
     subst wz
     clear CT
     go_wp2_with fail
     clear t0 t1 t2 t3
     go_loopw [5,34] (fun v5 v34 wx=>∃(i:Nat) (pi:List F.Pp),i≤j∧v34=.int .i64 i∧Hid (pi=(a.take i).foldl (fun l u=>q1r l (u,v)) ps)∧Hid (wx.ownsRow N0 130 2 v5 pi.length (F.je pi))∧Hid (wx.ownsRow N0 3 1 (.slice a4 j c4) j (F.zy a))∧Hid (wx.heap[wx0]?=some (.cells (gq t) 36 (0,0)))∧Hid (Below N0 w1 wx)∧Hid (N0≤wx.heap.size)) (fun _ v34 _=>j - (intOf v34).toNat)
     case atStart=>exact⟨0,ps,Nat.zero_le _,rfl,rfl,Q4.out,O4.out,X4.out,B4.out,S4.out⟩
     case round =>
      clear Q4 O4 X4 B4 S4 HA4
      obtain⟨i,pi,hi,rfl,HPi,Q5,O5,X5,B5,S5⟩:=hrel
      by_cases hlt2:i < j
      ·have n2:(i:Int) < (j:Int):=by omega
       have nli:0≤(i:Int):=by omega
       obtain⟨u,hu⟩:∃u,a[i]?=some u:=⟨_,List.getElem?_eq_getElem (by rw[HA.out];exact hlt2)⟩
       obtain⟨a5,c5,e5,_,hA5⟩:=F.q3o O5.out
       cases e5
       obtain⟨gg,offf,rfl,q0⟩:=hA5 i u hu
       have hple:pi.length≤1048576:=by
        have h1:=qc8 v (a.take i) ps
        rw[←HPi.out] at h1
        have h2:=HPs.out
        have h3:(a.take i).length≤i:=by simp;omega
        omega
       have W:Hid (Calls Tryz.prog 164 #[u5,F.q2c (u,v)] wr fun e w'=>S.M.Ch (fun b=>u5.ownBlock=some b) wr w'∧∃v',e=.returned v'∧w'.ownsRow N0 130 2 v' (q1r pi (u,v)).length (F.je (q1r pi (u,v)))):=qnq wr N0 u5 pi (u,v) Q5.out S5.out hple
       have HP6:Hid (q1r pi (u,v)=(a.take (i + 1)).foldl (fun l u=>q1r l (u,v)) ps):=by
        show _=_
        rw[List.take_add_one,hu,Option.toList_some,List.foldl_append,←HPi.out]
        rfl
       unfold F.q2c at W
       clear hA5 hu hple HPi
       go_wp2_with fail
       refine Calls.mono W.out ?_
       rintro e w6 ⟨hc6,v',rfl,ho6⟩
       have Q6:Hid (w6.ownsRow N0 130 2 v' (q1r pi (u,v)).length (F.je (q1r pi (u,v)))):=ho6
       have O6:Hid (w6.ownsRow N0 3 1 (.slice (some ⟨gg,offf,none⟩) j c4) j (F.zy a)):=S.M.qh O5.out hc6 fun b eb hh=>F.uf O5.out Q5.out (by decide) b eb hh
       have X6:Hid (w6.heap[wx0]?=some (.cells (gq t) 36 (0,0))):=(hc6.block _ (Array.getElem?_eq_some_iff.1 X5.out).1 (F.own_ne Q5.out X5.out (by decide))).trans X5.out
       have B6:Hid (Below N0 w1 w6):=B5.out.trans (hc6.below S5.out fun b eb=>S.M.zf Q5.out b eb)
       have S6:Hid (N0≤w6.heap.size):=Nat.le_trans S5.out hc6.size
       clear hc6 ho6 W Q5 O5 X5 B5 S5
       go_wp2
       exact⟨⟨i + 1,q1r pi (u,v),by omega,by go_num,HP6.out,Q6.out,O6.out,X6.out,B6.out,S6.out⟩,by simp[intOf];omega⟩
      ·have n2:¬(i:Int) < (j:Int):=by omega
       have hie:i=j:=by omega
       have HPa:Hid (pi=a.foldl (fun l u=>q1r l (u,v)) ps):=by
        have h:=HPi.out
        rw[List.take_of_length_le (by rw[HA.out,hie];exact Nat.le_refl _)] at h
        exact h
       obtain⟨aq,cq,rfl,_⟩:=S.M.zx Q5.out
       obtain⟨np,hnp⟩:∃np,pi.length=np:=⟨_,rfl⟩
       have HNP:Hid (pi.length=np):=hnp
       have Q7:Hid (wr.ownsRow N0 130 2 (.slice aq np cq) np (F.je pi)):=by have h:=Q5.out;rw[hnp] at h;exact h
       rw[hnp]
       have t0:wr.cell? ⟨wx0,0,none⟩=some (.string t.text):=S.M.qc X5.out 0
       have t1:wr.cell? ⟨wx0,1,none⟩=some (.int .i64 t.off):=S.M.qc X5.out 1
       have t2:wr.cell? ⟨wx0,2,none⟩=some (.int .i64 t.line):=S.M.qc X5.out 2
       have t3:wr.cell? ⟨wx0,3,none⟩=some (.int .i64 t.col):=S.M.qc X5.out 3
       have HIE:Hid (i=j):=hie
       clear Q5 HPi hnp hie
       by_cases h6:256 < np
       ·have n3:(256:Int) < (np:Int):=by omega
        have R2:Hid (q0i L [] (uz (F.uo L.sc)) s.words=.error (t,22)):=HR4.out.trans (by rw[←HPa.out,HNP.out,if_pos h6])
        clear h6 HR4
        go_wp2_with fail
        refine Calls.mono (GU.out _ _) ?_
        rintro e w' ⟨hb,b,rfl,q2,q3⟩
        exact⟨rfl,QT.out (t,22) _ _ _ R2.out B5.out hb ⟨b,rfl,q2,q3⟩⟩
       ·have n3:¬(256:Int) < (np:Int):=by omega
        have h6':np≤256:=by omega
        have R2:Hid (q0i L [] (uz (F.uo L.sc)) s.words=q0i L (a++[v]) pi (s.words.drop (j + 1))):=HR4.out.trans (by rw[←HPa.out,HNP.out,if_neg h6])
        have A2:Hid ((a++[v]).length=j + 1):=by show _=_;rw[List.length_append,HA.out];rfl
        have HF:Hid (F.zy (a++[v])=F.zy a++[.int .i64 v]):=F.q2d a [v]
        have HNP2:Hid (pi.length≤256):=by have h1:=HNP.out;show _≤_;omega
        clear h6 HR4 HPa
        go_wp2_with (at_builtin;refine wpList_append_lies (w:=wr.alloc (.cells #[.int .i64 v] 3)) rfl _ _ 38 rfl N0 3 iN _ 1 8 Tryz.underlying38 hiN iNz iNs iNb rfl (by decide) _ j (F.zy a) (by rfl) (S.M.zk O5.out _) ⟨wr.heap.size,0,none⟩ 1 1 [.int .i64 v] (by rfl) (by rfl) (World.news_of_block (cs:=#[.int .i64 v]) (t:=3) (fr:=(0,0)) (World.alloc_heap_new wr _)) (by simp[Value.oneCell']) (by omega) (by unfold maxLen;omega) (by omega) (Nat.le_trans S5.out (S.qg wr _).size) _ rfl ?_;intro gg cap' w8 hown8 hgrow hat hlt8;have O8:Hid (w8.ownsRow N0 3 1 (.slice (some ⟨gg,0,none⟩) (j + 1) cap') (j + 1) (F.zy (a++[v]))):=(by show World.ownsRow _ _ _ _ _ _ _;rw[HF.out];exact hown8);have B8:Hid (Below N0 w1 w8):=B5.out.trans (((Below.refl _ wr).alloc S5.out _).trans ((Below.refl _ _).grown hgrow (Nat.le_trans S5.out (S.qg wr _).size) (S.M.zf O5.out)));have Q8:Hid (w8.ownsRow N0 130 2 (.slice aq pi.length cq) pi.length (F.je pi)):=(by show World.ownsRow _ _ _ _ _ _ _;rw[HNP.out];exact S.M.qh (S.M.zk Q7.out _) (S.M.Ch.jm hgrow) fun b eb hh=>F.uf Q7.out O5.out (by decide) b eb hh);clear hown8 hgrow hat hlt8)
        exact⟨⟨j + 1,a++[v],pi,by omega,by go_num,A2.out,HNP2.out,R2.out,O8.out,by have h:=Q8.out;rw[HNP.out] at h ⊢;exact h,B8.out⟩,by simp[intOf];omega⟩
  ·have n1:¬(j:Int) < (nw:Int):=by omega
   have hall:s.words.drop j=[]:=List.drop_eq_nil_of_le (by rw[HL.out];omega)
   have R1:q0i L [] (uz (F.uo L.sc)) s.words=.ok a:=hR.out.trans (by rw[hall];rfl)
   have HR:Hid (q2j L s=if q04 s.fin=true then jh s.fin (F.q1h (isV:=xk L.T) L.sc a) { L with sc:=F.q1i (isV:=xk L.T) L.sc a } else .ok L):=HFR.out _ R1
   have HE1:Hid ((∀x ∈ a,F.wfN x)∧a.length=nw):=HE.out a R1
   obtain⟨av,cv,rfl,hcv,hAv⟩:=F.q3o hO.out
   have hB2:Hid (Below w1.heap.size w1 wr):=by show Below _ _ _;rw[HN.out];exact HB.out
   have HV:Hid (F.q1a wr av a):=hAv
   have z:=C0.out wr hB2.out
   have z0:wr.cell? ⟨w.heap.size,0,none⟩=some (.int .i64 s.kind):=z 0
   have z1:wr.cell? ⟨w.heap.size,1,none⟩=some (.string s.label.text):=z 1
   have z2:wr.cell? ⟨w.heap.size,2,none⟩=some (.int .i64 s.label.off):=z 2
   have z3:wr.cell? ⟨w.heap.size,3,none⟩=some (.int .i64 s.label.line):=z 3
   have z4:wr.cell? ⟨w.heap.size,4,none⟩=some (.int .i64 s.label.col):=z 4
   have z5:wr.cell? ⟨w.heap.size,5,none⟩=some (.string s.key.text):=z 5
   have z6:wr.cell? ⟨w.heap.size,6,none⟩=some (.int .i64 s.key.off):=z 6
   have z7:wr.cell? ⟨w.heap.size,7,none⟩=some (.int .i64 s.key.line):=z 7
   have z8:wr.cell? ⟨w.heap.size,8,none⟩=some (.int .i64 s.key.col):=z 8
   have z9:wr.cell? ⟨w.heap.size,9,none⟩=some (.bool s.proving):=z 9
   have z10:wr.cell? ⟨w.heap.size,10,none⟩=some (.slice aw nw cw):=z 10
   have z11:wr.cell? ⟨w.heap.size,11,none⟩=some (.slice ap np cp):=z 11
   have z12:wr.cell? ⟨w.heap.size,12,none⟩=some (.string s.fin.text):=z 12
   have z13:wr.cell? ⟨w.heap.size,13,none⟩=some (.int .i64 s.fin.off):=z 13
   have z14:wr.cell? ⟨w.heap.size,14,none⟩=some (.int .i64 s.fin.line):=z 14
   have z15:wr.cell? ⟨w.heap.size,15,none⟩=some (.int .i64 s.fin.col):=z 15
   have EN2:Hid _:=EN.out wr
   unfold jw S.q4g at EN2
   clear z hO hQ HB hR hall R1 HE HFR VA EN HAt hAv
   go_wp2_with fail
   refine Calls.mono EN2.out ?_
   rintro ee w3 ⟨rfl,hb3⟩
   clear z0 z1 z2 z3 z4 z5 z6 z7 z8 z9 z10 z11 z12 z13 z14 z15 EN2
   have B3:Hid (Below w1.heap.size w1 w3):=hB2.out.trans (hb3.mono hB2.out.size)
   have HV3:Hid (F.q1a w3 av a):=HV.out.under hb3
   clear hb3 HV hB2
   cases he:q04 s.fin with
   | false =>
    have R2:Hid (q2j L s=.ok L):=HR.out.trans (by rw[he];rfl)
    go_wp2
    have B4:Below w.heap.size w w3:=B0.out.trans (B3.out.mono B0.out.size)
    exact bodyPost_end (results_none rfl _ _ _) rfl (wu R2.out rfl (Goes.same HI.out B4))
   | true =>
    have R2:Hid (q2j L s=jh s.fin (F.q1h (isV:=xk L.T) L.sc a) { L with sc:=F.q1i (isV:=xk L.T) L.sc a }):=HR.out.trans (by rw[he];rfl)
    clear HR he
    have BD:Hid (Below w.heap.size w w3.drew):=S.M.zi (B0.out.trans (B3.out.mono B0.out.size)) 1
    have BD1:Hid (Below w1.heap.size w1 w3.drew):=S.M.zi B3.out 1
    have ID:Hid (zq N w3.drew lb txt k L (Y.numOf L.T.syms) m):=HI.out.below BD.out
    have DI:Hid (Calls Tryz.prog 166 #[.pointer (some ⟨m.P,0,none⟩),.slice av j cv] w3.drew fun ee w'=>ee=.returned (.int .i64 (F.q1h (isV:=xk L.T) L.sc a))∧Goes N w3.drew lb txt m k { L with sc:=F.q1i (isV:=xk L.T) L.sc a } (Y.numOf L.T.syms) w'):=ID.out.distC HO.out av j cv a HA.out (by omega) (HV3.out.under (S.M.zi (Below.refl _ _) 1))
    have x2:w3.drew.cell? ⟨lb,2,none⟩=some (.pointer (some ⟨m.P,0,none⟩)):=ID.out.cells.2.2
    have z:=C0.out w3.drew BD1.out
    have z12:w3.drew.cell? ⟨w.heap.size,12,none⟩=some (.string s.fin.text):=z 12
    have z13:w3.drew.cell? ⟨w.heap.size,13,none⟩=some (.int .i64 s.fin.off):=z 13
    have z14:w3.drew.cell? ⟨w.heap.size,14,none⟩=some (.int .i64 s.fin.line):=z 14
    have z15:w3.drew.cell? ⟨w.heap.size,15,none⟩=some (.int .i64 s.fin.col):=z 15
    have ZB:Hid (w3.drew.heap[w.heap.size]?=some (.cells (jw s (.slice aw nw cw) (.slice ap np cp)) 95 (0,0))∧¬m.hot w.heap.size):=⟨(BD1.out.block _ HS1.out).trans HX1.out,fun hh=>by have:=HI.out.lt _ hh;omega⟩
    clear z
    have CK:Hid (∀wx,Calls Tryz.prog 102 #[S.zn s.fin,.int .i64 (F.q1h (isV:=xk L.T) L.sc a)] wx (Chk s.fin (F.q1h (isV:=xk L.T) L.sc a) wx)):=fun wx=>check_any wx s.fin _
    have ST:Hid (∀w4,Goes N w3.drew lb txt m k { L with sc:=F.q1i (isV:=xk L.T) L.sc a } (Y.numOf L.T.syms) w4→w4.heap[w.heap.size]?=some (.cells (jw s (.slice aw nw cw) (.slice ap np cp)) 95 (0,0))):=fun w4 hg=>(hg.1.block _ (Array.getElem?_eq_some_iff.1 ZB.out.1).1 ZB.out.2).trans ZB.out.1
    have DN:Hid (∀w4 w5,Goes N w3.drew lb txt m k { L with sc:=F.q1i (isV:=xk L.T) L.sc a } (Y.numOf L.T.syms) w4→Below w4.heap.size w4 w5→S.M.Ch m.hot w w5∧w.heap.size≤w4.heap.size):=fun w4 w5 hg hb=>⟨(S.M.Ch.of_below BD.out).trans (hg.1.trans (S.M.Ch.of_below hb)),Nat.le_trans BD.out.size hg.1.size⟩
    unfold S.zn at CK
    generalize (F.q1h (isV:=xk L.T) L.sc a)=J at *
    clear ID HV3 B3 hcv HA HPs HE1
    by_cases hJ:J=0
    ·have HJ:Hid (J=0):=hJ
     have R3:Hid (q2j L s=.ok { L with sc:=F.q1i (isV:=xk L.T) L.sc a }):=R2.out.trans (if_pos hJ)
     clear hJ R2
     go_upto_region 19 with fail
     go_region_law (first
      | (go_simp;go_at_call 166;refine Calls.mono DI.out ?_;rintro ee w4 ⟨rfl,hg⟩;have GG:Hid (Goes N w3.drew lb txt m k { L with sc:=F.q1i (isV:=xk L.T) L.sc a } (Y.numOf L.T.syms) w4):=hg;have hbx:=ST.out w4 hg;have u12:w4.cell? ⟨w.heap.size,12,none⟩=some (.string s.fin.text):=S.M.qc hbx 12;have u13:w4.cell? ⟨w.heap.size,13,none⟩=some (.int .i64 s.fin.off):=S.M.qc hbx 13;have u14:w4.cell? ⟨w.heap.size,14,none⟩=some (.int .i64 s.fin.line):=S.M.qc hbx 14;have u15:w4.cell? ⟨w.heap.size,15,none⟩=some (.int .i64 s.fin.col):=S.M.qc hbx 15;clear hg hbx)
      | (go_simp;go_at_call 102;refine Calls.mono (CK.out _) ?_;rintro ee w5 ⟨hb5,he5⟩;rw[if_pos HJ.out] at he5;subst he5;have G5:Hid (Goes N w3.drew lb txt m k { L with sc:=F.q1i (isV:=xk L.T) L.sc a } (Y.numOf L.T.syms) w5):=GG.out.jc hb5;clear hb5))
     all_goals go_wp2
     all_goals exact bodyPost_end (results_none rfl _ _ _) rfl (wu R3.out rfl (G5.out.q0q BD.out))
    ·have HJ:Hid (¬J=0):=hJ
     have R3:Hid (q2j L s=.error (s.fin,J)):=R2.out.trans (if_neg hJ)
     clear hJ R2
     go_upto_region 19 with fail
     go_region_law (first
      | (go_simp;go_at_call 166;refine Calls.mono DI.out ?_;rintro ee w4 ⟨rfl,hg⟩;have GG:Hid (Goes N w3.drew lb txt m k { L with sc:=F.q1i (isV:=xk L.T) L.sc a } (Y.numOf L.T.syms) w4):=hg;have hbx:=ST.out w4 hg;have u12:w4.cell? ⟨w.heap.size,12,none⟩=some (.string s.fin.text):=S.M.qc hbx 12;have u13:w4.cell? ⟨w.heap.size,13,none⟩=some (.int .i64 s.fin.off):=S.M.qc hbx 13;have u14:w4.cell? ⟨w.heap.size,14,none⟩=some (.int .i64 s.fin.line):=S.M.qc hbx 14;have u15:w4.cell? ⟨w.heap.size,15,none⟩=some (.int .i64 s.fin.col):=S.M.qc hbx 15;clear hg hbx)
      | (go_simp;go_at_call 102;refine Calls.mono (CK.out _) ?_;rintro ee w5 ⟨hb5,he5⟩;rw[if_neg HJ.out] at he5;obtain⟨b,rfl,q2,q3⟩:=he5;obtain⟨d1,d2⟩:=DN.out _ _ GG.out hb5;refine q0m (h:=⟨rfl,q0l R3.out d1 ⟨b,rfl,q2,Nat.le_trans d2 q3⟩⟩) ?_))
     all_goals trivial
end
end B
namespace B
open Go.RowKit
open S (Tok Stm)
structure q0y (s:Stm):Prop where
 lab:s.kind=3∨s.kind=4∨s.kind=6∨s.kind=7→q04 s.label=true
 two:s.kind=3→q04 s.fin=true→s.words.length=2
theorem q8q {T:Y.Tab}{s:ByteArray}(h:(Y.zh T s).1=0):Y.q2a T.labels s=none∧(Y.zh T s).2=Y.labT T s:=by
 unfold Y.zh at h ⊢
 split
 ·rename_i h1;rw[if_pos h1] at h;cases h
 ·rename_i h1
  rw[if_neg h1] at h
  split
  ·rename_i h2;rw[if_pos h2] at h;cases h
  ·rename_i h2
   rw[if_neg h2] at h
   split
   ·rename_i h3;rw[if_pos h3] at h;cases h
   ·exact⟨by simpa using h2,rfl⟩
theorem qf8 (T:Y.Tab)(s:ByteArray):(Y.zh T s).2.syms=T.syms:=by
 unfold Y.zh
 split
 ·rfl
 ·split
  ·rfl
  ·split <;> rfl
theorem qhf (T:Y.Tab):(Y.ji T).2.syms=T.syms:=by unfold Y.ji;split <;> rfl
theorem qf9 (T:Y.Tab):(Y.xg T).2.syms=T.syms:=by unfold Y.xg;split <;> rfl
theorem ql3 {L:Ld}{k:Nat}{s:ByteArray}(hO:L.Ok k)(h:(Y.zh L.T s).1=0):q25 L.hy s=none∧q33 L.al s=none:=by
 obtain⟨h1,_⟩:=q8q h
 have h2:s ∉ L.T.labels:=fun hm=>by
  unfold Y.q2a at h1
  rw[List.findIdx?_eq_none_iff] at h1
  have:=h1 s hm
  simp at this
 constructor
 ·unfold q25
  rw[List.findIdx?_eq_none_iff]
  intro x hx
  have:x.lab≠s:=fun e=>h2 (hO.labs s (.inl (List.mem_map.2 ⟨x,hx,e⟩)))
  simpa using this
 ·unfold q33
  rw[List.findIdx?_eq_none_iff]
  intro x hx
  have:x.label.text≠s:=fun e=>h2 (hO.labs s (.inr (List.mem_map.2 ⟨x,hx,e⟩)))
  simpa using this
theorem qnr {L:Ld}{k:Nat}(s:ByteArray)(hO:L.Ok k):Ld.Ok { L with T:=(Y.zh L.T s).2 } k:=by
 refine⟨Y.qnk s hO.tab,hO.sc1,hO.sc2,?_,hO.sub,hO.ex,hO.ps,hO.pw,?_⟩
 ·have h:=hO.hyl
  show _≤(Y.zh L.T s).2.labels.length
  unfold Y.zh
  split
  ·exact h
  ·split
   ·exact h
   ·split
    ·exact h
    ·show _≤(L.T.labels++[s]).length
     simp
     omega
 ·intro x hx
  have h:=hO.labs x hx
  show x ∈ (Y.zh L.T s).2.labels
  unfold Y.zh
  split
  ·exact h
  ·split
   ·exact h
   ·split
    ·exact h
    ·exact List.mem_append_left _ h
section
variable {N:Nat} {w W':World} {lb:Nat} {txt:ByteArray} {k k':Nat} {L L':Ld} {nf nf':ByteArray→Option Nat} {m m':LdM} {s:Stm} {vw vp:Value}
theorem Does.via {r:Res Ld}{e:Ending}{u W2:World}(h:S.M.Ch m.hot w u)(g:∀b,m'.hot b→m.hot b∨w.heap.size≤b)(d:Does N u lb txt m' k r e W2):Does N w lb txt m k r e W2:=by
 cases r with
 | ok L'=>exact⟨d.1,q2k h g d.2⟩
 | error f=>exact⟨qae h g d.1,d.2.le h.size⟩
theorem zq.labelC (h:zq N w lb txt k L (Y.numOf L.T.syms) m)(_:L.Ok k)(hk:k < 17592186044414)(hKB:Y.KB w)(t:ByteArray)(hs:t.size≤maxLen):Calls Tryz.prog 103 #[.pointer (some ⟨m.tq,0,none⟩),.string t] w fun e w'=>e=.returned (.int .i64 ((Y.zh L.T t).1:Nat))∧Goes N w lb txt m (k + 2) { L with T:=(Y.zh L.T t).2 } (Y.numOf L.T.syms) w':=by
 refine (Y.qka w m.bs m.tq k L.T t hk hs hKB h.tab).mono ?_
 rintro e w' ⟨rfl,bs',h1,h2⟩
 exact⟨rfl,h.qac (by omega) h1 h2⟩
theorem zq.openC (h:zq N w lb txt k L (Y.numOf L.T.syms) m):Calls Tryz.prog 104 #[.pointer (some ⟨m.tq,0,none⟩)] w fun e w'=>e=.returned (.int .i64 ((Y.ji L.T).1:Nat))∧Goes N w lb txt m (k + 2) { L with T:=(Y.ji L.T).2 } (Y.numOf L.T.syms) w':=by
 refine (Y.open_any w m.bs m.tq k L.T h.tab).mono ?_
 rintro e w' ⟨rfl,bs',h1,h2⟩
 exact⟨rfl,h.qac (by omega) h1 h2⟩
theorem zq.closeC (h:zq N w lb txt k L (Y.numOf L.T.syms) m)(hO:L.Ok k)(hk:k < 17592186044414):Calls Tryz.prog 106 #[.pointer (some ⟨m.tq,0,none⟩)] w fun e w'=>e=.returned (.int .i64 ((Y.xg L.T).1:Nat))∧Goes N w lb txt m (k + 2) { L with T:=(Y.xg L.T).2 } (Y.numOf L.T.syms) w':=by
 refine (Y.close_any w m.bs m.tq k L.T hO.tab hk h.tab).mono ?_
 rintro e w' ⟨rfl,bs',h1,h2⟩
 exact⟨rfl,h.qac (by omega) h1 h2⟩
theorem zq.sopenC (h:zq N w lb txt k L nf m)(hS:L.sc.length≤1048576):Calls Tryz.prog 105 #[.pointer (some ⟨m.P,0,none⟩)] w fun e w'=>e=.returned (.int .i64 (F.q1q L.sc))∧Goes N w lb txt m k { L with sc:=F.q1b L.sc } nf w':=by
 have h1:=F.qkf w m.O m.P m.vS m.sx h.stk (by rw[h.q3r];exact hS)
 rw[h.sca] at h1
 exact h1.mono fun ee w' hd=>h.decl hd
theorem zq.scloseC (h:zq N w lb txt k L nf m)(hS:L.sc.length≤1048576)(h0:1≤L.sc.length):Calls Tryz.prog 107 #[.pointer (some ⟨m.P,0,none⟩)] w fun e w'=>e=.returned (.int .i64 (F.q0p L.sc))∧Goes N w lb txt m k { L with sc:=F.q08 L.sc } nf w':=by
 have h1:=F.qha w m.O m.P m.vS m.sx h.stk (by rw[h.q3r];omega) (by rw[h.q3r];exact hS)
 rw[h.sca] at h1
 exact h1.mono fun ee w' hd=>h.decl hd
end
end B
namespace B
open Go.RowKit
open S (Tok Stm)
structure Past (N:Nat)(w:World)(lb:Nat)(txt:ByteArray)(k:Nat)(m:LdM)(L1:Ld)(m1:LdM)(s:Stm)(vw vp:Value)(u:World):Prop where
 i:zq N u lb txt (k + 2) L1 (Y.numOf L1.T.syms) m1
 o:L1.Ok (k + 2)
 c:S.M.Ch m.hot w u
 g:∀b,m1.hot b→m.hot b∨w.heap.size≤b
 st:q0w N m1 u s vw vp
 kb:Y.KB u
 bx:u.heap[w.heap.size]?=some (.cells (jw s vw vp) 95 (0,0))
 nb:¬m1.hot w.heap.size
section
variable {N:Nat} {w u:World} {lb:Nat} {txt:ByteArray} {k:Nat} {L L1:Ld} {m m1:LdM} {s:Stm} {vw vp:Value}
theorem Past.below {W':World}(h:Past N w lb txt k m L1 m1 s vw vp u)(hb:Below u.heap.size u W'):Past N w lb txt k m L1 m1 s vw vp W' :=
 ⟨h.i.below hb,h.o,h.c.trans (S.M.Ch.of_below hb),h.g,h.st.below hb,h.kb.kept (hb.block 1 h.kb.pos),(hb.block _ (Array.getElem?_eq_some_iff.1 h.bx).1).trans h.bx,h.nb⟩
theorem Past.held {W':World}(h:Past N w lb txt k m L1 m1 s vw vp u)(hc:S.M.Ch m1.hot u W'):W'.heap[w.heap.size]?=some (.cells (jw s vw vp) 95 (0,0))∧W'.cell? ⟨lb,1,none⟩=some (.pointer (some ⟨m1.tq,0,none⟩))∧W'.cell? ⟨lb,2,none⟩=some (.pointer (some ⟨m1.P,0,none⟩)):=by
 have hl:=(hc.block lb (Array.getElem?_eq_some_iff.1 h.i.cold.lbox).1 h.i.cold.lh).trans h.i.cold.lbox
 exact⟨(hc.block _ (Array.getElem?_eq_some_iff.1 h.bx).1 h.nb).trans h.bx,S.M.qc hl 1,S.M.qc hl 2⟩
theorem Past.does {k':Nat}{r:Res Ld}{e:Ending}{W2:World}(h:Past N w lb txt k m L1 m1 s vw vp u)(hk:k'≤k + 60000)(d:Does N u lb txt m1 k' r e W2):Does N w lb txt m (k + 60000) r e W2:=(Does.via h.c h.g d).up hk
theorem Past.k1 (h:Past N w lb txt k m L1 m1 s vw vp u)(hk:k < 1000000000)(hN:1 < N):Calls Tryz.prog 108 #[.pointer (some ⟨lb,0,none⟩),q09 s vw vp] u (Does N w lb txt m (k + 60000) (q2y L1 s)) :=
 (qba h.i h.o (by omega) h.kb hN h.st).mono fun _ _ d=>h.does (by omega) d
theorem Past.k5 (h:Past N w lb txt k m L1 m1 s vw vp u):Calls Tryz.prog 111 #[.pointer (some ⟨lb,0,none⟩),q09 s vw vp] u (Does N w lb txt m (k + 60000) (q2j L1 s)) :=
 (qa9 h.i h.o h.st).mono fun _ _ d=>h.does (by omega) d
theorem Past.k3 (h:Past N w lb txt k m L1 m1 s vw vp u)(hk:k < 1000000000)(hn:q25 L1.hy s.label.text=none)(h2:q04 s.fin=true→s.words.length=2):Calls Tryz.prog 112 #[.pointer (some ⟨lb,0,none⟩),q09 s vw vp] u (Does N w lb txt m (k + 60000) (q1o L1 s)) :=
 (q84 h.i h.o (by omega) h.st hn h2).mono fun _ _ d=>h.does (by omega) d
theorem Past.k4 (h:Past N w lb txt k m L1 m1 s vw vp u)(hk:k < 1000000000)(hn:q25 L1.hy s.label.text=none):Calls Tryz.prog 113 #[.pointer (some ⟨lb,0,none⟩),q09 s vw vp] u (Does N w lb txt m (k + 60000) (q6p L1 s)) :=
 (qcx h.i h.o (by omega) h.st hn).mono fun _ _ d=>h.does (by omega) d
theorem Past.k6 (h:Past N w lb txt k m L1 m1 s vw vp u)(hk:k < 1000000000)(hn:q33 L1.al s.label.text=none):Calls Tryz.prog 114 #[.pointer (some ⟨lb,0,none⟩),q09 s vw vp] u (Does N w lb txt m (k + 60000) (q1g L1 s)) :=
 (qhe h.i h.o (by omega) h.st hn).mono fun _ _ d=>h.does (by omega) d
theorem Past.k2 {aw:Option Addr}{nw cw:Nat}(h:Past N w lb txt k m L1 m1 s (.slice aw nw cw) vp u)(hk:k < 1000000000)(hN:1 < N):Calls Tryz.prog 109 #[.pointer (some ⟨lb,0,none⟩),.slice aw nw cw,.func (.func 110) #[.pointer (some ⟨m1.tq,0,none⟩)] #[]] u (Does N w lb txt m (k + 60000) (uy Y.q2v L1 s.words)):=by
 obtain⟨a,c,e,hW⟩:=h.st.words
 cases e
 have hl:=h.st.lw
 exact (qd7 h.i h.o.tab (by omega) h.kb hN aw _ cw s.words rfl (by omega) hW fun t ht=>by have:=h.st.zw t ht;omega).mono fun _ _ d=>h.does (by omega) d
theorem Past.k8a (h:Past N w lb txt k m L1 m1 s vw vp u)(_:k < 1000000000):Calls Tryz.prog 104 #[.pointer (some ⟨m1.tq,0,none⟩)] u fun e w'=>e=.returned (.int .i64 ((Y.ji L1.T).1:Nat))∧Goes N u lb txt m1 (k + 4) { L1 with T:=(Y.ji L1.T).2 } (Y.numOf L1.T.syms) w':=(h.i.openC).mono fun _ _ d=>⟨d.1,d.2.up (by omega)⟩
theorem Past.k8b {W' W2:World}(h:Past N w lb txt k m L1 m1 s vw vp u)(hg:Goes N u lb txt m1 (k + 4) { L1 with T:=(Y.ji L1.T).2 } (Y.numOf L1.T.syms) W')(hb:Below W'.heap.size W' W2):Calls Tryz.prog 105 #[.pointer (some ⟨m1.P,0,none⟩)] W2 fun e w'=>e=.returned (.int .i64 (F.q1q L1.sc))∧Goes N u lb txt m1 (k + 4) { L1 with T:=(Y.ji L1.T).2,sc:=F.q1b L1.sc } (Y.numOf (Y.ji L1.T).2.syms) w':=by
 obtain⟨c1,m2,i2,g2⟩:=hg.jc hb
 have e1:=(h.i.ptrs c1 i2).2.2
 have e2:(Y.ji L1.T).2.syms=L1.T.syms:=qhf _
 rw[←e1,e2]
 have h1:=h.o.sc1
 have h2:=h.o.sc2
 exact (i2.sopenC (by show L1.sc.length≤_;omega)).mono fun e w' hd=>⟨hd.1,q2k c1 g2 hd.2⟩
theorem Past.k9a (h:Past N w lb txt k m L1 m1 s vw vp u)(hk:k < 1000000000):Calls Tryz.prog 106 #[.pointer (some ⟨m1.tq,0,none⟩)] u fun e w'=>e=.returned (.int .i64 ((Y.xg L1.T).1:Nat))∧Goes N u lb txt m1 (k + 4) { L1 with T:=(Y.xg L1.T).2 } (Y.numOf L1.T.syms) w':=(h.i.closeC h.o (by omega)).mono fun _ _ d=>⟨d.1,d.2.up (by omega)⟩
theorem Past.k9b {W' W2:World}(h:Past N w lb txt k m L1 m1 s vw vp u)(hg:Goes N u lb txt m1 (k + 4) { L1 with T:=(Y.xg L1.T).2 } (Y.numOf L1.T.syms) W')(hb:Below W'.heap.size W' W2):Calls Tryz.prog 107 #[.pointer (some ⟨m1.P,0,none⟩)] W2 fun e w'=>e=.returned (.int .i64 (F.q0p L1.sc))∧Goes N u lb txt m1 (k + 4) { L1 with T:=(Y.xg L1.T).2,sc:=F.q08 L1.sc } (Y.numOf (Y.xg L1.T).2.syms) w':=by
 obtain⟨c1,m2,i2,g2⟩:=hg.jc hb
 have e1:=(h.i.ptrs c1 i2).2.2
 have e2:(Y.xg L1.T).2.syms=L1.T.syms:=qf9 _
 rw[←e1,e2]
 have h1:=h.o.sc1
 have h2:=h.o.sc2
 exact (i2.scloseC (by show L1.sc.length≤_;omega) h1).mono fun e w' hd=>⟨hd.1,q2k c1 g2 hd.2⟩
theorem q1d {aw ap:Option Addr}{nw cw np cp:Nat}(h:zq N w lb txt k L (Y.numOf L.T.syms) m)(hO:L.Ok k)(hk:k < 1000000000)(hKB:Y.KB w)(hN:1 < N)(hs:q0w N m w s (.slice aw nw cw) (.slice ap np cp)) :
  ∃w1,w1=w.alloc (.cells (jw s (.slice aw nw cw) (.slice ap np cp)) 95)∧Below w.heap.size w w1∧w1.heap[w.heap.size]?=some (.cells (jw s (.slice aw nw cw) (.slice ap np cp)) 95 (0,0))∧w1.heap.size=w.heap.size + 1∧Hid (Past N w lb txt k m L m s (.slice aw nw cw) (.slice ap np cp) w1)∧Hid (Calls Tryz.prog 103 #[.pointer (some ⟨m.tq,0,none⟩),.string s.label.text] w1.drew fun e w'=>e=.returned (.int .i64 ((Y.zh L.T s.label.text).1:Nat))∧Goes N w1.drew lb txt m (k + 2) { L with T:=(Y.zh L.T s.label.text).2 } (Y.numOf L.T.syms) w')∧Hid (∀wx,Calls Tryz.prog 102 #[S.zn s.label,.int .i64 ((Y.zh L.T s.label.text).1:Nat)] wx (Chk s.label ((Y.zh L.T s.label.text).1:Nat) wx))∧Hid ((Y.zh L.T s.label.text).1=0→q25 L.hy s.label.text=none∧q33 L.al s.label.text=none)∧Hid (∀w5,Goes N w1.drew lb txt m (k + 2) { L with T:=(Y.zh L.T s.label.text).2 } (Y.numOf L.T.syms) w5→∃m1,Past N w lb txt k m { L with T:=(Y.zh L.T s.label.text).2 } m1 s (.slice aw nw cw) (.slice ap np cp) w5):=by
 have b0:Below w.heap.size w (w.alloc (.cells (jw s (.slice aw nw cw) (.slice ap np cp)) 95)):=S.qg _ _
 have bn:(w.alloc (.cells (jw s (.slice aw nw cw) (.slice ap np cp)) 95)).heap[w.heap.size]?=some (.cells (jw s (.slice aw nw cw) (.slice ap np cp)) 95 (0,0)):=World.alloc_heap_new w _
 obtain⟨w1,hw1⟩:∃w1,w1=w.alloc (.cells (jw s (.slice aw nw cw) (.slice ap np cp)) 95):=⟨_,rfl⟩
 rw[←hw1] at b0 bn
 have hsz:w1.heap.size=w.heap.size + 1:=by rw[hw1];show (w.heap.push _).size=_;simp
 have PW:Hid (Past N w lb txt k m L m s (.slice aw nw cw) (.slice ap np cp) w1):=⟨(h.below b0).up (by omega),hO.up (by omega),S.M.Ch.of_below b0,fun _=>.inl,hs.below b0,hKB.kept (b0.block 1 hKB.pos),bn,fun hh=>by have:=h.lt _ hh;omega⟩
 have LC:Hid (Calls Tryz.prog 103 #[.pointer (some ⟨m.tq,0,none⟩),.string s.label.text] w1.drew fun e w'=>e=.returned (.int .i64 ((Y.zh L.T s.label.text).1:Nat))∧Goes N w1.drew lb txt m (k + 2) { L with T:=(Y.zh L.T s.label.text).2 } (Y.numOf L.T.syms) w'):=(((h.below b0).below (S.M.zi (Below.refl _ _) 1)).labelC hO (by omega) (hKB.kept ((b0.trans (S.M.zi (Below.refl _ _) 1)).block 1 hKB.pos)) s.label.text (by have:=hs.zl;unfold maxLen;omega))
 have CK:Hid (∀wx,Calls Tryz.prog 102 #[S.zn s.label,.int .i64 ((Y.zh L.T s.label.text).1:Nat)] wx (Chk s.label ((Y.zh L.T s.label.text).1:Nat) wx)):=fun wx=>check_any wx s.label _
 have FS:Hid ((Y.zh L.T s.label.text).1=0→q25 L.hy s.label.text=none∧q33 L.al s.label.text=none):=ql3 hO
 have PT:Hid (∀w5,Goes N w1.drew lb txt m (k + 2) { L with T:=(Y.zh L.T s.label.text).2 } (Y.numOf L.T.syms) w5→∃m1,Past N w lb txt k m { L with T:=(Y.zh L.T s.label.text).2 } m1 s (.slice aw nw cw) (.slice ap np cp) w5):=fun w5 hg=>by
  obtain⟨c5,m5,i5,g5⟩:=hg
  have bd:Below w1.heap.size w1 w1.drew:=S.M.zi (Below.refl _ _) 1
  have g6:∀b,m5.hot b→m.hot b∨w1.heap.size≤b:=g5
  have hnb:¬m.hot w.heap.size:=PW.out.nb
  have hc:S.M.Ch m.hot w w5:=(S.M.Ch.of_below (b0.trans (S.M.zi (Below.refl _ _) 1))).trans c5
  have hkb:Y.KB w1.drew:=hKB.kept ((b0.trans (S.M.zi (Below.refl _ _) 1)).block 1 hKB.pos)
  refine⟨m5,?_,qnr s.label.text (hO.up (by omega)),hc,fun b hb=>(g6 b hb).imp id fun e=>by omega,(PW.out.st.below bd).ch c5 (fun _=>id) g5,q99 hkb hN ((h.below b0).below bd) c5,(c5.block _ (by show _ < w1.heap.size;omega) hnb).trans bn,fun hh=>(g6 _ hh).elim hnb fun e=>by omega⟩
  have e2:(Y.zh L.T s.label.text).2.syms=L.T.syms:=qf8 _ _
  rw[←e2] at i5
  exact i5
 exact⟨w1,hw1,b0,bn,hsz,PW,LC,CK,FS,PT⟩
end
end B
namespace B
open Go.RowKit
open S (Tok Stm)
section
variable {N:Nat} {w u:World} {lb:Nat} {txt:ByteArray} {k:Nat} {L L1:Ld} {m m1:LdM} {s:Stm} {vw vp:Value}
theorem qhg (h:zq N w lb txt k L (Y.numOf L.T.syms) m)(hO:L.Ok k)(hk:k < 1000000000)(hKB:Y.KB w)(hN:1 < N)(hs:q0w N m w s vw vp)(hok:q0y s)(he:q04 s.label=false)(hkd:s.kind=8):Calls Tryz.prog 56 #[.pointer (some ⟨lb,0,none⟩),q09 s vw vp] w (Does N w lb txt m (k + 60000) (ql L s)):=by
 obtain⟨aw,cw,rfl,hW⟩:=hs.words
 obtain⟨ap,cp,rfl,_⟩:=S.gu hs.op
 generalize hnw:s.words.length=nw at *
 generalize hnp:s.proof.length=np at *
 obtain⟨w1,hw1,b0,bn,hsz,PW,LC,CK,FS,PT⟩:=q1d h hO hk hKB hN hs
 have HOK:Hid (q0y s):=hok
 have HN1:Hid (1 < N):=hN
 clear hs hW hO hKB b0 bn hok hN hsz h hnw hnp
 have HE:Hid (q04 s.label=false):=he
 have hl:(!s.label.text.toList.isEmpty)=false:=by rw[ByteArray.toList_eq];exact he
 have R1:Hid (ql L s=xq L s):=by unfold ql q4c;show _=_;rw[he];rfl
 clear LC CK FS PT he
 have z1:w1.cell? ⟨w.heap.size,1,none⟩=some (.string s.label.text):=S.M.qc PW.out.bx 1
 unfold q09
 go_enter Tryz.func56,Tryz.ntmps56
 go_upto_region 1 with fail
 rw[←hw1]
 clear hw1
 go_upto_region 3 with fail
 clear hl z1
 have FR:Hid True:=trivial
 have PA:Hid (Past N w lb txt k m L m s (.slice aw nw cw) (.slice ap np cp) w1):=PW
 clear PW
 obtain⟨u,hu⟩:∃u,w1=u:=⟨_,rfl⟩
 rw[hu] at PA ⊢
 clear hu
 obtain⟨m1,hm1⟩:∃m1,m1=m:=⟨_,rfl⟩
 obtain⟨L1,hL1⟩:∃L1,L1=L:=⟨_,rfl⟩
 have PA2:Hid (Past N w lb txt k m L1 m1 s (.slice aw nw cw) (.slice ap np cp) u):=by rw[hm1,hL1];exact PA
 replace R1:Hid (ql L s=xq L1 s):=by rw[hL1];exact R1
 clear PA
 have PA:=PA2
 clear PA2 hm1 hL1
 have z:∀i,u.cell? ⟨w.heap.size,i,none⟩=(jw s (.slice aw nw cw) (.slice ap np cp))[i]?:=S.M.qc PA.out.bx
 clear FR
 have z0:u.cell? ⟨w.heap.size,0,none⟩=some (.int .i64 8):=(z 0).trans (by show some (Value.int .i64 s.kind)=_;rw[hkd])
 clear z
 have R2:Hid (ql L s=qc0 L1 s.key):=R1.out.trans (by unfold xq;rw[hkd];rfl)
 have P0:Hid (Past N w lb txt k m L1 m1 s (.slice aw nw cw) (.slice ap np cp) u.drew):=PA.out.below (S.M.zi (Below.refl _ _) 1)
 have SA:Hid (∀w',S.M.Ch m1.hot u.drew w'→w'.cell? ⟨lb,1,none⟩=some (.pointer (some ⟨m1.tq,0,none⟩))∧w'.cell? ⟨lb,2,none⟩=some (.pointer (some ⟨m1.P,0,none⟩))∧w'.cell? ⟨w.heap.size,5,none⟩=some (.string s.key.text)∧w'.cell? ⟨w.heap.size,6,none⟩=some (.int .i64 s.key.off)∧w'.cell? ⟨w.heap.size,7,none⟩=some (.int .i64 s.key.line)∧w'.cell? ⟨w.heap.size,8,none⟩=some (.int .i64 s.key.col)):=fun w' hc=>by obtain⟨h1,h2,h3⟩:=P0.out.held hc;exact⟨h2,h3,S.M.qc h1 5,S.M.qc h1 6,S.M.qc h1 7,S.M.qc h1 8⟩
 have TA:Hid _:=P0.out.k8a hk
 have TB:Hid (∀w5,Goes N u.drew lb txt m1 (k + 4) { L1 with T:=(Y.ji L1.T).2 } (Y.numOf L1.T.syms) w5→Calls Tryz.prog 105 #[.pointer (some ⟨m1.P,0,none⟩)] w5.drew fun e w'=>e=.returned (.int .i64 (F.q1q L1.sc))∧Goes N u.drew lb txt m1 (k + 4) { L1 with T:=(Y.ji L1.T).2,sc:=F.q1b L1.sc } (Y.numOf (Y.ji L1.T).2.syms) w'):=fun w5 hg=>P0.out.k8b hg (S.M.zi (Below.refl _ _) 1)
 have CKa:Hid (∀wx,Calls Tryz.prog 102 #[S.zn s.key,.int .i64 ((Y.ji L1.T).1:Nat)] wx (Chk s.key ((Y.ji L1.T).1:Nat) wx)):=fun wx=>check_any wx s.key _
 have CKb:Hid (∀wx,Calls Tryz.prog 102 #[S.zn s.key,.int .i64 (F.q1q L1.sc)] wx (Chk s.key (F.q1q L1.sc) wx)):=fun wx=>check_any wx s.key _
 have DN:Hid (∀(w':World) (c:Int) (e:Ending) (w4:World),S.M.Ch m1.hot u.drew w4→Below w4.heap.size w4 w'→ql L s=.error (s.key,c)→Quits s.key c w4.heap.size e w'→Does N w lb txt m (k + 60000) (ql L s) e w'):=fun w' c e w4 hc hb hr hq=>PA.out.does (Nat.le_refl _) (q0l hr (((S.M.Ch.of_below (S.M.zi (Below.refl _ _) 1)).trans hc).trans (S.M.Ch.of_below hb)) (hq.le hc.size))
 have CD:Hid (S.M.Ch m1.hot u.drew u.drew):=S.M.Ch.of_below (Below.refl _ _)
 unfold S.zn at CKa CKb
 by_cases hA:(Y.ji L1.T).1=0
 ·have HA:Hid (((Y.ji L1.T).1:Int)=0):=by show _=_;rw[hA];rfl
  have R3:Hid (ql L s=jh s.key (F.q1q L1.sc) { L1 with T:=(Y.ji L1.T).2,sc:=F.q1b L1.sc }):=R2.out.trans (if_pos hA)
  clear hA R2 hkd
  go_upto_region 5 with fail
  go_region_held3 (fun w'=>w'.cell? ⟨lb,1,none⟩=some (.pointer (some ⟨m1.tq,0,none⟩))∧w'.cell? ⟨lb,2,none⟩=some (.pointer (some ⟨m1.P,0,none⟩))∧w'.cell? ⟨w.heap.size,5,none⟩=some (.string s.key.text)∧w'.cell? ⟨w.heap.size,6,none⟩=some (.int .i64 s.key.off)∧w'.cell? ⟨w.heap.size,7,none⟩=some (.int .i64 s.key.line)∧w'.cell? ⟨w.heap.size,8,none⟩=some (.int .i64 s.key.col)) (refine⟨?_,?_,?_,?_,?_,?_⟩ <;> first | assumption | exact (SA.out _ (by assumption)).1 | exact (SA.out _ (by assumption)).2.1 | exact (SA.out _ (by assumption)).2.2.1 | exact (SA.out _ (by assumption)).2.2.2.1 | exact (SA.out _ (by assumption)).2.2.2.2.1 | exact (SA.out _ (by assumption)).2.2.2.2.2)
   (first
   | (go_simp;go_at_call 104;refine Calls.mono TA.out ?_;rintro ee w4 ⟨rfl,hg⟩;have GG:Hid (Goes N u.drew lb txt m1 (k + 4) { L1 with T:=(Y.ji L1.T).2 } (Y.numOf L1.T.syms) w4):=hg;have CC:Hid (S.M.Ch m1.hot u.drew w4):=hg.1;clear hg)
   | (go_simp;go_at_call 102;refine Calls.mono (CKa.out _) ?_;rintro ee w5 ⟨hb5,he5⟩;rw[if_pos HA.out] at he5;subst he5;have G5:Hid (Goes N u.drew lb txt m1 (k + 4) { L1 with T:=(Y.ji L1.T).2 } (Y.numOf L1.T.syms) w5):=GG.out.jc hb5;have CC2:Hid (S.M.Ch m1.hot u.drew w5.drew):=G5.out.1.trans (S.M.Ch.of_below (S.M.zi (Below.refl _ _) 1));have CC3:Hid (S.M.Ch m1.hot u.drew w5):=G5.out.1;clear hb5))
  have TB1:Hid _:=TB.out w5 G5.out
  by_cases hB:F.q1q L1.sc=0
  ·have HB:Hid (F.q1q L1.sc=0):=hB
   have R4:Hid (ql L s=.ok { L1 with T:=(Y.ji L1.T).2,sc:=F.q1b L1.sc }):=R3.out.trans (if_pos hB)
   clear hB R3 TB TA CKa GG CC
   go_upto_region 6 with fail
   go_region_held3 (fun w'=>w'.cell? ⟨lb,1,none⟩=some (.pointer (some ⟨m1.tq,0,none⟩))∧w'.cell? ⟨lb,2,none⟩=some (.pointer (some ⟨m1.P,0,none⟩))∧w'.cell? ⟨w.heap.size,5,none⟩=some (.string s.key.text)∧w'.cell? ⟨w.heap.size,6,none⟩=some (.int .i64 s.key.off)∧w'.cell? ⟨w.heap.size,7,none⟩=some (.int .i64 s.key.line)∧w'.cell? ⟨w.heap.size,8,none⟩=some (.int .i64 s.key.col)) (refine⟨?_,?_,?_,?_,?_,?_⟩ <;> first | assumption | exact (SA.out _ (by assumption)).1 | exact (SA.out _ (by assumption)).2.1 | exact (SA.out _ (by assumption)).2.2.1 | exact (SA.out _ (by assumption)).2.2.2.1 | exact (SA.out _ (by assumption)).2.2.2.2.1 | exact (SA.out _ (by assumption)).2.2.2.2.2)
    (first
    | (go_simp;go_at_call 105;refine Calls.mono TB1.out ?_;rintro ee w6 ⟨rfl,hg6⟩;have GH:Hid (Goes N u.drew lb txt m1 (k + 4) { L1 with T:=(Y.ji L1.T).2,sc:=F.q1b L1.sc } (Y.numOf (Y.ji L1.T).2.syms) w6):=hg6;have CC6:Hid (S.M.Ch m1.hot u.drew w6):=hg6.1;clear hg6)
    | (go_simp;go_at_call 102;refine Calls.mono (CKb.out _) ?_;rintro ee w7 ⟨hb7,he7⟩;rw[if_pos HB.out] at he7;subst he7;have G7:Hid (Goes N u.drew lb txt m1 (k + 4) { L1 with T:=(Y.ji L1.T).2,sc:=F.q1b L1.sc } (Y.numOf (Y.ji L1.T).2.syms) w7):=GH.out.jc hb7;have CC7:Hid (S.M.Ch m1.hot u.drew w7):=G7.out.1;clear hb7))
   go_wp2
   exact bodyPost_end (results_none rfl _ _ _) rfl (P0.out.does (by omega) (wu R4.out rfl G7.out))
  ·have HB:Hid (¬F.q1q L1.sc=0):=hB
   have R4:Hid (ql L s=.error (s.key,F.q1q L1.sc)):=R3.out.trans (if_neg hB)
   obtain⟨x1,x2,z5,z6,z7,z8⟩:=SA.out _ CC2.out
   clear hB R3 TB TA CKa GG CC
   go_upto_region 6 with fail
   go_region_law (first
    | (go_simp;go_at_call 105;refine Calls.mono TB1.out ?_;rintro ee w6 ⟨rfl,hg6⟩;have GH:Hid (Goes N u.drew lb txt m1 (k + 4) { L1 with T:=(Y.ji L1.T).2,sc:=F.q1b L1.sc } (Y.numOf (Y.ji L1.T).2.syms) w6):=hg6;obtain⟨v1,v2,v5,v6,v7,v8⟩:=SA.out _ hg6.1;clear hg6)
    | (go_simp;go_at_call 102;refine Calls.mono (CKb.out _) ?_;rintro ee w7 ⟨hb7,he7⟩;rw[if_neg HB.out] at he7;have he8:=he7;obtain⟨b,rfl,q2,q3⟩:=he7;refine q0m (h:=⟨rfl,DN.out _ _ _ _ GH.out.1 hb7 R4.out he8⟩) ?_))
   all_goals trivial
 ·have HA:Hid (¬((Y.ji L1.T).1:Int)=0):=by show ¬_;omega
  have R3:Hid (ql L s=.error (s.key,((Y.ji L1.T).1:Nat))):=R2.out.trans (if_neg hA)
  obtain⟨x1,x2,z5,z6,z7,z8⟩:=SA.out _ CD.out
  clear hA R2 hkd TB CKb
  go_upto_region 5 with fail
  go_region_law (first
   | (go_simp;go_at_call 104;refine Calls.mono TA.out ?_;rintro ee w4 ⟨rfl,hg⟩;have GG:Hid (Goes N u.drew lb txt m1 (k + 4) { L1 with T:=(Y.ji L1.T).2 } (Y.numOf L1.T.syms) w4):=hg;obtain⟨v1,v2,v5,v6,v7,v8⟩:=SA.out _ hg.1;clear hg)
   | (go_simp;go_at_call 102;refine Calls.mono (CKa.out _) ?_;rintro ee w5 ⟨hb5,he5⟩;rw[if_neg HA.out] at he5;have he8:=he5;obtain⟨b,rfl,q2,q3⟩:=he5;refine q0m (h:=⟨rfl,DN.out _ _ _ _ GG.out.1 hb5 R3.out he8⟩) ?_))
  all_goals trivial
theorem qhh (h:zq N w lb txt k L (Y.numOf L.T.syms) m)(hO:L.Ok k)(hk:k < 1000000000)(hKB:Y.KB w)(hN:1 < N)(hs:q0w N m w s vw vp)(hok:q0y s)(he:q04 s.label=false)(hkd:s.kind=9):Calls Tryz.prog 56 #[.pointer (some ⟨lb,0,none⟩),q09 s vw vp] w (Does N w lb txt m (k + 60000) (ql L s)):=by
 obtain⟨aw,cw,rfl,hW⟩:=hs.words
 obtain⟨ap,cp,rfl,_⟩:=S.gu hs.op
 generalize hnw:s.words.length=nw at *
 generalize hnp:s.proof.length=np at *
 obtain⟨w1,hw1,b0,bn,hsz,PW,LC,CK,FS,PT⟩:=q1d h hO hk hKB hN hs
 have HOK:Hid (q0y s):=hok
 have HN1:Hid (1 < N):=hN
 clear hs hW hO hKB b0 bn hok hN hsz h hnw hnp
 have HE:Hid (q04 s.label=false):=he
 have hl:(!s.label.text.toList.isEmpty)=false:=by rw[ByteArray.toList_eq];exact he
 have R1:Hid (ql L s=xq L s):=by unfold ql q4c;show _=_;rw[he];rfl
 clear LC CK FS PT he
 have z1:w1.cell? ⟨w.heap.size,1,none⟩=some (.string s.label.text):=S.M.qc PW.out.bx 1
 unfold q09
 go_enter Tryz.func56,Tryz.ntmps56
 go_upto_region 1 with fail
 rw[←hw1]
 clear hw1
 go_upto_region 3 with fail
 clear hl z1
 have FR:Hid True:=trivial
 have PA:Hid (Past N w lb txt k m L m s (.slice aw nw cw) (.slice ap np cp) w1):=PW
 clear PW
 obtain⟨u,hu⟩:∃u,w1=u:=⟨_,rfl⟩
 rw[hu] at PA ⊢
 clear hu
 obtain⟨m1,hm1⟩:∃m1,m1=m:=⟨_,rfl⟩
 obtain⟨L1,hL1⟩:∃L1,L1=L:=⟨_,rfl⟩
 have PA2:Hid (Past N w lb txt k m L1 m1 s (.slice aw nw cw) (.slice ap np cp) u):=by rw[hm1,hL1];exact PA
 replace R1:Hid (ql L s=xq L1 s):=by rw[hL1];exact R1
 clear PA
 have PA:=PA2
 clear PA2 hm1 hL1
 have z:∀i,u.cell? ⟨w.heap.size,i,none⟩=(jw s (.slice aw nw cw) (.slice ap np cp))[i]?:=S.M.qc PA.out.bx
 clear FR
 have z0:u.cell? ⟨w.heap.size,0,none⟩=some (.int .i64 9):=(z 0).trans (by show some (Value.int .i64 s.kind)=_;rw[hkd])
 clear z
 have R2:Hid (ql L s=q8c L1 s.key):=R1.out.trans (by unfold xq;rw[hkd];rfl)
 have P0:Hid (Past N w lb txt k m L1 m1 s (.slice aw nw cw) (.slice ap np cp) u.drew):=PA.out.below (S.M.zi (Below.refl _ _) 1)
 have SA:Hid (∀w',S.M.Ch m1.hot u.drew w'→w'.cell? ⟨lb,1,none⟩=some (.pointer (some ⟨m1.tq,0,none⟩))∧w'.cell? ⟨lb,2,none⟩=some (.pointer (some ⟨m1.P,0,none⟩))∧w'.cell? ⟨w.heap.size,5,none⟩=some (.string s.key.text)∧w'.cell? ⟨w.heap.size,6,none⟩=some (.int .i64 s.key.off)∧w'.cell? ⟨w.heap.size,7,none⟩=some (.int .i64 s.key.line)∧w'.cell? ⟨w.heap.size,8,none⟩=some (.int .i64 s.key.col)):=fun w' hc=>by obtain⟨h1,h2,h3⟩:=P0.out.held hc;exact⟨h2,h3,S.M.qc h1 5,S.M.qc h1 6,S.M.qc h1 7,S.M.qc h1 8⟩
 have TA:Hid _:=P0.out.k9a hk
 have TB:Hid (∀w5,Goes N u.drew lb txt m1 (k + 4) { L1 with T:=(Y.xg L1.T).2 } (Y.numOf L1.T.syms) w5→Calls Tryz.prog 107 #[.pointer (some ⟨m1.P,0,none⟩)] w5.drew fun e w'=>e=.returned (.int .i64 (F.q0p L1.sc))∧Goes N u.drew lb txt m1 (k + 4) { L1 with T:=(Y.xg L1.T).2,sc:=F.q08 L1.sc } (Y.numOf (Y.xg L1.T).2.syms) w'):=fun w5 hg=>P0.out.k9b hg (S.M.zi (Below.refl _ _) 1)
 have CKa:Hid (∀wx,Calls Tryz.prog 102 #[S.zn s.key,.int .i64 ((Y.xg L1.T).1:Nat)] wx (Chk s.key ((Y.xg L1.T).1:Nat) wx)):=fun wx=>check_any wx s.key _
 have CKb:Hid (∀wx,Calls Tryz.prog 102 #[S.zn s.key,.int .i64 (F.q0p L1.sc)] wx (Chk s.key (F.q0p L1.sc) wx)):=fun wx=>check_any wx s.key _
 have DN:Hid (∀(w':World) (c:Int) (e:Ending) (w4:World),S.M.Ch m1.hot u.drew w4→Below w4.heap.size w4 w'→ql L s=.error (s.key,c)→Quits s.key c w4.heap.size e w'→Does N w lb txt m (k + 60000) (ql L s) e w'):=fun w' c e w4 hc hb hr hq=>PA.out.does (Nat.le_refl _) (q0l hr (((S.M.Ch.of_below (S.M.zi (Below.refl _ _) 1)).trans hc).trans (S.M.Ch.of_below hb)) (hq.le hc.size))
 have CD:Hid (S.M.Ch m1.hot u.drew u.drew):=S.M.Ch.of_below (Below.refl _ _)
 unfold S.zn at CKa CKb
 by_cases hA:(Y.xg L1.T).1=0
 ·have HA:Hid (((Y.xg L1.T).1:Int)=0):=by show _=_;rw[hA];rfl
  have R3:Hid (ql L s=jh s.key (F.q0p L1.sc) { L1 with T:=(Y.xg L1.T).2,sc:=F.q08 L1.sc }):=R2.out.trans (if_pos hA)
  clear hA R2 hkd
  go_upto_region 8 with fail
  go_region_held3 (fun w'=>w'.cell? ⟨lb,1,none⟩=some (.pointer (some ⟨m1.tq,0,none⟩))∧w'.cell? ⟨lb,2,none⟩=some (.pointer (some ⟨m1.P,0,none⟩))∧w'.cell? ⟨w.heap.size,5,none⟩=some (.string s.key.text)∧w'.cell? ⟨w.heap.size,6,none⟩=some (.int .i64 s.key.off)∧w'.cell? ⟨w.heap.size,7,none⟩=some (.int .i64 s.key.line)∧w'.cell? ⟨w.heap.size,8,none⟩=some (.int .i64 s.key.col)) (refine⟨?_,?_,?_,?_,?_,?_⟩ <;> first | assumption | exact (SA.out _ (by assumption)).1 | exact (SA.out _ (by assumption)).2.1 | exact (SA.out _ (by assumption)).2.2.1 | exact (SA.out _ (by assumption)).2.2.2.1 | exact (SA.out _ (by assumption)).2.2.2.2.1 | exact (SA.out _ (by assumption)).2.2.2.2.2)
   (first
   | (go_simp;go_at_call 106;refine Calls.mono TA.out ?_;rintro ee w4 ⟨rfl,hg⟩;have GG:Hid (Goes N u.drew lb txt m1 (k + 4) { L1 with T:=(Y.xg L1.T).2 } (Y.numOf L1.T.syms) w4):=hg;have CC:Hid (S.M.Ch m1.hot u.drew w4):=hg.1;clear hg)
   | (go_simp;go_at_call 102;refine Calls.mono (CKa.out _) ?_;rintro ee w5 ⟨hb5,he5⟩;rw[if_pos HA.out] at he5;subst he5;have G5:Hid (Goes N u.drew lb txt m1 (k + 4) { L1 with T:=(Y.xg L1.T).2 } (Y.numOf L1.T.syms) w5):=GG.out.jc hb5;have CC2:Hid (S.M.Ch m1.hot u.drew w5.drew):=G5.out.1.trans (S.M.Ch.of_below (S.M.zi (Below.refl _ _) 1));have CC3:Hid (S.M.Ch m1.hot u.drew w5):=G5.out.1;clear hb5))
  have TB1:Hid _:=TB.out w5 G5.out
  by_cases hB:F.q0p L1.sc=0
  ·have HB:Hid (F.q0p L1.sc=0):=hB
   have R4:Hid (ql L s=.ok { L1 with T:=(Y.xg L1.T).2,sc:=F.q08 L1.sc }):=R3.out.trans (if_pos hB)
   clear hB R3 TB TA CKa GG CC
   go_upto_region 9 with fail
   go_region_held3 (fun w'=>w'.cell? ⟨lb,1,none⟩=some (.pointer (some ⟨m1.tq,0,none⟩))∧w'.cell? ⟨lb,2,none⟩=some (.pointer (some ⟨m1.P,0,none⟩))∧w'.cell? ⟨w.heap.size,5,none⟩=some (.string s.key.text)∧w'.cell? ⟨w.heap.size,6,none⟩=some (.int .i64 s.key.off)∧w'.cell? ⟨w.heap.size,7,none⟩=some (.int .i64 s.key.line)∧w'.cell? ⟨w.heap.size,8,none⟩=some (.int .i64 s.key.col)) (refine⟨?_,?_,?_,?_,?_,?_⟩ <;> first | assumption | exact (SA.out _ (by assumption)).1 | exact (SA.out _ (by assumption)).2.1 | exact (SA.out _ (by assumption)).2.2.1 | exact (SA.out _ (by assumption)).2.2.2.1 | exact (SA.out _ (by assumption)).2.2.2.2.1 | exact (SA.out _ (by assumption)).2.2.2.2.2)
    (first
    | (go_simp;go_at_call 107;refine Calls.mono TB1.out ?_;rintro ee w6 ⟨rfl,hg6⟩;have GH:Hid (Goes N u.drew lb txt m1 (k + 4) { L1 with T:=(Y.xg L1.T).2,sc:=F.q08 L1.sc } (Y.numOf (Y.xg L1.T).2.syms) w6):=hg6;have CC6:Hid (S.M.Ch m1.hot u.drew w6):=hg6.1;clear hg6)
    | (go_simp;go_at_call 102;refine Calls.mono (CKb.out _) ?_;rintro ee w7 ⟨hb7,he7⟩;rw[if_pos HB.out] at he7;subst he7;have G7:Hid (Goes N u.drew lb txt m1 (k + 4) { L1 with T:=(Y.xg L1.T).2,sc:=F.q08 L1.sc } (Y.numOf (Y.xg L1.T).2.syms) w7):=GH.out.jc hb7;have CC7:Hid (S.M.Ch m1.hot u.drew w7):=G7.out.1;clear hb7))
   go_wp2
   exact bodyPost_end (results_none rfl _ _ _) rfl (P0.out.does (by omega) (wu R4.out rfl G7.out))
  ·have HB:Hid (¬F.q0p L1.sc=0):=hB
   have R4:Hid (ql L s=.error (s.key,F.q0p L1.sc)):=R3.out.trans (if_neg hB)
   obtain⟨x1,x2,z5,z6,z7,z8⟩:=SA.out _ CC2.out
   clear hB R3 TB TA CKa GG CC
   go_upto_region 9 with fail
   go_region_law (first
    | (go_simp;go_at_call 107;refine Calls.mono TB1.out ?_;rintro ee w6 ⟨rfl,hg6⟩;have GH:Hid (Goes N u.drew lb txt m1 (k + 4) { L1 with T:=(Y.xg L1.T).2,sc:=F.q08 L1.sc } (Y.numOf (Y.xg L1.T).2.syms) w6):=hg6;obtain⟨v1,v2,v5,v6,v7,v8⟩:=SA.out _ hg6.1;clear hg6)
    | (go_simp;go_at_call 102;refine Calls.mono (CKb.out _) ?_;rintro ee w7 ⟨hb7,he7⟩;rw[if_neg HB.out] at he7;have he8:=he7;obtain⟨b,rfl,q2,q3⟩:=he7;refine q0m (h:=⟨rfl,DN.out _ _ _ _ GH.out.1 hb7 R4.out he8⟩) ?_))
   all_goals trivial
 ·have HA:Hid (¬((Y.xg L1.T).1:Int)=0):=by show ¬_;omega
  have R3:Hid (ql L s=.error (s.key,((Y.xg L1.T).1:Nat))):=R2.out.trans (if_neg hA)
  obtain⟨x1,x2,z5,z6,z7,z8⟩:=SA.out _ CD.out
  clear hA R2 hkd TB CKb
  go_upto_region 8 with fail
  go_region_law (first
   | (go_simp;go_at_call 106;refine Calls.mono TA.out ?_;rintro ee w4 ⟨rfl,hg⟩;have GG:Hid (Goes N u.drew lb txt m1 (k + 4) { L1 with T:=(Y.xg L1.T).2 } (Y.numOf L1.T.syms) w4):=hg;obtain⟨v1,v2,v5,v6,v7,v8⟩:=SA.out _ hg.1;clear hg)
   | (go_simp;go_at_call 102;refine Calls.mono (CKa.out _) ?_;rintro ee w5 ⟨hb5,he5⟩;rw[if_neg HA.out] at he5;have he8:=he5;obtain⟨b,rfl,q2,q3⟩:=he5;refine q0m (h:=⟨rfl,DN.out _ _ _ _ GG.out.1 hb5 R3.out he8⟩) ?_))
  all_goals trivial
end
end B
end Go.Proofs.YtbancemhfjjmlaaGreatDoor
