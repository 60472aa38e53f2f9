/- For every text and every list of numbers the law that other blanks and comments between the words change nothing of a loaded base but places (BaseBlanks) returns true and leaves its arguments as they were. The card ties the tables of bytes and of kinds to the text of this seat. -/
import Derived.Test.YtbancemhfjjmlaaGreatDoorQB18
import Derived.Test.YtbancemhfjjmlaaGreatDoorTie
import Derived.Test.YtbancemhfjjmlaaGreatDoorCards
import Derived.SizedLaws
import Derived.SevenTiedAt
set_option maxRecDepth 100000
set_option maxHeartbeats 32000000
namespace Go.Proofs.YtbancemhfjjmlaaGreatDoor.B
open Go.ChangeShapes Go.WideShapes Go.ChangeAt Go.RowKit
open Go.ChangeMaps (open_string shut_string)
theorem qoe (w:World)(s:ByteArray)(v:Value)(hs:s.size≤140737488355328)(hR:S.RdW w)(f:S.Tok × Int)(hF:q1j s=.error f):Calls Tryz.prog 4 #[.string s,v] w fun e w'=>e=.returned (.bool true)∧Below w.heap.size w w':=by
 have L1:Hid (Calls Tryz.prog 9 #[.string s] w (Loaded w s)):=qcf w s (by omega) hR (q7c s);have AL:Hid (∀wx,Below w.heap.size w wx→Calls Tryz.prog 10 #[] wx fun e w'=>e=.returned (.bool true)∧Below wx.heap.size wx w'):=fun wx hb=>alive_any wx (hR.under hb)
 clear hR hs;go_enter Tryz.func4,Tryz.ntmps4;go_wp2_with fail;refine cMo L1.out ?_;rintro e w1 ⟨hb1,hm⟩;rw[hF] at hm;obtain⟨B,rfl,_,_⟩:=hm;have A1:Hid _:=AL.out w1 hb1;have B1:=hid hb1;clear hb1 L1 hF AL;go_wp2_with fail;refine cMo A1.out ?_;rintro e w2 ⟨rfl,hb2⟩;have B2:=bTr B1 hb2;clear hb2 A1 B1;go_wp2_with fail
 go_ret
 exact⟨rfl,B2.out⟩
theorem qk6 (w:World)(s:ByteArray)(ab:Option Addr)(nb cb:Nat)(bl:List Int)(hs:s.size≤140737488355328)(hR:S.RdW w)(hbl:bl.length=nb)(hnb:nb≤9223372036854775807)(hA:F.uj w ab bl) :
  Calls Tryz.prog 4 #[.string s,.slice ab nb cb] w fun e w'=>e=.returned (.bool true)∧Below w.heap.size w w':=by
 cases hF:q1j s with
 | error f=>exact qoe w s _ hs hR f hF
 | ok L=>exact qod w s ab nb cb bl hs hR hbl hnb hA L hF
theorem qcx {s:ByteArray}{ts:List TypeId}{H:Type}{ds:List (DataW H)}(hsz:(DataW.weightsEach Tryz.prog ts ds).all (·≤reachBytes)=true){j:Nat}{t:TypeId}(ht:ts[j]?=some t)(hd:ds[j]?=some (.lit (.string s.data.toList))):s.size≤140737488355328:=by
 have:=sized_string hsz ht hd
 have h2:s.data.toList.length=s.size:=rfl;unfold reachBytes at this;omega
theorem qof {H:Type} {enc:TypeId × Value→H} {W:World} {fuel:Nat} {a0:Option Addr} {len cap:Nat} {x:DataW H × List MemPlace}
  (h:DataW.trod enc Tryz.prog W 0 (fun _=>true) true fuel 38 [.slice a0 len cap]=some x) :
  len≤9223372036854775807∧∃l:List Int,l.length=len∧F.uj W a0 l:=by
 rcases open_ints Tryz.underlying38 Tryz.underlying3 S.cells3 h with ⟨hcs,hx⟩ | ⟨a,len',cap',zs,hcs,_,hl,hm,hz,hx,hcell,hws⟩
 ·simp at hcs;obtain⟨rfl,rfl,rfl⟩:=hcs;exact⟨Nat.zero_le _,[],rfl,fun i x hi=>by simp at hi⟩
 ·simp at hcs;obtain⟨rfl,rfl,rfl⟩:=hcs;simp only[if_true] at hz;unfold maxLen at hm;refine⟨by omega,zs.take len,by rw[List.length_take];omega,fun i x hi=>?_⟩;obtain⟨b,off,spot⟩:=a;have hlt:i < len:=by
   have:=(List.getElem?_eq_some_iff.1 hi).1
   rw[List.length_take] at this;omega
  have hspot:spot=none:=by simpa [Addr.add] using World.cell?_spot (hcell 0 (by omega))
  subst hspot;have hc:=hcell i (by omega);rw[add_plain] at hc;refine⟨b,off,rfl,?_⟩;rw[hc];rw[List.getElem?_take,if_pos hlt] at hi;rw[List.getD,hi];rfl
theorem q8j (os:Os)(started:os.Started)(H:Type)(enc:TypeId × Value→H) :
  ReturnsInHanded {} Tryz.checked os 4 .any (fun w args=>(Rows.baseBlanksSpec.pre enc Tryz.prog Tryz.f4 [] false w args∧laidMetH Tryz.prog S.qd4 w)∧sizedMet enc Tryz.prog Tryz.f4 (OpenSpec.ofChange Rows.baseBlanksSpec) false w args)
   (Rows.baseBlanksSpec.post enc Tryz.prog Tryz.f4 false true false false):=by
 refine returnsInHanded_of_row (C:=Tryz.checked) (s:=OpenSpec.ofChange Rows.baseBlanksSpec) (F:=default) (laid:=S.qd4) (conds:=[]) S.rown started (by kernel_rfl) Tryz.func4
  (ChangeSpec.witness_shaped (enc:=enc) (C:=Tryz.checked) (os:=os) (s:=Rows.baseBlanksSpec) (X:=fun w _=>laidMetH Tryz.prog S.qd4 w) false (World.doorLaid Tryz.prog 400 os) #[.string ⟨#[]⟩,.slice none 0 0] 8 rfl (World.shaped_of_RefB (by kernel_rfl) (by kernel_rfl)) (by kernel_rfl) (by kernel_rfl) (by kernel_rfl) (S.door_met os _)) ?_
 intro W base args ds gs before hval0 hW _ _ hsz0 hL hsh _;have hval:∀(j:Nat) t v,Tryz.f4.params[j]?=some t→args[j]?=some v→Value.okWide Tryz.prog W .any base t v:=hval0;have hsz:(DataW.weightsEach Tryz.prog (Tryz.f4.params.toList++Rows.baseBlanksSpec.plain.varTypes Tryz.prog) (ds++gs)).all (·≤reachBytes)=true:=hsz0;have hW':=hW;obtain⟨p,q,hA0,hV,rfl,hfz,hnd⟩:=hW;have hA:DataW.TrodAll enc Tryz.prog W 0 (fun _=>true) true Tryz.f4.params.toList args.toList ds p:=hA0;rw[Tryz.params4] at hA hval hsz;obtain⟨v0,v1,d0,d1,p0,p1,rfl,rfl,rfl,h0,h1⟩:=trodAll_two hA;obtain⟨rfl,rfl⟩:=trodVars_none hV;obtain⟨s,rfl,rfl,rfl,hs⟩:=open_string Tryz.underlying9 (hval 0 9 v0 rfl rfl) h0;obtain⟨wa1,wn1,wc1,rfl⟩:=okWide_slice Tryz.underlying38 (hval 1 38 v1 rfl rfl);have hls:=qcx (s:=s) hsz (j:=0) (t:=9) rfl rfl;have hk1:=h1;obtain⟨f1,hf1⟩:=h1;have hl1:∀x ∈ p1,x.block < W.heap.size:=fun x hx=>by simpa using hW'.lt x (by simp[hx])
 obtain⟨hn1,l1,e1,i1⟩:=qof hf1;clear hA0 hval0 hsz0;refine (qk6 W s wa1 wn1 wc1 l1 hls (S.qfi hL hsh) e1 hn1 i1).mono fun e W' ⟨he,bel⟩=>?_
 subst he;exact⟨_,rfl,_,_,_,[],_,[],hW',trodAll_mk1 (shut_bool Tryz.underlying4 _),trodAll_mk2 (shut_string Tryz.underlying9 hs) (Below.trod S.qp6 (by kernel_rfl) (of_decide_eq_true (by kernel_rfl)) hk1 bel hl1),rfl,bel.frame _,fun h=>by cases h⟩
theorem qci:Rows.BaseBlanksSaid :=
 OpenClaim.holds_of_wide 4 Tryz.f4 rfl rfl rfl rfl rfl rfl rfl ⟨rfl,rfl,rfl,rfl,rfl⟩ rfl rfl rfl rfl rfl (by kernel_rfl) Tryz.func4 (by kernel_rfl)
  (of_decide_eq_true (by kernel_rfl)) (by unfold Func.isWrapper;first | (rw[if_pos (by decide +kernel)];kernel_rfl) | (rw[if_neg (by decide +kernel)];exact⟨rfl,rfl⟩))
  (fun os started H enc _=>q8j os started H enc)
end Go.Proofs.YtbancemhfjjmlaaGreatDoor.B
namespace Go.Proofs.YtbancemhfjjmlaaGreatDoor
theorem baseBlanks_holds:Rows.BaseBlanksCardSaid :=
 Claim7.holds_tied_plain_at .later [] _ _ _ _ B.qci (fun _ h=>by cases h) (by kernel_rfl) (fun _ h=>by cases h) baseBlanks_row_tie rfl ⟨rfl,rfl⟩ (by kernel_rfl) rfl
  (fun f fn hf hfn=>by
    obtain rfl:f=4:=Option.some.inj ((show Tryz.prog.funcNamed "lemma/lemmalaw08.BaseBlanks"=some 4 by kernel_rfl).symm.trans hf) |>.symm
    obtain rfl:fn=Tryz.f4:=(Option.some.inj (Tryz.func4.symm.trans hfn)).symm
    exact⟨by kernel_rfl,fun j t ht=>by
     rw[Tryz.params4] at ht
     have hm:t ∈ [9,38]:=by simpa using Array.mem_of_getElem? ht
     have hall:([9,38].all fun u=>!Tryz.prog.wantsStandIn u)=true:=by kernel_rfl
     exact (show Tryz.prog.wantsStandIn t=false by simpa using List.all_eq_true.1 hall t hm)⟩)
  (by kernel_rfl)
#print axioms baseBlanks_holds
end Go.Proofs.YtbancemhfjjmlaaGreatDoor
