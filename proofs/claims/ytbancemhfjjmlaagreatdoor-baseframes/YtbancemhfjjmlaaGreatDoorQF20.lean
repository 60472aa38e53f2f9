/- For every text the law that numbers, labels, frames, contexts and names of a loaded base agree (BaseFrames) returns true and leaves its argument as it was. The card ties the tables of bytes and of kinds to the text of this seat. -/
import Derived.Test.YtbancemhfjjmlaaGreatDoorQF19
import Derived.Test.YtbancemhfjjmlaaGreatDoorTie
import Derived.Test.YtbancemhfjjmlaaGreatDoorCards
import Derived.SizedLaws
import Derived.SevenTiedAt
set_option maxRecDepth 100000
set_option maxHeartbeats 32000000
namespace Go.Proofs.YtbancemhfjjmlaaGreatDoor.B
open Go.ChangeShapes Go.WideShapes Go.ChangeAt Go.RowKit
open Go.ChangeMaps (open_string shut_string)
theorem qcc {s:ByteArray}{ts:List TypeId}{H:Type}{ds:List (DataW H)}(hsz:(DataW.weightsEach Tryz.prog ts ds).all (·≤reachBytes)=true){j:Nat}{t:TypeId}(ht:ts[j]?=some t)(hd:ds[j]?=some (.lit (.string s.data.toList))):s.size≤140737488355328:=by
 have:=sized_string hsz ht hd
 have h2:s.data.toList.length=s.size:=rfl;unfold reachBytes at this;omega
theorem q8d (os:Os)(started:os.Started)(H:Type)(enc:TypeId × Value→H) :
  ReturnsInHanded {} Tryz.checked os 5 .any (fun w args=>(Rows.baseFramesSpec.pre enc Tryz.prog Tryz.f5 [] false w args∧laidMetH Tryz.prog S.qcj w)∧sizedMet enc Tryz.prog Tryz.f5 (OpenSpec.ofChange Rows.baseFramesSpec) false w args)
   (Rows.baseFramesSpec.post enc Tryz.prog Tryz.f5 false true false false):=by
 refine returnsInHanded_of_row (C:=Tryz.checked) (s:=OpenSpec.ofChange Rows.baseFramesSpec) (F:=default) (laid:=S.qcj) (conds:=[]) S.rown started (by kernel_rfl) Tryz.func5
  (ChangeSpec.witness_shaped (enc:=enc) (C:=Tryz.checked) (os:=os) (s:=Rows.baseFramesSpec) (X:=fun w _=>laidMetH Tryz.prog S.qcj w) false (World.doorLaid Tryz.prog 400 os) #[.string ⟨#[]⟩] 8 rfl (World.shaped_of_RefB (by kernel_rfl) (by kernel_rfl)) (by kernel_rfl) (by kernel_rfl) (by kernel_rfl) (S.door_met os _)) ?_
 intro W base args ds gs before hval0 hW _ _ hsz0 hL hsh _;have hval:∀(j:Nat) t v,Tryz.f5.params[j]?=some t→args[j]?=some v→Value.okWide Tryz.prog W .any base t v:=hval0;have hsz:(DataW.weightsEach Tryz.prog (Tryz.f5.params.toList++Rows.baseFramesSpec.plain.varTypes Tryz.prog) (ds++gs)).all (·≤reachBytes)=true:=hsz0;have hW':=hW;obtain⟨p,q,hA0,hV,rfl,hfz,hnd⟩:=hW;have hA:DataW.TrodAll enc Tryz.prog W 0 (fun _=>true) true Tryz.f5.params.toList args.toList ds p:=hA0;rw[Tryz.params5] at hA hval hsz;obtain⟨v0,d0,rfl,rfl,h0⟩:=trodAll_one hA;obtain⟨rfl,rfl⟩:=trodVars_none hV;obtain⟨s,rfl,rfl,rfl,hs⟩:=open_string Tryz.underlying9 (hval 0 9 v0 rfl rfl) h0;have hls:=qcc (s:=s) hsz (j:=0) (t:=9) rfl rfl;clear hA0 hval0 hsz0;refine (qj3 W s hls (S.qeq hL hsh)).mono fun e W' ⟨he,bel⟩=>?_
 subst he;exact⟨_,rfl,_,_,_,[],_,[],hW',trodAll_mk1 (shut_bool Tryz.underlying4 _),trodAll_mk1 (shut_string Tryz.underlying9 hs),rfl,bel.frame _,fun h=>by cases h⟩
theorem qbq:Rows.BaseFramesSaid :=
 OpenClaim.holds_of_wide 5 Tryz.f5 rfl rfl rfl rfl rfl rfl rfl ⟨rfl,rfl,rfl,rfl,rfl⟩ rfl rfl rfl rfl rfl (by kernel_rfl) Tryz.func5 (by kernel_rfl)
  (of_decide_eq_true (by kernel_rfl)) (by unfold Func.isWrapper;first | (rw[if_pos (by decide +kernel)];kernel_rfl) | (rw[if_neg (by decide +kernel)];exact⟨rfl,rfl⟩))
  (fun os started H enc _=>q8d os started H enc)
end Go.Proofs.YtbancemhfjjmlaaGreatDoor.B
namespace Go.Proofs.YtbancemhfjjmlaaGreatDoor
theorem baseFrames_holds:Rows.BaseFramesCardSaid :=
 Claim7.holds_tied_plain_at .later [] _ _ _ _ B.qbq (fun _ h=>by cases h) (by kernel_rfl) (fun _ h=>by cases h) baseFrames_row_tie rfl ⟨rfl,rfl⟩ (by kernel_rfl) rfl
  (fun f fn hf hfn=>by
    obtain rfl:f=5:=Option.some.inj ((show Tryz.prog.funcNamed "lemma/lemmalaw08.BaseFrames"=some 5 by kernel_rfl).symm.trans hf) |>.symm
    obtain rfl:fn=Tryz.f5:=(Option.some.inj (Tryz.func5.symm.trans hfn)).symm
    exact⟨by kernel_rfl,fun j t ht=>by
     rw[Tryz.params5] at ht
     have hm:t ∈ [9]:=by simpa using Array.mem_of_getElem? ht
     have hall:([9].all fun u=>!Tryz.prog.wantsStandIn u)=true:=by kernel_rfl
     exact (show Tryz.prog.wantsStandIn t=false by simpa using List.all_eq_true.1 hall t hm)⟩)
  (by kernel_rfl)
#print axioms baseFrames_holds
end Go.Proofs.YtbancemhfjjmlaaGreatDoor
