/-
 HoldGone: of all numbers and boxes: a box that was taken away is none; other boxes are as they were (the tied card).
-/
import Derived.Test.YtoljpfapphoflaaGreatDoorHlG
import Derived.Test.YtoljpfapphoflaaGreatDoorJF
set_option linter.unusedVariables false
set_option linter.unusedSimpArgs false
set_option maxRecDepth 100000
namespace Go.Proofs.YtoljpfapphoflaaGreatDoor.holdGone
open Go.ChangeShapes Go.WideShapes Go.ChangeAt Go.ChangeMaps Go.WideMaps Go.WideElems Go.RowKit BxD BxKit BxO BxLaw
theorem lifted (os:Os) (started:os.Started) (H:Type) (enc:TypeId × Value->H) :
 ReturnsInHanded {} Tryz.checked os 4 .any (fun w args=>(Rows.holdGoneSpec.pre enc Tryz.prog Tryz.f4 [] false w args/\laidMetH Tryz.prog laid w)/\sizedMet enc Tryz.prog Tryz.f4 (OpenSpec.ofChange Rows.holdGoneSpec) false w args)
  (Rows.holdGoneSpec.post enc Tryz.prog Tryz.f4 false true false false):=by
 refine returnsInHanded_of_change_and (C:=Tryz.checked) (X:=fun w _=>laidMetH Tryz.prog laid w) (fun _ _ _ hh h=>h.of_heap hh) BxLaw.own started (by kernel_rfl) Tryz.func4
  (ChangeSpec.witness_shaped (enc:=enc) (C:=Tryz.checked) (os:=os) (X:=fun w _=>laidMetH Tryz.prog laid w) false (World.doorLaid Tryz.prog 400 os) #[.int .i64 0,.agg #[.string ⟨#[]⟩,.int .i64 0,.int .i64 0,.int .i64 0,.slice none 0 0,.slice none 0 0],.agg #[.string ⟨#[]⟩,.int .i64 0,.int .i64 0,.int .i64 0,.slice none 0 0,.slice none 0 0]] 8 rfl (World.shaped_of_RefB (by kernel_rfl) (by kernel_rfl)) (by kernel_rfl) (by kernel_rfl) (by kernel_rfl) (door_met os _)) ?_
 intro W base args ds gs before hval0 hW _ hsize hL _;have hval : ∀ (j:Nat) t v,Tryz.f4.params[j]? = some t->args[j]? = some v->Value.okWide Tryz.prog W .any base t v:=hval0;have hW':=hW;obtain⟨p,q,hA0,hV,rfl,hfz,hnd⟩:=hW;have hA:DataW.TrodAll enc Tryz.prog W 0 (fun _=>true) true Tryz.f4.params.toList args.toList ds p:=hA0;rw [Tryz.params4] at hA hval hsize;obtain⟨v0,v1,v2,d0,d1,d2,p0,p1,p2,rfl,rfl,rfl,h0,h1,h2⟩:=trodAll_three hA;obtain⟨rfl,rfl⟩:=trodVars_none hV;obtain⟨x0,rfl,rfl,rfl,w0⟩:=open_int Tryz.underlying3 (hval 0 3 v0 rfl rfl) h0;obtain⟨id1,bv1,bn1,bh1,WA1,wn1,wc1,MA1,mn1,mc1,ws1,ms1,rfl,hws1,hms1,hwc1,hmc1,hid1⟩:=open_box (hval 1 25 v1 rfl rfl) h1 (small_of hsize (j:=1) rfl rfl);obtain⟨id2,bv2,bn2,bh2,WA2,wn2,wc2,MA2,mn2,mc2,ws2,ms2,rfl,hws2,hms2,hwc2,hmc2,hid2⟩:=open_box (hval 2 25 v2 rfl rfl) h2 (small_of hsize (j:=2) rfl rfl);refine (HlG.walk (x:=x0) (b:=⟨id1,bv1,bn1,bh1,ws1,ms1⟩) (c:=⟨id2,bv2,bn2,bh2,ws2,ms2⟩) (tab_of_laid hL) hws1 hms1 hwc1 hmc1 hid1 hws2 hms2 hwc2 hmc2 hid2).mono fun e W' ⟨he,hb⟩=>?_;subst he;exact⟨_,rfl,law_post (by kernel_rfl) (by kernel_rfl) rfl hW' rfl rfl rfl hb⟩
theorem row_holds:Rows.HoldGoneSaid :=
 OpenClaim.holds_of_wide 4 Tryz.f4 rfl rfl rfl rfl rfl rfl rfl ⟨rfl,rfl,rfl,rfl,rfl⟩ rfl rfl rfl rfl rfl (by kernel_rfl) Tryz.func4 (by kernel_rfl)
  (of_decide_eq_true (by kernel_rfl)) (by unfold Func.isWrapper; first | (rw [if_pos (by decide +kernel)]; kernel_rfl) | (rw [if_neg (by decide +kernel)]; exact⟨rfl,rfl⟩))
  (fun os started H enc _=>lifted os started H enc)
theorem holdGone_holds:Rows.HoldGoneCardSaid :=
 Claim7.holds_tied_plain_at .later [] [.data, .data, .data] true (true, "98d5cacc0e11f05344598ad02ae51eeb67c6ec44a1b1d4d3239591e938f94025") false
  row_holds (fun _ h=>by cases h) (by kernel_rfl) (fun _ h=>by cases h) holdGone_row_tie rfl ⟨rfl,rfl⟩ (by kernel_rfl) rfl
  (fun f fn hf hfn=>by
   obtain rfl : f = 4 := Option.some.inj ((show Tryz.prog.funcNamed "mailsack/mailsacklaw15.HoldGone" = some 4 by kernel_rfl).symm.trans hf) |>.symm
   obtain rfl:fn=Tryz.f4:=(Option.some.inj (Tryz.func4.symm.trans hfn)).symm;exact⟨by kernel_rfl,fun j t ht=>by
    rw [Tryz.params4] at ht;have hm:t∈[3,25,25]:=by simpa using Array.mem_of_getElem? ht
    have hall:([3,25,25].all fun u=>!Tryz.prog.wantsStandIn u)=true:=by kernel_rfl
    exact (show Tryz.prog.wantsStandIn t=false by simpa using List.all_eq_true.1 hall t hm)⟩)
  (by kernel_rfl)
#print axioms holdGone_holds
end Go.Proofs.YtoljpfapphoflaaGreatDoor.holdGone
