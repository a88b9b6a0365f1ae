/-
  RwW5 + RwW6 + RwW7 + RwW8 + RwW9
-/
import Derived.Test.YtoljpfapphoflaaGreatDoorJ4
import Derived.Test.YtoljpfapphoflaaGreatDoorZ7
import Derived.Test.YtoljpfapphoflaaGreatDoorZ10
set_option linter.unusedVariables false
set_option linter.unusedSimpArgs false
set_option maxHeartbeats 4000000
set_option maxRecDepth 100000
namespace Go.Proofs.YtoljpfapphoflaaGreatDoor.RwW5
open Go.RowKit BxD BxKit BxA BxR BxC RwD RwKit RwOwn RwDel BxF BxM BxOp RwW1 RwMb RwMc RwW4
theorem chM_keys {m:Msg} {r:Row} (h:m.keys.length<=60000) (h6:r.msg.keys.length<=17592186044416):(chM m r).keys.length<=17592186044416:=by
 unfold chM;split
 · exact h6
 · split
   · show m.keys.length<=17592186044416; omega
   · split
     · show m.keys.length<=17592186044416; omega
     · omega
theorem less_keys {w:World} {base k:Nat} {rs:List Raw} : ∀ r∈rs.take k++rs.drop (k+1),r∈rs\/w.ownsRow base 3 1 (.slice r.K r.m.keys.length r.c) r.m.keys.length (r.m.keys.map (Value.int .i64)):=fun r hr=>by
 rcases List.mem_append.1 hr with hr | hr
 · exact .inl (List.mem_of_mem_take hr)
 · exact .inl (List.mem_of_mem_drop hr)
theorem set_keys {w:World} {base k:Nat} {rs:List Raw} {q:Raw} (h:w.ownsRow base 3 1 (.slice q.K q.m.keys.length q.c) q.m.keys.length (q.m.keys.map (Value.int .i64))) :
 ∀ r∈rs.set k q,r∈rs\/w.ownsRow base 3 1 (.slice r.K r.m.keys.length r.c) r.m.keys.length (r.m.keys.map (Value.int .i64)):=fun r hr=>by
 rcases List.mem_or_eq_of_mem_set hr with hr | rfl
 · exact .inl hr
 · exact .inr h
theorem mb_new (w:World) (m:Msg) (K:Option Addr) (c:Nat):MB (w.alloc (.cells #[.int .i64 m.uid,.int .i64 m.mod,.int .i64 m.date,.string m.id,.int .i64 m.flags,.slice K m.keys.length c,.string m.text] 61)) w.heap.size m K c:=heap_alloc_new w _
theorem change_none {w:World} {base B:Nat} {b:Box} {vw vm:Value} {rs:List Raw} {r:Row} {J:Option Addr} {jc:Nat} (h:OB w base b vw vm rs) (hf:Fit b) (hb:base<=w.heap.size) (hj:IntsAt w B J r.msg.keys.length r.msg.keys) (hB:B<=w.heap.size) (h6:r.msg.keys.length<=17592186044416) (hfi:findI b.msgs r.uid = -1) :
 Calls Tryz.prog 106 #[.agg #[.string b.id,.int .i64 b.valid,.int .i64 b.next,.int .i64 b.high,vw,vm],.agg #[.int .i64 r.kind,.int .i64 r.uid,.int .i64 r.mod,.int .i64 r.msg.uid,.int .i64 r.msg.mod,.int .i64 r.msg.date,.string r.msg.id,.int .i64 r.msg.flags,.slice J r.msg.keys.length jc,.string r.msg.text,.string r.text]] w (WO noB 6 base w):=by
 obtain⟨WA,wc,MA,mcp,rfl,rfl,hwc,hmc⟩:=h.slices;have X0:=H_ (XB.start h hb r J jc);have HJ:=H_ (IntsAt.below hj X0.out.low hB);have HF:=H_ hf;have hwl:=hf.wl;have hml:=hf.ml;clear h hf hj;have HFI:=H_ hfi;clear hfi;go_enter Tryz.func106,Tryz.ntmps106;go_upto_region 1 with fail
 generalize (World.alloc (World.alloc (World.alloc w _) _) _)=w1 at X0 HJ ⊢;have kf:=find_any (bid:=b.id) (bv:=b.valid) (bn:=b.next) (bh:=b.high) (WA:=WA) (wn:=b.words.length) (wc:=wc) (mc:=mcp) (uid:=r.uid) (X0.out.sb.own.at_ HF.out (B:=w1.heap.size) (fun _ _ h=>h)).2 lr_;rw [HFI.out] at kf;have KF:=H_ kf;clear kf;obtain⟨c0,c1,c2,c3,c4,c5⟩:=X0.out.sb.facts;obtain⟨r0,r1,r2,r3,r4,r5,r6,r7,r8,r9,r10⟩:=X0.out.lb.facts;go_upto_region 2 with (go_at_call 143; refine KF.out.mono ?_; rintro e w2 ⟨rfl,hb2⟩)
 have X1:=H_ (X0.out.go hb2);have HJ1:=H_ (IntsAt.below HJ.out hb2 (by have:=X0.out.size; omega));clear hb2 X0 HJ KF c0 c1 c2 c3 c4 c5 r0 r1 r2 r3 r4 r5 r6 r7 r8 r9 r10;obtain⟨d0,d1,d2,d3,d4,d5,f0,f1,f2,f3,f4,f5⟩:=X1.out.sb.room;go_wp2_with fail
 obtain⟨W,hW,q0,q1,q2,q3,q4,q5,hO⟩:=X1.out.sb.err 6;unfold put6 at hW;rw [<- hW];exact bodyPost_ret (v:=.tuple #[.agg #[.string ⟨#[]⟩,.int .i64 0,.int .i64 0,.int .i64 0,.slice none 0 0,.slice none 0 0],.int .i64 6]) (by simp [results,Tryz.results106,go_sem,q0,q1,q2,q3,q4,q5]) rfl hO
theorem change_bad {w:World} {base B:Nat} {b:Box} {vw vm:Value} {rs:List Raw} {r:Row} {J:Option Addr} {jc:Nat} (h:OB w base b vw vm rs) (hf:Fit b) (hb:base<=w.heap.size) (hj:IntsAt w B J r.msg.keys.length r.msg.keys) (hB:B<=w.heap.size) (h6:r.msg.keys.length<=17592186044416) {k:Nat} {q:Raw} (hfi:findI b.msgs r.uid=(k:Int)) (hr:rs[k]? = some q) (hmm:mmB b.words.length (chM q.m r)=false) :
 Calls Tryz.prog 106 #[.agg #[.string b.id,.int .i64 b.valid,.int .i64 b.next,.int .i64 b.high,vw,vm],.agg #[.int .i64 r.kind,.int .i64 r.uid,.int .i64 r.mod,.int .i64 r.msg.uid,.int .i64 r.msg.mod,.int .i64 r.msg.date,.string r.msg.id,.int .i64 r.msg.flags,.slice J r.msg.keys.length jc,.string r.msg.text,.string r.text]] w (WO noB 1 base w):=by
 obtain⟨WA,wc,MA,mcp,rfl,rfl,hwc,hmc⟩:=h.slices;have X0:=H_ (XB.start h hb r J jc);have HJ:=H_ (IntsAt.below hj X0.out.low hB);have HF:=H_ hf;have hwl:=hf.wl;have hml:=hf.ml;clear h hf hj;have HFI:=H_ hfi;have HR:=H_ hr;obtain⟨m',hm'⟩ : ∃ m',m'=chM q.m r:=⟨_,rfl⟩;rw [<- hm'] at hmm;have HM':=H_ hm';have HMM:=H_ hmm;have h6':m'.keys.length<=17592186044416:=by rw [hm']; exact chM_keys (HF.out.ms q.m (by rw [<- X0.out.sb.own.rm]; exact List.mem_map_of_mem (List.mem_of_getElem? hr))).1 h6
 clear hfi hr hmm hm';go_enter Tryz.func106,Tryz.ntmps106;go_upto_region 1 with fail
 generalize (World.alloc (World.alloc (World.alloc w _) _) _)=w1 at X0 HJ ⊢;have kf:=find_any (bid:=b.id) (bv:=b.valid) (bn:=b.next) (bh:=b.high) (WA:=WA) (wn:=b.words.length) (wc:=wc) (mc:=mcp) (uid:=r.uid) (X0.out.sb.own.at_ HF.out (B:=w1.heap.size) (fun _ _ h=>h)).2 lr_;rw [HFI.out] at kf;have KF:=H_ kf;clear kf;obtain⟨c0,c1,c2,c3,c4,c5⟩:=X0.out.sb.facts;obtain⟨r0,r1,r2,r3,r4,r5,r6,r7,r8,r9,r10⟩:=X0.out.lb.facts;go_upto_region 2 with (go_at_call 143; refine KF.out.mono ?_; rintro e w2 ⟨rfl,hb2⟩)
 have X1:=H_ (X0.out.go hb2);have HJ1:=H_ (IntsAt.below HJ.out hb2 (by have:=X0.out.size; omega));clear hb2 X0 HJ KF c0 c1 c2 c3 c4 c5 r0 r1 r2 r3 r4 r5 r6 r7 r8 r9 r10;have hk1:k<b.msgs.length:=by rw [<- X1.out.sb.own.rl]; exact (List.getElem?_eq_some_iff.1 HR.out).1
 obtain⟨g,cap,hv,hg1,hg2⟩:=own_form X1.out.sb.own.om (by omega);injection hv with hv1 hv2 hv3;subst hv1 hv3;have hs1:=X1.out.size;have hBB:B<=w2.heap.size:=by omega
 have hs3:w.heap.size+3<=w2.heap.size:=by omega
 have hgne:(Value.slice (some ⟨g,0,none⟩) b.msgs.length mcp).ownBlock≠some w2.heap.size:=fun e=>by have e2:g=w2.heap.size:=Option.some.inj e; omega
 have hgW : ∀ w3:World,w2.heap.size<=w3.heap.size->(Value.slice (some ⟨g,0,none⟩) b.msgs.length mcp).ownBlock≠some w3.heap.size:=fun w3 h3 e=>by have e2:g=w3.heap.size:=Option.some.inj e; omega
 have KC:=H_ (fun (w':World) (X:XB w w' base b (.slice WA b.words.length wc) (.slice (some ⟨g,0,none⟩) b.msgs.length mcp) rs r J jc) (hJ:IntsAt w' B J r.msg.keys.length r.msg.keys) (hh:B<=w'.heap.size)=>changed_any (base:=base) (kc:=q.c) (jc:=jc) (m:=q.m) (r:=r) X.sb.base_le (X.sb.own.ko q (List.mem_of_getElem? HR.out)) hJ hh h6);rw [<- HM'.out] at KC;have xXS1:=X1.out.xs rfl HR.out;unfold XS at xXS1;have XS1:=H_ xXS1;have X2:=H_ (X1.out.alloc (.cells #[.int .i64 0,.int .i64 0,.int .i64 0,.string ⟨#[]⟩,.int .i64 0,.slice none 0 0,.string ⟨#[]⟩] 61));have xXS2:=X2.out.xs rfl HR.out;unfold XS at xXS2;have XS2:=H_ xXS2;have xXSd:=X2.out.drew.xs rfl HR.out;unfold XS at xXSd;have XSd:=H_ xXSd;have Z2:=H_ (mb_new w2 noM none 0);go_upto_region 4 with fail
 go_region_held3 (fun wr=>wr.cell? ⟨w.heap.size,5,none⟩ = some (.slice (some ⟨g,0,none⟩) b.msgs.length mcp)/\wr.cell? ⟨g,k*7,none⟩ = some (.int .i64 q.m.uid)/\wr.cell? ⟨g,k*7+1,none⟩ = some (.int .i64 q.m.mod)/\wr.cell? ⟨g,k*7+2,none⟩ = some (.int .i64 q.m.date)/\wr.cell? ⟨g,k*7+3,none⟩ = some (.string q.m.id)/\wr.cell? ⟨g,k*7+4,none⟩ = some (.int .i64 q.m.flags)/\wr.cell? ⟨g,k*7+5,none⟩ = some (.slice q.K q.m.keys.length q.c)/\wr.cell? ⟨g,k*7+6,none⟩ = some (.string q.m.text)/\wr.cell? ⟨w.heap.size+1,0,none⟩ = some (.int .i64 r.kind)/\wr.cell? ⟨w.heap.size+1,1,none⟩ = some (.int .i64 r.uid)/\wr.cell? ⟨w.heap.size+1,2,none⟩ = some (.int .i64 r.mod)/\wr.cell? ⟨w.heap.size+1,3,none⟩ = some (.int .i64 r.msg.uid)/\wr.cell? ⟨w.heap.size+1,4,none⟩ = some (.int .i64 r.msg.mod)/\wr.cell? ⟨w.heap.size+1,5,none⟩ = some (.int .i64 r.msg.date)/\wr.cell? ⟨w.heap.size+1,6,none⟩ = some (.string r.msg.id)/\wr.cell? ⟨w.heap.size+1,7,none⟩ = some (.int .i64 r.msg.flags)/\wr.cell? ⟨w.heap.size+1,8,none⟩ = some (.slice J r.msg.keys.length jc)/\wr.cell? ⟨w.heap.size+1,9,none⟩ = some (.string r.msg.text)/\wr.cell? ⟨w.heap.size+1,10,none⟩ = some (.string r.text))
  (with_reducible first | exact XS1.out | exact XS2.out | exact XSd.out | exact XS3.out | exact XS4.out | exact XS5.out | go_keep) (first
  | (go_at_call 144
     ((with_reducible refine (KC.out _ ?d1 ?d2 ?d3).mono ?_); rotate_left)
     case d1=>first | exact X1.out | exact X1.out.drew | exact X2.out | exact X2.out.drew
     case d2=>first | exact HJ1.out | exact IntsAt.below HJ1.out (Below.drew (Below.refl _ _)) (by omega) | exact IntsAt.below HJ1.out ((Below.refl _ _).alloc lr_ _) (by omega) | exact IntsAt.below HJ1.out (Below.drew ((Below.refl _ _).alloc lr_ _)) (by omega)
     case d3=>first | exact hBB | (simp; omega)
     rintro e w3 ⟨A1,k1,rfl,hown,hbel⟩
     first
     | (have X3:=H_ (show XB w w3 base b (.slice WA b.words.length wc) (.slice (some ⟨g,0,none⟩) b.msgs.length mcp) rs r J jc by first | exact X1.out.go hbel | exact X1.out.drew.go hbel)
        have Z3:=H_ True.intro;have xXS5:=True.intro;have XS5:=H_ True.intro)
     | (have X3:=H_ (show XB w w3 base b (.slice WA b.words.length wc) (.slice (some ⟨g,0,none⟩) b.msgs.length mcp) rs r J jc by first | exact X2.out.go hbel | exact X2.out.drew.go hbel)
        have Z3:=H_ (show MB w3 w2.heap.size noM none 0 by first | exact Z2.out.go hbel | exact Z2.out.drew.go hbel);obtain⟨z0,z1,z2,z3,z4,z5,z6⟩:=Z3.out.facts;have zf0:=Z3.out.free 0;have zf1:=Z3.out.free 1;have zf2:=Z3.out.free 2;have zf3:=Z3.out.free 3;have zf4:=Z3.out.free 4;have zf5:=Z3.out.free 5;have zf6:=Z3.out.free 6;have xXS5:=(X3.out.fill Z3.out hs3 hgne ⟨m',A1,k1⟩).xs rfl HR.out;unfold XS fill7 at xXS5;dsimp only at xXS5;have XS5:=H_ xXS5;clear xXS5)
     have xXS3:=X3.out.xs rfl HR.out;unfold XS at xXS3;have XS3:=H_ xXS3;have XS4:=H_ ((X3.out.alloc (.cells #[.int .i64 m'.uid,.int .i64 m'.mod,.int .i64 m'.date,.string m'.id,.int .i64 m'.flags,.slice A1 m'.keys.length k1,.string m'.text] 61)).xs rfl HR.out);have HO3:=H_ hown;clear hown hbel;dsimp only))
 all_goals
  clear XS1 XS2 XSd XS3 XS4 XS5 xXS1 xXS2 xXSd xXS3
  try clear xXS5
  have KK:=H_ True.intro;rename_i hHeld;clear hHeld
  first
  | (have X5:=H_ (X3.out.alloc (.cells #[.int .i64 m'.uid,.int .i64 m'.mod,.int .i64 m'.date,.string m'.id,.int .i64 m'.flags,.slice A1 m'.keys.length k1,.string m'.text] 61))
     have M5:=H_ (mb_new w3 m' A1 k1);have HO5:=H_ (HO3.out.alloc (.cells #[.int .i64 m'.uid,.int .i64 m'.mod,.int .i64 m'.date,.string m'.id,.int .i64 m'.flags,.slice A1 m'.keys.length k1,.string m'.text] 61));have N5:=H_ (show (Value.slice (some ⟨g,0,none⟩) b.msgs.length mcp).ownBlock≠some w3.heap.size from fun e=>by have e2:g=w3.heap.size:=Option.some.inj e; have:=(X3.out.sb.own.om.lt g rfl).2; omega);have hQ3:w.heap.size+3<=w3.heap.size:=X3.out.size;obtain⟨Q,hQ⟩ : ∃ Q,Q=w3.heap.size:=⟨_,rfl⟩;rw [<- hQ] at M5 N5 hQ3 ⊢;clear hQ;generalize (World.alloc w3 _)=w4 at X5 M5 HO5 ⊢)
  | (have x5:=X3.out.fill Z3.out hs3 hgne ⟨m',A1,k1⟩
     have m5:=fill7_mb Z3.out ⟨m',A1,k1⟩;have o5:=own_far (W:=fill7 w3 w2.heap.size ⟨m',A1,k1⟩) Z3.out HO3.out (fun k hk=>fill7_other hk _);unfold fill7 at x5 m5 o5;dsimp only at x5 m5 o5;have X5:=H_ x5;have M5:=H_ m5;have HO5:=H_ o5;have N5:=H_ hgne;clear x5 m5 o5;have hQ3:w.heap.size+3<=w2.heap.size:=hs3;obtain⟨Q,hQ⟩ : ∃ Q,Q=w2.heap.size:=⟨_,rfl⟩;rw [<- hQ] at X5 M5 HO5 N5 hQ3 ⊢;clear hQ;generalize (World.setCell (World.setCell (World.setCell (World.setCell (World.setCell (World.setCell (World.setCell w3 _ _) _ _) _ _) _ _) _ _) _ _) _ _)=w4 at X5 M5 HO5 ⊢)
  clear X3 Z3 HO3 X2 Z2 X1 HJ1 KC;have km:=mayMsg_cells (bid:=b.id) (bv:=b.valid) (bn:=b.next) (bh:=b.high) (WA:=WA) (wc:=wc) (MA:=some ⟨g,0,none⟩) (mn:=b.msgs.length) (mc:=mcp) (id:=m'.id) (tx:=m'.text) (u:=m'.uid) (md:=m'.mod) (d:=m'.date) (fl:=m'.flags) (kc:=k1) (intsAt_ownB HO5.out (B:=w4.heap.size) (fun g e=>(HO5.out.lt g e).2) (by omega)) lr_ (show b.words.length<=140737488355328 by omega);rw [show mmE b.words.length ⟨m'.uid,m'.mod,m'.date,m'.id,m'.flags,m'.keys,m'.text⟩=1 from mmE_false HMM.out] at km;have KM:=H_ km;clear km;obtain⟨c0,c1,c2,c3,c4,c5⟩:=X5.out.sb.facts;obtain⟨m0,m1,m2,m3,m4,m5,m6⟩:=M5.out.facts;go_upto_region 6 with (go_at_call 141; refine KM.out.mono ?_; rintro e w5 ⟨rfl,hb5⟩)
  have X6:=H_ (X5.out.go hb5);have M6:=H_ (M5.out.go hb5);have HO6:=H_ (own_block HO5.out fun g e=>hb5.block g (HO5.out.lt g e).2);clear hb5 X5 M5 HO5 KM c0 c1 c2 c3 c4 c5 m0 m1 m2 m3 m4 m5 m6;obtain⟨d0,d1,d2,d3,d4,d5,f0,f1,f2,f3,f4,f5⟩:=X6.out.sb.room;go_wp2_with fail
  obtain⟨W,hW,q0,q1,q2,q3,q4,q5,hO⟩:=X6.out.sb.err 1;unfold put6 at hW;rw [<- hW];exact bodyPost_ret (v:=.tuple #[.agg #[.string ⟨#[]⟩,.int .i64 0,.int .i64 0,.int .i64 0,.slice none 0 0,.slice none 0 0],.int .i64 1]) (by simp [results,Tryz.results106,go_sem,q0,q1,q2,q3,q4,q5]) rfl hO
end Go.Proofs.YtoljpfapphoflaaGreatDoor.RwW5

set_option maxHeartbeats 4000000
set_option maxRecDepth 100000
namespace Go.Proofs.YtoljpfapphoflaaGreatDoor.RwW6
open Go.RowKit BxD BxKit BxA BxR BxC RwD RwKit RwOwn RwDel BxF BxM BxOp RwW1 RwMb RwMc RwW4 RwW5
theorem change_cut {w:World} {base B:Nat} {b:Box} {vw vm:Value} {rs:List Raw} {r:Row} {J:Option Addr} {jc:Nat} (h:OB w base b vw vm rs) (hf:Fit b) (hb:base<=w.heap.size) (hj:IntsAt w B J r.msg.keys.length r.msg.keys) (hB:B<=w.heap.size) (h6:r.msg.keys.length<=17592186044416) {k:Nat} {q:Raw} (hfi:findI b.msgs r.uid=(k:Int)) (hr:rs[k]? = some q) (hmm:mmB b.words.length (chM q.m r)=true) (h3:r.kind=3) :
 Calls Tryz.prog 106 #[.agg #[.string b.id,.int .i64 b.valid,.int .i64 b.next,.int .i64 b.high,vw,vm],.agg #[.int .i64 r.kind,.int .i64 r.uid,.int .i64 r.mod,.int .i64 r.msg.uid,.int .i64 r.msg.mod,.int .i64 r.msg.date,.string r.msg.id,.int .i64 r.msg.flags,.slice J r.msg.keys.length jc,.string r.msg.text,.string r.text]] w (WO ⟨b.id,b.valid,b.next,max b.high (chM q.m r).mod,b.words,lessL b.msgs k⟩ 0 base w):=by
 obtain⟨WA,wc,MA,mcp,rfl,rfl,hwc,hmc⟩:=h.slices;have X0:=H_ (XB.start h hb r J jc);have HJ:=H_ (IntsAt.below hj X0.out.low hB);have HF:=H_ hf;have hwl:=hf.wl;have hml:=hf.ml;clear h hf hj;have HFI:=H_ hfi;have HR:=H_ hr;obtain⟨m',hm'⟩ : ∃ m',m'=chM q.m r:=⟨_,rfl⟩;rw [<- hm'] at hmm ⊢;have HM':=H_ hm';have HMM:=H_ hmm;have h6':m'.keys.length<=17592186044416:=by rw [hm']; exact chM_keys (HF.out.ms q.m (by rw [<- X0.out.sb.own.rm]; exact List.mem_map_of_mem (List.mem_of_getElem? hr))).1 h6
 clear hfi hr hmm hm';have H3:=H_ h3;clear h3;go_enter Tryz.func106,Tryz.ntmps106;go_upto_region 1 with fail
 generalize (World.alloc (World.alloc (World.alloc w _) _) _)=w1 at X0 HJ ⊢;have kf:=find_any (bid:=b.id) (bv:=b.valid) (bn:=b.next) (bh:=b.high) (WA:=WA) (wn:=b.words.length) (wc:=wc) (mc:=mcp) (uid:=r.uid) (X0.out.sb.own.at_ HF.out (B:=w1.heap.size) (fun _ _ h=>h)).2 lr_;rw [HFI.out] at kf;have KF:=H_ kf;clear kf;obtain⟨c0,c1,c2,c3,c4,c5⟩:=X0.out.sb.facts;obtain⟨r0,r1,r2,r3,r4,r5,r6,r7,r8,r9,r10⟩:=X0.out.lb.facts;go_upto_region 2 with (go_at_call 143; refine KF.out.mono ?_; rintro e w2 ⟨rfl,hb2⟩)
 have X1:=H_ (X0.out.go hb2);have HJ1:=H_ (IntsAt.below HJ.out hb2 (by have:=X0.out.size; omega));clear hb2 X0 HJ KF c0 c1 c2 c3 c4 c5 r0 r1 r2 r3 r4 r5 r6 r7 r8 r9 r10;have hk1:k<b.msgs.length:=by rw [<- X1.out.sb.own.rl]; exact (List.getElem?_eq_some_iff.1 HR.out).1
 obtain⟨g,cap,hv,hg1,hg2⟩:=own_form X1.out.sb.own.om (by omega);injection hv with hv1 hv2 hv3;subst hv1 hv3;have hs1:=X1.out.size;have hBB:B<=w2.heap.size:=by omega
 have hs3:w.heap.size+3<=w2.heap.size:=by omega
 have hgne:(Value.slice (some ⟨g,0,none⟩) b.msgs.length mcp).ownBlock≠some w2.heap.size:=fun e=>by have e2:g=w2.heap.size:=Option.some.inj e; omega
 have hgW : ∀ w3:World,w2.heap.size<=w3.heap.size->(Value.slice (some ⟨g,0,none⟩) b.msgs.length mcp).ownBlock≠some w3.heap.size:=fun w3 h3 e=>by have e2:g=w3.heap.size:=Option.some.inj e; omega
 have KC:=H_ (fun (w':World) (X:XB w w' base b (.slice WA b.words.length wc) (.slice (some ⟨g,0,none⟩) b.msgs.length mcp) rs r J jc) (hJ:IntsAt w' B J r.msg.keys.length r.msg.keys) (hh:B<=w'.heap.size)=>changed_any (base:=base) (kc:=q.c) (jc:=jc) (m:=q.m) (r:=r) X.sb.base_le (X.sb.own.ko q (List.mem_of_getElem? HR.out)) hJ hh h6);rw [<- HM'.out] at KC;have xXS1:=X1.out.xs rfl HR.out;unfold XS at xXS1;have XS1:=H_ xXS1;have X2:=H_ (X1.out.alloc (.cells #[.int .i64 0,.int .i64 0,.int .i64 0,.string ⟨#[]⟩,.int .i64 0,.slice none 0 0,.string ⟨#[]⟩] 61));have xXS2:=X2.out.xs rfl HR.out;unfold XS at xXS2;have XS2:=H_ xXS2;have xXSd:=X2.out.drew.xs rfl HR.out;unfold XS at xXSd;have XSd:=H_ xXSd;have Z2:=H_ (mb_new w2 noM none 0);go_upto_region 4 with fail
 go_region_held3 (fun wr=>wr.cell? ⟨w.heap.size,5,none⟩ = some (.slice (some ⟨g,0,none⟩) b.msgs.length mcp)/\wr.cell? ⟨g,k*7,none⟩ = some (.int .i64 q.m.uid)/\wr.cell? ⟨g,k*7+1,none⟩ = some (.int .i64 q.m.mod)/\wr.cell? ⟨g,k*7+2,none⟩ = some (.int .i64 q.m.date)/\wr.cell? ⟨g,k*7+3,none⟩ = some (.string q.m.id)/\wr.cell? ⟨g,k*7+4,none⟩ = some (.int .i64 q.m.flags)/\wr.cell? ⟨g,k*7+5,none⟩ = some (.slice q.K q.m.keys.length q.c)/\wr.cell? ⟨g,k*7+6,none⟩ = some (.string q.m.text)/\wr.cell? ⟨w.heap.size+1,0,none⟩ = some (.int .i64 r.kind)/\wr.cell? ⟨w.heap.size+1,1,none⟩ = some (.int .i64 r.uid)/\wr.cell? ⟨w.heap.size+1,2,none⟩ = some (.int .i64 r.mod)/\wr.cell? ⟨w.heap.size+1,3,none⟩ = some (.int .i64 r.msg.uid)/\wr.cell? ⟨w.heap.size+1,4,none⟩ = some (.int .i64 r.msg.mod)/\wr.cell? ⟨w.heap.size+1,5,none⟩ = some (.int .i64 r.msg.date)/\wr.cell? ⟨w.heap.size+1,6,none⟩ = some (.string r.msg.id)/\wr.cell? ⟨w.heap.size+1,7,none⟩ = some (.int .i64 r.msg.flags)/\wr.cell? ⟨w.heap.size+1,8,none⟩ = some (.slice J r.msg.keys.length jc)/\wr.cell? ⟨w.heap.size+1,9,none⟩ = some (.string r.msg.text)/\wr.cell? ⟨w.heap.size+1,10,none⟩ = some (.string r.text))
  (with_reducible first | exact XS1.out | exact XS2.out | exact XSd.out | exact XS3.out | exact XS4.out | exact XS5.out | go_keep) (first
  | (go_at_call 144
     ((with_reducible refine (KC.out _ ?d1 ?d2 ?d3).mono ?_); rotate_left)
     case d1=>first | exact X1.out | exact X1.out.drew | exact X2.out | exact X2.out.drew
     case d2=>first | exact HJ1.out | exact IntsAt.below HJ1.out (Below.drew (Below.refl _ _)) (by omega) | exact IntsAt.below HJ1.out ((Below.refl _ _).alloc lr_ _) (by omega) | exact IntsAt.below HJ1.out (Below.drew ((Below.refl _ _).alloc lr_ _)) (by omega)
     case d3=>first | exact hBB | (simp; omega)
     rintro e w3 ⟨A1,k1,rfl,hown,hbel⟩
     first
     | (have X3:=H_ (show XB w w3 base b (.slice WA b.words.length wc) (.slice (some ⟨g,0,none⟩) b.msgs.length mcp) rs r J jc by first | exact X1.out.go hbel | exact X1.out.drew.go hbel)
        have Z3:=H_ True.intro;have xXS5:=True.intro;have XS5:=H_ True.intro)
     | (have X3:=H_ (show XB w w3 base b (.slice WA b.words.length wc) (.slice (some ⟨g,0,none⟩) b.msgs.length mcp) rs r J jc by first | exact X2.out.go hbel | exact X2.out.drew.go hbel)
        have Z3:=H_ (show MB w3 w2.heap.size noM none 0 by first | exact Z2.out.go hbel | exact Z2.out.drew.go hbel);obtain⟨z0,z1,z2,z3,z4,z5,z6⟩:=Z3.out.facts;have zf0:=Z3.out.free 0;have zf1:=Z3.out.free 1;have zf2:=Z3.out.free 2;have zf3:=Z3.out.free 3;have zf4:=Z3.out.free 4;have zf5:=Z3.out.free 5;have zf6:=Z3.out.free 6;have xXS5:=(X3.out.fill Z3.out hs3 hgne ⟨m',A1,k1⟩).xs rfl HR.out;unfold XS fill7 at xXS5;dsimp only at xXS5;have XS5:=H_ xXS5;clear xXS5)
     have xXS3:=X3.out.xs rfl HR.out;unfold XS at xXS3;have XS3:=H_ xXS3;have XS4:=H_ ((X3.out.alloc (.cells #[.int .i64 m'.uid,.int .i64 m'.mod,.int .i64 m'.date,.string m'.id,.int .i64 m'.flags,.slice A1 m'.keys.length k1,.string m'.text] 61)).xs rfl HR.out);have HO3:=H_ hown;clear hown hbel;dsimp only))
 all_goals
  clear XS1 XS2 XSd XS3 XS4 XS5 xXS1 xXS2 xXSd xXS3
  try clear xXS5
  have KK:=H_ True.intro;rename_i hHeld;clear hHeld
  first
  | (have X5:=H_ (X3.out.alloc (.cells #[.int .i64 m'.uid,.int .i64 m'.mod,.int .i64 m'.date,.string m'.id,.int .i64 m'.flags,.slice A1 m'.keys.length k1,.string m'.text] 61))
     have M5:=H_ (mb_new w3 m' A1 k1);have HO5:=H_ (HO3.out.alloc (.cells #[.int .i64 m'.uid,.int .i64 m'.mod,.int .i64 m'.date,.string m'.id,.int .i64 m'.flags,.slice A1 m'.keys.length k1,.string m'.text] 61));have N5:=H_ (show (Value.slice (some ⟨g,0,none⟩) b.msgs.length mcp).ownBlock≠some w3.heap.size from fun e=>by have e2:g=w3.heap.size:=Option.some.inj e; have:=(X3.out.sb.own.om.lt g rfl).2; omega);have hQ3:w.heap.size+3<=w3.heap.size:=X3.out.size;obtain⟨Q,hQ⟩ : ∃ Q,Q=w3.heap.size:=⟨_,rfl⟩;rw [<- hQ] at M5 N5 hQ3 ⊢;clear hQ;generalize (World.alloc w3 _)=w4 at X5 M5 HO5 ⊢)
  | (have x5:=X3.out.fill Z3.out hs3 hgne ⟨m',A1,k1⟩
     have m5:=fill7_mb Z3.out ⟨m',A1,k1⟩;have o5:=own_far (W:=fill7 w3 w2.heap.size ⟨m',A1,k1⟩) Z3.out HO3.out (fun k hk=>fill7_other hk _);unfold fill7 at x5 m5 o5;dsimp only at x5 m5 o5;have X5:=H_ x5;have M5:=H_ m5;have HO5:=H_ o5;have N5:=H_ hgne;clear x5 m5 o5;have hQ3:w.heap.size+3<=w2.heap.size:=hs3;obtain⟨Q,hQ⟩ : ∃ Q,Q=w2.heap.size:=⟨_,rfl⟩;rw [<- hQ] at X5 M5 HO5 N5 hQ3 ⊢;clear hQ;generalize (World.setCell (World.setCell (World.setCell (World.setCell (World.setCell (World.setCell (World.setCell w3 _ _) _ _) _ _) _ _) _ _) _ _) _ _)=w4 at X5 M5 HO5 ⊢)
  clear X3 Z3 HO3 X2 Z2 X1 HJ1 KC;have km:=mayMsg_cells (bid:=b.id) (bv:=b.valid) (bn:=b.next) (bh:=b.high) (WA:=WA) (wc:=wc) (MA:=some ⟨g,0,none⟩) (mn:=b.msgs.length) (mc:=mcp) (id:=m'.id) (tx:=m'.text) (u:=m'.uid) (md:=m'.mod) (d:=m'.date) (fl:=m'.flags) (kc:=k1) (intsAt_ownB HO5.out (B:=w4.heap.size) (fun g e=>(HO5.out.lt g e).2) (by omega)) lr_ (show b.words.length<=140737488355328 by omega);rw [show mmE b.words.length ⟨m'.uid,m'.mod,m'.date,m'.id,m'.flags,m'.keys,m'.text⟩=0 from mmE_true HMM.out] at km;have KM:=H_ km;clear km;obtain⟨c0,c1,c2,c3,c4,c5⟩:=X5.out.sb.facts;obtain⟨m0,m1,m2,m3,m4,m5,m6⟩:=M5.out.facts;go_upto_region 6 with (go_at_call 141; refine KM.out.mono ?_; rintro e w5 ⟨rfl,hb5⟩)
  have X6:=H_ (X5.out.go hb5);have M6:=H_ (M5.out.go hb5);have HO6:=H_ (own_block HO5.out fun g e=>hb5.block g (HO5.out.lt g e).2);clear hb5 X5 M5 HO5 KM c0 c1 c2 c3 c4 c5 m0 m1 m2 m3 m4 m5 m6;obtain⟨c0,c1,c2,c3,c4,c5⟩:=X6.out.sb.facts;obtain⟨r0,r1,r2,r3,r4,r5,r6,r7,r8,r9,r10⟩:=X6.out.lb.facts;obtain⟨m0,m1,m2,m3,m4,m5,m6⟩:=M6.out.facts;rw [H3.out] at r0;rcases owns_cases X6.out.sb.own.om with⟨hq0,_,_⟩ | ⟨g2,cap2,rest,hq0,hg3,hrow,hnc,hcm,hl1,hl2⟩
  · cases hq0
  injection hq0 with e1 e2 e3;injection e1 with e1;injection e1 with e1;subst e1 e3;have hrl:=X6.out.sb.own.rl;rw [<- hrl] at hk1 hnc;have hk60:k<60:=by omega
  have KD:=del w5 base g mcp k rs rest (by omega) hg3 hrow hcm hl2 hk1 hnc;rw [hrl] at KD;have KD:=H_ KD;have hrm:=X6.out.sb.own.rm;have hpm:(rs.take k++rs.drop (k+1)).map Raw.m=lessL b.msgs k:=by
   unfold lessL;rw [List.map_append,List.map_take,List.map_drop,hrm]
  have hpl:(lessL b.msgs k).length=(rs.take k++rs.drop (k+1)).length:=by rw [<- hpm,List.length_map]
  obtain⟨nl,hnl⟩ : ∃ nl,nl=(rs.take k++rs.drop (k+1)).length:=⟨_,rfl⟩;rw [<- hnl] at hpl;have HNL:=H_ hnl;clear hnl;have HPM:=H_ hpm;have HPL:=H_ hpl;clear hpm hpl hrm hrow hl1 hl2 hcm hrl
  go_upto_region 11 with (go_at_call 145; go_loud (
                          refine KD.out.mono ?_;rintro e w7 ⟨V7,rfl,hown,hgr⟩;rw [<- HNL.out] at hown;obtain⟨A7,k7,rfl,hk7⟩:=own_slice hown;have b7:=X6.out.sb.midM hgr;have X7:=H_ (X6.out.sb.msgs (rs':=rs.take k++rs.drop (k+1)) (ms':=lessL b.msgs k) (by rw [HPL.out]; exact hown) HPM.out hgr less_keys);have M7:=H_ ((M6.out.grown hgr (Ne.symm N5.out)).oth (P:=w.heap.size) (i:=5) (by omega) (.slice A7 nl k7));clear hown hgr c0 c1 c2 c3 c4 c5 m0 m1 m2 m3 m4 m5 m6 r0 r1 r2 r3 r4 r5 r6 r7 r8 r9 r10;obtain⟨_,_,_,_,_,c5,_,_,_,_,_,f5⟩:=six_at b7;clear b7))
  clear c5 f5 X6 M6 HO6 KD;generalize (World.setCell w7 _ _)=w8 at X7 M7 ⊢;obtain⟨c0,c1,c2,c3,c4,c5⟩:=X7.out.facts;obtain⟨m0,m1,m2,m3,m4,m5,m6⟩:=M7.out.facts;have c6:=X7.out.free 3;go_upto_region 12 with fail
  have e:(if b.high<m'.mod then m'.mod else b.high)=max b.high m'.mod:=by split <;> omega
  try rw [e]
  have P8:=H_ (X7.out.set3 (max b.high m'.mod));clear e c0 c1 c2 c3 c4 c5 c6 X7 M7 m0 m1 m2 m3 m4 m5 m6;generalize (World.setCell w8 _ _)=w9 at P8 ⊢;obtain⟨c0,c1,c2,c3,c4,c5⟩:=P8.out.facts;obtain⟨d0,d1,d2,d3,d4,d5,f0,f1,f2,f3,f4,f5⟩:=P8.out.room;go_wp2_with fail
  obtain⟨W,hW,q0,q1,q2,q3,q4,q5,hO⟩:=P8.out.ret 0;unfold put6 at hW;rw [<- hW];exact bodyPost_ret (v:=.tuple #[.agg #[.string b.id,.int .i64 b.valid,.int .i64 b.next,.int .i64 (max b.high m'.mod),.slice WA b.words.length wc,.slice A7 nl k7],.int .i64 0]) (by simp [results,Tryz.results106,go_sem,q0,q1,q2,q3,q4,q5]) rfl hO
end Go.Proofs.YtoljpfapphoflaaGreatDoor.RwW6

set_option maxHeartbeats 4000000
set_option maxRecDepth 100000
namespace Go.Proofs.YtoljpfapphoflaaGreatDoor.RwW7
open Go.RowKit BxD BxKit BxA BxR BxC RwD RwKit RwOwn RwDel BxF BxM BxOp RwW1 RwMb RwMc RwW4 RwW5
theorem change_set {w:World} {base B:Nat} {b:Box} {vw vm:Value} {rs:List Raw} {r:Row} {J:Option Addr} {jc:Nat} (h:OB w base b vw vm rs) (hf:Fit b) (hb:base<=w.heap.size) (hj:IntsAt w B J r.msg.keys.length r.msg.keys) (hB:B<=w.heap.size) (h6:r.msg.keys.length<=17592186044416) {k:Nat} {q:Raw} (hfi:findI b.msgs r.uid=(k:Int)) (hr:rs[k]? = some q) (hmm:mmB b.words.length (chM q.m r)=true) (h3:r.kind≠3) :
 Calls Tryz.prog 106 #[.agg #[.string b.id,.int .i64 b.valid,.int .i64 b.next,.int .i64 b.high,vw,vm],.agg #[.int .i64 r.kind,.int .i64 r.uid,.int .i64 r.mod,.int .i64 r.msg.uid,.int .i64 r.msg.mod,.int .i64 r.msg.date,.string r.msg.id,.int .i64 r.msg.flags,.slice J r.msg.keys.length jc,.string r.msg.text,.string r.text]] w (WO ⟨b.id,b.valid,b.next,max b.high (chM q.m r).mod,b.words,b.msgs.set k (chM q.m r)⟩ 0 base w):=by
 obtain⟨WA,wc,MA,mcp,rfl,rfl,hwc,hmc⟩:=h.slices;have X0:=H_ (XB.start h hb r J jc);have HJ:=H_ (IntsAt.below hj X0.out.low hB);have HF:=H_ hf;have hwl:=hf.wl;have hml:=hf.ml;clear h hf hj;have HFI:=H_ hfi;have HR:=H_ hr;obtain⟨m',hm'⟩ : ∃ m',m'=chM q.m r:=⟨_,rfl⟩;rw [<- hm'] at hmm ⊢;have HM':=H_ hm';have HMM:=H_ hmm;have h6':m'.keys.length<=17592186044416:=by rw [hm']; exact chM_keys (HF.out.ms q.m (by rw [<- X0.out.sb.own.rm]; exact List.mem_map_of_mem (List.mem_of_getElem? hr))).1 h6
 clear hfi hr hmm hm';have H3:=H_ h3;clear h3;go_enter Tryz.func106,Tryz.ntmps106;go_upto_region 1 with fail
 generalize (World.alloc (World.alloc (World.alloc w _) _) _)=w1 at X0 HJ ⊢;have kf:=find_any (bid:=b.id) (bv:=b.valid) (bn:=b.next) (bh:=b.high) (WA:=WA) (wn:=b.words.length) (wc:=wc) (mc:=mcp) (uid:=r.uid) (X0.out.sb.own.at_ HF.out (B:=w1.heap.size) (fun _ _ h=>h)).2 lr_;rw [HFI.out] at kf;have KF:=H_ kf;clear kf;obtain⟨c0,c1,c2,c3,c4,c5⟩:=X0.out.sb.facts;obtain⟨r0,r1,r2,r3,r4,r5,r6,r7,r8,r9,r10⟩:=X0.out.lb.facts;go_upto_region 2 with (go_at_call 143; refine KF.out.mono ?_; rintro e w2 ⟨rfl,hb2⟩)
 have X1:=H_ (X0.out.go hb2);have HJ1:=H_ (IntsAt.below HJ.out hb2 (by have:=X0.out.size; omega));clear hb2 X0 HJ KF c0 c1 c2 c3 c4 c5 r0 r1 r2 r3 r4 r5 r6 r7 r8 r9 r10;have hk1:k<b.msgs.length:=by rw [<- X1.out.sb.own.rl]; exact (List.getElem?_eq_some_iff.1 HR.out).1
 obtain⟨g,cap,hv,hg1,hg2⟩:=own_form X1.out.sb.own.om (by omega);injection hv with hv1 hv2 hv3;subst hv1 hv3;have hs1:=X1.out.size;have hBB:B<=w2.heap.size:=by omega
 have hs3:w.heap.size+3<=w2.heap.size:=by omega
 have hgne:(Value.slice (some ⟨g,0,none⟩) b.msgs.length mcp).ownBlock≠some w2.heap.size:=fun e=>by have e2:g=w2.heap.size:=Option.some.inj e; omega
 have hgW : ∀ w3:World,w2.heap.size<=w3.heap.size->(Value.slice (some ⟨g,0,none⟩) b.msgs.length mcp).ownBlock≠some w3.heap.size:=fun w3 h3 e=>by have e2:g=w3.heap.size:=Option.some.inj e; omega
 have KC:=H_ (fun (w':World) (X:XB w w' base b (.slice WA b.words.length wc) (.slice (some ⟨g,0,none⟩) b.msgs.length mcp) rs r J jc) (hJ:IntsAt w' B J r.msg.keys.length r.msg.keys) (hh:B<=w'.heap.size)=>changed_any (base:=base) (kc:=q.c) (jc:=jc) (m:=q.m) (r:=r) X.sb.base_le (X.sb.own.ko q (List.mem_of_getElem? HR.out)) hJ hh h6);rw [<- HM'.out] at KC;have xXS1:=X1.out.xs rfl HR.out;unfold XS at xXS1;have XS1:=H_ xXS1;have X2:=H_ (X1.out.alloc (.cells #[.int .i64 0,.int .i64 0,.int .i64 0,.string ⟨#[]⟩,.int .i64 0,.slice none 0 0,.string ⟨#[]⟩] 61));have xXS2:=X2.out.xs rfl HR.out;unfold XS at xXS2;have XS2:=H_ xXS2;have xXSd:=X2.out.drew.xs rfl HR.out;unfold XS at xXSd;have XSd:=H_ xXSd;have Z2:=H_ (mb_new w2 noM none 0);go_upto_region 4 with fail
 go_region_held3 (fun wr=>wr.cell? ⟨w.heap.size,5,none⟩ = some (.slice (some ⟨g,0,none⟩) b.msgs.length mcp)/\wr.cell? ⟨g,k*7,none⟩ = some (.int .i64 q.m.uid)/\wr.cell? ⟨g,k*7+1,none⟩ = some (.int .i64 q.m.mod)/\wr.cell? ⟨g,k*7+2,none⟩ = some (.int .i64 q.m.date)/\wr.cell? ⟨g,k*7+3,none⟩ = some (.string q.m.id)/\wr.cell? ⟨g,k*7+4,none⟩ = some (.int .i64 q.m.flags)/\wr.cell? ⟨g,k*7+5,none⟩ = some (.slice q.K q.m.keys.length q.c)/\wr.cell? ⟨g,k*7+6,none⟩ = some (.string q.m.text)/\wr.cell? ⟨w.heap.size+1,0,none⟩ = some (.int .i64 r.kind)/\wr.cell? ⟨w.heap.size+1,1,none⟩ = some (.int .i64 r.uid)/\wr.cell? ⟨w.heap.size+1,2,none⟩ = some (.int .i64 r.mod)/\wr.cell? ⟨w.heap.size+1,3,none⟩ = some (.int .i64 r.msg.uid)/\wr.cell? ⟨w.heap.size+1,4,none⟩ = some (.int .i64 r.msg.mod)/\wr.cell? ⟨w.heap.size+1,5,none⟩ = some (.int .i64 r.msg.date)/\wr.cell? ⟨w.heap.size+1,6,none⟩ = some (.string r.msg.id)/\wr.cell? ⟨w.heap.size+1,7,none⟩ = some (.int .i64 r.msg.flags)/\wr.cell? ⟨w.heap.size+1,8,none⟩ = some (.slice J r.msg.keys.length jc)/\wr.cell? ⟨w.heap.size+1,9,none⟩ = some (.string r.msg.text)/\wr.cell? ⟨w.heap.size+1,10,none⟩ = some (.string r.text))
  (with_reducible first | exact XS1.out | exact XS2.out | exact XSd.out | exact XS3.out | exact XS4.out | exact XS5.out | go_keep) (first
  | (go_at_call 144
     ((with_reducible refine (KC.out _ ?d1 ?d2 ?d3).mono ?_); rotate_left)
     case d1=>first | exact X1.out | exact X1.out.drew | exact X2.out | exact X2.out.drew
     case d2=>first | exact HJ1.out | exact IntsAt.below HJ1.out (Below.drew (Below.refl _ _)) (by omega) | exact IntsAt.below HJ1.out ((Below.refl _ _).alloc lr_ _) (by omega) | exact IntsAt.below HJ1.out (Below.drew ((Below.refl _ _).alloc lr_ _)) (by omega)
     case d3=>first | exact hBB | (simp; omega)
     rintro e w3 ⟨A1,k1,rfl,hown,hbel⟩
     first
     | (have X3:=H_ (show XB w w3 base b (.slice WA b.words.length wc) (.slice (some ⟨g,0,none⟩) b.msgs.length mcp) rs r J jc by first | exact X1.out.go hbel | exact X1.out.drew.go hbel)
        have Z3:=H_ True.intro;have xXS5:=True.intro;have XS5:=H_ True.intro)
     | (have X3:=H_ (show XB w w3 base b (.slice WA b.words.length wc) (.slice (some ⟨g,0,none⟩) b.msgs.length mcp) rs r J jc by first | exact X2.out.go hbel | exact X2.out.drew.go hbel)
        have Z3:=H_ (show MB w3 w2.heap.size noM none 0 by first | exact Z2.out.go hbel | exact Z2.out.drew.go hbel);obtain⟨z0,z1,z2,z3,z4,z5,z6⟩:=Z3.out.facts;have zf0:=Z3.out.free 0;have zf1:=Z3.out.free 1;have zf2:=Z3.out.free 2;have zf3:=Z3.out.free 3;have zf4:=Z3.out.free 4;have zf5:=Z3.out.free 5;have zf6:=Z3.out.free 6;have xXS5:=(X3.out.fill Z3.out hs3 hgne ⟨m',A1,k1⟩).xs rfl HR.out;unfold XS fill7 at xXS5;dsimp only at xXS5;have XS5:=H_ xXS5;clear xXS5)
     have xXS3:=X3.out.xs rfl HR.out;unfold XS at xXS3;have XS3:=H_ xXS3;have XS4:=H_ ((X3.out.alloc (.cells #[.int .i64 m'.uid,.int .i64 m'.mod,.int .i64 m'.date,.string m'.id,.int .i64 m'.flags,.slice A1 m'.keys.length k1,.string m'.text] 61)).xs rfl HR.out);have HO3:=H_ hown;clear hown hbel;dsimp only))
 all_goals
  clear XS1 XS2 XSd XS3 XS4 XS5 xXS1 xXS2 xXSd xXS3
  try clear xXS5
  have KK:=H_ True.intro;rename_i hHeld;clear hHeld
  first
  | (have X5:=H_ (X3.out.alloc (.cells #[.int .i64 m'.uid,.int .i64 m'.mod,.int .i64 m'.date,.string m'.id,.int .i64 m'.flags,.slice A1 m'.keys.length k1,.string m'.text] 61))
     have M5:=H_ (mb_new w3 m' A1 k1);have HO5:=H_ (HO3.out.alloc (.cells #[.int .i64 m'.uid,.int .i64 m'.mod,.int .i64 m'.date,.string m'.id,.int .i64 m'.flags,.slice A1 m'.keys.length k1,.string m'.text] 61));have N5:=H_ (show (Value.slice (some ⟨g,0,none⟩) b.msgs.length mcp).ownBlock≠some w3.heap.size from fun e=>by have e2:g=w3.heap.size:=Option.some.inj e; have:=(X3.out.sb.own.om.lt g rfl).2; omega);have hQ3:w.heap.size+3<=w3.heap.size:=X3.out.size;obtain⟨Q,hQ⟩ : ∃ Q,Q=w3.heap.size:=⟨_,rfl⟩;rw [<- hQ] at M5 N5 hQ3 ⊢;clear hQ;generalize (World.alloc w3 _)=w4 at X5 M5 HO5 ⊢)
  | (have x5:=X3.out.fill Z3.out hs3 hgne ⟨m',A1,k1⟩
     have m5:=fill7_mb Z3.out ⟨m',A1,k1⟩;have o5:=own_far (W:=fill7 w3 w2.heap.size ⟨m',A1,k1⟩) Z3.out HO3.out (fun k hk=>fill7_other hk _);unfold fill7 at x5 m5 o5;dsimp only at x5 m5 o5;have X5:=H_ x5;have M5:=H_ m5;have HO5:=H_ o5;have N5:=H_ hgne;clear x5 m5 o5;have hQ3:w.heap.size+3<=w2.heap.size:=hs3;obtain⟨Q,hQ⟩ : ∃ Q,Q=w2.heap.size:=⟨_,rfl⟩;rw [<- hQ] at X5 M5 HO5 N5 hQ3 ⊢;clear hQ;generalize (World.setCell (World.setCell (World.setCell (World.setCell (World.setCell (World.setCell (World.setCell w3 _ _) _ _) _ _) _ _) _ _) _ _) _ _)=w4 at X5 M5 HO5 ⊢)
  clear X3 Z3 HO3 X2 Z2 X1 HJ1 KC;have km:=mayMsg_cells (bid:=b.id) (bv:=b.valid) (bn:=b.next) (bh:=b.high) (WA:=WA) (wc:=wc) (MA:=some ⟨g,0,none⟩) (mn:=b.msgs.length) (mc:=mcp) (id:=m'.id) (tx:=m'.text) (u:=m'.uid) (md:=m'.mod) (d:=m'.date) (fl:=m'.flags) (kc:=k1) (intsAt_ownB HO5.out (B:=w4.heap.size) (fun g e=>(HO5.out.lt g e).2) (by omega)) lr_ (show b.words.length<=140737488355328 by omega);rw [show mmE b.words.length ⟨m'.uid,m'.mod,m'.date,m'.id,m'.flags,m'.keys,m'.text⟩=0 from mmE_true HMM.out] at km;have KM:=H_ km;clear km;obtain⟨c0,c1,c2,c3,c4,c5⟩:=X5.out.sb.facts;obtain⟨m0,m1,m2,m3,m4,m5,m6⟩:=M5.out.facts;go_upto_region 6 with (go_at_call 141; refine KM.out.mono ?_; rintro e w5 ⟨rfl,hb5⟩)
  have X6:=H_ (X5.out.go hb5);have M6:=H_ (M5.out.go hb5);have HO6:=H_ (own_block HO5.out fun g e=>hb5.block g (HO5.out.lt g e).2);clear hb5 X5 M5 HO5 KM c0 c1 c2 c3 c4 c5 m0 m1 m2 m3 m4 m5 m6;obtain⟨c0,c1,c2,c3,c4,c5⟩:=X6.out.sb.facts;obtain⟨r0,r1,r2,r3,r4,r5,r6,r7,r8,r9,r10⟩:=X6.out.lb.facts;obtain⟨m0,m1,m2,m3,m4,m5,m6⟩:=M6.out.facts;obtain⟨o0,o1,o2,o3,o4,o5,o6⟩:=mc_at X6.out.sb.own.om (g:=g) rfl HR.out;have fr:=fun i=>own_free X6.out.sb.own.om (g:=g) rfl i;have fr0:=fr (k*7);have fr1:=fr (k*7+1);have fr2:=fr (k*7+2);have fr3:=fr (k*7+3);have fr4:=fr (k*7+4);have fr5:=fr (k*7+5);have fr6:=fr (k*7+6);clear fr;have h3':(r.kind==3)=false:=by simpa using H3.out
  go_upto_region 11 with fail
  have hrl:=X6.out.sb.own.rl;have hkr:k<rs.length:=by omega
  have x7:=X6.out.sb.over (rs':=rs.set k ⟨m',A1,k1⟩) (ms':=b.msgs.set k m') (by rw [List.length_set]) (put7_own X6.out.sb.own.om (g:=g) rfl hkr) (by rw [List.map_set,X6.out.sb.own.rm]) (put7_grown w5 g (k*7) ⟨m',A1,k1⟩) (set_keys HO6.out);have m7:=M6.out.grown (put7_grown w5 g (k*7) ⟨m',A1,k1⟩) (Ne.symm N5.out);unfold put7 at x7 m7;dsimp only at x7 m7;have X7:=H_ x7;have M7:=H_ m7;clear x7 m7 o0 o1 o2 o3 o4 o5 o6 fr0 fr1 fr2 fr3 fr4 fr5 fr6 c0 c1 c2 c3 c4 c5 m0 m1 m2 m3 m4 m5 m6 r0 r1 r2 r3 r4 r5 r6 r7 r8 r9 r10 X6 M6 HO6;generalize (World.setCell (World.setCell (World.setCell (World.setCell (World.setCell (World.setCell (World.setCell w5 _ _) _ _) _ _) _ _) _ _) _ _) _ _)=w8 at X7 M7 ⊢;obtain⟨c0,c1,c2,c3,c4,c5⟩:=X7.out.facts;obtain⟨m0,m1,m2,m3,m4,m5,m6⟩:=M7.out.facts;have c6:=X7.out.free 3;go_upto_region 12 with fail
  have e:(if b.high<m'.mod then m'.mod else b.high)=max b.high m'.mod:=by split <;> omega
  try rw [e]
  have P8:=H_ (X7.out.set3 (max b.high m'.mod));clear e c0 c1 c2 c3 c4 c5 c6 X7 M7 m0 m1 m2 m3 m4 m5 m6;generalize (World.setCell w8 _ _)=w9 at P8 ⊢;obtain⟨c0,c1,c2,c3,c4,c5⟩:=P8.out.facts;obtain⟨d0,d1,d2,d3,d4,d5,f0,f1,f2,f3,f4,f5⟩:=P8.out.room;go_wp2_with fail
  obtain⟨W,hW,q0,q1,q2,q3,q4,q5,hO⟩:=P8.out.ret 0;unfold put6 at hW;rw [<- hW];exact bodyPost_ret (v:=.tuple #[.agg #[.string b.id,.int .i64 b.valid,.int .i64 b.next,.int .i64 (max b.high m'.mod),.slice WA b.words.length wc,.slice (some ⟨g,0,none⟩) b.msgs.length mcp],.int .i64 0]) (by simp [results,Tryz.results106,go_sem,q0,q1,q2,q3,q4,q5]) rfl hO
end Go.Proofs.YtoljpfapphoflaaGreatDoor.RwW7

set_option maxRecDepth 512
namespace Go.Proofs.YtoljpfapphoflaaGreatDoor.RwW8
open Go.RowKit BxD BxKit BxA BxR BxC BxOp RwD RwKit RwOwn BxM RwW1 RwMb RwMc RwW2 RwW3 RwW4 RwW5 RwW6 RwW7
theorem find_cases (ms:List Msg) (u:Int):findI ms u = -1\/∃ k m,ms[k]? = some m/\m.uid=u/\findI ms u=((k:Nat):Int):=by
 unfold findI;split
 · rename_i i hi
   obtain⟨hl,e,_⟩:=List.findIdx?_eq_some_iff_getElem.1 hi;exact .inr ⟨i,ms[i],List.getElem?_eq_getElem hl,by simpa using e,rfl⟩
 · exact .inl rfl
theorem apE_change {b:Box} {r:Row} (hb:mbE b=0) (hk:r.kind=2\/r.kind=3\/r.kind=5\/r.kind=6) :
 apE b r=if findI b.msgs r.uid<0 then 6 else if r.kind=5 then (if atB r.text then 0 else 1) else if r.kind=2/\(flB r.msg.flags&&keysB r.msg.keys b.words.length)=false then 1 else if modB r.mod then 0 else 1:=by
 unfold apE;rw [if_neg (by omega),if_neg (by omega),if_neg (by omega),if_neg (by omega),if_pos hk]
theorem change_E {b:Box} {r:Row} {k:Nat} {m:Msg} (hb:mbE b=0) (hk:r.kind=2\/r.kind=3\/r.kind=5\/r.kind=6) (hm:b.msgs[k]? = some m) (hf:findI b.msgs r.uid=(k:Int)) :
 apE b r=if mmB b.words.length (chM m r) then 0 else 1:=by
 obtain⟨_,_,_,_,h5,_⟩:=(mb_iff b).1 hb;obtain⟨p1,p2,p3,p4,p5,p6,p7⟩:=mm_parts (h5 m (List.mem_of_getElem? hm)).1;rw [apE_change hb hk,if_neg (by omega)];by_cases k5:r.kind=5
 · rw [if_pos k5]
   have e:chM m r=⟨m.uid,m.mod,m.date,r.text,m.flags,m.keys,m.text⟩:=by unfold chM; rw [if_neg (by omega),if_pos k5]
   rw [e];by_cases ha:atB r.text=true
   · rw [if_pos ha,if_pos (show mmB b.words.length ⟨m.uid,m.mod,m.date,r.text,m.flags,m.keys,m.text⟩=true from mm_of p1 p2 p3 ha p5 p6 p7)]
   · rw [if_neg ha,if_neg (show ¬ mmB b.words.length ⟨m.uid,m.mod,m.date,r.text,m.flags,m.keys,m.text⟩=true from fun h=>ha (mm_parts h).2.2.2.1)]
 rw [if_neg k5];by_cases k2:r.kind=2
 · have e:chM m r=⟨m.uid,r.mod,m.date,m.id,r.msg.flags,r.msg.keys,m.text⟩:=by unfold chM; rw [if_pos k2]
   rw [e];by_cases hfk:(flB r.msg.flags&&keysB r.msg.keys b.words.length)=true
   · rw [if_neg (by rw [hfk]; simp)]
     rw [Bool.and_eq_true] at hfk;by_cases hmo:modB r.mod=true
     · rw [if_pos hmo,if_pos (show mmB b.words.length ⟨m.uid,r.mod,m.date,m.id,r.msg.flags,r.msg.keys,m.text⟩=true from mm_of p1 (inB_out hmo) p3 p4 (inB_out hfk.1) hfk.2 p7)]
     · rw [if_neg hmo,if_neg (show ¬ mmB b.words.length ⟨m.uid,r.mod,m.date,m.id,r.msg.flags,r.msg.keys,m.text⟩=true from fun h=>hmo (inB_true (mm_parts h).2.1.1 (mm_parts h).2.1.2))]
   · have hfk2:(flB r.msg.flags&&keysB r.msg.keys b.words.length)=false:=by simpa using hfk
     have hn : ¬ mmB b.words.length ⟨m.uid,r.mod,m.date,m.id,r.msg.flags,r.msg.keys,m.text⟩=true:=fun h=>by
      obtain⟨_,_,_,_,q5,q6,_⟩:=mm_parts h;exact hfk (by rw [Bool.and_eq_true]; exact⟨inB_true q5.1 q5.2,q6⟩)
     rw [if_pos ⟨k2,hfk2⟩,if_neg hn]
 rw [if_neg (fun h=>k2 h.1)];have e:chM m r=⟨m.uid,r.mod,m.date,m.id,m.flags,m.keys,m.text⟩:=by unfold chM; rw [if_neg k2,if_neg k5,if_pos (by omega)]
 rw [e];by_cases hmo:modB r.mod=true
 · rw [if_pos hmo,if_pos (show mmB b.words.length ⟨m.uid,r.mod,m.date,m.id,m.flags,m.keys,m.text⟩=true from mm_of p1 (inB_out hmo) p3 p4 p5 p6 p7)]
 · rw [if_neg hmo,if_neg (show ¬ mmB b.words.length ⟨m.uid,r.mod,m.date,m.id,m.flags,m.keys,m.text⟩=true from fun h=>hmo (inB_true (mm_parts h).2.1.1 (mm_parts h).2.1.2))]
theorem change_B {b:Box} {r:Row} {k:Nat} {m:Msg} (hb:mbE b=0) (hk:r.kind=2\/r.kind=3\/r.kind=5\/r.kind=6) (hm:b.msgs[k]? = some m) (hu:m.uid=r.uid) :
 apB b r=if r.kind=3 then ⟨b.id,b.valid,b.next,max b.high (chM m r).mod,b.words,lessL b.msgs k⟩ else ⟨b.id,b.valid,b.next,max b.high (chM m r).mod,b.words,b.msgs.set k (chM m r)⟩:=by
 obtain⟨_,_,_,_,h5,h6⟩:=(mb_iff b).1 hb;have hh:=(h5 m (List.mem_of_getElem? hm)).2.2;unfold apB;by_cases k3:r.kind=3
 · have e:chM m r=⟨m.uid,r.mod,m.date,m.id,m.flags,m.keys,m.text⟩:=by unfold chM; rw [if_neg (by omega),if_neg (by omega),if_pos (.inr k3)]
   rw [if_neg (by omega),if_neg (by omega),if_neg (by omega),if_neg (by omega),if_pos k3,if_pos k3,e,del_less h6 hm hu]
 rw [if_neg (show ¬ r.kind=1 by omega),if_neg (show ¬ r.kind=4 by omega),if_neg (show ¬ r.kind=7 by omega),if_neg k3,if_neg k3];by_cases k5:r.kind=5
 · have e:chM m r=⟨m.uid,m.mod,m.date,r.text,m.flags,m.keys,m.text⟩:=by unfold chM; rw [if_neg (by omega),if_pos k5]
   rw [if_pos k5,e,upd_set h6 hm hu];show _=Box.mk _ _ _ (max b.high m.mod) _ _;rw [show max b.high m.mod=b.high by omega]
 rw [if_neg k5];by_cases k2:r.kind=2
 · have e:chM m r=⟨m.uid,r.mod,m.date,m.id,r.msg.flags,r.msg.keys,m.text⟩:=by unfold chM; rw [if_pos k2]
   rw [if_pos k2,e,upd_set h6 hm hu]
 · have e:chM m r=⟨m.uid,r.mod,m.date,m.id,m.flags,m.keys,m.text⟩:=by unfold chM; rw [if_neg k2,if_neg k5,if_pos (by omega)]
   rw [if_neg k2,e,upd_set h6 hm hu]
theorem withChange_any {w:World} {base B:Nat} {b:Box} {vw vm:Value} {rs:List Raw} {r:Row} {J:Option Addr} {jc:Nat} (h:OB w base b vw vm rs) (hf:Fit b) (hb:base<=w.heap.size) (hj:IntsAt w B J r.msg.keys.length r.msg.keys) (hB:B<=w.heap.size) (h6:r.msg.keys.length<=17592186044416) (h0:mbE b=0) (hk:r.kind=2\/r.kind=3\/r.kind=5\/r.kind=6) :
 Calls Tryz.prog 106 #[.agg #[.string b.id,.int .i64 b.valid,.int .i64 b.next,.int .i64 b.high,vw,vm],.agg #[.int .i64 r.kind,.int .i64 r.uid,.int .i64 r.mod,.int .i64 r.msg.uid,.int .i64 r.msg.mod,.int .i64 r.msg.date,.string r.msg.id,.int .i64 r.msg.flags,.slice J r.msg.keys.length jc,.string r.msg.text,.string r.text]] w (WO (either (apE b r) (apB b r)) (apE b r) base w):=by
 rcases find_cases b.msgs r.uid with hn | ⟨k,m,hm,hu,hf1⟩
 · have hE:apE b r=6:=by rw [apE_change h0 hk,if_pos (by omega)]
   rw [hE];unfold either;rw [if_neg (by decide)];exact change_none h hf hb hj hB h6 hn
 · have hE:=change_E h0 hk hm hf1
   have hBx:=change_B h0 hk hm hu;have hr : ∃ q,rs[k]? = some q/\q.m=m:=by
    have:=h.rm;rw [<- this,List.getElem?_map] at hm;cases hq:rs[k]? with
    | none=>rw [hq] at hm; cases hm
    | some q=>rw [hq] at hm; exact⟨q,rfl,Option.some.inj hm⟩
   obtain⟨q,hr,rfl⟩:=hr;by_cases hmm:mmB b.words.length (chM q.m r)=true
   · rw [if_pos hmm] at hE
     rw [hE,hBx];unfold either;rw [if_pos rfl];by_cases k3:r.kind=3
     · rw [if_pos k3]
       exact change_cut h hf hb hj hB h6 hf1 hr hmm k3
     · rw [if_neg k3]
       exact change_set h hf hb hj hB h6 hf1 hr hmm k3
   · rw [if_neg hmm] at hE
     rw [hE];unfold either;rw [if_neg (by decide)];exact change_bad h hf hb hj hB h6 hf1 hr (by simpa using hmm)
end Go.Proofs.YtoljpfapphoflaaGreatDoor.RwW8

set_option maxHeartbeats 4000000
set_option maxRecDepth 100000
namespace Go.Proofs.YtoljpfapphoflaaGreatDoor.RwW9
open Go.RowKit BxD BxKit BxA BxR BxC BxOp RwD RwKit RwOwn BxM RwW1 RwMb RwMc RwW2 RwW3 RwW8
structure RB (w wr:World) (base R:Nat) (b:Box) (vw vm:Value) (rs:List Raw):Prop where
 bel:Below base w wr
 hb:base<=w.heap.size
 hR:w.heap.size<=R
 res:wr.heap[R]? = some (.cells #[.string ⟨#[]⟩,.int .i64 0,.int .i64 0,.int .i64 0,.slice none 0 0,.slice none 0 0] 25 (0,0))
 own:OB wr base b vw vm rs
 ty : ∀ (k:Nat) (cs:Array Value) (t:TypeId) (fr:Nat × Nat),w.heap[k]? = some (.cells cs t fr)->t≠9->t≠61->wr.heap[k]? = w.heap[k]?
section
variable {w wr w2 : World} {base P R : Nat} {b c : Box} {vw vm vw' vm' : Value} {rs rs' : List Raw}
theorem RB.ret (h:RB w wr base R b vw vm rs) (er:Int) : ∃ W,W=put6 wr R (.string b.id) (.int .i64 b.valid) (.int .i64 b.next) (.int .i64 b.high) vw vm /\
 W.cell? ⟨R,0,none⟩ = some (.string b.id)/\W.cell? ⟨R,1,none⟩ = some (.int .i64 b.valid)/\W.cell? ⟨R,2,none⟩ = some (.int .i64 b.next)/\W.cell? ⟨R,3,none⟩ = some (.int .i64 b.high)/\W.cell? ⟨R,4,none⟩ = some vw/\W.cell? ⟨R,5,none⟩ = some vm /\
 WO b er base w (.returned (.tuple #[.agg #[.string b.id,.int .i64 b.valid,.int .i64 b.next,.int .i64 b.high,vw,vm],.int .i64 er])) W:=by
 refine⟨_,rfl, ?_⟩;have hR:(put6 wr R (.string b.id) (.int .i64 b.valid) (.int .i64 b.next) (.int .i64 b.high) vw vm).heap[R]? = some (.cells #[.string b.id,.int .i64 b.valid,.int .i64 b.next,.int .i64 b.high,vw,vm] 25 (0,0)):=by
  unfold put6; simp [World.setCell,Array.getElem?_modify,h.res]
 obtain⟨a0,a1,a2,a3,a4,a5,_⟩:=six_at hR;have hbR:base<=R:=Nat.le_trans h.hb h.hR;refine⟨a0,a1,a2,a3,a4,a5,vw,vm,rs,rfl, ?_, ?_,fun k cs t fr hk h1 h2=>(put6_other (by have:=(gs_ hk).1; have:=h.hR; omega) _ _ _ _ _ _).trans (h.ty k cs t fr hk h1 h2)⟩
 · have ne : ∀ {e sz n:Nat} {v:Value} {xs:List Value},wr.ownsRow base e sz v n xs->e≠25->(put6 wr R (.string b.id) (.int .i64 b.valid) (.int .i64 b.next) (.int .i64 b.high) vw vm).ownsRow base e sz v n xs:=fun hx he =>
    own_block hx fun g e=>put6_other (fun e2=>own_ne_blk hx h.res he (by rw [<- e2]; exact e)) _ _ _ _ _ _
   exact⟨ne h.own.ow (by decide),ne h.own.om (by decide),h.own.rm,fun r hr=>ne (h.own.ko r hr) (by decide)⟩
 · unfold put6
   exact (((((h.bel.setCell hbR _).setCell hbR _).setCell hbR _).setCell hbR _).setCell hbR _).setCell hbR _
theorem RB.of (h:SB w wr base P R b vw vm rs) (ob:OB w2 base c vw' vm' rs') (bel:Below base wr w2) (ty : ∀ (k:Nat) (cs:Array Value) (t:TypeId) (fr:Nat × Nat),wr.heap[k]? = some (.cells cs t fr)->t≠9->t≠61->w2.heap[k]? = wr.heap[k]?):RB w w2 base R c vw' vm' rs' :=
 ⟨h.bel.trans bel,h.hb,h.hR,(ty _ _ _ _ h.res (by decide) (by decide)).trans h.res,ob,fun k cs t fr hk h1 h2=>(ty k cs t fr ((h.ty k cs t fr hk h1 h2).trans hk) h1 h2).trans (h.ty k cs t fr hk h1 h2)⟩
end
theorem with_msg {w:World} {base B:Nat} {b:Box} {vw vm:Value} {rs:List Raw} {r:Row} {J:Option Addr} {jc:Nat} (h:OB w base b vw vm rs) (hf:Fit b) (hb:base<=w.heap.size) (hj:IntsAt w B J r.msg.keys.length r.msg.keys) (hB:B<=w.heap.size) (h6:r.msg.keys.length<=17592186044416) (h0:mbE b=0) (hk:r.kind=1) :
 Calls Tryz.prog 69 #[.agg #[.string b.id,.int .i64 b.valid,.int .i64 b.next,.int .i64 b.high,vw,vm],.agg #[.int .i64 r.kind,.int .i64 r.uid,.int .i64 r.mod,.int .i64 r.msg.uid,.int .i64 r.msg.mod,.int .i64 r.msg.date,.string r.msg.id,.int .i64 r.msg.flags,.slice J r.msg.keys.length jc,.string r.msg.text,.string r.text]] w (WO (either (msgE b r.msg) (msgB b r.msg)) (msgE b r.msg) base w):=by
 obtain⟨WA,wc,MA,mcp,rfl,rfl,hwc,hmc⟩:=h.slices;have X0:=H_ (XB.start h hb r J jc);have HJ:=H_ (IntsAt.below hj X0.out.low hB);have HF:=H_ hf;have H0:=H_ h0;have HKI:=H_ hk;clear h hf hj h0 hk;obtain⟨C,hC⟩ : ∃ C,C=either (msgE b r.msg) (msgB b r.msg):=⟨_,rfl⟩;obtain⟨E,hE⟩ : ∃ E,E=(msgE b r.msg):=⟨_,rfl⟩;have HC:=H_ hC;have HE:=H_ hE;rw [<- hC,<- hE];clear hC hE;go_enter Tryz.func69,Tryz.ntmps69;go_upto_region 1 with fail
 generalize (World.alloc (World.alloc (World.alloc w _) _) _)=w1 at X0 HJ ⊢;have hs1:=X0.out.size;have kc:=withMsg_any (kc:=jc) (m:=r.msg) X0.out.sb.own HF.out X0.out.sb.base_le HJ.out (by omega) h6;rw [<- HC.out,<- HE.out] at kc;have KC:=H_ kc;clear kc;obtain⟨c0,c1,c2,c3,c4,c5⟩:=X0.out.sb.facts;obtain⟨r0,r1,r2,r3,r4,r5,r6,r7,r8,r9,r10⟩:=X0.out.lb.facts;rw [HKI.out] at r0;go_upto_region 3 with fail
 go_wp2_with (go_at_call 105; go_loud (
              refine KC.out.mono ?_;rintro e w2 ⟨vw2,vm2,rs2,rfl,ob,bel,ty⟩;obtain⟨WA2,wc2,MA2,mc2,rfl,rfl,_,_⟩:=ob.slices;have R2:=H_ (RB.of X0.out.sb ob bel ty);clear ob bel ty c0 c1 c2 c3 c4 c5 r0 r1 r2 r3 r4 r5 r6 r7 r8 r9 r10;obtain⟨d0,d1,d2,d3,d4,d5,f0,f1,f2,f3,f4,f5⟩:=six_at R2.out.res))
 obtain⟨W,hW,q0,q1,q2,q3,q4,q5,hO⟩:=R2.out.ret E;unfold put6 at hW;rw [<- hW];exact bodyPost_ret (v:=.tuple #[.agg #[.string C.id,.int .i64 C.valid,.int .i64 C.next,.int .i64 C.high,.slice WA2 C.words.length wc2,.slice MA2 C.msgs.length mc2],.int .i64 E]) (by simp [results,Tryz.results69,go_sem,q0,q1,q2,q3,q4,q5]) rfl hO
theorem with_word {w:World} {base B:Nat} {b:Box} {vw vm:Value} {rs:List Raw} {r:Row} {J:Option Addr} {jc:Nat} (h:OB w base b vw vm rs) (hf:Fit b) (hb:base<=w.heap.size) (hj:IntsAt w B J r.msg.keys.length r.msg.keys) (hB:B<=w.heap.size) (h6:r.msg.keys.length<=17592186044416) (h0:mbE b=0) (hk:r.kind=4) :
 Calls Tryz.prog 69 #[.agg #[.string b.id,.int .i64 b.valid,.int .i64 b.next,.int .i64 b.high,vw,vm],.agg #[.int .i64 r.kind,.int .i64 r.uid,.int .i64 r.mod,.int .i64 r.msg.uid,.int .i64 r.msg.mod,.int .i64 r.msg.date,.string r.msg.id,.int .i64 r.msg.flags,.slice J r.msg.keys.length jc,.string r.msg.text,.string r.text]] w (WO (either (wordE b r.text) (wordB b r.text)) (wordE b r.text) base w):=by
 obtain⟨WA,wc,MA,mcp,rfl,rfl,hwc,hmc⟩:=h.slices;have X0:=H_ (XB.start h hb r J jc);have HJ:=H_ (IntsAt.below hj X0.out.low hB);have HF:=H_ hf;have H0:=H_ h0;have HKI:=H_ hk;clear h hf hj h0 hk;obtain⟨C,hC⟩ : ∃ C,C=either (wordE b r.text) (wordB b r.text):=⟨_,rfl⟩;obtain⟨E,hE⟩ : ∃ E,E=(wordE b r.text):=⟨_,rfl⟩;have HC:=H_ hC;have HE:=H_ hE;rw [<- hC,<- hE];clear hC hE;go_enter Tryz.func69,Tryz.ntmps69;go_upto_region 1 with fail
 generalize (World.alloc (World.alloc (World.alloc w _) _) _)=w1 at X0 HJ ⊢;have hs1:=X0.out.size;have kc:=withWord_any (x:=r.text) X0.out.sb.own HF.out X0.out.sb.base_le;rw [<- HC.out,<- HE.out] at kc;have KC:=H_ kc;clear kc;obtain⟨c0,c1,c2,c3,c4,c5⟩:=X0.out.sb.facts;obtain⟨r0,r1,r2,r3,r4,r5,r6,r7,r8,r9,r10⟩:=X0.out.lb.facts;rw [HKI.out] at r0;go_upto_region 2 with fail
 go_wp2_with (go_at_call 107; go_loud (
              refine KC.out.mono ?_;rintro e w2 ⟨vw2,vm2,rs2,rfl,ob,bel,ty⟩;obtain⟨WA2,wc2,MA2,mc2,rfl,rfl,_,_⟩:=ob.slices;have R2:=H_ (RB.of X0.out.sb ob bel ty);clear ob bel ty c0 c1 c2 c3 c4 c5 r0 r1 r2 r3 r4 r5 r6 r7 r8 r9 r10;obtain⟨d0,d1,d2,d3,d4,d5,f0,f1,f2,f3,f4,f5⟩:=six_at R2.out.res))
 obtain⟨W,hW,q0,q1,q2,q3,q4,q5,hO⟩:=R2.out.ret E;unfold put6 at hW;rw [<- hW];exact bodyPost_ret (v:=.tuple #[.agg #[.string C.id,.int .i64 C.valid,.int .i64 C.next,.int .i64 C.high,.slice WA2 C.words.length wc2,.slice MA2 C.msgs.length mc2],.int .i64 E]) (by simp [results,Tryz.results69,go_sem,q0,q1,q2,q3,q4,q5]) rfl hO
theorem with_high {w:World} {base B:Nat} {b:Box} {vw vm:Value} {rs:List Raw} {r:Row} {J:Option Addr} {jc:Nat} (h:OB w base b vw vm rs) (hf:Fit b) (hb:base<=w.heap.size) (hj:IntsAt w B J r.msg.keys.length r.msg.keys) (hB:B<=w.heap.size) (h6:r.msg.keys.length<=17592186044416) (h0:mbE b=0) (hk:r.kind=7) :
 Calls Tryz.prog 69 #[.agg #[.string b.id,.int .i64 b.valid,.int .i64 b.next,.int .i64 b.high,vw,vm],.agg #[.int .i64 r.kind,.int .i64 r.uid,.int .i64 r.mod,.int .i64 r.msg.uid,.int .i64 r.msg.mod,.int .i64 r.msg.date,.string r.msg.id,.int .i64 r.msg.flags,.slice J r.msg.keys.length jc,.string r.msg.text,.string r.text]] w (WO (either (highE r.mod) (highB b r.mod)) (highE r.mod) base w):=by
 obtain⟨WA,wc,MA,mcp,rfl,rfl,hwc,hmc⟩:=h.slices;have X0:=H_ (XB.start h hb r J jc);have HJ:=H_ (IntsAt.below hj X0.out.low hB);have HF:=H_ hf;have H0:=H_ h0;have HKI:=H_ hk;clear h hf hj h0 hk;obtain⟨C,hC⟩ : ∃ C,C=either (highE r.mod) (highB b r.mod):=⟨_,rfl⟩;obtain⟨E,hE⟩ : ∃ E,E=(highE r.mod):=⟨_,rfl⟩;have HC:=H_ hC;have HE:=H_ hE;rw [<- hC,<- hE];clear hC hE;go_enter Tryz.func69,Tryz.ntmps69;go_upto_region 1 with fail
 generalize (World.alloc (World.alloc (World.alloc w _) _) _)=w1 at X0 HJ ⊢;have hs1:=X0.out.size;have kc:=withHigh_any (m:=r.mod) X0.out.sb.own X0.out.sb.base_le;rw [<- HC.out,<- HE.out] at kc;have KC:=H_ kc;clear kc;obtain⟨c0,c1,c2,c3,c4,c5⟩:=X0.out.sb.facts;obtain⟨r0,r1,r2,r3,r4,r5,r6,r7,r8,r9,r10⟩:=X0.out.lb.facts;rw [HKI.out] at r0;go_upto_region 2 with fail
 go_wp2_with (go_at_call 108; go_loud (
              refine KC.out.mono ?_;rintro e w2 ⟨vw2,vm2,rs2,rfl,ob,bel,ty⟩;obtain⟨WA2,wc2,MA2,mc2,rfl,rfl,_,_⟩:=ob.slices;have R2:=H_ (RB.of X0.out.sb ob bel ty);clear ob bel ty c0 c1 c2 c3 c4 c5 r0 r1 r2 r3 r4 r5 r6 r7 r8 r9 r10;obtain⟨d0,d1,d2,d3,d4,d5,f0,f1,f2,f3,f4,f5⟩:=six_at R2.out.res))
 obtain⟨W,hW,q0,q1,q2,q3,q4,q5,hO⟩:=R2.out.ret E;unfold put6 at hW;rw [<- hW];exact bodyPost_ret (v:=.tuple #[.agg #[.string C.id,.int .i64 C.valid,.int .i64 C.next,.int .i64 C.high,.slice WA2 C.words.length wc2,.slice MA2 C.msgs.length mc2],.int .i64 E]) (by simp [results,Tryz.results69,go_sem,q0,q1,q2,q3,q4,q5]) rfl hO
theorem with_k2 {w:World} {base B:Nat} {b:Box} {vw vm:Value} {rs:List Raw} {r:Row} {J:Option Addr} {jc:Nat} (h:OB w base b vw vm rs) (hf:Fit b) (hb:base<=w.heap.size) (hj:IntsAt w B J r.msg.keys.length r.msg.keys) (hB:B<=w.heap.size) (h6:r.msg.keys.length<=17592186044416) (h0:mbE b=0) (hk:r.kind=2) :
 Calls Tryz.prog 69 #[.agg #[.string b.id,.int .i64 b.valid,.int .i64 b.next,.int .i64 b.high,vw,vm],.agg #[.int .i64 r.kind,.int .i64 r.uid,.int .i64 r.mod,.int .i64 r.msg.uid,.int .i64 r.msg.mod,.int .i64 r.msg.date,.string r.msg.id,.int .i64 r.msg.flags,.slice J r.msg.keys.length jc,.string r.msg.text,.string r.text]] w (WO (either (apE b r) (apB b r)) (apE b r) base w):=by
 obtain⟨WA,wc,MA,mcp,rfl,rfl,hwc,hmc⟩:=h.slices;have X0:=H_ (XB.start h hb r J jc);have HJ:=H_ (IntsAt.below hj X0.out.low hB);have HF:=H_ hf;have H0:=H_ h0;have HKI:=H_ hk;clear h hf hj h0 hk;obtain⟨C,hC⟩ : ∃ C,C=either (apE b r) (apB b r):=⟨_,rfl⟩;obtain⟨E,hE⟩ : ∃ E,E=(apE b r):=⟨_,rfl⟩;have HC:=H_ hC;have HE:=H_ hE;rw [<- hC,<- hE];clear hC hE;go_enter Tryz.func69,Tryz.ntmps69;go_upto_region 1 with fail
 generalize (World.alloc (World.alloc (World.alloc w _) _) _)=w1 at X0 HJ ⊢;have hs1:=X0.out.size;have kc:=withChange_any (jc:=jc) X0.out.sb.own HF.out X0.out.sb.base_le HJ.out (by omega) h6 H0.out (.inl HKI.out);rw [<- HC.out,<- HE.out] at kc;rw [HKI.out] at kc;have KC:=H_ kc;clear kc;obtain⟨c0,c1,c2,c3,c4,c5⟩:=X0.out.sb.facts;obtain⟨r0,r1,r2,r3,r4,r5,r6,r7,r8,r9,r10⟩:=X0.out.lb.facts;rw [HKI.out] at r0;go_upto_region 2 with fail
 go_wp2_with (go_at_call 106; go_loud (
              refine KC.out.mono ?_;rintro e w2 ⟨vw2,vm2,rs2,rfl,ob,bel,ty⟩;obtain⟨WA2,wc2,MA2,mc2,rfl,rfl,_,_⟩:=ob.slices;have R2:=H_ (RB.of X0.out.sb ob bel ty);clear ob bel ty c0 c1 c2 c3 c4 c5 r0 r1 r2 r3 r4 r5 r6 r7 r8 r9 r10;obtain⟨d0,d1,d2,d3,d4,d5,f0,f1,f2,f3,f4,f5⟩:=six_at R2.out.res))
 obtain⟨W,hW,q0,q1,q2,q3,q4,q5,hO⟩:=R2.out.ret E;unfold put6 at hW;rw [<- hW];exact bodyPost_ret (v:=.tuple #[.agg #[.string C.id,.int .i64 C.valid,.int .i64 C.next,.int .i64 C.high,.slice WA2 C.words.length wc2,.slice MA2 C.msgs.length mc2],.int .i64 E]) (by simp [results,Tryz.results69,go_sem,q0,q1,q2,q3,q4,q5]) rfl hO
theorem with_k3 {w:World} {base B:Nat} {b:Box} {vw vm:Value} {rs:List Raw} {r:Row} {J:Option Addr} {jc:Nat} (h:OB w base b vw vm rs) (hf:Fit b) (hb:base<=w.heap.size) (hj:IntsAt w B J r.msg.keys.length r.msg.keys) (hB:B<=w.heap.size) (h6:r.msg.keys.length<=17592186044416) (h0:mbE b=0) (hk:r.kind=3) :
 Calls Tryz.prog 69 #[.agg #[.string b.id,.int .i64 b.valid,.int .i64 b.next,.int .i64 b.high,vw,vm],.agg #[.int .i64 r.kind,.int .i64 r.uid,.int .i64 r.mod,.int .i64 r.msg.uid,.int .i64 r.msg.mod,.int .i64 r.msg.date,.string r.msg.id,.int .i64 r.msg.flags,.slice J r.msg.keys.length jc,.string r.msg.text,.string r.text]] w (WO (either (apE b r) (apB b r)) (apE b r) base w):=by
 obtain⟨WA,wc,MA,mcp,rfl,rfl,hwc,hmc⟩:=h.slices;have X0:=H_ (XB.start h hb r J jc);have HJ:=H_ (IntsAt.below hj X0.out.low hB);have HF:=H_ hf;have H0:=H_ h0;have HKI:=H_ hk;clear h hf hj h0 hk;obtain⟨C,hC⟩ : ∃ C,C=either (apE b r) (apB b r):=⟨_,rfl⟩;obtain⟨E,hE⟩ : ∃ E,E=(apE b r):=⟨_,rfl⟩;have HC:=H_ hC;have HE:=H_ hE;rw [<- hC,<- hE];clear hC hE;go_enter Tryz.func69,Tryz.ntmps69;go_upto_region 1 with fail
 generalize (World.alloc (World.alloc (World.alloc w _) _) _)=w1 at X0 HJ ⊢;have hs1:=X0.out.size;have kc:=withChange_any (jc:=jc) X0.out.sb.own HF.out X0.out.sb.base_le HJ.out (by omega) h6 H0.out (.inr (.inl HKI.out));rw [<- HC.out,<- HE.out] at kc;rw [HKI.out] at kc;have KC:=H_ kc;clear kc;obtain⟨c0,c1,c2,c3,c4,c5⟩:=X0.out.sb.facts;obtain⟨r0,r1,r2,r3,r4,r5,r6,r7,r8,r9,r10⟩:=X0.out.lb.facts;rw [HKI.out] at r0;go_upto_region 2 with fail
 go_wp2_with (go_at_call 106; go_loud (
              refine KC.out.mono ?_;rintro e w2 ⟨vw2,vm2,rs2,rfl,ob,bel,ty⟩;obtain⟨WA2,wc2,MA2,mc2,rfl,rfl,_,_⟩:=ob.slices;have R2:=H_ (RB.of X0.out.sb ob bel ty);clear ob bel ty c0 c1 c2 c3 c4 c5 r0 r1 r2 r3 r4 r5 r6 r7 r8 r9 r10;obtain⟨d0,d1,d2,d3,d4,d5,f0,f1,f2,f3,f4,f5⟩:=six_at R2.out.res))
 obtain⟨W,hW,q0,q1,q2,q3,q4,q5,hO⟩:=R2.out.ret E;unfold put6 at hW;rw [<- hW];exact bodyPost_ret (v:=.tuple #[.agg #[.string C.id,.int .i64 C.valid,.int .i64 C.next,.int .i64 C.high,.slice WA2 C.words.length wc2,.slice MA2 C.msgs.length mc2],.int .i64 E]) (by simp [results,Tryz.results69,go_sem,q0,q1,q2,q3,q4,q5]) rfl hO
theorem with_k5 {w:World} {base B:Nat} {b:Box} {vw vm:Value} {rs:List Raw} {r:Row} {J:Option Addr} {jc:Nat} (h:OB w base b vw vm rs) (hf:Fit b) (hb:base<=w.heap.size) (hj:IntsAt w B J r.msg.keys.length r.msg.keys) (hB:B<=w.heap.size) (h6:r.msg.keys.length<=17592186044416) (h0:mbE b=0) (hk:r.kind=5) :
 Calls Tryz.prog 69 #[.agg #[.string b.id,.int .i64 b.valid,.int .i64 b.next,.int .i64 b.high,vw,vm],.agg #[.int .i64 r.kind,.int .i64 r.uid,.int .i64 r.mod,.int .i64 r.msg.uid,.int .i64 r.msg.mod,.int .i64 r.msg.date,.string r.msg.id,.int .i64 r.msg.flags,.slice J r.msg.keys.length jc,.string r.msg.text,.string r.text]] w (WO (either (apE b r) (apB b r)) (apE b r) base w):=by
 obtain⟨WA,wc,MA,mcp,rfl,rfl,hwc,hmc⟩:=h.slices;have X0:=H_ (XB.start h hb r J jc);have HJ:=H_ (IntsAt.below hj X0.out.low hB);have HF:=H_ hf;have H0:=H_ h0;have HKI:=H_ hk;clear h hf hj h0 hk;obtain⟨C,hC⟩ : ∃ C,C=either (apE b r) (apB b r):=⟨_,rfl⟩;obtain⟨E,hE⟩ : ∃ E,E=(apE b r):=⟨_,rfl⟩;have HC:=H_ hC;have HE:=H_ hE;rw [<- hC,<- hE];clear hC hE;go_enter Tryz.func69,Tryz.ntmps69;go_upto_region 1 with fail
 generalize (World.alloc (World.alloc (World.alloc w _) _) _)=w1 at X0 HJ ⊢;have hs1:=X0.out.size;have kc:=withChange_any (jc:=jc) X0.out.sb.own HF.out X0.out.sb.base_le HJ.out (by omega) h6 H0.out (.inr (.inr (.inl HKI.out)));rw [<- HC.out,<- HE.out] at kc;rw [HKI.out] at kc;have KC:=H_ kc;clear kc;obtain⟨c0,c1,c2,c3,c4,c5⟩:=X0.out.sb.facts;obtain⟨r0,r1,r2,r3,r4,r5,r6,r7,r8,r9,r10⟩:=X0.out.lb.facts;rw [HKI.out] at r0;go_upto_region 2 with fail
 go_wp2_with (go_at_call 106; go_loud (
              refine KC.out.mono ?_;rintro e w2 ⟨vw2,vm2,rs2,rfl,ob,bel,ty⟩;obtain⟨WA2,wc2,MA2,mc2,rfl,rfl,_,_⟩:=ob.slices;have R2:=H_ (RB.of X0.out.sb ob bel ty);clear ob bel ty c0 c1 c2 c3 c4 c5 r0 r1 r2 r3 r4 r5 r6 r7 r8 r9 r10;obtain⟨d0,d1,d2,d3,d4,d5,f0,f1,f2,f3,f4,f5⟩:=six_at R2.out.res))
 obtain⟨W,hW,q0,q1,q2,q3,q4,q5,hO⟩:=R2.out.ret E;unfold put6 at hW;rw [<- hW];exact bodyPost_ret (v:=.tuple #[.agg #[.string C.id,.int .i64 C.valid,.int .i64 C.next,.int .i64 C.high,.slice WA2 C.words.length wc2,.slice MA2 C.msgs.length mc2],.int .i64 E]) (by simp [results,Tryz.results69,go_sem,q0,q1,q2,q3,q4,q5]) rfl hO
theorem with_k6 {w:World} {base B:Nat} {b:Box} {vw vm:Value} {rs:List Raw} {r:Row} {J:Option Addr} {jc:Nat} (h:OB w base b vw vm rs) (hf:Fit b) (hb:base<=w.heap.size) (hj:IntsAt w B J r.msg.keys.length r.msg.keys) (hB:B<=w.heap.size) (h6:r.msg.keys.length<=17592186044416) (h0:mbE b=0) (hk:r.kind=6) :
 Calls Tryz.prog 69 #[.agg #[.string b.id,.int .i64 b.valid,.int .i64 b.next,.int .i64 b.high,vw,vm],.agg #[.int .i64 r.kind,.int .i64 r.uid,.int .i64 r.mod,.int .i64 r.msg.uid,.int .i64 r.msg.mod,.int .i64 r.msg.date,.string r.msg.id,.int .i64 r.msg.flags,.slice J r.msg.keys.length jc,.string r.msg.text,.string r.text]] w (WO (either (apE b r) (apB b r)) (apE b r) base w):=by
 obtain⟨WA,wc,MA,mcp,rfl,rfl,hwc,hmc⟩:=h.slices;have X0:=H_ (XB.start h hb r J jc);have HJ:=H_ (IntsAt.below hj X0.out.low hB);have HF:=H_ hf;have H0:=H_ h0;have HKI:=H_ hk;clear h hf hj h0 hk;obtain⟨C,hC⟩ : ∃ C,C=either (apE b r) (apB b r):=⟨_,rfl⟩;obtain⟨E,hE⟩ : ∃ E,E=(apE b r):=⟨_,rfl⟩;have HC:=H_ hC;have HE:=H_ hE;rw [<- hC,<- hE];clear hC hE;go_enter Tryz.func69,Tryz.ntmps69;go_upto_region 1 with fail
 generalize (World.alloc (World.alloc (World.alloc w _) _) _)=w1 at X0 HJ ⊢;have hs1:=X0.out.size;have kc:=withChange_any (jc:=jc) X0.out.sb.own HF.out X0.out.sb.base_le HJ.out (by omega) h6 H0.out (.inr (.inr (.inr HKI.out)));rw [<- HC.out,<- HE.out] at kc;rw [HKI.out] at kc;have KC:=H_ kc;clear kc;obtain⟨c0,c1,c2,c3,c4,c5⟩:=X0.out.sb.facts;obtain⟨r0,r1,r2,r3,r4,r5,r6,r7,r8,r9,r10⟩:=X0.out.lb.facts;rw [HKI.out] at r0;go_upto_region 2 with fail
 go_wp2_with (go_at_call 106; go_loud (
              refine KC.out.mono ?_;rintro e w2 ⟨vw2,vm2,rs2,rfl,ob,bel,ty⟩;obtain⟨WA2,wc2,MA2,mc2,rfl,rfl,_,_⟩:=ob.slices;have R2:=H_ (RB.of X0.out.sb ob bel ty);clear ob bel ty c0 c1 c2 c3 c4 c5 r0 r1 r2 r3 r4 r5 r6 r7 r8 r9 r10;obtain⟨d0,d1,d2,d3,d4,d5,f0,f1,f2,f3,f4,f5⟩:=six_at R2.out.res))
 obtain⟨W,hW,q0,q1,q2,q3,q4,q5,hO⟩:=R2.out.ret E;unfold put6 at hW;rw [<- hW];exact bodyPost_ret (v:=.tuple #[.agg #[.string C.id,.int .i64 C.valid,.int .i64 C.next,.int .i64 C.high,.slice WA2 C.words.length wc2,.slice MA2 C.msgs.length mc2],.int .i64 E]) (by simp [results,Tryz.results69,go_sem,q0,q1,q2,q3,q4,q5]) rfl hO
theorem with_none {w:World} {base B:Nat} {b:Box} {vw vm:Value} {rs:List Raw} {r:Row} {J:Option Addr} {jc:Nat} (h:OB w base b vw vm rs) (hf:Fit b) (hb:base<=w.heap.size) (hj:IntsAt w B J r.msg.keys.length r.msg.keys) (hB:B<=w.heap.size) (h6:r.msg.keys.length<=17592186044416) (h1:r.kind≠1) (h2:r.kind≠2) (h3:r.kind≠3) (h4:r.kind≠4) (h5:r.kind≠5) (h66:r.kind≠6) (h7:r.kind≠7) :
 Calls Tryz.prog 69 #[.agg #[.string b.id,.int .i64 b.valid,.int .i64 b.next,.int .i64 b.high,vw,vm],.agg #[.int .i64 r.kind,.int .i64 r.uid,.int .i64 r.mod,.int .i64 r.msg.uid,.int .i64 r.msg.mod,.int .i64 r.msg.date,.string r.msg.id,.int .i64 r.msg.flags,.slice J r.msg.keys.length jc,.string r.msg.text,.string r.text]] w (WO noB 1 base w):=by
 obtain⟨WA,wc,MA,mcp,rfl,rfl,hwc,hmc⟩:=h.slices;have X0:=H_ (XB.start h hb r J jc);clear h hf hj;go_enter Tryz.func69,Tryz.ntmps69;go_upto_region 1 with fail
 generalize (World.alloc (World.alloc (World.alloc w _) _) _)=w1 at X0 ⊢;obtain⟨c0,c1,c2,c3,c4,c5⟩:=X0.out.sb.facts;obtain⟨r0,r1,r2,r3,r4,r5,r6,r7,r8,r9,r10⟩:=X0.out.lb.facts;obtain⟨d0,d1,d2,d3,d4,d5,f0,f1,f2,f3,f4,f5⟩:=X0.out.sb.room;go_wp2_with fail
 obtain⟨W,hW,q0,q1,q2,q3,q4,q5,hO⟩:=X0.out.sb.err 1;unfold put6 at hW;rw [<- hW];exact bodyPost_ret (v:=.tuple #[.agg #[.string ⟨#[]⟩,.int .i64 0,.int .i64 0,.int .i64 0,.slice none 0 0,.slice none 0 0],.int .i64 1]) (by simp [results,Tryz.results69,go_sem,q0,q1,q2,q3,q4,q5]) rfl hO
theorem with_any {w:World} {base B:Nat} {b:Box} {vw vm:Value} {rs:List Raw} {r:Row} {J:Option Addr} {jc:Nat} (h:OB w base b vw vm rs) (hf:Fit b) (hb:base<=w.heap.size) (hj:IntsAt w B J r.msg.keys.length r.msg.keys) (hB:B<=w.heap.size) (h6:r.msg.keys.length<=17592186044416) (h0:mbE b=0) :
 Calls Tryz.prog 69 #[.agg #[.string b.id,.int .i64 b.valid,.int .i64 b.next,.int .i64 b.high,vw,vm],.agg #[.int .i64 r.kind,.int .i64 r.uid,.int .i64 r.mod,.int .i64 r.msg.uid,.int .i64 r.msg.mod,.int .i64 r.msg.date,.string r.msg.id,.int .i64 r.msg.flags,.slice J r.msg.keys.length jc,.string r.msg.text,.string r.text]] w (WO (either (apE b r) (apB b r)) (apE b r) base w):=by
 by_cases k1:r.kind=1
 · have e1:apE b r=msgE b r.msg:=by unfold apE msgE; rw [if_neg (by omega),if_pos k1]
   have e2:apB b r=msgB b r.msg:=by unfold apB msgB; rw [if_pos k1]
   rw [e1,e2];exact with_msg h hf hb hj hB h6 h0 k1
 by_cases k2:r.kind=2
 · exact with_k2 h hf hb hj hB h6 h0 k2
 by_cases k3:r.kind=3
 · exact with_k3 h hf hb hj hB h6 h0 k3
 by_cases k4:r.kind=4
 · have e1:apE b r=wordE b r.text:=by unfold apE wordE; rw [if_neg (by omega),if_neg k1,if_pos k4]
   have e2:apB b r=wordB b r.text:=by unfold apB wordB; rw [if_neg k1,if_pos k4]
   rw [e1,e2];exact with_word h hf hb hj hB h6 h0 k4
 by_cases k5:r.kind=5
 · exact with_k5 h hf hb hj hB h6 h0 k5
 by_cases k6:r.kind=6
 · exact with_k6 h hf hb hj hB h6 h0 k6
 by_cases k7:r.kind=7
 · have e1:apE b r=highE r.mod:=by unfold apE highE; rw [if_neg (by omega),if_neg k1,if_neg k4,if_pos k7]
   have e2:apB b r=highB b r.mod:=by unfold apB highB; rw [if_neg k1,if_neg k4,if_pos k7]
   rw [e1,e2];exact with_high h hf hb hj hB h6 h0 k7
 · have e1:apE b r=1:=by unfold apE; rw [if_neg (by omega),if_neg k1,if_neg k4,if_neg k7,if_neg (by omega)]
   rw [e1];unfold either;rw [if_neg (by decide)];exact with_none h hf hb hj hB h6 k1 k2 k3 k4 k5 k6 k7
end Go.Proofs.YtoljpfapphoflaaGreatDoor.RwW9
