/-
  RwW1 + RwW2 + RwMb + RwW3 + RwDel + RwMc + RwW4
-/
import Derived.Test.YtoljpfapphoflaaGreatDoorL3
import Derived.Test.YtoljpfapphoflaaGreatDoorL1
import Derived.Deep.DeepCutAuto
import Derived.Test.YtoljpfapphoflaaGreatDoorN4
import Derived.Laws.OwnMore
import Derived.Laws.CopyRow
import Derived.Deep.Draws
import Derived.Lib.Hide
import Derived.RegionTactic
import Derived.Deep.RegionLaw
import Derived.Deep.RegionHeld3
set_option linter.unusedVariables false
set_option linter.unusedSimpArgs false
set_option maxHeartbeats 2000000
set_option maxRecDepth 512
namespace Go.Proofs.YtoljpfapphoflaaGreatDoor.RwW1
open Go.RowKit BxD BxKit BxA BxR BxC RwD RwKit RwOwn BxAtom
theorem below_none {w w':World} (h:w.grownBy w' none):Below w.heap.size w w':=⟨h.os,h.tape,h.output,h.size,fun k hk=>h.block k hk (by simp)⟩
def ClPost (ks:List Int) (w:World) (e:Ending) (w':World):Prop :=
 ∃ A c,e = .returned (.slice A ks.length c)/\w'.ownsRow w.heap.size 3 1 (.slice A ks.length c) ks.length (ks.map (Value.int .i64))/\Below w.heap.size w w'
theorem cloned_any {K:Option Addr} {kn kc B:Nat} {ks:List Int} {w:World} (hk:IntsAt w B K kn ks) (h6:kn<=17592186044416):Calls Tryz.prog 142 #[.slice K kn kc] w (ClPost ks w):=by
 have hl:=hk.len;subst hl;have HS:=H_ (ints_src hk);clear hk;go_enter Tryz.func142,Tryz.ntmps142;go_upto_region 1 with fail
 go_wp2_with (at_builtin
              refine wpList_rows elI rfl _ _ rfl rfl rfl (World.ownsRow_nil _ w.heap.size _ _) HS.out (by unfold maxLen; omega) (by omega) lr_ ?_;intro v1 w1 hown hg _;obtain⟨A1,k1,rfl,hk1⟩:=own_slice hown;rw [Nat.zero_add,List.nil_append] at hown;have HO:=H_ hown;have HG:=H_ (below_none hg);clear hown hg)
 go_ret;exact⟨A1,k1,rfl,HO.out,HG.out⟩
theorem SB.start {w:World} {base:Nat} {b:Box} {vw vm:Value} {rs:List Raw} (h:OB w base b vw vm rs) (hb:base<=w.heap.size) :
 SB w ((w.alloc (.cells #[.string b.id,.int .i64 b.valid,.int .i64 b.next,.int .i64 b.high,vw,vm] 25)).alloc (.cells #[.string ⟨#[]⟩,.int .i64 0,.int .i64 0,.int .i64 0,.slice none 0 0,.slice none 0 0] 25)) base w.heap.size (w.heap.size+1) b vw vm rs:=by
 have hB:Below w.heap.size w ((w.alloc (.cells #[.string b.id,.int .i64 b.valid,.int .i64 b.next,.int .i64 b.high,vw,vm] 25)).alloc (.cells #[.string ⟨#[]⟩,.int .i64 0,.int .i64 0,.int .i64 0,.slice none 0 0,.slice none 0 0] 25)):=((Below.refl _ _).alloc lr_ _).alloc (by simp) _;refine⟨hB.mono hb,hb,Nat.le_refl _,by omega,by omega, ?_, ?_,h.go hB, ?_⟩
 · exact (heap_alloc_old _ _ (by simp)).trans (heap_alloc_new w _)
 · have:=heap_alloc_new (w.alloc (.cells #[.string b.id,.int .i64 b.valid,.int .i64 b.next,.int .i64 b.high,vw,vm] 25)) (.cells #[.string ⟨#[]⟩,.int .i64 0,.int .i64 0,.int .i64 0,.slice none 0 0,.slice none 0 0] 25)
   simpa using this
 · exact fun k cs t fr hk _ _=>hB.block k (gs_ hk).1
def highE (m:Int):Int:=if modB m then 0 else 1
def highB (b:Box) (m:Int):Box:=⟨b.id,b.valid,b.next,max b.high m,b.words,b.msgs⟩
def wordE (b:Box) (x:ByteArray):Int:=if atB x=false then 1 else if x∈b.words then 7 else if 64<=b.words.length then 4 else 0
def wordB (b:Box) (x:ByteArray):Box:=⟨b.id,b.valid,b.next,b.high,b.words++[x],b.msgs⟩
def either (e:Int) (b:Box):Box:=if e=0 then b else noB
set_option maxRecDepth 100000 in
theorem withHigh_any {w:World} {base:Nat} {b:Box} {vw vm:Value} {rs:List Raw} {m:Int} (h:OB w base b vw vm rs) (hb:base<=w.heap.size) :
 Calls Tryz.prog 108 #[.agg #[.string b.id,.int .i64 b.valid,.int .i64 b.next,.int .i64 b.high,vw,vm],.int .i64 m] w (WO (either (highE m) (highB b m)) (highE m) base w):=by
 obtain⟨WA,wc,MA,mcp,rfl,rfl,_,_⟩:=h.slices;have P0:=H_ (SB.start h hb);clear h;by_cases hm:modB m=true
 · have hE:highE m=0:=by unfold highE; rw [if_pos hm]
   rw [hE];unfold either;rw [if_pos rfl];obtain⟨m1,m2⟩:=inB_out hm;clear hm hE;have g1 : ¬ m<1:=by omega
   have g2 : ¬ m>1000000:=by omega
   go_enter Tryz.func108,Tryz.ntmps108;go_upto_region 1 with fail
   generalize (World.alloc (World.alloc w _) _)=w1 at P0 ⊢;obtain⟨c0,c1,c2,c3,c4,c5⟩:=P0.out.facts;have c6:=P0.out.free 3;go_upto_region 4 with fail
   have e:(if b.high<m then m else b.high)=max b.high m:=by split <;> omega
   try rw [e]
   clear e c0 c1 c2 c3 c4 c5 c6;have P1:=H_ (P0.out.set3 (max b.high m));clear P0;generalize (World.setCell w1 _ _)=w2 at P1 ⊢;obtain⟨c0,c1,c2,c3,c4,c5⟩:=P1.out.facts;obtain⟨d0,d1,d2,d3,d4,d5,f0,f1,f2,f3,f4,f5⟩:=P1.out.room;go_wp2_with fail
   obtain⟨W,hW,q0,q1,q2,q3,q4,q5,hO⟩:=P1.out.ret 0;unfold put6 at hW;rw [<- hW];refine bodyPost_ret (v:=.tuple #[.agg #[.string b.id,.int .i64 b.valid,.int .i64 b.next,.int .i64 (max b.high m),.slice WA b.words.length wc,.slice MA b.msgs.length mcp],.int .i64 0]) (by simp [results,Tryz.results108,go_sem,q0,q1,q2,q3,q4,q5]) rfl hO
 · have hE:highE m=1:=by unfold highE; rw [if_neg hm]
   rw [hE];unfold either;rw [if_neg (by decide)];have hm2:m<1\/1000000<m:=by
    rcases Int.lt_or_le m 1 with h1 | h1
    · exact .inl h1
    · rcases Int.lt_or_le 1000000 m with h2 | h2
      · exact .inr h2
      · exact absurd (inB_true h1 h2) hm
   clear hm hE;go_enter Tryz.func108,Tryz.ntmps108;go_upto_region 1 with fail
   generalize (World.alloc (World.alloc w _) _)=w1 at P0 ⊢;obtain⟨d0,d1,d2,d3,d4,d5,f0,f1,f2,f3,f4,f5⟩:=P0.out.room;rcases hm2 with h1 | h1
   · go_wp2_with fail
     obtain⟨W,hW,q0,q1,q2,q3,q4,q5,hO⟩:=P0.out.err 1;unfold put6 at hW;rw [<- hW];refine bodyPost_ret (v:=.tuple #[.agg #[.string ⟨#[]⟩,.int .i64 0,.int .i64 0,.int .i64 0,.slice none 0 0,.slice none 0 0],.int .i64 1]) (by simp [results,Tryz.results108,go_sem,q0,q1,q2,q3,q4,q5]) rfl hO
   · have h2 : ¬ m<1:=by omega
     go_wp2_with fail
     obtain⟨W,hW,q0,q1,q2,q3,q4,q5,hO⟩:=P0.out.err 1;unfold put6 at hW;rw [<- hW];refine bodyPost_ret (v:=.tuple #[.agg #[.string ⟨#[]⟩,.int .i64 0,.int .i64 0,.int .i64 0,.slice none 0 0,.slice none 0 0],.int .i64 1]) (by simp [results,Tryz.results108,go_sem,q0,q1,q2,q3,q4,q5]) rfl hO
end Go.Proofs.YtoljpfapphoflaaGreatDoor.RwW1

set_option maxHeartbeats 2000000
set_option maxRecDepth 100000
namespace Go.Proofs.YtoljpfapphoflaaGreatDoor.RwW2
open Go.RowKit BxD BxKit BxA BxR BxC RwD RwKit RwOwn BxAtom RwW1
theorem word_bad {w:World} {base:Nat} {b:Box} {vw vm:Value} {rs:List Raw} {x:ByteArray} (h:OB w base b vw vm rs) (hf:Fit b) (hb:base<=w.heap.size) (ha:atB x=false) :
 Calls Tryz.prog 107 #[.agg #[.string b.id,.int .i64 b.valid,.int .i64 b.next,.int .i64 b.high,vw,vm],.string x] w (WO noB 1 base w):=by
 obtain⟨WA,wc,MA,mcp,rfl,rfl,hwc,hmc⟩:=h.slices;have P0:=H_ (SB.start h hb);have HF:=H_ hf;have hwl:=hf.wl;have C:=fun w=>may_any x w;have KD0:=H_ (fun (w1:World) (P:SB w w1 base w.heap.size (w.heap.size+1) b (.slice WA b.words.length wc) (.slice MA b.msgs.length mcp) rs)=>contains_any (cp:=wc) x (P.own.at_ hf (B:=w1.heap.size) (fun _ _ h=>h)).1);clear h hf;rw [ha] at C;have KC:=H_ C;clear C ha;go_enter Tryz.func107,Tryz.ntmps107;go_upto_region 1 with fail
 generalize (World.alloc (World.alloc w _) _)=w1 at P0 ⊢;obtain⟨c0,c1,c2,c3,c4,c5⟩:=P0.out.facts;obtain⟨d0,d1,d2,d3,d4,d5,f0,f1,f2,f3,f4,f5⟩:=P0.out.room;go_wp2_with (go_at_call 140; refine (KC.out _).mono ?_; rintro e w' ⟨rfl,rfl⟩)
 obtain⟨W,hW,q0,q1,q2,q3,q4,q5,hO⟩:=P0.out.err 1;unfold put6 at hW;rw [<- hW];exact bodyPost_ret (v:=.tuple #[.agg #[.string ⟨#[]⟩,.int .i64 0,.int .i64 0,.int .i64 0,.slice none 0 0,.slice none 0 0],.int .i64 1]) (by simp [results,Tryz.results107,go_sem,q0,q1,q2,q3,q4,q5]) rfl hO
theorem word_two {w:World} {base:Nat} {b:Box} {vw vm:Value} {rs:List Raw} {x:ByteArray} (h:OB w base b vw vm rs) (hf:Fit b) (hb:base<=w.heap.size) (ha:atB x=true) (hx:x∈b.words) :
 Calls Tryz.prog 107 #[.agg #[.string b.id,.int .i64 b.valid,.int .i64 b.next,.int .i64 b.high,vw,vm],.string x] w (WO noB 7 base w):=by
 obtain⟨WA,wc,MA,mcp,rfl,rfl,hwc,hmc⟩:=h.slices;have P0:=H_ (SB.start h hb);have HF:=H_ hf;have hwl:=hf.wl;have C:=fun w=>may_any x w;have KD0:=H_ (fun (w1:World) (P:SB w w1 base w.heap.size (w.heap.size+1) b (.slice WA b.words.length wc) (.slice MA b.msgs.length mcp) rs)=>contains_any (cp:=wc) x (P.own.at_ hf (B:=w1.heap.size) (fun _ _ h=>h)).1);clear h hf;rw [ha] at C;have KC:=H_ C;clear C ha;have HX:=H_ hx;clear hx;go_enter Tryz.func107,Tryz.ntmps107;go_upto_region 1 with fail
 generalize (World.alloc (World.alloc w _) _)=w1 at P0 ⊢;obtain⟨c0,c1,c2,c3,c4,c5⟩:=P0.out.facts;obtain⟨d0,d1,d2,d3,d4,d5,f0,f1,f2,f3,f4,f5⟩:=P0.out.room;have KD:=KD0.out w1 P0.out;rw [show decide (x∈b.words)=true from decide_eq_true HX.out] at KD;have KD:=H_ KD;clear KD0;go_wp2_with (first | (go_at_call 140; refine (KC.out _).mono ?_; rintro e w' ⟨rfl,rfl⟩) | (go_at_call 117; refine KD.out.mono ?_; rintro e w' ⟨rfl,rfl⟩))
 obtain⟨W,hW,q0,q1,q2,q3,q4,q5,hO⟩:=P0.out.err 7;unfold put6 at hW;rw [<- hW];exact bodyPost_ret (v:=.tuple #[.agg #[.string ⟨#[]⟩,.int .i64 0,.int .i64 0,.int .i64 0,.slice none 0 0,.slice none 0 0],.int .i64 7]) (by simp [results,Tryz.results107,go_sem,q0,q1,q2,q3,q4,q5]) rfl hO
theorem word_full {w:World} {base:Nat} {b:Box} {vw vm:Value} {rs:List Raw} {x:ByteArray} (h:OB w base b vw vm rs) (hf:Fit b) (hb:base<=w.heap.size) (ha:atB x=true) (hx:x∉b.words) (hg:64<=b.words.length) :
 Calls Tryz.prog 107 #[.agg #[.string b.id,.int .i64 b.valid,.int .i64 b.next,.int .i64 b.high,vw,vm],.string x] w (WO noB 4 base w):=by
 obtain⟨WA,wc,MA,mcp,rfl,rfl,hwc,hmc⟩:=h.slices;have P0:=H_ (SB.start h hb);have HF:=H_ hf;have hwl:=hf.wl;have C:=fun w=>may_any x w;have KD0:=H_ (fun (w1:World) (P:SB w w1 base w.heap.size (w.heap.size+1) b (.slice WA b.words.length wc) (.slice MA b.msgs.length mcp) rs)=>contains_any (cp:=wc) x (P.own.at_ hf (B:=w1.heap.size) (fun _ _ h=>h)).1);clear h hf;rw [ha] at C;have KC:=H_ C;clear C ha;have HX:=H_ hx;clear hx;go_enter Tryz.func107,Tryz.ntmps107;go_upto_region 1 with fail
 generalize (World.alloc (World.alloc w _) _)=w1 at P0 ⊢;obtain⟨c0,c1,c2,c3,c4,c5⟩:=P0.out.facts;obtain⟨d0,d1,d2,d3,d4,d5,f0,f1,f2,f3,f4,f5⟩:=P0.out.room;have KD:=KD0.out w1 P0.out;rw [show decide (x∈b.words)=false from decide_eq_false HX.out] at KD;have KD:=H_ KD;clear KD0;go_wp2_with (first | (go_at_call 140; refine (KC.out _).mono ?_; rintro e w' ⟨rfl,rfl⟩) | (go_at_call 117; refine KD.out.mono ?_; rintro e w' ⟨rfl,rfl⟩))
 obtain⟨W,hW,q0,q1,q2,q3,q4,q5,hO⟩:=P0.out.err 4;unfold put6 at hW;rw [<- hW];exact bodyPost_ret (v:=.tuple #[.agg #[.string ⟨#[]⟩,.int .i64 0,.int .i64 0,.int .i64 0,.slice none 0 0,.slice none 0 0],.int .i64 4]) (by simp [results,Tryz.results107,go_sem,q0,q1,q2,q3,q4,q5]) rfl hO
theorem word_ok {w:World} {base:Nat} {b:Box} {vw vm:Value} {rs:List Raw} {x:ByteArray} (h:OB w base b vw vm rs) (hf:Fit b) (hb:base<=w.heap.size) (ha:atB x=true) (hx:x∉b.words) (hg : ¬ 64<=b.words.length) :
 Calls Tryz.prog 107 #[.agg #[.string b.id,.int .i64 b.valid,.int .i64 b.next,.int .i64 b.high,vw,vm],.string x] w (WO (wordB b x) 0 base w):=by
 obtain⟨WA,wc,MA,mcp,rfl,rfl,hwc,hmc⟩:=h.slices;have P0:=H_ (SB.start h hb);have HF:=H_ hf;have hwl:=hf.wl;have C:=fun w=>may_any x w;have KD0:=H_ (fun (w1:World) (P:SB w w1 base w.heap.size (w.heap.size+1) b (.slice WA b.words.length wc) (.slice MA b.msgs.length mcp) rs)=>contains_any (cp:=wc) x (P.own.at_ hf (B:=w1.heap.size) (fun _ _ h=>h)).1);clear h hf;rw [ha] at C;have KC:=H_ C;clear C ha;have HX:=H_ hx;clear hx;go_enter Tryz.func107,Tryz.ntmps107;go_upto_region 1 with fail
 generalize (World.alloc (World.alloc w _) _)=w1 at P0 ⊢;obtain⟨c0,c1,c2,c3,c4,c5⟩:=P0.out.facts;obtain⟨d0,d1,d2,d3,d4,d5,f0,f1,f2,f3,f4,f5⟩:=P0.out.room;have KD:=KD0.out w1 P0.out;rw [show decide (x∈b.words)=false from decide_eq_false HX.out] at KD;have KD:=H_ KD;go_upto_region 7 with (first | (go_at_call 140; refine (KC.out _).mono ?_; rintro e w' ⟨rfl,rfl⟩) | (go_at_call 117; refine KD.out.mono ?_; rintro e w' ⟨rfl,rfl⟩))
 have HS:=H_ (src_new w1 #[.string x] 9 (m:=1) (sz:=1) rfl rfl (fun u hu=>by simp at hu; subst hu; rfl));have HO:=H_ ((P0.out.alloc (.cells #[.string x] 9)).own.ow);have HSZ:=H_ (P0.out.alloc (.cells #[.string x] 9)).base_le;have HB9:=H_ (show b.words.length+1<=maxLen by unfold maxLen; omega)
 go_upto_region 8 with (at_builtin
                        refine wpList_rows elS rfl _ _ rfl rfl rfl HO.out HS.out HB9.out (by omega) HSZ.out ?_;intro v1 w2 hown hg1 _;obtain⟨A1,k1,rfl,hk1⟩:=own_slice hown;have P1:=H_ ((P0.out.alloc (.cells #[.string x] 9)).word hown hg1);have k6:=(P0.out.alloc (.cells #[.string x] 9)).midW hg1;clear hown hg1 c0 c1 c2 c3 c4 c5 d0 d1 d2 d3 d4 d5 f0 f1 f2 f3 f4 f5;obtain⟨_,_,_,_,c4,_,_,_,_,_,f4,_⟩:=six_at k6;clear k6)
 clear c4 f4;generalize (World.setCell w2 _ _)=w3 at P1 ⊢;obtain⟨c0,c1,c2,c3,c4,c5⟩:=P1.out.facts;obtain⟨d0,d1,d2,d3,d4,d5,f0,f1,f2,f3,f4,f5⟩:=P1.out.room;go_wp2_with fail
 obtain⟨W,hW,q0,q1,q2,q3,q4,q5,hO⟩:=P1.out.ret 0;unfold put6 at hW;rw [<- hW];exact bodyPost_ret (v:=.tuple #[.agg #[.string b.id,.int .i64 b.valid,.int .i64 b.next,.int .i64 b.high,.slice A1 (b.words.length+1) k1,.slice MA b.msgs.length mcp],.int .i64 0]) (by simp [results,Tryz.results107,go_sem,q0,q1,q2,q3,q4,q5]) rfl hO
theorem withWord_any {w:World} {base:Nat} {b:Box} {vw vm:Value} {rs:List Raw} {x:ByteArray} (h:OB w base b vw vm rs) (hf:Fit b) (hb:base<=w.heap.size) :
 Calls Tryz.prog 107 #[.agg #[.string b.id,.int .i64 b.valid,.int .i64 b.next,.int .i64 b.high,vw,vm],.string x] w (WO (either (wordE b x) (wordB b x)) (wordE b x) base w):=by
 unfold either wordE;by_cases ha:atB x=false
 · rw [if_pos ha,if_neg (by decide)]
   exact word_bad h hf hb ha
 have ha2:atB x=true:=by simpa using ha
 rw [if_neg ha];by_cases hx:x∈b.words
 · rw [if_pos hx,if_neg (by decide)]
   exact word_two h hf hb ha2 hx
 rw [if_neg hx];by_cases hg:64<=b.words.length
 · rw [if_pos hg,if_neg (by decide)]
   exact word_full h hf hb ha2 hx hg
 · rw [if_neg hg,if_pos rfl]
   exact word_ok h hf hb ha2 hx hg
end Go.Proofs.YtoljpfapphoflaaGreatDoor.RwW2

set_option maxRecDepth 512
namespace Go.Proofs.YtoljpfapphoflaaGreatDoor.RwMb
open Go.RowKit BxD BxKit BxA BxR BxC RwD RwKit RwOwn RwW1
def MB (w:World) (Q:Nat) (m:Msg) (K:Option Addr) (c:Nat):Prop :=
 w.heap[Q]? = some (.cells #[.int .i64 m.uid,.int .i64 m.mod,.int .i64 m.date,.string m.id,.int .i64 m.flags,.slice K m.keys.length c,.string m.text] 61 (0,0))
def LB (w:World) (Q:Nat) (r:Row) (K:Option Addr) (c:Nat):Prop :=
 w.heap[Q]? = some (.cells #[.int .i64 r.kind,.int .i64 r.uid,.int .i64 r.mod,.int .i64 r.msg.uid,.int .i64 r.msg.mod,.int .i64 r.msg.date,.string r.msg.id,.int .i64 r.msg.flags,.slice K r.msg.keys.length c,.string r.msg.text,.string r.text] 63 (0,0))
section
variable {w w2 : World} {Q c : Nat} {m : Msg} {r : Row} {K : Option Addr}
theorem MB.lt (h:MB w Q m K c):Q<w.heap.size:=(gs_ h).1
theorem LB.lt (h:LB w Q r K c):Q<w.heap.size:=(gs_ h).1
theorem MB.go (h:MB w Q m K c) (hb:Below w.heap.size w w2):MB w2 Q m K c:=(hb.block Q h.lt).trans h
theorem LB.go (h:LB w Q r K c) (hb:Below w.heap.size w w2):LB w2 Q r K c:=(hb.block Q h.lt).trans h
theorem MB.alloc (h:MB w Q m K c) (o:Obj):MB (w.alloc o) Q m K c:=h.go ((Below.refl _ _).alloc lr_ o)
theorem MB.drew (h:MB w Q m K c):MB w.drew Q m K c:=h
theorem MB.facts (h:MB w Q m K c):w.cell? ⟨Q,0,none⟩ = some (.int .i64 m.uid)/\w.cell? ⟨Q,1,none⟩ = some (.int .i64 m.mod)/\w.cell? ⟨Q,2,none⟩ = some (.int .i64 m.date)/\w.cell? ⟨Q,3,none⟩ = some (.string m.id)/\w.cell? ⟨Q,4,none⟩ = some (.int .i64 m.flags) /\
 w.cell? ⟨Q,5,none⟩ = some (.slice K m.keys.length c)/\w.cell? ⟨Q,6,none⟩ = some (.string m.text):=by
 have c:=fun o=>cell_of_row w Q o _ _ _ h;exact⟨(c 0).trans rfl,(c 1).trans rfl,(c 2).trans rfl,(c 3).trans rfl,(c 4).trans rfl,(c 5).trans rfl,(c 6).trans rfl⟩
theorem MB.free (h:MB w Q m K c) (i:Nat):w.frozen? ⟨Q,i,none⟩ = false:=by unfold MB at h; simp [World.frozen?,h]
theorem LB.facts (h:LB w Q r K c):w.cell? ⟨Q,0,none⟩ = some (.int .i64 r.kind)/\w.cell? ⟨Q,1,none⟩ = some (.int .i64 r.uid)/\w.cell? ⟨Q,2,none⟩ = some (.int .i64 r.mod)/\w.cell? ⟨Q,3,none⟩ = some (.int .i64 r.msg.uid)/\w.cell? ⟨Q,4,none⟩ = some (.int .i64 r.msg.mod) /\
 w.cell? ⟨Q,5,none⟩ = some (.int .i64 r.msg.date)/\w.cell? ⟨Q,6,none⟩ = some (.string r.msg.id)/\w.cell? ⟨Q,7,none⟩ = some (.int .i64 r.msg.flags)/\w.cell? ⟨Q,8,none⟩ = some (.slice K r.msg.keys.length c)/\w.cell? ⟨Q,9,none⟩ = some (.string r.msg.text)/\w.cell? ⟨Q,10,none⟩ = some (.string r.text):=by
 have c:=fun o=>cell_of_row w Q o _ _ _ h;exact⟨(c 0).trans rfl,(c 1).trans rfl,(c 2).trans rfl,(c 3).trans rfl,(c 4).trans rfl,(c 5).trans rfl,(c 6).trans rfl,(c 7).trans rfl,(c 8).trans rfl,(c 9).trans rfl,(c 10).trans rfl⟩
theorem MB.set5 (h:MB w Q m K c) (K':Option Addr) (c':Nat):MB (w.setCell ⟨Q,5,none⟩ (.slice K' m.keys.length c')) Q m K' c':=by
 unfold MB at *;simp [World.setCell,Array.getElem?_modify,h]
theorem MB.oth (h:MB w Q m K c) {P i:Nat} (hne:Q≠P) (u:Value):MB (w.setCell ⟨P,i,none⟩ u) Q m K c:=(Below.heap_setCell _ _ _ _ (by show Q≠P; exact hne)).trans h
theorem MB.grown (h:MB w Q m K c) {row:Option Nat} (hg:w.grownBy w2 row) (hne:some Q≠row):MB w2 Q m K c:=(hg.block Q h.lt hne).trans h
end
section
variable {w wr w2 : World} {base P R : Nat} {b : Box} {vw vm : Value} {rs : List Raw}
theorem SB.start3 (h:OB w base b vw vm rs) (hb:base<=w.heap.size) (o:Obj) :
 SB w (((w.alloc (.cells #[.string b.id,.int .i64 b.valid,.int .i64 b.next,.int .i64 b.high,vw,vm] 25)).alloc o).alloc (.cells #[.string ⟨#[]⟩,.int .i64 0,.int .i64 0,.int .i64 0,.slice none 0 0,.slice none 0 0] 25)) base w.heap.size (w.heap.size+2) b vw vm rs /\
 (((w.alloc (.cells #[.string b.id,.int .i64 b.valid,.int .i64 b.next,.int .i64 b.high,vw,vm] 25)).alloc o).alloc (.cells #[.string ⟨#[]⟩,.int .i64 0,.int .i64 0,.int .i64 0,.slice none 0 0,.slice none 0 0] 25)).heap[w.heap.size+1]? = some o/\vm.ownBlock≠some (w.heap.size+1):=by
 generalize hb1:Obj.cells #[.string b.id,.int .i64 b.valid,.int .i64 b.next,.int .i64 b.high,vw,vm] 25=b1;generalize hz:Obj.cells #[.string ⟨#[]⟩,.int .i64 0,.int .i64 0,.int .i64 0,.slice none 0 0,.slice none 0 0] 25=z;have hB:Below w.heap.size w (((w.alloc b1).alloc o).alloc z):=(((Below.refl _ _).alloc lr_ _).alloc (by simp) _).alloc (by simp; omega) _;have e0:(((w.alloc b1).alloc o).alloc z).heap[w.heap.size]? = some b1:=(heap_alloc_old _ _ (by simp; omega)).trans ((heap_alloc_old _ _ (by simp)).trans (heap_alloc_new w _));have e1:(((w.alloc b1).alloc o).alloc z).heap[w.heap.size+1]? = some o:=by
  have:=heap_alloc_new (w.alloc b1) o;rw [show (w.alloc b1).heap.size=w.heap.size+1 by simp] at this;exact (heap_alloc_old _ _ (by simp)).trans this
 have e2:(((w.alloc b1).alloc o).alloc z).heap[w.heap.size+2]? = some z:=by
  have:=heap_alloc_new ((w.alloc b1).alloc o) z
  rwa [show ((w.alloc b1).alloc o).heap.size=w.heap.size+2 by simp] at this
 refine⟨⟨hB.mono hb,hb,Nat.le_refl _,by omega,by omega,e0.trans (by rw [<- hb1]),e2.trans (by rw [<- hz]),h.go hB,fun k cs t fr hk _ _=>hB.block k (gs_ hk).1⟩,e1,fun e=>by have:=(h.om.lt _ e).2; omega⟩
theorem SB.setM (h:SB w wr base P R b vw vm rs) {Q i:Nat} {cs:Array Value} (hq:wr.heap[Q]? = some (.cells cs 61 (0,0))) (h1:vm.ownBlock≠some Q) (hb:base<=Q) (u:Value):SB w (wr.setCell ⟨Q,i,none⟩ u) base P R b vw vm rs:=by
 have hP:P≠Q:=fun e=>by subst e; have:=h.blk; rw [hq] at this; injection this with this; injection this with _ h2; exact absurd h2 (by decide)
 have hR:R≠Q:=fun e=>by subst e; have:=h.res; rw [hq] at this; injection this with this; injection this with _ h2; exact absurd h2 (by decide)
 exact⟨h.bel.setCell hb _,h.hb,h.hP,h.hR,h.ne,(Below.heap_setCell _ _ _ _ (by show P≠Q; exact hP)).trans h.blk,(Below.heap_setCell _ _ _ _ (by show R≠Q; exact hR)).trans h.res,
  ⟨own_other h.own.ow (own_ne_blk h.own.ow hq (by decide)) _ _,own_other h.own.om h1 _ _,h.own.rm,fun r hr=>own_other (h.own.ko r hr) (own_ne_blk (h.own.ko r hr) hq (by decide)) _ _⟩,fun k cs' t fr hk k1 k2=>(Below.heap_setCell _ _ _ _ (by
   show k≠Q;intro e;subst e;have:=(h.ty k cs' t fr hk k1 k2).trans hk;rw [hq] at this;injection this with this;injection this with _ h2;exact k2 h2.symm)).trans (h.ty k cs' t fr hk k1 k2)⟩
end
end Go.Proofs.YtoljpfapphoflaaGreatDoor.RwMb

set_option maxHeartbeats 2000000
set_option maxRecDepth 100000
namespace Go.Proofs.YtoljpfapphoflaaGreatDoor.RwW3
open Go.RowKit BxD BxKit BxA BxR BxC RwD RwKit RwOwn BxM RwW1 RwMb
def msgE (b:Box) (m:Msg):Int:=if 60<=b.msgs.length then 4 else if mmB b.words.length m=false then 1 else if m.uid<b.next then 1 else 0
theorem more_keys {w:World} {base:Nat} {rs:List Raw} {r1:Raw} (h:w.ownsRow base 3 1 (.slice r1.K r1.m.keys.length r1.c) r1.m.keys.length (r1.m.keys.map (Value.int .i64))) :
 ∀ r∈rs++[r1],r∈rs\/w.ownsRow base 3 1 (.slice r.K r.m.keys.length r.c) r.m.keys.length (r.m.keys.map (Value.int .i64)):=by
 intro r hr;rcases List.mem_append.1 hr with hr | hr
 · exact .inl hr
 · obtain rfl:=List.mem_singleton.1 hr
   exact .inr h
def msgB (b:Box) (m:Msg):Box:=⟨b.id,b.valid,m.uid+1,max b.high m.mod,b.words,b.msgs++[m]⟩
theorem msg_full {w:World} {base B:Nat} {b:Box} {vw vm:Value} {rs:List Raw} {m:Msg} {K:Option Addr} {kc:Nat} (h:OB w base b vw vm rs) (hf:Fit b) (hb:base<=w.heap.size) (hk:IntsAt w B K m.keys.length m.keys) (hB:B<=w.heap.size) (h6:m.keys.length<=17592186044416) (hg:60<=b.msgs.length) :
 Calls Tryz.prog 105 #[.agg #[.string b.id,.int .i64 b.valid,.int .i64 b.next,.int .i64 b.high,vw,vm],.agg #[.int .i64 m.uid,.int .i64 m.mod,.int .i64 m.date,.string m.id,.int .i64 m.flags,.slice K m.keys.length kc,.string m.text]] w (WO noB 4 base w):=by
 obtain⟨WA,wc,MA,mcp,rfl,rfl,hwc,hmc⟩:=h.slices;obtain⟨p0,p1,p2⟩:=SB.start3 h hb (.cells #[.int .i64 m.uid,.int .i64 m.mod,.int .i64 m.date,.string m.id,.int .i64 m.flags,.slice K m.keys.length kc,.string m.text] 61);have P0:=H_ p0;have M0:=H_ (show MB _ (w.heap.size+1) m K kc from p1);have N0:=H_ p2;have HK:=H_ (IntsAt.below hk (show Below w.heap.size w (((w.alloc _).alloc _).alloc _) from (((Below.refl _ _).alloc lr_ (.cells #[.string b.id,.int .i64 b.valid,.int .i64 b.next,.int .i64 b.high,.slice WA b.words.length wc,.slice MA b.msgs.length mcp] 25)).alloc (by simp) (.cells #[.int .i64 m.uid,.int .i64 m.mod,.int .i64 m.date,.string m.id,.int .i64 m.flags,.slice K m.keys.length kc,.string m.text] 61)).alloc (by simp; omega) (.cells #[.string ⟨#[]⟩,.int .i64 0,.int .i64 0,.int .i64 0,.slice none 0 0,.slice none 0 0] 25)) hB);have hwl:=hf.wl;have hml:=hf.ml;clear h hf p0 p1 p2 hk;go_enter Tryz.func105,Tryz.ntmps105;go_upto_region 1 with fail
 generalize (World.alloc (World.alloc (World.alloc w _) _) _)=w1 at P0 M0 HK ⊢;obtain⟨c0,c1,c2,c3,c4,c5⟩:=P0.out.facts;obtain⟨m0,m1,m2,m3,m4,m5,m6⟩:=M0.out.facts;have P2:=P0;obtain⟨d0,d1,d2,d3,d4,d5,f0,f1,f2,f3,f4,f5⟩:=P2.out.room;go_wp2_with fail
 obtain⟨W,hW,q0,q1,q2,q3,q4,q5,hO⟩:=P2.out.err 4;unfold put6 at hW;rw [<- hW];exact bodyPost_ret (v:=.tuple #[.agg #[.string ⟨#[]⟩,.int .i64 0,.int .i64 0,.int .i64 0,.slice none 0 0,.slice none 0 0],.int .i64 4]) (by simp [results,Tryz.results105,go_sem,q0,q1,q2,q3,q4,q5]) rfl hO
theorem msg_bad {w:World} {base B:Nat} {b:Box} {vw vm:Value} {rs:List Raw} {m:Msg} {K:Option Addr} {kc:Nat} (h:OB w base b vw vm rs) (hf:Fit b) (hb:base<=w.heap.size) (hk:IntsAt w B K m.keys.length m.keys) (hB:B<=w.heap.size) (h6:m.keys.length<=17592186044416) (hg : ¬ 60<=b.msgs.length) (hmm:mmB b.words.length m=false) :
 Calls Tryz.prog 105 #[.agg #[.string b.id,.int .i64 b.valid,.int .i64 b.next,.int .i64 b.high,vw,vm],.agg #[.int .i64 m.uid,.int .i64 m.mod,.int .i64 m.date,.string m.id,.int .i64 m.flags,.slice K m.keys.length kc,.string m.text]] w (WO noB 1 base w):=by
 obtain⟨WA,wc,MA,mcp,rfl,rfl,hwc,hmc⟩:=h.slices;obtain⟨p0,p1,p2⟩:=SB.start3 h hb (.cells #[.int .i64 m.uid,.int .i64 m.mod,.int .i64 m.date,.string m.id,.int .i64 m.flags,.slice K m.keys.length kc,.string m.text] 61);have P0:=H_ p0;have M0:=H_ (show MB _ (w.heap.size+1) m K kc from p1);have N0:=H_ p2;have HK:=H_ (IntsAt.below hk (show Below w.heap.size w (((w.alloc _).alloc _).alloc _) from (((Below.refl _ _).alloc lr_ (.cells #[.string b.id,.int .i64 b.valid,.int .i64 b.next,.int .i64 b.high,.slice WA b.words.length wc,.slice MA b.msgs.length mcp] 25)).alloc (by simp) (.cells #[.int .i64 m.uid,.int .i64 m.mod,.int .i64 m.date,.string m.id,.int .i64 m.flags,.slice K m.keys.length kc,.string m.text] 61)).alloc (by simp; omega) (.cells #[.string ⟨#[]⟩,.int .i64 0,.int .i64 0,.int .i64 0,.slice none 0 0,.slice none 0 0] 25)) hB);have hwl:=hf.wl;have hml:=hf.ml;clear h hf p0 p1 p2 hk;have HMM:=H_ hmm;clear hmm;go_enter Tryz.func105,Tryz.ntmps105;go_upto_region 1 with fail
 generalize (World.alloc (World.alloc (World.alloc w _) _) _)=w1 at P0 M0 HK ⊢;obtain⟨c0,c1,c2,c3,c4,c5⟩:=P0.out.facts;obtain⟨m0,m1,m2,m3,m4,m5,m6⟩:=M0.out.facts;have km:=mayMsg_cells (bid:=b.id) (bv:=b.valid) (bn:=b.next) (bh:=b.high) (WA:=WA) (wc:=wc) (MA:=MA) (mn:=b.msgs.length) (mc:=mcp) (id:=m.id) (tx:=m.text) (u:=m.uid) (md:=m.mod) (d:=m.date) (fl:=m.flags) (kc:=kc) HK.out (by have:=P0.out.ltP; omega) (show b.words.length<=140737488355328 by omega);rw [show mmE b.words.length ⟨m.uid,m.mod,m.date,m.id,m.flags,m.keys,m.text⟩=1 from mmE_false HMM.out] at km;have KM:=H_ km;clear km;go_upto_region 4 with (go_at_call 141; refine KM.out.mono ?_; rintro e w2 ⟨rfl,hb2⟩)
 have P2:=H_ (P0.out.go hb2);have M2:=H_ (M0.out.go hb2);have HK2:=H_ (IntsAt.below HK.out hb2 (by have:=P0.out.ltP; omega));clear hb2 P0 M0 HK KM c0 c1 c2 c3 c4 c5 m0 m1 m2 m3 m4 m5 m6;obtain⟨c0,c1,c2,c3,c4,c5⟩:=P2.out.facts;obtain⟨m0,m1,m2,m3,m4,m5,m6⟩:=M2.out.facts;obtain⟨d0,d1,d2,d3,d4,d5,f0,f1,f2,f3,f4,f5⟩:=P2.out.room;go_wp2_with fail
 obtain⟨W,hW,q0,q1,q2,q3,q4,q5,hO⟩:=P2.out.err 1;unfold put6 at hW;rw [<- hW];exact bodyPost_ret (v:=.tuple #[.agg #[.string ⟨#[]⟩,.int .i64 0,.int .i64 0,.int .i64 0,.slice none 0 0,.slice none 0 0],.int .i64 1]) (by simp [results,Tryz.results105,go_sem,q0,q1,q2,q3,q4,q5]) rfl hO
theorem msg_old {w:World} {base B:Nat} {b:Box} {vw vm:Value} {rs:List Raw} {m:Msg} {K:Option Addr} {kc:Nat} (h:OB w base b vw vm rs) (hf:Fit b) (hb:base<=w.heap.size) (hk:IntsAt w B K m.keys.length m.keys) (hB:B<=w.heap.size) (h6:m.keys.length<=17592186044416) (hg : ¬ 60<=b.msgs.length) (hmm:mmB b.words.length m=true) (hu:m.uid<b.next) :
 Calls Tryz.prog 105 #[.agg #[.string b.id,.int .i64 b.valid,.int .i64 b.next,.int .i64 b.high,vw,vm],.agg #[.int .i64 m.uid,.int .i64 m.mod,.int .i64 m.date,.string m.id,.int .i64 m.flags,.slice K m.keys.length kc,.string m.text]] w (WO noB 1 base w):=by
 obtain⟨WA,wc,MA,mcp,rfl,rfl,hwc,hmc⟩:=h.slices;obtain⟨p0,p1,p2⟩:=SB.start3 h hb (.cells #[.int .i64 m.uid,.int .i64 m.mod,.int .i64 m.date,.string m.id,.int .i64 m.flags,.slice K m.keys.length kc,.string m.text] 61);have P0:=H_ p0;have M0:=H_ (show MB _ (w.heap.size+1) m K kc from p1);have N0:=H_ p2;have HK:=H_ (IntsAt.below hk (show Below w.heap.size w (((w.alloc _).alloc _).alloc _) from (((Below.refl _ _).alloc lr_ (.cells #[.string b.id,.int .i64 b.valid,.int .i64 b.next,.int .i64 b.high,.slice WA b.words.length wc,.slice MA b.msgs.length mcp] 25)).alloc (by simp) (.cells #[.int .i64 m.uid,.int .i64 m.mod,.int .i64 m.date,.string m.id,.int .i64 m.flags,.slice K m.keys.length kc,.string m.text] 61)).alloc (by simp; omega) (.cells #[.string ⟨#[]⟩,.int .i64 0,.int .i64 0,.int .i64 0,.slice none 0 0,.slice none 0 0] 25)) hB);have hwl:=hf.wl;have hml:=hf.ml;clear h hf p0 p1 p2 hk;have HMM:=H_ hmm;clear hmm;go_enter Tryz.func105,Tryz.ntmps105;go_upto_region 1 with fail
 generalize (World.alloc (World.alloc (World.alloc w _) _) _)=w1 at P0 M0 HK ⊢;obtain⟨c0,c1,c2,c3,c4,c5⟩:=P0.out.facts;obtain⟨m0,m1,m2,m3,m4,m5,m6⟩:=M0.out.facts;have km:=mayMsg_cells (bid:=b.id) (bv:=b.valid) (bn:=b.next) (bh:=b.high) (WA:=WA) (wc:=wc) (MA:=MA) (mn:=b.msgs.length) (mc:=mcp) (id:=m.id) (tx:=m.text) (u:=m.uid) (md:=m.mod) (d:=m.date) (fl:=m.flags) (kc:=kc) HK.out (by have:=P0.out.ltP; omega) (show b.words.length<=140737488355328 by omega);rw [show mmE b.words.length ⟨m.uid,m.mod,m.date,m.id,m.flags,m.keys,m.text⟩=0 from mmE_true HMM.out] at km;have KM:=H_ km;clear km;go_upto_region 4 with (go_at_call 141; refine KM.out.mono ?_; rintro e w2 ⟨rfl,hb2⟩)
 have P2:=H_ (P0.out.go hb2);have M2:=H_ (M0.out.go hb2);have HK2:=H_ (IntsAt.below HK.out hb2 (by have:=P0.out.ltP; omega));clear hb2 P0 M0 HK KM c0 c1 c2 c3 c4 c5 m0 m1 m2 m3 m4 m5 m6;obtain⟨c0,c1,c2,c3,c4,c5⟩:=P2.out.facts;obtain⟨m0,m1,m2,m3,m4,m5,m6⟩:=M2.out.facts;obtain⟨d0,d1,d2,d3,d4,d5,f0,f1,f2,f3,f4,f5⟩:=P2.out.room;go_wp2_with fail
 obtain⟨W,hW,q0,q1,q2,q3,q4,q5,hO⟩:=P2.out.err 1;unfold put6 at hW;rw [<- hW];exact bodyPost_ret (v:=.tuple #[.agg #[.string ⟨#[]⟩,.int .i64 0,.int .i64 0,.int .i64 0,.slice none 0 0,.slice none 0 0],.int .i64 1]) (by simp [results,Tryz.results105,go_sem,q0,q1,q2,q3,q4,q5]) rfl hO
theorem msg_ok {w:World} {base B:Nat} {b:Box} {vw vm:Value} {rs:List Raw} {m:Msg} {K:Option Addr} {kc:Nat} (h:OB w base b vw vm rs) (hf:Fit b) (hb:base<=w.heap.size) (hk:IntsAt w B K m.keys.length m.keys) (hB:B<=w.heap.size) (h6:m.keys.length<=17592186044416) (hg : ¬ 60<=b.msgs.length) (hmm:mmB b.words.length m=true) (hu : ¬ m.uid<b.next) :
 Calls Tryz.prog 105 #[.agg #[.string b.id,.int .i64 b.valid,.int .i64 b.next,.int .i64 b.high,vw,vm],.agg #[.int .i64 m.uid,.int .i64 m.mod,.int .i64 m.date,.string m.id,.int .i64 m.flags,.slice K m.keys.length kc,.string m.text]] w (WO (msgB b m) 0 base w):=by
 obtain⟨WA,wc,MA,mcp,rfl,rfl,hwc,hmc⟩:=h.slices;obtain⟨p0,p1,p2⟩:=SB.start3 h hb (.cells #[.int .i64 m.uid,.int .i64 m.mod,.int .i64 m.date,.string m.id,.int .i64 m.flags,.slice K m.keys.length kc,.string m.text] 61);have P0:=H_ p0;have M0:=H_ (show MB _ (w.heap.size+1) m K kc from p1);have N0:=H_ p2;have HK:=H_ (IntsAt.below hk (show Below w.heap.size w (((w.alloc _).alloc _).alloc _) from (((Below.refl _ _).alloc lr_ (.cells #[.string b.id,.int .i64 b.valid,.int .i64 b.next,.int .i64 b.high,.slice WA b.words.length wc,.slice MA b.msgs.length mcp] 25)).alloc (by simp) (.cells #[.int .i64 m.uid,.int .i64 m.mod,.int .i64 m.date,.string m.id,.int .i64 m.flags,.slice K m.keys.length kc,.string m.text] 61)).alloc (by simp; omega) (.cells #[.string ⟨#[]⟩,.int .i64 0,.int .i64 0,.int .i64 0,.slice none 0 0,.slice none 0 0] 25)) hB);have hwl:=hf.wl;have hml:=hf.ml;clear h hf p0 p1 p2 hk;have HMM:=H_ hmm;clear hmm;go_enter Tryz.func105,Tryz.ntmps105;go_upto_region 1 with fail
 generalize (World.alloc (World.alloc (World.alloc w _) _) _)=w1 at P0 M0 HK ⊢;obtain⟨c0,c1,c2,c3,c4,c5⟩:=P0.out.facts;obtain⟨m0,m1,m2,m3,m4,m5,m6⟩:=M0.out.facts;have km:=mayMsg_cells (bid:=b.id) (bv:=b.valid) (bn:=b.next) (bh:=b.high) (WA:=WA) (wc:=wc) (MA:=MA) (mn:=b.msgs.length) (mc:=mcp) (id:=m.id) (tx:=m.text) (u:=m.uid) (md:=m.mod) (d:=m.date) (fl:=m.flags) (kc:=kc) HK.out (by have:=P0.out.ltP; omega) (show b.words.length<=140737488355328 by omega);rw [show mmE b.words.length ⟨m.uid,m.mod,m.date,m.id,m.flags,m.keys,m.text⟩=0 from mmE_true HMM.out] at km;have KM:=H_ km;clear km;go_upto_region 4 with (go_at_call 141; refine KM.out.mono ?_; rintro e w2 ⟨rfl,hb2⟩)
 have P2:=H_ (P0.out.go hb2);have M2:=H_ (M0.out.go hb2);have HK2:=H_ (IntsAt.below HK.out hb2 (by have:=P0.out.ltP; omega));clear hb2 P0 M0 HK KM c0 c1 c2 c3 c4 c5 m0 m1 m2 m3 m4 m5 m6;obtain⟨c0,c1,c2,c3,c4,c5⟩:=P2.out.facts;obtain⟨m0,m1,m2,m3,m4,m5,m6⟩:=M2.out.facts;have hb1:base<=w2.heap.size:=P2.out.base_le;have KC:=H_ (cloned_any (kc:=kc) HK2.out h6);have c6:=M2.out.free 5
 go_upto_region 9 with (go_at_call 142
                        refine KC.out.mono ?_;rintro e w3 ⟨A1,k1,rfl,hown,hbel⟩;have P3:=H_ (P2.out.go hbel);have M3:=H_ (M2.out.go hbel);have HO3:=H_ (own_base hown hb1);clear hown hbel m0 m1 m2 m3 m4 m5 m6 c0 c1 c2 c3 c4 c5 c6;obtain⟨m0,m1,m2,m3,m4,m5,m6⟩:=M3.out.facts;have c6:=M3.out.free 5)
 have P4:=H_ (SB.setM P3.out M3.out (i:=5) N0.out (by omega) (.slice A1 m.keys.length k1));have M4:=H_ (M3.out.set5 A1 k1);have HO4:=H_ (own_other HO3.out (own_ne_blk HO3.out M3.out (by decide)) 5 (.slice A1 m.keys.length k1));clear P3 M3 HO3 m0 m1 m2 m3 m4 m5 m6 c6 P2 M2 HK2 KC;generalize (World.setCell w3 _ _)=w4 at P4 M4 HO4 ⊢;obtain⟨c0,c1,c2,c3,c4,c5⟩:=P4.out.facts;obtain⟨m0,m1,m2,m3,m4,m5,m6⟩:=M4.out.facts;have HS:=H_ (src_new w4 #[.int .i64 m.uid,.int .i64 m.mod,.int .i64 m.date,.string m.id,.int .i64 m.flags,.slice A1 m.keys.length k1,.string m.text] 61 (m:=1) (sz:=7) rfl rfl (fun u hu=>by simp at hu; rcases hu with rfl | rfl | rfl | rfl | rfl | rfl | rfl <;> rfl));have P5:=H_ (P4.out.alloc (.cells #[.int .i64 m.uid,.int .i64 m.mod,.int .i64 m.date,.string m.id,.int .i64 m.flags,.slice A1 m.keys.length k1,.string m.text] 61));have M5:=H_ (M4.out.alloc (.cells #[.int .i64 m.uid,.int .i64 m.mod,.int .i64 m.date,.string m.id,.int .i64 m.flags,.slice A1 m.keys.length k1,.string m.text] 61));have HO5:=H_ (HO4.out.alloc (.cells #[.int .i64 m.uid,.int .i64 m.mod,.int .i64 m.date,.string m.id,.int .i64 m.flags,.slice A1 m.keys.length k1,.string m.text] 61));have HB9:=H_ (show b.msgs.length+1<=maxLen by unfold maxLen; omega);have hp5:=P5.out.base_le
 go_upto_region 10 with (at_builtin; go_loud (
                        refine wpList_rows elM rfl _ _ rfl rfl rfl P5.out.own.om HS.out HB9.out (by omega) hp5 ?_;intro v6 w6 hown hg6 _;obtain⟨A6,k6,rfl,hk6⟩:=own_slice hown;have k7:=P5.out.midM hg6;have P6:=H_ (P5.out.msgs (rs':=rs++[⟨m,A1,k1⟩]) (ms':=b.msgs++[m]) (by rw [mc_append,List.length_append]; exact hown) (by rw [List.map_append,P5.out.own.rm]; rfl) hg6 (more_keys HO5.out));have M6:=H_ ((M5.out.grown hg6 (Ne.symm N0.out)).oth (P:=w.heap.size) (i:=5) (by omega) (.slice A6 (b.msgs.length+1) k6));clear hown hg6 m0 m1 m2 m3 m4 m5 m6 c0 c1 c2 c3 c4 c5;obtain⟨_,_,_,_,_,c5,_,_,_,_,_,f5⟩:=six_at k7;clear k7))
 clear c5 f5 P5 M5 HO5 P4 M4 HO4 HS HB9;generalize (World.setCell w6 _ _)=w7 at P6 M6 ⊢;obtain⟨c0,c1,c2,c3,c4,c5⟩:=P6.out.facts;obtain⟨m0,m1,m2,m3,m4,m5,m6⟩:=M6.out.facts;have c6:=P6.out.free 2;obtain⟨u1,u2⟩:=(mm_parts HMM.out).1;obtain⟨v1,v2⟩:=(mm_parts HMM.out).2.1;go_upto_region 11 with fail
 have P7:=H_ (P6.out.set2 (m.uid+1));have M7:=H_ (M6.out.oth (P:=w.heap.size) (i:=2) (by omega) (.int .i64 (m.uid+1)));clear c0 c1 c2 c3 c4 c5 c6 P6 M6 m0 m1 m2 m3 m4 m5 m6;generalize (World.setCell w7 _ _)=w8 at P7 M7 ⊢;obtain⟨c0,c1,c2,c3,c4,c5⟩:=P7.out.facts;obtain⟨m0,m1,m2,m3,m4,m5,m6⟩:=M7.out.facts;have c6:=P7.out.free 3;go_upto_region 12 with fail
 have e:(if b.high<m.mod then m.mod else b.high)=max b.high m.mod:=by split <;> omega
 try rw [e]
 have P8:=H_ (P7.out.set3 (max b.high m.mod));clear e c0 c1 c2 c3 c4 c5 c6 P7 M7 m0 m1 m2 m3 m4 m5 m6;generalize (World.setCell w8 _ _)=w9 at P8 ⊢;obtain⟨c0,c1,c2,c3,c4,c5⟩:=P8.out.facts;obtain⟨d0,d1,d2,d3,d4,d5,f0,f1,f2,f3,f4,f5⟩:=P8.out.room;go_wp2_with fail
 obtain⟨W,hW,q0,q1,q2,q3,q4,q5,hO⟩:=P8.out.ret 0;unfold put6 at hW;rw [<- hW];exact bodyPost_ret (v:=.tuple #[.agg #[.string b.id,.int .i64 b.valid,.int .i64 (m.uid+1),.int .i64 (max b.high m.mod),.slice WA b.words.length wc,.slice A6 (b.msgs.length+1) k6],.int .i64 0]) (by simp [results,Tryz.results105,go_sem,q0,q1,q2,q3,q4,q5]) rfl hO
theorem withMsg_any {w:World} {base B:Nat} {b:Box} {vw vm:Value} {rs:List Raw} {m:Msg} {K:Option Addr} {kc:Nat} (h:OB w base b vw vm rs) (hf:Fit b) (hb:base<=w.heap.size) (hk:IntsAt w B K m.keys.length m.keys) (hB:B<=w.heap.size) (h6:m.keys.length<=17592186044416) :
 Calls Tryz.prog 105 #[.agg #[.string b.id,.int .i64 b.valid,.int .i64 b.next,.int .i64 b.high,vw,vm],.agg #[.int .i64 m.uid,.int .i64 m.mod,.int .i64 m.date,.string m.id,.int .i64 m.flags,.slice K m.keys.length kc,.string m.text]] w (WO (either (msgE b m) (msgB b m)) (msgE b m) base w):=by
 unfold either msgE;by_cases hg:60<=b.msgs.length
 · rw [if_pos hg,if_neg (by decide)]
   exact msg_full h hf hb hk hB h6 hg
 rw [if_neg hg];by_cases hm:mmB b.words.length m=false
 · rw [if_pos hm,if_neg (by decide)]
   exact msg_bad h hf hb hk hB h6 hg hm
 have hm2:mmB b.words.length m=true:=by simpa using hm
 rw [if_neg hm];by_cases hu:m.uid<b.next
 · rw [if_pos hu,if_neg (by decide)]
   exact msg_old h hf hb hk hB h6 hg hm2 hu
 · rw [if_neg hu,if_pos rfl]
   exact msg_ok h hf hb hk hB h6 hg hm2 hu
end Go.Proofs.YtoljpfapphoflaaGreatDoor.RwW3

set_option maxHeartbeats 1000000
set_option maxRecDepth 100000
namespace Go.Proofs.YtoljpfapphoflaaGreatDoor.RwDel
open Go.RowKit BxD BxKit BxR BxC
def Row (w:World) (g:Nat) (t:TypeId) (l:List Value):Prop:=w.heap[g]? = some (.cells l.toArray t (0,0))
section
variable {w w' : World} {g : Nat} {t : TypeId} {l : List Value}
theorem Row.cell (h:Row w g t l) (i:Nat):w.cell? ⟨g,i,none⟩=l[i]?:=by
 rw [cell_of_row w g i _ t (0,0) h]; simp
theorem Row.laid (h:Row w g t l) (l':List Value):Row (w.setRow g l'.toArray) g t l':=setRow_heap w g _ _ t (0,0) h
theorem owns_cases {base:Nat} {e:TypeId} {s:Nat} {v:Value} {n:Nat} {xs:List Value} (h:w.ownsRow base e s v n xs) :
 (v = .slice none 0 0/\n=0/\xs=[])\/∃ g cap rest,v = .slice (some ⟨g,0,none⟩) n cap/\base<=g/\Row w g e (xs++rest)/\n<=cap/\cap<=maxLen/\xs.length=n*s/\(xs++rest).length=cap*s:=by
 obtain⟨hl,hv⟩:=h;rcases hv with⟨rfl,rfl⟩ | ⟨g,cap,cur,rfl,hb,hg,hn,hm,hs,ht⟩
 · exact .inl ⟨rfl,rfl,List.eq_nil_of_length_eq_zero (by simpa using hl)⟩
 · refine .inr ⟨g,cap,cur.toList.drop (n*s),rfl,hb, ?_,hn,hm,hl, ?_⟩
   · unfold Row
     rw [<- ht,List.take_append_drop,Array.toArray_toList];exact hg
   · rw [<- ht,List.take_append_drop,Array.length_toList,hs]
theorem owns_mk {base:Nat} {e:TypeId} {s:Nat} {n cap:Nat} {xs rest:List Value} (hb:base<=g) (h:Row w g e (xs++rest)) (hn:n<=cap) (hm:cap<=maxLen) (hl:xs.length=n*s) (hs:(xs++rest).length=cap*s) :
 w.ownsRow base e s (.slice (some ⟨g,0,none⟩) n cap) n xs :=
 ⟨hl,.inr ⟨g,cap,_,rfl,hb,h,hn,hm,by simpa using hs,by rw [<- hl]; simp⟩⟩
theorem setRow_grown (w:World) (g:Nat) (cs:Array Value):w.grownBy (w.setRow g cs) (some g) :=
 ⟨rfl,rfl,rfl,by simp [World.setRow],fun k _ hne=>setRow_other w g k cs (fun e=>hne (by rw [e]))⟩
theorem setCell_grown (w:World) (a:Addr) (u:Value):w.grownBy (w.setCell a u) (some a.block) :=
 ⟨rfl,rfl,rfl,by simp [World.setCell],fun k _ hne=>Below.heap_setCell w a u k (fun e=>hne (by rw [e]))⟩
theorem grown_trans {a b c:World} {row:Option Nat} (h:a.grownBy b row) (k:b.grownBy c row):a.grownBy c row :=
 ⟨k.os.trans h.os,k.tape.trans h.tape,k.output.trans h.output,Nat.le_trans h.size k.size,fun i hi hne=>(k.block i (Nat.lt_of_lt_of_le hi h.size) hne).trans (h.block i hi hne)⟩
theorem grown_of_drew {a b:World} {row:Option Nat} (h:a.drew.grownBy b row):a.grownBy b row:=⟨h.os,h.tape,h.output,h.size,h.block⟩
end
section
variable {P : Program}
theorem step_append_eq {ops:Array Oper} {o:Oper} {a:Act} {w:World} {K:Act->World->Prop} {Q:Exit->Act->World->Prop} {E:Prop}
 (hg:o.guard=none) (d x:Operand) (dT sT:TypeId) (hop:o.op=Op.call { callee:=Callee.builtin Builtin.append,args:=#[d,x],argTypes:=#[dT,sT] })
 (v u:Value) (hd:a.eval d=v) (hx:a.eval x=u) {v':Value} {w':World} (hr:(Builtin.append_ #[dT,sT] o.type #[v,u]).run P w = .ok v' w') (hK:K (a.put o.dst v') w') :
 if Region.wanted o (yielded ops a.tmps)=true then Oper.wp P o a w K Q else E:=by
 have hw:Region.wanted o (yielded ops a.tmps)=true:=by simp [Region.wanted,hg]
 rw [if_pos hw];unfold Oper.wp;simp [execOp,hop,resolve,invoke,builtin,hd,hx,hr,Result.andThen];exact hK
theorem run_clear_row (w:World) (t e ty:TypeId) (z:Value) (zs:List Value) (ht:P.underlying t=some (.slice e)) (hv : ∀ w,(zeroValue e).run P w = .ok z w) (hz:z.cells=zs.toArray) (h1 : ∀ v∈zs,v.oneCell'=true) (g o c:Nat) (l:List Value) (tt:TypeId)
 (hg:Row w g tt l) (hfit:o+zs.length<=l.length) :
 (Builtin.clear_ #[t] ty #[.slice (some ⟨g,o,none⟩) 1 c]).run P w = .ok (.tuple #[]) (w.setRow g (l.take o++(zs++l.drop (o+zs.length))).toArray):=by
 have hzc:(Builtin.zeroCells z.cells 1).toList=zs:=by
  rw [hz];simp [Builtin.zeroCells];apply List.ext_getElem
  · simp
  · intro i h1 h2
    simp at h1;simp [Nat.mod_eq_of_lt h1,List.getElem?_eq_getElem h1]
 have hst:=run_storeCells_at P g o tt zs 0 l.toArray w hg (by simpa using hfit) h1;simp only [Nat.add_zero,List.append_assoc] at hst;simp [Builtin.clear_,run_underlying ht,hv,hzc,hst]
end
theorem mc_take (l:List Raw) (i:Nat):mc (l.take i)=(mc l).take (i*7):=by
 by_cases h:i<=l.length
 · have hl:(mc (l.take i)).length=i*7:=by rw [mc_length,List.length_take]; omega
   have:=mc_append (l.take i) (l.drop i);rw [List.take_append_drop] at this;rw [this];exact (List.take_left' hl).symm
 · rw [List.take_of_length_le (by omega),List.take_of_length_le (by rw [mc_length]; omega)]
theorem mc_drop (l:List Raw) (i:Nat):mc (l.drop i)=(mc l).drop (i*7):=by
 by_cases h:i<=l.length
 · have hl:(mc (l.take i)).length=i*7:=by rw [mc_length,List.length_take]; omega
   have:=mc_append (l.take i) (l.drop i);rw [List.take_append_drop] at this;rw [this];exact (List.drop_left' hl).symm
 · rw [List.drop_of_length_le (by omega),List.drop_of_length_le (by rw [mc_length]; omega)]; rfl
theorem zv : ∀ w,(zeroValue 61).run Tryz.prog w = .ok (.agg [.int .i64 0,.int .i64 0,.int .i64 0,.string ⟨#[]⟩,.int .i64 0,.slice none 0 0,.string ⟨#[]⟩].toArray) w:=fun _=>by kernel_rfl
theorem del_list (xs rest zs:List Value) (i n:Nat) (hx:xs.length=n*7) (hi:i<n) (hz:zs.length=7) :
 ∃ rest',(((xs++rest).take (i*7)++(xs.drop ((i+1)*7)++(xs++rest).drop (i*7+(xs.drop ((i+1)*7)).length))).take ((n-1)*7)++(zs++((xs++rest).take (i*7)++(xs.drop ((i+1)*7)++(xs++rest).drop (i*7+(xs.drop ((i+1)*7)).length))).drop ((n-1)*7+zs.length)))=(xs.take (i*7)++xs.drop ((i+1)*7))++rest' /\
  rest'.length=rest.length+7:=by
 have hdl:(xs.drop ((i+1)*7)).length=(n-1-i)*7:=by rw [List.length_drop,hx]; omega
 have h1:(xs++rest).take (i*7)=xs.take (i*7):=List.take_append_of_le_length (by omega);generalize hD:xs.drop ((i+1)*7)=D at *;have hpre:(xs.take (i*7)++D).length=(n-1)*7:=by rw [List.length_append,List.length_take,hdl]; omega
 rw [h1];generalize hX:(xs++rest).drop (i*7+D.length)=X;have hXl:X.length=rest.length+7:=by rw [<- hX,List.length_drop,List.length_append,hdl]; omega
 rw [show xs.take (i*7)++(D++X)=(xs.take (i*7)++D)++X from (List.append_assoc _ _ _).symm];refine⟨zs++X.drop zs.length, ?_, ?_⟩
 · rw [List.take_append_of_le_length (by omega),List.take_of_length_le (by omega),<- List.drop_drop,<- hpre,List.drop_left]
 · rw [List.length_append,List.length_drop,hXl,hz]; omega
def DelPost (w:World) (base:Nat) (V:Value) (ps:List Raw) (e:Ending) (w':World):Prop :=
 ∃ V',e = .returned V'/\w'.ownsRow base 61 7 V' ps.length (mc ps)/\w.grownBy w' V.ownBlock
theorem del (w:World) (base g cap i:Nat) (ps:List Raw) (rest:List Value) (hn:ps.length<=1000) (hb:base<=g) (hr:Row w g 61 (mc ps++rest)) (hcm:cap<=maxLen) (hl:(mc ps++rest).length=cap*7)
 (hi:i<ps.length) (hnc:ps.length<=cap) :
 Calls Tryz.prog 145 #[.slice (some ⟨g,0,none⟩) ps.length cap,.int .i64 i,.int .i64 ((i:Int)+1)] w (DelPost w base (.slice (some ⟨g,0,none⟩) ps.length cap) (ps.take i++ps.drop (i+1))):=by
 obtain⟨i0,hi0,hz0,hz1,hz2⟩:=info_parts elM.info;have hcl:=mc_length ps;obtain⟨zs,hzs⟩ : ∃ zs:List Value,zs=[.int .i64 0,.int .i64 0,.int .i64 0,.string ⟨#[]⟩,.int .i64 0,.slice none 0 0,.string ⟨#[]⟩]:=⟨_,rfl⟩;have hzl:zs.length=7:=by rw [hzs]; rfl
 obtain⟨rest',hR1,hR2⟩:=del_list (mc ps) rest zs i ps.length hcl hi hzl;obtain⟨cs,hcs⟩ : ∃ cs,cs=(mc ps).drop ((i+1)*7):=⟨_,rfl⟩;rw [<- hcs] at hR1;obtain⟨L,hL⟩ : ∃ L,L=mc ps++rest:=⟨_,rfl⟩;rw [<- hL] at hr hl hR1;obtain⟨L1,hL1⟩ : ∃ L1,L1=L.take (i*7)++(cs++L.drop (i*7+cs.length)):=⟨_,rfl⟩;rw [<- hL1] at hR1;have hcsl:cs.length=(ps.length-(i+1))*7:=by rw [hcs,List.length_drop,hcl]; omega
 have honec : ∀ u∈cs,u.oneCell'=true:=fun u hu=>mc_one ps u (by rw [hcs] at hu; exact List.mem_of_mem_drop hu);have honez : ∀ u∈zs,u.oneCell'=true:=by
  intro u hu;rw [hzs] at hu;simp only [List.mem_cons,List.not_mem_nil,or_false] at hu;rcases hu with rfl | rfl | rfl | rfl | rfl | rfl | rfl <;> rfl
 have hrd:Row w.drew g 61 L:=hr;obtain⟨A,hA,hsrc⟩ : ∃ A:Addr,(if cap=i+1 then some (⟨g,0,none⟩:Addr) else some ⟨g,(i+1)*7,none⟩)=some A/\(∀ t u,cs[t]? = some u->w.drew.cell? (A.add t)=some u):=by
  by_cases h:cap=i+1
  · refine⟨⟨g,0,none⟩,by simp [h],fun t u hu=>?_⟩
    rw [List.eq_nil_of_length_eq_zero (show cs.length=0 by omega)] at hu;simp at hu
  · refine⟨⟨g,(i+1)*7,none⟩,by simp [h],fun t u hu=>?_⟩
    rw [Addr.add_lit,hrd.cell,hL];rw [hcs,List.getElem?_drop] at hu;rw [List.getElem?_append_left (List.getElem?_eq_some_iff.1 hu).1];exact hu
 have hap : ∀ ty sc,(Builtin.append_ #[23,23] ty #[.slice (some ⟨g,0,none⟩) i cap,.slice (some A) (ps.length-(i+1)) sc]).run Tryz.prog w.drew=_:=fun ty sc =>
  run_append_room (P:=Tryz.prog) w.drew 23 ty 61 i0 Tryz.underlying23 hi0 g i cap L.toArray hrd A (ps.length-(i+1)) sc cs (by rw [hz1]; exact hcsl) hsrc honec (by omega) (by rw [hz1]; simp; omega)
 rw [hz1,show (L.toArray.toList.take (i*7)++cs++L.toArray.toList.drop (i*7+cs.length))=L1 by rw [hL1]; simp] at hap;obtain⟨W1,hW1⟩ : ∃ W1,W1=w.drew.setRow g L1.toArray:=⟨_,rfl⟩;rw [<- hW1,show i+(ps.length-(i+1))=ps.length-1 by omega] at hap;have hr1:Row W1 g 61 L1:=by rw [hW1]; exact hrd.laid L1
 have hL1l:L1.length=cap*7:=by rw [hL1]; simp; omega
 have hclr : ∀ ty sc,(Builtin.clear_ #[23] ty #[.slice (some ⟨g,(ps.length-1)*7,none⟩) 1 sc]).run Tryz.prog W1=_:=fun ty sc =>
  run_clear_row W1 23 61 ty (.agg [.int .i64 0,.int .i64 0,.int .i64 0,.string ⟨#[]⟩,.int .i64 0,.slice none 0 0,.string ⟨#[]⟩].toArray) zs Tryz.underlying23 zv (by rw [hzs]; rfl) honez g ((ps.length-1)*7) sc L1 61 hr1 (by omega)
 rw [hR1] at hclr;obtain⟨L2,hL2⟩ : ∃ L2,L2=(mc ps).take (i*7)++cs++rest':=⟨_,rfl⟩;rw [<- hL2] at hclr;have hclr2 : ∀ ty sc,(Builtin.clear_ #[23] ty #[.slice (some ⟨g,(ps.length-1)*7,none⟩) (ps.length-(ps.length-1)) sc]).run Tryz.prog W1 = .ok (.tuple #[]) (W1.setRow g L2.toArray):=fun ty sc=>by
  rw [show ps.length-(ps.length-1)=1 by omega];exact hclr ty sc
 clear hclr;have hfin:DelPost w base (.slice (some ⟨g,0,none⟩) ps.length cap) (ps.take i++ps.drop (i+1)) (.returned (.slice (some ⟨g,0,none⟩) (ps.length-1) cap)) (W1.setRow g L2.toArray):=by
  rw [hL2];refine⟨_,rfl, ?_, ?_⟩
  · have hlen:(ps.take i++ps.drop (i+1)).length=ps.length-1:=by simp; omega
    have hcc:mc (ps.take i++ps.drop (i+1))=(mc ps).take (i*7)++cs:=by rw [mc_append,mc_take,mc_drop,hcs]
    rw [hlen,hcc];refine owns_mk (rest:=rest') hb (hr1.laid _) (by omega) hcm ?_ ?_
    · rw [<- hcc,mc_length,hlen]
    · rw [List.length_append,<- hcc,mc_length,hlen,hR2]
      rw [hL,List.length_append,hcl] at hl;omega
  · refine grown_trans ?_ (setRow_grown W1 g _)
    rw [hW1];exact grown_of_drew (setRow_grown w.drew g _)
 have HF:=H_ hfin;have hml:cap<=9223372036854775807:=by unfold maxLen at hcm; omega
 generalize hN:ps.length=n at *;have hq1:i<=cap:=by omega
 have hq2:i+1<=cap:=by omega
 have hq3:i+1<=n:=by omega
 have hq4:(i:Int)+1<=(n:Int):=by omega
 have hq5:(n:Int)-1=((n-1:Nat):Int):=by omega
 have hz9:((i:Int)==(i:Int)+1)=false:=by rw [beq_eq_false_iff_ne]; omega
 have hw1:IntKind.i64.wrap ((i:Int)+1)=(i:Int)+1:=by rw [IntKind.wrap_i64]; omega
 have hb1:(0:Int)<=(i:Int)+1:=by omega
 have htn:((i:Int)+1).toNat=i+1:=by omega
 have hcne : ¬ (cap=n-1):=by omega
 clear hL2 hfin hR1 hR2 hL hL1 hzs hcs hcsl hN hcl hsrc honec honez hrd hr hr1 hl hW1 hL1l hzl;go_enter Tryz.func145,Tryz.ntmps145;go_wp2_with fail
 go_region_law (refine step_append_eq rfl (.tmp 22) (.tmp 25) 23 23 rfl (.slice (some ⟨g,0,none⟩) i cap) (.slice (some A) (n-(i+1)) (cap-(i+1))) (by simp [Act.eval,Act.put]) (by simp [Act.eval,Act.put]) (hap _ (cap-(i+1))) ?_)
 go_wp2;go_ret;exact HF.out
end Go.Proofs.YtoljpfapphoflaaGreatDoor.RwDel

set_option maxRecDepth 512
namespace Go.Proofs.YtoljpfapphoflaaGreatDoor.RwMc
open Go.RowKit BxD BxKit BxA BxR BxC RwD RwKit RwOwn RwDel RwW1 RwMb
theorem mc_set7 : ∀ (l:List Raw) (i:Nat) (r:Raw),i<l.length ->
 (((((((mc l).set (i*7) (.int .i64 r.m.uid)).set (i*7+1) (.int .i64 r.m.mod)).set (i*7+2) (.int .i64 r.m.date)).set (i*7+3) (.string r.m.id)).set (i*7+4) (.int .i64 r.m.flags)).set (i*7+5) (.slice r.K r.m.keys.length r.c)).set (i*7+6) (.string r.m.text)=mc (l.set i r)
 | r0::l,0,r,_=>by
  unfold mc;rw [List.flatMap_cons,List.set_cons_zero,List.flatMap_cons];simp [cell7]
 | r0::l,i+1,r,h=>by
  have:=mc_set7 l i r (by simpa using h);unfold mc at this ⊢;rw [List.set_cons_succ,List.flatMap_cons,List.flatMap_cons,<- this];have e : ∀ (ys:List Value) (f:Nat) (u:Value),(cell7 r0++ys).set ((i+1)*7+f) u=cell7 r0++ys.set (i*7+f) u:=fun ys f u=>by
   rw [List.set_append_right _ _ (by simp [cell7]; omega)]
   congr 2
   simp [cell7]; omega
  have e0 : ∀ (ys:List Value) (u:Value),(cell7 r0++ys).set ((i+1)*7) u=cell7 r0++ys.set (i*7) u:=fun ys u=>by
   have:=e ys 0 u;simpa using this
  rw [e0,e,e,e,e,e,e]
theorem mc_at {w:World} {base n g:Nat} {v:Value} {rs:List Raw} {k:Nat} {r:Raw} (h:w.ownsRow base 61 7 v n (mc rs)) (hv:v.ownBlock=some g) (hr:rs[k]? = some r) :
 w.cell? ⟨g,k*7,none⟩ = some (.int .i64 r.m.uid)/\w.cell? ⟨g,k*7+1,none⟩ = some (.int .i64 r.m.mod)/\w.cell? ⟨g,k*7+2,none⟩ = some (.int .i64 r.m.date)/\w.cell? ⟨g,k*7+3,none⟩ = some (.string r.m.id) /\
  w.cell? ⟨g,k*7+4,none⟩ = some (.int .i64 r.m.flags)/\w.cell? ⟨g,k*7+5,none⟩ = some (.slice r.K r.m.keys.length r.c)/\w.cell? ⟨g,k*7+6,none⟩ = some (.string r.m.text):=by
 have c : ∀ f,f<7->∀ u,(cell7 r)[f]? = some u->w.cell? ⟨g,k*7+f,none⟩=some u:=fun f hf u hu=>own_cell h hv ((mc_get rs k f r hr hf).trans hu);exact⟨c 0 (by decide) _ rfl,c 1 (by decide) _ rfl,c 2 (by decide) _ rfl,c 3 (by decide) _ rfl,c 4 (by decide) _ rfl,c 5 (by decide) _ rfl,c 6 (by decide) _ rfl⟩
def put7 (w:World) (g o:Nat) (r:Raw):World :=
 ((((((w.setCell ⟨g,o,none⟩ (.int .i64 r.m.uid)).setCell ⟨g,o+1,none⟩ (.int .i64 r.m.mod)).setCell ⟨g,o+2,none⟩ (.int .i64 r.m.date)).setCell ⟨g,o+3,none⟩ (.string r.m.id)).setCell ⟨g,o+4,none⟩ (.int .i64 r.m.flags)).setCell ⟨g,o+5,none⟩ (.slice r.K r.m.keys.length r.c)).setCell ⟨g,o+6,none⟩ (.string r.m.text)
theorem put7_own {w:World} {base n g:Nat} {v:Value} {rs:List Raw} {k:Nat} {r:Raw} (h:w.ownsRow base 61 7 v n (mc rs)) (hv:v.ownBlock=some g) (hk:k<rs.length):(put7 w g (k*7) r).ownsRow base 61 7 v n (mc (rs.set k r)):=by
 rw [<- mc_set7 rs k r hk];unfold put7;exact own_set (own_set (own_set (own_set (own_set (own_set (own_set h hv _ _) hv _ _) hv _ _) hv _ _) hv _ _) hv _ _) hv _ _
theorem put7_grown (w:World) (g o:Nat) (r:Raw):w.grownBy (put7 w g o r) (some g):=by
 unfold put7;exact grown_trans (grown_trans (grown_trans (grown_trans (grown_trans (grown_trans (setCell_grown w _ _) (setCell_grown _ _ _)) (setCell_grown _ _ _)) (setCell_grown _ _ _)) (setCell_grown _ _ _)) (setCell_grown _ _ _)) (setCell_grown _ _ _)
structure XB (w wr:World) (base:Nat) (b:Box) (vw vm:Value) (rs:List Raw) (r:Row) (J:Option Addr) (jc:Nat):Prop where
 low:Below w.heap.size w wr
 sb:SB w wr base w.heap.size (w.heap.size+2) b vw vm rs
 lb:LB wr (w.heap.size+1) r J jc
section
variable {w wr w2 : World} {base : Nat} {b : Box} {vw vm : Value} {rs : List Raw} {r : Row} {J : Option Addr} {jc : Nat}
theorem XB.size (h:XB w wr base b vw vm rs r J jc):w.heap.size+3<=wr.heap.size:=h.sb.ltR
theorem XB.go (h:XB w wr base b vw vm rs r J jc) (hb:Below wr.heap.size wr w2):XB w w2 base b vw vm rs r J jc:=⟨h.low.trans (hb.mono (by have:=h.size; omega)),h.sb.go hb,h.lb.go hb⟩
theorem XB.drew (h:XB w wr base b vw vm rs r J jc):XB w wr.drew base b vw vm rs r J jc:=h.go (Below.drew (Below.refl _ _))
theorem XB.alloc (h:XB w wr base b vw vm rs r J jc) (o:Obj):XB w (wr.alloc o) base b vw vm rs r J jc:=h.go ((Below.refl _ _).alloc lr_ o)
theorem XB.start (h:OB w base b vw vm rs) (hb:base<=w.heap.size) (r:Row) (J:Option Addr) (jc:Nat) :
 XB w (((w.alloc (.cells #[.string b.id,.int .i64 b.valid,.int .i64 b.next,.int .i64 b.high,vw,vm] 25)).alloc (.cells #[.int .i64 r.kind,.int .i64 r.uid,.int .i64 r.mod,.int .i64 r.msg.uid,.int .i64 r.msg.mod,.int .i64 r.msg.date,.string r.msg.id,.int .i64 r.msg.flags,.slice J r.msg.keys.length jc,.string r.msg.text,.string r.text] 63)).alloc (.cells #[.string ⟨#[]⟩,.int .i64 0,.int .i64 0,.int .i64 0,.slice none 0 0,.slice none 0 0] 25)) base b vw vm rs r J jc:=by
 obtain⟨p0,p1,_⟩:=SB.start3 h hb (.cells #[.int .i64 r.kind,.int .i64 r.uid,.int .i64 r.mod,.int .i64 r.msg.uid,.int .i64 r.msg.mod,.int .i64 r.msg.date,.string r.msg.id,.int .i64 r.msg.flags,.slice J r.msg.keys.length jc,.string r.msg.text,.string r.text] 63);exact⟨(((Below.refl _ _).alloc lr_ _).alloc (by simp) _).alloc (by simp; omega) _,p0,p1⟩
def XS (w:World) (b:Box) (vm:Value) (g k:Nat) (q:Raw) (r:Row) (J:Option Addr) (jc:Nat) (wr:World):Prop :=
 wr.cell? ⟨w.heap.size,5,none⟩ = some vm/\wr.cell? ⟨g,k*7,none⟩ = some (.int .i64 q.m.uid)/\wr.cell? ⟨g,k*7+1,none⟩ = some (.int .i64 q.m.mod)/\wr.cell? ⟨g,k*7+2,none⟩ = some (.int .i64 q.m.date)/\wr.cell? ⟨g,k*7+3,none⟩ = some (.string q.m.id) /\
  wr.cell? ⟨g,k*7+4,none⟩ = some (.int .i64 q.m.flags)/\wr.cell? ⟨g,k*7+5,none⟩ = some (.slice q.K q.m.keys.length q.c)/\wr.cell? ⟨g,k*7+6,none⟩ = some (.string q.m.text) /\
 wr.cell? ⟨w.heap.size+1,0,none⟩ = some (.int .i64 r.kind)/\wr.cell? ⟨w.heap.size+1,1,none⟩ = some (.int .i64 r.uid)/\wr.cell? ⟨w.heap.size+1,2,none⟩ = some (.int .i64 r.mod)/\wr.cell? ⟨w.heap.size+1,3,none⟩ = some (.int .i64 r.msg.uid)/\wr.cell? ⟨w.heap.size+1,4,none⟩ = some (.int .i64 r.msg.mod) /\
  wr.cell? ⟨w.heap.size+1,5,none⟩ = some (.int .i64 r.msg.date)/\wr.cell? ⟨w.heap.size+1,6,none⟩ = some (.string r.msg.id)/\wr.cell? ⟨w.heap.size+1,7,none⟩ = some (.int .i64 r.msg.flags)/\wr.cell? ⟨w.heap.size+1,8,none⟩ = some (.slice J r.msg.keys.length jc)/\wr.cell? ⟨w.heap.size+1,9,none⟩ = some (.string r.msg.text)/\wr.cell? ⟨w.heap.size+1,10,none⟩ = some (.string r.text)
theorem XB.xs (h:XB w wr base b vw vm rs r J jc) {g k:Nat} {q:Raw} (hv:vm.ownBlock=some g) (hr:rs[k]? = some q):XS w b vm g k q r J jc wr:=by
 obtain⟨a0,a1,a2,a3,a4,a5,a6⟩:=mc_at h.sb.own.om hv hr;exact⟨h.sb.facts.2.2.2.2.2,a0,a1,a2,a3,a4,a5,a6,h.lb.facts⟩
def fill7 (w:World) (Q:Nat) (r:Raw):World :=
 ((((((w.setCell ⟨Q,0,none⟩ (.int .i64 r.m.uid)).setCell ⟨Q,1,none⟩ (.int .i64 r.m.mod)).setCell ⟨Q,2,none⟩ (.int .i64 r.m.date)).setCell ⟨Q,3,none⟩ (.string r.m.id)).setCell ⟨Q,4,none⟩ (.int .i64 r.m.flags)).setCell ⟨Q,5,none⟩ (.slice r.K r.m.keys.length r.c)).setCell ⟨Q,6,none⟩ (.string r.m.text)
theorem fill7_other {w:World} {Q k:Nat} (h:k≠Q) (r:Raw):(fill7 w Q r).heap[k]? = w.heap[k]?:=by
 unfold fill7
 iterate 7 rw [Below.heap_setCell _ _ _ _ (by show k≠Q; exact h)]
theorem fill7_mb {w:World} {Q c0:Nat} {m0:Msg} {K0:Option Addr} (h:MB w Q m0 K0 c0) (r:Raw):MB (fill7 w Q r) Q r.m r.K r.c:=by
 unfold MB at *;unfold fill7;simp [World.setCell,Array.getElem?_modify,h]
theorem XB.fill (h:XB w wr base b vw vm rs r J jc) {Q c0:Nat} {m0:Msg} {K0:Option Addr} (hq:MB wr Q m0 K0 c0) (hQ:w.heap.size+3<=Q) (hg:vm.ownBlock≠some Q) (q:Raw):XB w (fill7 wr Q q) base b vw vm rs r J jc:=by
 have hB:w.heap.size<=Q:=by omega
 have low:Below w.heap.size w (fill7 wr Q q):=by
  unfold fill7;exact ((((((h.low.setCell hB _).setCell hB _).setCell hB _).setCell hB _).setCell hB _).setCell hB _).setCell hB _
 have hbQ:base<=Q:=Nat.le_trans h.sb.hb hB;have bel:Below base w (fill7 wr Q q):=by
  unfold fill7;exact ((((((h.sb.bel.setCell hbQ _).setCell hbQ _).setCell hbQ _).setCell hbQ _).setCell hbQ _).setCell hbQ _).setCell hbQ _
 have ob:=h.sb.own;refine⟨low,⟨bel,h.sb.hb,h.sb.hP,h.sb.hR,h.sb.ne,(fill7_other (by omega) _).trans h.sb.blk,(fill7_other (by omega) _).trans h.sb.res, ?_,fun k cs t fr hk h1 h2=>(fill7_other (by have:=(gs_ hk).1; omega) _).trans (h.sb.ty k cs t fr hk h1 h2)⟩,(fill7_other (by omega) _).trans h.lb⟩;exact⟨own_block ob.ow fun g e=>fill7_other (fun e2=>own_ne_blk ob.ow hq (by decide) (by rw [<- e2]; exact e)) _,own_block ob.om fun g e=>fill7_other (fun e2=>hg (by rw [<- e2]; exact e)) _,ob.rm,
  fun r hr=>own_block (ob.ko r hr) fun g e=>fill7_other (fun e2=>own_ne_blk (ob.ko r hr) hq (by decide) (by rw [<- e2]; exact e)) _⟩
end
end Go.Proofs.YtoljpfapphoflaaGreatDoor.RwMc

set_option maxHeartbeats 2000000
set_option maxRecDepth 100000
namespace Go.Proofs.YtoljpfapphoflaaGreatDoor.RwW4
open Go.RowKit BxD BxKit BxA BxR BxC RwD RwKit RwOwn RwW1 RwMb
def chM (m:Msg) (r:Row):Msg :=
  if r.kind=2 then ⟨m.uid,r.mod,m.date,m.id,r.msg.flags,r.msg.keys,m.text⟩
  else if r.kind=5 then ⟨m.uid,m.mod,m.date,r.text,m.flags,m.keys,m.text⟩
  else if r.kind=6\/r.kind=3 then ⟨m.uid,r.mod,m.date,m.id,m.flags,m.keys,m.text⟩ else m
def ChPost (m':Msg) (base:Nat) (w:World) (e:Ending) (w':World):Prop :=
  ∃ K c,e = .returned (.agg #[.int .i64 m'.uid,.int .i64 m'.mod,.int .i64 m'.date,.string m'.id,.int .i64 m'.flags,.slice K m'.keys.length c,.string m'.text]) /\
    w'.ownsRow base 3 1 (.slice K m'.keys.length c) m'.keys.length (m'.keys.map (Value.int .i64))/\Below w.heap.size w w'
structure CB (w wr:World) (m:Msg) (r:Row) (K J:Option Addr) (kc jc:Nat):Prop where
  bel:Below w.heap.size w wr
  mb:MB wr w.heap.size m K kc
  lb:LB wr (w.heap.size+1) r J jc
  rb:MB wr (w.heap.size+2) noM none 0
section
variable {w wr w2 : World} {m : Msg} {r : Row} {K J : Option Addr} {kc jc : Nat}
theorem CB.start (w:World) (m:Msg) (r:Row) (K J:Option Addr) (kc jc:Nat) :
    CB w (((w.alloc (.cells #[.int .i64 m.uid,.int .i64 m.mod,.int .i64 m.date,.string m.id,.int .i64 m.flags,.slice K m.keys.length kc,.string m.text] 61)).alloc (.cells #[.int .i64 r.kind,.int .i64 r.uid,.int .i64 r.mod,.int .i64 r.msg.uid,.int .i64 r.msg.mod,.int .i64 r.msg.date,.string r.msg.id,.int .i64 r.msg.flags,.slice J r.msg.keys.length jc,.string r.msg.text,.string r.text] 63)).alloc
      (.cells #[.int .i64 0,.int .i64 0,.int .i64 0,.string ⟨#[]⟩,.int .i64 0,.slice none 0 0,.string ⟨#[]⟩] 61)) m r K J kc jc:=by
  generalize hb1:Obj.cells #[.int .i64 m.uid,.int .i64 m.mod,.int .i64 m.date,.string m.id,.int .i64 m.flags,.slice K m.keys.length kc,.string m.text] 61=b1;generalize ho:Obj.cells #[.int .i64 r.kind,.int .i64 r.uid,.int .i64 r.mod,.int .i64 r.msg.uid,.int .i64 r.msg.mod,.int .i64 r.msg.date,.string r.msg.id,.int .i64 r.msg.flags,.slice J r.msg.keys.length jc,.string r.msg.text,.string r.text] 63=o;generalize hz:Obj.cells #[.int .i64 0,.int .i64 0,.int .i64 0,.string ⟨#[]⟩,.int .i64 0,.slice none 0 0,.string ⟨#[]⟩] 61=z;have e0:(((w.alloc b1).alloc o).alloc z).heap[w.heap.size]? = some b1:=(heap_alloc_old _ _ (by simp; omega)).trans ((heap_alloc_old _ _ (by simp)).trans (heap_alloc_new w _))
  have e1:(((w.alloc b1).alloc o).alloc z).heap[w.heap.size+1]? = some o:=by
    have:=heap_alloc_new (w.alloc b1) o;rw [show (w.alloc b1).heap.size=w.heap.size+1 by simp] at this;exact (heap_alloc_old _ _ (by simp)).trans this
  have e2:(((w.alloc b1).alloc o).alloc z).heap[w.heap.size+2]? = some z:=by
    have:=heap_alloc_new ((w.alloc b1).alloc o) z
    rwa [show ((w.alloc b1).alloc o).heap.size=w.heap.size+2 by simp] at this
  exact⟨(((Below.refl _ _).alloc lr_ _).alloc (by simp) _).alloc (by simp; omega) _,e0.trans (by rw [<- hb1]),e1.trans (by rw [<- ho]),e2.trans (by rw [<- hz]; rfl)⟩
theorem CB.drew (h:CB w wr m r K J kc jc):CB w wr.drew m r K J kc jc:=⟨h.bel.drew,h.mb,h.lb,h.rb⟩
theorem CB.size (h:CB w wr m r K J kc jc):w.heap.size+3<=wr.heap.size:=h.rb.lt
theorem CB.go (h:CB w wr m r K J kc jc) (hb:Below wr.heap.size wr w2):CB w w2 m r K J kc jc:=by
  have:=h.size;exact⟨h.bel.trans (hb.mono (by omega)),h.mb.go hb,h.lb.go hb,h.rb.go hb⟩
theorem CB.turn (h:CB w wr m r K J kc jc) {m':Msg} {K':Option Addr} {kc':Nat} (hm:MB w2 w.heap.size m' K' kc') (ho : ∀ k,k≠w.heap.size->w2.heap[k]? = wr.heap[k]?) (hb:Below w.heap.size w w2):CB w w2 m' r K' J kc' jc :=
  ⟨hb,hm,(ho _ (by omega)).trans h.lb,(ho _ (by omega)).trans h.rb⟩
theorem CB.ret (h:CB w wr m r K J kc jc) : ∃ W,W=(((((((wr.setCell ⟨w.heap.size+2,0,none⟩ (.int .i64 m.uid)).setCell ⟨w.heap.size+2,1,none⟩ (.int .i64 m.mod)).setCell ⟨w.heap.size+2,2,none⟩ (.int .i64 m.date)).setCell ⟨w.heap.size+2,3,none⟩ (.string m.id)).setCell ⟨w.heap.size+2,4,none⟩ (.int .i64 m.flags)).setCell ⟨w.heap.size+2,5,none⟩ (.slice K m.keys.length kc)).setCell ⟨w.heap.size+2,6,none⟩ (.string m.text)) /\
    W.cell? ⟨w.heap.size+2,0,none⟩ = some (.int .i64 m.uid)/\W.cell? ⟨w.heap.size+2,1,none⟩ = some (.int .i64 m.mod)/\W.cell? ⟨w.heap.size+2,2,none⟩ = some (.int .i64 m.date)/\W.cell? ⟨w.heap.size+2,3,none⟩ = some (.string m.id)/\W.cell? ⟨w.heap.size+2,4,none⟩ = some (.int .i64 m.flags) /\
    W.cell? ⟨w.heap.size+2,5,none⟩ = some (.slice K m.keys.length kc)/\W.cell? ⟨w.heap.size+2,6,none⟩ = some (.string m.text)/\Below w.heap.size w W/\∀ k,k≠w.heap.size+2->W.heap[k]? = wr.heap[k]?:=by
  refine⟨_,rfl, ?_⟩;have hr:=h.rb;unfold MB at hr
  have hR:(((((((wr.setCell ⟨w.heap.size+2,0,none⟩ (.int .i64 m.uid)).setCell ⟨w.heap.size+2,1,none⟩ (.int .i64 m.mod)).setCell ⟨w.heap.size+2,2,none⟩ (.int .i64 m.date)).setCell ⟨w.heap.size+2,3,none⟩ (.string m.id)).setCell ⟨w.heap.size+2,4,none⟩ (.int .i64 m.flags)).setCell ⟨w.heap.size+2,5,none⟩ (.slice K m.keys.length kc)).setCell ⟨w.heap.size+2,6,none⟩ (.string m.text)).heap[w.heap.size+2]? =
      some (.cells #[.int .i64 m.uid,.int .i64 m.mod,.int .i64 m.date,.string m.id,.int .i64 m.flags,.slice K m.keys.length kc,.string m.text] 61 (0,0)):=by
    simp [World.setCell,Array.getElem?_modify,hr]
  obtain⟨a0,a1,a2,a3,a4,a5,a6⟩:=MB.facts hR;refine⟨a0,a1,a2,a3,a4,a5,a6, ?_,fun k hk=>?_⟩
  · have hbR:w.heap.size<=w.heap.size+2:=by omega
    exact ((((((h.bel.setCell hbR _).setCell hbR _).setCell hbR _).setCell hbR _).setCell hbR _).setCell hbR _).setCell hbR _
  · iterate 7 rw [Below.heap_setCell _ _ _ _ (by show k≠w.heap.size+2; exact hk)]
end
theorem own_far {w W:World} {base n Q:Nat} {v:Value} {xs:List Value} {cs:Array Value} (hr:w.heap[Q]? = some (.cells cs 61 (0,0))) (h:w.ownsRow base 3 1 v n xs) (ho : ∀ k,k≠Q->W.heap[k]? = w.heap[k]?):W.ownsRow base 3 1 v n xs :=
  own_block h fun g e=>ho g fun e2=>own_ne_blk h hr (by decide) (by rw [<- e2]; exact e)
theorem ch_none {w:World} {base B:Nat} {m:Msg} {r:Row} {K J:Option Addr} {kc jc:Nat} (hb:base<=w.heap.size) (hk:w.ownsRow base 3 1 (.slice K m.keys.length kc) m.keys.length (m.keys.map (Value.int .i64))) (hj:IntsAt w B J r.msg.keys.length r.msg.keys) (hB:B<=w.heap.size) (h6:r.msg.keys.length<=17592186044416) (h2:r.kind≠2) (h5:r.kind≠5) (h66:r.kind≠6) (h3:r.kind≠3) :
    Calls Tryz.prog 144 #[.agg #[.int .i64 m.uid,.int .i64 m.mod,.int .i64 m.date,.string m.id,.int .i64 m.flags,.slice K m.keys.length kc,.string m.text],.agg #[.int .i64 r.kind,.int .i64 r.uid,.int .i64 r.mod,.int .i64 r.msg.uid,.int .i64 r.msg.mod,.int .i64 r.msg.date,.string r.msg.id,.int .i64 r.msg.flags,.slice J r.msg.keys.length jc,.string r.msg.text,.string r.text]] w (ChPost m base w):=by
  have C0:=H_ (CB.start w m r K J kc jc);have HJ:=H_ (IntsAt.below hj C0.out.bel hB);have HK:=H_ (own_block hk fun g e=>C0.out.bel.block g (hk.lt g e).2);clear hj hk;go_enter Tryz.func144,Tryz.ntmps144;go_upto_region 1 with fail
  generalize (World.alloc (World.alloc (World.alloc w _) _) _)=w1 at C0 HJ HK ⊢;have hsz:=C0.out.size;obtain⟨m0,m1,m2,m3,m4,m5,m6⟩:=C0.out.mb.facts;obtain⟨r0,r1,r2,r3,r4,r5,r6,r7,r8,r9,r10⟩:=C0.out.lb.facts;clear m0 m1 m2 m3 m4 m5 m6;go_upto_region 9 with fail
  clear r0 r1 r2 r3 r4 r5 r6 r7 r8 r9 r10;obtain⟨m0,m1,m2,m3,m4,m5,m6⟩:=C0.out.mb.facts;obtain⟨d0,d1,d2,d3,d4,d5,d6⟩:=C0.out.rb.facts;have f0:=C0.out.rb.free 0;have f1:=C0.out.rb.free 1;have f2:=C0.out.rb.free 2;have f3:=C0.out.rb.free 3;have f4:=C0.out.rb.free 4;have f5:=C0.out.rb.free 5;have f6:=C0.out.rb.free 6;go_wp2_with fail
  obtain⟨W,hW,q0,q1,q2,q3,q4,q5,q6,hWb,hWo⟩:=C0.out.ret
  try (dsimp only at hW q0 q1 q2 q3 q4 q5 q6)
  rw [<- hW];refine bodyPost_ret (v:=.agg #[.int .i64 m.uid,.int .i64 m.mod,.int .i64 m.date,.string m.id,.int .i64 m.flags,.slice K m.keys.length kc,.string m.text]) (by simp [results,Tryz.results144,go_sem,q0,q1,q2,q3,q4,q5,q6]) rfl ?_;exact⟨_,_,rfl,own_far C0.out.rb HK.out hWo,hWb⟩
theorem ch_name {w:World} {base B:Nat} {m:Msg} {r:Row} {K J:Option Addr} {kc jc:Nat} (hb:base<=w.heap.size) (hk:w.ownsRow base 3 1 (.slice K m.keys.length kc) m.keys.length (m.keys.map (Value.int .i64))) (hj:IntsAt w B J r.msg.keys.length r.msg.keys) (hB:B<=w.heap.size) (h6:r.msg.keys.length<=17592186044416) (h5:r.kind=5) :
    Calls Tryz.prog 144 #[.agg #[.int .i64 m.uid,.int .i64 m.mod,.int .i64 m.date,.string m.id,.int .i64 m.flags,.slice K m.keys.length kc,.string m.text],.agg #[.int .i64 r.kind,.int .i64 r.uid,.int .i64 r.mod,.int .i64 r.msg.uid,.int .i64 r.msg.mod,.int .i64 r.msg.date,.string r.msg.id,.int .i64 r.msg.flags,.slice J r.msg.keys.length jc,.string r.msg.text,.string r.text]] w (ChPost ⟨m.uid,m.mod,m.date,r.text,m.flags,m.keys,m.text⟩ base w):=by
  have C0:=H_ (CB.start w m r K J kc jc);have HJ:=H_ (IntsAt.below hj C0.out.bel hB);have HK:=H_ (own_block hk fun g e=>C0.out.bel.block g (hk.lt g e).2);clear hj hk;have H5:=H_ h5;clear h5;go_enter Tryz.func144,Tryz.ntmps144;go_upto_region 1 with fail
  generalize (World.alloc (World.alloc (World.alloc w _) _) _)=w1 at C0 HJ HK ⊢;have hsz:=C0.out.size;obtain⟨m0,m1,m2,m3,m4,m5,m6⟩:=C0.out.mb.facts;obtain⟨r0,r1,r2,r3,r4,r5,r6,r7,r8,r9,r10⟩:=C0.out.lb.facts;rw [H5.out] at r0;have f:=C0.out.mb.free 3;go_upto_region 9 with fail
  have C1:=H_ (show CB w (w1.setCell ⟨w.heap.size,3,none⟩ (.string r.text)) ⟨m.uid,m.mod,m.date,r.text,m.flags,m.keys,m.text⟩ r K J kc jc from C0.out.turn (by have:=C0.out.mb; unfold MB at *; simp [World.setCell,Array.getElem?_modify,this]) (fun k hk=>Below.heap_setCell _ _ _ _ (by show k≠w.heap.size; exact hk)) (C0.out.bel.setCell lr_ _));have HK1:=H_ (own_far C0.out.mb HK.out (fun k hk=>Below.heap_setCell w1 ⟨w.heap.size,3,none⟩ (.string r.text) k hk));clear f C0 HK HJ m0 m1 m2 m3 m4 m5 m6 r0 r1 r2 r3 r4 r5 r6 r7 r8 r9 r10;generalize (World.setCell w1 _ _)=w2 at C1 HK1 ⊢;obtain⟨m0,m1,m2,m3,m4,m5,m6⟩:=C1.out.mb.facts;obtain⟨d0,d1,d2,d3,d4,d5,d6⟩:=C1.out.rb.facts;have f0:=C1.out.rb.free 0;have f1:=C1.out.rb.free 1;have f2:=C1.out.rb.free 2;have f3:=C1.out.rb.free 3;have f4:=C1.out.rb.free 4;have f5:=C1.out.rb.free 5;have f6:=C1.out.rb.free 6;go_wp2_with fail
  obtain⟨W,hW,q0,q1,q2,q3,q4,q5,q6,hWb,hWo⟩:=C1.out.ret
  try (dsimp only at hW q0 q1 q2 q3 q4 q5 q6)
  rw [<- hW];refine bodyPost_ret (v:=.agg #[.int .i64 m.uid,.int .i64 m.mod,.int .i64 m.date,.string r.text,.int .i64 m.flags,.slice K m.keys.length kc,.string m.text]) (by simp [results,Tryz.results144,go_sem,q0,q1,q2,q3,q4,q5,q6]) rfl ?_;exact⟨_,_,rfl,own_far C1.out.rb HK1.out hWo,hWb⟩
theorem ch_mod {w:World} {base B:Nat} {m:Msg} {r:Row} {K J:Option Addr} {kc jc:Nat} (hb:base<=w.heap.size) (hk:w.ownsRow base 3 1 (.slice K m.keys.length kc) m.keys.length (m.keys.map (Value.int .i64))) (hj:IntsAt w B J r.msg.keys.length r.msg.keys) (hB:B<=w.heap.size) (h6:r.msg.keys.length<=17592186044416) (h5:r.kind=6) :
    Calls Tryz.prog 144 #[.agg #[.int .i64 m.uid,.int .i64 m.mod,.int .i64 m.date,.string m.id,.int .i64 m.flags,.slice K m.keys.length kc,.string m.text],.agg #[.int .i64 r.kind,.int .i64 r.uid,.int .i64 r.mod,.int .i64 r.msg.uid,.int .i64 r.msg.mod,.int .i64 r.msg.date,.string r.msg.id,.int .i64 r.msg.flags,.slice J r.msg.keys.length jc,.string r.msg.text,.string r.text]] w (ChPost ⟨m.uid,r.mod,m.date,m.id,m.flags,m.keys,m.text⟩ base w):=by
  have C0:=H_ (CB.start w m r K J kc jc);have HJ:=H_ (IntsAt.below hj C0.out.bel hB);have HK:=H_ (own_block hk fun g e=>C0.out.bel.block g (hk.lt g e).2);clear hj hk;have H5:=H_ h5;clear h5;go_enter Tryz.func144,Tryz.ntmps144;go_upto_region 1 with fail
  generalize (World.alloc (World.alloc (World.alloc w _) _) _)=w1 at C0 HJ HK ⊢;have hsz:=C0.out.size;obtain⟨m0,m1,m2,m3,m4,m5,m6⟩:=C0.out.mb.facts;obtain⟨r0,r1,r2,r3,r4,r5,r6,r7,r8,r9,r10⟩:=C0.out.lb.facts;rw [H5.out] at r0;have f:=C0.out.mb.free 1;go_upto_region 9 with fail
  have C1:=H_ (show CB w (w1.setCell ⟨w.heap.size,1,none⟩ (.int .i64 r.mod)) ⟨m.uid,r.mod,m.date,m.id,m.flags,m.keys,m.text⟩ r K J kc jc from C0.out.turn (by have:=C0.out.mb; unfold MB at *; simp [World.setCell,Array.getElem?_modify,this]) (fun k hk=>Below.heap_setCell _ _ _ _ (by show k≠w.heap.size; exact hk)) (C0.out.bel.setCell lr_ _));have HK1:=H_ (own_far C0.out.mb HK.out (fun k hk=>Below.heap_setCell w1 ⟨w.heap.size,1,none⟩ (.int .i64 r.mod) k hk));clear f C0 HK HJ m0 m1 m2 m3 m4 m5 m6 r0 r1 r2 r3 r4 r5 r6 r7 r8 r9 r10;generalize (World.setCell w1 _ _)=w2 at C1 HK1 ⊢;obtain⟨m0,m1,m2,m3,m4,m5,m6⟩:=C1.out.mb.facts;obtain⟨d0,d1,d2,d3,d4,d5,d6⟩:=C1.out.rb.facts;have f0:=C1.out.rb.free 0;have f1:=C1.out.rb.free 1;have f2:=C1.out.rb.free 2;have f3:=C1.out.rb.free 3;have f4:=C1.out.rb.free 4;have f5:=C1.out.rb.free 5;have f6:=C1.out.rb.free 6;go_wp2_with fail
  obtain⟨W,hW,q0,q1,q2,q3,q4,q5,q6,hWb,hWo⟩:=C1.out.ret
  try (dsimp only at hW q0 q1 q2 q3 q4 q5 q6)
  rw [<- hW];refine bodyPost_ret (v:=.agg #[.int .i64 m.uid,.int .i64 r.mod,.int .i64 m.date,.string m.id,.int .i64 m.flags,.slice K m.keys.length kc,.string m.text]) (by simp [results,Tryz.results144,go_sem,q0,q1,q2,q3,q4,q5,q6]) rfl ?_;exact⟨_,_,rfl,own_far C1.out.rb HK1.out hWo,hWb⟩
theorem ch_cut {w:World} {base B:Nat} {m:Msg} {r:Row} {K J:Option Addr} {kc jc:Nat} (hb:base<=w.heap.size) (hk:w.ownsRow base 3 1 (.slice K m.keys.length kc) m.keys.length (m.keys.map (Value.int .i64))) (hj:IntsAt w B J r.msg.keys.length r.msg.keys) (hB:B<=w.heap.size) (h6:r.msg.keys.length<=17592186044416) (h5:r.kind=3) :
    Calls Tryz.prog 144 #[.agg #[.int .i64 m.uid,.int .i64 m.mod,.int .i64 m.date,.string m.id,.int .i64 m.flags,.slice K m.keys.length kc,.string m.text],.agg #[.int .i64 r.kind,.int .i64 r.uid,.int .i64 r.mod,.int .i64 r.msg.uid,.int .i64 r.msg.mod,.int .i64 r.msg.date,.string r.msg.id,.int .i64 r.msg.flags,.slice J r.msg.keys.length jc,.string r.msg.text,.string r.text]] w (ChPost ⟨m.uid,r.mod,m.date,m.id,m.flags,m.keys,m.text⟩ base w):=by
  have C0:=H_ (CB.start w m r K J kc jc);have HJ:=H_ (IntsAt.below hj C0.out.bel hB);have HK:=H_ (own_block hk fun g e=>C0.out.bel.block g (hk.lt g e).2);clear hj hk;have H5:=H_ h5;clear h5;go_enter Tryz.func144,Tryz.ntmps144;go_upto_region 1 with fail
  generalize (World.alloc (World.alloc (World.alloc w _) _) _)=w1 at C0 HJ HK ⊢;have hsz:=C0.out.size;obtain⟨m0,m1,m2,m3,m4,m5,m6⟩:=C0.out.mb.facts;obtain⟨r0,r1,r2,r3,r4,r5,r6,r7,r8,r9,r10⟩:=C0.out.lb.facts;rw [H5.out] at r0;have f:=C0.out.mb.free 1;go_upto_region 9 with fail
  have C1:=H_ (show CB w (w1.setCell ⟨w.heap.size,1,none⟩ (.int .i64 r.mod)) ⟨m.uid,r.mod,m.date,m.id,m.flags,m.keys,m.text⟩ r K J kc jc from C0.out.turn (by have:=C0.out.mb; unfold MB at *; simp [World.setCell,Array.getElem?_modify,this]) (fun k hk=>Below.heap_setCell _ _ _ _ (by show k≠w.heap.size; exact hk)) (C0.out.bel.setCell lr_ _));have HK1:=H_ (own_far C0.out.mb HK.out (fun k hk=>Below.heap_setCell w1 ⟨w.heap.size,1,none⟩ (.int .i64 r.mod) k hk));clear f C0 HK HJ m0 m1 m2 m3 m4 m5 m6 r0 r1 r2 r3 r4 r5 r6 r7 r8 r9 r10;generalize (World.setCell w1 _ _)=w2 at C1 HK1 ⊢;obtain⟨m0,m1,m2,m3,m4,m5,m6⟩:=C1.out.mb.facts;obtain⟨d0,d1,d2,d3,d4,d5,d6⟩:=C1.out.rb.facts;have f0:=C1.out.rb.free 0;have f1:=C1.out.rb.free 1;have f2:=C1.out.rb.free 2;have f3:=C1.out.rb.free 3;have f4:=C1.out.rb.free 4;have f5:=C1.out.rb.free 5;have f6:=C1.out.rb.free 6;go_wp2_with fail
  obtain⟨W,hW,q0,q1,q2,q3,q4,q5,q6,hWb,hWo⟩:=C1.out.ret
  try (dsimp only at hW q0 q1 q2 q3 q4 q5 q6)
  rw [<- hW];refine bodyPost_ret (v:=.agg #[.int .i64 m.uid,.int .i64 r.mod,.int .i64 m.date,.string m.id,.int .i64 m.flags,.slice K m.keys.length kc,.string m.text]) (by simp [results,Tryz.results144,go_sem,q0,q1,q2,q3,q4,q5,q6]) rfl ?_;exact⟨_,_,rfl,own_far C1.out.rb HK1.out hWo,hWb⟩
theorem ch_flags {w:World} {base B:Nat} {m:Msg} {r:Row} {K J:Option Addr} {kc jc:Nat} (hb:base<=w.heap.size) (hk:w.ownsRow base 3 1 (.slice K m.keys.length kc) m.keys.length (m.keys.map (Value.int .i64))) (hj:IntsAt w B J r.msg.keys.length r.msg.keys) (hB:B<=w.heap.size) (h6:r.msg.keys.length<=17592186044416) (h5:r.kind=2) :
    Calls Tryz.prog 144 #[.agg #[.int .i64 m.uid,.int .i64 m.mod,.int .i64 m.date,.string m.id,.int .i64 m.flags,.slice K m.keys.length kc,.string m.text],.agg #[.int .i64 r.kind,.int .i64 r.uid,.int .i64 r.mod,.int .i64 r.msg.uid,.int .i64 r.msg.mod,.int .i64 r.msg.date,.string r.msg.id,.int .i64 r.msg.flags,.slice J r.msg.keys.length jc,.string r.msg.text,.string r.text]] w (ChPost ⟨m.uid,r.mod,m.date,m.id,r.msg.flags,r.msg.keys,m.text⟩ base w):=by
  have C0:=H_ (CB.start w m r K J kc jc);have HJ:=H_ (IntsAt.below hj C0.out.bel hB);have HK:=H_ (own_block hk fun g e=>C0.out.bel.block g (hk.lt g e).2);clear hj hk;have H5:=H_ h5;clear h5;go_enter Tryz.func144,Tryz.ntmps144;go_upto_region 1 with fail
  generalize (World.alloc (World.alloc (World.alloc w _) _) _)=w1 at C0 HJ HK ⊢;have hsz:=C0.out.size;obtain⟨m0,m1,m2,m3,m4,m5,m6⟩:=C0.out.mb.facts;obtain⟨r0,r1,r2,r3,r4,r5,r6,r7,r8,r9,r10⟩:=C0.out.lb.facts;rw [H5.out] at r0;have KC:=H_ (fun (w':World) (hb:Below w1.heap.size w1 w')=>cloned_any (kc:=jc) (IntsAt.below HJ.out hb (by omega)) h6);go_upto_region 3 with fail
  go_region_held3 (fun wr=>wr.cell? ⟨w.heap.size+1,2,none⟩ = some (.int .i64 r.mod)/\wr.cell? ⟨w.heap.size+1,7,none⟩ = some (.int .i64 r.msg.flags)/\wr.cell? ⟨w.heap.size+1,8,none⟩ = some (.slice J r.msg.keys.length jc))
    (first | exact⟨r2,r7,r8⟩ | exact⟨C3.out.lb.facts.2.2.1,C3.out.lb.facts.2.2.2.2.2.2.2.1,C3.out.lb.facts.2.2.2.2.2.2.2.2.1⟩ | go_keep) (first
    | (go_at_call 142
       ((with_reducible refine (KC.out _ ?d1).mono ?_); rotate_left)
       case d1=>first | exact Below.refl _ _ | exact (Below.refl _ _).drew | exact below_drewN (Below.refl _ _) _
       rintro e w3 ⟨A1,k1,rfl,hown,hbel⟩;have C3:=H_ (show CB w w3 m r K J kc jc by first | exact C0.out.go hbel | exact C0.out.drew.go hbel);have HO3:=H_ hown;clear hown hbel m0 m1 m2 m3 m4 m5 m6;obtain⟨m0,m1,m2,m3,m4,m5,m6⟩:=C3.out.mb.facts;have f1:=C3.out.mb.free 1;have f4:=C3.out.mb.free 4;have f5:=C3.out.mb.free 5;dsimp only))
  rename_i hHeld;clear hHeld f1 f4 f5 KC m0 m1 m2 m3 m4 m5 m6 r0 r1 r2 r3 r4 r5 r6 r7 r8 r9 r10
  have C4:=H_ (show CB w (((w3.setCell ⟨w.heap.size,4,none⟩ (.int .i64 r.msg.flags)).setCell ⟨w.heap.size,5,none⟩ (.slice A1 r.msg.keys.length k1)).setCell ⟨w.heap.size,1,none⟩ (.int .i64 r.mod)) ⟨m.uid,r.mod,m.date,m.id,r.msg.flags,r.msg.keys,m.text⟩ r A1 J k1 jc from
    C3.out.turn (by have:=C3.out.mb; unfold MB at *; simp [World.setCell,Array.getElem?_modify,this]) (fun k hk=>by iterate 3 rw [Below.heap_setCell _ _ _ _ (by show k≠w.heap.size; exact hk)]) (((C3.out.bel.setCell lr_ _).setCell lr_ _).setCell lr_ _))
  have HO4:=H_ (own_far C3.out.mb (own_base HO3.out (show base<=w1.drew.heap.size by show base<=w1.heap.size; omega)) (W:=(((w3.setCell ⟨w.heap.size,4,none⟩ (.int .i64 r.msg.flags)).setCell ⟨w.heap.size,5,none⟩ (.slice A1 r.msg.keys.length k1)).setCell ⟨w.heap.size,1,none⟩ (.int .i64 r.mod))) (fun k hk=>by iterate 3 rw [Below.heap_setCell _ _ _ _ (by show k≠w.heap.size; exact hk)]));clear C0 HK HJ C3 HO3;generalize (World.setCell (World.setCell (World.setCell w3 _ _) _ _) _ _)=w4 at C4 HO4 ⊢;go_upto_region 9 with fail
  obtain⟨m0,m1,m2,m3,m4,m5,m6⟩:=C4.out.mb.facts;obtain⟨d0,d1,d2,d3,d4,d5,d6⟩:=C4.out.rb.facts;have f0:=C4.out.rb.free 0;have f1:=C4.out.rb.free 1;have f2:=C4.out.rb.free 2;have f3:=C4.out.rb.free 3;have f4:=C4.out.rb.free 4;have f5:=C4.out.rb.free 5;have f6:=C4.out.rb.free 6;go_wp2_with fail
  obtain⟨W,hW,q0,q1,q2,q3,q4,q5,q6,hWb,hWo⟩:=C4.out.ret
  try (dsimp only at hW q0 q1 q2 q3 q4 q5 q6)
  rw [<- hW];refine bodyPost_ret (v:=.agg #[.int .i64 m.uid,.int .i64 r.mod,.int .i64 m.date,.string m.id,.int .i64 r.msg.flags,.slice A1 r.msg.keys.length k1,.string m.text]) (by simp [results,Tryz.results144,go_sem,q0,q1,q2,q3,q4,q5,q6]) rfl ?_;exact⟨_,_,rfl,own_far C4.out.rb HO4.out hWo,hWb⟩
theorem changed_any {w:World} {base B:Nat} {m:Msg} {r:Row} {K J:Option Addr} {kc jc:Nat} (hb:base<=w.heap.size) (hk:w.ownsRow base 3 1 (.slice K m.keys.length kc) m.keys.length (m.keys.map (Value.int .i64))) (hj:IntsAt w B J r.msg.keys.length r.msg.keys) (hB:B<=w.heap.size) (h6:r.msg.keys.length<=17592186044416) :
    Calls Tryz.prog 144 #[.agg #[.int .i64 m.uid,.int .i64 m.mod,.int .i64 m.date,.string m.id,.int .i64 m.flags,.slice K m.keys.length kc,.string m.text],.agg #[.int .i64 r.kind,.int .i64 r.uid,.int .i64 r.mod,.int .i64 r.msg.uid,.int .i64 r.msg.mod,.int .i64 r.msg.date,.string r.msg.id,.int .i64 r.msg.flags,.slice J r.msg.keys.length jc,.string r.msg.text,.string r.text]] w (ChPost (chM m r) base w):=by
  unfold chM;by_cases h2:r.kind=2
  · rw [if_pos h2]
    exact ch_flags hb hk hj hB h6 h2
  rw [if_neg h2];by_cases h5:r.kind=5
  · rw [if_pos h5]
    exact ch_name hb hk hj hB h6 h5
  rw [if_neg h5];by_cases h66:r.kind=6
  · rw [if_pos (.inl h66)]
    exact ch_mod hb hk hj hB h6 h66
  by_cases h3:r.kind=3
  · rw [if_pos (.inr h3)]
    exact ch_cut hb hk hj hB h6 h3
  · rw [if_neg (by omega)]
    exact ch_none hb hk hj hB h6 h2 h5 h66 h3
end Go.Proofs.YtoljpfapphoflaaGreatDoor.RwW4
