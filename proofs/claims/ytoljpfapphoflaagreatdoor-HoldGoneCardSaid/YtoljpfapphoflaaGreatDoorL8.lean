/-
  RwW10
-/
import Derived.Test.YtoljpfapphoflaaGreatDoorJ3
import Derived.Test.YtoljpfapphoflaaGreatDoorZ9
set_option linter.unusedVariables false
set_option linter.unusedSimpArgs false
set_option maxHeartbeats 8000000
set_option maxRecDepth 100000
namespace Go.Proofs.YtoljpfapphoflaaGreatDoor.RwW10
open Go.RowKit BxD BxKit BxA BxR BxC BxCp BxB BxOp RwD RwKit RwOwn RwW1 RwMb RwMc RwW9
theorem OB.lie {W:World} {base lo:Nat} {c:Box} {WA MA:Option Addr} {wc mcp:Nat} {rs:List Raw} (h:OB W base c (.slice WA c.words.length wc) (.slice MA c.msgs.length mcp) rs) (f:Fit c) (hlo:lo<=base):Lie lo W.heap.size W WA c.words.length c.words MA c.msgs.length c.msgs:=by
 intro w2 hs hk;have o2:OB w2 base c (.slice WA c.words.length wc) (.slice MA c.msgs.length mcp) rs:=h.map fun g h1 h2=>hk g (by omega) h2;have h1:=f.wl;have h2:=f.ml;refine⟨strsAt_ownB o2.ow (fun g e=>(h.ow.lt g e).2) (by omega) f.ws, ?_⟩;have:=msgsAt_ownB o2.om (fun g e=>(h.om.lt g e).2) (by omega) (fun r hr=>by
  obtain⟨f1,f2,f3⟩:=f.ms r.m (by rw [<- h.rm]; exact List.mem_map_of_mem hr);obtain⟨A,cp,hv,hc⟩:=own_slice (h.ko r hr);injection hv with _ _ hv3;exact⟨intsAt_ownB (o2.ko r hr) (fun g e=>((h.ko r hr).lt g e).2) (by omega),by omega,f2,f3⟩)
 rwa [h.rm] at this
structure AL (w wr:World) (base:Nat) (c:Box) (vw vm:Value) (rs:List Raw):Prop where
 bel:Below w.heap.size w wr
 lo:w.heap.size+2<=base
 hi:base<=wr.heap.size
 blk:wr.heap[w.heap.size]? = some (.cells #[.string c.id,.int .i64 c.valid,.int .i64 c.next,.int .i64 c.high,vw,vm] 25 (0,0))
 res:wr.heap[w.heap.size+1]? = some (.cells #[.string ⟨#[]⟩,.int .i64 0,.int .i64 0,.int .i64 0,.slice none 0 0,.slice none 0 0] 25 (0,0))
 own:OB wr base c vw vm rs
section
variable {w wr w2 : World} {base : Nat} {c c' : Box} {vw vm vw' vm' : Value} {rs rs' : List Raw}
theorem AL.go (h:AL w wr base c vw vm rs) (hb:Below wr.heap.size wr w2):AL w w2 base c vw vm rs:=by
 have h1:=h.lo;have h2:=h.hi;have h3:=hb.size;exact⟨h.bel.trans (hb.mono (by omega)),h1,by omega,(hb.block _ (by omega)).trans h.blk,(hb.block _ (by omega)).trans h.res,h.own.go hb⟩
theorem AL.alloc (h:AL w wr base c vw vm rs) (o:Obj):AL w (wr.alloc o) base c vw vm rs:=h.go ((Below.refl _ _).alloc lr_ o)
theorem AL.put (h:AL w wr base c vw vm rs) (ob:OB w2 base c' vw' vm' rs') (bel:Below base wr w2):AL w (put6 w2 w.heap.size (.string c'.id) (.int .i64 c'.valid) (.int .i64 c'.next) (.int .i64 c'.high) vw' vm') base c' vw' vm' rs':=by
 have h1:=h.lo;have h2:=h.hi;have h3:=bel.size;have hP:=(bel.block w.heap.size (by omega)).trans h.blk;refine⟨?_,h1,by rw [put6_size]; omega, ?_,(put6_other (by omega) _ _ _ _ _ _).trans ((bel.block _ (by omega)).trans h.res),ob.map fun g hg _=>put6_other (by omega) _ _ _ _ _ _⟩
 · unfold put6
   have hb:=h.bel.trans (bel.mono (show w.heap.size<=base by omega));exact (((((hb.setCell lr_ _).setCell lr_ _).setCell lr_ _).setCell lr_ _).setCell lr_ _).setCell lr_ _
 · unfold put6; simp [World.setCell,Array.getElem?_modify,hP]
theorem AL.first {bv bn bh:Int} {v0 v1:Value} (h:PI c.id bv bn bh w wr v0 v1) (hl:w.heap.size+2<=base) (hh:base<=wr.heap.size) (ob:OB wr base c vw vm rs):AL w (put6 wr w.heap.size (.string c.id) (.int .i64 c.valid) (.int .i64 c.next) (.int .i64 c.high) vw vm) base c vw vm rs:=by
 refine⟨?_,hl,by rw [put6_size]; exact hh, ?_,(put6_other (by omega) _ _ _ _ _ _).trans h.res,ob.map fun g hg _=>put6_other (by omega) _ _ _ _ _ _⟩
 · unfold put6
   exact (((((h.bel.setCell lr_ _).setCell lr_ _).setCell lr_ _).setCell lr_ _).setCell lr_ _).setCell lr_ _
 · unfold put6; simp [World.setCell,Array.getElem?_modify,h.blk]
theorem AL.mid (h:AL w wr base c vw vm rs) (bel:Below base wr w2):w2.heap[w.heap.size]? = some (.cells #[.string c.id,.int .i64 c.valid,.int .i64 c.next,.int .i64 c.high,vw,vm] 25 (0,0)) :=
 (bel.block w.heap.size (by have:=h.lo; omega)).trans h.blk
theorem AL.ret {WA MA:Option Addr} {wc mcp:Nat} (h:AL w wr base c (.slice WA c.words.length wc) (.slice MA c.msgs.length mcp) rs) (f:Fit c) (hwc:c.words.length<=wc) (hmc:c.msgs.length<=mcp) : ∃ W,W=put6 wr (w.heap.size+1) (.string c.id) (.int .i64 c.valid) (.int .i64 c.next) (.int .i64 c.high) (.slice WA c.words.length wc) (.slice MA c.msgs.length mcp) /\
 W.cell? ⟨w.heap.size+1,0,none⟩ = some (.string c.id)/\W.cell? ⟨w.heap.size+1,1,none⟩ = some (.int .i64 c.valid)/\W.cell? ⟨w.heap.size+1,2,none⟩ = some (.int .i64 c.next)/\W.cell? ⟨w.heap.size+1,3,none⟩ = some (.int .i64 c.high)/\W.cell? ⟨w.heap.size+1,4,none⟩ = some (.slice WA c.words.length wc)/\W.cell? ⟨w.heap.size+1,5,none⟩ = some (.slice MA c.msgs.length mcp) /\
 BoxOut c 0 w (.returned (.tuple #[.agg #[.string c.id,.int .i64 c.valid,.int .i64 c.next,.int .i64 c.high,.slice WA c.words.length wc,.slice MA c.msgs.length mcp],.int .i64 0])) W:=by
 refine⟨_,rfl, ?_⟩;have h1:=h.lo;have hR:(put6 wr (w.heap.size+1) (.string c.id) (.int .i64 c.valid) (.int .i64 c.next) (.int .i64 c.high) (.slice WA c.words.length wc) (.slice MA c.msgs.length mcp)).heap[w.heap.size+1]? = some (.cells #[.string c.id,.int .i64 c.valid,.int .i64 c.next,.int .i64 c.high,.slice WA c.words.length wc,.slice MA c.msgs.length mcp] 25 (0,0)):=by
  unfold put6; simp [World.setCell,Array.getElem?_modify,h.res]
 obtain⟨a0,a1,a2,a3,a4,a5,_⟩:=six_at hR;refine⟨a0,a1,a2,a3,a4,a5,WA,_,wc,MA,_,mcp,rfl,hwc,hmc, ?_, ?_⟩
 · have ob:OB (put6 wr (w.heap.size+1) (.string c.id) (.int .i64 c.valid) (.int .i64 c.next) (.int .i64 c.high) (.slice WA c.words.length wc) (.slice MA c.msgs.length mcp)) base c (.slice WA c.words.length wc) (.slice MA c.msgs.length mcp) rs:=h.own.map fun g hg _=>put6_other (by omega) _ _ _ _ _ _
   exact OB.lie ob f (by omega)
 · unfold put6
   have hb:w.heap.size<=w.heap.size+1:=by omega
   exact (((((h.bel.setCell hb _).setCell hb _).setCell hb _).setCell hb _).setCell hb _).setCell hb _
theorem out_none {R:Nat} (bel:Below w.heap.size w wr) (hR:w.heap.size<=R) (res:wr.heap[R]? = some (.cells #[.string ⟨#[]⟩,.int .i64 0,.int .i64 0,.int .i64 0,.slice none 0 0,.slice none 0 0] 25 (0,0))) (er:Int) : ∃ W,W=put6 wr R (.string ⟨#[]⟩) (.int .i64 0) (.int .i64 0) (.int .i64 0) (.slice none 0 0) (.slice none 0 0) /\
 W.cell? ⟨R,0,none⟩ = some (.string ⟨#[]⟩)/\W.cell? ⟨R,1,none⟩ = some (.int .i64 0)/\W.cell? ⟨R,2,none⟩ = some (.int .i64 0)/\W.cell? ⟨R,3,none⟩ = some (.int .i64 0)/\W.cell? ⟨R,4,none⟩ = some (.slice none 0 0)/\W.cell? ⟨R,5,none⟩ = some (.slice none 0 0) /\
 BoxOut noB er w (.returned (.tuple #[.agg #[.string ⟨#[]⟩,.int .i64 0,.int .i64 0,.int .i64 0,.slice none 0 0,.slice none 0 0],.int .i64 er])) W:=by
 refine⟨_,rfl, ?_⟩;have hR':(put6 wr R (.string ⟨#[]⟩) (.int .i64 0) (.int .i64 0) (.int .i64 0) (.slice none 0 0) (.slice none 0 0)).heap[R]? = some (.cells #[.string ⟨#[]⟩,.int .i64 0,.int .i64 0,.int .i64 0,.slice none 0 0,.slice none 0 0] 25 (0,0)):=by
  unfold put6; simp [World.setCell,Array.getElem?_modify,res]
 obtain⟨a0,a1,a2,a3,a4,a5,_⟩:=six_at hR';refine⟨a0,a1,a2,a3,a4,a5,none,0,0,none,0,0,rfl,Nat.le_refl _,Nat.le_refl _,fun w2 _ _=>⟨RowAt.nil _ _ _ _ _,RowAt.nil _ _ _ _ _⟩, ?_⟩;unfold put6;exact (((((bel.setCell hR _).setCell hR _).setCell hR _).setCell hR _).setCell hR _).setCell hR _
end
theorem allG_step {l:List Row} {k:Nat} {r:Row} (hr:l[k]? = some r) (c:Box):allG c (l.drop k)=if apE c r=0 then allG (apB c r) (l.drop (k+1)) else (noB,apE c r):=by
 obtain⟨hk,rfl⟩:=List.getElem?_eq_some_iff.1 hr;rw [List.drop_eq_getElem_cons hk,allG_cons]
theorem all_bad {w:World} {b:Box} {l:List Row} {WA MA A:Option Addr} {wn wc mn mcp n cp B:Nat} (hx:StrsAt w B WA wn b.words) (hm:MsgsAt w B MA mn b.msgs) (hwc:wn<=wc) (hmc:mn<=mcp) (hB:B<=w.heap.size) (hl:RowsAt w B A n l) (hn:n<=cp) (h6 : ∀ r∈l,r.msg.keys.length<=17592186044416) {E:Int} (h0:mbE b=E) (he:E≠0) :
 Calls Tryz.prog 33 #[.agg #[.string b.id,.int .i64 b.valid,.int .i64 b.next,.int .i64 b.high,.slice WA wn wc,.slice MA mn mcp],.slice A n cp] w (BoxOut noB 1 w):=by
 have hbl:Below w.heap.size w ((w.alloc (.cells #[.string b.id,.int .i64 b.valid,.int .i64 b.next,.int .i64 b.high,.slice WA wn wc,.slice MA mn mcp] 25)).alloc (.cells #[.string ⟨#[]⟩,.int .i64 0,.int .i64 0,.int .i64 0,.slice none 0 0,.slice none 0 0] 25)):=((Below.refl _ _).alloc lr_ _).alloc (by simp) _;have pi:=PI.start b.id b.valid b.next b.high w (.slice WA wn wc) (.slice MA mn mcp);have P0:=H_ pi;have HX:=H_ (StrsAt.below hx hbl hB);have HM:=H_ (MsgsAt.below hm hbl hB);have HL:=H_ hl;have H6:=H_ h6;have H0:=H_ h0;clear hx hm hl h6 h0 hbl pi;go_enter Tryz.func33,Tryz.ntmps33;go_upto_region 1 with fail
 generalize (World.alloc (World.alloc w _) _)=w1 at P0 HX HM ⊢;have hs1:=P0.out.size;have km:=may_box (bid:=b.id) (bv:=b.valid) (bn:=b.next) (bh:=b.high) (mc:=mcp) HX.out HM.out (by omega) hwc;rw [show mbE ⟨b.id,b.valid,b.next,b.high,b.words,b.msgs⟩=E from H0.out] at km;have KM:=H_ km;clear km;obtain⟨c0,c1,c2,c3,c4,c5⟩:=P0.out.cells;have he2:(E==0)=false:=by simpa using he
 go_wp2_with (go_at_call 67; go_loud (
              refine KM.out.mono ?_;rintro e w2 ⟨rfl,hb2⟩;have P2:=H_ (P0.out.go hb2);clear hb2 c0 c1 c2 c3 c4 c5;obtain⟨d0,d1,d2,d3,d4,d5,f0,f1,f2,f3,f4,f5⟩:=P2.out.room))
 obtain⟨W,hW,q0,q1,q2,q3,q4,q5,hO⟩:=out_none P2.out.bel (by omega) P2.out.res 1;unfold put6 at hW;rw [<- hW];exact bodyPost_ret (v:=.tuple #[.agg #[.string ⟨#[]⟩,.int .i64 0,.int .i64 0,.int .i64 0,.slice none 0 0,.slice none 0 0],.int .i64 1]) (by simp [results,Tryz.results33,go_sem,q0,q1,q2,q3,q4,q5]) rfl hO
theorem all_ok {w:World} {b:Box} {l:List Row} {WA MA A:Option Addr} {wn wc mn mcp n cp B:Nat} (hx:StrsAt w B WA wn b.words) (hm:MsgsAt w B MA mn b.msgs) (hwc:wn<=wc) (hmc:mn<=mcp) (hB:B<=w.heap.size) (hl:RowsAt w B A n l) (hn:n<=cp) (h6 : ∀ r∈l,r.msg.keys.length<=17592186044416) (h0:mbE b=0) :
 Calls Tryz.prog 33 #[.agg #[.string b.id,.int .i64 b.valid,.int .i64 b.next,.int .i64 b.high,.slice WA wn wc,.slice MA mn mcp],.slice A n cp] w (BoxOut (allG b l).1 (allG b l).2 w):=by
 have hf:=fit_of h0;have hwn:wn<=64:=by rw [<- hx.len]; exact hf.wl
 have hmn:mn<=60:=by rw [<- hm.len]; exact hf.ml
 have HF:=H_ hf;have hxl:=hx.len;have hml:=hm.len;subst hxl hml;have HNM:=H_ hl.max;clear hf;have hbl:Below w.heap.size w ((w.alloc (.cells #[.string b.id,.int .i64 b.valid,.int .i64 b.next,.int .i64 b.high,.slice WA b.words.length wc,.slice MA b.msgs.length mcp] 25)).alloc (.cells #[.string ⟨#[]⟩,.int .i64 0,.int .i64 0,.int .i64 0,.slice none 0 0,.slice none 0 0] 25)):=((Below.refl _ _).alloc lr_ _).alloc (by simp) _;have pi:=PI.start b.id b.valid b.next b.high w (.slice WA b.words.length wc) (.slice MA b.msgs.length mcp);have P0:=H_ pi;have HX:=H_ (StrsAt.below hx hbl hB);have HM:=H_ (MsgsAt.below hm hbl hB);have HL:=H_ hl;have H6:=H_ h6;have H0:=H_ h0;clear hx hm hl h6 h0 hbl pi;go_enter Tryz.func33,Tryz.ntmps33;go_upto_region 1 with fail
 generalize (World.alloc (World.alloc w _) _)=w1 at P0 HX HM ⊢;have hs1:=P0.out.size;have km:=may_box (bid:=b.id) (bv:=b.valid) (bn:=b.next) (bh:=b.high) (mc:=mcp) HX.out HM.out (by omega) hwc;rw [show mbE ⟨b.id,b.valid,b.next,b.high,b.words,b.msgs⟩=0 from H0.out] at km;have KM:=H_ km;clear km;obtain⟨c0,c1,c2,c3,c4,c5⟩:=P0.out.cells
 go_upto_region 3 with (go_at_call 67; go_loud (
              refine KM.out.mono ?_;rintro e w2 ⟨rfl,hb2⟩;have P2:=H_ (P0.out.go hb2);have HX2:=H_ (StrsAt.below HX.out hb2 (by omega));have HM2:=H_ (MsgsAt.below HM.out hb2 (by omega));clear hb2 c0 c1 c2 c3 c4 c5;obtain⟨c0,c1,c2,c3,c4,c5⟩:=P2.out.cells))
 have hs2:=P2.out.size;have KC:=H_ (copy_any (bid:=b.id) (bv:=b.valid) (bn:=b.next) (bh:=b.high) (wc:=wc) (mcp:=mcp) HX2.out HM2.out (by omega) (by omega) (by omega) (fun m hm=>(HF.out.ms m hm).1))
 go_upto_region 4 with (go_at_call 68; go_loud (
              refine KC.out.mono ?_;rintro e w3 ⟨vw,vm,rs,rfl,hb3,ow,om,rm,ko⟩;have OB3:=H_ (show OB w3 w2.heap.size b vw vm rs from ⟨ow,om,rm,fun r hr=>(ko r hr).1⟩);have P3:=H_ (P2.out.go hb3);have hs3:=hb3.size;obtain⟨WA3,wc3,MA3,mc3,rfl,rfl,hwc3,hmc3⟩:=OB3.out.slices;clear hb3 ow om rm ko c0 c1 c2 c3 c4 c5;obtain⟨c0,c1,c2,c3,c4,c5⟩:=P3.out.cells;have f0:=P3.out.free 0;have f1:=P3.out.free 1;have f2:=P3.out.free 2;have f3:=P3.out.free 3;have f4:=P3.out.free 4;have f5:=P3.out.free 5))
 have al:=AL.first P3.out hs2 hs3 OB3.out;unfold put6 at al;have A3:=H_ al;clear al c0 c1 c2 c3 c4 c5 f0 f1 f2 f3 f4 f5 P3 P2 P0 HX HM HX2 HM2 OB3 KC KM;generalize (World.setCell (World.setCell (World.setCell (World.setCell (World.setCell (World.setCell w3 _ _) _ _) _ _) _ _) _ _) _ _)=w4 at A3 ⊢;obtain⟨base,hbase⟩ : ∃ base,base=w2.heap.size:=⟨_,rfl⟩;rw [<- hbase] at A3;clear hbase hs3 hs2 hs1;go_wp2_with fail
 go_loopw [17] (fun s17 wr=>∃ (k:Nat) (c:Box) (vw vm:Value) (rs:List Raw),k<=n/\s17 = .int .i64 k/\Hid (AL w wr base c vw vm rs)/\Hid (mbE c=0/\allG b l=allG c (l.drop k))) (fun s17 _=>n-(intOf s17).toNat)
 case atStart=>exact⟨0,b,_,_,_,Nat.zero_le _,rfl,A3,⟨H0.out,by rw [List.drop_zero]⟩⟩
 case round =>
  clear A3;obtain⟨k,c,vw,vm,rs,hk,rfl,A3,HG⟩:=hrel;have hlo:=A3.out.lo;have hhi:=A3.out.hi;have hnm:=HNM.out;by_cases hlt:k<n
  · obtain⟨ad,kd,ru,rm,u,md,d,id,fl,ks,tx,t,K,kn,kc,rfl,hab,e1,r0,r1,r2,r3,r4,r5,r6,r7,r8,r9,r10,hkc,hks,z1,z2,z3⟩:=RowsAt.sp HL.out A3.out.bel hB hlt
    have hkl:=hks.len;subst hkl;obtain⟨r,hr⟩ : ∃ r:Row,r=⟨kd,ru,rm,⟨u,md,d,id,fl,ks,tx⟩,t⟩:=⟨_,rfl⟩;rw [<- hr] at e1;have h6:=H6.out r (List.mem_of_getElem? e1);have HE1:=H_ e1;have A5:=H_ (A3.out.alloc (.cells #[.int .i64 kd,.int .i64 ru,.int .i64 rm,.int .i64 u,.int .i64 md,.int .i64 d,.string id,.int .i64 fl,.slice K ks.length kc,.string tx,.string t] 63));have L5:=H_ (show LB (wr.alloc (.cells #[.int .i64 kd,.int .i64 ru,.int .i64 rm,.int .i64 u,.int .i64 md,.int .i64 d,.string id,.int .i64 fl,.slice K ks.length kc,.string tx,.string t] 63)) wr.heap.size ⟨kd,ru,rm,⟨u,md,d,id,fl,ks,tx⟩,t⟩ K kc from heap_alloc_new wr _);have HK5:=H_ (IntsAt.below hks ((Below.refl wr.heap.size wr).alloc lr_ (.cells #[.int .i64 kd,.int .i64 ru,.int .i64 rm,.int .i64 u,.int .i64 md,.int .i64 d,.string id,.int .i64 fl,.slice K ks.length kc,.string tx,.string t] 63)) (by omega));have hsz5:(wr.alloc (.cells #[.int .i64 kd,.int .i64 ru,.int .i64 rm,.int .i64 u,.int .i64 md,.int .i64 d,.string id,.int .i64 fl,.slice K ks.length kc,.string tx,.string t] 63)).heap.size=wr.heap.size+1:=by simp
    clear e1 hks;go_upto_region 8 with fail
    clear r0 r1 r2 r3 r4 r5 r6 r7 r8 r9 r10;obtain⟨L,hL⟩ : ∃ L,L=wr.heap.size:=⟨_,rfl⟩;rw [<- hL] at L5 hsz5 ⊢;have hL2:L+1<=L+1:=Nat.le_refl _;have hLb:base<=L:=by omega
    clear hL hL2;generalize (World.alloc wr _)=w5 at A5 L5 HK5 hsz5 ⊢;have hB5:B<=w5.heap.size:=by omega
    obtain⟨C,hC⟩ : ∃ C,C=either (apE c r) (apB c r):=⟨_,rfl⟩;obtain⟨E,hE⟩ : ∃ E,E=apE c r:=⟨_,rfl⟩;have HC:=H_ hC;have HE:=H_ hE;have kw:=with_any (r:=⟨kd,ru,rm,⟨u,md,d,id,fl,ks,tx⟩,t⟩) (J:=K) (jc:=kc) A5.out.own (fit_of HG.out.1) A5.out.hi HK5.out (by omega) (by rw [hr] at h6; exact h6) HG.out.1;rw [<- hr,<- hC,<- hE] at kw;rw [hr] at kw;dsimp only at kw;have KW:=H_ kw;have HR:=H_ hr;clear kw hC hE hr;obtain⟨c0,c1,c2,c3,c4,c5,_⟩:=six_at A5.out.blk;obtain⟨r0,r1,r2,r3,r4,r5,r6,r7,r8,r9,r10⟩:=L5.out.facts;dsimp only at r0 r1 r2 r3 r4 r5 r6 r7 r8 r9 r10
    go_upto_region 9 with (go_at_call 69; go_loud (
             refine KW.out.mono ?_;rintro e w6 ⟨vw2,vm2,rs2,rfl,ob,bel,ty⟩;obtain⟨WA2,wc2,MA2,mc2,rfl,rfl,hwc2,hmc2⟩:=ob.slices;have a7:=A5.out.put ob bel;unfold put6 at a7;have A7:=H_ a7;have b6:=A5.out.mid bel;clear a7 ob bel ty c0 c1 c2 c3 c4 c5 r0 r1 r2 r3 r4 r5 r6 r7 r8 r9 r10;obtain⟨c0,c1,c2,c3,c4,c5,f0,f1,f2,f3,f4,f5⟩:=six_at b6;clear b6))
    clear KW L5 HK5 A5;generalize (World.setCell (World.setCell (World.setCell (World.setCell (World.setCell (World.setCell w6 _ _) _ _) _ _) _ _) _ _) _ _)=w7 at A7 ⊢;by_cases hE0:E=0
    · have hm:=ap_may (b:=c) (r:=r) (by rw [<- HE.out]; exact hE0)
      have hCB:C=apB c r:=by rw [HC.out]; unfold either; rw [if_pos (by rw [<- HE.out]; exact hE0)]
      have hst:=allG_step HE1.out c;rw [if_pos (by rw [<- HE.out]; exact hE0),<- hCB] at hst;rw [<- hCB] at hm;have HG2:=H_ (show mbE C=0/\allG b l=allG C (l.drop (k+1)) from ⟨hm.1,HG.out.2.trans hst⟩);clear hm hCB hst HG HC HE HE1 HR h6;subst hE0;go_wp2_with fail
      go_roundw
      case rel=>exact⟨k+1,C,_,_,_,by omega,by go_num,A7,HG2⟩
      case measure=>simp [intOf]; omega
    · have hq:allG b l=(noB,E):=by rw [HG.out.2,allG_step HE1.out c,if_neg (by rw [<- HE.out]; exact hE0),HE.out]
      have HQ:=H_ hq;have hE1:(E==0)=false:=by simpa using hE0
      clear hq HG HC HE HE1 HR h6;obtain⟨d0,d1,d2,d3,d4,d5,f0,f1,f2,f3,f4,f5⟩:=six_at A7.out.res;go_wp2_with fail
      obtain⟨W,hW,q0,q1,q2,q3,q4,q5,hO⟩:=out_none A7.out.bel (by omega) A7.out.res E;unfold put6 at hW;rw [<- hW];refine bodyPost_ret (v:=.tuple #[.agg #[.string ⟨#[]⟩,.int .i64 0,.int .i64 0,.int .i64 0,.slice none 0 0,.slice none 0 0],.int .i64 E]) (by simp [results,Tryz.results33,go_sem,q0,q1,q2,q3,q4,q5]) rfl ?_;rw [HQ.out];exact hO
  · obtain rfl:n=k:=by omega
    have hq:allG b l=(c,0):=by rw [HG.out.2,List.drop_of_length_le (by rw [HL.out.len]; omega)]; rfl
    have HQ:=H_ hq;have HF2:=H_ (fit_of HG.out.1);clear hq HG;obtain⟨WA2,wc2,MA2,mc2,rfl,rfl,hwc2,hmc2⟩:=A3.out.own.slices;obtain⟨c0,c1,c2,c3,c4,c5,_⟩:=six_at A3.out.blk;obtain⟨d0,d1,d2,d3,d4,d5,f0,f1,f2,f3,f4,f5⟩:=six_at A3.out.res;go_wp2_with fail
    obtain⟨W,hW,q0,q1,q2,q3,q4,q5,hO⟩:=A3.out.ret HF2.out hwc2 hmc2;unfold put6 at hW;rw [<- hW];refine bodyPost_ret (v:=.tuple #[.agg #[.string c.id,.int .i64 c.valid,.int .i64 c.next,.int .i64 c.high,.slice WA2 c.words.length wc2,.slice MA2 c.msgs.length mc2],.int .i64 0]) (by simp [results,Tryz.results33,go_sem,q0,q1,q2,q3,q4,q5]) rfl ?_;rw [HQ.out];exact hO
theorem all_any {w:World} {b:Box} {l:List Row} {WA MA A:Option Addr} {wn wc mn mcp n cp B:Nat} (hx:StrsAt w B WA wn b.words) (hm:MsgsAt w B MA mn b.msgs) (hwc:wn<=wc) (hmc:mn<=mcp) (hB:B<=w.heap.size) (hl:RowsAt w B A n l) (hn:n<=cp) (h6 : ∀ r∈l,r.msg.keys.length<=17592186044416) :
 Calls Tryz.prog 33 #[.agg #[.string b.id,.int .i64 b.valid,.int .i64 b.next,.int .i64 b.high,.slice WA wn wc,.slice MA mn mcp],.slice A n cp] w (BoxOut (allP b l).1 (allP b l).2 w):=by
 unfold allP;by_cases h0:mbE b=0
 · rw [if_pos h0]
   exact all_ok hx hm hwc hmc hB hl hn h6 h0
 · rw [if_neg h0]
   exact all_bad hx hm hwc hmc hB hl hn h6 rfl h0
end Go.Proofs.YtoljpfapphoflaaGreatDoor.RwW10
