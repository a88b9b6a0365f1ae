/-
  RpS + RpT
-/
import Derived.Test.YtoljpfapphoflaaGreatDoorZ7
import Derived.Test.YtoljpfapphoflaaGreatDoorK7
import Derived.Test.YtoljpfapphoflaaGreatDoorPtK
import Derived.Deep.DeepCutAuto
import Derived.Deep.RegionHeld3
set_option linter.unusedVariables false
set_option linter.unusedSimpArgs false
set_option maxHeartbeats 4000000
set_option maxRecDepth 100000
namespace Go.Proofs.YtoljpfapphoflaaGreatDoor.RpS
open Go.RowKit BxD BxKit BxA BxR BxC BxS BxX RwD RwKit RwRo PtK
theorem msgsAt_blk {w:World} {g B:Nat} {u md d fl:Int} {id tx:ByteArray} {K:Option Addr} {kn kc:Nat} {ks:List Int} (h:MBk w g u md d id fl K kn kc tx) (hg:g<B) (hk:IntsAt w B K kn ks) (hkc:kn<=kc) (hz:id.size<=140737488355328) (hz2:tx.size<=140737488355328):MsgsAt w B (some ⟨g,0,none⟩) 1 [⟨u,md,d,id,fl,ks,tx⟩]:=by
 obtain⟨h0,h1,h2,h3,h4,h5,h6⟩:=h.cells;have hl:=hk.len;refine⟨rfl,by decide,fun _=>⟨_,rfl,hg,fun j x hx=>?_⟩⟩
 match j,hx with
 | 0,hx =>
  obtain rfl:(⟨u,md,d,id,fl,ks,tx⟩:Msg)=x:=by simpa using hx
  refine⟨?_, ?_, ?_, ?_, ?_,⟨K,kc, ?_, ?_, ?_⟩, ?_,hz,hz2⟩
  · exact h0
  · exact h1
  · exact h2
  · exact h3
  · exact h4
  · show _=some (Value.slice K ks.length kc)
    rw [hl];exact h5
  · show ks.length<=kc
    omega
  · show IntsAt w B K ks.length ks
    rw [hl];exact hk
  · exact h6
 | j+1,hx=>simp at hx
def AlOut (m:Msg) (w:World) (e:Ending) (w':World):Prop :=
 ∃ A,e = .returned (.agg #[.string ⟨#[]⟩,.int .i64 0,.int .i64 0,.int .i64 0,.slice none 0 0,.slice A 1 1])/\MsgsAt w' w'.heap.size A 1 [m]/\Below w.heap.size w w'
theorem alone_any {w:World} {B:Nat} {u md d fl:Int} {id tx:ByteArray} {K:Option Addr} {kn kc:Nat} {ks:List Int} (hk:IntsAt w B K kn ks) (hB:B<=w.heap.size) (hkc:kn<=kc) (hz:id.size<=140737488355328) (hz2:tx.size<=140737488355328) :
 Calls Tryz.prog 147 #[.agg #[.int .i64 u,.int .i64 md,.int .i64 d,.string id,.int .i64 fl,.slice K kn kc,.string tx]] w (AlOut ⟨u,md,d,id,fl,ks,tx⟩ w):=by
 go_enter Tryz.func147,Tryz.ntmps147;go_wp2_with fail
 generalize hw1:World.alloc w _=w1;have e1:w1.heap.size=w.heap.size+1:=by rw [<- hw1]; simp
 have b1:Below w.heap.size w w1:=by rw [<- hw1]; exact (Below.refl _ _).alloc lr_ _
 rw [<- e1];clear hw1;generalize hw2:World.alloc w1 _=w2;have e2:w2.heap.size=w1.heap.size+1:=by rw [<- hw2]; simp
 have b2:Below w.heap.size w w2:=by rw [<- hw2]; exact b1.alloc b1.size _
 have hb:w2.heap[w1.heap.size]? = some (.cells #[.string ⟨#[]⟩,.int .i64 0,.int .i64 0,.int .i64 0,.slice none 0 0,.slice (some ⟨w1.heap.size+1,0,none⟩) 1 1] 25 (0,0)):=by rw [<- hw2]; exact heap_alloc_new w1 _
 rw [<- e2] at hb ⊢;clear hw2;have hm:=heap_alloc_new w2 (.cells #[.int .i64 u,.int .i64 md,.int .i64 d,.string id,.int .i64 fl,.slice K kn kc,.string tx] 61);have hb3:=(heap_alloc_old w2 (.cells #[.int .i64 u,.int .i64 md,.int .i64 d,.string id,.int .i64 fl,.slice K kn kc,.string tx] 61) (show w1.heap.size<w2.heap.size by omega)).trans hb;have b3:=b2.alloc b2.size (.cells #[.int .i64 u,.int .i64 md,.int .i64 d,.string id,.int .i64 fl,.slice K kn kc,.string tx] 61);have hs3:w2.heap.size<(w2.alloc (.cells #[.int .i64 u,.int .i64 md,.int .i64 d,.string id,.int .i64 fl,.slice K kn kc,.string tx] 61)).heap.size:=by simp
 generalize World.alloc w2 _=w3 at hm hb3 b3 hs3 ⊢;have c:=fun o=>cell_of_row _ _ o _ _ _ hb3;have c0:=(c 0).trans (show _=some (Value.string ⟨#[]⟩) from rfl);have c1:=(c 1).trans (show _=some (Value.int .i64 0) from rfl);have c2:=(c 2).trans (show _=some (Value.int .i64 0) from rfl);have c3:=(c 3).trans (show _=some (Value.int .i64 0) from rfl);have c4:=(c 4).trans (show _=some (Value.slice none 0 0) from rfl);have c5:=(c 5).trans (show _=some (Value.slice (some ⟨w2.heap.size,0,none⟩) 1 1) from rfl);refine bodyPost_ret (v:=.agg #[.string ⟨#[]⟩,.int .i64 0,.int .i64 0,.int .i64 0,.slice none 0 0,.slice (some ⟨w2.heap.size,0,none⟩) 1 1]) (by simp [results,Tryz.results147,go_sem,c0,c1,c2,c3,c4,c5]) rfl ?_;have k1:IntsAt w3 w3.heap.size K kn ks:=IntsAt.more (IntsAt.below hk b3 hB) (Nat.le_trans hB b3.size);exact⟨some ⟨w2.heap.size,0,none⟩,rfl,msgsAt_blk (B:=w3.heap.size) hm hs3 k1 hkc hz hz2,b3⟩
def eqR (a b:Row):Bool:=decide (a=b)
theorem eqR_ne {a b:Row} (h:a≠b):eqR a b=false:=decide_eq_false h
theorem sameRow_any {rk rk' ru ru' rm rm' u u' md md' d d' fl fl':Int} {id id' tx tx' rt rt':ByteArray} {K K':Option Addr} {kn kn' kc kc' B0 B1:Nat} {ks ks':List Int} {w:World} (hk:IntsAt w B0 K kn ks) (hk':IntsAt w B1 K' kn' ks') (hB:B0<=w.heap.size) (hB':B1<=w.heap.size) (hkc:kn<=kc) (hkc':kn'<=kc')
 (z1:id.size<=140737488355328) (z2:tx.size<=140737488355328) (z1':id'.size<=140737488355328) (z2':tx'.size<=140737488355328) :
 Calls Tryz.prog 112 #[.agg #[.int .i64 rk,.int .i64 ru,.int .i64 rm,.int .i64 u,.int .i64 md,.int .i64 d,.string id,.int .i64 fl,.slice K kn kc,.string tx,.string rt],.agg #[.int .i64 rk',.int .i64 ru',.int .i64 rm',.int .i64 u',.int .i64 md',.int .i64 d',.string id',.int .i64 fl',.slice K' kn' kc',.string tx',.string rt']] w fun e w'=>e = .returned (.bool (eqR ⟨rk,ru,rm,⟨u,md,d,id,fl,ks,tx⟩,rt⟩ ⟨rk',ru',rm',⟨u',md',d',id',fl',ks',tx'⟩,rt'⟩))/\Below w.heap.size w w':=by
 have KA0:=fun (wr:World) (hb:Below w.heap.size w wr)=>alone_any (u:=u) (md:=md) (d:=d) (fl:=fl) (id:=id) (tx:=tx) (kc:=kc) (IntsAt.below hk hb hB) (Nat.le_trans hB hb.size) hkc z1 z2;have KB0:=H_ (fun (wr:World) (hb:Below w.heap.size w wr)=>alone_any (u:=u') (md:=md') (d:=d') (fl:=fl') (id:=id') (tx:=tx') (kc:=kc') (IntsAt.below hk' hb hB') (Nat.le_trans hB' hb.size) hkc' z1' z2');clear hk hk';have H0:=H_ (two_below w (.cells #[.int .i64 rk,.int .i64 ru,.int .i64 rm,.int .i64 u,.int .i64 md,.int .i64 d,.string id,.int .i64 fl,.slice K kn kc,.string tx,.string rt] 63) (.cells #[.int .i64 rk',.int .i64 ru',.int .i64 rm',.int .i64 u',.int .i64 md',.int .i64 d',.string id',.int .i64 fl',.slice K' kn' kc',.string tx',.string rt'] 63));have ha:=(heap_alloc_old (w.alloc (.cells #[.int .i64 rk,.int .i64 ru,.int .i64 rm,.int .i64 u,.int .i64 md,.int .i64 d,.string id,.int .i64 fl,.slice K kn kc,.string tx,.string rt] 63)) (.cells #[.int .i64 rk',.int .i64 ru',.int .i64 rm',.int .i64 u',.int .i64 md',.int .i64 d',.string id',.int .i64 fl',.slice K' kn' kc',.string tx',.string rt'] 63) (by simp)).trans (heap_alloc_new w (.cells #[.int .i64 rk,.int .i64 ru,.int .i64 rm,.int .i64 u,.int .i64 md,.int .i64 d,.string id,.int .i64 fl,.slice K kn kc,.string tx,.string rt] 63));have hb:=heap_alloc_new (w.alloc (.cells #[.int .i64 rk,.int .i64 ru,.int .i64 rm,.int .i64 u,.int .i64 md,.int .i64 d,.string id,.int .i64 fl,.slice K kn kc,.string tx,.string rt] 63)) (.cells #[.int .i64 rk',.int .i64 ru',.int .i64 rm',.int .i64 u',.int .i64 md',.int .i64 d',.string id',.int .i64 fl',.slice K' kn' kc',.string tx',.string rt'] 63);have hsz0:((w.alloc (.cells #[.int .i64 rk,.int .i64 ru,.int .i64 rm,.int .i64 u,.int .i64 md,.int .i64 d,.string id,.int .i64 fl,.slice K kn kc,.string tx,.string rt] 63)).alloc (.cells #[.int .i64 rk',.int .i64 ru',.int .i64 rm',.int .i64 u',.int .i64 md',.int .i64 d',.string id',.int .i64 fl',.slice K' kn' kc',.string tx',.string rt'] 63)).heap.size=w.heap.size+2:=by simp
 rw [show (w.alloc (.cells #[.int .i64 rk,.int .i64 ru,.int .i64 rm,.int .i64 u,.int .i64 md,.int .i64 d,.string id,.int .i64 fl,.slice K kn kc,.string tx,.string rt] 63)).heap.size=w.heap.size+1 by simp] at hb;have HA:=H_ ha;have HB:=H_ hb;have HZ:=H_ hsz0;clear ha hb hsz0;go_enter Tryz.func112,Tryz.ntmps112;go_upto_region 1 with fail
 generalize (World.alloc (World.alloc w _) _)=w0 at H0 HA HB HZ ⊢;have CA:=H_ (fun (wr:World) (g:Below (w.heap.size+2) w0 wr)=>show wr.cell? ⟨w.heap.size,0,none⟩ = some (.int .i64 rk)/\wr.cell? ⟨w.heap.size,1,none⟩ = some (.int .i64 ru)/\wr.cell? ⟨w.heap.size,2,none⟩ = some (.int .i64 rm)/\wr.cell? ⟨w.heap.size,3,none⟩ = some (.int .i64 u)/\wr.cell? ⟨w.heap.size,4,none⟩ = some (.int .i64 md)/\wr.cell? ⟨w.heap.size,5,none⟩ = some (.int .i64 d)/\wr.cell? ⟨w.heap.size,6,none⟩ = some (.string id)/\wr.cell? ⟨w.heap.size,7,none⟩ = some (.int .i64 fl)/\wr.cell? ⟨w.heap.size,8,none⟩ = some (.slice K kn kc)/\wr.cell? ⟨w.heap.size,9,none⟩ = some (.string tx)/\wr.cell? ⟨w.heap.size,10,none⟩ = some (.string rt)/\wr.cell? ⟨w.heap.size+1,0,none⟩ = some (.int .i64 rk')/\wr.cell? ⟨w.heap.size+1,1,none⟩ = some (.int .i64 ru')/\wr.cell? ⟨w.heap.size+1,2,none⟩ = some (.int .i64 rm')/\wr.cell? ⟨w.heap.size+1,3,none⟩ = some (.int .i64 u')/\wr.cell? ⟨w.heap.size+1,4,none⟩ = some (.int .i64 md')/\wr.cell? ⟨w.heap.size+1,5,none⟩ = some (.int .i64 d')/\wr.cell? ⟨w.heap.size+1,6,none⟩ = some (.string id')/\wr.cell? ⟨w.heap.size+1,7,none⟩ = some (.int .i64 fl')/\wr.cell? ⟨w.heap.size+1,8,none⟩ = some (.slice K' kn' kc')/\wr.cell? ⟨w.heap.size+1,9,none⟩ = some (.string tx')/\wr.cell? ⟨w.heap.size+1,10,none⟩ = some (.string rt') from by
  have h1:=(g.block w.heap.size (by omega)).trans HA.out;have h2:=(g.block (w.heap.size+1) (by omega)).trans HB.out;have ca:=fun o=>cell_of_row _ _ o _ _ _ h1;have cb:=fun o=>cell_of_row _ _ o _ _ _ h2;exact⟨(ca 0).trans rfl,(ca 1).trans rfl,(ca 2).trans rfl,(ca 3).trans rfl,(ca 4).trans rfl,(ca 5).trans rfl,(ca 6).trans rfl,(ca 7).trans rfl,(ca 8).trans rfl,(ca 9).trans rfl,(ca 10).trans rfl,(cb 0).trans rfl,(cb 1).trans rfl,(cb 2).trans rfl,(cb 3).trans rfl,(cb 4).trans rfl,(cb 5).trans rfl,(cb 6).trans rfl,(cb 7).trans rfl,(cb 8).trans rfl,(cb 9).trans rfl,(cb 10).trans rfl⟩)
 have ca:=fun o=>cell_of_row _ _ o _ _ _ HA.out;have cb:=fun o=>cell_of_row _ _ o _ _ _ HB.out;have a0:=(ca 0).trans (show _=some (Value.int .i64 rk) from rfl);have b0:=(cb 0).trans (show _=some (Value.int .i64 rk') from rfl);have a1:=(ca 1).trans (show _=some (Value.int .i64 ru) from rfl);have b1:=(cb 1).trans (show _=some (Value.int .i64 ru') from rfl);have a2:=(ca 2).trans (show _=some (Value.int .i64 rm) from rfl);have b2:=(cb 2).trans (show _=some (Value.int .i64 rm') from rfl);have a3:=(ca 3).trans (show _=some (Value.int .i64 u) from rfl);have b3:=(cb 3).trans (show _=some (Value.int .i64 u') from rfl);have a4:=(ca 4).trans (show _=some (Value.int .i64 md) from rfl);have b4:=(cb 4).trans (show _=some (Value.int .i64 md') from rfl);have a5:=(ca 5).trans (show _=some (Value.int .i64 d) from rfl);have b5:=(cb 5).trans (show _=some (Value.int .i64 d') from rfl);have a6:=(ca 6).trans (show _=some (Value.string id) from rfl);have b6:=(cb 6).trans (show _=some (Value.string id') from rfl);have a7:=(ca 7).trans (show _=some (Value.int .i64 fl) from rfl);have b7:=(cb 7).trans (show _=some (Value.int .i64 fl') from rfl);have a8:=(ca 8).trans (show _=some (Value.slice K kn kc) from rfl);have b8:=(cb 8).trans (show _=some (Value.slice K' kn' kc') from rfl);have a9:=(ca 9).trans (show _=some (Value.string tx) from rfl);have b9:=(cb 9).trans (show _=some (Value.string tx') from rfl);have a10:=(ca 10).trans (show _=some (Value.string rt) from rfl);have b10:=(cb 10).trans (show _=some (Value.string rt') from rfl);clear ca cb;by_cases hq:rk≠rk'
 · have HF:=H_ (eqR_ne (a:=⟨rk,ru,rm,⟨u,md,d,id,fl,ks,tx⟩,rt⟩) (b:=⟨rk',ru',rm',⟨u',md',d',id',fl',ks',tx'⟩,rt'⟩) (fun e=>hq (by injection e)))
   have hb:(rk==rk')=false:=by simpa using hq
   clear hq KA0
   go_region
   go_wp2_with fail
   go_ret;exact⟨ret_bool HF.out.symm,H0.out.drew⟩
 obtain rfl:rk=rk':=Decidable.not_not.1 hq;clear hq;by_cases hq:ru≠ru'
 · have HF:=H_ (eqR_ne (a:=⟨rk,ru,rm,⟨u,md,d,id,fl,ks,tx⟩,rt⟩) (b:=⟨rk,ru',rm',⟨u',md',d',id',fl',ks',tx'⟩,rt'⟩) (fun e=>hq (by injection e)))
   have hb:(ru==ru')=false:=by simpa using hq
   clear hq KA0
   go_region
   go_wp2_with fail
   go_ret;exact⟨ret_bool HF.out.symm,H0.out.drew⟩
 obtain rfl:ru=ru':=Decidable.not_not.1 hq;clear hq;by_cases hq:rm≠rm'
 · have HF:=H_ (eqR_ne (a:=⟨rk,ru,rm,⟨u,md,d,id,fl,ks,tx⟩,rt⟩) (b:=⟨rk,ru,rm',⟨u',md',d',id',fl',ks',tx'⟩,rt'⟩) (fun e=>hq (by injection e)))
   have hb:(rm==rm')=false:=by simpa using hq
   clear hq KA0
   go_region
   go_wp2_with fail
   go_ret;exact⟨ret_bool HF.out.symm,H0.out.drew⟩
 obtain rfl:rm=rm':=Decidable.not_not.1 hq;clear hq;by_cases hq:rt≠rt'
 · have HF:=H_ (eqR_ne (a:=⟨rk,ru,rm,⟨u,md,d,id,fl,ks,tx⟩,rt⟩) (b:=⟨rk,ru,rm,⟨u',md',d',id',fl',ks',tx'⟩,rt'⟩) (fun e=>hq (by injection e)))
   have hb:(rt.toList==rt'.toList)=false:=s_ne hq;clear hq KA0
   go_region
   go_wp2_with fail
   go_ret;exact⟨ret_bool HF.out.symm,H0.out.drew⟩
 obtain rfl:rt=rt':=Decidable.not_not.1 hq;clear hq;have hx:eqX ⟨⟨#[]⟩,0,0,0,[],[⟨u,md,d,id,fl,ks,tx⟩]⟩ ⟨⟨#[]⟩,0,0,0,[],[⟨u',md',d',id',fl',ks',tx'⟩]⟩=eqR ⟨rk,ru,rm,⟨u,md,d,id,fl,ks,tx⟩,rt⟩ ⟨rk,ru,rm,⟨u',md',d',id',fl',ks',tx'⟩,rt⟩:=by
  unfold eqX eqR;simp
 have HXE:=H_ hx;have KA:=H_ (KA0 w0.drew H0.out.drew);clear hx KA0;go_region_held (fun wr=>wr.cell? ⟨w.heap.size,0,none⟩ = some (.int .i64 rk)/\wr.cell? ⟨w.heap.size,1,none⟩ = some (.int .i64 ru)/\wr.cell? ⟨w.heap.size,2,none⟩ = some (.int .i64 rm)/\wr.cell? ⟨w.heap.size,3,none⟩ = some (.int .i64 u)/\wr.cell? ⟨w.heap.size,4,none⟩ = some (.int .i64 md)/\wr.cell? ⟨w.heap.size,5,none⟩ = some (.int .i64 d)/\wr.cell? ⟨w.heap.size,6,none⟩ = some (.string id)/\wr.cell? ⟨w.heap.size,7,none⟩ = some (.int .i64 fl)/\wr.cell? ⟨w.heap.size,8,none⟩ = some (.slice K kn kc)/\wr.cell? ⟨w.heap.size,9,none⟩ = some (.string tx)/\wr.cell? ⟨w.heap.size,10,none⟩ = some (.string rt)/\wr.cell? ⟨w.heap.size+1,0,none⟩ = some (.int .i64 rk)/\wr.cell? ⟨w.heap.size+1,1,none⟩ = some (.int .i64 ru)/\wr.cell? ⟨w.heap.size+1,2,none⟩ = some (.int .i64 rm)/\wr.cell? ⟨w.heap.size+1,3,none⟩ = some (.int .i64 u')/\wr.cell? ⟨w.heap.size+1,4,none⟩ = some (.int .i64 md')/\wr.cell? ⟨w.heap.size+1,5,none⟩ = some (.int .i64 d')/\wr.cell? ⟨w.heap.size+1,6,none⟩ = some (.string id')/\wr.cell? ⟨w.heap.size+1,7,none⟩ = some (.int .i64 fl')/\wr.cell? ⟨w.heap.size+1,8,none⟩ = some (.slice K' kn' kc')/\wr.cell? ⟨w.heap.size+1,9,none⟩ = some (.string tx')/\wr.cell? ⟨w.heap.size+1,10,none⟩ = some (.string rt)) (with_reducible first | exact CA.out _ ((Below.refl _ _).drew) | exact CA.out _ G3.out | exact CA.out _ G2.out | exact CA.out _ G1.out | go_keep) (first
  | (go_at_call 146; go_loud (
     refine KS.out.mono ?_;rintro e w3 ⟨rfl,hb3⟩;have G3:=H_ (show Below (w.heap.size+2) w0 w3 from G2.out.trans (hb3.mono (Nat.le_trans (by have:=HZ.out; omega) G2.out.size)));have J3:=H_ (show Below w.heap.size w w3 from J2.out.trans (hb3.mono J2.out.size));clear hb3 KS;dsimp only))
  | (go_at_call 147; go_loud (first
   | (
    refine KB.out.mono ?_;rintro e w2 ⟨A2,rfl,hm2,hb2⟩;have G2:=H_ (show Below (w.heap.size+2) w0 w2 from G1.out.trans (hb2.mono (Nat.le_trans (by have:=HZ.out; omega) G1.out.size)));have J2:=H_ (show Below w.heap.size w w2 from J1.out.trans (hb2.mono J1.out.size));have KS:=H_ (same_any (bid:=⟨#[]⟩) (bid':=⟨#[]⟩) (bv:=0) (bv':=0) (bn:=0) (bn':=0) (bh:=0) (bh':=0) (wc:=0) (wc':=0) (mc:=1) (mc':=1) (RowAt.nil _ _ w2 0 none) (MsgsAt.below M1.out hb2 lr_) (RowAt.nil _ _ w2 0 none) hm2 (Nat.zero_le _) hb2.size (Nat.zero_le _) lr_);clear hm2 hb2 KB;dsimp only)
   | (
    refine KA.out.mono ?_;rintro e w1 ⟨A1,rfl,hm1,hb1⟩;have G1:=H_ (show Below (w.heap.size+2) w0 w1 from (Below.refl _ _).drew.trans (hb1.mono (by have:=HZ.out; show _<=w0.heap.size; omega)));have J1:=H_ (show Below w.heap.size w w1 from H0.out.drew.trans (hb1.mono H0.out.size));have KB:=H_ (KB0.out w1 J1.out);have M1:=H_ hm1;clear hm1 hb1 KA;dsimp only))))
 rename_i hHeld;clear hHeld a0 a1 a2 a3 a4 a5 a6 a7 a8 a9 a10 b0 b1 b2 b3 b4 b5 b6 b7 b8 b9 b10;go_wp2_with fail
 go_ret;exact⟨ret_bool HXE.out,J3.out⟩
end Go.Proofs.YtoljpfapphoflaaGreatDoor.RpS

set_option maxHeartbeats 4000000
set_option maxRecDepth 100000
namespace Go.Proofs.YtoljpfapphoflaaGreatDoor.RpT
open Go.RowKit BxD BxKit BxA BxS BxX RwD RwKit RpS
theorem eqR_eq {a b:Row} (h:a=b):eqR a b=true:=decide_eq_true h
theorem equalRows_any {A A':Option Addr} {n n' cp cp' B0 B1:Nat} {ms ms':List Row} {w:World} (hx:RowsAt w B0 A n ms) (hy:RowsAt w B1 A' n' ms') (hB:B0<=w.heap.size) (hB':B1<=w.heap.size) :
    Calls Tryz.prog 111 #[.slice A n cp,.slice A' n' cp',.func (.func 112) #[] #[]] w fun e w'=>e = .returned (.bool (decide (ms=ms')))/\Below w.heap.size w w':=by
  by_cases hnm:n=n'
  · subst hnm
    have HX:=H_ hx;have HY:=H_ hy;have hn:=hx.max;have hnb:((n:Int) != (n:Int))=false:=by simp
    clear hx hy;go_enter Tryz.func111,Tryz.ntmps111;go_wp2_with fail
    go_loopw [17] (fun s17 wr=>∃ k:Nat,k<=n/\s17 = .int .i64 k/\Hid (ms.take k=ms'.take k)/\Hid (Below w.heap.size w wr)) (fun s17 _=>n-(intOf s17).toNat)
    case atStart=>exact⟨0,Nat.zero_le _,rfl,rfl,Below.refl _ _⟩
    case round =>
      obtain⟨k,hk,rfl,HT,HA⟩:=hrel;by_cases hlt:k<n
      · obtain⟨ad,kd,ru,rm,u,md,d,id,fl,ks,tx,t,K,kn,kc,rfl,hab,e1,c0,c1,c2,c3,c4,c5,c6,c7,c8,c9,c10,hkc,hks,y1,y2,_⟩:=RowsAt.sp HX.out HA.out hB hlt
        obtain⟨ad',kd',ru',rm',u',md',d',id',fl',ks',tx',t',K',kn',kc',rfl,hab',e2,c0',c1',c2',c3',c4',c5',c6',c7',c8',c9',c10',hkc',hks',y1',y2',_⟩:=RowsAt.sp HY.out (HA.out.alloc HA.out.size (.cells #[.int .i64 kd,.int .i64 ru,.int .i64 rm,.int .i64 u,.int .i64 md,.int .i64 d,.string id,.int .i64 fl,.slice K kn kc,.string tx,.string t] 63)) hB' hlt;have C : ∀ o,Calls Tryz.prog 112 #[.agg #[.int .i64 kd,.int .i64 ru,.int .i64 rm,.int .i64 u,.int .i64 md,.int .i64 d,.string id,.int .i64 fl,.slice K kn kc,.string tx,.string t],
    .agg #[.int .i64 kd',.int .i64 ru',.int .i64 rm',.int .i64 u',.int .i64 md',.int .i64 d',.string id',.int .i64 fl',.slice K' kn' kc',.string tx',.string t']] ((wr.alloc (.cells #[.int .i64 kd,.int .i64 ru,.int .i64 rm,.int .i64 u,.int .i64 md,.int .i64 d,.string id,.int .i64 fl,.slice K kn kc,.string tx,.string t] 63)).alloc o)
            fun e w'=>e = .returned (.bool (eqR ⟨kd,ru,rm,⟨u,md,d,id,fl,ks,tx⟩,t⟩ ⟨kd',ru',rm',⟨u',md',d',id',fl',ks',tx'⟩,t'⟩))/\Below ((wr.alloc (.cells #[.int .i64 kd,.int .i64 ru,.int .i64 rm,.int .i64 u,.int .i64 md,.int .i64 d,.string id,.int .i64 fl,.slice K kn kc,.string tx,.string t] 63)).alloc o).heap.size ((wr.alloc (.cells #[.int .i64 kd,.int .i64 ru,.int .i64 rm,.int .i64 u,.int .i64 md,.int .i64 d,.string id,.int .i64 fl,.slice K kn kc,.string tx,.string t] 63)).alloc o) w':=fun o =>
          sameRow_any (IntsAt.below hks (two_below wr _ o) (by have:=HA.out.size; omega)) (IntsAt.below hks' (((Below.refl (wr.alloc (.cells #[.int .i64 kd,.int .i64 ru,.int .i64 rm,.int .i64 u,.int .i64 md,.int .i64 d,.string id,.int .i64 fl,.slice K kn kc,.string tx,.string t] 63)).heap.size _)).alloc lr_ o) (by have:=HA.out.size; simp; omega)) (by have:=HA.out.size; simp; omega) (by have:=HA.out.size; simp; omega) hkc hkc' y1 y2 y1' y2'
        have HC:=H_ (fun o=>(HA.out.alloc HA.out.size (.cells #[.int .i64 kd,.int .i64 ru,.int .i64 rm,.int .i64 u,.int .i64 md,.int .i64 d,.string id,.int .i64 fl,.slice K kn kc,.string tx,.string t] 63)).alloc (by have:=HA.out.size; simp; omega) o);have hz:w.heap.size<=wr.heap.size:=HA.out.size;have g1:(0:Int)<=(k:Int):=by omega
        have g2:(k:Int)<(n:Int):=by omega
        clear hks hks';by_cases hq:(⟨kd,ru,rm,⟨u,md,d,id,fl,ks,tx⟩,t⟩:Row)=⟨kd',ru',rm',⟨u',md',d',id',fl',ks',tx'⟩,t'⟩
        · rw [eqR_eq hq] at C
          have HT2:=H_ (take_eq_snoc HT.out e1 (by rw [hq]; exact e2));have K1:=H_ C;clear C hq e1 e2;go_wp2_with (go_at_call 112; refine (K1.out _).mono ?_; rintro e w1 ⟨rfl,hb1⟩)
          have HD:=H_ ((HC.out _).trans (hb1.mono (by have:=HA.out.size; simp; omega)));go_roundw
          case rel=>exact⟨k+1,by omega,by go_num,HT2,HD⟩
          case measure=>simp [intOf]; omega
        · rw [eqR_ne hq] at C
          have HF:=H_ (show decide (ms=ms')=false from decide_eq_false (fun e=>hq (by rw [e,e2] at e1; injection e1 with e1; exact e1.symm)));have K1:=H_ C;clear C hq e1 e2;go_wp2_with (go_at_call 112; refine (K1.out _).mono ?_; rintro e w1 ⟨rfl,hb1⟩)
          go_ret;exact⟨ret_bool HF.out.symm,(HC.out _).trans (hb1.mono (by have:=HA.out.size; simp; omega))⟩
      · obtain rfl:n=k:=by omega
        have HE:=H_ (show decide (ms=ms')=true from decide_eq_true (by have h:=HT.out; rw [take_len HX.out.len,take_len HY.out.len] at h; exact h));go_wp2_with fail
        go_ret;exact⟨ret_bool HE.out.symm,HA.out⟩
  · have HF:=H_ (show decide (ms=ms')=false from decide_eq_false (fun e=>hnm (by rw [<- hx.len,<- hy.len,e])))
    have hnb:((n:Int) != (n':Int))=true:=by simp; omega
    clear hnm;go_enter Tryz.func111,Tryz.ntmps111;go_wp2_with fail
    go_ret;exact⟨ret_bool HF.out.symm,Below.refl _ _⟩
theorem sameRows_any {A A':Option Addr} {n n' cp cp' B0 B1:Nat} {ms ms':List Row} {w:World} (hx:RowsAt w B0 A n ms) (hy:RowsAt w B1 A' n' ms') (hB:B0<=w.heap.size) (hB':B1<=w.heap.size) :
    Calls Tryz.prog 72 #[.slice A n cp,.slice A' n' cp'] w fun e w'=>e = .returned (.bool (decide (ms=ms')))/\Below w.heap.size w w':=by
  have K:=H_ (equalRows_any (cp:=cp) (cp':=cp') hx hy hB hB');clear hx hy;go_enter Tryz.func72,Tryz.ntmps72;go_wp2_with (go_at_call 111; refine K.out.mono ?_; rintro e w1 ⟨rfl,hb1⟩)
  go_ret;exact⟨rfl,hb1⟩
end Go.Proofs.YtoljpfapphoflaaGreatDoor.RpT
