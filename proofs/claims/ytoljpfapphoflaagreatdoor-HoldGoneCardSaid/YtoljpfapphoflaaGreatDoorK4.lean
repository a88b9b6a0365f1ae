/-
  ImK + ImA + ImB
-/
import Derived.Test.YtoljpfapphoflaaGreatDoorK8
import Derived.Test.YtoljpfapphoflaaGreatDoorPtK
import Derived.Test.YtoljpfapphoflaaGreatDoorZ7
import Derived.Laws.EntriesVeiled
import Derived.Deep.WholeRow
import Derived.Laws.ResultCell
import Derived.Lib.SmallJoins
import Derived.Test.YtoljpfapphoflaaGreatDoorN1
import Derived.Test.YtoljpfapphoflaaGreatDoorK3
import Derived.Deep.DeepCutAuto
set_option linter.unusedVariables false
set_option linter.unusedSimpArgs false
set_option maxHeartbeats 1000000
set_option maxRecDepth 100000
namespace Go.Proofs.YtoljpfapphoflaaGreatDoor.ImK
open Go.RowKit BxD BxKit BxR BxC OlD PtK RwD RwKit RwRo ImD
open PkKit (BytesAt)
structure FF where
 m:ByteArray
 kb:Nat
 kp:Nat
 f:Fm
def fc (x:FF):Array Value:=#[.string x.m,.func (.func x.kb) #[] #[],.func (.func x.kp) #[] #[],.int .i64 (x.f.w:Nat),.bool x.f.c,.bool x.f.n]
def fcs:Array Value:=#[.string ⟨#[77,66,49]⟩,.func (.func 126) #[] #[],.func (.func 127) #[] #[],.int .i64 32,.bool false,.bool false,.string ⟨#[77,66,50]⟩,.func (.func 128) #[] #[],.func (.func 129) #[] #[],.int .i64 32,.bool true,.bool false,.string ⟨#[77,66,51]⟩,.func (.func 130) #[] #[],.func (.func 131) #[] #[],.int .i64 64,.bool true,.bool true]
theorem forms_any (w:World):Calls Tryz.prog 91 #[] w fun e w'=>e = .returned (.agg fcs)/\Below w.heap.size w w':=by
 go_enter Tryz.func91,Tryz.ntmps91;go_upto_region 1 with fail
 refine wp_region_lit ?_
 iterate 8 go_step
 first
  | skip; refine wpList_plain rfl fun K hK=>wp_store_row 137 (.tmp 0) (.tmp 4) rfl w.heap.size fcs rfl rfl _ _ (heap_alloc_new w _) (by kernel_rfl) rfl (by decide +kernel) (hK _ _ ?_)
  | go_step; refine wpList_plain rfl fun K hK=>wp_store_row 137 (.tmp 0) (.tmp 4) rfl w.heap.size fcs rfl rfl _ _ (heap_alloc_new w _) (by kernel_rfl) rfl (by decide +kernel) (hK _ _ ?_)
  | (go_step; go_step; refine wpList_plain rfl fun K hK=>wp_store_row 137 (.tmp 0) (.tmp 4) rfl w.heap.size fcs rfl rfl _ _ (heap_alloc_new w _) (by kernel_rfl) rfl (by decide +kernel) (hK _ _ ?_))
  | (go_step; go_step; go_step; refine wpList_plain rfl fun K hK=>wp_store_row 137 (.tmp 0) (.tmp 4) rfl w.heap.size fcs rfl rfl _ _ (heap_alloc_new w _) (by kernel_rfl) rfl (by decide +kernel) (hK _ _ ?_))
  | (go_step; go_step; go_step; go_step; refine wpList_plain rfl fun K hK=>wp_store_row 137 (.tmp 0) (.tmp 4) rfl w.heap.size fcs rfl rfl _ _ (heap_alloc_new w _) (by kernel_rfl) rfl (by decide +kernel) (hK _ _ ?_))
 rw [World.setRow_alloc_new];go_wp2_with fail
 exact bodyPost_ret (v:=.agg fcs) (results_cell_row rfl _ _ w.heap.size 137 fcs (0,0) _ rfl (heap_alloc_new w _) (show _=some (.array 3 126) by kernel_rfl) rfl (by kernel_rfl)) rfl ⟨rfl,(Below.refl w.heap.size w).alloc lr_ _⟩
structure RS (wr:World) (M:Nat) (A:Option Addr) (n c:Nat) (rs:List RRaw):Prop where
 ln:rs.length=n
 om:wr.ownsRow M 63 11 (.slice A n c) n (rc rs)
 ko : ∀ q∈rs,wr.ownsRow M 3 1 (.slice q.K q.r.msg.keys.length q.c) q.r.msg.keys.length (q.r.msg.keys.map (Value.int .i64))
 sm : ∀ q∈rs,q.r.msg.keys.length<=64/\q.r.msg.id.size<=300/\q.r.msg.text.size<=300/\q.r.text.size<=300
section
variable {wr w2 w3 : World} {M M' : Nat} {A A' : Option Addr} {n c c' : Nat} {rs rs' : List RRaw}
theorem RS.nil (wr:World) (M:Nat):RS wr M none 0 0 []:=⟨rfl,World.ownsRow_nil _ _ _ _,fun q hq=>by simp at hq,fun q hq=>by simp at hq⟩
theorem RS.go (h:RS wr M A n c rs) (hb:Below wr.heap.size wr w2):RS w2 M A n c rs :=
 ⟨h.ln,own_block h.om fun g e=>hb.block g (h.om.lt g e).2,fun q hq=>own_block (h.ko q hq) fun g e=>hb.block g ((h.ko q hq).lt g e).2,h.sm⟩
theorem RS.base (h:RS wr M A n c rs) (hM:M'<=M):RS wr M' A n c rs:=⟨h.ln,own_base h.om hM,fun q hq=>own_base (h.ko q hq) hM,h.sm⟩
theorem RS.app (h:RS wr M A n c rs) {m:Nat} (hk : ∀ q∈rs',wr.ownsRow M 3 1 (.slice q.K q.r.msg.keys.length q.c) q.r.msg.keys.length (q.r.msg.keys.map (Value.int .i64)))
 (hz : ∀ q∈rs',q.r.msg.keys.length<=64/\q.r.msg.id.size<=300/\q.r.msg.text.size<=300/\q.r.text.size<=300) (hm:rs'.length=m)
 (ho:w3.ownsRow M 63 11 (.slice A' (n+m) c') (n+m) (rc (rs++rs'))) (hgr:wr.grownBy w3 (Value.slice A n c).ownBlock):RS w3 M A' (n+m) c' (rs++rs'):=by
 have kp : ∀ {sz n:Nat} {v:Value} {xs:List Value},wr.ownsRow M 3 sz v n xs->w3.ownsRow M 3 sz v n xs:=fun hx=>own_block hx fun g e=>hgr.block g (hx.lt g e).2 fun e2=>own_ne hx h.om e2.symm (by decide) e;refine⟨by rw [List.length_append,h.ln,hm],ho,fun r hr=>?_,fun r hr=>?_⟩
 · rcases List.mem_append.1 hr with hr | hr
   · exact kp (h.ko r hr)
   · exact kp (hk r hr)
 · rcases List.mem_append.1 hr with hr | hr
   · exact h.sm r hr
   · exact hz r hr
theorem RS.bel (h:RS wr M A n c rs) (hgr:wr.grownBy w3 (Value.slice A n c).ownBlock) (hM:M<=wr.heap.size):Below M wr w3 :=
 ⟨hgr.os,hgr.tape,hgr.output,hgr.size,fun k hk=>hgr.block k (by omega) (fun e=>by have:=(h.om.lt k e.symm).1; omega)⟩
theorem RS.rows (h:RS wr M A n c rs) (hn:n<=140737488355328) {B:Nat} (hB:wr.heap.size<=B):RowsAt wr B A n (rs.map RRaw.r):=by
 refine rowsAt_own h.om (fun g e=>Nat.lt_of_lt_of_le (h.om.lt g e).2 hB) hn fun q hq=>?_;have k1:=h.ko q hq;obtain⟨z1,z2,z3,z4⟩:=h.sm q hq;obtain⟨_,_,e,hc⟩:=own_slice k1;refine⟨IntsAt.more (intsAt_own k1 (by omega)) hB, ?_,by omega,by omega,by omega⟩;injection e with _ _ e3;omega
theorem RS.le (h:RS wr M A n c rs):n<=c:=by
 obtain⟨_,_,e,hc⟩:=own_slice h.om;injection e with _ _ e3;omega
theorem RS.src (h:RS wr M A n c rs):Src wr A n 11 (rc rs):=by
 refine⟨by rw [rc_length,h.ln],fun u hu=>?_,fun hn=>?_⟩
 · unfold rc at hu
   obtain⟨q,_,hq⟩:=List.mem_flatMap.1 hu;simp only [cell11,List.mem_cons,List.not_mem_nil,or_false] at hq;rcases hq with rfl | rfl | rfl | rfl | rfl | rfl | rfl | rfl | rfl | rfl | rfl <;> rfl
 · obtain⟨g,cap,hv,_,hlt⟩:=own_form h.om hn
   have hA:A=some ⟨g,0,none⟩:=by injection hv
   subst hA;exact⟨_,rfl,fun j u hj=>h.om.cells (g:=g) rfl j u hj⟩
end
def RestOut (l:List Row) (w:World) (e:Ending) (w':World):Prop:=∃ A n c rs,e = .returned (.slice A n c)/\rs.map RRaw.r=l/\RS w' w.heap.size A n c rs/\Below w.heap.size w w'
end Go.Proofs.YtoljpfapphoflaaGreatDoor.ImK

set_option maxHeartbeats 2000000
set_option maxRecDepth 100000
namespace Go.Proofs.YtoljpfapphoflaaGreatDoor.ImA
open Go.RowKit BxD BxKit BxR BxC OlD PtK RwD RwKit ImD ImK
open PkKit (BytesAt)
def verN (l:List UInt8):Nat:=if l.take 3=[77,66,49] then 1 else if l.take 3=[77,66,50] then 2 else if l.take 3=[77,66,51] then 3 else 0
theorem retF {wr:World} {P:Nat} (h:wr.heap[P]? = some (.cells #[.string ⟨#[]⟩,.nilFunc,.nilFunc,.int .i64 0,.bool false,.bool false] 126 (0,0))) (c0 c1 c2 c3 c4 c5:Value) :
 ∃ W,W=(((((wr.setCell ⟨P,0,none⟩ c0).setCell ⟨P,1,none⟩ c1).setCell ⟨P,2,none⟩ c2).setCell ⟨P,3,none⟩ c3).setCell ⟨P,4,none⟩ c4).setCell ⟨P,5,none⟩ c5 /\
  W.heap[P]? = some (.cells #[c0,c1,c2,c3,c4,c5] 126 (0,0)) /\
  W.cell? ⟨P,0,none⟩ = some c0/\W.cell? ⟨P,1,none⟩ = some c1/\W.cell? ⟨P,2,none⟩ = some c2/\W.cell? ⟨P,3,none⟩ = some c3/\W.cell? ⟨P,4,none⟩ = some c4/\W.cell? ⟨P,5,none⟩ = some c5/\wr.grownBy W (some P):=by
 refine⟨_,rfl, ?_⟩;have hb:((((((wr.setCell ⟨P,0,none⟩ c0).setCell ⟨P,1,none⟩ c1).setCell ⟨P,2,none⟩ c2).setCell ⟨P,3,none⟩ c3).setCell ⟨P,4,none⟩ c4).setCell ⟨P,5,none⟩ c5).heap[P]? = some (.cells #[c0,c1,c2,c3,c4,c5] 126 (0,0)):=by
  simp [World.setCell,Array.getElem?_modify,h]
 have c:=fun o=>cell_of_row _ P o _ _ _ hb;exact⟨hb,(c 0).trans rfl,(c 1).trans rfl,(c 2).trans rfl,(c 3).trans rfl,(c 4).trans rfl,(c 5).trans rfl,PkF.grown_trans (PkF.grown_trans (PkF.grown_trans (PkF.grown_trans (PkF.grown_trans (PkF.grown_set c0) (PkF.grown_set c1)) (PkF.grown_set c2)) (PkF.grown_set c3)) (PkF.grown_set c4)) (PkF.grown_set c5)⟩
theorem formOf_0 (w:World):Calls Tryz.prog 86 #[.int .i64 0] w fun e w'=>e = .returned (.tuple #[.agg #[.string ⟨#[]⟩,.nilFunc,.nilFunc,.int .i64 0,.bool false,.bool false],.bool false])/\Below w.heap.size w w':=by
 have KF:=H_ (forms_any (w.alloc (.cells #[.string ⟨#[]⟩,.nilFunc,.nilFunc,.int .i64 0,.bool false,.bool false] 126)));have hr0:=H_ (heap_alloc_new w (.cells #[.string ⟨#[]⟩,.nilFunc,.nilFunc,.int .i64 0,.bool false,.bool false] 126));have hb0:=H_ ((Below.refl w.heap.size w).alloc lr_ (.cells #[.string ⟨#[]⟩,.nilFunc,.nilFunc,.int .i64 0,.bool false,.bool false] 126));go_enter Tryz.func86,Tryz.ntmps86;go_upto_region 2 with (go_at_call 91; go_loud (
  refine KF.out.mono ?_;rintro e w1 ⟨rfl,hb⟩;have hst:=run_storeCells_new (P:=Tryz.prog) w1 137 #[.string ⟨#[]⟩,.nilFunc,.nilFunc,.int .i64 0,.bool false,.bool false,.string ⟨#[]⟩,.nilFunc,.nilFunc,.int .i64 0,.bool false,.bool false,.string ⟨#[]⟩,.nilFunc,.nilFunc,.int .i64 0,.bool false,.bool false] fcs (by kernel_rfl) rfl (by decide +kernel);have HB:=H_ hb))
 clear hst;have hsz:=HB.out.size;have hB1:=H_ (heap_alloc_new w1 (.cells fcs 137));have hR1:=H_ ((heap_alloc_old w1 (.cells fcs 137) (show w.heap.size<w1.heap.size by simp at hsz; omega)).trans ((HB.out.block w.heap.size (by simp)).trans hr0.out));have hW1:=H_ ((hb0.out.trans (HB.out.mono (by simp))).alloc (by simp at hsz; omega) (.cells fcs 137));have hne:w.heap.size≠w1.heap.size:=by simp at hsz; omega
 obtain⟨B,hB⟩ : ∃ B,B=w1.heap.size:=⟨_,rfl⟩;rw [<- hB] at hB1 hne ⊢;clear hB KF HB hsz hr0 hb0 hb;generalize (World.alloc w1 _)=w2 at hB1 hR1 hW1 ⊢;have cZ:=fun o=>cell_of_row w2 w.heap.size o _ _ _ hR1.out;have z0:=(cZ 0).trans (show _=some (Value.string ⟨#[]⟩) from rfl);have z1:=(cZ 1).trans (show _=some (Value.nilFunc) from rfl);have z2:=(cZ 2).trans (show _=some (Value.nilFunc) from rfl);have z3:=(cZ 3).trans (show _=some (Value.int .i64 0) from rfl);have z4:=(cZ 4).trans (show _=some (Value.bool false) from rfl);have z5:=(cZ 5).trans (show _=some (Value.bool false) from rfl);have f0:w2.frozen? ⟨w.heap.size,0,none⟩ = false:=by simp [World.frozen?,hR1.out]
 have f1:w2.frozen? ⟨w.heap.size,1,none⟩ = false:=by simp [World.frozen?,hR1.out]
 have f2:w2.frozen? ⟨w.heap.size,2,none⟩ = false:=by simp [World.frozen?,hR1.out]
 have f3:w2.frozen? ⟨w.heap.size,3,none⟩ = false:=by simp [World.frozen?,hR1.out]
 have f4:w2.frozen? ⟨w.heap.size,4,none⟩ = false:=by simp [World.frozen?,hR1.out]
 have f5:w2.frozen? ⟨w.heap.size,5,none⟩ = false:=by simp [World.frozen?,hR1.out]
 clear cZ;go_wp2_with fail
 obtain⟨W,hW,_,p0,p1,p2,p3,p4,p5,hg⟩:=retF hR1.out (.string ⟨#[]⟩) (.nilFunc) (.nilFunc) (.int .i64 0) (.bool false) (.bool false);rw [<- hW];refine bodyPost_ret (v:=.tuple #[.agg #[.string ⟨#[]⟩,.nilFunc,.nilFunc,.int .i64 0,.bool false,.bool false],.bool false]) (by simp [results,Tryz.results86,go_sem,p0,p1,p2,p3,p4,p5]) rfl ?_;exact⟨rfl,hW1.out.grown hg hW1.out.size (fun k e=>by have:w.heap.size=k:=Option.some.inj e; omega)⟩
theorem formOf_1 (w:World):Calls Tryz.prog 86 #[.int .i64 1] w fun e w'=>e = .returned (.tuple #[.agg #[.string ⟨#[77,66,49]⟩,.func (.func 126) #[] #[],.func (.func 127) #[] #[],.int .i64 32,.bool false,.bool false],.bool true])/\Below w.heap.size w w':=by
 have KF:=H_ (forms_any (w.alloc (.cells #[.string ⟨#[]⟩,.nilFunc,.nilFunc,.int .i64 0,.bool false,.bool false] 126)));have hr0:=H_ (heap_alloc_new w (.cells #[.string ⟨#[]⟩,.nilFunc,.nilFunc,.int .i64 0,.bool false,.bool false] 126));have hb0:=H_ ((Below.refl w.heap.size w).alloc lr_ (.cells #[.string ⟨#[]⟩,.nilFunc,.nilFunc,.int .i64 0,.bool false,.bool false] 126));go_enter Tryz.func86,Tryz.ntmps86;go_upto_region 2 with (go_at_call 91; go_loud (
  refine KF.out.mono ?_;rintro e w1 ⟨rfl,hb⟩;have hst:=run_storeCells_new (P:=Tryz.prog) w1 137 #[.string ⟨#[]⟩,.nilFunc,.nilFunc,.int .i64 0,.bool false,.bool false,.string ⟨#[]⟩,.nilFunc,.nilFunc,.int .i64 0,.bool false,.bool false,.string ⟨#[]⟩,.nilFunc,.nilFunc,.int .i64 0,.bool false,.bool false] fcs (by kernel_rfl) rfl (by decide +kernel);have HB:=H_ hb))
 clear hst;have hsz:=HB.out.size;have hB1:=H_ (heap_alloc_new w1 (.cells fcs 137));have hR1:=H_ ((heap_alloc_old w1 (.cells fcs 137) (show w.heap.size<w1.heap.size by simp at hsz; omega)).trans ((HB.out.block w.heap.size (by simp)).trans hr0.out));have hW1:=H_ ((hb0.out.trans (HB.out.mono (by simp))).alloc (by simp at hsz; omega) (.cells fcs 137));have hne:w.heap.size≠w1.heap.size:=by simp at hsz; omega
 obtain⟨B,hB⟩ : ∃ B,B=w1.heap.size:=⟨_,rfl⟩;rw [<- hB] at hB1 hne ⊢;clear hB KF HB hsz hr0 hb0 hb;generalize (World.alloc w1 _)=w2 at hB1 hR1 hW1 ⊢;have cX:=fun o=>cell_of_row w2 B o _ _ _ hB1.out;have c0:=(cX 0).trans (show _=some (Value.string ⟨#[77,66,49]⟩) from rfl);have c1:=(cX 1).trans (show _=some (Value.func (.func 126) #[] #[]) from rfl);have c2:=(cX 2).trans (show _=some (Value.func (.func 127) #[] #[]) from rfl);have c3:=(cX 3).trans (show _=some (Value.int .i64 32) from rfl);have c4:=(cX 4).trans (show _=some (Value.bool false) from rfl);have c5:=(cX 5).trans (show _=some (Value.bool false) from rfl);clear cX;have cZ:=fun o=>cell_of_row w2 w.heap.size o _ _ _ hR1.out;have z0:=(cZ 0).trans (show _=some (Value.string ⟨#[]⟩) from rfl);have z1:=(cZ 1).trans (show _=some (Value.nilFunc) from rfl);have z2:=(cZ 2).trans (show _=some (Value.nilFunc) from rfl);have z3:=(cZ 3).trans (show _=some (Value.int .i64 0) from rfl);have z4:=(cZ 4).trans (show _=some (Value.bool false) from rfl);have z5:=(cZ 5).trans (show _=some (Value.bool false) from rfl);have f0:w2.frozen? ⟨w.heap.size,0,none⟩ = false:=by simp [World.frozen?,hR1.out]
 have f1:w2.frozen? ⟨w.heap.size,1,none⟩ = false:=by simp [World.frozen?,hR1.out]
 have f2:w2.frozen? ⟨w.heap.size,2,none⟩ = false:=by simp [World.frozen?,hR1.out]
 have f3:w2.frozen? ⟨w.heap.size,3,none⟩ = false:=by simp [World.frozen?,hR1.out]
 have f4:w2.frozen? ⟨w.heap.size,4,none⟩ = false:=by simp [World.frozen?,hR1.out]
 have f5:w2.frozen? ⟨w.heap.size,5,none⟩ = false:=by simp [World.frozen?,hR1.out]
 clear cZ;go_wp2_with fail
 obtain⟨W,hW,_,p0,p1,p2,p3,p4,p5,hg⟩:=retF hR1.out (.string ⟨#[77,66,49]⟩) (.func (.func 126) #[] #[]) (.func (.func 127) #[] #[]) (.int .i64 32) (.bool false) (.bool false);rw [<- hW];refine bodyPost_ret (v:=.tuple #[.agg #[.string ⟨#[77,66,49]⟩,.func (.func 126) #[] #[],.func (.func 127) #[] #[],.int .i64 32,.bool false,.bool false],.bool true]) (by simp [results,Tryz.results86,go_sem,p0,p1,p2,p3,p4,p5]) rfl ?_;exact⟨rfl,hW1.out.grown hg hW1.out.size (fun k e=>by have:w.heap.size=k:=Option.some.inj e; omega)⟩
theorem formOf_2 (w:World):Calls Tryz.prog 86 #[.int .i64 2] w fun e w'=>e = .returned (.tuple #[.agg #[.string ⟨#[77,66,50]⟩,.func (.func 128) #[] #[],.func (.func 129) #[] #[],.int .i64 32,.bool true,.bool false],.bool true])/\Below w.heap.size w w':=by
 have KF:=H_ (forms_any (w.alloc (.cells #[.string ⟨#[]⟩,.nilFunc,.nilFunc,.int .i64 0,.bool false,.bool false] 126)));have hr0:=H_ (heap_alloc_new w (.cells #[.string ⟨#[]⟩,.nilFunc,.nilFunc,.int .i64 0,.bool false,.bool false] 126));have hb0:=H_ ((Below.refl w.heap.size w).alloc lr_ (.cells #[.string ⟨#[]⟩,.nilFunc,.nilFunc,.int .i64 0,.bool false,.bool false] 126));go_enter Tryz.func86,Tryz.ntmps86;go_upto_region 2 with (go_at_call 91; go_loud (
  refine KF.out.mono ?_;rintro e w1 ⟨rfl,hb⟩;have hst:=run_storeCells_new (P:=Tryz.prog) w1 137 #[.string ⟨#[]⟩,.nilFunc,.nilFunc,.int .i64 0,.bool false,.bool false,.string ⟨#[]⟩,.nilFunc,.nilFunc,.int .i64 0,.bool false,.bool false,.string ⟨#[]⟩,.nilFunc,.nilFunc,.int .i64 0,.bool false,.bool false] fcs (by kernel_rfl) rfl (by decide +kernel);have HB:=H_ hb))
 clear hst;have hsz:=HB.out.size;have hB1:=H_ (heap_alloc_new w1 (.cells fcs 137));have hR1:=H_ ((heap_alloc_old w1 (.cells fcs 137) (show w.heap.size<w1.heap.size by simp at hsz; omega)).trans ((HB.out.block w.heap.size (by simp)).trans hr0.out));have hW1:=H_ ((hb0.out.trans (HB.out.mono (by simp))).alloc (by simp at hsz; omega) (.cells fcs 137));have hne:w.heap.size≠w1.heap.size:=by simp at hsz; omega
 obtain⟨B,hB⟩ : ∃ B,B=w1.heap.size:=⟨_,rfl⟩;rw [<- hB] at hB1 hne ⊢;clear hB KF HB hsz hr0 hb0 hb;generalize (World.alloc w1 _)=w2 at hB1 hR1 hW1 ⊢;have cX:=fun o=>cell_of_row w2 B o _ _ _ hB1.out;have c0:=(cX 6).trans (show _=some (Value.string ⟨#[77,66,50]⟩) from rfl);have c1:=(cX 7).trans (show _=some (Value.func (.func 128) #[] #[]) from rfl);have c2:=(cX 8).trans (show _=some (Value.func (.func 129) #[] #[]) from rfl);have c3:=(cX 9).trans (show _=some (Value.int .i64 32) from rfl);have c4:=(cX 10).trans (show _=some (Value.bool true) from rfl);have c5:=(cX 11).trans (show _=some (Value.bool false) from rfl);clear cX;have cZ:=fun o=>cell_of_row w2 w.heap.size o _ _ _ hR1.out;have z0:=(cZ 0).trans (show _=some (Value.string ⟨#[]⟩) from rfl);have z1:=(cZ 1).trans (show _=some (Value.nilFunc) from rfl);have z2:=(cZ 2).trans (show _=some (Value.nilFunc) from rfl);have z3:=(cZ 3).trans (show _=some (Value.int .i64 0) from rfl);have z4:=(cZ 4).trans (show _=some (Value.bool false) from rfl);have z5:=(cZ 5).trans (show _=some (Value.bool false) from rfl);have f0:w2.frozen? ⟨w.heap.size,0,none⟩ = false:=by simp [World.frozen?,hR1.out]
 have f1:w2.frozen? ⟨w.heap.size,1,none⟩ = false:=by simp [World.frozen?,hR1.out]
 have f2:w2.frozen? ⟨w.heap.size,2,none⟩ = false:=by simp [World.frozen?,hR1.out]
 have f3:w2.frozen? ⟨w.heap.size,3,none⟩ = false:=by simp [World.frozen?,hR1.out]
 have f4:w2.frozen? ⟨w.heap.size,4,none⟩ = false:=by simp [World.frozen?,hR1.out]
 have f5:w2.frozen? ⟨w.heap.size,5,none⟩ = false:=by simp [World.frozen?,hR1.out]
 clear cZ;go_wp2_with fail
 obtain⟨W,hW,_,p0,p1,p2,p3,p4,p5,hg⟩:=retF hR1.out (.string ⟨#[77,66,50]⟩) (.func (.func 128) #[] #[]) (.func (.func 129) #[] #[]) (.int .i64 32) (.bool true) (.bool false);rw [<- hW];refine bodyPost_ret (v:=.tuple #[.agg #[.string ⟨#[77,66,50]⟩,.func (.func 128) #[] #[],.func (.func 129) #[] #[],.int .i64 32,.bool true,.bool false],.bool true]) (by simp [results,Tryz.results86,go_sem,p0,p1,p2,p3,p4,p5]) rfl ?_;exact⟨rfl,hW1.out.grown hg hW1.out.size (fun k e=>by have:w.heap.size=k:=Option.some.inj e; omega)⟩
theorem formOf_3 (w:World):Calls Tryz.prog 86 #[.int .i64 3] w fun e w'=>e = .returned (.tuple #[.agg #[.string ⟨#[77,66,51]⟩,.func (.func 130) #[] #[],.func (.func 131) #[] #[],.int .i64 64,.bool true,.bool true],.bool true])/\Below w.heap.size w w':=by
 have KF:=H_ (forms_any (w.alloc (.cells #[.string ⟨#[]⟩,.nilFunc,.nilFunc,.int .i64 0,.bool false,.bool false] 126)));have hr0:=H_ (heap_alloc_new w (.cells #[.string ⟨#[]⟩,.nilFunc,.nilFunc,.int .i64 0,.bool false,.bool false] 126));have hb0:=H_ ((Below.refl w.heap.size w).alloc lr_ (.cells #[.string ⟨#[]⟩,.nilFunc,.nilFunc,.int .i64 0,.bool false,.bool false] 126));go_enter Tryz.func86,Tryz.ntmps86;go_upto_region 2 with (go_at_call 91; go_loud (
  refine KF.out.mono ?_;rintro e w1 ⟨rfl,hb⟩;have hst:=run_storeCells_new (P:=Tryz.prog) w1 137 #[.string ⟨#[]⟩,.nilFunc,.nilFunc,.int .i64 0,.bool false,.bool false,.string ⟨#[]⟩,.nilFunc,.nilFunc,.int .i64 0,.bool false,.bool false,.string ⟨#[]⟩,.nilFunc,.nilFunc,.int .i64 0,.bool false,.bool false] fcs (by kernel_rfl) rfl (by decide +kernel);have HB:=H_ hb))
 clear hst;have hsz:=HB.out.size;have hB1:=H_ (heap_alloc_new w1 (.cells fcs 137));have hR1:=H_ ((heap_alloc_old w1 (.cells fcs 137) (show w.heap.size<w1.heap.size by simp at hsz; omega)).trans ((HB.out.block w.heap.size (by simp)).trans hr0.out));have hW1:=H_ ((hb0.out.trans (HB.out.mono (by simp))).alloc (by simp at hsz; omega) (.cells fcs 137));have hne:w.heap.size≠w1.heap.size:=by simp at hsz; omega
 obtain⟨B,hB⟩ : ∃ B,B=w1.heap.size:=⟨_,rfl⟩;rw [<- hB] at hB1 hne ⊢;clear hB KF HB hsz hr0 hb0 hb;generalize (World.alloc w1 _)=w2 at hB1 hR1 hW1 ⊢;have cX:=fun o=>cell_of_row w2 B o _ _ _ hB1.out;have c0:=(cX 12).trans (show _=some (Value.string ⟨#[77,66,51]⟩) from rfl);have c1:=(cX 13).trans (show _=some (Value.func (.func 130) #[] #[]) from rfl);have c2:=(cX 14).trans (show _=some (Value.func (.func 131) #[] #[]) from rfl);have c3:=(cX 15).trans (show _=some (Value.int .i64 64) from rfl);have c4:=(cX 16).trans (show _=some (Value.bool true) from rfl);have c5:=(cX 17).trans (show _=some (Value.bool true) from rfl);clear cX;have cZ:=fun o=>cell_of_row w2 w.heap.size o _ _ _ hR1.out;have z0:=(cZ 0).trans (show _=some (Value.string ⟨#[]⟩) from rfl);have z1:=(cZ 1).trans (show _=some (Value.nilFunc) from rfl);have z2:=(cZ 2).trans (show _=some (Value.nilFunc) from rfl);have z3:=(cZ 3).trans (show _=some (Value.int .i64 0) from rfl);have z4:=(cZ 4).trans (show _=some (Value.bool false) from rfl);have z5:=(cZ 5).trans (show _=some (Value.bool false) from rfl);have f0:w2.frozen? ⟨w.heap.size,0,none⟩ = false:=by simp [World.frozen?,hR1.out]
 have f1:w2.frozen? ⟨w.heap.size,1,none⟩ = false:=by simp [World.frozen?,hR1.out]
 have f2:w2.frozen? ⟨w.heap.size,2,none⟩ = false:=by simp [World.frozen?,hR1.out]
 have f3:w2.frozen? ⟨w.heap.size,3,none⟩ = false:=by simp [World.frozen?,hR1.out]
 have f4:w2.frozen? ⟨w.heap.size,4,none⟩ = false:=by simp [World.frozen?,hR1.out]
 have f5:w2.frozen? ⟨w.heap.size,5,none⟩ = false:=by simp [World.frozen?,hR1.out]
 clear cZ;go_wp2_with fail
 obtain⟨W,hW,_,p0,p1,p2,p3,p4,p5,hg⟩:=retF hR1.out (.string ⟨#[77,66,51]⟩) (.func (.func 130) #[] #[]) (.func (.func 131) #[] #[]) (.int .i64 64) (.bool true) (.bool true);rw [<- hW];refine bodyPost_ret (v:=.tuple #[.agg #[.string ⟨#[77,66,51]⟩,.func (.func 130) #[] #[],.func (.func 131) #[] #[],.int .i64 64,.bool true,.bool true],.bool true]) (by simp [results,Tryz.results86,go_sem,p0,p1,p2,p3,p4,p5]) rfl ?_;exact⟨rfl,hW1.out.grown hg hW1.out.size (fun k e=>by have:w.heap.size=k:=Option.some.inj e; omega)⟩
end Go.Proofs.YtoljpfapphoflaaGreatDoor.ImA

set_option maxHeartbeats 4000000
set_option maxRecDepth 100000
namespace Go.Proofs.YtoljpfapphoflaaGreatDoor.ImB
open Go.RowKit BxD BxKit BxR BxC OlD PtK RwD RwKit ImD ImK ImA
open PkKit (BytesAt)
def notB (k:Nat) (l:List UInt8):Prop:=(0<k->l.take 3≠[77,66,49])/\(1<k->l.take 3≠[77,66,50])/\(2<k->l.take 3≠[77,66,51])
theorem ver_1 {l:List UInt8} (h:l.take 3=[77,66,49]):verN l=1:=by unfold verN; rw [if_pos h]
theorem ver_2 {l:List UInt8} (h:notB 1 l) (h2:l.take 3=[77,66,50]):verN l=2:=by unfold verN; rw [if_neg (h.1 (by decide)),if_pos h2]
theorem ver_3 {l:List UInt8} (h:notB 2 l) (h2:l.take 3=[77,66,51]):verN l=3:=by unfold verN; rw [if_neg (h.1 (by decide)),if_neg (h.2.1 (by decide)),if_pos h2]
theorem ver_0 {l:List UInt8} (h:notB 3 l):verN l=0:=by unfold verN; rw [if_neg (h.1 (by decide)),if_neg (h.2.1 (by decide)),if_neg (h.2.2 (by decide))]
theorem ix_0 (w:World):(Instr.index 137 (.agg fcs) (.int .i64 0)).run Tryz.prog w = .ok (.agg #[.string ⟨#[77,66,49]⟩,.func (.func 126) #[] #[],.func (.func 127) #[] #[],.int .i64 32,.bool false,.bool false]) w:=by kernel_rfl
theorem ix_1 (w:World):(Instr.index 137 (.agg fcs) (.int .i64 1)).run Tryz.prog w = .ok (.agg #[.string ⟨#[77,66,50]⟩,.func (.func 128) #[] #[],.func (.func 129) #[] #[],.int .i64 32,.bool true,.bool false]) w:=by kernel_rfl
theorem ix_2 (w:World):(Instr.index 137 (.agg fcs) (.int .i64 2)).run Tryz.prog w = .ok (.agg #[.string ⟨#[77,66,51]⟩,.func (.func 130) #[] #[],.func (.func 131) #[] #[],.int .i64 64,.bool true,.bool true]) w:=by kernel_rfl
theorem version_any {w:World} {B n cp:Nat} {A:Option Addr} {l:List UInt8} (hz:BytesAt w B A n l) (hB:B<=w.heap.size) (hc:n<=cp) (hn:n<=140737488355328) :
 Calls Tryz.prog 44 #[.slice A n cp] w fun e w'=>e = .returned (.int .i64 (verN l:Nat))/\Below w.heap.size w w':=by
 have KF:=H_ (forms_any w);have HZ:=H_ hz;clear hz;go_enter Tryz.func44,Tryz.ntmps44;go_wp2_with (go_at_call 91; go_loud (
  refine KF.out.mono ?_;rintro e w1 ⟨rfl,hb⟩;have HB:=H_ hb;clear hb))
 go_loopw [6] (fun s6 wr=>∃ k:Nat,k<=3/\s6 = .int .i64 k/\Hid (notB k l)/\Hid (Below w.heap.size w wr)) (fun s6 _=>3-(intOf s6).toNat)
 case atStart=>exact⟨0,Nat.zero_le _,rfl,⟨fun h=>absurd h (by decide),fun h=>absurd h (by decide),fun h=>absurd h (by decide)⟩,HB.out⟩
 case round =>
  clear HB KF;obtain⟨k,hk,rfl,HN,HB⟩:=hrel;have hsz:=HB.out.size;by_cases hlt:k<3
  · obtain rfl | rfl | rfl:k=0\/k=1\/k=2:=by omega
    · have hix:=ix_0 wr
      go_upto_region 4 with fail
      clear hix;have A1:=H_ (HB.out.alloc hsz (.cells #[.string ⟨#[77,66,49]⟩,.func (.func 126) #[] #[],.func (.func 127) #[] #[],.int .i64 32,.bool false,.bool false] 126));have hw1:=H_ (heap_alloc_new wr (.cells #[.string ⟨#[77,66,49]⟩,.func (.func 126) #[] #[],.func (.func 127) #[] #[],.int .i64 32,.bool false,.bool false] 126));obtain⟨P,hP⟩ : ∃ P,P=wr.heap.size:=⟨_,rfl⟩;rw [<- hP] at hw1 ⊢;have hPw:w.heap.size<=P:=by omega
      clear hP;generalize (World.alloc wr _)=w2 at A1 hw1 ⊢;have c0:=(cell_of_row w2 P 0 _ _ _ hw1.out).trans (show _=some (Value.string ⟨#[77,66,49]⟩) from rfl);obtain⟨M,hM⟩ : ∃ M:ByteArray,M=⟨#[77,66,49]⟩:=⟨_,rfl⟩;have hMs:M.size=3:=by rw [hM]; rfl
      have hMd:M.data.toList=[77,66,49]:=by rw [hM]
      rw [<- hM] at c0;have hcv:=Lib.run_convert_string_bytes (P:=Tryz.prog) w2 9 37 5 M Tryz.underlying9 Tryz.underlying37 Tryz.underlying5;have hoo:=OlOq.conv_oo w2 M (by omega);obtain⟨w3,hw3⟩ : ∃ w3,w3=Lib.bytesWorld w2 5 M:=⟨_,rfl⟩;obtain⟨cpm,hcpm⟩ : ∃ cpm,cpm=grownCap w2 M.size 0 5:=⟨_,rfl⟩;rw [<- hw3,<- hcpm] at hcv hoo;rw [hMs,hMd] at hoo;rw [hMs] at hcv;have hbw:Below w2.heap.size w2 w3:=hoo.bel;have hA3:=A1.out.trans (hbw.mono A1.out.size);have hmk:BytesAt w3 w3.heap.size (some ⟨w2.heap.size,0,none⟩) 3 [77,66,49]:=hoo.own.bytes;have A3:=H_ hA3;have KP:=H_ (hasPrefix_any (c2:=cpm) (HZ.out.below hA3 hB) hc hn hmk);clear hoo hw3 hcpm hMs hMd hM hmk hbw hA3;by_cases hq:l.take 3=[77,66,49]
      · have K2:=KP.out
        rw [decide_eq_true hq] at K2;have K2:=H_ K2;have HV:=H_ (show verN l=1 from ver_1 hq);clear hq KP;go_wp2_with (go_at_call 92; go_loud (
         refine K2.out.mono ?_;rintro e w4 ⟨rfl,rfl⟩))
        go_ret;exact⟨by rw [HV.out]; rfl,A3.out⟩
      · have K2:=KP.out
        rw [decide_eq_false hq] at K2;have K2:=H_ K2;have HN2:=H_ (show notB 1 l from ⟨fun _=>hq,fun h=>absurd h (by decide),fun h=>absurd h (by decide)⟩);clear hq KP HN;go_wp2_with (go_at_call 92; go_loud (
         refine K2.out.mono ?_;rintro e w4 ⟨rfl,rfl⟩))
        go_roundw
        case rel=>exact⟨1,by omega,by go_num,HN2,A3⟩
        case measure=>simp [intOf]
    · have hix:=ix_1 wr
      go_upto_region 4 with fail
      clear hix;have A1:=H_ (HB.out.alloc hsz (.cells #[.string ⟨#[77,66,50]⟩,.func (.func 128) #[] #[],.func (.func 129) #[] #[],.int .i64 32,.bool true,.bool false] 126));have hw1:=H_ (heap_alloc_new wr (.cells #[.string ⟨#[77,66,50]⟩,.func (.func 128) #[] #[],.func (.func 129) #[] #[],.int .i64 32,.bool true,.bool false] 126));obtain⟨P,hP⟩ : ∃ P,P=wr.heap.size:=⟨_,rfl⟩;rw [<- hP] at hw1 ⊢;have hPw:w.heap.size<=P:=by omega
      clear hP;generalize (World.alloc wr _)=w2 at A1 hw1 ⊢;have c0:=(cell_of_row w2 P 0 _ _ _ hw1.out).trans (show _=some (Value.string ⟨#[77,66,50]⟩) from rfl);obtain⟨M,hM⟩ : ∃ M:ByteArray,M=⟨#[77,66,50]⟩:=⟨_,rfl⟩;have hMs:M.size=3:=by rw [hM]; rfl
      have hMd:M.data.toList=[77,66,50]:=by rw [hM]
      rw [<- hM] at c0;have hcv:=Lib.run_convert_string_bytes (P:=Tryz.prog) w2 9 37 5 M Tryz.underlying9 Tryz.underlying37 Tryz.underlying5;have hoo:=OlOq.conv_oo w2 M (by omega);obtain⟨w3,hw3⟩ : ∃ w3,w3=Lib.bytesWorld w2 5 M:=⟨_,rfl⟩;obtain⟨cpm,hcpm⟩ : ∃ cpm,cpm=grownCap w2 M.size 0 5:=⟨_,rfl⟩;rw [<- hw3,<- hcpm] at hcv hoo;rw [hMs,hMd] at hoo;rw [hMs] at hcv;have hbw:Below w2.heap.size w2 w3:=hoo.bel;have hA3:=A1.out.trans (hbw.mono A1.out.size);have hmk:BytesAt w3 w3.heap.size (some ⟨w2.heap.size,0,none⟩) 3 [77,66,50]:=hoo.own.bytes;have A3:=H_ hA3;have KP:=H_ (hasPrefix_any (c2:=cpm) (HZ.out.below hA3 hB) hc hn hmk);clear hoo hw3 hcpm hMs hMd hM hmk hbw hA3;by_cases hq:l.take 3=[77,66,50]
      · have K2:=KP.out
        rw [decide_eq_true hq] at K2;have K2:=H_ K2;have HV:=H_ (show verN l=2 from ver_2 HN.out hq);clear hq KP;go_wp2_with (go_at_call 92; go_loud (
         refine K2.out.mono ?_;rintro e w4 ⟨rfl,rfl⟩))
        go_ret;exact⟨by rw [HV.out]; rfl,A3.out⟩
      · have K2:=KP.out
        rw [decide_eq_false hq] at K2;have K2:=H_ K2;have HN2:=H_ (show notB 2 l from ⟨fun _=>HN.out.1 (by decide),fun _=>hq,fun h=>absurd h (by decide)⟩);clear hq KP HN;go_wp2_with (go_at_call 92; go_loud (
         refine K2.out.mono ?_;rintro e w4 ⟨rfl,rfl⟩))
        go_roundw
        case rel=>exact⟨2,by omega,by go_num,HN2,A3⟩
        case measure=>simp [intOf]
    · have hix:=ix_2 wr
      go_upto_region 4 with fail
      clear hix;have A1:=H_ (HB.out.alloc hsz (.cells #[.string ⟨#[77,66,51]⟩,.func (.func 130) #[] #[],.func (.func 131) #[] #[],.int .i64 64,.bool true,.bool true] 126));have hw1:=H_ (heap_alloc_new wr (.cells #[.string ⟨#[77,66,51]⟩,.func (.func 130) #[] #[],.func (.func 131) #[] #[],.int .i64 64,.bool true,.bool true] 126));obtain⟨P,hP⟩ : ∃ P,P=wr.heap.size:=⟨_,rfl⟩;rw [<- hP] at hw1 ⊢;have hPw:w.heap.size<=P:=by omega
      clear hP;generalize (World.alloc wr _)=w2 at A1 hw1 ⊢;have c0:=(cell_of_row w2 P 0 _ _ _ hw1.out).trans (show _=some (Value.string ⟨#[77,66,51]⟩) from rfl);obtain⟨M,hM⟩ : ∃ M:ByteArray,M=⟨#[77,66,51]⟩:=⟨_,rfl⟩;have hMs:M.size=3:=by rw [hM]; rfl
      have hMd:M.data.toList=[77,66,51]:=by rw [hM]
      rw [<- hM] at c0;have hcv:=Lib.run_convert_string_bytes (P:=Tryz.prog) w2 9 37 5 M Tryz.underlying9 Tryz.underlying37 Tryz.underlying5;have hoo:=OlOq.conv_oo w2 M (by omega);obtain⟨w3,hw3⟩ : ∃ w3,w3=Lib.bytesWorld w2 5 M:=⟨_,rfl⟩;obtain⟨cpm,hcpm⟩ : ∃ cpm,cpm=grownCap w2 M.size 0 5:=⟨_,rfl⟩;rw [<- hw3,<- hcpm] at hcv hoo;rw [hMs,hMd] at hoo;rw [hMs] at hcv;have hbw:Below w2.heap.size w2 w3:=hoo.bel;have hA3:=A1.out.trans (hbw.mono A1.out.size);have hmk:BytesAt w3 w3.heap.size (some ⟨w2.heap.size,0,none⟩) 3 [77,66,51]:=hoo.own.bytes;have A3:=H_ hA3;have KP:=H_ (hasPrefix_any (c2:=cpm) (HZ.out.below hA3 hB) hc hn hmk);clear hoo hw3 hcpm hMs hMd hM hmk hbw hA3;by_cases hq:l.take 3=[77,66,51]
      · have K2:=KP.out
        rw [decide_eq_true hq] at K2;have K2:=H_ K2;have HV:=H_ (show verN l=3 from ver_3 HN.out hq);clear hq KP;go_wp2_with (go_at_call 92; go_loud (
         refine K2.out.mono ?_;rintro e w4 ⟨rfl,rfl⟩))
        go_ret;exact⟨by rw [HV.out]; rfl,A3.out⟩
      · have K2:=KP.out
        rw [decide_eq_false hq] at K2;have K2:=H_ K2;have HN2:=H_ (show notB 3 l from ⟨fun _=>HN.out.1 (by decide),fun _=>HN.out.2.1 (by decide),fun _=>hq⟩);clear hq KP HN;go_wp2_with (go_at_call 92; go_loud (
         refine K2.out.mono ?_;rintro e w4 ⟨rfl,rfl⟩))
        go_roundw
        case rel=>exact⟨3,by omega,by go_num,HN2,A3⟩
        case measure=>simp [intOf]
  · obtain rfl:k=3:=by omega
    have HV:=H_ (ver_0 HN.out);go_wp2_with fail
    go_ret;exact⟨by rw [HV.out]; rfl,HB.out⟩
end Go.Proofs.YtoljpfapphoflaaGreatDoor.ImB
