/-
  SfN + SfO + SfP
-/
import Derived.Test.YtoljpfapphoflaaGreatDoorS3
import Derived.Lib.SlicesCompact
import Derived.Lib.OwnBridge
import Derived.Test.YtoljpfapphoflaaGreatDoorS5
import Derived.Test.YtoljpfapphoflaaGreatDoorS4
set_option linter.unusedVariables false
set_option linter.unusedSimpArgs false
set_option maxHeartbeats 8000000
set_option maxRecDepth 100000
namespace Go.Proofs.YtoljpfapphoflaaGreatDoor.SfN
open Go.RowKit Go.Sort BxD BxKit RkO RkP RkC RkD RkR RkK RkM SfC SfD SfK
abbrev Tx:=List (List UInt8)
def srt (l:Tx):Tx:=l.mergeSort fun x y=>decide (x<=y)
theorem srt_len (l:Tx):(srt l).length=l.length:=List.length_mergeSort l
theorem srt_perm (l:Tx):(srt l).Perm l:=List.mergeSort_perm l _
theorem srt_up (l:Tx):(srt l).Pairwise (fun a b=>a<=b):=by
 have h:=List.pairwise_mergeSort (le:=fun x y:List UInt8=>decide (x<=y)) (fun a b c h1 h2=>decide_eq_true (List.le_trans (of_decide_eq_true h1) (of_decide_eq_true h2))) (fun a b=>by
  rcases List.le_total a b with h | h
  · simp [h]
  · simp [h]) l
 exact h.imp fun h=>of_decide_eq_true h
theorem up_nodup : ∀ {l:Tx},l.Pairwise (fun a b=>a<=b)->(∀ i,i+1<l.length->l[i]?≠l[i+1]?)->l.Nodup
 | [],_,_=>List.Pairwise.nil
 | [a],_,_=>by simp
 | a::b::r,h,hk=>by
  have h2:=(List.pairwise_cons.1 h).2;have ih:=up_nodup h2 (fun i hi=>by have:=hk (i+1) (by simpa using hi); simpa using this);refine List.nodup_cons.2 ⟨fun hm=>?_,ih⟩;have hab:a<=b:=(List.pairwise_cons.1 h).1 b (List.mem_cons_self ..);have hne:a≠b:=fun e=>hk 0 (by simp) (by simp [e]);rcases List.mem_cons.1 hm with e | hm
  · exact hne e
  · have hba:b<=a:=(List.pairwise_cons.1 h2).1 a hm
    exact hne (List.le_antisymm hab hba)
theorem cu_len (d:Array (List UInt8)) : ∀ m,(Lib.compactUpTo d m).length<=m
 | 0=>by simp [Lib.compactUpTo]
 | m+1=>by
  have:=cu_len d m;rw [Lib.compactUpTo_succ,List.length_append];split <;> simp <;> omega
theorem cu_full (d:Array (List UInt8)) : ∀ m,(Lib.compactUpTo d m).length=m->∀ j,j<m->Lib.keeps d j=true
 | 0,_,j,hj=>absurd hj (Nat.not_lt_zero _)
 | m+1,h,j,hj=>by
  have hl:=cu_len d m;rw [Lib.compactUpTo_succ,List.length_append] at h;have hk:Lib.keeps d m=true:=by
   cases hk:Lib.keeps d m with
   | true=>rfl
   | false=>rw [hk] at h; simp at h; omega
  rw [hk] at h;rcases Nat.lt_succ_iff_lt_or_eq.1 hj with h1 | rfl
  · exact cu_full d m (by simpa using h) j h1
  · exact hk
theorem compact_nodup (l:Tx):(Lib.compact (srt l)).length=l.length↔l.Nodup:=by
 have hget : ∀ j,j<(srt l).length->(srt l).toArray[j]! = (srt l)[j]!:=fun j hj=>by simp [getElem!_pos,hj]
 constructor
 · intro h
   refine (srt_perm l).nodup_iff.1 (up_nodup (srt_up l) fun i hi e=>?_);unfold Lib.compact at h;rw [srt_len] at h;have hk:=cu_full _ _ h (i+1) (by rw [srt_len] at hi; exact hi);unfold Lib.keeps at hk;have hk:=of_decide_eq_true hk;rcases hk with hk | hk
   · omega
   · rw [List.getElem?_eq_getElem (show i<(srt l).length by omega),List.getElem?_eq_getElem hi] at e
     have e2:=Option.some.inj e;rw [hget _ hi,Nat.add_sub_cancel,hget _ (by omega),getElem!_pos (srt l) (i+1) hi,getElem!_pos (srt l) i (by omega)] at hk;exact hk e2.symm
 · intro h
   have hn:(srt l).Nodup:=(srt_perm l).nodup_iff.2 h;rw [Lib.compact_all _ fun j hj=>?_,srt_len];unfold Lib.keeps;refine decide_eq_true ?_;rcases Nat.eq_zero_or_pos j with h0 | h0
   · exact .inl h0
   · refine .inr ?_
     rw [hget _ hj,hget _ (by omega),getElem!_pos (srt l) j hj,getElem!_pos (srt l) (j-1) (by omega)];intro e;have:=(List.nodup_iff_pairwise_ne.1 hn);have:=List.pairwise_iff_getElem.1 this (j-1) j (by omega) hj (by omega);exact this e.symm
theorem below_grow (w:World) (os:Array Obj):Below w.heap.size w (grow w os):=by
 refine⟨rfl,rfl,rfl, ?_,fun i hi=>?_⟩
 · show w.heap.size<=(w.heap++os).size
   rw [Array.size_append]; omega
 · show (w.heap++os)[i]? = w.heap[i]?
   rw [Array.getElem?_append_left (by omega)]
theorem sort_own {w wr:World} {n:Nat} {v:Value} {ys:Tx} (h:wr.ownsRow w.heap.size 9 1 v n (ys.map encStr)) (hb0:Below w.heap.size w wr) (hn:n<=1000000) :
 Calls Tryz.prog 113 #[v] wr fun e w'=>e = .returned (.tuple #[])/\w'.ownsRow w.heap.size 9 1 v n ((srt ys).map encStr)/\Below w.heap.size w w':=by
 by_cases hv:v = .slice none 0 0
 · subst hv
   have h0:n=0:=by
    rcases h.2 with⟨_,h0⟩ | ⟨g,cap,cur,e0,_⟩
    · exact h0
    · cases e0
   subst h0;have hy:ys=[]:=List.eq_nil_of_length_eq_zero (by simpa using h.1);subst hy;exact (Tryz.slices_Sort_string_none none 0 wr).mono fun e w' ⟨he,hw⟩=>⟨he,by rw [hw,show srt []=[] by simp [srt]]; exact⟨World.ownsRow_nil _ _ _ _,hb0⟩⟩
 · obtain⟨g,cap,rfl,hb,hg,hnc,hcm,hl,hH⟩:=Lib.holds_of_ownsRow h hv
   subst hl;refine (Tryz.slices_Sort_string g 0 cap ys wr hH hg (by omega)).mono fun e w' ⟨he,q,os,hw⟩=>⟨he, ?_⟩;subst hw;have h1:=Lib.ownsRow_putRow (q:=q) (ys:=srt ys) h (srt_len ys) lr_;rw [List.take_of_length_le (by rw [srt_len]; exact Nat.le_refl _)] at h1;have h2:Below w.heap.size w (Sort.putRow encStr (Sort.ahead wr q) g 0 (srt ys).toArray):=Lib.below_putRow hb0 hb;have h3:=below_grow (Sort.putRow encStr (Sort.ahead wr q) g 0 (srt ys).toArray) os;exact⟨h1.kept (RkO.grown_below h3 (row:=none)) (by simp [Value.ownBlock]),h2.trans (h3.mono h2.size)⟩
theorem compact_own {w wr:World} {n c:Nat} {A:Option Addr} {ys:Tx} (h:wr.ownsRow w.heap.size 9 1 (.slice A n c) n (ys.map encStr)) (hb0:Below w.heap.size w wr) (hn:n<=1000000) :
 Calls Tryz.prog 114 #[.slice A n c] wr fun e w'=>∃ A',e = .returned (.slice A' (Lib.compact ys).length c)/\Below w.heap.size w w':=by
 have hl0:ys.length=n:=by have:=h.1; simpa using this
 by_cases hv:(.slice A n c:Value) = .slice none 0 0
 · injection hv with e1 e2 e3
   subst e1 e2 e3;have hy:ys=[]:=List.eq_nil_of_length_eq_zero hl0;subst hy;exact (Tryz.slices_Compact_string_empty none 0 wr).mono fun e w' ⟨he,hw⟩=>⟨none,by rw [he]; rfl,by rw [hw]; exact hb0⟩
 · obtain⟨g,cap,e,hb,hg,hnc,hcm,hl,hH⟩:=Lib.holds_of_ownsRow h hv
   injection e with e1 e2 e3;subst e1 e3;subst hl;refine (Tryz.slices_Compact_string g 0 c ys wr hH (by omega) hnc).mono fun e w' ⟨he,q,hw⟩=>⟨_,he, ?_⟩;subst hw;exact Lib.below_putRow hb0 hb
theorem nodup_tx (l:List ByteArray):(l.map (·.data.toList)).Nodup↔l.Nodup:=by
 rw [List.nodup_iff_pairwise_ne,List.nodup_iff_pairwise_ne,List.pairwise_map];constructor
 · intro h; exact h.imp fun h e=>h (by rw [e])
 · intro h; exact h.imp fun {a b} h e=>h (by cases a; cases b; congr 1; exact Array.ext' e)
theorem enc_map (l:List ByteArray):(l.map (·.data.toList)).map encStr=l.map Value.string:=Lib.map_encStr l
theorem nR_list:nR.toList=[61,114,101,100,111]:=by rw [ByteArray.toList_eq]
theorem nR_eq (x:ByteArray):(x.toList==[61,114,101,100,111])=decide (x=nR):=by
 rw [<- nR_list];by_cases h:x=nR
 · subst h; rw [decide_eq_true rfl]; exact beq_self_eq_true _
 · rw [decide_eq_false h]
   exact beq_eq_false_iff_ne.2 fun e=>h (ba_ext e)
theorem nil_eq (x:ByteArray):x.toList.isEmpty=decide (x.size=0):=by
 have hl:x.toList.length=x.size:=by rw [ByteArray.toList_eq,Array.length_toList]; rfl
 by_cases h:x.size=0
 · rw [decide_eq_true h,List.isEmpty_iff]
   exact List.eq_nil_of_length_eq_zero (by omega)
 · rw [decide_eq_false h]
   cases hx:x.toList with
   | nil=>rw [hx] at hl; simp at hl; omega
   | cons a r=>rfl
theorem may_bad {l:List Ch} {q:Nat} {c:Ch} (h:l[q]? = some c) (hb:chBad c=true):mayL l=false:=by
 unfold mayL;have:(l.all fun c=>!chBad c)=false:=by
  cases h2:l.all fun c=>!chBad c with
  | false=>rfl
  | true =>
   have:=List.all_eq_true.1 h2 c (List.mem_of_getElem? h);rw [hb] at this;cases this
 rw [this]; rfl
theorem may_good {l:List Ch} (h : ∀ c∈l,chBad c=false):mayL l=decide ((l.map (·.name)).Nodup):=by
 unfold mayL;rw [show (l.all fun c=>!chBad c)=true from List.all_eq_true.2 fun c hc=>by rw [h c hc]; rfl,Bool.true_and]
section
variable {base T lo hi k : Nat} {w : World}
theorem may_any {n cp:Nat} {A:Option Addr} {l:List Ch} (hL:ChsP w base lo hi A n l) (h1:base<=w.heap.size) (h2:hi<=w.heap.size) (hn:n<=1000) (hz : ∀ c∈l,c.name.size<=1000000/\c.data.length<=1000000) :
 Calls Tryz.prog 73 #[.slice A n cp] w fun e w'=>e = .returned (.bool (mayL l))/\Below w.heap.size w w':=by
 have HL:=H_ hL;have HLN:=H_ hL.1;have HW:=H_ (And.intro h1 h2);have HZ:=H_ hz;clear hL h1 h2 hz;go_enter Tryz.func73,Tryz.ntmps73;go_wp2_with fail
 go_loopw [3,8] (fun s3 s8 wr=>∃ (v:Value) (q:Nat),s3=v/\q<=n/\s8 = .int .i64 q/\Hid (∀ c∈l.take q,chBad c=false)/\Hid (wr.ownsRow w.heap.size 9 1 v q ((l.take q).map fun c=>Value.string c.name))/\Hid (Below w.heap.size w wr)) (fun _ s8 _=>n-(intOf s8).toNat)
 case atStart=>exact⟨_,0,rfl,Nat.zero_le _,rfl,(fun c hc=>by simp at hc),World.ownsRow_nil _ _ _ _,Below.refl _ _⟩
 case round =>
  obtain⟨v,q,rfl,hq,rfl,HA,HO,HB⟩:=hrel;by_cases hlt:q<n
  · obtain⟨ad,x,bb,K,kd,kc,rfl,hg,d0,d1,d2,hle,hby,_⟩:=HL.out.sp (Kb.below HB.out HW.out.1 HW.out.2) (j:=q) hlt
    have HG:=H_ hg;have hsz:=HZ.out _ (List.mem_of_getElem? hg);have hs1:x.size<=1000000:=hsz.1;have hs2:kd.length<=1000000:=hsz.2;have HB1:=H_ (HB.out.alloc HB.out.size (.cells #[.string x,.bool bb,.slice K kd.length kc] 81));have HO1:=H_ (HO.out.alloc (.cells #[.string x,.bool bb,.slice K kd.length kc] 81));have e1:=nR_eq x;have e2:=nil_eq x;obtain⟨m,hm⟩ : ∃ m,m=kd.length:=⟨_,rfl⟩;rw [<- hm] at d2 hs2 HB1 HO1;have HM:=H_ hm;clear hg hsz hle hby hm;by_cases c1:x=nR
    · rw [decide_eq_true c1] at e1
      have C1:=H_ c1;clear c1 e2;have HP:=H_ (show mayL l=false from may_bad HG.out (by unfold chBad; simp only [C1.out]; simp));go_wp2_with fail
      go_ret;exact⟨by rw [HP.out]; rfl,HB1.out⟩
    rw [decide_eq_false c1] at e1;by_cases c2:x.size=0
    · rw [decide_eq_true c2] at e2
      have C2:=H_ c2;clear c1 c2;have HP:=H_ (show mayL l=false from may_bad HG.out (by unfold chBad; simp only [C2.out]; simp));go_wp2_with fail
      go_ret;exact⟨by rw [HP.out]; rfl,HB1.out⟩
    rw [decide_eq_false c2] at e2;by_cases c3:24<x.size
    · have C3:=H_ (show decide (24<x.size)=true from decide_eq_true c3)
      clear c1 c2;have c3i:(24:Int)<(x.size:Int):=by omega
      have HP:=H_ (show mayL l=false from may_bad HG.out (by unfold chBad; simp only [C3.out]; simp));go_wp2_with fail
      go_ret;exact⟨by rw [HP.out]; rfl,HB1.out⟩
    have c3i : ¬ (24:Int)<(x.size:Int):=by omega
    by_cases c4:200000<m
    · have C4:=H_ (show decide (200000<kd.length)=true from decide_eq_true (by rw [<- HM.out]; exact c4))
      clear c1 c2;have c4i:(200000:Int)<(m:Int):=by omega
      have HP:=H_ (show mayL l=false from may_bad HG.out (by unfold chBad; simp only [C4.out]; simp));go_wp2_with fail
      go_ret;exact⟨by rw [HP.out]; rfl,HB1.out⟩
    have c4i : ¬ (200000:Int)<(m:Int):=by omega
    have HC:=H_ (show chBad ⟨x,bb,kd⟩=false by
     unfold chBad;rw [decide_eq_false c1,decide_eq_false c2,decide_eq_false c3,decide_eq_false (by rw [<- HM.out]; exact c4)]; rfl)
    have HSN:=H_ (show l.take (q+1)=l.take q++[⟨x,bb,kd⟩] by
     obtain⟨hl1,hg1⟩:=List.getElem?_eq_some_iff.1 HG.out;rw [List.take_succ_eq_append_getElem hl1,hg1])
    have HS:=H_ (src_new (wr.alloc (.cells #[.string x,.bool bb,.slice K m kc] 81)) #[.string x] 9 (m:=1) (sz:=1) rfl rfl (fun u hu=>by simp at hu; subst hu; rfl));rw [World.size_alloc] at HS;have HO5:=H_ (HO1.out.alloc (.cells #[.string x] 9));have HB5:=H_ (HB1.out.alloc HB1.out.size (.cells #[.string x] 9));have HSZ:=H_ HB5.out.size;clear c1 c2;go_wp2_with (at_builtin; go_loud (
     refine wpList_rows elS rfl _ _ rfl rfl rfl HO5.out HS.out (by unfold maxLen; omega) (by omega) HSZ.out ?_;intro v6 w6 hown hg6 _;have HO6:=H_ (show w6.ownsRow w.heap.size 9 1 v6 (q+1) ((l.take (q+1)).map fun c=>Value.string c.name) by rw [HSN.out,List.map_append]; exact hown);have HB6:=H_ (HB5.out.grown hg6 HSZ.out (fun g e=>(HO.out.lt g e).1));clear hown hg6))
    go_roundw
    case rel =>
     refine⟨v6,q+1,rfl,by omega,by go_num, ?_,HO6,HB6⟩;show ∀ c∈l.take (q+1),chBad c=false;rw [HSN.out];intro c hc;rcases List.mem_append.1 hc with hc | hc
     · exact HA.out c hc
     · obtain rfl:=List.mem_singleton.1 hc; exact HC.out
    case measure=>simp [intOf]; omega
  · obtain rfl:n=q:=by omega
    have ha:=HA.out;have ho:=HO.out;rw [List.take_of_length_le (by rw [HLN.out]; exact Nat.le_refl _)] at ha ho;have e0:(l.map fun c=>Value.string c.name)=((l.map (·.name)).map (·.data.toList)).map encStr:=by rw [enc_map,List.map_map]; rfl
    rw [e0] at ho;have hml:=may_good ha;have hcn:=(compact_nodup ((l.map (·.name)).map (·.data.toList))).trans (nodup_tx (l.map (·.name)));rw [List.length_map,List.length_map,HLN.out] at hcn;obtain⟨A1,c1,rfl,hc1⟩:=own_slice ho;have KS:=H_ (sort_own ho HB.out (by omega));obtain⟨cl,hcl⟩ : ∃ cl,cl=(Lib.compact (srt ((l.map (·.name)).map (·.data.toList)))).length:=⟨_,rfl⟩;rw [<- hcl] at hcn;have HCL:=H_ hcl;have HP:=H_ (show mayL l=decide (cl=n) by rw [hml]; exact (decide_eq_decide.2 hcn).symm);clear ha ho e0 hml hcn hcl HA HO;go_upto_region 10 with (go_at_call 113; go_loud (
     refine KS.out.mono ?_;rintro e w3 ⟨rfl,h3,h4⟩;have KC:=H_ (compact_own h3 h4 (by omega));rw [<- HCL.out] at KC;clear h3 h4))
    go_wp2_with (go_at_call 114; go_loud (
     refine KC.out.mono ?_;rintro e w4 ⟨A4,rfl,h4⟩;have HB4:=H_ h4;clear h4))
    go_ret;refine⟨?_,HB4.out⟩;rw [HP.out];show Ending.returned (Value.bool ((cl:Int)==(n:Int)))=_;rw [show ((cl:Int)==(n:Int))=decide (cl=n) from by rw [Bool.eq_iff_iff]; simp; omega]
end
end Go.Proofs.YtoljpfapphoflaaGreatDoor.SfN

set_option maxHeartbeats 4000000
set_option maxRecDepth 100000
namespace Go.Proofs.YtoljpfapphoflaaGreatDoor.SfO
open Go.RowKit BxD BxKit RkO RkP RkC RkD RkR RkK RkM RkN SfB SfC SfD SfE SfK SfL SfI SfN
def comE (s:St) (l:List Ch):Int :=
 if fitE s l≠0 then fitE s l else if l.length=0 then 0 else if wrE s nR (bsL l)≠0 then wrE s nR (bsL l)
 else if flE (wrS s nR (bsL l))≠0 then flE (wrS s nR (bsL l)) else finE (flS (wrS s nR (bsL l))) l
def comS (s:St) (l:List Ch):St :=
 if fitE s l≠0 then s else if l.length=0 then s else if wrE s nR (bsL l)≠0 then wrS s nR (bsL l)
 else if flE (wrS s nR (bsL l))≠0 then flS (wrS s nR (bsL l)) else finS (flS (wrS s nR (bsL l))) l
theorem bsL_len : ∀ {l:List Ch},szC l->(bsL l).length<=3000000*l.length
 | [],_=>by simp [bsL]
 | c::r,h=>by
  have h1:=chB_len (h c (List.mem_cons_self ..));have h2:=bsL_len (l:=r) fun x hx=>h x (List.mem_cons_of_mem _ hx);unfold bsL at h2 ⊢;rw [List.flatMap_cons,List.length_append,List.length_cons];omega
theorem gr1_ok : ∀ {l:List F} {m:SfG.Gr},(∀ f∈l,f.1.size<=24/\f.2.length<=200000)->SfH.Bd m->SfH.Bd (gr1 l m)/\(gr1 l m).length<=m.length+l.length
 | [],m,_,h=>⟨h,Nat.le_refl _⟩
 | f::r,m,hl,h=>by
  have h1:=hl f (List.mem_cons_self ..);have h2:=gr1_ok (l:=r) (m:=mxu f.1 (cst f.1 f.2) m) (fun x hx=>hl x (List.mem_cons_of_mem _ hx)) (h.mxu (by unfold cst; omega));have h3:=SfH.mxu_len f.1 (cst f.1 f.2) m;refine⟨h2.1, ?_⟩;show (gr1 r (mxu f.1 (cst f.1 f.2) m)).length<=_;rw [List.length_cons];omega
theorem gr2_ok : ∀ {l:List Ch} {m:SfG.Gr},szC l->SfH.Bd m->SfH.Bd (gr2 l m)/\(gr2 l m).length<=m.length+l.length
 | [],m,_,h=>⟨h,Nat.le_refl _⟩
 | c::r,m,hl,h=>by
  have h1:=hl c (List.mem_cons_self ..);have hr:szC r:=fun x hx=>hl x (List.mem_cons_of_mem _ hx);have e:gr2 (c::r) m=gr2 r (if c.cut then m else mxu c.name (cst c.name c.data) m):=rfl;rw [e,List.length_cons];cases c.cut with
  | true =>
   have h2:=gr2_ok (l:=r) (m:=m) hr h;exact⟨h2.1,by have:=h2.2; simp; omega⟩
  | false =>
   have h2:=gr2_ok (l:=r) (m:=mxu c.name (cst c.name c.data) m) hr (h.mxu (by unfold cst; omega));have h3:=SfH.mxu_len c.name (cst c.name c.data) m;exact⟨h2.1,by have:=h2.2; simp; omega⟩
theorem grt_ok {s:St} {b:List UInt8} {l:List Ch} (hf : ∀ f∈s.files,f.1.size<=24/\f.2.length<=200000) (hz:szC l) (hb:b.length<=2999000:=by omega):sum2 (grt s b l)<=3000000*(s.files.length+1+l.length)/\(grt s b l).length<=s.files.length+1+l.length:=by
 have h1:=gr1_ok hf (m:=[]) (fun p hp=>by simp at hp);have h2:=h1.1.mxu (n:=nR) (c:=cst nR b) (by unfold cst; show 5+b.length+8<=3000000; omega);have h3:=SfH.mxu_len nR (cst nR b) (gr1 s.files []);have h4:=gr2_ok hz h2;have h5:=SfH.sum_bd h4.1;have h6:(gr2 l (mxu nR (cst nR b) (gr1 s.files []))).length<=s.files.length+1+l.length:=by have:=h4.2; have:=h1.2; simp at this; omega
 exact⟨Nat.le_trans h5 (Nat.mul_le_mul_left _ h6),h6⟩
structure Sx (base T S lo hi k:Nat) (w:World) (s:St):Prop where
 rx:Rx base T lo hi k w s
 sb:Row w S 83 [ptr T]
section
variable {base T S lo hi k : Nat} {w w' : World} {s s' : St}
theorem Sx.ne (h:Sx base T S lo hi k w s):S≠T:=by
 obtain⟨l,hl⟩:=h.rx.head;exact h.sb.ne_ hl (by decide)
theorem Sx.go (h:Sx base T S lo hi k w s) (hb:Below w.heap.size w w'):Sx base T S lo hi k w' s:=⟨h.rx.go hb,h.sb.below hb h.sb.lt⟩
theorem Sx.turn {k':Nat} (h:Sx base T S lo hi k w s) (hr:Rx base T lo hi k' w' s') (hf:Fq base T lo hi w w'):Sx base T S lo hi k' w' s':=⟨hr,hf.row h.sb h.ne (by decide)⟩
theorem Sx.win (h:Sx base T S lo hi k w s) (hb:Below w.heap.size w w'):Sx base T S w.heap.size w'.heap.size k w' s:=⟨h.rx.win hb,h.sb.below hb h.sb.lt⟩
theorem Sx.shut (h:Sx base T S lo hi k w s):Sx base T S 0 0 k w s:=⟨h.rx.shut,h.sb⟩
theorem Sx.more (h:Sx base T S lo hi k w s) {m:Nat} (hm:k<=m):Sx base T S lo hi m w s:=⟨h.rx.more hm,h.sb⟩
theorem rack_any (h:Sx base T S lo hi k w s):Calls Tryz.prog 49 #[ptr S] w fun e w'=>e = .returned (ptr T)/\w=w':=by
 have c0:=h.sb.cell 0;clear h;unfold ptr at *;go_enter Tryz.func49,Tryz.ntmps49;go_wp2;go_ret;exact⟨rfl,rfl⟩
theorem fits_any (h:Sx base T S lo hi k w s) (h6:k<=900) {n cp:Nat} {A:Option Addr} {l:List Ch} (hL:ChsP w base lo hi A n l) (hn:n<=1000) (hz:szC l) :
 Calls Tryz.prog 36 #[ptr S,.slice A n cp] w fun e w'=>e = .returned (.int .i64 (fitE s l))/\Below w.heap.size w w':=by
 have R0:=H_ h.rx;have HL:=H_ hL;have HZ:=H_ hz;have KR:=H_ (rack_any h);have KD:=H_ (downX h.rx);have KM:=H_ (may_any (cp:=cp) hL h.rx.bs h.rx.hs hn hz);have hbl:=bsL_len hz;have HGO:=H_ (fun hb=>grt_ok h.rx.ok.files.sz hz (b:=bsL l) hb);have hfl:=h.rx.ok.files.len;have hln:=hL.1;rw [hln] at hbl HGO;have hc:=h.rx.ok.files.cost;have hrm:=h.rx.ok.room;have HS:=H_ h.rx.low;clear h hL hz;unfold ptr at *;cases hd:s.down with
 | true =>
  have HP:=H_ (show fitE s l=5 by unfold fitE; rw [hd]; rfl);rw [hd] at KD;go_enter Tryz.func36,Tryz.ntmps36;go_wp2_with (first
   | (go_at_call 49; go_loud (refine KR.out.mono ?_; rintro e w1 ⟨rfl,rfl⟩))
   | (go_at_call 55; go_loud (refine KD.out.mono ?_; rintro e w2 ⟨rfl,rfl⟩)))
  go_ret;exact⟨by rw [HP.out]; rfl,Below.refl _ _⟩
 | false =>
  rw [hd] at KD;have HD:=H_ hd;cases hm:mayL l with
  | false =>
   have HP:=H_ (show fitE s l=1 by unfold fitE; rw [hd,hm]; rfl);rw [hm] at KM;clear hd hm;go_enter Tryz.func36,Tryz.ntmps36;go_wp2_with (first
    | (go_at_call 49; go_loud (refine KR.out.mono ?_; rintro e w1 ⟨rfl,rfl⟩))
    | (go_at_call 55; go_loud (refine KD.out.mono ?_; rintro e w2 ⟨rfl,rfl⟩))
    | (go_at_call 73; go_loud (refine KM.out.mono ?_; rintro e w3 ⟨rfl,hb3⟩; have B3:=H_ hb3; clear hb3)))
   go_ret;exact⟨by rw [HP.out]; rfl,B3.out⟩
  | true =>
   have HF:=H_ (show fitE s l=if 200000<(bsL l).length then 4 else if 40<(grt s (bsL l) l).length\/s.room<sum2 (grt s (bsL l) l) then 4 else 0 by unfold fitE; rw [hd,hm]; rfl);rw [hm] at KM;clear hd hm;go_enter Tryz.func36,Tryz.ntmps36;go_upto_region 8 with (first
    | (go_at_call 49; go_loud (refine KR.out.mono ?_; rintro e w1 ⟨rfl,rfl⟩))
    | (go_at_call 55; go_loud (refine KD.out.mono ?_; rintro e w2 ⟨rfl,rfl⟩))
    | (go_at_call 73; go_loud (refine KM.out.mono ?_; rintro e w3 ⟨rfl,hb3⟩; have B3:=H_ hb3; clear hb3)))
   have R3:=H_ (R0.out.go B3.out);have KB:=H_ (bytes_any (cp:=cp) (HL.out.keep (Kb.below B3.out R0.out.bs R0.out.hs)) R3.out.bs R3.out.hs hn HZ.out);unfold BsPost at KB;obtain⟨q,hq⟩ : ∃ q,q=(bsL l).length:=⟨_,rfl⟩;rw [<- hq] at KB hbl;have HQ:=H_ hq;clear KR KD KM hq;go_upto_region 9 with (go_at_call 22; go_loud (refine KB.out.mono ?_; rintro e w4 ⟨A4,c4,rfl,_,_,hb4⟩; have B4:=H_ (B3.out.trans (hb4.mono B3.out.size)); clear hb4))
   by_cases h2:200000<q
   · have HP:=H_ (show fitE s l=4 by rw [HF.out,if_pos (by rw [<- HQ.out]; exact h2)])
     have h2i:(200000:Int)<(q:Int):=by omega
     clear KB;go_wp2_with fail
     go_ret;exact⟨by rw [HP.out]; rfl,B4.out⟩
   · have h2i : ¬ (200000:Int)<(q:Int):=by omega
     have R4:=H_ (R0.out.go B4.out);have KG:=H_ (greatest_any (cp:=cp) (bc:=c4) (Bd':=A4) R4.out HD.out h6 (b:=bsL l) HQ.out.symm (by omega) (HL.out.keep (Kb.below B4.out R0.out.bs R0.out.hs)) hn HZ.out);obtain⟨gl,hgl⟩ : ∃ gl,gl=(grt s (bsL l) l).length:=⟨_,rfl⟩;obtain⟨gs,hgse⟩ : ∃ gs,gs=sum2 (grt s (bsL l) l):=⟨_,rfl⟩;have hgs:=HGO.out (by rw [<- HQ.out]; omega);rw [<- hgl,<- hgse] at KG hgs;have HG:=H_ (show fitE s l=if 40<gl\/s.room<gs then 4 else 0 by rw [HF.out,if_neg (by rw [<- HQ.out]; exact h2),hgl,hgse]);obtain⟨gs1,gs2⟩:=hgs;unfold ptr at KG;clear hgl hgse HF;go_upto_region 12 with (go_at_call 74; go_loud (refine KG.out.mono ?_; rintro e w5 ⟨rfl,hb5⟩; have B5:=H_ (B4.out.trans (hb5.mono B4.out.size)); clear hb5))
     have R5:=H_ (R0.out.go B5.out);have KS:=H_ (sizeX R5.out (by omega));obtain⟨cs,hcs⟩ : ∃ cs,cs=costs s.files:=⟨_,rfl⟩;rw [<- hcs] at KS hc;have HCS:=H_ hcs;have hcl:cs<=200032000:=by omega
     have hsum:IntKind.i64.wrap ((cs:Int)+((s.room:Int)-(cs:Int)))=(s.room:Int):=by
      rw [show (cs:Int)+((s.room:Int)-(cs:Int))=(s.room:Int) by omega];exact IntWalk.i64_in _ (by omega)
     unfold ptr at KS;clear hcs KG KB;by_cases h3:40<gl
     · have HP:=H_ (show fitE s l=4 by rw [HG.out,if_pos (.inl h3)])
       have h3i:(40:Int)<(gl:Int):=by omega
       go_wp2_with fail
       go_ret;exact⟨by rw [HP.out]; rfl,B5.out⟩
     · have h3i : ¬ (40:Int)<(gl:Int):=by omega
       have HP:=H_ (show fitE s l=if s.room<gs then 4 else 0 by rw [HG.out]; simp [h3]);clear HG h3;have harm:gs<=6000000000:=by omega
       by_cases h4:s.room<gs
       · have h4i:(s.room:Int)<(gs:Int):=by omega
         rw [if_pos h4] at HP;go_wp2_with (first
          | (go_at_call 75; go_loud (
             refine KS.out.mono ?_;rintro e w6 ⟨rfl,hb6⟩;have B6:=H_ (B5.out.trans (hb6.mono B5.out.size));have KO:=H_ (roomX (R0.out.go B6.out) (by omega));rw [<- HCS.out] at KO;unfold ptr at KO;clear hb6))
          | (go_at_call 76; go_loud (
             refine KO.out.mono ?_;rintro e w7 ⟨rfl,hb7⟩;have B7:=H_ (B6.out.trans (hb7.mono B6.out.size));clear hb7)))
         go_ret;exact⟨by rw [HP.out]; rfl,B7.out⟩
       · have h4i : ¬ (s.room:Int)<(gs:Int):=by omega
         rw [if_neg h4] at HP;go_wp2_with (first
          | (go_at_call 75; go_loud (
             refine KS.out.mono ?_;rintro e w6 ⟨rfl,hb6⟩;have B6:=H_ (B5.out.trans (hb6.mono B5.out.size));have KO:=H_ (roomX (R0.out.go B6.out) (by omega));rw [<- HCS.out] at KO;unfold ptr at KO;clear hb6))
          | (go_at_call 76; go_loud (
             refine KO.out.mono ?_;rintro e w7 ⟨rfl,hb7⟩;have B7:=H_ (B6.out.trans (hb7.mono B6.out.size));clear hb7)))
         go_ret;exact⟨by rw [HP.out]; rfl,B7.out⟩
end
end Go.Proofs.YtoljpfapphoflaaGreatDoor.SfO

set_option maxHeartbeats 8000000
set_option maxRecDepth 100000
namespace Go.Proofs.YtoljpfapphoflaaGreatDoor.SfP
open Go.RowKit BxD BxKit PkKit RkO RkP RkC RkD RkR RkK RkM RkN SfM SfB SfC SfD SfE SfF SfK SfL SfI SfN SfO
section
variable {base T S lo hi k : Nat} {w w' : World} {s s' : St}
theorem commit_any (h:Sx base T S lo hi k w s) {n cp:Nat} {A:Option Addr} {l:List Ch} (h6:k+n<=890) (hL:ChsP w base lo hi A n l) (hn:n<=1000) (hz:szC l) :
    Calls Tryz.prog 15 #[ptr S,.slice A n cp] w fun e w'=>e = .returned (.int .i64 (comE s l))/\Sx base T S lo hi (k+n+2) w' (comS s l)/\Fq base T lo hi w w':=by
  have H0:=H_ h;have HL:=H_ hL;have HLN:=H_ hL.1;have HZ:=H_ hz;have KF:=H_ (fits_any (cp:=cp) h (by omega) hL hn hz);clear h hL hz;obtain⟨E,hE⟩ : ∃ E,E=fitE s l:=⟨_,rfl⟩;rw [<- hE] at KF;have HE:=H_ hE;unfold ptr at *;clear hE;by_cases hE0:E=0
  case neg =>
    have hEi:(E != 0)=true:=by simpa using hE0
    have HP:=H_ (show comE s l=E/\comS s l=s by unfold comE comS; rw [<- HE.out,if_pos hE0,if_pos hE0]; exact⟨rfl,rfl⟩);clear hE0;go_enter Tryz.func15,Tryz.ntmps15;go_wp2_with (go_at_call 36; go_loud (refine KF.out.mono ?_; rintro e w1 ⟨rfl,hb1⟩; have B1:=H_ hb1; clear hb1))
    go_ret;rw [HP.out.1,HP.out.2];exact⟨rfl,(H0.out.go B1.out).more (by omega),Fq.of B1.out⟩
  subst hE0;by_cases hn0:n=0
  · subst hn0
    have HP:=H_ (show comE s l=0/\comS s l=s by unfold comE comS; rw [<- HE.out,HLN.out]; exact⟨rfl,rfl⟩);go_enter Tryz.func15,Tryz.ntmps15;go_wp2_with (go_at_call 36; go_loud (refine KF.out.mono ?_; rintro e w1 ⟨rfl,hb1⟩; have B1:=H_ hb1; clear hb1))
    go_ret;rw [HP.out.1,HP.out.2];exact⟨rfl,(H0.out.go B1.out).more (by omega),Fq.of B1.out⟩
  have hni:((n:Int)==0)=false:=by simpa using hn0
  have HC:=H_ (show (comE s l=if wrE s nR (bsL l)≠0 then wrE s nR (bsL l) else if flE (wrS s nR (bsL l))≠0 then flE (wrS s nR (bsL l)) else finE (flS (wrS s nR (bsL l))) l) /\
      comS s l=if wrE s nR (bsL l)≠0 then wrS s nR (bsL l) else if flE (wrS s nR (bsL l))≠0 then flS (wrS s nR (bsL l)) else finS (flS (wrS s nR (bsL l))) l by
    unfold comE comS;have h00 : ¬ ((0:Int)≠0):=by simp
    rw [<- HE.out,HLN.out,if_neg h00,if_neg hn0,if_neg h00,if_neg hn0];exact⟨rfl,rfl⟩)
  clear hn0;go_enter Tryz.func15,Tryz.ntmps15;go_upto_region 4 with (go_at_call 36; go_loud (refine KF.out.mono ?_; rintro e w1 ⟨rfl,hb1⟩; have B1:=H_ hb1; clear hb1))
  have S1:=H_ (H0.out.go B1.out);have L1:=H_ (HL.out.keep (Kb.below B1.out H0.out.rx.bs H0.out.rx.hs));have F1:=H_ (Fq.of (base:=base) (T:=T) (lo:=lo) (hi:=hi) B1.out);have c0:=S1.out.sb.cell 0;unfold ptr at c0;have KB:=H_ (bytes_any (w:=w1.drew) (cp:=cp) (L1.out.keep (Kb.below ((Below.refl w1.heap.size w1).drew) S1.out.rx.bs S1.out.rx.hs)) S1.out.rx.bs S1.out.rx.hs hn HZ.out);unfold BsPost at KB;obtain⟨q,hq⟩ : ∃ q,q=(bsL l).length:=⟨_,rfl⟩;rw [<- hq] at KB;have HQ:=H_ hq;obtain⟨e1,he1⟩ : ∃ e1,e1=wrE s nR (bsL l):=⟨_,rfl⟩;obtain⟨s1,hs1⟩ : ∃ s1,s1=wrS s nR (bsL l):=⟨_,rfl⟩;rw [<- he1,<- hs1] at HC;have HW:=H_ (And.intro he1 hs1);clear hq KF he1 hs1
  go_region_held3 (fun wq=>wq.cell? ⟨S,0,none⟩ = some (.pointer (some ⟨T,0,none⟩))) (with_reducible first | exact c0 | exact d2 | exact d3 | go_keep) (first
    | (go_at_call 22; go_loud (
       refine KB.out.mono ?_;rintro e w2 ⟨A2,c2,rfl,_,ho2,hb2⟩;have B2:=H_ (show Below w1.heap.size w1 w2 from ((Below.refl w1.heap.size w1).drew).trans hb2);have R2:=H_ (S1.out.go B2.out);have hby:BytesAt w2 w2.heap.size A2 q (bsL l):=ho2.bytes;have KW:=H_ (writeX (dc:=c2) R2.out.rx (by omega) nR hby lr_);rw [<- HW.out.1,<- HW.out.2] at KW;have d2:w2.cell? ⟨S,0,none⟩ = some (.pointer (some ⟨T,0,none⟩)):=R2.out.sb.cell 0;unfold ptr nR at KW;clear ho2 hb2 hby;dsimp only))
    | (go_at_call 37; go_loud (
       refine KW.out.mono ?_;rintro e w3 ⟨rfl,h2,h3⟩;have S3:=H_ (R2.out.turn h2 h3);have F3:=H_ (F1.out.trans ((Fq.of B2.out).trans h3));have d3:w3.cell? ⟨S,0,none⟩ = some (.pointer (some ⟨T,0,none⟩)):=S3.out.sb.cell 0;clear h2 h3;dsimp only)))
  rename_i hHeld;clear hHeld;clear c0 d2 d3 KB KW;by_cases hz1:e1=0
  case neg =>
    have hzi:(e1 != 0)=true:=by simpa using hz1
    have HP:=H_ (show comE s l=e1/\comS s l=s1 by rw [HC.out.1,HC.out.2,if_pos hz1,if_pos hz1]; exact⟨rfl,rfl⟩);clear hz1;go_wp2_with fail
    go_ret;rw [HP.out.1,HP.out.2];exact⟨rfl,S3.out.more (by omega),F3.out⟩
  subst hz1;have K1:=H_ (flushX S3.out.rx);have c3:=S3.out.sb.cell 0;obtain⟨e2,he2⟩ : ∃ e2,e2=flE s1:=⟨_,rfl⟩;obtain⟨s2,hs2⟩ : ∃ s2,s2=flS s1:=⟨_,rfl⟩;rw [<- he2,<- hs2] at K1 HC;unfold ptr at K1 c3;clear he2 hs2;go_upto_region 8 with (go_at_call 38; go_loud (refine K1.out.mono ?_; rintro e w4 ⟨rfl,h2,h3⟩; have S4:=H_ (S3.out.turn h2 h3); have F4:=H_ (F3.out.trans h3); clear h2 h3 c3))
  by_cases hz2:e2=0
  case neg =>
    have hzi:(e2 != 0)=true:=by simpa using hz2
    have HP:=H_ (show comE s l=e2/\comS s l=s2 by rw [HC.out.1,HC.out.2]; simp [hz2]);clear hz2;go_wp2_with fail
    go_ret;rw [HP.out.1,HP.out.2];exact⟨rfl,S4.out.more (by omega),F4.out⟩
  subst hz2;have HP:=H_ (show comE s l=finE s2 l/\comS s l=finS s2 l by rw [HC.out.1,HC.out.2]; simp);have KX:=H_ (fin_any (cp:=cp) S4.out.rx (by omega) (HL.out.keep (F4.out.kb H0.out.rx.bs H0.out.rx.hs)));have c4:=S4.out.sb.cell 0;unfold ptr at KX c4;go_wp2_with (go_at_call 39; go_loud (refine KX.out.mono ?_; rintro e w5 ⟨rfl,h2,h3⟩; have S5:=H_ (S4.out.turn h2 h3); have F5:=H_ (F4.out.trans h3); clear h2 h3 c4))
  go_ret;rw [HP.out.1,HP.out.2];exact⟨rfl,S5.out.more (by omega),F5.out⟩
end
def opE (s:St):Int:=if s.down then 5 else match rdF s nR with
  | none=>0
  | some b=>if (parse b).2≠0 then ((parse b).2:Nat) else finE s (parse b).1
def opS (s:St):St:=if s.down then s else match rdF s nR with
  | none=>s
  | some b=>if (parse b).2≠0 then s else finS s (parse b).1
theorem chs_base {w:World} {base lo hi n:Nat} {A:Option Addr} {l:List Ch} (h:ChsP w 0 lo hi A n l):ChsP w base lo hi A n l:=by
  have hp : ∀ k,Pb 0 lo hi k->Pb base lo hi k:=fun k hk=>by unfold Pb at hk ⊢; omega
  refine⟨h.1,fun hn=>?_⟩;obtain⟨ad,e,hb,hc⟩:=h.2 hn;refine⟨ad,e,hp _ hb,fun j c hj=>?_⟩;obtain⟨h0,h1,D,dc,h2,h3,h4,h5⟩:=hc j c hj;refine⟨h0,h1,D,dc,h2,h3,h4,fun hd=>?_⟩;obtain⟨ad2,e2,hb2,hc2⟩:=h5 hd;exact⟨ad2,e2,hp _ hb2,hc2⟩
theorem fq_win {base T lo hi:Nat} {a w w':World} (h0:Below a.heap.size a w) (h:Fq base T lo hi w w'):Fq base T 0 0 a w' :=
  (Fq.of h0).trans h.shut
def OpP (base T k:Nat) (w:World) (s':St) (E:Int) (e:Ending) (w':World):Prop :=
  ∃ v,e = .returned (.tuple #[v,.int .i64 E])/\Rx base T 0 0 k w' s'/\Fq base T 0 0 w w'/\(E≠0->v = .pointer none)/\(E=0->∃ S,v=ptr S/\Row w' S 83 [ptr T]/\w.heap.size<=S)
section
variable {base T k : Nat} {w w' : World} {s : St}
theorem open_any (h:Rx base T 0 0 k w s) {J:Nat} (h6:k+J<=890) (hj : ∀ b,rdF s nR=some b->b.length<=1000000000/\(parse b).1.length<=J) :
    Calls Tryz.prog 27 #[ptr T] w (OpP base T (k+J+1) w (opS s) (opE s)):=by
  have H0:=H_ h;have KD:=H_ (downX h);have KR:=H_ (readX h (by omega) nR);have HJ:=H_ hj;clear h hj;unfold ptr at *;cases hd:s.down with
  | true =>
    have HP:=H_ (show opE s=5/\opS s=s by unfold opE opS; rw [if_pos hd,if_pos hd]; exact⟨rfl,rfl⟩);rw [hd] at KD;clear hd;go_enter Tryz.func27,Tryz.ntmps27;go_wp2_with (go_at_call 55; go_loud (refine KD.out.mono ?_; rintro e w2 ⟨rfl,rfl⟩))
    refine bodyPost_ret (v:=.tuple #[.pointer none,.int .i64 5]) (by simp [results,Tryz.results27,go_sem]) rfl ?_;rw [HP.out.1,HP.out.2];exact⟨_,rfl,H0.out.more (by omega),Fq.refl _,(fun _=>rfl),fun h=>by cases h⟩
  | false =>
    rw [hd] at KD;cases hr:rdF s nR with
    | none =>
      have HP:=H_ (show opE s=0/\opS s=s by unfold opE opS; rw [if_neg (by rw [hd]; decide),if_neg (by rw [hd]; decide),hr]; exact⟨rfl,rfl⟩);rw [hr] at KR;unfold RdPost nR at KR;clear hd hr;go_enter Tryz.func27,Tryz.ntmps27
      go_wp2_with (first
        | (go_at_call 55; go_loud (refine KD.out.mono ?_; rintro e w2 ⟨rfl,rfl⟩))
        | (go_at_call 56; go_loud (refine KR.out.mono ?_; rintro e w3 ⟨A3,m3,c3,rfl,_,_,hb3⟩; have B3:=H_ hb3; clear hb3)))
      refine bodyPost_ret (v:=.tuple #[ptr w3.heap.size,.int .i64 0]) (by simp [results,Tryz.results27,go_sem,ptr]) rfl ?_;rw [HP.out.1,HP.out.2];have hb4:=B3.out.alloc B3.out.size (.cells #[.pointer (some ⟨T,0,none⟩)] 83);exact⟨_,rfl,(H0.out.go hb4).more (by omega),Fq.of hb4,(fun h=>absurd rfl h),fun _=>⟨_,rfl,heap_alloc_new w3 _,B3.out.size⟩⟩
    | some b =>
      obtain⟨hbl,hbj⟩:=HJ.out b hr
      have HPE:=H_ (show opE s=(if (parse b).2≠0 then (((parse b).2:Nat):Int) else finE s (parse b).1)/\opS s=(if (parse b).2≠0 then s else finS s (parse b).1) by
        have hnd : ¬ s.down=true:=by rw [hd]; decide
        unfold opE opS; rw [if_neg hnd,if_neg hnd,hr]; exact⟨rfl,rfl⟩)
      rw [hr] at KR;unfold RdPost nR at KR;obtain⟨er,her⟩ : ∃ er,er=(parse b).2:=⟨_,rfl⟩;obtain⟨l,hl⟩ : ∃ l,l=(parse b).1:=⟨_,rfl⟩;rw [<- her,<- hl] at HPE;rw [<- hl] at hbj;have HER:=H_ her;have HLE:=H_ hl;clear hd hr her hl;go_enter Tryz.func27,Tryz.ntmps27
      go_upto_region 7 with (first
        | (go_at_call 55; go_loud (refine KD.out.mono ?_; rintro e w2 ⟨rfl,rfl⟩))
        | (go_at_call 56; go_loud (
           refine KR.out.mono ?_;rintro e w3 ⟨A3,m3,c3,rfl,hby3,_,hb3⟩;have B3:=H_ hb3;have hm3:b.length=m3:=hby3.1;have KP:=H_ (parse_any (cp:=c3) hby3.at_ lr_ (by rw [<- hm3]; exact hbl));rw [show (some b).getD []=b from rfl] at KP;unfold PaPost at KP;rw [<- HER.out,<- HLE.out] at KP;clear hb3 hby3 hm3)))
      have R3:=H_ (H0.out.go B3.out)
      go_upto_region 8 with (go_at_call 57; go_loud (
         refine KP.out.mono ?_;rintro e w4 ⟨A4,m4,c4,rfl,hc4,hl4,hb4⟩;have R4:=H_ (R3.out.win hb4);have L4:=H_ (chs_base (base:=base) hl4);have B4:=H_ (B3.out.trans (hb4.mono B3.out.size));have HM4:=H_ hl4.1;clear hc4 hl4 hb4))
      clear KP KR KD;by_cases hz:er=0
      case neg =>
        have hzi:((er:Int) != 0)=true:=by simpa using (by omega : ¬ (er:Int)=0)
        have HP:=H_ (show opE s=(er:Int)/\opS s=s by rw [HPE.out.1,HPE.out.2,if_pos hz,if_pos hz]; exact⟨rfl,rfl⟩);have hz2:(er:Int)≠0:=by omega
        have HZ2:=H_ hz2;clear hz hz2;go_wp2_with fail
        refine bodyPost_ret (v:=.tuple #[.pointer none,.int .i64 (er:Int)]) (by simp [results,Tryz.results27,go_sem]) rfl ?_;rw [HP.out.1,HP.out.2];exact⟨_,rfl,(H0.out.go B4.out).more (by omega),Fq.of B4.out,(fun _=>rfl),fun h=>absurd h HZ2.out⟩
      subst hz;have HP:=H_ (show opE s=finE s l/\opS s=finS s l by rw [HPE.out.1,HPE.out.2]; simp);have hm4:m4<=J:=by rw [<- HM4.out]; exact hbj
      have KX:=H_ (fin_any (cp:=c4) R4.out (by omega) L4.out);obtain⟨e5,he5⟩ : ∃ e5,e5=finE s l:=⟨_,rfl⟩;obtain⟨s5,hs5⟩ : ∃ s5,s5=finS s l:=⟨_,rfl⟩;rw [<- he5,<- hs5] at KX HP;unfold ptr at KX;clear he5 hs5 HPE
      go_upto_region 11 with (go_at_call 39; go_loud (
         refine KX.out.mono ?_;rintro e w5 ⟨rfl,h2,h3⟩;have R5:=H_ h2.shut;have F5:=H_ (fq_win B4.out h3);clear h2 h3))
      by_cases hz:e5=0
      case neg =>
        have hzi:(e5 != 0)=true:=by simpa using hz
        have HZ2:=H_ hz;clear hz;go_wp2_with fail
        refine bodyPost_ret (v:=.tuple #[.pointer none,.int .i64 e5]) (by simp [results,Tryz.results27,go_sem]) rfl ?_;rw [HP.out.1,HP.out.2];exact⟨_,rfl,R5.out.more (by omega),F5.out,(fun _=>rfl),fun h=>absurd h HZ2.out⟩
      subst hz;go_wp2_with fail
      refine bodyPost_ret (v:=.tuple #[ptr w5.heap.size,.int .i64 0]) (by simp [results,Tryz.results27,go_sem,ptr]) rfl ?_;rw [HP.out.1,HP.out.2];have hb6:=below_alloc w5 (.cells #[.pointer (some ⟨T,0,none⟩)] 83);exact⟨_,rfl,(R5.out.go hb6).more (by omega),F5.out.trans (Fq.of hb6),(fun h=>absurd rfl h),fun _=>⟨_,rfl,heap_alloc_new w5 _,F5.out.size⟩⟩
end
end Go.Proofs.YtoljpfapphoflaaGreatDoor.SfP
