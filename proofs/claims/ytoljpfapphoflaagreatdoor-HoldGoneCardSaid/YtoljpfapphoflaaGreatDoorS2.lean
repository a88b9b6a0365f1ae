/-
  SfM + SfA + SfR
-/
import Derived.Test.YtoljpfapphoflaaGreatDoorJ1
import Derived.Test.YtoljpfapphoflaaGreatDoorZ8
import Derived.Lib.ConvBytes
import Derived.Test.YtoljpfapphoflaaGreatDoorS1
import Derived.Test.YtoljpfapphoflaaGreatDoorR1
import Derived.Laws.OwnMore
import Derived.Laws.ResultCell
import Derived.Deep.DeepCutAuto
set_option linter.unusedVariables false
set_option linter.unusedSimpArgs false
set_option maxRecDepth 100000
namespace Go.Proofs.YtoljpfapphoflaaGreatDoor.SfM
open Go.RowKit BxD PkKit PkA PkB PkC PkR
def MRow (w:World) (base:Nat) (v:Value) (n:Nat) (xs:List Value):Prop :=
 xs.length=n/\∃ g cur fz,v = .slice (some ⟨g,0,none⟩) n cur.size/\base<=g/\w.heap[g]? = some (.cells cur 5 fz)/\cur.size<=fz.1/\n<=cur.size/\cur.size<=maxLen/\cur.toList.take n=xs
def Ow (w:World) (base:Nat) (v:Value) (n:Nat) (xs:List Value):Prop:=w.ownsRow base 5 1 v n xs\/MRow w base v n xs
theorem store_marked (P:Program) (g o:Nat) (t:TypeId) (fz:Nat × Nat) : ∀ (vs:List Value) (i:Nat) (cur:Array Value) (w:World),w.heap[g]? = some (.cells cur t fz)->cur.size<=fz.1->o+i+vs.length<=cur.size->(∀ v∈vs,v.oneCell'=true) ->
 (storeCells ⟨g,o,none⟩ vs i).run P w = .ok () (w.setRow g (cur.toList.take (o+i)++vs++cur.toList.drop (o+i+vs.length)).toArray)
 | [],i,cur,w,hg,_,_,_=>by
  simp only [storeCells,List.append_nil,List.length_nil,Nat.add_zero,List.take_append_drop,Array.toArray_toList];rw [setRow_self w g cur t fz hg];rfl
 | v::rest,i,cur,w,hg,hfz,hl,h1=>by
  have hi:o+i<cur.size:=by simp at hl; omega
  have hadd:(⟨g,o,none⟩:Addr).add i=⟨g,o+i,none⟩:=by unfold Addr.add; split <;> simp_all
  have hcell:w.cell? ⟨g,o+i,none⟩=some cur[o+i]:=by simp [World.cell?,hg,hi]
  have hfro:w.frozen? ⟨g,o+i,none⟩=false:=by
   obtain⟨lo,hi'⟩:=fz;simp only [World.frozen?,hg,Bool.and_eq_false_iff,decide_eq_false_iff_not]
   left
   simp only at hfz;omega
  have hst:(store ((⟨g,o,none⟩:Addr).add i) v).run P w = .ok () (w.setRow g (cur.setIfInBounds (o+i) v)):=by
   rw [hadd,run_store P w _ v _ (h1 v (by simp)),hcell];simp [hfro,setCell_eq_setRow w g (o+i) cur t fz v hg]
  have ih:=store_marked P g o t fz rest (i+1) (cur.setIfInBounds (o+i) v) (w.setRow g (cur.setIfInBounds (o+i) v)) (setRow_heap w g cur _ t _ hg) (by simpa using hfz) (by simp at hl ⊢; omega) (fun x hx=>h1 x (by simp [hx]));simp only [storeCells,Sem.run_bind,hst,Result.andThen_ok,ih,setRow_setRow]
  congr 3
  have e:=list_seg_step cur.toList (o+i) v rest (by simp at hl ⊢; omega);simpa [Array.toList_setIfInBounds,Nat.add_assoc] using e
theorem run_ow {w:World} {base n m c B:Nat} {v:Value} {xs:List Value} {A:Option Addr} {l:List UInt8} (ty:TypeId) (hown:Ow w base v n xs) (hz:BytesAt w B A m l)
 (hb:n+m<=140737488355328) (hbase:base<=w.heap.size) (hm:0<m) :
 ∃ v' w',(Builtin.append_ #[37,37] ty #[v,.slice A m c]).run Tryz.prog w = .ok v' w'/\Ow w' base v' (n+m) (xs++by_ l)/\w.grownBy w' v.ownBlock /\
  (v'.ownBlock=v.ownBlock\/v'.ownBlock=some w.heap.size):=by
 rcases hown with hown | ⟨hl0,g,cur,fz,rfl,hbg,hg,hfz,hnc,hcm,htake⟩
 · obtain⟨v',w',h1,h2,h3⟩:=run_by (c:=c) ty hown hz hb hbase
   exact⟨v',w',h1,.inl h2,h3⟩
 · obtain⟨i0,hi,hz0,hz1,hz2⟩:=info_parts info5
   have hzl:=hz.1;obtain⟨ad,rfl,hlt,hc⟩:=hz.2 hm;have hnl:(by_ l).length=m:=by rw [by_length,hzl]
   have hnews : ∀ j u,(by_ l)[j]? = some u->w.cell? (ad.add j)=some u:=fun j u hu=>by
    obtain⟨b,hj,rfl⟩:=by_inv hu;exact hc _ _ hj
   have hlen:(xs++by_ l).length=n+m:=by rw [List.length_append,hl0,hnl]
   by_cases hroom:n+m<=cur.size
   · have hf:=run_firstCells_some (P:=Tryz.prog) w i0.size m ad m c (by_ l) (by rw [hnl,hz1,Nat.mul_one]) hnews
     have hst:=store_marked Tryz.prog g n 5 fz (by_ l) 0 cur w hg hfz (by rw [hnl]; omega) (by_one l);simp only [Nat.add_zero,hnl] at hst;rw [hz1] at hf;refine⟨.slice (some ⟨g,0,none⟩) (n+m) cur.size,_,by simp [Builtin.append_,run_underlying Tryz.underlying37,sizeOf,typeInfo,hi,hz1,Builtin.lenOf,hroom,hf,Addr.add_lit,hst]; rfl,.inr ⟨hlen,g,_,fz, ?_,hbg,setRow_heap w g cur _ 5 _ hg, ?_, ?_, ?_, ?_⟩,⟨rfl,rfl,rfl,by simp,fun k _ hk=>setRow_other w g k _ (fun e=>hk (by simp [Value.ownBlock,e]))⟩,.inl rfl⟩
     all_goals have hsz:((cur.toList.take n++(by_ l++cur.toList.drop (n+m))).toArray).size=cur.size:=by
                 simp only [List.size_toArray,List.length_append,List.length_take,List.length_drop,Array.length_toList,hnl];omega
     · rw [hsz]
     · rw [hsz]; exact hfz
     · rw [hsz]; exact hroom
     · rw [hsz]; exact hcm
     · show List.take (n+m) (cur.toList.take n++(by_ l++cur.toList.drop (n+m)))=_
       rw [<- List.append_assoc,htake,<- hlen];exact List.take_left
   · have holds : ∀ j u,xs[j]? = some u->w.cell? ((⟨g,0,none⟩:Addr).add j)=some u:=fun j u hu=>by
      have hadd:(⟨g,0,none⟩:Addr).add j=⟨g,j,none⟩:=by unfold Addr.add; split <;> simp_all
      rw [hadd,cell_of_row w g j cur 5 fz hg];rw [<- htake,List.getElem?_take] at hu;split at hu
      · simpa using hu
      · cases hu
     have hr:=run_append_grow (P:=Tryz.prog) w 37 ty 5 i0 (.int .u8 0) Tryz.underlying37 hi hz0 ⟨g,0,none⟩ n cur.size xs (by rw [hl0,hz1,Nat.mul_one]) holds ad m c (by_ l) (by rw [hnl,hz1,Nat.mul_one]) hnews (by omega) (by omega) (by rw [hz2]; exact growslice_fits (by omega) (by omega));refine⟨_,_,hr,.inl ⟨by rw [hlen,Nat.mul_one],.inr ⟨w.heap.size,_,_,rfl,hbase,heap_alloc_new w.drew _,grownCap_ge w _ _ _,grownCap_le_maxLen w _ _ _ (by unfold maxLen; omega), ?_, ?_⟩⟩,
      ⟨rfl,rfl,rfl,by simp,fun _ hk _=>heap_alloc_old w.drew _ hk⟩,.inr rfl⟩
     · have hge:=grownCap_ge w (n+m) cur.size 5
       have e1:(Value.int .u8 0).cells.size=1:=rfl;simp [hnl,hl0,Builtin.zeroCells,e1];omega
     · rw [Array.toList_append,Array.toList_append]
       show List.take ((n+m)*1) ((xs++by_ l)++_)=_;rw [List.take_left' (by rw [hlen,Nat.mul_one])]
section
variable {w wr w2 : World} {base n m : Nat} {v v' : Value} {l l' : List UInt8} {xs : List Value}
theorem Ow.lt (h:Ow w base v n xs) : ∀ k,v.ownBlock=some k->base<=k/\k<w.heap.size:=by
 intro k hk;rcases h with h | ⟨_,g,cur,fz,rfl,hb,hg,_⟩
 · exact h.lt k hk
 · simp [Value.ownBlock] at hk
   subst hk;exact⟨hb,(gs_ hg).1⟩
theorem Ow.kept (h:Ow w base v n xs) (hb:Below w.heap.size w w2):Ow w2 base v n xs:=by
 rcases h with h | ⟨hl,g,cur,fz,rfl,hbg,hg,rest⟩
 · exact .inl (h.kept (BxKit.grown_below hb none) (by cases hv:v.ownBlock <;> simp))
 · exact .inr ⟨hl,g,cur,fz,rfl,hbg,(hb.block g (gs_ hg).1).trans hg,rest⟩
theorem Ow.slice (h:Ow w base v n xs) : ∃ A cp,v = .slice A n cp/\n<=cp:=by
 rcases h with h | ⟨_,g,cur,fz,rfl,_,_,_,hnc,_⟩
 · exact own_slice h
 · exact⟨_,_,rfl,hnc⟩
structure OO (base:Nat) (w wr:World) (n:Nat) (v:Value) (l:List UInt8):Prop where
 own:Ow wr base v n (by_ l)
 bel:Below base w wr
 bas:base<=w.heap.size
theorem OO.below (h:OO base w wr n v l) (hb:Below wr.heap.size wr w2):OO base w w2 n v l :=
 ⟨Ow.kept h.own hb,h.bel.trans (hb.mono (Nat.le_trans h.bas h.bel.size)),h.bas⟩
theorem OO.alloc (h:OO base w wr n v l) (o:Obj):OO base w (wr.alloc o) n v l:=h.below ((Below.refl _ _).alloc lr_ o)
end
structure OM (w0:World) (v0:Value) (wr:World) (n:Nat) (v:Value) (l:List UInt8):Prop where
 own:Ow wr 0 v n (by_ l)
 fr:w0.grownBy wr v0.ownBlock
 at_ : ∀ k,v.ownBlock=some k->v0.ownBlock=some k\/w0.heap.size<=k
section
variable {w w0 wr w2 : World} {v0 v v' : Value} {n n' m base : Nat} {l l' : List UInt8} {xs : List Value}
theorem Ow.down (h:Ow w base v n xs):Ow w 0 v n xs:=by
 rcases h with h | ⟨hl,g,cur,fz,hv,hb,r⟩
 · refine .inl ⟨h.1, ?_⟩
   rcases h.2 with hn | ⟨g,cap,cur,hv,hbg,r⟩
   · exact .inl hn
   · exact .inr ⟨g,cap,cur,hv,Nat.zero_le _,r⟩
 · exact .inr ⟨hl,g,cur,fz,hv,Nat.zero_le _,r⟩
theorem Ow.up (h:Ow w 0 v n xs) (hv : ∀ k,v.ownBlock=some k->base<=k):Ow w base v n xs:=by
 rcases h with h | ⟨hl,g,cur,fz,rfl,hb,r⟩
 · refine .inl ⟨h.1, ?_⟩
   rcases h.2 with hn | ⟨g,cap,cur,rfl,hbg,r⟩
   · exact .inl hn
   · exact .inr ⟨g,cap,cur,rfl,hv g rfl,r⟩
 · exact .inr ⟨hl,g,cur,fz,rfl,hv g rfl,r⟩
theorem OM.start (h:Ow w base v n (by_ l)):OM w v w n v l:=⟨h.down,World.grownBy.refl _ _,fun k hk=>.inl hk⟩
theorem OM.go (h:OM w0 v0 wr n v l) (hb:Below wr.heap.size wr w2):OM w0 v0 w2 n v l :=
 ⟨h.own.kept hb,⟨hb.os.trans h.fr.os,hb.tape.trans h.fr.tape,hb.output.trans h.fr.output,Nat.le_trans h.fr.size hb.size,fun k hk hr=>(hb.block k (Nat.lt_of_lt_of_le hk h.fr.size)).trans (h.fr.block k hk hr)⟩,h.at_⟩
theorem OM.alloc (h:OM w0 v0 wr n v l) (o:Obj):OM w0 v0 (wr.alloc o) n v l:=h.go ((Below.refl _ _).alloc lr_ o)
theorem OM.last (h:OM w0 v0 wr n v l) (hg:wr.grownBy w2 v.ownBlock):w0.grownBy w2 v0.ownBlock:=by
 refine⟨hg.os.trans h.fr.os,hg.tape.trans h.fr.tape,hg.output.trans h.fr.output,Nat.le_trans h.fr.size hg.size,fun k hk hr=>?_⟩;refine (hg.block k (Nat.lt_of_lt_of_le hk h.fr.size) (fun e=>?_)).trans (h.fr.block k hk hr);rcases h.at_ k e.symm with h1 | h1
 · exact hr h1.symm
 · omega
theorem OM.app (h:OM w0 v0 wr n v l) (hown:Ow w2 0 v' m (by_ l')) (hg:wr.grownBy w2 v.ownBlock) (hat:v'.ownBlock=v.ownBlock\/v'.ownBlock=some wr.heap.size):OM w0 v0 w2 m v' l':=by
 refine⟨hown,h.last hg,fun k hk=>?_⟩;rcases hat with h1 | h1
 · exact h.at_ k (h1.symm.trans hk)
 · rw [h1] at hk
   injection hk with hk;exact .inr (by rw [<- hk]; exact h.fr.size)
theorem OM.trans (h:OM w0 v0 wr n v l) (h2:OM wr v w2 n' v' l'):OM w0 v0 w2 n' v' l':=by
 refine⟨h2.own,h.last h2.fr,fun k hk=>?_⟩;rcases h2.at_ k hk with e | e
 · exact h.at_ k e
 · exact .inr (Nat.le_trans h.fr.size e)
theorem OM.below (h:OM w v wr n v' l) (hv : ∀ k,v.ownBlock=some k->base<=k) (hb:base<=w.heap.size):Below base w wr:=(Below.refl base w).grown h.fr hb hv
theorem OM.oo (h:OM w v wr n v' l) (hv : ∀ k,v.ownBlock=some k->base<=k) (hb:base<=w.heap.size):OO base w wr n v' l :=
 ⟨h.own.up (fun k hk=>by rcases h.at_ k hk with e | e; exact hv k e; omega),h.below hv hb,hb⟩
theorem OO.trans (h1:OO base w0 wr n v l) (h2:OO base wr w2 n' v' l'):OO base w0 w2 n' v' l':=⟨h2.own,h1.bel.trans h2.bel,h1.bas⟩
theorem Ow.bytes {A:Option Addr} {c:Nat} (h:Ow w base (.slice A n c) n (by_ l)):BytesAt w w.heap.size A n l:=by
 rcases h with h | ⟨hl,g,cur,fz,hv,hb,hg,hfz,hnc,hcm,ht⟩
 · exact bytesAt_own h
 · injection hv with e1 e2 e3
   subst e1;refine⟨by rw [by_length] at hl; exact hl,fun _=>⟨_,rfl,(gs_ hg).1,fun j c hj=>?_⟩⟩;have hadd:(⟨g,0,none⟩:Addr).add j=⟨g,j,none⟩:=by unfold Addr.add; split <;> simp_all
   rw [hadd,cell_of_row w g j cur 5 fz hg];have h2:=by_get hj;rw [<- ht,List.getElem?_take] at h2;split at h2
   · simpa using h2
   · cases h2
theorem OO.om (h1:OO base w0 wr n v l) (h2:OM wr v w2 n' v' l'):OO base w0 w2 n' v' l' :=
 h1.trans (h2.oo (fun g e=>(h1.own.lt g e).1) (Nat.le_trans h1.bas h1.bel.size))
end
theorem wpList_ow {w:World} {base n m c B:Nat} {v:Value} {xs:List Value} {A:Option Addr} {l:List UInt8} {ops:Array Oper} {rest:List Oper} {o:Oper} {a:Act} {Q:Exit->Act->World->Prop} (hgd:o.guard=none) (s x:Operand)
 (ho:o.op = .call { callee:=.builtin .append,args:=#[s,x],argTypes:=#[37,37] }) (hs:a.eval s=v) (hx:a.eval x = .slice A m c) (hown:Ow w base v n xs) (hz:BytesAt w B A m l)
 (hb:n+m<=140737488355328) (hbase:base<=w.heap.size) (hm:0<m)
 (h : ∀ v' w',Ow w' base v' (n+m) (xs++by_ l)->w.grownBy w' v.ownBlock->(v'.ownBlock=v.ownBlock\/v'.ownBlock=some w.heap.size)->wpList Tryz.prog ops Q rest (a.put o.dst v') w'):wpList Tryz.prog ops Q (o::rest) a w :=
 wpList_plain hgd fun K hK=>by
  obtain⟨v',w',hrun,h2,h3,h4⟩:=run_ow (c:=c) o.type hown hz hb hbase hm;unfold Oper.wp execOp;simp only [ho,resolve,invoke,builtin,Sem.run_bind,Sem.run_pure,Result.andThen_ok,List.map_toArray,List.map_cons,List.map_nil,hs,hx,hrun];exact hK _ _ (h v' w' h2 h3 h4)
end Go.Proofs.YtoljpfapphoflaaGreatDoor.SfM

set_option maxHeartbeats 4000000
set_option maxRecDepth 100000
namespace Go.Proofs.YtoljpfapphoflaaGreatDoor.SfA
open Go.RowKit BxD PkKit PkA PkB PkC PkR SfM SfB
open BxKit (RowAt IntsAt StrsAt)
section
variable {w0 wr : World} {v0 v : Value} {n : Nat} {l : List UInt8}
theorem ints_kept {A:Option Addr} {m B:Nat} {zs:List Int} (h:OM w0 v0 wr n v l) (hz:IntsAt w0 B A m zs) (hB:B<=w0.heap.size) (hne : ∀ ad,A=some ad->v0.ownBlock≠some ad.block) {k:Nat} (hk:k<m) :
 ∃ ad x,A=some ad/\zs[k]? = some x/\wr.cell? (ad.add k)=some (.int .i64 x):=by
 obtain⟨ad,x,e,hlt,hx,hc⟩:=hz.get hk;refine⟨ad,x,e,hx, ?_⟩;rw [Nat.mul_one] at hc;refine (World.cell?_of_block ?_).trans hc;rw [add_block];exact h.fr.block _ (by omega) (fun e2=>hne ad e e2.symm)
end
theorem nil_bytes (w:World) (B:Nat):BytesAt w B none 0 []:=⟨rfl,fun h=>absurd h (Nat.lt_irrefl 0)⟩
theorem ints_one (w:World) (a:Int):IntsAt (w.alloc (.cells #[.int .i64 a] 3)) (w.heap.size+1) (some ⟨w.heap.size,0,none⟩) 1 [a]:=by
 refine⟨rfl,by decide,fun _=>⟨_,rfl,Nat.lt_succ_self _,fun j x hj=>?_⟩⟩;unfold BxKit.intC;rw [Nat.mul_one,RkR.cell_new]
 match j,hj with
 | 0,hj=>simp at hj; subst hj; rfl
theorem nums_any {n m cp B base:Nat} {w:World} {v:Value} {l:List UInt8} {A:Option Addr} {zs:List Int} (hO:Ow w base v n (by_ l)) (hz:IntsAt w B A m zs) (hB:B<=w.heap.size) (hne:0<m->∀ ad,A=some ad->v.ownBlock≠some ad.block) (hn:n+6*m+64<=140737488355328) :
 Calls Tryz.prog 97 #[v,.slice A m cp] w fun e w'=>∃ v',e = .returned v'/\OM w v w' (n+(nums zs).length) v' (l++nums zs):=by
 have hmax:=hz.max;have H0:=H_ (OM.start hO);have HZ:=H_ hz;have HNE:=H_ hne;clear hO hz hne;go_enter Tryz.func97,Tryz.ntmps97;go_wp2_with fail
 go_loopw [0,9] (fun s0 s9 wr=>∃ (v':Value) (k q:Nat),s0=v'/\k<=m/\s9 = .int .i64 k/\q<=6*k/\Hid (q=(nums (zs.take k)).length)/\Hid (OM w v wr (n+q) v' (l++nums (zs.take k)))) (fun _ s9 _=>m-(intOf s9).toNat)
 case atStart=>exact⟨v,0,0,rfl,Nat.zero_le _,rfl,Nat.zero_le _,rfl,by have:=H0.out; simpa [nums,Hid] using this⟩
 case round =>
  obtain⟨v',k,q,rfl,hk,rfl,hq,HQ,HO⟩:=hrel;obtain⟨A1,c1,rfl,hc1⟩:=Ow.slice HO.out.own;by_cases hlt:k<m
  · obtain⟨ad,x,rfl,e1,q1⟩:=ints_kept HO.out HZ.out hB (HNE.out (by omega)) hlt
    have KF:=H_ (number_any (cp:=0) (nil_bytes wr wr.heap.size) lr_ x (by decide));have hsn:=nums_snoc e1;have hul:=uv_len (cl_le x);have hup:=Lib.uvarint_pos (cl x);obtain⟨U,hU⟩ : ∃ U,U=(Lib.uvarint (cl x)).length:=⟨_,rfl⟩;rw [<- hU] at hul hup;have HSN:=H_ hsn;have HU:=H_ hU;clear e1 hsn hU;go_wp2_with (first
     | (go_at_call 135; go_loud (
        refine KF.out.mono ?_;rintro e w1 ⟨v1,rfl,O1⟩;rw [List.nil_append,<- HU.out] at O1;obtain⟨A2,c2,rfl,hc2⟩:=own_slice O1.own;have O1:=H_ O1;have G1:=H_ (HO.out.go O1.out.bel);clear q1))
     | (at_builtin; go_loud (
        refine wpList_ow rfl _ _ rfl rfl rfl G1.out.own O1.out.at_ (by omega) (Nat.zero_le _) hup ?_;intro v3 w3 hown3 hg3 hat3;have G3:=H_ (G1.out.app (m:=n+(q+U)) (l':=l++nums (zs.take (k+1))) (by rw [HSN.out,<- List.append_assoc,by_append,<- Nat.add_assoc]; exact hown3) hg3 hat3);have HQ3:=H_ (show q+U=(nums (zs.take (k+1))).length by rw [HSN.out,List.length_append,<- HQ.out,<- HU.out]);clear hown3 hg3 hat3)))
    go_roundw
    case rel=>exact⟨v3,k+1,q+U,rfl,by omega,by go_num,by omega,HQ3,G3⟩
    case measure=>simp [intOf]; omega
  · obtain rfl:m=k:=by omega
    have hqq:zs.take m=zs:=List.take_of_length_le (by rw [HZ.out.len]; omega);have ho:=HO.out;have hq2:=HQ.out;rw [hqq] at ho hq2;rw [hq2] at ho;have HO2:=H_ ho;clear ho HO hqq;go_wp2_with fail
    go_ret;exact⟨_,rfl,by rw [<- hq2]; rw [<- hq2] at HO2; exact HO2.out⟩
theorem text_om {n base:Nat} {w:World} {v:Value} {l:List UInt8} (hO:Ow w base v n (by_ l)) (s:ByteArray) (hs:s.size<=1099511627776) (hn:n<=1099511627776) :
 Calls Tryz.prog 96 #[v,.string s] w fun e w'=>∃ v',e = .returned v'/\OM w v w' (n+(tx s).length) v' (l++tx s):=by
 have H0:=H_ (OM.start hO);obtain⟨A0,c0,rfl,hc0⟩:=hO.slice;have KT:=H_ (text_any (cp:=0) (nil_bytes w w.heap.size) lr_ s hs (by decide));have hup:0<(tx s).length:=by unfold tx; rw [List.length_append]; have:=Lib.uvarint_pos s.size; omega
 have hul:(tx s).length<=6+1099511627776:=by
  have h1:=uv_len hs;have h2:s.data.toList.length=s.size:=by rw [Array.length_toList]; rfl
  unfold tx;rw [List.length_append];omega
 obtain⟨T,hT⟩ : ∃ T,T=(tx s).length:=⟨_,rfl⟩;rw [<- hT] at hup hul;rw [<- hT];have HT:=H_ hT;clear hO hT;go_enter Tryz.func96,Tryz.ntmps96;go_wp2_with (first
  | (go_at_call 134; go_loud (
     refine KT.out.mono ?_;rintro e w1 ⟨v1,rfl,O1⟩;rw [List.nil_append,<- HT.out] at O1;obtain⟨A2,c2,rfl,hc2⟩:=own_slice O1.own;have O1:=H_ O1;have G1:=H_ (H0.out.go O1.out.bel)))
  | (at_builtin; go_loud (
     refine wpList_ow rfl _ _ rfl rfl rfl G1.out.own O1.out.at_ (by omega) (Nat.zero_le _) hup ?_;intro v3 w3 hown3 hg3 hat3;have G3:=H_ (G1.out.app (m:=n+T) (l':=l++tx s) (by rw [by_append]; exact hown3) hg3 hat3);clear hown3 hg3 hat3)))
 go_ret;exact⟨v3,rfl,G3.out⟩
end Go.Proofs.YtoljpfapphoflaaGreatDoor.SfA

set_option maxHeartbeats 1000000
set_option maxRecDepth 100000
namespace Go.Proofs.YtoljpfapphoflaaGreatDoor.SfR
open Go.RowKit BxD PkKit PkD PkF SfB SfA
def Rd1 (w:World) (T:Nat) (x:Value) (s:Sr) (e:Ending) (w':World):Prop:=e = .returned x/\RD w' T s.1 s.2.1/\w.grownBy w' (some T)
theorem text_all {w:World} {T:Nat} {s:Sr} (h:RD w T s.1 s.2.1) (m:Int):Calls Tryz.prog 123 #[ptr T,.int .i64 m] w (Rd1 w T (.string (txtS m s).1) (txtS m s).2):=by
 obtain⟨l,er,ov⟩:=s;unfold txtS;by_cases h0:er=0
 · subst h0
   rw [if_neg (by simp)];refine (text_any h m).mono ?_;rintro e w' ⟨rfl,h1,h2⟩;exact⟨rfl,h1,h2⟩
 · rw [if_pos h0]
   refine (text_bad h h0 m).mono ?_;rintro e w' ⟨rfl,rfl⟩;exact⟨rfl,h,World.grownBy.refl _ _⟩
theorem txt_ov (m:Int) (s:Sr):(txtS m s).2.2.2=s.2.2:=by unfold txtS; split <;> rfl
structure Fr2 (R T:Nat) (w w':World):Prop where
 os:w'.os=w.os
 tape:w'.tape=w.tape
 output:w'.output=w.output
 size:w.heap.size<=w'.heap.size
 block : ∀ k,k<w.heap.size->k≠R->k≠T->w'.heap[k]? = w.heap[k]?
section
variable {R T : Nat} {w w' w2 : World}
theorem Fr2.refl (R T:Nat) (w:World):Fr2 R T w w:=⟨rfl,rfl,rfl,Nat.le_refl _,fun _ _ _ _=>rfl⟩
theorem Fr2.trans (h:Fr2 R T w w') (k:Fr2 R T w' w2):Fr2 R T w w2 :=
 ⟨k.os.trans h.os,k.tape.trans h.tape,k.output.trans h.output,Nat.le_trans h.size k.size,fun i hi h1 h2=>(k.block i (Nat.lt_of_lt_of_le hi h.size) h1 h2).trans (h.block i hi h1 h2)⟩
theorem Fr2.grown (h:w.grownBy w' (some T)) (R:Nat):Fr2 R T w w':=⟨h.os,h.tape,h.output,h.size,fun k hk _ h2=>h.block k hk (fun e=>h2 (Option.some.inj e))⟩
theorem Fr2.below (h:Below w.heap.size w w') (R T:Nat):Fr2 R T w w':=⟨h.os,h.tape,h.output,h.size,fun k hk _ _=>h.block k hk⟩
theorem Fr2.alloc (h:Fr2 R T w w') (o:Obj):Fr2 R T w (w'.alloc o):=h.trans (Fr2.below ((Below.refl _ _).alloc lr_ o) R T)
theorem Fr2.set (h:Fr2 R T w w') {P i:Nat} (hP:w.heap.size<=P) (v:Value):Fr2 R T w (w'.setCell ⟨P,i,none⟩ v) :=
 ⟨h.os,h.tape,h.output,by have:=h.size; simpa [World.setCell] using this,fun k hk h1 h2=>(Below.heap_setCell _ _ _ _ (by show k≠P; omega)).trans (h.block k hk h1 h2)⟩
theorem Fr2.setR (h:Fr2 R T w w') (i:Nat) (v:Value):Fr2 R T w (w'.setCell ⟨R,i,none⟩ v) :=
 ⟨h.os,h.tape,h.output,by have:=h.size; simpa [World.setCell] using this,fun k hk h1 h2=>(Below.heap_setCell _ _ _ _ (by show k≠R; exact h1)).trans (h.block k hk h1 h2)⟩
theorem Fr2.to (h:Fr2 R T w w') {base:Nat} (hb:base<=w.heap.size) (hR:base<=R) (hT:base<=T):Below base w w':=⟨h.os,h.tape,h.output,h.size,fun k hk=>h.block k (by omega) (by omega) (by omega)⟩
end
theorem rd_stay {w w':World} {R T er:Nat} {l:List UInt8} {cur:Array Value} {ty:TypeId} {fz:Nat × Nat} (h:RD w T l er) (hb:w.heap[R]? = some (.cells cur ty fz)) (hnb : ∀ (k:Nat) (c:Int),cur[k]?≠some (.int .u8 c)) (hne:R≠T) (hk : ∀ k,k≠R->w'.heap[k]? = w.heap[k]?):RD w' T l er:=by
 obtain⟨A,n,cp,hh,hz,hc,hn⟩:=h;refine⟨A,n,cp,(hk T (fun e=>hne e.symm)).trans hh,⟨hz.1,fun h0=>?_⟩,hc,hn⟩;obtain⟨ad,e,hlt,hcell⟩:=hz.2 h0;have hadR:ad.block≠R:=fun e2=>by
  have hl0:0<l.length:=by rw [hz.1]; exact h0
  have h1:=hcell 0 _ (List.getElem?_eq_getElem hl0);have hbk:(ad.add 0).block=R:=by rw [add_block]; exact e2
  unfold World.cell? at h1;rw [hbk,hb] at h1;simp only at h1;split at h1
  · cases h1
  · exact hnb _ _ h1
 refine⟨ad,e,hlt,fun j c hj=>(World.cell?_of_block ?_).trans (hcell j c hj)⟩;exact hk _ (by rw [add_block]; exact hadR)
structure PRd (w:World) (R T:Nat) (s:Sr):Prop where
 blk:w.heap[R]? = some (.cells #[ptr T,.bool s.2.2] 135 (0,0))
 rd:RD w T s.1 s.2.1
 ne:R≠T
theorem no_bytes {p:Option Addr} {o:Bool} (k:Nat) (x:Int):(#[.pointer p,.bool o]:Array Value)[k]?≠some (.int .u8 x):=by
 match k with
 | 0=>simp
 | 1=>simp
 | k+2=>simp
section
variable {R T : Nat} {w w' w2 : World} {s s' : Sr}
theorem PRd.lt (h:PRd w R T s):R<w.heap.size:=(gs_ h.blk).1
theorem PRd.cells (h:PRd w R T s):w.cell? ⟨R,0,none⟩ = some (ptr T)/\w.cell? ⟨R,1,none⟩ = some (.bool s.2.2)/\w.frozen? ⟨R,1,none⟩ = false:=by
 refine⟨?_, ?_, ?_⟩
 · rw [cell_of_row w R 0 _ _ _ h.blk]; rfl
 · rw [cell_of_row w R 1 _ _ _ h.blk]; rfl
 · simp [World.frozen?,h.blk]
theorem PRd.go (h:PRd w R T s) (hb:Below w.heap.size w w'):PRd w' R T s:=⟨(hb.block R h.lt).trans h.blk,h.rd.below hb h.rd.lt,h.ne⟩
theorem PRd.alloc (h:PRd w R T s) (o:Obj):PRd (w.alloc o) R T s:=h.go ((Below.refl _ _).alloc lr_ o)
theorem PRd.step (h:PRd w R T s) (hr:RD w' T s'.1 s'.2.1) (hg:w.grownBy w' (some T)) (ho:s'.2.2=s.2.2):PRd w' R T s' :=
 ⟨by rw [ho]; exact (hg.block R h.lt (fun e=>h.ne (Option.some.inj e))).trans h.blk,hr,h.ne⟩
theorem PRd.set (h:PRd w R T s) {P i:Nat} (h1:P≠R) (h2:T<P) (v:Value):PRd (w.setCell ⟨P,i,none⟩ v) R T s:=by
 refine⟨(Below.heap_setCell _ _ _ _ (by show R≠P; exact h1.symm)).trans h.blk, ?_,h.ne⟩;exact h.rd.below (B:=T+1) ((Below.refl _ _).setCell (by show T+1<=P; omega) _) (Nat.lt_succ_self _)
theorem PRd.over {l:List UInt8} {er:Nat} {ov:Bool} (h:PRd w R T (l,er,ov)):PRd (w.setCell ⟨R,1,none⟩ (.bool true)) R T (l,er,true):=by
 refine⟨?_,rd_stay h.rd h.blk no_bytes h.ne fun k hk=>Below.heap_setCell _ _ _ _ hk,h.ne⟩;have:=h.blk;simp [World.setCell,Array.getElem?_modify,this]
end
def Pq (w:World) (R T:Nat) (x:Value) (s:Sr) (e:Ending) (w':World):Prop:=e = .returned x/\PRd w' R T s/\Fr2 R T w w'
theorem err_p {w:World} {R T:Nat} {s:Sr} (h:PRd w R T s):Calls Tryz.prog 90 #[ptr R] w fun e w'=>e = .returned (.int .i64 (firstS s:Nat))/\w=w':=by
 obtain⟨l,er,ov⟩:=s;obtain⟨c0,c1,f1⟩:=h.cells;have K:=H_ (err_any h.rd);clear h;cases ov with
 | true =>
  go_enter Tryz.func90,Tryz.ntmps90;go_wp2_with fail
  go_ret;exact⟨rfl,rfl⟩
 | false =>
  go_enter Tryz.func90,Tryz.ntmps90;go_wp2_with (go_at_call 125; go_loud (
   refine K.out.mono ?_;rintro e w1 ⟨rfl,rfl⟩))
  go_ret;exact⟨rfl,rfl⟩
def rfS (s:Sr):Sr:=if firstS s=0 then (s.1,s.2.1,true) else s
theorem refuse_p {w:World} {R T:Nat} {s:Sr} (h:PRd w R T s):Calls Tryz.prog 124 #[ptr R] w (Pq w R T (.tuple #[]) (rfS s)):=by
 obtain⟨c0,c1,f1⟩:=h.cells;have K:=H_ (err_p h);have H:=H_ h;unfold rfS;clear h;obtain⟨fs,hfs⟩ : ∃ fs,fs=firstS s:=⟨_,rfl⟩;rw [<- hfs] at K ⊢;clear hfs;by_cases h0:fs=0
 · subst h0
   rw [if_pos rfl];go_enter Tryz.func124,Tryz.ntmps124;go_wp2_with (go_at_call 90; go_loud (
    refine K.out.mono ?_;rintro e w1 ⟨rfl,rfl⟩))
   go_end0
   exact⟨rfl,PRd.over H.out,(Fr2.refl _ _ _).setR 1 _⟩
 · rw [if_neg h0]
   have h1:=ne_int h0;have h2:((fs:Int)==0)=false:=by simpa using h0
   go_enter Tryz.func124,Tryz.ntmps124;go_wp2_with (go_at_call 90; go_loud (
    refine K.out.mono ?_;rintro e w1 ⟨rfl,rfl⟩))
   go_end0
   exact⟨rfl,H.out,Fr2.refl _ _ _⟩
theorem rf_true {s:Sr} (h:s.2.1=0):rfS s=(s.1,s.2.1,true):=by
 obtain⟨l,er,ov⟩:=s;simp only at h;subst h;unfold rfS firstS;cases ov <;> simp
theorem upto_p {w:World} {R T m n:Nat} {s:Sr} (h:PRd w R T s) (he:s.2.1=0\/n<=m):Calls Tryz.prog 154 #[ptr R,.int .i64 (m:Nat),.int .i64 (n:Nat)] w (Pq w R T (.int .i64 ((if m<n then 0 else n:Nat):Int)) (if m<n then (s.1,s.2.1,true) else s)):=by
 have K:=H_ (refuse_p h);have H:=H_ h;clear h;by_cases hmn:m<n
 · have K2:=K.out
   rw [rf_true (by omega)] at K2;have K2:=H_ K2;have hmn2:(m:Int)<(n:Int):=by omega
   rw [if_pos hmn,if_pos hmn];clear K;go_enter Tryz.func154,Tryz.ntmps154;go_wp2_with (go_at_call 124; go_loud (
    refine K2.out.mono ?_;rintro e w1 ⟨rfl,h1,f1⟩;have H1:=H_ h1;have F1:=H_ f1;clear h1 f1))
   go_ret;exact⟨rfl,H1.out,F1.out⟩
 · have hmn2 : ¬ (m:Int)<(n:Int):=by omega
   rw [if_neg hmn,if_neg hmn];clear K;go_enter Tryz.func154,Tryz.ntmps154;go_wp2_with fail
   go_ret;exact⟨rfl,H.out,Fr2.refl _ _ _⟩
theorem numv_all {w:World} {T:Nat} {s:Sr} (h:RD w T s.1 s.2.1):Calls Tryz.prog 155 #[ptr T] w (Rd1 w T (.int .i64 ((numV s).1:Nat)) (numV s).2):=by
 obtain⟨l,er,ov⟩:=s;unfold numV;by_cases h0:er=0
 · subst h0
   rw [if_neg (by simp)];refine (num_any h).mono ?_;rintro e w' ⟨rfl,h1,h2⟩;exact⟨rfl,h1,h2⟩
 · rw [if_pos h0]
   refine (num_bad h h0).mono ?_;rintro e w' ⟨rfl,rfl⟩;exact⟨rfl,h,World.grownBy.refl _ _⟩
theorem numv_ov (s:Sr):(numV s).2.2.2=s.2.2:=by unfold numV; split <;> rfl
theorem numv_er (s:Sr):(numV s).2.2.1=0\/(numV s).1=0:=by
 unfold numV;split
 · exact .inr rfl
 · by_cases hp:(ps s.1).2.2=0
   · exact .inl hp
   · rcases ps_err hp with e | e <;> exact .inr (by rw [e])
theorem nt_eq (m:Nat) (s:Sr):ntS m s=(if m<(numV s).1 then 0 else (numV s).1,if m<(numV s).1 then ((numV s).2.1,(numV s).2.2.1,true) else (numV s).2):=by
 unfold ntS;split <;> rfl
theorem number_p {w:World} {R T:Nat} {s:Sr} (h:PRd w R T s) (m:Nat):Calls Tryz.prog 120 #[ptr R,.int .i64 (m:Nat)] w (Pq w R T (.int .i64 ((ntS m s).1:Nat)) (ntS m s).2):=by
 obtain⟨c0,c1,f1⟩:=h.cells;have KF:=H_ (numv_all h.rd);have H:=H_ h;have hov:=numv_ov s;have her:=numv_er s;rw [nt_eq];obtain⟨x,hx⟩ : ∃ x,x=(numV s).1:=⟨_,rfl⟩;obtain⟨s',hs'⟩ : ∃ s',s'=(numV s).2:=⟨_,rfl⟩;rw [<- hx,<- hs'] at KF;rw [<- hs'] at hov;rw [<- hx,<- hs'] at her;rw [<- hx,<- hs'];have HOV:=H_ hov;have HER:=H_ (show s'.2.1=0\/x<=m by omega);obtain⟨y,hy⟩ : ∃ y,y=if m<x then 0 else x:=⟨_,rfl⟩;obtain⟨s2,hs2⟩ : ∃ s2,s2=if m<x then (s'.1,s'.2.1,true) else s':=⟨_,rfl⟩;rw [<- hy,<- hs2];have HY:=H_ hy;have HS:=H_ hs2;clear h hx hs' hov her hy hs2;go_enter Tryz.func120,Tryz.ntmps120;go_wp2_with (first
  | (go_at_call 155; go_loud (
     refine KF.out.mono ?_;rintro e w1 ⟨rfl,hr,hg⟩;have H1:=H_ (H.out.step hr hg HOV.out);have HG:=H_ hg;have ku:=upto_p (n:=x) (m:=m) H1.out HER.out;rw [<- HY.out,<- HS.out] at ku;have KU:=H_ ku;clear hr hg c0 c1 f1 ku))
  | (go_at_call 154; go_loud (
     refine KU.out.mono ?_;rintro e w2 ⟨rfl,h2,f2⟩;have H2:=H_ h2;have F2:=H_ ((Fr2.grown HG.out R).trans f2);clear h2 f2)))
 go_ret;exact⟨rfl,H2.out,F2.out⟩
theorem text_p {w:World} {R T:Nat} {s:Sr} (h:PRd w R T s) (m:Int):Calls Tryz.prog 123 #[ptr T,.int .i64 m] w (Pq w R T (.string (txtS m s).1) (txtS m s).2):=by
 refine (text_all h.rd m).mono ?_;rintro e w' ⟨rfl,hr,hg⟩;exact⟨rfl,h.step hr hg (txt_ov m s),Fr2.grown hg R⟩
theorem left_p {w:World} {R T:Nat} {s:Sr} (h:PRd w R T s):Calls Tryz.prog 88 #[ptr T] w fun e w'=>e = .returned (.int .i64 (s.1.length:Nat))/\w=w':=left_any h.rd
def NewQ (w:World) (l:List UInt8) (e:Ending) (w':World):Prop:=∃ R T,e = .returned (ptr R)/\w.heap.size<=R/\w.heap.size<=T/\PRd w' R T (l,0,false)/\Below w.heap.size w w'
theorem new_p {w:World} {B n cp:Nat} {A:Option Addr} {l:List UInt8} (h:BytesAt w B A n l) (hB:B<=w.heap.size) (hn:n<=140737488355328):Calls Tryz.prog 87 #[.slice A n cp] w (NewQ w l):=by
 have KN:=H_ (new_any (cp:=cp) h hB hn);clear h;go_enter Tryz.func87,Tryz.ntmps87;go_wp2_with (go_at_call 119; go_loud (
  refine KN.out.mono ?_;rintro e w1 ⟨T,rfl,hT,hrd,hb⟩;have HR:=H_ hrd;have HB:=H_ hb;clear hrd hb))
 go_ret;have hs:=HB.out.size;have hTl:=HR.out.lt;refine⟨w1.heap.size,T,rfl,by omega,hT,⟨heap_alloc_new w1 _,HR.out.below ((Below.refl w1.heap.size w1).alloc lr_ _) hTl,by omega⟩,HB.out.alloc hs _⟩
end Go.Proofs.YtoljpfapphoflaaGreatDoor.SfR
