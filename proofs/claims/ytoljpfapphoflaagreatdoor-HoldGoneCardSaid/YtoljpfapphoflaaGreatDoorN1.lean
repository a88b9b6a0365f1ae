/-
  OlOm + OlOq
-/
import Derived.Test.YtoljpfapphoflaaGreatDoorJ1
import Derived.Test.YtoljpfapphoflaaGreatDoorZ8
import Derived.Test.YtoljpfapphoflaaGreatDoorN4
import Derived.Lib.ConvBytes
import Derived.Lib.AtoiErrMem
set_option linter.unusedVariables false
set_option linter.unusedSimpArgs false
set_option maxRecDepth 100000
namespace Go.Proofs.YtoljpfapphoflaaGreatDoor.OlOm
open Go.RowKit BxD PkKit PkA PkB PkC PkR
def MRow (w:World) (base:Nat) (v:Value) (n:Nat) (xs:List Value):Prop :=
 xs.length=n/\∃ g cur fz,v = .slice (some ⟨g,0,none⟩) n cur.size/\base<=g/\w.heap[g]? = some (.cells cur 5 fz)/\cur.size<=fz.1/\n<=cur.size/\cur.size<=maxLen/\cur.toList.take n=xs
def Ow (w:World) (base:Nat) (v:Value) (n:Nat) (xs:List Value):Prop:=w.ownsRow base 5 1 v n xs\/MRow w base v n xs
theorem store_marked (P:Program) (g o:Nat) (t:TypeId) (fz:Nat × Nat) : ∀ (vs:List Value) (i:Nat) (cur:Array Value) (w:World),w.heap[g]? = some (.cells cur t fz)->cur.size<=fz.1->o+i+vs.length<=cur.size->(∀ v∈vs,v.oneCell'=true) ->
 (storeCells ⟨g,o,none⟩ vs i).run P w = .ok () (w.setRow g (cur.toList.take (o+i)++vs++cur.toList.drop (o+i+vs.length)).toArray)
 | [],i,cur,w,hg,_,_,_=>by
  simp only [storeCells,List.append_nil,List.length_nil,Nat.add_zero,List.take_append_drop,Array.toArray_toList];rw [setRow_self w g cur t fz hg];rfl
 | v::rest,i,cur,w,hg,hfz,hl,h1=>by
  have hi:o+i<cur.size:=by simp at hl; omega
  have hadd:(⟨g,o,none⟩:Addr).add i=⟨g,o+i,none⟩:=by unfold Addr.add; split <;> simp_all
  have hcell:w.cell? ⟨g,o+i,none⟩=some cur[o+i]:=by simp [World.cell?,hg,hi]
  have hfro:w.frozen? ⟨g,o+i,none⟩=false:=by
   obtain⟨lo,hi'⟩:=fz;simp only [World.frozen?,hg,Bool.and_eq_false_iff,decide_eq_false_iff_not]
   left
   simp only at hfz;omega
  have hst:(store ((⟨g,o,none⟩:Addr).add i) v).run P w = .ok () (w.setRow g (cur.setIfInBounds (o+i) v)):=by
   rw [hadd,run_store P w _ v _ (h1 v (by simp)),hcell];simp [hfro,setCell_eq_setRow w g (o+i) cur t fz v hg]
  have ih:=store_marked P g o t fz rest (i+1) (cur.setIfInBounds (o+i) v) (w.setRow g (cur.setIfInBounds (o+i) v)) (setRow_heap w g cur _ t _ hg) (by simpa using hfz) (by simp at hl ⊢; omega) (fun x hx=>h1 x (by simp [hx]));simp only [storeCells,Sem.run_bind,hst,Result.andThen_ok,ih,setRow_setRow]
  congr 3
  have e:=list_seg_step cur.toList (o+i) v rest (by simp at hl ⊢; omega);simpa [Array.toList_setIfInBounds,Nat.add_assoc] using e
theorem run_ow {w:World} {base n m c B:Nat} {v:Value} {xs:List Value} {A:Option Addr} {l:List UInt8} (ty:TypeId) (hown:Ow w base v n xs) (hz:BytesAt w B A m l)
 (hb:n+m<=140737488355328) (hbase:base<=w.heap.size) (hm:0<m) :
 ∃ v' w',(Builtin.append_ #[37,37] ty #[v,.slice A m c]).run Tryz.prog w = .ok v' w'/\Ow w' base v' (n+m) (xs++by_ l)/\w.grownBy w' v.ownBlock /\
  (v'.ownBlock=v.ownBlock\/v'.ownBlock=some w.heap.size):=by
 rcases hown with hown | ⟨hl0,g,cur,fz,rfl,hbg,hg,hfz,hnc,hcm,htake⟩
 · obtain⟨v',w',h1,h2,h3⟩:=run_by (c:=c) ty hown hz hb hbase
   exact⟨v',w',h1,.inl h2,h3⟩
 · obtain⟨i0,hi,hz0,hz1,hz2⟩:=info_parts info5
   have hzl:=hz.1;obtain⟨ad,rfl,hlt,hc⟩:=hz.2 hm;have hnl:(by_ l).length=m:=by rw [by_length,hzl]
   have hnews : ∀ j u,(by_ l)[j]? = some u->w.cell? (ad.add j)=some u:=fun j u hu=>by
    obtain⟨b,hj,rfl⟩:=by_inv hu;exact hc _ _ hj
   have hlen:(xs++by_ l).length=n+m:=by rw [List.length_append,hl0,hnl]
   by_cases hroom:n+m<=cur.size
   · have hf:=run_firstCells_some (P:=Tryz.prog) w i0.size m ad m c (by_ l) (by rw [hnl,hz1,Nat.mul_one]) hnews
     have hst:=store_marked Tryz.prog g n 5 fz (by_ l) 0 cur w hg hfz (by rw [hnl]; omega) (by_one l);simp only [Nat.add_zero,hnl] at hst;rw [hz1] at hf;refine⟨.slice (some ⟨g,0,none⟩) (n+m) cur.size,_,by simp [Builtin.append_,run_underlying Tryz.underlying37,sizeOf,typeInfo,hi,hz1,Builtin.lenOf,hroom,hf,Addr.add_lit,hst]; rfl,.inr ⟨hlen,g,_,fz, ?_,hbg,setRow_heap w g cur _ 5 _ hg, ?_, ?_, ?_, ?_⟩,⟨rfl,rfl,rfl,by simp,fun k _ hk=>setRow_other w g k _ (fun e=>hk (by simp [Value.ownBlock,e]))⟩,.inl rfl⟩
     all_goals have hsz:((cur.toList.take n++(by_ l++cur.toList.drop (n+m))).toArray).size=cur.size:=by
                 simp only [List.size_toArray,List.length_append,List.length_take,List.length_drop,Array.length_toList,hnl];omega
     · rw [hsz]
     · rw [hsz]; exact hfz
     · rw [hsz]; exact hroom
     · rw [hsz]; exact hcm
     · show List.take (n+m) (cur.toList.take n++(by_ l++cur.toList.drop (n+m)))=_
       rw [<- List.append_assoc,htake,<- hlen];exact List.take_left
   · have holds : ∀ j u,xs[j]? = some u->w.cell? ((⟨g,0,none⟩:Addr).add j)=some u:=fun j u hu=>by
      have hadd:(⟨g,0,none⟩:Addr).add j=⟨g,j,none⟩:=by unfold Addr.add; split <;> simp_all
      rw [hadd,cell_of_row w g j cur 5 fz hg];rw [<- htake,List.getElem?_take] at hu;split at hu
      · simpa using hu
      · cases hu
     have hr:=run_append_grow (P:=Tryz.prog) w 37 ty 5 i0 (.int .u8 0) Tryz.underlying37 hi hz0 ⟨g,0,none⟩ n cur.size xs (by rw [hl0,hz1,Nat.mul_one]) holds ad m c (by_ l) (by rw [hnl,hz1,Nat.mul_one]) hnews (by omega) (by omega) (by rw [hz2]; exact growslice_fits (by omega) (by omega));refine⟨_,_,hr,.inl ⟨by rw [hlen,Nat.mul_one],.inr ⟨w.heap.size,_,_,rfl,hbase,heap_alloc_new w.drew _,grownCap_ge w _ _ _,grownCap_le_maxLen w _ _ _ (by unfold maxLen; omega), ?_, ?_⟩⟩,
      ⟨rfl,rfl,rfl,by simp,fun _ hk _=>heap_alloc_old w.drew _ hk⟩,.inr rfl⟩
     · have hge:=grownCap_ge w (n+m) cur.size 5
       have e1:(Value.int .u8 0).cells.size=1:=rfl;simp [hnl,hl0,Builtin.zeroCells,e1];omega
     · rw [Array.toList_append,Array.toList_append]
       show List.take ((n+m)*1) ((xs++by_ l)++_)=_;rw [List.take_left' (by rw [hlen,Nat.mul_one])]
section
variable {w wr w2 : World} {base n m : Nat} {v v' : Value} {l l' : List UInt8} {xs : List Value}
theorem Ow.lt (h:Ow w base v n xs) : ∀ k,v.ownBlock=some k->base<=k/\k<w.heap.size:=by
 intro k hk;rcases h with h | ⟨_,g,cur,fz,rfl,hb,hg,_⟩
 · exact h.lt k hk
 · simp [Value.ownBlock] at hk
   subst hk;exact⟨hb,(gs_ hg).1⟩
theorem Ow.kept (h:Ow w base v n xs) (hb:Below w.heap.size w w2):Ow w2 base v n xs:=by
 rcases h with h | ⟨hl,g,cur,fz,rfl,hbg,hg,rest⟩
 · exact .inl (h.kept (BxKit.grown_below hb none) (by cases hv:v.ownBlock <;> simp))
 · exact .inr ⟨hl,g,cur,fz,rfl,hbg,(hb.block g (gs_ hg).1).trans hg,rest⟩
theorem Ow.slice (h:Ow w base v n xs) : ∃ A cp,v = .slice A n cp/\n<=cp:=by
 rcases h with h | ⟨_,g,cur,fz,rfl,_,_,_,hnc,_⟩
 · exact own_slice h
 · exact⟨_,_,rfl,hnc⟩
structure OO (base:Nat) (w wr:World) (n:Nat) (v:Value) (l:List UInt8):Prop where
 own:Ow wr base v n (by_ l)
 bel:Below base w wr
 bas:base<=w.heap.size
theorem OO.below (h:OO base w wr n v l) (hb:Below wr.heap.size wr w2):OO base w w2 n v l :=
 ⟨Ow.kept h.own hb,h.bel.trans (hb.mono (Nat.le_trans h.bas h.bel.size)),h.bas⟩
theorem OO.alloc (h:OO base w wr n v l) (o:Obj):OO base w (wr.alloc o) n v l:=h.below ((Below.refl _ _).alloc lr_ o)
theorem OO.app (h:OO base w wr n v l) (hown:Ow w2 base v' m (by_ l')) (hg:wr.grownBy w2 v.ownBlock):OO base w w2 m v' l' :=
 ⟨hown,h.bel.grown hg (Nat.le_trans h.bas h.bel.size) (fun k hk=>(Ow.lt h.own k hk).1),h.bas⟩
end
structure OM (w0:World) (v0:Value) (wr:World) (n:Nat) (v:Value) (l:List UInt8):Prop where
 own:Ow wr 0 v n (by_ l)
 fr:w0.grownBy wr v0.ownBlock
 at_ : ∀ k,v.ownBlock=some k->v0.ownBlock=some k\/w0.heap.size<=k
section
variable {w w0 wr w2 : World} {v0 v v' : Value} {n n' m base : Nat} {l l' : List UInt8} {xs : List Value}
theorem Ow.down (h:Ow w base v n xs):Ow w 0 v n xs:=by
 rcases h with h | ⟨hl,g,cur,fz,hv,hb,r⟩
 · refine .inl ⟨h.1, ?_⟩
   rcases h.2 with hn | ⟨g,cap,cur,hv,hbg,r⟩
   · exact .inl hn
   · exact .inr ⟨g,cap,cur,hv,Nat.zero_le _,r⟩
 · exact .inr ⟨hl,g,cur,fz,hv,Nat.zero_le _,r⟩
theorem Ow.up (h:Ow w 0 v n xs) (hv : ∀ k,v.ownBlock=some k->base<=k):Ow w base v n xs:=by
 rcases h with h | ⟨hl,g,cur,fz,rfl,hb,r⟩
 · refine .inl ⟨h.1, ?_⟩
   rcases h.2 with hn | ⟨g,cap,cur,rfl,hbg,r⟩
   · exact .inl hn
   · exact .inr ⟨g,cap,cur,rfl,hv g rfl,r⟩
 · exact .inr ⟨hl,g,cur,fz,rfl,hv g rfl,r⟩
theorem OM.start (h:Ow w base v n (by_ l)):OM w v w n v l:=⟨h.down,World.grownBy.refl _ _,fun k hk=>.inl hk⟩
theorem OM.go (h:OM w0 v0 wr n v l) (hb:Below wr.heap.size wr w2):OM w0 v0 w2 n v l :=
 ⟨h.own.kept hb,⟨hb.os.trans h.fr.os,hb.tape.trans h.fr.tape,hb.output.trans h.fr.output,Nat.le_trans h.fr.size hb.size,fun k hk hr=>(hb.block k (Nat.lt_of_lt_of_le hk h.fr.size)).trans (h.fr.block k hk hr)⟩,h.at_⟩
theorem OM.alloc (h:OM w0 v0 wr n v l) (o:Obj):OM w0 v0 (wr.alloc o) n v l:=h.go ((Below.refl _ _).alloc lr_ o)
theorem OM.last (h:OM w0 v0 wr n v l) (hg:wr.grownBy w2 v.ownBlock):w0.grownBy w2 v0.ownBlock:=by
 refine⟨hg.os.trans h.fr.os,hg.tape.trans h.fr.tape,hg.output.trans h.fr.output,Nat.le_trans h.fr.size hg.size,fun k hk hr=>?_⟩;refine (hg.block k (Nat.lt_of_lt_of_le hk h.fr.size) (fun e=>?_)).trans (h.fr.block k hk hr);rcases h.at_ k e.symm with h1 | h1
 · exact hr h1.symm
 · omega
theorem OM.app (h:OM w0 v0 wr n v l) (hown:Ow w2 0 v' m (by_ l')) (hg:wr.grownBy w2 v.ownBlock) (hat:v'.ownBlock=v.ownBlock\/v'.ownBlock=some wr.heap.size):OM w0 v0 w2 m v' l':=by
 refine⟨hown,h.last hg,fun k hk=>?_⟩;rcases hat with h1 | h1
 · exact h.at_ k (h1.symm.trans hk)
 · rw [h1] at hk
   injection hk with hk;exact .inr (by rw [<- hk]; exact h.fr.size)
theorem OM.trans (h:OM w0 v0 wr n v l) (h2:OM wr v w2 n' v' l'):OM w0 v0 w2 n' v' l':=by
 refine⟨h2.own,h.last h2.fr,fun k hk=>?_⟩;rcases h2.at_ k hk with e | e
 · exact h.at_ k e
 · exact .inr (Nat.le_trans h.fr.size e)
theorem OM.below (h:OM w v wr n v' l) (hv : ∀ k,v.ownBlock=some k->base<=k) (hb:base<=w.heap.size):Below base w wr:=(Below.refl base w).grown h.fr hb hv
theorem OM.oo (h:OM w v wr n v' l) (hv : ∀ k,v.ownBlock=some k->base<=k) (hb:base<=w.heap.size):OO base w wr n v' l :=
 ⟨h.own.up (fun k hk=>by rcases h.at_ k hk with e | e; exact hv k e; omega),h.below hv hb,hb⟩
theorem OO.trans (h1:OO base w0 wr n v l) (h2:OO base wr w2 n' v' l'):OO base w0 w2 n' v' l':=⟨h2.own,h1.bel.trans h2.bel,h1.bas⟩
theorem Ow.bytes {A:Option Addr} {c:Nat} (h:Ow w base (.slice A n c) n (by_ l)):BytesAt w w.heap.size A n l:=by
 rcases h with h | ⟨hl,g,cur,fz,hv,hb,hg,hfz,hnc,hcm,ht⟩
 · exact bytesAt_own h
 · injection hv with e1 e2 e3
   subst e1;refine⟨by rw [by_length] at hl; exact hl,fun _=>⟨_,rfl,(gs_ hg).1,fun j c hj=>?_⟩⟩;have hadd:(⟨g,0,none⟩:Addr).add j=⟨g,j,none⟩:=by unfold Addr.add; split <;> simp_all
   rw [hadd,cell_of_row w g j cur 5 fz hg];have h2:=by_get hj;rw [<- ht,List.getElem?_take] at h2;split at h2
   · simpa using h2
   · cases h2
theorem OO.om (h1:OO base w0 wr n v l) (h2:OM wr v w2 n' v' l'):OO base w0 w2 n' v' l' :=
 h1.trans (h2.oo (fun g e=>(h1.own.lt g e).1) (Nat.le_trans h1.bas h1.bel.size))
end
theorem wpList_ow {w:World} {base n m c B:Nat} {v:Value} {xs:List Value} {A:Option Addr} {l:List UInt8} {ops:Array Oper} {rest:List Oper} {o:Oper} {a:Act} {Q:Exit->Act->World->Prop} (hgd:o.guard=none) (s x:Operand)
 (ho:o.op = .call { callee:=.builtin .append,args:=#[s,x],argTypes:=#[37,37] }) (hs:a.eval s=v) (hx:a.eval x = .slice A m c) (hown:Ow w base v n xs) (hz:BytesAt w B A m l)
 (hb:n+m<=140737488355328) (hbase:base<=w.heap.size) (hm:0<m)
 (h : ∀ v' w',Ow w' base v' (n+m) (xs++by_ l)->w.grownBy w' v.ownBlock->(v'.ownBlock=v.ownBlock\/v'.ownBlock=some w.heap.size)->wpList Tryz.prog ops Q rest (a.put o.dst v') w'):wpList Tryz.prog ops Q (o::rest) a w :=
 wpList_plain hgd fun K hK=>by
  obtain⟨v',w',hrun,h2,h3,h4⟩:=run_ow (c:=c) o.type hown hz hb hbase hm;unfold Oper.wp execOp;simp only [ho,resolve,invoke,builtin,Sem.run_bind,Sem.run_pure,Result.andThen_ok,List.map_toArray,List.map_cons,List.map_nil,hs,hx,hrun];exact hK _ _ (h v' w' h2 h3 h4)
theorem run_ows {w:World} {base n:Nat} {v:Value} {xs:List Value} {s:ByteArray} (ty:TypeId) (hown:Ow w base v n xs)
 (hb:n+s.size<=140737488355328) (hbase:base<=w.heap.size) :
 ∃ v' w',(Builtin.append_ #[37,9] ty #[v,.string s]).run Tryz.prog w = .ok v' w'/\Ow w' base v' (n+s.size) (xs++Lib.strCells s)/\w.grownBy w' v.ownBlock:=by
 obtain⟨i0,hi,hz0,hz1,hz2⟩:=info_parts info5;rcases hown with hown | ⟨hl0,g,cur,fz,rfl,hbg,hg,hfz,hnc,hcm,htake⟩
 · obtain⟨v',w',h1,h2,h3,_⟩:=Lib.run_append_own_string (P:=Tryz.prog) w base 37 9 ty 5 i0 Tryz.underlying37 Tryz.underlying9 hi hz0 hz1 hz2 v n xs hown s (by unfold maxLen; omega) hb hbase
   exact⟨v',w',h1,.inl h2,h3⟩
 · have hnl:=Lib.strCells_length s
   have hlen:(xs++Lib.strCells s).length=n+s.size:=by rw [List.length_append,hl0,hnl]
   by_cases hroom:n+s.size<=cur.size
   · have hf:=Lib.run_firstCells_string (P:=Tryz.prog) w 1 s
     have hst:=store_marked Tryz.prog g n 5 fz (Lib.strCells s) 0 cur w hg hfz (by rw [hnl]; omega) (Lib.strCells_oneCell s);simp only [Nat.add_zero,hnl] at hst;refine⟨.slice (some ⟨g,0,none⟩) (n+s.size) cur.size,_,by simp [Builtin.append_,run_underlying Tryz.underlying37,run_underlying Tryz.underlying9,sizeOf,typeInfo,hi,hz1,Builtin.lenOf,hroom,hf,Addr.add_lit,hst]; rfl,.inr ⟨hlen,g,_,fz, ?_,hbg,setRow_heap w g cur _ 5 _ hg, ?_, ?_, ?_, ?_⟩,⟨rfl,rfl,rfl,by simp,fun k _ hk=>setRow_other w g k _ (fun e=>hk (by simp [Value.ownBlock,e]))⟩⟩
     all_goals have hsz:((cur.toList.take n++(Lib.strCells s++cur.toList.drop (n+s.size))).toArray).size=cur.size:=by
                 simp only [List.size_toArray,List.length_append,List.length_take,List.length_drop,Array.length_toList,hnl];omega
     · rw [hsz]
     · rw [hsz]; exact hfz
     · rw [hsz]; exact hroom
     · rw [hsz]; exact hcm
     · show List.take (n+s.size) (cur.toList.take n++(Lib.strCells s++cur.toList.drop (n+s.size)))=_
       rw [<- List.append_assoc,htake,<- hlen];exact List.take_left
   · have holds : ∀ j u,xs[j]? = some u->w.cell? ((⟨g,0,none⟩:Addr).add j)=some u:=fun j u hu=>by
      have hadd:(⟨g,0,none⟩:Addr).add j=⟨g,j,none⟩:=by unfold Addr.add; split <;> simp_all
      rw [hadd,cell_of_row w g j cur 5 fz hg];rw [<- htake,List.getElem?_take] at hu;split at hu
      · simpa using hu
      · cases hu
     have hr:=Lib.run_append_grow_string (P:=Tryz.prog) w 37 9 ty 5 i0 (.int .u8 0) Tryz.underlying37 Tryz.underlying9 hi hz0 ⟨g,0,none⟩ n cur.size xs (by rw [hl0,hz1,Nat.mul_one]) holds s (by omega) (by omega) (by rw [hz2]; exact growslice_fits (by omega) (by omega));refine⟨_,_,hr,.inl ⟨by rw [hlen,Nat.mul_one],.inr ⟨w.heap.size,_,_,rfl,hbase,heap_alloc_new w.drew _,grownCap_ge w _ _ _,grownCap_le_maxLen w _ _ _ (by unfold maxLen; omega), ?_, ?_⟩⟩,
      ⟨rfl,rfl,rfl,by simp,fun _ hk _=>heap_alloc_old w.drew _ hk⟩⟩
     · have hge:=grownCap_ge w (n+s.size) cur.size 5
       have e1:(Value.int .u8 0).cells.size=1:=rfl;simp [hnl,hl0,Builtin.zeroCells,e1];omega
     · rw [Array.toList_append,Array.toList_append]
       show List.take ((n+s.size)*1) ((xs++Lib.strCells s)++_)=_;rw [List.take_left' (by rw [hlen,Nat.mul_one])]
theorem wpList_ows {w:World} {base n:Nat} {v:Value} {xs:List Value} {s:ByteArray} {ops:Array Oper} {rest:List Oper} {o:Oper} {a:Act} {Q:Exit->Act->World->Prop} (hgd:o.guard=none) (sl x:Operand)
 (ho:o.op = .call { callee:=.builtin .append,args:=#[sl,x],argTypes:=#[37,9] }) (hs:a.eval sl=v) (hx:a.eval x = .string s) (hown:Ow w base v n xs)
 (hb:n+s.size<=140737488355328) (hbase:base<=w.heap.size)
 (h : ∀ v' w',Ow w' base v' (n+s.size) (xs++Lib.strCells s)->w.grownBy w' v.ownBlock->wpList Tryz.prog ops Q rest (a.put o.dst v') w'):wpList Tryz.prog ops Q (o::rest) a w :=
 wpList_plain hgd fun K hK=>by
  obtain⟨v',w',hrun,h2,h3⟩:=run_ows o.type hown hb hbase;unfold Oper.wp execOp;simp only [ho,resolve,invoke,builtin,Sem.run_bind,Sem.run_pure,Result.andThen_ok,List.map_toArray,List.map_cons,List.map_nil,hs,hx,hrun];exact hK _ _ (h v' w' h2 h3)
end Go.Proofs.YtoljpfapphoflaaGreatDoor.OlOm

set_option maxRecDepth 512
namespace Go.Proofs.YtoljpfapphoflaaGreatDoor.OlOq
open Go.RowKit BxD PkKit PkA PkB PkC PkR OlD  OlOm
theorem conv_oo (w:World) (s:ByteArray) (hs:s.size<=1000000):OO w.heap.size w (Lib.bytesWorld w 5 s) s.size (.slice (some ⟨w.heap.size,0,none⟩) s.size (grownCap w s.size 0 5)) s.data.toList:=by
 have hge:=grownCap_ge w s.size 0 5;have hle:=grownCap_le_maxLen w s.size 0 5 (by unfold maxLen; omega);have hsz:(Lib.bytesCells w 5 s).size=grownCap w s.size 0 5:=by
  have:s.data.size=s.size:=rfl;simp [Lib.bytesCells];omega
 refine⟨.inr ⟨by rw [by_length,Array.length_toList]; rfl,w.heap.size,_,_,by rw [hsz],Nat.le_refl _,Lib.bytesWorld_at_new w 5 s,Nat.le_refl _,by rw [hsz]; exact hge,by rw [hsz]; exact hle, ?_⟩,Lib.bytesWorld_below w _ s,Nat.le_refl _⟩;unfold Lib.bytesCells;rw [Array.toList_append,List.take_left' (by simp)];simp [by_,Lib.byteCells]
end Go.Proofs.YtoljpfapphoflaaGreatDoor.OlOq
