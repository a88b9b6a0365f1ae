/-
  BxR + BxC
-/
import Derived.Test.YtoljpfapphoflaaGreatDoorBxA
import Derived.OneCell
import Derived.Laws.Rows
import Derived.Laws.ResultCell
import Derived.Deep.RegionHeld3
set_option linter.unusedVariables false
set_option linter.unusedSimpArgs false
set_option maxRecDepth 512
namespace Go.Proofs.YtoljpfapphoflaaGreatDoor.BxR
open Go.RowKit BxD BxKit BxA
structure El (t e:TypeId) (z:Value) (sz by_:Nat):Prop where
 und:Tryz.prog.underlying t=some (.slice e)
 info:(Tryz.prog.info? e).map (fun i=>(i.zero,i.size,i.bytes))=some (some z,sz,by_)
 zs:z.cells.size=sz
 pos:0<sz
theorem elS:El 22 9 (.string ⟨#[]⟩) 1 16:=⟨Tryz.underlying22,by kernel_rfl,rfl,by decide⟩
theorem elI:El 59 3 (.int .i64 0) 1 8:=⟨Tryz.underlying59,by kernel_rfl,rfl,by decide⟩
theorem elM:El 23 61 (.agg #[.int .i64 0,.int .i64 0,.int .i64 0,.string ⟨#[]⟩,.int .i64 0,.slice none 0 0,.string ⟨#[]⟩]) 7 88:=⟨Tryz.underlying23,by kernel_rfl,rfl,by decide⟩
def Src (w:World) (A:Option Addr) (m sz:Nat) (news:List Value):Prop :=
 news.length=m*sz/\(∀ u∈news,u.oneCell'=true)/\(0<m->∃ ad,A=some ad/\∀ j u,news[j]? = some u->w.cell? (ad.add j)=some u)
theorem run_rows {t e:TypeId} {z:Value} {sz by_:Nat} (el:El t e z sz by_) {w:World} {base n m c:Nat} {v:Value} {xs news:List Value} {A:Option Addr} (ty:TypeId) (hown:w.ownsRow base e sz v n xs) (hs:Src w A m sz news)
 (h63:n+m<=maxLen) (hb:(n+m)*by_<=140737488355328) (hbase:base<=w.heap.size) :
 ∃ v' w',(Builtin.append_ #[t,t] ty #[v,.slice A m c]).run Tryz.prog w = .ok v' w'/\w'.ownsRow base e sz v' (n+m) (xs++news)/\w.grownBy w' v.ownBlock /\
  (v'.ownBlock=v.ownBlock\/v'.ownBlock=some w.heap.size):=by
 obtain⟨i0,hi,hz0,hz1,hz2⟩:=info_parts el.info;obtain⟨hl,h1,hc⟩:=hs;by_cases hm:m=0
 · subst hm
   have hn:news=[]:=List.eq_nil_of_length_eq_zero (by rw [hl,Nat.zero_mul]);subst hn;cases A with
   | none =>
    refine⟨v,w, ?_,by simpa using hown,World.grownBy.refl w _,.inl rfl⟩;rcases hown.2 with⟨rfl,rfl⟩ | ⟨g,cap,cur,rfl,_,_,hnc,_⟩
    · simp [Builtin.append_,run_underlying el.und,sizeOf,typeInfo,hi,Builtin.lenOf,Builtin.firstCells]
    · simp [Builtin.append_,run_underlying el.und,sizeOf,typeInfo,hi,Builtin.lenOf,Builtin.firstCells,hnc,storeCells]
   | some ad =>
    obtain⟨v',w',hrun,h2,h3,_,h5⟩:=run_append_own_at (P:=Tryz.prog) w base t ty e i0 z sz by_ el.und hi hz0 hz1 hz2 el.zs el.pos v n xs hown ad 0 c [] (by simp) (by simp) (by simp) h63 hb hbase;exact⟨v',w',hrun,h2,h3,h5⟩
 · obtain⟨ad,rfl,hcell⟩:=hc (by omega)
   obtain⟨v',w',hrun,h2,h3,_,h5⟩:=run_append_own_at (P:=Tryz.prog) w base t ty e i0 z sz by_ el.und hi hz0 hz1 hz2 el.zs el.pos v n xs hown ad m c news hl hcell h1 h63 hb hbase;exact⟨v',w',hrun,h2,h3,h5⟩
theorem wp_rows {t e:TypeId} {z:Value} {sz by_:Nat} (el:El t e z sz by_) {w:World} {base n m c:Nat} {v:Value} {xs news:List Value} {A:Option Addr} {o:Oper} {a:Act} {K:Act->World->Prop} {Q:Exit->Act->World->Prop} (s x:Operand)
 (ho:o.op = .call { callee:=.builtin .append,args:=#[s,x],argTypes:=#[t,t] }) (hs:a.eval s=v) (hx:a.eval x = .slice A m c) (hown:w.ownsRow base e sz v n xs) (hz:Src w A m sz news)
 (h63:n+m<=maxLen) (hb:(n+m)*by_<=140737488355328) (hbase:base<=w.heap.size)
 (h : ∀ v' w',w'.ownsRow base e sz v' (n+m) (xs++news)->w.grownBy w' v.ownBlock->(v'.ownBlock=v.ownBlock\/v'.ownBlock=some w.heap.size)->K (a.put o.dst v') w'):o.wp Tryz.prog a w K Q:=by
 obtain⟨v',w',hrun,h2,h3,h4⟩:=run_rows (c:=c) el o.type hown hz h63 hb hbase;unfold Oper.wp execOp;simp only [ho,resolve,invoke,builtin,Sem.run_bind,Sem.run_pure,Result.andThen_ok,List.map_toArray,List.map_cons,List.map_nil,hs,hx,hrun];exact h v' w' h2 h3 h4
theorem wpList_rows {t e:TypeId} {z:Value} {sz by_:Nat} (el:El t e z sz by_) {w:World} {base n m c:Nat} {v:Value} {xs news:List Value} {A:Option Addr} {ops:Array Oper} {rest:List Oper} {o:Oper} {a:Act} {Q:Exit->Act->World->Prop} (hgd:o.guard=none) (s x:Operand)
 (ho:o.op = .call { callee:=.builtin .append,args:=#[s,x],argTypes:=#[t,t] }) (hs:a.eval s=v) (hx:a.eval x = .slice A m c) (hown:w.ownsRow base e sz v n xs) (hz:Src w A m sz news)
 (h63:n+m<=maxLen) (hb:(n+m)*by_<=140737488355328) (hbase:base<=w.heap.size)
 (h : ∀ v' w',w'.ownsRow base e sz v' (n+m) (xs++news)->w.grownBy w' v.ownBlock->(v'.ownBlock=v.ownBlock\/v'.ownBlock=some w.heap.size)->wpList Tryz.prog ops Q rest (a.put o.dst v') w'):wpList Tryz.prog ops Q (o::rest) a w :=
 wpList_plain hgd fun _ hK=>wp_rows el s x ho hs hx hown hz h63 hb hbase fun v' w' h2 h3 h4=>hK _ _ (h v' w' h2 h3 h4)
theorem step_rows {t e:TypeId} {z:Value} {sz by_:Nat} (el:El t e z sz by_) {w:World} {base n m c:Nat} {v:Value} {xs news:List Value} {A:Option Addr} {ops:Array Oper} {o:Oper} {a:Act} {K:Act->World->Prop} {Q:Exit->Act->World->Prop} {E:Prop} (hgd:o.guard=none) (s x:Operand)
 (ho:o.op = .call { callee:=.builtin .append,args:=#[s,x],argTypes:=#[t,t] }) (hs:a.eval s=v) (hx:a.eval x = .slice A m c) (hown:w.ownsRow base e sz v n xs) (hz:Src w A m sz news)
 (h63:n+m<=maxLen) (hb:(n+m)*by_<=140737488355328) (hbase:base<=w.heap.size)
 (h : ∀ v' w',w'.ownsRow base e sz v' (n+m) (xs++news)->w.grownBy w' v.ownBlock->(v'.ownBlock=v.ownBlock\/v'.ownBlock=some w.heap.size)->K (a.put o.dst v') w') :
 if Region.wanted o (yielded ops a.tmps)=true then Oper.wp Tryz.prog o a w K Q else E:=by
 have hw:Region.wanted o (yielded ops a.tmps)=true:=by simp [Region.wanted,hgd]
 rw [if_pos hw];exact wp_rows el s x ho hs hx hown hz h63 hb hbase h
theorem own_slice {w:World} {base e sz n:Nat} {v:Value} {xs:List Value} (h:w.ownsRow base e sz v n xs) : ∃ A cp,v = .slice A n cp/\n<=cp:=by
 rcases h.2 with⟨rfl,rfl⟩ | ⟨g,cap,cur,rfl,_,_,hnc,_⟩
 · exact⟨_,_,rfl,Nat.le_refl _⟩
 · exact⟨_,_,rfl,hnc⟩
theorem own_form {w:World} {base e sz n:Nat} {v:Value} {xs:List Value} (h:w.ownsRow base e sz v n xs) (hn:0<n) : ∃ g cap,v = .slice (some ⟨g,0,none⟩) n cap/\base<=g/\g<w.heap.size:=by
 rcases h.2 with⟨rfl,rfl⟩ | ⟨g,cap,cur,rfl,hb,hg,_⟩
 · omega
 · exact⟨g,cap,rfl,hb,(gs_ hg).1⟩
theorem add_new (g j:Nat):(⟨g,0,none⟩:Addr).add j=⟨g,j,none⟩:=by unfold Addr.add; split <;> simp_all
theorem cell_new (w:World) (cs:Array Value) (t:TypeId) (j:Nat):(w.alloc (.cells cs t)).cell? ((⟨w.heap.size,0,none⟩:Addr).add j)=cs[j]?:=by
 rw [add_new,cell_of_row _ w.heap.size j cs t (0,0) (heap_alloc_new w _)]
theorem src_new (w:World) (cs:Array Value) (t:TypeId) {b m sz:Nat} (hb:b=w.heap.size) (hl:cs.size=m*sz) (h1 : ∀ u∈cs.toList,u.oneCell'=true):Src (w.alloc (.cells cs t)) (some ⟨b,0,none⟩) m sz cs.toList:=by
 subst hb;exact⟨by simpa using hl,h1,fun _=>⟨_,rfl,fun j u hu=>by rw [cell_new]; simpa using hu⟩⟩
theorem strs_src {w:World} {B n:Nat} {A:Option Addr} {l:List ByteArray} (h:StrsAt w B A n l):Src w A n 1 (l.map Value.string):=by
 refine⟨by rw [List.length_map,h.len,Nat.mul_one],fun u hu=>by obtain⟨x,_,rfl⟩:=List.mem_map.1 hu; rfl,fun hn=>?_⟩;obtain⟨ad,e,_,hc⟩:=h.2.2 hn;refine⟨ad,e,fun j u hu=>?_⟩;rw [List.getElem?_map] at hu;cases hx:l[j]? with
 | none=>rw [hx] at hu; cases hu
 | some x =>
  rw [hx] at hu;obtain rfl:Value.string x=u:=Option.some.inj hu;have:=(hc j x hx).1
  rwa [Nat.mul_one] at this
theorem ints_src {w:World} {B n:Nat} {A:Option Addr} {l:List Int} (h:IntsAt w B A n l):Src w A n 1 (l.map (Value.int .i64)):=by
 refine⟨by rw [List.length_map,h.len,Nat.mul_one],fun u hu=>by obtain⟨x,_,rfl⟩:=List.mem_map.1 hu; rfl,fun hn=>?_⟩;obtain⟨ad,e,_,hc⟩:=h.2.2 hn;refine⟨ad,e,fun j u hu=>?_⟩;rw [List.getElem?_map] at hu;cases hx:l[j]? with
 | none=>rw [hx] at hu; cases hu
 | some x =>
  rw [hx] at hu;obtain rfl:Value.int .i64 x=u:=Option.some.inj hu;have:=hc j x hx;unfold intC at this
  rwa [Nat.mul_one] at this
theorem strsAt_own {w:World} {base n cp:Nat} {A:Option Addr} {l:List ByteArray} (h:w.ownsRow base 9 1 (.slice A n cp) n (l.map Value.string)) (hn:n<=140737488355328) (hz : ∀ x∈l,x.size<=140737488355328):StrsAt w w.heap.size A n l:=by
 have hl:=h.1;rw [List.length_map] at hl;refine⟨by omega,hn,fun hn=>?_⟩;obtain⟨g,cap,hv,_,hlt⟩:=own_form h hn;have hA:A=some ⟨g,0,none⟩:=by injection hv
 subst hA;exact⟨_,rfl,hlt,fun j c hj=>⟨by rw [Nat.mul_one]; exact h.cells (g:=g) rfl _ _ (by rw [List.getElem?_map,hj]; rfl),hz c (List.mem_of_getElem? hj)⟩⟩
theorem intsAt_own {w:World} {base n cp:Nat} {A:Option Addr} {l:List Int} (h:w.ownsRow base 3 1 (.slice A n cp) n (l.map (Value.int .i64))) (hn:n<=140737488355328):IntsAt w w.heap.size A n l:=by
 have hl:=h.1;rw [List.length_map] at hl;refine⟨by omega,hn,fun hn=>?_⟩;obtain⟨g,cap,hv,_,hlt⟩:=own_form h hn;have hA:A=some ⟨g,0,none⟩:=by injection hv
 subst hA;exact⟨_,rfl,hlt,fun j c hj=>by unfold intC; rw [Nat.mul_one]; exact h.cells (g:=g) rfl _ _ (by rw [List.getElem?_map,hj]; rfl)⟩
structure Raw where
 m:Msg
 K:Option Addr
 c:Nat
def cell7 (r:Raw):List Value:=[.int .i64 r.m.uid,.int .i64 r.m.mod,.int .i64 r.m.date,.string r.m.id,.int .i64 r.m.flags,.slice r.K r.m.keys.length r.c,.string r.m.text]
def mc (l:List Raw):List Value:=l.flatMap cell7
def KeysOk (w:World) (B:Nat) (l:List Raw):Prop:=∀ r∈l,IntsAt w B r.K r.m.keys.length r.m.keys/\r.m.keys.length<=r.c/\r.m.id.size<=140737488355328/\r.m.text.size<=140737488355328
theorem mc_length : ∀ l:List Raw,(mc l).length=l.length*7
 | []=>rfl
 | r::l=>by
  have:=mc_length l;unfold mc at this ⊢;rw [List.flatMap_cons,List.length_append,this,List.length_cons];simp [cell7]; omega
theorem mc_append (a b:List Raw):mc (a++b)=mc a++mc b:=by unfold mc; rw [List.flatMap_append]
theorem mc_get : ∀ (l:List Raw) (i f:Nat) (r:Raw),l[i]? = some r->f<7->(mc l)[i*7+f]? = (cell7 r)[f]?
 | r0::l,0,f,r,h,hf=>by
  obtain rfl:r0=r:=by simpa using h
  unfold mc;rw [List.flatMap_cons,Nat.zero_mul,Nat.zero_add,List.getElem?_append_left (by simpa [cell7] using hf)]
 | r0::l,i+1,f,r,h,hf=>by
  have:=mc_get l i f r (by simpa using h) hf;unfold mc at this ⊢;rw [List.flatMap_cons,List.getElem?_append_right (by simp [cell7]; omega),<- this]
  congr 1
  simp [cell7]; omega
theorem mc_one (l:List Raw) : ∀ u∈mc l,u.oneCell'=true:=by
 intro u hu;unfold mc at hu;obtain⟨r,_,h⟩:=List.mem_flatMap.1 hu;simp only [cell7,List.mem_cons,List.not_mem_nil,or_false] at h;rcases h with rfl | rfl | rfl | rfl | rfl | rfl | rfl <;> rfl
theorem choose_list {α β:Type} : ∀ (P:Nat->α->β->Prop) (l:List α),(∀ j x,l[j]? = some x->∃ y,P j x y)->∃ ys:List β,ys.length=l.length/\∀ j x,l[j]? = some x->∃ y,ys[j]? = some y/\P j x y
 | _,[],_=>⟨[],rfl,fun j x h=>by simp at h⟩
 | P,a::l,h=>by
  obtain⟨y,hy⟩:=h 0 a rfl;obtain⟨ys,h1,h2⟩:=choose_list (fun j=>P (j+1)) l (fun j x hx=>h (j+1) x (by simpa using hx));refine⟨y::ys,by simp [h1],fun j x hx=>?_⟩
  match j,hx with
  | 0,hx =>
   obtain rfl:a=x:=by simpa using hx
   exact⟨y,rfl,hy⟩
  | j+1,hx =>
   obtain⟨y',h3,h4⟩:=h2 j x (by simpa using hx);exact⟨y',by simpa using h3,h4⟩
theorem seven {p:Addr} {f:Nat} (_hf:f<7):p.add f=if f=0 then p else fld p f:=by
 unfold Addr.add fld;split
 · rfl
 · rfl
theorem msgs_raw {w:World} {B n:Nat} {A:Option Addr} {l:List Msg} (h:MsgsAt w B A n l) : ∃ rs:List Raw,rs.map Raw.m=l/\KeysOk w B rs/\Src w A n 7 (mc rs):=by
 by_cases hn:n=0
 · subst hn
   have hl:l=[]:=List.eq_nil_of_length_eq_zero h.len;subst hl;exact⟨[],rfl,fun r hr=>by simp at hr,rfl,fun u hu=>by simp [mc] at hu,fun h=>absurd h (Nat.lt_irrefl 0)⟩
 obtain⟨ad,e,hlt,hc⟩:=h.2.2 (by omega);obtain⟨ys,h1,h2⟩:=choose_list (fun j m (y:Option Addr × Nat)=>w.cell? (fld (ad.add (j*7)) 5)=some (.slice y.1 m.keys.length y.2)/\m.keys.length<=y.2/\IntsAt w B y.1 m.keys.length m.keys) l
  (fun j m hj=>by
   obtain⟨_,_,_,_,_,⟨K,c,h5,h6,h7⟩,_⟩:=hc j m hj;exact⟨(K,c),h5,h6,h7⟩)
 let rs:=(l.zip ys).map fun p=>(⟨p.1,p.2.1,p.2.2⟩:Raw)
 have hrl:rs.length=n:=by simp only [rs,List.length_map,List.length_zip,h1,Nat.min_self]; exact h.len
 have hr : ∀ (j:Nat) (r:Raw),rs[j]? = some r->l[j]? = some r.m/\ys[j]? = some (r.K,r.c):=by
  intro j r hj;simp only [rs,List.getElem?_map] at hj;cases hz:(l.zip ys)[j]? with
  | none=>rw [hz] at hj; cases hj
  | some p =>
   rw [hz] at hj;obtain rfl:=Option.some.inj hj;rw [List.getElem?_zip_eq_some] at hz;exact hz
 refine⟨rs, ?_, ?_, ?_⟩
 · simp only [rs,List.map_map]
   have:(Raw.m ∘ fun p:Msg × Option Addr × Nat=>(⟨p.1,p.2.1,p.2.2⟩:Raw))=Prod.fst:=rfl;rw [this,List.map_fst_zip (by omega)]
 · intro r hrm
   obtain⟨j,hj⟩:=List.mem_iff_getElem?.1 hrm;obtain⟨a1,a2⟩:=hr j r hj;obtain⟨y,b1,_,b3,b4⟩:=h2 j r.m a1;rw [a2] at b1;obtain rfl:=Option.some.inj b1;obtain⟨_,_,_,_,_,_,_,c8,c9⟩:=hc j r.m a1;exact⟨b4,b3,c8,c9⟩
 · refine⟨by rw [mc_length,hrl],mc_one rs,fun _=>⟨ad,e,fun j u hu=>?_⟩⟩
   have hjl:j<rs.length*7:=by rw [<- mc_length]; exact (List.getElem?_eq_some_iff.1 hu).1
   have hi:j / 7<rs.length:=by omega
   have hg:rs[j / 7]? = some (rs[j / 7]'hi):=List.getElem?_eq_getElem hi;obtain⟨a1,a2⟩:=hr _ _ hg;obtain⟨y,b1,b2,b3,b4⟩:=h2 _ _ a1;rw [a2] at b1;obtain rfl:=Option.some.inj b1;obtain⟨c0,c1,c2,c3,c4,_,c6,_⟩:=hc _ _ a1;have hm:=mc_get rs (j / 7) (j % 7) _ hg (Nat.mod_lt _ (by decide));rw [show j / 7*7+j % 7=j by omega,hu] at hm;rw [show ad.add j=(ad.add (j / 7*7)).add (j % 7) by rw [add_add]; congr 1; omega];have hf:j % 7<7:=Nat.mod_lt _ (by decide);rw [seven hf];generalize j % 7=f at hm hf
   match f,hf with
   | 0,_=>rw [if_pos rfl,c0]; exact hm.symm
   | 1,_=>rw [if_neg (by decide),c1]; exact hm.symm
   | 2,_=>rw [if_neg (by decide),c2]; exact hm.symm
   | 3,_=>rw [if_neg (by decide),c3]; exact hm.symm
   | 4,_=>rw [if_neg (by decide),c4]; exact hm.symm
   | 5,_=>rw [if_neg (by decide),b2]; exact hm.symm
   | 6,_=>rw [if_neg (by decide),c6]; exact hm.symm
theorem msgsAt_own {w:World} {base n cp:Nat} {A:Option Addr} {rs:List Raw} (h:w.ownsRow base 61 7 (.slice A n cp) n (mc rs)) (hn:n<=140737488355328) (hk:KeysOk w w.heap.size rs):MsgsAt w w.heap.size A n (rs.map Raw.m):=by
 have hl:=h.1;rw [mc_length] at hl;refine⟨by rw [List.length_map]; omega,hn,fun hn=>?_⟩;obtain⟨g,cap,hv,_,hlt⟩:=own_form h hn;have hA:A=some ⟨g,0,none⟩:=by injection hv
 subst hA;refine⟨_,rfl,hlt,fun j m hj=>?_⟩;rw [List.getElem?_map] at hj;cases hr:rs[j]? with
 | none=>rw [hr] at hj; cases hj
 | some r =>
  rw [hr] at hj;obtain rfl:r.m=m:=Option.some.inj hj;obtain⟨k1,k2,k3,k4⟩:=hk r (List.mem_of_getElem? hr);have hc : ∀ f,f<7->∀ u,(cell7 r)[f]? = some u->w.cell? (((⟨g,0,none⟩:Addr).add (j*7)).add f)=some u:=by
   intro f hf u hu;rw [add_add];exact h.cells (g:=g) rfl _ _ ((mc_get rs j f r hr hf).trans hu)
  have hc0:=hc 0 (by decide) _ rfl;have hc' : ∀ f,f<7->f≠0->∀ u,(cell7 r)[f]? = some u->w.cell? (fld ((⟨g,0,none⟩:Addr).add (j*7)) f)=some u:=by
   intro f hf h0 u hu;have:=hc f hf u hu;rw [seven hf,if_neg h0] at this;exact this
  exact⟨by rw [seven (by decide),if_pos rfl] at hc0; exact hc0,hc' 1 (by decide) (by decide) _ rfl,hc' 2 (by decide) (by decide) _ rfl,hc' 3 (by decide) (by decide) _ rfl,hc' 4 (by decide) (by decide) _ rfl,
   ⟨r.K,r.c,hc' 5 (by decide) (by decide) _ rfl,k2,k1⟩,hc' 6 (by decide) (by decide) _ rfl,k3,k4⟩
end Go.Proofs.YtoljpfapphoflaaGreatDoor.BxR

set_option maxRecDepth 512
namespace Go.Proofs.YtoljpfapphoflaaGreatDoor.BxC
open Go.RowKit BxD BxKit BxA BxR
section
variable {w : World} {base e sz n g : Nat} {v : Value} {xs : List Value}
theorem own_set (h:w.ownsRow base e sz v n xs) (hv:v.ownBlock=some g) (j:Nat) (u:Value):(w.setCell ⟨g,j,none⟩ u).ownsRow base e sz v n (xs.set j u):=by
 obtain⟨h1,h2⟩:=h;refine⟨by rw [List.length_set]; exact h1, ?_⟩;rcases h2 with⟨rfl,_⟩ | ⟨g',cap,cur,rfl,hb,hg,hn,hm,hs,ht⟩
 · simp [Value.ownBlock] at hv
 · obtain rfl:g'=g:=by simpa [Value.ownBlock] using hv
   refine .inr ⟨g',cap,cur.setIfInBounds j u,rfl,hb, ?_,hn,hm,by simpa using hs, ?_⟩
   · simp [World.setCell,Array.getElem?_modify,hg]
   · rw [Array.toList_setIfInBounds,List.take_set,ht]
theorem own_free (h:w.ownsRow base e sz v n xs) (hv:v.ownBlock=some g) (j:Nat):w.frozen? ⟨g,j,none⟩=false:=by
 rcases h.2 with⟨rfl,_⟩ | ⟨g',cap,cur,rfl,hb,hg,hn,hm,hs,ht⟩
 · simp [Value.ownBlock] at hv
 · obtain rfl:g'=g:=by simpa [Value.ownBlock] using hv
   simp [World.frozen?,hg]
theorem own_cell (h:w.ownsRow base e sz v n xs) (hv:v.ownBlock=some g) {j:Nat} {u:Value} (hj:xs[j]? = some u):w.cell? ⟨g,j,none⟩=some u:=by
 rw [<- add_new];exact h.cells hv j u hj
theorem own_other (h:w.ownsRow base e sz v n xs) (hv:v.ownBlock≠some g) (j:Nat) (u:Value):(w.setCell ⟨g,j,none⟩ u).ownsRow base e sz v n xs:=ownsRow_setCell_other h (a:=⟨g,j,none⟩) hv u
theorem own_base {base':Nat} (h:w.ownsRow base e sz v n xs) (hb:base'<=base):w.ownsRow base' e sz v n xs:=by
 obtain⟨h1,h2⟩:=h;refine⟨h1, ?_⟩;rcases h2 with h2 | ⟨g',cap,cur,rfl,hb2,r⟩
 · exact .inl h2
 · exact .inr ⟨g',cap,cur,rfl,by omega,r⟩
theorem own_block {w':World} (h:w.ownsRow base e sz v n xs) (hb : ∀ g,v.ownBlock=some g->w'.heap[g]? = w.heap[g]?):w'.ownsRow base e sz v n xs:=by
 obtain⟨h1,h2⟩:=h;refine⟨h1, ?_⟩;rcases h2 with h2 | ⟨g',cap,cur,rfl,hb2,hg,r⟩
 · exact .inl h2
 · exact .inr ⟨g',cap,cur,rfl,hb2,(hb g' rfl).trans hg,r⟩
theorem own_ne {base' e' sz' n':Nat} {v':Value} {ys:List Value} (h:w.ownsRow base e sz v n xs) (h':w.ownsRow base' e' sz' v' n' ys) (hv:v'.ownBlock=some g) (he:e≠e'):v.ownBlock≠some g:=by
 intro hv2;rcases h.2 with⟨rfl,_⟩ | ⟨g1,cap,cur,rfl,_,hg,_⟩
 · simp [Value.ownBlock] at hv2
 · rcases h'.2 with⟨rfl,_⟩ | ⟨g2,cap',cur',rfl,_,hg',_⟩
   · simp [Value.ownBlock] at hv
   · obtain rfl:g1=g:=by simpa [Value.ownBlock] using hv2
     obtain rfl:g2=g1:=by simpa [Value.ownBlock] using hv
     rw [hg] at hg';injection hg' with hg';injection hg' with _ h2;exact he h2
end
theorem mc_set : ∀ (l:List Raw) (i:Nat) (r:Raw) (K:Option Addr) (c:Nat),l[i]? = some r->(mc l).set (i*7+5) (.slice K r.m.keys.length c)=mc (l.set i ⟨r.m,K,c⟩)
 | r0::l,0,r,K,c,h=>by
  obtain rfl:r0=r:=by simpa using h
  rfl
 | r0::l,i+1,r,K,c,h=>by
  have:=mc_set l i r K c (by simpa using h);unfold mc at this ⊢;rw [List.set_cons_succ,List.flatMap_cons,List.flatMap_cons,<- this,List.set_append_right _ _ (by simp [cell7]; omega)]
  congr 2
  simp [cell7]; omega
theorem map_set_raw {l:List Raw} {i:Nat} {r:Raw} (K:Option Addr) (c:Nat) (h:l[i]? = some r):(l.set i ⟨r.m,K,c⟩).map Raw.m=l.map Raw.m:=by
 rw [List.map_set];refine List.ext_getElem? fun j=>?_;rw [List.getElem?_set];split
 · rename_i e
   subst e;split
   · rw [List.getElem?_map,h]; rfl
   · rename_i hj
     rw [List.getElem?_eq_none (by omega)]
 · rfl
def KO1 (w:World) (base:Nat) (og:Option Nat) (r:Raw):Prop :=
 w.ownsRow base 3 1 (.slice r.K r.m.keys.length r.c) r.m.keys.length (r.m.keys.map (Value.int .i64))/\((Value.slice r.K r.m.keys.length r.c).ownBlock=none\/(Value.slice r.K r.m.keys.length r.c).ownBlock≠og)
def CpPost (bid:ByteArray) (bv bn bh:Int) (wn mn:Nat) (ws:List ByteArray) (ms:List Msg) (w:World) (e:Ending) (w':World):Prop :=
 ∃ vw vm rs,e = .returned (.agg #[.string bid,.int .i64 bv,.int .i64 bn,.int .i64 bh,vw,vm])/\Below w.heap.size w w'/\w'.ownsRow w.heap.size 9 1 vw wn (ws.map Value.string) /\
  w'.ownsRow w.heap.size 61 7 vm mn (mc rs)/\rs.map Raw.m=ms/\∀ r∈rs,KO1 w' w.heap.size vm.ownBlock r
structure PI (bid:ByteArray) (bv bn bh:Int) (w wr:World) (vw vm:Value):Prop where
 bel:Below w.heap.size w wr
 blk:wr.heap[w.heap.size]? = some (.cells #[.string bid,.int .i64 bv,.int .i64 bn,.int .i64 bh,vw,vm] 25 (0,0))
 res:wr.heap[w.heap.size+1]? = some (.cells #[.string ⟨#[]⟩,.int .i64 0,.int .i64 0,.int .i64 0,.slice none 0 0,.slice none 0 0] 25 (0,0))
section
variable {bid : ByteArray} {bv bn bh : Int} {w wr w3 : World} {vw vm : Value}
theorem PI.start (bid:ByteArray) (bv bn bh:Int) (w:World) (vw vm:Value):PI bid bv bn bh w ((w.alloc (.cells #[.string bid,.int .i64 bv,.int .i64 bn,.int .i64 bh,vw,vm] 25)).alloc (.cells #[.string ⟨#[]⟩,.int .i64 0,.int .i64 0,.int .i64 0,.slice none 0 0,.slice none 0 0] 25)) vw vm:=by
 refine⟨((Below.refl _ _).alloc lr_ _).alloc (by simp) _, ?_, ?_⟩
 · exact (heap_alloc_old _ _ (by simp)).trans (heap_alloc_new w _)
 · have:=heap_alloc_new (w.alloc (.cells #[.string bid,.int .i64 bv,.int .i64 bn,.int .i64 bh,vw,vm] 25)) (.cells #[.string ⟨#[]⟩,.int .i64 0,.int .i64 0,.int .i64 0,.slice none 0 0,.slice none 0 0] 25)
   simpa using this
theorem PI.size (h:PI bid bv bn bh w wr vw vm):w.heap.size+2<=wr.heap.size:=(gs_ h.res).1
theorem PI.cells (h:PI bid bv bn bh w wr vw vm):wr.cell? ⟨w.heap.size,0,none⟩ = some (.string bid)/\wr.cell? ⟨w.heap.size,1,none⟩ = some (.int .i64 bv)/\wr.cell? ⟨w.heap.size,2,none⟩ = some (.int .i64 bn) /\
 wr.cell? ⟨w.heap.size,3,none⟩ = some (.int .i64 bh)/\wr.cell? ⟨w.heap.size,4,none⟩ = some vw/\wr.cell? ⟨w.heap.size,5,none⟩ = some vm:=by
 have c : ∀ o,wr.cell? ⟨w.heap.size,o,none⟩ = (#[.string bid,.int .i64 bv,.int .i64 bn,.int .i64 bh,vw,vm]:Array Value)[o]?:=fun o=>cell_of_row wr _ o _ _ _ h.blk;exact⟨(c 0).trans rfl,(c 1).trans rfl,(c 2).trans rfl,(c 3).trans rfl,(c 4).trans rfl,(c 5).trans rfl⟩
theorem PI.free (h:PI bid bv bn bh w wr vw vm) (o:Nat):wr.frozen? ⟨w.heap.size,o,none⟩ = false:=by simp [World.frozen?,h.blk]
theorem PI.room (h:PI bid bv bn bh w wr vw vm):wr.cell? ⟨w.heap.size+1,0,none⟩ = some (.string ⟨#[]⟩)/\wr.cell? ⟨w.heap.size+1,1,none⟩ = some (.int .i64 0)/\wr.cell? ⟨w.heap.size+1,2,none⟩ = some (.int .i64 0) /\
 wr.cell? ⟨w.heap.size+1,3,none⟩ = some (.int .i64 0)/\wr.cell? ⟨w.heap.size+1,4,none⟩ = some (.slice none 0 0)/\wr.cell? ⟨w.heap.size+1,5,none⟩ = some (.slice none 0 0) /\
 wr.frozen? ⟨w.heap.size+1,0,none⟩ = false/\wr.frozen? ⟨w.heap.size+1,1,none⟩ = false/\wr.frozen? ⟨w.heap.size+1,2,none⟩ = false/\wr.frozen? ⟨w.heap.size+1,3,none⟩ = false/\wr.frozen? ⟨w.heap.size+1,4,none⟩ = false/\wr.frozen? ⟨w.heap.size+1,5,none⟩ = false:=by
 have c : ∀ o,wr.cell? ⟨w.heap.size+1,o,none⟩ = (#[.string ⟨#[]⟩,.int .i64 0,.int .i64 0,.int .i64 0,.slice none 0 0,.slice none 0 0]:Array Value)[o]?:=fun o=>cell_of_row wr _ o _ _ _ h.res;have f : ∀ o,wr.frozen? ⟨w.heap.size+1,o,none⟩ = false:=fun o=>by simp [World.frozen?,h.res]
 exact⟨(c 0).trans rfl,(c 1).trans rfl,(c 2).trans rfl,(c 3).trans rfl,(c 4).trans rfl,(c 5).trans rfl,f 0,f 1,f 2,f 3,f 4,f 5⟩
theorem PI.go (h:PI bid bv bn bh w wr vw vm) (hb:Below wr.heap.size wr w3):PI bid bv bn bh w w3 vw vm:=by
 have:=h.size;exact⟨h.bel.trans (hb.mono (by omega)),(hb.block _ (by omega)).trans h.blk,(hb.block _ (by omega)).trans h.res⟩
theorem PI.set4 (h:PI bid bv bn bh w wr vw vm) (v:Value):PI bid bv bn bh w (wr.setCell ⟨w.heap.size,4,none⟩ v) v vm :=
 ⟨h.bel.setCell lr_ _,by simp [World.setCell,Array.getElem?_modify,h.blk],(Below.heap_setCell _ _ _ _ (by show w.heap.size+1≠w.heap.size; omega)).trans h.res⟩
theorem PI.set5 (h:PI bid bv bn bh w wr vw vm) (v:Value):PI bid bv bn bh w (wr.setCell ⟨w.heap.size,5,none⟩ v) vw v :=
 ⟨h.bel.setCell lr_ _,by simp [World.setCell,Array.getElem?_modify,h.blk],(Below.heap_setCell _ _ _ _ (by show w.heap.size+1≠w.heap.size; omega)).trans h.res⟩
theorem PI.ret (h:PI bid bv bn bh w wr vw vm) : ∃ W,W=((((((wr.setCell ⟨w.heap.size+1,0,none⟩ (.string bid)).setCell ⟨w.heap.size+1,1,none⟩ (.int .i64 bv)).setCell ⟨w.heap.size+1,2,none⟩ (.int .i64 bn)).setCell ⟨w.heap.size+1,3,none⟩ (.int .i64 bh)).setCell ⟨w.heap.size+1,4,none⟩ vw).setCell ⟨w.heap.size+1,5,none⟩ vm) /\
 W.cell? ⟨w.heap.size+1,0,none⟩ = some (.string bid)/\W.cell? ⟨w.heap.size+1,1,none⟩ = some (.int .i64 bv)/\W.cell? ⟨w.heap.size+1,2,none⟩ = some (.int .i64 bn) /\
 W.cell? ⟨w.heap.size+1,3,none⟩ = some (.int .i64 bh)/\W.cell? ⟨w.heap.size+1,4,none⟩ = some vw/\W.cell? ⟨w.heap.size+1,5,none⟩ = some vm /\
 Below w.heap.size w W/\∀ b,w.heap.size+2<=b->W.heap[b]? = wr.heap[b]?:=by
 refine⟨_,rfl, ?_⟩;have hb:((((((wr.setCell ⟨w.heap.size+1,0,none⟩ (.string bid)).setCell ⟨w.heap.size+1,1,none⟩ (.int .i64 bv)).setCell ⟨w.heap.size+1,2,none⟩ (.int .i64 bn)).setCell ⟨w.heap.size+1,3,none⟩ (.int .i64 bh)).setCell ⟨w.heap.size+1,4,none⟩ vw).setCell ⟨w.heap.size+1,5,none⟩ vm).heap[w.heap.size+1]? = some (.cells #[.string bid,.int .i64 bv,.int .i64 bn,.int .i64 bh,vw,vm] 25 (0,0)):=by
  simp [World.setCell,Array.getElem?_modify,h.res]
 have c:=fun o=>cell_of_row _ (w.heap.size+1) o _ _ _ hb;refine⟨(c 0).trans rfl,(c 1).trans rfl,(c 2).trans rfl,(c 3).trans rfl,(c 4).trans rfl,(c 5).trans rfl,((((((h.bel.setCell ?_ _).setCell ?_ _).setCell ?_ _).setCell ?_ _).setCell ?_ _).setCell ?_ _),fun b hb=>?_⟩
 iterate 6 (show w.heap.size<=w.heap.size+1; omega)
 iterate 6 rw [Below.heap_setCell _ _ _ _ (by show b≠w.heap.size+1; omega)]
end
structure CI (bid:ByteArray) (bv bn bh:Int) (w wr:World) (B0 k:Nat) (vw vm:Value) (wn mn:Nat) (ws:List ByteArray) (ms:List Msg) (rs:List Raw):Prop where
 pi:PI bid bv bn bh w wr vw vm
 ow:wr.ownsRow (w.heap.size+2) 9 1 vw wn (ws.map Value.string)
 om:wr.ownsRow (w.heap.size+2) 61 7 vm mn (mc rs)
 rm:rs.map Raw.m=ms
 done : ∀ i r,i<k->rs[i]? = some r->KO1 wr (w.heap.size+2) vm.ownBlock r
 old : ∀ i r,k<=i->rs[i]? = some r->IntsAt wr B0 r.K r.m.keys.length r.m.keys
section
variable {bid : ByteArray} {bv bn bh : Int} {w wr w3 : World} {B0 k wn mn : Nat} {vw vm : Value} {wsl : List ByteArray} {msl : List Msg} {rs : List Raw}
theorem CI.len (h:CI bid bv bn bh w wr B0 k vw vm wn mn wsl msl rs):rs.length=mn:=by
 have:=h.om.1;rw [mc_length] at this;omega
theorem CI.go (h:CI bid bv bn bh w wr B0 k vw vm wn mn wsl msl rs) (hB:B0<=w.heap.size) (hb:Below wr.heap.size wr w3):CI bid bv bn bh w w3 B0 k vw vm wn mn wsl msl rs:=by
 have hs:=h.pi.size;refine⟨h.pi.go hb,own_block h.ow fun g e=>hb.block _ (h.ow.lt g e).2,own_block h.om fun g e=>hb.block _ (h.om.lt g e).2,h.rm,fun i r hi hr=>?_,fun i r hi hr=>?_⟩
 · have:=h.done i r hi hr
   exact⟨own_block this.1 fun g e=>hb.block _ (this.1.lt g e).2,this.2⟩
 · exact IntsAt.below (h.old i r hi hr) hb (by omega)
theorem CI.first {vm0:Value} (h:PI bid bv bn bh w wr vw vm0) (ho:wr.ownsRow (w.heap.size+2) 9 1 vw wn (wsl.map Value.string)) (hrm:rs.map Raw.m=msl) (hko:KeysOk wr B0 rs) (hB:B0<=w.heap.size) (hb:Below wr.heap.size wr w3)
 (h3:w3.ownsRow (w.heap.size+2) 61 7 vm mn (mc rs)):CI bid bv bn bh w (w3.setCell ⟨w.heap.size,5,none⟩ vm) B0 0 vw vm wn mn wsl msl rs:=by
 have hs:=h.size;refine⟨(h.go hb).set5 vm,ownsRow_setCell_below (own_block ho fun g e=>hb.block _ (ho.lt g e).2) (by show w.heap.size<_; omega) _,ownsRow_setCell_below h3 (by show w.heap.size<_; omega) _,hrm,fun i r hi _=>absurd hi (Nat.not_lt_zero _),fun i r _ hr=>?_⟩;exact IntsAt.keep (hko r (List.mem_of_getElem? hr)).1 lr_ fun p hp=>World.cell?_of_block (Eq.trans (Below.heap_setCell _ _ _ _ (by show p.block≠w.heap.size; omega)) (hb.block _ (by omega)))
theorem CI.step {g c':Nat} {r:Raw} {K':Option Addr} (h:CI bid bv bn bh w wr B0 k vw vm wn mn wsl msl rs) (hB:B0<=w.heap.size) (hv:vm.ownBlock=some g) (hr:rs[k]? = some r) (hb:Below wr.heap.size wr w3)
 (hown:w3.ownsRow wr.heap.size 3 1 (.slice K' r.m.keys.length c') r.m.keys.length (r.m.keys.map (Value.int .i64))) :
 CI bid bv bn bh w (w3.setCell ⟨g,k*7+5,none⟩ (.slice K' r.m.keys.length c')) B0 (k+1) vw vm wn mn wsl msl (rs.set k ⟨r.m,K',c'⟩):=by
 have h3:=h.go hB hb;have hs:=h.pi.size;have hg:=h.om.lt g hv;have hgs:=h3.pi.size;have hne : ∀ b,b<w.heap.size+2->(w3.setCell ⟨g,k*7+5,none⟩ (.slice K' r.m.keys.length c')).heap[b]? = w3.heap[b]?:=fun b hlt=>Below.heap_setCell _ _ _ _ (by show b≠g; omega);have hKn:(Value.slice K' r.m.keys.length c').ownBlock≠some g:=fun e=>by have:=(hown.lt g e).1; omega
 refine⟨⟨h3.pi.bel.setCell (by show w.heap.size<=g; omega) _,(hne _ (by omega)).trans h3.pi.blk,(hne _ (by omega)).trans h3.pi.res⟩, ?_, ?_, ?_,fun i r' hi hr'=>?_,fun i r' hi hr'=>?_⟩
 · exact own_other h3.ow (own_ne h3.ow h3.om hv (by decide)) _ _
 · rw [<- mc_set rs k r K' c' hr]
   exact own_set h3.om hv _ _
 · rw [map_set_raw K' c' hr]; exact h3.rm
 · by_cases e:i=k
   · subst e
     rw [List.getElem?_set_self (List.getElem?_eq_some_iff.1 hr).1] at hr';obtain rfl:=Option.some.inj hr';exact⟨own_base (own_other hown hKn _ _) (by omega),.inr (by rw [hv]; exact hKn)⟩
   · rw [List.getElem?_set_ne (Ne.symm e)] at hr'
     obtain⟨q1,q2⟩:=h3.done i r' (by omega) hr';refine⟨own_other q1 (fun e2=>?_) _ _,q2⟩;rcases q2 with q2 | q2
     · rw [q2] at e2; cases e2
     · exact q2 (e2.trans hv.symm)
 · rw [List.getElem?_set_ne (by omega)] at hr'
   exact IntsAt.keep (h3.old i r' (by omega) hr') lr_ fun p hp=>World.cell?_of_block (hne p.block (by omega))
theorem CI.post (h:CI bid bv bn bh w wr B0 k vw vm wn mn wsl msl rs) (hk:mn<=k) {w4:World} (hb:Below w.heap.size w w4) (hw : ∀ b,w.heap.size+2<=b->w4.heap[b]? = wr.heap[b]?) :
 CpPost bid bv bn bh wn mn wsl msl w (.returned (.agg #[.string bid,.int .i64 bv,.int .i64 bn,.int .i64 bh,vw,vm])) w4:=by
 refine⟨vw,vm,rs,rfl,hb,own_base (own_block h.ow fun g e=>hw g (h.ow.lt g e).1) (by omega),own_base (own_block h.om fun g e=>hw g (h.om.lt g e).1) (by omega),h.rm,fun r hr=>?_⟩;obtain⟨i,hi⟩:=List.mem_iff_getElem?.1 hr;have hl:=(List.getElem?_eq_some_iff.1 hi).1;have:=h.done i r (by have:=h.len; omega) hi;exact⟨own_base (own_block this.1 fun g e=>hw g (this.1.lt g e).1) (by omega),this.2⟩
end
end Go.Proofs.YtoljpfapphoflaaGreatDoor.BxC
