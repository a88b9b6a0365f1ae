/-
  RwKit + RwOwn
-/
import Derived.Test.YtoljpfapphoflaaGreatDoorN4
import Derived.Test.YtoljpfapphoflaaGreatDoorZ5
set_option linter.unusedVariables false
set_option linter.unusedSimpArgs false
set_option maxRecDepth 512
namespace Go.Proofs.YtoljpfapphoflaaGreatDoor.RwKit
open Go.RowKit BxD BxKit BxR RwD RwM RwF
def rowC (w:World) (B:Nat) (p:Addr) (r:Row):Prop :=
 w.cell? p=some (.int .i64 r.kind)/\w.cell? (fld p 1)=some (.int .i64 r.uid)/\w.cell? (fld p 2)=some (.int .i64 r.mod)/\w.cell? (fld p 3)=some (.int .i64 r.msg.uid)/\w.cell? (fld p 4)=some (.int .i64 r.msg.mod)/\w.cell? (fld p 5)=some (.int .i64 r.msg.date) /\
  w.cell? (fld p 6)=some (.string r.msg.id)/\w.cell? (fld p 7)=some (.int .i64 r.msg.flags)/\(∃ K c,w.cell? (fld p 8)=some (.slice K r.msg.keys.length c)/\r.msg.keys.length<=c/\IntsAt w B K r.msg.keys.length r.msg.keys)/\w.cell? (fld p 9)=some (.string r.msg.text) /\
  w.cell? (fld p 10)=some (.string r.text)/\r.msg.id.size<=140737488355328/\r.msg.text.size<=140737488355328/\r.text.size<=140737488355328
abbrev RowsAt:=RowAt rowC 11
section
variable {w w' : World} {B n : Nat} {A : Option Addr}
theorem rowC.keep {p:Addr} {r:Row} {B':Nat} (h:rowC w B p r) (hB:B<=B') (hp:p.block<B) (hk : ∀ p:Addr,p.block<B->w'.cell? p=w.cell? p):rowC w' B' p r:=by
 obtain⟨h0,h1,h2,h3,h4,h5,h6,h7,⟨K,c,h8,h9,h10⟩,h11,h12,h13⟩:=h;exact⟨(hk _ hp).trans h0,(hk (fld p 1) hp).trans h1,(hk (fld p 2) hp).trans h2,(hk (fld p 3) hp).trans h3,(hk (fld p 4) hp).trans h4,(hk (fld p 5) hp).trans h5,(hk (fld p 6) hp).trans h6,(hk (fld p 7) hp).trans h7,
  ⟨K,c,(hk (fld p 8) hp).trans h8,h9,IntsAt.keep h10 hB hk⟩,(hk (fld p 9) hp).trans h11,(hk (fld p 10) hp).trans h12,h13⟩
theorem RowsAt.keep {l:List Row} {B':Nat} (h:RowsAt w B A n l) (hB:B<=B') (hk : ∀ p:Addr,p.block<B->w'.cell? p=w.cell? p):RowsAt w' B' A n l:=h.map hB fun _ _ hp hc=>rowC.keep hc hB hp hk
theorem RowsAt.below {l:List Row} {B':Nat} (h:RowsAt w B A n l) (hb:Below B' w w') (hB:B<=B'):RowsAt w' B A n l:=RowsAt.keep h lr_ fun _ hp=>hb.cell (by omega)
theorem RowsAt.sp {l:List Row} {wr:World} {B':Nat} (h:RowsAt w B A n l) (hb:Below B' w wr) (hB:B<=B') {j:Nat} (hj:j<n) :
 ∃ ad kd ru rm u md d id fl ks tx t K kn kc,A=some ad/\ad.block<B/\l[j]? = some ⟨kd,ru,rm,⟨u,md,d,id,fl,ks,tx⟩,t⟩/\wr.cell? (ad.add (j*11))=some (.int .i64 kd) /\
  wr.cell? ⟨(ad.add (j*11)).block,(ad.add (j*11)).off+1,none⟩ = some (.int .i64 ru)/\wr.cell? ⟨(ad.add (j*11)).block,(ad.add (j*11)).off+2,none⟩ = some (.int .i64 rm) /\
  wr.cell? ⟨(ad.add (j*11)).block,(ad.add (j*11)).off+3,none⟩ = some (.int .i64 u)/\wr.cell? ⟨(ad.add (j*11)).block,(ad.add (j*11)).off+4,none⟩ = some (.int .i64 md) /\
  wr.cell? ⟨(ad.add (j*11)).block,(ad.add (j*11)).off+5,none⟩ = some (.int .i64 d)/\wr.cell? ⟨(ad.add (j*11)).block,(ad.add (j*11)).off+6,none⟩ = some (.string id) /\
  wr.cell? ⟨(ad.add (j*11)).block,(ad.add (j*11)).off+7,none⟩ = some (.int .i64 fl)/\wr.cell? ⟨(ad.add (j*11)).block,(ad.add (j*11)).off+8,none⟩ = some (.slice K kn kc) /\
  wr.cell? ⟨(ad.add (j*11)).block,(ad.add (j*11)).off+9,none⟩ = some (.string tx)/\wr.cell? ⟨(ad.add (j*11)).block,(ad.add (j*11)).off+10,none⟩ = some (.string t) /\
  kn<=kc/\IntsAt wr B K kn ks/\id.size<=140737488355328/\tx.size<=140737488355328/\t.size<=140737488355328:=by
 obtain⟨ad,⟨kd,ru,rm,⟨u,md,d,id,fl,ks,tx⟩,t⟩,e,hlt,hx,hc⟩:=h.get hj;obtain⟨h0,h1,h2,h3,h4,h5,h6,h7,⟨K,c,h8,h9,h10⟩,h11,h12,h13,h14,h15⟩:=rowC.keep hc lr_ (by rw [add_block]; exact hlt) (fun p hp=>hb.cell (show p.block<B' by omega));exact⟨ad,kd,ru,rm,u,md,d,id,fl,ks,tx,t,K,_,c,e,hlt,hx,h0,h1,h2,h3,h4,h5,h6,h7,h8,h11,h12,h9,h10,h13,h14,h15⟩
end
def Lie (lo hi:Nat) (w:World) (WA:Option Addr) (wn:Nat) (ws:List ByteArray) (MA:Option Addr) (mn:Nat) (ms:List Msg):Prop :=
 ∀ w2:World,hi<=w2.heap.size->(∀ k,lo<=k->k<hi->w2.heap[k]? = w.heap[k]?)->StrsAt w2 hi WA wn ws/\MsgsAt w2 hi MA mn ms
def BoxOut (B:Box) (e:Int) (w:World) (x:Ending) (w':World):Prop :=
 ∃ WA wn wc MA mn mc,x = .returned (.tuple #[.agg #[.string B.id,.int .i64 B.valid,.int .i64 B.next,.int .i64 B.high,.slice WA wn wc,.slice MA mn mc],.int .i64 e])/\wn<=wc/\mn<=mc /\
  Lie w.heap.size w'.heap.size w' WA wn B.words MA mn B.msgs/\Below w.heap.size w w'
def RowsOut (l:List Row) (e:Int) (w:World) (x:Ending) (w':World):Prop :=
 ∃ A n c,x = .returned (.tuple #[.slice A n c,.int .i64 e])/\n<=c/\RowsAt w' w'.heap.size A n l/\Below w.heap.size w w'
section
variable {w wr w2 : World} {P : Nat} {b : Box} {WA MA : Option Addr} {wn wc mn mc : Nat}
end
def put6 (w:World) (P:Nat) (c0 c1 c2 c3 c4 c5:Value):World :=
 (((((w.setCell ⟨P,0,none⟩ c0).setCell ⟨P,1,none⟩ c1).setCell ⟨P,2,none⟩ c2).setCell ⟨P,3,none⟩ c3).setCell ⟨P,4,none⟩ c4).setCell ⟨P,5,none⟩ c5
theorem put6_other {w:World} {P k:Nat} (h:k≠P) (c0 c1 c2 c3 c4 c5:Value):(put6 w P c0 c1 c2 c3 c4 c5).heap[k]? = w.heap[k]?:=by
 unfold put6
 iterate 6 rw [Below.heap_setCell _ _ _ _ (by show k≠P; exact h)]
theorem put6_size (w:World) (P:Nat) (c0 c1 c2 c3 c4 c5:Value):(put6 w P c0 c1 c2 c3 c4 c5).heap.size=w.heap.size:=by
 unfold put6; simp [World.setCell]
theorem six_at {wr:World} {L:Nat} {c0 c1 c2 c3 c4 c5:Value} {t:TypeId} (h:wr.heap[L]? = some (.cells #[c0,c1,c2,c3,c4,c5] t (0,0))) :
 wr.cell? ⟨L,0,none⟩ = some c0/\wr.cell? ⟨L,1,none⟩ = some c1/\wr.cell? ⟨L,2,none⟩ = some c2/\wr.cell? ⟨L,3,none⟩ = some c3/\wr.cell? ⟨L,4,none⟩ = some c4/\wr.cell? ⟨L,5,none⟩ = some c5 /\
  wr.frozen? ⟨L,0,none⟩ = false/\wr.frozen? ⟨L,1,none⟩ = false/\wr.frozen? ⟨L,2,none⟩ = false/\wr.frozen? ⟨L,3,none⟩ = false/\wr.frozen? ⟨L,4,none⟩ = false/\wr.frozen? ⟨L,5,none⟩ = false:=by
 have c : ∀ o,wr.cell? ⟨L,o,none⟩ = (#[c0,c1,c2,c3,c4,c5]:Array Value)[o]?:=fun o=>cell_of_row wr L o _ _ _ h;have f : ∀ o,wr.frozen? ⟨L,o,none⟩ = false:=fun o=>by simp [World.frozen?,h]
 exact⟨(c 0).trans rfl,(c 1).trans rfl,(c 2).trans rfl,(c 3).trans rfl,(c 4).trans rfl,(c 5).trans rfl,f 0,f 1,f 2,f 3,f 4,f 5⟩
end Go.Proofs.YtoljpfapphoflaaGreatDoor.RwKit

set_option maxRecDepth 512
namespace Go.Proofs.YtoljpfapphoflaaGreatDoor.RwOwn
open Go.RowKit BxD BxKit BxA BxR BxC RwD RwKit
theorem own_ne_blk {w:World} {base e sz n P:Nat} {v:Value} {xs:List Value} {cs:Array Value} {t:TypeId} {fr:Nat × Nat} (h:w.ownsRow base e sz v n xs) (hp:w.heap[P]? = some (.cells cs t fr)) (he:e≠t):v.ownBlock≠some P:=by
 intro hv;rcases h.2 with⟨rfl,_⟩ | ⟨g1,cap,cur,rfl,_,hg,_⟩
 · simp [Value.ownBlock] at hv
 · obtain rfl:g1=P:=by simpa [Value.ownBlock] using hv
   rw [hp] at hg;injection hg with hg;injection hg with _ h2;exact he h2.symm
structure OB (w:World) (base:Nat) (b:Box) (vw vm:Value) (rs:List Raw):Prop where
 ow:w.ownsRow base 9 1 vw b.words.length (b.words.map Value.string)
 om:w.ownsRow base 61 7 vm b.msgs.length (mc rs)
 rm:rs.map Raw.m=b.msgs
 ko : ∀ r∈rs,w.ownsRow base 3 1 (.slice r.K r.m.keys.length r.c) r.m.keys.length (r.m.keys.map (Value.int .i64))
section
variable {w w2 : World} {base : Nat} {b : Box} {vw vm : Value} {rs : List Raw}
theorem OB.map (h:OB w base b vw vm rs) (hw : ∀ g,base<=g->g<w.heap.size->w2.heap[g]? = w.heap[g]?):OB w2 base b vw vm rs :=
 ⟨own_block h.ow fun g e=>hw g (h.ow.lt g e).1 (h.ow.lt g e).2,own_block h.om fun g e=>hw g (h.om.lt g e).1 (h.om.lt g e).2,h.rm,fun r hr=>own_block (h.ko r hr) fun g e=>hw g ((h.ko r hr).lt g e).1 ((h.ko r hr).lt g e).2⟩
theorem OB.go (h:OB w base b vw vm rs) (hb:Below w.heap.size w w2):OB w2 base b vw vm rs:=h.map fun g _ hg=>hb.block g hg
theorem OB.rl (h:OB w base b vw vm rs):rs.length=b.msgs.length:=by rw [<- h.rm,List.length_map]
theorem OB.set (h:OB w base b vw vm rs) {P i:Nat} {cs:Array Value} (hp:w.heap[P]? = some (.cells cs 25 (0,0))) (u:Value):OB (w.setCell ⟨P,i,none⟩ u) base b vw vm rs :=
 ⟨own_other h.ow (own_ne_blk h.ow hp (by decide)) _ _,own_other h.om (own_ne_blk h.om hp (by decide)) _ _,h.rm,fun r hr=>own_other (h.ko r hr) (own_ne_blk (h.ko r hr) hp (by decide)) _ _⟩
theorem OB.heads (h:OB w base b vw vm rs) (v n hi:Int):OB w base ⟨b.id,v,n,hi,b.words,b.msgs⟩ vw vm rs:=⟨h.ow,h.om,h.rm,h.ko⟩
theorem OB.none (w:World) (base:Nat):OB w base noB (.slice none 0 0) (.slice none 0 0) []:=⟨World.ownsRow_nil _ _ _ _,World.ownsRow_nil _ _ _ _,rfl,fun r hr=>by simp at hr⟩
theorem OB.word (h:OB w base b vw vm rs) {v':Value} {x:ByteArray} (ho:w2.ownsRow base 9 1 v' (b.words.length+1) (b.words.map Value.string++[.string x])) (hg:w.grownBy w2 vw.ownBlock) :
 OB w2 base ⟨b.id,b.valid,b.next,b.high,b.words++[x],b.msgs⟩ v' vm rs:=by
 refine⟨?_,own_block h.om fun g e=>hg.block g (h.om.lt g e).2 fun e2=>own_ne h.om h.ow e2.symm (by decide) e,h.rm,fun r hr=>own_block (h.ko r hr) fun g e=>hg.block g ((h.ko r hr).lt g e).2 fun e2=>own_ne (h.ko r hr) h.ow e2.symm (by decide) e⟩;simpa using ho
theorem OB.msgs (h:OB w base b vw vm rs) {v':Value} {rs':List Raw} {ms':List Msg} (ho:w2.ownsRow base 61 7 v' ms'.length (mc rs')) (hr:rs'.map Raw.m=ms') (hg:w.grownBy w2 vm.ownBlock)
 (hk : ∀ r∈rs',r∈rs\/(w.ownsRow base 3 1 (.slice r.K r.m.keys.length r.c) r.m.keys.length (r.m.keys.map (Value.int .i64)))) (hi nx:Int) :
 OB w2 base ⟨b.id,b.valid,nx,hi,b.words,ms'⟩ vw v' rs':=by
 refine⟨own_block h.ow fun g e=>hg.block g (h.ow.lt g e).2 fun e2=>own_ne h.ow h.om e2.symm (by decide) e,ho,hr,fun r hm=>?_⟩;have hK:=(hk r hm).elim (fun h1=>h.ko r h1) id;exact own_block hK fun g e=>hg.block g (hK.lt g e).2 fun e2=>own_ne hK h.om e2.symm (by decide) e
end
theorem strsAt_ownB {w:World} {base n B:Nat} {A:Option Addr} {cp:Nat} {l:List ByteArray} (h:w.ownsRow base 9 1 (.slice A n cp) n (l.map Value.string)) (hB : ∀ g,(Value.slice A n cp).ownBlock=some g->g<B) (hn:n<=140737488355328) (hz : ∀ x∈l,x.size<=140737488355328):StrsAt w B A n l:=by
 have hl:=h.1;rw [List.length_map] at hl;refine⟨by omega,hn,fun hn=>?_⟩;obtain⟨g,cap,hv,_,hlt⟩:=own_form h hn;have hA:A=some ⟨g,0,none⟩:=by injection hv
 subst hA;exact⟨_,rfl,hB g rfl,fun j c hj=>⟨by rw [Nat.mul_one]; exact h.cells (g:=g) rfl _ _ (by rw [List.getElem?_map,hj]; rfl),hz c (List.mem_of_getElem? hj)⟩⟩
theorem intsAt_ownB {w:World} {base n B:Nat} {A:Option Addr} {cp:Nat} {l:List Int} (h:w.ownsRow base 3 1 (.slice A n cp) n (l.map (Value.int .i64))) (hB : ∀ g,(Value.slice A n cp).ownBlock=some g->g<B) (hn:n<=140737488355328):IntsAt w B A n l:=by
 have hl:=h.1;rw [List.length_map] at hl;refine⟨by omega,hn,fun hn=>?_⟩;obtain⟨g,cap,hv,_,hlt⟩:=own_form h hn;have hA:A=some ⟨g,0,none⟩:=by injection hv
 subst hA;exact⟨_,rfl,hB g rfl,fun j c hj=>by unfold intC; rw [Nat.mul_one]; exact h.cells (g:=g) rfl _ _ (by rw [List.getElem?_map,hj]; rfl)⟩
theorem msgsAt_ownB {w:World} {base n B:Nat} {A:Option Addr} {cp:Nat} {rs:List Raw} (h:w.ownsRow base 61 7 (.slice A n cp) n (mc rs)) (hB : ∀ g,(Value.slice A n cp).ownBlock=some g->g<B) (hn:n<=140737488355328)
 (hk : ∀ r∈rs,IntsAt w B r.K r.m.keys.length r.m.keys/\r.m.keys.length<=r.c/\r.m.id.size<=140737488355328/\r.m.text.size<=140737488355328):MsgsAt w B A n (rs.map Raw.m):=by
 have hl:=h.1;rw [mc_length] at hl;refine⟨by rw [List.length_map]; omega,hn,fun hn=>?_⟩;obtain⟨g,cap,hv,_,hlt⟩:=own_form h hn;have hA:A=some ⟨g,0,none⟩:=by injection hv
 subst hA;refine⟨_,rfl,hB g rfl,fun j m hj=>?_⟩;rw [List.getElem?_map] at hj;cases hr:rs[j]? with
 | none=>rw [hr] at hj; cases hj
 | some r =>
  rw [hr] at hj;obtain rfl:r.m=m:=Option.some.inj hj;have hc : ∀ f,f<7->∀ u,(cell7 r)[f]? = some u->w.cell? ⟨g,j*7+f,none⟩=some u:=fun f hf u hu=>by
   have:=h.cells (g:=g) rfl (j*7+f) u (by rw [mc_get rs j f r hr hf,hu])
   rwa [add_new] at this
  obtain⟨k1,k2,k3,k4⟩:=hk r (List.mem_of_getElem? hr);rw [add_new];exact⟨hc 0 (by decide) _ rfl,hc 1 (by decide) _ rfl,hc 2 (by decide) _ rfl,hc 3 (by decide) _ rfl,hc 4 (by decide) _ rfl,⟨r.K,r.c,hc 5 (by decide) _ rfl,k2,k1⟩,hc 6 (by decide) _ rfl,k3,k4⟩
structure Fit (b:Box):Prop where
 id:b.id.size<=140737488355328
 wl:b.words.length<=64
 ml:b.msgs.length<=60
 ws : ∀ x∈b.words,x.size<=140737488355328
 ms : ∀ m∈b.msgs,m.keys.length<=60000/\m.id.size<=140737488355328/\m.text.size<=140737488355328
theorem atB_size {s:ByteArray} (h:atB s=true):s.size<=24:=by
 unfold atB at h;simp only [Bool.and_eq_true,decide_eq_true_eq] at h;omega
theorem keys_le {ks:List Int} {n:Nat} (h:keysB ks n=true):ks.length<=n:=by
 obtain⟨h1,h2⟩:=(keysB_iff ks n).1 h;have : ∀ (l:List Int) (a:Int),(∀ k∈l,a<=k/\k<(n:Int))->l.Pairwise (· < ·)->(l.length:Int)<=max 0 ((n:Int)-a):=by
  intro l;induction l with
  | nil=>intro a _ _; simp; omega
  | cons x l ih =>
   intro a ha hp;rw [List.pairwise_cons] at hp;have hx:=ha x (by simp);have:=ih (x+1) (fun k hk=>⟨by have:=hp.1 k hk; omega,(ha k (by simp [hk])).2⟩) hp.2;rw [List.length_cons]
   push_cast
   omega
 have:=this ks 0 h1 h2;omega
theorem fit_of {b:Box} (h:mbE b=0):Fit b:=by
 obtain⟨h1,h2,h3,h4,h5,h6⟩:=(mb_iff b).1 h;obtain⟨p1,p2,_⟩:=head_parts h1;refine⟨by omega,h2,h3,fun x hx=>by have:=atB_size (((wordsB_iff _).1 h4).1 x hx); omega,fun m hm=>?_⟩;obtain⟨_,_,_,q4,_,q6,q7⟩:=mm_parts (h5 m hm).1;have:=atB_size q4;have:=keys_le q6;omega
theorem OB.at_ {w:World} {base:Nat} {b:Box} {WA MA:Option Addr} {wc mc':Nat} {rs:List Raw} (h:OB w base b (.slice WA b.words.length wc) (.slice MA b.msgs.length mc') rs) (f:Fit b) {B:Nat} (hB : ∀ g,base<=g->g<w.heap.size->g<B) :
 StrsAt w B WA b.words.length b.words/\MsgsAt w B MA b.msgs.length b.msgs:=by
 have h1:=f.wl;have h2:=f.ml;refine⟨strsAt_ownB h.ow (fun g e=>hB g (h.ow.lt g e).1 (h.ow.lt g e).2) (by omega) f.ws, ?_⟩;have:=msgsAt_ownB h.om (fun g e=>hB g (h.om.lt g e).1 (h.om.lt g e).2) (by omega) (fun r hr=>by
  obtain⟨f1,f2,f3⟩:=f.ms r.m (by rw [<- h.rm]; exact List.mem_map_of_mem hr);obtain⟨A,cp,hv,hc⟩:=own_slice (h.ko r hr);injection hv with _ _ hv3;exact⟨intsAt_ownB (h.ko r hr) (fun g e=>hB g ((h.ko r hr).lt g e).1 ((h.ko r hr).lt g e).2) (by omega),by omega,f2,f3⟩)
 rwa [h.rm] at this
theorem OB.slices {w:World} {base:Nat} {b:Box} {vw vm:Value} {rs:List Raw} (h:OB w base b vw vm rs) : ∃ WA wc MA mc',vw = .slice WA b.words.length wc/\vm = .slice MA b.msgs.length mc'/\b.words.length<=wc/\b.msgs.length<=mc':=by
 obtain⟨A,c,e,h1⟩:=own_slice h.ow;obtain⟨A2,c2,e2,h2⟩:=own_slice h.om;exact⟨A,c,A2,c2,e,e2,h1,h2⟩
structure SB (w wr:World) (base P R:Nat) (b:Box) (vw vm:Value) (rs:List Raw):Prop where
 bel:Below base w wr
 hb:base<=w.heap.size
 hP:w.heap.size<=P
 hR:w.heap.size<=R
 ne:P≠R
 blk:wr.heap[P]? = some (.cells #[.string b.id,.int .i64 b.valid,.int .i64 b.next,.int .i64 b.high,vw,vm] 25 (0,0))
 res:wr.heap[R]? = some (.cells #[.string ⟨#[]⟩,.int .i64 0,.int .i64 0,.int .i64 0,.slice none 0 0,.slice none 0 0] 25 (0,0))
 own:OB wr base b vw vm rs
 ty : ∀ (k:Nat) (cs:Array Value) (t:TypeId) (fr:Nat × Nat),w.heap[k]? = some (.cells cs t fr)->t≠9->t≠61->wr.heap[k]? = w.heap[k]?
section
variable {w wr w2 : World} {base P R : Nat} {b : Box} {vw vm : Value} {rs : List Raw}
theorem SB.ltP (h:SB w wr base P R b vw vm rs):P<wr.heap.size:=(gs_ h.blk).1
theorem SB.ltR (h:SB w wr base P R b vw vm rs):R<wr.heap.size:=(gs_ h.res).1
theorem SB.go (h:SB w wr base P R b vw vm rs) (hb:Below wr.heap.size wr w2):SB w w2 base P R b vw vm rs :=
 ⟨h.bel.trans (hb.mono (Nat.le_trans h.hb (Nat.le_trans h.hP (Nat.le_of_lt h.ltP)))),h.hb,h.hP,h.hR,h.ne,(hb.block P h.ltP).trans h.blk,(hb.block R h.ltR).trans h.res,h.own.go hb,fun k cs t fr hk h1 h2=>(hb.block k (by have:=(gs_ hk).1; have:=h.hP; have:=h.ltP; omega)).trans (h.ty k cs t fr hk h1 h2)⟩
theorem SB.base_le (h:SB w wr base P R b vw vm rs):base<=wr.heap.size:=Nat.le_trans h.hb (Nat.le_trans h.hP (Nat.le_of_lt h.ltP))
theorem SB.alloc (h:SB w wr base P R b vw vm rs) (o:Obj):SB w (wr.alloc o) base P R b vw vm rs:=h.go ((Below.refl _ _).alloc lr_ o)
theorem SB.facts (h:SB w wr base P R b vw vm rs):wr.cell? ⟨P,0,none⟩ = some (.string b.id)/\wr.cell? ⟨P,1,none⟩ = some (.int .i64 b.valid)/\wr.cell? ⟨P,2,none⟩ = some (.int .i64 b.next)/\wr.cell? ⟨P,3,none⟩ = some (.int .i64 b.high)/\wr.cell? ⟨P,4,none⟩ = some vw/\wr.cell? ⟨P,5,none⟩ = some vm:=by
 obtain⟨a0,a1,a2,a3,a4,a5,_⟩:=six_at h.blk;exact⟨a0,a1,a2,a3,a4,a5⟩
theorem SB.free (h:SB w wr base P R b vw vm rs) (i:Nat):wr.frozen? ⟨P,i,none⟩ = false:=by simp [World.frozen?,h.blk]
theorem SB.room (h:SB w wr base P R b vw vm rs):wr.cell? ⟨R,0,none⟩ = some (.string ⟨#[]⟩)/\wr.cell? ⟨R,1,none⟩ = some (.int .i64 0)/\wr.cell? ⟨R,2,none⟩ = some (.int .i64 0)/\wr.cell? ⟨R,3,none⟩ = some (.int .i64 0)/\wr.cell? ⟨R,4,none⟩ = some (.slice none 0 0)/\wr.cell? ⟨R,5,none⟩ = some (.slice none 0 0) /\
 wr.frozen? ⟨R,0,none⟩ = false/\wr.frozen? ⟨R,1,none⟩ = false/\wr.frozen? ⟨R,2,none⟩ = false/\wr.frozen? ⟨R,3,none⟩ = false/\wr.frozen? ⟨R,4,none⟩ = false/\wr.frozen? ⟨R,5,none⟩ = false:=six_at h.res
def WO (c:Box) (er:Int) (base:Nat) (w:World) (e:Ending) (w':World):Prop :=
 ∃ vw vm rs,e = .returned (.tuple #[.agg #[.string c.id,.int .i64 c.valid,.int .i64 c.next,.int .i64 c.high,vw,vm],.int .i64 er])/\OB w' base c vw vm rs/\Below base w w' /\
  ∀ (k:Nat) (cs:Array Value) (t:TypeId) (fr:Nat × Nat),w.heap[k]? = some (.cells cs t fr)->t≠9->t≠61->w'.heap[k]? = w.heap[k]?
theorem SB.ret (h:SB w wr base P R b vw vm rs) (er:Int) : ∃ W,W=put6 wr R (.string b.id) (.int .i64 b.valid) (.int .i64 b.next) (.int .i64 b.high) vw vm /\
 W.cell? ⟨R,0,none⟩ = some (.string b.id)/\W.cell? ⟨R,1,none⟩ = some (.int .i64 b.valid)/\W.cell? ⟨R,2,none⟩ = some (.int .i64 b.next)/\W.cell? ⟨R,3,none⟩ = some (.int .i64 b.high)/\W.cell? ⟨R,4,none⟩ = some vw/\W.cell? ⟨R,5,none⟩ = some vm /\
 WO b er base w (.returned (.tuple #[.agg #[.string b.id,.int .i64 b.valid,.int .i64 b.next,.int .i64 b.high,vw,vm],.int .i64 er])) W:=by
 refine⟨_,rfl, ?_⟩;have hR:(put6 wr R (.string b.id) (.int .i64 b.valid) (.int .i64 b.next) (.int .i64 b.high) vw vm).heap[R]? = some (.cells #[.string b.id,.int .i64 b.valid,.int .i64 b.next,.int .i64 b.high,vw,vm] 25 (0,0)):=by
  unfold put6; simp [World.setCell,Array.getElem?_modify,h.res]
 obtain⟨a0,a1,a2,a3,a4,a5,_⟩:=six_at hR;have hbR:base<=R:=Nat.le_trans h.hb h.hR;refine⟨a0,a1,a2,a3,a4,a5,vw,vm,rs,rfl, ?_, ?_,fun k cs t fr hk h1 h2=>(put6_other (by have:=(gs_ hk).1; have:=h.hR; omega) _ _ _ _ _ _).trans (h.ty k cs t fr hk h1 h2)⟩
 · have ne : ∀ {e sz n:Nat} {v:Value} {xs:List Value},wr.ownsRow base e sz v n xs->e≠25->(put6 wr R (.string b.id) (.int .i64 b.valid) (.int .i64 b.next) (.int .i64 b.high) vw vm).ownsRow base e sz v n xs:=fun hx he =>
    own_block hx fun g e=>put6_other (fun e2=>own_ne_blk hx h.res he (by rw [<- e2]; exact e)) _ _ _ _ _ _
   exact⟨ne h.own.ow (by decide),ne h.own.om (by decide),h.own.rm,fun r hr=>ne (h.own.ko r hr) (by decide)⟩
 · unfold put6
   exact (((((h.bel.setCell hbR _).setCell hbR _).setCell hbR _).setCell hbR _).setCell hbR _).setCell hbR _
theorem SB.err (h:SB w wr base P R b vw vm rs) (er:Int) : ∃ W,W=put6 wr R (.string ⟨#[]⟩) (.int .i64 0) (.int .i64 0) (.int .i64 0) (.slice none 0 0) (.slice none 0 0) /\
 W.cell? ⟨R,0,none⟩ = some (.string ⟨#[]⟩)/\W.cell? ⟨R,1,none⟩ = some (.int .i64 0)/\W.cell? ⟨R,2,none⟩ = some (.int .i64 0)/\W.cell? ⟨R,3,none⟩ = some (.int .i64 0)/\W.cell? ⟨R,4,none⟩ = some (.slice none 0 0)/\W.cell? ⟨R,5,none⟩ = some (.slice none 0 0) /\
 WO noB er base w (.returned (.tuple #[.agg #[.string ⟨#[]⟩,.int .i64 0,.int .i64 0,.int .i64 0,.slice none 0 0,.slice none 0 0],.int .i64 er])) W:=by
 refine⟨_,rfl, ?_⟩;have hR:(put6 wr R (.string ⟨#[]⟩) (.int .i64 0) (.int .i64 0) (.int .i64 0) (.slice none 0 0) (.slice none 0 0)).heap[R]? = some (.cells #[.string ⟨#[]⟩,.int .i64 0,.int .i64 0,.int .i64 0,.slice none 0 0,.slice none 0 0] 25 (0,0)):=by
  unfold put6; simp [World.setCell,Array.getElem?_modify,h.res]
 obtain⟨a0,a1,a2,a3,a4,a5,_⟩:=six_at hR;have hbR:base<=R:=Nat.le_trans h.hb h.hR;refine⟨a0,a1,a2,a3,a4,a5,_,_,[],rfl,OB.none _ _, ?_,fun k cs t fr hk h1 h2=>(put6_other (by have:=(gs_ hk).1; have:=h.hR; omega) _ _ _ _ _ _).trans (h.ty k cs t fr hk h1 h2)⟩;unfold put6;exact (((((h.bel.setCell hbR _).setCell hbR _).setCell hbR _).setCell hbR _).setCell hbR _).setCell hbR _
theorem SB.keepR (h:SB w wr base P R b vw vm rs) (i:Nat) (u:Value):(wr.setCell ⟨P,i,none⟩ u).heap[R]? = wr.heap[R]?:=Below.heap_setCell _ _ _ _ (by show R≠P; exact h.ne.symm)
theorem SB.set2 (h:SB w wr base P R b vw vm rs) (n:Int):SB w (wr.setCell ⟨P,2,none⟩ (.int .i64 n)) base P R ⟨b.id,b.valid,n,b.high,b.words,b.msgs⟩ vw vm rs :=
 ⟨h.bel.setCell (Nat.le_trans h.hb h.hP) _,h.hb,h.hP,h.hR,h.ne,by simp [World.setCell,Array.getElem?_modify,h.blk],(h.keepR _ _).trans h.res,(h.own.set h.blk _).heads _ _ _,fun k cs t fr hk h1 h2=>(Below.heap_setCell _ _ _ _ (by have:=(gs_ hk).1; have:=h.hP; show k≠P; omega)).trans (h.ty k cs t fr hk h1 h2)⟩
theorem SB.set3 (h:SB w wr base P R b vw vm rs) (n:Int):SB w (wr.setCell ⟨P,3,none⟩ (.int .i64 n)) base P R ⟨b.id,b.valid,b.next,n,b.words,b.msgs⟩ vw vm rs :=
 ⟨h.bel.setCell (Nat.le_trans h.hb h.hP) _,h.hb,h.hP,h.hR,h.ne,by simp [World.setCell,Array.getElem?_modify,h.blk],(h.keepR _ _).trans h.res,(h.own.set h.blk _).heads _ _ _,fun k cs t fr hk h1 h2=>(Below.heap_setCell _ _ _ _ (by have:=(gs_ hk).1; have:=h.hP; show k≠P; omega)).trans (h.ty k cs t fr hk h1 h2)⟩
theorem SB.blocks (h:SB w wr base P R b vw vm rs) {v:Value} (hv : ∀ g,v.ownBlock=some g->base<=g) (hP:v.ownBlock≠some P) (hR:v.ownBlock≠some R) (hg:wr.grownBy w2 v.ownBlock) :
 Below base w w2/\w2.heap[P]? = wr.heap[P]?/\w2.heap[R]? = wr.heap[R]? :=
 ⟨h.bel.grown hg h.base_le hv,hg.block P h.ltP hP.symm,hg.block R h.ltR hR.symm⟩
theorem SB.tyV (h:SB w wr base P R b vw vm rs) {v:Value} {e:TypeId} {sz n:Nat} {xs:List Value} (ho:wr.ownsRow base e sz v n xs) (he:e=9\/e=61) (hg:wr.grownBy w2 v.ownBlock) (k:Nat) (cs:Array Value) (t:TypeId) (fr:Nat × Nat) (hk:w.heap[k]? = some (.cells cs t fr)) (h1:t≠9) (h2:t≠61):w2.heap[k]? = w.heap[k]?:=by
 have hr:=h.ty k cs t fr hk h1 h2;have hlt:=(gs_ (hr.trans hk)).1;refine (hg.block k hlt (Ne.symm (own_ne_blk ho (hr.trans hk) ?_))).trans hr;rcases he with rfl | rfl
 · exact Ne.symm h1
 · exact Ne.symm h2
theorem SB.word (h:SB w wr base P R b vw vm rs) {v':Value} {x:ByteArray} (ho:w2.ownsRow base 9 1 v' (b.words.length+1) (b.words.map Value.string++[.string x])) (hg:wr.grownBy w2 vw.ownBlock) :
 SB w (w2.setCell ⟨P,4,none⟩ v') base P R ⟨b.id,b.valid,b.next,b.high,b.words++[x],b.msgs⟩ v' vm rs:=by
 obtain⟨k1,k2,k3⟩:=h.blocks (fun g e=>(h.own.ow.lt g e).1) (own_ne_blk h.own.ow h.blk (by decide)) (own_ne_blk h.own.ow h.res (by decide)) hg;have k4:=k2.trans h.blk;refine⟨k1.setCell (Nat.le_trans h.hb h.hP) _,h.hb,h.hP,h.hR,h.ne,by simp [World.setCell,Array.getElem?_modify,k4], ?_,(h.own.word ho hg).set k4 _,fun k cs t fr hk h1 h2=>(Below.heap_setCell _ _ _ _ (by have:=(gs_ hk).1; have:=h.hP; show k≠P; omega)).trans (h.tyV h.own.ow (.inl rfl) hg k cs t fr hk h1 h2)⟩;exact (Below.heap_setCell _ _ _ _ (by show R≠P; exact h.ne.symm)).trans (k3.trans h.res)
theorem SB.msgs (h:SB w wr base P R b vw vm rs) {v':Value} {rs':List Raw} {ms':List Msg} (ho:w2.ownsRow base 61 7 v' ms'.length (mc rs')) (hr:rs'.map Raw.m=ms') (hg:wr.grownBy w2 vm.ownBlock)
 (hk : ∀ r∈rs',r∈rs\/(wr.ownsRow base 3 1 (.slice r.K r.m.keys.length r.c) r.m.keys.length (r.m.keys.map (Value.int .i64)))) :
 SB w (w2.setCell ⟨P,5,none⟩ v') base P R ⟨b.id,b.valid,b.next,b.high,b.words,ms'⟩ vw v' rs':=by
 obtain⟨k1,k2,k3⟩:=h.blocks (fun g e=>(h.own.om.lt g e).1) (own_ne_blk h.own.om h.blk (by decide)) (own_ne_blk h.own.om h.res (by decide)) hg;have k4:=k2.trans h.blk;refine⟨k1.setCell (Nat.le_trans h.hb h.hP) _,h.hb,h.hP,h.hR,h.ne,by simp [World.setCell,Array.getElem?_modify,k4], ?_,(h.own.msgs ho hr hg hk b.high b.next).set k4 _,fun k cs t fr hk h1 h2=>(Below.heap_setCell _ _ _ _ (by have:=(gs_ hk).1; have:=h.hP; show k≠P; omega)).trans (h.tyV h.own.om (.inr rfl) hg k cs t fr hk h1 h2)⟩;exact (Below.heap_setCell _ _ _ _ (by show R≠P; exact h.ne.symm)).trans (k3.trans h.res)
theorem SB.over (h:SB w wr base P R b vw vm rs) {rs':List Raw} {ms':List Msg} (hl:ms'.length=b.msgs.length) (ho:w2.ownsRow base 61 7 vm b.msgs.length (mc rs')) (hr:rs'.map Raw.m=ms') (hg:wr.grownBy w2 vm.ownBlock)
 (hk : ∀ r∈rs',r∈rs\/(wr.ownsRow base 3 1 (.slice r.K r.m.keys.length r.c) r.m.keys.length (r.m.keys.map (Value.int .i64)))) :
 SB w w2 base P R ⟨b.id,b.valid,b.next,b.high,b.words,ms'⟩ vw vm rs':=by
 obtain⟨k1,k2,k3⟩:=h.blocks (fun g e=>(h.own.om.lt g e).1) (own_ne_blk h.own.om h.blk (by decide)) (own_ne_blk h.own.om h.res (by decide)) hg;exact⟨k1,h.hb,h.hP,h.hR,h.ne,k2.trans h.blk,k3.trans h.res,h.own.msgs (by rw [hl]; exact ho) hr hg hk b.high b.next,h.tyV h.own.om (.inr rfl) hg⟩
theorem SB.midW (h:SB w wr base P R b vw vm rs) (hg:wr.grownBy w2 vw.ownBlock):w2.heap[P]? = some (.cells #[.string b.id,.int .i64 b.valid,.int .i64 b.next,.int .i64 b.high,vw,vm] 25 (0,0)) :=
 (h.blocks (fun g e=>(h.own.ow.lt g e).1) (own_ne_blk h.own.ow h.blk (by decide)) (own_ne_blk h.own.ow h.res (by decide)) hg).2.1.trans h.blk
theorem SB.midM (h:SB w wr base P R b vw vm rs) (hg:wr.grownBy w2 vm.ownBlock):w2.heap[P]? = some (.cells #[.string b.id,.int .i64 b.valid,.int .i64 b.next,.int .i64 b.high,vw,vm] 25 (0,0)) :=
 (h.blocks (fun g e=>(h.own.om.lt g e).1) (own_ne_blk h.own.om h.blk (by decide)) (own_ne_blk h.own.om h.res (by decide)) hg).2.1.trans h.blk
end
end Go.Proofs.YtoljpfapphoflaaGreatDoor.RwOwn
