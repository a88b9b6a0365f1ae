/-
  RkK + RkP + RkQ + RkE
-/
import Derived.Test.YtoljpfapphoflaaGreatDoorR1
import Derived.Test.YtoljpfapphoflaaGreatDoorJ1
import Derived.Deep.LoopGhost
import Derived.Deep.DeepCutAuto
import Derived.WalkLawsBesides
import Derived.Outline
import Derived.Lib.AppendZeros
import Derived.Laws.MakeOwn
import Derived.Deep.QuietTactic
import Derived.BigQuiet
import Derived.RegionTactic
set_option linter.unusedVariables false
set_option linter.unusedSimpArgs false
set_option maxRecDepth 100000
namespace Go.Proofs.YtoljpfapphoflaaGreatDoor.RkK
open Go.RowKit BxD BxKit RkO RkC RkD RkR
theorem elF:El 100 144 (.agg #[.string ⟨#[]⟩,.slice none 0 0]) 2 40:=⟨Tryz.underlying100,by kernel_rfl,rfl,by decide⟩
theorem elC:El 43 81 (.agg #[.string ⟨#[]⟩,.bool false,.slice none 0 0]) 3 48:=⟨Tryz.underlying43,by kernel_rfl,rfl,by decide⟩
def KeepT (w:World) (k:Nat):Prop:=∃ cs t fr,w.heap[k]? = some (.cells cs t fr)/\(t=144\/t=5)
def Kp (w w':World):Prop:=∀ k,KeepT w k->w'.heap[k]? = w.heap[k]?
theorem KeepT.lt {w:World} {k:Nat} (h:KeepT w k):k<w.heap.size:=by obtain⟨cs,t,fr,h,_⟩:=h; exact (gs_ h).1
theorem KeepT.kp {w w':World} {k:Nat} (h:KeepT w k) (hk:Kp w w'):KeepT w' k:=by
 have e:=hk k h;obtain⟨cs,t,fr,h,ht⟩:=h;exact⟨cs,t,fr,e.trans h,ht⟩
theorem Kp.trans {a b c:World} (h:Kp a b) (k:Kp b c):Kp a c:=fun i hi=>(k i (hi.kp h)).trans (h i hi)
theorem Kp.below {w w':World} {B:Nat} (h:Below B w w') (hB:w.heap.size<=B):Kp w w':=fun k hk=>h.block k (by have:=hk.lt; omega)
theorem Kp.alloc (w:World) (o:Obj):Kp w (w.alloc o):=Kp.below ((Below.refl w.heap.size w).alloc lr_ o) lr_
theorem Kp.drew {w w':World} (h:Kp w w'):Kp w w'.drew:=h
theorem Kp.grown {w w':World} {r:Option Nat} (h:w.grownBy w' r) (hr : ∀ g,r=some g->∃ cs t fr,w.heap[g]? = some (.cells cs t fr)/\t≠144/\t≠5):Kp w w':=by
 intro k hk;refine h.block k hk.lt fun e=>?_;obtain⟨cs,t,fr,h1,h2,h3⟩:=hr k e.symm;obtain⟨cs',t',fr',h1',h4⟩:=hk;rw [h1] at h1';injection h1' with h1';injection h1' with _ e2;subst e2;rcases h4 with h4 | h4
 · exact h2 h4
 · exact h3 h4
theorem Kp.setCell {w:World} {T:Nat} {t:TypeId} {l:List Value} (h:Row w T t l) (h1:t≠144) (h2:t≠5) (i:Nat) (u:Value):Kp w (w.setCell ⟨T,i,none⟩ u) :=
 Kp.grown (setCell_grown w ⟨T,i,none⟩ u) fun g e=>by injection e with e; exact⟨_,t,_,by rw [<- e]; exact h,h1,h2⟩
def KeepU (w:World) (k:Nat):Prop:=∃ cs fr,w.heap[k]? = some (.cells cs 5 fr)
def Ku (w w':World):Prop:=∀ k,KeepU w k->w'.heap[k]? = w.heap[k]?
theorem KeepU.t {w:World} {k:Nat} (h:KeepU w k):KeepT w k:=by obtain⟨cs,fr,h⟩:=h; exact⟨cs,_,fr,h,.inr rfl⟩
theorem KeepU.lt {w:World} {k:Nat} (h:KeepU w k):k<w.heap.size:=h.t.lt
theorem KeepU.ku {w w':World} {k:Nat} (h:KeepU w k) (hk:Ku w w'):KeepU w' k:=by
 have e:=hk k h;obtain⟨cs,fr,h⟩:=h;exact⟨cs,fr,e.trans h⟩
theorem Kp.ku {w w':World} (h:Kp w w'):Ku w w':=fun k hk=>h k hk.t
theorem Ku.trans {a b c:World} (h:Ku a b) (k:Ku b c):Ku a c:=fun i hi=>(k i (hi.ku h)).trans (h i hi)
theorem Ku.grown {w w':World} {r:Option Nat} (h:w.grownBy w' r) (hr : ∀ g,r=some g->∃ cs t fr,w.heap[g]? = some (.cells cs t fr)/\t≠5):Ku w w':=by
 intro k hk;refine h.block k hk.lt fun e=>?_;obtain⟨cs,t,fr,h1,h3⟩:=hr k e.symm;obtain⟨cs',fr',h1'⟩:=hk;rw [h1] at h1';injection h1' with h1';injection h1' with _ e2;exact h3 e2
def ByT (w:World) (A:Option Addr) (n:Nat) (d:List UInt8):Prop :=
 d.length=n/\(0<n->∃ ad,A=some ad/\KeepU w ad.block/\∀ j c,d[j]? = some c->w.cell? (ad.add j)=some (.int .u8 (c.toNat:Int)))
theorem ByT.ku {w w':World} {A:Option Addr} {n:Nat} {d:List UInt8} (h:ByT w A n d) (hk:Ku w w'):ByT w' A n d:=by
 refine⟨h.1,fun hn=>?_⟩;obtain⟨ad,e,ht,hc⟩:=h.2 hn;refine⟨ad,e,ht.ku hk,fun j c hj=>?_⟩;have hb:w'.heap[(ad.add j).block]? = w.heap[(ad.add j).block]?:=by rw [BxKit.add_block]; exact hk _ ht
 rw [World.cell?_of_block hb];exact hc j c hj
theorem ByT.kp {w w':World} {A:Option Addr} {n:Nat} {d:List UInt8} (h:ByT w A n d) (hk:Kp w w'):ByT w' A n d:=h.ku hk.ku
theorem ByT.nil (w:World) (A:Option Addr):ByT w A 0 []:=⟨rfl,fun h=>absurd h (Nat.lt_irrefl 0)⟩
theorem ByT.at_ {w:World} {A:Option Addr} {n:Nat} {d:List UInt8} (h:ByT w A n d):PkKit.BytesAt w w.heap.size A n d:=by
 refine⟨h.1,fun hn=>?_⟩;obtain⟨ad,e,ht,hc⟩:=h.2 hn;exact⟨ad,e,ht.lt,hc⟩
theorem byT_own {w:World} {base n cp:Nat} {A:Option Addr} {d:List UInt8} (h:w.ownsRow base 5 1 (.slice A n cp) n (PkKit.by_ d)):ByT w A n d:=by
 have hl:=h.1;rw [PkKit.by_length] at hl;refine⟨by omega,fun hn=>?_⟩;rcases h.2 with⟨hv,rfl⟩ | ⟨g,cap,cur,hv,hb,hg,hnc,hm,hs,ht⟩
 · omega
 · have hA:A=some ⟨g,0,none⟩:=by injection hv
   subst hA;exact⟨_,rfl,⟨_,_,hg⟩,fun j c hj=>h.cells (g:=g) rfl _ _ (PkKit.by_get hj)⟩
structure RD where
 A:Option Addr
 c:Nat
 d:List UInt8
abbrev RF:Type:=ByteArray × RD
def fOf (r:RF):F:=(r.1,r.2.d)
def cell2 (r:RF):List Value:=[.string r.1,.slice r.2.A r.2.d.length r.2.c]
def fc (l:List RF):List Value:=l.flatMap cell2
def DOk (w:World) (r:RF):Prop:=ByT w r.2.A r.2.d.length r.2.d/\r.2.d.length<=r.2.c
theorem fc_length : ∀ l:List RF,(fc l).length=l.length*2
 | []=>rfl
 | r::l=>by
  have:=fc_length l;unfold fc at this ⊢;rw [List.flatMap_cons,List.length_append,this,List.length_cons];simp [cell2]; omega
theorem fc_append (a b:List RF):fc (a++b)=fc a++fc b:=by unfold fc; rw [List.flatMap_append]
theorem fc_get : ∀ (l:List RF) (i f:Nat) (r:RF),l[i]? = some r->f<2->(fc l)[i*2+f]? = (cell2 r)[f]?
 | r0::l,0,f,r,h,hf=>by
  obtain rfl:r0=r:=by simpa using h
  unfold fc;rw [List.flatMap_cons,Nat.zero_mul,Nat.zero_add,List.getElem?_append_left (by simpa [cell2] using hf)]
 | r0::l,i+1,f,r,h,hf=>by
  have:=fc_get l i f r (by simpa using h) hf;unfold fc at this ⊢;rw [List.flatMap_cons,List.getElem?_append_right (by simp [cell2]; omega),<- this]
  congr 1
  simp [cell2]; omega
theorem fc_one (l:List RF) : ∀ u∈fc l,u.oneCell'=true:=by
 intro u hu;unfold fc at hu;obtain⟨r,_,h⟩:=List.mem_flatMap.1 hu;simp only [cell2,List.mem_cons,List.not_mem_nil,or_false] at h;rcases h with rfl | rfl <;> rfl
theorem fc_take (l:List RF) (i:Nat):fc (l.take i)=(fc l).take (i*2):=by
 by_cases h:i<=l.length
 · have hl:(fc (l.take i)).length=i*2:=by rw [fc_length,List.length_take]; omega
   have:=fc_append (l.take i) (l.drop i);rw [List.take_append_drop] at this;rw [this];exact (List.take_left' hl).symm
 · rw [List.take_of_length_le (by omega),List.take_of_length_le (by rw [fc_length]; omega)]
theorem fc_drop (l:List RF) (i:Nat):fc (l.drop i)=(fc l).drop (i*2):=by
 by_cases h:i<=l.length
 · have hl:(fc (l.take i)).length=i*2:=by rw [fc_length,List.length_take]; omega
   have:=fc_append (l.take i) (l.drop i);rw [List.take_append_drop] at this;rw [this];exact (List.drop_left' hl).symm
 · rw [List.drop_of_length_le (by omega),List.drop_of_length_le (by rw [fc_length]; omega)]; rfl
def FilesR (w:World) (A:Option Addr) (n:Nat) (rs:List RF):Prop :=
 rs.length=n/\(∀ r∈rs,DOk w r)/\(0<n->∃ ad,A=some ad/\KeepT w ad.block/\∀ j u,(fc rs)[j]? = some u->w.cell? (ad.add j)=some u)
section
variable {w w' : World} {A : Option Addr} {n : Nat} {rs : List RF}
theorem FilesR.nil (w:World) (A:Option Addr):FilesR w A 0 []:=⟨rfl,fun r hr=>by simp at hr,fun h=>absurd h (Nat.lt_irrefl 0)⟩
theorem FilesR.kp (h:FilesR w A n rs) (hk:Kp w w'):FilesR w' A n rs:=by
 refine⟨h.1,fun r hr=>⟨(h.2.1 r hr).1.kp hk,(h.2.1 r hr).2⟩,fun hn=>?_⟩;obtain⟨ad,e,ht,hc⟩:=h.2.2 hn;refine⟨ad,e,ht.kp hk,fun j u hj=>?_⟩;have hb:w'.heap[(ad.add j).block]? = w.heap[(ad.add j).block]?:=by rw [BxKit.add_block]; exact hk _ ht
 rw [World.cell?_of_block hb];exact hc j u hj
theorem FilesR.src (h:FilesR w A n rs):Src w A n 2 (fc rs):=by
 refine⟨by rw [fc_length,h.1],fc_one rs,fun hn=>?_⟩;obtain⟨ad,e,_,hc⟩:=h.2.2 hn;exact⟨ad,e,hc⟩
theorem FilesR.take (h:FilesR w A n rs) {k:Nat} (hk:k<=n):FilesR w A k (rs.take k):=by
 refine⟨by rw [List.length_take,h.1]; omega,fun r hr=>h.2.1 r (List.mem_of_mem_take hr),fun hn=>?_⟩;obtain⟨ad,rfl,ht,hc⟩:=h.2.2 (by omega);refine⟨ad,rfl,ht,fun j u hj=>hc j u ?_⟩;rw [fc_take,List.getElem?_take] at hj;split at hj
 · exact hj
 · cases hj
theorem FilesR.cut (h:FilesR w A n rs) {k cp:Nat} (hk:k<=n) (hc:n<=cp):FilesR w (if cp=k then A else A.map (·.add (k*2))) (n-k) (rs.drop k):=by
 refine⟨by rw [List.length_drop,h.1],fun r hr=>h.2.1 r (List.mem_of_mem_drop hr),fun hn=>?_⟩;obtain⟨ad,rfl,ht,hcell⟩:=h.2.2 (by omega);rw [if_neg (by omega)];refine⟨ad.add (k*2),rfl,by rw [BxKit.add_block]; exact ht,fun j u hj=>?_⟩;rw [BxKit.add_add];exact hcell _ u (by rw [<- hj,fc_drop,List.getElem?_drop])
theorem FilesR.sp (h:FilesR w A n rs) (hk:Kp w w') {j:Nat} (hj:j<n) :
 ∃ ad x K kd kc,A=some ad/\rs[j]? = some (x,⟨K,kc,kd⟩)/\w'.cell? (ad.add (j*2))=some (.string x)/\w'.cell? ⟨(ad.add (j*2)).block,(ad.add (j*2)).off+1,none⟩ = some (.slice K kd.length kc) /\
  kd.length<=kc/\ByT w' K kd.length kd:=by
 have h':=h.kp hk;obtain⟨ad,e,ht,hc⟩:=h'.2.2 (by omega);have hl:=h'.1;have hg:rs[j]? = some (rs[j]'(by omega)):=List.getElem?_eq_getElem (by omega);have h0:=fc_get rs j 0 _ hg (by decide);have h1:=fc_get rs j 1 _ hg (by decide);have hd:=h'.2.1 _ (List.mem_of_getElem? hg);rcases hx:rs[j]'(by omega) with⟨x,K,kc,kd⟩;rw [hx] at hg h0 h1 hd;refine⟨ad,x,K,kd,kc,e,hg, ?_, ?_,hd.2,hd.1⟩
 · exact hc (j*2) _ (by rw [<- Nat.add_zero (j*2),h0]; rfl)
 · have h2:=hc (j*2+1) _ (by rw [h1]; rfl)
   rw [<- BxKit.add_add] at h2;rw [show ∀ q:Addr,q.add 1 = ⟨q.block,q.off+1,none⟩ from fun q=>by unfold Addr.add; simp] at h2;exact h2
end
theorem filesR_own {w:World} {base n cp:Nat} {A:Option Addr} {rs:List RF} (h:w.ownsRow base 144 2 (.slice A n cp) n (fc rs)) (hd : ∀ r∈rs,DOk w r):FilesR w A n rs:=by
 have hl:=h.1;rw [fc_length] at hl;refine⟨by omega,hd,fun hn=>?_⟩;rcases h.2 with⟨hv,rfl⟩ | ⟨g,cap,cur,hv,hb,hg,hnc,hm,hs,ht⟩
 · omega
 · have hA:A=some ⟨g,0,none⟩:=by injection hv
   subst hA;exact⟨_,rfl,⟨_,_,_,hg,.inl rfl⟩,fun j u hj=>h.cells (g:=g) rfl _ _ hj⟩
def FilesT (w:World) (A:Option Addr) (n:Nat) (l:List F):Prop:=∃ rs:List RF,rs.map fOf=l/\FilesR w A n rs
theorem FilesT.kp {w w':World} {A:Option Addr} {n:Nat} {l:List F} (h:FilesT w A n l) (hk:Kp w w'):FilesT w' A n l:=by
 obtain⟨rs,e,h⟩:=h;exact⟨rs,e,h.kp hk⟩
theorem FilesT.len {w:World} {A:Option Addr} {n:Nat} {l:List F} (h:FilesT w A n l):l.length=n:=by
 obtain⟨rs,rfl,h⟩:=h;rw [List.length_map,h.1]
theorem FilesT.nil (w:World) (A:Option Addr):FilesT w A 0 []:=⟨[],rfl,FilesR.nil w A⟩
theorem FilesT.sp {w w':World} {A:Option Addr} {n:Nat} {l:List F} (h:FilesT w A n l) (hk:Kp w w') {j:Nat} (hj:j<n) :
 ∃ ad x K kd kc,A=some ad/\l[j]? = some (x,kd)/\w'.cell? (ad.add (j*2))=some (.string x)/\w'.cell? ⟨(ad.add (j*2)).block,(ad.add (j*2)).off+1,none⟩ = some (.slice K kd.length kc) /\
  kd.length<=kc/\ByT w' K kd.length kd:=by
 obtain⟨rs,rfl,h⟩:=h;obtain⟨ad,x,K,kd,kc,h1,h2,h3⟩:=h.sp hk hj;exact⟨ad,x,K,kd,kc,h1,by rw [List.getElem?_map,h2]; rfl,h3⟩
end Go.Proofs.YtoljpfapphoflaaGreatDoor.RkK

set_option maxHeartbeats 1000000
set_option maxRecDepth 100000
namespace Go.Proofs.YtoljpfapphoflaaGreatDoor.RkP
open Go.RowKit BxD BxKit RkO RkC RkD RkR RkK
theorem below_alloc (w:World) (o:Obj):Below w.heap.size w (w.alloc o):=(Below.refl _ _).alloc lr_ o
theorem cmpstr (a b:ByteArray) (w:World):Calls Tryz.prog 170 #[.string a,.string b] w fun e w'=>e = .returned (.int .i64 (cmpS a b))/\w'=w:=by
 rw [<- cmp_cb];go_enter Tryz.func170,Tryz.ntmps170;go_wp2;rw [run_callFunc_extern Tryz.func201 (by kernel_rfl) (by kernel_rfl) (by kernel_rfl) (e:=Extern.BytealgCompare.compare) (by kernel_rfl),Lib.run_compareString];simp only [Result.andThen];rw [Oper.upon_value];go_wp2;go_ret;exact⟨rfl,rfl⟩
theorem compare (a b:ByteArray) (w:World):Calls Tryz.prog 138 #[.string a,.string b] w fun e w'=>e = .returned (.int .i64 (cmpS a b))/\w'=w:=by
 go_enter Tryz.func138,Tryz.ntmps138;go_wp2_with (go_at_call 170; refine (cmpstr _ _ _).mono ?_; rintro e w' ⟨rfl,rfl⟩)
 go_ret;exact⟨rfl,rfl⟩
theorem closure (a k:ByteArray) (v:Value) (_h1:v.oneCell'=true) (w:World):Calls Tryz.prog 137 #[.agg #[.string a,v],.string k] w fun e w'=>e = .returned (.int .i64 (cmpS a k))/\Below w.heap.size w w':=by
 go_enter Tryz.func137,Tryz.ntmps137;go_wp2_with (go_at_call 138; refine (compare _ _ _).mono ?_; rintro e w' ⟨rfl,rfl⟩)
 go_ret;exact⟨rfl,below_alloc _ _⟩
def Inv (k:ByteArray) (ps:List F) (lw hi:Nat):Prop:=(∀ j p,j<lw->ps[j]? = some p->cmpS p.1 k<0)/\(∀ j p,hi<=j->ps[j]? = some p->¬ cmpS p.1 k<0)
theorem Inv.up {k:ByteArray} {ps:List F} {lw hi m:Nat} (hs:SrtF ps) (h:Inv k ps lw hi) (p:F) (hp:ps[m]? = some p) (hc:cmpS p.1 k<0):Inv k ps (m+1) hi:=by
 refine⟨fun j q hj hq=>?_,h.2⟩;rcases Nat.lt_or_eq_of_le (Nat.le_of_lt_succ hj) with hlt | rfl
 · have hjl:=(List.getElem?_eq_some_iff.1 hq)
   have hml:=(List.getElem?_eq_some_iff.1 hp);have:=List.pairwise_iff_getElem.1 hs j m hjl.1 hml.1 hlt;rw [hjl.2,hml.2] at this;exact ordS.trans _ _ _ this hc
 · rw [hp] at hq; injection hq with hq; subst hq; exact hc
theorem Inv.dn {k:ByteArray} {ps:List F} {lw hi m:Nat} (hs:SrtF ps) (h:Inv k ps lw hi) (p:F) (hp:ps[m]? = some p) (hc : ¬ cmpS p.1 k<0):Inv k ps lw m:=by
 refine⟨h.1,fun j q hj hq=>?_⟩;rcases Nat.lt_or_eq_of_le hj with hlt | rfl
 · have hjl:=(List.getElem?_eq_some_iff.1 hq)
   have hml:=(List.getElem?_eq_some_iff.1 hp);have:=List.pairwise_iff_getElem.1 hs m j hml.1 hjl.1 hlt;rw [hjl.2,hml.2] at this;exact fun h2=>hc (ordS.trans _ _ _ this h2)
 · rw [hp] at hq; injection hq with hq; subst hq; exact hc
theorem Inv.start (k:ByteArray) (ps:List F):Inv k ps 0 ps.length :=
 ⟨fun j p hj _=>absurd hj (Nat.not_lt_zero j),fun j p hj hp=>absurd (List.getElem?_eq_some_iff.1 hp).1 (by omega)⟩
theorem Inv.eq {k:ByteArray} {ps:List F} {i:Nat} (h:Inv k ps i i) (hi:i<=ps.length):lo cmpS k ps=i :=
 lo_eq cmpS k ps i hi h.1 (fun p hp=>h.2 i p lr_ hp)
def PlPost (k:ByteArray) (ps:List F) (w:World) (e:Ending) (w':World):Prop:=e = .returned (.tuple #[.int .i64 (lo cmpS k ps:Nat),.bool (hitF k ps)])/\Below w.heap.size w w'
theorem bsf {A:Option Addr} {n cap:Nat} (k:ByteArray) {w:World} {ps:List F} (hn:n<=100000) (hs:SrtF ps) (hr:FilesT w A n ps) :
 Calls Tryz.prog 136 #[.slice A n cap,.string k,.func (.func 137) #[] #[]] w (PlPost k ps w):=by
 have hl:=hr.len;have HC:=H_ hr;have HS:=H_ hs;have I0:=H_ (show Inv k ps 0 n by rw [<- hl]; exact Inv.start k ps);have HN:=H_ (Below.refl w.heap.size w);have HL:=H_ hl;clear hs hr hl;go_enter Tryz.func136,Tryz.ntmps136;go_wp2
 go_loopg [9,10] n (fun kx s9 s10 wr=>∃ lw hi:Nat,s9 = .int .i64 lw/\s10 = .int .i64 hi/\lw<=hi/\hi<=n/\hi-lw<=kx/\Hid (Below w.heap.size w wr)/\Hid (Inv k ps lw hi))
 case atStart=>exact⟨0,n,rfl,rfl,Nat.zero_le _,Nat.le_refl _,by omega,HN,I0⟩
 case round =>
  clear HN I0;obtain⟨lw,hi,rfl,rfl,hlh,hin,hg,hb,hI⟩:=hrel;have HK:=H_ (Kp.below hb.out lr_);by_cases hlt:lw<hi
  · obtain⟨ad,x,K,kd,kc,rfl,hp,hc1,hc2,_,_⟩:=HC.out.sp HK.out (j:=(lw+hi) / 2) (by omega)
    have HP:=H_ hp;clear hp HK;by_cases hyx:cmpS x k<0
    · have hyd:decide (cmpS x k<0)=true:=by simpa using hyx
      go_wp2_with (go_at_call 137; refine (closure _ _ _ rfl _).mono ?_; rintro e w1 ⟨rfl,hb1⟩; have hbb:=H_ (hb.out.trans (hb1.mono hb.out.size)); clear hb1)
      go_roundg (hi-((lw+hi) / 2+1))
      case measure=>omega
      case rel =>
       exact⟨(lw+hi) / 2+1,hi,by rw [show ((lw:Int)+(hi:Int)) / 2+1=(((lw+hi) / 2+1:Nat):Int) by omega],rfl,by omega,hin,Nat.le_refl _,hbb,Inv.up HS.out hI.out _ HP.out hyx⟩
    · have hyd:decide (cmpS x k<0)=false:=by simpa using hyx
      go_wp2_with (go_at_call 137; refine (closure _ _ _ rfl _).mono ?_; rintro e w1 ⟨rfl,hb1⟩; have hbb:=H_ (hb.out.trans (hb1.mono hb.out.size)); clear hb1)
      go_roundg ((lw+hi) / 2-lw)
      case measure=>omega
      case rel =>
       exact⟨lw,(lw+hi) / 2,rfl,by rw [show ((lw:Int)+(hi:Int)) / 2=(((lw+hi) / 2:Nat):Int) by omega],by omega,by omega,Nat.le_refl _,hbb,Inv.dn HS.out hI.out _ HP.out (show ¬ cmpS x k<0 by omega)⟩
  · obtain rfl:hi=lw:=by omega
    have hlo:=Inv.eq hI.out (by rw [HL.out]; exact hin);by_cases hn2:hi<n
    · obtain⟨ad,x,K,kd,kc,rfl,hp,hc1,hc2,_,_⟩:=HC.out.sp HK.out (j:=hi) hn2
      have hfin:hitF k ps=decide (cmpS x k=0):=by unfold hitF hit; rw [hlo,hp]
      have HF:=H_ hfin;have HLO:=H_ hlo;clear hp hfin hlo HK;go_wp2_with (go_at_call 137; refine (closure _ _ _ rfl _).mono ?_; rintro e w1 ⟨rfl,hb1⟩; have hbb:=H_ (hb.out.trans (hb1.mono hb.out.size)); clear hb1)
      go_ret2;exact⟨by rw [HF.out,HLO.out]; rfl,hbb.out⟩
    · have hfin:hitF k ps=false:=by unfold hitF hit; rw [hlo,List.getElem?_eq_none (by rw [HL.out]; omega)]
      have HF:=H_ hfin;have HLO:=H_ hlo;clear hfin hlo HK;go_wp2;go_ret2;exact⟨by rw [HF.out,HLO.out]; simp,hb.out⟩
theorem place_any {A:Option Addr} {n cap:Nat} (k:ByteArray) {w:World} {ps:List F} (hn:n<=100000) (hs:SrtF ps) (hr:FilesT w A n ps) :
 Calls Tryz.prog 98 #[.slice A n cap,.string k] w (PlPost k ps w):=by
 have K:=H_ (bsf (cap:=cap) k hn hs hr);clear hn hs hr;go_enter Tryz.func98,Tryz.ntmps98;go_wp2_with (go_at_call 136; refine K.out.mono ?_; rintro e w' ⟨rfl,hb⟩)
 go_ret2;exact⟨rfl,hb⟩
theorem mayName_any (s:ByteArray) (w:World):Calls Tryz.prog 77 #[.string s] w fun e w'=>e = .returned (.bool (okN s))/\w=w':=by
 by_cases h0:s.size=0
 · have hb:okN s=false:=decide_eq_false (by omega)
   have hem:s=⟨#[]⟩:=by
    cases s with | mk d=>simp [ByteArray.size] at h0; rw [h0]
   rw [hb];subst hem;go_enter Tryz.func77,Tryz.ntmps77;go_wp2;go_ret;exact⟨rfl,rfl⟩
 · have hne:(s.toList==(ByteArray.mk #[]).toList)=false:=by
    rw [ByteArray.toList_eq,ByteArray.toList_eq];cases s with | mk d=>simpa [ByteArray.size] using h0
   by_cases h1:s.size<=24
   · have hb:okN s=true:=decide_eq_true (by omega)
     rw [hb];go_enter Tryz.func77,Tryz.ntmps77;go_wp2
     all_goals (go_ret; exact⟨by simp_all <;> omega,rfl⟩)
   · have hb:okN s=false:=decide_eq_false (by omega)
     rw [hb];go_enter Tryz.func77,Tryz.ntmps77;go_wp2
     all_goals (go_ret; exact⟨by simp_all <;> omega,rfl⟩)
theorem costs_any {A:Option Addr} {n cap:Nat} {w:World} {ps:List F} (hn:n<=100000) (hz : ∀ f∈ps,f.1.size<=24/\f.2.length<=200000) (hr:FilesT w A n ps) :
 Calls Tryz.prog 80 #[.slice A n cap] w fun e w'=>e = .returned (.int .i64 (costs ps:Nat))/\Below w.heap.size w w':=by
 have hl:=hr.len;have HC:=H_ hr;have HZ:=H_ hz;have HL:=H_ hl;clear hz hr hl;go_enter Tryz.func80,Tryz.ntmps80;go_wp2;go_loopw [8,3] (fun s8 s3 wr=>∃ k q:Nat,k<=n/\s8 = .int .i64 k/\s3 = .int .i64 q/\Hid (q=costs (ps.take k))/\q<=k*200032/\Hid (Below w.heap.size w wr)) (fun s8 _ _=>n-(intOf s8).toNat)
 case atStart=>exact⟨0,0,Nat.zero_le _,rfl,rfl,by simp [costs,Hid],by omega,H_ (Below.refl _ _)⟩
 case round =>
  obtain⟨k,q,hk,rfl,rfl,HQ,hq,hb⟩:=hrel;by_cases hlt:k<n
  · obtain⟨ad,x,K,kd,kc,rfl,hp,hc1,hc2,hle,_⟩:=HC.out.sp (Kp.below hb.out lr_) (j:=k) hlt
    have HP:=H_ (costs_take hp);obtain⟨z1,z2⟩:=HZ.out _ (List.mem_of_getElem? hp);have hbb:=H_ ((hb.out.alloc hb.out.size (.cells #[.string x,.slice K kd.length kc] 144)));have hz1:x.size<=24:=z1;have hz2:kd.length<=200000:=z2;obtain⟨m,hm⟩ : ∃ m,m=kd.length:=⟨_,rfl⟩;rw [<- hm] at hc2 hz2 hle hbb;have HM:=H_ hm;clear hp z1 z2 hm;go_wp2;go_roundw
    case measure=>simp [intOf]; omega
    case rel=>exact⟨k+1,q+(x.size+m+8),by omega,by go_num,by simp <;> omega,H_ (by rw [HP.out,HQ.out,HM.out]),by omega,hbb⟩
  · obtain rfl:k=n:=by omega
    have HQ2:=H_ (show q=costs ps by have h:=HQ.out; rw [List.take_of_length_le (by rw [HL.out]; exact Nat.le_refl _)] at h; exact h);go_wp2;go_ret;exact⟨by rw [HQ2.out]; rfl,hb.out⟩
def ClB (d:List UInt8) (w:World) (e:Ending) (w':World):Prop:=∃ A c,e = .returned (.slice A d.length c)/\d.length<=c/\ByT w' A d.length d/\Below w.heap.size w w'
theorem clone_any {A:Option Addr} {n cap B:Nat} {d:List UInt8} {w:World} (hd:PkKit.BytesAt w B A n d) (hB:B<=w.heap.size) (hn:n<=100000000):Calls Tryz.prog 78 #[.slice A n cap] w (ClB d w):=by
 have hl:=hd.1;cases A with
 | none =>
  have h0:n=0:=by
   rcases Nat.eq_zero_or_pos n with h | h
   · exact h
   · obtain⟨ad,e,_⟩:=hd.2 h; cases e
  have hd0:d=[]:=List.eq_nil_of_length_eq_zero (by omega);subst h0;subst hd0;have hnil : ∀ w,(binOp .eql 37 (.slice none 0 cap) (.slice none 0 0)).run Tryz.prog w = .ok (.bool true) w:=fun w=>by kernel_rfl
  clear hd;go_enter Tryz.func78,Tryz.ntmps78;go_wp2;go_ret;exact⟨none,0,rfl,Nat.le_refl _,ByT.nil _ _,Below.refl _ _⟩
 | some ad =>
  have hnil : ∀ w,(binOp .eql 37 (.slice (some ad) n cap) (.slice none 0 0)).run Tryz.prog w = .ok (.bool false) w:=fun w=>by kernel_rfl
  have HS:=H_ (hd.alloc hB (.cells #[] 5));have HO:Hid ((w.alloc (.cells #[] 5)).ownsRow w.heap.size 5 1 (.slice (some ⟨w.heap.size,0,none⟩) 0 0) 0 (PkKit.by_ [])):=H_ (World.ownsRow_lit w #[] 0 lr_ (by decide) rfl);have HL:=H_ hl;clear hd hl;go_enter Tryz.func78,Tryz.ntmps78;go_wp2_with (at_builtin; go_loud (
   refine PkKit.wpList_by rfl _ _ rfl rfl rfl HO.out HS.out (by omega) (by simp) ?_;intro v1 w1 hown hg _;rw [Nat.zero_add] at hown;obtain⟨A1,k1,rfl,hk1⟩:=RkR.own_slice hown;have HT:=H_ (byT_own (d:=d) (by simpa [PkKit.by_,Lib.byteCells] using hown));have HB:=H_ ((below_alloc w (.cells #[] 5)).grown hg (by simp) (fun g e=>by have e2:w.heap.size=g:=Option.some.inj e; omega));clear hown hg))
  go_ret;have h:=HT.out;have hl:=HL.out;subst hl;exact⟨A1,k1,rfl,hk1,h,HB.out⟩
end Go.Proofs.YtoljpfapphoflaaGreatDoor.RkP

set_option maxHeartbeats 4000000
set_option maxRecDepth 100000
namespace Go.Proofs.YtoljpfapphoflaaGreatDoor.RkQ
open Go.RowKit BxD BxKit RkO RkC RkD RkR RkK RkP
def GrPost (w:World) (e:Ending) (w':World):Prop :=
 ∃ v,e = .returned v/\w'.ownsRow w.heap.size 144 2 v 0 []/\Below w.heap.size w w'
theorem own_room {w:World} {n:Nat} (hn:n<=1000000) (zs:Array Value) (hz:zs.size=grownCap w n 0 144*2) :
 (w.drew.alloc (.cells zs 144)).ownsRow w.heap.size 144 2 (.slice (some ⟨w.heap.size,0,none⟩) 0 (grownCap w n 0 144)) 0 []:=by
 refine⟨rfl,.inr ⟨w.heap.size,grownCap w n 0 144,zs,rfl,Nat.le_refl _,heap_alloc_new w.drew _,Nat.zero_le _,grownCap_le_maxLen w _ _ _ (by unfold maxLen; omega),by rw [hz],by simp⟩⟩
theorem grow_none (w:World):Calls Tryz.prog 150 #[.slice none 0 0,.int .i64 ((0:Nat):Int)] w (GrPost w):=by
 go_enter Tryz.func150,Tryz.ntmps150;go_wp2_with fail
 go_ret;exact⟨_,rfl,World.ownsRow_nil _ _ _ _,Below.refl _ _⟩
theorem grow_some {n:Nat} (w:World) (h0:0<n) (hn:n<=1000000):Calls Tryz.prog 150 #[.slice none 0 0,.int .i64 (n:Int)] w (GrPost w):=by
 obtain⟨i0,hi,hz0,hz1,hz2⟩:=info_parts elF.info;obtain⟨G,hG⟩ : ∃ G,G=grownCap w n 0 144:=⟨_,rfl⟩;have hGn:n<=G:=by rw [hG]; exact grownCap_ge w _ _ _
 have hGm:G<=maxLen:=by rw [hG]; exact grownCap_le_maxLen w _ _ _ (by unfold maxLen; omega)
 obtain⟨zs,hzs⟩ : ∃ zs,zs=Builtin.zeroCells (Value.agg #[.string ⟨#[]⟩,.slice none 0 0]).cells n++Builtin.zeroCells (Value.agg #[.string ⟨#[]⟩,.slice none 0 0]).cells (G-n):=⟨_,rfl⟩;have hzl:zs.size=G*2:=by rw [hzs]; simp [Builtin.zeroCells,Value.cells]; omega
 have hap:=fun ty=>Lib.run_append_nil_zeros (P:=Tryz.prog) w 100 3 ty 144 i0 (.agg #[.string ⟨#[]⟩,.slice none 0 0]) .i64 .i64 Tryz.underlying100 Tryz.underlying3 hi hz0 n h0 (by omega) (by omega) (by rw [hz2]; omega);rw [<- hG,<- hzs] at hap;have HAP:=H_ hap;have HO:=H_ (own_room hn zs (by rw [hzl,hG]));rw [<- hG] at HO;have hgl:G<=9223372036854775807:=by unfold maxLen at hGm; omega
 have hd1:(0:Int)<=(n:Int):=by omega
 have hd2:(0:Int)<(n:Int):=by omega
 clear hap hG hzs hzl hi hz0 hz1 hz2 hGm;go_enter Tryz.func150,Tryz.ntmps150;go_wp2_with (at_builtin; go_loud (refine Lib.wpList_append_run _ rfl _ _ _ _ rfl _ _ rfl rfl _ _ (HAP.out _) ?_))
 go_ret;exact⟨_,rfl,HO.out,((Below.drew (Below.refl w.heap.size w)).alloc lr_ _)⟩
theorem grow_any {n:Nat} (w:World) (hn:n<=1000000):Calls Tryz.prog 150 #[.slice none 0 0,.int .i64 (n:Int)] w (GrPost w):=by
 rcases Nat.eq_zero_or_pos n with rfl | h0
 · exact grow_none w
 · exact grow_some w h0 hn
structure Sl where
 A:Option Addr
 n:Nat
 c:Nat
 rs:List RF
def tot (l:List Sl):Nat:=(l.map Sl.n).sum
def all (l:List Sl):List RF:=l.flatMap Sl.rs
theorem tot_take {l:List Sl} {k:Nat} {x:Sl} (h:l[k]? = some x):tot (l.take (k+1))=tot (l.take k)+x.n:=by
 obtain⟨hl,rfl⟩:=List.getElem?_eq_some_iff.1 h;unfold tot; rw [List.take_succ_eq_append_getElem hl,List.map_append,List.sum_append]; simp only [List.map_cons,List.map_nil,List.sum_cons,List.sum_nil,Nat.add_zero]
theorem all_take {l:List Sl} {k:Nat} {x:Sl} (h:l[k]? = some x):all (l.take (k+1))=all (l.take k)++x.rs:=by
 obtain⟨hl,rfl⟩:=List.getElem?_eq_some_iff.1 h;unfold all; rw [List.take_succ_eq_append_getElem hl,List.flatMap_append]; simp only [List.flatMap_cons,List.flatMap_nil,List.append_nil]
theorem tot_le (l:List Sl) (k:Nat):tot (l.take k)<=tot l:=by
 have h:=List.take_append_drop k l;have:tot l=tot (l.take k)+tot (l.drop k):=by
  rw [<- h]; unfold tot; rw [List.map_append,List.sum_append,List.take_append_drop]
 omega
def SlAt (w:World) (g:Nat) (l:List Sl):Prop:=g<w.heap.size/\∀ k x,l[k]? = some x->w.cell? ⟨g,k,none⟩=some (.slice x.A x.n x.c)/\FilesR w x.A x.n x.rs
def OwF (rs:List RF) (w:World) (e:Ending) (w':World):Prop :=
 ∃ A c,e = .returned (.slice A rs.length c)/\rs.length<=c/\FilesR w' A rs.length rs/\Below w.heap.size w w'
theorem concat_any {g m N:Nat} {ss:List Sl} {w:World} (hs:SlAt w g ss) (hm:m=ss.length) (hN:N=tot ss) (hl:N<=1000000) (h6:m<=1000) :
 Calls Tryz.prog 116 #[.slice (some ⟨g,0,none⟩) m m] w (OwF (all ss) w):=by
 have HS:=H_ hs;have HM:=H_ hm;have HN:=H_ hN;clear hs hm hN;go_enter Tryz.func116,Tryz.ntmps116;go_upto_region 9 with fail
 go_loopw [11,3] (fun s11 s3 wr=>wr=w/\∃ k q:Nat,k<=m/\s11 = .int .i64 k/\s3 = .int .i64 q/\q<=N/\Hid (q=tot (ss.take k))) (fun s11 _ _=>m-(intOf s11).toNat)
 case atStart=>exact⟨rfl,0,0,Nat.zero_le _,rfl,rfl,Nat.zero_le _,by simp [tot,Hid]⟩
 case round =>
  obtain⟨rfl,k,q,hk,rfl,rfl,hq,HQ⟩:=hrel;by_cases hlt:k<m
  · have hg:ss[k]? = some (ss[k]'(by rw [<- HM.out]; exact hlt)):=List.getElem?_eq_getElem _
    rcases hx:ss[k]'(by rw [<- HM.out]; exact hlt) with⟨A,n,c,rs⟩;rw [hx] at hg;have h2:=tot_take hg;have h3:=tot_le ss (k+1);rw [h2] at h3;rw [<- HN.out,<- HQ.out] at h3;have hc:=(HS.out.2 _ _ hg).1;have H2:=H_ h2;have h3':q+n<=N:=h3;clear h2 h3 hg hx;have hge : ¬ ((q:Int)+(n:Int)<0):=by omega
    go_wp2_with fail
    go_roundw
    case measure=>simp [intOf]; omega
    case rel=>exact⟨trivial,k+1,q+n,by omega,by go_num,by go_num,h3',by rw [H2.out,<- HQ.out]; rfl⟩
  · obtain rfl:k=m:=by omega
    obtain rfl:q=N:=by rw [HQ.out,HN.out,List.take_of_length_le (by rw [HM.out]; exact Nat.le_refl _)]
    have KG:=H_ (grow_any wr hl);clear HQ;go_upto_region 10 with (go_at_call 150; go_loud (
     refine KG.out.mono ?_;rintro e w1 ⟨v1,rfl,ho1,hb1⟩;have HO1:=H_ ho1;have HB1:=H_ hb1;clear ho1 hb1))
    go_wp2_with fail
    obtain⟨w0,hw0⟩ : ∃ w0,w0=wr:=⟨_,rfl⟩;rw [<- hw0] at HO1 HB1 HS ⊢;have HW0:=H_ hw0;clear KG hw0;go_loopw [27,6] (fun s27 s6 wr=>∃ (v:Value) (j p:Nat),v=s6/\j<=k/\s27 = .int .i64 j/\p<=q/\Hid (p=tot (ss.take j))/\Hid (Below w0.heap.size w0 wr)/\Hid (wr.ownsRow w0.heap.size 144 2 v p (fc (all (ss.take j))))) (fun s27 _ _=>k-(intOf s27).toNat)
    case atStart=>exact⟨_,0,0,rfl,Nat.zero_le _,rfl,Nat.zero_le _,by simp [tot,Hid],HB1,HO1⟩
    case round =>
     clear HO1 HB1;obtain⟨v,j,p,rfl,hj,rfl,hp,HP,HB,HO⟩:=hrel;have hsz:=HB.out.size;by_cases hlt2:j<k
     · have hg:ss[j]? = some (ss[j]'(by rw [<- HM.out]; exact hlt2)):=List.getElem?_eq_getElem _
       rcases hx:ss[j]'(by rw [<- HM.out]; exact hlt2) with⟨A,n,c,rs⟩;rw [hx] at hg;have h2:=tot_take hg;have h3:=tot_le ss (j+1);rw [h2] at h3;rw [<- HN.out,<- HP.out] at h3;obtain⟨hc,hfr⟩:=HS.out.2 _ _ hg;have hc2:wr.cell? ⟨g,j,none⟩ = some (.slice A n c):=(HB.out.cell (p:=⟨g,j,none⟩) HS.out.1).trans hc;have HF:=H_ (hfr.kp (Kp.below HB.out lr_));have H2:=H_ h2;have HA:=H_ (all_take hg);have h3':p+n<=q:=h3;clear h2 h3 hg hx hc hfr;go_wp2_with (at_builtin; go_loud (
        refine wpList_rows elF rfl _ _ rfl rfl rfl HO.out HF.out.src (by unfold maxLen; omega) (by omega) HB.out.size ?_;intro v6 w6 hown hg6 _;have HO6:=H_ (show w6.ownsRow w0.heap.size 144 2 v6 (p+n) (fc (all (ss.take (j+1)))) by rw [HA.out,fc_append]; exact hown);have HB6:=H_ (HB.out.grown hg6 HB.out.size (fun g e=>(HO.out.lt g e).1));clear hown hg6))
       go_roundw
       case measure=>simp [intOf]; omega
       case rel=>exact⟨_,j+1,p+n,rfl,by omega,by go_num,h3',by rw [H2.out,<- HP.out]; rfl,HB6,HO6⟩
     · obtain rfl:j=k:=by omega
       have hall:ss.take j=ss:=List.take_of_length_le (by rw [HM.out]; exact Nat.le_refl _);have ho:=HO.out;rw [hall] at ho;have hlen:=ho.1;rw [fc_length] at hlen;obtain rfl:p=(all ss).length:=by omega
       obtain⟨A6,k6,rfl,hk6⟩:=RkR.own_slice ho;have hdk : ∀ r∈all ss,DOk wr r:=by
        intro r hr;unfold all at hr;obtain⟨x,hx,hrx⟩:=List.mem_flatMap.1 hr;obtain⟨i,hi⟩:=List.mem_iff_getElem?.1 hx;exact ((HS.out.2 i x hi).2.kp (Kp.below HB.out lr_)).2.1 r hrx
       have HP2:=H_ (show OwF (all ss) w0 (.returned (.slice A6 (all ss).length k6)) wr from ⟨A6,k6,rfl,hk6,filesR_own ho hdk,HB.out⟩);clear ho hlen hdk;go_wp2_with fail
       go_ret;have hp:=HP2.out;rw [HW0.out] at hp;exact hp
end Go.Proofs.YtoljpfapphoflaaGreatDoor.RkQ

set_option maxHeartbeats 4000000
set_option maxRecDepth 100000
namespace Go.Proofs.YtoljpfapphoflaaGreatDoor.RkE
open Go.RowKit BxD BxKit RkO RkC RkD RkR RkK RkP RkQ
theorem lo_map (k:ByteArray) : ∀ rs:List RF,lo cmpS k (rs.map fOf)=lo cmpS k rs
 | []=>rfl
 | r::rs=>by
  simp only [List.map_cons,lo];rw [lo_map k rs]; rfl
theorem hitF_lt {k:ByteArray} {l:List F} (h:hitF k l=true):lo cmpS k l<l.length:=hit_lt h
theorem lo_len (k:ByteArray) (rs:List RF):lo cmpS k (rs.map fOf)<=rs.length:=by rw [lo_map]; exact lo_le cmpS k rs
def DnPost (l:List F) (w:World) (e:Ending) (w':World):Prop :=
 ∃ A c,e = .returned (.slice A l.length c)/\l.length<=c/\FilesT w' A l.length l/\Below w.heap.size w w'
theorem cut_raw {rs:List RF} {k:ByteArray} {i:Nat} (hi:lo cmpS k (rs.map fOf)=i):(if hitF k (rs.map fOf) then rs.take i++rs.drop (i+1) else rs.take i++rs.drop i).map fOf=cutF k (rs.map fOf):=by
 unfold cutF cut;rw [hi];split
 · rw [List.map_append,List.map_take,List.map_drop]
 · rw [List.take_append_drop]
theorem put_raw {rs:List RF} {k:ByteArray} {i:Nat} {d:RD} (hi:lo cmpS k (rs.map fOf)=i):(if hitF k (rs.map fOf) then rs.take i++(k,d)::rs.drop (i+1) else rs.take i++(k,d)::rs.drop i).map fOf=putF k d.d (rs.map fOf):=by
 unfold putF put;split
 · rename_i h
   have hlt:=hitF_lt h;unfold upd;rw [hi] at hlt ⊢;rw [List.set_eq_take_append_cons_drop,if_pos hlt,List.map_append,List.map_cons,List.map_take,List.map_drop]; rfl
 · unfold ins
   rw [hi,List.map_append,List.map_cons,List.map_take,List.map_drop]; rfl
theorem szF:(Tryz.prog.info? 144).map (·.size)=some 2:=by kernel_rfl
theorem run_size (w:World):(sizeOf 144).run Tryz.prog w = .ok 2 w:=by
 obtain⟨i,hi,hs⟩:=Option.map_eq_some_iff.1 szF;simp [sizeOf,typeInfo,hi,hs]
theorem elemF:Tryz.prog.elem 100=144:=by kernel_rfl
theorem undF:Tryz.prog.underlying 100=some (.slice (Tryz.prog.elem 100)):=by kernel_rfl
theorem sl_hi (A:Option Addr) (n cp i:Nat) (hi:i<=cp) (w:World):(Instr.slice 100 (.slice A n cp) none (some (.int .i64 (i:Int))) none).run Tryz.prog w = .ok (.slice A i cp) w:=by
 rw [run_slice_h w 100 A n cp undF .i64 (i:Int) (by omega) (by omega),elemF,run_size];simp only [Result.andThen,sliced,Int.toNat_natCast,Nat.sub_zero,Nat.zero_mul]
 congr 2
 split
 · rfl
 · cases A with
   | none=>rfl
   | some a=>simp [Addr.add]
theorem sl_lo (A:Option Addr) (n cp i:Nat) (hi:i<=n) (_hn:n<=cp) (z:Int) (hz:z=(i:Int)) (w:World):(Instr.slice 100 (.slice A n cp) (some (.int .i64 z)) none none).run Tryz.prog w = .ok (.slice (if cp=i then A else A.map (·.add (i*2))) (n-i) (cp-i)) w:=by
 subst hz;rw [run_slice_l w 100 A n cp undF .i64 (i:Int) (by omega) (by omega),elemF,run_size];simp only [Result.andThen,sliced,Int.toNat_natCast]
theorem cut_lo {w:World} {A:Option Addr} {n cp i:Nat} {rs:List RF} (h:FilesR w A n rs) (hi:i<=n) (hn:n<=cp) (z:Int) (hz:z=(i:Int)) :
 ∃ A2 n2 c2,(∀ w,(Instr.slice 100 (.slice A n cp) (some (.int .i64 z)) none none).run Tryz.prog w = .ok (.slice A2 n2 c2) w)/\n2+i=n/\n2<=c2/\FilesR w A2 n2 (rs.drop i) :=
 ⟨_,_,_,sl_lo A n cp i hi hn z hz,by omega,by omega,h.cut hi hn⟩
theorem sl_two {w:World} {A1 A2:Option Addr} {n1 c1 n2 c2:Nat} {r1 r2:List RF} (h1:FilesR w A1 n1 r1) (h2:FilesR w A2 n2 r2) :
 SlAt (w.alloc (.cells #[.slice A1 n1 c1,.slice A2 n2 c2] 100)) w.heap.size [⟨A1,n1,c1,r1⟩,⟨A2,n2,c2,r2⟩]:=by
 refine⟨by simp,fun k x hk=>?_⟩;have hc : ∀ o,(w.alloc (.cells #[.slice A1 n1 c1,.slice A2 n2 c2] 100)).cell? ⟨w.heap.size,o,none⟩=(#[.slice A1 n1 c1,.slice A2 n2 c2]:Array Value)[o]?:=fun o=>cell_of_row _ _ o _ _ (0,0) (heap_alloc_new w _)
 match k,hk with
 | 0,hk =>
  obtain rfl:=Option.some.inj hk;exact⟨hc 0,h1.kp (Kp.alloc w _)⟩
 | 1,hk =>
  obtain rfl:=Option.some.inj hk;exact⟨hc 1,h2.kp (Kp.alloc w _)⟩
 | k+2,hk=>simp at hk
theorem sl_three {w:World} {A1 A2 A3:Option Addr} {n1 c1 n2 c2 n3 c3:Nat} {r1 r2 r3:List RF} (h1:FilesR w A1 n1 r1) (h2:FilesR w A2 n2 r2) (h3:FilesR w A3 n3 r3) :
 SlAt (w.alloc (.cells #[.slice A1 n1 c1,.slice A2 n2 c2,.slice A3 n3 c3] 100)) w.heap.size [⟨A1,n1,c1,r1⟩,⟨A2,n2,c2,r2⟩,⟨A3,n3,c3,r3⟩]:=by
 refine⟨by simp,fun k x hk=>?_⟩;have hc : ∀ o,(w.alloc (.cells #[.slice A1 n1 c1,.slice A2 n2 c2,.slice A3 n3 c3] 100)).cell? ⟨w.heap.size,o,none⟩=(#[.slice A1 n1 c1,.slice A2 n2 c2,.slice A3 n3 c3]:Array Value)[o]?:=fun o=>cell_of_row _ _ o _ _ (0,0) (heap_alloc_new w _)
 match k,hk with
 | 0,hk =>
  obtain rfl:=Option.some.inj hk;exact⟨hc 0,h1.kp (Kp.alloc w _)⟩
 | 1,hk =>
  obtain rfl:=Option.some.inj hk;exact⟨hc 1,h2.kp (Kp.alloc w _)⟩
 | 2,hk =>
  obtain rfl:=Option.some.inj hk;exact⟨hc 2,h3.kp (Kp.alloc w _)⟩
 | k+3,hk=>simp at hk
theorem OwF.done {rs:List RF} {w0 w w':World} {e:Ending} {l:List F} (h:OwF rs w e w') (hl:rs.map fOf=l) (hb:Below w0.heap.size w0 w):DnPost l w0 e w':=by
 obtain⟨A,c,rfl,h1,h2,h3⟩:=h;subst hl;have e:(rs.map fOf).length=rs.length:=List.length_map _;refine⟨A,c,by rw [e],by rw [e]; exact h1,by rw [e]; exact⟨rs,rfl,h2⟩,hb.trans (h3.mono hb.size)⟩
abbrev box (w:World) (k:ByteArray) (b:Bool) (v:Value):World:=w.alloc (.cells #[.string k,.bool b,v] 81)
theorem one_eq (r:RF):fc [r]=cell2 r:=by simp [fc]
theorem done_cut {A:Option Addr} {n cp:Nat} {k:ByteArray} {K:Option Addr} {dn kc:Nat} {w:World} {ps:List F} (hr:FilesT w A n ps) (hn:n<=1000) (hnc:n<=cp) (hs:SrtF ps) :
 Calls Tryz.prog 79 #[.slice A n cp,.agg #[.string k,.bool true,.slice K dn kc]] w (DnPost (cutF k ps) w):=by
 have hB0:Below w.heap.size w (box w k true (.slice K dn kc)):=below_alloc w _;have hr2:=hr.kp (Kp.below hB0 lr_);have KP:=H_ (place_any (cap:=cp) k (by omega) hs hr2);unfold PlPost at KP;obtain⟨rs,rfl,hrs⟩:=hr2;have hl:=hrs.1;obtain⟨i,hi⟩ : ∃ i,i=lo cmpS k (rs.map fOf):=⟨_,rfl⟩;have hC:=cut_raw hi.symm;have hil:i<=n:=by rw [hi,<- hl]; exact lo_len k rs
 have hlt:hitF k (rs.map fOf)=true->i<n:=fun h=>by have:=hitF_lt h; rw [List.length_map] at this; omega
 rw [<- hi] at KP;have s1:=sl_hi A n cp i (by omega);obtain⟨A2,n2,c2,s2,e2,le2,f2⟩:=cut_lo hrs hil hnc (i:Int) rfl;have F1:=H_ (hrs.take hil);have F2:=H_ f2;have E2:=H_ e2;have HB0:=H_ hB0;cases hh:hitF k (rs.map fOf) with
 | true =>
  rw [hh] at KP hC;have hin:=hlt hh;obtain⟨A3,n3,c3,s3,e3,le3,f3⟩:=cut_lo f2 (i:=1) (by omega) le2 1 rfl;rw [List.drop_drop] at f3;have F3:=H_ f3;have E3:=H_ e3;clear f3 e3 hin;rw [if_pos rfl] at hC;have HC:=H_ hC;clear hi hr hrs hs hh hlt hC f2 e2 hB0 hl;go_enter Tryz.func79,Tryz.ntmps79;go_upto_region 2 with (go_at_call 98; go_loud (refine KP.out.mono ?_; rintro e w1 ⟨rfl,hb1⟩; have HB1:=H_ hb1; clear hb1))
  have HKp:=H_ (Kp.below HB1.out lr_);have hcc : ∀ o,w1.cell? ⟨w.heap.size,o,none⟩ = (#[.string k,.bool true,.slice K dn kc]:Array Value)[o]?:=fun o=>(HB1.out.cell (p:=⟨w.heap.size,o,none⟩) (by simp)).trans (cell_of_row _ _ o _ _ (0,0) (heap_alloc_new w _));have hc0:w1.cell? ⟨w.heap.size,0,none⟩ = some (.string k):=hcc 0;have hc1:w1.cell? ⟨w.heap.size,1,none⟩ = some (.bool true):=hcc 1;have hc2:w1.cell? ⟨w.heap.size,2,none⟩ = some (.slice K dn kc):=hcc 2;clear hcc;have KC:=H_ (concat_any (g:=w1.heap.size) (m:=2) (N:=i+n3) (ss:=[⟨A,i,cp,rs.take i⟩,⟨A3,n3,c3,rs.drop (i+1)⟩]) (w:=((w1.alloc (.cells #[.slice A i cp,.slice A3 n3 c3] 100)).drew))
   (sl_two (c1:=cp) (c2:=c3) (F1.out.kp HKp.out) (F3.out.kp HKp.out)) rfl (by simp [tot]) (by have:=E2.out; have:=E3.out; omega) (by omega))
  have HAll:=H_ (show (all [⟨A,i,cp,rs.take i⟩,⟨A3,n3,c3,rs.drop (i+1)⟩]).map fOf=cutF k (rs.map fOf) by rw [<- HC.out]; simp [all]);have HB2:=H_ (show Below w.heap.size w ((w1.alloc (.cells #[.slice A i cp,.slice A3 n3 c3] 100)).drew) from (((HB0.out.trans (HB1.out.mono HB0.out.size)).alloc (Nat.le_trans HB0.out.size HB1.out.size) _).drew));generalize all [⟨A,i,cp,rs.take i⟩,⟨A3,n3,c3,rs.drop (i+1)⟩]=L at KC HAll;clear HKp
  go_region
  go_wp2_with (go_at_call 116; go_loud (refine KC.out.mono ?_; intro e w2 h2; have HD2:=H_ (OwF.done h2 HAll.out HB2.out); obtain⟨A4,c4,rfl,_,_,_⟩:=HD2.out))
  go_ret;exact HD2.out
 | false =>
  rw [hh] at KP hC;rw [if_neg (by decide)] at hC;have HC:=H_ hC;clear hi hr hrs hs hh hlt hC f2 e2 hB0 hl;go_enter Tryz.func79,Tryz.ntmps79;go_upto_region 2 with (go_at_call 98; go_loud (refine KP.out.mono ?_; rintro e w1 ⟨rfl,hb1⟩; have HB1:=H_ hb1; clear hb1))
  have HKp:=H_ (Kp.below HB1.out lr_);have hcc : ∀ o,w1.cell? ⟨w.heap.size,o,none⟩ = (#[.string k,.bool true,.slice K dn kc]:Array Value)[o]?:=fun o=>(HB1.out.cell (p:=⟨w.heap.size,o,none⟩) (by simp)).trans (cell_of_row _ _ o _ _ (0,0) (heap_alloc_new w _));have hc0:w1.cell? ⟨w.heap.size,0,none⟩ = some (.string k):=hcc 0;have hc1:w1.cell? ⟨w.heap.size,1,none⟩ = some (.bool true):=hcc 1;have hc2:w1.cell? ⟨w.heap.size,2,none⟩ = some (.slice K dn kc):=hcc 2;clear hcc;have KC:=H_ (concat_any (g:=w1.heap.size) (m:=2) (N:=i+n2) (ss:=[⟨A,i,cp,rs.take i⟩,⟨A2,n2,c2,rs.drop i⟩]) (w:=((w1.alloc (.cells #[.slice A i cp,.slice A2 n2 c2] 100)).drew))
   (sl_two (c1:=cp) (c2:=c2) (F1.out.kp HKp.out) (F2.out.kp HKp.out)) rfl (by simp [tot]) (by have:=E2.out; omega) (by omega))
  have HAll:=H_ (show (all [⟨A,i,cp,rs.take i⟩,⟨A2,n2,c2,rs.drop i⟩]).map fOf=cutF k (rs.map fOf) by rw [<- HC.out]; simp [all]);have HB2:=H_ (show Below w.heap.size w ((w1.alloc (.cells #[.slice A i cp,.slice A2 n2 c2] 100)).drew) from (((HB0.out.trans (HB1.out.mono HB0.out.size)).alloc (Nat.le_trans HB0.out.size HB1.out.size) _).drew));generalize all [⟨A,i,cp,rs.take i⟩,⟨A2,n2,c2,rs.drop i⟩]=L at KC HAll;clear HKp
  go_region
  go_wp2_with (go_at_call 116; go_loud (refine KC.out.mono ?_; intro e w2 h2; have HD2:=H_ (OwF.done h2 HAll.out HB2.out); obtain⟨A4,c4,rfl,_,_,_⟩:=HD2.out))
  go_ret;exact HD2.out
theorem done_put {A:Option Addr} {n cp:Nat} {k:ByteArray} {K:Option Addr} {kc:Nat} {d:List UInt8} {w:World} {ps:List F} (hr:FilesT w A n ps) (hn:n<=1000) (hnc:n<=cp) (hs:SrtF ps) (hd:ByT w K d.length d) (hkc:d.length<=kc) :
 Calls Tryz.prog 79 #[.slice A n cp,.agg #[.string k,.bool false,.slice K d.length kc]] w (DnPost (putF k d ps) w):=by
 have hB0:Below w.heap.size w (box w k false (.slice K d.length kc)):=below_alloc w _;have hr2:=hr.kp (Kp.below hB0 lr_);have HD:=H_ (hd.kp (Kp.below hB0 lr_));have HKC:=H_ hkc;clear hd hkc;have KP:=H_ (place_any (cap:=cp) k (by omega) hs hr2);unfold PlPost at KP;obtain⟨rs,rfl,hrs⟩:=hr2;have hl:=hrs.1;obtain⟨i,hi⟩ : ∃ i,i=lo cmpS k (rs.map fOf):=⟨_,rfl⟩;have hC:=put_raw (d:=⟨K,kc,d⟩) hi.symm;have hil:i<=n:=by rw [hi,<- hl]; exact lo_len k rs
 have hlt:hitF k (rs.map fOf)=true->i<n:=fun h=>by have:=hitF_lt h; rw [List.length_map] at this; omega
 rw [<- hi] at KP;have s1:=sl_hi A n cp i (by omega);obtain⟨A2,n2,c2,s2,e2,le2,f2⟩:=cut_lo hrs hil hnc (i:Int) rfl;have F1:=H_ (hrs.take hil);have F2:=H_ f2;have E2:=H_ e2;have HB0:=H_ hB0;cases hh:hitF k (rs.map fOf) with
 | true =>
  rw [hh] at KP hC;have hin:=hlt hh;obtain⟨A3,n3,c3,s3,e3,le3,f3⟩:=cut_lo f2 (i:=1) (by omega) le2 1 rfl;rw [List.drop_drop] at f3;have F3:=H_ f3;have E3:=H_ e3;clear f3 e3 hin;rw [if_pos rfl] at hC;have HC:=H_ hC;clear hi hr hrs hs hh hlt hC f2 e2 hB0 hl;go_enter Tryz.func79,Tryz.ntmps79;go_upto_region 2 with (go_at_call 98; go_loud (refine KP.out.mono ?_; rintro e w1 ⟨rfl,hb1⟩; have HB1:=H_ hb1; clear hb1))
  have HKp:=H_ (Kp.below HB1.out lr_);have hcc : ∀ o,w1.cell? ⟨w.heap.size,o,none⟩ = (#[.string k,.bool false,.slice K d.length kc]:Array Value)[o]?:=fun o=>(HB1.out.cell (p:=⟨w.heap.size,o,none⟩) (by simp)).trans (cell_of_row _ _ o _ _ (0,0) (heap_alloc_new w _));have hc0:w1.cell? ⟨w.heap.size,0,none⟩ = some (.string k):=hcc 0;have hc1:w1.cell? ⟨w.heap.size,1,none⟩ = some (.bool false):=hcc 1;have hc2:w1.cell? ⟨w.heap.size,2,none⟩ = some (.slice K d.length kc):=hcc 2;clear hcc;have HD1:=H_ (HD.out.kp HKp.out);have HM:Hid (FilesR (w1.alloc (.cells #[.string k,.slice K d.length kc] 144)) (some ⟨w1.heap.size,0,none⟩) 1 [(k,⟨K,kc,d⟩)]):=by
   refine filesR_own (base:=w1.heap.size) (cp:=1) ?_ ?_
   · rw [one_eq]; exact World.ownsRow_lit w1 #[.string k,.slice K d.length kc] 1 lr_ (by decide) rfl
   · intro r hr
     obtain rfl:=List.mem_singleton.1 hr;exact⟨HD1.out.kp (Kp.alloc _ _),HKC.out⟩
  have KC:=H_ (concat_any (g:=w1.heap.size+1) (m:=3) (N:=i+1+n3) (ss:=[⟨A,i,cp,rs.take i⟩,⟨some ⟨w1.heap.size,0,none⟩,1,1,[(k,⟨K,kc,d⟩)]⟩,⟨A3,n3,c3,rs.drop (i+1)⟩]) (w:=(((w1.alloc (.cells #[.string k,.slice K d.length kc] 144)).alloc (.cells #[.slice A i cp,.slice (some ⟨w1.heap.size,0,none⟩) 1 1,.slice A3 n3 c3] 100)).drew))
   (by have h:=sl_three (c1:=cp) (c2:=1) (c3:=c3) ((F1.out.kp HKp.out).kp (Kp.alloc w1 (.cells #[.string k,.slice K d.length kc] 144))) HM.out ((F3.out.kp HKp.out).kp (Kp.alloc w1 (.cells #[.string k,.slice K d.length kc] 144))); rw [show (w1.alloc (.cells #[.string k,.slice K d.length kc] 144)).heap.size=w1.heap.size+1 by simp] at h; exact h) rfl (by simp [tot]; omega) (by have:=E2.out; have:=E3.out; omega) (by omega))
  rw [show ((3:Nat):Nat)=3 from rfl] at KC;have HAll:=H_ (show (all [⟨A,i,cp,rs.take i⟩,⟨some ⟨w1.heap.size,0,none⟩,1,1,[(k,⟨K,kc,d⟩)]⟩,⟨A3,n3,c3,rs.drop (i+1)⟩]).map fOf=putF k d (rs.map fOf) by rw [<- HC.out]; simp [all]);have HB2:=H_ (show Below w.heap.size w (((w1.alloc (.cells #[.string k,.slice K d.length kc] 144)).alloc (.cells #[.slice A i cp,.slice (some ⟨w1.heap.size,0,none⟩) 1 1,.slice A3 n3 c3] 100)).drew) from ((((HB0.out.trans (HB1.out.mono HB0.out.size)).alloc (Nat.le_trans HB0.out.size HB1.out.size) _).alloc (by have:=HB0.out.size; have:=HB1.out.size; simp at *; omega) _).drew));generalize all [⟨A,i,cp,rs.take i⟩,⟨some ⟨w1.heap.size,0,none⟩,1,1,[(k,⟨K,kc,d⟩)]⟩,⟨A3,n3,c3,rs.drop (i+1)⟩]=L at KC HAll;clear HKp
  go_region
  go_wp2_with (go_at_call 116; go_loud (refine KC.out.mono ?_; intro e w2 h2; have HD2:=H_ (OwF.done h2 HAll.out HB2.out); obtain⟨A4,c4,rfl,_,_,_⟩:=HD2.out))
  go_ret;exact HD2.out
 | false =>
  rw [hh] at KP hC;rw [if_neg (by decide)] at hC;have HC:=H_ hC;clear hi hr hrs hs hh hlt hC f2 e2 hB0 hl;go_enter Tryz.func79,Tryz.ntmps79;go_upto_region 2 with (go_at_call 98; go_loud (refine KP.out.mono ?_; rintro e w1 ⟨rfl,hb1⟩; have HB1:=H_ hb1; clear hb1))
  have HKp:=H_ (Kp.below HB1.out lr_);have hcc : ∀ o,w1.cell? ⟨w.heap.size,o,none⟩ = (#[.string k,.bool false,.slice K d.length kc]:Array Value)[o]?:=fun o=>(HB1.out.cell (p:=⟨w.heap.size,o,none⟩) (by simp)).trans (cell_of_row _ _ o _ _ (0,0) (heap_alloc_new w _));have hc0:w1.cell? ⟨w.heap.size,0,none⟩ = some (.string k):=hcc 0;have hc1:w1.cell? ⟨w.heap.size,1,none⟩ = some (.bool false):=hcc 1;have hc2:w1.cell? ⟨w.heap.size,2,none⟩ = some (.slice K d.length kc):=hcc 2;clear hcc;have HD1:=H_ (HD.out.kp HKp.out);have HM:Hid (FilesR (w1.alloc (.cells #[.string k,.slice K d.length kc] 144)) (some ⟨w1.heap.size,0,none⟩) 1 [(k,⟨K,kc,d⟩)]):=by
   refine filesR_own (base:=w1.heap.size) (cp:=1) ?_ ?_
   · rw [one_eq]; exact World.ownsRow_lit w1 #[.string k,.slice K d.length kc] 1 lr_ (by decide) rfl
   · intro r hr
     obtain rfl:=List.mem_singleton.1 hr;exact⟨HD1.out.kp (Kp.alloc _ _),HKC.out⟩
  have KC:=H_ (concat_any (g:=w1.heap.size+1) (m:=3) (N:=i+1+n2) (ss:=[⟨A,i,cp,rs.take i⟩,⟨some ⟨w1.heap.size,0,none⟩,1,1,[(k,⟨K,kc,d⟩)]⟩,⟨A2,n2,c2,rs.drop i⟩]) (w:=(((w1.alloc (.cells #[.string k,.slice K d.length kc] 144)).alloc (.cells #[.slice A i cp,.slice (some ⟨w1.heap.size,0,none⟩) 1 1,.slice A2 n2 c2] 100)).drew))
   (by have h:=sl_three (c1:=cp) (c2:=1) (c3:=c2) ((F1.out.kp HKp.out).kp (Kp.alloc w1 (.cells #[.string k,.slice K d.length kc] 144))) HM.out ((F2.out.kp HKp.out).kp (Kp.alloc w1 (.cells #[.string k,.slice K d.length kc] 144))); rw [show (w1.alloc (.cells #[.string k,.slice K d.length kc] 144)).heap.size=w1.heap.size+1 by simp] at h; exact h) rfl (by simp [tot]; omega) (by have:=E2.out; omega) (by omega))
  rw [show ((3:Nat):Nat)=3 from rfl] at KC;have HAll:=H_ (show (all [⟨A,i,cp,rs.take i⟩,⟨some ⟨w1.heap.size,0,none⟩,1,1,[(k,⟨K,kc,d⟩)]⟩,⟨A2,n2,c2,rs.drop i⟩]).map fOf=putF k d (rs.map fOf) by rw [<- HC.out]; simp [all]);have HB2:=H_ (show Below w.heap.size w (((w1.alloc (.cells #[.string k,.slice K d.length kc] 144)).alloc (.cells #[.slice A i cp,.slice (some ⟨w1.heap.size,0,none⟩) 1 1,.slice A2 n2 c2] 100)).drew) from ((((HB0.out.trans (HB1.out.mono HB0.out.size)).alloc (Nat.le_trans HB0.out.size HB1.out.size) _).alloc (by have:=HB0.out.size; have:=HB1.out.size; simp at *; omega) _).drew));generalize all [⟨A,i,cp,rs.take i⟩,⟨some ⟨w1.heap.size,0,none⟩,1,1,[(k,⟨K,kc,d⟩)]⟩,⟨A2,n2,c2,rs.drop i⟩]=L at KC HAll;clear HKp
  go_region
  go_wp2_with (go_at_call 116; go_loud (refine KC.out.mono ?_; intro e w2 h2; have HD2:=H_ (OwF.done h2 HAll.out HB2.out); obtain⟨A4,c4,rfl,_,_,_⟩:=HD2.out))
  go_ret;exact HD2.out
end Go.Proofs.YtoljpfapphoflaaGreatDoor.RkE
