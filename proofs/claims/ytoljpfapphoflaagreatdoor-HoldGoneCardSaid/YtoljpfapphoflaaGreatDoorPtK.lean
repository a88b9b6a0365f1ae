/-
 What readers and answers share: what calls leave as it was,a message's block,a box's,what bytes begin with.
-/
import Derived.Test.YtoljpfapphoflaaGreatDoorN1
import Derived.Test.YtoljpfapphoflaaGreatDoorN3
import Derived.Test.YtoljpfapphoflaaGreatDoorJ1
import Derived.Test.YtoljpfapphoflaaGreatDoorN4
import Derived.Laws.OwnMore
import Derived.Laws.ResultCell
import Derived.Deep.DeepCutAuto
set_option linter.unusedVariables false
set_option linter.unusedSimpArgs false
set_option maxHeartbeats 1000000
set_option maxRecDepth 100000
namespace Go.Proofs.YtoljpfapphoflaaGreatDoor.PtK
open Go.RowKit BxD PkKit PkA PkC PkD PkF PkG OlD OlOm PtD
open BxKit (RowAt IntsAt StrsAt MsgsAt)
open PkB (tx)
def numS (k:Nat) (s:St):Nat × St:=if s.2.1≠0 then (0,s) else if s.1.length<k then (0,(s.1,2,s.2.2)) else (be (s.1.take k),(s.1.drop k,0,s.2.2))
def Rd1 (w:World) (T:Nat) (x:Value) (s:St) (e:Ending) (w':World):Prop:=e = .returned x/\RD w' T s.1 s.2.1/\w.grownBy w' (some T)
theorem numk_all {w:World} {T k:Nat} {s:St} (h:RD w T s.1 s.2.1) (hk4:k<=4):Calls Tryz.prog 224 #[ptr T,.int .i64 (k:Nat)] w (Rd1 w T (.int .i64 ((numS k s).1:Nat)) (numS k s).2):=by
 obtain⟨l,er,ov⟩:=s;unfold numS;by_cases h0:er=0
 · subst h0
   rw [if_neg (by simp)];by_cases hl:l.length<k
   · rw [if_pos hl]
     refine (numk_short h hl).mono ?_;rintro e w' ⟨rfl,h1,h2⟩;exact⟨rfl,h1,h2⟩
   · rw [if_neg hl]
     refine (numk_any h (Nat.le_of_not_lt hl) hk4).mono ?_;rintro e w' ⟨rfl,h1,h2⟩;exact⟨rfl,h1,h2⟩
 · rw [if_pos h0]
   refine (numk_bad h h0 _).mono ?_;rintro e w' ⟨rfl,rfl⟩;exact⟨rfl,h,World.grownBy.refl _ _⟩
theorem fixed_all {w:World} {T:Nat} {s:St} (h:RD w T s.1 s.2.1):Calls Tryz.prog 216 #[ptr T] w (Rd1 w T (.int .i64 ((fixS s).1:Nat)) (fixS s).2):=by
 have HT:=H_ (numk_all (k:=4) h lr_);clear h;go_enter Tryz.func216,Tryz.ntmps216;go_wp2_with fail
 refine HT.out.mono ?_;rintro e w1 ⟨rfl,hr⟩;go_wp2_with fail
 go_ret;exact⟨rfl,hr⟩
theorem byte_all {w:World} {T:Nat} {s:St} (h:RD w T s.1 s.2.1):Calls Tryz.prog 225 #[ptr T] w (Rd1 w T (.int .i64 ((byteS s).1:Nat)) (byteS s).2):=by
 have HT:=H_ (numk_all (k:=1) h (by decide));clear h;go_enter Tryz.func225,Tryz.ntmps225;go_wp2_with fail
 refine HT.out.mono ?_;rintro e w1 ⟨rfl,hr⟩;go_wp2_with fail
 go_ret;exact⟨rfl,hr⟩
theorem text_all {w:World} {T:Nat} {s:St} (h:RD w T s.1 s.2.1) (m:Int):Calls Tryz.prog 123 #[ptr T,.int .i64 m] w (Rd1 w T (.string (txtS m s).1) (txtS m s).2):=by
 obtain⟨l,er,ov⟩:=s;unfold txtS;by_cases h0:er=0
 · subst h0
   rw [if_neg (by simp)];refine (text_any h m).mono ?_;rintro e w' ⟨rfl,h1,h2⟩;exact⟨rfl,h1,h2⟩
 · rw [if_pos h0]
   refine (text_bad h h0 m).mono ?_;rintro e w' ⟨rfl,rfl⟩;exact⟨rfl,h,World.grownBy.refl _ _⟩
theorem fix_lt (s:St):(fixS s).1<4294967296:=by
 unfold fixS;split
 · show 0<_; decide
 · split
   · show 0<_; decide
   · rename_i h1 h2
     have:=be_lt 4 (s.1.take 4) (by rw [List.length_take]; omega);simpa using this
theorem byte_lt (s:St):(byteS s).1<256:=by
 unfold byteS;split
 · show 0<_; decide
 · split
   · show 0<_; decide
   · rename_i h1 h2
     have:=be_lt 1 (s.1.take 1) (by rw [List.length_take]; omega);simpa using this
theorem fix_ov (s:St):(fixS s).2.2.2=s.2.2:=by unfold fixS; split; · rfl
                                               · split <;> rfl
theorem byte_ov (s:St):(byteS s).2.2.2=s.2.2:=by unfold byteS; split; · rfl
                                                 · split <;> rfl
theorem txt_ov (m:Int) (s:St):(txtS m s).2.2.2=s.2.2:=by unfold txtS; split <;> rfl
theorem cnt_le (m:Nat) (s:St):(cntS m s).1<=m:=by
 unfold cntS;split
 · exact Nat.zero_le _
 · omega
theorem own_ne_blk {w:World} {base e sz n P:Nat} {v:Value} {xs:List Value} {cs:Array Value} {t:TypeId} {fr:Nat × Nat} (h:w.ownsRow base e sz v n xs) (hp:w.heap[P]? = some (.cells cs t fr)) (he:e≠t):v.ownBlock≠some P:=by
 intro hv;rcases h.2 with⟨rfl,_⟩ | ⟨g1,cap,cur,rfl,_,hg,_⟩
 · simp [Value.ownBlock] at hv
 · obtain rfl:g1=P:=by simpa [Value.ownBlock] using hv
   rw [hp] at hg;injection hg with hg;injection hg with _ h2;exact he h2.symm
structure Fr2 (R T:Nat) (w w':World):Prop where
 os:w'.os=w.os
 tape:w'.tape=w.tape
 output:w'.output=w.output
 size:w.heap.size<=w'.heap.size
 block : ∀ k,k<w.heap.size->k≠R->k≠T->w'.heap[k]? = w.heap[k]?
section
variable {R T : Nat} {w w' w2 : World}
theorem Fr2.refl (R T:Nat) (w:World):Fr2 R T w w:=⟨rfl,rfl,rfl,Nat.le_refl _,fun _ _ _ _=>rfl⟩
theorem Fr2.trans (h:Fr2 R T w w') (k:Fr2 R T w' w2):Fr2 R T w w2 :=
 ⟨k.os.trans h.os,k.tape.trans h.tape,k.output.trans h.output,Nat.le_trans h.size k.size,fun i hi h1 h2=>(k.block i (Nat.lt_of_lt_of_le hi h.size) h1 h2).trans (h.block i hi h1 h2)⟩
theorem Fr2.grown (h:w.grownBy w' (some T)) (R:Nat):Fr2 R T w w':=⟨h.os,h.tape,h.output,h.size,fun k hk _ h2=>h.block k hk (fun e=>h2 (Option.some.inj e))⟩
theorem Fr2.below (h:Below w.heap.size w w') (R T:Nat):Fr2 R T w w':=⟨h.os,h.tape,h.output,h.size,fun k hk _ _=>h.block k hk⟩
theorem Fr2.alloc (h:Fr2 R T w w') (o:Obj):Fr2 R T w (w'.alloc o):=h.trans (Fr2.below ((Below.refl _ _).alloc lr_ o) R T)
theorem Fr2.set (h:Fr2 R T w w') {P i:Nat} (hP:w.heap.size<=P) (v:Value):Fr2 R T w (w'.setCell ⟨P,i,none⟩ v) :=
 ⟨h.os,h.tape,h.output,by have:=h.size; simpa [World.setCell] using this,fun k hk h1 h2=>(Below.heap_setCell _ _ _ _ (by show k≠P; omega)).trans (h.block k hk h1 h2)⟩
theorem Fr2.setR (h:Fr2 R T w w') (i:Nat) (v:Value):Fr2 R T w (w'.setCell ⟨R,i,none⟩ v) :=
 ⟨h.os,h.tape,h.output,by have:=h.size; simpa [World.setCell] using this,fun k hk h1 h2=>(Below.heap_setCell _ _ _ _ (by show k≠R; exact h1)).trans (h.block k hk h1 h2)⟩
theorem Fr2.to (h:Fr2 R T w w') {base:Nat} (hb:base<=w.heap.size) (hR:base<=R) (hT:base<=T):Below base w w':=⟨h.os,h.tape,h.output,h.size,fun k hk=>h.block k (by omega) (by omega) (by omega)⟩
end
theorem rd_stay {w w':World} {R T er:Nat} {l:List UInt8} {cur:Array Value} {ty:TypeId} {fz:Nat × Nat} (h:RD w T l er) (hb:w.heap[R]? = some (.cells cur ty fz)) (hnb : ∀ (k:Nat) (c:Int),cur[k]?≠some (.int .u8 c)) (hne:R≠T) (hk : ∀ k,k≠R->w'.heap[k]? = w.heap[k]?):RD w' T l er:=by
 obtain⟨A,n,cp,hh,hz,hc,hn⟩:=h;refine⟨A,n,cp,(hk T (fun e=>hne e.symm)).trans hh,⟨hz.1,fun h0=>?_⟩,hc,hn⟩;obtain⟨ad,e,hlt,hcell⟩:=hz.2 h0;have hadR:ad.block≠R:=fun e2=>by
  have hl0:0<l.length:=by rw [hz.1]; exact h0
  have h1:=hcell 0 _ (List.getElem?_eq_getElem hl0);have hbk:(ad.add 0).block=R:=by rw [add_block]; exact e2
  unfold World.cell? at h1;rw [hbk,hb] at h1;simp only at h1;split at h1
  · cases h1
  · exact hnb _ _ h1
 refine⟨ad,e,hlt,fun j c hj=>(World.cell?_of_block ?_).trans (hcell j c hj)⟩;exact hk _ (by rw [add_block]; exact hadR)
section
variable {w0 wr : World} {v0 v : Value} {n : Nat} {l : List UInt8}
theorem ints_kept {A:Option Addr} {m B:Nat} {zs:List Int} (h:OM w0 v0 wr n v l) (hz:IntsAt w0 B A m zs) (hB:B<=w0.heap.size) (hne : ∀ ad,A=some ad->v0.ownBlock≠some ad.block) {k:Nat} (hk:k<m) :
 ∃ ad x,A=some ad/\zs[k]? = some x/\wr.cell? (ad.add k)=some (.int .i64 x):=by
 obtain⟨ad,x,e,hlt,hx,hc⟩:=hz.get hk;refine⟨ad,x,e,hx, ?_⟩;rw [Nat.mul_one] at hc;refine (World.cell?_of_block ?_).trans hc;rw [add_block];exact h.fr.block _ (by omega) (fun e2=>hne ad e e2.symm)
end
theorem nil_bytes (w:World) (B:Nat):BytesAt w B none 0 []:=⟨rfl,fun h=>absurd h (Nat.lt_irrefl 0)⟩
def MBk (w:World) (P:Nat) (u md d:Int) (id:ByteArray) (fl:Int) (K:Option Addr) (kn kc:Nat) (tx:ByteArray):Prop :=
 w.heap[P]? = some (.cells #[.int .i64 u,.int .i64 md,.int .i64 d,.string id,.int .i64 fl,.slice K kn kc,.string tx] 61 (0,0))
section
variable {w : World} {P : Nat} {u md d fl : Int} {id tx : ByteArray} {K : Option Addr} {kn kc : Nat}
theorem MBk.cells (h:MBk w P u md d id fl K kn kc tx):w.cell? ⟨P,0,none⟩ = some (.int .i64 u)/\w.cell? ⟨P,1,none⟩ = some (.int .i64 md)/\w.cell? ⟨P,2,none⟩ = some (.int .i64 d)/\w.cell? ⟨P,3,none⟩ = some (.string id) /\
 w.cell? ⟨P,4,none⟩ = some (.int .i64 fl)/\w.cell? ⟨P,5,none⟩ = some (.slice K kn kc)/\w.cell? ⟨P,6,none⟩ = some (.string tx):=by
 have c : ∀ o,w.cell? ⟨P,o,none⟩ = (#[.int .i64 u,.int .i64 md,.int .i64 d,.string id,.int .i64 fl,.slice K kn kc,.string tx]:Array Value)[o]?:=fun o=>cell_of_row w P o _ _ _ h;exact⟨(c 0).trans rfl,(c 1).trans rfl,(c 2).trans rfl,(c 3).trans rfl,(c 4).trans rfl,(c 5).trans rfl,(c 6).trans rfl⟩
end
theorem ints_two (w:World) (a b:Int):IntsAt (w.alloc (.cells #[.int .i64 a,.int .i64 b] 3)) (w.heap.size+1) (some ⟨w.heap.size,0,none⟩) 2 [a,b]:=by
 refine⟨rfl,by decide,fun _=>⟨_,rfl,Nat.lt_succ_self _,fun j x hj=>?_⟩⟩;unfold BxKit.intC;rw [Nat.mul_one,BxR.cell_new]
 match j,hj with
 | 0,hj=>simp at hj; subst hj; rfl
 | 1,hj=>simp at hj; subst hj; rfl
theorem own_none {w:World} {base n:Nat} {v:Value} {xs:List Value} (h:Ow w base v n xs):v.ownBlock≠some w.heap.size:=by
 intro e;have:=(h.lt _ e).2;omega
theorem ints_one (w:World) (a:Int):IntsAt (w.alloc (.cells #[.int .i64 a] 3)) (w.heap.size+1) (some ⟨w.heap.size,0,none⟩) 1 [a]:=by
 refine⟨rfl,by decide,fun _=>⟨_,rfl,Nat.lt_succ_self _,fun j x hj=>?_⟩⟩;unfold BxKit.intC;rw [Nat.mul_one,BxR.cell_new]
 match j,hj with
 | 0,hj=>simp at hj; subst hj; rfl
theorem mx_nat (a:Nat):mx (a:Int)=a:=by unfold mx; omega
theorem MBk.keep {w w':World} {P:Nat} {u md d fl:Int} {id tx:ByteArray} {K:Option Addr} {kn kc:Nat} (h:MBk w P u md d id fl K kn kc tx) (hg:w'.heap[P]? = w.heap[P]?):MBk w' P u md d id fl K kn kc tx:=hg.trans h
def zmsg:Array Value:=#[.int .i64 0,.int .i64 0,.int .i64 0,.string ⟨#[]⟩,.int .i64 0,.slice none 0 0,.string ⟨#[]⟩]
theorem ret7 {wr:World} {P:Nat} (h:wr.heap[P]? = some (.cells zmsg 61 (0,0))) (c0 c1 c2 c3 c4 c5 c6:Value) :
 ∃ W,W=((((((wr.setCell ⟨P,0,none⟩ c0).setCell ⟨P,1,none⟩ c1).setCell ⟨P,2,none⟩ c2).setCell ⟨P,3,none⟩ c3).setCell ⟨P,4,none⟩ c4).setCell ⟨P,5,none⟩ c5).setCell ⟨P,6,none⟩ c6 /\
  W.cell? ⟨P,0,none⟩ = some c0/\W.cell? ⟨P,1,none⟩ = some c1/\W.cell? ⟨P,2,none⟩ = some c2/\W.cell? ⟨P,3,none⟩ = some c3/\W.cell? ⟨P,4,none⟩ = some c4/\W.cell? ⟨P,5,none⟩ = some c5/\W.cell? ⟨P,6,none⟩ = some c6 /\
  wr.grownBy W (some P):=by
 refine⟨_,rfl, ?_⟩;have hb:(((((((wr.setCell ⟨P,0,none⟩ c0).setCell ⟨P,1,none⟩ c1).setCell ⟨P,2,none⟩ c2).setCell ⟨P,3,none⟩ c3).setCell ⟨P,4,none⟩ c4).setCell ⟨P,5,none⟩ c5).setCell ⟨P,6,none⟩ c6).heap[P]? = some (.cells #[c0,c1,c2,c3,c4,c5,c6] 61 (0,0)):=by
  simp [World.setCell,Array.getElem?_modify,h,zmsg]
 have c:=fun o=>cell_of_row _ P o _ _ _ hb;exact⟨(c 0).trans rfl,(c 1).trans rfl,(c 2).trans rfl,(c 3).trans rfl,(c 4).trans rfl,(c 5).trans rfl,(c 6).trans rfl,grown_trans (grown_trans (grown_trans (grown_trans (grown_trans (grown_trans (grown_set c0) (grown_set c1)) (grown_set c2)) (grown_set c3)) (grown_set c4)) (grown_set c5)) (grown_set c6)⟩
theorem zcells {wr:World} {P:Nat} (h:wr.heap[P]? = some (.cells zmsg 61 (0,0))) :
 wr.cell? ⟨P,0,none⟩ = some (.int .i64 0)/\wr.cell? ⟨P,1,none⟩ = some (.int .i64 0)/\wr.cell? ⟨P,2,none⟩ = some (.int .i64 0)/\wr.cell? ⟨P,3,none⟩ = some (.string ⟨#[]⟩)/\wr.cell? ⟨P,4,none⟩ = some (.int .i64 0)/\wr.cell? ⟨P,5,none⟩ = some (.slice none 0 0)/\wr.cell? ⟨P,6,none⟩ = some (.string ⟨#[]⟩)/\∀ i,wr.frozen? ⟨P,i,none⟩ = false:=by
 have c:=fun o=>cell_of_row _ P o _ _ _ h;exact⟨(c 0).trans rfl,(c 1).trans rfl,(c 2).trans rfl,(c 3).trans rfl,(c 4).trans rfl,(c 5).trans rfl,(c 6).trans rfl,fun i=>by simp [World.frozen?,h]⟩
def zbox:Array Value:=#[.string ⟨#[]⟩,.int .i64 0,.int .i64 0,.int .i64 0,.slice none 0 0,.slice none 0 0]
theorem ret6 {wr:World} {P:Nat} (h:wr.heap[P]? = some (.cells zbox 25 (0,0))) (c0 c1 c2 c3 c4 c5:Value) :
 ∃ W,W=(((((wr.setCell ⟨P,0,none⟩ c0).setCell ⟨P,1,none⟩ c1).setCell ⟨P,2,none⟩ c2).setCell ⟨P,3,none⟩ c3).setCell ⟨P,4,none⟩ c4).setCell ⟨P,5,none⟩ c5 /\
  W.cell? ⟨P,0,none⟩ = some c0/\W.cell? ⟨P,1,none⟩ = some c1/\W.cell? ⟨P,2,none⟩ = some c2/\W.cell? ⟨P,3,none⟩ = some c3/\W.cell? ⟨P,4,none⟩ = some c4/\W.cell? ⟨P,5,none⟩ = some c5/\wr.grownBy W (some P):=by
 refine⟨_,rfl, ?_⟩;have hb:((((((wr.setCell ⟨P,0,none⟩ c0).setCell ⟨P,1,none⟩ c1).setCell ⟨P,2,none⟩ c2).setCell ⟨P,3,none⟩ c3).setCell ⟨P,4,none⟩ c4).setCell ⟨P,5,none⟩ c5).heap[P]? = some (.cells #[c0,c1,c2,c3,c4,c5] 25 (0,0)):=by
  simp [World.setCell,Array.getElem?_modify,h,zbox]
 have c:=fun o=>cell_of_row _ P o _ _ _ hb;exact⟨(c 0).trans rfl,(c 1).trans rfl,(c 2).trans rfl,(c 3).trans rfl,(c 4).trans rfl,(c 5).trans rfl,grown_trans (grown_trans (grown_trans (grown_trans (grown_trans (grown_set c0) (grown_set c1)) (grown_set c2)) (grown_set c3)) (grown_set c4)) (grown_set c5)⟩
theorem zcells6 {wr:World} {P:Nat} (h:wr.heap[P]? = some (.cells zbox 25 (0,0))) :
 wr.cell? ⟨P,0,none⟩ = some (.string ⟨#[]⟩)/\wr.cell? ⟨P,1,none⟩ = some (.int .i64 0)/\wr.cell? ⟨P,2,none⟩ = some (.int .i64 0)/\wr.cell? ⟨P,3,none⟩ = some (.int .i64 0)/\wr.cell? ⟨P,4,none⟩ = some (.slice none 0 0)/\wr.cell? ⟨P,5,none⟩ = some (.slice none 0 0)/\∀ i,wr.frozen? ⟨P,i,none⟩ = false:=by
 have c:=fun o=>cell_of_row _ P o _ _ _ h;exact⟨(c 0).trans rfl,(c 1).trans rfl,(c 2).trans rfl,(c 3).trans rfl,(c 4).trans rfl,(c 5).trans rfl,fun i=>by simp [World.frozen?,h]⟩
theorem text_eq {l1 l2:List UInt8} : (((⟨l1.toArray⟩:ByteArray)==⟨l2.toArray⟩))=decide (l1=l2):=by
 rw [Bool.eq_iff_iff];simp
theorem equal_any {w:World} {B1 B2 n1 n2 c1 c2:Nat} {A1 A2:Option Addr} {l1 l2:List UInt8} (h1:BytesAt w B1 A1 n1 l1) (h2:BytesAt w B2 A2 n2 l2) :
 Calls Tryz.prog 132 #[.slice A1 n1 c1,.slice A2 n2 c2] w fun e w'=>e = .returned (.bool (decide (l1=l2)))/\w=w':=by
 have q1:=h1.conv c1;have q2:=h2.conv c2;have q3:=text_eq (l1:=l1) (l2:=l2);obtain⟨b,hb⟩ : ∃ b,b=decide (l1=l2):=⟨_,rfl⟩;obtain⟨t1,ht1⟩ : ∃ t1:ByteArray,t1=⟨l1.toArray⟩:=⟨_,rfl⟩;obtain⟨t2,ht2⟩ : ∃ t2:ByteArray,t2=⟨l2.toArray⟩:=⟨_,rfl⟩;rw [<- ht1,<- ht2,<- hb,beq_toListBytes] at q3;rw [<- ht1] at q1;rw [<- ht2] at q2;rw [<- hb];clear hb ht1 ht2 h1 h2;go_enter Tryz.func132,Tryz.ntmps132;go_wp2_with fail
 go_ret
 first | exact⟨rfl,rfl⟩ | exact⟨by rw [q3],rfl⟩
theorem hasPrefix_any {w:World} {B1 B2 n cp c2:Nat} {A A2:Option Addr} {l l2:List UInt8} (h1:BytesAt w B1 A n l) (hc:n<=cp) (hn:n<=140737488355328) (h2:BytesAt w B2 A2 3 l2) :
 Calls Tryz.prog 92 #[.slice A n cp,.slice A2 3 c2] w fun e w'=>e = .returned (.bool (decide (l.take 3=l2)))/\w=w':=by
 by_cases h3:n<3
 · have hd:decide (l.take 3=l2)=false:=decide_eq_false fun e=>by
    have e1:=congrArg List.length e;rw [List.length_take,h1.1,h2.1] at e1;omega
   rw [hd];clear h1 h2 hd;go_enter Tryz.func92,Tryz.ntmps92;go_wp2_with fail
   go_ret;exact⟨rfl,rfl⟩
 · have h3':(3:Int)<=(n:Int):=by omega
   have h4:3<=cp:=by omega
   have K:=H_ (equal_any (c1:=cp) (c2:=c2) (h1.take (k:=3) (by omega)) h2);clear h1 h2 h3;go_enter Tryz.func92,Tryz.ntmps92;go_wp2_with (go_at_call 132; go_loud (
    refine K.out.mono ?_;rintro e w1 ⟨rfl,rfl⟩))
   go_ret;exact⟨rfl,rfl⟩
def CutP (w:World) (B:Nat) (A:Option Addr) (n cp:Nat) (l l2:List UInt8) (e:Ending) (w':World):Prop :=
 w=w'/\((l.take 3=l2/\∃ A' c',e = .returned (.tuple #[.slice A' (n-3) c',.bool true])/\BytesAt w B A' (n-3) (l.drop 3)/\n-3<=c')\/(l.take 3≠l2/\e = .returned (.tuple #[.slice A n cp,.bool false])))
theorem add3 (A:Option Addr):A.map (·.add 3)=A.map (fun x=>⟨x.block,x.off+3,none⟩):=by
 cases A <;> simp [Addr.add]
theorem cutPrefix_any {w:World} {B1 B2 n cp c2:Nat} {A A2:Option Addr} {l l2:List UInt8} (h1:BytesAt w B1 A n l) (hc:n<=cp) (hn:n<=140737488355328) (h2:BytesAt w B2 A2 3 l2) :
 Calls Tryz.prog 163 #[.slice A n cp,.slice A2 3 c2] w (CutP w B1 A n cp l l2):=by
 have K0:=hasPrefix_any (c2:=c2) h1 hc hn h2;by_cases hd:l.take 3=l2
 · have h3:3<=n:=by
    have e1:=congrArg List.length hd;rw [List.length_take,h1.1,h2.1] at e1;omega
   rw [decide_eq_true hd] at K0;have K:=H_ K0;have HD:=H_ hd;have hcut:=h1.cut (k:=3) (cp:=cp) h3 hc;by_cases h33:cp=3
   · rw [if_pos h33] at hcut
     have HC:=H_ hcut;clear K0 h1 h2 hd hcut;subst h33;have hn3:n=3:=by omega
     subst hn3;go_enter Tryz.func163,Tryz.ntmps163;go_wp2_with (go_at_call 92; go_loud (
      refine K.out.mono ?_;rintro e w1 ⟨rfl,rfl⟩))
     first | go_ret2 | go_ret
     exact⟨rfl,.inl ⟨HD.out,_,_,rfl,HC.out,by omega⟩⟩
   · rw [if_neg h33,add3] at hcut
     have HC:=H_ hcut;clear K0 h1 h2 hd hcut;go_enter Tryz.func163,Tryz.ntmps163;go_wp2_with (go_at_call 92; go_loud (
      refine K.out.mono ?_;rintro e w1 ⟨rfl,rfl⟩))
     first | go_ret2 | go_ret
     exact⟨rfl,.inl ⟨HD.out,_,_,rfl,HC.out,by omega⟩⟩
 · rw [decide_eq_false hd] at K0
   have K:=H_ K0;have HD:=H_ hd;clear K0 h1 h2 hd;go_enter Tryz.func163,Tryz.ntmps163;go_wp2_with (go_at_call 92; go_loud (
    refine K.out.mono ?_;rintro e w1 ⟨rfl,rfl⟩))
   first | go_ret2 | go_ret
   exact⟨rfl,.inr ⟨HD.out,rfl⟩⟩
theorem it_mem {α:Type} {f:St->α × St} : ∀ (k:Nat) (s:St) (x:α),x∈(itS f k s).1->∃ s',x=(f s').1
 | 0,_,x,h=>by simp [itS] at h
 | k+1,s,x,h=>by
  unfold itS at h;rcases List.mem_append.1 h with h | h
  · exact it_mem k s x h
  · exact⟨_,List.mem_singleton.1 h⟩
theorem txt_size (s:St):(txtS 24 s).1.size<=24:=by
 unfold txtS;split
 · show 0<=24; decide
 · have h:(tz s.1 24).1.length<=24:=by
    unfold tz;split
    · simp
    · split
      · simp
      · split
        · simp
        · rename_i h1 h2 h3
          simp only [List.length_take];omega
   show (tz s.1 24).1.toArray.size<=24;simpa using h
def ParseNew (b:Box) (er:Int) (w:World) (e:Ending) (w':World):Prop :=
 ∃ WA wn wc MA mn mc',e = .returned (.tuple #[.agg #[.string b.id,.int .i64 b.valid,.int .i64 b.next,.int .i64 b.high,.slice WA wn wc,.slice MA mn mc'],.int .i64 er])/\wn<=wc/\mn<=mc'/\(∀ W:World,(∀ k,w.heap.size<=k->k<w'.heap.size->W.heap[k]? = w'.heap[k]?)->w'.heap.size<=W.heap.size->StrsAt W W.heap.size WA wn b.words/\MsgsAt W W.heap.size MA mn b.msgs)/\Below w.heap.size w w'
def BytesOut (l:List UInt8) (e:Int) (w:World) (x:Ending) (w':World):Prop :=
 ∃ A n c,x = .returned (.tuple #[.slice A n c,.int .i64 e])/\n<=c/\BytesAt w' w'.heap.size A n l/\Below w.heap.size w w'/\(∀ ad:Addr,A=some ad->w.heap.size<=ad.block)
theorem ow_blk {w:World} {base n m c:Nat} {ad:Addr} {xs:List Value} (h:Ow w base (.slice (some ad) n c) m xs):base<=ad.block:=by
 rcases h with h | ⟨_,g,cur,fz,hv,hb,_⟩
 · rcases h.2 with⟨hv,_⟩ | ⟨g,cap,cur,hv,hb,_⟩
   · cases hv
   · cases hv; exact hb
 · cases hv; exact hb
theorem tx_snoc {ws:List ByteArray} {k:Nat} {x:ByteArray} (h:ws[k]? = some x):(ws.take (k+1)).flatMap tx=(ws.take k).flatMap tx++tx x:=by
 obtain⟨hl,rfl⟩:=List.getElem?_eq_some_iff.1 h;rw [List.take_succ_eq_append_getElem hl,List.flatMap_append];simp
end Go.Proofs.YtoljpfapphoflaaGreatDoor.PtK
