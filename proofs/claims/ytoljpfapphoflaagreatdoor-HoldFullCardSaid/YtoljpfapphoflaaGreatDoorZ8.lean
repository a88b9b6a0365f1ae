/-
  BxKit + BxA
-/
import Derived.Test.YtoljpfapphoflaaGreatDoorZ9
import Derived.Below
import Derived.KernelRfl
import Derived.Deep.Draws
import Derived.OwnWalk
import Derived.Maps.AppendAt
import Derived.RegionTactic
import Derived.WalkKit
import Derived.BigQuiet
import Derived.Deep.QuietTactic
import Derived.Outline
import Derived.IntWalk
set_option linter.unusedVariables false
set_option linter.unusedSimpArgs false
set_option maxRecDepth 512
namespace Go.Proofs.YtoljpfapphoflaaGreatDoor.BxKit
open Go.RowKit BxD
theorem ret_int {k:IntKind} {a b:Int} (h:a=b):Ending.returned (.int k a) = .returned (.int k b):=by rw [h]
theorem ret_bool {a b:Bool} (h:a=b):Ending.returned (.bool a) = .returned (.bool b):=by rw [h]
theorem ret_str {a b:ByteArray} (h:a=b):Ending.returned (.string a) = .returned (.string b):=by rw [h]
theorem below_drewN {B:Nat} {a w:World} (h:Below B a w) (n:Nat):Below B a (w.drewN n):=⟨h.os,h.tape,h.output,h.size,h.block⟩
theorem add_block (a:Addr) (j:Nat):(a.add j).block=a.block:=by unfold Addr.add; split <;> rfl
theorem add_add (a:Addr) (i j:Nat):(a.add i).add j=a.add (i+j):=by
 unfold Addr.add
 by_cases hi:i=0 <;> by_cases hj:j=0 <;> simp [hi,hj,Nat.add_assoc]
theorem grown_below {w w':World} (h:Below w.heap.size w w') (row:Option Nat):w.grownBy w' row :=
 ⟨h.os,h.tape,h.output,h.size,fun k hk _=>h.block k hk⟩
def RowAt {α:Type} (C:World→Nat→Addr→α→Prop) (s:Nat) (w:World) (B:Nat) (A:Option Addr) (n:Nat) (l:List α):Prop :=
 l.length=n∧n≤140737488355328∧(0<n→∃ ad,A=some ad∧ad.block<B∧∀ j x,l[j]? = some x→C w B (ad.add (j*s)) x)
section
variable {α : Type} {C : World → Nat → Addr → α → Prop} {s : Nat} {w w' : World} {B n : Nat} {A : Option Addr} {l : List α}
theorem RowAt.nil (C:World→Nat→Addr→α→Prop) (s:Nat) (w:World) (B:Nat) (A:Option Addr):RowAt C s w B A 0 []:=⟨rfl,Nat.zero_le _,fun h=>absurd h (Nat.lt_irrefl 0)⟩
theorem RowAt.len (h:RowAt C s w B A n l):l.length=n:=h.1
theorem RowAt.max (h:RowAt C s w B A n l):n≤140737488355328:=h.2.1
theorem RowAt.get (h:RowAt C s w B A n l) {j:Nat} (hj:j<n) : ∃ ad x,A=some ad∧ad.block<B∧l[j]? = some x∧C w B (ad.add (j*s)) x:=by
 obtain⟨hl,_,hc⟩:=h
 obtain⟨ad,rfl,hb,hcell⟩:=hc (by omega)
 exact⟨ad,l[j]'(by omega),rfl,hb,List.getElem?_eq_getElem (by omega),hcell j _ (List.getElem?_eq_getElem (by omega))⟩
theorem RowAt.map {B':Nat} (h:RowAt C s w B A n l) (hB:B≤B') (hC : ∀ p x,p.block<B→C w B p x→C w' B' p x):RowAt C s w' B' A n l:=by
 refine⟨h.1,h.2.1,fun hn=>?_⟩
 obtain⟨ad,e,hb,hc⟩:=h.2.2 hn
 exact⟨ad,e,by omega,fun j x hj=>hC _ _ (by rw [add_block]; exact hb) (hc j x hj)⟩
theorem RowAt.take (h:RowAt C s w B A n l) {k:Nat} (hk:k≤n):RowAt C s w B A k (l.take k):=by
 refine⟨by rw [List.length_take,h.1]; omega,Nat.le_trans hk h.2.1,fun hn=>?_⟩
 obtain⟨ad,rfl,hb,hcell⟩:=h.2.2 (by omega)
 refine⟨ad,rfl,hb,fun j c hj=>hcell j c ?_⟩
 rw [List.getElem?_take] at hj
 split at hj
 · exact hj
 · cases hj
theorem RowAt.cut (h:RowAt C s w B A n l) {k cp:Nat} (hk:k≤n) (hc:n≤cp) :
 RowAt C s w B (if cp=k then A else A.map (·.add (k*s))) (n-k) (l.drop k):=by
 refine⟨by rw [List.length_drop,h.1],Nat.le_trans (Nat.sub_le _ _) h.2.1,fun hn=>?_⟩
 obtain⟨ad,rfl,hb,hcell⟩:=h.2.2 (by omega)
 rw [if_neg (by omega)]
 refine⟨ad.add (k*s),rfl,by rw [add_block]; exact hb,fun j c hj=>?_⟩
 rw [add_add,← Nat.add_mul]
 exact hcell _ c (by rw [← hj,List.getElem?_drop])
end
def intC (w:World) (_:Nat) (p:Addr) (z:Int):Prop:=w.cell? p=some (.int .i64 z)
def strC (w:World) (_:Nat) (p:Addr) (z:ByteArray):Prop:=w.cell? p=some (.string z)∧z.size≤140737488355328
abbrev IntsAt:=RowAt intC 1
abbrev StrsAt:=RowAt strC 1
def fld (p:Addr) (f:Nat):Addr:={ block:=p.block,off:=p.off+f }
def msgC (w:World) (B:Nat) (p:Addr) (m:Msg):Prop :=
 w.cell? p=some (.int .i64 m.uid)∧w.cell? (fld p 1)=some (.int .i64 m.mod)∧w.cell? (fld p 2)=some (.int .i64 m.date)∧w.cell? (fld p 3)=some (.string m.id) ∧
  w.cell? (fld p 4)=some (.int .i64 m.flags)∧(∃ K c,w.cell? (fld p 5)=some (.slice K m.keys.length c)∧m.keys.length≤c∧IntsAt w B K m.keys.length m.keys)∧w.cell? (fld p 6)=some (.string m.text) ∧
  m.id.size≤140737488355328∧m.text.size≤140737488355328
abbrev MsgsAt:=RowAt msgC 7
section
variable {w w' : World} {B n : Nat} {A : Option Addr}
theorem IntsAt.keep {l:List Int} {B':Nat} (h:IntsAt w B A n l) (hB:B≤B') (hk : ∀ p:Addr,p.block<B→w'.cell? p=w.cell? p):IntsAt w' B' A n l :=
 h.map hB fun p _ hp hc=>(hk p hp).trans hc
theorem StrsAt.keep {l:List ByteArray} {B':Nat} (h:StrsAt w B A n l) (hB:B≤B') (hk : ∀ p:Addr,p.block<B→w'.cell? p=w.cell? p):StrsAt w' B' A n l :=
 h.map hB fun p _ hp hc=>⟨(hk p hp).trans hc.1,hc.2⟩
theorem msgC.keep {p:Addr} {m:Msg} {B':Nat} (h:msgC w B p m) (hB:B≤B') (hp:p.block<B) (hk : ∀ p:Addr,p.block<B→w'.cell? p=w.cell? p):msgC w' B' p m:=by
 obtain⟨h0,h1,h2,h3,h4,⟨K,c,h5,h6,h7⟩,h8,h9⟩:=h
 exact⟨(hk _ hp).trans h0,(hk (fld p 1) hp).trans h1,(hk (fld p 2) hp).trans h2,(hk (fld p 3) hp).trans h3,(hk (fld p 4) hp).trans h4,⟨K,c,(hk (fld p 5) hp).trans h5,h6,IntsAt.keep h7 hB hk⟩,(hk (fld p 6) hp).trans h8,h9⟩
theorem MsgsAt.keep {l:List Msg} {B':Nat} (h:MsgsAt w B A n l) (hB:B≤B') (hk : ∀ p:Addr,p.block<B→w'.cell? p=w.cell? p):MsgsAt w' B' A n l :=
 h.map hB fun _ _ hp hc=>msgC.keep hc hB hp hk
theorem IntsAt.below {l:List Int} {B':Nat} (h:IntsAt w B A n l) (hb:Below B' w w') (hB:B≤B'):IntsAt w' B A n l:=IntsAt.keep h (Nat.le_refl _) fun _ hp=>hb.cell (by omega)
theorem StrsAt.below {l:List ByteArray} {B':Nat} (h:StrsAt w B A n l) (hb:Below B' w w') (hB:B≤B'):StrsAt w' B A n l:=StrsAt.keep h (Nat.le_refl _) fun _ hp=>hb.cell (by omega)
theorem MsgsAt.below {l:List Msg} {B':Nat} (h:MsgsAt w B A n l) (hb:Below B' w w') (hB:B≤B'):MsgsAt w' B A n l:=MsgsAt.keep h (Nat.le_refl _) fun _ hp=>hb.cell (by omega)
theorem IntsAt.more {l:List Int} {B':Nat} (h:IntsAt w B A n l) (hB:B≤B'):IntsAt w B' A n l:=IntsAt.keep h hB fun _ _=>rfl
theorem StrsAt.more {l:List ByteArray} {B':Nat} (h:StrsAt w B A n l) (hB:B≤B'):StrsAt w B' A n l:=StrsAt.keep h hB fun _ _=>rfl
theorem MsgsAt.more {l:List Msg} {B':Nat} (h:MsgsAt w B A n l) (hB:B≤B'):MsgsAt w B' A n l:=MsgsAt.keep h hB fun _ _=>rfl
theorem IntsAt.at_ {l:List Int} {wr:World} {B':Nat} (h:IntsAt w B A n l) (hb:Below B' w wr) (hB:B≤B') {j:Nat} (hj:j<n) :
 ∃ ad x,A=some ad∧l[j]? = some x∧wr.cell? (ad.add j)=some (.int .i64 x):=by
 obtain⟨ad,x,e,hlt,hx,hc⟩:=h.get hj
 rw [Nat.mul_one] at hc
 exact⟨ad,x,e,hx,(hb.cell (p:=ad.add j) (by rw [add_block]; omega)).trans hc⟩
theorem StrsAt.at_ {l:List ByteArray} {wr:World} {B':Nat} (h:StrsAt w B A n l) (hb:Below B' w wr) (hB:B≤B') {j:Nat} (hj:j<n) :
 ∃ ad x,A=some ad∧l[j]? = some x∧wr.cell? (ad.add j)=some (.string x):=by
 obtain⟨ad,x,e,hlt,hx,hc⟩:=h.get hj
 rw [Nat.mul_one] at hc
 exact⟨ad,x,e,hx,(hb.cell (p:=ad.add j) (by rw [add_block]; omega)).trans hc.1⟩
theorem MsgsAt.at_ {l:List Msg} {wr:World} {B':Nat} (h:MsgsAt w B A n l) (hb:Below B' w wr) (hB:B≤B') {j:Nat} (hj:j<n) :
 ∃ ad x,A=some ad∧ad.block<B∧l[j]? = some x∧msgC wr B (ad.add (j*7)) x:=by
 obtain⟨ad,x,e,hlt,hx,hc⟩:=h.get hj
 exact⟨ad,x,e,hlt,hx,hc.keep (Nat.le_refl _) (by rw [add_block]; omega) fun p hp=>hb.cell (by omega)⟩
theorem MsgsAt.sp {l:List Msg} {wr:World} {B':Nat} (h:MsgsAt w B A n l) (hb:Below B' w wr) (hB:B≤B') {j:Nat} (hj:j<n) :
 ∃ ad u md d id fl ks tx K kn kc,A=some ad∧ad.block<B∧l[j]? = some ⟨u,md,d,id,fl,ks,tx⟩∧wr.cell? (ad.add (j*7))=some (.int .i64 u) ∧
  wr.cell? { block:=(ad.add (j*7)).block,off:=(ad.add (j*7)).off+1 } = some (.int .i64 md)∧wr.cell? { block:=(ad.add (j*7)).block,off:=(ad.add (j*7)).off+2 } = some (.int .i64 d) ∧
  wr.cell? { block:=(ad.add (j*7)).block,off:=(ad.add (j*7)).off+3 } = some (.string id)∧wr.cell? { block:=(ad.add (j*7)).block,off:=(ad.add (j*7)).off+4 } = some (.int .i64 fl) ∧
  wr.cell? { block:=(ad.add (j*7)).block,off:=(ad.add (j*7)).off+5 } = some (.slice K kn kc)∧wr.cell? { block:=(ad.add (j*7)).block,off:=(ad.add (j*7)).off+6 } = some (.string tx) ∧
  kn≤kc∧IntsAt wr B K kn ks∧id.size≤140737488355328∧tx.size≤140737488355328:=by
 obtain⟨ad,⟨u,md,d,id,fl,ks,tx⟩,e,hlt,hx,h0,h1,h2,h3,h4,⟨K,c,h5,h6,h7⟩,h8,h9,h10⟩:=MsgsAt.at_ h hb hB hj
 exact⟨ad,u,md,d,id,fl,ks,tx,K,_,c,e,hlt,hx,h0,h1,h2,h3,h4,h5,h8,h6,h7,h9,h10⟩
end
def After (w:World) (o:Obj) (wr:World):Prop:=Below (w.heap.size+1) (w.alloc o) wr
section
variable {w wr w2 : World} {o : Obj}
theorem After.start (w:World) (o:Obj):After w o (w.alloc o):=Below.refl _ _
theorem After.size (h:After w o wr):w.heap.size+1≤wr.heap.size:=by have:=Below.size h; simpa using this
theorem After.go (h:After w o wr) (hb:Below wr.heap.size wr w2):After w o w2:=Below.trans h (hb.mono h.size)
theorem After.alloc (h:After w o wr) (o2:Obj):After w o (wr.alloc o2):=h.go ((Below.refl _ _).alloc (Nat.le_refl _) o2)
theorem After.below (h:After w o wr):Below w.heap.size w wr:=((Below.refl _ _).alloc (Nat.le_refl _) o).trans (Below.mono h (by omega))
theorem After.box {c0 c1 c2 c3 c4 c5:Value} {t:TypeId} (h:After w (.cells #[c0,c1,c2,c3,c4,c5] t) wr) :
 wr.cell? { block:=w.heap.size,off:=0 } = some c0∧wr.cell? { block:=w.heap.size,off:=1 } = some c1∧wr.cell? { block:=w.heap.size,off:=2 } = some c2 ∧
  wr.cell? { block:=w.heap.size,off:=3 } = some c3∧wr.cell? { block:=w.heap.size,off:=4 } = some c4∧wr.cell? { block:=w.heap.size,off:=5 } = some c5:=by
 refine⟨?_, ?_, ?_, ?_, ?_, ?_⟩
 all_goals
  rw [Below.cell h (p:=⟨w.heap.size,_,none⟩) (by simp)]
  simp
theorem msg_new {c0 c1 c2 c3 c4 c5 c6:Value} {t:TypeId} (hb:Below (w.alloc (.cells #[c0,c1,c2,c3,c4,c5,c6] t)).heap.size (w.alloc (.cells #[c0,c1,c2,c3,c4,c5,c6] t)) w2) :
 w2.cell? { block:=w.heap.size,off:=0 } = some c0∧w2.cell? { block:=w.heap.size,off:=1 } = some c1∧w2.cell? { block:=w.heap.size,off:=2 } = some c2 ∧
  w2.cell? { block:=w.heap.size,off:=3 } = some c3∧w2.cell? { block:=w.heap.size,off:=4 } = some c4∧w2.cell? { block:=w.heap.size,off:=5 } = some c5∧w2.cell? { block:=w.heap.size,off:=6 } = some c6:=by
 refine⟨?_, ?_, ?_, ?_, ?_, ?_, ?_⟩
 all_goals
  rw [Below.cell hb (p:=⟨w.heap.size,_,none⟩) (by simp)]
  simp
end
end Go.Proofs.YtoljpfapphoflaaGreatDoor.BxKit

set_option maxHeartbeats 1000000
set_option maxRecDepth 512
namespace Go.Proofs.YtoljpfapphoflaaGreatDoor.BxA
open Go.RowKit BxD BxKit
def Drawn (w w':World):Prop:=∃ n,w'=w.drewN n
theorem Drawn.refl (w:World):Drawn w w:=⟨0,rfl⟩
theorem Drawn.drewN {w w':World} (h:Drawn w w') (n:Nat):Drawn w (w'.drewN n):=by
 obtain⟨m,rfl⟩:=h
 exact⟨m+n,World.drewN_drewN _ _ _⟩
theorem Drawn.below {w w':World} (h:Drawn w w') (B:Nat):Below B w w':=by
 obtain⟨m,rfl⟩:=h
 exact below_drewN (Below.refl _ _) m
theorem take_eq_snoc {α:Type} {xs ys:List α} {k:Nat} {x:α} (h:xs.take k=ys.take k) (hx:xs[k]? = some x) (hy:ys[k]? = some x):xs.take (k+1)=ys.take (k+1):=by
 obtain⟨h1,rfl⟩:=List.getElem?_eq_some_iff.1 hx
 obtain⟨h2,e⟩:=List.getElem?_eq_some_iff.1 hy
 rw [List.take_succ_eq_append_getElem h1,List.take_succ_eq_append_getElem h2,h,e]
theorem take_len {α:Type} {xs:List α} {n:Nat} (h:xs.length=n):xs.take n=xs:=List.take_of_length_le (by omega)
theorem within_any (n a b:Int) (w:World):Calls Tryz.prog 102 #[.int .i64 n,.int .i64 a,.int .i64 b] w fun e w'=>e = .returned (.bool (inB a n b))∧w=w':=by
 by_cases h1:a≤n
 · by_cases h2:n≤b
   · rw [inB_true h1 h2]
     go_enter Tryz.func102,Tryz.ntmps102
     go_wp2_with fail
     go_ret
     exact⟨rfl,rfl⟩
   · have h2':b<n:=by omega
     rw [inB_false (.inr h2')]
     have hb:decide (n≤b)=false:=decide_eq_false h2
     clear h2
     go_enter Tryz.func102,Tryz.ntmps102
     go_wp2_with fail
     go_ret
     exact⟨rfl,rfl⟩
 · have h1':n<a:=by omega
   rw [inB_false (.inl h1')]
   clear h1
   go_enter Tryz.func102,Tryz.ntmps102
   go_wp2_with fail
   go_ret
   exact⟨rfl,rfl⟩
theorem equalS_any {A B:Option Addr} {n m cp cq B0 B1:Nat} {xs ys:List ByteArray} {w:World} (hx:StrsAt w B0 A n xs) (hy:StrsAt w B1 B m ys) :
 Calls Tryz.prog 178 #[.slice A n cp,.slice B m cq] w fun e w'=>e = .returned (.bool (decide (xs=ys)))∧Drawn w w':=by
 by_cases hnm:n=m
 · subst hnm
   have HX:=Lib.hid hx
   have HY:=Lib.hid hy
   have hn:=hx.max
   have hnb:((n:Int) != (n:Int))=false:=by simp
   clear hx hy
   go_enter Tryz.func178,Tryz.ntmps178
   go_wp2_with fail
   go_loopw [13] (fun s13 wr=>∃ k:Nat,k≤n∧s13 = .int .i64 k∧Hid (xs.take k=ys.take k)∧Hid (Drawn w wr)) (fun s13 _=>n-(intOf s13).toNat)
   case atStart=>exact⟨0,Nat.zero_le _,rfl,rfl,Drawn.refl w⟩
   case round =>
    obtain⟨k,hk,rfl,HT,HD⟩:=hrel
    by_cases hlt:k<n
    · obtain⟨ad1,x1,rfl,e1,hc1⟩:=StrsAt.at_ HX.out (HD.out.below _) (Nat.le_refl _) hlt
      obtain⟨ad2,x2,rfl,e2,hd1⟩:=StrsAt.at_ HY.out (HD.out.below _) (Nat.le_refl _) hlt
      have g1:(0:Int)≤(k:Int):=by omega
      have g2:(k:Int)<(n:Int):=by omega
      by_cases hq:x1=x2
      · subst hq
        have HT2:=Lib.hid (take_eq_snoc HT.out e1 e2)
        clear e1 e2
        go_wp2_with fail
        go_quiet (fail)
        go_wp2_with fail
        go_roundw
        case rel=>exact⟨k+1,by omega,by go_num,HT2,HD.out.drewN _⟩
        case measure=>simp [intOf]; omega
      · have HF:=Lib.hid (show decide (xs=ys)=false from decide_eq_false (fun e=>hq (by rw [e,e2] at e1; injection e1 with e1; exact e1.symm)))
        clear e1 e2
        have hxb:(x1.toList==x2.toList)=false:=by rw [ByteArray.toList_eq,ByteArray.toList_eq]; simpa using fun h=>hq (ByteArray.ext h)
        clear hq
        go_wp2_with fail
        go_quiet (fail)
        go_wp2_with fail
        go_ret
        exact⟨ret_bool HF.out.symm,HD.out.drewN _⟩
    · obtain rfl:k=n:=by omega
      have HE:=Lib.hid (show decide (xs=ys)=true from decide_eq_true (by have h:=HT.out; rw [take_len HX.out.len,take_len HY.out.len] at h; exact h))
      go_wp2_with fail
      go_ret
      exact⟨ret_bool HE.out.symm,HD.out⟩
 · have HF:=Lib.hid (show decide (xs=ys)=false from decide_eq_false (fun e=>hnm (by rw [← hx.len,← hy.len,e])))
   have hnb:((n:Int) != (m:Int))=true:=by simp; omega
   clear hnm
   go_enter Tryz.func178,Tryz.ntmps178
   go_wp2_with fail
   go_ret
   exact⟨ret_bool HF.out.symm,Drawn.refl w⟩
theorem equalI_any {A B:Option Addr} {n m cp cq B0 B1:Nat} {xs ys:List Int} {w:World} (hx:IntsAt w B0 A n xs) (hy:IntsAt w B1 B m ys) :
 Calls Tryz.prog 206 #[.slice A n cp,.slice B m cq] w fun e w'=>e = .returned (.bool (decide (xs=ys)))∧Drawn w w':=by
 by_cases hnm:n=m
 · subst hnm
   have HX:=Lib.hid hx
   have HY:=Lib.hid hy
   have hn:=hx.max
   have hnb:((n:Int) != (n:Int))=false:=by simp
   clear hx hy
   go_enter Tryz.func206,Tryz.ntmps206
   go_wp2_with fail
   go_loopw [13] (fun s13 wr=>∃ k:Nat,k≤n∧s13 = .int .i64 k∧Hid (xs.take k=ys.take k)∧Hid (Drawn w wr)) (fun s13 _=>n-(intOf s13).toNat)
   case atStart=>exact⟨0,Nat.zero_le _,rfl,rfl,Drawn.refl w⟩
   case round =>
    obtain⟨k,hk,rfl,HT,HD⟩:=hrel
    by_cases hlt:k<n
    · obtain⟨ad1,x1,rfl,e1,hc1⟩:=IntsAt.at_ HX.out (HD.out.below _) (Nat.le_refl _) hlt
      obtain⟨ad2,x2,rfl,e2,hd1⟩:=IntsAt.at_ HY.out (HD.out.below _) (Nat.le_refl _) hlt
      have g1:(0:Int)≤(k:Int):=by omega
      have g2:(k:Int)<(n:Int):=by omega
      by_cases hq:x1=x2
      · subst hq
        have HT2:=Lib.hid (take_eq_snoc HT.out e1 e2)
        clear e1 e2
        go_wp2_with fail
        go_quiet (fail)
        go_wp2_with fail
        go_roundw
        case rel=>exact⟨k+1,by omega,by go_num,HT2,HD.out.drewN _⟩
        case measure=>simp [intOf]; omega
      · have HF:=Lib.hid (show decide (xs=ys)=false from decide_eq_false (fun e=>hq (by rw [e,e2] at e1; injection e1 with e1; exact e1.symm)))
        clear e1 e2
        have hxb:(x1==x2)=false:=by simpa using hq
        clear hq
        go_wp2_with fail
        go_quiet (fail)
        go_wp2_with fail
        go_ret
        exact⟨ret_bool HF.out.symm,HD.out.drewN _⟩
    · obtain rfl:k=n:=by omega
      have HE:=Lib.hid (show decide (xs=ys)=true from decide_eq_true (by have h:=HT.out; rw [take_len HX.out.len,take_len HY.out.len] at h; exact h))
      go_wp2_with fail
      go_ret
      exact⟨ret_bool HE.out.symm,HD.out⟩
 · have HF:=Lib.hid (show decide (xs=ys)=false from decide_eq_false (fun e=>hnm (by rw [← hx.len,← hy.len,e])))
   have hnb:((n:Int) != (m:Int))=true:=by simp; omega
   clear hnm
   go_enter Tryz.func206,Tryz.ntmps206
   go_wp2_with fail
   go_ret
   exact⟨ret_bool HF.out.symm,Drawn.refl w⟩
theorem not_mem_snoc {α:Type} {l:List α} {k:Nat} {x y:α} (h:y∉l.take k) (hx:l[k]? = some x) (hne:x≠y):y∉l.take (k+1):=by
 obtain⟨hl,rfl⟩:=List.getElem?_eq_some_iff.1 hx
 rw [List.take_succ_eq_append_getElem hl]
 simp only [List.mem_append,List.mem_singleton,not_or]
 exact⟨h,fun e=>hne e.symm⟩
theorem s_ne {a b:ByteArray} (h:a≠b):(a.toList==b.toList)=false:=by
 rw [ByteArray.toList_eq,ByteArray.toList_eq]; simpa using fun e=>h (ByteArray.ext e)
def IxPost (s:ByteArray) (xs:List ByteArray) (w:World) (e:Ending) (w':World):Prop:=∃ i:Int,e = .returned (.int .i64 i)∧decide (0≤i)=decide (s∈xs)∧w=w'
theorem index_any {A:Option Addr} {n cp B0:Nat} {xs:List ByteArray} {w:World} (s:ByteArray) (hx:StrsAt w B0 A n xs) :
 Calls Tryz.prog 151 #[.slice A n cp,.string s] w (IxPost s xs w):=by
 have HX:=Lib.hid hx
 have hn:=hx.max
 clear hx
 go_enter Tryz.func151,Tryz.ntmps151
 go_wp2_with fail
 go_loop [8] (fun s8=>∃ k:Nat,k≤n∧s8 = .int .i64 k∧Hid (s∉xs.take k)) (fun s8=>n-(intOf s8).toNat)
 case atStart=>exact⟨0,Nat.zero_le _,rfl,show s∉xs.take 0 by simp⟩
 case round =>
  obtain⟨k,hk,rfl,HT⟩:=hrel
  by_cases hlt:k<n
  · obtain⟨ad1,x1,rfl,e1,hc1⟩:=StrsAt.at_ HX.out (Below.refl B0 w) (Nat.le_refl _) hlt
    have g1:(0:Int)≤(k:Int):=by omega
    have g2:(k:Int)<(n:Int):=by omega
    by_cases hq:x1=s
    · subst hq
      have HF:=Lib.hid (show decide (x1∈xs)=true from decide_eq_true (List.mem_of_getElem? e1))
      clear e1
      go_wp2_with fail
      go_ret
      exact⟨(k:Int),rfl,by rw [HF.out]; exact decide_eq_true (by omega),rfl⟩
    · have HT2:=Lib.hid (not_mem_snoc HT.out e1 hq)
      have hxb:=s_ne (fun e=>hq e.symm)
      clear hq e1
      go_wp2_with fail
      go_round
      case rel=>exact⟨k+1,by omega,by go_num,HT2⟩
      case measure=>simp [intOf]; omega
  · obtain rfl:k=n:=by omega
    have HF:=Lib.hid (show decide (s∈xs)=false from decide_eq_false (by have h:=HT.out; rw [take_len HX.out.len] at h; exact h))
    go_wp2_with fail
    go_ret
    exact⟨-1,rfl,by rw [HF.out]; rfl,rfl⟩
theorem contains_any {A:Option Addr} {n cp B0:Nat} {xs:List ByteArray} {w:World} (s:ByteArray) (hx:StrsAt w B0 A n xs) :
 Calls Tryz.prog 117 #[.slice A n cp,.string s] w fun e w'=>e = .returned (.bool (decide (s∈xs)))∧w=w':=by
 have K:=Lib.hid (index_any (cp:=cp) s hx)
 clear hx
 go_enter Tryz.func117,Tryz.ntmps117
 go_wp2_with (go_at_call 151; refine K.out.mono ?_; rintro e w' ⟨i,rfl,hi,rfl⟩)
 go_ret
 exact⟨rfl,rfl⟩
theorem mayKeys_any {A:Option Addr} {n cp B0:Nat} {ks:List Int} {w:World} (nw:Nat) (hx:IntsAt w B0 A n ks) (hnw:nw≤140737488355328) :
 Calls Tryz.prog 175 #[.slice A n cp,.int .i64 nw] w fun e w'=>e = .returned (.bool (keysB ks nw))∧w=w':=by
 have HX:=Lib.hid hx
 have hn:=hx.max
 clear hx
 go_enter Tryz.func175,Tryz.ntmps175
 go_wp2_with fail
 go_loop [5,10] (fun s5 s10=>∃ k:Nat,k≤n∧s10 = .int .i64 k∧(∃ lo:Int,s5 = .int .i64 lo∧Hid (lo=pk ks k+1))∧Hid (∀ i,i<k→okK ks nw i)) (fun _ s10=>n-(intOf s10).toNat)
 case atStart=>exact⟨0,Nat.zero_le _,rfl,⟨0,rfl,rfl⟩,fun i hi=>absurd hi (Nat.not_lt_zero _)⟩
 case round =>
  obtain⟨k,hk,rfl,⟨lo,rfl,HL⟩,HT⟩:=hrel
  by_cases hlt:k<n
  · obtain⟨ad1,x1,rfl,e1,hc1⟩:=IntsAt.at_ HX.out (Below.refl B0 w) (Nat.le_refl _) hlt
    by_cases h1:x1<lo
    · have HF:=Lib.hid (keysB_bad (n:=nw) e1 (.inl (by have:=HL.out; omega)))
      clear e1
      go_wp2_with fail
      go_ret
      exact⟨ret_bool HF.out.symm,rfl⟩
    have h1':lo≤x1:=by omega
    by_cases h2:x1<(nw:Int)
    · have HT2:=Lib.hid (okK_next HT.out e1 (by have:=HL.out; omega) h2)
      have HP:=Lib.hid (pk_succ e1)
      have hx0 : -1≤x1:=by
       have h3:=HL.out
       have h4 : -1≤pk ks k:=by
        have h5:=HT.out
        unfold pk
        split
        · omega
        · have h6:=(h5 (k-1) (by omega)).1
          have h7 : ∀ j,j<k→-1≤ks.getD j 0:=by
           intro j
           induction j with
           | zero=>intro hj; have:=(h5 0 hj).1; rw [pk_zero] at this; omega
           | succ j ih =>
            intro hj
            have a1:=(h5 (j+1) hj).1
            have a2:=ih (by omega)
            unfold pk at a1
            rw [if_neg (by omega),Nat.add_sub_cancel] at a1
            omega
          exact h7 _ (by omega)
       omega
      clear e1 h1
      go_wp2_with fail
      go_round
      case rel=>exact⟨k+1,by omega,by go_num,⟨_,rfl,show x1+1=pk ks (k+1)+1 by rw [HP.out]⟩,HT2⟩
      case measure=>simp [intOf]; omega
    · have h2':(nw:Int)≤x1:=by omega
      have HF:=Lib.hid (keysB_bad (n:=nw) e1 (.inr h2'))
      clear e1 h1 h2
      go_wp2_with fail
      go_ret
      exact⟨ret_bool HF.out.symm,rfl⟩
  · obtain rfl:k=n:=by omega
    have HF:=Lib.hid (keysB_good (by have:=HX.out.len; omega) HT.out)
    go_wp2_with fail
    go_ret
    exact⟨ret_bool HF.out.symm,rfl⟩
end Go.Proofs.YtoljpfapphoflaaGreatDoor.BxA
