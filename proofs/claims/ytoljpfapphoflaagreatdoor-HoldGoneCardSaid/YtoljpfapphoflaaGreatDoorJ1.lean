/-
  PkKit + PkA + PkD + PkE + PkB + PkC + PkF + PkG + PkR + PkK
-/
import Derived.Test.YtoljpfapphoflaaGreatDoorRows
import Derived.Below
import Derived.Lib.Hide
import Derived.Lib.VarintMem
import Derived.Maps.AppendAt
import Derived.OwnWalk
import Derived.RegionTactic
import Derived.Laws.IdiomStrings
import Derived.Deep.Draws
import Derived.Lib.AppendStr
import Derived.KernelRfl
import Derived.Test.YtoljpfapphoflaaGreatDoorAa
import Derived.Laws.Bits128
import Derived.Lib.EndianBits
import Derived.WalkKit
import Derived.Laws.MakeOwn
set_option maxRecDepth 100000
namespace Go.Proofs.YtoljpfapphoflaaGreatDoor.PkKit
open Go.RowKit
theorem add_block (a:Addr) (j:Nat):(a.add j).block=a.block:=by unfold Addr.add; split <;> rfl
theorem add_add (a:Addr) (i j:Nat):(a.add i).add j=a.add (i+j):=by
 unfold Addr.add;by_cases hi:i=0 <;> by_cases hj:j=0 <;> simp [hi,hj,Nat.add_assoc]
theorem grown_below {w w':World} (h:Below w.heap.size w w') (row:Option Nat):w.grownBy w' row :=
 ⟨h.os,h.tape,h.output,h.size,fun k hk _=>h.block k hk⟩
abbrev by_ (l:List UInt8):List Value:=Lib.byteCells l
theorem by_get {l:List UInt8} {j:Nat} {c:UInt8} (h:l[j]? = some c):(by_ l)[j]? = some (.int .u8 (c.toNat:Int)):=by
 unfold by_ Lib.byteCells; rw [List.getElem?_map,h]; rfl
theorem by_inv {l:List UInt8} {j:Nat} {u:Value} (h:(by_ l)[j]? = some u) : ∃ c,l[j]? = some c/\u = .int .u8 (c.toNat:Int):=by
 unfold by_ Lib.byteCells at h;rw [List.getElem?_map] at h;cases hc:l[j]? with
 | none=>rw [hc] at h; cases h
 | some c=>rw [hc] at h; exact⟨c,rfl,(Option.some.inj h).symm⟩
theorem by_one (l:List UInt8) : ∀ v∈by_ l,v.oneCell'=true:=by
 intro v hv;unfold by_ Lib.byteCells at hv;obtain⟨b,_,rfl⟩:=List.mem_map.1 hv;rfl
theorem by_append (a b:List UInt8):by_ (a++b)=by_ a++by_ b:=Lib.byteCells_append a b
theorem by_length (l:List UInt8):(by_ l).length=l.length:=Lib.byteCells_length l
def BytesAt (w:World) (B:Nat) (A:Option Addr) (n:Nat) (l:List UInt8):Prop :=
 l.length=n/\(0<n->∃ ad,A=some ad/\ad.block<B/\∀ j c,l[j]? = some c->w.cell? (ad.add j)=some (.int .u8 (c.toNat:Int)))
section
variable {w w' : World} {B n : Nat} {A : Option Addr} {l : List UInt8}
theorem BytesAt.at_ (h:BytesAt w B A n l) {j:Nat} (hj:j<n) : ∃ ad c,A=some ad/\l[j]? = some c/\w.cell? (ad.add j)=some (.int .u8 (c.toNat:Int)):=by
 obtain⟨hl,hc⟩:=h;obtain⟨ad,rfl,_,hcell⟩:=hc (by omega);exact⟨ad,l[j]'(by omega),rfl,List.getElem?_eq_getElem (by omega),hcell j _ (List.getElem?_eq_getElem (by omega))⟩
theorem BytesAt.keep (h:BytesAt w B A n l) (hk : ∀ p:Addr,p.block<B->w'.cell? p=w.cell? p):BytesAt w' B A n l :=
 ⟨h.1,fun hn=>by
  obtain⟨ad,e,hb,hc⟩:=h.2 hn;exact⟨ad,e,hb,fun j c hj=>(hk _ (by rw [add_block]; exact hb)).trans (hc j c hj)⟩⟩
theorem BytesAt.more {B':Nat} (h:BytesAt w B A n l) (hB:B<=B'):BytesAt w B' A n l :=
 ⟨h.1,fun hn=>by
  obtain⟨ad,e,hb,hc⟩:=h.2 hn;exact⟨ad,e,by omega,hc⟩⟩
theorem BytesAt.below {B':Nat} (h:BytesAt w B A n l) (hb:Below B' w w') (hB:B<=B'):BytesAt w' B A n l:=h.keep fun _ hp=>hb.cell (by omega)
theorem BytesAt.alloc (h:BytesAt w B A n l) (hB:B<=w.heap.size) (o:Obj):BytesAt (w.alloc o) B A n l:=h.below ((Below.refl _ w).alloc lr_ o) hB
theorem BytesAt.setCell (h:BytesAt w B A n l) {p:Addr} (hB:B<=p.block) (u:Value):BytesAt (w.setCell p u) B A n l:=h.below ((Below.refl B w).setCell hB u) lr_
theorem BytesAt.cut (h:BytesAt w B A n l) {k cp:Nat} (hk:k<=n) (hc:n<=cp) :
 BytesAt w B (if cp=k then A else A.map (·.add k)) (n-k) (l.drop k):=by
 refine⟨by rw [List.length_drop,h.1],fun hn=>?_⟩;obtain⟨ad,rfl,hb,hcell⟩:=h.2 (by omega);rw [if_neg (by omega)];refine⟨ad.add k,rfl,by rw [add_block]; exact hb,fun j c hj=>?_⟩;rw [add_add];exact hcell _ c (by rw [<- hj,List.getElem?_drop])
theorem BytesAt.take (h:BytesAt w B A n l) {k:Nat} (hk:k<=n):BytesAt w B A k (l.take k):=by
 refine⟨by rw [List.length_take,h.1]; omega,fun hn=>?_⟩;obtain⟨ad,rfl,hb,hcell⟩:=h.2 (by omega);refine⟨ad,rfl,hb,fun j c hj=>hcell j c ?_⟩;rw [List.getElem?_take] at hj;split at hj
 · exact hj
 · cases hj
theorem BytesAt.conv (h:BytesAt w B A n l) (cp:Nat):(convert 37 9 (.slice A n cp)).run Tryz.prog w = .ok (.string ⟨l.toArray⟩) w:=by
 have hl:=h.1;subst hl;cases A with
 | none =>
  have h0:l=[]:=by
   cases l with
   | nil=>rfl
   | cons c r=>obtain⟨ad,e,_⟩:=h.2 (by simp); cases e
  subst h0;exact run_convert_bytes_back (P:=Tryz.prog) w 37 9 5 ⟨0,0,none⟩ cp [] Tryz.underlying37 Tryz.underlying5 Tryz.underlying9 (fun j hj=>absurd hj (by simp))
 | some a =>
  refine run_convert_bytes_back (P:=Tryz.prog) w 37 9 5 a cp l Tryz.underlying37 Tryz.underlying5 Tryz.underlying9 (fun j hj=>?_);obtain⟨ad,e,_,hcell⟩:=h.2 (Nat.lt_of_le_of_lt (Nat.zero_le _) hj);injection e with e;subst e;exact hcell j _ (List.getElem?_eq_getElem hj)
end
theorem own_form {w:World} {base n:Nat} {v:Value} {xs:List Value} (h:w.ownsRow base 5 1 v n xs) (hn:0<n) : ∃ g cap,v = .slice (some ⟨g,0,none⟩) n cap/\base<=g/\g<w.heap.size:=by
 rcases h.2 with⟨rfl,rfl⟩ | ⟨g,cap,cur,rfl,hb,hg,_⟩
 · omega
 · exact⟨g,cap,rfl,hb,(gs_ hg).1⟩
theorem own_slice {w:World} {base e n:Nat} {v:Value} {xs:List Value} (h:w.ownsRow base e 1 v n xs) : ∃ A cp,v = .slice A n cp/\n<=cp:=by
 rcases h.2 with⟨rfl,rfl⟩ | ⟨g,cap,cur,rfl,_,_,hnc,_⟩
 · exact⟨_,_,rfl,Nat.le_refl _⟩
 · exact⟨_,_,rfl,hnc⟩
theorem bytesAt_own {w:World} {base n cp:Nat} {A:Option Addr} {l:List UInt8} (h:w.ownsRow base 5 1 (.slice A n cp) n (by_ l)):BytesAt w w.heap.size A n l:=by
 have hl:=h.1;rw [by_length] at hl;refine⟨by omega,fun hn=>?_⟩;obtain⟨g,cap,hv,_,hlt⟩:=own_form h hn;have hA:A=some ⟨g,0,none⟩:=by injection hv
 subst hA;exact⟨_,rfl,hlt,fun j c hj=>h.cells (g:=g) rfl _ _ (by_get hj)⟩
theorem info5:(Tryz.prog.info? 5).map (fun i=>(i.zero,i.size,i.bytes))=some (some (.int .u8 0),1,1):=by kernel_rfl
theorem run_by {w:World} {base n m c B:Nat} {v:Value} {xs:List Value} {A:Option Addr} {l:List UInt8} (ty:TypeId) (hown:w.ownsRow base 5 1 v n xs) (hz:BytesAt w B A m l)
 (hb:n+m<=140737488355328) (hbase:base<=w.heap.size) :
 ∃ v' w',(Builtin.append_ #[37,37] ty #[v,.slice A m c]).run Tryz.prog w = .ok v' w'/\w'.ownsRow base 5 1 v' (n+m) (xs++by_ l)/\w.grownBy w' v.ownBlock /\
  (v'.ownBlock=v.ownBlock\/v'.ownBlock=some w.heap.size):=by
 obtain⟨i0,hi,hz0,hz1,hz2⟩:=info_parts info5;have hzl:=hz.1;by_cases hm:m=0
 · subst hm
   have hn:l=[]:=List.eq_nil_of_length_eq_zero hzl;subst hn;cases A with
   | none =>
    refine⟨v,w, ?_,by simpa [by_,Lib.byteCells] using hown,World.grownBy.refl w _,.inl rfl⟩;rcases hown.2 with⟨rfl,rfl⟩ | ⟨g,cap,cur,rfl,_,_,hnc,_⟩
    · simp [Builtin.append_,run_underlying Tryz.underlying37,sizeOf,typeInfo,hi,Builtin.lenOf,Builtin.firstCells]
    · simp [Builtin.append_,run_underlying Tryz.underlying37,sizeOf,typeInfo,hi,Builtin.lenOf,Builtin.firstCells,hnc,storeCells]
   | some ad =>
    obtain⟨v',w',hrun,h2,h3,_,h5⟩:=run_append_own_at (P:=Tryz.prog) w base 37 ty 5 i0 (.int .u8 0) 1 1 Tryz.underlying37 hi hz0 hz1 hz2 rfl (by decide) v n xs hown ad 0 c [] rfl (by simp) (by simp) (by unfold maxLen; omega) (by omega) hbase;exact⟨v',w',hrun,h2,h3,h5⟩
 · obtain⟨ad,rfl,hlt,hc⟩:=hz.2 (by omega)
   obtain⟨v',w',hrun,h2,h3,_,h5⟩:=run_append_own_at (P:=Tryz.prog) w base 37 ty 5 i0 (.int .u8 0) 1 1 Tryz.underlying37 hi hz0 hz1 hz2 rfl (by decide) v n xs hown ad m c (by_ l) (by rw [by_length,hzl]; omega)
    (fun j u hu=>by
     obtain⟨b,hj,rfl⟩:=by_inv hu;exact hc _ _ hj) (by_one l) (by unfold maxLen; omega) (by omega) hbase
   exact⟨v',w',hrun,h2,h3,h5⟩
theorem wp_by {w:World} {base n m c B:Nat} {v:Value} {xs:List Value} {A:Option Addr} {l:List UInt8} {o:Oper} {a:Act} {K:Act->World->Prop} {Q:Exit->Act->World->Prop} (s x:Operand)
 (ho:o.op = .call { callee:=.builtin .append,args:=#[s,x],argTypes:=#[37,37] }) (hs:a.eval s=v) (hx:a.eval x = .slice A m c) (hown:w.ownsRow base 5 1 v n xs) (hz:BytesAt w B A m l)
 (hb:n+m<=140737488355328) (hbase:base<=w.heap.size)
 (h : ∀ v' w',w'.ownsRow base 5 1 v' (n+m) (xs++by_ l)->w.grownBy w' v.ownBlock->(v'.ownBlock=v.ownBlock\/v'.ownBlock=some w.heap.size)->K (a.put o.dst v') w'):o.wp Tryz.prog a w K Q:=by
 obtain⟨v',w',hrun,h2,h3,h4⟩:=run_by (c:=c) o.type hown hz hb hbase;unfold Oper.wp execOp;simp only [ho,resolve,invoke,builtin,Sem.run_bind,Sem.run_pure,Result.andThen_ok,List.map_toArray,List.map_cons,List.map_nil,hs,hx,hrun];exact h v' w' h2 h3 h4
theorem wpList_by {w:World} {base n m c B:Nat} {v:Value} {xs:List Value} {A:Option Addr} {l:List UInt8} {ops:Array Oper} {rest:List Oper} {o:Oper} {a:Act} {Q:Exit->Act->World->Prop} (hgd:o.guard=none) (s x:Operand)
 (ho:o.op = .call { callee:=.builtin .append,args:=#[s,x],argTypes:=#[37,37] }) (hs:a.eval s=v) (hx:a.eval x = .slice A m c) (hown:w.ownsRow base 5 1 v n xs) (hz:BytesAt w B A m l)
 (hb:n+m<=140737488355328) (hbase:base<=w.heap.size)
 (h : ∀ v' w',w'.ownsRow base 5 1 v' (n+m) (xs++by_ l)->w.grownBy w' v.ownBlock->(v'.ownBlock=v.ownBlock\/v'.ownBlock=some w.heap.size)->wpList Tryz.prog ops Q rest (a.put o.dst v') w'):wpList Tryz.prog ops Q (o::rest) a w :=
 wpList_plain hgd fun _ hK=>wp_by s x ho hs hx hown hz hb hbase fun v' w' h2 h3 h4=>hK _ _ (h v' w' h2 h3 h4)
theorem bytesAt_new (w:World) (l:List UInt8) {b B:Nat} (hb:b=w.heap.size) (hB:b<B) {n:Nat} (hn:l.length=n) {cs:Array Value} (hcs:cs.toList=by_ l):BytesAt (w.alloc (.cells cs 5)) B (some ⟨b,0,none⟩) n l:=by
 subst hb;refine⟨hn,fun _=>⟨_,rfl,hB,fun j c hj=>?_⟩⟩;have h1:=by_get hj;rw [<- hcs] at h1;rw [show (⟨w.heap.size,0,none⟩:Addr).add j=⟨w.heap.size,j,none⟩ by unfold Addr.add; split <;> simp_all];rw [cell_of_row _ w.heap.size j cs 5 (0,0) (heap_alloc_new w _)];simpa using h1
structure OB (base:Nat) (w wr:World) (n:Nat) (v:Value) (l:List UInt8):Prop where
 own:wr.ownsRow base 5 1 v n (by_ l)
 bel:Below base w wr
 bas:base<=w.heap.size
theorem OB.len {base:Nat} {w wr:World} {n:Nat} {v:Value} {l:List UInt8} (h:OB base w wr n v l):l.length=n:=by
 have:=h.own.1;rw [by_length] at this;omega
theorem OB.below {base:Nat} {w wr w2:World} {n:Nat} {v:Value} {l:List UInt8} (h:OB base w wr n v l) (hb:Below wr.heap.size wr w2):OB base w w2 n v l :=
 ⟨h.own.kept (grown_below hb none) (by cases hv:v.ownBlock <;> simp),h.bel.trans (hb.mono (Nat.le_trans h.bas h.bel.size)),h.bas⟩
theorem OB.alloc {base:Nat} {w wr:World} {n:Nat} {v:Value} {l:List UInt8} (h:OB base w wr n v l) (o:Obj):OB base w (wr.alloc o) n v l:=h.below ((Below.refl _ _).alloc lr_ o)
theorem OB.app {base:Nat} {w wr w2:World} {n m:Nat} {v v':Value} {l l':List UInt8} (h:OB base w wr n v l) (hown:w2.ownsRow base 5 1 v' m (by_ l')) (hg:wr.grownBy w2 v.ownBlock):OB base w w2 m v' l' :=
 ⟨hown,h.bel.grown hg (Nat.le_trans h.bas h.bel.size) (fun g e=>(h.own.lt g e).1),h.bas⟩
theorem OB.at_ {base:Nat} {w wr:World} {n cp:Nat} {A:Option Addr} {l:List UInt8} (h:OB base w wr n (.slice A n cp) l):BytesAt wr wr.heap.size A n l:=bytesAt_own h.own
end Go.Proofs.YtoljpfapphoflaaGreatDoor.PkKit

set_option maxHeartbeats 4000000
set_option maxRecDepth 100000
namespace Go.Proofs.YtoljpfapphoflaaGreatDoor.PkA
open Go.RowKit PkKit
def Gives (base:Nat) (w:World) (l:List UInt8) (e:Ending) (w':World):Prop:=∃ v,e = .returned v/\OB base w w' l.length v l
theorem copied_any {w:World} {B n cp:Nat} {A:Option Addr} {l:List UInt8} (h:BytesAt w B A n l) (hB:B<=w.heap.size) {m:Nat} (hm:n+m<=140737488355328) :
 Calls Tryz.prog 153 #[.slice A n cp,.int .i64 (m:Nat)] w (Gives w.heap.size w l):=by
 have hl:=h.1;obtain⟨i0,hi,hz0,hz1,hz2⟩:=info_parts info5;obtain⟨w1,hr,ho,hg⟩:=run_make_own (P:=Tryz.prog) w w.heap.size 37 5 i0 (.int .u8 0) 1 Tryz.underlying37 hi hz0 hz1 .i64 .i64 (n+m) (by rw [hz2]; omega) (by unfold maxLen; omega) lr_;rw [show ((n+m:Nat):Int)=(n:Int)+(m:Int) by omega] at hr;have hb1:Below w.heap.size w w1:=⟨hg.os,hg.tape,hg.output,hg.size,fun k hk=>hg.block k hk (by simp)⟩;have O1:=H_ (show OB w.heap.size w w1 0 (.slice (some ⟨w.heap.size,0,none⟩) 0 (n+m)) [] from ⟨ho,hb1,Nat.le_refl _⟩);have H:=H_ (h.below hb1 hB);have HL:=H_ hl;have HB:=H_ hB;obtain⟨g,hgg⟩ : ∃ g,g=w.heap.size:=⟨_,rfl⟩;rw [<- hgg] at hr;rw [<- hgg] at O1;rw [<- hgg];clear ho hg hb1 h hl hi hz0 hz1 hz2 hB hgg;go_enter Tryz.func153,Tryz.ntmps153;go_wp2_with (at_builtin; refine wpList_by rfl _ _ rfl rfl rfl O1.out.own H.out (by omega) (Nat.le_trans O1.out.bas O1.out.bel.size) ?_; intro v' w3 hown3 hg3 hat3)
 go_ret;refine⟨v',rfl, ?_⟩;rw [HL.out];have:=O1.out.app (l':=l) (m:=0+n) (by rw [show by_ l=by_ []++by_ l from rfl]; exact hown3) hg3
 rwa [Nat.zero_add] at this
theorem i64_or_low (m:Nat) (h:m<128):bits .or .i64 (m:Int) 128=((m+128:Nat):Int):=by
 have h1:=(bits_nat .i64 62 (by decide) (fun n h0 h1=>by rw [IntKind.wrap_i64]; omega) m 128 (by omega) (by decide)).2;rw [show ((128:Nat):Int)=128 from rfl] at h1;rw [h1];have:m ||| 128=m+128:=by
  have:=Lib.or128_nat ⟨m,by omega⟩;simp only at this;rw [this,Nat.mod_eq_of_lt h]
 rw [this]
def cl (n:Int):Nat:=(max 0 (min n 1099511627776)).toNat
theorem cl_le (n:Int):cl n<=1099511627776:=by unfold cl; omega
theorem uv_len {m:Nat} (h:m<=1099511627776):(Lib.uvarint m).length<=6:=Lib.uvarint_length 5 m (by omega)
theorem appendNumber_any {base n:Nat} {w0 w:World} {v:Value} {l:List UInt8} (hO:OB base w0 w n v l) (x:Int) (hn:n+10<=140737488355328) :
 Calls Tryz.prog 169 #[v,.int .i64 x] w fun e w'=>∃ v',e = .returned v'/\OB base w0 w' (n+(Lib.uvarint (cl x)).length) v' (l++Lib.uvarint (cl x)):=by
 have hcl:=cl_le x;have hx:(x<0/\cl x=0)\/(x=0/\cl x=0)\/(x=((cl x:Nat):Int)/\0<(cl x:Int))\/(1099511627776<x/\cl x=1099511627776):=by unfold cl; omega
 obtain⟨m,hm⟩ : ∃ m,m=cl x:=⟨_,rfl⟩;rw [<- hm] at hcl hx ⊢;have hlen:=uv_len hcl;have HO:=H_ hO;have hcli:(m:Int)<=1099511627776:=by omega
 clear hm hO;rcases hx with⟨hx,hm0⟩ | ⟨hx,hm0⟩ | ⟨hm0,hx⟩ | ⟨hx,hm0⟩ <;>
 · have HM:=H_ hm0
   try subst x
   try clear hm0
   go_enter Tryz.func169,Tryz.ntmps169;go_wp2_with fail
   go_loopw [0,1] (fun s0 s1 wr=>∃ (v':Value) (y:Nat) (pre:List UInt8),s0=v'/\s1 = .int .i64 y/\y<=m/\Hid (Lib.uvarint m=pre++Lib.uvarint y)/\Hid (OB base w0 wr (n+pre.length) v' (l++pre))) (fun _ s1 _=>(intOf s1).toNat)
   case atStart=>exact⟨_,m,[],rfl,by first | rfl | (rw [HM.out]; rfl),Nat.le_refl _,rfl,by rw [List.append_nil]; exact HO.out⟩
   case round =>
    clear HO HM;obtain⟨v',y,pre,rfl,rfl,hy,HS,HO⟩:=hrel;have hpl:pre.length+(Lib.uvarint y).length<=6:=by
     have h2:=congrArg List.length HS.out;rw [List.length_append] at h2;omega
    have hyp:=Lib.uvarint_pos y;obtain⟨pn,hpn⟩ : ∃ pn,pn=pre.length:=⟨_,rfl⟩;rw [<- hpn] at HO;obtain⟨A,cp,rfl,hcp⟩:=own_slice HO.out.own;have hn6:n+pn+1<=140737488355328:=by omega
    have hws:=Nat.le_trans HO.out.bas HO.out.bel.size;by_cases h128:128<=y
    · have hand:=i64_and127 (y:Int)
      have hor:bits .or .i64 ((y:Int) % 128) 128=((y % 128+128:Nat):Int):=by
       rw [show (y:Int) % 128=((y % 128:Nat):Int) by omega];exact i64_or_low _ (by omega)
      have hconv:(((y % 128+128:Nat):Int)) % 256=((y % 128+128:Nat):Int):=by omega
      have hbig:=Lib.uvarint_big h128;obtain⟨c,hc⟩ : ∃ c:Nat,c=y % 128+128:=⟨_,rfl⟩;have hc2:c<256:=by omega
      rw [<- hc] at hor hconv hbig;have hby:by_ [c.toUInt8]=[Value.int .u8 (c:Int)]:=by
       have:=Lib.byteCells_snoc [] hc2;simpa [Lib.byteCells] using this
      have HPN:=H_ hpn;have HBG:=H_ hbig;have HBY:=H_ hby;clear hpl hyp hlen hcl hc hbig hby hpn;go_wp2_with (at_builtin; refine wpList_by rfl _ _ rfl rfl rfl (HO.out.own.alloc _) (bytesAt_new wr [c.toUInt8] rfl (Nat.lt_succ_self _) rfl HBY.out.symm) hn6 (Nat.le_trans (Nat.le_trans HO.out.bas HO.out.bel.size) (by simp)) ?_; intro v3 w3 hown3 hg3 hat3)
      have HO3:=H_ (show OB base w0 w3 (n+pn+1) v3 (l++(pre++[c.toUInt8])) from (HO.out.alloc _).app (by rw [<- List.append_assoc,by_append]; exact hown3) hg3);clear hown3 hg3 hat3 HO;go_wp2_with fail
      go_roundw
      case rel=>exact⟨v3,y / 128,pre++[c.toUInt8],rfl,by go_num,by omega,HS.out.trans (by rw [HBG.out]; simp),by rw [List.length_append,<- HPN.out]; exact HO3.out⟩
      case measure=>simp [intOf]; omega
    · have hsm:Lib.uvarint y=[y.toUInt8]:=Lib.uvarint_small (by omega)
      have hby:by_ [y.toUInt8]=[Value.int .u8 (y:Int)]:=by
       have:=Lib.byteCells_snoc [] (show y<256 by omega);simpa [Lib.byteCells] using this
      have HPN:=H_ hpn;have HSM:=H_ hsm;have HBY:=H_ hby;clear hpl hyp hlen hcl hsm hby hpn;go_wp2_with (at_builtin; refine wpList_by rfl _ _ rfl rfl rfl (HO.out.own.alloc _) (bytesAt_new wr [y.toUInt8] rfl (Nat.lt_succ_self _) rfl HBY.out.symm) hn6 (Nat.le_trans (Nat.le_trans HO.out.bas HO.out.bel.size) (by simp)) ?_; intro v3 w3 hown3 hg3 hat3)
      go_ret;refine⟨v3,rfl, ?_⟩;rw [HS.out,HSM.out,List.length_append,<- HPN.out,List.length_singleton,<- Nat.add_assoc];exact (HO.out.alloc _).app (by rw [<- List.append_assoc,by_append]; exact hown3) hg3
end Go.Proofs.YtoljpfapphoflaaGreatDoor.PkA

set_option maxRecDepth 100000
namespace Go.Proofs.YtoljpfapphoflaaGreatDoor.PkD
open Go.RowKit PkKit PkA
def pz (i acc:Nat):List UInt8->Nat × Nat × Nat
 | []=>if i=6 then (0,0,3) else (0,0,2)
 | c::r=>if i=6 then (0,0,3)
  else if 128<=c.toNat then pz (i+1) (acc+c.toNat % 128*128 ^ i) r
  else if (0<i/\c.toNat=0)\/1099511627776<acc+c.toNat*128 ^ i then (0,0,3)
  else (acc+c.toNat*128 ^ i,i+1,0)
theorem toNat_u8 {a:Nat} (h:a<256):a.toUInt8.toNat=a:=by
 rw [Nat.toUInt8_eq,UInt8.toNat_ofNat',Nat.mod_eq_of_lt (by omega)]
theorem split_pow (y i:Nat):y % 128*128 ^ i+y / 128*128 ^ (i+1)=y*128 ^ i:=by
 rw [Nat.pow_succ,Nat.mul_comm (128 ^ i) 128,<- Nat.mul_assoc,<- Nat.add_mul]
 congr 1
 omega
theorem pz_uv (rest:List UInt8) : ∀ (y i acc:Nat),i+(Lib.uvarint y).length<=6->(i=0\/0<y)->acc+y*128 ^ i<=1099511627776 ->
 pz i acc (Lib.uvarint y++rest)=(acc+y*128 ^ i,i+(Lib.uvarint y).length,0):=by
 intro y;induction y using Nat.strongRecOn with
 | _ y ih =>
  intro i acc h1 h2 h3;by_cases h:y<128
  · rw [Lib.uvarint_small h] at h1 ⊢
    simp only [List.length_singleton] at h1;simp only [List.cons_append,pz,toNat_u8 (show y<256 by omega),List.length_singleton];rw [if_neg (by omega),if_neg (by omega),if_neg (by omega)]
  · rw [Lib.uvarint_big (by omega)] at h1 ⊢
    simp only [List.length_cons] at h1;simp only [List.cons_append,pz,toNat_u8 (show y % 128+128<256 by omega),List.length_cons];have e:=split_pow y i;rw [if_neg (by omega),if_pos (by omega),show (y % 128+128) % 128=y % 128 by omega];rw [ih (y / 128) (by omega) (i+1) _ (by omega) (.inr (by omega)) (by omega),Nat.add_assoc,e,show i+1+(Lib.uvarint (y / 128)).length=i+((Lib.uvarint (y / 128)).length+1) by omega]
theorem pz_ok : ∀ (l:List UInt8) (i acc:Nat),i<=6->(pz i acc l).2.2=0->∃ y r,l=Lib.uvarint y++r/\pz i acc l=(acc+y*128 ^ i,i+(Lib.uvarint y).length,0)/\acc+y*128 ^ i<=1099511627776/\i+(Lib.uvarint y).length<=6/\(i=0\/0<y)
 | [],i,acc,hi,h=>by
  simp only [pz] at h;split at h <;> cases h
 | c::r,i,acc,hi,h=>by
  have hc:=c.toNat_lt;simp only [pz] at h ⊢;by_cases h6:i=6
  · rw [if_pos h6] at h; cases h
  rw [if_neg h6] at h;simp only [if_neg h6];by_cases h8:128<=c.toNat
  · rw [if_pos h8] at h
    simp only [if_pos h8];obtain⟨y,r',rfl,e,h1,h2,h3⟩:=pz_ok r (i+1) _ (by omega) h;have hy:0<y:=by omega
    have e1:(c.toNat % 128+128*y) % 128=c.toNat % 128:=by omega
    have e2:(c.toNat % 128+128*y) / 128=y:=by omega
    have hb:=Lib.uvarint_big (x:=c.toNat % 128+128*y) (by omega);rw [e1,e2,show c.toNat % 128+128=c.toNat by omega,show c.toNat.toUInt8=c by simp] at hb;have hs:=split_pow (c.toNat % 128+128*y) i;rw [e1,e2] at hs;refine⟨c.toNat % 128+128*y,r',by rw [hb]; rfl, ?_,by omega,by rw [hb]; simp only [List.length_cons]; omega,.inr (by omega)⟩;rw [e,hb,Nat.add_assoc,hs,List.length_cons]
    congr 2
    omega
  · rw [if_neg h8] at h
    simp only [if_neg h8];by_cases hz:(0<i/\c.toNat=0)\/1099511627776<acc+c.toNat*128 ^ i
    · rw [if_pos hz] at h; cases h
    · have hb:=Lib.uvarint_small (x:=c.toNat) (by omega)
      rw [show c.toNat.toUInt8=c by simp] at hb;refine⟨c.toNat,r,by rw [hb]; rfl,by rw [if_neg hz,hb]; rfl,by omega,by rw [hb]; simp only [List.length_singleton]; omega,by omega⟩
theorem pz_err : ∀ (l:List UInt8) (i acc:Nat),(pz i acc l).2.2≠0->pz i acc l=(0,0,2)\/pz i acc l=(0,0,3)
 | [],i,acc,h=>by
  simp only [pz];split
  · exact .inr rfl
  · exact .inl rfl
 | c::r,i,acc,h=>by
  simp only [pz] at h ⊢;by_cases h6:i=6
  · rw [if_pos h6]; exact .inr rfl
  simp only [if_neg h6] at h ⊢;by_cases h8:128<=c.toNat
  · simp only [if_pos h8] at h ⊢
    exact pz_err r _ _ h
  simp only [if_neg h8] at h ⊢;split
  · exact .inr rfl
  · rename_i hz
    rw [if_neg hz] at h;exact absurd rfl h
def ps (l:List UInt8):Nat × Nat × Nat:=pz 0 0 l
theorem ps_uv {y:Nat} (h:y<=1099511627776) (rest:List UInt8):ps (Lib.uvarint y++rest)=(y,(Lib.uvarint y).length,0):=by
 have:=pz_uv rest y 0 0 (by have:=uv_len h; omega) (.inl rfl) (by omega);simpa [ps] using this
theorem ps_ok {l:List UInt8} (h:(ps l).2.2=0) : ∃ y r,l=Lib.uvarint y++r/\ps l=(y,(Lib.uvarint y).length,0)/\y<=1099511627776/\(Lib.uvarint y).length<=6:=by
 obtain⟨y,r,h1,h2,h3,h4,_⟩:=pz_ok l 0 0 (by omega) h;exact⟨y,r,h1,by simpa [ps] using h2,by omega,by omega⟩
theorem ps_err {l:List UInt8} (h:(ps l).2.2≠0):ps l=(0,0,2)\/ps l=(0,0,3):=pz_err l 0 0 h
theorem ps_le (l:List UInt8):(ps l).2.1<=l.length:=by
 by_cases h:(ps l).2.2=0
 · obtain⟨y,r,e,h2,_⟩:=ps_ok h
   rw [h2,e,List.length_append];exact Nat.le_add_right _ _
 · rcases ps_err h with e | e <;> rw [e] <;> exact Nat.zero_le _
end Go.Proofs.YtoljpfapphoflaaGreatDoor.PkD

set_option maxHeartbeats 4000000
set_option maxRecDepth 100000
namespace Go.Proofs.YtoljpfapphoflaaGreatDoor.PkE
open Go.RowKit PkKit PkA PkD
theorem nat_and128 : ∀ a:Fin 256,(a.val &&& 128)=if 128<=a.val then 128 else 0:=by decide +kernel
theorem i64_small (n:Int) (h0:0<=n) (h1:n<2 ^ 62):IntKind.i64.wrap n=n:=by rw [IntKind.wrap_i64]; omega
theorem and128 (c:UInt8):(bits .and .i64 (c.toNat:Int) 128 != 0)=decide (128<=c.toNat):=by
 have hc:=c.toNat_lt;have h:=(bits_nat .i64 62 (by decide) i64_small c.toNat 128 (by omega) (by decide)).1;rw [show ((128:Nat):Int)=128 from rfl,nat_and128 ⟨c.toNat,by omega⟩] at h;rw [h];by_cases h8:128<=c.toNat
 · simp only [if_pos h8,decide_eq_true h8]; rfl
 · simp only [if_neg h8,decide_eq_false h8]; rfl
theorem pow_eq (k:Nat):(2:Int) ^ (7*k)=((128 ^ k:Nat):Int):=by
 rw [Int.pow_mul];simp
theorem pow_le_35 {k:Nat} (hk:k<6):128 ^ k<=34359738368:=by
 have:=Nat.pow_le_pow_right (show 0<128 by decide) (show k<=5 by omega);omega
theorem or_shl {X k:Nat} (hk:k<6) (hX:X<128 ^ k) (c:UInt8):bits .or .i64 (X:Int) (wrap64 ((c.toNat:Int) % 128*2 ^ (7*k)))=((X+c.toNat % 128*128 ^ k:Nat):Int):=by
 have hp:=pow_le_35 hk;have hc:c.toNat % 128<128:=Nat.mod_lt _ (by decide);have hm:c.toNat % 128*128 ^ k<=127*34359738368:=Nat.mul_le_mul (by omega) hp;rw [pow_eq,show (c.toNat:Int) % 128=((c.toNat % 128:Nat):Int) by omega,<- Int.natCast_mul];have e:wrap64 ((c.toNat % 128*128 ^ k:Nat):Int)=((c.toNat % 128*128 ^ k:Nat):Int):=by unfold wrap64; omega
 rw [e,(bits_nat .i64 62 (by decide) i64_small X _ (by omega) (by omega)).2]
 congr 1
 have h2:128 ^ k=2 ^ (7*k):=by rw [Nat.pow_mul]
 rw [h2] at hX ⊢;have:=Nat.two_pow_add_eq_or_of_lt hX (c.toNat % 128);rw [Nat.or_comm,Nat.mul_comm,<- this,Nat.add_comm]
theorem pz_end6 (X:Nat) (l:List UInt8):pz 6 X l=(0,0,3):=by cases l <;> simp [pz]
theorem pz_none {k X:Nat} (h:k≠6):pz k X []=(0,0,2):=by simp only [pz]; rw [if_neg h]
theorem pz_more {k X:Nat} {c:UInt8} {r:List UInt8} (h:k≠6) (h8:128<=c.toNat):pz k X (c::r)=pz (k+1) (X+c.toNat % 128*128 ^ k) r:=by
 rw [pz,if_neg h,if_pos h8]
theorem pz_bad {k X:Nat} {c:UInt8} {r:List UInt8} (h:k≠6) (h8 : ¬ 128<=c.toNat) (hz:(0<k/\c.toNat=0)\/1099511627776<X+c.toNat*128 ^ k):pz k X (c::r)=(0,0,3):=by
 rw [pz,if_neg h,if_neg h8,if_pos hz]
theorem pz_good {k X:Nat} {c:UInt8} {r:List UInt8} (h:k≠6) (h8 : ¬ 128<=c.toNat) (hz : ¬ ((0<k/\c.toNat=0)\/1099511627776<X+c.toNat*128 ^ k)):pz k X (c::r)=(X+c.toNat*128 ^ k,k+1,0):=by
 rw [pz,if_neg h,if_neg h8,if_neg hz]
def PP (w:World) (t:Nat × Nat × Nat) (e:Ending) (w':World):Prop:=e = .returned (.tuple #[.int .i64 (t.1:Nat),.int .i64 (t.2.1:Nat),.int .i64 (t.2.2:Nat)])/\w=w'
theorem pp_of {w:World} {t:Nat × Nat × Nat} {a b c:Nat} (h:t=(a,b,c)):PP w t (.returned (.tuple #[.int .i64 (a:Nat),.int .i64 (b:Nat),.int .i64 (c:Nat)])) w:=⟨by rw [h],rfl⟩
theorem parse_any {w:World} {B n cp:Nat} {A:Option Addr} {l:List UInt8} (h:BytesAt w B A n l):Calls Tryz.prog 156 #[.slice A n cp] w (PP w (ps l)):=by
 have HL:=H_ h.1;have H:=H_ h;clear h;go_enter Tryz.func156,Tryz.ntmps156;go_wp2_with fail
 go_loop [2,7] (fun s2 s7=>∃ (k X:Nat),k<=6/\k<=n/\s7 = .int .i64 k/\s2 = .int .i64 X/\Hid (X<128 ^ k)/\Hid (ps l=pz k X (l.drop k))) (fun _ s7=>6-(intOf s7).toNat)
 case atStart=>exact⟨0,0,by omega,by omega,rfl,rfl,(by decide:0<128 ^ 0),rfl⟩
 case round =>
  obtain⟨k,X,hk,hkn,rfl,rfl,HX,HS⟩:=hrel;by_cases h6:k=6
  · subst h6
    go_wp2_with fail
    go_ret3
    exact pp_of (HS.out.trans (pz_end6 _ _))
  · by_cases hkl:k=n
    · subst hkl
      go_wp2_with fail
      go_ret3
      exact pp_of (HS.out.trans (by rw [List.drop_eq_nil_of_le (by rw [HL.out]; exact Nat.le_refl _)]; exact pz_none h6))
    · obtain⟨ad,c,rfl,hc,hcell⟩:=H.out.at_ (show k<n by omega)
      have hand:=i64_and127 (c.toNat:Int);have h128:=and128 c;have hlt:=c.toNat_lt;have hor:=or_shl (show k<6 by omega) HX.out c;have hd:l.drop k=c::l.drop (k+1):=by
       obtain⟨hl,e⟩:=List.getElem?_eq_some_iff.1 hc;rw [List.drop_eq_getElem_cons hl,e]
      rw [hd] at HS;obtain⟨Y,hY⟩ : ∃ Y,Y=X+c.toNat % 128*128 ^ k:=⟨_,rfl⟩;rw [<- hY] at hor;have HY:=H_ hY;have H6:=H_ h6;have hk6:(k:Int)<6:=by omega
      clear hY hc hd;by_cases h8:128<=c.toNat
      · rw [decide_eq_true h8] at h128
        have H8:=H_ h8;go_wp2_with fail
        go_round
        case rel =>
         refine⟨k+1,Y,by omega,by omega,by go_num,rfl, ?_,HS.out.trans (by rw [pz_more H6.out H8.out,HY.out])⟩;have hx:=HX.out;have hm:c.toNat % 128*128 ^ k<=127*128 ^ k:=Nat.mul_le_mul_right _ (by omega);show Y<128 ^ (k+1);rw [HY.out,Nat.pow_succ];omega
        case measure=>simp [intOf]; omega
      · rw [decide_eq_false h8] at h128
        have H8:=H_ h8;have hY2:Y=X+c.toNat*128 ^ k:=by rw [HY.out,Nat.mod_eq_of_lt (by omega)]
        have HY2:=H_ hY2;clear hY2 HY HX;by_cases hz:(0<k/\c.toNat=0)\/1099511627776<Y
        · have hp:ps l=(0,0,3):=HS.out.trans (pz_bad H6.out H8.out (by rw [<- HY2.out]; exact hz))
          have HP:=H_ hp;clear hp;go_wp2_with fail
          all_goals first
           | (go_ret3; exact pp_of HP.out)
           | (exfalso; simp_all; done)
           | (exfalso; omega)
        · have hp:ps l=(Y,k+1,0):=HS.out.trans (by rw [HY2.out]; exact pz_good H6.out H8.out (by rw [<- HY2.out]; exact hz))
          have HP:=H_ hp;clear hp;by_cases hk0:0<k
          · have hce:((c.toNat:Int)==0)=false:=by rw [beq_eq_false_iff_ne]; omega
            have hcn : ¬ c.toNat=0:=by omega
            have hy:(Y:Int)<=1099511627776:=by omega
            clear hz;go_wp2_with fail
            go_ret3
            exact pp_of HP.out
          · have hy:(Y:Int)<=1099511627776:=by omega
            clear hz;go_wp2_with fail
            go_ret3
            exact pp_of HP.out
end Go.Proofs.YtoljpfapphoflaaGreatDoor.PkE

set_option maxHeartbeats 1000000
set_option maxRecDepth 100000
namespace Go.Proofs.YtoljpfapphoflaaGreatDoor.PkB
open Go.RowKit PkKit PkA
theorem cl_nat {m:Nat} (h:m<=1099511627776):cl (m:Int)=m:=by unfold cl; omega
theorem gives_of {base n:Nat} {w w':World} {v:Value} {l:List UInt8} (h:OB base w w' n v l):Gives base w l (.returned v) w':=⟨v,rfl,by rw [h.len]; exact h⟩
theorem number_any {w:World} {B n cp:Nat} {A:Option Addr} {l:List UInt8} (h:BytesAt w B A n l) (hB:B<=w.heap.size) (x:Int) (hn:n+16<=140737488355328) :
 Calls Tryz.prog 135 #[.slice A n cp,.int .i64 x] w (Gives w.heap.size w (l++Lib.uvarint (cl x))):=by
 have hl:=h.1;have C:=copied_any (cp:=cp) h hB (m:=6) (by omega);rw [show (((6:Nat):Int))=6 from rfl] at C;have HC:=H_ C;have HL:=H_ hl;clear C hl h;go_enter Tryz.func135,Tryz.ntmps135;go_wp2_with fail
 refine HC.out.mono ?_;rintro e w1 ⟨v1,rfl,O1⟩;rw [HL.out] at O1;have HA:=H_ (appendNumber_any O1 x (by omega));clear O1;go_wp2_with fail
 refine HA.out.mono ?_;rintro e w2 ⟨v2,rfl,O2⟩;go_wp2_with fail
 go_ret;exact gives_of O2
theorem strCells_by (s:ByteArray):Lib.strCells s=by_ s.data.toList:=rfl
def tx (s:ByteArray):List UInt8:=Lib.uvarint s.size++s.data.toList
theorem text_any {w:World} {B n cp:Nat} {A:Option Addr} {l:List UInt8} (h:BytesAt w B A n l) (hB:B<=w.heap.size) (s:ByteArray) (hs:s.size<=1099511627776) (hn:n<=1099511627776) :
 Calls Tryz.prog 134 #[.slice A n cp,.string s] w (Gives w.heap.size w (l++tx s)):=by
 have hl:=h.1;have C:=copied_any (cp:=cp) h hB (m:=6+s.size) (by omega);rw [show (((6+s.size:Nat):Int))=6+(s.size:Int) by omega] at C;obtain⟨i0,hi,hz0,hz1,hz2⟩:=info_parts info5;have HC:=H_ C;have HL:=H_ hl;have HI:=H_ hi;have HI0:=H_ hz0;have HI1:=H_ hz1;have HI2:=H_ hz2;clear C hl h hi hz0 hz1 hz2;go_enter Tryz.func134,Tryz.ntmps134;go_wp2_with fail
 refine HC.out.mono ?_;rintro e w1 ⟨v1,rfl,O1⟩;rw [HL.out] at O1;have HA:=appendNumber_any O1 s.size (by omega);rw [cl_nat hs] at HA;have HA:=H_ HA;have hlen:=uv_len hs;clear O1;go_wp2_with fail
 refine HA.out.mono ?_;rintro e w2 ⟨v2,rfl,O2⟩;have O2:=H_ O2;go_wp2_with (at_builtin; refine Lib.wpList_append_own_string _ rfl _ _ 37 9 rfl w.heap.size 5 i0 Tryz.underlying37 Tryz.underlying9 HI.out HI0.out HI1.out HI2.out _ _ _ rfl O2.out.own s rfl (by unfold maxLen; omega) (by omega) (O2.out.bel.size) ?_; intro v3 w3 hown3 hg3 hnil3)
 go_ret;refine gives_of (n:=n+(Lib.uvarint s.size).length+s.size) (v:=v3) (O2.out.app ?_ hg3);unfold tx;rw [<- List.append_assoc,by_append,<- strCells_by];exact hown3
end Go.Proofs.YtoljpfapphoflaaGreatDoor.PkB

set_option maxHeartbeats 4000000
set_option maxRecDepth 100000
namespace Go.Proofs.YtoljpfapphoflaaGreatDoor.PkC
open Go.RowKit PkKit PkA PkB
def fx (m:Nat):List UInt8:=[(m / 16777216 % 256).toUInt8,(m / 65536 % 256).toUInt8,(m / 256 % 256).toUInt8,(m % 256).toUInt8]
def mx (x:Int):Nat:=(max x 0).toNat
theorem by_single {c:Nat} (h:c<256):by_ [c.toUInt8]=[Value.int .u8 (c:Int)]:=by
 have:=Lib.byteCells_snoc [] h;simpa [Lib.byteCells] using this
theorem fx_at (m:Nat):(fx m)[0]? = some (m / 16777216 % 256).toUInt8/\(fx m)[1]? = some (m / 65536 % 256).toUInt8/\(fx m)[2]? = some (m / 256 % 256).toUInt8/\(fx m)[3]? = some (m % 256).toUInt8:=⟨rfl,rfl,rfl,rfl⟩
theorem by_int {c:Nat} {x:Int} (h:c<256) (hx:x=c):by_ [c.toUInt8]=[Value.int .u8 x]:=by rw [hx]; exact by_single h
theorem fixed_any {w:World} {B n cp:Nat} {A:Option Addr} {l:List UInt8} (h:BytesAt w B A n l) (hB:B<=w.heap.size) (x:Int) (hn:n+16<=140737488355328) :
 Calls Tryz.prog 214 #[.slice A n cp,.int .i64 x] w (Gives w.heap.size w (l++fx (mx x))):=by
 have hx:(x<0/\mx x=0)\/(x=0/\mx x=0)\/(x=((mx x:Nat):Int)/\0<(mx x:Int)):=by unfold mx; omega
 obtain⟨m,hm⟩ : ∃ m,m=mx x:=⟨_,rfl⟩;rw [<- hm] at hx ⊢;have hl:=h.1;have C:=copied_any (cp:=cp) h hB (m:=4) (by omega);rw [show (((4:Nat):Int))=4 from rfl] at C;have HC:=H_ C;have HL:=H_ hl;clear C hl h hm;rcases hx with⟨hx,hm0⟩ | ⟨hx,hm0⟩ | ⟨hm0,hx⟩ <;>
 · have HM:=H_ hm0
   try subst x
   try clear hm0
   go_enter Tryz.func214,Tryz.ntmps214;go_wp2_with fail
   refine HC.out.mono ?_;rintro e w1 ⟨v1,rfl,O1⟩;rw [HL.out] at O1;have O1:=H_ O1;go_wp2_with fail
   go_loopw [0,5] (fun s0 s5 wr=>∃ (v':Value) (k:Nat),s0=v'/\k<=4/\s5 = .int .i64 (3-(k:Int))/\Hid (OB w.heap.size w wr (n+k) v' (l++(fx m).take k))) (fun _ s5 _=>(intOf s5+1).toNat)
   case atStart=>exact⟨_,0,rfl,by omega,rfl,by rw [List.take_zero,List.append_nil]; exact O1.out⟩
   case round =>
    clear O1;obtain⟨v',k,rfl,hk,rfl,HO⟩:=hrel;obtain⟨A,cp,rfl,hcp⟩:=own_slice HO.out.own;by_cases h4:k=4
    · subst h4
      go_wp2_with fail
      go_ret;exact gives_of HO.out
    · obtain⟨e0,e1,e2,e3⟩:=fx_at m
      have hk4:k=0\/k=1\/k=2\/k=3:=by omega
      obtain⟨c,hc,hfc⟩ : ∃ c:Nat,c<256/\(fx m)[k]? = some c.toUInt8/\(c:Int)=(m:Int) / 2 ^ (8*(3-k)) % 256:=by
       rcases hk4 with rfl | rfl | rfl | rfl
       · exact⟨_,by omega,e0,by omega⟩
       · exact⟨_,by omega,e1,by omega⟩
       · exact⟨_,by omega,e2,by omega⟩
       · exact⟨_,by omega,e3,by omega⟩
      have hsn:(fx m).take (k+1)=(fx m).take k++[c.toUInt8]:=by
       obtain⟨hl,e⟩:=List.getElem?_eq_some_iff.1 hfc.1;rw [List.take_succ_eq_append_getElem hl,e]
      have HSN:=H_ hsn;clear e0 e1 e2 e3 hsn;rcases hk4 with rfl | rfl | rfl | rfl <;>
      · have hby:=by_int hc hfc.2.symm
        try rw [HM.out] at hby
        simp only [Nat.sub_zero,Nat.reduceSub,Nat.reduceMul,Int.reducePow,Int.pow_zero,Int.ediv_one,Int.natCast_zero,Int.zero_ediv,Int.zero_emod] at hby;have HBY:=H_ hby;clear hby hc hfc HM;go_wp2_with (at_builtin; refine wpList_by rfl _ _ rfl rfl rfl (HO.out.own.alloc _) (bytesAt_new wr [c.toUInt8] rfl (Nat.lt_succ_self _) rfl HBY.out.symm) (by omega) (Nat.le_trans (Nat.le_trans HO.out.bas HO.out.bel.size) (by simp)) ?_; intro v3 w3 hown3 hg3 hat3)
        go_roundw
        case rel=>first | exact⟨v3,0+1,rfl,by omega,by go_num,by rw [HSN.out]; exact (HO.out.alloc _).app (by rw [<- List.append_assoc,by_append]; exact hown3) hg3⟩ | exact⟨v3,1+1,rfl,by omega,by go_num,by rw [HSN.out]; exact (HO.out.alloc _).app (by rw [<- List.append_assoc,by_append]; exact hown3) hg3⟩ | exact⟨v3,2+1,rfl,by omega,by go_num,by rw [HSN.out]; exact (HO.out.alloc _).app (by rw [<- List.append_assoc,by_append]; exact hown3) hg3⟩ | exact⟨v3,3+1,rfl,by omega,by go_num,by rw [HSN.out]; exact (HO.out.alloc _).app (by rw [<- List.append_assoc,by_append]; exact hown3) hg3⟩
        case measure=>simp [intOf]
end Go.Proofs.YtoljpfapphoflaaGreatDoor.PkC

set_option maxHeartbeats 4000000
set_option maxRecDepth 100000
namespace Go.Proofs.YtoljpfapphoflaaGreatDoor.PkF
open Go.RowKit PkKit PkA PkD PkE
abbrev ptr (T:Nat):Value:=.pointer (some ⟨T,0,none⟩)
def RD (w:World) (T:Nat) (l:List UInt8) (er:Nat):Prop :=
 ∃ A n cp,w.heap[T]? = some (.cells #[.slice A n cp,.int .i64 (er:Nat)] 166 (0,0))/\BytesAt w T A n l/\n<=cp/\n<=140737488355328
theorem RD.lt {w:World} {T er:Nat} {l:List UInt8} (h:RD w T l er):T<w.heap.size:=by
 obtain⟨A,n,cp,hh,_⟩:=h;exact (gs_ hh).1
theorem RD.below {w w':World} {T er B:Nat} {l:List UInt8} (h:RD w T l er) (hb:Below B w w') (hB:T<B):RD w' T l er:=by
 obtain⟨A,n,cp,hh,hz,hc,hn⟩:=h;exact⟨A,n,cp,by rw [hb.block T hB]; exact hh,hz.below hb (by omega),hc,hn⟩
theorem RD.of_set {w:World} {T n cp er:Nat} {A:Option Addr} {l l0:List UInt8} {e0:Nat} (h:RD w T l0 e0) (hz:BytesAt w T A n l) (hc:n<=cp) (hb:n<=140737488355328) :
 RD ((w.setCell ⟨T,0,none⟩ (.slice A n cp)).setCell ⟨T,1,none⟩ (.int .i64 (er:Nat))) T l er:=by
 obtain⟨A0,n0,cp0,hh,_⟩:=h;refine⟨A,n,cp, ?_,(hz.setCell (p:=⟨T,0,none⟩) lr_ _).setCell (p:=⟨T,1,none⟩) lr_ _,hc,hb⟩;simp [World.setCell,Array.getElem?_modify,hh]
theorem RD.of_rest {w:World} {T n cp er:Nat} {A:Option Addr} {l l0:List UInt8} (h:RD w T l0 er) (hz:BytesAt w T A n l) (hc:n<=cp) (hb:n<=140737488355328) :
 RD (w.setCell ⟨T,0,none⟩ (.slice A n cp)) T l er:=by
 obtain⟨A0,n0,cp0,hh,_⟩:=h;refine⟨A,n,cp, ?_,hz.setCell (p:=⟨T,0,none⟩) lr_ _,hc,hb⟩;simp [World.setCell,Array.getElem?_modify,hh]
theorem RD.of_err {w:World} {T er:Nat} {l:List UInt8} {e0:Nat} (h:RD w T l e0):RD (w.setCell ⟨T,1,none⟩ (.int .i64 (er:Nat))) T l er:=by
 obtain⟨A,n,cp,hh,hz,hc,hn⟩:=h;refine⟨A,n,cp, ?_,hz.setCell (p:=⟨T,1,none⟩) lr_ _,hc,hn⟩;simp [World.setCell,Array.getElem?_modify,hh]
theorem grown_set {w:World} {T i:Nat} (v:Value):w.grownBy (w.setCell ⟨T,i,none⟩ v) (some T) :=
 ⟨rfl,rfl,rfl,by simp [World.setCell],fun k _ hk=>Below.heap_setCell w _ v k (fun e=>hk (by rw [e]))⟩
theorem grown_trans {a b c:World} {r:Option Nat} (h:a.grownBy b r) (k:b.grownBy c r):a.grownBy c r :=
 ⟨k.os.trans h.os,k.tape.trans h.tape,k.output.trans h.output,Nat.le_trans h.size k.size,fun i hi hr=>(k.block i (Nat.lt_of_lt_of_le hi h.size) hr).trans (h.block i hi hr)⟩
theorem RD.cells {w:World} {T er:Nat} {l:List UInt8} (h:RD w T l er) : ∃ A n cp,l.length=n/\(n<=cp/\n<=140737488355328)/\w.cell? ⟨T,0,none⟩=some (.slice A n cp)/\w.cell? ⟨T,1,none⟩=some (.int .i64 (er:Nat)) /\
 w.frozen? ⟨T,0,none⟩=false/\w.frozen? ⟨T,1,none⟩=false/\BytesAt w T A n l:=by
 obtain⟨A,n,cp,hh,hz,hc,hn⟩:=h;refine⟨A,n,cp,hz.1,⟨hc,hn⟩, ?_, ?_, ?_, ?_,hz⟩
 · rw [cell_of_row w T 0 _ 166 _ hh]; rfl
 · rw [cell_of_row w T 1 _ 166 _ hh]; rfl
 · simp [World.frozen?,hh]
 · simp [World.frozen?,hh]
def NewP (w:World) (l:List UInt8) (e:Ending) (w':World):Prop:=∃ T,e = .returned (ptr T)/\w.heap.size<=T/\RD w' T l 0/\Below w.heap.size w w'
theorem new_any {w:World} {B n cp:Nat} {A:Option Addr} {l:List UInt8} (h:BytesAt w B A n l) (hB:B<=w.heap.size) (hn:n<=140737488355328) :
 Calls Tryz.prog 119 #[.slice A n cp] w (NewP w l):=by
 have C:=copied_any (cp:=cp) h hB (m:=0) (by omega);rw [show (((0:Nat):Int))=0 from rfl] at C;have HC:=H_ C;have HL:=H_ h.1;clear C h;go_enter Tryz.func119,Tryz.ntmps119;go_wp2_with fail
 refine HC.out.mono ?_;rintro e w1 ⟨v1,rfl,O1⟩;obtain⟨A1,cp1,rfl,hcp1⟩:=own_slice O1.own;have O1:=H_ O1;go_wp2_with fail
 go_ret;refine⟨w1.heap.size,rfl,O1.out.bel.size,⟨A1,l.length,cp1, ?_,(O1.out.at_).below ((Below.refl _ _).alloc lr_ _) lr_,hcp1,by rw [HL.out]; exact hn⟩,O1.out.bel.alloc O1.out.bel.size _⟩;exact heap_alloc_new w1 _
theorem err_any {w:World} {T er:Nat} {l:List UInt8} (h:RD w T l er):Calls Tryz.prog 125 #[ptr T] w fun e w'=>e = .returned (.int .i64 (er:Nat))/\w=w':=by
 obtain⟨A,n,cp,hl,⟨hcp,hnb⟩,h0,h1,f0,f1,hz⟩:=h.cells;clear h hz;go_enter Tryz.func125,Tryz.ntmps125;go_wp2_with fail
 go_ret;exact⟨rfl,rfl⟩
theorem left_any {w:World} {T er:Nat} {l:List UInt8} (h:RD w T l er):Calls Tryz.prog 88 #[ptr T] w fun e w'=>e = .returned (.int .i64 (l.length:Nat))/\w=w':=by
 obtain⟨A,n,cp,hl,⟨hcp,hnb⟩,h0,h1,f0,f1,hz⟩:=h.cells;subst hl;clear h hz;go_enter Tryz.func88,Tryz.ntmps88;go_wp2_with fail
 go_ret;exact⟨rfl,rfl⟩
def NumP (w:World) (T:Nat) (l:List UInt8) (t:Nat × Nat × Nat) (e:Ending) (w':World):Prop:=e = .returned (.int .i64 (t.1:Nat))/\RD w' T (l.drop t.2.1) t.2.2/\w.grownBy w' (some T)
theorem num_any {w:World} {T:Nat} {l:List UInt8} (h:RD w T l 0):Calls Tryz.prog 155 #[ptr T] w (NumP w T l (ps l)):=by
 obtain⟨A,n,cp,hl,⟨hcp,hnb⟩,h0,h1,f0,f1,hz⟩:=h.cells;have E:=err_any h;rw [show (((0:Nat):Int))=0 from rfl] at E;have P:=parse_any (cp:=cp) hz;have hle:=ps_le l;rw [hl] at hle;have HE:=H_ E;have HP:=H_ P;have H:=H_ h;have HZ:=H_ hz;clear E P h hz hl;obtain⟨x,sz,er,ht⟩ : ∃ x sz er,ps l=(x,sz,er):=⟨_,_,_,rfl⟩;rw [ht] at hle HP ⊢;simp only at hle;clear ht;by_cases hcs:cp=sz
 · have hcut:=HZ.out.cut (cp:=cp) hle hcp
   rw [if_pos hcs,show n-sz=0 by omega] at hcut;have HC:=H_ hcut;clear hcut;subst hcs;go_enter Tryz.func155,Tryz.ntmps155;go_wp2_with fail
   refine HE.out.mono ?_;rintro e w' ⟨rfl,rfl⟩;go_wp2_with fail
   refine HP.out.mono ?_;rintro e w' ⟨rfl,rfl⟩;go_wp2_with fail
   go_ret;exact⟨rfl,H.out.of_set HC.out (by omega) (by omega),grown_trans (grown_set _) (grown_set _)⟩
 · have hcut:=HZ.out.cut (cp:=cp) hle hcp
   rw [if_neg hcs] at hcut;have HC:=H_ hcut;clear hcut;go_enter Tryz.func155,Tryz.ntmps155;go_wp2_with fail
   refine HE.out.mono ?_;rintro e w' ⟨rfl,rfl⟩;go_wp2_with fail
   refine HP.out.mono ?_;rintro e w' ⟨rfl,rfl⟩;go_wp2_with fail
   go_ret;exact⟨rfl,H.out.of_set HC.out (by omega) (by omega),grown_trans (grown_set _) (grown_set _)⟩
theorem ne_int {er:Nat} (h:er≠0):((er:Int) != 0)=true:=by
 rw [bne_iff_ne]; omega
theorem num_bad {w:World} {T er:Nat} {l:List UInt8} (h:RD w T l er) (he:er≠0):Calls Tryz.prog 155 #[ptr T] w fun e w'=>e = .returned (.int .i64 0)/\w=w':=by
 have HE:=H_ (err_any h);have hne:=ne_int he;clear h;go_enter Tryz.func155,Tryz.ntmps155;go_wp2_with fail
 refine HE.out.mono ?_;rintro e w' ⟨rfl,rfl⟩;go_wp2_with fail
 go_ret;exact⟨rfl,rfl⟩
theorem text_bad {w:World} {T er:Nat} {l:List UInt8} (h:RD w T l er) (he:er≠0) (x:Int):Calls Tryz.prog 123 #[ptr T,.int .i64 x] w fun e w'=>e = .returned (.string ⟨#[]⟩)/\w=w':=by
 have HE:=H_ (err_any h);have hne:=ne_int he;clear h;go_enter Tryz.func123,Tryz.ntmps123;go_wp2_with fail
 refine HE.out.mono ?_;rintro e w' ⟨rfl,rfl⟩;go_wp2_with fail
 go_ret;exact⟨rfl,rfl⟩
def TakeP (w:World) (T:Nat) (l:List UInt8) (k:Nat) (e:Ending) (w':World):Prop :=
 ∃ A cp,e = .returned (.slice A k cp)/\k<=cp/\BytesAt w' T A k (l.take k)/\RD w' T (l.drop k) 0/\w.grownBy w' (some T)
theorem take_any {w:World} {T k:Nat} {l:List UInt8} (h:RD w T l 0) (hk:k<=l.length):Calls Tryz.prog 157 #[ptr T,.int .i64 (k:Nat)] w (TakeP w T l k):=by
 obtain⟨A,n,cp,hl,⟨hcp,hnb⟩,h0,h1,f0,f1,hz⟩:=h.cells;have E:=err_any h;rw [show (((0:Nat):Int))=0 from rfl] at E;have HE:=H_ E;have H:=H_ h;have HZ:=H_ hz;have HL:=H_ hl;rw [hl] at hk;clear E h hz hl;by_cases hcs:cp=k
 · have hcut:=HZ.out.cut (cp:=cp) hk hcp
   rw [if_pos hcs,show n-k=0 by omega] at hcut;have HC:=H_ hcut;clear hcut;subst hcs;go_enter Tryz.func157,Tryz.ntmps157;go_wp2_with fail
   refine HE.out.mono ?_;rintro e w' ⟨rfl,rfl⟩;go_wp2_with fail
   go_ret;exact⟨A,cp,rfl,by omega,(HZ.out.take (by omega)).setCell (p:=⟨T,0,none⟩) lr_ _,H.out.of_rest HC.out (by omega) (by omega),grown_set _⟩
 · have hcut:=HZ.out.cut (cp:=cp) hk hcp
   rw [if_neg hcs] at hcut;have HC:=H_ hcut;clear hcut;go_enter Tryz.func157,Tryz.ntmps157;go_wp2_with fail
   refine HE.out.mono ?_;rintro e w' ⟨rfl,rfl⟩;go_wp2_with fail
   go_ret;exact⟨A,cp,rfl,by omega,(HZ.out.take (by omega)).setCell (p:=⟨T,0,none⟩) lr_ _,H.out.of_rest HC.out (by omega) (by omega),grown_set _⟩
theorem take_short {w:World} {T k:Nat} {l:List UInt8} (h:RD w T l 0) (hk:l.length<k):Calls Tryz.prog 157 #[ptr T,.int .i64 (k:Nat)] w fun e w'=>e = .returned (.slice none 0 0)/\RD w' T l 2/\w.grownBy w' (some T):=by
 obtain⟨A,n,cp,hl,⟨hcp,hnb⟩,h0,h1,f0,f1,hz⟩:=h.cells;have E:=err_any h;rw [show (((0:Nat):Int))=0 from rfl] at E;have HE:=H_ E;have H:=H_ h;rw [hl] at hk;clear E h hz hl;go_enter Tryz.func157,Tryz.ntmps157;go_wp2_with fail
 refine HE.out.mono ?_;rintro e w' ⟨rfl,rfl⟩;go_wp2_with fail
 go_ret;exact⟨rfl,H.out.of_err,grown_set _⟩
theorem take_bad {w:World} {T er:Nat} {l:List UInt8} (h:RD w T l er) (he:er≠0) (x:Int):Calls Tryz.prog 157 #[ptr T,.int .i64 x] w fun e w'=>e = .returned (.slice none 0 0)/\w=w':=by
 have HE:=H_ (err_any h);have hne:=ne_int he;clear h;go_enter Tryz.func157,Tryz.ntmps157;go_wp2_with fail
 refine HE.out.mono ?_;rintro e w' ⟨rfl,rfl⟩;go_wp2_with fail
 go_ret;exact⟨rfl,rfl⟩
def tz (l:List UInt8) (m:Int):List UInt8 × List UInt8 × Nat :=
 if (ps l).2.2≠0 then ([],l,(ps l).2.2)
 else if m<(ps l).1 then ([],l,3)
 else if l.length<(ps l).2.1+(ps l).1 then ([],l,2)
 else ((l.drop (ps l).2.1).take (ps l).1,l.drop ((ps l).2.1+(ps l).1),0)
def TextP (w:World) (T:Nat) (t:List UInt8 × List UInt8 × Nat) (e:Ending) (w':World):Prop:=e = .returned (.string ⟨t.1.toArray⟩)/\RD w' T t.2.1 t.2.2/\w.grownBy w' (some T)
theorem text_any {w:World} {T:Nat} {l:List UInt8} (h:RD w T l 0) (m:Int):Calls Tryz.prog 123 #[ptr T,.int .i64 m] w (TextP w T (tz l m)):=by
 obtain⟨A,n,cp,hl,⟨hcp,hnb⟩,h0,h1,f0,f1,hz⟩:=h.cells;have E:=err_any h;rw [show (((0:Nat):Int))=0 from rfl] at E;have P:=parse_any (cp:=cp) hz;have hle:=ps_le l;rw [hl] at hle;have HE:=H_ E;have HP:=H_ P;have H:=H_ h;have HL:=H_ hl;have hps:((ps l).2.2=0/\(ps l).1<=1099511627776/\(ps l).2.1<=6)\/(ps l).2.2≠0:=by
  by_cases h0:(ps l).2.2=0
  · obtain⟨y,r,_,e2,e3,e4⟩:=ps_ok h0
    exact .inl ⟨h0,by rw [e2]; exact e3,by rw [e2]; exact e4⟩
  · exact .inr h0
 unfold tz;obtain⟨x,sz,er,ht⟩ : ∃ x sz er,ps l=(x,sz,er):=⟨_,_,_,rfl⟩;rw [ht] at hle HP hps ⊢;simp only at hle hps ⊢;clear E P h hz hl ht;by_cases her:er=0
 · have hps2:x<=1099511627776/\sz<=6:=by
    rcases hps with h | h
    · exact h.2
    · exact absurd her h
   subst her;rw [if_neg (by simp)];obtain⟨hx,hsz⟩:=hps2;clear hps;by_cases hm:m<x
   · rw [if_pos hm]
     go_enter Tryz.func123,Tryz.ntmps123;go_wp2_with fail
     refine HE.out.mono ?_;rintro e w' ⟨rfl,rfl⟩;go_wp2_with fail
     refine HP.out.mono ?_;rintro e w' ⟨rfl,rfl⟩;go_wp2_with fail
     go_ret;exact⟨rfl,H.out.of_err,grown_set _⟩
   · rw [if_neg hm]
     by_cases hs:n<sz+x
     · rw [if_pos (by rw [HL.out]; exact hs)]
       have hs2:(n:Int)-(sz:Int)<(x:Int):=by omega
       have hm2:(x:Int)<=m:=by omega
       clear hm hs;go_enter Tryz.func123,Tryz.ntmps123;go_wp2_with fail
       refine HE.out.mono ?_;rintro e w' ⟨rfl,rfl⟩;go_wp2_with fail
       refine HP.out.mono ?_;rintro e w' ⟨rfl,rfl⟩;go_wp2_with fail
       go_ret;exact⟨rfl,H.out.of_err,grown_set _⟩
     · rw [if_neg (by rw [HL.out]; exact hs)]
       have TK:=take_any (k:=sz+x) H.out (by rw [HL.out]; omega);rw [show ((sz+x:Nat):Int)=(sz:Int)+(x:Int) by omega] at TK;have HT:=H_ TK;clear TK;have hs2:(x:Int)<=(n:Int)-(sz:Int):=by omega
       have hm2:(x:Int)<=m:=by omega
       clear hm hs;go_enter Tryz.func123,Tryz.ntmps123;go_wp2_with fail
       refine HE.out.mono ?_;rintro e w' ⟨rfl,rfl⟩;go_wp2_with fail
       refine HP.out.mono ?_;rintro e w' ⟨rfl,rfl⟩;go_wp2_with fail
       refine HT.out.mono ?_;rintro e w1 ⟨A1,cp1,rfl,hc1,hb1,hr1,hg1⟩;have R1:=H_ hr1;have G1:=H_ hg1;by_cases hcs:cp1=sz
       · have hcut:=hb1.cut (k:=sz) (cp:=cp1) (by omega) hc1
         rw [if_pos hcs,show sz+x-sz=x by omega,List.drop_take,show sz+x-sz=x by omega] at hcut;have hcv:=hcut.conv 0;clear hcut hb1 hr1 hg1;go_wp2_with fail
         go_ret;exact⟨rfl,R1.out,G1.out⟩
       · have hcut:=hb1.cut (k:=sz) (cp:=cp1) (by omega) hc1
         rw [if_neg hcs,show sz+x-sz=x by omega,List.drop_take,show sz+x-sz=x by omega] at hcut;have hcv:=hcut.conv (cp1-sz);clear hcut hb1 hr1 hg1;go_wp2_with fail
         go_ret;exact⟨rfl,R1.out,G1.out⟩
 · rw [if_pos her]
   have hne:=ne_int her;clear hps;go_enter Tryz.func123,Tryz.ntmps123;go_wp2_with fail
   refine HE.out.mono ?_;rintro e w' ⟨rfl,rfl⟩;go_wp2_with fail
   refine HP.out.mono ?_;rintro e w' ⟨rfl,rfl⟩;go_wp2_with fail
   go_ret;exact⟨rfl,H.out.of_err,grown_set _⟩
end Go.Proofs.YtoljpfapphoflaaGreatDoor.PkF

set_option maxHeartbeats 4000000
set_option maxRecDepth 100000
namespace Go.Proofs.YtoljpfapphoflaaGreatDoor.PkG
open Go.RowKit PkKit PkA PkC PkD PkE PkF
def be (l:List UInt8):Nat:=l.foldl (fun a c=>a*256+c.toNat) 0
theorem be_snoc (l:List UInt8) (c:UInt8):be (l++[c])=be l*256+c.toNat:=by simp [be,List.foldl_append]
theorem be_lt : ∀ (k:Nat) (l:List UInt8),l.length=k->be l<256 ^ k:=by
 intro k;induction k with
 | zero=>intro l h; rw [List.eq_nil_of_length_eq_zero h]; decide
 | succ k ih =>
  intro l h;have hne:l≠[]:=by intro e; rw [e] at h; cases h
  have e:=List.dropLast_concat_getLast hne;have h1:=ih l.dropLast (by rw [List.length_dropLast,h]; rfl);have h2:=(l.getLast hne).toNat_lt;rw [<- e,be_snoc,Nat.pow_succ];omega
theorem be_fx (m:Nat):be (fx m)=m % 4294967296:=by
 unfold be fx;simp only [List.foldl_cons,List.foldl_nil,toNat_u8 (show m / 16777216 % 256<256 by omega),toNat_u8 (show m / 65536 % 256<256 by omega),toNat_u8 (show m / 256 % 256<256 by omega),toNat_u8 (show m % 256<256 by omega)];omega
theorem or_low {X:Nat} {c:UInt8} (hX:X<16777216):bits .or .i64 ((X:Int)*256) (c.toNat:Int)=((X*256+c.toNat:Nat):Int):=by
 have hc:=c.toNat_lt;rw [show (X:Int)*256=((X*256:Nat):Int) by omega,(bits_nat .i64 62 (by decide) i64_small (X*256) c.toNat (by omega) (by omega)).2]
 congr 1
 have:=Nat.two_pow_add_eq_or_of_lt (i:=8) (b:=c.toNat) (by omega) X;rw [show X*256=2 ^ 8*X by omega,<- this]
def NumK (w:World) (T:Nat) (l:List UInt8) (k:Nat) (e:Ending) (w':World):Prop:=e = .returned (.int .i64 (be (l.take k):Nat))/\RD w' T (l.drop k) 0/\w.grownBy w' (some T)
theorem numk_any {w:World} {T k:Nat} {l:List UInt8} (h:RD w T l 0) (hk:k<=l.length) (hk4:k<=4):Calls Tryz.prog 224 #[ptr T,.int .i64 (k:Nat)] w (NumK w T l k):=by
 have HT:=H_ (take_any h hk);have hll:(l.take k).length=k:=by rw [List.length_take]; omega
 have HLL:=H_ hll;clear h hk hll;go_enter Tryz.func224,Tryz.ntmps224;go_wp2_with fail
 refine HT.out.mono ?_;rintro e w1 ⟨A,cp,rfl,hcp,hb,hr,hg⟩;have HB:=H_ hb;have HR:=H_ hr;have HG:=H_ hg;clear hb hr hg;go_wp2_with fail
 go_loop [5,12] (fun s5 s12=>∃ (i X:Nat),i<=k/\s12 = .int .i64 i/\s5 = .int .i64 X/\Hid (X=be ((l.take k).take i))) (fun _ s12=>k-(intOf s12).toNat)
 case atStart=>exact⟨0,0,by omega,rfl,rfl,rfl⟩
 case round =>
  obtain⟨i,X,hi,rfl,rfl,HX⟩:=hrel;by_cases hlt:i<k
  · obtain⟨ad,c,rfl,hc,hcell⟩:=HB.out.at_ hlt
    have hx:X<16777216:=by
     have h1:=be_lt i ((l.take k).take i) (by rw [List.length_take,HLL.out]; omega);have h2:256 ^ i<=256 ^ 3:=Nat.pow_le_pow_right (by decide) (by omega);rw [HX.out];omega
    have hor:=or_low (c:=c) hx;have hcl:=c.toNat_lt;have hsn:be ((l.take k).take (i+1))=X*256+c.toNat:=by
     obtain⟨hl,e⟩:=List.getElem?_eq_some_iff.1 hc;rw [List.take_succ_eq_append_getElem hl,e,be_snoc,<- HX.out]
    have HSN:=H_ hsn;clear hsn hc;go_wp2_with fail
    go_round
    case rel=>exact⟨i+1,X*256+c.toNat,by omega,by go_num,rfl,HSN.out.symm⟩
    case measure=>simp [intOf]; omega
  · obtain rfl:i=k:=by omega
    have hx:X=be (l.take i):=by rw [HX.out,List.take_take,Nat.min_self]
    subst hx;go_wp2_with fail
    go_ret;exact⟨rfl,HR.out,HG.out⟩
theorem numk_short {w:World} {T k:Nat} {l:List UInt8} (h:RD w T l 0) (hk:l.length<k):Calls Tryz.prog 224 #[ptr T,.int .i64 (k:Nat)] w fun e w'=>e = .returned (.int .i64 0)/\RD w' T l 2/\w.grownBy w' (some T):=by
 have HT:=H_ (take_short h hk);clear h hk;go_enter Tryz.func224,Tryz.ntmps224;go_wp2_with fail
 refine HT.out.mono ?_;rintro e w1 ⟨rfl,hr,hg⟩;have HR:=H_ hr;have HG:=H_ hg;clear hr hg;go_wp2_with fail
 go_loop [5,12] (fun s5 s12=>s12 = .int .i64 0/\s5 = .int .i64 0) (fun _ _=>0)
 case atStart=>exact⟨rfl,rfl⟩
 case round =>
  obtain⟨rfl,rfl⟩:=hrel;go_wp2_with fail
  go_ret;exact⟨rfl,HR.out,HG.out⟩
theorem numk_bad {w:World} {T er:Nat} {l:List UInt8} (h:RD w T l er) (he:er≠0) (x:Int):Calls Tryz.prog 224 #[ptr T,.int .i64 x] w fun e w'=>e = .returned (.int .i64 0)/\w=w':=by
 have HT:=H_ (take_bad h he x);clear h he;go_enter Tryz.func224,Tryz.ntmps224;go_wp2_with fail
 refine HT.out.mono ?_;rintro e w1 ⟨rfl,rfl⟩;go_wp2_with fail
 go_loop [5,12] (fun s5 s12=>s12 = .int .i64 0/\s5 = .int .i64 0) (fun _ _=>0)
 case atStart=>exact⟨rfl,rfl⟩
 case round =>
  obtain⟨rfl,rfl⟩:=hrel;go_wp2_with fail
  go_ret;exact⟨rfl,rfl⟩
end Go.Proofs.YtoljpfapphoflaaGreatDoor.PkG

set_option linter.unusedVariables false
set_option linter.unusedSimpArgs false
namespace Go.Proofs.YtoljpfapphoflaaGreatDoor.PkR
open Go.RowKit PkKit PkA PkB PkC
end Go.Proofs.YtoljpfapphoflaaGreatDoor.PkR

set_option maxRecDepth 100000
namespace Go.Proofs.YtoljpfapphoflaaGreatDoor.PkK
open Go.RowKit PkKit PkA PkB PkD PkE PkF PkG
theorem tx_len {s:ByteArray} (h:s.size<=300):(tx s).length<=306:=by
 have h1:=uv_len (m:=s.size) (by omega);have h2:s.data.toList.length=s.size:=by rw [Array.length_toList]; rfl
 unfold tx;rw [List.length_append];omega
end Go.Proofs.YtoljpfapphoflaaGreatDoor.PkK
