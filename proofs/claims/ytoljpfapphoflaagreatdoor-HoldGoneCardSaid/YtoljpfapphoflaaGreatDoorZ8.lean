/-
  BxKit + OlD
-/
import Derived.Test.YtoljpfapphoflaaGreatDoorZ10
import Derived.Below
import Derived.KernelRfl
import Derived.Deep.Draws
import Derived.OwnWalk
import Derived.Maps.AppendAt
import Derived.RegionTactic
import Derived.Test.YtoljpfapphoflaaGreatDoorJ1
set_option linter.unusedVariables false
set_option linter.unusedSimpArgs false
set_option maxRecDepth 512
namespace Go.Proofs.YtoljpfapphoflaaGreatDoor.BxKit
open Go.RowKit BxD
theorem ret_int {k:IntKind} {a b:Int} (h:a=b):Ending.returned (.int k a) = .returned (.int k b):=by rw [h]
theorem ret_bool {a b:Bool} (h:a=b):Ending.returned (.bool a) = .returned (.bool b):=by rw [h]
theorem ret_str {a b:ByteArray} (h:a=b):Ending.returned (.string a) = .returned (.string b):=by rw [h]
theorem below_drewN {B:Nat} {a w:World} (h:Below B a w) (n:Nat):Below B a (w.drewN n):=⟨h.os,h.tape,h.output,h.size,h.block⟩
theorem add_block (a:Addr) (j:Nat):(a.add j).block=a.block:=by unfold Addr.add; split <;> rfl
theorem add_add (a:Addr) (i j:Nat):(a.add i).add j=a.add (i+j):=by
 unfold Addr.add;by_cases hi:i=0 <;> by_cases hj:j=0 <;> simp [hi,hj,Nat.add_assoc]
theorem grown_below {w w':World} (h:Below w.heap.size w w') (row:Option Nat):w.grownBy w' row :=
 ⟨h.os,h.tape,h.output,h.size,fun k hk _=>h.block k hk⟩
def RowAt {α:Type} (C:World->Nat->Addr->α->Prop) (s:Nat) (w:World) (B:Nat) (A:Option Addr) (n:Nat) (l:List α):Prop :=
 l.length=n/\n<=140737488355328/\(0<n->∃ ad,A=some ad/\ad.block<B/\∀ j x,l[j]? = some x->C w B (ad.add (j*s)) x)
section
variable {α : Type} {C : World -> Nat -> Addr -> α -> Prop} {s : Nat} {w w' : World} {B n : Nat} {A : Option Addr} {l : List α}
theorem RowAt.nil (C:World->Nat->Addr->α->Prop) (s:Nat) (w:World) (B:Nat) (A:Option Addr):RowAt C s w B A 0 []:=⟨rfl,Nat.zero_le _,fun h=>absurd h (Nat.lt_irrefl 0)⟩
theorem RowAt.len (h:RowAt C s w B A n l):l.length=n:=h.1
theorem RowAt.max (h:RowAt C s w B A n l):n<=140737488355328:=h.2.1
theorem RowAt.get (h:RowAt C s w B A n l) {j:Nat} (hj:j<n) : ∃ ad x,A=some ad/\ad.block<B/\l[j]? = some x/\C w B (ad.add (j*s)) x:=by
 obtain⟨hl,_,hc⟩:=h;obtain⟨ad,rfl,hb,hcell⟩:=hc (by omega);exact⟨ad,l[j]'(by omega),rfl,hb,List.getElem?_eq_getElem (by omega),hcell j _ (List.getElem?_eq_getElem (by omega))⟩
theorem RowAt.map {B':Nat} (h:RowAt C s w B A n l) (hB:B<=B') (hC : ∀ p x,p.block<B->C w B p x->C w' B' p x):RowAt C s w' B' A n l:=by
 refine⟨h.1,h.2.1,fun hn=>?_⟩;obtain⟨ad,e,hb,hc⟩:=h.2.2 hn;exact⟨ad,e,by omega,fun j x hj=>hC _ _ (by rw [add_block]; exact hb) (hc j x hj)⟩
theorem RowAt.take (h:RowAt C s w B A n l) {k:Nat} (hk:k<=n):RowAt C s w B A k (l.take k):=by
 refine⟨by rw [List.length_take,h.1]; omega,Nat.le_trans hk h.2.1,fun hn=>?_⟩;obtain⟨ad,rfl,hb,hcell⟩:=h.2.2 (by omega);refine⟨ad,rfl,hb,fun j c hj=>hcell j c ?_⟩;rw [List.getElem?_take] at hj;split at hj
 · exact hj
 · cases hj
theorem RowAt.cut (h:RowAt C s w B A n l) {k cp:Nat} (hk:k<=n) (hc:n<=cp) :
 RowAt C s w B (if cp=k then A else A.map (·.add (k*s))) (n-k) (l.drop k):=by
 refine⟨by rw [List.length_drop,h.1],Nat.le_trans (Nat.sub_le _ _) h.2.1,fun hn=>?_⟩;obtain⟨ad,rfl,hb,hcell⟩:=h.2.2 (by omega);rw [if_neg (by omega)];refine⟨ad.add (k*s),rfl,by rw [add_block]; exact hb,fun j c hj=>?_⟩;rw [add_add,<- Nat.add_mul];exact hcell _ c (by rw [<- hj,List.getElem?_drop])
end
def intC (w:World) (_:Nat) (p:Addr) (z:Int):Prop:=w.cell? p=some (.int .i64 z)
def strC (w:World) (_:Nat) (p:Addr) (z:ByteArray):Prop:=w.cell? p=some (.string z)/\z.size<=140737488355328
abbrev IntsAt:=RowAt intC 1
abbrev StrsAt:=RowAt strC 1
def fld (p:Addr) (f:Nat):Addr:=⟨p.block,p.off+f,none⟩
def msgC (w:World) (B:Nat) (p:Addr) (m:Msg):Prop :=
 w.cell? p=some (.int .i64 m.uid)/\w.cell? (fld p 1)=some (.int .i64 m.mod)/\w.cell? (fld p 2)=some (.int .i64 m.date)/\w.cell? (fld p 3)=some (.string m.id) /\
  w.cell? (fld p 4)=some (.int .i64 m.flags)/\(∃ K c,w.cell? (fld p 5)=some (.slice K m.keys.length c)/\m.keys.length<=c/\IntsAt w B K m.keys.length m.keys)/\w.cell? (fld p 6)=some (.string m.text) /\
  m.id.size<=140737488355328/\m.text.size<=140737488355328
abbrev MsgsAt:=RowAt msgC 7
section
variable {w w' : World} {B n : Nat} {A : Option Addr}
theorem IntsAt.keep {l:List Int} {B':Nat} (h:IntsAt w B A n l) (hB:B<=B') (hk : ∀ p:Addr,p.block<B->w'.cell? p=w.cell? p):IntsAt w' B' A n l :=
 h.map hB fun p _ hp hc=>(hk p hp).trans hc
theorem StrsAt.keep {l:List ByteArray} {B':Nat} (h:StrsAt w B A n l) (hB:B<=B') (hk : ∀ p:Addr,p.block<B->w'.cell? p=w.cell? p):StrsAt w' B' A n l :=
 h.map hB fun p _ hp hc=>⟨(hk p hp).trans hc.1,hc.2⟩
theorem msgC.keep {p:Addr} {m:Msg} {B':Nat} (h:msgC w B p m) (hB:B<=B') (hp:p.block<B) (hk : ∀ p:Addr,p.block<B->w'.cell? p=w.cell? p):msgC w' B' p m:=by
 obtain⟨h0,h1,h2,h3,h4,⟨K,c,h5,h6,h7⟩,h8,h9⟩:=h;exact⟨(hk _ hp).trans h0,(hk (fld p 1) hp).trans h1,(hk (fld p 2) hp).trans h2,(hk (fld p 3) hp).trans h3,(hk (fld p 4) hp).trans h4,⟨K,c,(hk (fld p 5) hp).trans h5,h6,IntsAt.keep h7 hB hk⟩,(hk (fld p 6) hp).trans h8,h9⟩
theorem MsgsAt.keep {l:List Msg} {B':Nat} (h:MsgsAt w B A n l) (hB:B<=B') (hk : ∀ p:Addr,p.block<B->w'.cell? p=w.cell? p):MsgsAt w' B' A n l :=
 h.map hB fun _ _ hp hc=>msgC.keep hc hB hp hk
theorem IntsAt.below {l:List Int} {B':Nat} (h:IntsAt w B A n l) (hb:Below B' w w') (hB:B<=B'):IntsAt w' B A n l:=IntsAt.keep h lr_ fun _ hp=>hb.cell (by omega)
theorem StrsAt.below {l:List ByteArray} {B':Nat} (h:StrsAt w B A n l) (hb:Below B' w w') (hB:B<=B'):StrsAt w' B A n l:=StrsAt.keep h lr_ fun _ hp=>hb.cell (by omega)
theorem MsgsAt.below {l:List Msg} {B':Nat} (h:MsgsAt w B A n l) (hb:Below B' w w') (hB:B<=B'):MsgsAt w' B A n l:=MsgsAt.keep h lr_ fun _ hp=>hb.cell (by omega)
theorem IntsAt.more {l:List Int} {B':Nat} (h:IntsAt w B A n l) (hB:B<=B'):IntsAt w B' A n l:=IntsAt.keep h hB fun _ _=>rfl
theorem StrsAt.more {l:List ByteArray} {B':Nat} (h:StrsAt w B A n l) (hB:B<=B'):StrsAt w B' A n l:=StrsAt.keep h hB fun _ _=>rfl
theorem MsgsAt.more {l:List Msg} {B':Nat} (h:MsgsAt w B A n l) (hB:B<=B'):MsgsAt w B' A n l:=MsgsAt.keep h hB fun _ _=>rfl
theorem IntsAt.at_ {l:List Int} {wr:World} {B':Nat} (h:IntsAt w B A n l) (hb:Below B' w wr) (hB:B<=B') {j:Nat} (hj:j<n) :
 ∃ ad x,A=some ad/\l[j]? = some x/\wr.cell? (ad.add j)=some (.int .i64 x):=by
 obtain⟨ad,x,e,hlt,hx,hc⟩:=h.get hj;rw [Nat.mul_one] at hc;exact⟨ad,x,e,hx,(hb.cell (p:=ad.add j) (by rw [add_block]; omega)).trans hc⟩
theorem StrsAt.at_ {l:List ByteArray} {wr:World} {B':Nat} (h:StrsAt w B A n l) (hb:Below B' w wr) (hB:B<=B') {j:Nat} (hj:j<n) :
 ∃ ad x,A=some ad/\l[j]? = some x/\wr.cell? (ad.add j)=some (.string x):=by
 obtain⟨ad,x,e,hlt,hx,hc⟩:=h.get hj;rw [Nat.mul_one] at hc;exact⟨ad,x,e,hx,(hb.cell (p:=ad.add j) (by rw [add_block]; omega)).trans hc.1⟩
theorem MsgsAt.at_ {l:List Msg} {wr:World} {B':Nat} (h:MsgsAt w B A n l) (hb:Below B' w wr) (hB:B<=B') {j:Nat} (hj:j<n) :
 ∃ ad x,A=some ad/\ad.block<B/\l[j]? = some x/\msgC wr B (ad.add (j*7)) x:=by
 obtain⟨ad,x,e,hlt,hx,hc⟩:=h.get hj;exact⟨ad,x,e,hlt,hx,hc.keep lr_ (by rw [add_block]; omega) fun p hp=>hb.cell (by omega)⟩
theorem MsgsAt.sp {l:List Msg} {wr:World} {B':Nat} (h:MsgsAt w B A n l) (hb:Below B' w wr) (hB:B<=B') {j:Nat} (hj:j<n) :
 ∃ ad u md d id fl ks tx K kn kc,A=some ad/\ad.block<B/\l[j]? = some ⟨u,md,d,id,fl,ks,tx⟩/\wr.cell? (ad.add (j*7))=some (.int .i64 u) /\
  wr.cell? ⟨(ad.add (j*7)).block,(ad.add (j*7)).off+1,none⟩ = some (.int .i64 md)/\wr.cell? ⟨(ad.add (j*7)).block,(ad.add (j*7)).off+2,none⟩ = some (.int .i64 d) /\
  wr.cell? ⟨(ad.add (j*7)).block,(ad.add (j*7)).off+3,none⟩ = some (.string id)/\wr.cell? ⟨(ad.add (j*7)).block,(ad.add (j*7)).off+4,none⟩ = some (.int .i64 fl) /\
  wr.cell? ⟨(ad.add (j*7)).block,(ad.add (j*7)).off+5,none⟩ = some (.slice K kn kc)/\wr.cell? ⟨(ad.add (j*7)).block,(ad.add (j*7)).off+6,none⟩ = some (.string tx) /\
  kn<=kc/\IntsAt wr B K kn ks/\id.size<=140737488355328/\tx.size<=140737488355328:=by
 obtain⟨ad,⟨u,md,d,id,fl,ks,tx⟩,e,hlt,hx,h0,h1,h2,h3,h4,⟨K,c,h5,h6,h7⟩,h8,h9,h10⟩:=MsgsAt.at_ h hb hB hj;exact⟨ad,u,md,d,id,fl,ks,tx,K,_,c,e,hlt,hx,h0,h1,h2,h3,h4,h5,h8,h6,h7,h9,h10⟩
end
def After (w:World) (o:Obj) (wr:World):Prop:=Below (w.heap.size+1) (w.alloc o) wr
section
variable {w wr w2 : World} {o : Obj}
theorem After.start (w:World) (o:Obj):After w o (w.alloc o):=Below.refl _ _
theorem After.size (h:After w o wr):w.heap.size+1<=wr.heap.size:=by have:=Below.size h; simpa using this
theorem After.go (h:After w o wr) (hb:Below wr.heap.size wr w2):After w o w2:=Below.trans h (hb.mono h.size)
theorem After.alloc (h:After w o wr) (o2:Obj):After w o (wr.alloc o2):=h.go ((Below.refl _ _).alloc lr_ o2)
theorem After.below (h:After w o wr):Below w.heap.size w wr:=((Below.refl _ _).alloc lr_ o).trans (Below.mono h (by omega))
theorem After.box {c0 c1 c2 c3 c4 c5:Value} {t:TypeId} (h:After w (.cells #[c0,c1,c2,c3,c4,c5] t) wr) :
 wr.cell? ⟨w.heap.size,0,none⟩ = some c0/\wr.cell? ⟨w.heap.size,1,none⟩ = some c1/\wr.cell? ⟨w.heap.size,2,none⟩ = some c2 /\
  wr.cell? ⟨w.heap.size,3,none⟩ = some c3/\wr.cell? ⟨w.heap.size,4,none⟩ = some c4/\wr.cell? ⟨w.heap.size,5,none⟩ = some c5:=by
 refine⟨?_, ?_, ?_, ?_, ?_, ?_⟩
 all_goals
  rw [Below.cell h (p:=⟨w.heap.size,_,none⟩) (by simp)];simp
theorem msg_new {c0 c1 c2 c3 c4 c5 c6:Value} {t:TypeId} (hb:Below (w.alloc (.cells #[c0,c1,c2,c3,c4,c5,c6] t)).heap.size (w.alloc (.cells #[c0,c1,c2,c3,c4,c5,c6] t)) w2) :
 w2.cell? ⟨w.heap.size,0,none⟩ = some c0/\w2.cell? ⟨w.heap.size,1,none⟩ = some c1/\w2.cell? ⟨w.heap.size,2,none⟩ = some c2 /\
  w2.cell? ⟨w.heap.size,3,none⟩ = some c3/\w2.cell? ⟨w.heap.size,4,none⟩ = some c4/\w2.cell? ⟨w.heap.size,5,none⟩ = some c5/\w2.cell? ⟨w.heap.size,6,none⟩ = some c6:=by
 refine⟨?_, ?_, ?_, ?_, ?_, ?_, ?_⟩
 all_goals
  rw [Below.cell hb (p:=⟨w.heap.size,_,none⟩) (by simp)];simp
end
end Go.Proofs.YtoljpfapphoflaaGreatDoor.BxKit

set_option maxRecDepth 512
namespace Go.Proofs.YtoljpfapphoflaaGreatDoor.OlD
open Go.RowKit BxD BxOp PkB PkC PkD PkF PkG PkK
def maskN (ks:List Int):Nat:=ks.foldl (fun a k=>if k<32 then a ||| 2 ^ k.toNat else a) 0
def keysN (n:Nat):List Int:=((List.range 32).filter fun k=>n.testBit k).map fun k:Nat=>(k:Int)
def ch (c:Bool) (x:Int):List UInt8:=if c then fx (mx x) else []
def em (c:Bool) (m:Msg):List UInt8:=fx (mx m.uid)++(ch c m.mod++(fx (mx m.date)++([(m.flags.toNat % 256).toUInt8]++(fx (maskN m.keys)++(fx m.text.size++m.text.data.toList)))))
def mk (c:Bool):List UInt8:=[77,66,if c then 50 else 49]
def ebR (c:Bool) (b:Box):List UInt8:=fx (mx b.valid)++(fx (mx b.next)++(ch c b.high++(fx (min b.words.length 32)++((b.words.take 32).flatMap tx++(fx b.msgs.length++b.msgs.flatMap (em c))))))
def eb (c:Bool) (b:Box):List UInt8:=mk c++ebR c b
def on1 (c:Bool) (x:Int):Int:=if c then x else 1
def pm (c:Bool) (id:ByteArray) (m:Msg):Msg:=⟨m.uid,on1 c m.mod,m.date,ownT id m.uid,m.flags,m.keys.filter (fun k=>decide (k<32)),m.text⟩
def pb (c:Bool) (b:Box):Box:=⟨b.id,b.valid,b.next,on1 c b.high,b.words.take 32,b.msgs.map (pm c b.id)⟩
def nB:Box:=⟨⟨#[]⟩,0,0,0,[],[]⟩
abbrev St:=List UInt8 × Nat × Bool
def fixS (s:St):Nat × St:=if s.2.1≠0 then (0,s) else if s.1.length<4 then (0,(s.1,2,s.2.2)) else (be (s.1.take 4),(s.1.drop 4,0,s.2.2))
def byteS (s:St):Nat × St:=if s.2.1≠0 then (0,s) else if s.1.length<1 then (0,(s.1,2,s.2.2)) else (be (s.1.take 1),(s.1.drop 1,0,s.2.2))
def txtS (m:Int) (s:St):ByteArray × St:=if s.2.1≠0 then (⟨#[]⟩,s) else (⟨(tz s.1 m).1.toArray⟩,((tz s.1 m).2.1,(tz s.1 m).2.2,s.2.2))
def cntS (m:Nat) (s:St):Nat × St:=if m<(fixS s).1 then (0,((fixS s).2.1,(fixS s).2.2.1,true)) else fixS s
def itS {α:Type} (f:St->α × St):Nat->St->List α × St
 | 0,s=>([],s)
 | k+1,s=>((itS f k s).1++[(f (itS f k s).2).1],(f (itS f k s).2).2)
def byteU (s:St):UInt8 × St:=((byteS s).1.toUInt8,(byteS s).2)
def strS (s:St):ByteArray × St:=(⟨(itS byteU (cntS 300 s).1 (cntS 300 s).2).1.toArray⟩,(itS byteU (cntS 300 s).1 (cntS 300 s).2).2)
def chS (c:Bool) (s:St):Nat × St:=if c then fixS s else (1,s)
def msgS (c:Bool) (id:ByteArray) (s:St):Msg × St :=
 let u:=fixS s
 let o:=chS c u.2
 let d:=fixS o.2
 let f:=byteS d.2
 let k:=fixS f.2
 let t:=strS k.2
 (⟨u.1,o.1,d.1,ownT id u.1,f.1,keysN k.1,t.1⟩,t.2)
def boxS (c:Bool) (id:ByteArray) (s:St):Box × St :=
 let v:=fixS s
 let n:=fixS v.2
 let h:=chS c n.2
 let k:=cntS 32 h.2
 let w:=itS (txtS 24) k.1 k.2
 let e:=cntS 60 w.2
 let m:=itS (msgS c id) e.1 e.2
 (⟨id,v.1,n.1,h.1,w.1,m.1⟩,m.2)
def firstS (s:St):Nat:=if s.2.2 then 3 else s.2.1
def parseS (c:Bool) (l:List UInt8) (id:ByteArray):Box × Int :=
 if l.take 3=mk c then
  if firstS (boxS c id (l.drop 3,0,false)).2≠0 then (nB,firstS (boxS c id (l.drop 3,0,false)).2)
  else if 0<(boxS c id (l.drop 3,0,false)).2.1.length\/mbE (boxS c id (l.drop 3,0,false)).1≠0 then (nB,3)
  else ((boxS c id (l.drop 3,0,false)).1,0)
 else (nB,3)
theorem fx_len (m:Nat):(fx m).length=4:=rfl
theorem fix_fx {m:Nat} (h:m<4294967296) (rest:List UInt8) (ov:Bool):fixS (fx m++rest,0,ov)=(m,(rest,0,ov)):=by
 unfold fixS;rw [if_neg (by simp),if_neg (by rw [List.length_append,fx_len]; omega)];simp only;rw [List.take_left' (fx_len m),List.drop_left' (fx_len m),be_fx,Nat.mod_eq_of_lt h]
theorem ch_fx {c:Bool} {x:Int} (h:mx x<4294967296) (rest:List UInt8) (ov:Bool):chS c (ch c x++rest,0,ov)=(if c then mx x else 1,(rest,0,ov)):=by
 cases c
 · rfl
 · exact fix_fx h rest ov
theorem byte_one (c:UInt8) (rest:List UInt8) (ov:Bool):byteS ([c]++rest,0,ov)=(c.toNat,(rest,0,ov)):=by
 unfold byteS;rw [if_neg (by simp),if_neg (by simp)];simp [be]
theorem cnt_fx {m n:Nat} (h:m<=n) (hn:n<4294967296) (rest:List UInt8) (ov:Bool):cntS n (fx m++rest,0,ov)=(m,(rest,0,ov)):=by
 unfold cntS;rw [fix_fx (by omega),if_neg (by simp; omega)]
theorem tz_gen {s:ByteArray} {m:Nat} (h:s.size<=m) (hm:m<=300) (rest:List UInt8):tz (tx s++rest) m=(s.data.toList,rest,0):=by
 have hl:s.data.toList.length=s.size:=by rw [Array.length_toList]; rfl
 have hp:ps (tx s++rest)=(s.size,(Lib.uvarint s.size).length,0):=by
  unfold tx;rw [List.append_assoc];exact ps_uv (by omega) _
 unfold tz;rw [hp];have h1 : ¬ ((m:Int)<((s.size:Nat):Int)):=by omega
 have h2 : ¬ (tx s++rest).length<(Lib.uvarint s.size).length+s.size:=by
  unfold tx;rw [List.length_append,List.length_append];omega
 simp only [ne_eq,not_true_eq_false,if_false,if_neg h1,if_neg h2];unfold tx;rw [List.append_assoc,List.drop_left' rfl,<- hl,List.take_left' rfl,<- List.append_assoc,List.drop_left' (by rw [List.length_append])]
theorem txt_tx {s:ByteArray} (h:s.size<=24) (rest:List UInt8) (ov:Bool):txtS 24 (tx s++rest,0,ov)=(s,(rest,0,ov)):=by
 unfold txtS;rw [if_neg (by simp)];have:=tz_gen (m:=24) h (by decide) rest;rw [show ((24:Nat):Int)=24 from rfl] at this;simp only [this]
theorem it_good {α β:Type} {f:St->α × St} {enc:β->List UInt8} {val:β->α} {xs:List β} {ov:Bool} (hf : ∀ x∈xs,∀ rest,f (enc x++rest,0,ov)=(val x,(rest,0,ov))) (rest:List UInt8) :
 ∀ k,k<=xs.length->itS f k (xs.flatMap enc++rest,0,ov)=((xs.take k).map val,((xs.drop k).flatMap enc++rest,0,ov))
 | 0,_=>by simp [itS]
 | k+1,hk=>by
  have hl:k<xs.length:=hk;unfold itS;rw [it_good hf rest k (by omega)];simp only;rw [List.drop_eq_getElem_cons hl,List.flatMap_cons,List.append_assoc,hf _ (List.getElem_mem hl),List.take_succ_eq_append_getElem hl,List.map_append];rfl
theorem it_all {α β:Type} {f:St->α × St} {enc:β->List UInt8} {val:β->α} {xs:List β} {ov:Bool} (hf : ∀ x∈xs,∀ rest,f (enc x++rest,0,ov)=(val x,(rest,0,ov))) (rest:List UInt8) {n:Nat} (hn:n=xs.length) :
 itS f n (xs.flatMap enc++rest,0,ov)=(xs.map val,(rest,0,ov)):=by
 subst hn;rw [it_good hf rest _ lr_,List.take_of_length_le lr_,List.drop_of_length_le lr_];rfl
theorem bytes_good (l rest:List UInt8) (ov:Bool):itS byteU l.length (l++rest,0,ov)=(l,(rest,0,ov)):=by
 have h:=it_all (f:=byteU) (enc:=fun c:UInt8=>[c]) (val:=id) (xs:=l) (ov:=ov) (fun x _ r=>by
  unfold byteU;rw [byte_one];simp) rest rfl
 rw [show l.flatMap (fun c:UInt8=>[c])=l by induction l with
  | nil=>rfl
  | cons c r ih=>rw [List.flatMap_cons,ih (it_all (fun x _ r=>by unfold byteU; rw [byte_one]; simp) rest rfl)]; rfl] at h
 simpa using h
theorem str_good {t:ByteArray} (h:t.size<=300) (rest:List UInt8) (ov:Bool):strS (fx t.size++(t.data.toList++rest),0,ov)=(t,(rest,0,ov)):=by
 unfold strS;rw [cnt_fx h (by decide)];have hl:t.data.toList.length=t.size:=by rw [Array.length_toList]; rfl
 have:=bytes_good t.data.toList rest ov;rw [hl] at this;simp only [this]
theorem mask_bit (ks:List Int) (h : ∀ k∈ks,0<=k) : ∀ (a j:Nat),(ks.foldl (fun a k=>if k<32 then a ||| 2 ^ k.toNat else a) a).testBit j=(a.testBit j||decide (j<32/\(j:Int)∈ks)):=by
 induction ks with
 | nil=>intro a j; simp
 | cons k r ih =>
  intro a j;rw [List.foldl_cons,ih (fun x hx=>h x (List.mem_cons_of_mem _ hx))];have h0:=h k (by simp);split
  · rename_i hk
    rw [Nat.testBit_or,Nat.testBit_two_pow];by_cases e:k.toNat=j
    · subst e
      have:((k.toNat:Nat):Int)=k:=by omega
      have hk2:k.toNat<32:=by omega
      simp [this,hk2]
    · have e2 : ¬ ((j:Int)=k):=by omega
      simp [e,e2]
  · rename_i hk
    have e2:j<32->¬ ((j:Int)=k):=by omega
    by_cases hj:j<32
    · simp [hj,e2 hj]
    · simp [hj]
theorem mask_test {ks:List Int} (h : ∀ k∈ks,0<=k) (j:Nat):(maskN ks).testBit j=decide (j<32/\(j:Int)∈ks):=by
 unfold maskN;rw [mask_bit ks h];simp
theorem mask_lt {ks:List Int} (h : ∀ k∈ks,0<=k):maskN ks<4294967296:=by
 rw [show 4294967296=2 ^ 32 from rfl];refine Nat.lt_pow_two_of_testBit _ fun i hi=>?_;rw [mask_test h];simp;omega
theorem rise_ext : ∀ {a b:List Int},a.Pairwise (· < ·)->b.Pairwise (· < ·)->(∀ x,x∈a↔x∈b)->a=b
 | [],[],_,_,_=>rfl
 | [],y::b,_,_,h=>by have:=(h y).2 (by simp); simp at this
 | x::a,[],_,_,h=>by have:=(h x).1 (by simp); simp at this
 | x::a,y::b,ha,hb,h=>by
  rw [List.pairwise_cons] at ha hb;have hxy:x=y:=by
   have h1:=(h x).1 (by simp);have h2:=(h y).2 (by simp);rcases List.mem_cons.1 h1 with e | e
   · exact e
   · rcases List.mem_cons.1 h2 with e2 | e2
     · exact e2.symm
     · have:=ha.1 y e2; have:=hb.1 x e; omega
  subst hxy
  congr 1
  refine rise_ext ha.2 hb.2 fun z=>⟨fun hz=>?_,fun hz=>?_⟩
  · rcases List.mem_cons.1 ((h z).1 (List.mem_cons_of_mem _ hz)) with e | e
    · have:=ha.1 z hz; omega
    · exact e
  · rcases List.mem_cons.1 ((h z).2 (List.mem_cons_of_mem _ hz)) with e | e
    · have:=hb.1 z hz; omega
    · exact e
theorem keysB_get {ks:List Int} {n:Nat} (h:keysB ks n=true) {i:Nat} {x:Int} (hx:ks[i]? = some x):pk ks i<x/\x<n:=by
 have:=(of_decide_eq_true h) i (List.getElem?_eq_some_iff.1 hx).1;unfold okK at this
 rwa [getD_some 0 hx] at this
theorem keysB_rise {ks:List Int} {n:Nat} (h:keysB ks n=true):ks.Pairwise (· < ·)/\∀ k∈ks,0<=k/\k<n:=by
 have step : ∀ (i:Nat) (x y:Int),ks[i]? = some x->ks[i+1]? = some y->x<y:=fun i x y hx hy=>by
  have:=(keysB_get h hy).1
  rwa [pk_succ hx] at this
 have low : ∀ (i:Nat) (x:Int),ks[i]? = some x->0<=x:=by
  intro i;induction i with
  | zero=>intro x hx; have:=(keysB_get h hx).1; rw [pk_zero] at this; omega
  | succ i ih =>
   intro x hx;have hl:=(List.getElem?_eq_some_iff.1 hx).1;have h1:=ih _ (List.getElem?_eq_getElem (show i<ks.length by omega));have h2:=step i _ x (List.getElem?_eq_getElem (show i<ks.length by omega)) hx;omega
 refine⟨?_,fun k hk=>?_⟩
 · rw [List.pairwise_iff_getElem]
   intro i j hi hj hij;obtain⟨d,rfl⟩ : ∃ d,j=i+1+d:=⟨j-(i+1),by omega⟩;clear hij;induction d with
   | zero=>exact step i _ _ (List.getElem?_eq_getElem hi) (List.getElem?_eq_getElem hj)
   | succ d ih =>
    have h1:=ih (by omega);have h2:=step (i+1+d) _ _ (List.getElem?_eq_getElem (by omega)) (List.getElem?_eq_getElem hj);exact Int.lt_trans h1 h2
 · obtain⟨i,hi⟩:=List.mem_iff_getElem?.1 hk
   exact⟨low i k hi,(keysB_get h hi).2⟩
theorem keys_rise (n:Nat):(keysN n).Pairwise (· < ·):=by
 unfold keysN;rw [List.pairwise_map];refine List.Pairwise.imp (R:=(· < ·)) (fun h=>by omega) (List.Pairwise.filter _ List.pairwise_lt_range)
theorem keys_mem (n:Nat) (x:Int):x∈keysN n↔∃ k:Nat,k<32/\n.testBit k=true/\(k:Int)=x:=by
 unfold keysN;rw [List.mem_map];constructor
 · rintro ⟨k,hk,rfl⟩
   rw [List.mem_filter,List.mem_range] at hk;exact⟨k,hk.1,hk.2,rfl⟩
 · rintro ⟨k,h1,h2,rfl⟩
   exact⟨k,by rw [List.mem_filter,List.mem_range]; exact⟨h1,h2⟩,rfl⟩
theorem keys_mask {ks:List Int} {n:Nat} (h:keysB ks n=true):keysN (maskN ks)=ks.filter (fun k=>decide (k<32)):=by
 obtain⟨hr,hb⟩:=keysB_rise h;refine rise_ext (keys_rise _) (hr.filter _) fun x=>?_;rw [keys_mem,List.mem_filter];constructor
 · rintro ⟨k,h1,h2,rfl⟩
   rw [mask_test (fun k hk=>(hb k hk).1)] at h2;have:=of_decide_eq_true h2;exact⟨this.2,decide_eq_true (by omega)⟩
 · rintro ⟨h1,h2⟩
   have h3:x<32:=of_decide_eq_true h2;have h4:=(hb x h1).1;refine⟨x.toNat,by omega, ?_,by omega⟩;rw [mask_test (fun k hk=>(hb k hk).1)];exact decide_eq_true ⟨by omega,by rw [show ((x.toNat:Nat):Int)=x by omega]; exact h1⟩
theorem keysB_of {ks:List Int} {n:Nat} (h1:ks.Pairwise (· < ·)) (h2 : ∀ k∈ks,0<=k/\k<n):keysB ks n=true:=by
 refine decide_eq_true fun i hi=>?_;have hx:=List.getElem?_eq_getElem hi;unfold okK;rw [getD_some 0 hx];refine⟨?_,(h2 _ (List.getElem_mem hi)).2⟩;cases i with
 | zero=>rw [pk_zero]; have:=(h2 _ (List.getElem_mem hi)).1; omega
 | succ i =>
  rw [pk_succ (List.getElem?_eq_getElem (show i<ks.length by omega))];exact List.pairwise_iff_getElem.1 h1 i (i+1) (by omega) hi (by omega)
end Go.Proofs.YtoljpfapphoflaaGreatDoor.OlD
