/-
  BxD + BxOp + OlD
-/
import Derived.Test.YtoljpfapphoflaaGreatDoorRows
import Derived.Lib.Hide
import Derived.Lib.ItoaNum
import Derived.Test.YtoljpfapphoflaaGreatDoorJ1
set_option linter.unusedVariables false
set_option linter.unusedSimpArgs false
set_option maxRecDepth 512
namespace Go.Proofs.YtoljpfapphoflaaGreatDoor.BxD
open Go.RowKit
theorem ba_beq (a b:ByteArray):(a==b)=(a.data==b.data):=by cases a; cases b; rfl
instance ba_law:LawfulBEq ByteArray where
 eq_of_beq {a b} h:=by
  rw [ba_beq] at h
  exact ByteArray.ext (eq_of_beq h)
 rfl {a}:=by rw [ba_beq]; simp
instance ba_dec:DecidableEq ByteArray:=fun a b=>decidable_of_iff (a.data=b.data) ⟨fun h=>ByteArray.ext h,fun h=>by rw [h]⟩
structure Msg where
 uid:Int
 mod:Int
 date:Int
 id:ByteArray
 flags:Int
 keys:List Int
 text:ByteArray
theorem Msg.same {a b:Msg} : (a.uid=b.uid∧a.mod=b.mod∧a.date=b.date∧a.id=b.id∧a.flags=b.flags∧a.keys=b.keys∧a.text=b.text)↔a=b:=by
 cases a; cases b; simp
instance Msg.dec:DecidableEq Msg:=fun _ _=>decidable_of_iff _ Msg.same
structure Box where
 id:ByteArray
 valid:Int
 next:Int
 high:Int
 words:List ByteArray
 msgs:List Msg
theorem Box.same {a b:Box} : (a.id=b.id∧a.valid=b.valid∧a.next=b.next∧a.high=b.high∧a.words=b.words∧a.msgs=b.msgs)↔a=b:=by
 cases a; cases b; simp
instance Box.dec:DecidableEq Box:=fun _ _=>decidable_of_iff _ Box.same
def signs:List UInt8:=[46,95,45,36,47]
def atC (c:UInt8):Bool :=
 (decide (97≤c.toNat)&&decide (c.toNat≤122))||(decide (65≤c.toNat)&&decide (c.toNat≤90))||(decide (48≤c.toNat)&&decide (c.toNat≤57))||signs.contains c
def atB (s:ByteArray):Bool:=decide (1≤s.size)&&decide (s.size≤24)&&s.data.toList.all atC
theorem atB_short {s:ByteArray} (h:s.size<1):atB s=false:=by unfold atB; rw [decide_eq_false (show ¬ 1≤s.size by omega)]; rfl
theorem atB_long {s:ByteArray} (h:24<s.size):atB s=false:=by unfold atB; rw [decide_eq_false (show ¬ s.size≤24 by omega)]; simp
theorem atB_bad {s:ByteArray} {k:Nat} (h:k<s.size) (hc:atC s[k]=false):atB s=false:=by
 unfold atB
 have:s.data.toList.all atC=false:=by
  rw [List.all_eq_false]
  exact⟨s.data[k]'h,by simp,by have e:s.data[k]'h=s[k]:=rfl; rw [e,hc]; decide⟩
 rw [this]; simp
theorem atB_good {s:ByteArray} {k:Nat} (h1:1≤s.size) (h2:s.size≤24) (hk:k=s.size) (h:(s.data.toList.take k).all atC=true):atB s=true:=by
 unfold atB
 rw [List.take_of_length_le (by simp; omega)] at h
 rw [h,decide_eq_true h1,decide_eq_true h2]; rfl
theorem atB_size {s:ByteArray} (h:atB s=true):1≤s.size∧s.size≤24:=by
 unfold atB at h
 simp only [Bool.and_eq_true,decide_eq_true_eq] at h
 exact h.1
theorem atC_snoc (s:ByteArray) (k:Nat) (h:k<s.size):(s.data.toList.take (k+1)).all atC=((s.data.toList.take k).all atC&&atC s[k]):=by
 rw [List.take_succ_eq_append_getElem (by simpa using h),List.all_append]; simp; rfl
def pk (ks:List Int) (i:Nat):Int:=if i=0 then -1 else ks.getD (i-1) 0
def okK (ks:List Int) (n:Nat) (i:Nat):Prop:=pk ks i<ks.getD i 0∧ks.getD i 0<(n:Int)
instance okK_dec (ks:List Int) (n i:Nat):Decidable (okK ks n i):=inferInstanceAs (Decidable (_∧_))
def keysB (ks:List Int) (n:Nat):Bool:=decide (∀ i,i<ks.length→okK ks n i)
theorem getD_some {α:Type} {l:List α} {i:Nat} {x:α} (d:α) (h:l[i]? = some x):l.getD i d=x:=by rw [List.getD_eq_getElem?_getD,h]; rfl
theorem pk_zero (ks:List Int):pk ks 0 = -1:=rfl
theorem pk_succ {ks:List Int} {i:Nat} {x:Int} (h:ks[i]? = some x):pk ks (i+1)=x:=by unfold pk; rw [if_neg (by omega),Nat.add_sub_cancel,getD_some 0 h]
theorem keysB_bad {ks:List Int} {n i:Nat} {x:Int} (hx:ks[i]? = some x) (h:x≤pk ks i∨(n:Int)≤x):keysB ks n=false:=by
 refine decide_eq_false fun H=>?_
 have hi:i<ks.length:=(List.getElem?_eq_some_iff.1 hx).1
 obtain⟨h1,h2⟩:=H i hi
 rw [getD_some 0 hx] at h1 h2
 omega
theorem keysB_good {ks:List Int} {n k:Nat} (hk:ks.length≤k) (h : ∀ i,i<k→okK ks n i):keysB ks n=true:=decide_eq_true fun i hi=>h i (by omega)
theorem okK_next {ks:List Int} {n k:Nat} {x:Int} (h : ∀ i,i<k→okK ks n i) (hx:ks[k]? = some x) (h1:pk ks k<x) (h2:x<(n:Int)) : ∀ i,i<k+1→okK ks n i:=by
 intro i hi
 by_cases he:i=k
 · subst he; exact⟨by rw [getD_some 0 hx]; exact h1,by rw [getD_some 0 hx]; exact h2⟩
 · exact h i (by omega)
def inB (a n b:Int):Bool:=decide (a≤n∧n≤b)
theorem inB_true {a n b:Int} (h1:a≤n) (h2:n≤b):inB a n b=true:=decide_eq_true ⟨h1,h2⟩
theorem inB_false {a n b:Int} (h:n<a∨b<n):inB a n b=false:=decide_eq_false (by omega)
theorem inB_out {a n b:Int} (h:inB a n b=true):a≤n∧n≤b:=of_decide_eq_true h
def mmB (n:Nat) (m:Msg):Bool :=
 inB 1 m.uid 999999&&(inB 1 m.mod 1000000&&(inB 0 m.date 1000000&&(atB m.id&&(inB 0 m.flags 31&&(keysB m.keys n&&decide (m.text.size≤300))))))
def mmE (n:Nat) (m:Msg):Int:=if mmB n m then 0 else 1
def okW (ws:List ByteArray) (i:Nat):Prop:=atB (ws.getD i ⟨#[]⟩)=true∧ws.getD i ⟨#[]⟩∉ws.take i
instance okW_dec (ws:List ByteArray) (i:Nat):Decidable (okW ws i):=inferInstanceAs (Decidable (_∧_))
def wordsB (ws:List ByteArray):Bool:=decide (∀ i,i<ws.length→okW ws i)
theorem wordsB_bad {ws:List ByteArray} {i:Nat} {x:ByteArray} (hx:ws[i]? = some x) (h:atB x=false∨x∈ws.take i):wordsB ws=false:=by
 refine decide_eq_false fun H=>?_
 have hi:i<ws.length:=(List.getElem?_eq_some_iff.1 hx).1
 obtain⟨h1,h2⟩:=H i hi
 rw [getD_some _ hx] at h1 h2
 rcases h with h | h
 · rw [h] at h1; cases h1
 · exact h2 h
theorem wordsB_good {ws:List ByteArray} {k:Nat} (hk:ws.length≤k) (h : ∀ i,i<k→okW ws i):wordsB ws=true:=decide_eq_true fun i hi=>h i (by omega)
theorem okW_next {ws:List ByteArray} {k:Nat} {x:ByteArray} (h : ∀ i,i<k→okW ws i) (hx:ws[k]? = some x) (h1:atB x=true) (h2:x∉ws.take k) : ∀ i,i<k+1→okW ws i:=by
 intro i hi
 by_cases he:i=k
 · subst he; exact⟨by rw [getD_some _ hx]; exact h1,by rw [getD_some _ hx]; exact h2⟩
 · exact h i (by omega)
def pu (ms:List Msg) (i:Nat):Int:=if i=0 then 0 else (ms[i-1]?.map Msg.uid).getD 0
theorem pu_zero (ms:List Msg):pu ms 0=0:=rfl
theorem pu_succ {ms:List Msg} {i:Nat} {m:Msg} (h:ms[i]? = some m):pu ms (i+1)=m.uid:=by unfold pu; rw [if_neg (by omega),Nat.add_sub_cancel,h]; rfl
def okM (b:Box) (i:Nat):Prop:=∀ m,b.msgs[i]? = some m→mmB b.words.length m=true∧pu b.msgs i<m.uid∧m.uid<b.next∧m.mod≤b.high
theorem okM_iff (b:Box) (i:Nat):((b.msgs[i]?.all fun m=>mmB b.words.length m&&(decide (pu b.msgs i<m.uid)&&(decide (m.uid<b.next)&&decide (m.mod≤b.high))))=true)↔okM b i:=by
 unfold okM
 cases b.msgs[i]? with
 | none=>simp
 | some m=>simp
instance okM_dec (b:Box) (i:Nat):Decidable (okM b i):=decidable_of_iff _ (okM_iff b i)
def msgsB (b:Box):Bool:=decide (∀ i,i<b.msgs.length→okM b i)
theorem msgsB_bad {b:Box} {i:Nat} {m:Msg} (hx:b.msgs[i]? = some m) (h:mmB b.words.length m=false∨m.uid≤pu b.msgs i∨b.next≤m.uid∨b.high<m.mod):msgsB b=false:=by
 refine decide_eq_false fun H=>?_
 have hi:i<b.msgs.length:=(List.getElem?_eq_some_iff.1 hx).1
 obtain⟨h1,h2,h3,h4⟩:=H i hi m hx
 rcases h with h | h | h | h
 · rw [h] at h1; cases h1
 all_goals omega
theorem msgsB_good {b:Box} {k:Nat} (hk:b.msgs.length≤k) (h : ∀ i,i<k→okM b i):msgsB b=true:=decide_eq_true fun i hi=>h i (by omega)
theorem okM_next {b:Box} {k:Nat} {m:Msg} (h : ∀ i,i<k→okM b i) (hx:b.msgs[k]? = some m) (h1:mmB b.words.length m=true) (h2:pu b.msgs k<m.uid) (h3:m.uid<b.next) (h4:m.mod≤b.high) : ∀ i,i<k+1→okM b i:=by
 intro i hi
 by_cases he:i=k
 · subst he
   intro m' hm'
   obtain rfl:m=m':=Option.some.inj (hx.symm.trans hm')
   exact⟨h1,h2,h3,h4⟩
 · exact h i (by omega)
def headB (b:Box):Bool :=
 atB b.id&&(decide (b.id.size≤12)&&(inB 1 b.valid 1000000&&(inB 1 b.high 1000000&&inB 1 b.next 1000000)))
def mbE (b:Box):Int :=
 if headB b then if 64<b.words.length∨60<b.msgs.length then 4 else if wordsB b.words then if msgsB b then 0 else 1 else 1 else 1
def findI (ms:List Msg) (u:Int):Int:=match ms.findIdx? (fun m=>decide (m.uid=u)) with
 | some i=>(i:Int)
 | none=>-1
theorem findI_hit {ms:List Msg} {u:Int} {k:Nat} {m:Msg} (h : ∀ i x,i<k→ms[i]? = some x→x.uid≠u) (hm:ms[k]? = some m) (hu:m.uid=u):findI ms u=k:=by
 have:ms.findIdx? (fun m=>decide (m.uid=u))=some k:=by
  rw [List.findIdx?_eq_some_iff_getElem]
  obtain⟨hk,e⟩:=List.getElem?_eq_some_iff.1 hm
  refine⟨hk,by rw [e]; exact decide_eq_true hu,fun j hj=>?_⟩
  have:=h j _ hj (List.getElem?_eq_getElem (by omega))
  simpa using this
 unfold findI
 rw [this]
theorem findI_none {ms:List Msg} {u:Int} (h : ∀ x,x∈ms→x.uid≠u):findI ms u = -1:=by
 have:ms.findIdx? (fun m=>decide (m.uid=u))=none:=by
  rw [List.findIdx?_eq_none_iff]
  intro x hx
  simpa using h x hx
 unfold findI
 rw [this]
def ownT (id:ByteArray) (u:Int):ByteArray:=(⟨#[101]⟩++⟨(Lib.itoa (max u 0)).toArray⟩++⟨#[45]⟩)++id
end Go.Proofs.YtoljpfapphoflaaGreatDoor.BxD

set_option maxRecDepth 512
namespace Go.Proofs.YtoljpfapphoflaaGreatDoor.BxOp
open Go.RowKit BxD
theorem mb_ok {b:Box} (h:mbE b=0):headB b=true∧¬ (64<b.words.length∨60<b.msgs.length)∧wordsB b.words=true∧msgsB b=true:=by
 unfold mbE at h
 split at h
 · rename_i h1
   split at h
   · cases h
   · rename_i h2
     split at h
     · rename_i h3
       split at h
       · rename_i h4
         exact⟨h1,h2,h3,h4⟩
       · cases h
     · cases h
 · cases h
theorem mb_of {b:Box} (h1:headB b=true) (h2 : ¬ (64<b.words.length∨60<b.msgs.length)) (h3:wordsB b.words=true) (h4:msgsB b=true):mbE b=0:=by
 unfold mbE
 rw [if_pos h1,if_neg h2,if_pos h3,if_pos h4]
def okOne (b:Box) (m:Msg):Prop:=mmB b.words.length m=true∧m.uid<b.next∧m.mod≤b.high
def Rises (l:List Msg):Prop:=l.Pairwise fun x y=>x.uid<y.uid
theorem mm_uid {n:Nat} {m:Msg} (h:mmB n m=true):1≤m.uid:=by
 unfold mmB at h
 rw [Bool.and_eq_true] at h
 exact (inB_out h.1).1
theorem mm_keys {n:Nat} {m:Msg} (h:mmB n m=true):keysB m.keys n=true:=by
 unfold mmB at h
 simp only [Bool.and_eq_true] at h
 exact h.2.2.2.2.2.1
theorem msgsB_iff (b:Box):msgsB b=true↔(∀ m∈b.msgs,okOne b m)∧Rises b.msgs:=by
 constructor
 · intro h
   have H:=of_decide_eq_true h
   refine⟨fun m hm=>?_, ?_⟩
   · obtain⟨i,hi⟩:=List.mem_iff_getElem?.1 hm
     obtain⟨a,_,c,d⟩:=H i (List.getElem?_eq_some_iff.1 hi).1 m hi
     exact⟨a,c,d⟩
   · have step : ∀ i (h0:i+1<b.msgs.length),(b.msgs[i]'(by omega)).uid<(b.msgs[i+1]'h0).uid:=fun i h0=>by
      have:=(H (i+1) h0 _ (List.getElem?_eq_getElem h0)).2.1
      rwa [pu_succ (List.getElem?_eq_getElem (l:=b.msgs) (i:=i) (by omega))] at this
     refine List.pairwise_iff_getElem.2 fun i j hi hj hij=>?_
     have all : ∀ d (hd:i+1+d<b.msgs.length),(b.msgs[i]'hi).uid<(b.msgs[i+1+d]'hd).uid:=by
      intro d
      induction d with
      | zero=>intro hd; exact step i hd
      | succ d ih =>
       intro hd
       have a1:=ih (by omega)
       have a2:=step (i+1+d) hd
       exact Int.lt_trans a1 a2
     obtain⟨d,rfl⟩ : ∃ d,j=i+1+d:=⟨j-(i+1),by omega⟩
     exact all d hj
 · intro ⟨h1,h2⟩
   refine decide_eq_true fun i hi m hm=>?_
   obtain⟨a,c,d⟩:=h1 m (List.mem_of_getElem? hm)
   refine⟨a, ?_,c,d⟩
   match i,hi,hm with
   | 0,_,_=>rw [pu_zero]; have:=mm_uid a; omega
   | i+1,hi,hm =>
    rw [pu_succ (List.getElem?_eq_getElem (l:=b.msgs) (i:=i) (by omega))]
    have:=List.pairwise_iff_getElem.1 h2 i (i+1) (by omega) hi (by omega)
    obtain⟨_,rfl⟩:=List.getElem?_eq_some_iff.1 hm
    exact this
theorem mem_rise {l:List Msg} (h:Rises l) {i j:Nat} {x y:Msg} (hij:i<j) (hx:l[i]? = some x) (hy:l[j]? = some y):x.uid<y.uid:=by
 obtain⟨h1,rfl⟩:=List.getElem?_eq_some_iff.1 hx
 obtain⟨h2,rfl⟩:=List.getElem?_eq_some_iff.1 hy
 exact List.pairwise_iff_getElem.1 h i j h1 h2 hij
def lessL (l:List Msg) (k:Nat):List Msg:=l.take k++l.drop (k+1)
theorem split_at {l:List Msg} {k:Nat} {m:Msg} (hm:l[k]? = some m):l=l.take k++m::l.drop (k+1):=by
 obtain⟨h1,rfl⟩:=List.getElem?_eq_some_iff.1 hm
 rw [← List.drop_eq_getElem_cons h1,List.take_append_drop]
end Go.Proofs.YtoljpfapphoflaaGreatDoor.BxOp

set_option maxRecDepth 512
namespace Go.Proofs.YtoljpfapphoflaaGreatDoor.OlD
open Go.RowKit BxD BxOp PkB PkC PkD PkF PkG PkK
def maskN (ks:List Int):Nat:=ks.foldl (fun a k=>if k<32 then a ||| 2 ^ k.toNat else a) 0
def keysN (n:Nat):List Int:=((List.range 32).filter fun k=>n.testBit k).map fun k:Nat=>(k:Int)
def ch (c:Bool) (x:Int):List UInt8:=if c then fx (mx x) else []
def em (c:Bool) (m:Msg):List UInt8:=fx (mx m.uid)++(ch c m.mod++(fx (mx m.date)++([(m.flags.toNat % 256).toUInt8]++(fx (maskN m.keys)++(fx m.text.size++m.text.data.toList)))))
def mk (c:Bool):List UInt8:=[77,66,if c then 50 else 49]
def ebR (c:Bool) (b:Box):List UInt8:=fx (mx b.valid)++(fx (mx b.next)++(ch c b.high++(fx (min b.words.length 32)++((b.words.take 32).flatMap tx++(fx b.msgs.length++b.msgs.flatMap (em c))))))
def eb (c:Bool) (b:Box):List UInt8:=mk c++ebR c b
def on1 (c:Bool) (x:Int):Int:=if c then x else 1
def pm (c:Bool) (id:ByteArray) (m:Msg):Msg:=⟨m.uid,on1 c m.mod,m.date,ownT id m.uid,m.flags,m.keys.filter (fun k=>decide (k<32)),m.text⟩
def pb (c:Bool) (b:Box):Box:=⟨b.id,b.valid,b.next,on1 c b.high,b.words.take 32,b.msgs.map (pm c b.id)⟩
def nB:Box:=⟨⟨#[]⟩,0,0,0,[],[]⟩
abbrev St:=List UInt8 × Nat × Bool
def fixS (s:St):Nat × St:=if s.2.1≠0 then (0,s) else if s.1.length<4 then (0,(s.1,2,s.2.2)) else (be (s.1.take 4),(s.1.drop 4,0,s.2.2))
def byteS (s:St):Nat × St:=if s.2.1≠0 then (0,s) else if s.1.length<1 then (0,(s.1,2,s.2.2)) else (be (s.1.take 1),(s.1.drop 1,0,s.2.2))
def txtS (m:Int) (s:St):ByteArray × St:=if s.2.1≠0 then (⟨#[]⟩,s) else (⟨(tz s.1 m).1.toArray⟩,((tz s.1 m).2.1,(tz s.1 m).2.2,s.2.2))
def cntS (m:Nat) (s:St):Nat × St:=if m<(fixS s).1 then (0,((fixS s).2.1,(fixS s).2.2.1,true)) else fixS s
def itS {α:Type} (f:St→α × St):Nat→St→List α × St
 | 0,s=>([],s)
 | k+1,s=>((itS f k s).1++[(f (itS f k s).2).1],(f (itS f k s).2).2)
def byteU (s:St):UInt8 × St:=((byteS s).1.toUInt8,(byteS s).2)
def strS (s:St):ByteArray × St:=(⟨(itS byteU (cntS 300 s).1 (cntS 300 s).2).1.toArray⟩,(itS byteU (cntS 300 s).1 (cntS 300 s).2).2)
def chS (c:Bool) (s:St):Nat × St:=if c then fixS s else (1,s)
def msgS (c:Bool) (id:ByteArray) (s:St):Msg × St :=
 let u:=fixS s
 let o:=chS c u.2
 let d:=fixS o.2
 let f:=byteS d.2
 let k:=fixS f.2
 let t:=strS k.2
 (⟨u.1,o.1,d.1,ownT id u.1,f.1,keysN k.1,t.1⟩,t.2)
def boxS (c:Bool) (id:ByteArray) (s:St):Box × St :=
 let v:=fixS s
 let n:=fixS v.2
 let h:=chS c n.2
 let k:=cntS 32 h.2
 let w:=itS (txtS 24) k.1 k.2
 let e:=cntS 60 w.2
 let m:=itS (msgS c id) e.1 e.2
 (⟨id,v.1,n.1,h.1,w.1,m.1⟩,m.2)
def firstS (s:St):Nat:=if s.2.2 then 3 else s.2.1
def parseS (c:Bool) (l:List UInt8) (id:ByteArray):Box × Int :=
 if l.take 3=mk c then
  if firstS (boxS c id (l.drop 3,0,false)).2≠0 then (nB,firstS (boxS c id (l.drop 3,0,false)).2)
  else if 0<(boxS c id (l.drop 3,0,false)).2.1.length∨mbE (boxS c id (l.drop 3,0,false)).1≠0 then (nB,3)
  else ((boxS c id (l.drop 3,0,false)).1,0)
 else (nB,3)
theorem fx_len (m:Nat):(fx m).length=4:=rfl
theorem fix_fx {m:Nat} (h:m<4294967296) (rest:List UInt8) (ov:Bool):fixS (fx m++rest,0,ov)=(m,(rest,0,ov)):=by
 unfold fixS
 rw [if_neg (by simp),if_neg (by rw [List.length_append,fx_len]; omega)]
 simp only
 rw [List.take_left' (fx_len m),List.drop_left' (fx_len m),be_fx,Nat.mod_eq_of_lt h]
theorem ch_fx {c:Bool} {x:Int} (h:mx x<4294967296) (rest:List UInt8) (ov:Bool):chS c (ch c x++rest,0,ov)=(if c then mx x else 1,(rest,0,ov)):=by
 cases c
 · rfl
 · exact fix_fx h rest ov
theorem byte_one (c:UInt8) (rest:List UInt8) (ov:Bool):byteS ([c]++rest,0,ov)=(c.toNat,(rest,0,ov)):=by
 unfold byteS
 rw [if_neg (by simp),if_neg (by simp)]
 simp [be]
theorem cnt_fx {m n:Nat} (h:m≤n) (hn:n<4294967296) (rest:List UInt8) (ov:Bool):cntS n (fx m++rest,0,ov)=(m,(rest,0,ov)):=by
 unfold cntS
 rw [fix_fx (by omega),if_neg (by simp; omega)]
theorem tz_gen {s:ByteArray} {m:Nat} (h:s.size≤m) (hm:m≤300) (rest:List UInt8):tz (tx s++rest) m=(s.data.toList,rest,0):=by
 have hl:s.data.toList.length=s.size:=by rw [Array.length_toList]; rfl
 have hp:ps (tx s++rest)=(s.size,(Lib.uvarint s.size).length,0):=by
  unfold tx
  rw [List.append_assoc]
  exact ps_uv (by omega) _
 unfold tz
 rw [hp]
 have h1 : ¬ ((m:Int)<((s.size:Nat):Int)):=by omega
 have h2 : ¬ (tx s++rest).length<(Lib.uvarint s.size).length+s.size:=by
  unfold tx
  rw [List.length_append,List.length_append]
  omega
 simp only [ne_eq,not_true_eq_false,if_false,if_neg h1,if_neg h2]
 unfold tx
 rw [List.append_assoc,List.drop_left' rfl,← hl,List.take_left' rfl,← List.append_assoc,List.drop_left' (by rw [List.length_append])]
theorem txt_tx {s:ByteArray} (h:s.size≤24) (rest:List UInt8) (ov:Bool):txtS 24 (tx s++rest,0,ov)=(s,(rest,0,ov)):=by
 unfold txtS
 rw [if_neg (by simp)]
 have:=tz_gen (m:=24) h (by decide) rest
 rw [show ((24:Nat):Int)=24 from rfl] at this
 simp only [this]
theorem it_good {α β:Type} {f:St→α × St} {enc:β→List UInt8} {val:β→α} {xs:List β} {ov:Bool} (hf : ∀ x∈xs,∀ rest,f (enc x++rest,0,ov)=(val x,(rest,0,ov))) (rest:List UInt8) :
 ∀ k,k≤xs.length→itS f k (xs.flatMap enc++rest,0,ov)=((xs.take k).map val,((xs.drop k).flatMap enc++rest,0,ov))
 | 0,_=>by simp [itS]
 | k+1,hk=>by
  have hl:k<xs.length:=hk
  unfold itS
  rw [it_good hf rest k (by omega)]
  simp only
  rw [List.drop_eq_getElem_cons hl,List.flatMap_cons,List.append_assoc,hf _ (List.getElem_mem hl),List.take_succ_eq_append_getElem hl,List.map_append]
  rfl
theorem it_all {α β:Type} {f:St→α × St} {enc:β→List UInt8} {val:β→α} {xs:List β} {ov:Bool} (hf : ∀ x∈xs,∀ rest,f (enc x++rest,0,ov)=(val x,(rest,0,ov))) (rest:List UInt8) {n:Nat} (hn:n=xs.length) :
 itS f n (xs.flatMap enc++rest,0,ov)=(xs.map val,(rest,0,ov)):=by
 subst hn
 rw [it_good hf rest _ (Nat.le_refl _),List.take_of_length_le (Nat.le_refl _),List.drop_of_length_le (Nat.le_refl _)]
 rfl
theorem bytes_good (l rest:List UInt8) (ov:Bool):itS byteU l.length (l++rest,0,ov)=(l,(rest,0,ov)):=by
 have h:=it_all (f:=byteU) (enc:=fun c:UInt8=>[c]) (val:=id) (xs:=l) (ov:=ov) (fun x _ r=>by
  unfold byteU
  rw [byte_one]
  simp) rest rfl
 rw [show l.flatMap (fun c:UInt8=>[c])=l by induction l with
  | nil=>rfl
  | cons c r ih=>rw [List.flatMap_cons,ih (it_all (fun x _ r=>by unfold byteU; rw [byte_one]; simp) rest rfl)]; rfl] at h
 simpa using h
theorem str_good {t:ByteArray} (h:t.size≤300) (rest:List UInt8) (ov:Bool):strS (fx t.size++(t.data.toList++rest),0,ov)=(t,(rest,0,ov)):=by
 unfold strS
 rw [cnt_fx h (by decide)]
 have hl:t.data.toList.length=t.size:=by rw [Array.length_toList]; rfl
 have:=bytes_good t.data.toList rest ov
 rw [hl] at this
 simp only [this]
theorem mask_bit (ks:List Int) (h : ∀ k∈ks,0≤k) : ∀ (a j:Nat),(ks.foldl (fun a k=>if k<32 then a ||| 2 ^ k.toNat else a) a).testBit j=(a.testBit j||decide (j<32∧(j:Int)∈ks)):=by
 induction ks with
 | nil=>intro a j; simp
 | cons k r ih =>
  intro a j
  rw [List.foldl_cons,ih (fun x hx=>h x (List.mem_cons_of_mem _ hx))]
  have h0:=h k (by simp)
  split
  · rename_i hk
    rw [Nat.testBit_or,Nat.testBit_two_pow]
    by_cases e:k.toNat=j
    · subst e
      have:((k.toNat:Nat):Int)=k:=by omega
      have hk2:k.toNat<32:=by omega
      simp [this,hk2]
    · have e2 : ¬ ((j:Int)=k):=by omega
      simp [e,e2]
  · rename_i hk
    have e2:j<32→¬ ((j:Int)=k):=by omega
    by_cases hj:j<32
    · simp [hj,e2 hj]
    · simp [hj]
theorem mask_test {ks:List Int} (h : ∀ k∈ks,0≤k) (j:Nat):(maskN ks).testBit j=decide (j<32∧(j:Int)∈ks):=by
 unfold maskN
 rw [mask_bit ks h]
 simp
theorem mask_lt {ks:List Int} (h : ∀ k∈ks,0≤k):maskN ks<4294967296:=by
 rw [show 4294967296=2 ^ 32 from rfl]
 refine Nat.lt_pow_two_of_testBit _ fun i hi=>?_
 rw [mask_test h]
 simp
 omega
theorem rise_ext : ∀ {a b:List Int},a.Pairwise (· < ·)→b.Pairwise (· < ·)→(∀ x,x∈a↔x∈b)→a=b
 | [],[],_,_,_=>rfl
 | [],y::b,_,_,h=>by have:=(h y).2 (by simp); simp at this
 | x::a,[],_,_,h=>by have:=(h x).1 (by simp); simp at this
 | x::a,y::b,ha,hb,h=>by
  rw [List.pairwise_cons] at ha hb
  have hxy:x=y:=by
   have h1:=(h x).1 (by simp)
   have h2:=(h y).2 (by simp)
   rcases List.mem_cons.1 h1 with e | e
   · exact e
   · rcases List.mem_cons.1 h2 with e2 | e2
     · exact e2.symm
     · have:=ha.1 y e2; have:=hb.1 x e; omega
  subst hxy
  congr 1
  refine rise_ext ha.2 hb.2 fun z=>⟨fun hz=>?_,fun hz=>?_⟩
  · rcases List.mem_cons.1 ((h z).1 (List.mem_cons_of_mem _ hz)) with e | e
    · have:=ha.1 z hz; omega
    · exact e
  · rcases List.mem_cons.1 ((h z).2 (List.mem_cons_of_mem _ hz)) with e | e
    · have:=hb.1 z hz; omega
    · exact e
theorem keysB_get {ks:List Int} {n:Nat} (h:keysB ks n=true) {i:Nat} {x:Int} (hx:ks[i]? = some x):pk ks i<x∧x<n:=by
 have:=(of_decide_eq_true h) i (List.getElem?_eq_some_iff.1 hx).1
 unfold okK at this
 rwa [getD_some 0 hx] at this
theorem keysB_rise {ks:List Int} {n:Nat} (h:keysB ks n=true):ks.Pairwise (· < ·)∧∀ k∈ks,0≤k∧k<n:=by
 have step : ∀ (i:Nat) (x y:Int),ks[i]? = some x→ks[i+1]? = some y→x<y:=fun i x y hx hy=>by
  have:=(keysB_get h hy).1
  rwa [pk_succ hx] at this
 have low : ∀ (i:Nat) (x:Int),ks[i]? = some x→0≤x:=by
  intro i
  induction i with
  | zero=>intro x hx; have:=(keysB_get h hx).1; rw [pk_zero] at this; omega
  | succ i ih =>
   intro x hx
   have hl:=(List.getElem?_eq_some_iff.1 hx).1
   have h1:=ih _ (List.getElem?_eq_getElem (show i<ks.length by omega))
   have h2:=step i _ x (List.getElem?_eq_getElem (show i<ks.length by omega)) hx
   omega
 refine⟨?_,fun k hk=>?_⟩
 · rw [List.pairwise_iff_getElem]
   intro i j hi hj hij
   obtain⟨d,rfl⟩ : ∃ d,j=i+1+d:=⟨j-(i+1),by omega⟩
   clear hij
   induction d with
   | zero=>exact step i _ _ (List.getElem?_eq_getElem hi) (List.getElem?_eq_getElem hj)
   | succ d ih =>
    have h1:=ih (by omega)
    have h2:=step (i+1+d) _ _ (List.getElem?_eq_getElem (by omega)) (List.getElem?_eq_getElem hj)
    exact Int.lt_trans h1 h2
 · obtain⟨i,hi⟩:=List.mem_iff_getElem?.1 hk
   exact⟨low i k hi,(keysB_get h hi).2⟩
theorem keys_rise (n:Nat):(keysN n).Pairwise (· < ·):=by
 unfold keysN
 rw [List.pairwise_map]
 refine List.Pairwise.imp (R:=(· < ·)) (fun h=>by omega) (List.Pairwise.filter _ List.pairwise_lt_range)
theorem keys_mem (n:Nat) (x:Int):x∈keysN n↔∃ k:Nat,k<32∧n.testBit k=true∧(k:Int)=x:=by
 unfold keysN
 rw [List.mem_map]
 constructor
 · rintro ⟨k,hk,rfl⟩
   rw [List.mem_filter,List.mem_range] at hk
   exact⟨k,hk.1,hk.2,rfl⟩
 · rintro ⟨k,h1,h2,rfl⟩
   exact⟨k,by rw [List.mem_filter,List.mem_range]; exact⟨h1,h2⟩,rfl⟩
theorem keys_mask {ks:List Int} {n:Nat} (h:keysB ks n=true):keysN (maskN ks)=ks.filter (fun k=>decide (k<32)):=by
 obtain⟨hr,hb⟩:=keysB_rise h
 refine rise_ext (keys_rise _) (hr.filter _) fun x=>?_
 rw [keys_mem,List.mem_filter]
 constructor
 · rintro ⟨k,h1,h2,rfl⟩
   rw [mask_test (fun k hk=>(hb k hk).1)] at h2
   have:=of_decide_eq_true h2
   exact⟨this.2,decide_eq_true (by omega)⟩
 · rintro ⟨h1,h2⟩
   have h3:x<32:=of_decide_eq_true h2
   have h4:=(hb x h1).1
   refine⟨x.toNat,by omega, ?_,by omega⟩
   rw [mask_test (fun k hk=>(hb k hk).1)]
   exact decide_eq_true ⟨by omega,by rw [show ((x.toNat:Nat):Int)=x by omega]; exact h1⟩
theorem keysB_of {ks:List Int} {n:Nat} (h1:ks.Pairwise (· < ·)) (h2 : ∀ k∈ks,0≤k∧k<n):keysB ks n=true:=by
 refine decide_eq_true fun i hi=>?_
 have hx:=List.getElem?_eq_getElem hi
 unfold okK
 rw [getD_some 0 hx]
 refine⟨?_,(h2 _ (List.getElem_mem hi)).2⟩
 cases i with
 | zero=>rw [pk_zero]; have:=(h2 _ (List.getElem_mem hi)).1; omega
 | succ i =>
  rw [pk_succ (List.getElem?_eq_getElem (show i<ks.length by omega))]
  exact List.pairwise_iff_getElem.1 h1 i (i+1) (by omega) hi (by omega)
end Go.Proofs.YtoljpfapphoflaaGreatDoor.OlD
