/-
  BxD + BxOp + RwD
-/
import Derived.Test.YtoljpfapphoflaaGreatDoorRows
import Derived.Lib.Hide
import Derived.Lib.ItoaNum
import Derived.Test.YtoljpfapphoflaaGreatDoorAa
set_option linter.unusedVariables false
set_option linter.unusedSimpArgs false
set_option maxRecDepth 512
namespace Go.Proofs.YtoljpfapphoflaaGreatDoor.BxD
open Go.RowKit
theorem ba_beq (a b:ByteArray):(a==b)=(a.data==b.data):=by cases a; cases b; rfl
instance ba_law:LawfulBEq ByteArray where
 eq_of_beq {a b} h:=by
  rw [ba_beq] at h;exact ByteArray.ext (eq_of_beq h)
 rfl {a}:=by rw [ba_beq]; simp
instance ba_dec:DecidableEq ByteArray:=fun a b=>decidable_of_iff (a.data=b.data) ⟨fun h=>ByteArray.ext h,fun h=>by rw [h]⟩
structure Msg where
 uid:Int
 mod:Int
 date:Int
 id:ByteArray
 flags:Int
 keys:List Int
 text:ByteArray
theorem Msg.same {a b:Msg} : (a.uid=b.uid/\a.mod=b.mod/\a.date=b.date/\a.id=b.id/\a.flags=b.flags/\a.keys=b.keys/\a.text=b.text)↔a=b:=by
 cases a; cases b; simp
instance Msg.dec:DecidableEq Msg:=fun _ _=>decidable_of_iff _ Msg.same
structure Box where
 id:ByteArray
 valid:Int
 next:Int
 high:Int
 words:List ByteArray
 msgs:List Msg
theorem Box.same {a b:Box} : (a.id=b.id/\a.valid=b.valid/\a.next=b.next/\a.high=b.high/\a.words=b.words/\a.msgs=b.msgs)↔a=b:=by
 cases a; cases b; simp
instance Box.dec:DecidableEq Box:=fun _ _=>decidable_of_iff _ Box.same
def signs:List UInt8:=[46,95,45,36,47]
def atC (c:UInt8):Bool :=
 (decide (97<=c.toNat)&&decide (c.toNat<=122))||(decide (65<=c.toNat)&&decide (c.toNat<=90))||(decide (48<=c.toNat)&&decide (c.toNat<=57))||signs.contains c
def atB (s:ByteArray):Bool:=decide (1<=s.size)&&decide (s.size<=24)&&s.data.toList.all atC
theorem atB_short {s:ByteArray} (h:s.size<1):atB s=false:=by unfold atB; rw [decide_eq_false (show ¬ 1<=s.size by omega)]; rfl
theorem atB_long {s:ByteArray} (h:24<s.size):atB s=false:=by unfold atB; rw [decide_eq_false (show ¬ s.size<=24 by omega)]; simp
theorem atB_bad {s:ByteArray} {k:Nat} (h:k<s.size) (hc:atC s[k]=false):atB s=false:=by
 unfold atB;have:s.data.toList.all atC=false:=by
  rw [List.all_eq_false];exact⟨s.data[k]'h,by simp,by have e:s.data[k]'h=s[k]:=rfl; rw [e,hc]; decide⟩
 rw [this]; simp
theorem atB_good {s:ByteArray} {k:Nat} (h1:1<=s.size) (h2:s.size<=24) (hk:k=s.size) (h:(s.data.toList.take k).all atC=true):atB s=true:=by
 unfold atB;rw [List.take_of_length_le (by simp; omega)] at h;rw [h,decide_eq_true h1,decide_eq_true h2]; rfl
theorem atB_size {s:ByteArray} (h:atB s=true):1<=s.size/\s.size<=24:=by
 unfold atB at h;simp only [Bool.and_eq_true,decide_eq_true_eq] at h;exact h.1
theorem atC_snoc (s:ByteArray) (k:Nat) (h:k<s.size):(s.data.toList.take (k+1)).all atC=((s.data.toList.take k).all atC&&atC s[k]):=by
 rw [List.take_succ_eq_append_getElem (by simpa using h),List.all_append]; simp; rfl
def pk (ks:List Int) (i:Nat):Int:=if i=0 then -1 else ks.getD (i-1) 0
def okK (ks:List Int) (n:Nat) (i:Nat):Prop:=pk ks i<ks.getD i 0/\ks.getD i 0<(n:Int)
instance okK_dec (ks:List Int) (n i:Nat):Decidable (okK ks n i):=inferInstanceAs (Decidable (_/\_))
def keysB (ks:List Int) (n:Nat):Bool:=decide (∀ i,i<ks.length->okK ks n i)
theorem getD_some {α:Type} {l:List α} {i:Nat} {x:α} (d:α) (h:l[i]? = some x):l.getD i d=x:=by rw [List.getD_eq_getElem?_getD,h]; rfl
theorem pk_zero (ks:List Int):pk ks 0 = -1:=rfl
theorem pk_succ {ks:List Int} {i:Nat} {x:Int} (h:ks[i]? = some x):pk ks (i+1)=x:=by unfold pk; rw [if_neg (by omega),Nat.add_sub_cancel,getD_some 0 h]
theorem keysB_bad {ks:List Int} {n i:Nat} {x:Int} (hx:ks[i]? = some x) (h:x<=pk ks i\/(n:Int)<=x):keysB ks n=false:=by
 refine decide_eq_false fun H=>?_;have hi:i<ks.length:=(List.getElem?_eq_some_iff.1 hx).1;obtain⟨h1,h2⟩:=H i hi;rw [getD_some 0 hx] at h1 h2;omega
theorem keysB_good {ks:List Int} {n k:Nat} (hk:ks.length<=k) (h : ∀ i,i<k->okK ks n i):keysB ks n=true:=decide_eq_true fun i hi=>h i (by omega)
theorem okK_next {ks:List Int} {n k:Nat} {x:Int} (h : ∀ i,i<k->okK ks n i) (hx:ks[k]? = some x) (h1:pk ks k<x) (h2:x<(n:Int)) : ∀ i,i<k+1->okK ks n i:=by
 intro i hi;by_cases he:i=k
 · subst he; exact⟨by rw [getD_some 0 hx]; exact h1,by rw [getD_some 0 hx]; exact h2⟩
 · exact h i (by omega)
def inB (a n b:Int):Bool:=decide (a<=n/\n<=b)
theorem inB_true {a n b:Int} (h1:a<=n) (h2:n<=b):inB a n b=true:=decide_eq_true ⟨h1,h2⟩
theorem inB_false {a n b:Int} (h:n<a\/b<n):inB a n b=false:=decide_eq_false (by omega)
theorem inB_out {a n b:Int} (h:inB a n b=true):a<=n/\n<=b:=of_decide_eq_true h
def mmB (n:Nat) (m:Msg):Bool :=
 inB 1 m.uid 999999&&(inB 1 m.mod 1000000&&(inB 0 m.date 1000000&&(atB m.id&&(inB 0 m.flags 31&&(keysB m.keys n&&decide (m.text.size<=300))))))
def mmE (n:Nat) (m:Msg):Int:=if mmB n m then 0 else 1
def okW (ws:List ByteArray) (i:Nat):Prop:=atB (ws.getD i ⟨#[]⟩)=true/\ws.getD i ⟨#[]⟩∉ws.take i
instance okW_dec (ws:List ByteArray) (i:Nat):Decidable (okW ws i):=inferInstanceAs (Decidable (_/\_))
def wordsB (ws:List ByteArray):Bool:=decide (∀ i,i<ws.length->okW ws i)
theorem wordsB_bad {ws:List ByteArray} {i:Nat} {x:ByteArray} (hx:ws[i]? = some x) (h:atB x=false\/x∈ws.take i):wordsB ws=false:=by
 refine decide_eq_false fun H=>?_;have hi:i<ws.length:=(List.getElem?_eq_some_iff.1 hx).1;obtain⟨h1,h2⟩:=H i hi;rw [getD_some _ hx] at h1 h2;rcases h with h | h
 · rw [h] at h1; cases h1
 · exact h2 h
theorem wordsB_good {ws:List ByteArray} {k:Nat} (hk:ws.length<=k) (h : ∀ i,i<k->okW ws i):wordsB ws=true:=decide_eq_true fun i hi=>h i (by omega)
theorem okW_next {ws:List ByteArray} {k:Nat} {x:ByteArray} (h : ∀ i,i<k->okW ws i) (hx:ws[k]? = some x) (h1:atB x=true) (h2:x∉ws.take k) : ∀ i,i<k+1->okW ws i:=by
 intro i hi;by_cases he:i=k
 · subst he; exact⟨by rw [getD_some _ hx]; exact h1,by rw [getD_some _ hx]; exact h2⟩
 · exact h i (by omega)
def pu (ms:List Msg) (i:Nat):Int:=if i=0 then 0 else (ms[i-1]?.map Msg.uid).getD 0
theorem pu_zero (ms:List Msg):pu ms 0=0:=rfl
theorem pu_succ {ms:List Msg} {i:Nat} {m:Msg} (h:ms[i]? = some m):pu ms (i+1)=m.uid:=by unfold pu; rw [if_neg (by omega),Nat.add_sub_cancel,h]; rfl
def okM (b:Box) (i:Nat):Prop:=∀ m,b.msgs[i]? = some m->mmB b.words.length m=true/\pu b.msgs i<m.uid/\m.uid<b.next/\m.mod<=b.high
theorem okM_iff (b:Box) (i:Nat):((b.msgs[i]?.all fun m=>mmB b.words.length m&&(decide (pu b.msgs i<m.uid)&&(decide (m.uid<b.next)&&decide (m.mod<=b.high))))=true)↔okM b i:=by
 unfold okM;cases b.msgs[i]? with
 | none=>simp
 | some m=>simp
instance okM_dec (b:Box) (i:Nat):Decidable (okM b i):=decidable_of_iff _ (okM_iff b i)
def msgsB (b:Box):Bool:=decide (∀ i,i<b.msgs.length->okM b i)
theorem msgsB_bad {b:Box} {i:Nat} {m:Msg} (hx:b.msgs[i]? = some m) (h:mmB b.words.length m=false\/m.uid<=pu b.msgs i\/b.next<=m.uid\/b.high<m.mod):msgsB b=false:=by
 refine decide_eq_false fun H=>?_;have hi:i<b.msgs.length:=(List.getElem?_eq_some_iff.1 hx).1;obtain⟨h1,h2,h3,h4⟩:=H i hi m hx;rcases h with h | h | h | h
 · rw [h] at h1; cases h1
 all_goals omega
theorem msgsB_good {b:Box} {k:Nat} (hk:b.msgs.length<=k) (h : ∀ i,i<k->okM b i):msgsB b=true:=decide_eq_true fun i hi=>h i (by omega)
theorem okM_next {b:Box} {k:Nat} {m:Msg} (h : ∀ i,i<k->okM b i) (hx:b.msgs[k]? = some m) (h1:mmB b.words.length m=true) (h2:pu b.msgs k<m.uid) (h3:m.uid<b.next) (h4:m.mod<=b.high) : ∀ i,i<k+1->okM b i:=by
 intro i hi;by_cases he:i=k
 · subst he
   intro m' hm';obtain rfl:m=m':=Option.some.inj (hx.symm.trans hm');exact⟨h1,h2,h3,h4⟩
 · exact h i (by omega)
def headB (b:Box):Bool :=
 atB b.id&&(decide (b.id.size<=12)&&(inB 1 b.valid 1000000&&(inB 1 b.high 1000000&&inB 1 b.next 1000000)))
def mbE (b:Box):Int :=
 if headB b then if 64<b.words.length\/60<b.msgs.length then 4 else if wordsB b.words then if msgsB b then 0 else 1 else 1 else 1
def findI (ms:List Msg) (u:Int):Int:=match ms.findIdx? (fun m=>decide (m.uid=u)) with
 | some i=>(i:Int)
 | none=>-1
theorem findI_hit {ms:List Msg} {u:Int} {k:Nat} {m:Msg} (h : ∀ i x,i<k->ms[i]? = some x->x.uid≠u) (hm:ms[k]? = some m) (hu:m.uid=u):findI ms u=k:=by
 have:ms.findIdx? (fun m=>decide (m.uid=u))=some k:=by
  rw [List.findIdx?_eq_some_iff_getElem];obtain⟨hk,e⟩:=List.getElem?_eq_some_iff.1 hm;refine⟨hk,by rw [e]; exact decide_eq_true hu,fun j hj=>?_⟩;have:=h j _ hj (List.getElem?_eq_getElem (by omega));simpa using this
 unfold findI;rw [this]
theorem findI_none {ms:List Msg} {u:Int} (h : ∀ x,x∈ms->x.uid≠u):findI ms u = -1:=by
 have:ms.findIdx? (fun m=>decide (m.uid=u))=none:=by
  rw [List.findIdx?_eq_none_iff];intro x hx;simpa using h x hx
 unfold findI;rw [this]
def ownT (id:ByteArray) (u:Int):ByteArray:=(⟨#[101]⟩++⟨(Lib.itoa (max u 0)).toArray⟩++⟨#[45]⟩)++id
end Go.Proofs.YtoljpfapphoflaaGreatDoor.BxD

set_option maxRecDepth 512
namespace Go.Proofs.YtoljpfapphoflaaGreatDoor.BxOp
open Go.RowKit BxD
theorem mb_ok {b:Box} (h:mbE b=0):headB b=true/\¬ (64<b.words.length\/60<b.msgs.length)/\wordsB b.words=true/\msgsB b=true:=by
 unfold mbE at h;split at h
 · rename_i h1
   split at h
   · cases h
   · rename_i h2
     split at h
     · rename_i h3
       split at h
       · rename_i h4
         exact⟨h1,h2,h3,h4⟩
       · cases h
     · cases h
 · cases h
theorem mb_of {b:Box} (h1:headB b=true) (h2 : ¬ (64<b.words.length\/60<b.msgs.length)) (h3:wordsB b.words=true) (h4:msgsB b=true):mbE b=0:=by
 unfold mbE;rw [if_pos h1,if_neg h2,if_pos h3,if_pos h4]
def okOne (b:Box) (m:Msg):Prop:=mmB b.words.length m=true/\m.uid<b.next/\m.mod<=b.high
def Rises (l:List Msg):Prop:=l.Pairwise fun x y=>x.uid<y.uid
theorem mm_uid {n:Nat} {m:Msg} (h:mmB n m=true):1<=m.uid:=by
 unfold mmB at h;rw [Bool.and_eq_true] at h;exact (inB_out h.1).1
theorem mm_keys {n:Nat} {m:Msg} (h:mmB n m=true):keysB m.keys n=true:=by
 unfold mmB at h;simp only [Bool.and_eq_true] at h;exact h.2.2.2.2.2.1
theorem msgsB_iff (b:Box):msgsB b=true↔(∀ m∈b.msgs,okOne b m)/\Rises b.msgs:=by
 constructor
 · intro h
   have H:=of_decide_eq_true h;refine⟨fun m hm=>?_, ?_⟩
   · obtain⟨i,hi⟩:=List.mem_iff_getElem?.1 hm
     obtain⟨a,_,c,d⟩:=H i (List.getElem?_eq_some_iff.1 hi).1 m hi;exact⟨a,c,d⟩
   · have step : ∀ i (h0:i+1<b.msgs.length),(b.msgs[i]'(by omega)).uid<(b.msgs[i+1]'h0).uid:=fun i h0=>by
      have:=(H (i+1) h0 _ (List.getElem?_eq_getElem h0)).2.1
      rwa [pu_succ (List.getElem?_eq_getElem (l:=b.msgs) (i:=i) (by omega))] at this
     refine List.pairwise_iff_getElem.2 fun i j hi hj hij=>?_;have all : ∀ d (hd:i+1+d<b.msgs.length),(b.msgs[i]'hi).uid<(b.msgs[i+1+d]'hd).uid:=by
      intro d;induction d with
      | zero=>intro hd; exact step i hd
      | succ d ih =>
       intro hd;have a1:=ih (by omega);have a2:=step (i+1+d) hd;exact Int.lt_trans a1 a2
     obtain⟨d,rfl⟩ : ∃ d,j=i+1+d:=⟨j-(i+1),by omega⟩;exact all d hj
 · intro ⟨h1,h2⟩
   refine decide_eq_true fun i hi m hm=>?_;obtain⟨a,c,d⟩:=h1 m (List.mem_of_getElem? hm);refine⟨a, ?_,c,d⟩
   match i,hi,hm with
   | 0,_,_=>rw [pu_zero]; have:=mm_uid a; omega
   | i+1,hi,hm =>
    rw [pu_succ (List.getElem?_eq_getElem (l:=b.msgs) (i:=i) (by omega))];have:=List.pairwise_iff_getElem.1 h2 i (i+1) (by omega) hi (by omega);obtain⟨_,rfl⟩:=List.getElem?_eq_some_iff.1 hm;exact this
theorem mem_rise {l:List Msg} (h:Rises l) {i j:Nat} {x y:Msg} (hij:i<j) (hx:l[i]? = some x) (hy:l[j]? = some y):x.uid<y.uid:=by
 obtain⟨h1,rfl⟩:=List.getElem?_eq_some_iff.1 hx;obtain⟨h2,rfl⟩:=List.getElem?_eq_some_iff.1 hy;exact List.pairwise_iff_getElem.1 h i j h1 h2 hij
def lessL (l:List Msg) (k:Nat):List Msg:=l.take k++l.drop (k+1)
theorem split_at {l:List Msg} {k:Nat} {m:Msg} (hm:l[k]? = some m):l=l.take k++m::l.drop (k+1):=by
 obtain⟨h1,rfl⟩:=List.getElem?_eq_some_iff.1 hm;rw [<- List.drop_eq_getElem_cons h1,List.take_append_drop]
end Go.Proofs.YtoljpfapphoflaaGreatDoor.BxOp

set_option maxRecDepth 512
namespace Go.Proofs.YtoljpfapphoflaaGreatDoor.RwD
open Go.RowKit BxD BxOp
structure Row where
  kind:Int
  uid:Int
  mod:Int
  msg:Msg
  text:ByteArray
theorem Row.same {a b:Row} : (a.kind=b.kind/\a.uid=b.uid/\a.mod=b.mod/\a.msg=b.msg/\a.text=b.text)↔a=b:=by cases a; cases b; simp
instance Row.dec:DecidableEq Row:=fun _ _=>decidable_of_iff _ Row.same
def noM:Msg:=⟨0,0,0,⟨#[]⟩,0,[],⟨#[]⟩⟩
def noB:Box:=⟨⟨#[]⟩,0,0,0,[],[]⟩
def modB (n:Int):Bool:=inB 1 n 1000000
def flB (n:Int):Bool:=inB 0 n 31
theorem mb_iff (b:Box):mbE b=0↔headB b=true/\b.words.length<=64/\b.msgs.length<=60/\wordsB b.words=true/\(∀ m∈b.msgs,okOne b m)/\Rises b.msgs:=by
  constructor
  · intro h
    obtain⟨h1,h2,h3,h4⟩:=mb_ok h;obtain⟨h5,h6⟩:=(msgsB_iff b).1 h4;exact⟨h1,by omega,by omega,h3,h5,h6⟩
  · intro ⟨h1,h2,h3,h4,h5,h6⟩
    exact mb_of h1 (by omega) h4 ((msgsB_iff b).2 ⟨h5,h6⟩)
theorem head_parts {b:Box} (h:headB b=true):atB b.id=true/\b.id.size<=12/\(1<=b.valid/\b.valid<=1000000)/\(1<=b.high/\b.high<=1000000)/\1<=b.next/\b.next<=1000000:=by
  unfold headB at h;simp only [Bool.and_eq_true,decide_eq_true_eq] at h;obtain⟨h1,h2,h3,h4,h5⟩:=h;exact⟨h1,h2,inB_out h3,inB_out h4,inB_out h5⟩
theorem head_of {b:Box} (h1:atB b.id=true) (h2:b.id.size<=12) (h3:1<=b.valid/\b.valid<=1000000) (h4:1<=b.high/\b.high<=1000000) (h5:1<=b.next/\b.next<=1000000):headB b=true:=by
  unfold headB;simp only [Bool.and_eq_true,decide_eq_true_eq];exact⟨h1,h2,inB_true h3.1 h3.2,inB_true h4.1 h4.2,inB_true h5.1 h5.2⟩
theorem mm_parts {n:Nat} {m:Msg} (h:mmB n m=true):(1<=m.uid/\m.uid<=999999)/\(1<=m.mod/\m.mod<=1000000)/\(0<=m.date/\m.date<=1000000)/\atB m.id=true/\(0<=m.flags/\m.flags<=31)/\keysB m.keys n=true/\m.text.size<=300:=by
  unfold mmB at h;simp only [Bool.and_eq_true,decide_eq_true_eq] at h;obtain⟨h1,h2,h3,h4,h5,h6,h7⟩:=h;exact⟨inB_out h1,inB_out h2,inB_out h3,h4,inB_out h5,h6,h7⟩
theorem mm_of {n:Nat} {m:Msg} (h1:1<=m.uid/\m.uid<=999999) (h2:1<=m.mod/\m.mod<=1000000) (h3:0<=m.date/\m.date<=1000000) (h4:atB m.id=true) (h5:0<=m.flags/\m.flags<=31) (h6:keysB m.keys n=true) (h7:m.text.size<=300):mmB n m=true:=by
  unfold mmB;simp only [Bool.and_eq_true,decide_eq_true_eq];exact⟨inB_true h1.1 h1.2,inB_true h2.1 h2.2,inB_true h3.1 h3.2,h4,inB_true h5.1 h5.2,h6,h7⟩
theorem keysB_iff (ks:List Int) (n:Nat):keysB ks n=true↔(∀ k∈ks,0<=k/\k<(n:Int))/\ks.Pairwise (· < ·):=by
  constructor
  · intro h
    have hk:=of_decide_eq_true h
    have val : ∀ (j:Nat) (x:Int),ks[j]? = some x->0<=x/\x<(n:Int):=by
      intro j;induction j with
      | zero =>
        intro x hx;obtain⟨a1,a2⟩:=hk 0 (List.getElem?_eq_some_iff.1 hx).1;rw [getD_some 0 hx] at a1 a2;rw [pk_zero] at a1;omega
      | succ j ih =>
        intro x hx;have hj:=(List.getElem?_eq_some_iff.1 hx).1;obtain⟨a1,a2⟩:=hk (j+1) hj;rw [getD_some 0 hx] at a1 a2;have h0:=List.getElem?_eq_getElem (l:=ks) (i:=j) (by omega);rw [pk_succ h0] at a1;have:=ih _ h0;omega
    refine⟨fun k hm=>?_, ?_⟩
    · obtain⟨j,hj⟩:=List.mem_iff_getElem?.1 hm
      exact val j k hj
    · have step : ∀ i (h0:i+1<ks.length),ks[i]'(by omega)<ks[i+1]'h0:=fun i h0=>by
        have a1:=(hk (i+1) h0).1;rw [pk_succ (List.getElem?_eq_getElem (l:=ks) (i:=i) (by omega)),getD_some 0 (List.getElem?_eq_getElem h0)] at a1;exact a1
      refine List.pairwise_iff_getElem.2 fun i j hi hj hij=>?_
      have all : ∀ d (hd:i+1+d<ks.length),ks[i]'hi<ks[i+1+d]'hd:=by
        intro d;induction d with
        | zero=>intro hd; exact step i hd
        | succ d ih =>
          intro hd;exact Int.lt_trans (ih (by omega)) (step (i+1+d) hd)
      obtain⟨d,rfl⟩ : ∃ d,j=i+1+d:=⟨j-(i+1),by omega⟩;exact all d hj
  · intro ⟨h1,h2⟩
    refine decide_eq_true fun i hi=>?_;have hx:=List.getElem?_eq_getElem hi;have hm:=h1 _ (List.getElem_mem hi);refine⟨?_,by rw [getD_some 0 hx]; exact hm.2⟩;rw [getD_some 0 hx]
    match i,hi,hm with
    | 0,_,hm=>rw [pk_zero]; omega
    | i+1,hi,_ =>
      rw [pk_succ (List.getElem?_eq_getElem (l:=ks) (i:=i) (by omega))];exact List.pairwise_iff_getElem.1 h2 i (i+1) (by omega) hi (by omega)
theorem keysB_mono {ks:List Int} {n n':Nat} (h:keysB ks n=true) (hn:n<=n'):keysB ks n'=true:=by
  rw [keysB_iff] at h ⊢;exact⟨fun k hk=>⟨(h.1 k hk).1,by have:=(h.1 k hk).2; omega⟩,h.2⟩
theorem mm_mono {n n':Nat} {m:Msg} (h:mmB n m=true) (hn:n<=n'):mmB n' m=true:=by
  obtain⟨h1,h2,h3,h4,h5,h6,h7⟩:=mm_parts h;exact mm_of h1 h2 h3 h4 h5 (keysB_mono h6 hn) h7
theorem wordsB_iff (ws:List ByteArray):wordsB ws=true↔(∀ x∈ws,atB x=true)/\ws.Nodup:=by
  constructor
  · intro h
    have H:=of_decide_eq_true h;refine⟨fun x hx=>?_, ?_⟩
    · obtain⟨i,hi⟩:=List.mem_iff_getElem?.1 hx
      have:=(H i (List.getElem?_eq_some_iff.1 hi).1).1
      rwa [getD_some _ hi] at this
    · refine List.pairwise_iff_getElem.2 fun i j hi hj hij e=>?_
      have:=(H j hj).2;rw [getD_some _ (List.getElem?_eq_getElem hj)] at this;exact this (by rw [List.mem_take_iff_getElem]; exact⟨i,by omega,e⟩)
  · intro ⟨h1,h2⟩
    refine decide_eq_true fun i hi=>?_;have hx:=List.getElem?_eq_getElem hi;refine⟨by rw [getD_some _ hx]; exact h1 _ (List.getElem_mem hi), ?_⟩;rw [getD_some _ hx,List.mem_take_iff_getElem];intro ⟨j,hj,e⟩;exact List.pairwise_iff_getElem.1 h2 j i (by omega) hi (by omega) e
theorem find_mem {ms:List Msg} {u:Int} (h:0<=findI ms u) : ∃ m∈ms,m.uid=u:=by
  unfold findI at h;split at h
  · rename_i i hi
    obtain⟨hl,e,_⟩:=List.findIdx?_eq_some_iff_getElem.1 hi;exact⟨ms[i],List.getElem_mem hl,by simpa using e⟩
  · omega
theorem find_of {ms:List Msg} {m:Msg} (h:m∈ms):0<=findI ms m.uid:=by
  unfold findI;split
  · omega
  · rename_i hn
    rw [List.findIdx?_eq_none_iff] at hn;have:=hn m h;simp at this
def upd (u:Int) (f:Msg->Msg) (ms:List Msg):List Msg:=ms.map fun m=>if m.uid=u then f m else m
def del (u:Int) (ms:List Msg):List Msg:=ms.filter fun m=>decide (m.uid≠u)
theorem upd_length (u:Int) (f:Msg->Msg) (ms:List Msg):(upd u f ms).length=ms.length:=by unfold upd; simp
theorem upd_rises {u:Int} {f:Msg->Msg} {ms:List Msg} (hf : ∀ m,(f m).uid=m.uid) (h:Rises ms):Rises (upd u f ms):=by
  unfold Rises upd at *;rw [List.pairwise_map];refine h.imp fun {a b} hab=>?_;have e : ∀ m:Msg,(if m.uid=u then f m else m).uid=m.uid:=fun m=>by split; exact hf m; rfl
  rw [e,e]; exact hab
theorem upd_mem {u:Int} {f:Msg->Msg} {ms:List Msg} {x:Msg} (h:x∈upd u f ms) : ∃ m∈ms,x=if m.uid=u then f m else m:=by
  unfold upd at h;obtain⟨m,hm,rfl⟩:=List.mem_map.1 h;exact⟨m,hm,rfl⟩
theorem del_sub (u:Int) (ms:List Msg):(del u ms).Sublist ms:=List.filter_sublist
theorem upd_set {u:Int} {f:Msg->Msg} {ms:List Msg} {k:Nat} {m:Msg} (h:Rises ms) (hm:ms[k]? = some m) (hu:m.uid=u):upd u f ms=ms.set k (f m):=by
  refine List.ext_getElem? fun j=>?_;unfold upd;rw [List.getElem?_map,List.getElem?_set];by_cases e:k=j
  · subst e
    rw [if_pos rfl,hm,if_pos (List.getElem?_eq_some_iff.1 hm).1];simp [hu]
  · rw [if_neg e]
    cases hj:ms[j]? with
    | none=>rfl
    | some x =>
      have:x.uid≠u:=by
        rcases Nat.lt_or_ge k j with hlt | hge
        · have:=mem_rise h hlt hm hj; omega
        · have:=mem_rise h (show j<k by omega) hj hm; omega
      simp [this]
theorem del_less {u:Int} {ms:List Msg} {k:Nat} {m:Msg} (h:Rises ms) (hm:ms[k]? = some m) (hu:m.uid=u):del u ms=lessL ms k:=by
  have hs:=split_at hm;have h2:=h;rw [hs] at h2;unfold Rises at h2;rw [List.pairwise_append,List.pairwise_cons] at h2;obtain⟨_,⟨a1,_⟩,a2⟩:=h2;unfold del lessL
  conv=>lhs; rw [hs]
  rw [List.filter_append,List.filter_cons,if_neg (by simp [hu]),List.filter_eq_self.2,List.filter_eq_self.2]
  · intro x hx
    have:=a1 x hx;simp; omega
  · intro x hx
    have:=a2 x hx m (by simp);simp; omega
def apE (b:Box) (r:Row):Int :=
  if mbE b≠0 then 1
  else if r.kind=1 then if 60<=b.msgs.length then 4 else if mmB b.words.length r.msg=false then 1 else if r.msg.uid<b.next then 1 else 0
  else if r.kind=4 then if atB r.text=false then 1 else if r.text∈b.words then 7 else if 64<=b.words.length then 4 else 0
  else if r.kind=7 then if modB r.mod then 0 else 1
  else if r.kind=2\/r.kind=3\/r.kind=5\/r.kind=6 then
    if findI b.msgs r.uid<0 then 6
    else if r.kind=5 then if atB r.text then 0 else 1
    else if r.kind=2/\(flB r.msg.flags&&keysB r.msg.keys b.words.length)=false then 1
    else if modB r.mod then 0 else 1
  else 1
def apB (b:Box) (r:Row):Box :=
  if r.kind=1 then ⟨b.id,b.valid,r.msg.uid+1,max b.high r.msg.mod,b.words,b.msgs++[r.msg]⟩
  else if r.kind=4 then ⟨b.id,b.valid,b.next,b.high,b.words++[r.text],b.msgs⟩
  else if r.kind=7 then ⟨b.id,b.valid,b.next,max b.high r.mod,b.words,b.msgs⟩
  else if r.kind=5 then ⟨b.id,b.valid,b.next,b.high,b.words,upd r.uid (fun m=>⟨m.uid,m.mod,m.date,r.text,m.flags,m.keys,m.text⟩) b.msgs⟩
  else if r.kind=3 then ⟨b.id,b.valid,b.next,max b.high r.mod,b.words,del r.uid b.msgs⟩
  else if r.kind=2 then ⟨b.id,b.valid,b.next,max b.high r.mod,b.words,upd r.uid (fun m=>⟨m.uid,r.mod,m.date,m.id,r.msg.flags,r.msg.keys,m.text⟩) b.msgs⟩
  else ⟨b.id,b.valid,b.next,max b.high r.mod,b.words,upd r.uid (fun m=>⟨m.uid,r.mod,m.date,m.id,m.flags,m.keys,m.text⟩) b.msgs⟩
structure Grows (b c:Box):Prop where
  id:c.id=b.id
  valid:c.valid=b.valid
  next:b.next<=c.next
  high:b.high<=c.high
  words : ∃ l,c.words=b.words++l
theorem ap_may {b:Box} {r:Row} (h:apE b r=0):mbE (apB b r)=0/\Grows b (apB b r):=by
  unfold apE at h;by_cases hb:mbE b=0
  case neg=>rw [if_pos hb] at h; cases h
  rw [if_neg (by simpa using hb)] at h;obtain⟨h1,h2,h3,h4,h5,h6⟩:=(mb_iff b).1 hb;obtain⟨p1,p2,p3,p4,p5⟩:=head_parts h1;unfold apB;by_cases k1:r.kind=1
  · rw [if_pos k1] at h ⊢
    by_cases g1:60<=b.msgs.length
    · rw [if_pos g1] at h; cases h
    rw [if_neg g1] at h;by_cases g2:mmB b.words.length r.msg=false
    · rw [if_pos g2] at h; cases h
    rw [if_neg g2] at h;by_cases g3:r.msg.uid<b.next
    · rw [if_pos g3] at h; cases h
    have g2':mmB b.words.length r.msg=true:=by simpa using g2
    obtain⟨q1,q2,_⟩:=mm_parts g2';refine⟨(mb_iff _).2 ⟨head_of p1 p2 p3 ⟨?_, ?_⟩ ⟨?_, ?_⟩,h2, ?_,h4, ?_, ?_⟩,⟨rfl,rfl, ?_, ?_,[],by simp⟩⟩
    · show 1<=max b.high r.msg.mod; omega
    · show max b.high r.msg.mod<=1000000; omega
    · show 1<=r.msg.uid+1; omega
    · show r.msg.uid+1<=1000000; omega
    · show (b.msgs++[r.msg]).length<=60; simp; omega
    · intro m hm
      rcases List.mem_append.1 hm with hm | hm
      · obtain⟨a,c,d⟩:=h5 m hm
        exact⟨a,by show m.uid<r.msg.uid+1; omega,by show m.mod<=max b.high r.msg.mod; omega⟩
      · obtain rfl:=List.mem_singleton.1 hm
        exact⟨g2',by show r.msg.uid<r.msg.uid+1; omega,by show r.msg.mod<=max b.high r.msg.mod; omega⟩
    · show Rises (b.msgs++[r.msg])
      unfold Rises;rw [List.pairwise_append];refine⟨h6,by simp,fun x hx y hy=>?_⟩;obtain rfl:=List.mem_singleton.1 hy;have:=(h5 x hx).2.1;omega
    · show b.next<=r.msg.uid+1; omega
    · show b.high<=max b.high r.msg.mod; omega
  rw [if_neg k1] at h ⊢;by_cases k4:r.kind=4
  · rw [if_pos k4] at h ⊢
    by_cases g1:atB r.text=false
    · rw [if_pos g1] at h; cases h
    rw [if_neg g1] at h;by_cases g2:r.text∈b.words
    · rw [if_pos g2] at h; cases h
    rw [if_neg g2] at h;by_cases g3:64<=b.words.length
    · rw [if_pos g3] at h; cases h
    have g1':atB r.text=true:=by simpa using g1
    obtain⟨w1,w2⟩:=(wordsB_iff _).1 h4;refine⟨(mb_iff _).2 ⟨head_of p1 p2 p3 p4 p5,by show (b.words++[r.text]).length<=64; simp; omega,h3,(wordsB_iff _).2 ⟨fun x hx=>?_, ?_⟩,fun m hm=>?_,h6⟩,⟨rfl,rfl,Int.le_refl _,Int.le_refl _,[r.text],rfl⟩⟩
    · rcases List.mem_append.1 hx with hx | hx
      · exact w1 x hx
      · obtain rfl:=List.mem_singleton.1 hx; exact g1'
    · show (b.words++[r.text]).Nodup
      rw [List.nodup_append];exact⟨w2,by simp,fun x hx y hy e=>by obtain rfl:=List.mem_singleton.1 hy; subst e; exact g2 hx⟩
    · obtain⟨a,c,d⟩:=h5 m hm
      exact⟨mm_mono a (by show b.words.length<=(b.words++[r.text]).length; simp),c,d⟩
  rw [if_neg k4] at h ⊢
  have okU : ∀ (hi:Int) (f:Msg->Msg),b.high<=hi->hi<=1000000->(∀ m,(f m).uid=m.uid)->(∀ m∈b.msgs,okOne b m->okOne ⟨b.id,b.valid,b.next,hi,b.words,[]⟩ (f m)) ->
      mbE ⟨b.id,b.valid,b.next,hi,b.words,upd r.uid f b.msgs⟩=0/\Grows b ⟨b.id,b.valid,b.next,hi,b.words,upd r.uid f b.msgs⟩:=fun hi f hh1 hh2 hf hok=>by
    refine⟨(mb_iff _).2 ⟨head_of p1 p2 p3 ⟨by show 1<=hi; omega,hh2⟩ p5,h2,by show (upd r.uid f b.msgs).length<=60; rw [upd_length]; exact h3,h4,fun x hx=>?_,upd_rises hf h6⟩,⟨rfl,rfl,Int.le_refl _,hh1,[],by simp⟩⟩;obtain⟨m,hm,rfl⟩:=upd_mem hx;split
    · exact hok m hm (h5 m hm)
    · obtain⟨a,c,d⟩:=h5 m hm
      exact⟨a,c,by show m.mod<=hi; omega⟩
  by_cases k7:r.kind=7
  · rw [if_pos k7] at h ⊢
    by_cases g1:modB r.mod=true
    case neg=>rw [if_neg g1] at h; cases h
    obtain⟨q1,q2⟩:=inB_out g1;refine⟨(mb_iff _).2 ⟨head_of p1 p2 p3 ⟨by show 1<=max b.high r.mod; omega,by show max b.high r.mod<=1000000; omega⟩ p5,h2,h3,h4,fun m hm=>?_,h6⟩,⟨rfl,rfl,Int.le_refl _,by show b.high<=max b.high r.mod; omega,[],by simp⟩⟩;obtain⟨a,c,d⟩:=h5 m hm;exact⟨a,c,by show m.mod<=max b.high r.mod; omega⟩
  rw [if_neg k7] at h ⊢;by_cases kk:r.kind=2\/r.kind=3\/r.kind=5\/r.kind=6
  case neg=>rw [if_neg kk] at h; cases h
  rw [if_pos kk] at h;by_cases gf:findI b.msgs r.uid<0
  · rw [if_pos gf] at h; cases h
  rw [if_neg gf] at h;by_cases k5:r.kind=5
  · rw [if_pos k5] at h ⊢
    by_cases g1:atB r.text=true
    case neg=>rw [if_neg g1] at h; cases h
    refine okU b.high _ (Int.le_refl _) p4.2 (fun _=>rfl) fun m _ ⟨a,c,d⟩=>?_;obtain⟨q1,q2,q3,q4,q5,q6,q7⟩:=mm_parts a;exact⟨mm_of q1 q2 q3 g1 q5 q6 q7,c,d⟩
  rw [if_neg k5] at h ⊢;by_cases g2:r.kind=2/\(flB r.msg.flags&&keysB r.msg.keys b.words.length)=false
  · rw [if_pos g2] at h; cases h
  rw [if_neg g2] at h;by_cases g1:modB r.mod=true
  case neg=>rw [if_neg g1] at h; cases h
  obtain⟨m1,m2⟩:=inB_out g1;by_cases k3:r.kind=3
  · rw [if_pos k3]
    have hs:=del_sub r.uid b.msgs;have hl:=hs.length_le;refine⟨(mb_iff _).2 ⟨head_of p1 p2 p3 ⟨by show 1<=max b.high r.mod; omega,by show max b.high r.mod<=1000000; omega⟩ p5,h2,by show (del r.uid b.msgs).length<=60; omega,h4,fun m hm=>?_,List.Pairwise.sublist hs h6⟩,⟨rfl,rfl,Int.le_refl _,by show b.high<=max b.high r.mod; omega,[],by simp⟩⟩;obtain⟨a,c,d⟩:=h5 m (hs.subset hm);exact⟨a,c,by show m.mod<=max b.high r.mod; omega⟩
  rw [if_neg k3];by_cases k2:r.kind=2
  · rw [if_pos k2]
    have g3:(flB r.msg.flags&&keysB r.msg.keys b.words.length)=true:=by
      cases hq:(flB r.msg.flags&&keysB r.msg.keys b.words.length) with
      | true=>rfl
      | false=>exact absurd ⟨k2,hq⟩ g2
    rw [Bool.and_eq_true] at g3;refine okU _ _ (by omega) (by omega) (fun _=>rfl) fun m _ ⟨a,c,d⟩=>?_;obtain⟨q1,q2,q3,q4,q5,q6,q7⟩:=mm_parts a;exact⟨mm_of q1 ⟨m1,m2⟩ q3 q4 (inB_out g3.1) g3.2 q7,c,by show r.mod<=max b.high r.mod; omega⟩
  · rw [if_neg k2]
    refine okU _ _ (by omega) (by omega) (fun _=>rfl) fun m _ ⟨a,c,d⟩=>?_;obtain⟨q1,q2,q3,q4,q5,q6,q7⟩:=mm_parts a;exact⟨mm_of q1 ⟨m1,m2⟩ q3 q4 q5 q6 q7,c,by show r.mod<=max b.high r.mod; omega⟩
def allG:Box->List Row->Box × Int
  | b,[]=>(b,0)
  | b,r::l=>if apE b r=0 then allG (apB b r) l else (noB,apE b r)
def allP (b:Box) (l:List Row):Box × Int:=if mbE b=0 then allG b l else (noB,1)
theorem apE_may {b:Box} {r:Row} (h:apE b r=0):mbE b=0:=by
  unfold apE at h;by_cases hb:mbE b=0
  · exact hb
  · rw [if_pos hb] at h; cases h
theorem allG_cons (b:Box) (r:Row) (l:List Row):allG b (r::l)=if apE b r=0 then allG (apB b r) l else (noB,apE b r):=rfl
theorem allG_append : ∀ (b:Box) (l l':List Row),allG b (l++l')=if (allG b l).2=0 then allG (allG b l).1 l' else allG b l
  | b,[],l'=>by simp [allG]
  | b,r::l,l'=>by
    rw [List.cons_append,allG_cons,allG_cons];by_cases hr:apE b r=0
    · rw [if_pos hr,if_pos hr]
      exact allG_append _ l l'
    · rw [if_neg hr,if_neg hr,if_neg hr]
end Go.Proofs.YtoljpfapphoflaaGreatDoor.RwD
