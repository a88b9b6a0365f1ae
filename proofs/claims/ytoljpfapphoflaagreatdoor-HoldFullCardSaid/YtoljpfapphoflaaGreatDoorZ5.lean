/-
  RpD + RwM + OlP + RwF
-/
import Derived.Test.YtoljpfapphoflaaGreatDoorRwD
import Derived.Test.YtoljpfapphoflaaGreatDoorL2
import Derived.Test.YtoljpfapphoflaaGreatDoorZ9
import Derived.Test.YtoljpfapphoflaaGreatDoorZ10
set_option linter.unusedVariables false
set_option linter.unusedSimpArgs false
set_option maxRecDepth 512
namespace Go.Proofs.YtoljpfapphoflaaGreatDoor.RpD
open Go.RowKit BxD RwD PkA PkB PkD PkF OlD PtD PtR
def flb (m:Msg):List UInt8:=nums [m.flags,(m.keys.length:Nat)]++nums m.keys
def msb (m:Msg):List UInt8:=nums [m.uid,m.mod,m.date]++(tx m.id++(flb m++tx m.text))
def rob (r:Row):List UInt8 :=
 nums [r.kind]++(if r.kind=1 then msb r.msg else if r.kind=2 then nums [r.uid,r.mod]++flb r.msg else if r.kind=3∨r.kind=6 then nums [r.uid,r.mod] else if r.kind=4 then tx r.text else if r.kind=5 then nums [r.uid]++tx r.text else if r.kind=7 then nums [r.mod] else [])
def kyF (s:St):Int × St:=(((ntS 63 s).1:Nat),(ntS 63 s).2)
def kyR (s:St):List Int × St:=itG kyF (ntS 64 s).1 (ntS 64 s).2
def msgR (s:St):Msg × St :=
 let u:=ntS 1000000 s
 let o:=ntS 1000000 u.2
 let d:=ntS 1000000 o.2
 let i:=txtS 24 d.2
 let f:=ntS 1000000 i.2
 let k:=kyR f.2
 let x:=txtS 300 k.2
 (⟨(u.1:Nat),(o.1:Nat),(d.1:Nat),i.1,(f.1:Nat),k.1,x.1⟩,x.2)
def nX:ByteArray:=⟨#[]⟩
def roS (s:St):Row × St :=
 let k:=ntS 1000000 s
 if k.1=1 then (⟨1,0,0,(msgR k.2).1,nX⟩,(msgR k.2).2)
 else if k.1=2 then
  let a:=ntS 1000000 k.2
  let b:=ntS 1000000 a.2
  let f:=ntS 1000000 b.2
  let q:=kyR f.2
  (⟨2,(a.1:Nat),(b.1:Nat),⟨0,0,0,nX,(f.1:Nat),q.1,nX⟩,nX⟩,q.2)
 else if k.1=3∨k.1=6 then
  let a:=ntS 1000000 k.2
  let b:=ntS 1000000 a.2
  (⟨(k.1:Nat),(a.1:Nat),(b.1:Nat),noM,nX⟩,b.2)
 else if k.1=4 then (⟨4,0,0,noM,(txtS 24 k.2).1⟩,(txtS 24 k.2).2)
 else if k.1=5 then
  let a:=ntS 1000000 k.2
  (⟨5,(a.1:Nat),0,noM,(txtS 24 a.2).1⟩,(txtS 24 a.2).2)
 else if k.1=7 then (⟨7,0,((ntS 1000000 k.2).1:Nat),noM,nX⟩,(ntS 1000000 k.2).2)
 else (⟨(k.1:Nat),0,0,noM,nX⟩,rfS k.2)
def prR:Nat→List Row→St→List Row × Int
 | 0,acc,_=>(acc,0)
 | f+1,acc,s=>if s.1.length=0 then (acc,0) else if acc.length=200 then ([],4) else if firstS (roS s).2=0 then prR f (acc++[(roS s).1]) (roS s).2 else ([],(firstS (roS s).2:Nat))
def parseR (l:List UInt8):List Row × Int:=prR 202 [] (l,0,false)
def backR (r:Row):Bool:=decide (parseR (rob r)=([r],0))
def bytesR (l:List Row):List UInt8:=if 200<l.length then [] else if l.all backR then l.flatMap rob else []
theorem txt_small (m:Nat) (s:St):(txtS m s).1.size≤m:=by
 unfold txtS
 split
 · exact Nat.zero_le _
 · have h:(PkF.tz s.1 m).1.length≤m:=by
    unfold PkF.tz
    split
    · simp
    · split
      · simp
      · split
        · simp
        · rename_i h1 h2 h3
          simp only [List.length_take]
          omega
   show (PkF.tz s.1 m).1.toArray.size≤m
   simpa using h
theorem kyR_small (s:St):(kyR s).1.length≤64:=by
 unfold kyR
 rw [itG_len]
 exact nt_le _ _
theorem msgR_small (s:St):(msgR s).1.keys.length≤64∧(msgR s).1.id.size≤300∧(msgR s).1.text.size≤300:=by
 unfold msgR
 generalize ntS 1000000=N
 exact⟨kyR_small _,Nat.le_trans (txt_small 24 _) (by decide),txt_small 300 _⟩
theorem ro_small (s:St):(roS s).1.msg.keys.length≤64∧(roS s).1.msg.id.size≤300∧(roS s).1.msg.text.size≤300∧(roS s).1.text.size≤300:=by
 have z:nX.size≤300:=Nat.zero_le _
 have t:=fun s=>Nat.le_trans (txt_small 24 s) (show 24≤300 by decide)
 have m:=msgR_small
 have n0:noM.keys.length≤64∧noM.id.size≤300∧noM.text.size≤300:=⟨Nat.zero_le _,Nat.zero_le _,Nat.zero_le _⟩
 unfold roS
 generalize ntS 1000000=N
 simp only
 by_cases h1:(N s).1=1
 · rw [if_pos h1]
   exact⟨(m _).1,(m _).2.1,(m _).2.2,z⟩
 rw [if_neg h1]
 by_cases h2:(N s).1=2
 · rw [if_pos h2]
   exact⟨kyR_small _,z,z,z⟩
 rw [if_neg h2]
 by_cases h3:(N s).1=3∨(N s).1=6
 · rw [if_pos h3]
   exact⟨n0.1,n0.2.1,n0.2.2,z⟩
 rw [if_neg h3]
 by_cases h4:(N s).1=4
 · rw [if_pos h4]
   exact⟨n0.1,n0.2.1,n0.2.2,t _⟩
 rw [if_neg h4]
 by_cases h5:(N s).1=5
 · rw [if_pos h5]
   exact⟨n0.1,n0.2.1,n0.2.2,t _⟩
 rw [if_neg h5]
 by_cases h7:(N s).1=7
 · rw [if_pos h7]
   exact⟨n0.1,n0.2.1,n0.2.2,z⟩
 · rw [if_neg h7]
   exact⟨n0.1,n0.2.1,n0.2.2,z⟩
end Go.Proofs.YtoljpfapphoflaaGreatDoor.RpD

set_option maxRecDepth 512
namespace Go.Proofs.YtoljpfapphoflaaGreatDoor.RwM
open Go.RowKit BxD BxOp RwD
def emT:ByteArray:=⟨#[]⟩
def newW (ws words:List ByteArray):List ByteArray:=words.filter fun w=>decide (w∉ws)
def allW (ws words:List ByteArray):List ByteArray:=ws++newW ws words
def wRow (w:ByteArray):Row:=⟨4,0,0,noM,w⟩
def idx (n:Nat) (p:Nat→Bool):List Int:=((List.range n).filter p).map fun (i:Nat)=>(i:Int)
def kW (all words:List ByteArray):List Int:=idx all.length fun i=>decide (all.getD i emT∈words)
theorem len_le {α:Type} [BEq α] [LawfulBEq α] : ∀ {a b:List α},a.Nodup→(∀ x∈a,x∈b)→a.length≤b.length
 | [],_,_,_=>Nat.zero_le _
 | x::a,b,h,hs=>by
  rw [List.nodup_cons] at h
  have hx:=hs x (by simp)
  have ih:=len_le (b:=b.erase x) h.2 fun y hy=>(List.mem_erase_of_ne (fun e=>h.1 (by rw [← e]; exact hy))).2 (hs y (by simp [hy]))
  rw [List.length_erase_of_mem hx] at ih
  have:0<b.length:=List.length_pos_of_mem hx
  rw [List.length_cons]; omega
end Go.Proofs.YtoljpfapphoflaaGreatDoor.RwM

set_option maxRecDepth 512
namespace Go.Proofs.YtoljpfapphoflaaGreatDoor.OlP
open Go.RowKit BxD BxOp PkB PkC PkD PkF PkG PkK OlD FoN
theorem mm_parts {n:Nat} {m:Msg} (h:mmB n m=true):(1≤m.uid∧m.uid≤999999)∧(1≤m.mod∧m.mod≤1000000)∧(0≤m.date∧m.date≤1000000)∧atB m.id=true∧(0≤m.flags∧m.flags≤31)∧keysB m.keys n=true∧m.text.size≤300:=by
 unfold mmB at h
 simp only [Bool.and_eq_true,decide_eq_true_eq] at h
 obtain⟨h1,h2,h3,h4,h5,h6,h7⟩:=h
 exact⟨inB_out h1,inB_out h2,inB_out h3,h4,inB_out h5,h6,h7⟩
theorem mm_of {n:Nat} {m:Msg} (h1:1≤m.uid∧m.uid≤999999) (h2:1≤m.mod∧m.mod≤1000000) (h3:0≤m.date∧m.date≤1000000) (h4:atB m.id=true) (h5:0≤m.flags∧m.flags≤31) (h6:keysB m.keys n=true) (h7:m.text.size≤300):mmB n m=true:=by
 unfold mmB
 simp only [Bool.and_eq_true,decide_eq_true_eq]
 exact⟨inB_true h1.1 h1.2,inB_true h2.1 h2.2,inB_true h3.1 h3.2,h4,inB_true h5.1 h5.2,h6,h7⟩
structure Good (b:Box):Prop where
 ida:atB b.id=true
 ids:b.id.size≤12
 val:1≤b.valid∧b.valid≤1000000
 hig:1≤b.high∧b.high≤1000000
 nxt:1≤b.next∧b.next≤1000000
 wl:b.words.length≤64
 ml:b.msgs.length≤60
 ws:wordsB b.words=true
 ms : ∀ m∈b.msgs,okOne b m
 ri:Rises b.msgs
theorem good_of {b:Box} (h:mbE b=0):Good b:=by
 obtain⟨h1,h2,h3,h4⟩:=mb_ok h
 unfold headB at h1
 simp only [Bool.and_eq_true,decide_eq_true_eq] at h1
 obtain⟨a1,a2,a3,a4,a5⟩:=h1
 obtain⟨m1,m2⟩:=(msgsB_iff b).1 h4
 exact⟨a1,a2,inB_out a3,inB_out a4,inB_out a5,by omega,by omega,h3,m1,m2⟩
theorem good_may {b:Box} (h:Good b):mbE b=0:=by
 refine mb_of ?_ ?_ h.ws ((msgsB_iff b).2 ⟨h.ms,h.ri⟩)
 · unfold headB
   simp only [Bool.and_eq_true,decide_eq_true_eq]
   exact⟨h.ida,h.ids,inB_true h.val.1 h.val.2,inB_true h.hig.1 h.hig.2,inB_true h.nxt.1 h.nxt.2⟩
 · have:=h.wl; have:=h.ml; omega
theorem wordsB_at {ws:List ByteArray} (h:wordsB ws=true) : ∀ s∈ws,atB s=true:=by
 intro s hs
 obtain⟨i,hi⟩:=List.mem_iff_getElem?.1 hs
 have:=(of_decide_eq_true h) i (List.getElem?_eq_some_iff.1 hi).1
 unfold okW at this
 rw [getD_some _ hi] at this
 exact this.1
theorem wordsB_take {ws:List ByteArray} (h:wordsB ws=true) (k:Nat):wordsB (ws.take k)=true:=by
 refine decide_eq_true fun i hi=>?_
 rw [List.length_take] at hi
 have hi2:i<ws.length:=by omega
 have:=(of_decide_eq_true h) i hi2
 unfold okW at this ⊢
 have e:(ws.take k)[i]? = ws[i]?:=by rw [List.getElem?_take,if_pos (by omega)]
 rw [List.getD_eq_getElem?_getD,e,← List.getD_eq_getElem?_getD,List.take_take,Nat.min_eq_left (by omega)]
 exact this
section
variable {cg : Bool}
theorem msg_good {id:ByteArray} {n:Nat} {m:Msg} (h:mmB n m=true) (rest:List UInt8) (ov:Bool):msgS cg id (em cg m++rest,0,ov)=(pm cg id m,(rest,0,ov)):=by
 obtain⟨h1,h2,h3,h4,h5,h6,h7⟩:=mm_parts h
 unfold msgS em
 simp only [List.append_assoc]
 have e1:mx m.uid<4294967296:=by unfold mx; omega
 have e2:mx m.date<4294967296:=by unfold mx; omega
 have e3:mx m.mod<4294967296:=by unfold mx; omega
 rw [fix_fx e1]
 simp only
 rw [ch_fx e3]
 simp only
 rw [fix_fx e2]
 simp only
 rw [byte_one]
 simp only
 rw [fix_fx (mask_lt (fun k hk=>((keysB_rise h6).2 k hk).1))]
 simp only
 rw [str_good h7]
 simp only [keys_mask h6]
 unfold pm
 have q1:((mx m.uid:Nat):Int)=m.uid:=by unfold mx; omega
 have q2:((mx m.date:Nat):Int)=m.date:=by unfold mx; omega
 have q3:(((m.flags.toNat % 256).toUInt8.toNat:Nat):Int)=m.flags:=by rw [toNat_u8 (by omega)]; omega
 have q4:(((if cg then mx m.mod else 1:Nat)):Int)=on1 cg m.mod:=by
  cases cg
  · rfl
  · show ((mx m.mod:Nat):Int)=m.mod
    unfold mx; omega
 rw [q1,q2,q3,q4]
theorem box_good {b:Box} (h:Good b) (rest:List UInt8):boxS cg b.id (ebR cg b++rest,0,false)=(pb cg b,(rest,0,false)):=by
 unfold boxS ebR
 simp only [List.append_assoc]
 have e1:mx b.valid<4294967296:=by have:=h.val; unfold mx; omega
 have e2:mx b.next<4294967296:=by have:=h.nxt; unfold mx; omega
 have e3:mx b.high<4294967296:=by have:=h.hig; unfold mx; omega
 rw [fix_fx e1]
 simp only
 rw [fix_fx e2]
 simp only
 rw [ch_fx e3]
 simp only
 rw [cnt_fx (show min b.words.length 32≤32 by omega) (by decide)]
 simp only
 rw [it_all (f:=txtS 24) (enc:=tx) (val:=fun s=>s) (xs:=b.words.take 32) (ov:=false) (fun s hs r=>txt_tx (atB_size (wordsB_at h.ws s (List.mem_of_mem_take hs))).2 r false) _ (by rw [List.length_take]; omega)]
 simp only
 rw [cnt_fx h.ml (by decide)]
 simp only
 rw [it_all (f:=msgS cg b.id) (enc:=em cg) (val:=pm cg b.id) (xs:=b.msgs) (ov:=false) (fun m hm r=>msg_good (h.ms m hm).1 r false) _ rfl]
 unfold pb
 have q1:((mx b.valid:Nat):Int)=b.valid:=by have:=h.val; unfold mx; omega
 have q2:((mx b.next:Nat):Int)=b.next:=by have:=h.nxt; unfold mx; omega
 have q4:(((if cg then mx b.high else 1:Nat)):Int)=on1 cg b.high:=by
  cases cg
  · rfl
  · show ((mx b.high:Nat):Int)=b.high
    have:=h.hig
    unfold mx; omega
 simp only [q1,q2,q4,List.map_id']
theorem pb_good {b:Box} (h:Good b):Good (pb cg b):=by
 have hon : ∀ x:Int,1≤x∧x≤1000000→1≤on1 cg x∧on1 cg x≤1000000:=fun x hx=>by
  cases cg
  · exact⟨by show (1:Int)≤1; decide,by show (1:Int)≤1000000; decide⟩
  · exact hx
 refine⟨h.ida,h.ids,h.val,hon _ h.hig,h.nxt, ?_, ?_,wordsB_take h.ws 32, ?_, ?_⟩
 · show (b.words.take 32).length≤64
   rw [List.length_take]; omega
 · show (b.msgs.map (pm cg b.id)).length≤60
   rw [List.length_map]; exact h.ml
 · intro m hm
   obtain⟨m0,hm0,rfl⟩:=List.mem_map.1 hm
   obtain⟨o1,o2,o3⟩:=h.ms m0 hm0
   obtain⟨h1,h2,h3,h4,h5,h6,h7⟩:=mm_parts o1
   have hmod:on1 cg m0.mod≤on1 cg b.high:=by
    cases cg
    · show (1:Int)≤1; decide
    · exact o3
   refine⟨mm_of h1 (hon _ h2) h3 (own_atom (by omega) (by omega) h.ids h.ida) h5 ?_ h7,o2,hmod⟩
   obtain⟨r1,r2⟩:=keysB_rise h6
   refine keysB_of (r1.filter _) fun k hk=>?_
   replace hk:k∈m0.keys.filter (fun k=>decide (k<32)):=hk
   rw [List.mem_filter] at hk
   have:=r2 k hk.1
   have h32:k<32:=of_decide_eq_true hk.2
   refine⟨this.1, ?_⟩
   show k<((b.words.take 32).length:Nat)
   rw [List.length_take]
   omega
 · show Rises (b.msgs.map (pm cg b.id))
   unfold Rises
   rw [List.pairwise_map]
   exact h.ri
theorem take_mk (l:List UInt8):(mk cg++l).take 3=mk cg:=by cases cg <;> rfl
theorem drop_mk (l:List UInt8):(mk cg++l).drop 3=l:=by cases cg <;> rfl
theorem parse_good {b:Box} (h:mbE b=0):parseS cg (eb cg b) b.id=(pb cg b,0):=by
 have g:=good_of h
 unfold parseS eb
 rw [take_mk,if_pos rfl,drop_mk]
 have:=box_good (cg:=cg) g []
 rw [List.append_nil] at this
 rw [this]
 simp only [firstS]
 rw [if_neg (by simp),if_neg (by simp [good_may (pb_good g)])]
end
end Go.Proofs.YtoljpfapphoflaaGreatDoor.OlP

set_option maxRecDepth 512
namespace Go.Proofs.YtoljpfapphoflaaGreatDoor.RwF
open Go.RowKit BxD BxOp RwD RwM
def orI (a b:Int):Int:=bits .or .i64 a b
def notI (a b:Int):Int:=bits .andNot .i64 a b
def theM (ms:List Msg) (u:Int):Option Msg:=ms.find? fun m=>decide (m.uid=u)
def flAll (b:Box) (words:List ByteArray) (how:Int):List ByteArray:=if how=2 then b.words else allW b.words words
def flBits (m:Msg) (flags how:Int):Int:=if how=1 then orI m.flags flags else if how=2 then notI m.flags flags else flags
def moreK (all words:List ByteArray) (ks:List Int):List Int:=idx all.length fun i=>decide (all.getD i emT∈words)||decide ((i:Int)∈ks)
def lessK (ws words:List ByteArray) (ks:List Int):List Int:=ks.filter fun k=>decide (ws.getD k.toNat emT∉words)
def flKeys (b:Box) (m:Msg) (words:List ByteArray) (how:Int):List Int :=
 if how=1 then moreK (allW b.words words) words m.keys else if how=2 then lessK b.words words m.keys else kW (allW b.words words) words
def flSame (b:Box) (m:Msg) (flags:Int) (words:List ByteArray) (how:Int):Prop:=flBits m flags how=m.flags∧flKeys b m words how=m.keys
instance flSame_dec (b:Box) (m:Msg) (flags:Int) (words:List ByteArray) (how:Int):Decidable (flSame b m flags words how):=inferInstanceAs (Decidable (_∧_))
def flE (b:Box) (u flags:Int) (words:List ByteArray) (how:Int):Int :=
 if mbE b≠0∨flB flags=false∨wordsB words=false∨inB 0 how 2=false then 1
 else match theM b.msgs u with
 | none=>6
 | some m=>if flSame b m flags words how then 0 else if 64<(flAll b words how).length then 4 else if 1000000≤b.high then 9 else 0
def flM (b:Box) (flags:Int) (words:List ByteArray) (how:Int) (m:Msg):Msg:=⟨m.uid,b.high+1,m.date,m.id,flBits m flags how,flKeys b m words how,m.text⟩
end Go.Proofs.YtoljpfapphoflaaGreatDoor.RwF
