/-
  RpD + RwM + RwF + OlA + OlB
-/
import Derived.Test.YtoljpfapphoflaaGreatDoorZ10
import Derived.Test.YtoljpfapphoflaaGreatDoorL2
import Derived.Test.YtoljpfapphoflaaGreatDoorN1
import Derived.Test.YtoljpfapphoflaaGreatDoorPtK
import Derived.Laws.Bits128
set_option linter.unusedVariables false
set_option linter.unusedSimpArgs false
set_option maxRecDepth 512
namespace Go.Proofs.YtoljpfapphoflaaGreatDoor.RpD
open Go.RowKit BxD RwD PkA PkB PkD PkF OlD PtD PtR
def flb (m:Msg):List UInt8:=nums [m.flags,(m.keys.length:Nat)]++nums m.keys
def msb (m:Msg):List UInt8:=nums [m.uid,m.mod,m.date]++(tx m.id++(flb m++tx m.text))
def rob (r:Row):List UInt8 :=
 nums [r.kind]++(if r.kind=1 then msb r.msg else if r.kind=2 then nums [r.uid,r.mod]++flb r.msg else if r.kind=3\/r.kind=6 then nums [r.uid,r.mod] else if r.kind=4 then tx r.text else if r.kind=5 then nums [r.uid]++tx r.text else if r.kind=7 then nums [r.mod] else [])
def kyF (s:St):Int × St:=(((ntS 63 s).1:Nat),(ntS 63 s).2)
def kyR (s:St):List Int × St:=itG kyF (ntS 64 s).1 (ntS 64 s).2
def msgR (s:St):Msg × St :=
 let u:=ntS 1000000 s
 let o:=ntS 1000000 u.2
 let d:=ntS 1000000 o.2
 let i:=txtS 24 d.2
 let f:=ntS 1000000 i.2
 let k:=kyR f.2
 let x:=txtS 300 k.2
 (⟨(u.1:Nat),(o.1:Nat),(d.1:Nat),i.1,(f.1:Nat),k.1,x.1⟩,x.2)
def nX:ByteArray:=⟨#[]⟩
def roS (s:St):Row × St :=
 let k:=ntS 1000000 s
 if k.1=1 then (⟨1,0,0,(msgR k.2).1,nX⟩,(msgR k.2).2)
 else if k.1=2 then
  let a:=ntS 1000000 k.2
  let b:=ntS 1000000 a.2
  let f:=ntS 1000000 b.2
  let q:=kyR f.2
  (⟨2,(a.1:Nat),(b.1:Nat),⟨0,0,0,nX,(f.1:Nat),q.1,nX⟩,nX⟩,q.2)
 else if k.1=3\/k.1=6 then
  let a:=ntS 1000000 k.2
  let b:=ntS 1000000 a.2
  (⟨(k.1:Nat),(a.1:Nat),(b.1:Nat),noM,nX⟩,b.2)
 else if k.1=4 then (⟨4,0,0,noM,(txtS 24 k.2).1⟩,(txtS 24 k.2).2)
 else if k.1=5 then
  let a:=ntS 1000000 k.2
  (⟨5,(a.1:Nat),0,noM,(txtS 24 a.2).1⟩,(txtS 24 a.2).2)
 else if k.1=7 then (⟨7,0,((ntS 1000000 k.2).1:Nat),noM,nX⟩,(ntS 1000000 k.2).2)
 else (⟨(k.1:Nat),0,0,noM,nX⟩,rfS k.2)
def prR:Nat->List Row->St->List Row × Int
 | 0,acc,_=>(acc,0)
 | f+1,acc,s=>if s.1.length=0 then (acc,0) else if acc.length=200 then ([],4) else if firstS (roS s).2=0 then prR f (acc++[(roS s).1]) (roS s).2 else ([],(firstS (roS s).2:Nat))
def parseR (l:List UInt8):List Row × Int:=prR 202 [] (l,0,false)
def backR (r:Row):Bool:=decide (parseR (rob r)=([r],0))
def bytesR (l:List Row):List UInt8:=if 200<l.length then [] else if l.all backR then l.flatMap rob else []
theorem txt_small (m:Nat) (s:St):(txtS m s).1.size<=m:=by
 unfold txtS;split
 · exact Nat.zero_le _
 · have h:(PkF.tz s.1 m).1.length<=m:=by
    unfold PkF.tz;split
    · simp
    · split
      · simp
      · split
        · simp
        · rename_i h1 h2 h3
          simp only [List.length_take];omega
   show (PkF.tz s.1 m).1.toArray.size<=m;simpa using h
theorem kyR_small (s:St):(kyR s).1.length<=64:=by
 unfold kyR;rw [itG_len];exact nt_le _ _
theorem msgR_small (s:St):(msgR s).1.keys.length<=64/\(msgR s).1.id.size<=300/\(msgR s).1.text.size<=300:=by
 unfold msgR;generalize ntS 1000000=N;exact⟨kyR_small _,Nat.le_trans (txt_small 24 _) (by decide),txt_small 300 _⟩
theorem ro_small (s:St):(roS s).1.msg.keys.length<=64/\(roS s).1.msg.id.size<=300/\(roS s).1.msg.text.size<=300/\(roS s).1.text.size<=300:=by
 have z:nX.size<=300:=Nat.zero_le _;have t:=fun s=>Nat.le_trans (txt_small 24 s) (show 24<=300 by decide);have m:=msgR_small;have n0:noM.keys.length<=64/\noM.id.size<=300/\noM.text.size<=300:=⟨Nat.zero_le _,Nat.zero_le _,Nat.zero_le _⟩;unfold roS;generalize ntS 1000000=N;simp only;by_cases h1:(N s).1=1
 · rw [if_pos h1]
   exact⟨(m _).1,(m _).2.1,(m _).2.2,z⟩
 rw [if_neg h1];by_cases h2:(N s).1=2
 · rw [if_pos h2]
   exact⟨kyR_small _,z,z,z⟩
 rw [if_neg h2];by_cases h3:(N s).1=3\/(N s).1=6
 · rw [if_pos h3]
   exact⟨n0.1,n0.2.1,n0.2.2,z⟩
 rw [if_neg h3];by_cases h4:(N s).1=4
 · rw [if_pos h4]
   exact⟨n0.1,n0.2.1,n0.2.2,t _⟩
 rw [if_neg h4];by_cases h5:(N s).1=5
 · rw [if_pos h5]
   exact⟨n0.1,n0.2.1,n0.2.2,t _⟩
 rw [if_neg h5];by_cases h7:(N s).1=7
 · rw [if_pos h7]
   exact⟨n0.1,n0.2.1,n0.2.2,z⟩
 · rw [if_neg h7]
   exact⟨n0.1,n0.2.1,n0.2.2,z⟩
end Go.Proofs.YtoljpfapphoflaaGreatDoor.RpD

set_option maxRecDepth 512
namespace Go.Proofs.YtoljpfapphoflaaGreatDoor.RwM
open Go.RowKit BxD BxOp RwD
def emT:ByteArray:=⟨#[]⟩
def newW (ws words:List ByteArray):List ByteArray:=words.filter fun w=>decide (w∉ws)
def allW (ws words:List ByteArray):List ByteArray:=ws++newW ws words
def wRow (w:ByteArray):Row:=⟨4,0,0,noM,w⟩
def idx (n:Nat) (p:Nat->Bool):List Int:=((List.range n).filter p).map fun (i:Nat)=>(i:Int)
def kW (all words:List ByteArray):List Int:=idx all.length fun i=>decide (all.getD i emT∈words)
theorem len_le {α:Type} [BEq α] [LawfulBEq α] : ∀ {a b:List α},a.Nodup->(∀ x∈a,x∈b)->a.length<=b.length
 | [],_,_,_=>Nat.zero_le _
 | x::a,b,h,hs=>by
  rw [List.nodup_cons] at h;have hx:=hs x (by simp);have ih:=len_le (b:=b.erase x) h.2 fun y hy=>(List.mem_erase_of_ne (fun e=>h.1 (by rw [<- e]; exact hy))).2 (hs y (by simp [hy]));rw [List.length_erase_of_mem hx] at ih;have:0<b.length:=List.length_pos_of_mem hx;rw [List.length_cons]; omega
end Go.Proofs.YtoljpfapphoflaaGreatDoor.RwM

set_option maxRecDepth 512
namespace Go.Proofs.YtoljpfapphoflaaGreatDoor.RwF
open Go.RowKit BxD BxOp RwD RwM
def orI (a b:Int):Int:=bits .or .i64 a b
def notI (a b:Int):Int:=bits .andNot .i64 a b
def theM (ms:List Msg) (u:Int):Option Msg:=ms.find? fun m=>decide (m.uid=u)
def flAll (b:Box) (words:List ByteArray) (how:Int):List ByteArray:=if how=2 then b.words else allW b.words words
def flBits (m:Msg) (flags how:Int):Int:=if how=1 then orI m.flags flags else if how=2 then notI m.flags flags else flags
def moreK (all words:List ByteArray) (ks:List Int):List Int:=idx all.length fun i=>decide (all.getD i emT∈words)||decide ((i:Int)∈ks)
def lessK (ws words:List ByteArray) (ks:List Int):List Int:=ks.filter fun k=>decide (ws.getD k.toNat emT∉words)
def flKeys (b:Box) (m:Msg) (words:List ByteArray) (how:Int):List Int :=
 if how=1 then moreK (allW b.words words) words m.keys else if how=2 then lessK b.words words m.keys else kW (allW b.words words) words
def flSame (b:Box) (m:Msg) (flags:Int) (words:List ByteArray) (how:Int):Prop:=flBits m flags how=m.flags/\flKeys b m words how=m.keys
instance flSame_dec (b:Box) (m:Msg) (flags:Int) (words:List ByteArray) (how:Int):Decidable (flSame b m flags words how):=inferInstanceAs (Decidable (_/\_))
def flE (b:Box) (u flags:Int) (words:List ByteArray) (how:Int):Int :=
 if mbE b≠0\/flB flags=false\/wordsB words=false\/inB 0 how 2=false then 1
 else match theM b.msgs u with
 | none=>6
 | some m=>if flSame b m flags words how then 0 else if 64<(flAll b words how).length then 4 else if 1000000<=b.high then 9 else 0
def flM (b:Box) (flags:Int) (words:List ByteArray) (how:Int) (m:Msg):Msg:=⟨m.uid,b.high+1,m.date,m.id,flBits m flags how,flKeys b m words how,m.text⟩
end Go.Proofs.YtoljpfapphoflaaGreatDoor.RwF

set_option maxHeartbeats 4000000
set_option maxRecDepth 100000
namespace Go.Proofs.YtoljpfapphoflaaGreatDoor.OlA
open PtK
open Go.RowKit BxD PkKit PkA PkB PkC PkR OlD OlOm
open BxKit (RowAt IntsAt StrsAt MsgsAt)
section
variable {w0 wr : World} {v0 v : Value} {n : Nat} {l : List UInt8}
end
def fxs (zs:List Int):List UInt8:=zs.flatMap fun z=>fx (mx z)
theorem fxs_snoc {zs:List Int} {k:Nat} {x:Int} (h:zs[k]? = some x):fxs (zs.take (k+1))=fxs (zs.take k)++fx (mx x):=by
 obtain⟨hl,rfl⟩:=List.getElem?_eq_some_iff.1 h;unfold fxs;rw [List.take_succ_eq_append_getElem hl,List.flatMap_append];simp
theorem appendFixed_any {n m cp B base N:Nat} {w:World} {v:Value} {l:List UInt8} {A:Option Addr} {zs:List Int} (hO:Ow w base v n (by_ l)) (hz:IntsAt w B A m zs) (hB:B<=w.heap.size) (hne : ∀ ad,A=some ad->v.ownBlock≠some ad.block) (hn:n+4*m+64<=140737488355328) (hN:N=n+4*m) :
 Calls Tryz.prog 194 #[v,.slice A m cp] w fun e w'=>∃ v',e = .returned v'/\OM w v w' N v' (l++fxs zs):=by
 subst hN;have hmax:=hz.max;have H0:=H_ (OM.start hO);have HZ:=H_ hz;have HNE:=H_ hne;clear hO hz hne;go_enter Tryz.func194,Tryz.ntmps194;go_wp2_with fail
 go_loopw [0,9] (fun s0 s9 wr=>∃ (v':Value) (k:Nat),s0=v'/\k<=m/\s9 = .int .i64 k/\Hid (OM w v wr (n+4*k) v' (l++fxs (zs.take k)))) (fun _ s9 _=>m-(intOf s9).toNat)
 case atStart=>exact⟨v,0,rfl,Nat.zero_le _,rfl,by have:=H0.out; simpa [fxs,Hid] using this⟩
 case round =>
  obtain⟨v',k,rfl,hk,rfl,HO⟩:=hrel;obtain⟨A1,c1,rfl,hc1⟩:=Ow.slice HO.out.own;by_cases hlt:k<m
  · obtain⟨ad,x,rfl,e1,q1⟩:=ints_kept HO.out HZ.out hB HNE.out hlt
    have KF:=H_ (fixed_any (cp:=0) (nil_bytes wr wr.heap.size) lr_ x (by decide));have HSN:=H_ (fxs_snoc e1);clear e1;go_wp2_with (first
     | (go_at_call 214; go_loud (
        refine KF.out.mono ?_;rintro e w1 ⟨v1,rfl,O1⟩;obtain⟨A2,c2,rfl,hc2⟩:=own_slice O1.own;have O1:=H_ O1;have G1:=H_ (HO.out.go O1.out.bel);clear q1))
     | (at_builtin; go_loud (
        refine wpList_ow rfl _ _ rfl rfl rfl G1.out.own O1.out.at_ (by show n+4*k+4<=_; omega) (Nat.zero_le _) (Nat.succ_pos _) ?_;intro v3 w3 hown3 hg3 hat3;have G3:=H_ (G1.out.app (n:=n+4*k) (m:=n+4*(k+1)) (l':=l++fxs (zs.take (k+1))) (by rw [HSN.out,<- List.append_assoc,by_append]; exact hown3) hg3 hat3);clear hown3 hg3 hat3)))
    go_roundw
    case rel=>exact⟨v3,k+1,rfl,by omega,by go_num,G3⟩
    case measure=>simp [intOf]; omega
  · obtain rfl:m=k:=by omega
    have hq:zs.take m=zs:=List.take_of_length_le (by rw [HZ.out.len]; omega);have ho:=HO.out;rw [hq] at ho;have HO2:=H_ ho;clear ho HO hq;go_wp2_with fail
    go_ret;exact⟨_,rfl,HO2.out⟩
end Go.Proofs.YtoljpfapphoflaaGreatDoor.OlA

set_option maxHeartbeats 4000000
set_option maxRecDepth 100000
namespace Go.Proofs.YtoljpfapphoflaaGreatDoor.OlB
open PtK
open Go.RowKit BxD BxKit BxR OlD
theorem mask_snoc {ks:List Int} {k:Nat} {x:Int} (h:ks[k]? = some x):maskN (ks.take (k+1))=if x<32 then maskN (ks.take k) ||| 2 ^ x.toNat else maskN (ks.take k):=by
 obtain⟨hl,rfl⟩:=List.getElem?_eq_some_iff.1 h;unfold maskN;rw [List.take_succ_eq_append_getElem hl,List.foldl_append];rfl
theorem or_bit {M j:Nat} (hM:M<4294967296) (hj:j<32):bits .or .i64 (M:Int) (wrap64 (2 ^ j))=((M ||| 2 ^ j:Nat):Int):=by
 have hp:2 ^ j<4294967296:=Nat.pow_lt_pow_right (a:=2) (by decide) hj;have e:wrap64 (2 ^ j)=((2 ^ j:Nat):Int):=by
  rw [show (2:Int) ^ j=((2 ^ j:Nat):Int) by simp];generalize 2 ^ j=P at hp;unfold wrap64; omega
 rw [e,(bits_nat .i64 62 (by decide) PkE.i64_small M (2 ^ j) (by omega) (by omega)).2]
theorem and_bit {M j:Nat} (hM:M<4294967296) (hj:j<32):(bits .and .i64 (M:Int) (wrap64 (2 ^ j)) != 0)=M.testBit j:=by
 have hp:2 ^ j<4294967296:=Nat.pow_lt_pow_right (a:=2) (by decide) hj;have e:wrap64 (2 ^ j)=((2 ^ j:Nat):Int):=by
  rw [show (2:Int) ^ j=((2 ^ j:Nat):Int) by simp];generalize 2 ^ j=P at hp;unfold wrap64; omega
 rw [e,(bits_nat .i64 62 (by decide) PkE.i64_small M (2 ^ j) (by omega) (by omega)).1];have hq:M &&& 2 ^ j=if M.testBit j then 2 ^ j else 0:=by
  refine Nat.eq_of_testBit_eq fun i=>?_;rw [Nat.testBit_and,Nat.testBit_two_pow];by_cases e:j=i
  · subst e
    cases h:M.testBit j <;> simp
  · cases h:M.testBit j <;> simp [e]
 rw [hq];cases M.testBit j with
 | false=>simp
 | true =>
  have:0<2 ^ j:=Nat.two_pow_pos j;simp only [if_true,bne_iff_ne];omega
theorem bitsOf_any {w:World} {B n cp:Nat} {A:Option Addr} {ks:List Int} (hz:IntsAt w B A n ks) (hp : ∀ k∈ks,0<=k) :
 Calls Tryz.prog 215 #[.slice A n cp] w fun e w'=>e = .returned (.int .i64 (maskN ks:Nat))/\w=w':=by
 have hmax:=hz.max;have HZ:=H_ hz;have HP:=H_ hp;clear hz hp;go_enter Tryz.func215,Tryz.ntmps215;go_wp2_with fail
 go_loop [3,8] (fun s3 s8=>∃ (k M:Nat),k<=n/\s8 = .int .i64 k/\s3 = .int .i64 (M:Nat)/\Hid (M=maskN (ks.take k))) (fun _ s8=>n-(intOf s8).toNat)
 case atStart=>exact⟨0,0,Nat.zero_le _,rfl,rfl,rfl⟩
 case round =>
  obtain⟨k,M,hk,rfl,rfl,HM⟩:=hrel;by_cases hlt:k<n
  · obtain⟨ad,x,rfl,hb,e1,q1⟩:=HZ.out.get hlt
    rw [Nat.mul_one] at q1;unfold intC at q1;have h0:=HP.out x (List.mem_of_getElem? e1);obtain⟨j,rfl⟩:=Int.eq_ofNat_of_zero_le h0;have hs:=mask_snoc e1;rw [Int.toNat_natCast,<- HM.out] at hs;have hM:M<4294967296:=by rw [HM.out]; exact mask_lt (fun k hk=>HP.out k (List.mem_of_mem_take hk))
    by_cases h32:j<32
    · rw [if_pos (by omega)] at hs
      have HS:=H_ hs;have hor:=or_bit hM h32;clear hs e1 hb;go_wp2_with fail
      go_round
      case rel=>exact⟨k+1,M ||| 2 ^ j,by omega,by go_num,rfl,HS.out.symm⟩
      case measure=>simp [intOf]; omega
    · rw [if_neg (by omega)] at hs
      have HS:=H_ hs;clear hs e1 hb;go_wp2_with fail
      go_round
      case rel=>exact⟨k+1,M,by omega,by go_num,rfl,HS.out.symm⟩
      case measure=>simp [intOf]; omega
  · obtain rfl:n=k:=by omega
    have hq:M=maskN ks:=by rw [HM.out,List.take_of_length_le (by rw [HZ.out.len]; omega)]
    subst hq;go_wp2_with fail
    go_ret;exact⟨rfl,rfl⟩
theorem keys_take (N k:Nat) (hk:k<32):(((List.range (k+1)).filter fun k=>N.testBit k).map fun k:Nat=>(k:Int))=(((List.range k).filter fun k=>N.testBit k).map fun k:Nat=>(k:Int))++if N.testBit k then [(k:Int)] else []:=by
 rw [List.range_succ,List.filter_append,List.map_append]
 congr 1
 cases h:N.testBit k <;> simp [h]
def kN (N k:Nat):List Int:=((List.range k).filter fun k=>N.testBit k).map fun k:Nat=>(k:Int)
theorem kN_le (N k:Nat):(kN N k).length<=k:=by
 unfold kN;rw [List.length_map];exact Nat.le_trans (List.length_filter_le _ _) (by simp)
theorem keysOf_any {w:World} {N:Nat} (hN:N<4294967296) :
 Calls Tryz.prog 226 #[.int .i64 (N:Nat)] w fun e w'=>∃ v,e = .returned v/\w'.ownsRow w.heap.size 3 1 v (keysN N).length ((keysN N).map (Value.int .i64))/\Below w.heap.size w w':=by
 go_enter Tryz.func226,Tryz.ntmps226;go_wp2_with fail
 go_loopw [3,5] (fun s3 s5 wr=>∃ (v:Value) (k n:Nat),s3=v/\k<=32/\s5 = .int .i64 k/\Hid (wr.ownsRow w.heap.size 3 1 v n ((kN N k).map (Value.int .i64)))/\Hid (Below w.heap.size w wr)/\n<=k/\Hid (n=(kN N k).length)) (fun _ s5 _=>32-(intOf s5).toNat)
 case atStart=>exact⟨_,0,0,rfl,by omega,rfl,World.ownsRow_nil _ _ _ _,Below.refl _ _,Nat.le_refl _,rfl⟩
 case round =>
  obtain⟨v,k,n,rfl,hk,rfl,HO,HB,hn,HN⟩:=hrel;obtain⟨A1,c1,rfl,hc1⟩:=own_slice HO.out;by_cases hlt:k<32
  · have hb:=and_bit hN hlt
    have hkn:=keys_take N k hlt;cases ht:N.testBit k with
    | true =>
     rw [ht] at hb hkn;rw [if_pos rfl] at hkn;have HK:=H_ hkn;have HSZ:=H_ HB.out.size;clear hkn ht;go_wp2_with (at_builtin; go_loud (
      refine wpList_rows elI rfl _ _ rfl rfl rfl (HO.out.alloc _) (src_new wr #[.int .i64 (k:Nat)] 3 (m:=1) rfl rfl (by intro u hu; simp at hu; subst hu; rfl)) (by unfold maxLen; omega) (by omega) (by have:=HSZ.out; simp; omega) ?_;intro v3 w3 hown3 hg3 _;have HO3:=H_ (show w3.ownsRow w.heap.size 3 1 v3 (n+1) ((kN N (k+1)).map (Value.int .i64)) by unfold kN; rw [HK.out,List.map_append]; exact hown3);have HB3:=H_ ((HB.out.alloc HSZ.out _).grown hg3 (by have:=HSZ.out; simp; omega) (fun g e=>(HO.out.lt g e).1));have HN3:=H_ (show n+1=(kN N (k+1)).length by have:=HN.out; unfold kN at this ⊢; rw [HK.out,List.length_append,<- this]; rfl);clear hown3 hg3))
     go_roundw
     case rel=>exact⟨v3,k+1,n+1,rfl,by omega,by go_num,HO3,HB3,by omega,HN3⟩
     case measure=>simp [intOf]; omega
    | false =>
     rw [ht] at hb hkn;rw [if_neg (by decide),List.append_nil] at hkn;have HK:=H_ hkn;clear hkn ht;go_wp2_with fail
     go_roundw
     case rel=>exact⟨_,k+1,n,rfl,by omega,by go_num,by unfold kN; rw [HK.out]; exact HO,HB,by omega,by unfold kN; rw [HK.out]; exact HN⟩
     case measure=>simp [intOf]; omega
  · obtain rfl:k=32:=by omega
    have hq:=HN.out;subst hq;go_wp2_with fail
    go_ret;exact⟨_,rfl,HO.out,HB.out⟩
end Go.Proofs.YtoljpfapphoflaaGreatDoor.OlB
