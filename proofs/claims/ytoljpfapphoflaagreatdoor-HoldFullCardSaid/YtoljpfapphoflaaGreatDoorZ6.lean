/-
  RwRo + OlA + OlB + ImO
-/
import Derived.Test.YtoljpfapphoflaaGreatDoorL3
import Derived.Test.YtoljpfapphoflaaGreatDoorN4
import Derived.Deep.DeepCutAuto
import Derived.Test.YtoljpfapphoflaaGreatDoorN1
import Derived.Test.YtoljpfapphoflaaGreatDoorPtK
import Derived.Laws.Bits128
set_option linter.unusedVariables false
set_option linter.unusedSimpArgs false
set_option maxRecDepth 512
namespace Go.Proofs.YtoljpfapphoflaaGreatDoor.RwRo
open Go.RowKit BxD BxKit BxA BxR BxC RwD RwM RwF RwKit
theorem elR:El 26 63 (.agg #[.int .i64 0,.int .i64 0,.int .i64 0,.int .i64 0,.int .i64 0,.int .i64 0,.string ⟨#[]⟩,.int .i64 0,.slice none 0 0,.string ⟨#[]⟩,.string ⟨#[]⟩]) 11 128:=⟨Tryz.underlying26,by kernel_rfl,rfl,by decide⟩
structure RRaw where
 r:Row
 K:Option Addr
 c:Nat
def cell11 (q:RRaw):List Value:=[.int .i64 q.r.kind,.int .i64 q.r.uid,.int .i64 q.r.mod,.int .i64 q.r.msg.uid,.int .i64 q.r.msg.mod,.int .i64 q.r.msg.date,.string q.r.msg.id,.int .i64 q.r.msg.flags,.slice q.K q.r.msg.keys.length q.c,.string q.r.msg.text,.string q.r.text]
def rc (l:List RRaw):List Value:=l.flatMap cell11
theorem rc_length : ∀ l:List RRaw,(rc l).length=l.length*11
 | []=>rfl
 | r::l=>by
  have:=rc_length l
  unfold rc at this ⊢
  rw [List.flatMap_cons,List.length_append,this,List.length_cons]
  simp [cell11]; omega
theorem rc_append (a b:List RRaw):rc (a++b)=rc a++rc b:=by unfold rc; rw [List.flatMap_append]
theorem rc_snoc (a:List RRaw) (q:RRaw):rc (a++[q])=rc a++cell11 q:=by rw [rc_append]; unfold rc; simp
theorem rc_get : ∀ (l:List RRaw) (i f:Nat) (r:RRaw),l[i]? = some r→f<11→(rc l)[i*11+f]? = (cell11 r)[f]?
 | r0::l,0,f,r,h,hf=>by
  obtain rfl:r0=r:=by simpa using h
  unfold rc
  rw [List.flatMap_cons,Nat.zero_mul,Nat.zero_add,List.getElem?_append_left (by simpa [cell11] using hf)]
 | r0::l,i+1,f,r,h,hf=>by
  have:=rc_get l i f r (by simpa using h) hf
  unfold rc at this ⊢
  rw [List.flatMap_cons,List.getElem?_append_right (by simp [cell11]; omega),← this]
  congr 1
  simp [cell11]; omega
def RKeys (w:World) (B:Nat) (l:List RRaw):Prop:=∀ q∈l,IntsAt w B q.K q.r.msg.keys.length q.r.msg.keys∧q.r.msg.keys.length≤q.c∧q.r.msg.id.size≤140737488355328∧q.r.msg.text.size≤140737488355328∧q.r.text.size≤140737488355328
theorem rowsAt_own {w:World} {base n B cp:Nat} {A:Option Addr} {rs:List RRaw} (h:w.ownsRow base 63 11 (.slice A n cp) n (rc rs)) (hB : ∀ g,(Value.slice A n cp).ownBlock=some g→g<B) (hn:n≤140737488355328) (hk:RKeys w B rs):RowsAt w B A n (rs.map RRaw.r):=by
 have hl:=h.1
 rw [rc_length] at hl
 refine⟨by rw [List.length_map]; omega,hn,fun hn=>?_⟩
 obtain⟨g,cap,hv,_,hlt⟩:=own_form h hn
 have hA:A=some ⟨g,0,none⟩:=by injection hv
 subst hA
 refine⟨_,rfl,hB g rfl,fun j m hj=>?_⟩
 rw [List.getElem?_map] at hj
 cases hr:rs[j]? with
 | none=>rw [hr] at hj; cases hj
 | some r =>
  rw [hr] at hj
  obtain rfl:r.r=m:=Option.some.inj hj
  have hc : ∀ f,f<11→∀ u,(cell11 r)[f]? = some u→w.cell? ⟨g,j*11+f,none⟩=some u:=fun f hf u hu=>by
   have:=h.cells (g:=g) rfl (j*11+f) u (by rw [rc_get rs j f r hr hf,hu])
   rwa [add_new] at this
  obtain⟨k1,k2,k3,k4,k5⟩:=hk r (List.mem_of_getElem? hr)
  rw [add_new]
  exact⟨hc 0 (by decide) _ rfl,hc 1 (by decide) _ rfl,hc 2 (by decide) _ rfl,hc 3 (by decide) _ rfl,hc 4 (by decide) _ rfl,hc 5 (by decide) _ rfl,hc 6 (by decide) _ rfl,hc 7 (by decide) _ rfl,⟨r.K,r.c,hc 8 (by decide) _ rfl,k2,k1⟩,hc 9 (by decide) _ rfl,hc 10 (by decide) _ rfl,k3,k4,k5⟩
theorem RKeys.keep {w w':World} {B B':Nat} {l:List RRaw} (h:RKeys w B l) (hB:B≤B') (hk : ∀ p:Addr,p.block<B→w'.cell? p=w.cell? p):RKeys w' B' l:=fun q hq=>⟨IntsAt.keep (h q hq).1 hB hk,(h q hq).2⟩
end Go.Proofs.YtoljpfapphoflaaGreatDoor.RwRo

set_option maxHeartbeats 4000000
set_option maxRecDepth 100000
namespace Go.Proofs.YtoljpfapphoflaaGreatDoor.OlA
open PtK
open Go.RowKit BxD PkKit PkA PkB PkC PkR OlD OlOm
open BxKit (RowAt IntsAt StrsAt MsgsAt)
section
variable {w0 wr : World} {v0 v : Value} {n : Nat} {l : List UInt8}
end
def fxs (zs:List Int):List UInt8:=zs.flatMap fun z=>fx (mx z)
theorem fxs_snoc {zs:List Int} {k:Nat} {x:Int} (h:zs[k]? = some x):fxs (zs.take (k+1))=fxs (zs.take k)++fx (mx x):=by
 obtain⟨hl,rfl⟩:=List.getElem?_eq_some_iff.1 h
 unfold fxs
 rw [List.take_succ_eq_append_getElem hl,List.flatMap_append]
 simp
theorem appendFixed_any {n m cp B base N:Nat} {w:World} {v:Value} {l:List UInt8} {A:Option Addr} {zs:List Int} (hO:Ow w base v n (by_ l)) (hz:IntsAt w B A m zs) (hB:B≤w.heap.size) (hne : ∀ ad,A=some ad→v.ownBlock≠some ad.block) (hn:n+4*m+64≤140737488355328) (hN:N=n+4*m) :
 Calls Tryz.prog 194 #[v,.slice A m cp] w fun e w'=>∃ v',e = .returned v'∧OM w v w' N v' (l++fxs zs):=by
 subst hN
 have hmax:=hz.max
 have H0:=Lib.hid (OM.start hO)
 have HZ:=Lib.hid hz
 have HNE:=Lib.hid hne
 clear hO hz hne
 go_enter Tryz.func194,Tryz.ntmps194
 go_wp2_with fail
 go_loopw [0,9] (fun s0 s9 wr=>∃ (v':Value) (k:Nat),s0=v'∧k≤m∧s9 = .int .i64 k∧Hid (OM w v wr (n+4*k) v' (l++fxs (zs.take k)))) (fun _ s9 _=>m-(intOf s9).toNat)
 case atStart=>exact⟨v,0,rfl,Nat.zero_le _,rfl,by have:=H0.out; simpa [fxs,Hid] using this⟩
 case round =>
  obtain⟨v',k,rfl,hk,rfl,HO⟩:=hrel
  obtain⟨A1,c1,rfl,hc1⟩:=Ow.slice HO.out.own
  by_cases hlt:k<m
  · obtain⟨ad,x,rfl,e1,q1⟩:=ints_kept HO.out HZ.out hB HNE.out hlt
    have KF:=Lib.hid (fixed_any (cp:=0) (nil_bytes wr wr.heap.size) (Nat.le_refl _) x (by decide))
    have HSN:=Lib.hid (fxs_snoc e1)
    clear e1
    go_wp2_with (first
     | (go_at_call 214; go_loud (
        refine KF.out.mono ?_
        rintro e w1 ⟨v1,rfl,O1⟩
        obtain⟨A2,c2,rfl,hc2⟩:=own_slice O1.own
        have O1:=Lib.hid O1
        have G1:=Lib.hid (HO.out.go O1.out.bel)
        clear q1))
     | (at_builtin; go_loud (
        refine wpList_ow rfl _ _ rfl rfl rfl G1.out.own O1.out.at_ (by show n+4*k+4≤_; omega) (Nat.zero_le _) (Nat.succ_pos _) ?_
        intro v3 w3 hown3 hg3 hat3
        have G3:=Lib.hid (G1.out.app (n:=n+4*k) (m:=n+4*(k+1)) (l':=l++fxs (zs.take (k+1))) (by rw [HSN.out,← List.append_assoc,by_append]; exact hown3) hg3 hat3)
        clear hown3 hg3 hat3)))
    go_roundw
    case rel=>exact⟨v3,k+1,rfl,by omega,by go_num,G3⟩
    case measure=>simp [intOf]; omega
  · obtain rfl:m=k:=by omega
    have hq:zs.take m=zs:=List.take_of_length_le (by rw [HZ.out.len]; omega)
    have ho:=HO.out
    rw [hq] at ho
    have HO2:=Lib.hid ho
    clear ho HO hq
    go_wp2_with fail
    go_ret
    exact⟨_,rfl,HO2.out⟩
end Go.Proofs.YtoljpfapphoflaaGreatDoor.OlA

set_option maxHeartbeats 4000000
set_option maxRecDepth 100000
namespace Go.Proofs.YtoljpfapphoflaaGreatDoor.OlB
open PtK
open Go.RowKit BxD BxKit BxR OlD
theorem mask_snoc {ks:List Int} {k:Nat} {x:Int} (h:ks[k]? = some x):maskN (ks.take (k+1))=if x<32 then maskN (ks.take k) ||| 2 ^ x.toNat else maskN (ks.take k):=by
 obtain⟨hl,rfl⟩:=List.getElem?_eq_some_iff.1 h
 unfold maskN
 rw [List.take_succ_eq_append_getElem hl,List.foldl_append]
 rfl
theorem or_bit {M j:Nat} (hM:M<4294967296) (hj:j<32):bits .or .i64 (M:Int) (wrap64 (2 ^ j))=((M ||| 2 ^ j:Nat):Int):=by
 have hp:2 ^ j<4294967296:=Nat.pow_lt_pow_right (a:=2) (by decide) hj
 have e:wrap64 (2 ^ j)=((2 ^ j:Nat):Int):=by
  rw [show (2:Int) ^ j=((2 ^ j:Nat):Int) by simp]
  generalize 2 ^ j=P at hp
  unfold wrap64; omega
 rw [e,(bits_nat .i64 62 (by decide) PkE.i64_small M (2 ^ j) (by omega) (by omega)).2]
theorem and_bit {M j:Nat} (hM:M<4294967296) (hj:j<32):(bits .and .i64 (M:Int) (wrap64 (2 ^ j)) != 0)=M.testBit j:=by
 have hp:2 ^ j<4294967296:=Nat.pow_lt_pow_right (a:=2) (by decide) hj
 have e:wrap64 (2 ^ j)=((2 ^ j:Nat):Int):=by
  rw [show (2:Int) ^ j=((2 ^ j:Nat):Int) by simp]
  generalize 2 ^ j=P at hp
  unfold wrap64; omega
 rw [e,(bits_nat .i64 62 (by decide) PkE.i64_small M (2 ^ j) (by omega) (by omega)).1]
 have hq:M &&& 2 ^ j=if M.testBit j then 2 ^ j else 0:=by
  refine Nat.eq_of_testBit_eq fun i=>?_
  rw [Nat.testBit_and,Nat.testBit_two_pow]
  by_cases e:j=i
  · subst e
    cases h:M.testBit j <;> simp
  · cases h:M.testBit j <;> simp [e]
 rw [hq]
 cases M.testBit j with
 | false=>simp
 | true =>
  have:0<2 ^ j:=Nat.two_pow_pos j
  simp only [if_true,bne_iff_ne]
  omega
theorem bitsOf_any {w:World} {B n cp:Nat} {A:Option Addr} {ks:List Int} (hz:IntsAt w B A n ks) (hp : ∀ k∈ks,0≤k) :
 Calls Tryz.prog 215 #[.slice A n cp] w fun e w'=>e = .returned (.int .i64 (maskN ks:Nat))∧w=w':=by
 have hmax:=hz.max
 have HZ:=Lib.hid hz
 have HP:=Lib.hid hp
 clear hz hp
 go_enter Tryz.func215,Tryz.ntmps215
 go_wp2_with fail
 go_loop [3,8] (fun s3 s8=>∃ (k M:Nat),k≤n∧s8 = .int .i64 k∧s3 = .int .i64 (M:Nat)∧Hid (M=maskN (ks.take k))) (fun _ s8=>n-(intOf s8).toNat)
 case atStart=>exact⟨0,0,Nat.zero_le _,rfl,rfl,rfl⟩
 case round =>
  obtain⟨k,M,hk,rfl,rfl,HM⟩:=hrel
  by_cases hlt:k<n
  · obtain⟨ad,x,rfl,hb,e1,q1⟩:=HZ.out.get hlt
    rw [Nat.mul_one] at q1
    unfold intC at q1
    have h0:=HP.out x (List.mem_of_getElem? e1)
    obtain⟨j,rfl⟩:=Int.eq_ofNat_of_zero_le h0
    have hs:=mask_snoc e1
    rw [Int.toNat_natCast,← HM.out] at hs
    have hM:M<4294967296:=by rw [HM.out]; exact mask_lt (fun k hk=>HP.out k (List.mem_of_mem_take hk))
    by_cases h32:j<32
    · rw [if_pos (by omega)] at hs
      have HS:=Lib.hid hs
      have hor:=or_bit hM h32
      clear hs e1 hb
      go_wp2_with fail
      go_round
      case rel=>exact⟨k+1,M ||| 2 ^ j,by omega,by go_num,rfl,HS.out.symm⟩
      case measure=>simp [intOf]; omega
    · rw [if_neg (by omega)] at hs
      have HS:=Lib.hid hs
      clear hs e1 hb
      go_wp2_with fail
      go_round
      case rel=>exact⟨k+1,M,by omega,by go_num,rfl,HS.out.symm⟩
      case measure=>simp [intOf]; omega
  · obtain rfl:n=k:=by omega
    have hq:M=maskN ks:=by rw [HM.out,List.take_of_length_le (by rw [HZ.out.len]; omega)]
    subst hq
    go_wp2_with fail
    go_ret
    exact⟨rfl,rfl⟩
theorem keys_take (N k:Nat) (hk:k<32):(((List.range (k+1)).filter fun k=>N.testBit k).map fun k:Nat=>(k:Int))=(((List.range k).filter fun k=>N.testBit k).map fun k:Nat=>(k:Int))++if N.testBit k then [(k:Int)] else []:=by
 rw [List.range_succ,List.filter_append,List.map_append]
 congr 1
 cases h:N.testBit k <;> simp [h]
def kN (N k:Nat):List Int:=((List.range k).filter fun k=>N.testBit k).map fun k:Nat=>(k:Int)
theorem kN_le (N k:Nat):(kN N k).length≤k:=by
 unfold kN
 rw [List.length_map]
 exact Nat.le_trans (List.length_filter_le _ _) (by simp)
theorem keysOf_any {w:World} {N:Nat} (hN:N<4294967296) :
 Calls Tryz.prog 226 #[.int .i64 (N:Nat)] w fun e w'=>∃ v,e = .returned v∧w'.ownsRow w.heap.size 3 1 v (keysN N).length ((keysN N).map (Value.int .i64))∧Below w.heap.size w w':=by
 go_enter Tryz.func226,Tryz.ntmps226
 go_wp2_with fail
 go_loopw [3,5] (fun s3 s5 wr=>∃ (v:Value) (k n:Nat),s3=v∧k≤32∧s5 = .int .i64 k∧Hid (wr.ownsRow w.heap.size 3 1 v n ((kN N k).map (Value.int .i64)))∧Hid (Below w.heap.size w wr)∧n≤k∧Hid (n=(kN N k).length)) (fun _ s5 _=>32-(intOf s5).toNat)
 case atStart=>exact⟨_,0,0,rfl,by omega,rfl,World.ownsRow_nil _ _ _ _,Below.refl _ _,Nat.le_refl _,rfl⟩
 case round =>
  obtain⟨v,k,n,rfl,hk,rfl,HO,HB,hn,HN⟩:=hrel
  obtain⟨A1,c1,rfl,hc1⟩:=own_slice HO.out
  by_cases hlt:k<32
  · have hb:=and_bit hN hlt
    have hkn:=keys_take N k hlt
    cases ht:N.testBit k with
    | true =>
     rw [ht] at hb hkn
     rw [if_pos rfl] at hkn
     have HK:=Lib.hid hkn
     have HSZ:=Lib.hid HB.out.size
     clear hkn ht
     go_wp2_with (at_builtin; go_loud (
      refine wpList_rows elI rfl _ _ rfl rfl rfl (HO.out.alloc _) (src_new wr #[.int .i64 (k:Nat)] 3 (m:=1) rfl rfl (by intro u hu; simp at hu; subst hu; rfl)) (by unfold maxLen; omega) (by omega) (by have:=HSZ.out; simp; omega) ?_
      intro v3 w3 hown3 hg3 _
      have HO3:=Lib.hid (show w3.ownsRow w.heap.size 3 1 v3 (n+1) ((kN N (k+1)).map (Value.int .i64)) by unfold kN; rw [HK.out,List.map_append]; exact hown3)
      have HB3:=Lib.hid ((HB.out.alloc HSZ.out _).grown hg3 (by have:=HSZ.out; simp; omega) (fun g e=>(HO.out.lt g e).1))
      have HN3:=Lib.hid (show n+1=(kN N (k+1)).length by have:=HN.out; unfold kN at this ⊢; rw [HK.out,List.length_append,← this]; rfl)
      clear hown3 hg3))
     go_roundw
     case rel=>exact⟨v3,k+1,n+1,rfl,by omega,by go_num,HO3,HB3,by omega,HN3⟩
     case measure=>simp [intOf]; omega
    | false =>
     rw [ht] at hb hkn
     rw [if_neg (by decide),List.append_nil] at hkn
     have HK:=Lib.hid hkn
     clear hkn ht
     go_wp2_with fail
     go_roundw
     case rel=>exact⟨_,k+1,n,rfl,by omega,by go_num,by unfold kN; rw [HK.out]; exact HO,HB,by omega,by unfold kN; rw [HK.out]; exact HN⟩
     case measure=>simp [intOf]; omega
  · obtain rfl:k=32:=by omega
    have hq:=HN.out
    subst hq
    go_wp2_with fail
    go_ret
    exact⟨_,rfl,HO.out,HB.out⟩
end Go.Proofs.YtoljpfapphoflaaGreatDoor.OlB

set_option maxRecDepth 512
namespace Go.Proofs.YtoljpfapphoflaaGreatDoor.ImO
open Go.RowKit BxD BxKit BxA BxR BxC RwD RwKit RwRo
theorem rc_one (l:List RRaw) : ∀ u∈rc l,u.oneCell'=true:=by
 intro u hu
 unfold rc at hu
 obtain⟨q,_,hq⟩:=List.mem_flatMap.1 hu
 simp only [cell11,List.mem_cons,List.not_mem_nil,or_false] at hq
 rcases hq with rfl | rfl | rfl | rfl | rfl | rfl | rfl | rfl | rfl | rfl | rfl <;> rfl
theorem eleven {p:Addr} {f:Nat} : p.add f=if f=0 then p else fld p f:=by
 unfold Addr.add fld
 split
 · rfl
 · rfl
theorem rows_raw {w:World} {B n:Nat} {A:Option Addr} {l:List Row} (h:RowsAt w B A n l) : ∃ rs:List RRaw,rs.map RRaw.r=l∧RKeys w B rs∧Src w A n 11 (rc rs):=by
 by_cases hn:n=0
 · subst hn
   have hl:l=[]:=List.eq_nil_of_length_eq_zero h.len
   subst hl
   exact⟨[],rfl,fun r hr=>by simp at hr,rfl,fun u hu=>by simp [rc] at hu,fun h=>absurd h (Nat.lt_irrefl 0)⟩
 obtain⟨ad,e,hlt,hc⟩:=h.2.2 (by omega)
 obtain⟨ys,h1,h2⟩:=choose_list (fun j (m:Row) (y:Option Addr × Nat)=>w.cell? (fld (ad.add (j*11)) 8)=some (.slice y.1 m.msg.keys.length y.2)∧m.msg.keys.length≤y.2∧IntsAt w B y.1 m.msg.keys.length m.msg.keys) l
  (fun j m hj=>by
   obtain⟨_,_,_,_,_,_,_,_,⟨K,c,h5,h6,h7⟩,_⟩:=hc j m hj
   exact⟨(K,c),h5,h6,h7⟩)
 let rs:=(l.zip ys).map fun p=>(⟨p.1,p.2.1,p.2.2⟩:RRaw)
 have hrl:rs.length=n:=by simp only [rs,List.length_map,List.length_zip,h1,Nat.min_self]; exact h.len
 have hr : ∀ (j:Nat) (r:RRaw),rs[j]? = some r→l[j]? = some r.r∧ys[j]? = some (r.K,r.c):=by
  intro j r hj
  simp only [rs,List.getElem?_map] at hj
  cases hz:(l.zip ys)[j]? with
  | none=>rw [hz] at hj; cases hj
  | some p =>
   rw [hz] at hj
   obtain rfl:=Option.some.inj hj
   rw [List.getElem?_zip_eq_some] at hz
   exact hz
 refine⟨rs, ?_, ?_, ?_⟩
 · simp only [rs,List.map_map]
   have:(RRaw.r ∘ fun p:Row × Option Addr × Nat=>(⟨p.1,p.2.1,p.2.2⟩:RRaw))=Prod.fst:=rfl
   rw [this,List.map_fst_zip (by omega)]
 · intro r hrm
   obtain⟨j,hj⟩:=List.mem_iff_getElem?.1 hrm
   obtain⟨a1,a2⟩:=hr j r hj
   obtain⟨y,b1,_,b3,b4⟩:=h2 j r.r a1
   rw [a2] at b1
   obtain rfl:=Option.some.inj b1
   obtain⟨_,_,_,_,_,_,_,_,_,_,_,c8,c9,c10⟩:=hc j r.r a1
   exact⟨b4,b3,c8,c9,c10⟩
 · refine⟨by rw [rc_length,hrl],rc_one rs,fun _=>⟨ad,e,fun j u hu=>?_⟩⟩
   have hjl:j<rs.length*11:=by rw [← rc_length]; exact (List.getElem?_eq_some_iff.1 hu).1
   have hi:j / 11<rs.length:=by omega
   have hg:rs[j / 11]? = some (rs[j / 11]'hi):=List.getElem?_eq_getElem hi
   obtain⟨a1,a2⟩:=hr _ _ hg
   obtain⟨y,b1,b2,b3,b4⟩:=h2 _ _ a1
   rw [a2] at b1
   obtain rfl:=Option.some.inj b1
   obtain⟨c0,c1,c2,c3,c4,c5,c6,c7,_,c9,c10,_⟩:=hc _ _ a1
   have hm:=rc_get rs (j / 11) (j % 11) _ hg (Nat.mod_lt _ (by decide))
   rw [show j / 11*11+j % 11=j by omega,hu] at hm
   rw [show ad.add j=(ad.add (j / 11*11)).add (j % 11) by rw [add_add]; congr 1; omega]
   have hf:j % 11<11:=Nat.mod_lt _ (by decide)
   rw [eleven]
   generalize j % 11=f at hm hf
   match f,hf with
   | 0,_=>rw [if_pos rfl,c0]; exact hm.symm
   | 1,_=>rw [if_neg (by decide),c1]; exact hm.symm
   | 2,_=>rw [if_neg (by decide),c2]; exact hm.symm
   | 3,_=>rw [if_neg (by decide),c3]; exact hm.symm
   | 4,_=>rw [if_neg (by decide),c4]; exact hm.symm
   | 5,_=>rw [if_neg (by decide),c5]; exact hm.symm
   | 6,_=>rw [if_neg (by decide),c6]; exact hm.symm
   | 7,_=>rw [if_neg (by decide),c7]; exact hm.symm
   | 8,_=>rw [if_neg (by decide),b2]; exact hm.symm
   | 9,_=>rw [if_neg (by decide),c9]; exact hm.symm
   | 10,_=>rw [if_neg (by decide),c10]; exact hm.symm
end Go.Proofs.YtoljpfapphoflaaGreatDoor.ImO
