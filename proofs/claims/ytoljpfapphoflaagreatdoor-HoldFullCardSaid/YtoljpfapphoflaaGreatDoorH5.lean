/-
  HlD + HlF
-/
import Derived.Test.YtoljpfapphoflaaGreatDoorH1
import Derived.Test.YtoljpfapphoflaaGreatDoorH4
import Derived.Test.YtoljpfapphoflaaGreatDoorK5
set_option linter.unusedVariables false
set_option linter.unusedSimpArgs false
set_option maxRecDepth 512
namespace Go.Proofs.YtoljpfapphoflaaGreatDoor.HlD
open Go.RowKit BxD BxOp RwD ImD HoD
def bF (x:Int):Box:=⟨⟨#[98,49]⟩,1,2,x,[],[⟨1,x,0,⟨#[101,49,45,98,49]⟩,0,[],⟨#[]⟩⟩]⟩
def rF (i:Nat):Row:=⟨6,1,(i:Int)+2,noM,⟨#[]⟩⟩
def rowsF (n:Nat):List Row:=(List.range n).map rF
theorem bF_may {x:Int} (h1:1≤x) (h2:x≤1000000):mbE (bF x)=0:=by
 refine (mb_iff _).2 ⟨head_of (show atB ⟨#[98,49]⟩=true by decide +kernel) (show (⟨#[98,49]⟩:ByteArray).size≤12 by decide) (show (1:Int)≤1∧(1:Int)≤1000000 by decide) ⟨h1,h2⟩ (show (1:Int)≤2∧(2:Int)≤1000000 by decide),Nat.zero_le _,(show 1≤60 by decide),(show wordsB []=true by decide), ?_,List.pairwise_singleton _ _⟩
 intro m hm
 obtain rfl:=List.mem_singleton.1 hm
 exact⟨mm_of (show (1:Int)≤1∧(1:Int)≤999999 by decide) ⟨h1,h2⟩ (show (0:Int)≤0∧(0:Int)≤1000000 by decide) (show atB ⟨#[101,49,45,98,49]⟩=true by decide +kernel) (show (0:Int)≤0∧(0:Int)≤31 by decide) (show keysB [] 0=true by decide) (show (0:Nat)≤300 by decide),(by decide:(1:Int)<2),Int.le_refl x⟩
theorem bF_step {a:Nat} (h:a≤900000):apE (bF ((a:Int)+1)) (rF a)=0∧apB (bF ((a:Int)+1)) (rF a)=bF (((a+1:Nat):Int)+1):=by
 have h0:=bF_may (x:=(a:Int)+1) (by omega) (by omega)
 have hf:findI (bF ((a:Int)+1)).msgs 1=0:=findI_hit (k:=0) (m:=⟨1,(a:Int)+1,0,⟨#[101,49,45,98,49]⟩,0,[],⟨#[]⟩⟩) (fun i x hi=>absurd hi (Nat.not_lt_zero _)) rfl rfl
 have hm:modB ((a:Int)+2)=true:=by unfold modB inB; simp; omega
 constructor
 · unfold apE
   rw [if_neg (by simp [h0]),if_neg (show ¬ (rF a).kind=1 from (by decide : ¬ (6:Int)=1)),if_neg (show ¬ (rF a).kind=4 from (by decide : ¬ (6:Int)=4)),if_neg (show ¬ (rF a).kind=7 from (by decide : ¬ (6:Int)=7)),
    if_pos (show (rF a).kind=2∨(rF a).kind=3∨(rF a).kind=5∨(rF a).kind=6 from .inr (.inr (.inr rfl))),if_neg (show ¬ findI (bF ((a:Int)+1)).msgs (rF a).uid<0 by show ¬ findI (bF ((a:Int)+1)).msgs 1<0; rw [hf]; decide),
    if_neg (show ¬ (rF a).kind=5 from (by decide : ¬ (6:Int)=5)),if_neg (show ¬ ((rF a).kind=2∧_) from fun h=>absurd h.1 (by decide : ¬ (6:Int)=2)),if_pos (show modB (rF a).mod=true from hm)]
 · unfold apB
   rw [if_neg (show ¬ (rF a).kind=1 from (by decide : ¬ (6:Int)=1)),if_neg (show ¬ (rF a).kind=4 from (by decide : ¬ (6:Int)=4)),if_neg (show ¬ (rF a).kind=7 from (by decide : ¬ (6:Int)=7)),if_neg (show ¬ (rF a).kind=5 from (by decide : ¬ (6:Int)=5)),
    if_neg (show ¬ (rF a).kind=3 from (by decide : ¬ (6:Int)=3)),if_neg (show ¬ (rF a).kind=2 from (by decide : ¬ (6:Int)=2))]
   have e1:max ((a:Int)+1) ((a:Int)+2)=((a+1:Nat):Int)+1:=by omega
   have e2:(a:Int)+2=((a+1:Nat):Int)+1:=by omega
   unfold bF rF upd
   simp only [List.map_cons,List.map_nil,if_true,e1]
   rw [e2]
theorem bF_all : ∀ (k a:Nat),a+k≤900000→allG (bF ((a:Int)+1)) ((List.range' a k).map rF)=(bF (((a+k:Nat):Int)+1),0)
 | 0,a,_=>rfl
 | k+1,a,h=>by
  obtain⟨h1,h2⟩:=bF_step (a:=a) (by omega)
  rw [List.range'_succ,List.map_cons,allG_cons,if_pos h1,h2,bF_all k (a+1) (by omega)]
  rw [show a+1+k=a+(k+1) by omega]
theorem rF_gr {i:Nat} (h:i≤900000):Gr (rF i):=.inr (.inr (.inl ⟨6,1,(i:Int)+2,.inr rfl,⟨by decide,by decide⟩,⟨by omega,by omega⟩,rfl⟩))
theorem rowsF_gr {n:Nat} (h:n≤1000) : ∀ r∈rowsF n,Gr r:=fun r hr=>by
 obtain⟨i,hi,rfl⟩:=List.mem_map.1 hr
 exact rF_gr (by have:=List.mem_range.1 hi; omega)
theorem rowsF_take {n:Nat} (h:100≤n):(rowsF n).take 100=(List.range' 0 100).map rF:=by
 unfold rowsF
 rw [← List.map_take,List.take_range,Nat.min_eq_left h,List.range_eq_range']
theorem rowsF_drop (n:Nat):(rowsF n).drop 100=(List.range' 100 (n-100)).map rF:=by
 unfold rowsF
 rw [← List.map_drop,List.range_eq_range',List.drop_range']
theorem rowsF_first {n:Nat} (h:100≤n):allG (bF 1) ((rowsF n).take 100)=(bF 101,0):=by rw [rowsF_take h]; exact bF_all 100 0 (by decide)
theorem rowsF_last {n:Nat} (h:100≤n) (h2:n≤1000):(allG (bF 101) ((rowsF n).drop 100)).2=0:=by
 rw [rowsF_drop n]
 exact congrArg Prod.snd (bF_all (n-100) 100 (by omega))
theorem mo_ok {b:Box} {l part:List Row} (hl : ∀ r∈l++part,Gr r) (h:(allG b part).2=0) (h2 : ¬ 200<l.length+part.length):moE b l part=0:=by
 unfold moE
 rw [if_neg (by simp [h]),if_neg h2,if_neg]
 rintro ⟨h3,h4⟩
 rw [(gr_all hl (by rw [List.length_append]; omega)).2.2] at h3
 cases hq:l++part with
 | nil=>have:=congrArg List.length hq; rw [List.length_append,List.length_nil] at this; omega
 | cons r t =>
  rw [hq,List.flatMap_cons,List.length_append] at h3
  have:=RdD.rob_ne r
  omega
theorem rowsF_len (n:Nat):(rowsF n).length=n:=by unfold rowsF; simp
theorem rowsF_mo {n:Nat} (h:100≤n) (h2:n≤1000):moE (bF 1) [] ((rowsF n).take 100)=0:=by
 have hl:((rowsF n).take 100).length≤100:=by rw [List.length_take]; omega
 exact mo_ok (fun r hr=>rowsF_gr h2 r (List.mem_of_mem_take (by simpa using hr))) (by rw [rowsF_first h]) (by simp only [List.length_nil]; omega)
theorem rowsF_mo2 {n:Nat} (h:100≤n) (h2:n≤1000):moE (bF 101) ((rowsF n).take 100) ((rowsF n).drop 100)=if 200<n then 4 else 0:=by
 have hl:((rowsF n).take 100).length+((rowsF n).drop 100).length=n:=by rw [← List.length_append,List.take_append_drop,rowsF_len]
 by_cases h3:200<n
 · rw [if_pos h3]
   unfold moE
   rw [if_neg (by simp [rowsF_last h h2]),if_pos (by omega)]
 · rw [if_neg h3]
   exact mo_ok (by rw [List.take_append_drop]; exact rowsF_gr h2) (rowsF_last h h2) (by omega)
theorem re_bF:re (ImL.fmI 3) (bF 1)=[]:=re_three (bF_may (by decide) (by decide))
theorem rowsF_snoc (j:Nat):rowsF (j+1)=rowsF j++[rF j]:=by unfold rowsF; rw [List.range_succ,List.map_append]; rfl
end Go.Proofs.YtoljpfapphoflaaGreatDoor.HlD

set_option maxHeartbeats 8000000
set_option maxRecDepth 100000
namespace Go.Proofs.YtoljpfapphoflaaGreatDoor.HlF
open Go.RowKit BxD BxKit BxR BxC RwD RwKit RwRo ImK ImD ImL HoD HoF HoA HoK HoU HoM HlD
open RkM (ptr)
open RkP (below_alloc)
open SfK (Fq)
open RpD (bytesR)
theorem n_of (x:Int) : ∃ n:Nat,150≤n∧n≤249∧wrap64 (150+wrap64 ((IntKind.u64.wrap x).tmod 100))=(n:Int):=by
 have h0:=wrap_u64_nonneg x
 generalize IntKind.u64.wrap x=y at h0
 have h1:0≤y % 100:=Int.emod_nonneg _ (by decide)
 have h2:y % 100<100:=Int.emod_lt_of_pos _ (by decide)
 rw [Int.tmod_eq_emod_of_nonneg h0]
 refine⟨(150+y % 100).toNat,by omega,by omega, ?_⟩
 unfold wrap64
 omega
theorem own_ty {w:World} {base n:Nat} {e:TypeId} {sz:Nat} {v:Value} {xs:List Value} (h:w.ownsRow base e sz v n xs) : ∀ g,v.ownBlock=some g→∃ cs fr,w.heap[g]? = some (.cells cs e fr):=by
 intro g hg
 rcases h.2 with⟨rfl,_⟩ | ⟨g',cap,cur,rfl,hb,hgg,_⟩
 · cases hg
 · obtain rfl:g'=g:=Option.some.inj hg
   exact⟨_,_,hgg⟩
theorem rs_fq {w w':World} {M T lo hi n c:Nat} {A:Option Addr} {rs:List RRaw} (h:RS w M A n c rs) (hf:Fq T T lo hi w w') (hT:T<M):RS w' M A n c rs:=by
 have kp : ∀ {e:TypeId} {sz n:Nat} {v:Value} {xs:List Value},e≠81→w.ownsRow M e sz v n xs→w'.ownsRow M e sz v n xs:=fun he hx=>own_block hx fun g e=>by
  obtain⟨cs,fr,hg⟩:=own_ty hx g e
  obtain⟨h1,h2⟩:=hx.lt g e
  refine hf.block g h2 (.inr ⟨by omega,fun cs' fr' e2=>?_⟩)
  rw [hg] at e2
  injection e2 with e2
  injection e2 with _ e2
  exact he e2
 exact⟨h.ln,kp (by decide) h.om,fun q hq=>kp (by decide) (h.ko q hq),h.sm⟩
theorem msgs_one (w:World):MsgsAt (w.alloc (.cells #[.int .i64 1,.int .i64 1,.int .i64 0,.string ⟨#[101,49,45,98,49]⟩,.int .i64 0,.slice none 0 0,.string ⟨#[]⟩] 61)) (w.heap.size+1) (some ⟨w.heap.size,0,none⟩) 1 (bF 1).msgs:=by
 refine⟨rfl,by decide,fun _=>⟨_,rfl,Nat.lt_succ_self _,fun j x hj=>?_⟩⟩
 match j,hj with
 | 0,hj =>
  have hx:(⟨1,1,0,⟨#[101,49,45,98,49]⟩,0,[],⟨#[]⟩⟩:Msg)=x:=by simpa [bF] using hj
  subst hx
  have c:=fun o=>cell_of_row _ w.heap.size o _ _ _ (heap_alloc_new w (.cells #[.int .i64 1,.int .i64 1,.int .i64 0,.string ⟨#[101,49,45,98,49]⟩,.int .i64 0,.slice none 0 0,.string ⟨#[]⟩] 61))
  refine⟨(c 0).trans rfl,(c 1).trans rfl,(c 2).trans rfl,(c 3).trans rfl,(c 4).trans rfl,⟨none,0,(c 5).trans rfl,Nat.le_refl _,RowAt.nil _ _ _ _ _⟩,(c 6).trans rfl,by decide,by decide⟩
 | j+1,hj=>simp [bF] at hj
theorem bs_pos (id:ByteArray) (y:List UInt8):0<(SfB.bsL (chMore id y)).length:=by
 have e:SfB.bsL (chMore id y)=SfB.chB ⟨fR id,false,y⟩++[]:=rfl
 rw [e,List.append_nil]
 unfold SfB.chB
 rw [if_neg (by simp),List.length_append,List.length_append,SfB.nums_one]
 exact Nat.lt_of_lt_of_le (Lib.uvarint_pos _) (by rw [Nat.add_assoc]; exact Nat.le_add_right _ _)
theorem add1100 (A:Option Addr):A.map (·.add 1100)=A.map (fun x=>{ block:=x.block,off:=x.off+1100 }):=by
 cases A with
 | none=>rfl
 | some x=>rfl
theorem slice_drop {A:Option Addr} {w:World} {B n c:Nat} {l:List Row} (h:RowsAt w B A n l) (hk:100≤n) (hc:n≤c) (hc2:c≠100):RowsAt w B (A.map (fun x=>{ block:=x.block,off:=x.off+1100 })) (n-100) (l.drop 100):=by
 have h2:=RowAt.cut h hk hc
 rw [if_neg hc2] at h2
 rw [← add1100]
 exact h2
theorem slice_take {A:Option Addr} {w:World} {B n:Nat} {l:List Row} (h:RowsAt w B A n l) {k:Nat} (hk:k≤n):RowsAt w B A k (l.take k):=RowAt.take h hk
theorem walk {x:Int} {w:World} (ht:BxO.Tab w):Calls Tryz.prog 6 #[.int .i64 x] w fun e w'=>e = .returned (.bool true)∧Below w.heap.size w w':=by
 have HAW:=Lib.hid (fun (wr:World) (hb:Below w.heap.size w wr)=>HoW.awake (ht.below hb (Nat.le_refl _)))
 obtain⟨n,hn1,hn2,hn⟩:=n_of x
 have HT:=Lib.hid ht
 clear ht
 go_enter Tryz.func6,Tryz.ntmps6
 go_upto_region 2 with fail
 rw [hn]
 clear hn
 go_upto_region 3 with fail
 have M1:=Lib.hid (msgs_one w)
 have hb0:=(Below.refl w.heap.size w).alloc (Nat.le_refl _) (.cells #[.int .i64 1,.int .i64 1,.int .i64 0,.string ⟨#[101,49,45,98,49]⟩,.int .i64 0,.slice none 0 0,.string ⟨#[]⟩] 61)
 have hz0:(w.alloc (.cells #[.int .i64 1,.int .i64 1,.int .i64 0,.string ⟨#[101,49,45,98,49]⟩,.int .i64 0,.slice none 0 0,.string ⟨#[]⟩] 61)).heap.size=w.heap.size+1:=by simp
 generalize (World.alloc w _)=wm at M1 hb0 hz0 ⊢
 have X1:=Lib.hid (heap_alloc_new wm (.cells #[.string ⟨#[98,49]⟩,.int .i64 1,.int .i64 2,.int .i64 1,.slice none 0 0,.slice (some ⟨w.heap.size,0,none⟩) 1 1] 25))
 have B1:=Lib.hid (hb0.trans ((below_alloc wm (.cells #[.string ⟨#[98,49]⟩,.int .i64 1,.int .i64 2,.int .i64 1,.slice none 0 0,.slice (some ⟨w.heap.size,0,none⟩) 1 1] 25)).mono (by omega)))
 have M2:=Lib.hid (MsgsAt.below M1.out (below_alloc wm (.cells #[.string ⟨#[98,49]⟩,.int .i64 1,.int .i64 2,.int .i64 1,.slice none 0 0,.slice (some ⟨w.heap.size,0,none⟩) 1 1] 25)) (by omega))
 have hz1:(wm.alloc (.cells #[.string ⟨#[98,49]⟩,.int .i64 1,.int .i64 2,.int .i64 1,.slice none 0 0,.slice (some ⟨w.heap.size,0,none⟩) 1 1] 25)).heap.size=w.heap.size+2:=by simp; omega
 rw [hz0] at X1
 clear M1 hb0
 generalize (World.alloc wm _)=w1 at X1 B1 M2 hz1 ⊢
 clear hz0
 obtain⟨c0,c1,c2,c3,c4,c5,_⟩:=RwKit.six_at X1.out
 have KF:=Lib.hid (show Calls Tryz.prog 11 #[.int .i64 3,.agg #[.string ⟨#[98,49]⟩,.int .i64 1,.int .i64 2,.int .i64 1,.slice none 0 0,.slice (some ⟨w.heap.size,0,none⟩) 1 1]] w1 (FullOut 3 (bF 1) w1) from
  full_ok (k:=3) (.inr (.inr rfl)) (b:=bF 1) (HT.out.below B1.out (Nat.le_refl _)) (RowAt.nil strC 1 w1 w1.heap.size none) (MsgsAt.more M2.out (by omega)) (Nat.le_refl _) (Nat.le_refl _) (Nat.le_refl _) (bF_may (by decide) (by decide)))
 unfold FullOut ptr at KF
 have kp:=kept_put (D:=[]) (k:=3) (b:=bF 1) List.Pairwise.nil (.inr (.inr rfl)) (bF_may (by decide) (by decide))
 have fp:=few_put (D:=[]) (id:=(bF 1).id) (ids:=[⟨#[98,49]⟩]) (x:=rawI 3 (bF 1)) (y:=bytesR (re (fmI 3) (bF 1))) List.Pairwise.nil (few_nil _) (List.mem_singleton.2 rfl) (show (2:Nat)≤12 by decide) (raw_51 (bF_may (by decide) (by decide))) (by rw [re_bF]; exact Nat.zero_le _)
 obtain⟨D0,hD0⟩ : ∃ D0,D0=SfT.dall [] (chPut (bF 1).id (rawI 3 (bF 1)) (bytesR (re (fmI 3) (bF 1)))):=⟨_,rfl⟩
 rw [← hD0] at KF kp fp
 rw [re_bF] at kp
 have K0:=Lib.hid (show Kept D0 ⟨#[98,49]⟩ 3 (bF 1) [] (bF 1) from kp)
 have F0:=Lib.hid fp
 clear kp fp hD0 M2
 go_upto_region 4 with (go_at_call 11; go_loud (
  refine KF.out.mono ?_
  rintro e w2 ⟨T,S,s,rfl,hT,h1,h2⟩
  have R2:=Lib.hid h1
  have B2:=Lib.hid (B1.out.trans (h2.mono B1.out.size))
  have hTw:w.heap.size≤T:=Nat.le_trans B1.out.size hT
  clear h1 h2 hT c0 c1 c2 c3 c4 c5))
 clear KF B1 X1 hz1
 obtain⟨M,hM⟩ : ∃ M,M=w2.heap.size:=⟨_,rfl⟩
 have HM:=Lib.hid hM
 have hTM:T<M:=by rw [hM]; exact R2.out.lt
 clear hM
 go_upto_region 7 with fail
 go_wp2_with fail
 go_loopw [6,28] (fun s6 s28 wr=>∃ (A:Option Addr) (c j:Nat) (rs:List RRaw),s6 = .slice A j c∧s28 = .int .i64 j∧j≤n∧Hid (RS wr M A j c rs)∧Hid (rs.map RRaw.r=rowsF j)∧Hid (Below M w2 wr)) (fun _ s28 _=>n-(intOf s28).toNat)
 case atStart=>exact⟨none,0,0,[],rfl,rfl,Nat.zero_le _,RS.nil _ _,rfl,Below.refl _ _⟩
 case round =>
  obtain⟨A,c,j,rs,rfl,rfl,hj,HR,HJ,HB⟩:=hrel
  by_cases hlt:j<n
  · have hji:(j:Int)<(n:Int):=by omega
    have O2:=Lib.hid (HR.out.om.alloc (.cells #[.int .i64 6,.int .i64 1,.int .i64 ((j:Int)+2),.int .i64 0,.int .i64 0,.int .i64 0,.string ⟨#[]⟩,.int .i64 0,.slice none 0 0,.string ⟨#[]⟩,.string ⟨#[]⟩] 63))
    have S2:=Lib.hid (src_new wr #[.int .i64 6,.int .i64 1,.int .i64 ((j:Int)+2),.int .i64 0,.int .i64 0,.int .i64 0,.string ⟨#[]⟩,.int .i64 0,.slice none 0 0,.string ⟨#[]⟩,.string ⟨#[]⟩] 63 (b:=wr.heap.size) (m:=1) (sz:=11) rfl rfl (ImM.ones11 _ _ _ _ _ _ _ _ _ _ _ _ _))
    have hsw:M≤wr.heap.size:=by have:=HB.out.size; rw [HM.out]; exact this
    have Z2:=Lib.hid (show M≤(wr.alloc (.cells #[.int .i64 6,.int .i64 1,.int .i64 ((j:Int)+2),.int .i64 0,.int .i64 0,.int .i64 0,.string ⟨#[]⟩,.int .i64 0,.slice none 0 0,.string ⟨#[]⟩,.string ⟨#[]⟩] 63)).heap.size by simp; omega)
    have L2:=Lib.hid (HB.out.alloc hsw (.cells #[.int .i64 6,.int .i64 1,.int .i64 ((j:Int)+2),.int .i64 0,.int .i64 0,.int .i64 0,.string ⟨#[]⟩,.int .i64 0,.slice none 0 0,.string ⟨#[]⟩,.string ⟨#[]⟩] 63))
    go_wp2_with (at_builtin; go_loud (
     refine wpList_rows elR rfl _ _ rfl rfl rfl O2.out S2.out (by unfold maxLen; omega) (by omega) Z2.out ?_
     intro v3 w3 hown3 hg3 _
     obtain⟨A3,k3,rfl,hk3⟩:=own_slice hown3
     have R3:=Lib.hid ((HR.out.alloc (.cells #[.int .i64 6,.int .i64 1,.int .i64 ((j:Int)+2),.int .i64 0,.int .i64 0,.int .i64 0,.string ⟨#[]⟩,.int .i64 0,.slice none 0 0,.string ⟨#[]⟩,.string ⟨#[]⟩] 63)).app (rs':=[⟨rF j,none,0⟩]) (fun q hq=>by obtain rfl:=List.mem_singleton.1 hq; exact World.ownsRow_nil _ _ _ _) (fun q hq=>by obtain rfl:=List.mem_singleton.1 hq; exact⟨Nat.zero_le _,Nat.zero_le _,Nat.zero_le _,Nat.zero_le _⟩) (m:=1) rfl (by
      have e:rc (rs++[(⟨rF j,none,0⟩:RRaw)])=rc rs ++ #[.int .i64 6,.int .i64 1,.int .i64 ((j:Int)+2),.int .i64 0,.int .i64 0,.int .i64 0,.string ⟨#[]⟩,.int .i64 0,.slice none 0 0,.string ⟨#[]⟩,.string ⟨#[]⟩].toList:=by
       rw [rc_append]
       rfl
      rw [e]
      exact hown3) hg3)
     have B3:=Lib.hid (L2.out.trans (RS.bel (HR.out.alloc (.cells #[.int .i64 6,.int .i64 1,.int .i64 ((j:Int)+2),.int .i64 0,.int .i64 0,.int .i64 0,.string ⟨#[]⟩,.int .i64 0,.slice none 0 0,.string ⟨#[]⟩,.string ⟨#[]⟩] 63)) hg3 Z2.out))
     clear hown3 hg3))
    go_roundw
    case rel=>exact⟨A3,k3,j+1,rs++[⟨rF j,none,0⟩],rfl,by go_num,by omega,R3,by show (rs++[(⟨rF j,none,0⟩:RRaw)]).map RRaw.r=_; rw [List.map_append,HJ.out,rowsF_snoc]; rfl,B3⟩
    case measure=>simp [intOf]; omega
  · obtain rfl:j=n:=by omega
    have hnc:=HR.out.le
    have h100:(100:Int)≤(j:Int):=by omega
    have R3:=Lib.hid (R2.out.go (by have h:=HB.out; rw [HM.out] at h; exact h))
    have B3:=Lib.hid (B2.out.trans (HB.out.mono (by have:=B2.out.size; rw [HM.out]; exact this)))
    clear R2 B2 hlt
    have V3:=Lib.hid (show RowsAt wr wr.heap.size A j (rowsF j) by have h:=HR.out.rows (by omega) (Nat.le_refl _); rw [HJ.out] at h; exact h)
    have hE1:=rowsF_mo (n:=j) (by omega) (by omega)
    have hgr:=rowsF_gr (n:=j) (by omega)
    have hln:((rowsF j).take 100).length≤100:=by rw [List.length_take]; omega
    have hgt : ∀ r∈(rowsF j).take 100,Gr r:=fun r hr=>hgr r (List.mem_of_mem_take hr)
    have KM:=more_any (rcp:=c) R3.out.sx (by omega) (HT.out.below B3.out (Nat.le_refl _)) R3.out.cl R3.out.fk K0.out (slice_take V3.out (k:=100) (by omega)) (Nat.le_refl _) (by omega) (by omega) (HoP.gr_small hgt)
    have eL:moL ⟨#[98,49]⟩ (bF 1) [] ((rowsF j).take 100)=chMore ⟨#[98,49]⟩ (bytesR ((rowsF j).take 100)):=by unfold moL; rw [if_pos hE1]; rfl
    rw [eL,hE1] at KM
    have hy:=gr_len hgt (by omega)
    have K1:=Lib.hid (show Kept (SfT.dall D0 (chMore ⟨#[98,49]⟩ (bytesR ((rowsF j).take 100)))) ⟨#[98,49]⟩ 3 (bF 1) ((rowsF j).take 100) (bF 101) by
     have h:=kept_more R3.out.fk.srt K0.out hE1
     rw [rowsF_first (by omega)] at h
     exact h)
    have F1:=Lib.hid (few_more (id:=⟨#[98,49]⟩) (y:=bytesR ((rowsF j).take 100)) R3.out.fk.srt F0.out (List.mem_singleton.2 rfl) (show (2:Nat)≤12 by decide) hy)
    have HF1:=Lib.hid (fit_more (id:=⟨#[98,49]⟩) (y:=bytesR ((rowsF j).take 100)) R3.out.cl R3.out.fk.srt F0.out (by simp) (by simp) (show (2:Nat)≤12 by decide) hy)
    have HZ1:=Lib.hid (szC1 (id:=⟨#[98,49]⟩) (show (2:Nat)≤12 by decide) hy)
    obtain⟨L1,hL1⟩ : ∃ L1,L1=chMore ⟨#[98,49]⟩ (bytesR ((rowsF j).take 100)):=⟨_,rfl⟩
    have HL1:=Lib.hid (show L1.length=1 by rw [hL1]; rfl)
    rw [← hL1] at KM K1 F1 HF1 HZ1
    have KM:=Lib.hid KM
    unfold ChOutE ptr at KM
    clear hE1 hgr hln hgt eL hy hL1 F0 K0
    go_upto_region 13 with (go_at_call 14; go_loud (
     refine KM.out.mono ?_
     rintro e w4 ⟨A4,n4,c4,rfl,hch,hb⟩
     have L4:=Lib.hid hch
     have B4:=Lib.hid hb
     clear hch hb))
    have hn4:n4=1:=by rw [← L4.out.1]; exact HL1.out
    subst hn4
    clear KM
    have KC:=Lib.hid (commit_rs (cp:=c4) R3.out B4.out L4.out (by omega) (by omega) HZ1.out HF1.out)
    obtain⟨s1,hs1⟩ : ∃ s1,s1=SfO.comS s L1:=⟨_,rfl⟩
    obtain⟨D1,hD1⟩ : ∃ D1,D1=SfT.dall D0 L1:=⟨_,rfl⟩
    rw [← hs1,← hD1] at KC
    rw [← hD1] at K1 F1
    unfold ptr at KC
    clear hs1 hD1
    go_upto_region 15 with (go_at_call 15; go_loud (
     refine KC.out.mono ?_
     rintro e w5 ⟨rfl,h1,h2⟩
     have R5:=Lib.hid h1
     have V5:=Lib.hid (show RowsAt w5 w5.heap.size A j (rowsF j) by
      have h:=(rs_fq (HR.out.go B4.out) h2 hTM).rows (by omega) (Nat.le_refl _)
      rw [HJ.out] at h
      exact h)
     have B5:=Lib.hid ((B3.out.trans (B4.out.mono B3.out.size)).trans ((h2.to (by have:=R3.out.lt; have:=B4.out.size; omega)).mono hTw))
     clear h1 h2))
    clear KC R3 V3 HR B4 L4 HZ1 HF1
    have hc100 : ¬ (c:Int)=100:=by omega
    have hgr:=rowsF_gr (n:=j) (by omega)
    have KM:=more_any (rcp:=c-100) R5.out.sx (by omega) (HT.out.below B5.out (Nat.le_refl _)) R5.out.cl R5.out.fk K1.out (slice_drop V5.out (c:=c) (by omega) hnc (by omega)) (Nat.le_refl _) (by omega) (by omega) (HoP.gr_small fun r hr=>hgr r (List.mem_of_mem_drop hr))
    have hmo:=rowsF_mo2 (n:=j) (by omega) (by omega)
    obtain⟨E,hE⟩ : ∃ E,E=moE (bF 101) ((rowsF j).take 100) ((rowsF j).drop 100):=⟨_,rfl⟩
    obtain⟨L2,hL2⟩ : ∃ L2,L2=moL ⟨#[98,49]⟩ (bF 101) ((rowsF j).take 100) ((rowsF j).drop 100):=⟨_,rfl⟩
    rw [← hE,← hL2] at KM
    rw [← hE] at hmo
    have HE:=Lib.hid hmo
    have HL2:=Lib.hid (show L2.length=if 200<j then 0 else 1 by
     rw [hL2]
     unfold moL
     rw [← hE,hmo]
     by_cases h:200<j
     · rw [if_pos h,if_pos h]; rfl
     · rw [if_neg h,if_neg h]; rfl)
    have HZ2:=Lib.hid (show SfE.szC L2 by
     rw [hL2]
     unfold moL
     split
     · rename_i h0
       obtain⟨g1,g2,_⟩:=mo_gr K1.out.gr h0
       exact szC1 (show (2:Nat)≤12 by decide) (gr_len g1 g2)
     · intro c hc; cases hc)
    have HP2:=Lib.hid (show ¬ 200<j→0<(SfB.bsL L2).length by
     intro h
     rw [hL2]
     unfold moL
     rw [← hE,hmo,if_neg h,if_pos rfl]
     exact bs_pos _ _)
    have KM:=Lib.hid KM
    unfold ChOutE ptr at KM
    clear hgr hmo hE hL2
    go_upto_region 16 with (go_at_call 14; go_loud (
     refine KM.out.mono ?_
     rintro e w6 ⟨A6,n6,c6,rfl,hch,hb⟩
     have L6:=Lib.hid hch
     have W6:=Lib.hid hb.size
     have R6:=Lib.hid (R5.out.go hb)
     have B6:=Lib.hid (B5.out.trans (hb.mono B5.out.size))
     clear hch hb))
    have HN6:=Lib.hid (show n6=if 200<j then 0 else 1 by rw [← HL2.out]; exact L6.out.1.symm)
    clear KM R5 V5 B5
    have KL:=Lib.hid (HoL.load_ok R6.out.sx (by omega) (HT.out.below B6.out (Nat.le_refl _)) R6.out.cl R6.out.fk K1.out)
    unfold KeptOut ptr at KL
    go_upto_region 17 with (go_at_call 16; go_loud (
     refine KL.out.mono ?_
     rintro e w7 ⟨WA,wn,wc,MA,mn,mc,A7,n7,c7,rfl,_,_,_,_,_,hr,hb⟩
     have hn7:n7=100:=by rw [← hr.len,List.length_take,rowsF_len]; omega
     have B7:=Lib.hid (B6.out.trans (hb.mono B6.out.size))
     have L7:=Lib.hid (show SfC.ChsP w7 0 w5.heap.size w6.heap.size A6 n6 L2 from L6.out.keep (SfC.Kb.below hb (Nat.zero_le _) (Nat.le_refl _)))
     have W7:=Lib.hid hb.size
     clear hr hb))
    subst hn7
    have hN:=heap_alloc_new w7 (.cells #[.string (bF 101).id,.int .i64 (bF 101).valid,.int .i64 (bF 101).next,.int .i64 (bF 101).high,.slice WA wn wc,.slice MA mn mc,.int .i64 3,.slice A7 100 c7] 48)
    have hba:=below_alloc w7 (.cells #[.string (bF 101).id,.int .i64 (bF 101).valid,.int .i64 (bF 101).next,.int .i64 (bF 101).high,.slice WA wn wc,.slice MA mn mc,.int .i64 3,.slice A7 100 c7] 48)
    have B8:=Lib.hid (B7.out.trans (hba.mono B7.out.size))
    have L8:=Lib.hid (L7.out.keep (SfC.Kb.below hba (Nat.zero_le _) W7.out))
    have W8:=Lib.hid (Nat.le_trans W7.out hba.size)
    obtain⟨X,hX⟩ : ∃ X,X=w7.heap.size:=⟨_,rfl⟩
    rw [← hX] at hN ⊢
    clear hX hba KL B7 L7 W7 R6 B6 L6 W6
    generalize (World.alloc w7 _)=w8 at hN B8 L8 W8 ⊢
    have cX:=fun o=>cell_of_row w8 X o _ _ _ hN
    have q3:=(cX 3).trans (show _=some (Value.int .i64 101) from rfl)
    have q7:=(cX 7).trans (show _=some (Value.slice A7 100 c7) from rfl)
    clear cX hN
    by_cases h2:200<j
    · have h2i:(200:Int)<(j:Int):=by omega
      have hE4:E=4:=by rw [HE.out,if_pos h2]
      have hn6:n6=0:=by rw [HN6.out,if_pos h2]
      subst hE4
      subst hn6
      clear h2
      go_wp2_with (go_at_call 10; go_loud (refine (HAW.out _ B8.out).mono ?_; rintro e w9 ⟨rfl,hb⟩; have B9:=Lib.hid (B8.out.trans (hb.mono B8.out.size)); clear hb))
      go_ret
      exact⟨rfl,B9.out⟩
    · have h2i : ¬ (200:Int)<(j:Int):=by omega
      have hE0:E=0:=by rw [HE.out,if_neg h2]
      have hn6:n6=1:=by rw [HN6.out,if_neg h2]
      have hp:=HP2.out h2
      subst hE0
      subst hn6
      obtain⟨m,hm⟩ : ∃ m,m=(SfB.bsL L2).length:=⟨_,rfl⟩
      have KB:=Lib.hid (SfE.bytes_any (cp:=c6) L8.out (Nat.zero_le _) W8.out (by omega) HZ2.out)
      unfold SfE.BsPost at KB
      rw [← hm] at KB hp
      have hpi:(0:Int)<(m:Int):=by omega
      clear h2 hm
      go_wp2_with (first
       | (go_at_call 22; go_loud (refine KB.out.mono ?_; rintro e w9 ⟨A9,c9,rfl,_,_,hb⟩; have B9:=Lib.hid (B8.out.trans (hb.mono B8.out.size)); clear hb))
       | (go_at_call 10; go_loud (refine (HAW.out _ B9.out).mono ?_; rintro e w10 ⟨rfl,hb⟩; have B10:=Lib.hid (B9.out.trans (hb.mono B9.out.size)); clear hb)))
      go_ret
      exact⟨rfl,B10.out⟩
end Go.Proofs.YtoljpfapphoflaaGreatDoor.HlF
