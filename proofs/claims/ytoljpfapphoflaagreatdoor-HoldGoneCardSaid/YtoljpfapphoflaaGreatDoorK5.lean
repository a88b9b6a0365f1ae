/-
  ImC + ImM
-/
import Derived.Test.YtoljpfapphoflaaGreatDoorK4
import Derived.Test.YtoljpfapphoflaaGreatDoorJ4
import Derived.Test.YtoljpfapphoflaaGreatDoorZ9
import Derived.Deep.RegionHeld3
import Derived.Deep.DeepCutAuto
set_option linter.unusedVariables false
set_option linter.unusedSimpArgs false
set_option maxHeartbeats 2000000
set_option maxRecDepth 100000
namespace Go.Proofs.YtoljpfapphoflaaGreatDoor.ImC
open Go.RowKit BxD BxKit BxA BxR BxC OlD RwD RwKit RwW1 ImD ImK
theorem above_any {w:World} {P:Nat} {wd k:Int} (hc:w.cell? ⟨P,3,none⟩ = some (.int .i64 wd)) :
 Calls Tryz.prog 166 #[.int .i64 k,.pointer (some ⟨P,0,none⟩)] w fun e w'=>e = .returned (.bool (decide (wd<=k)))/\w=w':=by
 by_cases h:wd<=k
 · have hd:decide (wd<=k)=true:=decide_eq_true h
   rw [hd];go_enter Tryz.func166,Tryz.ntmps166;go_wp2_with fail
   go_ret;exact⟨rfl,rfl⟩
 · have hd:decide (wd<=k)=false:=decide_eq_false h
   rw [hd];go_enter Tryz.func166,Tryz.ntmps166;go_wp2_with fail
   go_ret;exact⟨rfl,rfl⟩
def anyP (wd:Int) (ks:List Int):Bool:=ks.any fun k=>decide (wd<=k)
def IxPost (wd:Int) (ks:List Int) (w:World) (e:Ending) (w':World):Prop:=∃ i:Int,e = .returned (.int .i64 i)/\decide (0<=i)=anyP wd ks/\w=w'
theorem any_hit {wd:Int} {ks:List Int} {k:Nat} {x:Int} (hx:ks[k]? = some x) (h:wd<=x):anyP wd ks=true:=by
 unfold anyP;rw [List.any_eq_true];exact⟨x,List.mem_of_getElem? hx,decide_eq_true h⟩
theorem any_next {wd:Int} {ks:List Int} {k:Nat} {x:Int} (hx:ks[k]? = some x) (h : ¬ wd<=x) (ha:anyP wd (ks.take k)=false):anyP wd (ks.take (k+1))=false:=by
 obtain⟨hl,rfl⟩:=List.getElem?_eq_some_iff.1 hx;unfold anyP at ha ⊢;rw [List.take_succ_eq_append_getElem hl,List.any_append,ha];simp [h]
theorem index_any {w:World} {B P kn kc:Nat} {K:Option Addr} {wd:Int} {ks:List Int} (hz:IntsAt w B K kn ks) (hc:w.cell? ⟨P,3,none⟩ = some (.int .i64 wd)) :
 Calls Tryz.prog 200 #[.slice K kn kc,.func (.func 166) #[] #[.pointer (some ⟨P,0,none⟩)]] w (IxPost wd ks w):=by
 have HX:=H_ hz;have hn:=hz.max;have HC:=H_ (fun k:Int=>above_any (k:=k) hc);clear hz hc;go_enter Tryz.func200,Tryz.ntmps200;go_wp2_with fail
 go_loop [8] (fun s8=>∃ k:Nat,k<=kn/\s8 = .int .i64 k/\Hid (anyP wd (ks.take k)=false)) (fun s8=>kn-(intOf s8).toNat)
 case atStart=>exact⟨0,Nat.zero_le _,rfl,rfl⟩
 case round =>
  obtain⟨k,hk,rfl,HT⟩:=hrel;by_cases hlt:k<kn
  · obtain⟨ad1,x1,rfl,e1,hc1⟩:=IntsAt.at_ HX.out (Below.refl B w) lr_ hlt
    have g1:(0:Int)<=(k:Int):=by omega
    have g2:(k:Int)<(kn:Int):=by omega
    have C:=HC.out x1;by_cases hq:wd<=x1
    · have HF:=H_ (any_hit e1 hq)
      rw [decide_eq_true hq] at C;have K1:=H_ C;clear e1 C hq;go_wp2_with (go_at_call 166; go_loud (refine K1.out.mono ?_; rintro e w1 ⟨rfl,rfl⟩))
      go_ret;exact⟨(k:Int),rfl,by rw [HF.out]; exact decide_eq_true (by omega),rfl⟩
    · have HT2:=H_ (any_next e1 hq HT.out)
      rw [decide_eq_false hq] at C;have K1:=H_ C;clear hq e1 C;go_wp2_with (go_at_call 166; go_loud (refine K1.out.mono ?_; rintro e w1 ⟨rfl,rfl⟩))
      go_round
      case rel=>exact⟨k+1,by omega,by go_num,HT2⟩
      case measure=>simp [intOf]; omega
  · obtain rfl:k=kn:=by omega
    have HF:=H_ (show anyP wd ks=false by have h:=HT.out; rw [take_len HX.out.len] at h; exact h);go_wp2_with fail
    go_ret;exact⟨-1,rfl,by rw [HF.out]; rfl,rfl⟩
theorem contains_any {w:World} {B P kn kc:Nat} {K:Option Addr} {wd:Int} {ks:List Int} (hz:IntsAt w B K kn ks) (hc:w.cell? ⟨P,3,none⟩ = some (.int .i64 wd)) :
 Calls Tryz.prog 165 #[.slice K kn kc,.func (.func 166) #[] #[.pointer (some ⟨P,0,none⟩)]] w fun e w'=>e = .returned (.bool (anyP wd ks))/\w=w':=by
 have KI:=H_ (index_any (kc:=kc) hz hc);clear hz hc;go_enter Tryz.func165,Tryz.ntmps165;go_wp2_with (go_at_call 200; go_loud (refine KI.out.mono ?_; rintro e w' ⟨i,rfl,hi,rfl⟩))
 go_ret;exact⟨by rw [<- hi]; rfl,rfl⟩
theorem clone_any {K:Option Addr} {kn kc B:Nat} {ks:List Int} {w:World} (hk:IntsAt w B K kn ks) (hB:B<=w.heap.size) (h6:kn<=1000000):Calls Tryz.prog 167 #[.slice K kn kc] w (ClPost ks w):=by
 have hl:=hk.len;subst hl;have hbl:=(Below.refl w.heap.size w).alloc lr_ (.cells #[] 3);have HS:=H_ (ints_src (IntsAt.below hk hbl hB));have HBL:=H_ hbl;have HOL:=H_ (World.ownsRow_lit (base:=w.heap.size) (e:=3) (size:=1) w #[] 0 lr_ (by unfold maxLen; omega) rfl);have HK:=H_ hk;clear hk hbl;cases K with
 | none =>
  have h0:ks.length=0:=by
   by_cases h:0<ks.length
   · obtain⟨ad,e,_⟩:=HK.out.2.2 h
     cases e
   · omega
  have hks:ks=[]:=List.eq_nil_of_length_eq_zero h0;subst hks;clear h0 HK HS HBL HOL;have hq : ∀ wr:World,(binOp .eql 59 (.slice none 0 kc) (.slice none 0 0)).run Tryz.prog wr = .ok (.bool true) wr:=fun _=>by kernel_rfl
  show Calls Tryz.prog _ #[.slice none 0 kc] w _;go_enter Tryz.func167,Tryz.ntmps167;go_wp2_with fail
  go_ret;exact⟨none,0,rfl,World.ownsRow_nil _ _ _ _,Below.refl _ _⟩
 | some ad =>
  have hq : ∀ wr:World,(binOp .eql 59 (.slice (some ad) ks.length kc) (.slice none 0 0)).run Tryz.prog wr = .ok (.bool false) wr:=fun _=>by kernel_rfl
  go_enter Tryz.func167,Tryz.ntmps167;go_wp2_with (at_builtin; go_loud (
   refine wpList_rows elI rfl _ _ rfl rfl rfl HOL.out HS.out (by unfold maxLen; omega) (by omega) (by simp) ?_;intro v1 w1 hown hg _;obtain⟨A1,k1,rfl,hk1⟩:=own_slice hown;rw [Nat.zero_add] at hown;have HO:=H_ hown;have HG:=H_ (HBL.out.grown hg HBL.out.size (fun k e=>by have:w.heap.size=k:=Option.some.inj e; omega));clear hown hg))
  go_ret;exact⟨A1,k1,rfl,by simpa using HO.out,HG.out⟩
end Go.Proofs.YtoljpfapphoflaaGreatDoor.ImC

set_option maxHeartbeats 8000000
set_option maxRecDepth 100000
namespace Go.Proofs.YtoljpfapphoflaaGreatDoor.ImM
open Go.RowKit BxD BxKit BxR BxC OlD RwD RwKit RwRo RwW1 ImD ImK ImC
structure RM (w wr:World) (F M:Array Value) (A:Option Addr) (n c:Nat) (rs:List RRaw):Prop where
 bel:Below w.heap.size w wr
 fb:wr.heap[w.heap.size]? = some (.cells F 126 (0,0))
 mb:wr.heap[w.heap.size+1]? = some (.cells M 61 (0,0))
 rs:RS wr (w.heap.size+2) A n c rs
section
variable {w wr w2 w3 : World} {F M : Array Value} {A A' : Option Addr} {n c c' : Nat} {rs : List RRaw}
theorem RM.size (h:RM w wr F M A n c rs):w.heap.size+2<=wr.heap.size:=(gs_ h.mb).1
theorem RM.go (h:RM w wr F M A n c rs) (hb:Below wr.heap.size wr w2):RM w w2 F M A n c rs:=by
 have hs:=h.size;exact⟨h.bel.trans (hb.mono h.bel.size),(hb.block _ (by omega)).trans h.fb,(hb.block _ (by omega)).trans h.mb,h.rs.go hb⟩
theorem RM.alloc (h:RM w wr F M A n c rs) (o:Obj):RM w (wr.alloc o) F M A n c rs:=h.go ((Below.refl _ _).alloc lr_ o)
theorem RM.drew (h:RM w wr F M A n c rs):RM w wr.drew F M A n c rs:=h.go ((Below.refl _ _).drew)
theorem RM.app (h:RM w wr F M A n c rs) {q:RRaw} (hk:wr.ownsRow (w.heap.size+2) 3 1 (.slice q.K q.r.msg.keys.length q.c) q.r.msg.keys.length (q.r.msg.keys.map (Value.int .i64)))
 (hz:q.r.msg.keys.length<=64/\q.r.msg.id.size<=300/\q.r.msg.text.size<=300/\q.r.text.size<=300)
 (ho:w3.ownsRow (w.heap.size+2) 63 11 (.slice A' (n+1) c') (n+1) (rc (rs++[q]))) (hgr:wr.grownBy w3 (Value.slice A n c).ownBlock):RM w w3 F M A' (n+1) c' (rs++[q]):=by
 have hs:=h.size;have hb:=h.rs.bel hgr hs;refine⟨h.bel.trans (hb.mono (by omega)),(hb.block _ (by omega)).trans h.fb,(hb.block _ (by omega)).trans h.mb,h.rs.app (fun r hr=>?_) (fun r hr=>?_) rfl ho hgr⟩
 · obtain rfl:=List.mem_singleton.1 hr; exact hk
 · obtain rfl:=List.mem_singleton.1 hr; exact hz
theorem RM.msg {u md d fl:Int} {id tx:ByteArray} {K:Option Addr} {kn kc:Nat} (h:RM w wr F #[.int .i64 u,.int .i64 md,.int .i64 d,.string id,.int .i64 fl,.slice K kn kc,.string tx] A n c rs):wr.cell? ⟨w.heap.size+1,0,none⟩ = some (.int .i64 u)/\wr.cell? ⟨w.heap.size+1,1,none⟩ = some (.int .i64 md)/\wr.cell? ⟨w.heap.size+1,2,none⟩ = some (.int .i64 d)/\wr.cell? ⟨w.heap.size+1,3,none⟩ = some (.string id)/\wr.cell? ⟨w.heap.size+1,4,none⟩ = some (.int .i64 fl)/\wr.cell? ⟨w.heap.size+1,5,none⟩ = some (.slice K kn kc)/\wr.cell? ⟨w.heap.size+1,6,none⟩ = some (.string tx):=by
 have c:=fun o=>cell_of_row wr (w.heap.size+1) o _ _ _ h.mb;exact⟨(c 0).trans rfl,(c 1).trans rfl,(c 2).trans rfl,(c 3).trans rfl,(c 4).trans rfl,(c 5).trans rfl,(c 6).trans rfl⟩
theorem RM.frm {mk:ByteArray} {kb kp:Nat} {wd:Int} {fc fn:Bool} (h:RM w wr #[.string mk,.func (.func kb) #[] #[],.func (.func kp) #[] #[],.int .i64 wd,.bool fc,.bool fn] M A n c rs):wr.cell? ⟨w.heap.size,3,none⟩ = some (.int .i64 wd)/\wr.cell? ⟨w.heap.size,4,none⟩ = some (.bool fc)/\wr.cell? ⟨w.heap.size,5,none⟩ = some (.bool fn):=by
 have c:=fun o=>cell_of_row wr w.heap.size o _ _ _ h.fb;exact⟨(c 3).trans rfl,(c 4).trans rfl,(c 5).trans rfl⟩
theorem RM.start (w:World) (F M:Array Value):RM w ((w.alloc (.cells F 126)).alloc (.cells M 61)) F M none 0 0 []:=by
 refine⟨((Below.refl _ _).alloc lr_ _).alloc (by simp) _,(heap_alloc_old _ _ (by simp)).trans (heap_alloc_new w _), ?_,RS.nil _ _⟩;have:=heap_alloc_new (w.alloc (.cells F 126)) (.cells M 61)
 rwa [show (w.alloc (.cells F 126)).heap.size=w.heap.size+1 by simp] at this
end
theorem ones11 (a1 a2 a3 a4 a5 a6:Int) (s1:ByteArray) (a7:Int) (K:Option Addr) (kl kc:Nat) (s2 s3:ByteArray) : ∀ u∈(#[Value.int .i64 a1,.int .i64 a2,.int .i64 a3,.int .i64 a4,.int .i64 a5,.int .i64 a6,.string s1,.int .i64 a7,.slice K kl kc,.string s2,.string s3]:Array Value).toList,u.oneCell'=true:=by
 intro u hu;simp only [List.mem_cons,List.not_mem_nil,or_false] at hu;rcases hu with rfl | rfl | rfl | rfl | rfl | rfl | rfl | rfl | rfl | rfl | rfl <;> rfl
theorem restOfMsg_any {w:World} {B kn kc kb kp:Nat} {K:Option Addr} {mk bid id tx:ByteArray} {f:Fm} {u md d fl:Int} {ks:List Int} (ht:BxO.Tab w) (hz:IntsAt w B K kn ks) (hB:B<=w.heap.size) (hkn:kn<=64) (hid:id.size<=300) (hbid:bid.size<=200) (hu : -1000000000<=u/\u<=1000000000) :
 Calls Tryz.prog 133 #[.agg #[.string mk,.func (.func kb) #[] #[],.func (.func kp) #[] #[],.int .i64 (f.w:Nat),.bool f.c,.bool f.n],.agg #[.int .i64 u,.int .i64 md,.int .i64 d,.string id,.int .i64 fl,.slice K kn kc,.string tx],.string bid] w (RestOut (reM f bid ⟨u,md,d,id,fl,ks,tx⟩) w):=by
 obtain⟨fw,fc,fn⟩:=f;obtain⟨wd,hwd⟩ : ∃ wd:Int,wd=(fw:Nat):=⟨_,rfl⟩;show Calls Tryz.prog _ #[.agg #[.string mk,.func (.func kb) #[] #[],.func (.func kp) #[] #[],.int .i64 ((fw:Nat):Int),.bool fc,.bool fn],_,_] w _;rw [<- hwd];obtain⟨m,hm⟩ : ∃ m:Msg,m=⟨u,md,d,id,fl,ks,tx⟩:=⟨_,rfl⟩;have hks:ks.length=kn:=hz.len;have hbb0:anyP wd ks=flM ⟨fw,fc,fn⟩ m:=by rw [hwd,hm]; rfl
 obtain⟨bb,hbb⟩ : ∃ bb,bb=flM ⟨fw,fc,fn⟩ m:=⟨_,rfl⟩;rw [<- hbb] at hbb0;have R0:=H_ (RM.start w #[.string mk,.func (.func kb) #[] #[],.func (.func kp) #[] #[],.int .i64 wd,.bool fc,.bool fn] #[.int .i64 u,.int .i64 md,.int .i64 d,.string id,.int .i64 fl,.slice K kn kc,.string tx]);have hbl:=R0.out.bel;have HZ:=H_ (IntsAt.below hz hbl hB);have HT:=H_ ht;have HM:=H_ hm;have HBB:=H_ hbb;have HB0:=H_ hbb0;rw [<- hm];clear hz hbl ht hbb hbb0 hwd;go_enter Tryz.func133,Tryz.ntmps133;go_upto_region 2 with fail
 generalize (World.alloc (World.alloc w _) _)=w1 at R0 HZ ⊢;have hs1:=R0.out.size;obtain⟨f3,f4,f5⟩:=R0.out.frm;have m5:=R0.out.msg.2.2.2.2.2.1;have kc0:=contains_any (kc:=kc) HZ.out f3;rw [HB0.out] at kc0;have KC:=H_ kc0;clear kc0 HB0;go_upto_region 3 with (go_at_call 165; go_loud (
  refine KC.out.mono ?_;rintro e w2 ⟨rfl,rfl⟩))
 clear f3 f4 f5 m5 KC
 go_upto_if 13 with fail
 go_cut [7] (fun s7 wx=>∃ (A:Option Addr) (n c:Nat) (rs:List RRaw),s7 = .slice A n c/\n<=1/\Hid (RM w wx #[.string mk,.func (.func kb) #[] #[],.func (.func kp) #[] #[],.int .i64 wd,.bool fc,.bool fn] #[.int .i64 u,.int .i64 md,.int .i64 d,.string id,.int .i64 fl,.slice K kn kc,.string tx] A n c rs)/\Hid (rs.map RRaw.r=reA ⟨fw,fc,fn⟩ m))
 case first =>
  cases bb with
  | false =>
   have HE:=H_ (show ([]:List RRaw).map RRaw.r=reA ⟨fw,fc,fn⟩ m by unfold reA; rw [<- HBB.out]; rfl);go_wp2_with fail
   go_meet;exact⟨none,0,0,[],rfl,Nat.zero_le _,R0,HE⟩
  | true =>
   have HE:=H_ (show [r2 m]=reA ⟨fw,fc,fn⟩ m by unfold reA; rw [<- HBB.out]; rfl);have hm4:=R0.out.msg;have KC:=H_ (fun (wr:World) (hb:Below w1.heap.size w1 wr)=>clone_any (kc:=kc) (IntsAt.below HZ.out hb (by omega)) (show B<=wr.heap.size by have:=hb.size; omega) (by omega));have bd:=(Below.refl w1.heap.size w1).drew;obtain⟨kl,hkl⟩ : ∃ kl,kl=ks.length:=⟨_,rfl⟩;have HKL:=H_ hkl;have hkl64:kl<=64:=by omega
   clear hkl;go_upto_region 4 with fail
   go_region_held3 (fun wr=>wr.cell? ⟨w.heap.size+1,0,none⟩ = some (.int .i64 u)/\wr.cell? ⟨w.heap.size+1,1,none⟩ = some (.int .i64 md)/\wr.cell? ⟨w.heap.size+1,2,none⟩ = some (.int .i64 d)/\wr.cell? ⟨w.heap.size+1,3,none⟩ = some (.string id)/\wr.cell? ⟨w.heap.size+1,4,none⟩ = some (.int .i64 fl)/\wr.cell? ⟨w.heap.size+1,5,none⟩ = some (.slice K kn kc)/\wr.cell? ⟨w.heap.size+1,6,none⟩ = some (.string tx)) (with_reducible first | exact hm4 | exact R2.out.msg | exact (R2.out.alloc _).msg | exact R3.out.msg | go_keep) (first
    | (go_at_call 167
       ((with_reducible refine (KC.out _ ?d1).mono ?_); rotate_left)
       case d1=>first | exact bd | exact Below.refl _ _
       go_loud (
       rintro e w2 ⟨K2,k2,rfl,hown,hb2⟩;rw [<- HKL.out] at hown ⊢;have R2:=H_ (show RM w w2 #[.string mk,.func (.func kb) #[] #[],.func (.func kp) #[] #[],.int .i64 wd,.bool fc,.bool fn] #[.int .i64 u,.int .i64 md,.int .i64 d,.string id,.int .i64 fl,.slice K kn kc,.string tx] none 0 0 [] by first | exact R0.out.drew.go hb2 | exact R0.out.go hb2);have hK2:=own_base hown (show w.heap.size+2<=_ by first | exact hs1 | (show w.heap.size+2<=w1.heap.size; exact hs1));have HK2:=H_ (hK2.alloc (.cells #[.int .i64 2,.int .i64 u,.int .i64 md,.int .i64 0,.int .i64 0,.int .i64 0,.string ⟨#[]⟩,.int .i64 fl,.slice K2 kl k2,.string ⟨#[]⟩,.string ⟨#[]⟩] 63));have O2:=H_ (R2.out.rs.om.alloc (.cells #[.int .i64 2,.int .i64 u,.int .i64 md,.int .i64 0,.int .i64 0,.int .i64 0,.string ⟨#[]⟩,.int .i64 fl,.slice K2 kl k2,.string ⟨#[]⟩,.string ⟨#[]⟩] 63));have S2:=H_ (src_new w2 #[.int .i64 2,.int .i64 u,.int .i64 md,.int .i64 0,.int .i64 0,.int .i64 0,.string ⟨#[]⟩,.int .i64 fl,.slice K2 kl k2,.string ⟨#[]⟩,.string ⟨#[]⟩] 63 (b:=w2.heap.size) (m:=1) (sz:=11) rfl rfl (ones11 _ _ _ _ _ _ _ _ _ _ _ _ _));have Z2:=H_ (show w.heap.size+2<=(w2.alloc (.cells #[.int .i64 2,.int .i64 u,.int .i64 md,.int .i64 0,.int .i64 0,.int .i64 0,.string ⟨#[]⟩,.int .i64 fl,.slice K2 kl k2,.string ⟨#[]⟩,.string ⟨#[]⟩] 63)).heap.size by have:=R2.out.size; simp; omega);clear hown hb2 hK2;dsimp only))
    | (go_loud (
       refine step_rows elR (c:=1) rfl (.tmp 14) (.tmp 26) rfl (by simp [Act.eval]) (by simp [Act.eval]) O2.out S2.out (by unfold maxLen; omega) (by omega) Z2.out ?_;intro v3 w3 hown3 hg3 _;obtain⟨A3,k3,rfl,hk3⟩:=own_slice hown3;have R3:=H_ ((R2.out.alloc (.cells #[.int .i64 2,.int .i64 u,.int .i64 md,.int .i64 0,.int .i64 0,.int .i64 0,.string ⟨#[]⟩,.int .i64 fl,.slice K2 kl k2,.string ⟨#[]⟩,.string ⟨#[]⟩] 63)).app (q:=⟨r2 m,K2,k2⟩) (by
        show World.ownsRow _ _ _ _ (.slice K2 m.keys.length k2) m.keys.length (m.keys.map (Value.int .i64));rw [HM.out];show World.ownsRow _ _ _ _ (.slice K2 ks.length k2) ks.length (ks.map (Value.int .i64));rw [<- HKL.out];exact HK2.out) (by
        rw [HM.out];refine⟨?_,Nat.zero_le _,Nat.zero_le _,Nat.zero_le _⟩;show ks.length<=64;omega) (by
        have e:rc ([]++[(⟨r2 m,K2,k2⟩:RRaw)]) = #[.int .i64 2,.int .i64 u,.int .i64 md,.int .i64 0,.int .i64 0,.int .i64 0,.string ⟨#[]⟩,.int .i64 fl,.slice K2 kl k2,.string ⟨#[]⟩,.string ⟨#[]⟩].toList:=by
         rw [HM.out,HKL.out];rfl
        rw [e];exact hown3) hg3)
       clear hown3 hg3;dsimp only)))
   all_goals
    (try clear hm4)
    first | (go_step; go_step; go_meet) | go_meet | skip
    exact⟨_,_,_,[⟨r2 m,K2,k2⟩],rfl,Nat.le_refl _,R3,HE⟩
 case rest =>
  clear R0 hs1;obtain⟨A,n,c,rs,rfl,hn,R0,HA⟩:=hcut;have hs1:=R0.out.size;obtain⟨ow,how⟩ : ∃ ow,ow=ownT bid u:=⟨_,rfl⟩;obtain⟨nb,hnb⟩ : ∃ nb,nb=(!fn&&decide (id≠ow)):=⟨_,rfl⟩;have HNB:=H_ hnb;have HOW:=H_ how;have KO0:=fun (wr:World) (hb:Below w.heap.size w wr)=>BxO.own_any (id:=bid) (u:=u) (HT.out.below hb lr_) (by omega) hbid;rw [<- how] at KO0;have KO:=H_ KO0;clear hnb how KO0;go_upto_region 5 with fail
  go_cut [39] (fun s39 wx=>s39 = .bool nb/\Hid (RM w wx #[.string mk,.func (.func kb) #[] #[],.func (.func kp) #[] #[],.int .i64 wd,.bool fc,.bool fn] #[.int .i64 u,.int .i64 md,.int .i64 d,.string id,.int .i64 fl,.slice K kn kc,.string tx] A n c rs))
  case first =>
   have hm4:=R0.out.msg;have hf4:=R0.out.frm;cases fn with
   | true =>
    have hv:nb=false:=by rw [HNB.out]; rfl
    subst hv;refine wp_region_noPanic ?_;refine wp_region_held_drew (S:=fun wr=>(wr.cell? ⟨w.heap.size+1,0,none⟩ = some (.int .i64 u)/\wr.cell? ⟨w.heap.size+1,1,none⟩ = some (.int .i64 md)/\wr.cell? ⟨w.heap.size+1,2,none⟩ = some (.int .i64 d)/\wr.cell? ⟨w.heap.size+1,3,none⟩ = some (.string id)/\wr.cell? ⟨w.heap.size+1,4,none⟩ = some (.int .i64 fl)/\wr.cell? ⟨w.heap.size+1,5,none⟩ = some (.slice K kn kc)/\wr.cell? ⟨w.heap.size+1,6,none⟩ = some (.string tx))/\(wr.cell? ⟨w.heap.size,3,none⟩ = some (.int .i64 wd)/\wr.cell? ⟨w.heap.size,4,none⟩ = some (.bool fc)/\wr.cell? ⟨w.heap.size,5,none⟩ = some (.bool true))) (by kernel_rfl) ?_ (fun hHeld=>?_)
    · exact And.intro R0.out.drew.msg R0.out.drew.frm
    refine wpAnyH_take (i:=0) (v:=?_) rfl (by kernel_rfl) (by kernel_rfl) (by kernel_rfl) (fun _ _ _ h=>h) (Or.inl ⟨by rfl, ?_⟩) hHeld ?_
    rotate_left
    · intro wq hSq; (try dsimp only at hSq); go_simp; try with_reducible rfl
    try simp only [Act.put,List.setIfInBounds_toArray,List.set_cons_zero,List.set_cons_succ,List.getElem_toArray,List.getElem_cons_zero,List.getElem_cons_succ]
    refine wpAnyH_take (i:=1) (v:=?_) rfl (by kernel_rfl) (by kernel_rfl) (by kernel_rfl) (fun _ _ _ h=>h) (Or.inl ⟨by rfl, ?_⟩) hHeld ?_
    rotate_left
    · intro wq hSq; (try dsimp only at hSq); go_simp; try with_reducible rfl
    try simp only [Act.put,List.setIfInBounds_toArray,List.set_cons_zero,List.set_cons_succ,List.getElem_toArray,List.getElem_cons_zero,List.getElem_cons_succ]
    refine wpAnyH_take (i:=2) (v:=?_) rfl (by kernel_rfl) (by kernel_rfl) (by kernel_rfl) (fun _ _ _ h=>h) (Or.inl ⟨by rfl, ?_⟩) hHeld ?_
    rotate_left
    · intro wq hSq; (try dsimp only at hSq); go_simp; try with_reducible rfl
    try simp only [Act.put,List.setIfInBounds_toArray,List.set_cons_zero,List.set_cons_succ,List.getElem_toArray,List.getElem_cons_zero,List.getElem_cons_succ]
    refine wpAnyH_take (i:=3) (v:=?_) rfl (by kernel_rfl) (by kernel_rfl) (by kernel_rfl) (fun _ _ _ h=>h) (Or.inl ⟨by rfl, ?_⟩) hHeld ?_
    rotate_left
    · intro wq hSq; (try dsimp only at hSq); go_simp; try with_reducible rfl
    try simp only [Act.put,List.setIfInBounds_toArray,List.set_cons_zero,List.set_cons_succ,List.getElem_toArray,List.getElem_cons_zero,List.getElem_cons_succ]
    refine wpAnyH_take (i:=4) (v:=undef) rfl (by kernel_rfl) (by kernel_rfl) (by kernel_rfl) (fun _ _ _ h=>h) (Or.inr ⟨by rfl,rfl⟩) hHeld ?_
    try simp only [Act.put,List.setIfInBounds_toArray,List.set_cons_zero,List.set_cons_succ,List.getElem_toArray,List.getElem_cons_zero,List.getElem_cons_succ]
    refine wpAnyH_take (i:=5) (v:=undef) rfl (by kernel_rfl) (by kernel_rfl) (by kernel_rfl) (fun _ _ _ h=>h) (Or.inr ⟨by rfl,rfl⟩) hHeld ?_
    try simp only [Act.put,List.setIfInBounds_toArray,List.set_cons_zero,List.set_cons_succ,List.getElem_toArray,List.getElem_cons_zero,List.getElem_cons_succ]
    refine wpAnyH_take (i:=6) (v:=undef) rfl (by kernel_rfl) (by kernel_rfl) (by kernel_rfl) (fun _ _ _ h=>h) (Or.inr ⟨by rfl,rfl⟩) hHeld ?_
    try simp only [Act.put,List.setIfInBounds_toArray,List.set_cons_zero,List.set_cons_succ,List.getElem_toArray,List.getElem_cons_zero,List.getElem_cons_succ]
    refine wpAnyH_take (i:=7) (v:=undef) rfl (by kernel_rfl) (by kernel_rfl) (by kernel_rfl) (fun _ _ _ h=>h) (Or.inr ⟨by rfl,rfl⟩) hHeld ?_
    try simp only [Act.put,List.setIfInBounds_toArray,List.set_cons_zero,List.set_cons_succ,List.getElem_toArray,List.getElem_cons_zero,List.getElem_cons_succ]
    refine wpAnyH_take (i:=8) (v:=undef) rfl (by kernel_rfl) (by kernel_rfl) (by kernel_rfl) (fun _ _ _ h=>h) (Or.inr ⟨by rfl,rfl⟩) hHeld ?_
    try simp only [Act.put,List.setIfInBounds_toArray,List.set_cons_zero,List.set_cons_succ,List.getElem_toArray,List.getElem_cons_zero,List.getElem_cons_succ]
    refine wpAnyH_take (i:=9) (v:=undef) rfl (by kernel_rfl) (by kernel_rfl) (by kernel_rfl) (fun _ _ _ h=>h) (Or.inr ⟨by rfl,rfl⟩) hHeld ?_
    try simp only [Act.put,List.setIfInBounds_toArray,List.set_cons_zero,List.set_cons_succ,List.getElem_toArray,List.getElem_cons_zero,List.getElem_cons_succ]
    refine wpAnyH_take (i:=10) (v:=undef) rfl (by kernel_rfl) (by kernel_rfl) (by kernel_rfl) (fun _ _ _ h=>h) (Or.inr ⟨by rfl,rfl⟩) hHeld ?_
    try simp only [Act.put,List.setIfInBounds_toArray,List.set_cons_zero,List.set_cons_succ,List.getElem_toArray,List.getElem_cons_zero,List.getElem_cons_succ]
    refine wpAnyH_take (i:=11) (v:=?_) rfl (by kernel_rfl) (by kernel_rfl) (by kernel_rfl) (fun _ _ _ h=>h) (Or.inl ⟨by rfl, ?_⟩) hHeld ?_
    rotate_left
    · intro wq hSq; (try dsimp only at hSq); go_simp; try with_reducible rfl
    try simp only [Act.put,List.setIfInBounds_toArray,List.set_cons_zero,List.set_cons_succ,List.getElem_toArray,List.getElem_cons_zero,List.getElem_cons_succ]
    refine wpAnyH_done (by kernel_rfl) ?_ _;refine NoPanic.normal ?_
    go_step
    go_step
    go_meet;exact⟨rfl,R0.out.drew⟩
   | false =>
    have hb0:=R0.out.bel;have bd:Below w.heap.size w wc.drew:=hb0.drew;have hx:=And.intro hm4 hf4;by_cases hq:id=ow
    · have hv:nb=false:=by rw [HNB.out,hq]; simp
      subst hv;subst hq;have hq1:(id.toList==id.toList)=true:=by simp
      go_region_held3 (fun wr=>(wr.cell? ⟨w.heap.size+1,0,none⟩ = some (.int .i64 u)/\wr.cell? ⟨w.heap.size+1,1,none⟩ = some (.int .i64 md)/\wr.cell? ⟨w.heap.size+1,2,none⟩ = some (.int .i64 d)/\wr.cell? ⟨w.heap.size+1,3,none⟩ = some (.string id)/\wr.cell? ⟨w.heap.size+1,4,none⟩ = some (.int .i64 fl)/\wr.cell? ⟨w.heap.size+1,5,none⟩ = some (.slice K kn kc)/\wr.cell? ⟨w.heap.size+1,6,none⟩ = some (.string tx))/\(wr.cell? ⟨w.heap.size,3,none⟩ = some (.int .i64 wd)/\wr.cell? ⟨w.heap.size,4,none⟩ = some (.bool fc)/\wr.cell? ⟨w.heap.size,5,none⟩ = some (.bool false))) (with_reducible first | exact hx | exact And.intro R2.out.msg R2.out.frm | go_keep) (
       (go_at_call 168
        ((with_reducible refine (KO.out _ ?d1).mono ?_); rotate_left)
        case d1=>first | exact bd | exact hb0
        go_loud (
        rintro e w2 ⟨rfl,hb2⟩;have R2:=H_ (show RM w w2 #[.string mk,.func (.func kb) #[] #[],.func (.func kp) #[] #[],.int .i64 wd,.bool fc,.bool false] #[.int .i64 u,.int .i64 md,.int .i64 d,.string id,.int .i64 fl,.slice K kn kc,.string tx] A n c rs by first | exact R0.out.drew.go hb2 | exact R0.out.go hb2);clear hb2;dsimp only)))
      go_step
      go_step
      go_meet;exact⟨rfl,R2⟩
    · have hv:nb=true:=by rw [HNB.out]; simp [hq]
      subst hv;have hq1:(id.toList==ow.toList)=false:=by rw [<- beq_toListBytes]; simpa using hq
      go_region_held3 (fun wr=>(wr.cell? ⟨w.heap.size+1,0,none⟩ = some (.int .i64 u)/\wr.cell? ⟨w.heap.size+1,1,none⟩ = some (.int .i64 md)/\wr.cell? ⟨w.heap.size+1,2,none⟩ = some (.int .i64 d)/\wr.cell? ⟨w.heap.size+1,3,none⟩ = some (.string id)/\wr.cell? ⟨w.heap.size+1,4,none⟩ = some (.int .i64 fl)/\wr.cell? ⟨w.heap.size+1,5,none⟩ = some (.slice K kn kc)/\wr.cell? ⟨w.heap.size+1,6,none⟩ = some (.string tx))/\(wr.cell? ⟨w.heap.size,3,none⟩ = some (.int .i64 wd)/\wr.cell? ⟨w.heap.size,4,none⟩ = some (.bool fc)/\wr.cell? ⟨w.heap.size,5,none⟩ = some (.bool false))) (with_reducible first | exact hx | exact And.intro R2.out.msg R2.out.frm | go_keep) (
       (go_at_call 168
        ((with_reducible refine (KO.out _ ?d1).mono ?_); rotate_left)
        case d1=>first | exact bd | exact hb0
        go_loud (
        rintro e w2 ⟨rfl,hb2⟩;have R2:=H_ (show RM w w2 #[.string mk,.func (.func kb) #[] #[],.func (.func kp) #[] #[],.int .i64 wd,.bool fc,.bool false] #[.int .i64 u,.int .i64 md,.int .i64 d,.string id,.int .i64 fl,.slice K kn kc,.string tx] A n c rs by first | exact R0.out.drew.go hb2 | exact R0.out.go hb2);clear hb2;dsimp only)))
      go_step
      go_step
      go_meet;exact⟨rfl,R2⟩
  case rest =>
   clear R0 hs1;obtain⟨rfl,R0⟩:=hcut;have hs1:=R0.out.size
   go_upto_if 39 with fail
   go_cut [7] (fun s7 wx=>∃ (A:Option Addr) (n c:Nat) (rs:List RRaw),s7 = .slice A n c/\n<=2/\Hid (RM w wx #[.string mk,.func (.func kb) #[] #[],.func (.func kp) #[] #[],.int .i64 wd,.bool fc,.bool fn] #[.int .i64 u,.int .i64 md,.int .i64 d,.string id,.int .i64 fl,.slice K kn kc,.string tx] A n c rs)/\Hid (rs.map RRaw.r=reA ⟨fw,fc,fn⟩ m++reB ⟨fw,fc,fn⟩ bid m))
   case first =>
    have HMI:=H_ (show m.id=id/\m.uid=u by rw [HM.out]; exact⟨rfl,rfl⟩);cases nb with
    | false =>
     have HE:=H_ (show rs.map RRaw.r=reA ⟨fw,fc,fn⟩ m++reB ⟨fw,fc,fn⟩ bid m by
      have h0 : ¬ (fn=false/\m.id≠ownT bid m.uid):=fun h=>by
       have h1:=HNB.out;rw [HMI.out.1,HMI.out.2,<- HOW.out] at h;rw [h.1] at h1;simp [h.2] at h1
      unfold reB;rw [if_neg h0,List.append_nil];exact HA.out)
     go_wp2_with fail
     go_meet;exact⟨A,n,c,rs,rfl,by omega,R0,HE⟩
    | true =>
     have HE:=H_ (show rs.map RRaw.r++[r5 m]=reA ⟨fw,fc,fn⟩ m++reB ⟨fw,fc,fn⟩ bid m by
      have h0:fn=false/\m.id≠ownT bid m.uid:=by
       have h1:=HNB.out;rw [HMI.out.1,HMI.out.2,<- HOW.out];cases fn with
       | true=>simp at h1
       | false=>exact⟨rfl,by simpa using h1.symm⟩
      unfold reB;rw [if_pos h0,HA.out])
     obtain⟨m0,m1,m2,m3,m4,m5,m6⟩:=R0.out.msg;have O2:=H_ (R0.out.rs.om.alloc (.cells #[.int .i64 5,.int .i64 u,.int .i64 0,.int .i64 0,.int .i64 0,.int .i64 0,.string ⟨#[]⟩,.int .i64 0,.slice none 0 0,.string ⟨#[]⟩,.string id] 63));have S2:=H_ (src_new wc #[.int .i64 5,.int .i64 u,.int .i64 0,.int .i64 0,.int .i64 0,.int .i64 0,.string ⟨#[]⟩,.int .i64 0,.slice none 0 0,.string ⟨#[]⟩,.string id] 63 (b:=wc.heap.size) (m:=1) (sz:=11) rfl rfl (ones11 _ _ _ _ _ _ _ _ _ _ _ _ _));have Z2:=H_ (show w.heap.size+2<=(wc.alloc (.cells #[.int .i64 5,.int .i64 u,.int .i64 0,.int .i64 0,.int .i64 0,.int .i64 0,.string ⟨#[]⟩,.int .i64 0,.slice none 0 0,.string ⟨#[]⟩,.string id] 63)).heap.size by simp; omega);go_wp2_with (at_builtin; go_loud (
      refine wpList_rows elR rfl _ _ rfl rfl rfl O2.out S2.out (by unfold maxLen; omega) (by omega) Z2.out ?_;intro v3 w3 hown3 hg3 _;obtain⟨A3,k3,rfl,hk3⟩:=own_slice hown3;have R3:=H_ ((R0.out.alloc (.cells #[.int .i64 5,.int .i64 u,.int .i64 0,.int .i64 0,.int .i64 0,.int .i64 0,.string ⟨#[]⟩,.int .i64 0,.slice none 0 0,.string ⟨#[]⟩,.string id] 63)).app (q:=⟨r5 m,none,0⟩) (World.ownsRow_nil _ _ _ _) (by
       rw [HM.out];refine⟨Nat.zero_le _,Nat.zero_le _,Nat.zero_le _, ?_⟩
       first | exact hid | exact Nat.zero_le _) (by
       have e:rc (rs++[(⟨r5 m,none,0⟩:RRaw)])=rc rs ++ #[.int .i64 5,.int .i64 u,.int .i64 0,.int .i64 0,.int .i64 0,.int .i64 0,.string ⟨#[]⟩,.int .i64 0,.slice none 0 0,.string ⟨#[]⟩,.string id].toList:=by
        rw [rc_append,HM.out];rfl
       rw [e];exact hown3) hg3)
      clear hown3 hg3 m0 m1 m2 m3 m4 m5 m6))
     go_meet;exact⟨A3,n+1,k3,rs++[⟨r5 m,none,0⟩],rfl,by omega,R3,by show (rs++[(⟨r5 m,none,0⟩:RRaw)]).map RRaw.r=_; rw [List.map_append]; exact HE.out⟩
   case rest =>
    clear R0 hs1 HNB HOW KO HA;obtain⟨A,n,c,rs,rfl,hn,R0,HA⟩:=hcut;have hs1:=R0.out.size;have HMI:=H_ (show m.mod=md/\m.uid=u by rw [HM.out]; exact⟨rfl,rfl⟩);obtain⟨m0,m1,m2,m3,m4,m5,m6⟩:=R0.out.msg;obtain⟨f3,f4,f5⟩:=R0.out.frm;have NO:=fun (h0 : ¬ (fc=false/\bb=false/\md≠1))=>show rs.map RRaw.r=reM ⟨fw,fc,fn⟩ bid m by
     have h1 : ¬ (fc=false/\flM ⟨fw,fc,fn⟩ m=false/\m.mod≠1):=by rw [<- HBB.out,HMI.out.1]; exact h0
     unfold reM reC;rw [if_neg h1,List.append_nil];exact HA.out
    cases fc with
    | true =>
     have HE:=H_ (NO (fun h=>absurd h.1 (by decide)));clear NO;go_wp2_with fail
     go_ret;exact⟨A,n,c,rs,rfl,HE.out,R0.out.rs.base (by omega),R0.out.bel⟩
    | false =>
     cases bb with
     | true =>
      have HE:=H_ (NO (fun h=>absurd h.2.1 (by decide)));clear NO;go_wp2_with fail
      go_ret;exact⟨A,n,c,rs,rfl,HE.out,R0.out.rs.base (by omega),R0.out.bel⟩
     | false =>
      by_cases hq:md=1
      · have HE:=H_ (NO (fun h=>h.2.2 hq))
        have hq1:(md==1)=true:=by simpa using hq
        have hq2:(md != 1)=false:=by simpa using hq
        clear NO hq;go_wp2_with fail
        go_ret;exact⟨A,n,c,rs,rfl,HE.out,R0.out.rs.base (by omega),R0.out.bel⟩
      · have HE:=H_ (show rs.map RRaw.r++[r6 m]=reM ⟨fw,false,fn⟩ bid m by
         have h1:((false:Bool)=false/\flM ⟨fw,false,fn⟩ m=false/\m.mod≠1):=by rw [<- HBB.out,HMI.out.1]; exact⟨rfl,rfl,hq⟩
         unfold reM reC;rw [if_pos h1,HA.out,List.append_assoc])
        have hq1:(md==1)=false:=by simpa using hq
        have hq2:(md != 1)=true:=by simpa using hq
        clear NO hq;have O2:=H_ (R0.out.rs.om.alloc (.cells #[.int .i64 6,.int .i64 u,.int .i64 md,.int .i64 0,.int .i64 0,.int .i64 0,.string ⟨#[]⟩,.int .i64 0,.slice none 0 0,.string ⟨#[]⟩,.string ⟨#[]⟩] 63));have S2:=H_ (src_new wc #[.int .i64 6,.int .i64 u,.int .i64 md,.int .i64 0,.int .i64 0,.int .i64 0,.string ⟨#[]⟩,.int .i64 0,.slice none 0 0,.string ⟨#[]⟩,.string ⟨#[]⟩] 63 (b:=wc.heap.size) (m:=1) (sz:=11) rfl rfl (ones11 _ _ _ _ _ _ _ _ _ _ _ _ _));have Z2:=H_ (show w.heap.size+2<=(wc.alloc (.cells #[.int .i64 6,.int .i64 u,.int .i64 md,.int .i64 0,.int .i64 0,.int .i64 0,.string ⟨#[]⟩,.int .i64 0,.slice none 0 0,.string ⟨#[]⟩,.string ⟨#[]⟩] 63)).heap.size by simp; omega);go_wp2_with (at_builtin; go_loud (
         refine wpList_rows elR rfl _ _ rfl rfl rfl O2.out S2.out (by unfold maxLen; omega) (by omega) Z2.out ?_;intro v3 w3 hown3 hg3 _;obtain⟨A3,k3,rfl,hk3⟩:=own_slice hown3;have R3:=H_ ((R0.out.alloc (.cells #[.int .i64 6,.int .i64 u,.int .i64 md,.int .i64 0,.int .i64 0,.int .i64 0,.string ⟨#[]⟩,.int .i64 0,.slice none 0 0,.string ⟨#[]⟩,.string ⟨#[]⟩] 63)).app (q:=⟨r6 m,none,0⟩) (World.ownsRow_nil _ _ _ _) (by
          rw [HM.out];refine⟨Nat.zero_le _,Nat.zero_le _,Nat.zero_le _, ?_⟩
          first | exact hid | exact Nat.zero_le _) (by
          have e:rc (rs++[(⟨r6 m,none,0⟩:RRaw)])=rc rs ++ #[.int .i64 6,.int .i64 u,.int .i64 md,.int .i64 0,.int .i64 0,.int .i64 0,.string ⟨#[]⟩,.int .i64 0,.slice none 0 0,.string ⟨#[]⟩,.string ⟨#[]⟩].toList:=by
           rw [rc_append,HM.out];rfl
          rw [e];exact hown3) hg3)
         clear hown3 hg3 m0 m1 m2 m3 m4 m5 m6))
        go_ret;exact⟨A3,n+1,k3,rs++[⟨r6 m,none,0⟩],rfl,by rw [List.map_append,<- HM.out]; exact HE.out,R3.out.rs.base (by omega),R3.out.bel⟩
end Go.Proofs.YtoljpfapphoflaaGreatDoor.ImM
