/-
  RpB + RpC
-/
import Derived.Test.YtoljpfapphoflaaGreatDoorL2
import Derived.Test.YtoljpfapphoflaaGreatDoorPtK
import Derived.Test.YtoljpfapphoflaaGreatDoorZ5
import Derived.Deep.RegionHeld3
set_option linter.unusedVariables false
set_option linter.unusedSimpArgs false
set_option maxHeartbeats 4000000
set_option maxRecDepth 100000
namespace Go.Proofs.YtoljpfapphoflaaGreatDoor.RpB
open Go.RowKit BxD RwD PkKit PkA PkB PkC PkR OlOm PtD PtK RpD PtA
open BxKit (RowAt IntsAt StrsAt MsgsAt)
theorem ints_three (w:World) (a b c:Int):IntsAt (w.alloc (.cells #[.int .i64 a,.int .i64 b,.int .i64 c] 3)) (w.heap.size+1) (some ⟨w.heap.size,0,none⟩) 3 [a,b,c]:=by
 refine⟨rfl,by decide,fun _=>⟨_,rfl,Nat.lt_succ_self _,fun j x hj=>?_⟩⟩;unfold BxKit.intC;rw [Nat.mul_one,BxR.cell_new]
 match j,hj with
 | 0,hj=>simp at hj; subst hj; rfl
 | 1,hj=>simp at hj; subst hj; rfl
 | 2,hj=>simp at hj; subst hj; rfl
theorem tx_len {s:ByteArray} (h:s.size<=1099511627776):(tx s).length<=6+s.size:=by
 have h1:=uv_len h;have h2:s.data.toList.length=s.size:=by rw [Array.length_toList]; rfl
 unfold tx;rw [List.length_append];omega
theorem flags_om {n B base:Nat} {w:World} {v:Value} {l:List UInt8} {u md d fl:Int} {id tx':ByteArray} {K:Option Addr} {kn kc:Nat} {ks:List Int} (hO:Ow w base v n (by_ l)) (hz:IntsAt w B K kn ks) (hB:B<=base) (hbs:base<=w.heap.size) (hkn:kn<=1000000) (hn:n<=1099511627776) :
 Calls Tryz.prog 110 #[v,.agg #[.int .i64 u,.int .i64 md,.int .i64 d,.string id,.int .i64 fl,.slice K kn kc,.string tx']] w fun e w'=>∃ v',e = .returned v'/\OM w v w' (n+(flb ⟨u,md,d,id,fl,ks,tx'⟩).length) v' (l++flb ⟨u,md,d,id,fl,ks,tx'⟩):=by
 have O0:=H_ (OM.alloc (OM.start hO) (.cells #[.int .i64 u,.int .i64 md,.int .i64 d,.string id,.int .i64 fl,.slice K kn kc,.string tx'] 61));have M0:=H_ (show MBk (w.alloc (.cells #[.int .i64 u,.int .i64 md,.int .i64 d,.string id,.int .i64 fl,.slice K kn kc,.string tx'] 61)) w.heap.size u md d id fl K kn kc tx' from heap_alloc_new w _);have HZ:=H_ (IntsAt.below hz ((Below.refl base w).alloc hbs (.cells #[.int .i64 u,.int .i64 md,.int .i64 d,.string id,.int .i64 fl,.slice K kn kc,.string tx'] 61)) hB);have hP:=own_none hO;have HOB:=H_ (fun g e=>(hO.lt g e).1);have hs0:w.heap.size+1<=(w.alloc (.cells #[.int .i64 u,.int .i64 md,.int .i64 d,.string id,.int .i64 fl,.slice K kn kc,.string tx'] 61)).heap.size:=by simp
 have hkl:=hz.len;obtain⟨A,c0,rfl,hc0⟩:=hO.slice;clear hO hz;go_enter Tryz.func110,Tryz.ntmps110;go_upto_region 1 with fail
 obtain⟨P,hPe⟩ : ∃ P,P=w.heap.size:=⟨_,rfl⟩;rw [<- hPe] at M0 hs0 hP ⊢;have hPb:base<=P:=by omega
 clear hPe;generalize (World.alloc w _)=w1 at O0 M0 HZ hs0 ⊢;obtain⟨m0,m1,m2,m3,m4,m5,m6⟩:=M0.out.cells;have O1:=H_ (OM.start O0.out.own);have HM:=H_ (fun (wr:World) (g:w1.grownBy wr (Value.slice A n c0).ownBlock)=>(M0.out.keep (g.block P hs0 (fun e=>hP e.symm))).cells);have ka:=nums_any (base:=0) (cp:=2) ((OM.alloc O1.out (.cells #[.int .i64 fl,.int .i64 (kn:Nat)] 3)).own) (ints_two w1 fl (kn:Nat)) (by simp) (fun _ ad e=>by injection e with e; subst e; exact own_none O1.out.own) (by omega);have hl1:=nums_len [fl,((kn:Nat):Int)];obtain⟨q,hq⟩ : ∃ q,q=(nums [fl,((kn:Nat):Int)]).length:=⟨_,rfl⟩;rw [<- hq] at ka hl1;have hq12:q<=12:=hl1;have HQ:=H_ hq;have KA:=H_ ka;clear ka hq hl1;go_upto_region 2 with (go_at_call 97; go_loud (
  refine KA.out.mono ?_;rintro e w2 ⟨v2,rfl,g2⟩;obtain⟨A2,c2,rfl,hc2⟩:=g2.own.slice;have O2:=H_ (OM.trans (OM.alloc O1.out _) g2);clear g2 m0 m1 m2 m3 m4 m5 m6))
 clear KA;obtain⟨m0,m1,m2,m3,m4,m5,m6⟩:=HM.out w2 O2.out.fr;have hb2:=O2.out.below HOB.out (show base<=w1.heap.size by omega);have kb:=nums_any (base:=0) (cp:=kc) O2.out.own (IntsAt.below HZ.out hb2 hB) (by have:=O2.out.fr.size; omega) (fun h0 ad e e2=>by
  have h1:base<=ad.block:=by
   rcases O2.out.at_ _ e2 with h | h
   · exact HOB.out _ h
   · omega
  obtain⟨ad2,e3,h3,_⟩:=HZ.out.2.2 h0;rw [e] at e3;injection e3 with e3;subst e3;omega) (by omega)
 have hl2:=nums_len ks;obtain⟨q2,hq2⟩ : ∃ q2,q2=(nums ks).length:=⟨_,rfl⟩;rw [<- hq2] at kb hl2;have HQ2:=H_ hq2;have KB:=H_ kb;clear kb hq2;go_wp2_with (go_at_call 97; go_loud (
  refine KB.out.mono ?_;rintro e w3 ⟨v3,rfl,g3⟩;have O3:=H_ (OM.trans O2.out g3);clear g3 m0 m1 m2 m3 m4 m5 m6))
 go_ret;refine⟨v3,rfl, ?_⟩;have e1:flb ⟨u,md,d,id,fl,ks,tx'⟩=nums [fl,((kn:Nat):Int)]++nums ks:=by unfold flb; rw [hkl]
 have e2:(flb ⟨u,md,d,id,fl,ks,tx'⟩).length=q+q2:=by rw [e1,List.length_append,<- HQ.out,<- HQ2.out]
 rw [e2,e1,<- List.append_assoc,<- Nat.add_assoc];exact OM.trans O0.out O3.out
theorem msg_om {n B base:Nat} {w:World} {v:Value} {l:List UInt8} {u md d fl:Int} {id tx':ByteArray} {K:Option Addr} {kn kc:Nat} {ks:List Int} (hO:Ow w base v n (by_ l)) (hz:IntsAt w B K kn ks) (hB:B<=base) (hbs:base<=w.heap.size) (hkn:kn<=1000000) (hi:id.size<=1000000) (ht:tx'.size<=1000000) (hn:n<=549755813888) :
 Calls Tryz.prog 109 #[v,.agg #[.int .i64 u,.int .i64 md,.int .i64 d,.string id,.int .i64 fl,.slice K kn kc,.string tx']] w fun e w'=>∃ v',e = .returned v'/\OM w v w' (n+(msb ⟨u,md,d,id,fl,ks,tx'⟩).length) v' (l++msb ⟨u,md,d,id,fl,ks,tx'⟩):=by
 have O0:=H_ (OM.alloc (OM.start hO) (.cells #[.int .i64 u,.int .i64 md,.int .i64 d,.string id,.int .i64 fl,.slice K kn kc,.string tx'] 61));have M0:=H_ (show MBk (w.alloc (.cells #[.int .i64 u,.int .i64 md,.int .i64 d,.string id,.int .i64 fl,.slice K kn kc,.string tx'] 61)) w.heap.size u md d id fl K kn kc tx' from heap_alloc_new w _);have HZ:=H_ (IntsAt.below hz ((Below.refl base w).alloc hbs (.cells #[.int .i64 u,.int .i64 md,.int .i64 d,.string id,.int .i64 fl,.slice K kn kc,.string tx'] 61)) hB);have hP:=own_none hO;have HOB:=H_ (fun g e=>(hO.lt g e).1);have hs0:w.heap.size+1<=(w.alloc (.cells #[.int .i64 u,.int .i64 md,.int .i64 d,.string id,.int .i64 fl,.slice K kn kc,.string tx'] 61)).heap.size:=by simp
 have hkl:=hz.len;obtain⟨A,c0,rfl,hc0⟩:=hO.slice;clear hO hz;go_enter Tryz.func109,Tryz.ntmps109;go_upto_region 1 with fail
 obtain⟨P,hPe⟩ : ∃ P,P=w.heap.size:=⟨_,rfl⟩;rw [<- hPe] at M0 hs0 hP ⊢;have hPb:base<=P:=by omega
 clear hPe;generalize (World.alloc w _)=w1 at O0 M0 HZ hs0 ⊢;obtain⟨m0,m1,m2,m3,m4,m5,m6⟩:=M0.out.cells;have O1:=H_ (OM.start O0.out.own);have HM:=H_ (fun (wr:World) (g:w1.grownBy wr (Value.slice A n c0).ownBlock)=>(M0.out.keep (g.block P hs0 (fun e=>hP e.symm))).cells);have ka:=nums_any (base:=0) (cp:=3) ((OM.alloc O1.out (.cells #[.int .i64 u,.int .i64 md,.int .i64 d] 3)).own) (ints_three w1 u md d) (by simp) (fun _ ad e=>by injection e with e; subst e; exact own_none O1.out.own) (by omega);have hl1:=nums_len [u,md,d];obtain⟨q,hq⟩ : ∃ q,q=(nums [u,md,d]).length:=⟨_,rfl⟩;rw [<- hq] at ka hl1;have hq18:q<=18:=hl1;have HQ:=H_ hq;have KA:=H_ ka;clear ka hq hl1;go_upto_region 2 with (go_at_call 97; go_loud (
  refine KA.out.mono ?_;rintro e w2 ⟨v2,rfl,g2⟩;obtain⟨A2,c2,rfl,hc2⟩:=g2.own.slice;have O2:=H_ (OM.trans (OM.alloc O1.out _) g2);clear g2 m0 m1 m2 m3 m4 m5 m6))
 clear KA;obtain⟨m0,m1,m2,m3,m4,m5,m6⟩:=HM.out w2 O2.out.fr;have kb:=text_om (base:=0) O2.out.own id (by omega) (by omega);have hl2:=tx_len (s:=id) (by omega);obtain⟨q2,hq2⟩ : ∃ q2,q2=(tx id).length:=⟨_,rfl⟩;rw [<- hq2] at kb hl2;have HQ2:=H_ hq2;have KB:=H_ kb;clear kb hq2;go_upto_region 3 with (go_at_call 96; go_loud (
  refine KB.out.mono ?_;rintro e w3 ⟨v3,rfl,g3⟩;obtain⟨A3,c3,rfl,hc3⟩:=g3.own.slice;have O3:=H_ (OM.trans O2.out g3);clear g3 m0 m1 m2 m3 m4 m5 m6))
 clear KB;obtain⟨m0,m1,m2,m3,m4,m5,m6⟩:=HM.out w3 O3.out.fr;have hb3:=O3.out.below HOB.out (show base<=w1.heap.size by omega);have kb:=flags_om (kc:=kc) (fl:=fl) (u:=u) (md:=md) (d:=d) (id:=id) (tx':=tx') (O3.out.own.up (base:=base) (fun k hk=>by
  rcases O3.out.at_ k hk with h | h
  · exact HOB.out k h
  · omega)) (IntsAt.below HZ.out hb3 hB) hB (by have:=O3.out.fr.size; omega) hkn (by omega)
 have hl3:(flb ⟨u,md,d,id,fl,ks,tx'⟩).length<=12+6*1000000:=by
  have h1:=nums_len [fl,((kn:Nat):Int)];have h2:=nums_len ks;have e1:flb ⟨u,md,d,id,fl,ks,tx'⟩=nums [fl,((kn:Nat):Int)]++nums ks:=by unfold flb; rw [hkl]
  rw [e1,List.length_append];have:([fl,((kn:Nat):Int)]:List Int).length=2:=rfl;omega
 obtain⟨q3,hq3⟩ : ∃ q3,q3=(flb ⟨u,md,d,id,fl,ks,tx'⟩).length:=⟨_,rfl⟩;rw [<- hq3] at kb hl3;have HQ3:=H_ hq3;have KB:=H_ kb;clear kb hq3;go_upto_region 4 with (go_at_call 110; go_loud (
  refine KB.out.mono ?_;rintro e w4 ⟨v4,rfl,g4⟩;obtain⟨A4,c4,rfl,hc4⟩:=g4.own.slice;have O4:=H_ (OM.trans O3.out g4);clear g4 m0 m1 m2 m3 m4 m5 m6))
 clear KB;obtain⟨m0,m1,m2,m3,m4,m5,m6⟩:=HM.out w4 O4.out.fr;have kb:=text_om (base:=0) O4.out.own tx' (by omega) (by omega);obtain⟨q4,hq4⟩ : ∃ q4,q4=(tx tx').length:=⟨_,rfl⟩;rw [<- hq4] at kb;have HQ4:=H_ hq4;have KB:=H_ kb;clear kb hq4;go_wp2_with (go_at_call 96; go_loud (
  refine KB.out.mono ?_;rintro e w5 ⟨v5,rfl,g5⟩;have O5:=H_ (OM.trans O4.out g5);clear g5 m0 m1 m2 m3 m4 m5 m6))
 go_ret;refine⟨v5,rfl, ?_⟩;have e2:(msb ⟨u,md,d,id,fl,ks,tx'⟩).length=q+q2+q3+q4:=by
  unfold msb;rw [List.length_append,List.length_append,List.length_append,<- HQ.out,<- HQ2.out,<- HQ3.out,<- HQ4.out];omega
 have e3:l++msb ⟨u,md,d,id,fl,ks,tx'⟩=l++nums [u,md,d]++tx id++flb ⟨u,md,d,id,fl,ks,tx'⟩++tx tx':=by
  unfold msb;simp only [List.append_assoc]
 rw [e2,e3,show n+(q+q2+q3+q4)=n+q+q2+q3+q4 by omega];exact OM.trans O0.out O5.out
end Go.Proofs.YtoljpfapphoflaaGreatDoor.RpB

set_option maxHeartbeats 8000000
set_option maxRecDepth 100000
namespace Go.Proofs.YtoljpfapphoflaaGreatDoor.RpC
open Go.RowKit BxD RwD PkKit PkA PkB PkC PkR OlOm PtD PtK RpD PtA RpB
open BxKit (RowAt IntsAt StrsAt MsgsAt)
theorem cells11 {w:World} {P:Nat} {c0 c1 c2 c3 c4 c5 c6 c7 c8 c9 c10:Value} {t:TypeId} (h:w.heap[P]? = some (.cells #[c0,c1,c2,c3,c4,c5,c6,c7,c8,c9,c10] t (0,0))) :
 w.cell? ⟨P,0,none⟩ = some c0/\w.cell? ⟨P,1,none⟩ = some c1/\w.cell? ⟨P,2,none⟩ = some c2/\w.cell? ⟨P,3,none⟩ = some c3/\w.cell? ⟨P,4,none⟩ = some c4/\w.cell? ⟨P,5,none⟩ = some c5/\w.cell? ⟨P,6,none⟩ = some c6/\w.cell? ⟨P,7,none⟩ = some c7/\w.cell? ⟨P,8,none⟩ = some c8/\w.cell? ⟨P,9,none⟩ = some c9/\w.cell? ⟨P,10,none⟩ = some c10:=by
 have c : ∀ o,w.cell? ⟨P,o,none⟩ = (#[c0,c1,c2,c3,c4,c5,c6,c7,c8,c9,c10]:Array Value)[o]?:=fun o=>cell_of_row w P o _ _ _ h;exact⟨(c 0).trans rfl,(c 1).trans rfl,(c 2).trans rfl,(c 3).trans rfl,(c 4).trans rfl,(c 5).trans rfl,(c 6).trans rfl,(c 7).trans rfl,(c 8).trans rfl,(c 9).trans rfl,(c 10).trans rfl⟩
theorem row_om {n B base:Nat} {w:World} {v:Value} {l:List UInt8} {rk ru rm u md d fl:Int} {id tx' rt:ByteArray} {K:Option Addr} {kn kc:Nat} {ks:List Int} (hO:Ow w base v n (by_ l)) (hz:IntsAt w B K kn ks) (hB:B<=base) (hbs:base<=w.heap.size) (hkn:kn<=1000000) (hi:id.size<=1000000) (ht:tx'.size<=1000000) (hrt:rt.size<=1000000) (hn:n<=1048576) :
 Calls Tryz.prog 71 #[v,.agg #[.int .i64 rk,.int .i64 ru,.int .i64 rm,.int .i64 u,.int .i64 md,.int .i64 d,.string id,.int .i64 fl,.slice K kn kc,.string tx',.string rt]] w fun e w'=>∃ v',e = .returned v'/\OM w v w' (n+(rob ⟨rk,ru,rm,⟨u,md,d,id,fl,ks,tx'⟩,rt⟩).length) v' (l++rob ⟨rk,ru,rm,⟨u,md,d,id,fl,ks,tx'⟩,rt⟩):=by
 have O0:=H_ (OM.alloc (OM.start hO) (.cells #[.int .i64 rk,.int .i64 ru,.int .i64 rm,.int .i64 u,.int .i64 md,.int .i64 d,.string id,.int .i64 fl,.slice K kn kc,.string tx',.string rt] 63));have M0:=H_ (heap_alloc_new w (.cells #[.int .i64 rk,.int .i64 ru,.int .i64 rm,.int .i64 u,.int .i64 md,.int .i64 d,.string id,.int .i64 fl,.slice K kn kc,.string tx',.string rt] 63));have HZ:=H_ (IntsAt.below hz ((Below.refl base w).alloc hbs (.cells #[.int .i64 rk,.int .i64 ru,.int .i64 rm,.int .i64 u,.int .i64 md,.int .i64 d,.string id,.int .i64 fl,.slice K kn kc,.string tx',.string rt] 63)) hB);have hP:=own_none hO;have HOB:=H_ (fun g e=>(hO.lt g e).1);have hs0:w.heap.size+1<=(w.alloc (.cells #[.int .i64 rk,.int .i64 ru,.int .i64 rm,.int .i64 u,.int .i64 md,.int .i64 d,.string id,.int .i64 fl,.slice K kn kc,.string tx',.string rt] 63)).heap.size:=by simp
 have hkl:=hz.len;obtain⟨A,c0,rfl,hc0⟩:=hO.slice;clear hO hz;go_enter Tryz.func71,Tryz.ntmps71;go_upto_region 1 with fail
 obtain⟨P,hPe⟩ : ∃ P,P=w.heap.size:=⟨_,rfl⟩;rw [<- hPe] at M0 hs0 hP ⊢;have hPb:base<=P:=by omega
 clear hPe;generalize (World.alloc w _)=w1 at O0 M0 HZ hs0 ⊢;have O1:=H_ (OM.start O0.out.own);have HM:=H_ (show ∀ wr:World,w1.grownBy wr (Value.slice A n c0).ownBlock->wr.cell? ⟨P,0,none⟩ = some (.int .i64 rk)/\wr.cell? ⟨P,1,none⟩ = some (.int .i64 ru)/\wr.cell? ⟨P,2,none⟩ = some (.int .i64 rm)/\wr.cell? ⟨P,3,none⟩ = some (.int .i64 u)/\wr.cell? ⟨P,4,none⟩ = some (.int .i64 md)/\wr.cell? ⟨P,5,none⟩ = some (.int .i64 d)/\wr.cell? ⟨P,6,none⟩ = some (.string id)/\wr.cell? ⟨P,7,none⟩ = some (.int .i64 fl)/\wr.cell? ⟨P,8,none⟩ = some (.slice K kn kc)/\wr.cell? ⟨P,9,none⟩ = some (.string tx')/\wr.cell? ⟨P,10,none⟩ = some (.string rt) from fun wr g=>cells11 ((g.block P hs0 (fun e=>hP e.symm)).trans M0.out));obtain⟨m0,m1,m2,m3,m4,m5,m6,m7,m8,m9,m10⟩:=HM.out w1 (World.grownBy.refl _ _);have ka:=nums_any (base:=0) (cp:=1) ((OM.alloc O1.out (.cells #[.int .i64 rk] 3)).own) (ints_one w1 rk) (by simp) (fun _ ad e=>by injection e with e; subst e; exact own_none O1.out.own) (by omega);have hl1:=nums_len [rk];obtain⟨q,hq⟩ : ∃ q,q=(nums [rk]).length:=⟨_,rfl⟩;rw [<- hq] at ka hl1;have hq6:q<=6:=hl1;have HQ:=H_ hq;have KA:=H_ ka;clear ka hq hl1;go_upto_region 2 with (go_at_call 97; go_loud (
  refine KA.out.mono ?_;rintro e w2 ⟨v2,rfl,g2⟩;obtain⟨A2,c2,rfl,hc2⟩:=g2.own.slice;have O2:=H_ (OM.trans (OM.alloc O1.out _) g2);clear g2 m0 m1 m2 m3 m4 m5 m6 m7 m8 m9 m10))
 clear KA;obtain⟨m0,m1,m2,m3,m4,m5,m6,m7,m8,m9,m10⟩:=HM.out w2 O2.out.fr;have hb2:=O2.out.below HOB.out (show base<=w1.heap.size by omega);have HZ2:=H_ (IntsAt.below HZ.out hb2 hB);have hup : ∀ k,(Value.slice A2 (n+q) c2).ownBlock=some k->base<=k:=fun k hk=>by
  rcases O2.out.at_ k hk with h | h
  · exact HOB.out k h
  · omega
 have hs2:base<=w2.heap.size:=by have:=O2.out.fr.size; omega
 have HUP:=H_ hup;have fin : ∀ (w3:World) (v3:Value) (N:Nat) (tl:List UInt8),rob ⟨rk,ru,rm,⟨u,md,d,id,fl,ks,tx'⟩,rt⟩=nums [rk]++tl->N=tl.length->OM w2 (.slice A2 (n+q) c2) w3 (n+q+N) v3 (l++nums [rk]++tl)->OM w (.slice A n c0) w3 (n+(rob ⟨rk,ru,rm,⟨u,md,d,id,fl,ks,tx'⟩,rt⟩).length) v3 (l++rob ⟨rk,ru,rm,⟨u,md,d,id,fl,ks,tx'⟩,rt⟩):=fun w3 v3 N tl h1 h2 h3=>by
  have e1:n+(rob ⟨rk,ru,rm,⟨u,md,d,id,fl,ks,tx'⟩,rt⟩).length=n+q+N:=by rw [h1,List.length_append,<- HQ.out,<- h2]; omega
  rw [e1,h1,<- List.append_assoc];exact (O0.out.trans O2.out).trans h3
 have FIN:=H_ fin;clear fin hup hb2;by_cases h1:rk=1
 · subst h1
   have kb:=msg_om (kc:=kc) (fl:=fl) (u:=u) (md:=md) (d:=d) (id:=id) (tx':=tx') (O2.out.own.up HUP.out) HZ2.out hB hs2 hkn hi ht (by omega);have KB:=H_ kb;clear kb;go_wp2_with (go_at_call 109; go_loud (
    refine KB.out.mono ?_;rintro e w3 ⟨v3,rfl,g3⟩;have O3:=H_ g3;clear g3 m0 m1 m2 m3 m4 m5 m6 m7 m8 m9 m10))
   go_ret;exact⟨v3,rfl,FIN.out _ _ _ _ (by unfold rob; simp) rfl O3.out⟩
 by_cases h2:rk=2
 · subst h2
   have O2d:=H_ (OM.go O2.out (Below.drew (Below.refl _ _)));have P2:=H_ (OM.go (OM.start O2.out.own) (Below.drew (Below.refl _ _)));have ka:=nums_any (base:=0) (cp:=2) ((OM.alloc O2d.out (.cells #[.int .i64 ru,.int .i64 rm] 3)).own) (ints_two w2.drew ru rm) (by simp) (fun _ ad e=>by injection e with e; subst e; exact own_none O2d.out.own) (by omega);have hl1:=nums_len [ru,rm];obtain⟨q2,hq2⟩ : ∃ q2,q2=(nums [ru,rm]).length:=⟨_,rfl⟩;rw [<- hq2] at ka hl1;have hq12:q2<=12:=hl1;have HQ2:=H_ hq2;have KA:=H_ ka;clear ka hq2 hl1;have hc2:=HM.out w2 O2.out.fr;have HZ2d:=H_ (fun (wr:World) (hb:Below base w2 wr)=>IntsAt.below HZ2.out hb hB);go_upto_region 6 with fail
   go_region_held3 (fun wr=>wr.cell? ⟨P,0,none⟩ = some (.int .i64 2)/\wr.cell? ⟨P,1,none⟩ = some (.int .i64 ru)/\wr.cell? ⟨P,2,none⟩ = some (.int .i64 rm)/\wr.cell? ⟨P,3,none⟩ = some (.int .i64 u)/\wr.cell? ⟨P,4,none⟩ = some (.int .i64 md)/\wr.cell? ⟨P,5,none⟩ = some (.int .i64 d)/\wr.cell? ⟨P,6,none⟩ = some (.string id)/\wr.cell? ⟨P,7,none⟩ = some (.int .i64 fl)/\wr.cell? ⟨P,8,none⟩ = some (.slice K kn kc)/\wr.cell? ⟨P,9,none⟩ = some (.string tx')/\wr.cell? ⟨P,10,none⟩ = some (.string rt)) (with_reducible first | exact hc2 | exact HM.out _ O3.out.fr | exact HM.out _ O4.out.fr | go_keep) (first
    | (go_at_call 97; go_loud (
       refine KA.out.mono ?_;rintro e w3 ⟨v3,rfl,g3⟩;obtain⟨A3,c3,rfl,hc3⟩:=g3.own.slice;have P3:=H_ (OM.trans (OM.alloc P2.out _) g3);have O3:=H_ (OM.trans (OM.alloc O2d.out _) g3);have hb3:=P3.out.below HUP.out hs2;have KB:=H_ (flags_om (kc:=kc) (fl:=fl) (u:=u) (md:=md) (d:=d) (id:=id) (tx':=tx') (P3.out.own.up (base:=base) (fun k hk=>by
        rcases P3.out.at_ k hk with h | h
        · exact HUP.out k h
        · omega)) (HZ2d.out _ hb3) hB (by have:=P3.out.fr.size; omega) hkn (by omega))
       clear g3 hb3;dsimp only))
    | (go_at_call 110; go_loud (
       refine KB.out.mono ?_;rintro e w4 ⟨v4,rfl,g4⟩;have P4:=H_ (OM.trans P3.out g4);have O4:=H_ (OM.trans O3.out g4);clear g4;dsimp only)))
   rename_i hHeld;clear hHeld hc2 m0 m1 m2 m3 m4 m5 m6 m7 m8 m9 m10;go_wp2_with fail
   go_ret;refine⟨v4,rfl,FIN.out _ _ (q2+(flb ⟨u,md,d,id,fl,ks,tx'⟩).length) (nums [ru,rm]++flb ⟨u,md,d,id,fl,ks,tx'⟩) (by unfold rob; simp) (by rw [List.length_append,<- HQ2.out]) ?_⟩;rw [<- Nat.add_assoc,<- List.append_assoc];exact P4.out
 by_cases h3:rk=3
 · subst h3
   have ka:=nums_any (base:=0) (cp:=2) ((OM.alloc O2.out (.cells #[.int .i64 ru,.int .i64 rm] 3)).own) (ints_two w2 ru rm) (by simp) (fun _ ad e=>by injection e with e; subst e; exact own_none O2.out.own) (by omega);have KA:=H_ ka;clear ka;go_wp2_with (go_at_call 97; go_loud (
    refine KA.out.mono ?_;rintro e w3 ⟨v3,rfl,g3⟩;have O3:=H_ (OM.trans (OM.alloc (OM.start O2.out.own) _) g3);clear g3 m0 m1 m2 m3 m4 m5 m6 m7 m8 m9 m10))
   go_ret;exact⟨v3,rfl,FIN.out _ _ _ _ (by unfold rob; simp) rfl O3.out⟩
 by_cases h6:rk=6
 · subst h6
   have ka:=nums_any (base:=0) (cp:=2) ((OM.alloc O2.out (.cells #[.int .i64 ru,.int .i64 rm] 3)).own) (ints_two w2 ru rm) (by simp) (fun _ ad e=>by injection e with e; subst e; exact own_none O2.out.own) (by omega);have KA:=H_ ka;clear ka;go_wp2_with (go_at_call 97; go_loud (
    refine KA.out.mono ?_;rintro e w3 ⟨v3,rfl,g3⟩;have O3:=H_ (OM.trans (OM.alloc (OM.start O2.out.own) _) g3);clear g3 m0 m1 m2 m3 m4 m5 m6 m7 m8 m9 m10))
   go_ret;exact⟨v3,rfl,FIN.out _ _ _ _ (by unfold rob; simp) rfl O3.out⟩
 by_cases h4:rk=4
 · subst h4
   have KA:=H_ (text_om (base:=0) O2.out.own.down rt (by omega) (by omega));go_wp2_with (go_at_call 96; go_loud (
    refine KA.out.mono ?_;rintro e w3 ⟨v3,rfl,g3⟩;have O3:=H_ g3;clear g3 m0 m1 m2 m3 m4 m5 m6 m7 m8 m9 m10))
   go_ret;exact⟨v3,rfl,FIN.out _ _ _ _ (by unfold rob; simp) rfl O3.out⟩
 by_cases h5:rk=5
 · subst h5
   have O2d:=H_ (OM.go O2.out (Below.drew (Below.refl _ _)));have P2:=H_ (OM.go (OM.start O2.out.own) (Below.drew (Below.refl _ _)));have ka:=nums_any (base:=0) (cp:=1) ((OM.alloc O2d.out (.cells #[.int .i64 ru] 3)).own) (ints_one w2.drew ru) (by simp) (fun _ ad e=>by injection e with e; subst e; exact own_none O2d.out.own) (by omega);have hl1:=nums_len [ru];obtain⟨q2,hq2⟩ : ∃ q2,q2=(nums [ru]).length:=⟨_,rfl⟩;rw [<- hq2] at ka hl1;have hq12:q2<=6:=hl1;have HQ2:=H_ hq2;have KA:=H_ ka;clear ka hq2 hl1;have hc2:=HM.out w2 O2.out.fr;go_upto_region 13 with fail
   go_region_held3 (fun wr=>wr.cell? ⟨P,0,none⟩ = some (.int .i64 5)/\wr.cell? ⟨P,1,none⟩ = some (.int .i64 ru)/\wr.cell? ⟨P,2,none⟩ = some (.int .i64 rm)/\wr.cell? ⟨P,3,none⟩ = some (.int .i64 u)/\wr.cell? ⟨P,4,none⟩ = some (.int .i64 md)/\wr.cell? ⟨P,5,none⟩ = some (.int .i64 d)/\wr.cell? ⟨P,6,none⟩ = some (.string id)/\wr.cell? ⟨P,7,none⟩ = some (.int .i64 fl)/\wr.cell? ⟨P,8,none⟩ = some (.slice K kn kc)/\wr.cell? ⟨P,9,none⟩ = some (.string tx')/\wr.cell? ⟨P,10,none⟩ = some (.string rt)) (with_reducible first | exact hc2 | exact HM.out _ O3.out.fr | exact HM.out _ O4.out.fr | go_keep) (first
    | (go_at_call 97; go_loud (
       refine KA.out.mono ?_;rintro e w3 ⟨v3,rfl,g3⟩;obtain⟨A3,c3,rfl,hc3⟩:=g3.own.slice;have P3:=H_ (OM.trans (OM.alloc P2.out _) g3);have O3:=H_ (OM.trans (OM.alloc O2d.out _) g3);have KB:=H_ (text_om (base:=0) P3.out.own rt (by omega) (by omega));clear g3;dsimp only))
    | (go_at_call 96; go_loud (
       refine KB.out.mono ?_;rintro e w4 ⟨v4,rfl,g4⟩;have P4:=H_ (OM.trans P3.out g4);have O4:=H_ (OM.trans O3.out g4);clear g4;dsimp only)))
   rename_i hHeld;clear hHeld hc2 m0 m1 m2 m3 m4 m5 m6 m7 m8 m9 m10;go_wp2_with fail
   go_ret;refine⟨v4,rfl,FIN.out _ _ (q2+(tx rt).length) (nums [ru]++tx rt) (by unfold rob; simp) (by rw [List.length_append,<- HQ2.out]) ?_⟩;rw [<- Nat.add_assoc,<- List.append_assoc];exact P4.out
 by_cases h7:rk=7
 · subst h7
   have ka:=nums_any (base:=0) (cp:=1) ((OM.alloc O2.out (.cells #[.int .i64 rm] 3)).own) (ints_one w2 rm) (by simp) (fun _ ad e=>by injection e with e; subst e; exact own_none O2.out.own) (by omega);have KA:=H_ ka;clear ka;go_wp2_with (go_at_call 97; go_loud (
    refine KA.out.mono ?_;rintro e w3 ⟨v3,rfl,g3⟩;have O3:=H_ (OM.trans (OM.alloc (OM.start O2.out.own) _) g3);clear g3 m0 m1 m2 m3 m4 m5 m6 m7 m8 m9 m10))
   go_ret;exact⟨v3,rfl,FIN.out _ _ _ _ (by unfold rob; simp) rfl O3.out⟩
 go_wp2_with fail
 go_ret;exact⟨_,rfl,FIN.out _ _ 0 [] (by unfold rob; simp [h1,h2,h3,h4,h5,h6,h7]) rfl (by rw [List.append_nil]; exact OM.start O2.out.own)⟩
end Go.Proofs.YtoljpfapphoflaaGreatDoor.RpC
