/-
  OlE + OlY + OlW
-/
import Derived.Test.YtoljpfapphoflaaGreatDoorZ7
import Derived.Test.YtoljpfapphoflaaGreatDoorL2
import Derived.Test.YtoljpfapphoflaaGreatDoorN1
import Derived.Test.YtoljpfapphoflaaGreatDoorZ9
import Derived.Test.YtoljpfapphoflaaGreatDoorL1
import Derived.Deep.RegionHeld3
import Derived.Deep.RegionHeld
import Derived.Test.YtoljpfapphoflaaGreatDoorK3
import Derived.Lib.SmallJoins
set_option linter.unusedVariables false
set_option linter.unusedSimpArgs false
set_option maxHeartbeats 2000000
set_option maxRecDepth 100000
namespace Go.Proofs.YtoljpfapphoflaaGreatDoor.OlE
open PtK
open Go.RowKit BxD PkKit PkA PkB PkC PkR OlD OlA OlB OlOm OlC
open OlR (mkB)
open BxKit (RowAt IntsAt StrsAt MsgsAt StrsAt.below MsgsAt.below)
def AF (cg:Bool) (w:World) (o:Obj) (wr:World):Prop:=Below (w.heap.size+2) ((w.alloc (.cells #[.string (mkB cg),.bool cg] 189)).alloc o) wr
section
variable {cg : Bool} {w wr w2 : World} {o : Obj}
theorem AF.start (cg:Bool) (w:World) (o:Obj):AF cg w o ((w.alloc (.cells #[.string (mkB cg),.bool cg] 189)).alloc o):=Below.refl _ _
theorem AF.size (h:AF cg w o wr):w.heap.size+2<=wr.heap.size:=by have:=Below.size h; simpa using this
theorem AF.go (h:AF cg w o wr) (hb:Below wr.heap.size wr w2):AF cg w o w2:=Below.trans h (hb.mono h.size)
theorem AF.below (h:AF cg w o wr):Below w.heap.size w wr:=(((Below.refl _ _).alloc lr_ _).alloc (by simp) o).trans (Below.mono h (by omega))
theorem AF.frm (h:AF cg w o wr):FBk wr w.heap.size cg:=by
 refine (Below.block h w.heap.size (by omega)).trans ?_;exact (heap_alloc_old _ _ (by simp)).trans (heap_alloc_new w _)
theorem AF.box {c0 c1 c2 c3 c4 c5:Value} {t:TypeId} (h:AF cg w (.cells #[c0,c1,c2,c3,c4,c5] t) wr) :
 wr.cell? ⟨w.heap.size+1,0,none⟩ = some c0/\wr.cell? ⟨w.heap.size+1,1,none⟩ = some c1/\wr.cell? ⟨w.heap.size+1,2,none⟩ = some c2/\wr.cell? ⟨w.heap.size+1,3,none⟩ = some c3/\wr.cell? ⟨w.heap.size+1,4,none⟩ = some c4/\wr.cell? ⟨w.heap.size+1,5,none⟩ = some c5:=by
 have hb:wr.heap[w.heap.size+1]? = some (.cells #[c0,c1,c2,c3,c4,c5] t (0,0)):=by
  refine (Below.block h (w.heap.size+1) (by omega)).trans ?_;have:=heap_alloc_new (w.alloc (.cells #[.string (mkB cg),.bool cg] 189)) (.cells #[c0,c1,c2,c3,c4,c5] t)
  rwa [show (w.alloc (.cells #[.string (mkB cg),.bool cg] 189)).heap.size=w.heap.size+1 by simp] at this
 have c:=fun o=>cell_of_row wr (w.heap.size+1) o _ _ _ hb;exact⟨(c 0).trans rfl,(c 1).trans rfl,(c 2).trans rfl,(c 3).trans rfl,(c 4).trans rfl,(c 5).trans rfl⟩
end
theorem em_snoc {cg:Bool} {ms:List Msg} {k:Nat} {x:Msg} (h:ms[k]? = some x):(ms.take (k+1)).flatMap (em cg)=(ms.take k).flatMap (em cg)++em cg x:=by
 obtain⟨hl,rfl⟩:=List.getElem?_eq_some_iff.1 h;rw [List.take_succ_eq_append_getElem hl,List.flatMap_append];simp
theorem ints_at {w:World} {g:Nat} (hg:g=w.heap.size) (a b:Int):IntsAt (w.alloc (.cells #[.int .i64 a,.int .i64 b] 3)) (w.alloc (.cells #[.int .i64 a,.int .i64 b] 3)).heap.size (some ⟨g,0,none⟩) 2 [a,b]:=by
 subst hg;have:=ints_two w a b
 rwa [show (w.alloc (.cells #[.int .i64 a,.int .i64 b] 3)).heap.size=w.heap.size+1 by simp]
theorem lead_i {w:World} {cg:Bool} (a b:Int) :
 Calls Tryz.prog 194 #[.slice (some ⟨w.heap.size,0,none⟩) 3 (grownCap w 3 0 5),.slice (some ⟨(Lib.bytesWorld w 5 (mkB cg)).heap.size,0,none⟩) 2 2] ((Lib.bytesWorld w 5 (mkB cg)).alloc (.cells #[.int .i64 a,.int .i64 b] 3))
  fun e w'=>∃ v',e = .returned v'/\OO w.heap.size w w' 11 v' (mk cg++fxs [a,b]):=by
 have h0:=OlOq.conv_oo w (mkB cg) (by show (mk cg).toArray.size<=1000000; simp [mk]);have h1:OO w.heap.size w (Lib.bytesWorld w 5 (mkB cg)) 3 (.slice (some ⟨w.heap.size,0,none⟩) 3 (grownCap w 3 0 5)) (mk cg):=h0;have h2:=h1.alloc (.cells #[.int .i64 a,.int .i64 b] 3);refine (appendFixed_any (cp:=2) (N:=11) h2.own (ints_at rfl a b) lr_ (fun ad e=>by injection e with e; subst e; exact own_none h1.own) (by decide) rfl).mono ?_;rintro e w' ⟨v',rfl,g⟩;exact⟨v',rfl,h2.om g⟩
theorem lead_ii {w:World} {cg:Bool} (a b:Int) :
 Calls Tryz.prog 194 #[.slice (some ⟨w.heap.size+1,0,none⟩) 3 (grownCap (w.alloc (.cells #[.int .i64 a,.int .i64 b] 3)) 3 0 5),.slice (some ⟨w.heap.size,0,none⟩) 2 2] (Lib.bytesWorld (w.alloc (.cells #[.int .i64 a,.int .i64 b] 3)) 5 (mkB cg))
  fun e w'=>∃ v',e = .returned v'/\OO w.heap.size w w' 11 v' (mk cg++fxs [a,b]):=by
 have hs:(w.alloc (.cells #[.int .i64 a,.int .i64 b] 3)).heap.size=w.heap.size+1:=by simp
 have h0:=OlOq.conv_oo (w.alloc (.cells #[.int .i64 a,.int .i64 b] 3)) (mkB cg) (by show (mk cg).toArray.size<=1000000; simp [mk]);have h1:OO (w.alloc (.cells #[.int .i64 a,.int .i64 b] 3)).heap.size (w.alloc (.cells #[.int .i64 a,.int .i64 b] 3)) (Lib.bytesWorld (w.alloc (.cells #[.int .i64 a,.int .i64 b] 3)) 5 (mkB cg)) 3 (.slice (some ⟨(w.alloc (.cells #[.int .i64 a,.int .i64 b] 3)).heap.size,0,none⟩) 3 (grownCap (w.alloc (.cells #[.int .i64 a,.int .i64 b] 3)) 3 0 5)) (mk cg):=h0;have hz:=IntsAt.below (ints_at rfl a b) h1.bel lr_;rw [hs] at h1 hz;have hbl:Below w.heap.size w (Lib.bytesWorld (w.alloc (.cells #[.int .i64 a,.int .i64 b] 3)) 5 (mkB cg)):=((Below.refl w.heap.size w).alloc lr_ _).trans (h1.bel.mono (by omega));have h2:OO w.heap.size w (Lib.bytesWorld (w.alloc (.cells #[.int .i64 a,.int .i64 b] 3)) 5 (mkB cg)) 3 (.slice (some ⟨w.heap.size+1,0,none⟩) 3 (grownCap (w.alloc (.cells #[.int .i64 a,.int .i64 b] 3)) 3 0 5)) (mk cg):=⟨h1.own.down.up (fun k hk=>by have:=(h1.own.lt k hk).1; omega),hbl,Nat.le_refl _⟩;refine (appendFixed_any (cp:=2) (N:=11) h2.own hz (by have:=h1.bel.size; omega) (fun ad e=>by injection e with e; subst e; intro e2; simp [Value.ownBlock] at e2) (by decide) rfl).mono ?_;rintro e w' ⟨v',rfl,g⟩;exact⟨v',rfl,h2.om g⟩
theorem bytes_ok {cg:Bool} {w:World} {b:Box} {WA MA:Option Addr} {wn wc mn mc B:Nat} (hx:StrsAt w B WA wn b.words) (hm:MsgsAt w B MA mn b.msgs) (hwc:wn<=wc) (hmc:mn<=mc) (hB:B<=w.heap.size) (h0:mbE b=0) :
 Calls Tryz.prog 159 #[.agg #[.string (mkB cg),.bool cg],.agg #[.string b.id,.int .i64 b.valid,.int .i64 b.next,.int .i64 b.high,.slice WA wn wc,.slice MA mn mc]] w (BytesOut (eb cg b) 0 w):=by
 have A0:=H_ (AF.start cg w (.cells #[.string b.id,.int .i64 b.valid,.int .i64 b.next,.int .i64 b.high,.slice WA wn wc,.slice MA mn mc] 25));have hbl:=A0.out.below;have HX:=H_ (StrsAt.below hx hbl hB);have HM:=H_ (MsgsAt.below hm hbl hB);have H0:=H_ h0;have HG:=H_ (OlP.good_of h0);have hwm:=hx.max;clear hx hm h0 hbl;go_enter Tryz.func159,Tryz.ntmps159;go_upto_region 1 with fail
 generalize (World.alloc (World.alloc w _) _)=w1 at A0 HX HM ⊢;have hs1:=A0.out.size;have km:=BxB.may_box (bid:=b.id) (bv:=b.valid) (bn:=b.next) (bh:=b.high) (mc:=mc) HX.out HM.out (by omega) hwc;rw [show mbE ⟨b.id,b.valid,b.next,b.high,b.words,b.msgs⟩=0 from H0.out] at km;have KM:=H_ km;clear km;obtain⟨c0,c1,c2,c3,c4,c5⟩:=A0.out.box
 go_upto_region 3 with (go_at_call 67; go_loud (
              refine KM.out.mono ?_;rintro e w2 ⟨rfl,hb2⟩;have A2:=H_ (A0.out.go hb2);have HX2:=H_ (StrsAt.below HX.out hb2 (by omega));have HM2:=H_ (MsgsAt.below HM.out hb2 (by omega));clear hb2 c0 c1 c2 c3 c4 c5))
 clear A0 HX HM;have hs2:=A2.out.size;obtain⟨c0,c1,c2,c3,c4,c5⟩:=A2.out.box;obtain⟨k,hk⟩ : ∃ k,k=min wn 32:=⟨_,rfl⟩;have hmin:(if (32:Int)<(wn:Int) then (32:Int) else (wn:Int))=(k:Int):=by split <;> omega
 have hmin2:min (wn:Int) 32=(k:Int):=by omega
 have hkw:k<=wn:=by omega
 have hkc:k<=wc:=by omega
 have hk32:k<=32:=by omega
 have HK:=H_ hk;clear hk;go_upto_region 4 with fail
 clear hmin hmin2 c0 c4 c5;obtain⟨f0,f1⟩:=A2.out.frm.cells;have hMs:(mkB cg).size=3:=rfl;have hcv : ∀ wr:World,(convert 9 37 (.string (mkB cg))).run Tryz.prog wr = .ok (.slice (some ⟨wr.heap.size,0,none⟩) 3 (grownCap wr 3 0 5)) (Lib.bytesWorld wr 5 (mkB cg)):=fun wr =>
  Lib.run_convert_string_bytes (P:=Tryz.prog) wr 9 37 5 (mkB cg) Tryz.underlying9 Tryz.underlying37 Tryz.underlying5
 have hbd:=(Below.refl w2.heap.size w2).drew;have hbi:Below w2.heap.size w2 (Lib.bytesWorld w2.drew 5 (mkB cg)):=hbd.trans (Lib.bytesWorld_below w2.drew 5 (mkB cg));have hbia:=hbi.alloc hbi.size (.cells #[.int .i64 b.valid,.int .i64 b.next] 3);have hbw:Below w2.heap.size w2 (w2.alloc (.cells #[.int .i64 b.valid,.int .i64 b.next] 3)).drew:=hbd.alloc lr_ (.cells #[.int .i64 b.valid,.int .i64 b.next] 3);have hbii:Below w2.heap.size w2 (Lib.bytesWorld (w2.alloc (.cells #[.int .i64 b.valid,.int .i64 b.next] 3)).drew 5 (mkB cg)):=hbw.trans ((Lib.bytesWorld_below (w2.alloc (.cells #[.int .i64 b.valid,.int .i64 b.next] 3)).drew 5 (mkB cg)).mono (by simp));have KI:=H_ (show Calls Tryz.prog 194 #[.slice (some ⟨w2.heap.size,0,none⟩) 3 (grownCap w2.drew 3 0 5),.slice (some ⟨(Lib.bytesWorld w2.drew 5 (mkB cg)).heap.size,0,none⟩) 2 2] ((Lib.bytesWorld w2.drew 5 (mkB cg)).alloc (.cells #[.int .i64 b.valid,.int .i64 b.next] 3)) (fun e w'=>∃ v',e = .returned v'/\OO w2.drew.heap.size w2.drew w' 11 v' (mk cg++fxs [b.valid,b.next])) from lead_i (w:=w2.drew) (cg:=cg) b.valid b.next);have KJ:=H_ (show Calls Tryz.prog 194 #[.slice (some ⟨w2.heap.size+1,0,none⟩) 3 (grownCap (w2.alloc (.cells #[.int .i64 b.valid,.int .i64 b.next] 3)).drew 3 0 5),.slice (some ⟨w2.heap.size,0,none⟩) 2 2] (Lib.bytesWorld (w2.alloc (.cells #[.int .i64 b.valid,.int .i64 b.next] 3)).drew 5 (mkB cg)) (fun e w'=>∃ v',e = .returned v'/\OO w2.drew.heap.size w2.drew w' 11 v' (mk cg++fxs [b.valid,b.next])) from lead_ii (w:=w2.drew) (cg:=cg) b.valid b.next);have HA:=H_ (show ∀ (wr:World),Below w2.heap.size w2 wr->wr.cell? ⟨w.heap.size,0,none⟩ = some (.string (mkB cg))/\wr.cell? ⟨w.heap.size,1,none⟩ = some (.bool cg)/\wr.cell? ⟨w.heap.size+1,1,none⟩ = some (.int .i64 b.valid)/\wr.cell? ⟨w.heap.size+1,2,none⟩ = some (.int .i64 b.next)/\wr.cell? ⟨w.heap.size+1,3,none⟩ = some (.int .i64 b.high) from fun wr hb=>by
  have a:=A2.out.go hb;exact⟨a.frm.cells.1,a.frm.cells.2,a.box.2.1,a.box.2.2.1,a.box.2.2.2.1⟩)
 have HBX:=H_ (fun (wr:World) (hb:Below w2.heap.size w2 wr)=>(A2.out.go hb).box.2.2.2.2);obtain⟨q,hq⟩ : ∃ q,q=(ch cg b.high).length:=⟨_,rfl⟩;have hq4:q<=4:=by rw [hq]; exact ch_le cg b.high
 have HQ:=H_ hq;clear hq;go_region_held (fun wr=>wr.cell? ⟨w.heap.size,0,none⟩ = some (.string (mkB cg))/\wr.cell? ⟨w.heap.size,1,none⟩ = some (.bool cg)/\wr.cell? ⟨w.heap.size+1,1,none⟩ = some (.int .i64 b.valid)/\wr.cell? ⟨w.heap.size+1,2,none⟩ = some (.int .i64 b.next)/\wr.cell? ⟨w.heap.size+1,3,none⟩ = some (.int .i64 b.high)) (with_reducible first | exact⟨f0,f1,c1,c2,c3⟩ | exact HA.out _ hbi | exact HA.out _ hbia | exact HA.out _ hbw | exact HA.out _ hbii | exact HA.out _ O3.out.bel | exact HA.out _ O4.out.bel | go_keep) (first
  | (go_at_call 194
     first | (with_reducible refine KI.out.mono ?_) | (with_reducible refine KJ.out.mono ?_) | go_loud (refine KI.out.mono ?_)
     rintro e w3 ⟨v3,rfl,g3⟩;obtain⟨A3,k3,rfl,hk3⟩:=g3.own.slice;have O3:=H_ (show OO w2.heap.size w2 w3 11 (.slice A3 11 k3) (mk cg++fxs [b.valid,b.next]) from ⟨g3.own,hbd.trans g3.bel,Nat.le_refl _⟩);have KC:=appendChange_om (cg:=cg) (M:=mkB cg) g3.own b.high (show w2.drew.heap.size<=w3.heap.size from g3.bel.size) (by decide);rw [<- HQ.out] at KC;have KC:=H_ KC;clear g3;dsimp only)
  | (go_at_call 193
     refine KC.out.mono ?_;rintro e w4 ⟨v4,rfl,g4⟩;obtain⟨A4,k4,rfl,hk4⟩:=g4.own.slice;have O4:=H_ (O3.out.om g4);clear g4;dsimp only))
 all_goals
  rename_i hHeld;clear hHeld hbd hbi hbia hbw hbii KI KJ hcv hMs f0 f1 c1 c2 c3 O3 KC;obtain⟨l0,hl0⟩ : ∃ l0,l0=mk cg++fxs [b.valid,b.next]++ch cg b.high:=⟨_,rfl⟩;rw [<- hl0] at O4;have HL0:=H_ hl0;clear hl0;have KA:=H_ (appendFixed_any (cp:=1) (N:=11+q+4) (O4.out.alloc (.cells #[.int .i64 (k:Nat)] 3)).own (ints_one w4 (k:Nat)) (by simp) (fun ad e=>by injection e with e; subst e; exact own_none O4.out.own) (by omega) rfl);go_upto_region 6 with (go_at_call 194; go_loud (
   refine KA.out.mono ?_;rintro e w5 ⟨v5,rfl,g5⟩;obtain⟨A5,k5,rfl,hk5⟩:=g5.own.slice;have O5:=H_ ((O4.out.alloc _).om g5);clear g5))
  clear KA O4;obtain⟨l1,hl1⟩ : ∃ l1,l1=l0++fxs [(k:Int)]:=⟨_,rfl⟩;rw [<- hl1] at O5;have HL1:=H_ hl1;clear hl1;go_wp2_with fail
  go_loopw [7,42] (fun s7 s42 wr=>∃ (v:Value) (j n:Nat),s7=v/\j<=k/\s42 = .int .i64 j/\n<=19+306*j/\Hid (OO w2.heap.size w2 wr n v (l1++(b.words.take j).flatMap tx))) (fun _ s42 _=>k-(intOf s42).toNat)
  case atStart=>exact⟨_,0,11+q+4,rfl,Nat.zero_le _,rfl,by omega,by have:=O5.out; simpa [Hid] using this⟩
  case round =>
   clear O5;obtain⟨v,j,n,rfl,hj,rfl,hn,HO⟩:=hrel;obtain⟨A6,k6,rfl,hk6⟩:=HO.out.own.slice;have hbs:=HO.out.bel.size;by_cases hlt:j<k
   · obtain⟨ad,s,rfl,e1,q1⟩:=BxKit.StrsAt.at_ HX2.out HO.out.bel (by omega) (show j<wn by omega)
     have hsz:s.size<=24:=(atB_size (OlP.wordsB_at HG.out.ws s (List.mem_of_getElem? e1))).2;have htl:=PkK.tx_len (s:=s) (by omega);have htp:0<(tx s).length:=by unfold tx; rw [List.length_append]; have:=Lib.uvarint_pos s.size; omega
     have KT:=H_ (PtA.text_om HO.out.own s (by omega) (by omega));have HSN:=H_ (tx_snoc e1);obtain⟨T,hT⟩ : ∃ T,T=(tx s).length:=⟨_,rfl⟩;rw [<- hT] at htl htp KT;clear e1 hT;go_wp2_with (go_at_call 96; go_loud (
      refine KT.out.mono ?_;rintro e w8 ⟨v8,rfl,o8⟩;have HO8:=H_ (show OO w2.heap.size w2 w8 (n+T) v8 (l1++(b.words.take (j+1)).flatMap tx) by rw [HSN.out,<- List.append_assoc]; exact HO.out.om o8);clear o8 q1))
     go_roundw
     case rel=>exact⟨v8,j+1,n+T,rfl,by omega,by go_num,by omega,HO8⟩
     case measure=>simp [intOf]; omega
   · obtain rfl:k=j:=by omega
     obtain⟨c4,c5⟩:=HBX.out wr HO.out.bel;have hml:=HG.out.ml;have hmn:mn<=60:=by rw [<- HM2.out.len]; exact hml
     have KA:=H_ (appendFixed_any (cp:=1) (N:=n+4) (HO.out.alloc (.cells #[.int .i64 (mn:Nat)] 3)).own (ints_one wr (mn:Nat)) (by simp) (fun ad e=>by injection e with e; subst e; exact own_none HO.out.own) (by omega) rfl);go_upto_region 12 with (go_at_call 194; go_loud (
      refine KA.out.mono ?_;rintro e w6 ⟨v6,rfl,g6⟩;obtain⟨A7,k7,rfl,hk7⟩:=g6.own.slice;have O6:=H_ ((HO.out.alloc _).om g6);clear g6 c4 c5))
     obtain⟨c4,c5⟩:=HBX.out w6 O6.out.bel;have hqw:(b.words.take k).flatMap tx=(b.words.take 32).flatMap tx:=by
      rw [HK.out];by_cases h:wn<=32
      · rw [Nat.min_eq_left h,List.take_of_length_le (by rw [HX2.out.len]; omega),List.take_of_length_le (by rw [HX2.out.len]; omega)]
      · rw [Nat.min_eq_right (by omega)]
     obtain⟨l2,hl2⟩ : ∃ l2,l2=l1++(b.words.take k).flatMap tx++fxs [((mn:Nat):Int)]:=⟨_,rfl⟩;rw [<- hl2] at O6;have HL2:=H_ (show l2++b.msgs.flatMap (em cg)=eb cg b by
      rw [hl2,hqw,HL1.out,HL0.out,HK.out];unfold eb ebR fxs;simp only [List.flatMap_cons,List.flatMap_nil,List.append_nil,List.append_assoc,mx_nat,<- HX2.out.len,<- HM2.out.len])
     clear hl2 hqw KA HO HX2;go_wp2_with fail
     go_loopw [7,59] (fun s7 s60 wr=>∃ (v:Value) (i n1:Nat),s7=v/\i<=mn/\s60 = .int .i64 i/\n1<=n+4+321*i/\Hid (OO w2.heap.size w2 wr n1 v (l2++(b.msgs.take i).flatMap (em cg)))) (fun _ s60 _=>mn-(intOf s60).toNat)
     case atStart=>exact⟨_,0,n+4,rfl,Nat.zero_le _,rfl,by omega,by have:=O6.out; simpa [Hid] using this⟩
     case round =>
      clear O6;clear c4 c5;obtain⟨v,i,n1,rfl,hi,rfl,hn1,HO⟩:=hrel;obtain⟨A8,k8,rfl,hk8⟩:=HO.out.own.slice;have hbs1:=HO.out.bel.size;by_cases hlt1:i<mn
      · obtain⟨ad,u,md,d,id,fl,ks,tx',K,kn,kc,rfl,hab,e1,m0,m1,m2,m3,m4,m5,m6,hkc,hks,z1,z2⟩:=BxKit.MsgsAt.sp HM2.out HO.out.bel (by omega) hlt1
        obtain⟨p1,p2,p3,p4,p5,p6,p7⟩:=OlP.mm_parts (HG.out.ms _ (List.mem_of_getElem? e1)).1;dsimp only at p5 p6 p7;have HSN:=H_ (em_snoc (cg:=cg) e1);have hel:(em cg ⟨u,md,d,id,fl,ks,tx'⟩).length<=321:=by rw [em_len]; have:=ch_le cg md; show 17+(ch cg md).length+tx'.size<=321; omega
        obtain⟨E,hE⟩ : ∃ E,E=(em cg ⟨u,md,d,id,fl,ks,tx'⟩).length:=⟨_,rfl⟩;have HOA:=H_ (HO.out.alloc (.cells #[.int .i64 u,.int .i64 md,.int .i64 d,.string id,.int .i64 fl,.slice K kn kc,.string tx'] 61));obtain⟨f0,f1⟩:=(A2.out.go HOA.out.bel).frm.cells;have KM:=appendMsg_any (cg:=cg) (kc:=kc) (u:=u) (md:=md) (d:=d) (id:=id) HOA.out.own (BxKit.IntsAt.below hks ((Below.refl w2.heap.size wr).alloc hbs1 (.cells #[.int .i64 u,.int .i64 md,.int .i64 d,.string id,.int .i64 fl,.slice K kn kc,.string tx'] 61)) (by omega)) (show B<=w2.heap.size by omega) (by simp; omega) (fun k hk=>((OlD.keysB_rise p6).2 k hk).1) (show 0<=fl/\fl<=255 from ⟨p5.1,by have:=p5.2; omega⟩) p7 (by omega);rw [<- hE] at KM hel;have KM:=H_ KM;clear e1 hks p1 p2 p3 p4 p5 p6 p7 hE;go_wp2_with (go_at_call 195; go_loud (
         refine KM.out.mono ?_;rintro e w7 ⟨v7,rfl,o7⟩;have HO7:=H_ (show OO w2.heap.size w2 w7 (n1+E) v7 (l2++(b.msgs.take (i+1)).flatMap (em cg)) by rw [HSN.out,<- List.append_assoc]; exact HOA.out.trans o7);clear o7 m0 m1 m2 m3 m4 m5 m6 f0 f1))
        go_roundw
        case rel=>exact⟨v7,i+1,n1+E,rfl,by omega,by go_num,by omega,HO7⟩
        case measure=>simp [intOf]; omega
      · obtain rfl:mn=i:=by omega
        have ho:=HO.out;rw [List.take_of_length_le (by rw [HM2.out.len]; exact Nat.le_refl _),HL2.out] at ho;have HO2:=H_ ho;clear ho HO;go_wp2_with fail
        go_ret2;exact⟨A8,n1,k8,rfl,hk8,HO2.out.own.bytes,A2.out.below.trans (HO2.out.bel.mono (by omega)),fun ad e=>by subst e; have h1:=ow_blk HO2.out.own; have h2:=A2.out.below.size; omega⟩
end Go.Proofs.YtoljpfapphoflaaGreatDoor.OlE

set_option maxHeartbeats 4000000
set_option maxRecDepth 100000
namespace Go.Proofs.YtoljpfapphoflaaGreatDoor.OlY
open Go.RowKit BxD BxKit BxR BxC OlD OlOm PtD PtK PtR OlR OlT OlU OlV
open PkKit (BytesAt)
open PkF (ptr RD)
theorem str_size (s:St):(strS s).1.size<=300:=by
 unfold strS;show ((itS byteU (cntS 300 s).1 (cntS 300 s).2).1.toArray).size<=300;have:=OlS.it_len byteU (cntS 300 s).1 (cntS 300 s).2;have:=cnt_le 300 s;simp;omega
theorem keysN_len (k:Nat):(keysN k).length<=32:=OlB.kN_le k 32
theorem own_size (id:ByteArray) (u:Int) (h:u<=9223372036854775807) (hid:id.size<=200):(ownT id u).size<=300:=by
 rw [BxO.own_parts];have:=BxO.digs_len h;simp only [ByteArray.size_append];have e1:(⟨#[101]⟩:ByteArray).size=1:=rfl;have e2:(⟨#[45]⟩:ByteArray).size=1:=rfl;have e3:(⟨(BxO.digs u).toArray⟩:ByteArray).size=(BxO.digs u).length:=by show ((BxO.digs u).toArray).size=_; simp
 omega
theorem msg_size (cg:Bool) (id:ByteArray) (s:St) (hid:id.size<=200):(msgS cg id s).1.keys.length<=32/\(msgS cg id s).1.id.size<=300/\(msgS cg id s).1.text.size<=300:=by
 unfold msgS;simp only;exact⟨keysN_len _,own_size id _ (by have:=fix_lt s; omega) hid,str_size _⟩
theorem box_sizes (cg:Bool) (id:ByteArray) (s:St) (hid:id.size<=200):(boxS cg id s).1.words.length<=32/\(boxS cg id s).1.msgs.length<=60/\(∀ x∈(boxS cg id s).1.words,x.size<=24)/\∀ m∈(boxS cg id s).1.msgs,m.keys.length<=32/\m.id.size<=300/\m.text.size<=300:=by
 unfold boxS;simp only;refine⟨?_, ?_, ?_, ?_⟩
 · rw [OlS.it_len]; exact cnt_le _ _
 · rw [OlS.it_len]; exact cnt_le _ _
 · intro x hx
   obtain⟨s',rfl⟩:=it_mem _ _ _ hx;exact txt_size _
 · intro m hm
   obtain⟨s',rfl⟩:=it_mem _ _ _ hm;exact msg_size cg id s' hid
theorem no_bytes3 {p:Option Addr} {M:ByteArray} {c:Bool} (k:Nat) (x:Int):(#[.pointer p,.string M,.bool c]:Array Value)[k]?≠some (.int .u8 x):=by
 match k with
 | 0=>simp
 | 1=>simp
 | 2=>simp
 | k+3=>simp
structure PS (cg:Bool) (w wr:World):Prop where
 bel:Below w.heap.size w wr
 frm:OlC.FBk wr w.heap.size cg
 res:wr.heap[w.heap.size+1]? = some (.cells zbox 25 (0,0))
theorem PS.lt {cg:Bool} {w wr:World} (h:PS cg w wr):w.heap.size+1<wr.heap.size:=(gs_ h.res).1
theorem PS.go {cg:Bool} {w wr w2:World} (h:PS cg w wr) (hb:Below wr.heap.size wr w2):PS cg w w2:=⟨h.bel.trans (hb.mono h.bel.size),(hb.block _ (Nat.lt_of_succ_lt h.lt)).trans h.frm,(hb.block _ h.lt).trans h.res⟩
theorem PS.fr {cg:Bool} {w wr w2:World} {R T:Nat} (h:PS cg w wr) (hf:Fr2 R T wr w2) (hR:w.heap.size+1<R) (hT:w.heap.size+1<T):PS cg w w2:=⟨h.bel.trans (hf.to h.bel.size (by omega) (by omega)),(hf.block _ (Nat.lt_of_succ_lt h.lt) (by omega) (by omega)).trans h.frm,(hf.block _ h.lt (by omega) (by omega)).trans h.res⟩
theorem PS.alloc {cg:Bool} {w wr:World} (h:PS cg w wr) (o:Obj):PS cg w (wr.alloc o):=h.go ((Below.refl _ _).alloc lr_ o)
theorem PS.set {cg:Bool} {w wr:World} (h:PS cg w wr) {P:Nat} (hP:w.heap.size+1<P) (i:Nat) (v:Value):PS cg w (wr.setCell ⟨P,i,none⟩ v) :=
 ⟨h.bel.setCell (p:=⟨P,i,none⟩) (by show w.heap.size<=P; omega) v,(Below.heap_setCell wr ⟨P,i,none⟩ v w.heap.size (by show w.heap.size≠P; omega)).trans h.frm,(Below.heap_setCell wr ⟨P,i,none⟩ v (w.heap.size+1) (by show w.heap.size+1≠P; omega)).trans h.res⟩
theorem ps_none {cg:Bool} {w wr:World} (h:PS cg w wr) (er:Int) : ∃ W,W=(((((wr.setCell ⟨w.heap.size+1,0,none⟩ (.string ⟨#[]⟩)).setCell ⟨w.heap.size+1,1,none⟩ (.int .i64 0)).setCell ⟨w.heap.size+1,2,none⟩ (.int .i64 0)).setCell ⟨w.heap.size+1,3,none⟩ (.int .i64 0)).setCell ⟨w.heap.size+1,4,none⟩ (.slice none 0 0)).setCell ⟨w.heap.size+1,5,none⟩ (.slice none 0 0) /\
 W.cell? ⟨w.heap.size+1,0,none⟩ = some (.string ⟨#[]⟩)/\W.cell? ⟨w.heap.size+1,1,none⟩ = some (.int .i64 0)/\W.cell? ⟨w.heap.size+1,2,none⟩ = some (.int .i64 0)/\W.cell? ⟨w.heap.size+1,3,none⟩ = some (.int .i64 0)/\W.cell? ⟨w.heap.size+1,4,none⟩ = some (.slice none 0 0)/\W.cell? ⟨w.heap.size+1,5,none⟩ = some (.slice none 0 0) /\
 ParseNew nB er w (.returned (.tuple #[.agg #[.string ⟨#[]⟩,.int .i64 0,.int .i64 0,.int .i64 0,.slice none 0 0,.slice none 0 0],.int .i64 er])) W:=by
 obtain⟨W,hW,a0,a1,a2,a3,a4,a5,hg⟩:=ret6 h.res (.string ⟨#[]⟩) (.int .i64 0) (.int .i64 0) (.int .i64 0) (.slice none 0 0) (.slice none 0 0);exact⟨W,hW,a0,a1,a2,a3,a4,a5,none,0,0,none,0,0,rfl,Nat.le_refl _,Nat.le_refl _,fun _ _ _=>⟨RowAt.nil _ _ _ _ _,RowAt.nil _ _ _ _ _⟩,h.bel.grown hg h.bel.size (fun k e=>by have:w.heap.size+1=k:=Option.some.inj e; omega)⟩
theorem parse_any {cg:Bool} {w:World} {B n cp:Nat} {A:Option Addr} {l:List UInt8} {id:ByteArray} (ht:BxO.Tab w) (hz:BytesAt w B A n l) (hB:B<=w.heap.size) (hc:n<=cp) (hn:n<=140737488355328) (hid:id.size<=200) :
 Calls Tryz.prog 160 #[.agg #[.string (mkB cg),.bool cg],.slice A n cp,.string id] w (ParseNew (parseS cg l id).1 (parseS cg l id).2 w):=by
 have hbz:=((Below.refl w.heap.size w).alloc lr_ (.cells #[.string (mkB cg),.bool cg] 189)).alloc (by simp) (.cells zbox 25);have P0:=H_ (show PS cg w ((w.alloc (.cells #[.string (mkB cg),.bool cg] 189)).alloc (.cells zbox 25)) from ⟨hbz,(heap_alloc_old _ _ (by simp)).trans (heap_alloc_new w _),by
  have:=heap_alloc_new (w.alloc (.cells #[.string (mkB cg),.bool cg] 189)) (.cells zbox 25)
  rwa [show (w.alloc (.cells #[.string (mkB cg),.bool cg] 189)).heap.size=w.heap.size+1 by simp] at this⟩)
 unfold zbox at P0 hbz;have HZ:=H_ (hz.below hbz hB);have HT:=H_ ht;clear ht hz hbz;go_enter Tryz.func160,Tryz.ntmps160;go_upto_region 1 with fail
 generalize (World.alloc (World.alloc w _) _)=w0 at P0 HZ ⊢;obtain⟨f0,f1⟩:=P0.out.frm.cells;have hl0:=P0.out.lt;obtain⟨M,hM⟩ : ∃ M,M=mkB cg:=⟨_,rfl⟩;have hMs:M.size=3:=by rw [hM]; rfl
 have hMd:M.data.toList=mk cg:=by rw [hM]; rfl
 have hcv:=Lib.run_convert_string_bytes (P:=Tryz.prog) w0 9 37 5 M Tryz.underlying9 Tryz.underlying37 Tryz.underlying5;have hoo:=OlOq.conv_oo w0 M (by omega);obtain⟨w1,hw1⟩ : ∃ w1,w1=Lib.bytesWorld w0 5 M:=⟨_,rfl⟩;obtain⟨cpm,hcpm⟩ : ∃ cpm,cpm=grownCap w0 M.size 0 5:=⟨_,rfl⟩;rw [<- hw1,<- hcpm] at hcv hoo;rw [hMs,hMd] at hoo;rw [hMs] at hcv;rw [<- hM] at f0;have hbw:Below w0.heap.size w0 w1:=hoo.bel;have P1:=H_ (P0.out.go hbw);have HZ1:=H_ (HZ.out.below hbw (by omega));have hmk:BytesAt w1 w1.heap.size (some ⟨w0.heap.size,0,none⟩) 3 (mk cg):=hoo.own.bytes;clear hoo hw1 hcpm hMs hMd hM;have KP:=H_ (cutPrefix_any (c2:=cpm) HZ1.out hc hn hmk);clear hmk;by_cases hb:l.take 3=mk cg
 · go_upto_region 2 with (go_at_call 163; go_loud (
    refine KP.out.mono ?_;rintro e w1' ⟨rfl,⟨_,A',c',rfl,hz2,hc2⟩ | ⟨hno,_⟩⟩
    rotate_left
    · exact absurd hb hno
    have HZ2:=H_ hz2;clear hz2))
   have hB1:B<=w1.heap.size:=by have:=hbw.size; omega
   clear hcv KP HZ1 P0 HZ hbw f0 f1;have hl1:=P1.out.lt;have KN:=H_ (fun (wr:World) (hbl:Below w1.heap.size w1 wr)=>new_p (w:=wr) (cp:=c') (HZ2.out.below hbl hB1) (Nat.le_trans hB1 hbl.size) (by omega));obtain⟨f0,f1⟩:=P1.out.frm.cells;have bd:=(Below.refl w1.heap.size w1).drew;have bda:=bd.alloc lr_ (.cells #[.pointer none,.string ⟨#[]⟩,.bool false] 214);go_upto_region 4 with fail
   go_region_held3 (fun wr=>wr.cell? ⟨w.heap.size,0,none⟩ = some (.string (mkB cg))/\wr.cell? ⟨w.heap.size,1,none⟩ = some (.bool cg)) (with_reducible first | exact⟨f0,f1⟩ | exact P2.out.frm.cells | exact (P2.out.alloc _).frm.cells | exact (P1.out.go bda).frm.cells | exact ((((P2.out.set hl1 _ _).set hl1 _ _).set hl1 _ _).frm).cells | go_keep) (
    (go_at_call 87
     ((with_reducible refine (KN.out _ ?d1).mono ?_); rotate_left)
     case d1=>first | exact bd | exact bda
     go_loud (
     rintro e w2 ⟨R,T,rfl,hR,hT,hrd,hb2⟩;have P2:=H_ (show PS cg w w2 by first | exact (P1.out.go bd).go hb2 | exact (P1.out.go bda).go hb2);have HR2:=H_ hrd;have hT1:w.heap.size+1<T:=by simp at hT; omega
     have hR1:w.heap.size+1<R:=by simp at hR; omega
     have hT2:=hrd.rd.lt;have hR2:=hrd.lt;have hw12:w1.heap.size<=w2.heap.size:=by have:=hb2.size; simp at this; omega
     try
      have bq:w2.heap[w1.heap.size]? = some (.cells #[.pointer none,.string ⟨#[]⟩,.bool false] 214 (0,0)):=(hb2.block w1.heap.size (by simp)).trans (heap_alloc_new w1.drew _);have q0:w2.cell? ⟨w1.heap.size,0,none⟩ = some (.pointer none):=(cell_of_row w2 w1.heap.size 0 _ _ _ bq).trans rfl;have q1:w2.cell? ⟨w1.heap.size,1,none⟩ = some (.string ⟨#[]⟩):=(cell_of_row w2 w1.heap.size 1 _ _ _ bq).trans rfl;have q2:w2.cell? ⟨w1.heap.size,2,none⟩ = some (.bool false):=(cell_of_row w2 w1.heap.size 2 _ _ _ bq).trans rfl;have qf : ∀ i,w2.frozen? ⟨w1.heap.size,i,none⟩ = false:=fun i=>by simp [World.frozen?,bq]
      have g0:=qf 0;have g1:=qf 1;have g2:=qf 2;clear qf
     clear hrd hb2;dsimp only)))
   rotate_left
   have P3:=H_ (((P2.out.set hl1 0 (ptr R)).set hl1 1 (.string (mkB cg))).set hl1 2 (.bool cg));have Q3:=H_ (show RBk cg (((w2.setCell ⟨w1.heap.size,0,none⟩ (ptr R)).setCell ⟨w1.heap.size,1,none⟩ (.string (mkB cg))).setCell ⟨w1.heap.size,2,none⟩ (.bool cg)) w1.heap.size R from by
    unfold RBk;simp [World.setCell,Array.getElem?_modify,bq])
   have F3:=H_ (show PRd (((w2.setCell ⟨w1.heap.size,0,none⟩ (ptr R)).setCell ⟨w1.heap.size,1,none⟩ (.string (mkB cg))).setCell ⟨w1.heap.size,2,none⟩ (.bool cg)) R T (l.drop 3,0,false) from by
    have hk : ∀ k,k≠w1.heap.size->(((w2.setCell ⟨w1.heap.size,0,none⟩ (ptr R)).setCell ⟨w1.heap.size,1,none⟩ (.string (mkB cg))).setCell ⟨w1.heap.size,2,none⟩ (.bool cg)).heap[k]? = w2.heap[k]?:=fun k hk=>((Below.heap_setCell _ _ _ _ hk).trans (Below.heap_setCell _ _ _ _ hk)).trans (Below.heap_setCell _ _ _ _ hk);exact⟨(hk R (by simp at hR; omega)).trans HR2.out.blk,rd_stay HR2.out.rd bq no_bytes3 (by simp at hT; omega) hk,HR2.out.ne⟩)
   obtain⟨Q,hQ⟩ : ∃ Q,Q=w1.heap.size:=⟨_,rfl⟩;have hQR:Q≠R:=by simp at hR; omega
   have hQT:Q≠T:=by simp at hT; omega
   rw [<- hQ] at Q3 F3 P3 ⊢;have hQ1:w.heap.size+1<Q:=by omega
   generalize (World.setCell (World.setCell (World.setCell w2 _ _) _ _) _ _)=w3 at P3 F3 Q3 ⊢;have hw3:True:=trivial;clear bq q0 q1 q2 g0 g1 g2
   rotate_left
   have P3:=H_ (P2.out.alloc (.cells #[ptr R,.string (mkB cg),.bool cg] 214));have Q3:=H_ (show RBk cg (w2.alloc (.cells #[ptr R,.string (mkB cg),.bool cg] 214)) w2.heap.size R from heap_alloc_new w2 _);have F3:=H_ (HR2.out.alloc (.cells #[ptr R,.string (mkB cg),.bool cg] 214));obtain⟨Q,hQ⟩ : ∃ Q,Q=w2.heap.size:=⟨_,rfl⟩;have hQR:Q≠R:=by omega
   have hQT:Q≠T:=by omega
   rw [<- hQ] at Q3 ⊢;have hQ1:w.heap.size+1<Q:=by omega
   generalize (World.alloc w2 _)=w3 at P3 F3 Q3 ⊢;have hw3:True:=trivial
   all_goals
    clear f0 f1 bd bda KN P2 HR2 hT2 hR2 hT hR hw12 hQ hw3;have ht3:TabF w3 R T:=fun wr hf=>HT.out.below (P3.out.bel.trans (hf.to P3.out.bel.size (by omega) (by omega))) lr_;have KB:=H_ (box_any (cg:=cg) F3.out ht3 hid);obtain⟨b0,b1,b2⟩:=Q3.out.cells;have hQ3:Q<w3.heap.size:=(gs_ Q3.out).1;have HSZ:=H_ (box_sizes cg id (l.drop 3,0,false) hid);obtain⟨b,hbx⟩ : ∃ b,b=(boxS cg id (l.drop 3,0,false)).1:=⟨_,rfl⟩;obtain⟨s,hsx⟩ : ∃ s,s=(boxS cg id (l.drop 3,0,false)).2:=⟨_,rfl⟩;have hps:parseS cg l id=if firstS s≠0 then (nB,(firstS s:Int)) else if 0<s.1.length\/mbE b≠0 then (nB,3) else (b,0):=by unfold parseS; rw [if_pos hb,<- hbx,<- hsx]
    rw [<- hbx,<- hsx] at KB;rw [<- hbx] at HSZ;have HPS:=H_ hps;clear hps hbx hsx ht3 hb;go_upto_region 6 with (go_at_call 196; go_loud (
     refine KB.out.mono ?_;rintro e w4 ⟨WA,wc,MA,mc',rs,rfl,ow,om,rm,ko,hrd,hf⟩;have P4:=H_ (P3.out.fr hf (by omega) hT1);have F4:=H_ hrd;have Q4:=H_ (show RBk cg w4 Q R from (hf.block Q hQ3 hQR hQT).trans Q3.out);have OW:=H_ ow;have OM:=H_ om;have RM:=H_ rm;have KO:=H_ ko;have hb34:w.heap.size+1<w3.heap.size:=P3.out.lt;clear ow om rm ko hrd hf b0 b1 b2))
    have P5:=H_ (P4.out.alloc (.cells #[.string b.id,.int .i64 b.valid,.int .i64 b.next,.int .i64 b.high,.slice WA b.words.length wc,.slice MA b.msgs.length mc'] 25));have F5:=H_ (F4.out.alloc (.cells #[.string b.id,.int .i64 b.valid,.int .i64 b.next,.int .i64 b.high,.slice WA b.words.length wc,.slice MA b.msgs.length mc'] 25));have Q5:=H_ (show RBk cg (w4.alloc (.cells #[.string b.id,.int .i64 b.valid,.int .i64 b.next,.int .i64 b.high,.slice WA b.words.length wc,.slice MA b.msgs.length mc'] 25)) Q R from (heap_alloc_old w4 _ (gs_ Q4.out).1).trans Q4.out);have X5:=H_ (heap_alloc_new w4 (.cells #[.string b.id,.int .i64 b.valid,.int .i64 b.next,.int .i64 b.high,.slice WA b.words.length wc,.slice MA b.msgs.length mc'] 25));have OW5:=H_ (OW.out.alloc (.cells #[.string b.id,.int .i64 b.valid,.int .i64 b.next,.int .i64 b.high,.slice WA b.words.length wc,.slice MA b.msgs.length mc'] 25));have OM5:=H_ (OM.out.alloc (.cells #[.string b.id,.int .i64 b.valid,.int .i64 b.next,.int .i64 b.high,.slice WA b.words.length wc,.slice MA b.msgs.length mc'] 25));have KO5:=H_ (fun r hr=>(KO.out r hr).alloc (.cells #[.string b.id,.int .i64 b.valid,.int .i64 b.next,.int .i64 b.high,.slice WA b.words.length wc,.slice MA b.msgs.length mc'] 25));obtain⟨X,hX⟩ : ∃ X,X=w4.heap.size:=⟨_,rfl⟩;rw [<- hX] at X5 ⊢;have hX3:w.heap.size+1<X:=by have:=P4.out.lt; omega
    clear hX P3 P4 F3 F4 Q3 Q4 OW OM KO KB;generalize (World.alloc w4 _)=w5 at P5 F5 Q5 X5 OW5 OM5 KO5 ⊢;obtain⟨hsw,hsm,hs24,hs3⟩:=HSZ.out;have hx5:=strsAt_own OW5.out (by omega) (fun x hx=>by have:=hs24 x hx; omega);have hkeys:KeysOk w5 w5.heap.size rs:=fun r hr=>by
     have hm:r.m∈b.msgs:=by rw [<- RM.out]; exact List.mem_map_of_mem hr
     obtain⟨k1,k2,k3⟩:=hs3 r.m hm;obtain⟨A9,c9,e9,h9⟩:=own_slice (KO5.out r hr);injection e9 with e1 e2 e3;exact⟨intsAt_own (KO5.out r hr) (by omega),by omega,by omega,by omega⟩
    have hm5:=msgsAt_own OM5.out (by omega) hkeys;rw [RM.out] at hm5;have hwc:b.words.length<=wc:=by
     obtain⟨Aw,cw,ew,h⟩:=own_slice OW5.out;injection ew with _ _ e3;omega
    have hmc:b.msgs.length<=mc':=by
     obtain⟨Am,cm,em,h⟩:=own_slice OM5.out;injection em with _ _ e3;omega
    have HX5:=H_ hx5;have HM5:=H_ hm5;have KF:=H_ (err_p F5.out);have KL:=H_ (left_p F5.out);have KM:=H_ (BxB.may_box (bid:=b.id) (bv:=b.valid) (bn:=b.next) (bh:=b.high) (mc:=mc') hx5 hm5 lr_ hwc);have HLW:=H_ OW5.out.lt;have HLM:=H_ OM5.out.lt;clear hx5 hm5 hkeys hsw hsm hs24 hs3;have c0:=F5.out.cells.1;have b0:=Q5.out.cells.1;have cX:=fun o=>cell_of_row w5 X o _ _ _ X5.out;have d0:=(cX 0).trans (show _=some (Value.string b.id) from rfl);have d1:=(cX 1).trans (show _=some (Value.int .i64 b.valid) from rfl);have d2:=(cX 2).trans (show _=some (Value.int .i64 b.next) from rfl);have d3:=(cX 3).trans (show _=some (Value.int .i64 b.high) from rfl);have d4:=(cX 4).trans (show _=some (Value.slice WA b.words.length wc) from rfl);have d5:=(cX 5).trans (show _=some (Value.slice MA b.msgs.length mc') from rfl);clear cX;obtain⟨fs,hfs⟩ : ∃ fs,fs=firstS s:=⟨_,rfl⟩;rw [<- hfs] at KF HPS;clear hfs;by_cases hf0:fs=0
    · subst hf0
      obtain⟨ln,hln⟩ : ∃ ln,ln=s.1.length:=⟨_,rfl⟩;rw [<- hln] at KL HPS;clear hln;have hps:=HPS.out;rw [if_neg (by simp)] at hps;by_cases hl0:0<ln
      · rw [if_pos (.inl hl0)] at hps
        have HP:=H_ hps;clear hps;have hl0':(0:Int)<(ln:Int):=by omega
        have P6:=P5;go_upto_region 10 with (first
         | (go_at_call 90; go_loud (
            refine KF.out.mono ?_;rintro e w6 ⟨rfl,rfl⟩))
         | (go_at_call 88; go_loud (
            refine KL.out.mono ?_;rintro e w6 ⟨rfl,rfl⟩)))
        obtain⟨z0,z1,z2,z3,z4,z5,zf⟩:=zcells6 P6.out.res;have f0:=zf 0;have f1:=zf 1;have f2:=zf 2;have f3:=zf 3;have f4:=zf 4;have f5:=zf 5;clear zf;go_wp2_with fail
        obtain⟨W,hW,q0,q1,q2,q3,q4,q5,hO⟩:=ps_none P6.out 3;rw [<- hW];exact bodyPost_ret (v:=.tuple #[.agg #[.string ⟨#[]⟩,.int .i64 0,.int .i64 0,.int .i64 0,.slice none 0 0,.slice none 0 0],.int .i64 3]) (by simp [results,Tryz.results160,go_sem,q0,q1,q2,q3,q4,q5]) rfl (by rw [HP.out]; exact hO)
      · obtain rfl:ln=0:=by omega
        obtain⟨er,her⟩ : ∃ er,er=mbE b:=⟨_,rfl⟩;rw [<- her] at KM hps;clear her;by_cases he0:er=0
        · subst he0
          rw [if_neg (by simp)] at hps;have HP:=H_ hps;clear hps;go_upto_region 11 with (first
           | (go_at_call 90; go_loud (
              refine KF.out.mono ?_;rintro e w6 ⟨rfl,rfl⟩))
           | (go_at_call 88; go_loud (
              refine KL.out.mono ?_;rintro e w6 ⟨rfl,rfl⟩))
           | (go_at_call 67; go_loud (
              refine KM.out.mono ?_;rintro e w6 ⟨rfl,hb6⟩;have P6:=H_ (P5.out.go hb6);have X6:=H_ ((hb6.block X (gs_ X5.out).1).trans X5.out);have OW6:=H_ (own_block OW5.out fun g e=>hb6.block g (OW5.out.lt g e).2);have OM6:=H_ (own_block OM5.out fun g e=>hb6.block g (OM5.out.lt g e).2);have KO6:=H_ (fun r hr=>own_block (KO5.out r hr) fun g e=>hb6.block g ((KO5.out r hr).lt g e).2);have hs56:=hb6.size;clear hb6 d0 d1 d2 d3 d4 d5 c0 b0)))
          have cX:=fun o=>cell_of_row w6 X o _ _ _ X6.out;have d0:=(cX 0).trans (show _=some (Value.string b.id) from rfl);have d1:=(cX 1).trans (show _=some (Value.int .i64 b.valid) from rfl);have d2:=(cX 2).trans (show _=some (Value.int .i64 b.next) from rfl);have d3:=(cX 3).trans (show _=some (Value.int .i64 b.high) from rfl);have d4:=(cX 4).trans (show _=some (Value.slice WA b.words.length wc) from rfl);have d5:=(cX 5).trans (show _=some (Value.slice MA b.msgs.length mc') from rfl);clear cX;obtain⟨z0,z1,z2,z3,z4,z5,zf⟩:=zcells6 P6.out.res;have f0:=zf 0;have f1:=zf 1;have f2:=zf 2;have f3:=zf 3;have f4:=zf 4;have f5:=zf 5;clear zf;go_wp2_with fail
          obtain⟨W,hW,p0,p1,p2,p3,p4,p5,hWg⟩:=ret6 P6.out.res (.string b.id) (.int .i64 b.valid) (.int .i64 b.next) (.int .i64 b.high) (.slice WA b.words.length wc) (.slice MA b.msgs.length mc');rw [<- hW];refine bodyPost_ret (v:=.tuple #[.agg #[.string b.id,.int .i64 b.valid,.int .i64 b.next,.int .i64 b.high,.slice WA b.words.length wc,.slice MA b.msgs.length mc'],.int .i64 0]) (by simp [results,Tryz.results160,go_sem,p0,p1,p2,p3,p4,p5]) rfl ?_;rw [HP.out];obtain⟨hsw,hsm,hs24,hs3⟩:=HSZ.out;have keep : ∀ {ty sz k:Nat} {x:Value} {xs:List Value},w6.ownsRow w3.heap.size ty sz x k xs->W.ownsRow w3.heap.size ty sz x k xs:=fun {_ _ _ _ _} ho =>
           ho.kept hWg (.inr (fun e2=>by have:=(ho.lt _ e2).1; omega))
          refine⟨WA,_,wc,MA,_,mc',rfl,hwc,hmc,fun W2 hW2 hW3=>?_,P6.out.bel.grown hWg P6.out.bel.size (fun k e=>by have:w.heap.size+1=k:=Option.some.inj e; omega)⟩;have keep2 : ∀ {ty sz k:Nat} {x:Value} {xs:List Value},w6.ownsRow w3.heap.size ty sz x k xs->W2.ownsRow w3.heap.size ty sz x k xs:=fun {_ _ _ _ _} ho =>
           own_block (keep ho) fun g e=>hW2 g (by have:=((keep ho).lt g e).1; omega) ((keep ho).lt g e).2
          have hsW:=hWg.size;refine⟨?_, ?_⟩
          · exact strsAt_own (keep2 OW6.out) (by omega) (fun x hx=>by have:=hs24 x hx; omega)
          · have hkeys:KeysOk W2 W2.heap.size rs:=fun r hr=>by
             have hm:r.m∈b.msgs:=by rw [<- RM.out]; exact List.mem_map_of_mem hr
             obtain⟨k1,k2,k3⟩:=hs3 r.m hm;obtain⟨A9,c9,e9,h9⟩:=own_slice (KO6.out r hr);injection e9 with e1 e2 e3;exact⟨intsAt_own (keep2 (KO6.out r hr)) (by omega),by omega,by omega,by omega⟩
            have:=msgsAt_own (keep2 OM6.out) (by omega) hkeys
            rwa [RM.out] at this
        · have hps2:parseS cg l id=(nB,3):=by rw [hps,if_pos (.inr he0)]
          have HP:=H_ hps2;have he1:(er==0)=false:=by simpa using he0
          have he2:(er != 0)=true:=by simpa using he0
          clear hps hps2;go_upto_region 10 with (first
           | (go_at_call 90; go_loud (
              refine KF.out.mono ?_;rintro e w6 ⟨rfl,rfl⟩))
           | (go_at_call 88; go_loud (
              refine KL.out.mono ?_;rintro e w6 ⟨rfl,rfl⟩))
           | (go_at_call 67; go_loud (
              refine KM.out.mono ?_;rintro e w6 ⟨rfl,hb6⟩;have P6:=H_ (P5.out.go hb6);clear hb6 d0 d1 d2 d3 d4 d5 c0 b0)))
          obtain⟨z0,z1,z2,z3,z4,z5,zf⟩:=zcells6 P6.out.res;have f0:=zf 0;have f1:=zf 1;have f2:=zf 2;have f3:=zf 3;have f4:=zf 4;have f5:=zf 5;clear zf;go_wp2_with fail
          obtain⟨W,hW,q0,q1,q2,q3,q4,q5,hO⟩:=ps_none P6.out 3;rw [<- hW];exact bodyPost_ret (v:=.tuple #[.agg #[.string ⟨#[]⟩,.int .i64 0,.int .i64 0,.int .i64 0,.slice none 0 0,.slice none 0 0],.int .i64 3]) (by simp [results,Tryz.results160,go_sem,q0,q1,q2,q3,q4,q5]) rfl (by rw [HP.out]; exact hO)
    · have hps2:parseS cg l id=(nB,(fs:Int)):=by rw [HPS.out,if_pos hf0]
      have HP:=H_ hps2;have he1:((fs:Int)==0)=false:=by simpa using hf0
      have he2:((fs:Int) != 0)=true:=by simpa using hf0
      clear hps2;have P6:=P5;go_upto_region 8 with (go_at_call 90; go_loud (
       refine KF.out.mono ?_;rintro e w6 ⟨rfl,rfl⟩))
      obtain⟨z0,z1,z2,z3,z4,z5,zf⟩:=zcells6 P6.out.res;have f0:=zf 0;have f1:=zf 1;have f2:=zf 2;have f3:=zf 3;have f4:=zf 4;have f5:=zf 5;clear zf;go_wp2_with fail
      obtain⟨W,hW,q0,q1,q2,q3,q4,q5,hO⟩:=ps_none P6.out (fs:Int);rw [<- hW];exact bodyPost_ret (v:=.tuple #[.agg #[.string ⟨#[]⟩,.int .i64 0,.int .i64 0,.int .i64 0,.slice none 0 0,.slice none 0 0],.int .i64 (fs:Int)]) (by simp [results,Tryz.results160,go_sem,q0,q1,q2,q3,q4,q5]) rfl (by rw [HP.out]; exact hO)
 · have hp:parseS cg l id=(nB,3):=by unfold parseS; rw [if_neg hb]
   have HP:=H_ hp;clear hp;go_upto_region 3 with (go_at_call 163; go_loud (
    refine KP.out.mono ?_;rintro e w1 ⟨rfl,⟨hno,_⟩ | ⟨_,rfl⟩⟩
    · exact absurd hno hb
    skip))
   clear hcv hbw f0 f1;obtain⟨z0,z1,z2,z3,z4,z5,zf⟩:=zcells6 P1.out.res;have f0:=zf 0;have f1:=zf 1;have f2:=zf 2;have f3:=zf 3;have f4:=zf 4;have f5:=zf 5;clear zf;go_wp2_with fail
   obtain⟨W,hW,q0,q1,q2,q3,q4,q5,hO⟩:=ps_none P1.out 3;rw [<- hW];exact bodyPost_ret (v:=.tuple #[.agg #[.string ⟨#[]⟩,.int .i64 0,.int .i64 0,.int .i64 0,.slice none 0 0,.slice none 0 0],.int .i64 3]) (by simp [results,Tryz.results160,go_sem,q0,q1,q2,q3,q4,q5]) rfl (by rw [HP.out]; exact hO)
end Go.Proofs.YtoljpfapphoflaaGreatDoor.OlY

set_option maxHeartbeats 2000000
set_option maxRecDepth 100000
namespace Go.Proofs.YtoljpfapphoflaaGreatDoor.OlW
open PtK
open Go.RowKit BxD BxKit OlD OlU OlE OlY
open PkKit (BytesAt)
open OlR (mkB)
theorem form1 (w:World):Calls Tryz.prog 158 #[] w fun e w'=>e = .returned (.agg #[.string (mkB false),.bool false])/\Below w.heap.size w w':=by
 have hb:=(Below.refl w.heap.size w).alloc lr_ (.cells #[.string ⟨#[77,66,49]⟩,.bool false] 189);have hbs:=Below.setCell (Below.setCell ((Below.refl w.heap.size w).alloc lr_ (.cells #[.string ⟨#[]⟩,.bool false] 189)) (p:=⟨w.heap.size,0,none⟩) lr_ (.string ⟨#[77,66,49]⟩)) (p:=⟨w.heap.size,1,none⟩) lr_ (.bool false);go_enter Tryz.func158,Tryz.ntmps158;go_wp2_with fail
 refine bodyPost_ret (v:=.agg #[.string ⟨#[77,66,49]⟩,.bool false]) (by simp [results,Tryz.results158,go_sem]) rfl ?_;exact⟨rfl,by first | exact hb | exact hbs⟩
theorem bytes1_ok {w:World} {b:Box} {WA MA:Option Addr} {wn wc mn mc B:Nat} (hx:StrsAt w B WA wn b.words) (hm:MsgsAt w B MA mn b.msgs) (hwc:wn<=wc) (hmc:mn<=mc) (hB:B<=w.heap.size) (h0:mbE b=0) :
 Calls Tryz.prog 126 #[.agg #[.string b.id,.int .i64 b.valid,.int .i64 b.next,.int .i64 b.high,.slice WA wn wc,.slice MA mn mc]] w (BytesOut (eb false b) 0 w):=by
 have A0:=H_ (After.start w (.cells #[.string b.id,.int .i64 b.valid,.int .i64 b.next,.int .i64 b.high,.slice WA wn wc,.slice MA mn mc] 25));have hbl:=A0.out.below;have HX:=H_ (StrsAt.below hx hbl hB);have HM:=H_ (MsgsAt.below hm hbl hB);have H0:=H_ h0;clear hx hm h0 hbl;go_enter Tryz.func126,Tryz.ntmps126;go_upto_region 1 with fail
 generalize (World.alloc w _)=w1 at A0 HX HM ⊢;have hs1:=A0.out.size;obtain⟨c0,c1,c2,c3,c4,c5⟩:=A0.out.box;have KF:=H_ (form1 w1.drew);have KB:=H_ (fun (wr:World) (hb:Below w1.heap.size w1 wr)=>bytes_ok (cg:=false) (b:=b) (StrsAt.below HX.out hb (by omega)) (MsgsAt.below HM.out hb (by omega)) hwc hmc (Nat.le_trans (show B<=w1.heap.size by omega) hb.size) H0.out);have hbd:=(Below.refl w1.heap.size w1).drew
 go_region_held3 (fun wr=>wr.cell? ⟨w.heap.size,0,none⟩ = some (.string b.id)/\wr.cell? ⟨w.heap.size,1,none⟩ = some (.int .i64 b.valid)/\wr.cell? ⟨w.heap.size,2,none⟩ = some (.int .i64 b.next)/\wr.cell? ⟨w.heap.size,3,none⟩ = some (.int .i64 b.high)/\wr.cell? ⟨w.heap.size,4,none⟩ = some (.slice WA wn wc)/\wr.cell? ⟨w.heap.size,5,none⟩ = some (.slice MA mn mc)) (with_reducible first | exact⟨c0,c1,c2,c3,c4,c5⟩ | exact A2.out.box | exact A3.out.box | go_keep) (first
  | (go_at_call 158; go_loud (
     refine KF.out.mono ?_;rintro e w2 ⟨rfl,hb2⟩;have hb12:=hbd.trans hb2;have A2:=H_ (A0.out.go hb12);have HB2:=H_ hb12;clear hb2 hb12;dsimp only))
  | (go_at_call 159
     refine (KB.out _ HB2.out).mono ?_;rintro e w3 ⟨A,n,c,rfl,hnc,hz,hb3,hf3⟩;have HF3:=H_ (show ∀ ad:Addr,A=some ad->w.heap.size<=ad.block from fun ad e=>Nat.le_trans A2.out.below.size (hf3 ad e));clear hf3;have A3:=H_ (A2.out.go hb3);have HZ:=H_ hz;clear hb3 hz;dsimp only))
 rename_i hHeld;clear hHeld c0 c1 c2 c3 c4 c5;go_wp2_with fail
 go_ret2;exact⟨A,n,c,rfl,hnc,HZ.out,A3.out.below,HF3.out⟩
theorem parse1_any {w:World} {B n cp:Nat} {A:Option Addr} {l:List UInt8} {id:ByteArray} (ht:BxO.Tab w) (hz:BytesAt w B A n l) (hB:B<=w.heap.size) (hc:n<=cp) (hn:n<=140737488355328) (hid:id.size<=200) :
 Calls Tryz.prog 127 #[.slice A n cp,.string id] w (ParseNew (parseS false l id).1 (parseS false l id).2 w):=by
 have hb0:=(Below.refl w.heap.size w).alloc lr_ (.cells zbox 25);have hr0:=heap_alloc_new w (.cells zbox 25);have hz0:=hz.below hb0 hB;have ht0:=ht.below hb0 lr_;have hs0:(w.alloc (.cells zbox 25)).heap.size=w.heap.size+1:=by simp
 unfold zbox at hb0 hr0 hz0 ht0 hs0;obtain⟨pb,hpb⟩ : ∃ pb,pb=(parseS false l id).1:=⟨_,rfl⟩;obtain⟨pe,hpe⟩ : ∃ pe,pe=(parseS false l id).2:=⟨_,rfl⟩;have HPB:=H_ hpb;have HPE:=H_ hpe;rw [<- hpb,<- hpe];have HB0:=H_ hb0;have HR0:=H_ hr0;have HZ0:=H_ hz0;have HT0:=H_ ht0;clear ht hz hb0 hr0 hz0 ht0 hpb hpe;go_enter Tryz.func127,Tryz.ntmps127;go_upto_region 1 with fail
 generalize (World.alloc w _)=w1 at HB0 HR0 HZ0 HT0 hs0 ⊢;have KF:=H_ (form1 w1);go_wp2_with (first
  | (go_at_call 158; go_loud (
     refine KF.out.mono ?_;rintro e w2 ⟨rfl,hb2⟩;have hs2:=hb2.size;have kp:=parse_any (cg:=false) (id:=id) (cp:=cp) (HT0.out.below hb2 lr_) (HZ0.out.below hb2 (by omega)) (by omega) hc hn hid;rw [<- HPB.out,<- HPE.out] at kp;have KP:=H_ kp;have HB2:=H_ (HB0.out.trans (hb2.mono (by omega)));have HR2:=H_ ((hb2.block w.heap.size (by omega)).trans HR0.out);clear hb2 kp))
  | (go_at_call 160; go_loud (
     refine KP.out.mono ?_;rintro e w3 ⟨WA,wn,wc,MA,mn,mc',rfl,hwc,hmc,hn3,hb3⟩;have HN3:=H_ hn3;have hs3:=hb3.size;have HB3:=H_ (HB2.out.trans (hb3.mono (by omega)));have HR3:=H_ ((hb3.block w.heap.size (by omega)).trans HR2.out);obtain⟨z0,z1,z2,z3,z4,z5,zf⟩:=zcells6 HR3.out;have f0:=zf 0;have f1:=zf 1;have f2:=zf 2;have f3:=zf 3;have f4:=zf 4;have f5:=zf 5;clear zf hn3 hb3)))
 obtain⟨W,hW,p0,p1,p2,p3,p4,p5,hWg⟩:=ret6 HR3.out (.string pb.id) (.int .i64 pb.valid) (.int .i64 pb.next) (.int .i64 pb.high) (.slice WA wn wc) (.slice MA mn mc');rw [<- hW];refine bodyPost_ret (v:=.tuple #[.agg #[.string pb.id,.int .i64 pb.valid,.int .i64 pb.next,.int .i64 pb.high,.slice WA wn wc,.slice MA mn mc'],.int .i64 pe]) (by simp [results,Tryz.results127,go_sem,p0,p1,p2,p3,p4,p5]) rfl ?_;have hsW:=hWg.size;refine⟨WA,wn,wc,MA,mn,mc',rfl,hwc,hmc,fun W2 hW2 hW3=>HN3.out W2 (fun k h1 h2=>?_) (by omega),HB3.out.grown hWg (by omega) (fun k e=>by have:w.heap.size=k:=Option.some.inj e; omega)⟩;exact (hW2 k (by omega) (by omega)).trans (hWg.block k h2 (fun e=>by have:k=w.heap.size:=Option.some.inj e; omega))
theorem form2 (w:World):Calls Tryz.prog 161 #[] w fun e w'=>e = .returned (.agg #[.string (mkB true),.bool true])/\Below w.heap.size w w':=by
 have hb:=(Below.refl w.heap.size w).alloc lr_ (.cells #[.string ⟨#[77,66,50]⟩,.bool true] 189);have hbs:=Below.setCell (Below.setCell ((Below.refl w.heap.size w).alloc lr_ (.cells #[.string ⟨#[]⟩,.bool false] 189)) (p:=⟨w.heap.size,0,none⟩) lr_ (.string ⟨#[77,66,50]⟩)) (p:=⟨w.heap.size,1,none⟩) lr_ (.bool true);go_enter Tryz.func161,Tryz.ntmps161;go_wp2_with fail
 refine bodyPost_ret (v:=.agg #[.string ⟨#[77,66,50]⟩,.bool true]) (by simp [results,Tryz.results161,go_sem]) rfl ?_;exact⟨rfl,by first | exact hb | exact hbs⟩
theorem bytes2_ok {w:World} {b:Box} {WA MA:Option Addr} {wn wc mn mc B:Nat} (hx:StrsAt w B WA wn b.words) (hm:MsgsAt w B MA mn b.msgs) (hwc:wn<=wc) (hmc:mn<=mc) (hB:B<=w.heap.size) (h0:mbE b=0) :
 Calls Tryz.prog 128 #[.agg #[.string b.id,.int .i64 b.valid,.int .i64 b.next,.int .i64 b.high,.slice WA wn wc,.slice MA mn mc]] w (BytesOut (eb true b) 0 w):=by
 have A0:=H_ (After.start w (.cells #[.string b.id,.int .i64 b.valid,.int .i64 b.next,.int .i64 b.high,.slice WA wn wc,.slice MA mn mc] 25));have hbl:=A0.out.below;have HX:=H_ (StrsAt.below hx hbl hB);have HM:=H_ (MsgsAt.below hm hbl hB);have H0:=H_ h0;clear hx hm h0 hbl;go_enter Tryz.func128,Tryz.ntmps128;go_upto_region 1 with fail
 generalize (World.alloc w _)=w1 at A0 HX HM ⊢;have hs1:=A0.out.size;obtain⟨c0,c1,c2,c3,c4,c5⟩:=A0.out.box;have KF:=H_ (form2 w1.drew);have KB:=H_ (fun (wr:World) (hb:Below w1.heap.size w1 wr)=>bytes_ok (cg:=true) (b:=b) (StrsAt.below HX.out hb (by omega)) (MsgsAt.below HM.out hb (by omega)) hwc hmc (Nat.le_trans (show B<=w1.heap.size by omega) hb.size) H0.out);have hbd:=(Below.refl w1.heap.size w1).drew
 go_region_held3 (fun wr=>wr.cell? ⟨w.heap.size,0,none⟩ = some (.string b.id)/\wr.cell? ⟨w.heap.size,1,none⟩ = some (.int .i64 b.valid)/\wr.cell? ⟨w.heap.size,2,none⟩ = some (.int .i64 b.next)/\wr.cell? ⟨w.heap.size,3,none⟩ = some (.int .i64 b.high)/\wr.cell? ⟨w.heap.size,4,none⟩ = some (.slice WA wn wc)/\wr.cell? ⟨w.heap.size,5,none⟩ = some (.slice MA mn mc)) (with_reducible first | exact⟨c0,c1,c2,c3,c4,c5⟩ | exact A2.out.box | exact A3.out.box | go_keep) (first
  | (go_at_call 161; go_loud (
     refine KF.out.mono ?_;rintro e w2 ⟨rfl,hb2⟩;have hb12:=hbd.trans hb2;have A2:=H_ (A0.out.go hb12);have HB2:=H_ hb12;clear hb2 hb12;dsimp only))
  | (go_at_call 159
     refine (KB.out _ HB2.out).mono ?_;rintro e w3 ⟨A,n,c,rfl,hnc,hz,hb3,hf3⟩;have HF3:=H_ (show ∀ ad:Addr,A=some ad->w.heap.size<=ad.block from fun ad e=>Nat.le_trans A2.out.below.size (hf3 ad e));clear hf3;have A3:=H_ (A2.out.go hb3);have HZ:=H_ hz;clear hb3 hz;dsimp only))
 rename_i hHeld;clear hHeld c0 c1 c2 c3 c4 c5;go_wp2_with fail
 go_ret2;exact⟨A,n,c,rfl,hnc,HZ.out,A3.out.below,HF3.out⟩
theorem parse2_any {w:World} {B n cp:Nat} {A:Option Addr} {l:List UInt8} {id:ByteArray} (ht:BxO.Tab w) (hz:BytesAt w B A n l) (hB:B<=w.heap.size) (hc:n<=cp) (hn:n<=140737488355328) (hid:id.size<=200) :
 Calls Tryz.prog 129 #[.slice A n cp,.string id] w (ParseNew (parseS true l id).1 (parseS true l id).2 w):=by
 have hb0:=(Below.refl w.heap.size w).alloc lr_ (.cells zbox 25);have hr0:=heap_alloc_new w (.cells zbox 25);have hz0:=hz.below hb0 hB;have ht0:=ht.below hb0 lr_;have hs0:(w.alloc (.cells zbox 25)).heap.size=w.heap.size+1:=by simp
 unfold zbox at hb0 hr0 hz0 ht0 hs0;obtain⟨pb,hpb⟩ : ∃ pb,pb=(parseS true l id).1:=⟨_,rfl⟩;obtain⟨pe,hpe⟩ : ∃ pe,pe=(parseS true l id).2:=⟨_,rfl⟩;have HPB:=H_ hpb;have HPE:=H_ hpe;rw [<- hpb,<- hpe];have HB0:=H_ hb0;have HR0:=H_ hr0;have HZ0:=H_ hz0;have HT0:=H_ ht0;clear ht hz hb0 hr0 hz0 ht0 hpb hpe;go_enter Tryz.func129,Tryz.ntmps129;go_upto_region 1 with fail
 generalize (World.alloc w _)=w1 at HB0 HR0 HZ0 HT0 hs0 ⊢;have KF:=H_ (form2 w1);go_wp2_with (first
  | (go_at_call 161; go_loud (
     refine KF.out.mono ?_;rintro e w2 ⟨rfl,hb2⟩;have hs2:=hb2.size;have kp:=parse_any (cg:=true) (id:=id) (cp:=cp) (HT0.out.below hb2 lr_) (HZ0.out.below hb2 (by omega)) (by omega) hc hn hid;rw [<- HPB.out,<- HPE.out] at kp;have KP:=H_ kp;have HB2:=H_ (HB0.out.trans (hb2.mono (by omega)));have HR2:=H_ ((hb2.block w.heap.size (by omega)).trans HR0.out);clear hb2 kp))
  | (go_at_call 160; go_loud (
     refine KP.out.mono ?_;rintro e w3 ⟨WA,wn,wc,MA,mn,mc',rfl,hwc,hmc,hn3,hb3⟩;have HN3:=H_ hn3;have hs3:=hb3.size;have HB3:=H_ (HB2.out.trans (hb3.mono (by omega)));have HR3:=H_ ((hb3.block w.heap.size (by omega)).trans HR2.out);obtain⟨z0,z1,z2,z3,z4,z5,zf⟩:=zcells6 HR3.out;have f0:=zf 0;have f1:=zf 1;have f2:=zf 2;have f3:=zf 3;have f4:=zf 4;have f5:=zf 5;clear zf hn3 hb3)))
 obtain⟨W,hW,p0,p1,p2,p3,p4,p5,hWg⟩:=ret6 HR3.out (.string pb.id) (.int .i64 pb.valid) (.int .i64 pb.next) (.int .i64 pb.high) (.slice WA wn wc) (.slice MA mn mc');rw [<- hW];refine bodyPost_ret (v:=.tuple #[.agg #[.string pb.id,.int .i64 pb.valid,.int .i64 pb.next,.int .i64 pb.high,.slice WA wn wc,.slice MA mn mc'],.int .i64 pe]) (by simp [results,Tryz.results129,go_sem,p0,p1,p2,p3,p4,p5]) rfl ?_;have hsW:=hWg.size;refine⟨WA,wn,wc,MA,mn,mc',rfl,hwc,hmc,fun W2 hW2 hW3=>HN3.out W2 (fun k h1 h2=>?_) (by omega),HB3.out.grown hWg (by omega) (fun k e=>by have:w.heap.size=k:=Option.some.inj e; omega)⟩;exact (hW2 k (by omega) (by omega)).trans (hWg.block k h2 (fun e=>by have:k=w.heap.size:=Option.some.inj e; omega))
end Go.Proofs.YtoljpfapphoflaaGreatDoor.OlW
