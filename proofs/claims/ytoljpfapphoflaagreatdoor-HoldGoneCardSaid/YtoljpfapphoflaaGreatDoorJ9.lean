/-
  F3A + F3C
-/
import Derived.Test.YtoljpfapphoflaaGreatDoorN3
import Derived.Test.YtoljpfapphoflaaGreatDoorL2
import Derived.Deep.RegionHeld3
import Derived.Test.YtoljpfapphoflaaGreatDoorL1
import Derived.Lib.SmallJoins
set_option linter.unusedVariables false
set_option linter.unusedSimpArgs false
set_option maxHeartbeats 4000000
set_option maxRecDepth 100000
namespace Go.Proofs.YtoljpfapphoflaaGreatDoor.F3A
open Go.RowKit BxD PkKit PkA PkB PkC PkR OlD OlOm PtD PtK PtA F3D
open BxKit (RowAt IntsAt StrsAt MsgsAt)
theorem ints_new (w:World) (xs:List Int) (a:Array Value) (h:a=(xs.map (Value.int .i64)).toArray) (hl:xs.length<=1000000):IntsAt (w.alloc (.cells a 3)) (w.heap.size+1) (some ⟨w.heap.size,0,none⟩) xs.length xs:=by
 subst h;refine⟨rfl,by omega,fun _=>⟨_,rfl,Nat.lt_succ_self _,fun j x hj=>?_⟩⟩;unfold BxKit.intC;rw [Nat.mul_one,BxR.cell_new];simp [hj]
theorem tx_len {s:ByteArray} (h:s.size<=1099511627776):(tx s).length<=6+s.size:=by
 have h1:=uv_len h;have h2:s.data.toList.length=s.size:=by rw [Array.length_toList]; rfl
 unfold tx;rw [List.length_append];omega
theorem kb_len : ∀ (ks:List Int) (a:Int),(kb a ks).length<=6*ks.length
 | [],_=>Nat.zero_le _
 | k::r,a=>by
  have h1:=nums_len [stp k a];have h2:=kb_len r k;show (nums [stp k a]++kb k r).length<=_;simp only [List.length_append,List.length_cons,List.length_nil] at h1 ⊢;omega
theorem kb_take {ks:List Int} {k:Nat} {x:Int} (a:Int) (h:ks[k]? = some x):kb a (ks.take (k+1))=kb a (ks.take k)++nums [stp x (lst a (ks.take k))]/\lst a (ks.take (k+1))=x:=by
 obtain⟨hl,rfl⟩:=List.getElem?_eq_some_iff.1 h;rw [List.take_succ_eq_append_getElem hl];exact⟨kb_snoc _ _ _,lst_snoc _ _ _⟩
theorem step_any (w:World) {n last:Int} (hn : -1<=n/\n<=1000000) (hl : -1<=last/\last<=1000000):Calls Tryz.prog 197 #[.int .i64 n,.int .i64 last] w fun e w'=>e = .returned (.int .i64 (stp n last))/\w=w':=by
 by_cases h:n<=last
 · have hs:stp n last=0:=by unfold stp; rw [if_pos h]
   rw [hs];clear hs;go_enter Tryz.func197,Tryz.ntmps197;go_wp2_with fail
   go_ret;exact⟨rfl,rfl⟩
 · have hs:stp n last=n-last:=stp_le n last (by omega) hl.1 hn.2
   rw [hs];clear hs;have hlt:last<n:=by omega
   have hw2:IntKind.i64.wrap (n-last)=n-last:=by rw [IntKind.wrap_i64]; omega
   have hsm : ¬ (9223372036854775807+last<n):=by omega
   have hwm:wrap64 (9223372036854775807+last)=9223372036854775807+last\/0<=last:=by
    by_cases h0:0<=last
    · exact .inr h0
    · left; unfold wrap64; omega
   by_cases h0:last<0
   · obtain rfl:last = -1:=by omega
     go_enter Tryz.func197,Tryz.ntmps197;go_wp2_with fail
     go_ret;exact⟨rfl,rfl⟩
   · go_enter Tryz.func197,Tryz.ntmps197
     go_wp2_with fail
     go_ret;exact⟨rfl,rfl⟩
theorem appendMsg_om {n B base:Nat} {w:World} {v:Value} {l:List UInt8} {u md d fl last:Int} {id tx':ByteArray} {K:Option Addr} {kn kc:Nat} {ks:List Int} (hO:Ow w base v n (by_ l)) (hz:IntsAt w B K kn ks) (hB:B<=base) (hbs:base<=w.heap.size) (hkn:kn<=1000000) (hks : ∀ k∈ks,-1<=k/\k<=1000000) (hu : -1<=u/\u<=1000000) (hl : -1<=last/\last<=1000000) (hid:id.size<=300) (htx:tx'.size<=300) (hn:n<=1099000000000) :
 Calls Tryz.prog 162 #[v,.agg #[.int .i64 u,.int .i64 md,.int .i64 d,.string id,.int .i64 fl,.slice K kn kc,.string tx'],.int .i64 last] w fun e w'=>∃ v',e = .returned v'/\OM w v w' (n+(m3 last ⟨u,md,d,id,fl,ks,tx'⟩).length) v' (l++m3 last ⟨u,md,d,id,fl,ks,tx'⟩):=by
 have O0:=H_ (OM.alloc (OM.start hO) (.cells #[.int .i64 u,.int .i64 md,.int .i64 d,.string id,.int .i64 fl,.slice K kn kc,.string tx'] 61));have M0:=H_ (show MBk (w.alloc (.cells #[.int .i64 u,.int .i64 md,.int .i64 d,.string id,.int .i64 fl,.slice K kn kc,.string tx'] 61)) w.heap.size u md d id fl K kn kc tx' from heap_alloc_new w _);have HZ:=H_ (IntsAt.below hz ((Below.refl base w).alloc hbs (.cells #[.int .i64 u,.int .i64 md,.int .i64 d,.string id,.int .i64 fl,.slice K kn kc,.string tx'] 61)) hB);have hP:=own_none hO;have HOB:=H_ (fun g e=>(hO.lt g e).1);have hs0:w.heap.size+1<=(w.alloc (.cells #[.int .i64 u,.int .i64 md,.int .i64 d,.string id,.int .i64 fl,.slice K kn kc,.string tx'] 61)).heap.size:=by simp
 have hkl:=hz.len;have HKS:=H_ hks;obtain⟨A,c0,rfl,hc0⟩:=hO.slice;clear hO hz hks;go_enter Tryz.func162,Tryz.ntmps162;go_upto_region 1 with fail
 obtain⟨P,hPe⟩ : ∃ P,P=w.heap.size:=⟨_,rfl⟩;rw [<- hPe] at M0 hs0 hP ⊢;have hPb:base<=P:=by omega
 clear hPe;generalize (World.alloc w _)=w1 at O0 M0 HZ hs0 ⊢;obtain⟨m0,m1,m2,m3',m4,m5,m6⟩:=M0.out.cells;have O1:=H_ (OM.start O0.out.own);have HM:=H_ (fun (wr:World) (g:w1.grownBy wr (Value.slice A n c0).ownBlock)=>(M0.out.keep (g.block P hs0 (fun e=>hP e.symm))).cells);have O1d:=H_ (OM.go O1.out ((Below.refl w1.heap.size w1).drew));obtain⟨st,hst⟩ : ∃ st,st=stp u last:=⟨_,rfl⟩;have KS:=H_ (fun wr:World=>step_any wr hu hl);have HST:=H_ hst;rw [<- hst] at KS;have ka:=nums_any (base:=0) (cp:=5) ((OM.alloc O1d.out (.cells #[.int .i64 st,.int .i64 md,.int .i64 d,.int .i64 fl,.int .i64 (kn:Nat)] 3)).own) (ints_new w1.drew [st,md,d,fl,((kn:Nat):Int)] _ rfl (by simp)) (by simp) (fun _ ad e=>by injection e with e; subst e; exact own_none O1d.out.own) (by simp; omega);have hl1:=nums_len [st,md,d,fl,((kn:Nat):Int)];obtain⟨q,hq⟩ : ∃ q,q=(nums [st,md,d,fl,((kn:Nat):Int)]).length:=⟨_,rfl⟩;rw [<- hq] at ka hl1;have hq12:q<=30:=hl1;have HQ:=H_ hq;have KA:=H_ (show Calls Tryz.prog 97 #[.slice A n c0,.slice (some ⟨w1.heap.size,0,none⟩) 5 5] (w1.drew.alloc (.cells #[.int .i64 st,.int .i64 md,.int .i64 d,.int .i64 fl,.int .i64 (kn:Nat)] 3)) _ from ka);clear ka hq hl1 hst
 go_region_held3 (fun wr=>wr.cell? ⟨P,0,none⟩ = some (.int .i64 u)/\wr.cell? ⟨P,1,none⟩ = some (.int .i64 md)/\wr.cell? ⟨P,2,none⟩ = some (.int .i64 d)/\wr.cell? ⟨P,4,none⟩ = some (.int .i64 fl)/\wr.cell? ⟨P,5,none⟩ = some (.slice K kn kc)) (first | exact⟨m0,m1,m2,m4,m5⟩ | exact⟨(HM.out _ O2.out.fr).1,(HM.out _ O2.out.fr).2.1,(HM.out _ O2.out.fr).2.2.1,(HM.out _ O2.out.fr).2.2.2.2.1,(HM.out _ O2.out.fr).2.2.2.2.2.1⟩ | go_keep) (first
  | (go_at_call 197
     refine (KS.out _).mono ?_;rintro e w2 ⟨rfl,rfl⟩;dsimp only)
  | (go_at_call 97
     refine KA.out.mono ?_;rintro e w2 ⟨v2,rfl,g2⟩;obtain⟨A2,c2,rfl,hc2⟩:=g2.own.slice;have O2:=H_ (OM.trans (OM.alloc O1d.out _) g2);clear g2;dsimp only))
 rename_i hHeld;clear hHeld m0 m1 m2 m3' m4 m5 m6 KA KS O1d;obtain⟨m0,m1,m2,m3',m4,m5,m6⟩:=HM.out w2 O2.out.fr;obtain⟨l0,hl0⟩ : ∃ l0,l0=l++nums [st,md,d,fl,((kn:Nat):Int)]:=⟨_,rfl⟩;rw [<- hl0] at O2;have HL0:=H_ hl0;have HNE:=H_ (show 0<kn->∀ ad,K=some ad->(Value.slice A n c0).ownBlock≠some ad.block from fun h0 ad e e2=>by
  obtain⟨ad',e',hlt,_⟩:=HZ.out.2.2 h0;rw [e'] at e;have:=Option.some.inj e;subst this;have:=HOB.out _ e2;omega)
 clear hl0;go_wp2_with fail
 go_loopw [0,7,29] (fun s0 s7 s29 wr=>∃ (v':Value) (k r:Nat) (a:Int),s0=v'/\k<=kn/\s29 = .int .i64 k/\s7 = .int .i64 a/\(-1<=a/\a<=1000000)/\r<=6*k/\Hid (a=lst (-1) (ks.take k))/\Hid (r=(kb (-1) (ks.take k)).length)/\Hid (OM w1 (.slice A n c0) wr (n+q+r) v' (l0++kb (-1) (ks.take k)))) (fun _ _ s29 _=>kn-(intOf s29).toNat)
 case atStart=>exact⟨_,0,0,-1,rfl,Nat.zero_le _,rfl,rfl,by omega,Nat.zero_le _,rfl,rfl,by have:=O2.out; simpa [kb,Hid] using this⟩
 case round =>
  clear m0 m1 m2 m3' m4 m5 m6 O2;obtain⟨v',k,r,a,rfl,hk,rfl,rfl,ha,hr,HA,HR,HO⟩:=hrel;obtain⟨A1,c1,rfl,hc1⟩:=Ow.slice HO.out.own;obtain⟨m0,m1,m2,m3',m4,m5,m6⟩:=HM.out wr HO.out.fr;by_cases hlt:k<kn
  · obtain⟨ad,x,rfl,e1,q1⟩:=ints_kept HO.out HZ.out (show B<=w1.heap.size by omega) (HNE.out (by omega)) hlt
    have hxb:=HKS.out x (List.mem_of_getElem? e1);have hkb:=kb_take (-1) e1;rw [<- HA.out] at hkb;have HKB:=H_ hkb;have KS:=H_ (step_any wr hxb ha);obtain⟨y,hy⟩ : ∃ y,y=stp x a:=⟨_,rfl⟩;rw [<- hy] at KS;have HY:=H_ hy;have ka:=nums_any (base:=0) (cp:=1) ((OM.alloc HO.out (.cells #[.int .i64 y] 3)).own) (ints_new wr [y] _ rfl (by simp)) (by simp) (fun _ ad e=>by injection e with e; subst e; exact own_none HO.out.own) (by simp; omega);have hl1:=nums_len [y];obtain⟨t,ht⟩ : ∃ t,t=(nums [y]).length:=⟨_,rfl⟩;rw [<- ht] at ka hl1;have ht6:t<=6:=hl1;have HT:=H_ ht;have KA:=H_ (show Calls Tryz.prog 97 #[.slice A1 (n+q+r) c1,.slice (some ⟨wr.heap.size,0,none⟩) 1 1] (wr.alloc (.cells #[.int .i64 y] 3)) _ from ka);clear e1 hkb hy ka hl1 ht m0 m1 m2 m3' m4 m5 m6;go_wp2_with (first
     | (go_at_call 197; go_loud (
        refine KS.out.mono ?_;rintro e w3 ⟨rfl,rfl⟩))
     | (go_at_call 97; go_loud (
        refine KA.out.mono ?_;rintro e w3 ⟨v3,rfl,g3⟩;have O3:=H_ (OM.trans (OM.alloc HO.out _) g3);clear g3 q1)))
    go_roundw
    case rel=>exact⟨v3,k+1,r+t,x,rfl,by omega,by go_num,rfl,hxb,by omega,HKB.out.2.symm,by rw [HKB.out.1,List.length_append,<- HR.out,<- HY.out,<- HT.out,Hid],by have:=O3.out; rw [Nat.add_assoc] at this; rw [HKB.out.1,<- HY.out,<- List.append_assoc]; exact this⟩
    case measure=>simp [intOf]; omega
  · obtain rfl:kn=k:=by omega
    have hqq:ks.take kn=ks:=List.take_of_length_le (by omega);have ho:=HO.out;have hr2:=HR.out;rw [hqq] at ho hr2;have HO2:=H_ ho;have HR2:=H_ hr2;clear ho hr2 HO HA HR hqq;have KT:=H_ (text_om HO2.out.own id (by omega) (by omega));have htl:=tx_len (s:=id) (by omega);obtain⟨t,ht⟩ : ∃ t,t=(tx id).length:=⟨_,rfl⟩;rw [<- ht] at KT htl;have HT:=H_ ht;clear ht;go_upto_region 10 with (go_at_call 96; go_loud (
     refine KT.out.mono ?_;rintro e w3 ⟨v3,rfl,g3⟩;obtain⟨A3,c3,rfl,hc3⟩:=g3.own.slice;have O3:=H_ (OM.trans HO2.out g3);clear g3 m0 m1 m2 m3' m4 m5 m6))
    obtain⟨m0,m1,m2,m3',m4,m5,m6⟩:=HM.out w3 O3.out.fr;have KT2:=H_ (text_om O3.out.own tx' (by omega) (by omega));go_wp2_with (go_at_call 96; go_loud (
     refine KT2.out.mono ?_;rintro e w4 ⟨v4,rfl,g4⟩;have O4:=H_ (OM.trans O0.out (OM.trans O3.out g4));clear g4 m0 m1 m2 m3' m4 m5 m6))
    go_ret;refine⟨v4,rfl, ?_⟩;have e:m3 last ⟨u,md,d,id,fl,ks,tx'⟩=nums [st,md,d,fl,((kn:Nat):Int)]++(kb (-1) ks++(tx id++tx tx')):=by
     unfold m3;simp only [<- HST.out,hkl]
    have h:=O4.out;rw [HL0.out] at h;rw [e];simp only [List.length_append,<- List.append_assoc,<- HQ.out,<- HR2.out,<- HT.out] at h ⊢;simp only [<- Nat.add_assoc] at h ⊢;exact h
end Go.Proofs.YtoljpfapphoflaaGreatDoor.F3A

set_option maxHeartbeats 4000000
set_option maxRecDepth 100000
namespace Go.Proofs.YtoljpfapphoflaaGreatDoor.F3C
open Go.RowKit BxD PkKit PkA PkB PkC PkR OlD OlOm PtD PtK PtA F3D F3A
open BxKit (RowAt IntsAt StrsAt MsgsAt StrsAt.below MsgsAt.below After After.start After.go After.box After.size After.below)
theorem own_const (w:World) (l:List UInt8) (a:Array Value) (n:Nat) (ha:a=(by_ l).toArray) (hn:l.length=n) (hl:n<=1000000):Ow (w.alloc (.cells a 5 (n,n+1))) w.heap.size (.slice (some ⟨w.heap.size,0,none⟩) n n) n (by_ l):=by
 subst ha hn;have hl2:(by_ l).length=l.length:=by_length l;refine .inr ⟨hl2,w.heap.size,(by_ l).toArray,(l.length,l.length+1),by simp [hl2],Nat.le_refl _, ?_,by rw [List.size_toArray,hl2]; exact Nat.le_refl _,by rw [List.size_toArray,hl2]; exact Nat.le_refl _,by rw [List.size_toArray,hl2]; unfold maxLen; omega, ?_⟩
 · show (w.heap.push (.cells (by_ l).toArray 5 (l.length,l.length+1)))[w.heap.size]? = _
   simp
 · rw [<- hl2]
   simp
theorem ms3_take {ms:List Msg} {k:Nat} {x:Msg} (a:Int) (h:ms[k]? = some x):ms3 a (ms.take (k+1))=ms3 a (ms.take k)++m3 (lst a ((ms.take k).map Msg.uid)) x/\lst a ((ms.take (k+1)).map Msg.uid)=x.uid:=by
 obtain⟨hl,rfl⟩:=List.getElem?_eq_some_iff.1 h;rw [List.take_succ_eq_append_getElem hl];refine⟨ms3_snoc _ _ _, ?_⟩;rw [List.map_append];exact lst_snoc _ _ _
theorem m3_len {last:Int} {m:Msg} {n:Nat} (h:mmB n m=true) (hn:n<=64):(m3 last m).length<=800:=by
 obtain⟨h1,h2,h3,h4,h5,h6,h7⟩:=mm_parts h;have a1:=nums_len [stp m.uid last,m.mod,m.date,m.flags,(m.keys.length:Nat)];have a2:=kb_len m.keys (-1);have a3:=keys_len h6;have a4:=tx_len (s:=m.id) (by have:=(atB_size h4).2; omega);have a5:=tx_len (s:=m.text) (by omega);have a6:=(atB_size h4).2;unfold m3;simp only [List.length_append,List.length_cons,List.length_nil] at a1 ⊢;omega
theorem ms3_len {n:Nat} (hn:n<=64) : ∀ (ms:List Msg) (a:Int),(∀ m∈ms,mmB n m=true)->(ms3 a ms).length<=800*ms.length
 | [],_,_=>Nat.le_refl _
 | m::r,a,h=>by
  have h1:=m3_len (last:=a) (h m (by simp)) hn;have h2:=ms3_len hn r m.uid (fun x hx=>h x (List.mem_cons_of_mem _ hx));show (m3 a m++ms3 m.uid r).length<=_;rw [List.length_append,List.length_cons];omega
theorem tx_flat : ∀ (ws:List ByteArray),(∀ s∈ws,s.size<=24)->(ws.flatMap tx).length<=30*ws.length
 | [],_=>Nat.le_refl _
 | s::r,h=>by
  have h0:=h s (by simp);have h1:=tx_len (s:=s) (by omega);have h2:=tx_flat r (fun x hx=>h x (List.mem_cons_of_mem _ hx));rw [List.flatMap_cons,List.length_append,List.length_cons];omega
theorem hd3_len {b:Box} (h:mbE b=0):1<=(hd3 b).length/\(hd3 b).length<=2000:=by
 have g:=good_of h;have h1:=tx_flat b.words fun s hs=>(atB_size (wordsB_at g.ws s hs)).2;have h2:=g.wl;have h3:=nums_len [b.valid,b.next,b.high];have h4:=nums_len [((b.words.length:Nat):Int)];have h5:=nums_len [((b.msgs.length:Nat):Int)];have h6:=tx_len (s:=b.id) (by have:=g.ids; omega);have h7:=g.ids;have h8:1<=(nums [b.valid,b.next,b.high]).length:=by
  rw [nums_cons,nums_one,List.length_append];have:=Lib.uvarint_pos (cl b.valid);omega
 unfold hd3;simp only [List.length_append,List.length_cons,List.length_nil] at h3 h4 h5 h8 ⊢;omega
theorem bytes_ok {w:World} {b:Box} {WA MA:Option Addr} {wn wc mn mc B:Nat} (hx:StrsAt w B WA wn b.words) (hm:MsgsAt w B MA mn b.msgs) (hwc:wn<=wc) (hmc:mn<=mc) (hB:B<=w.heap.size) (h0:mbE b=0) :
 Calls Tryz.prog 130 #[.agg #[.string b.id,.int .i64 b.valid,.int .i64 b.next,.int .i64 b.high,.slice WA wn wc,.slice MA mn mc]] w (BytesOut (e3 b) 0 w):=by
 have A0:=H_ (After.start w (.cells #[.string b.id,.int .i64 b.valid,.int .i64 b.next,.int .i64 b.high,.slice WA wn wc,.slice MA mn mc] 25));have hbl:=A0.out.below;have HX:=H_ (StrsAt.below hx hbl hB);have HM:=H_ (MsgsAt.below hm hbl hB);have H0:=H_ h0;have HG:=H_ (good_of h0);have hwm:=hx.max;clear hx hm h0 hbl;go_enter Tryz.func130,Tryz.ntmps130;go_upto_region 1 with fail
 generalize (World.alloc w _)=w1 at A0 HX HM ⊢;have hs1:=A0.out.size;have km:=BxB.may_box (bid:=b.id) (bv:=b.valid) (bn:=b.next) (bh:=b.high) (mc:=mc) HX.out HM.out (by omega) hwc;rw [show mbE ⟨b.id,b.valid,b.next,b.high,b.words,b.msgs⟩=0 from H0.out] at km;have KM:=H_ km;clear km;obtain⟨c0,c1,c2,c3,c4,c5⟩:=A0.out.box
 go_upto_region 3 with (go_at_call 67; go_loud (
              refine KM.out.mono ?_;rintro e w2 ⟨rfl,hb2⟩;have A2:=H_ (A0.out.go hb2);have HX2:=H_ (StrsAt.below HX.out hb2 (by omega));have HM2:=H_ (MsgsAt.below HM.out hb2 (by omega));clear hb2 c0 c1 c2 c3 c4 c5))
 clear A0 HX HM;have hs2:=A2.out.size;have HBX:=H_ (fun (wr:World) (hb:Below w2.heap.size w2 wr)=>(A2.out.go hb).box);obtain⟨c0,c1,c2,c3,c4,c5⟩:=A2.out.box;have hcv:(convert 37 37 (.slice (some ⟨w2.heap.size,0,none⟩) 3 3)).run Tryz.prog (w2.alloc (.cells #[.int .u8 77,.int .u8 66,.int .u8 51] 5)) = .ok (.slice (some ⟨w2.heap.size,0,none⟩) 3 3) (w2.alloc (.cells #[.int .u8 77,.int .u8 66,.int .u8 51] 5 (3,4))) :=
  _root_.Go.Joins.run_convert_bytes_const_at (P:=Tryz.prog) w2 37 5 #[.int .u8 77,.int .u8 66,.int .u8 51] 3 3 w2.heap.size rfl Tryz.underlying37 Tryz.underlying5
 have o1:OO w2.heap.size w2 (w2.alloc (.cells #[.int .u8 77,.int .u8 66,.int .u8 51] 5 (3,4))) 3 (.slice (some ⟨w2.heap.size,0,none⟩) 3 3) mk3:=⟨own_const w2 mk3 _ 3 rfl rfl (by decide),(Below.refl _ _).alloc lr_ _,Nat.le_refl _⟩;have O1:=H_ o1;obtain⟨d0,d1,d2,d3,d4,d5⟩:=HBX.out _ o1.bel;have ka:=nums_any (base:=0) (cp:=3) ((o1.alloc (.cells #[.int .i64 b.valid,.int .i64 b.next,.int .i64 b.high] 3)).own.down) (ints_new (w2.alloc (.cells #[.int .u8 77,.int .u8 66,.int .u8 51] 5 (3,4))) [b.valid,b.next,b.high] _ rfl (by simp)) (by simp) (fun _ ad e=>by injection e with e; subst e; exact own_none o1.own) (by simp);rw [show (w2.alloc (.cells #[.int .u8 77,.int .u8 66,.int .u8 51] 5 (3,4))).heap.size=w2.heap.size+1 by simp] at ka;have hl1:=nums_len [b.valid,b.next,b.high];obtain⟨q,hq⟩ : ∃ q,q=(nums [b.valid,b.next,b.high]).length:=⟨_,rfl⟩;rw [<- hq] at ka hl1;have hq18:q<=18:=hl1;have KA:=H_ ka;clear ka hq hl1 o1 c0 c1 c2 c3 c4 c5;go_upto_region 4 with (go_at_call 97; go_loud (
  refine KA.out.mono ?_;rintro e w3 ⟨v3,rfl,g3⟩;obtain⟨A3,k3,rfl,hk3⟩:=g3.own.slice;have O3:=H_ ((O1.out.alloc _).om g3);clear g3 d0 d1 d2 d3 d4 d5))
 clear KA O1 hcv;obtain⟨l1,hl1⟩ : ∃ l1,l1=mk3++nums [b.valid,b.next,b.high]:=⟨_,rfl⟩;rw [<- hl1] at O3;have HL1:=H_ hl1;clear hl1;have hids:=HG.out.ids;obtain⟨c0,c1,c2,c3,c4,c5⟩:=HBX.out w3 O3.out.bel;have kt:=text_om O3.out.own b.id (by omega) (by omega);have htl:=tx_len (s:=b.id) (by omega);obtain⟨t,ht⟩ : ∃ t,t=(tx b.id).length:=⟨_,rfl⟩;rw [<- ht] at kt htl;have KT:=H_ kt;clear kt ht;go_upto_region 5 with (go_at_call 96; go_loud (
  refine KT.out.mono ?_;rintro e w4 ⟨v4,rfl,g4⟩;obtain⟨A4,k4,rfl,hk4⟩:=g4.own.slice;have O4:=H_ (O3.out.om g4);clear g4 c0 c1 c2 c3 c4 c5))
 clear KT O3;have hwl:=HG.out.wl;have hwn:wn<=64:=by rw [<- HX2.out.len]; exact hwl
 obtain⟨c0,c1,c2,c3,c4,c5⟩:=HBX.out w4 O4.out.bel;have ka:=nums_any (base:=0) (cp:=1) ((O4.out.alloc (.cells #[.int .i64 (wn:Nat)] 3)).own.down) (ints_new w4 [((wn:Nat):Int)] _ rfl (by simp)) (by simp) (fun _ ad e=>by injection e with e; subst e; exact own_none O4.out.own) (by simp; omega);have hl1:=nums_len [((wn:Nat):Int)];obtain⟨q1,hq1⟩ : ∃ q1,q1=(nums [((wn:Nat):Int)]).length:=⟨_,rfl⟩;rw [<- hq1] at ka hl1;have hq6:q1<=6:=hl1;have KA:=H_ ka;clear ka hq1 hl1;go_upto_region 6 with (go_at_call 97; go_loud (
  refine KA.out.mono ?_;rintro e w5 ⟨v5,rfl,g5⟩;obtain⟨A5,k5,rfl,hk5⟩:=g5.own.slice;have O5:=H_ ((O4.out.alloc _).om g5);clear g5 c0 c1 c2 c3 c4 c5))
 clear KA O4;obtain⟨l2,hl2⟩ : ∃ l2,l2=l1++tx b.id++nums [((wn:Nat):Int)]:=⟨_,rfl⟩;rw [<- hl2] at O5;have HL2:=H_ hl2;clear hl2;obtain⟨c0,c1,c2,c3,c4,c5⟩:=HBX.out w5 O5.out.bel;go_wp2_with fail
 go_loopw [4,36] (fun s4 s36 wr=>∃ (v:Value) (j n:Nat),s4=v/\j<=wn/\s36 = .int .i64 j/\n<=400+306*j/\Hid (OO w2.heap.size w2 wr n v (l2++(b.words.take j).flatMap tx))) (fun _ s36 _=>wn-(intOf s36).toNat)
 case atStart=>exact⟨_,0,3+q+t+q1,rfl,Nat.zero_le _,rfl,by omega,by have:=O5.out; simpa [Hid] using this⟩
 case round =>
  clear O5 c0 c1 c2 c3 c4 c5;obtain⟨v,j,n,rfl,hj,rfl,hn,HO⟩:=hrel;obtain⟨A6,k6,rfl,hk6⟩:=HO.out.own.slice;have hbs:=HO.out.bel.size;by_cases hlt:j<wn
  · obtain⟨ad,s,rfl,e1,q2⟩:=BxKit.StrsAt.at_ HX2.out HO.out.bel (by omega) hlt
    have hsz:s.size<=24:=(atB_size (wordsB_at HG.out.ws s (List.mem_of_getElem? e1))).2;have htl2:=PkK.tx_len (s:=s) (by omega);have KT:=H_ (text_om HO.out.own s (by omega) (by omega));have HSN:=H_ (tx_snoc e1);obtain⟨T,hT⟩ : ∃ T,T=(tx s).length:=⟨_,rfl⟩;rw [<- hT] at htl2 KT;clear e1 hT
    go_wp2_with (go_at_call 96; go_loud (
         refine KT.out.mono ?_;rintro e w6 ⟨v6,rfl,g6⟩;have HO6:=H_ (show OO w2.heap.size w2 w6 (n+T) v6 (l2++(b.words.take (j+1)).flatMap tx) by rw [HSN.out,<- List.append_assoc]; exact HO.out.om g6);clear g6 q2))
    go_roundw
    case rel=>exact⟨v6,j+1,n+T,rfl,by omega,by go_num,by omega,HO6⟩
    case measure=>simp [intOf]; omega
  · obtain rfl:wn=j:=by omega
    obtain⟨c0,c1,c2,c3,c4,c5⟩:=HBX.out wr HO.out.bel;have hml:=HG.out.ml;have hmn:mn<=60:=by rw [<- HM2.out.len]; exact hml
    have ka:=nums_any (base:=0) (cp:=1) ((HO.out.alloc (.cells #[.int .i64 (mn:Nat)] 3)).own.down) (ints_new wr [((mn:Nat):Int)] _ rfl (by simp)) (by simp) (fun _ ad e=>by injection e with e; subst e; exact own_none HO.out.own) (by simp; omega);have hl1:=nums_len [((mn:Nat):Int)];obtain⟨q3,hq3⟩ : ∃ q3,q3=(nums [((mn:Nat):Int)]).length:=⟨_,rfl⟩;rw [<- hq3] at ka hl1;have hq36:q3<=6:=hl1;have KA:=H_ ka;clear ka hq3 hl1;go_upto_region 12 with (go_at_call 97; go_loud (
     refine KA.out.mono ?_;rintro e w6 ⟨v6,rfl,g6⟩;obtain⟨A7,k7,rfl,hk7⟩:=g6.own.slice;have O6:=H_ ((HO.out.alloc _).om g6);clear g6 c0 c1 c2 c3 c4 c5))
    have hqw:b.words.take wn=b.words:=List.take_of_length_le (by rw [HX2.out.len]; exact Nat.le_refl _);obtain⟨l3,hl3⟩ : ∃ l3,l3=l2++(b.words.take wn).flatMap tx++nums [((mn:Nat):Int)]:=⟨_,rfl⟩;rw [<- hl3] at O6;have HL3:=H_ (show l3++ms3 0 b.msgs=e3 b by
     rw [hl3,hqw,HL2.out,HL1.out];unfold e3 e3R hd3;simp only [List.append_assoc,<- HX2.out.len,<- HM2.out.len])
    clear hl3 hqw KA HO HX2;obtain⟨c0,c1,c2,c3,c4,c5⟩:=HBX.out w6 O6.out.bel;go_wp2_with fail
    go_loopw [4,7,53] (fun s4 s7 s53 wr=>∃ (v:Value) (i n1:Nat) (a:Int),s4=v/\i<=mn/\s53 = .int .i64 i/\s7 = .int .i64 a/\(-1<=a/\a<=1000000)/\n1<=n+6+800*i/\Hid (a=lst 0 ((b.msgs.take i).map Msg.uid))/\Hid (OO w2.heap.size w2 wr n1 v (l3++ms3 0 (b.msgs.take i)))) (fun _ _ s53 _=>mn-(intOf s53).toNat)
    case atStart=>exact⟨_,0,n+q3,0,rfl,Nat.zero_le _,rfl,rfl,by omega,by omega,rfl,by have:=O6.out; simpa [ms3,Hid] using this⟩
    case round =>
     clear O6 c0 c1 c2 c3 c4 c5;obtain⟨v,i,n1,a,rfl,hi,rfl,rfl,ha,hn1,HA,HO⟩:=hrel;obtain⟨A8,k8,rfl,hk8⟩:=HO.out.own.slice;have hbs1:=HO.out.bel.size;by_cases hlt1:i<mn
     · obtain⟨ad,u,md,d,id,fl,ks,tx',K,kn,kc,rfl,hab,e1,m0,m1,m2,m3',m4,m5,m6,hkc,hks,z1,z2⟩:=BxKit.MsgsAt.sp HM2.out HO.out.bel (by omega) hlt1
       have hmm:=(HG.out.ms _ (List.mem_of_getElem? e1)).1;obtain⟨p1,p2,p3,p4,p5,p6,p7⟩:=mm_parts hmm;dsimp only at p1 p4 p6 p7;have hsn:=ms3_take 0 e1;rw [<- HA.out] at hsn;have HSN:=H_ hsn;have hel:(m3 a ⟨u,md,d,id,fl,ks,tx'⟩).length<=800:=m3_len hmm (by omega);obtain⟨E,hE⟩ : ∃ E,E=(m3 a ⟨u,md,d,id,fl,ks,tx'⟩).length:=⟨_,rfl⟩;have HOA:=H_ (HO.out.alloc (.cells #[.int .i64 u,.int .i64 md,.int .i64 d,.string id,.int .i64 fl,.slice K kn kc,.string tx'] 61));have HC:=H_ (heap_alloc_new wr (.cells #[.int .i64 u,.int .i64 md,.int .i64 d,.string id,.int .i64 fl,.slice K kn kc,.string tx'] 61));have hkr:=(OlD.keysB_rise p6).2;have hkl:=keys_len p6;have hkn2:kn<=64:=by rw [<- hks.len]; omega
       have km:=appendMsg_om (kc:=kc) (u:=u) (md:=md) (d:=d) (fl:=fl) (id:=id) (last:=a) HOA.out.own (BxKit.IntsAt.below hks ((Below.refl w2.heap.size wr).alloc hbs1 (.cells #[.int .i64 u,.int .i64 md,.int .i64 d,.string id,.int .i64 fl,.slice K kn kc,.string tx'] 61)) (by omega)) (show B<=w2.heap.size by omega) (by simp; omega) (by omega) (fun k hk=>by have:=hkr k hk; omega) (by omega) ha (by have:=(atB_size p4).2; omega) p7 (by omega);rw [<- hE] at km hel;have KM:=H_ km;have hne:=own_none HO.out.own;have hu2 : -1<=u/\u<=1000000:=by omega
       clear e1 hks p1 p2 p3 p4 p5 p6 p7 hE km hsn hmm hkr hkl hkn2;go_wp2_with (go_at_call 162; go_loud (
        refine KM.out.mono ?_;rintro e w7 ⟨v7,rfl,g7⟩;have HO7:=H_ (show OO w2.heap.size w2 w7 (n1+E) v7 (l3++ms3 0 (b.msgs.take (i+1))) by rw [HSN.out.1,<- List.append_assoc]; exact HOA.out.om g7);have x0:w7.cell? ⟨wr.heap.size,0,none⟩ = some (.int .i64 u):=(cell_of_row w7 wr.heap.size 0 _ _ _ ((g7.fr.block wr.heap.size (by simp) (fun e2=>hne e2.symm)).trans HC.out)).trans rfl;clear g7 m0 m1 m2 m3' m4 m5 m6))
       go_roundw
       case rel=>exact⟨v7,i+1,n1+E,u,rfl,by omega,by go_num,rfl,hu2,by omega,HSN.out.2.symm,HO7⟩
       case measure=>simp [intOf]; omega
     · obtain rfl:mn=i:=by omega
       have ho:=HO.out;rw [List.take_of_length_le (by rw [HM2.out.len]; exact Nat.le_refl _),HL3.out] at ho;have HO2:=H_ ho;clear ho HO;go_wp2_with fail
       go_ret2;exact⟨A8,n1,k8,rfl,hk8,HO2.out.own.bytes,A2.out.below.trans (HO2.out.bel.mono (by omega)),fun ad e=>by subst e; have h1:=ow_blk HO2.out.own; have h2:=A2.out.below.size; omega⟩
end Go.Proofs.YtoljpfapphoflaaGreatDoor.F3C
