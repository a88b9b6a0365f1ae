/-
  RpH + RpY + HoA
-/
import Derived.Test.YtoljpfapphoflaaGreatDoorL3
import Derived.WalkKit
import Derived.IntWalk
import Derived.Test.YtoljpfapphoflaaGreatDoorJ5
import Derived.Test.YtoljpfapphoflaaGreatDoorRpP
import Derived.Test.YtoljpfapphoflaaGreatDoorJ8
import Derived.Deep.RegionHeld3
import Derived.Test.YtoljpfapphoflaaGreatDoorH1
import Derived.Test.YtoljpfapphoflaaGreatDoorS7
import Derived.Test.YtoljpfapphoflaaGreatDoorL1
import Derived.Lib.ItoaNum
import Derived.Lib.SmallJoins
import Derived.MakeChecks
set_option linter.unusedVariables false
set_option linter.unusedSimpArgs false
namespace Go.Proofs.YtoljpfapphoflaaGreatDoor.RpH
open Go.RowKit BxD BxKit BxR RwD RwKit
def small (r:Row):Prop:=r.msg.keys.length<=90000/\r.msg.id.size<=90000/\r.msg.text.size<=90000/\r.text.size<=90000
end Go.Proofs.YtoljpfapphoflaaGreatDoor.RpH

set_option maxHeartbeats 4000000
set_option maxRecDepth 100000
namespace Go.Proofs.YtoljpfapphoflaaGreatDoor.RpY
open Go.RowKit BxD BxKit RwD RwKit PkKit PkA PkB PkC PkD OlOm PtD PtK RpD RpB RpC RpP RpT RpH
theorem bytes_no {l:List Row} {r:Row} (h:r∈l) (hb:backR r=false):bytesR l=[]:=by
 unfold bytesR;split
 · rfl
 · rw [if_neg]
   intro e;have:=List.all_eq_true.1 e r h;rw [hb] at this;cases this
theorem bytes_yes {l:List Row} (h1 : ¬ 200<l.length) (h2:l.all backR=true):bytesR l=l.flatMap rob:=by
 unfold bytesR;rw [if_neg h1,if_pos h2]
theorem rob_len {r:Row} (h:small r):0<(rob r).length/\(rob r).length<=1000000:=by
 obtain⟨h1,h2,h3,h4⟩:=h;have n1:=fun z=>nums_len [z];have n2:=fun a b=>nums_len [a,b];have n3:=nums_len [r.msg.uid,r.msg.mod,r.msg.date];have nk:=nums_len r.msg.keys;have t1:=tx_len (s:=r.msg.id) (by omega);have t2:=tx_len (s:=r.msg.text) (by omega);have t3:=tx_len (s:=r.text) (by omega);have hp:0<(nums [r.kind]).length:=by rw [nums_one]; exact Lib.uvarint_pos _
 simp only [List.length_cons,List.length_nil] at n1 n2 n3;have a1:=n1 r.kind;have a2:=n2 r.uid r.mod;have a3:=n2 r.msg.flags (r.msg.keys.length:Nat);have a4:=n1 r.uid;have a5:=n1 r.mod;unfold rob;rw [List.length_append];refine⟨by omega, ?_⟩;have hf:(flb r.msg).length<=540012:=by unfold flb; rw [List.length_append]; omega
 have hm:(msb r.msg).length<=800000:=by unfold msb; simp only [List.length_append]; omega
 split
 · omega
 · split
   · simp only [List.length_append]; omega
   · split
     · omega
     · split
       · omega
       · split
         · simp only [List.length_append]; omega
         · split
           · omega
           · simp; omega
theorem rowsAt_blk {w:World} {g B:Nat} {kd ru rm u md d fl:Int} {id tx t:ByteArray} {K:Option Addr} {kn kc:Nat} {ks:List Int} (h:w.heap[g]? = some (.cells #[.int .i64 kd,.int .i64 ru,.int .i64 rm,.int .i64 u,.int .i64 md,.int .i64 d,.string id,.int .i64 fl,.slice K kn kc,.string tx,.string t] 63 (0,0))) (hg:g<B) (hk:IntsAt w B K kn ks) (hkc:kn<=kc) (hz:id.size<=140737488355328) (hz2:tx.size<=140737488355328) (hz3:t.size<=140737488355328):RowsAt w B (some ⟨g,0,none⟩) 1 [⟨kd,ru,rm,⟨u,md,d,id,fl,ks,tx⟩,t⟩]:=by
 have c:=fun o=>cell_of_row w g o _ _ _ h;have hl:=hk.len;refine⟨rfl,by decide,fun _=>⟨_,rfl,hg,fun j x hx=>?_⟩⟩
 match j,hx with
 | 0,hx =>
  obtain rfl:(⟨kd,ru,rm,⟨u,md,d,id,fl,ks,tx⟩,t⟩:Row)=x:=by simpa using hx
  refine⟨(c 0).trans rfl,(c 1).trans rfl,(c 2).trans rfl,(c 3).trans rfl,(c 4).trans rfl,(c 5).trans rfl,(c 6).trans rfl,(c 7).trans rfl,⟨K,kc, ?_, ?_, ?_⟩,(c 9).trans rfl,(c 10).trans rfl,hz,hz2,hz3⟩
  · show _=some (Value.slice K ks.length kc)
    rw [hl];exact (c 8).trans rfl
  · show ks.length<=kc
    omega
  · show IntsAt w B K ks.length ks
    rw [hl];exact hk
 | j+1,hx=>simp at hx
def BsOut (l:List UInt8) (w:World) (e:Ending) (w':World):Prop :=
 ∃ A n c,e = .returned (.slice A n c)/\n<=c/\n<=1000000000/\BytesAt w' w'.heap.size A n l/\Below w.heap.size w w'/\(∀ ad:Addr,A=some ad->w.heap.size<=ad.block)
theorem bytes_any {w:World} {B n cp:Nat} {A:Option Addr} {l:List Row} (h:RowsAt w B A n l) (hB:B<=w.heap.size) (hs : ∀ r∈l,small r):Calls Tryz.prog 35 #[.slice A n cp] w (BsOut (bytesR l) w):=by
 have hn:=h.max;have hln:=h.len;by_cases h2:200<n
 · have HE:=H_ (show bytesR l=[] from by unfold bytesR; rw [if_pos (by omega)])
   have h2':200<(n:Int):=by omega
   clear h hs h2;go_enter Tryz.func35,Tryz.ntmps35;go_wp2_with fail
   go_ret;rw [HE.out];exact⟨none,0,0,rfl,Nat.le_refl _,Nat.zero_le _,nil_bytes _ _,Below.refl _ _,fun _ e=>by cases e⟩
 have h2':(n:Int)<=200:=by omega
 have HX:=H_ h;have HS:=H_ hs;clear h hs;go_enter Tryz.func35,Tryz.ntmps35;go_wp2_with fail
 go_loopw [3,14] (fun s3 s14 wr=>∃ (v:Value) (m k:Nat),s3=v/\s14 = .int .i64 k/\k<=n/\m<=1000000*k/\Hid (OO w.heap.size w wr m v ((l.take k).flatMap rob))/\Hid ((l.take k).all backR=true)) (fun _ s14 _=>n-(intOf s14).toNat)
 case atStart=>exact⟨_,0,0,rfl,rfl,Nat.zero_le _,Nat.zero_le _,⟨.inl (World.ownsRow_nil _ _ _ _),Below.refl _ _,Nat.le_refl _⟩,rfl⟩
 case round =>
  obtain⟨v,m,k,rfl,rfl,hk,hm,HG,HA⟩:=hrel;obtain⟨A1,c1,rfl,hc1⟩:=HG.out.own.slice;by_cases hlt:k<n
  case neg =>
   obtain rfl:k=n:=by omega
   have HE:=H_ (show (l.take k).flatMap rob=bytesR l from by
    have h1:=HA.out;rw [List.take_of_length_le (by omega)] at h1 ⊢;exact (bytes_yes (by omega) h1).symm)
   go_wp2_with fail
   go_ret;rw [<- HE.out];exact⟨A1,m,c1,rfl,hc1,by omega,HG.out.own.bytes,HG.out.bel,fun ad e=>by subst e; exact ow_blk HG.out.own⟩
  obtain⟨ad,kd,ru,rm,u,md,d,id,fl,ks,tx,t,K,kn,kc,rfl,_,hx,c0,c1',c2,c3,c4,c5,c6,c7,c8,c9,c10,hkc,hks,y1,y2,y3⟩:=RowsAt.sp HX.out HG.out.bel hB hlt;obtain⟨r,hr⟩ : ∃ r:Row,r=⟨kd,ru,rm,⟨u,md,d,id,fl,ks,tx⟩,t⟩:=⟨_,rfl⟩;rw [<- hr] at hx;have HR:=H_ hr;have hrl:r∈l:=List.mem_of_getElem? hx;have HRL:=H_ hrl;have hsm:=HS.out r hrl;obtain⟨hrp,hrn⟩:=rob_len hsm;have HT:=H_ (show (l.take (k+1))=l.take k++[r] by rw [List.take_add_one,hx]; rfl);have hkl:=hks.len;have hsm2:ks.length<=90000/\id.size<=90000/\tx.size<=90000/\t.size<=90000:=by rw [hr] at hsm; exact hsm
  obtain⟨g1,g2,g3,g4⟩:=hsm2;have HK:=H_ hks;clear hks hx hr hsm hrl;go_upto_region 7 with fail
  have G1:=H_ (HG.out.alloc (.cells #[.int .i64 kd,.int .i64 ru,.int .i64 rm,.int .i64 u,.int .i64 md,.int .i64 d,.string id,.int .i64 fl,.slice K kn kc,.string tx,.string t] 63));have X1:=H_ (heap_alloc_new wr (.cells #[.int .i64 kd,.int .i64 ru,.int .i64 rm,.int .i64 u,.int .i64 md,.int .i64 d,.string id,.int .i64 fl,.slice K kn kc,.string tx,.string t] 63));have K1:=H_ (IntsAt.below HK.out ((Below.refl wr.heap.size wr).alloc lr_ (.cells #[.int .i64 kd,.int .i64 ru,.int .i64 rm,.int .i64 u,.int .i64 md,.int .i64 d,.string id,.int .i64 fl,.slice K kn kc,.string tx,.string t] 63)) (Nat.le_trans hB HG.out.bel.size));have L1:=H_ (show B<=(wr.alloc (.cells #[.int .i64 kd,.int .i64 ru,.int .i64 rm,.int .i64 u,.int .i64 md,.int .i64 d,.string id,.int .i64 fl,.slice K kn kc,.string tx,.string t] 63)).heap.size/\wr.heap.size<(wr.alloc (.cells #[.int .i64 kd,.int .i64 ru,.int .i64 rm,.int .i64 u,.int .i64 md,.int .i64 d,.string id,.int .i64 fl,.slice K kn kc,.string tx,.string t] 63)).heap.size by have:=HG.out.bel.size; simp; omega);obtain⟨X,hX⟩ : ∃ X,X=wr.heap.size:=⟨_,rfl⟩;rw [<- hX] at X1 L1 ⊢;clear hX HG HK c0 c1' c2 c3 c4 c5 c6 c7 c8 c9 c10;generalize (World.alloc wr _)=w1 at G1 X1 K1 L1 ⊢;have KA:=H_ (row_om (v:=.slice none 0 0) (l:=[]) (base:=w1.heap.size) (rk:=kd) (ru:=ru) (rm:=rm) (u:=u) (md:=md) (d:=d) (fl:=fl) (id:=id) (tx':=tx) (rt:=t) (kc:=kc) (.inl (World.ownsRow_nil _ _ _ _)) K1.out L1.out.1 lr_ (by omega) (by omega) (by omega) (by omega) (Nat.zero_le _));rw [<- HR.out,List.nil_append,Nat.zero_add] at KA;obtain⟨q,hq⟩ : ∃ q,q=(rob r).length:=⟨_,rfl⟩;have HQ:=H_ hq;rw [<- hq] at KA hrp hrn;clear hq;have cX:=fun o=>cell_of_row w1 X o _ _ _ X1.out;have d0:=(cX 0).trans (show _=some (Value.int .i64 kd) from rfl);have d1:=(cX 1).trans (show _=some (Value.int .i64 ru) from rfl);have d2:=(cX 2).trans (show _=some (Value.int .i64 rm) from rfl);have d3:=(cX 3).trans (show _=some (Value.int .i64 u) from rfl);have d4:=(cX 4).trans (show _=some (Value.int .i64 md) from rfl);have d5:=(cX 5).trans (show _=some (Value.int .i64 d) from rfl);have d6:=(cX 6).trans (show _=some (Value.string id) from rfl);have d7:=(cX 7).trans (show _=some (Value.int .i64 fl) from rfl);have d8:=(cX 8).trans (show _=some (Value.slice K kn kc) from rfl);have d9:=(cX 9).trans (show _=some (Value.string tx) from rfl);have d10:=(cX 10).trans (show _=some (Value.string t) from rfl);clear cX;go_upto_region 8 with (go_at_call 71; go_loud (
   refine KA.out.mono ?_;rintro e w2 ⟨v2,rfl,o2⟩;obtain⟨A2,c2,rfl,hc2⟩:=o2.own.slice;have hb2:Below w1.heap.size w1 w2:=o2.below (fun k e=>by simp [Value.ownBlock] at e) lr_;have Z2:=H_ (Ow.bytes o2.own);have G2:=H_ (G1.out.below hb2);have X2:=H_ ((hb2.block X L1.out.2).trans X1.out);have K2:=H_ (IntsAt.below K1.out hb2 L1.out.1);have L2:=H_ (show B<=w2.heap.size/\X<w2.heap.size by have:=hb2.size; have:=L1.out; omega);clear hb2 o2 d0 d1 d2 d3 d4 d5 d6 d7 d8 d9 d10))
  clear G1 X1 K1 L1 KA;have KP0:=parse_any (cp:=c2) Z2.out lr_ (by omega);obtain⟨bk,hbk⟩ : ∃ bk,bk=(parseR (rob r)).1:=⟨_,rfl⟩;obtain⟨er,her⟩ : ∃ er,er=(parseR (rob r)).2:=⟨_,rfl⟩;rw [<- hbk,<- her] at KP0;have KP:=H_ KP0;have HBK:=H_ (show parseR (rob r)=(bk,er) from by rw [hbk,her]);clear KP0 hbk her;go_upto_region 9 with (go_at_call 43; go_loud (
   refine KP.out.mono ?_;rintro e w3 ⟨A3,n3,c3,rfl,hc3,hr3,hb3⟩;have R3:=H_ hr3;have G3:=H_ (G2.out.below hb3);have X3:=H_ ((hb3.block X L2.out.2).trans X2.out);have K3:=H_ (IntsAt.below K2.out hb3 L2.out.1);have Z3:=H_ (Z2.out.below hb3 lr_);have L3:=H_ (show B<=w3.heap.size/\X<w3.heap.size/\w2.heap.size<=w3.heap.size by have:=hb3.size; have:=L2.out; omega);clear hr3 hb3))
  clear G2 X2 K2 L2 KP Z2;by_cases he:er=0
  case neg =>
   have hne:(er != 0)=true:=by simpa using he
   have HE:=H_ (bytes_no HRL.out (show backR r=false from by unfold backR; rw [HBK.out]; exact decide_eq_false (fun e=>he (by injection e))));clear he;go_wp2_with fail
   go_ret;rw [HE.out];exact⟨none,0,0,rfl,Nat.le_refl _,Nat.zero_le _,nil_bytes _ _,G3.out.bel,fun _ e=>by cases e⟩
  subst he;have cX:=fun o=>cell_of_row w3 X o _ _ _ X3.out;have d0:=(cX 0).trans (show _=some (Value.int .i64 kd) from rfl);have d1:=(cX 1).trans (show _=some (Value.int .i64 ru) from rfl);have d2:=(cX 2).trans (show _=some (Value.int .i64 rm) from rfl);have d3:=(cX 3).trans (show _=some (Value.int .i64 u) from rfl);have d4:=(cX 4).trans (show _=some (Value.int .i64 md) from rfl);have d5:=(cX 5).trans (show _=some (Value.int .i64 d) from rfl);have d6:=(cX 6).trans (show _=some (Value.string id) from rfl);have d7:=(cX 7).trans (show _=some (Value.int .i64 fl) from rfl);have d8:=(cX 8).trans (show _=some (Value.slice K kn kc) from rfl);have d9:=(cX 9).trans (show _=some (Value.string tx) from rfl);have d10:=(cX 10).trans (show _=some (Value.string t) from rfl);clear cX;have R4:=H_ (RowsAt.below R3.out ((Below.refl w3.heap.size w3).alloc lr_ (.cells #[.int .i64 kd,.int .i64 ru,.int .i64 rm,.int .i64 u,.int .i64 md,.int .i64 d,.string id,.int .i64 fl,.slice K kn kc,.string tx,.string t] 63)) lr_);have Y4:=H_ (rowsAt_blk (kd:=kd) (ru:=ru) (rm:=rm) (u:=u) (md:=md) (d:=d) (fl:=fl) (id:=id) (tx:=tx) (t:=t) (kc:=kc) (B:=w3.heap.size+1) (heap_alloc_new w3 (.cells #[.int .i64 kd,.int .i64 ru,.int .i64 rm,.int .i64 u,.int .i64 md,.int .i64 d,.string id,.int .i64 fl,.slice K kn kc,.string tx,.string t] 63)) (Nat.lt_succ_self _) (IntsAt.more (IntsAt.below K3.out ((Below.refl w3.heap.size w3).alloc lr_ (.cells #[.int .i64 kd,.int .i64 ru,.int .i64 rm,.int .i64 u,.int .i64 md,.int .i64 d,.string id,.int .i64 fl,.slice K kn kc,.string tx,.string t] 63)) L3.out.1) (by have:=L3.out.1; omega)) hkc y1 y2 y3);have G4:=H_ (G3.out.alloc (.cells #[.int .i64 kd,.int .i64 ru,.int .i64 rm,.int .i64 u,.int .i64 md,.int .i64 d,.string id,.int .i64 fl,.slice K kn kc,.string tx,.string t] 63));have Z4:=H_ (Z3.out.below ((Below.refl w3.heap.size w3).alloc lr_ (.cells #[.int .i64 kd,.int .i64 ru,.int .i64 rm,.int .i64 u,.int .i64 md,.int .i64 d,.string id,.int .i64 fl,.slice K kn kc,.string tx,.string t] 63)) L3.out.2.2);have KS0:=sameRows_any (cp:=c3) (cp':=1) R4.out Y4.out (by simp) (by simp);rw [<- HR.out] at KS0;by_cases hq:bk=[r]
  case neg =>
   rw [decide_eq_false hq] at KS0;have KS:=H_ KS0;have HE:=H_ (bytes_no HRL.out (show backR r=false from by unfold backR; rw [HBK.out]; exact decide_eq_false (fun e=>hq (by injection e))));clear KS0 hq;go_wp2_with (go_at_call 72; go_loud (
    refine KS.out.mono ?_;rintro e w5 ⟨rfl,hb5⟩;have G5:=H_ (G4.out.below hb5);clear hb5))
   go_ret;rw [HE.out];exact⟨none,0,0,rfl,Nat.le_refl _,Nat.zero_le _,nil_bytes _ _,G5.out.bel,fun _ e=>by cases e⟩
  rw [decide_eq_true hq] at KS0;have KS:=H_ KS0;have HE:=H_ (show (l.take (k+1)).all backR=true from by
   rw [HT.out,List.all_append,HA.out];unfold backR;simp [HBK.out,hq])
  clear KS0 hq;go_upto_region 11 with (go_at_call 72; go_loud (
   refine KS.out.mono ?_;rintro e w5 ⟨rfl,hb5⟩;have G5:=H_ (G4.out.below hb5);have Z5:=H_ (Z4.out.below hb5 (by have:=L3.out.2.2; simp; omega));clear hb5))
  clear G3 X3 K3 L3 G4 Z3 Z4 R3 R4 Y4 KS d0 d1 d2 d3 d4 d5 d6 d7 d8 d9 d10;go_wp2_with (at_builtin; go_loud (
   refine wpList_ow rfl _ _ rfl rfl rfl G5.out.own Z5.out (by omega) (Nat.le_trans G5.out.bas G5.out.bel.size) hrp ?_;intro v6 w6 hown6 hg6 hat6;have G6:=H_ (G5.out.app (m:=m+q) (l':=(l.take k).flatMap rob++rob r) (by rw [by_append]; exact hown6) hg6);clear hown6 hg6 hat6))
  go_roundw
  case rel=>exact⟨v6,m+q,k+1,rfl,by go_num,by omega,by omega,by
   show OO w.heap.size w w6 (m+q) v6 ((l.take (k+1)).flatMap rob);rw [HT.out,List.flatMap_append,show [r].flatMap rob=rob r by simp];exact G6.out,HE⟩
  case measure=>simp [intOf]; omega
end Go.Proofs.YtoljpfapphoflaaGreatDoor.RpY

set_option maxHeartbeats 1000000
set_option maxRecDepth 100000
namespace Go.Proofs.YtoljpfapphoflaaGreatDoor.HoA
open Go.RowKit BxD BxKit RwD RwKit SfC HoF
open RkD (Ch)
open PkKit (BytesAt)
def ChOut (l:List Ch) (w:World) (e:Ending) (w':World):Prop :=
 ∃ A n c,e = .returned (.slice A n c)/\ChsP w' 0 w.heap.size w'.heap.size A n l/\Below w.heap.size w w'
def ChOutE (l:List Ch) (E:Int) (w:World) (e:Ending) (w':World):Prop :=
 ∃ A n c,e = .returned (.tuple #[.slice A n c,.int .i64 E])/\ChsP w' 0 w.heap.size w'.heap.size A n l/\Below w.heap.size w w'
def KeptOut (b:Box) (k:Nat) (l:List Row) (w:World) (e:Ending) (w':World):Prop :=
 ∃ WA wn wc MA mn mc A n c,e = .returned (.tuple #[.agg #[.string b.id,.int .i64 b.valid,.int .i64 b.next,.int .i64 b.high,.slice WA wn wc,.slice MA mn mc,.int .i64 (k:Nat),.slice A n c],.int .i64 0])/\wn<=wc/\mn<=mc/\n<=c /\
  StrsAt w' w'.heap.size WA wn b.words/\MsgsAt w' w'.heap.size MA mn b.msgs/\RowsAt w' w'.heap.size A n l/\Below w.heap.size w w'
theorem byP_new {w:World} {lo hi B n:Nat} {D:Option Addr} {d:List UInt8} (h:BytesAt w B D n d) (hB:B<=hi) (hn : ∀ ad:Addr,D=some ad->lo<=ad.block):byP w 0 lo hi D n d:=by
 refine⟨h.1,fun h0=>?_⟩;obtain⟨ad,e,hb,hc⟩:=h.2 h0;exact⟨ad,e,.inr ⟨hn ad e,by omega⟩,hc⟩
theorem byP_nil (w:World) (lo hi:Nat):byP w 0 lo hi none 0 []:=⟨rfl,fun h=>absurd h (Nat.lt_irrefl 0)⟩
theorem chs3 {w:World} {g lo hi:Nat} {n1 n2 n3:ByteArray} {b1 b2 b3:Bool} {D1 D2 D3:Option Addr} {c1 c2 c3 m1 m2 m3:Nat} {d1 d2 d3:List UInt8}
 (h:w.heap[g]? = some (.cells #[.string n1,.bool b1,.slice D1 m1 c1,.string n2,.bool b2,.slice D2 m2 c2,.string n3,.bool b3,.slice D3 m3 c3] 81 (0,0))) (hg:lo<=g/\g<hi)
 (k1:m1<=c1) (k2:m2<=c2) (k3:m3<=c3) (y1:byP w 0 lo hi D1 m1 d1) (y2:byP w 0 lo hi D2 m2 d2) (y3:byP w 0 lo hi D3 m3 d3):ChsP w 0 lo hi (some ⟨g,0,none⟩) 3 [⟨n1,b1,d1⟩,⟨n2,b2,d2⟩,⟨n3,b3,d3⟩]:=by
 obtain rfl:=y1.1;obtain rfl:=y2.1;obtain rfl:=y3.1;have c:=fun o=>cell_of_row w g o _ _ _ h;refine⟨rfl,fun _=>⟨_,rfl,.inr hg,fun j x hx=>?_⟩⟩
 match j,hx with
 | 0,hx =>
  obtain rfl:(⟨n1,b1,d1⟩:Ch)=x:=by simpa using hx
  exact⟨(c 0).trans rfl,(c 1).trans rfl,D1,c1,(c 2).trans rfl,k1,y1⟩
 | 1,hx =>
  obtain rfl:(⟨n2,b2,d2⟩:Ch)=x:=by simpa using hx
  exact⟨(c 3).trans rfl,(c 4).trans rfl,D2,c2,(c 5).trans rfl,k2,y2⟩
 | 2,hx =>
  obtain rfl:(⟨n3,b3,d3⟩:Ch)=x:=by simpa using hx
  exact⟨(c 6).trans rfl,(c 7).trans rfl,D3,c3,(c 8).trans rfl,k3,y3⟩
 | j+3,hx=>simp at hx
theorem mayID_any (id:ByteArray) (w:World) (hid:id.size<=140737488355328):Calls Tryz.prog 40 #[.string id] w fun e w'=>e = .returned (.bool (atB id&&decide (id.size<=12)))/\w=w':=by
 have KA:=H_ (BxAtom.atom_any id w);cases ha:atB id with
 | true =>
  rw [ha] at KA;by_cases h:id.size<=12
  · have hi:(id.size:Int)<=12:=by omega
    rw [decide_eq_true h];clear ha;go_enter Tryz.func40,Tryz.ntmps40;go_wp2_with (go_at_call 85; go_loud (refine KA.out.mono ?_; rintro e w1 ⟨rfl,rfl⟩))
    go_ret;exact⟨rfl,rfl⟩
  · have hi : ¬ (id.size:Int)<=12:=by omega
    rw [decide_eq_false h];clear ha;go_enter Tryz.func40,Tryz.ntmps40;go_wp2_with (go_at_call 85; go_loud (refine KA.out.mono ?_; rintro e w1 ⟨rfl,rfl⟩))
    go_ret;exact⟨by show Ending.returned (Value.bool (decide ((id.size:Int)<=12)))=_; rw [decide_eq_false (show ¬ (id.size:Int)<=12 by omega)]; rfl,rfl⟩
 | false =>
  rw [ha] at KA;clear ha;go_enter Tryz.func40,Tryz.ntmps40;go_wp2_with (go_at_call 85; go_loud (refine KA.out.mono ?_; rintro e w1 ⟨rfl,rfl⟩))
  go_ret;exact⟨rfl,rfl⟩
theorem gone_any (id:ByteArray) (w:World) (hid:id.size<=200):Calls Tryz.prog 19 #[.string id] w (ChOut (chGone id) w):=by
 go_enter Tryz.func19,Tryz.ntmps19;go_wp2_with fail
 go_ret;exact⟨_,3,3,rfl,chs3 (heap_alloc_new w _) ⟨Nat.le_refl _,by simp⟩ lr_ lr_ lr_ (byP_nil _ _ _) (byP_nil _ _ _) (byP_nil _ _ _),(Below.refl w.heap.size w).alloc lr_ _⟩
end Go.Proofs.YtoljpfapphoflaaGreatDoor.HoA
