/-
  HoA + HoC
-/
import Derived.Test.YtoljpfapphoflaaGreatDoorH1
import Derived.Test.YtoljpfapphoflaaGreatDoorS7
import Derived.Test.YtoljpfapphoflaaGreatDoorL1
import Derived.Test.YtoljpfapphoflaaGreatDoorL6
import Derived.Lib.ItoaNum
import Derived.Lib.SmallJoins
import Derived.MakeChecks
import Derived.Deep.RegionHeld3
import Derived.Test.YtoljpfapphoflaaGreatDoorZ6
import Derived.Lib.AppendZeros
import Derived.Laws.MakeOwn
set_option linter.unusedVariables false
set_option linter.unusedSimpArgs false
set_option maxHeartbeats 1000000
set_option maxRecDepth 100000
namespace Go.Proofs.YtoljpfapphoflaaGreatDoor.HoA
open Go.RowKit BxD BxKit RwD RwKit SfC HoF
open RkD (Ch)
open PkKit (BytesAt)
def ChOut (l:List Ch) (w:World) (e:Ending) (w':World):Prop :=
 ∃ A n c,e = .returned (.slice A n c)∧ChsP w' 0 w.heap.size w'.heap.size A n l∧Below w.heap.size w w'
def ChOutE (l:List Ch) (E:Int) (w:World) (e:Ending) (w':World):Prop :=
 ∃ A n c,e = .returned (.tuple #[.slice A n c,.int .i64 E])∧ChsP w' 0 w.heap.size w'.heap.size A n l∧Below w.heap.size w w'
def KeptOut (b:Box) (k:Nat) (l:List Row) (w:World) (e:Ending) (w':World):Prop :=
 ∃ WA wn wc MA mn mc A n c,e = .returned (.tuple #[.agg #[.string b.id,.int .i64 b.valid,.int .i64 b.next,.int .i64 b.high,.slice WA wn wc,.slice MA mn mc,.int .i64 (k:Nat),.slice A n c],.int .i64 0])∧wn≤wc∧mn≤mc∧n≤c ∧
  StrsAt w' w'.heap.size WA wn b.words∧MsgsAt w' w'.heap.size MA mn b.msgs∧RowsAt w' w'.heap.size A n l∧Below w.heap.size w w'
theorem byP_new {w:World} {lo hi B n:Nat} {D:Option Addr} {d:List UInt8} (h:BytesAt w B D n d) (hB:B≤hi) (hn : ∀ ad:Addr,D=some ad→lo≤ad.block):byP w 0 lo hi D n d:=by
 refine⟨h.1,fun h0=>?_⟩
 obtain⟨ad,e,hb,hc⟩:=h.2 h0
 exact⟨ad,e,.inr ⟨hn ad e,by omega⟩,hc⟩
theorem byP_nil (w:World) (lo hi:Nat):byP w 0 lo hi none 0 []:=⟨rfl,fun h=>absurd h (Nat.lt_irrefl 0)⟩
theorem chs3 {w:World} {g lo hi:Nat} {n1 n2 n3:ByteArray} {b1 b2 b3:Bool} {D1 D2 D3:Option Addr} {c1 c2 c3 m1 m2 m3:Nat} {d1 d2 d3:List UInt8}
 (h:w.heap[g]? = some (.cells #[.string n1,.bool b1,.slice D1 m1 c1,.string n2,.bool b2,.slice D2 m2 c2,.string n3,.bool b3,.slice D3 m3 c3] 81 (0,0))) (hg:lo≤g∧g<hi)
 (k1:m1≤c1) (k2:m2≤c2) (k3:m3≤c3) (y1:byP w 0 lo hi D1 m1 d1) (y2:byP w 0 lo hi D2 m2 d2) (y3:byP w 0 lo hi D3 m3 d3):ChsP w 0 lo hi (some ⟨g,0,none⟩) 3 [⟨n1,b1,d1⟩,⟨n2,b2,d2⟩,⟨n3,b3,d3⟩]:=by
 obtain rfl:=y1.1
 obtain rfl:=y2.1
 obtain rfl:=y3.1
 have c:=fun o=>cell_of_row w g o _ _ _ h
 refine⟨rfl,fun _=>⟨_,rfl,.inr hg,fun j x hx=>?_⟩⟩
 match j,hx with
 | 0,hx =>
  obtain rfl:(⟨n1,b1,d1⟩:Ch)=x:=by simpa using hx
  exact⟨(c 0).trans rfl,(c 1).trans rfl,D1,c1,(c 2).trans rfl,k1,y1⟩
 | 1,hx =>
  obtain rfl:(⟨n2,b2,d2⟩:Ch)=x:=by simpa using hx
  exact⟨(c 3).trans rfl,(c 4).trans rfl,D2,c2,(c 5).trans rfl,k2,y2⟩
 | 2,hx =>
  obtain rfl:(⟨n3,b3,d3⟩:Ch)=x:=by simpa using hx
  exact⟨(c 6).trans rfl,(c 7).trans rfl,D3,c3,(c 8).trans rfl,k3,y3⟩
 | j+3,hx=>simp at hx
theorem chs1 {w:World} {g lo hi:Nat} {n1:ByteArray} {b1:Bool} {D1:Option Addr} {c1 m1:Nat} {d1:List UInt8}
 (h:w.heap[g]? = some (.cells #[.string n1,.bool b1,.slice D1 m1 c1] 81 (0,0))) (hg:lo≤g∧g<hi) (k1:m1≤c1) (y1:byP w 0 lo hi D1 m1 d1):ChsP w 0 lo hi (some ⟨g,0,none⟩) 1 [⟨n1,b1,d1⟩]:=by
 obtain rfl:=y1.1
 have c:=fun o=>cell_of_row w g o _ _ _ h
 refine⟨rfl,fun _=>⟨_,rfl,.inr hg,fun j x hx=>?_⟩⟩
 match j,hx with
 | 0,hx =>
  obtain rfl:(⟨n1,b1,d1⟩:Ch)=x:=by simpa using hx
  exact⟨(c 0).trans rfl,(c 1).trans rfl,D1,c1,(c 2).trans rfl,k1,y1⟩
 | j+1,hx=>simp at hx
theorem mayID_any (id:ByteArray) (w:World) (hid:id.size≤140737488355328):Calls Tryz.prog 40 #[.string id] w fun e w'=>e = .returned (.bool (atB id&&decide (id.size≤12)))∧w=w':=by
 have KA:=Lib.hid (BxAtom.atom_any id w)
 cases ha:atB id with
 | true =>
  rw [ha] at KA
  by_cases h:id.size≤12
  · have hi:(id.size:Int)≤12:=by omega
    rw [decide_eq_true h]
    clear ha
    go_enter Tryz.func40,Tryz.ntmps40
    go_wp2_with (go_at_call 85; go_loud (refine KA.out.mono ?_; rintro e w1 ⟨rfl,rfl⟩))
    go_ret
    exact⟨rfl,rfl⟩
  · have hi : ¬ (id.size:Int)≤12:=by omega
    rw [decide_eq_false h]
    clear ha
    go_enter Tryz.func40,Tryz.ntmps40
    go_wp2_with (go_at_call 85; go_loud (refine KA.out.mono ?_; rintro e w1 ⟨rfl,rfl⟩))
    go_ret
    exact⟨by show Ending.returned (Value.bool (decide ((id.size:Int)≤12)))=_; rw [decide_eq_false (show ¬ (id.size:Int)≤12 by omega)]; rfl,rfl⟩
 | false =>
  rw [ha] at KA
  clear ha
  go_enter Tryz.func40,Tryz.ntmps40
  go_wp2_with (go_at_call 85; go_loud (refine KA.out.mono ?_; rintro e w1 ⟨rfl,rfl⟩))
  go_ret
  exact⟨rfl,rfl⟩
theorem gone_any (id:ByteArray) (w:World) (hid:id.size≤200):Calls Tryz.prog 19 #[.string id] w (ChOut (chGone id) w):=by
 go_enter Tryz.func19,Tryz.ntmps19
 go_wp2_with fail
 go_ret
 exact⟨_,3,3,rfl,chs3 (heap_alloc_new w _) ⟨Nat.le_refl _,by simp⟩ (Nat.le_refl _) (Nat.le_refl _) (Nat.le_refl _) (byP_nil _ _ _) (byP_nil _ _ _) (byP_nil _ _ _),(Below.refl w.heap.size w).alloc (Nat.le_refl _) _⟩
end Go.Proofs.YtoljpfapphoflaaGreatDoor.HoA

set_option maxHeartbeats 4000000
set_option maxRecDepth 100000
namespace Go.Proofs.YtoljpfapphoflaaGreatDoor.HoC
open Go.RowKit BxD BxKit BxA BxR BxC RwD RwKit RwRo ImO
def GrPost (w:World) (e:Ending) (w':World):Prop :=
 ∃ v,e = .returned v∧w'.ownsRow w.heap.size 63 11 v 0 []∧Below w.heap.size w w'
theorem own_room {w:World} {n:Nat} (hn:n≤1000000) (zs:Array Value) (hz:zs.size=grownCap w n 0 63*11) :
 (w.drew.alloc (.cells zs 63)).ownsRow w.heap.size 63 11 (.slice (some ⟨w.heap.size,0,none⟩) 0 (grownCap w n 0 63)) 0 []:=by
 refine⟨rfl,.inr ⟨w.heap.size,grownCap w n 0 63,zs,rfl,Nat.le_refl _,heap_alloc_new w.drew _,Nat.zero_le _,grownCap_le_maxLen w _ _ _ (by unfold maxLen; omega),by rw [hz],by simp⟩⟩
theorem grow_none (w:World):Calls Tryz.prog 70 #[.slice none 0 0,.int .i64 ((0:Nat):Int)] w (GrPost w):=by
 go_enter Tryz.func70,Tryz.ntmps70
 go_wp2_with fail
 go_ret
 exact⟨_,rfl,World.ownsRow_nil _ _ _ _,Below.refl _ _⟩
theorem grow_some {n:Nat} (w:World) (h0:0<n) (hn:n≤1000000):Calls Tryz.prog 70 #[.slice none 0 0,.int .i64 (n:Int)] w (GrPost w):=by
 obtain⟨i0,hi,hz0,hz1,hz2⟩:=info_parts elR.info
 obtain⟨G,hG⟩ : ∃ G,G=grownCap w n 0 63:=⟨_,rfl⟩
 have hGn:n≤G:=by rw [hG]; exact grownCap_ge w _ _ _
 have hGm:G≤maxLen:=by rw [hG]; exact grownCap_le_maxLen w _ _ _ (by unfold maxLen; omega)
 obtain⟨zs,hzs⟩ : ∃ zs,zs=Builtin.zeroCells (Value.agg #[.int .i64 0,.int .i64 0,.int .i64 0,.int .i64 0,.int .i64 0,.int .i64 0,.string ⟨#[]⟩,.int .i64 0,.slice none 0 0,.string ⟨#[]⟩,.string ⟨#[]⟩]).cells n++Builtin.zeroCells (Value.agg #[.int .i64 0,.int .i64 0,.int .i64 0,.int .i64 0,.int .i64 0,.int .i64 0,.string ⟨#[]⟩,.int .i64 0,.slice none 0 0,.string ⟨#[]⟩,.string ⟨#[]⟩]).cells (G-n):=⟨_,rfl⟩
 have hzl:zs.size=G*11:=by rw [hzs]; simp [Builtin.zeroCells,Value.cells]; omega
 have hap:=fun ty=>Lib.run_append_nil_zeros (P:=Tryz.prog) w 26 3 ty 63 i0 (.agg #[.int .i64 0,.int .i64 0,.int .i64 0,.int .i64 0,.int .i64 0,.int .i64 0,.string ⟨#[]⟩,.int .i64 0,.slice none 0 0,.string ⟨#[]⟩,.string ⟨#[]⟩]) .i64 .i64 Tryz.underlying26 Tryz.underlying3 hi hz0 n h0 (by omega) (by omega) (by rw [hz2]; omega)
 rw [← hG,← hzs] at hap
 have HAP:=Lib.hid hap
 have HO:=Lib.hid (own_room hn zs (by rw [hzl,hG]))
 rw [← hG] at HO
 have hgl:G≤9223372036854775807:=by unfold maxLen at hGm; omega
 have hd1:(0:Int)≤(n:Int):=by omega
 have hd2:(0:Int)<(n:Int):=by omega
 clear hap hG hzs hzl hi hz0 hz1 hz2 hGm
 go_enter Tryz.func70,Tryz.ntmps70
 go_wp2_with (at_builtin; go_loud (refine Lib.wpList_append_run _ rfl _ _ _ _ rfl _ _ rfl rfl _ _ (HAP.out _) ?_))
 go_ret
 exact⟨_,rfl,HO.out,((Below.drew (Below.refl w.heap.size w)).alloc (Nat.le_refl _) _)⟩
theorem grow_any {n:Nat} (w:World) (hn:n≤1000000):Calls Tryz.prog 70 #[.slice none 0 0,.int .i64 (n:Int)] w (GrPost w):=by
 rcases Nat.eq_zero_or_pos n with rfl | h0
 · exact grow_none w
 · exact grow_some w h0 hn
def OwR (l:List Row) (w:World) (e:Ending) (w':World):Prop :=
 ∃ A n c,e = .returned (.slice A n c)∧n≤c∧RowsAt w' w'.heap.size A n l∧Below w.heap.size w w'
theorem rows_raw0 {w:World} {B n:Nat} {A:Option Addr} {l:List Row} (h:RowsAt w B A n l) : ∃ rs:List RRaw,rs.map RRaw.r=l∧RKeys w B rs∧Src w A n 11 (rc rs)∧(0<n→∃ ad,A=some ad∧ad.block<B):=by
 obtain⟨rs,h1,h2,h3⟩:=rows_raw h
 refine⟨rs,h1,h2,h3,fun h0=>?_⟩
 obtain⟨ad2,e2,hlt,_⟩:=h.2.2 h0
 exact⟨ad2,e2,hlt⟩
theorem src_later {w w':World} {A:Option Addr} {n B:Nat} {news:List Value} (h:Src w A n 11 news) (hb:0<n→∃ ad,A=some ad∧ad.block<B) (hk : ∀ p:Addr,p.block<B→w'.cell? p=w.cell? p):Src w' A n 11 news :=
 ⟨h.1,h.2.1,fun h0=>by
  obtain⟨ad,e,hc⟩:=h.2.2 h0
  obtain⟨ad2,e2,hlt⟩:=hb h0
  rw [e] at e2
  obtain rfl:=Option.some.inj e2
  exact⟨ad,e,fun j u hu=>(hk _ (by rw [add_block]; exact hlt)).trans (hc j u hu)⟩⟩
theorem concat_any {A1 A2:Option Addr} {n1 c1 n2 c2 B1 B2 g:Nat} {xs ys:List Row} {w:World} (h1:RowsAt w B1 A1 n1 xs) (h2:RowsAt w B2 A2 n2 ys) (hB1:B1≤w.heap.size) (hB2:B2≤w.heap.size) (hl:n1+n2≤1000000)
 (k0:w.cell? { block:=g,off:=0 } = some (.slice A1 n1 c1)) (k1:w.cell? { block:=g,off:=1 } = some (.slice A2 n2 c2)) (hg:g<w.heap.size) :
 Calls Tryz.prog 34 #[.slice (some ⟨g,0,none⟩) 2 2] w (OwR (xs++ys) w):=by
 obtain⟨xr,ex,kx,sx⟩:=rows_raw0 h1
 obtain⟨yr,ey,ky,sy⟩:=rows_raw0 h2
 have EX:=Lib.hid ex
 have EY:=Lib.hid ey
 have KX:=Lib.hid kx
 have KY:=Lib.hid ky
 have SX:=Lib.hid sx.1
 have SY:=Lib.hid sy.1
 have BX:=Lib.hid sx.2
 have BY:=Lib.hid sy.2
 have K0:=Lib.hid k0
 have K1:=Lib.hid k1
 have hlx:=h1.len
 have hly:=h2.len
 have HLX:=Lib.hid hlx
 have HLY:=Lib.hid hly
 clear h1 h2 hlx hly ex ey kx ky sx sy
 obtain⟨N,hN⟩ : ∃ N,N=n1+n2:=⟨_,rfl⟩
 have hNi:(n1:Int)+(n2:Int)=(N:Int):=by omega
 have hN6:N≤1000000:=by omega
 have HN:=Lib.hid hN
 clear hN
 go_enter Tryz.func34,Tryz.ntmps34
 go_upto_region 9 with fail
 go_loopw [11,3] (fun s11 s3 wr=>wr=w∧((s11 = .int .i64 0∧s3 = .int .i64 0)∨(s11 = .int .i64 1∧s3 = .int .i64 n1)∨(s11 = .int .i64 2∧s3 = .int .i64 N))) (fun s11 _ _=>2-(intOf s11).toNat)
 case atStart=>exact⟨rfl,.inl ⟨rfl,rfl⟩⟩
 case round =>
  obtain⟨rfl,⟨rfl,rfl⟩ | ⟨rfl,rfl⟩ | ⟨rfl,rfl⟩⟩:=hrel
  · go_wp2_with fail
    go_roundw
    case rel=>exact⟨trivial,.inr (.inl ⟨by go_num,by go_num⟩)⟩
    case measure=>simp [intOf]
  · go_wp2_with fail
    go_roundw
    case rel=>exact⟨trivial,.inr (.inr ⟨by go_num,by go_num⟩)⟩
    case measure=>simp [intOf]
  · have KG:=Lib.hid (grow_any wr hN6)
    go_upto_region 10 with (go_at_call 70; go_loud (
     refine KG.out.mono ?_
     rintro e w1 ⟨v1,rfl,ho1,hb1⟩
     have HO1:=Lib.hid ho1
     have HB1:=Lib.hid hb1
     clear ho1 hb1))
    go_wp2_with fail
    obtain⟨w0,hw0⟩ : ∃ w0,w0=wr:=⟨_,rfl⟩
    rw [← hw0] at HO1 HB1 KX KY SX SY K0 K1 hB1 hB2 hg ⊢
    have HW0:=Lib.hid hw0
    clear KG hw0
    go_loopw [27,6] (fun s27 s6 wr=>∃ v:Value,v=s6∧Hid (Below w0.heap.size w0 wr)∧((s27 = .int .i64 0∧Hid (wr.ownsRow w0.heap.size 63 11 v 0 []))∨(s27 = .int .i64 1∧Hid (wr.ownsRow w0.heap.size 63 11 v n1 (rc xr)))∨(s27 = .int .i64 2∧Hid (wr.ownsRow w0.heap.size 63 11 v N (rc (xr++yr)))))) (fun s27 _ _=>2-(intOf s27).toNat)
    case atStart=>exact⟨_,rfl,HB1,.inl ⟨rfl,HO1⟩⟩
    case round =>
     clear HO1 HB1
     obtain⟨v,rfl,HB,hc⟩:=hrel
     have k0':wr.cell? { block:=g,off:=0 } = some (.slice A1 n1 c1):=(HB.out.cell (p:=⟨g,0,none⟩) hg).trans K0.out
     have k1':wr.cell? { block:=g,off:=1 } = some (.slice A2 n2 c2):=(HB.out.cell (p:=⟨g,1,none⟩) hg).trans K1.out
     have hsz:=HB.out.size
     rcases hc with⟨rfl,HO⟩ | ⟨rfl,HO⟩ | ⟨rfl,HO⟩
     · go_wp2_with (at_builtin; go_loud (
        refine wpList_rows elR rfl _ _ rfl rfl rfl HO.out (src_later SX.out BX.out (fun p hp=>(HB.out.cell (Nat.lt_of_lt_of_le hp hB1)))) (by unfold maxLen; omega) (by omega) HB.out.size ?_
        intro v6 w6 hown hg6 _
        have HO6:=Lib.hid (show w6.ownsRow w0.heap.size 63 11 v6 n1 (rc xr) by rw [Nat.zero_add,List.nil_append] at hown; exact hown)
        have HB6:=Lib.hid (HB.out.grown hg6 HB.out.size (fun g e=>(HO.out.lt g e).1))
        clear hown hg6))
       go_roundw
       case rel=>exact⟨_,rfl,HB6,.inr (.inl ⟨by go_num,HO6⟩)⟩
       case measure=>simp [intOf]
     · go_wp2_with (at_builtin; go_loud (
        refine wpList_rows elR rfl _ _ rfl rfl rfl HO.out (src_later SY.out BY.out (fun p hp=>(HB.out.cell (Nat.lt_of_lt_of_le hp hB2)))) (by unfold maxLen; omega) (by omega) HB.out.size ?_
        intro v6 w6 hown hg6 _
        have HO6:=Lib.hid (show w6.ownsRow w0.heap.size 63 11 v6 N (rc (xr++yr)) by rw [HN.out,rc_append]; exact hown)
        have HB6:=Lib.hid (HB.out.grown hg6 HB.out.size (fun g e=>(HO.out.lt g e).1))
        clear hown hg6))
       go_roundw
       case rel=>exact⟨_,rfl,HB6,.inr (.inr ⟨by go_num,HO6⟩)⟩
       case measure=>simp [intOf]
     · obtain⟨A6,k6,rfl,hk6⟩:=own_slice HO.out
       have HP:=Lib.hid (show OwR (xs++ys) w0 (.returned (.slice A6 N k6)) wr by
        refine⟨A6,N,k6,rfl,hk6, ?_,HB.out⟩
        have ho:=rowsAt_own HO.out (B:=wr.heap.size) (fun g e=>(HO.out.lt g e).2) (by omega) (fun q hq=>by
         rcases List.mem_append.1 hq with hq | hq
         · exact RKeys.keep KX.out (Nat.le_trans hB1 hsz) (fun p hp=>HB.out.cell (Nat.lt_of_lt_of_le hp hB1)) q hq
         · exact RKeys.keep KY.out (Nat.le_trans hB2 hsz) (fun p hp=>HB.out.cell (Nat.lt_of_lt_of_le hp hB2)) q hq)
        rw [List.map_append,EX.out,EY.out] at ho
        exact ho)
       go_wp2_with fail
       go_ret
       have hp:=HP.out
       rw [HW0.out] at hp
       exact hp
end Go.Proofs.YtoljpfapphoflaaGreatDoor.HoC
