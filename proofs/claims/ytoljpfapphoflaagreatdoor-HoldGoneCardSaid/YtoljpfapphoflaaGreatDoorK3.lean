/-
  OlR + OlS + OlT + OlU + OlV
-/
import Derived.Test.YtoljpfapphoflaaGreatDoorZ5
import Derived.Test.YtoljpfapphoflaaGreatDoorL2
import Derived.Test.YtoljpfapphoflaaGreatDoorZ9
import Derived.Test.YtoljpfapphoflaaGreatDoorN4
import Derived.Deep.RegionHeld3
import Derived.Deep.RegionLaw
set_option linter.unusedVariables false
set_option linter.unusedSimpArgs false
set_option maxHeartbeats 1000000
set_option maxRecDepth 100000
namespace Go.Proofs.YtoljpfapphoflaaGreatDoor.OlR
open Go.RowKit BxD PkKit PkD PkF OlD PtD PtK PtR
def mkB (cg:Bool):ByteArray:=⟨(mk cg).toArray⟩
def RBk (cg:Bool) (w:World) (P R:Nat):Prop:=w.heap[P]? = some (.cells #[ptr R,.string (mkB cg),.bool cg] 214 (0,0))
theorem RBk.cells {cg:Bool} {w:World} {P R:Nat} (h:RBk cg w P R):w.cell? ⟨P,0,none⟩ = some (ptr R)/\w.cell? ⟨P,1,none⟩ = some (.string (mkB cg))/\w.cell? ⟨P,2,none⟩ = some (.bool cg):=by
 have c:=fun o=>cell_of_row w P o _ _ _ h;exact⟨(c 0).trans rfl,(c 1).trans rfl,(c 2).trans rfl⟩
theorem fix_p {w:World} {R T:Nat} {s:St} (h:PRd w R T s):Calls Tryz.prog 216 #[ptr T] w (Pq w R T (.int .i64 ((fixS s).1:Nat)) (fixS s).2):=by
 refine (fixed_all h.rd).mono ?_;rintro e w' ⟨rfl,hr,hg⟩;exact⟨rfl,h.step hr hg (fix_ov s),Fr2.grown hg R⟩
theorem byte_p {w:World} {R T:Nat} {s:St} (h:PRd w R T s):Calls Tryz.prog 225 #[ptr T] w (Pq w R T (.int .i64 ((byteS s).1:Nat)) (byteS s).2):=by
 refine (byte_all h.rd).mono ?_;rintro e w' ⟨rfl,hr,hg⟩;exact⟨rfl,h.step hr hg (byte_ov s),Fr2.grown hg R⟩
theorem change_any {cg:Bool} {w:World} {R T:Nat} {s:St} (h:PRd w R T s):Calls Tryz.prog 217 #[.agg #[ptr R,.string (mkB cg),.bool cg]] w (Pq w R T (.int .i64 ((chS cg s).1:Nat)) (chS cg s).2):=by
 have H:=H_ (h.alloc (.cells #[ptr R,.string (mkB cg),.bool cg] 214));have F0:=H_ ((Fr2.refl R T w).alloc (.cells #[ptr R,.string (mkB cg),.bool cg] 214));have B0:=H_ (show RBk cg (w.alloc (.cells #[ptr R,.string (mkB cg),.bool cg] 214)) w.heap.size R from heap_alloc_new w _);clear h;cases cg with
 | false =>
  go_enter Tryz.func217,Tryz.ntmps217;go_upto_region 1 with fail
  generalize (World.alloc w _)=w1 at H F0 B0 ⊢;obtain⟨b0,b1,b2⟩:=B0.out.cells;go_wp2_with fail
  go_ret;exact⟨rfl,H.out,F0.out⟩
 | true =>
  show Calls _ _ _ _ (Pq w R T (.int .i64 ((fixS s).1:Nat)) (fixS s).2);have KF:=H_ (fun (wr:World) (g:PRd wr R T s)=>fix_p g);obtain⟨x,hx⟩ : ∃ x,x=(fixS s).1:=⟨_,rfl⟩;rw [<- hx] at KF ⊢;clear hx;go_enter Tryz.func217,Tryz.ntmps217;go_upto_region 1 with fail
  generalize (World.alloc w _)=w1 at H F0 B0 ⊢;obtain⟨b0,b1,b2⟩:=B0.out.cells;have c0:=H.out.cells.1;have KK:=H_ (KF.out w1 H.out);go_wp2_with (go_at_call 216; go_loud (
   refine KK.out.mono ?_;rintro e w2 ⟨rfl,hr,hf⟩;have H1:=H_ hr;have F1:=H_ (F0.out.trans hf);clear hr hf c0 b0 b1 b2))
  go_ret;exact⟨rfl,H1.out,F1.out⟩
end Go.Proofs.YtoljpfapphoflaaGreatDoor.OlR

set_option maxHeartbeats 2000000
set_option maxRecDepth 100000
namespace Go.Proofs.YtoljpfapphoflaaGreatDoor.OlS
open Go.RowKit BxD PkKit PkC PkD PkF PkG OlD PtD PtK PtR OlR
theorem it_len {α:Type} (f:St->α × St) : ∀ (k:Nat) (s:St),(itS f k s).1.length=k
 | 0,_=>rfl
 | k+1,s=>by
  unfold itS;rw [List.length_append,it_len f k s];rfl
def upto (i n:Nat) (s:St):List UInt8:=(itS byteU i s).1++List.replicate (n-i) 0
theorem upto_zero (n:Nat) (s:St):by_ (upto 0 n s)=List.replicate n (.int .u8 0):=by
 unfold upto by_ Lib.byteCells;simp [itS]
theorem upto_at {i n:Nat} {s:St} (h:i<n):(by_ (upto i n s))[i]? = some (.int .u8 0):=by
 have:(upto i n s)[i]? = some 0:=by
  unfold upto;rw [List.getElem?_append_right (by rw [it_len]; exact Nat.le_refl _),it_len,Nat.sub_self,List.getElem?_replicate,if_pos (by omega)]
 have:=by_get this;simpa using this
theorem upto_set {i n:Nat} {s:St} (h:i<n):(by_ (upto i n s)).set i (.int .u8 ((byteS (itS byteU i s).2).1:Nat))=by_ (upto (i+1) n s):=by
 have hb:=byte_lt (itS byteU i s).2;have e:upto (i+1) n s=(upto i n s).set i ((byteS (itS byteU i s).2).1.toUInt8):=by
  unfold upto;have hl:=it_len byteU i s;rw [List.set_append_right _ _ (by omega),hl,Nat.sub_self,show n-i=(n-(i+1))+1 by omega,List.replicate_succ,List.set_cons_zero];show ((itS byteU i s).1++[(byteU (itS byteU i s).2).1])++_=_;rw [List.append_assoc];rfl
 rw [e];unfold by_ Lib.byteCells;rw [List.map_set,toNat_u8 hb]
theorem upto_end (n:Nat) (s:St):upto n n s=(itS byteU n s).1:=by unfold upto; simp
theorem str_any {cg:Bool} {w:World} {R T:Nat} {s:St} (h:PRd w R T s):Calls Tryz.prog 227 #[.agg #[ptr R,.string (mkB cg),.bool cg]] w (Pq w R T (.string (strS s).1) (strS s).2):=by
 have KC:=H_ (fixed_p (h.alloc (.cells #[ptr R,.string (mkB cg),.bool cg] 214)) 300);have F0:=H_ ((Fr2.refl R T w).alloc (.cells #[ptr R,.string (mkB cg),.bool cg] 214));have B0:=H_ (show RBk cg (w.alloc (.cells #[ptr R,.string (mkB cg),.bool cg] 214)) w.heap.size R from heap_alloc_new w _);have hn3:=cnt_le 300 s;obtain⟨n,hn⟩ : ∃ n,n=(cntS 300 s).1:=⟨_,rfl⟩;obtain⟨s1,hs1⟩ : ∃ s1,s1=(cntS 300 s).2:=⟨_,rfl⟩;have hst:strS s=(⟨(itS byteU n s1).1.toArray⟩,(itS byteU n s1).2):=by unfold strS; rw [<- hn,<- hs1]
 rw [<- hn] at KC hn3;rw [<- hs1] at KC;rw [hst];have hRl:=h.lt;have hTl:=h.rd.lt;obtain⟨i0,hi,hz0,hz1,hz2⟩:=info_parts info5;have HI:=H_ hi;have HI0:=H_ hz0;have HI1:=H_ hz1;have HI2:=H_ hz2;clear h hn hs1 hst hi hz0 hz1 hz2;go_enter Tryz.func227,Tryz.ntmps227;go_wp2_with (go_at_call 218; go_loud (
  refine KC.out.mono ?_;rintro e w1 ⟨rfl,h1,g1⟩;have G1:=H_ (F0.out.trans g1);have b1:RBk cg w1 w.heap.size R:=(g1.block _ (by simp) (by omega) (by omega)).trans B0.out;have hsz1:w.heap.size<w1.heap.size:=(gs_ b1).1;obtain⟨w2,hmk,ho,hg⟩:=run_makeSlice_full (P:=Tryz.prog) w1 w1.heap.size 37 5 i0 (.int .u8 0) 1 Tryz.underlying37 HI.out HI0.out HI1.out .i64 .i64 n (by omega) (by rw [HI2.out]; omega) (by unfold maxLen; omega) lr_;have hb2:Below w1.heap.size w1 w2:=⟨hg.os,hg.tape,hg.output,hg.size,fun k hk=>hg.block k hk (by simp)⟩;have H2:=H_ (h1.go hb2);have G2:=H_ (G1.out.trans (Fr2.below hb2 R T));have B2:=H_ (show RBk cg w2 w.heap.size R from (hb2.block _ hsz1).trans b1);have HGR:=H_ (show R<w1.heap.size from h1.lt);have HGT:=H_ (show T<w1.heap.size from h1.rd.lt);have HSZ:=H_ hsz1;rw [show (Value.int IntKind.u8 0).cells = #[.int .u8 0] from rfl,Nat.mul_one,toList_madeCells_one,<- upto_zero n s1] at ho;have HO:=H_ ho;obtain⟨G,hGG⟩ : ∃ G,G=w1.heap.size:=⟨_,rfl⟩;rw [<- hGG] at hmk HO HGR HGT HSZ;clear h1 g1 hb2 hg ho hGG b1 hsz1))
 go_loopw [11] (fun s10 wr=>∃ i:Nat,i<=n/\s10 = .int .i64 i/\Hid (PRd wr R T (itS byteU i s1).2)/\Hid (wr.ownsRow G 5 1 (.slice (some ⟨G,0,none⟩) n n) n (by_ (upto i n s1)))/\Hid (Fr2 R T w wr)/\Hid (RBk cg wr w.heap.size R)) (fun s10 _=>n-(intOf s10).toNat)
 case atStart=>exact⟨0,Nat.zero_le _,rfl,H2,HO,G2,B2⟩
 case round =>
  clear H2 HO G2 G1 B2 B0;obtain⟨i,hi,rfl,H2,HO,G2,B2⟩:=hrel;by_cases hlt:i<n
  · obtain⟨c0,c1,f1⟩:=H2.out.cells
    have b0:=B2.out.cells.1;have KB:=H_ (byte_p H2.out);have HB:=H_ (byte_lt (itS byteU i s1).2);have hbv:=HB.out;have HUS:=H_ (upto_set (s:=s1) hlt);have HUA:=H_ (upto_at (s:=s1) hlt);have HST:=H_ (show (itS byteU (i+1) s1).2=(byteS (itS byteU i s1).2).2 from rfl);obtain⟨b,hb⟩ : ∃ b,b=(byteS (itS byteU i s1).2).1:=⟨_,rfl⟩;rw [<- hb] at KB HUS hbv;clear hb HB;go_wp2_with (go_at_call 225; go_loud (
     refine KB.out.mono ?_;rintro e w3 ⟨rfl,hr,hf⟩;have H3:=H_ hr;have ho3:=BxC.own_block HO.out fun g e=>hf.block g (HO.out.lt g e).2 (by have:=(HO.out.lt g e).1; have:=HGR.out; omega) (by have:=(HO.out.lt g e).1; have:=HGT.out; omega);have HO3:=H_ ho3;have G3:=H_ (G2.out.trans hf);have B3:=H_ (show RBk cg w3 w.heap.size R from (hf.block _ (gs_ B2.out).1 (by omega) (by omega)).trans B2.out);have q1:=BxC.own_cell ho3 (g:=G) rfl HUA.out;have q2:=BxC.own_free ho3 (g:=G) rfl i;clear hr hf ho3 c0 c1 f1 b0))
    go_roundw
    case rel =>
     refine⟨i+1,by omega,by go_num, ?_, ?_, ?_, ?_⟩
     · show PRd _ R T _
       rw [HST.out];exact H3.out.set (by have:=HGR.out; omega) (by have:=HGT.out; omega) _
     · have:=BxC.own_set HO3.out (g:=G) rfl i (.int .u8 (b:Nat))
       rw [HUS.out] at this;exact this
     · exact G3.out.set (by have:=HSZ.out; omega) _
     · exact (Below.heap_setCell _ _ _ _ (by show w.heap.size≠G; have:=HSZ.out; omega)).trans B3.out
    case measure=>simp [intOf]; omega
  · obtain rfl:n=i:=by omega
    have ha:=bytesAt_own HO.out;rw [upto_end] at ha;have hcv:=ha.conv n;clear ha;go_wp2_with fail
    go_ret;exact⟨rfl,H2.out,G2.out⟩
end Go.Proofs.YtoljpfapphoflaaGreatDoor.OlS

set_option maxHeartbeats 4000000
set_option maxRecDepth 100000
namespace Go.Proofs.YtoljpfapphoflaaGreatDoor.OlT
open Go.RowKit BxD PkKit PkC PkD PkF PkG OlD PtD PtK PtR OlR OlS
def TabF (w:World) (R T:Nat):Prop:=∀ wr,Fr2 R T w wr->BxO.Tab wr
theorem TabF.go {w w':World} {R T:Nat} (h:TabF w R T) (hf:Fr2 R T w w'):TabF w' R T:=fun wr g=>h wr (hf.trans g)
structure NS (cg:Bool) (w wr:World) (R T:Nat) (s:St) (u md d:Int) (id:ByteArray) (fl:Int) (K:Option Addr) (kn kc:Nat) (tx:ByteArray):Prop where
 fr:Fr2 R T w wr
 rd:PRd wr R T s
 rb:RBk cg wr w.heap.size R
 res:wr.heap[w.heap.size+1]? = some (.cells zmsg 61 (0,0))
 blk:MBk wr (w.heap.size+2) u md d id fl K kn kc tx
 hR:R<w.heap.size
 hT:T<w.heap.size
section
variable {cg : Bool} {w wr w2 : World} {R T : Nat} {s s' : St} {u md d fl : Int} {id tx : ByteArray} {K : Option Addr} {kn kc : Nat}
theorem NS.size (h:NS cg w wr R T s u md d id fl K kn kc tx):w.heap.size+3<=wr.heap.size:=(gs_ h.blk).1
theorem NS.keep (h:NS cg w wr R T s u md d id fl K kn kc tx) (hg:Fr2 R T wr w2) (hr:PRd w2 R T s'):NS cg w w2 R T s' u md d id fl K kn kc tx:=by
 have h1:=h.size;have h2:=h.hR;have h3:=h.hT;exact⟨h.fr.trans hg,hr,(hg.block _ (by omega) (by omega) (by omega)).trans h.rb,(hg.block _ (by omega) (by omega) (by omega)).trans h.res,(hg.block _ (by omega) (by omega) (by omega)).trans h.blk,h2,h3⟩
theorem NS.free (h:NS cg w wr R T s u md d id fl K kn kc tx) (i:Nat):wr.frozen? ⟨w.heap.size+2,i,none⟩ = false:=by have:=h.blk; unfold MBk at this; simp [World.frozen?,this]
theorem NS.set (h:NS cg w wr R T s u md d id fl K kn kc tx) (i:Nat) (v:Value) {u' md' d' fl':Int} {id' tx':ByteArray} {K':Option Addr} {kn' kc':Nat}
 (hv:(#[.int .i64 u,.int .i64 md,.int .i64 d,.string id,.int .i64 fl,.slice K kn kc,.string tx]:Array Value).setIfInBounds i v = #[.int .i64 u',.int .i64 md',.int .i64 d',.string id',.int .i64 fl',.slice K' kn' kc',.string tx']) :
 NS cg w (wr.setCell ⟨w.heap.size+2,i,none⟩ v) R T s u' md' d' id' fl' K' kn' kc' tx':=by
 have h2:=h.hR;have h3:=h.hT;refine⟨h.fr.set (by omega) _,h.rd.set (by omega) (by omega) _,(Below.heap_setCell _ _ _ _ (by show w.heap.size≠w.heap.size+2; omega)).trans h.rb,(Below.heap_setCell _ _ _ _ (by show w.heap.size+1≠w.heap.size+2; omega)).trans h.res, ?_,h2,h3⟩;have:=h.blk;unfold MBk at this ⊢;rw [<- hv];simp [World.setCell,Array.getElem?_modify,this]
theorem NS.start (h:PRd w R T s):NS cg w (((w.alloc (.cells #[ptr R,.string (mkB cg),.bool cg] 214)).alloc (.cells zmsg 61)).alloc (.cells #[.int .i64 0,.int .i64 0,.int .i64 0,.string ⟨#[]⟩,.int .i64 0,.slice none 0 0,.string ⟨#[]⟩] 61)) R T s 0 0 0 ⟨#[]⟩ 0 none 0 0 ⟨#[]⟩:=by
 have e1:(w.alloc (.cells #[ptr R,.string (mkB cg),.bool cg] 214)).heap.size=w.heap.size+1:=by simp
 have e2:((w.alloc (.cells #[ptr R,.string (mkB cg),.bool cg] 214)).alloc (.cells zmsg 61)).heap.size=w.heap.size+2:=by simp
 refine⟨(((Fr2.refl R T w).alloc _).alloc _).alloc _,((h.alloc _).alloc _).alloc _,((heap_alloc_old _ _ (by rw [e2]; omega)).trans (heap_alloc_old _ _ (by rw [e1]; omega))).trans (heap_alloc_new w _),(heap_alloc_old _ _ (by rw [e2]; omega)).trans ?_, ?_,h.lt,h.rd.lt⟩
 · have:=heap_alloc_new (w.alloc (.cells #[ptr R,.string (mkB cg),.bool cg] 214)) (.cells zmsg 61)
   rw [e1] at this;exact this
 · have:=heap_alloc_new ((w.alloc (.cells #[ptr R,.string (mkB cg),.bool cg] 214)).alloc (.cells zmsg 61)) (.cells #[.int .i64 0,.int .i64 0,.int .i64 0,.string ⟨#[]⟩,.int .i64 0,.slice none 0 0,.string ⟨#[]⟩] 61)
   rw [e2] at this;exact this
end
def MsgOut (m:Msg) (s:St) (w:World) (R T:Nat) (e:Ending) (w':World):Prop :=
 ∃ K c,e = .returned (.agg #[.int .i64 m.uid,.int .i64 m.mod,.int .i64 m.date,.string m.id,.int .i64 m.flags,.slice K m.keys.length c,.string m.text])/\w'.ownsRow w.heap.size 3 1 (.slice K m.keys.length c) m.keys.length (m.keys.map (Value.int .i64))/\PRd w' R T s/\Fr2 R T w w'
theorem msg_any {cg:Bool} {w:World} {R T:Nat} {s:St} {id:ByteArray} (h:PRd w R T s) (ht:TabF w R T) (hid:id.size<=200):Calls Tryz.prog 219 #[.agg #[ptr R,.string (mkB cg),.bool cg],.string id] w (MsgOut (msgS cg id s).1 (msgS cg id s).2 w R T):=by
 have m0:=NS.start (cg:=cg) h;unfold zmsg at m0;have M0:=H_ m0;have HT:=H_ ht;obtain⟨s1,hs1⟩ : ∃ s1,s1=(fixS s).2:=⟨_,rfl⟩;obtain⟨sc,hsc⟩ : ∃ sc,sc=(chS cg s1).2:=⟨_,rfl⟩;obtain⟨o,ho⟩ : ∃ o,o=(chS cg s1).1:=⟨_,rfl⟩;obtain⟨s2,hs2⟩ : ∃ s2,s2=(fixS sc).2:=⟨_,rfl⟩;obtain⟨s3,hs3⟩ : ∃ s3,s3=(byteS s2).2:=⟨_,rfl⟩;obtain⟨s4,hs4⟩ : ∃ s4,s4=(fixS s3).2:=⟨_,rfl⟩;obtain⟨u,hu⟩ : ∃ u,u=(fixS s).1:=⟨_,rfl⟩;obtain⟨d,hd⟩ : ∃ d,d=(fixS sc).1:=⟨_,rfl⟩;obtain⟨f,hf⟩ : ∃ f,f=(byteS s2).1:=⟨_,rfl⟩;obtain⟨k,hk⟩ : ∃ k,k=(fixS s3).1:=⟨_,rfl⟩;have hmsg:msgS cg id s=(⟨u,o,d,ownT id u,f,keysN k,(strS s4).1⟩,(strS s4).2):=by
  unfold msgS;simp only [<- hs1,<- hsc,<- ho,<- hs2,<- hs3,<- hs4,<- hu,<- hd,<- hf,<- hk]
 rw [hmsg];have hul:u<4294967296:=by rw [hu]; exact fix_lt _
 have hkl:k<4294967296:=by rw [hk]; exact fix_lt _
 have K1:=H_ (fun (wr:World) (g:PRd wr R T s)=>show Calls Tryz.prog 216 #[ptr T] wr (Pq wr R T (.int .i64 (u:Nat)) s1) from by rw [hu,hs1]; exact fix_p g);have K2:=H_ (fun (wr:World) (g:PRd wr R T sc)=>show Calls Tryz.prog 216 #[ptr T] wr (Pq wr R T (.int .i64 (d:Nat)) s2) from by rw [hd,hs2]; exact fix_p g);have KH:=H_ (fun (wr:World) (g:PRd wr R T s1)=>show Calls Tryz.prog 217 #[.agg #[ptr R,.string (mkB cg),.bool cg]] wr (Pq wr R T (.int .i64 (o:Nat)) sc) from by rw [ho,hsc]; exact change_any g);have K3:=H_ (fun (wr:World) (g:PRd wr R T s2)=>show Calls Tryz.prog 225 #[ptr T] wr (Pq wr R T (.int .i64 (f:Nat)) s3) from by rw [hf,hs3]; exact byte_p g);have K4:=H_ (fun (wr:World) (g:PRd wr R T s3)=>show Calls Tryz.prog 216 #[ptr T] wr (Pq wr R T (.int .i64 (k:Nat)) s4) from by rw [hk,hs4]; exact fix_p g);clear h ht m0 hs1 hsc ho hs2 hs3 hs4 hu hd hf hk hmsg;go_enter Tryz.func219,Tryz.ntmps219;go_upto_region 2 with fail
 generalize (World.alloc (World.alloc (World.alloc w _) _) _)=w1 at M0 ⊢;have KK:=H_ (K1.out w1 M0.out.rd);have b0:=M0.out.rb.cells.1;have c0:=M0.out.rd.cells.1;go_upto_region 3 with (go_at_call 216; go_loud (
  refine KK.out.mono ?_;rintro e w2 ⟨rfl,hr,hg⟩;have M1:=H_ (M0.out.keep hg hr);have q0:=M1.out.blk.cells.1;have q1:=M1.out.free 0;clear hr hg c0 b0))
 have M2:=H_ (M1.out.set (u':=u) 0 (.int .i64 (u:Nat)) rfl);clear M0 M1 KK q0 q1;generalize (World.setCell w2 _ _)=w3 at M2 ⊢;have KC:=H_ (KH.out w3 M2.out.rd);obtain⟨b0,b1,b2⟩:=M2.out.rb.cells;go_upto_region 4 with (go_at_call 217; go_loud (
  refine KC.out.mono ?_;rintro e wx ⟨rfl,hr,hf⟩;have MX:=H_ (M2.out.keep hf hr);have q0:=MX.out.blk.cells.2.1;have q1:=MX.out.free 1;clear hr hf b0 b1 b2))
 have M2:=H_ (MX.out.set (md':=o) 1 (.int .i64 (o:Nat)) rfl);clear MX KC q0 q1;generalize (World.setCell wx _ _)=w3 at M2 ⊢;have KK:=H_ (K2.out w3 M2.out.rd);have b0:=M2.out.rb.cells.1;have c0:=M2.out.rd.cells.1;go_upto_region 5 with (go_at_call 216; go_loud (
  refine KK.out.mono ?_;rintro e w4 ⟨rfl,hr,hg⟩;have M3:=H_ (M2.out.keep hg hr);have q0:=M3.out.blk.cells.2.2.1;have q1:=M3.out.free 2;clear hr hg c0 b0))
 have M4:=H_ (M3.out.set (d':=d) 2 (.int .i64 (d:Nat)) rfl);clear M2 M3 KK q0 q1;generalize (World.setCell w4 _ _)=w5 at M4 ⊢;have KO:=H_ (BxO.own_any (id:=id) (u:=(u:Int)) (HT.out w5 M4.out.fr) (by omega) hid);have q0:=M4.out.blk.cells.1;go_upto_region 6 with (go_at_call 168; go_loud (
  refine KO.out.mono ?_;rintro e w6 ⟨rfl,hb⟩;have M5:=H_ (M4.out.keep (Fr2.below hb R T) (M4.out.rd.go hb));clear q0 hb;have q0:=M5.out.blk.cells.2.2.2.1;have q1:=M5.out.free 3))
 have M6:=H_ (M5.out.set (id':=ownT id u) 3 (.string (ownT id u)) rfl);clear M4 M5 KO q0 q1;generalize (World.setCell w6 _ _)=w7 at M6 ⊢;have KK:=H_ (K3.out w7 M6.out.rd);have b0:=M6.out.rb.cells.1;have c0:=M6.out.rd.cells.1;go_upto_region 7 with (go_at_call 225; go_loud (
  refine KK.out.mono ?_;rintro e w8 ⟨rfl,hr,hg⟩;have M7:=H_ (M6.out.keep hg hr);have q0:=M7.out.blk.cells.2.2.2.2.1;have q1:=M7.out.free 4;clear hr hg c0 b0))
 have M8:=H_ (M7.out.set (fl':=f) 4 (.int .i64 (f:Nat)) rfl);clear M6 M7 KK q0 q1;generalize (World.setCell w8 _ _)=w9 at M8 ⊢;have KK:=H_ (K4.out w9 M8.out.rd);have b0:=M8.out.rb.cells.1;have c0:=M8.out.rd.cells.1;have KB:=H_ (fun (wr:World)=>OlB.keysOf_any (w:=wr) hkl);go_upto_region 8 with (first
  | (go_at_call 216; go_loud (
     refine KK.out.mono ?_;rintro e wa ⟨rfl,hr,hg⟩;have M9:=H_ (M8.out.keep hg hr);clear hr hg c0 b0))
  | (go_at_call 226; go_loud (
     refine (KB.out _).mono ?_;rintro e wb ⟨vk,rfl,hown,hb⟩;obtain⟨A1,k1,rfl,hk1⟩:=BxR.own_slice hown;have MA:=H_ (M9.out.keep (Fr2.below hb R T) (M9.out.rd.go hb));have HO:=H_ hown;have q0:=MA.out.blk.cells.2.2.2.2.2.1;have q1:=MA.out.free 5;clear hown hb)))
 obtain⟨kl,hkl2⟩ : ∃ kl,kl=(keysN k).length:=⟨_,rfl⟩;have HKL:=H_ hkl2;have MB2:=H_ (MA.out.set (K':=A1) (kn':=(keysN k).length) (kc':=k1) 5 (.slice A1 (keysN k).length k1) rfl);have hsz:=M9.out.size;have HO2:=H_ (ownsRow_setCell_below (BxC.own_base HO.out hsz) (a:=⟨w.heap.size+2,5,none⟩) (by show w.heap.size+2<w.heap.size+3; omega) (.slice A1 (keysN k).length k1));rw [<- hkl2] at MB2 HO2 ⊢;clear hkl2 M8 M9 MA HO KK KB q0 q1;generalize (World.setCell wb _ _)=wc at MB2 HO2 ⊢;have KS:=H_ (str_any (cg:=cg) MB2.out.rd);obtain⟨tt,htt⟩ : ∃ tt,tt=(strS s4).1:=⟨_,rfl⟩;obtain⟨s5,hs5⟩ : ∃ s5,s5=(strS s4).2:=⟨_,rfl⟩;rw [<- htt,<- hs5] at KS;have HTT:=H_ htt;have HS5:=H_ hs5;clear htt hs5;have hRl:=MB2.out.hR;have hTl:=MB2.out.hT;obtain⟨b0,b1,b2⟩:=MB2.out.rb.cells;go_upto_region 9 with (go_at_call 227; go_loud (
  refine KS.out.mono ?_;rintro e wd ⟨rfl,hr,hf⟩;have MC:=H_ (MB2.out.keep hf hr);have HO3:=H_ (BxC.own_block HO2.out (w':=wd) fun g e=>hf.block g (HO2.out.lt g e).2 (by have:=(HO2.out.lt g e).1; omega) (by have:=(HO2.out.lt g e).1; omega));have q0:=MC.out.blk.cells.2.2.2.2.2.2;have q1:=MC.out.free 6;clear hr hf b0 b1 b2))
 have MD:=H_ (MC.out.set (tx':=tt) 6 (.string tt) rfl);have HO4:=H_ (ownsRow_setCell_below HO3.out (a:=⟨w.heap.size+2,6,none⟩) (by show w.heap.size+2<w.heap.size+3; omega) (.string tt));clear MB2 MC HO2 HO3 KS q0 q1;generalize (World.setCell wd _ _)=we at MD HO4 ⊢;obtain⟨q0,q1,q2,q3,q4,q5,q6⟩:=MD.out.blk.cells;obtain⟨z0,z1,z2,z3,z4,z5,z6,zf⟩:=zcells MD.out.res;have f0:=zf 0;have f1:=zf 1;have f2:=zf 2;have f3:=zf 3;have f4:=zf 4;have f5:=zf 5;have f6:=zf 6;clear zf;go_wp2_with fail
 obtain⟨W,hW,p0,p1,p2,p3,p4,p5,p6,hWg⟩:=ret7 MD.out.res (.int .i64 (u:Nat)) (.int .i64 (o:Nat)) (.int .i64 (d:Nat)) (.string (ownT id u)) (.int .i64 (f:Nat)) (.slice A1 kl k1) (.string tt);rw [<- hW];refine bodyPost_ret (v:=.agg #[.int .i64 (u:Nat),.int .i64 (o:Nat),.int .i64 (d:Nat),.string (ownT id u),.int .i64 (f:Nat),.slice A1 kl k1,.string tt]) (by simp [results,Tryz.results219,go_sem,p0,p1,p2,p3,p4,p5,p6]) rfl ?_;obtain rfl:=HTT.out;obtain rfl:=HS5.out;obtain rfl:=HKL.out;have hR2:=MD.out.hR;have hT2:=MD.out.hT;have hsw:=MD.out.size;refine⟨A1,k1,rfl, ?_, ?_, ?_⟩
 · exact BxC.own_base (HO4.out.kept hWg (.inr (fun e=>by have:=(HO4.out.lt _ e).1; omega))) (by omega)
 · exact⟨(hWg.block R (by omega) (fun e=>by have:R=w.heap.size+1:=Option.some.inj e; omega)).trans MD.out.rd.blk,MD.out.rd.rd.below (B:=T+1) ⟨hWg.os,hWg.tape,hWg.output,hWg.size,fun k hk=>hWg.block k (by omega) (fun e=>by have:k=w.heap.size+1:=Option.some.inj e; omega)⟩ (Nat.lt_succ_self _),MD.out.rd.ne⟩
 · exact⟨hWg.os.trans MD.out.fr.os,hWg.tape.trans MD.out.fr.tape,hWg.output.trans MD.out.fr.output,Nat.le_trans MD.out.fr.size hWg.size,fun k hk h1 h2=>(hWg.block k (by omega) (fun e=>by have:k=w.heap.size+1:=Option.some.inj e; omega)).trans (MD.out.fr.block k hk h1 h2)⟩
end Go.Proofs.YtoljpfapphoflaaGreatDoor.OlT

set_option maxRecDepth 512
namespace Go.Proofs.YtoljpfapphoflaaGreatDoor.OlU
open Go.RowKit BxD BxKit BxR BxC OlD PtD PtK PtR OlR OlT
open PkF (ptr RD)
open PtK (own_ne_blk)
structure BS (cg:Bool) (w wr:World) (R T:Nat) (s:St) (id:ByteArray) (v n hg:Int) (WA:Option Addr) (wn wc:Nat) (MA:Option Addr) (mn mc':Nat) (ws:List ByteArray) (rs:List Raw):Prop where
 fr:Fr2 R T w wr
 rd:PRd wr R T s
 rb:RBk cg wr w.heap.size R
 res:wr.heap[w.heap.size+1]? = some (.cells zbox 25 (0,0))
 blk:wr.heap[w.heap.size+2]? = some (.cells #[.string id,.int .i64 v,.int .i64 n,.int .i64 hg,.slice WA wn wc,.slice MA mn mc'] 25 (0,0))
 hR:R<w.heap.size
 hT:T<w.heap.size
 ow:wr.ownsRow (w.heap.size+3) 9 1 (.slice WA wn wc) wn (ws.map Value.string)
 om:wr.ownsRow (w.heap.size+3) 61 7 (.slice MA mn mc') mn (mc rs)
 ko : ∀ r∈rs,wr.ownsRow (w.heap.size+3) 3 1 (.slice r.K r.m.keys.length r.c) r.m.keys.length (r.m.keys.map (Value.int .i64))
section
variable {cg : Bool} {w wr w2 w3 : World} {R T : Nat} {s s' : St} {id : ByteArray} {v n hg : Int} {WA MA WA' MA' : Option Addr} {wn wc mn mc' wc2 mc2 : Nat} {ws : List ByteArray} {rs : List Raw}
theorem BS.size (h:BS cg w wr R T s id v n hg WA wn wc MA mn mc' ws rs):w.heap.size+3<=wr.heap.size:=(gs_ h.blk).1
theorem BS.keep (h:BS cg w wr R T s id v n hg WA wn wc MA mn mc' ws rs) (hgr:Fr2 R T wr w2) (hr:PRd w2 R T s'):BS cg w w2 R T s' id v n hg WA wn wc MA mn mc' ws rs:=by
 have h1:=h.size;have h2:=h.hR;have h3:=h.hT;have hb : ∀ g,w.heap.size<=g->g<wr.heap.size->w2.heap[g]? = wr.heap[g]?:=fun g k1 k2=>hgr.block g k2 (by omega) (by omega);exact⟨h.fr.trans hgr,hr,(hb _ (by omega) (by omega)).trans h.rb,(hb _ (by omega) (by omega)).trans h.res,(hb _ (by omega) (by omega)).trans h.blk,h2,h3,own_block h.ow fun g e=>hb g (by have:=(h.ow.lt g e).1; omega) (h.ow.lt g e).2,
  own_block h.om fun g e=>hb g (by have:=(h.om.lt g e).1; omega) (h.om.lt g e).2,fun r hr=>own_block (h.ko r hr) fun g e=>hb g (by have:=((h.ko r hr).lt g e).1; omega) ((h.ko r hr).lt g e).2⟩
theorem BS.go (h:BS cg w wr R T s id v n hg WA wn wc MA mn mc' ws rs) (hb:Below wr.heap.size wr w2):BS cg w w2 R T s id v n hg WA wn wc MA mn mc' ws rs:=h.keep (Fr2.below hb R T) (h.rd.go hb)
theorem BS.cells (h:BS cg w wr R T s id v n hg WA wn wc MA mn mc' ws rs):wr.cell? ⟨w.heap.size+2,0,none⟩ = some (.string id)/\wr.cell? ⟨w.heap.size+2,1,none⟩ = some (.int .i64 v)/\wr.cell? ⟨w.heap.size+2,2,none⟩ = some (.int .i64 n) /\
 wr.cell? ⟨w.heap.size+2,3,none⟩ = some (.int .i64 hg)/\wr.cell? ⟨w.heap.size+2,4,none⟩ = some (.slice WA wn wc)/\wr.cell? ⟨w.heap.size+2,5,none⟩ = some (.slice MA mn mc')/\∀ i,wr.frozen? ⟨w.heap.size+2,i,none⟩ = false:=by
 have c:=fun o=>cell_of_row wr (w.heap.size+2) o _ _ _ h.blk;exact⟨(c 0).trans rfl,(c 1).trans rfl,(c 2).trans rfl,(c 3).trans rfl,(c 4).trans rfl,(c 5).trans rfl,fun i=>by simp [World.frozen?,h.blk]⟩
theorem BS.set (h:BS cg w wr R T s id v n hg WA wn wc MA mn mc' ws rs) (i:Nat) (x:Value) {id':ByteArray} {v' n' hg':Int}
 (hv:(#[.string id,.int .i64 v,.int .i64 n,.int .i64 hg,.slice WA wn wc,.slice MA mn mc']:Array Value).setIfInBounds i x = #[.string id',.int .i64 v',.int .i64 n',.int .i64 hg',.slice WA wn wc,.slice MA mn mc']) :
 BS cg w (wr.setCell ⟨w.heap.size+2,i,none⟩ x) R T s id' v' n' hg' WA wn wc MA mn mc' ws rs:=by
 have h2:=h.hR;have h3:=h.hT;refine⟨h.fr.set (by omega) _,h.rd.set (by omega) (by omega) _,(Below.heap_setCell _ _ _ _ (by show w.heap.size≠w.heap.size+2; omega)).trans h.rb,(Below.heap_setCell _ _ _ _ (by show w.heap.size+1≠w.heap.size+2; omega)).trans h.res, ?_,h2,h3,ownsRow_setCell_below h.ow (by show w.heap.size+2<w.heap.size+3; omega) _,ownsRow_setCell_below h.om (by show w.heap.size+2<w.heap.size+3; omega) _,fun r hr=>ownsRow_setCell_below (h.ko r hr) (by show w.heap.size+2<w.heap.size+3; omega) _⟩;rw [<- hv];simp [World.setCell,Array.getElem?_modify,h.blk]
theorem BS.lo (h:BS cg w wr R T s id v n hg WA wn wc MA mn mc' ws rs) {x:Value} (hx : ∀ g,x.ownBlock=some g->w.heap.size+3<=g) (hgr:wr.grownBy w3 x.ownBlock):(∀ g,g<w.heap.size+3->w3.heap[g]? = wr.heap[g]?)/\PRd w3 R T s/\Fr2 R T w w3:=by
 have h2:=h.hR;have h3:=h.hT;have h1:=h.size;have hlo : ∀ g,g<w.heap.size+3->w3.heap[g]? = wr.heap[g]?:=fun g k=>hgr.block g (by omega) (fun e=>by have:=hx g e.symm; omega);exact⟨hlo,⟨(hlo R (by omega)).trans h.rd.blk,h.rd.rd.below (B:=w.heap.size+3) ⟨hgr.os,hgr.tape,hgr.output,hgr.size,hlo⟩ (by omega),h.rd.ne⟩,
  ⟨hgr.os.trans h.fr.os,hgr.tape.trans h.fr.tape,hgr.output.trans h.fr.output,Nat.le_trans h.fr.size hgr.size,fun k k1 k2 k3=>(hlo k (by omega)).trans (h.fr.block k k1 k2 k3)⟩⟩
theorem BS.word (h:BS cg w wr R T s id v n hg WA wn wc MA mn mc' ws rs) {t:ByteArray} (ho:w3.ownsRow (w.heap.size+3) 9 1 (.slice WA' (wn+1) wc2) (wn+1) ((ws++[t]).map Value.string)) (hgr:wr.grownBy w3 (Value.slice WA wn wc).ownBlock) :
 BS cg w (w3.setCell ⟨w.heap.size+2,4,none⟩ (.slice WA' (wn+1) wc2)) R T s id v n hg WA' (wn+1) wc2 MA mn mc' (ws++[t]) rs:=by
 have h2:=h.hR;have h3:=h.hT;obtain⟨hlo,f3,fr3⟩:=h.lo (fun g e=>(h.ow.lt g e).1) hgr;refine⟨fr3.set (by omega) _,f3.set (by omega) (by omega) _,(Below.heap_setCell _ _ _ _ (by show w.heap.size≠w.heap.size+2; omega)).trans ((hlo _ (by omega)).trans h.rb),(Below.heap_setCell _ _ _ _ (by show w.heap.size+1≠w.heap.size+2; omega)).trans ((hlo _ (by omega)).trans h.res), ?_,h2,h3,ownsRow_setCell_below ho (by show w.heap.size+2<w.heap.size+3; omega) _,ownsRow_setCell_below (own_block h.om fun g e=>hgr.block g (h.om.lt g e).2 fun e2=>own_ne h.om h.ow e2.symm (by decide) e) (by show w.heap.size+2<w.heap.size+3; omega) _,
  fun r hr=>ownsRow_setCell_below (own_block (h.ko r hr) fun g e=>hgr.block g ((h.ko r hr).lt g e).2 fun e2=>own_ne (h.ko r hr) h.ow e2.symm (by decide) e) (by show w.heap.size+2<w.heap.size+3; omega) _⟩
 have:=(hlo (w.heap.size+2) (by omega)).trans h.blk;simp [World.setCell,Array.getElem?_modify,this]
theorem BS.msg (h:BS cg w wr R T s id v n hg WA wn wc MA mn mc' ws rs) {r:Raw} (hk:wr.ownsRow (w.heap.size+3) 3 1 (.slice r.K r.m.keys.length r.c) r.m.keys.length (r.m.keys.map (Value.int .i64))) (ho:w3.ownsRow (w.heap.size+3) 61 7 (.slice MA' (mn+1) mc2) (mn+1) (mc (rs++[r]))) (hgr:wr.grownBy w3 (Value.slice MA mn mc').ownBlock) :
 BS cg w (w3.setCell ⟨w.heap.size+2,5,none⟩ (.slice MA' (mn+1) mc2)) R T s id v n hg WA wn wc MA' (mn+1) mc2 ws (rs++[r]):=by
 have h2:=h.hR;have h3:=h.hT;obtain⟨hlo,f3,fr3⟩:=h.lo (fun g e=>(h.om.lt g e).1) hgr;refine⟨fr3.set (by omega) _,f3.set (by omega) (by omega) _,(Below.heap_setCell _ _ _ _ (by show w.heap.size≠w.heap.size+2; omega)).trans ((hlo _ (by omega)).trans h.rb),(Below.heap_setCell _ _ _ _ (by show w.heap.size+1≠w.heap.size+2; omega)).trans ((hlo _ (by omega)).trans h.res), ?_,h2,h3,ownsRow_setCell_below (own_block h.ow fun g e=>hgr.block g (h.ow.lt g e).2 fun e2=>own_ne h.ow h.om e2.symm (by decide) e) (by show w.heap.size+2<w.heap.size+3; omega) _,ownsRow_setCell_below ho (by show w.heap.size+2<w.heap.size+3; omega) _,
  fun q hq=>?_⟩
 · have:=(hlo (w.heap.size+2) (by omega)).trans h.blk
   simp [World.setCell,Array.getElem?_modify,this]
 · have hq2:wr.ownsRow (w.heap.size+3) 3 1 (.slice q.K q.m.keys.length q.c) q.m.keys.length (q.m.keys.map (Value.int .i64)):=by
    rcases List.mem_append.1 hq with hq | hq
    · exact h.ko q hq
    · obtain rfl:=List.mem_singleton.1 hq
      exact hk
   exact ownsRow_setCell_below (own_block hq2 fun g e=>hgr.block g (hq2.lt g e).2 fun e2=>own_ne hq2 h.om e2.symm (by decide) e) (by show w.heap.size+2<w.heap.size+3; omega) _
theorem BS.start (h:PRd w R T s) (id:ByteArray):BS cg w (((w.alloc (.cells #[ptr R,.string (mkB cg),.bool cg] 214)).alloc (.cells zbox 25)).alloc (.cells #[.string id,.int .i64 0,.int .i64 0,.int .i64 0,.slice none 0 0,.slice none 0 0] 25)) R T s id 0 0 0 none 0 0 none 0 0 [] []:=by
 have e1:(w.alloc (.cells #[ptr R,.string (mkB cg),.bool cg] 214)).heap.size=w.heap.size+1:=by simp
 have e2:((w.alloc (.cells #[ptr R,.string (mkB cg),.bool cg] 214)).alloc (.cells zbox 25)).heap.size=w.heap.size+2:=by simp
 refine⟨(((Fr2.refl R T w).alloc _).alloc _).alloc _,((h.alloc _).alloc _).alloc _,((heap_alloc_old _ _ (by rw [e2]; omega)).trans (heap_alloc_old _ _ (by rw [e1]; omega))).trans (heap_alloc_new w _),(heap_alloc_old _ _ (by rw [e2]; omega)).trans ?_, ?_,h.lt,h.rd.lt,World.ownsRow_nil _ _ _ _,World.ownsRow_nil _ _ _ _,fun r hr=>by simp at hr⟩
 · have:=heap_alloc_new (w.alloc (.cells #[ptr R,.string (mkB cg),.bool cg] 214)) (.cells zbox 25)
   rw [e1] at this;exact this
 · have:=heap_alloc_new ((w.alloc (.cells #[ptr R,.string (mkB cg),.bool cg] 214)).alloc (.cells zbox 25)) (.cells #[.string id,.int .i64 0,.int .i64 0,.int .i64 0,.slice none 0 0,.slice none 0 0] 25)
   rw [e2] at this;exact this
end
def BoxRd (b:Box) (s:St) (w:World) (R T:Nat) (e:Ending) (w':World):Prop :=
 ∃ WA wc MA mc' rs,e = .returned (.agg #[.string b.id,.int .i64 b.valid,.int .i64 b.next,.int .i64 b.high,.slice WA b.words.length wc,.slice MA b.msgs.length mc'])/\w'.ownsRow w.heap.size 9 1 (.slice WA b.words.length wc) b.words.length (b.words.map Value.string) /\
  w'.ownsRow w.heap.size 61 7 (.slice MA b.msgs.length mc') b.msgs.length (mc rs)/\rs.map Raw.m=b.msgs/\(∀ r∈rs,w'.ownsRow w.heap.size 3 1 (.slice r.K r.m.keys.length r.c) r.m.keys.length (r.m.keys.map (Value.int .i64)))/\PRd w' R T s/\Fr2 R T w w'
end Go.Proofs.YtoljpfapphoflaaGreatDoor.OlU

set_option maxHeartbeats 4000000
set_option maxRecDepth 100000
namespace Go.Proofs.YtoljpfapphoflaaGreatDoor.OlV
open Go.RowKit BxD BxKit BxR BxC OlD PtD PtK PtR OlR OlT OlU
open PkF (ptr RD)
theorem box_any {cg:Bool} {w:World} {R T:Nat} {s:St} {id:ByteArray} (h:PRd w R T s) (ht:TabF w R T) (hid:id.size<=200):Calls Tryz.prog 196 #[.agg #[ptr R,.string (mkB cg),.bool cg],.string id] w (BoxRd (boxS cg id s).1 (boxS cg id s).2 w R T):=by
 have b0:=BS.start (cg:=cg) h id;unfold zbox at b0;have B0:=H_ b0;have HT:=H_ ht;obtain⟨s1,hs1⟩ : ∃ s1,s1=(fixS s).2:=⟨_,rfl⟩;obtain⟨s2,hs2⟩ : ∃ s2,s2=(fixS s1).2:=⟨_,rfl⟩;obtain⟨sc,hsc⟩ : ∃ sc,sc=(chS cg s2).2:=⟨_,rfl⟩;obtain⟨o,ho⟩ : ∃ o,o=(chS cg s2).1:=⟨_,rfl⟩;obtain⟨s3,hs3⟩ : ∃ s3,s3=(cntS 32 sc).2:=⟨_,rfl⟩;obtain⟨v,hv⟩ : ∃ v,v=(fixS s).1:=⟨_,rfl⟩;obtain⟨n,hn⟩ : ∃ n,n=(fixS s1).1:=⟨_,rfl⟩;obtain⟨c,hc⟩ : ∃ c,c=(cntS 32 sc).1:=⟨_,rfl⟩;obtain⟨s4,hs4⟩ : ∃ s4,s4=(itS (txtS 24) c s3).2:=⟨_,rfl⟩;obtain⟨s5,hs5⟩ : ∃ s5,s5=(cntS 60 s4).2:=⟨_,rfl⟩;obtain⟨e,he⟩ : ∃ e,e=(cntS 60 s4).1:=⟨_,rfl⟩;have hbox:boxS cg id s=(⟨id,v,n,o,(itS (txtS 24) c s3).1,(itS (msgS cg id) e s5).1⟩,(itS (msgS cg id) e s5).2):=by
  unfold boxS;simp only [<- hs1,<- hs2,<- hsc,<- ho,<- hs3,<- hv,<- hn,<- hc,<- hs4,<- hs5,<- he]
 rw [hbox];have hc32:c<=32:=by rw [hc]; exact cnt_le _ _
 have he60:e<=60:=by rw [he]; exact cnt_le _ _
 have K1:=H_ (fun (wr:World) (g:PRd wr R T s)=>show Calls Tryz.prog 216 #[ptr T] wr (Pq wr R T (.int .i64 (v:Nat)) s1) from by rw [hv,hs1]; exact fix_p g);have K2:=H_ (fun (wr:World) (g:PRd wr R T s1)=>show Calls Tryz.prog 216 #[ptr T] wr (Pq wr R T (.int .i64 (n:Nat)) s2) from by rw [hn,hs2]; exact fix_p g);have KH:=H_ (fun (wr:World) (g:PRd wr R T s2)=>show Calls Tryz.prog 217 #[.agg #[ptr R,.string (mkB cg),.bool cg]] wr (Pq wr R T (.int .i64 (o:Nat)) sc) from by rw [ho,hsc]; exact change_any g);have K3:=H_ (fun (wr:World) (g:PRd wr R T sc)=>show Calls Tryz.prog 218 #[ptr R,.int .i64 (32:Nat)] wr (Pq wr R T (.int .i64 (c:Nat)) s3) from by rw [hc,hs3]; exact fixed_p g 32);have K5:=H_ (fun (wr:World) (g:PRd wr R T s4)=>show Calls Tryz.prog 218 #[ptr R,.int .i64 (60:Nat)] wr (Pq wr R T (.int .i64 (e:Nat)) s5) from by rw [he,hs5]; exact fixed_p g 60);have HS4:=H_ hs4;clear h ht b0 hs1 hs2 hsc ho hs3 hv hn hc hs4 hs5 he hbox;go_enter Tryz.func196,Tryz.ntmps196;go_upto_region 2 with fail
 generalize (World.alloc (World.alloc (World.alloc w _) _) _)=w1 at B0 ⊢;have KK:=H_ (K1.out w1 B0.out.rd);have c0:=B0.out.rd.cells.1;have b0:=B0.out.rb.cells.1;go_upto_region 3 with (go_at_call 216; go_loud (
  refine KK.out.mono ?_;rintro e w2 ⟨rfl,hr,hg⟩;have B1:=H_ (B0.out.keep hg hr);have q0:=B1.out.cells.2.1;have q1:=B1.out.cells.2.2.2.2.2.2 1;clear hr hg c0 b0))
 have B2:=H_ (B1.out.set (v':=v) (n':=0) (hg':=0) 1 (.int .i64 (v:Nat)) rfl);clear B0 B1 KK q0 q1;generalize (World.setCell w2 _ _)=w3 at B2 ⊢;have KK:=H_ (K2.out w3 B2.out.rd);have c0:=B2.out.rd.cells.1;have b0:=B2.out.rb.cells.1;go_upto_region 4 with (go_at_call 216; go_loud (
  refine KK.out.mono ?_;rintro e w4 ⟨rfl,hr,hg⟩;have B3:=H_ (B2.out.keep hg hr);have q0:=B3.out.cells.2.2.1;have q1:=B3.out.cells.2.2.2.2.2.2 2;clear hr hg c0 b0))
 have B4:=H_ (B3.out.set (v':=v) (n':=n) (hg':=0) 2 (.int .i64 (n:Nat)) rfl);clear B2 B3 KK q0 q1;generalize (World.setCell w4 _ _)=w5 at B4 ⊢;have KC:=H_ (KH.out w5 B4.out.rd);obtain⟨b0,b1,b2⟩:=B4.out.rb.cells;go_upto_region 5 with (go_at_call 217; go_loud (
  refine KC.out.mono ?_;rintro e wx ⟨rfl,hr,hf⟩;have BX:=H_ (B4.out.keep hf hr);have q0:=BX.out.cells.2.2.2.1;have q1:=BX.out.cells.2.2.2.2.2.2 3;clear hr hf b0 b1 b2))
 have B4:=H_ (BX.out.set (v':=v) (n':=n) (hg':=o) 3 (.int .i64 (o:Nat)) rfl);clear BX KC q0 q1;generalize (World.setCell wx _ _)=w5 at B4 ⊢;have KK:=H_ (K3.out w5 B4.out.rd);have b0:=B4.out.rb.cells.1;go_wp2_with (go_at_call 218; go_loud (
  refine KK.out.mono ?_;rintro e w6 ⟨rfl,hr,hf⟩;have B5:=H_ (B4.out.keep hf hr);clear hr hf b0))
 clear B4 KK;go_loopw [28] (fun s25 wr=>∃ (j:Nat) (WA:Option Addr) (wc:Nat),j<=c/\s25 = .int .i64 j/\Hid (BS cg w wr R T (itS (txtS 24) j s3).2 id v n o WA j wc none 0 0 (itS (txtS 24) j s3).1 [])) (fun s25 _=>c-(intOf s25).toNat)
 case atStart=>exact⟨0,none,0,Nat.zero_le _,rfl,B5.out⟩
 case round =>
  clear B5;obtain⟨j,WA,wc,hj,rfl,B5⟩:=hrel;have hsz:=B5.out.size;by_cases hlt:j<c
  · have c0:=B5.out.rd.cells.1
    have cb:=B5.out.rb.cells.1;obtain⟨q0,q1,q2,q3,q4,q5,qf⟩:=B5.out.cells;have qf4:=qf 4;clear qf;have KT:=H_ (fun (w':World) (hb:Below wr.heap.size wr w')=>text_p (B5.out.rd.go hb) 24);obtain⟨t,ht⟩ : ∃ t,t=(txtS 24 (itS (txtS 24) j s3).2).1:=⟨_,rfl⟩;obtain⟨s',hs'⟩ : ∃ s',s'=(txtS 24 (itS (txtS 24) j s3).2).2:=⟨_,rfl⟩;rw [<- ht,<- hs'] at KT;have HTT:=H_ ht;have HSS:=H_ hs';have HJ:=H_ (show (itS (txtS 24) (j+1) s3).1=(itS (txtS 24) j s3).1++[t]/\(itS (txtS 24) (j+1) s3).2=s' by rw [ht,hs']; exact⟨rfl,rfl⟩);clear ht hs';go_upto_region 7 with fail
    go_region_law (first
     | (go_simp; go_at_call 123
        ((with_reducible refine (KT.out _ ?d1).mono ?_); rotate_left)
        case d1=>first | exact Below.refl _ _ | exact (Below.refl _ _).drew
        go_loud (
        rintro e w7 ⟨rfl,hr,hf⟩;have B6:=H_ (show BS cg w w7 R T s' id v n o WA j wc none 0 0 (itS (txtS 24) j s3).1 [] by first | exact B5.out.keep hf hr | exact (B5.out.go ((Below.refl _ _).drew)).keep hf hr);have x0:=B6.out.rd.cells.1;have xb:=B6.out.rb.cells.1;have x4:=B6.out.cells.2.2.2.2.1;have xf:=B6.out.cells.2.2.2.2.2.2 4;have a4:(w7.alloc (.cells #[.string t] 9)).cell? ⟨w.heap.size+2,4,none⟩ = some (.slice WA j wc):=(World.cell?_of_block (heap_alloc_old w7 _ (by have:=B6.out.size; show w.heap.size+2<_; omega))).trans x4;have O6:=H_ (B6.out.ow.alloc (.cells #[.string t] 9));have S6:=H_ (src_new w7 #[.string t] 9 (b:=w7.heap.size) (m:=1) (sz:=1) rfl rfl (by intro u hu; simp at hu; subst hu; rfl));have Z6:=H_ (show w.heap.size+3<=(w7.alloc (.cells #[.string t] 9)).heap.size by have:=B6.out.size; simp; omega);clear hr hf;dsimp only))
     | (go_loud (
        refine step_rows elS (c:=1) rfl (.tmp 31) (.tmp 38) rfl (by simp [Act.eval]) (by simp [Act.eval]) O6.out S6.out (by unfold maxLen; omega) (by omega) Z6.out ?_;intro v8 w8 hown8 hg8 _;obtain⟨A8,k8,rfl,hk8⟩:=own_slice hown8;have B7:=H_ ((B6.out.go ((Below.refl _ _).alloc lr_ (.cells #[.string t] 9))).word (t:=t) (by rw [List.map_append]; exact hown8) hg8);have hz:=B6.out.hR;have hz2:=B6.out.size;have hlo : ∀ p:Addr,p.block<w.heap.size+3->w8.cell? p=w7.cell? p/\w8.frozen? p=w7.frozen? p:=fun p hp=>by
         have h1:w8.heap[p.block]? = w7.heap[p.block]?:=(hg8.block p.block (by simp; omega) (fun e2=>by have:=(O6.out.lt _ e2.symm).1; omega)).trans (heap_alloc_old w7 _ (by omega));exact⟨World.cell?_of_block h1,World.frozen?_of_block h1⟩
        have z0:=((hlo ⟨R,0,none⟩ (by show R<_; omega)).1).trans x0;have zb:=((hlo ⟨w.heap.size,0,none⟩ (by show w.heap.size<_; omega)).1).trans xb;have z4:=((hlo ⟨w.heap.size+2,4,none⟩ (by show w.heap.size+2<_; omega)).1).trans x4;have zf:=((hlo ⟨w.heap.size+2,4,none⟩ (by show w.heap.size+2<_; omega)).2).trans xf;clear hlo hz hz2;clear hown8 hg8;dsimp only)))
    all_goals
     clear KT c0 cb q0 q1 q2 q3 q4 q5 qf4 x0 xb x4 xf a4 z0 zb z4 zf O6 S6 Z6;go_wp2_with fail
     go_roundw
     case rel =>
      refine⟨j+1,A8,k8,by omega,by go_num, ?_⟩;show BS cg w _ R T (itS (txtS 24) (j+1) s3).2 id v n o A8 (j+1) k8 none 0 0 (itS (txtS 24) (j+1) s3).1 [];rw [HJ.out.1,HJ.out.2];exact B7.out
     case measure=>simp [intOf]; omega
  · obtain rfl:c=j:=by omega
    obtain⟨ws,hws⟩ : ∃ ws,ws=(itS (txtS 24) c s3).1:=⟨_,rfl⟩;rw [<- HS4.out,<- hws] at B5;have HWS:=H_ hws;rw [<- hws];clear hws HS4;have KK:=H_ (K5.out wr B5.out.rd);have b0:=B5.out.rb.cells.1;go_wp2_with (go_at_call 218; go_loud (
     refine KK.out.mono ?_;rintro e w6 ⟨rfl,hr,hf⟩;have B6:=H_ (B5.out.keep hf hr);clear hr hf b0))
    clear B5 KK;go_loopw [45] (fun s40 wr=>∃ (i:Nat) (MA:Option Addr) (mcc:Nat) (rs:List Raw),i<=e/\s40 = .int .i64 i/\Hid (BS cg w wr R T (itS (msgS cg id) i s5).2 id v n o WA c wc MA i mcc ws rs)/\Hid (rs.map Raw.m=(itS (msgS cg id) i s5).1)) (fun s40 _=>e-(intOf s40).toNat)
    case atStart=>exact⟨0,none,0,[],Nat.zero_le _,rfl,B6.out,rfl⟩
    case round =>
     clear B6 hsz;obtain⟨i,MA,mcc,rs,hi,rfl,B6,HR⟩:=hrel;have hsz:=B6.out.size;by_cases hlt2:i<e
     · obtain⟨b0,b1,b2⟩:=B6.out.rb.cells
       obtain⟨q0,q1,q2,q3,q4,q5,qf⟩:=B6.out.cells;have qf5:=qf 5;clear qf;have KM:=H_ (fun (w':World) (hb:Below wr.heap.size wr w')=>msg_any (cg:=cg) (id:=id) (B6.out.rd.go hb) (HT.out.go (B6.out.fr.trans (Fr2.below hb R T))) hid);obtain⟨m,hm⟩ : ∃ m,m=(msgS cg id (itS (msgS cg id) i s5).2).1:=⟨_,rfl⟩;obtain⟨s',hs'⟩ : ∃ s',s'=(msgS cg id (itS (msgS cg id) i s5).2).2:=⟨_,rfl⟩;rw [<- hm,<- hs'] at KM;have HJ:=H_ (show (itS (msgS cg id) (i+1) s5).1=(itS (msgS cg id) i s5).1++[m]/\(itS (msgS cg id) (i+1) s5).2=s' by rw [hm,hs']; exact⟨rfl,rfl⟩);clear hm hs';obtain⟨kl,hkl⟩ : ∃ kl,kl=m.keys.length:=⟨_,rfl⟩;have HKL:=H_ hkl;clear hkl;go_upto_region 11 with fail
       go_region_law (first
        | (go_simp; go_at_call 219
           ((with_reducible refine (KM.out _ ?d1).mono ?_); rotate_left)
           case d1=>first | exact Below.refl _ _ | exact (Below.refl _ _).drew
           go_loud (
           rintro e w7 ⟨K7,k7,rfl,hown,hr,hf⟩;rw [<- HKL.out] at hown ⊢;have B7:=H_ (show BS cg w w7 R T s' id v n o WA c wc MA i mcc ws rs by first | exact B6.out.keep hf hr | exact (B6.out.go ((Below.refl _ _).drew)).keep hf hr);have HK7:=H_ (own_base hown (show w.heap.size+3<=_ by first | exact hsz | (show w.heap.size+3<=wr.heap.size; exact hsz)));obtain⟨y0,y1,y2⟩:=B7.out.rb.cells;have x5:=B7.out.cells.2.2.2.2.2.1;have xf:=B7.out.cells.2.2.2.2.2.2 5;have a5:(w7.alloc (.cells #[.int .i64 m.uid,.int .i64 m.mod,.int .i64 m.date,.string m.id,.int .i64 m.flags,.slice K7 kl k7,.string m.text] 61)).cell? ⟨w.heap.size+2,5,none⟩ = some (.slice MA i mcc):=(World.cell?_of_block (heap_alloc_old w7 _ (by have:=B7.out.size; show w.heap.size+2<_; omega))).trans x5;have O7:=H_ (B7.out.om.alloc (.cells #[.int .i64 m.uid,.int .i64 m.mod,.int .i64 m.date,.string m.id,.int .i64 m.flags,.slice K7 kl k7,.string m.text] 61));have S7:=H_ (src_new w7 #[.int .i64 m.uid,.int .i64 m.mod,.int .i64 m.date,.string m.id,.int .i64 m.flags,.slice K7 kl k7,.string m.text] 61 (b:=w7.heap.size) (m:=1) (sz:=7) rfl rfl (by intro u hu; simp at hu; rcases hu with h | h | h | h | h | h | h <;> (subst h; rfl)));have Z7:=H_ (show w.heap.size+3<=(w7.alloc (.cells #[.int .i64 m.uid,.int .i64 m.mod,.int .i64 m.date,.string m.id,.int .i64 m.flags,.slice K7 kl k7,.string m.text] 61)).heap.size by have:=B7.out.size; simp; omega);clear hr hf hown;dsimp only))
        | (go_loud (
           refine step_rows elM (c:=1) rfl (.tmp 48) (.tmp 52) rfl (by simp [Act.eval]) (by simp [Act.eval]) O7.out S7.out (by unfold maxLen; omega) (by omega) Z7.out ?_;intro v8 w8 hown8 hg8 _;obtain⟨A8,k8,rfl,hk8⟩:=own_slice hown8;have B8:=H_ ((B7.out.go ((Below.refl _ _).alloc lr_ (.cells #[.int .i64 m.uid,.int .i64 m.mod,.int .i64 m.date,.string m.id,.int .i64 m.flags,.slice K7 kl k7,.string m.text] 61))).msg (r:=⟨m,K7,k7⟩) (by rw [<- HKL.out]; exact HK7.out.alloc _) (by rw [mc_append]; unfold mc cell7; simp only [List.flatMap_cons,List.flatMap_nil,List.append_nil]; rw [<- HKL.out]; exact hown8) hg8);have hz2:=B7.out.size;have hlo : ∀ p:Addr,p.block<w.heap.size+3->w8.cell? p=w7.cell? p/\w8.frozen? p=w7.frozen? p:=fun p hp=>by
            have h1:w8.heap[p.block]? = w7.heap[p.block]?:=(hg8.block p.block (by simp; omega) (fun e2=>by have:=(O7.out.lt _ e2.symm).1; omega)).trans (heap_alloc_old w7 _ (by omega));exact⟨World.cell?_of_block h1,World.frozen?_of_block h1⟩
           have zb0:=((hlo ⟨w.heap.size,0,none⟩ (by show w.heap.size<_; omega)).1).trans y0;have zb1:=((hlo ⟨w.heap.size,1,none⟩ (by show w.heap.size<_; omega)).1).trans y1;have zb2:=((hlo ⟨w.heap.size,2,none⟩ (by show w.heap.size<_; omega)).1).trans y2;have z5:=((hlo ⟨w.heap.size+2,5,none⟩ (by show w.heap.size+2<_; omega)).1).trans x5;have zf:=((hlo ⟨w.heap.size+2,5,none⟩ (by show w.heap.size+2<_; omega)).2).trans xf;clear hlo hz2 hown8 hg8;dsimp only)))
       all_goals
        clear KM b0 b1 b2 y0 y1 y2 zb0 zb1 zb2 q0 q1 q2 q3 q4 q5 qf5 x5 xf a5 z5 zf O7 S7 Z7;go_wp2_with fail
        go_roundw
        case rel =>
         refine⟨i+1,A8,k8,rs++[⟨m,K7,k7⟩],by omega,by go_num, ?_, ?_⟩
         · show BS cg w _ R T (itS (msgS cg id) (i+1) s5).2 id v n o WA c wc A8 (i+1) k8 ws (rs++[⟨m,K7,k7⟩])
           rw [HJ.out.2];exact B8.out
         · show (rs++[(⟨m,K7,k7⟩:Raw)]).map Raw.m=_
           rw [HJ.out.1,List.map_append,HR.out];rfl
        case measure=>simp [intOf]; omega
     · obtain rfl:e=i:=by omega
       obtain⟨q0,q1,q2,q3,q4,q5,_⟩:=B6.out.cells;obtain⟨z0,z1,z2,z3,z4,z5,zf⟩:=zcells6 B6.out.res;have f0:=zf 0;have f1:=zf 1;have f2:=zf 2;have f3:=zf 3;have f4:=zf 4;have f5:=zf 5;clear zf;go_wp2_with fail
       obtain⟨W,hW,p0,p1,p2,p3,p4,p5,hWg⟩:=ret6 B6.out.res (.string id) (.int .i64 (v:Nat)) (.int .i64 (n:Nat)) (.int .i64 (o:Nat)) (.slice WA c wc) (.slice MA e mcc);rw [<- hW];refine bodyPost_ret (v:=.agg #[.string id,.int .i64 (v:Nat),.int .i64 (n:Nat),.int .i64 (o:Nat),.slice WA c wc,.slice MA e mcc]) (by simp [results,Tryz.results196,go_sem,p0,p1,p2,p3,p4,p5]) rfl ?_;have hR2:=B6.out.hR;have hT2:=B6.out.hT;obtain rfl:=HWS.out;have hlw:(itS (txtS 24) c s3).1.length=c:=OlS.it_len _ _ _;have hlm:(itS (msgS cg id) e s5).1.length=e:=OlS.it_len _ _ _;have own : ∀ {ty sz k:Nat} {x:Value} {xs:List Value},wr.ownsRow (w.heap.size+3) ty sz x k xs->W.ownsRow w.heap.size ty sz x k xs:=fun {_ _ _ _ _} ho =>
        own_base (ho.kept hWg (.inr (fun e2=>by have:=(ho.lt _ e2).1; omega))) (by omega)
       refine⟨WA,wc,MA,mcc,rs, ?_, ?_, ?_,HR.out,fun r hr=>own (B6.out.ko r hr), ?_, ?_⟩
       · show _=Ending.returned (.agg #[.string id,.int .i64 (v:Nat),.int .i64 (n:Nat),.int .i64 (o:Nat),.slice WA (itS (txtS 24) c s3).1.length wc,.slice MA (itS (msgS cg id) e s5).1.length mcc])
         rw [hlw,hlm]
       · show W.ownsRow w.heap.size 9 1 (.slice WA (itS (txtS 24) c s3).1.length wc) (itS (txtS 24) c s3).1.length ((itS (txtS 24) c s3).1.map Value.string)
         rw [hlw];exact own B6.out.ow
       · show W.ownsRow w.heap.size 61 7 (.slice MA (itS (msgS cg id) e s5).1.length mcc) (itS (msgS cg id) e s5).1.length (mc rs)
         rw [hlm];exact own B6.out.om
       · exact⟨(hWg.block R (by omega) (fun e=>by have:R=w.heap.size+1:=Option.some.inj e; omega)).trans B6.out.rd.blk,B6.out.rd.rd.below (B:=T+1) ⟨hWg.os,hWg.tape,hWg.output,hWg.size,fun k hk=>hWg.block k (by omega) (fun e=>by have:k=w.heap.size+1:=Option.some.inj e; omega)⟩ (Nat.lt_succ_self _),B6.out.rd.ne⟩
       · exact⟨hWg.os.trans B6.out.fr.os,hWg.tape.trans B6.out.fr.tape,hWg.output.trans B6.out.fr.output,Nat.le_trans B6.out.fr.size hWg.size,fun k hk h1 h2=>(hWg.block k (by omega) (fun e=>by have:k=w.heap.size+1:=Option.some.inj e; omega)).trans (B6.out.fr.block k hk h1 h2)⟩
end Go.Proofs.YtoljpfapphoflaaGreatDoor.OlV
