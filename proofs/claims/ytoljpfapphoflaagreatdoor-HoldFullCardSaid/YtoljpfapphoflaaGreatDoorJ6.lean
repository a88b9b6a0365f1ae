/-
  RpR + RpM + RpW
-/
import Derived.Test.YtoljpfapphoflaaGreatDoorZ5
import Derived.Test.YtoljpfapphoflaaGreatDoorL2
set_option linter.unusedVariables false
set_option linter.unusedSimpArgs false
set_option maxHeartbeats 2000000
set_option maxRecDepth 100000
namespace Go.Proofs.YtoljpfapphoflaaGreatDoor.RpR
open Go.RowKit BxD PkKit PkF BxR OlD PtD PtK PtR RpD
def RBk (w:World) (P R:Nat):Prop:=w.heap[P]? = some (.cells #[ptr R] 132 (0,0))
theorem RBk.cell {w:World} {P R:Nat} (h:RBk w P R):w.cell? { block:=P,off:=0 } = some (ptr R):=(cell_of_row w P 0 _ _ _ h).trans rfl
def KysOut (ks:List Int) (s:St) (w:World) (R T:Nat) (e:Ending) (w':World):Prop :=
 ∃ K c,e = .returned (.slice K ks.length c)∧ks.length≤64∧w'.ownsRow w.heap.size 3 1 (.slice K ks.length c) ks.length (ks.map (Value.int .i64))∧PRd w' R T s∧Fr2 R T w w'
theorem keys_r {w:World} {R T:Nat} {s:St} (h:PRd w R T s):Calls Tryz.prog 122 #[.agg #[ptr R]] w (KysOut (kyR s).1 (kyR s).2 w R T):=by
 have KN:=Lib.hid (number_p (h.alloc (.cells #[ptr R] 132)) 64)
 have hn64:=nt_le 64 s
 obtain⟨n,hn⟩ : ∃ n,n=(ntS 64 s).1:=⟨_,rfl⟩
 obtain⟨s1,hs1⟩ : ∃ s1,s1=(ntS 64 s).2:=⟨_,rfl⟩
 have hk:kyR s=itG kyF n s1:=by unfold kyR; rw [← hn,← hs1]
 rw [← hn] at hn64
 rw [← hn,← hs1] at KN
 rw [hk]
 unfold KysOut
 simp only [itG_len]
 have F0:=Lib.hid ((Fr2.refl R T w).alloc (.cells #[ptr R] 132))
 have B0:=Lib.hid (show RBk (w.alloc (.cells #[ptr R] 132)) w.heap.size R from heap_alloc_new w _)
 have hRl:=h.lt
 have hTl:=h.rd.lt
 clear h hn hs1 hk
 go_enter Tryz.func122,Tryz.ntmps122
 go_wp2_with (go_at_call 120; go_loud (
  refine KN.out.mono ?_
  rintro e w1 ⟨rfl,h1,f1⟩
  have H1:=Lib.hid h1
  have F1:=Lib.hid (F0.out.trans f1)
  have B1:=Lib.hid (show RBk w1 w.heap.size R from (f1.block _ (by simp) (by omega) (by omega)).trans B0.out)
  clear h1 f1))
 clear B0 F0 KN
 go_loopw [3,7] (fun s3 s7 wr=>∃ (K:Option Addr) (c j:Nat),s3 = .slice K j c∧j≤n∧s7 = .int .i64 j∧Hid (RBk wr w.heap.size R)∧Hid (PRd wr R T (itG kyF j s1).2)∧Hid (Fr2 R T w wr)∧Hid (wr.ownsRow w.heap.size 3 1 (.slice K j c) j ((itG kyF j s1).1.map (Value.int .i64)))) (fun _ s7 _=>n-(intOf s7).toNat)
 case atStart=>exact⟨none,0,0,rfl,Nat.zero_le _,rfl,B1.out,H1.out,F1.out,World.ownsRow_nil _ _ _ _⟩
 case round =>
  clear H1 F1 B1
  obtain⟨K,c,j,rfl,hj,rfl,B1,H1,G1,HO⟩:=hrel
  by_cases hlt:j<n
  · have KM:=Lib.hid (number_p H1.out 63)
    obtain⟨x,hx⟩ : ∃ x,x=(ntS 63 (itG kyF j s1).2).1:=⟨_,rfl⟩
    obtain⟨s2,hs2⟩ : ∃ s2,s2=(ntS 63 (itG kyF j s1).2).2:=⟨_,rfl⟩
    have HJ:=Lib.hid (show (itG kyF (j+1) s1).1=(itG kyF j s1).1++[((x:Nat):Int)]∧(itG kyF (j+1) s1).2=s2 by rw [hx,hs2]; exact⟨rfl,rfl⟩)
    rw [← hx,← hs2] at KM
    have q0:=B1.out.cell
    have hsz:=G1.out.size
    clear hx hs2
    go_wp2_with (first
     | (go_at_call 120; go_loud (
        refine KM.out.mono ?_
        rintro e w2 ⟨rfl,h2,g2⟩
        have H2:=Lib.hid h2
        have G2:=Lib.hid (G1.out.trans g2)
        have hPl:w.heap.size<wr.heap.size:=(Array.getElem?_eq_some_iff.1 B1.out).1
        have B2:=Lib.hid (show RBk w2 w.heap.size R from (g2.block _ hPl (by omega) (by omega)).trans B1.out)
        have HO2:=Lib.hid (Fr2.own g2 HO.out hRl hTl)
        have hsz2:=g2.size
        clear h2 g2 q0))
     | (at_builtin; go_loud (
        refine wpList_rows elI rfl _ _ rfl rfl rfl (HO2.out.alloc _) (src_new w2 #[.int .i64 ((x:Nat):Int)] 3 (m:=1) rfl rfl (by intro u hu; simp at hu; subst hu; rfl)) (by unfold maxLen; omega) (by omega) (by simp; omega) ?_
        intro v3 w3 hown3 hg3 _
        obtain⟨K3,k3,rfl,hk3⟩:=BxR.own_slice hown3
        have HO3:=Lib.hid (show w3.ownsRow w.heap.size 3 1 (.slice K3 (j+1) k3) (j+1) ((itG kyF (j+1) s1).1.map (Value.int .i64)) by rw [HJ.out.1,List.map_append]; exact hown3)
        have hlo : ∀ g,g<w.heap.size→w3.heap[g]? = w2.heap[g]?:=fun g hg=>(hg3.block g (by simp; omega) (fun e=>by have:=(HO2.out.lt g e.symm).1; omega)).trans (heap_alloc_old w2 _ (by omega))
        have F3:Below w.heap.size w2 w3:=((Below.refl w.heap.size w2).alloc (by omega) (.cells #[.int .i64 ((x:Nat):Int)] 3)).grown hg3 (by simp; omega) (fun g e=>(HO2.out.lt g e).1)
        have G3:=Lib.hid (show Fr2 R T w w3 from ⟨F3.os.trans G2.out.os,F3.tape.trans G2.out.tape,F3.output.trans G2.out.output,Nat.le_trans G2.out.size F3.size,fun k k1 k2 k3=>(hlo k k1).trans (G2.out.block k k1 k2 k3)⟩)
        have H3:=Lib.hid (show PRd w3 R T s2 from ⟨(hlo R hRl).trans H2.out.blk,H2.out.rd.below (B:=w.heap.size) F3 hTl,H2.out.ne⟩)
        have hPl2:w.heap.size<w2.heap.size:=(Array.getElem?_eq_some_iff.1 B2.out).1
        have B3:=Lib.hid (show RBk w3 w.heap.size R from ((hg3.block _ (by simp; omega) (fun e=>by
         have hc:=own_ne_blk HO2.out B2.out (by decide)
         exact hc e.symm)).trans (heap_alloc_old w2 _ hPl2)).trans B2.out)
        clear hown3 hg3 hlo F3)))
    go_roundw
    case rel=>exact⟨K3,k3,j+1,rfl,by omega,by go_num,B3,by rw [HJ.out.2]; exact H3,G3,HO3⟩
    case measure=>simp [intOf]; omega
  · obtain rfl:n=j:=by omega
    go_wp2_with fail
    go_ret
    exact⟨K,c,rfl,hn64,HO.out,H1.out,G1.out⟩
end Go.Proofs.YtoljpfapphoflaaGreatDoor.RpR

set_option maxHeartbeats 4000000
set_option maxRecDepth 100000
namespace Go.Proofs.YtoljpfapphoflaaGreatDoor.RpM
open Go.RowKit BxD PkKit PkF OlD PtD PtK PtR RpD RpR
structure NS (w wr:World) (R T:Nat) (s:St) (u md d:Int) (id:ByteArray) (fl:Int) (K:Option Addr) (kn kc:Nat) (tx:ByteArray):Prop where
 fr:Fr2 R T w wr
 rd:PRd wr R T s
 rb:RBk wr w.heap.size R
 res:wr.heap[w.heap.size+1]? = some (.cells zmsg 61 (0,0))
 blk:MBk wr (w.heap.size+2) u md d id fl K kn kc tx
 hR:R<w.heap.size
 hT:T<w.heap.size
section
variable {w wr w2 : World} {R T : Nat} {s s' : St} {u md d fl : Int} {id tx : ByteArray} {K : Option Addr} {kn kc : Nat}
theorem NS.size (h:NS w wr R T s u md d id fl K kn kc tx):w.heap.size+3≤wr.heap.size:=(Array.getElem?_eq_some_iff.1 h.blk).1
theorem NS.keep (h:NS w wr R T s u md d id fl K kn kc tx) (hg:Fr2 R T wr w2) (hr:PRd w2 R T s'):NS w w2 R T s' u md d id fl K kn kc tx:=by
 have h1:=h.size
 have h2:=h.hR
 have h3:=h.hT
 exact⟨h.fr.trans hg,hr,(hg.block _ (by omega) (by omega) (by omega)).trans h.rb,(hg.block _ (by omega) (by omega) (by omega)).trans h.res,(hg.block _ (by omega) (by omega) (by omega)).trans h.blk,h2,h3⟩
theorem NS.free (h:NS w wr R T s u md d id fl K kn kc tx) (i:Nat):wr.frozen? { block:=w.heap.size+2,off:=i } = false:=by have:=h.blk; unfold MBk at this; simp [World.frozen?,this]
theorem NS.set (h:NS w wr R T s u md d id fl K kn kc tx) (i:Nat) (v:Value) {u' md' d' fl':Int} {id' tx':ByteArray} {K':Option Addr} {kn' kc':Nat}
 (hv:(#[.int .i64 u,.int .i64 md,.int .i64 d,.string id,.int .i64 fl,.slice K kn kc,.string tx]:Array Value).setIfInBounds i v = #[.int .i64 u',.int .i64 md',.int .i64 d',.string id',.int .i64 fl',.slice K' kn' kc',.string tx']) :
 NS w (wr.setCell { block:=w.heap.size+2,off:=i } v) R T s u' md' d' id' fl' K' kn' kc' tx':=by
 have h2:=h.hR
 have h3:=h.hT
 refine⟨h.fr.set (by omega) _,h.rd.set (by omega) (by omega) _,(Below.heap_setCell _ _ _ _ (by show w.heap.size≠w.heap.size+2; omega)).trans h.rb,(Below.heap_setCell _ _ _ _ (by show w.heap.size+1≠w.heap.size+2; omega)).trans h.res, ?_,h2,h3⟩
 have:=h.blk
 unfold MBk at this ⊢
 rw [← hv]
 simp [World.setCell,Array.getElem?_modify,this]
theorem NS.start (h:PRd w R T s):NS w (((w.alloc (.cells #[ptr R] 132)).alloc (.cells zmsg 61)).alloc (.cells #[.int .i64 0,.int .i64 0,.int .i64 0,.string ⟨#[]⟩,.int .i64 0,.slice none 0 0,.string ⟨#[]⟩] 61)) R T s 0 0 0 ⟨#[]⟩ 0 none 0 0 ⟨#[]⟩:=by
 have e1:(w.alloc (.cells #[ptr R] 132)).heap.size=w.heap.size+1:=by simp
 have e2:((w.alloc (.cells #[ptr R] 132)).alloc (.cells zmsg 61)).heap.size=w.heap.size+2:=by simp
 refine⟨(((Fr2.refl R T w).alloc _).alloc _).alloc _,((h.alloc _).alloc _).alloc _,((heap_alloc_old _ _ (by rw [e2]; omega)).trans (heap_alloc_old _ _ (by rw [e1]; omega))).trans (heap_alloc_new w _),(heap_alloc_old _ _ (by rw [e2]; omega)).trans ?_, ?_,h.lt,h.rd.lt⟩
 · have:=heap_alloc_new (w.alloc (.cells #[ptr R] 132)) (.cells zmsg 61)
   rw [e1] at this
   exact this
 · have:=heap_alloc_new ((w.alloc (.cells #[ptr R] 132)).alloc (.cells zmsg 61)) (.cells #[.int .i64 0,.int .i64 0,.int .i64 0,.string ⟨#[]⟩,.int .i64 0,.slice none 0 0,.string ⟨#[]⟩] 61)
   rw [e2] at this
   exact this
end
def MsOut (m:Msg) (s:St) (w:World) (R T:Nat) (e:Ending) (w':World):Prop :=
 ∃ K c,e = .returned (.agg #[.int .i64 m.uid,.int .i64 m.mod,.int .i64 m.date,.string m.id,.int .i64 m.flags,.slice K m.keys.length c,.string m.text])∧w'.ownsRow w.heap.size 3 1 (.slice K m.keys.length c) m.keys.length (m.keys.map (Value.int .i64))∧PRd w' R T s∧Fr2 R T w w'
theorem msg_r {w:World} {R T:Nat} {s:St} (h:PRd w R T s):Calls Tryz.prog 121 #[.agg #[ptr R]] w (MsOut (msgR s).1 (msgR s).2 w R T):=by
 have m0:=NS.start h
 unfold zmsg at m0
 have M0:=Lib.hid m0
 obtain⟨s1,hs1⟩ : ∃ s1,s1=(ntS 1000000 s).2:=⟨_,rfl⟩
 obtain⟨u,hu⟩ : ∃ u,u=(ntS 1000000 s).1:=⟨_,rfl⟩
 obtain⟨s2,hs2⟩ : ∃ s2,s2=(ntS 1000000 s1).2:=⟨_,rfl⟩
 obtain⟨md,hmd⟩ : ∃ md,md=(ntS 1000000 s1).1:=⟨_,rfl⟩
 obtain⟨s3,hs3⟩ : ∃ s3,s3=(ntS 1000000 s2).2:=⟨_,rfl⟩
 obtain⟨d,hd⟩ : ∃ d,d=(ntS 1000000 s2).1:=⟨_,rfl⟩
 obtain⟨s4,hs4⟩ : ∃ s4,s4=(txtS 24 s3).2:=⟨_,rfl⟩
 obtain⟨id,hid⟩ : ∃ id,id=(txtS 24 s3).1:=⟨_,rfl⟩
 obtain⟨s5,hs5⟩ : ∃ s5,s5=(ntS 1000000 s4).2:=⟨_,rfl⟩
 obtain⟨fl,hfl⟩ : ∃ fl,fl=(ntS 1000000 s4).1:=⟨_,rfl⟩
 obtain⟨s6,hs6⟩ : ∃ s6,s6=(kyR s5).2:=⟨_,rfl⟩
 obtain⟨ks,hks⟩ : ∃ ks,ks=(kyR s5).1:=⟨_,rfl⟩
 obtain⟨s7,hs7⟩ : ∃ s7,s7=(txtS 300 s6).2:=⟨_,rfl⟩
 obtain⟨tx,htx⟩ : ∃ tx,tx=(txtS 300 s6).1:=⟨_,rfl⟩
 have hms:msgR s=(⟨(u:Nat),(md:Nat),(d:Nat),id,(fl:Nat),ks,tx⟩,s7):=by
  unfold msgR
  simp only [← hs1,← hu,← hs2,← hmd,← hs3,← hd,← hs4,← hid,← hs5,← hfl,← hs6,← hks,← hs7,← htx]
 rw [hms]
 have K0:=Lib.hid (fun (wr:World) (g:PRd wr R T s)=>show Calls Tryz.prog 120 #[ptr R,.int .i64 1000000] wr (Pq wr R T (.int .i64 (u:Nat)) s1) from by rw [hu,hs1]; exact number_p g 1000000)
 have K1:=Lib.hid (fun (wr:World) (g:PRd wr R T s1)=>show Calls Tryz.prog 120 #[ptr R,.int .i64 1000000] wr (Pq wr R T (.int .i64 (md:Nat)) s2) from by rw [hmd,hs2]; exact number_p g 1000000)
 have K2:=Lib.hid (fun (wr:World) (g:PRd wr R T s2)=>show Calls Tryz.prog 120 #[ptr R,.int .i64 1000000] wr (Pq wr R T (.int .i64 (d:Nat)) s3) from by rw [hd,hs3]; exact number_p g 1000000)
 have K3:=Lib.hid (fun (wr:World) (g:PRd wr R T s3)=>show Calls Tryz.prog 123 #[ptr T,.int .i64 24] wr (Pq wr R T (.string id) s4) from by rw [hid,hs4]; exact text_p g 24)
 have K4:=Lib.hid (fun (wr:World) (g:PRd wr R T s4)=>show Calls Tryz.prog 120 #[ptr R,.int .i64 1000000] wr (Pq wr R T (.int .i64 (fl:Nat)) s5) from by rw [hfl,hs5]; exact number_p g 1000000)
 have K5:=Lib.hid (fun (wr:World) (g:PRd wr R T s5)=>show Calls Tryz.prog 122 #[.agg #[ptr R]] wr (KysOut ks s6 wr R T) from by rw [hks,hs6]; exact keys_r g)
 have K6:=Lib.hid (fun (wr:World) (g:PRd wr R T s6)=>show Calls Tryz.prog 123 #[ptr T,.int .i64 300] wr (Pq wr R T (.string tx) s7) from by rw [htx,hs7]; exact text_p g 300)
 clear h m0 hms hs1 hu hs2 hmd hs3 hd hs4 hid hs5 hfl hs6 hks hs7 htx
 go_enter Tryz.func121,Tryz.ntmps121
 go_upto_region 2 with fail
 generalize (World.alloc (World.alloc (World.alloc w _) _) _)=wa0 at M0 ⊢
 have KK:=Lib.hid (K0.out wa0 M0.out.rd)
 have b0:=M0.out.rb.cell
 go_upto_region 3 with (go_at_call 120; go_loud (
  refine KK.out.mono ?_
  rintro e wb0 ⟨rfl,hr,hf⟩
  have N0:=Lib.hid (M0.out.keep hf hr)
  have q0:=N0.out.blk.cells.1
  have q1:=N0.out.free 0
  clear hr hf b0))
 have M1:=Lib.hid (N0.out.set (u':=u) 0 (.int .i64 ((u:Nat))) rfl)
 clear M0 N0 KK q0 q1
 generalize (World.setCell wb0 _ _)=wa1 at M1 ⊢
 have KK:=Lib.hid (K1.out wa1 M1.out.rd)
 have b0:=M1.out.rb.cell
 go_upto_region 4 with (go_at_call 120; go_loud (
  refine KK.out.mono ?_
  rintro e wb1 ⟨rfl,hr,hf⟩
  have N1:=Lib.hid (M1.out.keep hf hr)
  have q0:=N1.out.blk.cells.2.1
  have q1:=N1.out.free 1
  clear hr hf b0))
 have M2:=Lib.hid (N1.out.set (md':=md) 1 (.int .i64 (md:Nat)) rfl)
 clear M1 N1 KK q0 q1
 generalize (World.setCell wb1 _ _)=wa2 at M2 ⊢
 have KK:=Lib.hid (K2.out wa2 M2.out.rd)
 have b0:=M2.out.rb.cell
 go_upto_region 5 with (go_at_call 120; go_loud (
  refine KK.out.mono ?_
  rintro e wb2 ⟨rfl,hr,hf⟩
  have N2:=Lib.hid (M2.out.keep hf hr)
  have q0:=N2.out.blk.cells.2.2.1
  have q1:=N2.out.free 2
  clear hr hf b0))
 have M3:=Lib.hid (N2.out.set (d':=d) 2 (.int .i64 (d:Nat)) rfl)
 clear M2 N2 KK q0 q1
 generalize (World.setCell wb2 _ _)=wa3 at M3 ⊢
 have KK:=Lib.hid (K3.out wa3 M3.out.rd)
 have b0:=M3.out.rb.cell
 have b1:=M3.out.rd.cells.1
 go_upto_region 6 with (go_at_call 123; go_loud (
  refine KK.out.mono ?_
  rintro e wb3 ⟨rfl,hr,hf⟩
  have N3:=Lib.hid (M3.out.keep hf hr)
  have q0:=N3.out.blk.cells.2.2.2.1
  have q1:=N3.out.free 3
  clear hr hf b0 b1))
 have M4:=Lib.hid (N3.out.set (id':=id) 3 (.string id) rfl)
 clear M3 N3 KK q0 q1
 generalize (World.setCell wb3 _ _)=wa4 at M4 ⊢
 have KK:=Lib.hid (K4.out wa4 M4.out.rd)
 have b0:=M4.out.rb.cell
 go_upto_region 7 with (go_at_call 120; go_loud (
  refine KK.out.mono ?_
  rintro e wb4 ⟨rfl,hr,hf⟩
  have N4:=Lib.hid (M4.out.keep hf hr)
  have q0:=N4.out.blk.cells.2.2.2.2.1
  have q1:=N4.out.free 4
  clear hr hf b0))
 have M5:=Lib.hid (N4.out.set (fl':=fl) 4 (.int .i64 (fl:Nat)) rfl)
 clear M4 N4 KK q0 q1
 generalize (World.setCell wb4 _ _)=wa5 at M5 ⊢
 have KK:=Lib.hid (K5.out wa5 M5.out.rd)
 have b0:=M5.out.rb.cell
 go_upto_region 8 with (go_at_call 122; go_loud (
  refine KK.out.mono ?_
  rintro e wb5 ⟨K,c,rfl,hk64,hown,hr,hf⟩
  have HO:=Lib.hid hown
  have N5:=Lib.hid (M5.out.keep hf hr)
  have q0:=N5.out.blk.cells.2.2.2.2.2.1
  have q1:=N5.out.free 5
  clear hr hf b0 hown))
 obtain⟨kl,hkl⟩ : ∃ kl,kl=ks.length:=⟨_,rfl⟩
 have HKL:=Lib.hid hkl
 have hsz:=M5.out.size
 have M6:=Lib.hid (N5.out.set (K':=K) (kn':=ks.length) (kc':=c) 5 (.slice K ks.length c) rfl)
 have HO2:=Lib.hid (ownsRow_setCell_below (BxC.own_base HO.out hsz) (a:={ block:=w.heap.size+2,off:=5 }) (by show w.heap.size+2<w.heap.size+3; omega) (.slice K ks.length c))
 rw [← hkl] at M6 HO2 ⊢
 clear M5 N5 KK HO hkl q0 q1
 generalize (World.setCell wb5 _ _)=wa6 at M6 HO2 ⊢
 have KK:=Lib.hid (K6.out wa6 M6.out.rd)
 have b0:=M6.out.rb.cell
 have b1:=M6.out.rd.cells.1
 go_upto_region 9 with (go_at_call 123; go_loud (
  refine KK.out.mono ?_
  rintro e wb6 ⟨rfl,hr,hf⟩
  have N6:=Lib.hid (M6.out.keep hf hr)
  have HOb:=Lib.hid (Fr2.own hf HO2.out (by have:=M6.out.hR; omega) (by have:=M6.out.hT; omega))
  have q0:=N6.out.blk.cells.2.2.2.2.2.2
  have q1:=N6.out.free 6
  clear hr hf b0 b1))
 have M7:=Lib.hid (N6.out.set (tx':=tx) 6 (.string tx) rfl)
 have HO6:=Lib.hid (ownsRow_setCell_below HOb.out (a:={ block:=w.heap.size+2,off:=6 }) (by show w.heap.size+2<w.heap.size+3; omega) (.string tx))
 clear M6 N6 KK q0 q1 HO2 HOb
 generalize (World.setCell wb6 _ _)=wa7 at M7 HO6 ⊢
 obtain⟨q0,q1,q2,q3,q4,q5,q6⟩:=M7.out.blk.cells
 obtain⟨z0,z1,z2,z3,z4,z5,z6,zf⟩:=zcells M7.out.res
 have f0:=zf 0
 have f1:=zf 1
 have f2:=zf 2
 have f3:=zf 3
 have f4:=zf 4
 have f5:=zf 5
 have f6:=zf 6
 clear zf
 go_wp2_with fail
 obtain⟨W,hW,p0,p1,p2,p3,p4,p5,p6,hWg⟩:=ret7 M7.out.res (.int .i64 ((u:Nat))) (.int .i64 (md:Nat)) (.int .i64 (d:Nat)) (.string id) (.int .i64 (fl:Nat)) (.slice K kl c) (.string tx)
 rw [← hW]
 refine bodyPost_ret (v:=.agg #[.int .i64 ((u:Nat)),.int .i64 (md:Nat),.int .i64 (d:Nat),.string id,.int .i64 (fl:Nat),.slice K kl c,.string tx]) (by simp [results,Tryz.results121,go_sem,p0,p1,p2,p3,p4,p5,p6]) rfl ?_
 obtain rfl:=HKL.out
 have hR2:=M7.out.hR
 have hT2:=M7.out.hT
 have hsw:=M7.out.size
 refine⟨K,c,rfl, ?_, ?_, ?_⟩
 · exact BxC.own_base (HO6.out.kept hWg (.inr (fun e=>by have:=(HO6.out.lt _ e).1; omega))) (by omega)
 · exact⟨(hWg.block R (by omega) (fun e=>by have:R=w.heap.size+1:=Option.some.inj e; omega)).trans M7.out.rd.blk,M7.out.rd.rd.below (B:=T+1) ⟨hWg.os,hWg.tape,hWg.output,hWg.size,fun k hk=>hWg.block k (by omega) (fun e=>by have:k=w.heap.size+1:=Option.some.inj e; omega)⟩ (Nat.lt_succ_self _),M7.out.rd.ne⟩
 · exact⟨hWg.os.trans M7.out.fr.os,hWg.tape.trans M7.out.fr.tape,hWg.output.trans M7.out.fr.output,Nat.le_trans M7.out.fr.size hWg.size,fun k hk h1 h2=>(hWg.block k (by omega) (fun e=>by have:k=w.heap.size+1:=Option.some.inj e; omega)).trans (M7.out.fr.block k hk h1 h2)⟩
end Go.Proofs.YtoljpfapphoflaaGreatDoor.RpM

set_option maxHeartbeats 8000000
set_option maxRecDepth 100000
namespace Go.Proofs.YtoljpfapphoflaaGreatDoor.RpW
open Go.RowKit BxD RwD PkKit PkF OlD PtD PtK PtR RpD RpR RpM
def zrow:Array Value:=#[.int .i64 0,.int .i64 0,.int .i64 0,.int .i64 0,.int .i64 0,.int .i64 0,.string ⟨#[]⟩,.int .i64 0,.slice none 0 0,.string ⟨#[]⟩,.string ⟨#[]⟩]
structure OS (w wr:World) (X R T:Nat) (s:St) (cs:Array Value):Prop where
 fr:Fr2 R T w wr
 rd:PRd wr R T s
 rb:RBk wr w.heap.size R
 res:wr.heap[w.heap.size+1]? = some (.cells zrow 63 (0,0))
 blk:wr.heap[X]? = some (.cells cs 63 (0,0))
 hX:w.heap.size+1<X
 hR:R<w.heap.size
 hT:T<w.heap.size
section
variable {w wr w2 : World} {X R T : Nat} {s s' : St} {cs cs' : Array Value}
theorem OS.size (h:OS w wr X R T s cs):X<wr.heap.size:=(Array.getElem?_eq_some_iff.1 h.blk).1
theorem OS.keep (h:OS w wr X R T s cs) (hg:Fr2 R T wr w2) (hr:PRd w2 R T s'):OS w w2 X R T s' cs:=by
 have h1:=h.size
 have h2:=h.hR
 have h3:=h.hT
 have h4:=h.hX
 exact⟨h.fr.trans hg,hr,(hg.block _ (by omega) (by omega) (by omega)).trans h.rb,(hg.block _ (by omega) (by omega) (by omega)).trans h.res,(hg.block _ (by omega) (by omega) (by omega)).trans h.blk,h4,h2,h3⟩
theorem OS.cell (h:OS w wr X R T s cs) (i:Nat):wr.cell? { block:=X,off:=i } = cs[i]?:=cell_of_row wr X i _ _ _ h.blk
theorem OS.free (h:OS w wr X R T s cs) (i:Nat):wr.frozen? { block:=X,off:=i } = false:=by simp [World.frozen?,h.blk]
theorem OS.set (h:OS w wr X R T s cs) (i:Nat) (v:Value) (hv:cs.setIfInBounds i v=cs'):OS w (wr.setCell { block:=X,off:=i } v) X R T s cs':=by
 have h2:=h.hR
 have h3:=h.hT
 have h4:=h.hX
 refine⟨h.fr.set (by omega) _,h.rd.set (by omega) (by omega) _,(Below.heap_setCell _ _ _ _ (by show w.heap.size≠X; omega)).trans h.rb,(Below.heap_setCell _ _ _ _ (by show w.heap.size+1≠X; omega)).trans h.res, ?_,h4,h2,h3⟩
 rw [← hv]
 simp [World.setCell,Array.getElem?_modify,h.blk]
end
theorem OS.eleven {w wr:World} {X R T:Nat} {s:St} {c0 c1 c2 c3 c4 c5 c6 c7 c8 c9 c10:Value} (h:OS w wr X R T s #[c0,c1,c2,c3,c4,c5,c6,c7,c8,c9,c10]):wr.cell? { block:=X,off:=0 } = some c0∧wr.cell? { block:=X,off:=1 } = some c1∧wr.cell? { block:=X,off:=2 } = some c2∧wr.cell? { block:=X,off:=3 } = some c3∧wr.cell? { block:=X,off:=4 } = some c4∧wr.cell? { block:=X,off:=5 } = some c5∧wr.cell? { block:=X,off:=6 } = some c6∧wr.cell? { block:=X,off:=7 } = some c7∧wr.cell? { block:=X,off:=8 } = some c8∧wr.cell? { block:=X,off:=9 } = some c9∧wr.cell? { block:=X,off:=10 } = some c10 :=
 ⟨(h.cell 0).trans rfl,(h.cell 1).trans rfl,(h.cell 2).trans rfl,(h.cell 3).trans rfl,(h.cell 4).trans rfl,(h.cell 5).trans rfl,(h.cell 6).trans rfl,(h.cell 7).trans rfl,(h.cell 8).trans rfl,(h.cell 9).trans rfl,(h.cell 10).trans rfl⟩
theorem zcells11 {wr:World} {P:Nat} (h:wr.heap[P]? = some (.cells zrow 63 (0,0))):wr.cell? { block:=P,off:=0 } = some (.int .i64 0)∧wr.cell? { block:=P,off:=1 } = some (.int .i64 0)∧wr.cell? { block:=P,off:=2 } = some (.int .i64 0)∧wr.cell? { block:=P,off:=3 } = some (.int .i64 0)∧wr.cell? { block:=P,off:=4 } = some (.int .i64 0)∧wr.cell? { block:=P,off:=5 } = some (.int .i64 0)∧wr.cell? { block:=P,off:=6 } = some (.string ⟨#[]⟩)∧wr.cell? { block:=P,off:=7 } = some (.int .i64 0)∧wr.cell? { block:=P,off:=8 } = some (.slice none 0 0)∧wr.cell? { block:=P,off:=9 } = some (.string ⟨#[]⟩)∧wr.cell? { block:=P,off:=10 } = some (.string ⟨#[]⟩)∧wr.frozen? { block:=P,off:=0 } = false∧wr.frozen? { block:=P,off:=1 } = false∧wr.frozen? { block:=P,off:=2 } = false∧wr.frozen? { block:=P,off:=3 } = false∧wr.frozen? { block:=P,off:=4 } = false∧wr.frozen? { block:=P,off:=5 } = false∧wr.frozen? { block:=P,off:=6 } = false∧wr.frozen? { block:=P,off:=7 } = false∧wr.frozen? { block:=P,off:=8 } = false∧wr.frozen? { block:=P,off:=9 } = false∧wr.frozen? { block:=P,off:=10 } = false:=by
 have c:=fun o=>cell_of_row _ P o _ _ _ h
 have f : ∀ i,wr.frozen? { block:=P,off:=i } = false:=fun i=>by simp [World.frozen?,h]
 exact⟨(c 0).trans rfl,(c 1).trans rfl,(c 2).trans rfl,(c 3).trans rfl,(c 4).trans rfl,(c 5).trans rfl,(c 6).trans rfl,(c 7).trans rfl,(c 8).trans rfl,(c 9).trans rfl,(c 10).trans rfl,f 0,f 1,f 2,f 3,f 4,f 5,f 6,f 7,f 8,f 9,f 10⟩
theorem OS.fin1 {w wr W:World} {X R T:Nat} {s:St} {cs:Array Value} (h:OS w wr X R T s cs) (hg:wr.grownBy W (some (w.heap.size+1))):PRd W R T s:=by
 have h1:=h.size
 have h2:=h.hR
 have h3:=h.hT
 have h4:=h.hX
 exact⟨(hg.block R (by omega) (fun e=>by have:R=w.heap.size+1:=Option.some.inj e; omega)).trans h.rd.blk,h.rd.rd.below (B:=T+1) ⟨hg.os,hg.tape,hg.output,hg.size,fun k hk=>hg.block k (by omega) (fun e=>by have:k=w.heap.size+1:=Option.some.inj e; omega)⟩ (Nat.lt_succ_self _),h.rd.ne⟩
theorem OS.fin2 {w wr W:World} {X R T:Nat} {s:St} {cs:Array Value} (h:OS w wr X R T s cs) (hg:wr.grownBy W (some (w.heap.size+1))):Fr2 R T w W:=by
 have h1:=h.size
 have h4:=h.hX
 exact⟨hg.os.trans h.fr.os,hg.tape.trans h.fr.tape,hg.output.trans h.fr.output,Nat.le_trans h.fr.size hg.size,fun k hk h1 h2=>(hg.block k (by omega) (fun e=>by have:k=w.heap.size+1:=Option.some.inj e; omega)).trans (h.fr.block k hk h1 h2)⟩
def RoOut (r:Row) (s:St) (w:World) (R T:Nat) (e:Ending) (w':World):Prop :=
 ∃ K c,e = .returned (.agg #[.int .i64 r.kind,.int .i64 r.uid,.int .i64 r.mod,.int .i64 r.msg.uid,.int .i64 r.msg.mod,.int .i64 r.msg.date,.string r.msg.id,.int .i64 r.msg.flags,.slice K r.msg.keys.length c,.string r.msg.text,.string r.text])∧w'.ownsRow w.heap.size 3 1 (.slice K r.msg.keys.length c) r.msg.keys.length (r.msg.keys.map (Value.int .i64))∧PRd w' R T s∧Fr2 R T w w'
theorem ret11 {wr:World} {P:Nat} (h:wr.heap[P]? = some (.cells zrow 63 (0,0))) (c0 c1 c2 c3 c4 c5 c6 c7 c8 c9 c10:Value) :
 ∃ W,W=(((((((((((wr.setCell { block:=P,off:=0 } c0).setCell { block:=P,off:=1 } c1).setCell { block:=P,off:=2 } c2).setCell { block:=P,off:=3 } c3).setCell { block:=P,off:=4 } c4).setCell { block:=P,off:=5 } c5).setCell { block:=P,off:=6 } c6).setCell { block:=P,off:=7 } c7).setCell { block:=P,off:=8 } c8).setCell { block:=P,off:=9 } c9).setCell { block:=P,off:=10 } c10)∧W.cell? { block:=P,off:=0 } = some c0∧W.cell? { block:=P,off:=1 } = some c1∧W.cell? { block:=P,off:=2 } = some c2∧W.cell? { block:=P,off:=3 } = some c3∧W.cell? { block:=P,off:=4 } = some c4∧W.cell? { block:=P,off:=5 } = some c5∧W.cell? { block:=P,off:=6 } = some c6∧W.cell? { block:=P,off:=7 } = some c7∧W.cell? { block:=P,off:=8 } = some c8∧W.cell? { block:=P,off:=9 } = some c9∧W.cell? { block:=P,off:=10 } = some c10∧wr.grownBy W (some P):=by
 refine⟨_,rfl, ?_⟩
 have hb:((((((((((((wr.setCell { block:=P,off:=0 } c0).setCell { block:=P,off:=1 } c1).setCell { block:=P,off:=2 } c2).setCell { block:=P,off:=3 } c3).setCell { block:=P,off:=4 } c4).setCell { block:=P,off:=5 } c5).setCell { block:=P,off:=6 } c6).setCell { block:=P,off:=7 } c7).setCell { block:=P,off:=8 } c8).setCell { block:=P,off:=9 } c9).setCell { block:=P,off:=10 } c10)).heap[P]? = some (.cells #[c0,c1,c2,c3,c4,c5,c6,c7,c8,c9,c10] 63 (0,0)):=by
  simp [World.setCell,Array.getElem?_modify,h,zrow]
 have c:=fun o=>cell_of_row _ P o _ _ _ hb
 exact⟨(c 0).trans rfl,(c 1).trans rfl,(c 2).trans rfl,(c 3).trans rfl,(c 4).trans rfl,(c 5).trans rfl,(c 6).trans rfl,(c 7).trans rfl,(c 8).trans rfl,(c 9).trans rfl,(c 10).trans rfl,PkF.grown_trans (PkF.grown_trans (PkF.grown_trans (PkF.grown_trans (PkF.grown_trans (PkF.grown_trans (PkF.grown_trans (PkF.grown_trans (PkF.grown_trans (PkF.grown_trans (PkF.grown_set c0) (PkF.grown_set c1)) (PkF.grown_set c2)) (PkF.grown_set c3)) (PkF.grown_set c4)) (PkF.grown_set c5)) (PkF.grown_set c6)) (PkF.grown_set c7)) (PkF.grown_set c8)) (PkF.grown_set c9)) (PkF.grown_set c10)⟩
theorem row_r {w:World} {R T:Nat} {s:St} (h:PRd w R T s):Calls Tryz.prog 89 #[.agg #[ptr R]] w (RoOut (roS s).1 (roS s).2 w R T):=by
 have hz0:((w.alloc (.cells #[ptr R] 132)).alloc (.cells zrow 63)).heap[w.heap.size+1]? = some (.cells zrow 63 (0,0)):=by
  have:=heap_alloc_new (w.alloc (.cells #[ptr R] 132)) (.cells zrow 63)
  rw [show (w.alloc (.cells #[ptr R] 132)).heap.size=w.heap.size+1 by simp] at this
  exact this
 have hb0:RBk ((w.alloc (.cells #[ptr R] 132)).alloc (.cells zrow 63)) w.heap.size R:=(heap_alloc_old _ _ (by simp)).trans (heap_alloc_new w _)
 have hr0:=(h.alloc (.cells #[ptr R] 132)).alloc (.cells zrow 63)
 have hf0:=((Fr2.refl R T w).alloc (.cells #[ptr R] 132)).alloc (.cells zrow 63)
 have hR:=h.lt
 have hT:=h.rd.lt
 have hsz0:((w.alloc (.cells #[ptr R] 132)).alloc (.cells zrow 63)).heap.size=w.heap.size+2:=by simp
 unfold zrow at hz0 hr0 hf0 hb0 hsz0
 have HZ0:=Lib.hid hz0
 have HR0:=Lib.hid hr0
 have HF0:=Lib.hid hf0
 have HB0:=Lib.hid hb0
 have HS0:=Lib.hid hsz0
 obtain⟨k,hk⟩ : ∃ k,k=(ntS 1000000 s).1:=⟨_,rfl⟩
 obtain⟨s1,hs1⟩ : ∃ s1,s1=(ntS 1000000 s).2:=⟨_,rfl⟩
 have HK:=Lib.hid hk
 have HS1:=Lib.hid hs1
 clear h hz0 hr0 hf0 hk hs1 hb0 hsz0
 go_enter Tryz.func89,Tryz.ntmps89
 go_upto_region 1 with fail
 generalize (World.alloc (World.alloc w _) _)=w0 at HZ0 HR0 HF0 HB0 HS0 ⊢
 have KK:=Lib.hid (show Calls Tryz.prog 120 #[ptr R,.int .i64 1000000] w0 (Pq w0 R T (.int .i64 (k:Nat)) s1) from by rw [HK.out,HS1.out]; exact number_p HR0.out 1000000)
 have b0:=HB0.out.cell
 go_upto_region 2 with (go_at_call 120; go_loud (
  refine KK.out.mono ?_
  rintro e w1 ⟨rfl,hr,hf⟩
  have HR1:=Lib.hid hr
  have HF1:=Lib.hid hf
  have B0:=Lib.hid (show OS w (w1.alloc (.cells #[.int .i64 (k:Nat),.int .i64 0,.int .i64 0,.int .i64 0,.int .i64 0,.int .i64 0,.string ⟨#[]⟩,.int .i64 0,.slice none 0 0,.string ⟨#[]⟩,.string ⟨#[]⟩] 63)) w1.heap.size R T s1 #[.int .i64 (k:Nat),.int .i64 0,.int .i64 0,.int .i64 0,.int .i64 0,.int .i64 0,.string ⟨#[]⟩,.int .i64 0,.slice none 0 0,.string ⟨#[]⟩,.string ⟨#[]⟩] from by
   have hs01:=hf.size
   have hs0:=HS0.out
   exact⟨(HF0.out.trans hf).alloc _,hr.alloc _,(heap_alloc_old _ _ (by omega)).trans ((hf.block _ (by omega) (by omega) (by omega)).trans HB0.out),(heap_alloc_old _ _ (by omega)).trans ((hf.block _ (by omega) (by omega) (by omega)).trans HZ0.out),heap_alloc_new w1 _,by omega,hR,hT⟩)
  clear hr hf b0))
 obtain⟨X,hX⟩ : ∃ X,X=w1.heap.size:=⟨_,rfl⟩
 rw [← hX] at B0 ⊢
 clear hX HR1 HF1 HZ0 HR0 HF0 HB0 HS0 KK
 have B1:=B0
 clear B0
 generalize (World.alloc w1 _)=wb at B1 ⊢
 have x0:=(B1.out.cell 0).trans (show _=some (Value.int .i64 (k:Nat)) from rfl)
 by_cases h4:k=4
 · subst h4
   obtain⟨tx,htx⟩ : ∃ tx,tx=(txtS 24 s1).1:=⟨_,rfl⟩
   obtain⟨t0,ht0⟩ : ∃ t0,t0=(txtS 24 s1).2:=⟨_,rfl⟩
   have hro:roS s=(⟨4,0,0,noM,tx⟩,t0):=by
    unfold roS
    simp only [← HK.out,← HS1.out,← htx,← ht0]
    rfl
   have K0:=Lib.hid (fun (wr:World) (g:PRd wr R T s1)=>show Calls Tryz.prog 123 #[ptr T,.int .i64 24] wr (Pq wr R T (.string tx) t0) from by rw [htx,ht0]; exact text_p g 24)
   have HRO:=Lib.hid hro
   clear hro htx ht0
   have KK:=Lib.hid (K0.out wb B1.out.rd)
   have b0:=B1.out.rb.cell
   have b1:=B1.out.rd.cells.1
   go_upto_region 22 with (go_at_call 123; go_loud (
    refine KK.out.mono ?_
    rintro e wc0 ⟨rfl,hr,hf⟩
    have C0:=Lib.hid (B1.out.keep hf hr)
    have q0:=(C0.out.cell 10).trans (show _=some (Value.string ⟨#[]⟩) from rfl)
    have g0:=C0.out.free 10
    clear hr hf b0 b1 x0))
   have D0:=Lib.hid (C0.out.set (cs':=#[.int .i64 4,.int .i64 0,.int .i64 0,.int .i64 0,.int .i64 0,.int .i64 0,.string ⟨#[]⟩,.int .i64 0,.slice none 0 0,.string ⟨#[]⟩,.string tx]) 10 (.string tx) rfl)
   clear KK B1 C0 q0 g0
   generalize (World.setCell wc0 _ _)=wd0 at D0 ⊢
   obtain⟨q0,q1,q2,q3,q4,q5,q6,q7,q8,q9,q10⟩:=D0.out.eleven
   obtain⟨z0,z1,z2,z3,z4,z5,z6,z7,z8,z9,z10,f0,f1,f2,f3,f4,f5,f6,f7,f8,f9,f10⟩:=zcells11 D0.out.res
   go_wp2_with fail
   obtain⟨W,hW,p0,p1,p2,p3,p4,p5,p6,p7,p8,p9,p10,hWg⟩:=ret11 D0.out.res (.int .i64 4) (.int .i64 0) (.int .i64 0) (.int .i64 0) (.int .i64 0) (.int .i64 0) (.string ⟨#[]⟩) (.int .i64 0) (.slice none 0 0) (.string ⟨#[]⟩) (.string tx)
   rw [← hW]
   refine bodyPost_ret (v:=.agg #[.int .i64 4,.int .i64 0,.int .i64 0,.int .i64 0,.int .i64 0,.int .i64 0,.string ⟨#[]⟩,.int .i64 0,.slice none 0 0,.string ⟨#[]⟩,.string tx]) (by simp [results,Tryz.results89,go_sem,p0,p1,p2,p3,p4,p5,p6,p7,p8,p9,p10]) rfl ?_
   have hR2:=D0.out.hR
   have hT2:=D0.out.hT
   have hsw:=D0.out.size
   have hsX:=D0.out.hX
   rw [HRO.out]
   refine⟨none,0,rfl,World.ownsRow_nil _ _ _ _, ?_, ?_⟩
   · exact D0.out.fin1 hWg
   · exact D0.out.fin2 hWg
 by_cases h5:k=5
 · subst h5
   obtain⟨ua,hua⟩ : ∃ ua,ua=(ntS 1000000 s1).1:=⟨_,rfl⟩
   obtain⟨t0,ht0⟩ : ∃ t0,t0=(ntS 1000000 s1).2:=⟨_,rfl⟩
   obtain⟨tx,htx⟩ : ∃ tx,tx=(txtS 24 t0).1:=⟨_,rfl⟩
   obtain⟨t1,ht1⟩ : ∃ t1,t1=(txtS 24 t0).2:=⟨_,rfl⟩
   have hro:roS s=(⟨5,(ua:Nat),0,noM,tx⟩,t1):=by
    unfold roS
    simp only [← HK.out,← HS1.out,← hua,← ht0,← htx,← ht1]
    rfl
   have K0:=Lib.hid (fun (wr:World) (g:PRd wr R T s1)=>show Calls Tryz.prog 120 #[ptr R,.int .i64 1000000] wr (Pq wr R T (.int .i64 (ua:Nat)) t0) from by rw [hua,ht0]; exact number_p g 1000000)
   have K1:=Lib.hid (fun (wr:World) (g:PRd wr R T t0)=>show Calls Tryz.prog 123 #[ptr T,.int .i64 24] wr (Pq wr R T (.string tx) t1) from by rw [htx,ht1]; exact text_p g 24)
   have HRO:=Lib.hid hro
   clear hro hua ht0 htx ht1
   have KK:=Lib.hid (K0.out wb B1.out.rd)
   have b0:=B1.out.rb.cell
   go_upto_region 19 with (go_at_call 120; go_loud (
    refine KK.out.mono ?_
    rintro e wc0 ⟨rfl,hr,hf⟩
    have C0:=Lib.hid (B1.out.keep hf hr)
    have q0:=(C0.out.cell 1).trans (show _=some (Value.int .i64 0) from rfl)
    have g0:=C0.out.free 1
    clear hr hf b0 x0))
   have D0:=Lib.hid (C0.out.set (cs':=#[.int .i64 5,.int .i64 (ua:Nat),.int .i64 0,.int .i64 0,.int .i64 0,.int .i64 0,.string ⟨#[]⟩,.int .i64 0,.slice none 0 0,.string ⟨#[]⟩,.string ⟨#[]⟩]) 1 (.int .i64 (ua:Nat)) rfl)
   clear KK B1 C0 q0 g0
   generalize (World.setCell wc0 _ _)=wd0 at D0 ⊢
   have KK:=Lib.hid (K1.out wd0 D0.out.rd)
   have b0:=D0.out.rb.cell
   have b1:=D0.out.rd.cells.1
   go_upto_region 22 with (go_at_call 123; go_loud (
    refine KK.out.mono ?_
    rintro e wc1 ⟨rfl,hr,hf⟩
    have C1:=Lib.hid (D0.out.keep hf hr)
    have q0:=(C1.out.cell 10).trans (show _=some (Value.string ⟨#[]⟩) from rfl)
    have g0:=C1.out.free 10
    clear hr hf b0 b1))
   have D1:=Lib.hid (C1.out.set (cs':=#[.int .i64 5,.int .i64 (ua:Nat),.int .i64 0,.int .i64 0,.int .i64 0,.int .i64 0,.string ⟨#[]⟩,.int .i64 0,.slice none 0 0,.string ⟨#[]⟩,.string tx]) 10 (.string tx) rfl)
   clear KK D0 C1 q0 g0
   generalize (World.setCell wc1 _ _)=wd1 at D1 ⊢
   obtain⟨q0,q1,q2,q3,q4,q5,q6,q7,q8,q9,q10⟩:=D1.out.eleven
   obtain⟨z0,z1,z2,z3,z4,z5,z6,z7,z8,z9,z10,f0,f1,f2,f3,f4,f5,f6,f7,f8,f9,f10⟩:=zcells11 D1.out.res
   go_wp2_with fail
   obtain⟨W,hW,p0,p1,p2,p3,p4,p5,p6,p7,p8,p9,p10,hWg⟩:=ret11 D1.out.res (.int .i64 5) (.int .i64 (ua:Nat)) (.int .i64 0) (.int .i64 0) (.int .i64 0) (.int .i64 0) (.string ⟨#[]⟩) (.int .i64 0) (.slice none 0 0) (.string ⟨#[]⟩) (.string tx)
   rw [← hW]
   refine bodyPost_ret (v:=.agg #[.int .i64 5,.int .i64 (ua:Nat),.int .i64 0,.int .i64 0,.int .i64 0,.int .i64 0,.string ⟨#[]⟩,.int .i64 0,.slice none 0 0,.string ⟨#[]⟩,.string tx]) (by simp [results,Tryz.results89,go_sem,p0,p1,p2,p3,p4,p5,p6,p7,p8,p9,p10]) rfl ?_
   have hR2:=D1.out.hR
   have hT2:=D1.out.hT
   have hsw:=D1.out.size
   have hsX:=D1.out.hX
   rw [HRO.out]
   refine⟨none,0,rfl,World.ownsRow_nil _ _ _ _, ?_, ?_⟩
   · exact D1.out.fin1 hWg
   · exact D1.out.fin2 hWg
 by_cases h7:k=7
 · subst h7
   obtain⟨ub,hub⟩ : ∃ ub,ub=(ntS 1000000 s1).1:=⟨_,rfl⟩
   obtain⟨t0,ht0⟩ : ∃ t0,t0=(ntS 1000000 s1).2:=⟨_,rfl⟩
   have hro:roS s=(⟨7,0,(ub:Nat),noM,nX⟩,t0):=by
    unfold roS
    simp only [← HK.out,← HS1.out,← hub,← ht0]
    rfl
   have K0:=Lib.hid (fun (wr:World) (g:PRd wr R T s1)=>show Calls Tryz.prog 120 #[ptr R,.int .i64 1000000] wr (Pq wr R T (.int .i64 (ub:Nat)) t0) from by rw [hub,ht0]; exact number_p g 1000000)
   have HRO:=Lib.hid hro
   clear hro hub ht0
   have KK:=Lib.hid (K0.out wb B1.out.rd)
   have b0:=B1.out.rb.cell
   go_upto_region 22 with (go_at_call 120; go_loud (
    refine KK.out.mono ?_
    rintro e wc0 ⟨rfl,hr,hf⟩
    have C0:=Lib.hid (B1.out.keep hf hr)
    have q0:=(C0.out.cell 2).trans (show _=some (Value.int .i64 0) from rfl)
    have g0:=C0.out.free 2
    clear hr hf b0 x0))
   have D0:=Lib.hid (C0.out.set (cs':=#[.int .i64 7,.int .i64 0,.int .i64 (ub:Nat),.int .i64 0,.int .i64 0,.int .i64 0,.string ⟨#[]⟩,.int .i64 0,.slice none 0 0,.string ⟨#[]⟩,.string ⟨#[]⟩]) 2 (.int .i64 (ub:Nat)) rfl)
   clear KK B1 C0 q0 g0
   generalize (World.setCell wc0 _ _)=wd0 at D0 ⊢
   obtain⟨q0,q1,q2,q3,q4,q5,q6,q7,q8,q9,q10⟩:=D0.out.eleven
   obtain⟨z0,z1,z2,z3,z4,z5,z6,z7,z8,z9,z10,f0,f1,f2,f3,f4,f5,f6,f7,f8,f9,f10⟩:=zcells11 D0.out.res
   go_wp2_with fail
   obtain⟨W,hW,p0,p1,p2,p3,p4,p5,p6,p7,p8,p9,p10,hWg⟩:=ret11 D0.out.res (.int .i64 7) (.int .i64 0) (.int .i64 (ub:Nat)) (.int .i64 0) (.int .i64 0) (.int .i64 0) (.string ⟨#[]⟩) (.int .i64 0) (.slice none 0 0) (.string ⟨#[]⟩) (.string ⟨#[]⟩)
   rw [← hW]
   refine bodyPost_ret (v:=.agg #[.int .i64 7,.int .i64 0,.int .i64 (ub:Nat),.int .i64 0,.int .i64 0,.int .i64 0,.string ⟨#[]⟩,.int .i64 0,.slice none 0 0,.string ⟨#[]⟩,.string ⟨#[]⟩]) (by simp [results,Tryz.results89,go_sem,p0,p1,p2,p3,p4,p5,p6,p7,p8,p9,p10]) rfl ?_
   have hR2:=D0.out.hR
   have hT2:=D0.out.hT
   have hsw:=D0.out.size
   have hsX:=D0.out.hX
   rw [HRO.out]
   refine⟨none,0,rfl,World.ownsRow_nil _ _ _ _, ?_, ?_⟩
   · exact D0.out.fin1 hWg
   · exact D0.out.fin2 hWg
 by_cases h3:k=3
 · subst h3
   obtain⟨ua,hua⟩ : ∃ ua,ua=(ntS 1000000 s1).1:=⟨_,rfl⟩
   obtain⟨t0,ht0⟩ : ∃ t0,t0=(ntS 1000000 s1).2:=⟨_,rfl⟩
   obtain⟨ub,hub⟩ : ∃ ub,ub=(ntS 1000000 t0).1:=⟨_,rfl⟩
   obtain⟨t1,ht1⟩ : ∃ t1,t1=(ntS 1000000 t0).2:=⟨_,rfl⟩
   have hro:roS s=(⟨3,(ua:Nat),(ub:Nat),noM,nX⟩,t1):=by
    unfold roS
    simp only [← HK.out,← HS1.out,← hua,← ht0,← hub,← ht1]
    rfl
   have K0:=Lib.hid (fun (wr:World) (g:PRd wr R T s1)=>show Calls Tryz.prog 120 #[ptr R,.int .i64 1000000] wr (Pq wr R T (.int .i64 (ua:Nat)) t0) from by rw [hua,ht0]; exact number_p g 1000000)
   have K1:=Lib.hid (fun (wr:World) (g:PRd wr R T t0)=>show Calls Tryz.prog 120 #[ptr R,.int .i64 1000000] wr (Pq wr R T (.int .i64 (ub:Nat)) t1) from by rw [hub,ht1]; exact number_p g 1000000)
   have HRO:=Lib.hid hro
   clear hro hua ht0 hub ht1
   have KK:=Lib.hid (K0.out wb B1.out.rd)
   have b0:=B1.out.rb.cell
   go_upto_region 14 with (go_at_call 120; go_loud (
    refine KK.out.mono ?_
    rintro e wc0 ⟨rfl,hr,hf⟩
    have C0:=Lib.hid (B1.out.keep hf hr)
    have q0:=(C0.out.cell 1).trans (show _=some (Value.int .i64 0) from rfl)
    have g0:=C0.out.free 1
    clear hr hf b0 x0))
   have D0:=Lib.hid (C0.out.set (cs':=#[.int .i64 3,.int .i64 (ua:Nat),.int .i64 0,.int .i64 0,.int .i64 0,.int .i64 0,.string ⟨#[]⟩,.int .i64 0,.slice none 0 0,.string ⟨#[]⟩,.string ⟨#[]⟩]) 1 (.int .i64 (ua:Nat)) rfl)
   clear KK B1 C0 q0 g0
   generalize (World.setCell wc0 _ _)=wd0 at D0 ⊢
   have KK:=Lib.hid (K1.out wd0 D0.out.rd)
   have b0:=D0.out.rb.cell
   go_upto_region 22 with (go_at_call 120; go_loud (
    refine KK.out.mono ?_
    rintro e wc1 ⟨rfl,hr,hf⟩
    have C1:=Lib.hid (D0.out.keep hf hr)
    have q0:=(C1.out.cell 2).trans (show _=some (Value.int .i64 0) from rfl)
    have g0:=C1.out.free 2
    clear hr hf b0))
   have D1:=Lib.hid (C1.out.set (cs':=#[.int .i64 3,.int .i64 (ua:Nat),.int .i64 (ub:Nat),.int .i64 0,.int .i64 0,.int .i64 0,.string ⟨#[]⟩,.int .i64 0,.slice none 0 0,.string ⟨#[]⟩,.string ⟨#[]⟩]) 2 (.int .i64 (ub:Nat)) rfl)
   clear KK D0 C1 q0 g0
   generalize (World.setCell wc1 _ _)=wd1 at D1 ⊢
   obtain⟨q0,q1,q2,q3,q4,q5,q6,q7,q8,q9,q10⟩:=D1.out.eleven
   obtain⟨z0,z1,z2,z3,z4,z5,z6,z7,z8,z9,z10,f0,f1,f2,f3,f4,f5,f6,f7,f8,f9,f10⟩:=zcells11 D1.out.res
   go_wp2_with fail
   obtain⟨W,hW,p0,p1,p2,p3,p4,p5,p6,p7,p8,p9,p10,hWg⟩:=ret11 D1.out.res (.int .i64 3) (.int .i64 (ua:Nat)) (.int .i64 (ub:Nat)) (.int .i64 0) (.int .i64 0) (.int .i64 0) (.string ⟨#[]⟩) (.int .i64 0) (.slice none 0 0) (.string ⟨#[]⟩) (.string ⟨#[]⟩)
   rw [← hW]
   refine bodyPost_ret (v:=.agg #[.int .i64 3,.int .i64 (ua:Nat),.int .i64 (ub:Nat),.int .i64 0,.int .i64 0,.int .i64 0,.string ⟨#[]⟩,.int .i64 0,.slice none 0 0,.string ⟨#[]⟩,.string ⟨#[]⟩]) (by simp [results,Tryz.results89,go_sem,p0,p1,p2,p3,p4,p5,p6,p7,p8,p9,p10]) rfl ?_
   have hR2:=D1.out.hR
   have hT2:=D1.out.hT
   have hsw:=D1.out.size
   have hsX:=D1.out.hX
   rw [HRO.out]
   refine⟨none,0,rfl,World.ownsRow_nil _ _ _ _, ?_, ?_⟩
   · exact D1.out.fin1 hWg
   · exact D1.out.fin2 hWg
 by_cases h6:k=6
 · subst h6
   obtain⟨ua,hua⟩ : ∃ ua,ua=(ntS 1000000 s1).1:=⟨_,rfl⟩
   obtain⟨t0,ht0⟩ : ∃ t0,t0=(ntS 1000000 s1).2:=⟨_,rfl⟩
   obtain⟨ub,hub⟩ : ∃ ub,ub=(ntS 1000000 t0).1:=⟨_,rfl⟩
   obtain⟨t1,ht1⟩ : ∃ t1,t1=(ntS 1000000 t0).2:=⟨_,rfl⟩
   have hro:roS s=(⟨6,(ua:Nat),(ub:Nat),noM,nX⟩,t1):=by
    unfold roS
    simp only [← HK.out,← HS1.out,← hua,← ht0,← hub,← ht1]
    rfl
   have K0:=Lib.hid (fun (wr:World) (g:PRd wr R T s1)=>show Calls Tryz.prog 120 #[ptr R,.int .i64 1000000] wr (Pq wr R T (.int .i64 (ua:Nat)) t0) from by rw [hua,ht0]; exact number_p g 1000000)
   have K1:=Lib.hid (fun (wr:World) (g:PRd wr R T t0)=>show Calls Tryz.prog 120 #[ptr R,.int .i64 1000000] wr (Pq wr R T (.int .i64 (ub:Nat)) t1) from by rw [hub,ht1]; exact number_p g 1000000)
   have HRO:=Lib.hid hro
   clear hro hua ht0 hub ht1
   have KK:=Lib.hid (K0.out wb B1.out.rd)
   have b0:=B1.out.rb.cell
   go_upto_region 14 with (go_at_call 120; go_loud (
    refine KK.out.mono ?_
    rintro e wc0 ⟨rfl,hr,hf⟩
    have C0:=Lib.hid (B1.out.keep hf hr)
    have q0:=(C0.out.cell 1).trans (show _=some (Value.int .i64 0) from rfl)
    have g0:=C0.out.free 1
    clear hr hf b0 x0))
   have D0:=Lib.hid (C0.out.set (cs':=#[.int .i64 6,.int .i64 (ua:Nat),.int .i64 0,.int .i64 0,.int .i64 0,.int .i64 0,.string ⟨#[]⟩,.int .i64 0,.slice none 0 0,.string ⟨#[]⟩,.string ⟨#[]⟩]) 1 (.int .i64 (ua:Nat)) rfl)
   clear KK B1 C0 q0 g0
   generalize (World.setCell wc0 _ _)=wd0 at D0 ⊢
   have KK:=Lib.hid (K1.out wd0 D0.out.rd)
   have b0:=D0.out.rb.cell
   go_upto_region 22 with (go_at_call 120; go_loud (
    refine KK.out.mono ?_
    rintro e wc1 ⟨rfl,hr,hf⟩
    have C1:=Lib.hid (D0.out.keep hf hr)
    have q0:=(C1.out.cell 2).trans (show _=some (Value.int .i64 0) from rfl)
    have g0:=C1.out.free 2
    clear hr hf b0))
   have D1:=Lib.hid (C1.out.set (cs':=#[.int .i64 6,.int .i64 (ua:Nat),.int .i64 (ub:Nat),.int .i64 0,.int .i64 0,.int .i64 0,.string ⟨#[]⟩,.int .i64 0,.slice none 0 0,.string ⟨#[]⟩,.string ⟨#[]⟩]) 2 (.int .i64 (ub:Nat)) rfl)
   clear KK D0 C1 q0 g0
   generalize (World.setCell wc1 _ _)=wd1 at D1 ⊢
   obtain⟨q0,q1,q2,q3,q4,q5,q6,q7,q8,q9,q10⟩:=D1.out.eleven
   obtain⟨z0,z1,z2,z3,z4,z5,z6,z7,z8,z9,z10,f0,f1,f2,f3,f4,f5,f6,f7,f8,f9,f10⟩:=zcells11 D1.out.res
   go_wp2_with fail
   obtain⟨W,hW,p0,p1,p2,p3,p4,p5,p6,p7,p8,p9,p10,hWg⟩:=ret11 D1.out.res (.int .i64 6) (.int .i64 (ua:Nat)) (.int .i64 (ub:Nat)) (.int .i64 0) (.int .i64 0) (.int .i64 0) (.string ⟨#[]⟩) (.int .i64 0) (.slice none 0 0) (.string ⟨#[]⟩) (.string ⟨#[]⟩)
   rw [← hW]
   refine bodyPost_ret (v:=.agg #[.int .i64 6,.int .i64 (ua:Nat),.int .i64 (ub:Nat),.int .i64 0,.int .i64 0,.int .i64 0,.string ⟨#[]⟩,.int .i64 0,.slice none 0 0,.string ⟨#[]⟩,.string ⟨#[]⟩]) (by simp [results,Tryz.results89,go_sem,p0,p1,p2,p3,p4,p5,p6,p7,p8,p9,p10]) rfl ?_
   have hR2:=D1.out.hR
   have hT2:=D1.out.hT
   have hsw:=D1.out.size
   have hsX:=D1.out.hX
   rw [HRO.out]
   refine⟨none,0,rfl,World.ownsRow_nil _ _ _ _, ?_, ?_⟩
   · exact D1.out.fin1 hWg
   · exact D1.out.fin2 hWg
 by_cases h2:k=2
 · subst h2
   obtain⟨ua,hua⟩ : ∃ ua,ua=(ntS 1000000 s1).1:=⟨_,rfl⟩
   obtain⟨t0,ht0⟩ : ∃ t0,t0=(ntS 1000000 s1).2:=⟨_,rfl⟩
   obtain⟨ub,hub⟩ : ∃ ub,ub=(ntS 1000000 t0).1:=⟨_,rfl⟩
   obtain⟨t1,ht1⟩ : ∃ t1,t1=(ntS 1000000 t0).2:=⟨_,rfl⟩
   obtain⟨uf,huf⟩ : ∃ uf,uf=(ntS 1000000 t1).1:=⟨_,rfl⟩
   obtain⟨t2,ht2⟩ : ∃ t2,t2=(ntS 1000000 t1).2:=⟨_,rfl⟩
   obtain⟨ks,hks⟩ : ∃ ks,ks=(kyR t2).1:=⟨_,rfl⟩
   obtain⟨t3,ht3⟩ : ∃ t3,t3=(kyR t2).2:=⟨_,rfl⟩
   have hro:roS s=(⟨2,(ua:Nat),(ub:Nat),⟨0,0,0,nX,(uf:Nat),ks,nX⟩,nX⟩,t3):=by
    unfold roS
    simp only [← HK.out,← HS1.out,← hua,← ht0,← hub,← ht1,← huf,← ht2,← hks,← ht3]
    rfl
   have K0:=Lib.hid (fun (wr:World) (g:PRd wr R T s1)=>show Calls Tryz.prog 120 #[ptr R,.int .i64 1000000] wr (Pq wr R T (.int .i64 (ua:Nat)) t0) from by rw [hua,ht0]; exact number_p g 1000000)
   have K1:=Lib.hid (fun (wr:World) (g:PRd wr R T t0)=>show Calls Tryz.prog 120 #[ptr R,.int .i64 1000000] wr (Pq wr R T (.int .i64 (ub:Nat)) t1) from by rw [hub,ht1]; exact number_p g 1000000)
   have K2:=Lib.hid (fun (wr:World) (g:PRd wr R T t1)=>show Calls Tryz.prog 120 #[ptr R,.int .i64 1000000] wr (Pq wr R T (.int .i64 (uf:Nat)) t2) from by rw [huf,ht2]; exact number_p g 1000000)
   have K3:=Lib.hid (fun (wr:World) (g:PRd wr R T t2)=>show Calls Tryz.prog 122 #[.agg #[ptr R]] wr (KysOut ks t3 wr R T) from by rw [hks,ht3]; exact keys_r g)
   have HRO:=Lib.hid hro
   clear hro hua ht0 hub ht1 huf ht2 hks ht3
   have KK:=Lib.hid (K0.out wb B1.out.rd)
   have b0:=B1.out.rb.cell
   go_upto_region 8 with (go_at_call 120; go_loud (
    refine KK.out.mono ?_
    rintro e wc0 ⟨rfl,hr,hf⟩
    have C0:=Lib.hid (B1.out.keep hf hr)
    have q0:=(C0.out.cell 1).trans (show _=some (Value.int .i64 0) from rfl)
    have g0:=C0.out.free 1
    clear hr hf b0 x0))
   have D0:=Lib.hid (C0.out.set (cs':=#[.int .i64 2,.int .i64 (ua:Nat),.int .i64 0,.int .i64 0,.int .i64 0,.int .i64 0,.string ⟨#[]⟩,.int .i64 0,.slice none 0 0,.string ⟨#[]⟩,.string ⟨#[]⟩]) 1 (.int .i64 (ua:Nat)) rfl)
   clear KK B1 C0 q0 g0
   generalize (World.setCell wc0 _ _)=wd0 at D0 ⊢
   have KK:=Lib.hid (K1.out wd0 D0.out.rd)
   have b0:=D0.out.rb.cell
   go_upto_region 9 with (go_at_call 120; go_loud (
    refine KK.out.mono ?_
    rintro e wc1 ⟨rfl,hr,hf⟩
    have C1:=Lib.hid (D0.out.keep hf hr)
    have q0:=(C1.out.cell 2).trans (show _=some (Value.int .i64 0) from rfl)
    have g0:=C1.out.free 2
    clear hr hf b0))
   have D1:=Lib.hid (C1.out.set (cs':=#[.int .i64 2,.int .i64 (ua:Nat),.int .i64 (ub:Nat),.int .i64 0,.int .i64 0,.int .i64 0,.string ⟨#[]⟩,.int .i64 0,.slice none 0 0,.string ⟨#[]⟩,.string ⟨#[]⟩]) 2 (.int .i64 (ub:Nat)) rfl)
   clear KK D0 C1 q0 g0
   generalize (World.setCell wc1 _ _)=wd1 at D1 ⊢
   have KK:=Lib.hid (K2.out wd1 D1.out.rd)
   have b0:=D1.out.rb.cell
   go_upto_region 10 with (go_at_call 120; go_loud (
    refine KK.out.mono ?_
    rintro e wc2 ⟨rfl,hr,hf⟩
    have C2:=Lib.hid (D1.out.keep hf hr)
    have q0:=(C2.out.cell 7).trans (show _=some (Value.int .i64 0) from rfl)
    have g0:=C2.out.free 7
    clear hr hf b0))
   have D2:=Lib.hid (C2.out.set (cs':=#[.int .i64 2,.int .i64 (ua:Nat),.int .i64 (ub:Nat),.int .i64 0,.int .i64 0,.int .i64 0,.string ⟨#[]⟩,.int .i64 (uf:Nat),.slice none 0 0,.string ⟨#[]⟩,.string ⟨#[]⟩]) 7 (.int .i64 (uf:Nat)) rfl)
   clear KK D1 C2 q0 g0
   generalize (World.setCell wc2 _ _)=wd2 at D2 ⊢
   obtain⟨kl,hkl⟩ : ∃ kl,kl=ks.length:=⟨_,rfl⟩
   have HKL:=Lib.hid hkl
   clear hkl
   have KK:=Lib.hid (K3.out wd2 D2.out.rd)
   have b0:=D2.out.rb.cell
   go_upto_region 22 with (go_at_call 122; go_loud (
    refine KK.out.mono ?_
    rintro e wc3 ⟨K,c,rfl,_,hown,hr,hf⟩
    rw [← HKL.out] at hown ⊢
    have HO:=Lib.hid hown
    have hXb:=D2.out.size
    have C3:=Lib.hid (D2.out.keep hf hr)
    have q0:=(C3.out.cell 8).trans (show _=some (Value.slice none 0 0) from rfl)
    have g0:=C3.out.free 8
    clear hr hf b0 hown))
   have D3:=Lib.hid (C3.out.set (cs':=#[.int .i64 2,.int .i64 (ua:Nat),.int .i64 (ub:Nat),.int .i64 0,.int .i64 0,.int .i64 0,.string ⟨#[]⟩,.int .i64 (uf:Nat),.slice K kl c,.string ⟨#[]⟩,.string ⟨#[]⟩]) 8 (.slice K kl c) rfl)
   have HO7:=Lib.hid (ownsRow_setCell_below HO.out (a:={ block:=X,off:=8 }) (by show X<wd2.heap.size; exact hXb) (.slice K kl c))
   have hwX:=D2.out.hX
   clear KK D2 C3 q0 g0 HO
   generalize (World.setCell wc3 _ _)=wd3 at D3 HO7 ⊢
   obtain⟨q0,q1,q2,q3,q4,q5,q6,q7,q8,q9,q10⟩:=D3.out.eleven
   obtain⟨z0,z1,z2,z3,z4,z5,z6,z7,z8,z9,z10,f0,f1,f2,f3,f4,f5,f6,f7,f8,f9,f10⟩:=zcells11 D3.out.res
   go_wp2_with fail
   obtain⟨W,hW,p0,p1,p2,p3,p4,p5,p6,p7,p8,p9,p10,hWg⟩:=ret11 D3.out.res (.int .i64 2) (.int .i64 (ua:Nat)) (.int .i64 (ub:Nat)) (.int .i64 0) (.int .i64 0) (.int .i64 0) (.string ⟨#[]⟩) (.int .i64 (uf:Nat)) (.slice K kl c) (.string ⟨#[]⟩) (.string ⟨#[]⟩)
   rw [← hW]
   refine bodyPost_ret (v:=.agg #[.int .i64 2,.int .i64 (ua:Nat),.int .i64 (ub:Nat),.int .i64 0,.int .i64 0,.int .i64 0,.string ⟨#[]⟩,.int .i64 (uf:Nat),.slice K kl c,.string ⟨#[]⟩,.string ⟨#[]⟩]) (by simp [results,Tryz.results89,go_sem,p0,p1,p2,p3,p4,p5,p6,p7,p8,p9,p10]) rfl ?_
   obtain rfl:=HKL.out
   have hR2:=D3.out.hR
   have hT2:=D3.out.hT
   have hsw:=D3.out.size
   have hsX:=D3.out.hX
   rw [HRO.out]
   refine⟨K,c,rfl,BxC.own_base (HO7.out.kept hWg (.inr (fun e=>by have:=(HO7.out.lt _ e).1; omega))) (by omega), ?_, ?_⟩
   · exact D3.out.fin1 hWg
   · exact D3.out.fin2 hWg
 by_cases h1:k=1
 · subst h1
   obtain⟨m,hm⟩ : ∃ m,m=(msgR s1).1:=⟨_,rfl⟩
   obtain⟨t0,ht0⟩ : ∃ t0,t0=(msgR s1).2:=⟨_,rfl⟩
   have hro:roS s=(⟨1,0,0,m,nX⟩,t0):=by
    unfold roS
    simp only [← HK.out,← HS1.out,← hm,← ht0]
    rfl
   have KK:=Lib.hid (show Calls Tryz.prog 121 #[.agg #[ptr R]] wb (MsOut m t0 wb R T) from by rw [hm,ht0]; exact msg_r B1.out.rd)
   have HRO:=Lib.hid hro
   clear hro hm ht0
   obtain⟨kl,hkl⟩ : ∃ kl,kl=m.keys.length:=⟨_,rfl⟩
   have HKL:=Lib.hid hkl
   clear hkl
   have b0:=B1.out.rb.cell
   go_upto_region 22 with (go_at_call 121; go_loud (
    refine KK.out.mono ?_
    rintro e wc ⟨K,c,rfl,hown,hr,hf⟩
    rw [← HKL.out] at hown ⊢
    have HO:=Lib.hid hown
    have C0:=Lib.hid (B1.out.keep hf hr)
    have hXb:=B1.out.size
    have q3:=(C0.out.cell 3).trans (show _=some (Value.int .i64 0) from rfl)
    have g3:=C0.out.free 3
    have q4:=(C0.out.cell 4).trans (show _=some (Value.int .i64 0) from rfl)
    have g4:=C0.out.free 4
    have q5:=(C0.out.cell 5).trans (show _=some (Value.int .i64 0) from rfl)
    have g5:=C0.out.free 5
    have q6:=(C0.out.cell 6).trans (show _=some (Value.string ⟨#[]⟩) from rfl)
    have g6:=C0.out.free 6
    have q7:=(C0.out.cell 7).trans (show _=some (Value.int .i64 0) from rfl)
    have g7:=C0.out.free 7
    have q8:=(C0.out.cell 8).trans (show _=some (Value.slice none 0 0) from rfl)
    have g8:=C0.out.free 8
    have q9:=(C0.out.cell 9).trans (show _=some (Value.string ⟨#[]⟩) from rfl)
    have g9:=C0.out.free 9
    clear hr hf hown x0 b0))
   have D0:=Lib.hid (((((((C0.out.set (cs':=#[.int .i64 1,.int .i64 0,.int .i64 0,.int .i64 m.uid,.int .i64 0,.int .i64 0,.string ⟨#[]⟩,.int .i64 0,.slice none 0 0,.string ⟨#[]⟩,.string ⟨#[]⟩]) 3 (.int .i64 m.uid) rfl).set (cs':=#[.int .i64 1,.int .i64 0,.int .i64 0,.int .i64 m.uid,.int .i64 m.mod,.int .i64 0,.string ⟨#[]⟩,.int .i64 0,.slice none 0 0,.string ⟨#[]⟩,.string ⟨#[]⟩]) 4 (.int .i64 m.mod) rfl).set (cs':=#[.int .i64 1,.int .i64 0,.int .i64 0,.int .i64 m.uid,.int .i64 m.mod,.int .i64 m.date,.string ⟨#[]⟩,.int .i64 0,.slice none 0 0,.string ⟨#[]⟩,.string ⟨#[]⟩]) 5 (.int .i64 m.date) rfl).set (cs':=#[.int .i64 1,.int .i64 0,.int .i64 0,.int .i64 m.uid,.int .i64 m.mod,.int .i64 m.date,.string m.id,.int .i64 0,.slice none 0 0,.string ⟨#[]⟩,.string ⟨#[]⟩]) 6 (.string m.id) rfl).set (cs':=#[.int .i64 1,.int .i64 0,.int .i64 0,.int .i64 m.uid,.int .i64 m.mod,.int .i64 m.date,.string m.id,.int .i64 m.flags,.slice none 0 0,.string ⟨#[]⟩,.string ⟨#[]⟩]) 7 (.int .i64 m.flags) rfl).set (cs':=#[.int .i64 1,.int .i64 0,.int .i64 0,.int .i64 m.uid,.int .i64 m.mod,.int .i64 m.date,.string m.id,.int .i64 m.flags,.slice K kl c,.string ⟨#[]⟩,.string ⟨#[]⟩]) 8 (.slice K kl c) rfl).set (cs':=#[.int .i64 1,.int .i64 0,.int .i64 0,.int .i64 m.uid,.int .i64 m.mod,.int .i64 m.date,.string m.id,.int .i64 m.flags,.slice K kl c,.string m.text,.string ⟨#[]⟩]) 9 (.string m.text) rfl)
   have HO7:=Lib.hid (ownsRow_setCell_below (ownsRow_setCell_below (ownsRow_setCell_below (ownsRow_setCell_below (ownsRow_setCell_below (ownsRow_setCell_below (ownsRow_setCell_below HO.out (a:={ block:=X,off:=3 }) (by show X<wb.heap.size; exact hXb) (.int .i64 m.uid)) (a:={ block:=X,off:=4 }) (by show X<wb.heap.size; exact hXb) (.int .i64 m.mod)) (a:={ block:=X,off:=5 }) (by show X<wb.heap.size; exact hXb) (.int .i64 m.date)) (a:={ block:=X,off:=6 }) (by show X<wb.heap.size; exact hXb) (.string m.id)) (a:={ block:=X,off:=7 }) (by show X<wb.heap.size; exact hXb) (.int .i64 m.flags)) (a:={ block:=X,off:=8 }) (by show X<wb.heap.size; exact hXb) (.slice K kl c)) (a:={ block:=X,off:=9 }) (by show X<wb.heap.size; exact hXb) (.string m.text))
   clear C0 HO KK q3 g3 q4 g4 q5 g5 q6 g6 q7 g7 q8 g8 q9 g9
   generalize (World.setCell (World.setCell (World.setCell (World.setCell (World.setCell (World.setCell (World.setCell wc _ _) _ _) _ _) _ _) _ _) _ _) _ _)=wd at D0 HO7 ⊢
   have hwX:=B1.out.hX
   clear B1
   obtain⟨q0,q1,q2,q3,q4,q5,q6,q7,q8,q9,q10⟩:=D0.out.eleven
   obtain⟨z0,z1,z2,z3,z4,z5,z6,z7,z8,z9,z10,f0,f1,f2,f3,f4,f5,f6,f7,f8,f9,f10⟩:=zcells11 D0.out.res
   go_wp2_with fail
   obtain⟨W,hW,p0,p1,p2,p3,p4,p5,p6,p7,p8,p9,p10,hWg⟩:=ret11 D0.out.res (.int .i64 1) (.int .i64 0) (.int .i64 0) (.int .i64 m.uid) (.int .i64 m.mod) (.int .i64 m.date) (.string m.id) (.int .i64 m.flags) (.slice K kl c) (.string m.text) (.string ⟨#[]⟩)
   rw [← hW]
   refine bodyPost_ret (v:=.agg #[.int .i64 1,.int .i64 0,.int .i64 0,.int .i64 m.uid,.int .i64 m.mod,.int .i64 m.date,.string m.id,.int .i64 m.flags,.slice K kl c,.string m.text,.string ⟨#[]⟩]) (by simp [results,Tryz.results89,go_sem,p0,p1,p2,p3,p4,p5,p6,p7,p8,p9,p10]) rfl ?_
   obtain rfl:=HKL.out
   have hR2:=D0.out.hR
   have hT2:=D0.out.hT
   have hsw:=D0.out.size
   have hsX:=D0.out.hX
   rw [HRO.out]
   refine⟨K,c,rfl,BxC.own_base (HO7.out.kept hWg (.inr (fun e=>by have:=(HO7.out.lt _ e).1; omega))) (by omega), ?_, ?_⟩
   · exact D0.out.fin1 hWg
   · exact D0.out.fin2 hWg
 · have hro:roS s=(⟨(k:Nat),0,0,noM,nX⟩,rfS s1):=by
    unfold roS
    simp only [← HK.out,← HS1.out,if_neg h1,if_neg h2,if_neg h4,if_neg h5,if_neg h7,if_neg (show ¬ (k=3∨k=6) by omega)]
   have HRO:=Lib.hid hro
   have i1 : ¬ (k:Int)=1:=by omega
   have i2 : ¬ (k:Int)=2:=by omega
   have i3 : ¬ (k:Int)=3:=by omega
   have i4 : ¬ (k:Int)=4:=by omega
   have i5 : ¬ (k:Int)=5:=by omega
   have i6 : ¬ (k:Int)=6:=by omega
   have i7 : ¬ (k:Int)=7:=by omega
   clear hro h1 h2 h3 h4 h5 h6 h7
   have KK:=Lib.hid (refuse_p B1.out.rd)
   have b0:=B1.out.rb.cell
   go_upto_region 22 with (go_at_call 124; go_loud (
    refine KK.out.mono ?_
    rintro e wc ⟨rfl,hr,hf⟩
    have C0:=Lib.hid (B1.out.keep hf hr)
    clear hr hf b0 x0))
   clear KK B1
   obtain⟨q0,q1,q2,q3,q4,q5,q6,q7,q8,q9,q10⟩:=C0.out.eleven
   obtain⟨z0,z1,z2,z3,z4,z5,z6,z7,z8,z9,z10,f0,f1,f2,f3,f4,f5,f6,f7,f8,f9,f10⟩:=zcells11 C0.out.res
   go_wp2_with fail
   obtain⟨W,hW,p0,p1,p2,p3,p4,p5,p6,p7,p8,p9,p10,hWg⟩:=ret11 C0.out.res (.int .i64 (k:Nat)) (.int .i64 0) (.int .i64 0) (.int .i64 0) (.int .i64 0) (.int .i64 0) (.string ⟨#[]⟩) (.int .i64 0) (.slice none 0 0) (.string ⟨#[]⟩) (.string ⟨#[]⟩)
   rw [← hW]
   refine bodyPost_ret (v:=.agg #[.int .i64 (k:Nat),.int .i64 0,.int .i64 0,.int .i64 0,.int .i64 0,.int .i64 0,.string ⟨#[]⟩,.int .i64 0,.slice none 0 0,.string ⟨#[]⟩,.string ⟨#[]⟩]) (by simp [results,Tryz.results89,go_sem,p0,p1,p2,p3,p4,p5,p6,p7,p8,p9,p10]) rfl ?_
   have hR2:=C0.out.hR
   have hT2:=C0.out.hT
   have hsw:=C0.out.size
   have hsX:=C0.out.hX
   rw [HRO.out]
   refine⟨none,0,rfl,World.ownsRow_nil _ _ _ _, ?_, ?_⟩
   · exact C0.out.fin1 hWg
   · exact C0.out.fin2 hWg
end Go.Proofs.YtoljpfapphoflaaGreatDoor.RpW
