/-
  F3R + F3M + F3U + F3V
-/
import Derived.Test.YtoljpfapphoflaaGreatDoorN3
import Derived.Test.YtoljpfapphoflaaGreatDoorL2
import Derived.Deep.RegionHeld3
import Derived.Deep.RegionLaw
set_option linter.unusedVariables false
set_option linter.unusedSimpArgs false
set_option maxHeartbeats 2000000
set_option maxRecDepth 100000
namespace Go.Proofs.YtoljpfapphoflaaGreatDoor.F3R
open Go.RowKit BxD PkKit PkF BxR OlD PtD PtK PtR F3D
theorem number_r {w:World} {R T:Nat} {s:St} (h:PRd w R T s):Calls Tryz.prog 198 #[.agg #[ptr R]] w (Pq w R T (.int .i64 ((ntS 1000000 s).1:Nat)) (ntS 1000000 s).2):=by
 have KN:=H_ (number_p (h.alloc (.cells #[ptr R] 192)) 1000000);have F0:=H_ ((Fr2.refl R T w).alloc (.cells #[ptr R] 192));clear h;go_enter Tryz.func198,Tryz.ntmps198;go_wp2_with (go_at_call 120; go_loud (
  refine KN.out.mono ?_;rintro e w1 ⟨rfl,h1,f1⟩;have H1:=H_ h1;have F1:=H_ (F0.out.trans f1);clear h1 f1))
 go_ret;exact⟨rfl,H1.out,F1.out⟩
def RBk (w:World) (P R:Nat):Prop:=w.heap[P]? = some (.cells #[ptr R] 192 (0,0))
theorem RBk.cell {w:World} {P R:Nat} (h:RBk w P R):w.cell? ⟨P,0,none⟩ = some (ptr R):=(cell_of_row w P 0 _ _ _ h).trans rfl
def KysOut (ks:List Int) (s:St) (w:World) (R T:Nat) (e:Ending) (w':World):Prop :=
 ∃ K c,e = .returned (.slice K ks.length c)/\ks.length<=64/\w'.ownsRow w.heap.size 3 1 (.slice K ks.length c) ks.length (ks.map (Value.int .i64))/\PRd w' R T s/\Fr2 R T w w'
theorem keys_r {w:World} {R T:Nat} {s:St} (h:PRd w R T s):Calls Tryz.prog 220 #[.agg #[ptr R]] w (KysOut (kyS3 s).1 (kyS3 s).2 w R T):=by
 have KN:=H_ (number_p (h.alloc (.cells #[ptr R] 192)) 64);have hn64:=nt_le 64 s;obtain⟨n,hn⟩ : ∃ n,n=(ntS 64 s).1:=⟨_,rfl⟩;obtain⟨s1,hs1⟩ : ∃ s1,s1=(ntS 64 s).2:=⟨_,rfl⟩;have hk:kyS3 s=((itG keyF n (s1,-1)).1,(itG keyF n (s1,-1)).2.1):=by unfold kyS3; rw [<- hn,<- hs1]
 rw [<- hn] at hn64;rw [<- hn,<- hs1] at KN;rw [hk];unfold KysOut;simp only [itG_len];have F0:=H_ ((Fr2.refl R T w).alloc (.cells #[ptr R] 192));have B0:=H_ (show RBk (w.alloc (.cells #[ptr R] 192)) w.heap.size R from heap_alloc_new w _);have hRl:=h.lt;have hTl:=h.rd.lt;clear h hn hs1 hk;go_enter Tryz.func220,Tryz.ntmps220;go_wp2_with (go_at_call 120; go_loud (
  refine KN.out.mono ?_;rintro e w1 ⟨rfl,h1,f1⟩;have H1:=H_ h1;have F1:=H_ (F0.out.trans f1);have B1:=H_ (show RBk w1 w.heap.size R from (f1.block _ (by simp) (by omega) (by omega)).trans B0.out);clear h1 f1))
 clear B0 F0 KN;go_loopw [3,4,8] (fun s3 s4 s8 wr=>∃ (K:Option Addr) (c j:Nat) (a:Int),s3 = .slice K j c/\j<=n/\s8 = .int .i64 j/\s4 = .int .i64 a/\(-1<=a/\a<=1000000*j)/\Hid (RBk wr w.heap.size R)/\Hid (PRd wr R T (itG keyF j (s1,-1)).2.1)/\Hid (a=(itG keyF j (s1,-1)).2.2)/\Hid (Fr2 R T w wr)/\Hid (wr.ownsRow w.heap.size 3 1 (.slice K j c) j ((itG keyF j (s1,-1)).1.map (Value.int .i64)))) (fun _ _ s8 _=>n-(intOf s8).toNat)
 case atStart=>exact⟨none,0,0,-1,rfl,Nat.zero_le _,rfl,rfl,by omega,B1.out,H1.out,rfl,F1.out,World.ownsRow_nil _ _ _ _⟩
 case round =>
  clear H1 F1 B1;obtain⟨K,c,j,a,rfl,hj,rfl,rfl,ha,B1,H1,HA,G1,HO⟩:=hrel;by_cases hlt:j<n
  · have KM:=H_ (number_r H1.out)
    have hx6:=nt_le 1000000 (itG keyF j (s1,-1)).2.1;obtain⟨x,hx⟩ : ∃ x,x=(ntS 1000000 (itG keyF j (s1,-1)).2.1).1:=⟨_,rfl⟩;obtain⟨s2,hs2⟩ : ∃ s2,s2=(ntS 1000000 (itG keyF j (s1,-1)).2.1).2:=⟨_,rfl⟩;have HJ:=H_ (show (itG keyF (j+1) (s1,-1)).1=(itG keyF j (s1,-1)).1++[a+((x:Nat):Int)]/\(itG keyF (j+1) (s1,-1)).2=(s2,a+((x:Nat):Int)) by rw [hx,hs2,HA.out]; exact⟨rfl,rfl⟩);rw [<- hx,<- hs2] at KM;rw [<- hx] at hx6;have hwa:IntKind.i64.wrap (a+(x:Int))=a+(x:Int):=by rw [IntKind.wrap_i64]; omega
    have q0:=B1.out.cell;have hsz:=G1.out.size;clear hx hs2;go_wp2_with (first
     | (go_at_call 198; go_loud (
        refine KM.out.mono ?_;rintro e w2 ⟨rfl,h2,g2⟩;have H2:=H_ h2;have G2:=H_ (G1.out.trans g2);have hPl:w.heap.size<wr.heap.size:=(gs_ B1.out).1;have B2:=H_ (show RBk w2 w.heap.size R from (g2.block _ hPl (by omega) (by omega)).trans B1.out);have HO2:=H_ (Fr2.own g2 HO.out hRl hTl);have hsz2:=g2.size;clear h2 g2 q0))
     | (at_builtin; go_loud (
        refine wpList_rows elI rfl _ _ rfl rfl rfl (HO2.out.alloc _) (src_new w2 #[.int .i64 (a+(x:Int))] 3 (m:=1) rfl rfl (by intro u hu; simp at hu; subst hu; rfl)) (by unfold maxLen; omega) (by omega) (by simp; omega) ?_;intro v3 w3 hown3 hg3 _;obtain⟨K3,k3,rfl,hk3⟩:=BxR.own_slice hown3;have HO3:=H_ (show w3.ownsRow w.heap.size 3 1 (.slice K3 (j+1) k3) (j+1) ((itG keyF (j+1) (s1,-1)).1.map (Value.int .i64)) by rw [HJ.out.1,List.map_append]; exact hown3);have hlo : ∀ g,g<w.heap.size->w3.heap[g]? = w2.heap[g]?:=fun g hg=>(hg3.block g (by simp; omega) (fun e=>by have:=(HO2.out.lt g e.symm).1; omega)).trans (heap_alloc_old w2 _ (by omega));have F3:Below w.heap.size w2 w3:=((Below.refl w.heap.size w2).alloc (by omega) (.cells #[.int .i64 (a+(x:Int))] 3)).grown hg3 (by simp; omega) (fun g e=>(HO2.out.lt g e).1);have G3:=H_ (show Fr2 R T w w3 from ⟨F3.os.trans G2.out.os,F3.tape.trans G2.out.tape,F3.output.trans G2.out.output,Nat.le_trans G2.out.size F3.size,fun k k1 k2 k3=>(hlo k k1).trans (G2.out.block k k1 k2 k3)⟩);have H3:=H_ (show PRd w3 R T s2 from ⟨(hlo R hRl).trans H2.out.blk,H2.out.rd.below (B:=w.heap.size) F3 hTl,H2.out.ne⟩);have hPl2:w.heap.size<w2.heap.size:=(gs_ B2.out).1;have B3:=H_ (show RBk w3 w.heap.size R from ((hg3.block _ (by simp; omega) (fun e=>by
         have hc:=own_ne_blk HO2.out B2.out (by decide);exact hc e.symm)).trans (heap_alloc_old w2 _ hPl2)).trans B2.out)
        clear hown3 hg3 hlo F3)))
    go_roundw
    case rel=>exact⟨K3,k3,j+1,a+(x:Int),rfl,by omega,by go_num,rfl,by omega,B3,by rw [HJ.out.2]; exact H3,by rw [HJ.out.2]; rfl,G3,HO3⟩
    case measure=>simp [intOf]; omega
  · obtain rfl:n=j:=by omega
    go_wp2_with fail
    go_ret;exact⟨K,c,rfl,hn64,HO.out,H1.out,G1.out⟩
end Go.Proofs.YtoljpfapphoflaaGreatDoor.F3R

set_option maxHeartbeats 4000000
set_option maxRecDepth 100000
namespace Go.Proofs.YtoljpfapphoflaaGreatDoor.F3M
open Go.RowKit BxD PkKit PkF OlD PtD PtK PtR F3D F3R
structure NS (w wr:World) (R T:Nat) (s:St) (u md d:Int) (id:ByteArray) (fl:Int) (K:Option Addr) (kn kc:Nat) (tx:ByteArray):Prop where
 fr:Fr2 R T w wr
 rd:PRd wr R T s
 rb:RBk wr w.heap.size R
 res:wr.heap[w.heap.size+1]? = some (.cells zmsg 61 (0,0))
 blk:MBk wr (w.heap.size+2) u md d id fl K kn kc tx
 hR:R<w.heap.size
 hT:T<w.heap.size
section
variable {w wr w2 : World} {R T : Nat} {s s' : St} {u md d fl : Int} {id tx : ByteArray} {K : Option Addr} {kn kc : Nat}
theorem NS.size (h:NS w wr R T s u md d id fl K kn kc tx):w.heap.size+3<=wr.heap.size:=(gs_ h.blk).1
theorem NS.keep (h:NS w wr R T s u md d id fl K kn kc tx) (hg:Fr2 R T wr w2) (hr:PRd w2 R T s'):NS w w2 R T s' u md d id fl K kn kc tx:=by
 have h1:=h.size;have h2:=h.hR;have h3:=h.hT;exact⟨h.fr.trans hg,hr,(hg.block _ (by omega) (by omega) (by omega)).trans h.rb,(hg.block _ (by omega) (by omega) (by omega)).trans h.res,(hg.block _ (by omega) (by omega) (by omega)).trans h.blk,h2,h3⟩
theorem NS.free (h:NS w wr R T s u md d id fl K kn kc tx) (i:Nat):wr.frozen? ⟨w.heap.size+2,i,none⟩ = false:=by have:=h.blk; unfold MBk at this; simp [World.frozen?,this]
theorem NS.set (h:NS w wr R T s u md d id fl K kn kc tx) (i:Nat) (v:Value) {u' md' d' fl':Int} {id' tx':ByteArray} {K':Option Addr} {kn' kc':Nat}
 (hv:(#[.int .i64 u,.int .i64 md,.int .i64 d,.string id,.int .i64 fl,.slice K kn kc,.string tx]:Array Value).setIfInBounds i v = #[.int .i64 u',.int .i64 md',.int .i64 d',.string id',.int .i64 fl',.slice K' kn' kc',.string tx']) :
 NS w (wr.setCell ⟨w.heap.size+2,i,none⟩ v) R T s u' md' d' id' fl' K' kn' kc' tx':=by
 have h2:=h.hR;have h3:=h.hT;refine⟨h.fr.set (by omega) _,h.rd.set (by omega) (by omega) _,(Below.heap_setCell _ _ _ _ (by show w.heap.size≠w.heap.size+2; omega)).trans h.rb,(Below.heap_setCell _ _ _ _ (by show w.heap.size+1≠w.heap.size+2; omega)).trans h.res, ?_,h2,h3⟩;have:=h.blk;unfold MBk at this ⊢;rw [<- hv];simp [World.setCell,Array.getElem?_modify,this]
theorem NS.start (h:PRd w R T s):NS w (((w.alloc (.cells #[ptr R] 192)).alloc (.cells zmsg 61)).alloc (.cells #[.int .i64 0,.int .i64 0,.int .i64 0,.string ⟨#[]⟩,.int .i64 0,.slice none 0 0,.string ⟨#[]⟩] 61)) R T s 0 0 0 ⟨#[]⟩ 0 none 0 0 ⟨#[]⟩:=by
 have e1:(w.alloc (.cells #[ptr R] 192)).heap.size=w.heap.size+1:=by simp
 have e2:((w.alloc (.cells #[ptr R] 192)).alloc (.cells zmsg 61)).heap.size=w.heap.size+2:=by simp
 refine⟨(((Fr2.refl R T w).alloc _).alloc _).alloc _,((h.alloc _).alloc _).alloc _,((heap_alloc_old _ _ (by rw [e2]; omega)).trans (heap_alloc_old _ _ (by rw [e1]; omega))).trans (heap_alloc_new w _),(heap_alloc_old _ _ (by rw [e2]; omega)).trans ?_, ?_,h.lt,h.rd.lt⟩
 · have:=heap_alloc_new (w.alloc (.cells #[ptr R] 192)) (.cells zmsg 61)
   rw [e1] at this;exact this
 · have:=heap_alloc_new ((w.alloc (.cells #[ptr R] 192)).alloc (.cells zmsg 61)) (.cells #[.int .i64 0,.int .i64 0,.int .i64 0,.string ⟨#[]⟩,.int .i64 0,.slice none 0 0,.string ⟨#[]⟩] 61)
   rw [e2] at this;exact this
end
def MsOut (m:Msg) (s:St) (w:World) (R T:Nat) (e:Ending) (w':World):Prop :=
 ∃ K c,e = .returned (.agg #[.int .i64 m.uid,.int .i64 m.mod,.int .i64 m.date,.string m.id,.int .i64 m.flags,.slice K m.keys.length c,.string m.text])/\w'.ownsRow w.heap.size 3 1 (.slice K m.keys.length c) m.keys.length (m.keys.map (Value.int .i64))/\PRd w' R T s/\Fr2 R T w w'
theorem msg_r {w:World} {R T:Nat} {s:St} {last:Int} (h:PRd w R T s) (hl : -1<=last/\last<=1000000000):Calls Tryz.prog 199 #[.agg #[ptr R],.int .i64 last] w (MsOut (msg3S last s).1 (msg3S last s).2 w R T):=by
 have m0:=NS.start h;unfold zmsg at m0;have M0:=H_ m0;obtain⟨s1,hs1⟩ : ∃ s1,s1=(ntS 1000000 s).2:=⟨_,rfl⟩;obtain⟨u,hu⟩ : ∃ u,u=(ntS 1000000 s).1:=⟨_,rfl⟩;obtain⟨s2,hs2⟩ : ∃ s2,s2=(ntS 1000000 s1).2:=⟨_,rfl⟩;obtain⟨md,hmd⟩ : ∃ md,md=(ntS 1000000 s1).1:=⟨_,rfl⟩;obtain⟨s3,hs3⟩ : ∃ s3,s3=(ntS 1000000 s2).2:=⟨_,rfl⟩;obtain⟨d,hd⟩ : ∃ d,d=(ntS 1000000 s2).1:=⟨_,rfl⟩;obtain⟨s4,hs4⟩ : ∃ s4,s4=(ntS 1000000 s3).2:=⟨_,rfl⟩;obtain⟨fl,hfl⟩ : ∃ fl,fl=(ntS 1000000 s3).1:=⟨_,rfl⟩;obtain⟨s5,hs5⟩ : ∃ s5,s5=(kyS3 s4).2:=⟨_,rfl⟩;obtain⟨ks,hks⟩ : ∃ ks,ks=(kyS3 s4).1:=⟨_,rfl⟩;obtain⟨s6,hs6⟩ : ∃ s6,s6=(txtS 24 s5).2:=⟨_,rfl⟩;obtain⟨id,hid⟩ : ∃ id,id=(txtS 24 s5).1:=⟨_,rfl⟩;obtain⟨s7,hs7⟩ : ∃ s7,s7=(txtS 300 s6).2:=⟨_,rfl⟩;obtain⟨tx,htx⟩ : ∃ tx,tx=(txtS 300 s6).1:=⟨_,rfl⟩;have hms:msg3S last s=(⟨last+(u:Nat),(md:Nat),(d:Nat),id,(fl:Nat),ks,tx⟩,s7):=by
  unfold msg3S;simp only [<- hs1,<- hu,<- hs2,<- hmd,<- hs3,<- hd,<- hs4,<- hfl,<- hs5,<- hks,<- hs6,<- hid,<- hs7,<- htx]
 rw [hms];have hu6:u<=1000000:=by rw [hu]; exact nt_le _ _
 have K0:=H_ (fun (wr:World) (g:PRd wr R T s)=>show Calls Tryz.prog 198 #[.agg #[ptr R]] wr (Pq wr R T (.int .i64 (u:Nat)) s1) from by rw [hu,hs1]; exact number_r g);have K1:=H_ (fun (wr:World) (g:PRd wr R T s1)=>show Calls Tryz.prog 198 #[.agg #[ptr R]] wr (Pq wr R T (.int .i64 (md:Nat)) s2) from by rw [hmd,hs2]; exact number_r g);have K2:=H_ (fun (wr:World) (g:PRd wr R T s2)=>show Calls Tryz.prog 198 #[.agg #[ptr R]] wr (Pq wr R T (.int .i64 (d:Nat)) s3) from by rw [hd,hs3]; exact number_r g);have K3:=H_ (fun (wr:World) (g:PRd wr R T s3)=>show Calls Tryz.prog 198 #[.agg #[ptr R]] wr (Pq wr R T (.int .i64 (fl:Nat)) s4) from by rw [hfl,hs4]; exact number_r g);have K4:=H_ (fun (wr:World) (g:PRd wr R T s4)=>show Calls Tryz.prog 220 #[.agg #[ptr R]] wr (KysOut ks s5 wr R T) from by rw [hks,hs5]; exact keys_r g);have K5:=H_ (fun (wr:World) (g:PRd wr R T s5)=>show Calls Tryz.prog 123 #[ptr T,.int .i64 24] wr (Pq wr R T (.string id) s6) from by rw [hid,hs6]; exact text_p g 24);have K6:=H_ (fun (wr:World) (g:PRd wr R T s6)=>show Calls Tryz.prog 123 #[ptr T,.int .i64 300] wr (Pq wr R T (.string tx) s7) from by rw [htx,hs7]; exact text_p g 300);have hwa:IntKind.i64.wrap (last+(u:Int))=last+(u:Int):=by rw [IntKind.wrap_i64]; omega
 clear h m0 hms hs1 hu hs2 hmd hs3 hd hs4 hfl hs5 hks hs6 hid hs7 htx;go_enter Tryz.func199,Tryz.ntmps199;go_upto_region 2 with fail
 generalize (World.alloc (World.alloc (World.alloc w _) _) _)=wa0 at M0 ⊢;have KK:=H_ (K0.out wa0 M0.out.rd);have b0:=M0.out.rb.cell;go_upto_region 3 with (go_at_call 198; go_loud (
  refine KK.out.mono ?_;rintro e wb0 ⟨rfl,hr,hf⟩;have N0:=H_ (M0.out.keep hf hr);have q0:=N0.out.blk.cells.1;have q1:=N0.out.free 0;clear hr hf b0))
 have M1:=H_ (N0.out.set (u':=last+(u:Int)) 0 (.int .i64 (last+(u:Int))) rfl);clear M0 N0 KK q0 q1;generalize (World.setCell wb0 _ _)=wa1 at M1 ⊢;have KK:=H_ (K1.out wa1 M1.out.rd);have b0:=M1.out.rb.cell;go_upto_region 4 with (go_at_call 198; go_loud (
  refine KK.out.mono ?_;rintro e wb1 ⟨rfl,hr,hf⟩;have N1:=H_ (M1.out.keep hf hr);have q0:=N1.out.blk.cells.2.1;have q1:=N1.out.free 1;clear hr hf b0))
 have M2:=H_ (N1.out.set (md':=md) 1 (.int .i64 (md:Nat)) rfl);clear M1 N1 KK q0 q1;generalize (World.setCell wb1 _ _)=wa2 at M2 ⊢;have KK:=H_ (K2.out wa2 M2.out.rd);have b0:=M2.out.rb.cell;go_upto_region 5 with (go_at_call 198; go_loud (
  refine KK.out.mono ?_;rintro e wb2 ⟨rfl,hr,hf⟩;have N2:=H_ (M2.out.keep hf hr);have q0:=N2.out.blk.cells.2.2.1;have q1:=N2.out.free 2;clear hr hf b0))
 have M3:=H_ (N2.out.set (d':=d) 2 (.int .i64 (d:Nat)) rfl);clear M2 N2 KK q0 q1;generalize (World.setCell wb2 _ _)=wa3 at M3 ⊢;have KK:=H_ (K3.out wa3 M3.out.rd);have b0:=M3.out.rb.cell;go_upto_region 6 with (go_at_call 198; go_loud (
  refine KK.out.mono ?_;rintro e wb3 ⟨rfl,hr,hf⟩;have N3:=H_ (M3.out.keep hf hr);have q0:=N3.out.blk.cells.2.2.2.2.1;have q1:=N3.out.free 4;clear hr hf b0))
 have M4:=H_ (N3.out.set (fl':=fl) 4 (.int .i64 (fl:Nat)) rfl);clear M3 N3 KK q0 q1;generalize (World.setCell wb3 _ _)=wa4 at M4 ⊢;have KK:=H_ (K4.out wa4 M4.out.rd);have b0:=M4.out.rb.cell;go_upto_region 7 with (go_at_call 220; go_loud (
  refine KK.out.mono ?_;rintro e wb4 ⟨K,c,rfl,hk64,hown,hr,hf⟩;have HO:=H_ hown;have N4:=H_ (M4.out.keep hf hr);have q0:=N4.out.blk.cells.2.2.2.2.2.1;have q1:=N4.out.free 5;clear hr hf b0 hown))
 obtain⟨kl,hkl⟩ : ∃ kl,kl=ks.length:=⟨_,rfl⟩;have HKL:=H_ hkl;have hsz:=M4.out.size;have M5:=H_ (N4.out.set (K':=K) (kn':=ks.length) (kc':=c) 5 (.slice K ks.length c) rfl);have HO2:=H_ (ownsRow_setCell_below (BxC.own_base HO.out hsz) (a:=⟨w.heap.size+2,5,none⟩) (by show w.heap.size+2<w.heap.size+3; omega) (.slice K ks.length c));rw [<- hkl] at M5 HO2 ⊢;clear M4 N4 KK HO hkl q0 q1;generalize (World.setCell wb4 _ _)=wa5 at M5 HO2 ⊢;have KK:=H_ (K5.out wa5 M5.out.rd);have b0:=M5.out.rb.cell;have b1:=M5.out.rd.cells.1;go_upto_region 8 with (go_at_call 123; go_loud (
  refine KK.out.mono ?_;rintro e wb5 ⟨rfl,hr,hf⟩;have N5:=H_ (M5.out.keep hf hr);have HOb:=H_ (Fr2.own hf HO2.out (by have:=M5.out.hR; omega) (by have:=M5.out.hT; omega));have q0:=N5.out.blk.cells.2.2.2.1;have q1:=N5.out.free 3;clear hr hf b0 b1))
 have M6:=H_ (N5.out.set (id':=id) 3 (.string id) rfl);have HO5:=H_ (ownsRow_setCell_below HOb.out (a:=⟨w.heap.size+2,3,none⟩) (by show w.heap.size+2<w.heap.size+3; omega) (.string id));clear M5 N5 KK q0 q1 HO2 HOb;generalize (World.setCell wb5 _ _)=wa6 at M6 HO5 ⊢;have KK:=H_ (K6.out wa6 M6.out.rd);have b0:=M6.out.rb.cell;have b1:=M6.out.rd.cells.1;go_upto_region 9 with (go_at_call 123; go_loud (
  refine KK.out.mono ?_;rintro e wb6 ⟨rfl,hr,hf⟩;have N6:=H_ (M6.out.keep hf hr);have HOb:=H_ (Fr2.own hf HO5.out (by have:=M6.out.hR; omega) (by have:=M6.out.hT; omega));have q0:=N6.out.blk.cells.2.2.2.2.2.2;have q1:=N6.out.free 6;clear hr hf b0 b1))
 have M7:=H_ (N6.out.set (tx':=tx) 6 (.string tx) rfl);have HO6:=H_ (ownsRow_setCell_below HOb.out (a:=⟨w.heap.size+2,6,none⟩) (by show w.heap.size+2<w.heap.size+3; omega) (.string tx));clear M6 N6 KK q0 q1 HO5 HOb;generalize (World.setCell wb6 _ _)=wa7 at M7 HO6 ⊢;obtain⟨q0,q1,q2,q3,q4,q5,q6⟩:=M7.out.blk.cells;obtain⟨z0,z1,z2,z3,z4,z5,z6,zf⟩:=zcells M7.out.res;have f0:=zf 0;have f1:=zf 1;have f2:=zf 2;have f3:=zf 3;have f4:=zf 4;have f5:=zf 5;have f6:=zf 6;clear zf;go_wp2_with fail
 obtain⟨W,hW,p0,p1,p2,p3,p4,p5,p6,hWg⟩:=ret7 M7.out.res (.int .i64 (last+(u:Int))) (.int .i64 (md:Nat)) (.int .i64 (d:Nat)) (.string id) (.int .i64 (fl:Nat)) (.slice K kl c) (.string tx);rw [<- hW];refine bodyPost_ret (v:=.agg #[.int .i64 (last+(u:Int)),.int .i64 (md:Nat),.int .i64 (d:Nat),.string id,.int .i64 (fl:Nat),.slice K kl c,.string tx]) (by simp [results,Tryz.results199,go_sem,p0,p1,p2,p3,p4,p5,p6]) rfl ?_;obtain rfl:=HKL.out;have hR2:=M7.out.hR;have hT2:=M7.out.hT;have hsw:=M7.out.size;refine⟨K,c,rfl, ?_, ?_, ?_⟩
 · exact BxC.own_base (HO6.out.kept hWg (.inr (fun e=>by have:=(HO6.out.lt _ e).1; omega))) (by omega)
 · exact⟨(hWg.block R (by omega) (fun e=>by have:R=w.heap.size+1:=Option.some.inj e; omega)).trans M7.out.rd.blk,M7.out.rd.rd.below (B:=T+1) ⟨hWg.os,hWg.tape,hWg.output,hWg.size,fun k hk=>hWg.block k (by omega) (fun e=>by have:k=w.heap.size+1:=Option.some.inj e; omega)⟩ (Nat.lt_succ_self _),M7.out.rd.ne⟩
 · exact⟨hWg.os.trans M7.out.fr.os,hWg.tape.trans M7.out.fr.tape,hWg.output.trans M7.out.fr.output,Nat.le_trans M7.out.fr.size hWg.size,fun k hk h1 h2=>(hWg.block k (by omega) (fun e=>by have:k=w.heap.size+1:=Option.some.inj e; omega)).trans (M7.out.fr.block k hk h1 h2)⟩
end Go.Proofs.YtoljpfapphoflaaGreatDoor.F3M

set_option maxRecDepth 512
namespace Go.Proofs.YtoljpfapphoflaaGreatDoor.F3U
open Go.RowKit BxD BxKit BxR BxC OlD PtD PtK PtR F3D F3R F3M
open PkF (ptr RD)
open PtK (own_ne_blk)
structure BS (w wr:World) (R T:Nat) (s:St) (id:ByteArray) (v n hg:Int) (WA:Option Addr) (wn wc:Nat) (MA:Option Addr) (mn mc':Nat) (ws:List ByteArray) (rs:List Raw):Prop where
 fr:Fr2 R T w wr
 rd:PRd wr R T s
 rb:RBk wr w.heap.size R
 res:wr.heap[w.heap.size+1]? = some (.cells zbox 25 (0,0))
 blk:wr.heap[w.heap.size+2]? = some (.cells #[.string id,.int .i64 v,.int .i64 n,.int .i64 hg,.slice WA wn wc,.slice MA mn mc'] 25 (0,0))
 hR:R<w.heap.size
 hT:T<w.heap.size
 ow:wr.ownsRow (w.heap.size+3) 9 1 (.slice WA wn wc) wn (ws.map Value.string)
 om:wr.ownsRow (w.heap.size+3) 61 7 (.slice MA mn mc') mn (mc rs)
 ko : ∀ r∈rs,wr.ownsRow (w.heap.size+3) 3 1 (.slice r.K r.m.keys.length r.c) r.m.keys.length (r.m.keys.map (Value.int .i64))
section
variable {w wr w2 w3 : World} {R T : Nat} {s s' : St} {id : ByteArray} {v n hg : Int} {WA MA WA' MA' : Option Addr} {wn wc mn mc' wc2 mc2 : Nat} {ws : List ByteArray} {rs : List Raw}
theorem BS.size (h:BS w wr R T s id v n hg WA wn wc MA mn mc' ws rs):w.heap.size+3<=wr.heap.size:=(gs_ h.blk).1
theorem BS.keep (h:BS w wr R T s id v n hg WA wn wc MA mn mc' ws rs) (hgr:Fr2 R T wr w2) (hr:PRd w2 R T s'):BS w w2 R T s' id v n hg WA wn wc MA mn mc' ws rs:=by
 have h1:=h.size;have h2:=h.hR;have h3:=h.hT;have hb : ∀ g,w.heap.size<=g->g<wr.heap.size->w2.heap[g]? = wr.heap[g]?:=fun g k1 k2=>hgr.block g k2 (by omega) (by omega);exact⟨h.fr.trans hgr,hr,(hb _ (by omega) (by omega)).trans h.rb,(hb _ (by omega) (by omega)).trans h.res,(hb _ (by omega) (by omega)).trans h.blk,h2,h3,own_block h.ow fun g e=>hb g (by have:=(h.ow.lt g e).1; omega) (h.ow.lt g e).2,
  own_block h.om fun g e=>hb g (by have:=(h.om.lt g e).1; omega) (h.om.lt g e).2,fun r hr=>own_block (h.ko r hr) fun g e=>hb g (by have:=((h.ko r hr).lt g e).1; omega) ((h.ko r hr).lt g e).2⟩
theorem BS.go (h:BS w wr R T s id v n hg WA wn wc MA mn mc' ws rs) (hb:Below wr.heap.size wr w2):BS w w2 R T s id v n hg WA wn wc MA mn mc' ws rs:=h.keep (Fr2.below hb R T) (h.rd.go hb)
theorem BS.cells (h:BS w wr R T s id v n hg WA wn wc MA mn mc' ws rs):wr.cell? ⟨w.heap.size+2,0,none⟩ = some (.string id)/\wr.cell? ⟨w.heap.size+2,1,none⟩ = some (.int .i64 v)/\wr.cell? ⟨w.heap.size+2,2,none⟩ = some (.int .i64 n) /\
 wr.cell? ⟨w.heap.size+2,3,none⟩ = some (.int .i64 hg)/\wr.cell? ⟨w.heap.size+2,4,none⟩ = some (.slice WA wn wc)/\wr.cell? ⟨w.heap.size+2,5,none⟩ = some (.slice MA mn mc')/\∀ i,wr.frozen? ⟨w.heap.size+2,i,none⟩ = false:=by
 have c:=fun o=>cell_of_row wr (w.heap.size+2) o _ _ _ h.blk;exact⟨(c 0).trans rfl,(c 1).trans rfl,(c 2).trans rfl,(c 3).trans rfl,(c 4).trans rfl,(c 5).trans rfl,fun i=>by simp [World.frozen?,h.blk]⟩
theorem BS.set (h:BS w wr R T s id v n hg WA wn wc MA mn mc' ws rs) (i:Nat) (x:Value) {id':ByteArray} {v' n' hg':Int}
 (hv:(#[.string id,.int .i64 v,.int .i64 n,.int .i64 hg,.slice WA wn wc,.slice MA mn mc']:Array Value).setIfInBounds i x = #[.string id',.int .i64 v',.int .i64 n',.int .i64 hg',.slice WA wn wc,.slice MA mn mc']) :
 BS w (wr.setCell ⟨w.heap.size+2,i,none⟩ x) R T s id' v' n' hg' WA wn wc MA mn mc' ws rs:=by
 have h2:=h.hR;have h3:=h.hT;refine⟨h.fr.set (by omega) _,h.rd.set (by omega) (by omega) _,(Below.heap_setCell _ _ _ _ (by show w.heap.size≠w.heap.size+2; omega)).trans h.rb,(Below.heap_setCell _ _ _ _ (by show w.heap.size+1≠w.heap.size+2; omega)).trans h.res, ?_,h2,h3,ownsRow_setCell_below h.ow (by show w.heap.size+2<w.heap.size+3; omega) _,ownsRow_setCell_below h.om (by show w.heap.size+2<w.heap.size+3; omega) _,fun r hr=>ownsRow_setCell_below (h.ko r hr) (by show w.heap.size+2<w.heap.size+3; omega) _⟩;rw [<- hv];simp [World.setCell,Array.getElem?_modify,h.blk]
theorem BS.lo (h:BS w wr R T s id v n hg WA wn wc MA mn mc' ws rs) {x:Value} (hx : ∀ g,x.ownBlock=some g->w.heap.size+3<=g) (hgr:wr.grownBy w3 x.ownBlock):(∀ g,g<w.heap.size+3->w3.heap[g]? = wr.heap[g]?)/\PRd w3 R T s/\Fr2 R T w w3:=by
 have h2:=h.hR;have h3:=h.hT;have h1:=h.size;have hlo : ∀ g,g<w.heap.size+3->w3.heap[g]? = wr.heap[g]?:=fun g k=>hgr.block g (by omega) (fun e=>by have:=hx g e.symm; omega);exact⟨hlo,⟨(hlo R (by omega)).trans h.rd.blk,h.rd.rd.below (B:=w.heap.size+3) ⟨hgr.os,hgr.tape,hgr.output,hgr.size,hlo⟩ (by omega),h.rd.ne⟩,
  ⟨hgr.os.trans h.fr.os,hgr.tape.trans h.fr.tape,hgr.output.trans h.fr.output,Nat.le_trans h.fr.size hgr.size,fun k k1 k2 k3=>(hlo k (by omega)).trans (h.fr.block k k1 k2 k3)⟩⟩
theorem BS.word (h:BS w wr R T s id v n hg WA wn wc MA mn mc' ws rs) {t:ByteArray} (ho:w3.ownsRow (w.heap.size+3) 9 1 (.slice WA' (wn+1) wc2) (wn+1) ((ws++[t]).map Value.string)) (hgr:wr.grownBy w3 (Value.slice WA wn wc).ownBlock) :
 BS w (w3.setCell ⟨w.heap.size+2,4,none⟩ (.slice WA' (wn+1) wc2)) R T s id v n hg WA' (wn+1) wc2 MA mn mc' (ws++[t]) rs:=by
 have h2:=h.hR;have h3:=h.hT;obtain⟨hlo,f3,fr3⟩:=h.lo (fun g e=>(h.ow.lt g e).1) hgr;refine⟨fr3.set (by omega) _,f3.set (by omega) (by omega) _,(Below.heap_setCell _ _ _ _ (by show w.heap.size≠w.heap.size+2; omega)).trans ((hlo _ (by omega)).trans h.rb),(Below.heap_setCell _ _ _ _ (by show w.heap.size+1≠w.heap.size+2; omega)).trans ((hlo _ (by omega)).trans h.res), ?_,h2,h3,ownsRow_setCell_below ho (by show w.heap.size+2<w.heap.size+3; omega) _,ownsRow_setCell_below (own_block h.om fun g e=>hgr.block g (h.om.lt g e).2 fun e2=>own_ne h.om h.ow e2.symm (by decide) e) (by show w.heap.size+2<w.heap.size+3; omega) _,
  fun r hr=>ownsRow_setCell_below (own_block (h.ko r hr) fun g e=>hgr.block g ((h.ko r hr).lt g e).2 fun e2=>own_ne (h.ko r hr) h.ow e2.symm (by decide) e) (by show w.heap.size+2<w.heap.size+3; omega) _⟩
 have:=(hlo (w.heap.size+2) (by omega)).trans h.blk;simp [World.setCell,Array.getElem?_modify,this]
theorem BS.msg (h:BS w wr R T s id v n hg WA wn wc MA mn mc' ws rs) {r:Raw} (hk:wr.ownsRow (w.heap.size+3) 3 1 (.slice r.K r.m.keys.length r.c) r.m.keys.length (r.m.keys.map (Value.int .i64))) (ho:w3.ownsRow (w.heap.size+3) 61 7 (.slice MA' (mn+1) mc2) (mn+1) (mc (rs++[r]))) (hgr:wr.grownBy w3 (Value.slice MA mn mc').ownBlock) :
 BS w (w3.setCell ⟨w.heap.size+2,5,none⟩ (.slice MA' (mn+1) mc2)) R T s id v n hg WA wn wc MA' (mn+1) mc2 ws (rs++[r]):=by
 have h2:=h.hR;have h3:=h.hT;obtain⟨hlo,f3,fr3⟩:=h.lo (fun g e=>(h.om.lt g e).1) hgr;refine⟨fr3.set (by omega) _,f3.set (by omega) (by omega) _,(Below.heap_setCell _ _ _ _ (by show w.heap.size≠w.heap.size+2; omega)).trans ((hlo _ (by omega)).trans h.rb),(Below.heap_setCell _ _ _ _ (by show w.heap.size+1≠w.heap.size+2; omega)).trans ((hlo _ (by omega)).trans h.res), ?_,h2,h3,ownsRow_setCell_below (own_block h.ow fun g e=>hgr.block g (h.ow.lt g e).2 fun e2=>own_ne h.ow h.om e2.symm (by decide) e) (by show w.heap.size+2<w.heap.size+3; omega) _,ownsRow_setCell_below ho (by show w.heap.size+2<w.heap.size+3; omega) _,
  fun q hq=>?_⟩
 · have:=(hlo (w.heap.size+2) (by omega)).trans h.blk
   simp [World.setCell,Array.getElem?_modify,this]
 · have hq2:wr.ownsRow (w.heap.size+3) 3 1 (.slice q.K q.m.keys.length q.c) q.m.keys.length (q.m.keys.map (Value.int .i64)):=by
    rcases List.mem_append.1 hq with hq | hq
    · exact h.ko q hq
    · obtain rfl:=List.mem_singleton.1 hq
      exact hk
   exact ownsRow_setCell_below (own_block hq2 fun g e=>hgr.block g (hq2.lt g e).2 fun e2=>own_ne hq2 h.om e2.symm (by decide) e) (by show w.heap.size+2<w.heap.size+3; omega) _
theorem BS.start (h:PRd w R T s):BS w (((w.alloc (.cells #[ptr R] 192)).alloc (.cells zbox 25)).alloc (.cells #[.string ⟨#[]⟩,.int .i64 0,.int .i64 0,.int .i64 0,.slice none 0 0,.slice none 0 0] 25)) R T s ⟨#[]⟩ 0 0 0 none 0 0 none 0 0 [] []:=by
 have e1:(w.alloc (.cells #[ptr R] 192)).heap.size=w.heap.size+1:=by simp
 have e2:((w.alloc (.cells #[ptr R] 192)).alloc (.cells zbox 25)).heap.size=w.heap.size+2:=by simp
 refine⟨(((Fr2.refl R T w).alloc _).alloc _).alloc _,((h.alloc _).alloc _).alloc _,((heap_alloc_old _ _ (by rw [e2]; omega)).trans (heap_alloc_old _ _ (by rw [e1]; omega))).trans (heap_alloc_new w _),(heap_alloc_old _ _ (by rw [e2]; omega)).trans ?_, ?_,h.lt,h.rd.lt,World.ownsRow_nil _ _ _ _,World.ownsRow_nil _ _ _ _,fun r hr=>by simp at hr⟩
 · have:=heap_alloc_new (w.alloc (.cells #[ptr R] 192)) (.cells zbox 25)
   rw [e1] at this;exact this
 · have:=heap_alloc_new ((w.alloc (.cells #[ptr R] 192)).alloc (.cells zbox 25)) (.cells #[.string ⟨#[]⟩,.int .i64 0,.int .i64 0,.int .i64 0,.slice none 0 0,.slice none 0 0] 25)
   rw [e2] at this;exact this
end
def BoxRd (b:Box) (s:St) (w:World) (R T:Nat) (e:Ending) (w':World):Prop :=
 ∃ WA wc MA mc' rs,e = .returned (.agg #[.string b.id,.int .i64 b.valid,.int .i64 b.next,.int .i64 b.high,.slice WA b.words.length wc,.slice MA b.msgs.length mc'])/\w'.ownsRow w.heap.size 9 1 (.slice WA b.words.length wc) b.words.length (b.words.map Value.string) /\
  w'.ownsRow w.heap.size 61 7 (.slice MA b.msgs.length mc') b.msgs.length (mc rs)/\rs.map Raw.m=b.msgs/\(∀ r∈rs,w'.ownsRow w.heap.size 3 1 (.slice r.K r.m.keys.length r.c) r.m.keys.length (r.m.keys.map (Value.int .i64)))/\PRd w' R T s/\Fr2 R T w w'
end Go.Proofs.YtoljpfapphoflaaGreatDoor.F3U

set_option maxHeartbeats 4000000
set_option maxRecDepth 100000
namespace Go.Proofs.YtoljpfapphoflaaGreatDoor.F3V
open Go.RowKit BxD BxKit BxR BxC OlD PtD PtK PtR F3D F3R F3M F3U
open PkF (ptr RD)
theorem msgF_uid (k:Nat) (s:St) (a:Int):(itG msgF k (s,a)).2.2<=a+1000000*k/\a<=(itG msgF k (s,a)).2.2:=by
 induction k with
 | zero=>exact⟨by simp [itG],by simp [itG]⟩
 | succ k ih =>
  have e1:(itG msgF (k+1) (s,a)).2=(msgF (itG msgF k (s,a)).2).2:=rfl;rw [e1];generalize (itG msgF k (s,a)).2=y at ih ⊢;have h1:=nt_le 1000000 y.1;obtain⟨u,o,d,f,g,i,x,hu,_,_,_,_,_,_,e⟩:=msg3_parts y.2 y.1;rw [<- hu] at h1;have h2:(msgF y).2.2=y.2+((u.1:Nat):Int):=by
   unfold msgF;rw [e]
  rw [h2];constructor <;> omega
theorem box_r {w:World} {R T:Nat} {s:St} (h:PRd w R T s):Calls Tryz.prog 164 #[.agg #[ptr R]] w (BoxRd (box3S s).1 (box3S s).2 w R T):=by
 have b0:=BS.start h;unfold zbox at b0;have B0:=H_ b0;obtain⟨s1,hs1⟩ : ∃ s1,s1=(ntS 1000000 s).2:=⟨_,rfl⟩;obtain⟨v,hv⟩ : ∃ v,v=(ntS 1000000 s).1:=⟨_,rfl⟩;obtain⟨s2,hs2⟩ : ∃ s2,s2=(ntS 1000000 s1).2:=⟨_,rfl⟩;obtain⟨n,hn⟩ : ∃ n,n=(ntS 1000000 s1).1:=⟨_,rfl⟩;obtain⟨s3,hs3⟩ : ∃ s3,s3=(ntS 1000000 s2).2:=⟨_,rfl⟩;obtain⟨g,hg⟩ : ∃ g,g=(ntS 1000000 s2).1:=⟨_,rfl⟩;obtain⟨s4,hs4⟩ : ∃ s4,s4=(txtS 24 s3).2:=⟨_,rfl⟩;obtain⟨i,hi⟩ : ∃ i,i=(txtS 24 s3).1:=⟨_,rfl⟩;obtain⟨s5,hs5⟩ : ∃ s5,s5=(ntS 64 s4).2:=⟨_,rfl⟩;obtain⟨c,hc⟩ : ∃ c,c=(ntS 64 s4).1:=⟨_,rfl⟩;obtain⟨s6,hs6⟩ : ∃ s6,s6=(itS (txtS 24) c s5).2:=⟨_,rfl⟩;obtain⟨s7,hs7⟩ : ∃ s7,s7=(ntS 60 s6).2:=⟨_,rfl⟩;obtain⟨e,he⟩ : ∃ e,e=(ntS 60 s6).1:=⟨_,rfl⟩;have hbox:box3S s=(⟨i,(v:Nat),(n:Nat),(g:Nat),(itS (txtS 24) c s5).1,(itG msgF e (s7,0)).1⟩,(itG msgF e (s7,0)).2.1):=by
  unfold box3S;simp only [<- hs1,<- hs2,<- hs3,<- hs4,<- hv,<- hn,<- hg,<- hi,<- hs5,<- hc,<- hs6,<- hs7,<- he]
 rw [hbox];have hc32:c<=64:=by rw [hc]; exact nt_le _ _
 have he60:e<=60:=by rw [he]; exact nt_le _ _
 have K0:=H_ (fun (wr:World) (y:PRd wr R T s)=>show Calls Tryz.prog 198 #[.agg #[ptr R]] wr (Pq wr R T (.int .i64 (v:Nat)) s1) from by rw [hv,hs1]; exact number_r y);have K1:=H_ (fun (wr:World) (y:PRd wr R T s1)=>show Calls Tryz.prog 198 #[.agg #[ptr R]] wr (Pq wr R T (.int .i64 (n:Nat)) s2) from by rw [hn,hs2]; exact number_r y);have K2:=H_ (fun (wr:World) (y:PRd wr R T s2)=>show Calls Tryz.prog 198 #[.agg #[ptr R]] wr (Pq wr R T (.int .i64 (g:Nat)) s3) from by rw [hg,hs3]; exact number_r y);have K3:=H_ (fun (wr:World) (y:PRd wr R T s3)=>show Calls Tryz.prog 123 #[ptr T,.int .i64 24] wr (Pq wr R T (.string i) s4) from by rw [hi,hs4]; exact text_p y 24);have K4:=H_ (fun (wr:World) (y:PRd wr R T s4)=>show Calls Tryz.prog 120 #[ptr R,.int .i64 64] wr (Pq wr R T (.int .i64 (c:Nat)) s5) from by rw [hc,hs5]; exact number_p y 64);have K5:=H_ (fun (wr:World) (y:PRd wr R T s6)=>show Calls Tryz.prog 120 #[ptr R,.int .i64 60] wr (Pq wr R T (.int .i64 (e:Nat)) s7) from by rw [he,hs7]; exact number_p y 60);have HS6:=H_ hs6;clear h b0 hs1 hv hs2 hn hs3 hg hs4 hi hs5 hc hs6 hs7 he hbox;go_enter Tryz.func164,Tryz.ntmps164;go_upto_region 2 with fail
 generalize (World.alloc (World.alloc (World.alloc w _) _) _)=wa0 at B0 ⊢;have KK:=H_ (K0.out wa0 B0.out.rd);have b0:=B0.out.rb.cell;go_upto_region 3 with (go_at_call 198; go_loud (
  refine KK.out.mono ?_;rintro e wb0 ⟨rfl,hr,hf⟩;have N0:=H_ (B0.out.keep hf hr);have q0:=N0.out.cells.2.1;have q1:=N0.out.cells.2.2.2.2.2.2 1;clear hr hf b0))
 have B1:=H_ (N0.out.set (v':=v) (n':=0) (hg':=0) 1 (.int .i64 (v:Nat)) rfl);clear B0 N0 KK q0 q1;generalize (World.setCell wb0 _ _)=wa1 at B1 ⊢;have KK:=H_ (K1.out wa1 B1.out.rd);have b0:=B1.out.rb.cell;go_upto_region 4 with (go_at_call 198; go_loud (
  refine KK.out.mono ?_;rintro e wb1 ⟨rfl,hr,hf⟩;have N1:=H_ (B1.out.keep hf hr);have q0:=N1.out.cells.2.2.1;have q1:=N1.out.cells.2.2.2.2.2.2 2;clear hr hf b0))
 have B2:=H_ (N1.out.set (v':=v) (n':=n) (hg':=0) 2 (.int .i64 (n:Nat)) rfl);clear B1 N1 KK q0 q1;generalize (World.setCell wb1 _ _)=wa2 at B2 ⊢;have KK:=H_ (K2.out wa2 B2.out.rd);have b0:=B2.out.rb.cell;go_upto_region 5 with (go_at_call 198; go_loud (
  refine KK.out.mono ?_;rintro e wb2 ⟨rfl,hr,hf⟩;have N2:=H_ (B2.out.keep hf hr);have q0:=N2.out.cells.2.2.2.1;have q1:=N2.out.cells.2.2.2.2.2.2 3;clear hr hf b0))
 have B3:=H_ (N2.out.set (v':=v) (n':=n) (hg':=g) 3 (.int .i64 (g:Nat)) rfl);clear B2 N2 KK q0 q1;generalize (World.setCell wb2 _ _)=wa3 at B3 ⊢;have KK:=H_ (K3.out wa3 B3.out.rd);have b0:=B3.out.rb.cell;have b1:=B3.out.rd.cells.1;go_upto_region 6 with (go_at_call 123; go_loud (
  refine KK.out.mono ?_;rintro e wb3 ⟨rfl,hr,hf⟩;have N3:=H_ (B3.out.keep hf hr);have q0:=N3.out.cells.1;have q1:=N3.out.cells.2.2.2.2.2.2 0;clear hr hf b0 b1))
 have B4:=H_ (N3.out.set (id':=i) (v':=v) (n':=n) (hg':=g) 0 (.string i) rfl);clear B3 N3 KK q0 q1;generalize (World.setCell wb3 _ _)=wa4 at B4 ⊢;have KK:=H_ (K4.out wa4 B4.out.rd);have b0:=B4.out.rb.cell;go_wp2_with (go_at_call 120; go_loud (
  refine KK.out.mono ?_;rintro e w6 ⟨rfl,hr,hf⟩;have B5:=H_ (B4.out.keep hf hr);clear hr hf b0))
 clear B4 KK;go_loopw [25] (fun s25 wr=>∃ (j:Nat) (WA:Option Addr) (wc:Nat),j<=c/\s25 = .int .i64 j/\Hid (BS w wr R T (itS (txtS 24) j s5).2 i v n g WA j wc none 0 0 (itS (txtS 24) j s5).1 [])) (fun s25 _=>c-(intOf s25).toNat)
 case atStart=>exact⟨0,none,0,Nat.zero_le _,rfl,B5.out⟩
 case round =>
  clear B5;obtain⟨j,WA,wc,hj,rfl,B5⟩:=hrel;have hsz:=B5.out.size;by_cases hlt:j<c
  · have c0:=B5.out.rd.cells.1
    have cb:=B5.out.rb.cell;obtain⟨q0,q1,q2,q3,q4,q5,qf⟩:=B5.out.cells;have qf4:=qf 4;clear qf;have KT:=H_ (fun (w':World) (hb:Below wr.heap.size wr w')=>text_p (B5.out.rd.go hb) 24);obtain⟨t,ht⟩ : ∃ t,t=(txtS 24 (itS (txtS 24) j s5).2).1:=⟨_,rfl⟩;obtain⟨s',hs'⟩ : ∃ s',s'=(txtS 24 (itS (txtS 24) j s5).2).2:=⟨_,rfl⟩;rw [<- ht,<- hs'] at KT;have HJ:=H_ (show (itS (txtS 24) (j+1) s5).1=(itS (txtS 24) j s5).1++[t]/\(itS (txtS 24) (j+1) s5).2=s' by rw [ht,hs']; exact⟨rfl,rfl⟩);clear ht hs';go_upto_region 8 with fail
    go_region_law (first
     | (go_simp; go_at_call 123
        ((with_reducible refine (KT.out _ ?d1).mono ?_); rotate_left)
        case d1=>first | exact Below.refl _ _ | exact (Below.refl _ _).drew
        go_loud (
        rintro e w7 ⟨rfl,hr,hf⟩;have B6:=H_ (show BS w w7 R T s' i v n g WA j wc none 0 0 (itS (txtS 24) j s5).1 [] by first | exact B5.out.keep hf hr | exact (B5.out.go ((Below.refl _ _).drew)).keep hf hr);have x0:=B6.out.rd.cells.1;have xb:=B6.out.rb.cell;have x4:=B6.out.cells.2.2.2.2.1;have xf:=B6.out.cells.2.2.2.2.2.2 4;have a4:(w7.alloc (.cells #[.string t] 9)).cell? ⟨w.heap.size+2,4,none⟩ = some (.slice WA j wc):=(World.cell?_of_block (heap_alloc_old w7 _ (by have:=B6.out.size; show w.heap.size+2<_; omega))).trans x4;have O6:=H_ (B6.out.ow.alloc (.cells #[.string t] 9));have S6:=H_ (src_new w7 #[.string t] 9 (b:=w7.heap.size) (m:=1) (sz:=1) rfl rfl (by intro u hu; simp at hu; subst hu; rfl));have Z6:=H_ (show w.heap.size+3<=(w7.alloc (.cells #[.string t] 9)).heap.size by have:=B6.out.size; simp; omega);clear hr hf;dsimp only))
     | (go_loud (
        refine step_rows elS (c:=1) rfl (.tmp 28) (.tmp 35) rfl (by simp [Act.eval]) (by simp [Act.eval]) O6.out S6.out (by unfold maxLen; omega) (by omega) Z6.out ?_;intro v8 w8 hown8 hg8 _;obtain⟨A8,k8,rfl,hk8⟩:=own_slice hown8;have B7:=H_ ((B6.out.go ((Below.refl _ _).alloc lr_ (.cells #[.string t] 9))).word (t:=t) (by rw [List.map_append]; exact hown8) hg8);have hz2:=B6.out.size;have hlo : ∀ p:Addr,p.block<w.heap.size+3->w8.cell? p=w7.cell? p/\w8.frozen? p=w7.frozen? p:=fun p hp=>by
         have h1:w8.heap[p.block]? = w7.heap[p.block]?:=(hg8.block p.block (by simp; omega) (fun e2=>by have:=(O6.out.lt _ e2.symm).1; omega)).trans (heap_alloc_old w7 _ (by omega));exact⟨World.cell?_of_block h1,World.frozen?_of_block h1⟩
        have hz:=B6.out.hR;have z0:=((hlo ⟨R,0,none⟩ (by show R<_; omega)).1).trans x0;have zb:=((hlo ⟨w.heap.size,0,none⟩ (by show w.heap.size<_; omega)).1).trans xb;have z4:=((hlo ⟨w.heap.size+2,4,none⟩ (by show w.heap.size+2<_; omega)).1).trans x4;have zf:=((hlo ⟨w.heap.size+2,4,none⟩ (by show w.heap.size+2<_; omega)).2).trans xf;clear hlo hz hz2 hown8 hg8;dsimp only)))
    all_goals
     clear KT c0 cb q0 q1 q2 q3 q4 q5 qf4 x0 xb x4 xf a4 z0 zb z4 zf O6 S6 Z6;go_wp2_with fail
     go_roundw
     case rel =>
      refine⟨j+1,A8,k8,by omega,by go_num, ?_⟩;show BS w _ R T (itS (txtS 24) (j+1) s5).2 i v n g A8 (j+1) k8 none 0 0 (itS (txtS 24) (j+1) s5).1 [];rw [HJ.out.1,HJ.out.2];exact B7.out
     case measure=>simp [intOf]; omega
  · obtain rfl:c=j:=by omega
    obtain⟨ws,hws⟩ : ∃ ws,ws=(itS (txtS 24) c s5).1:=⟨_,rfl⟩;rw [<- HS6.out,<- hws] at B5;have HWS:=H_ hws;rw [<- hws];clear hws HS6;have KK:=H_ (K5.out wr B5.out.rd);have b0:=B5.out.rb.cell;go_wp2_with (go_at_call 120; go_loud (
     refine KK.out.mono ?_;rintro e w6 ⟨rfl,hr,hf⟩;have B6:=H_ (B5.out.keep hf hr);clear hr hf b0))
    clear B5 KK;go_loopw [4,42] (fun s4 s42 wr=>∃ (k:Nat) (MA:Option Addr) (mcc:Nat) (rs:List Raw) (a:Int),k<=e/\s42 = .int .i64 k/\s4 = .int .i64 a/\Hid (a=(itG msgF k (s7,0)).2.2)/\Hid (BS w wr R T (itG msgF k (s7,0)).2.1 i v n g WA c wc MA k mcc ws rs)/\Hid (rs.map Raw.m=(itG msgF k (s7,0)).1)) (fun _ s42 _=>e-(intOf s42).toNat)
    case atStart=>exact⟨0,none,0,[],0,Nat.zero_le _,rfl,rfl,rfl,B6.out,rfl⟩
    case round =>
     clear B6 hsz;obtain⟨k,MA,mcc,rs,a,hk,rfl,rfl,HA,B6,HR⟩:=hrel;have hsz:=B6.out.size;by_cases hlt2:k<e
     · have hab:=msgF_uid k s7 0
       rw [<- HA.out] at hab;have KM:=H_ (msg_r (last:=a) B6.out.rd (by omega));obtain⟨m,hm⟩ : ∃ m,m=(msg3S a (itG msgF k (s7,0)).2.1).1:=⟨_,rfl⟩;obtain⟨s',hs'⟩ : ∃ s',s'=(msg3S a (itG msgF k (s7,0)).2.1).2:=⟨_,rfl⟩;rw [<- hm,<- hs'] at KM;have HJ:=H_ (show (itG msgF (k+1) (s7,0)).1=(itG msgF k (s7,0)).1++[m]/\(itG msgF (k+1) (s7,0)).2=(s',m.uid) by
        rw [hm,hs',HA.out]; exact⟨rfl,rfl⟩)
       clear hm hs' hab;obtain⟨kl,hkl⟩ : ∃ kl,kl=m.keys.length:=⟨_,rfl⟩;have HKL:=H_ hkl;clear hkl;have b0:=B6.out.rb.cell;go_upto_region 14 with (go_at_call 199; go_loud (
        refine KM.out.mono ?_;rintro e w7 ⟨K7,k7,rfl,hown,hr,hf⟩;rw [<- HKL.out] at hown ⊢;have B7:=H_ (B6.out.keep hf hr);have HK7:=H_ (own_base hown hsz);clear hr hf hown b0))
       have B8:=H_ (B7.out.go ((Below.refl _ _).alloc lr_ (.cells #[.int .i64 m.uid,.int .i64 m.mod,.int .i64 m.date,.string m.id,.int .i64 m.flags,.slice K7 kl k7,.string m.text] 61)));have HK8:=H_ (HK7.out.alloc (.cells #[.int .i64 m.uid,.int .i64 m.mod,.int .i64 m.date,.string m.id,.int .i64 m.flags,.slice K7 kl k7,.string m.text] 61));have HL8:=H_ (heap_alloc_new w7 (.cells #[.int .i64 m.uid,.int .i64 m.mod,.int .i64 m.date,.string m.id,.int .i64 m.flags,.slice K7 kl k7,.string m.text] 61));obtain⟨L,hL⟩ : ∃ L,L=w7.heap.size:=⟨_,rfl⟩;have hL3:w.heap.size+3<=L:=by rw [hL]; exact B7.out.size
       have hneL:(Value.slice MA k mcc).ownBlock≠some L:=fun e2=>by have:=(B7.out.om.lt _ e2).2; omega
       rw [<- hL] at HL8 ⊢;clear hL B7 HK7;generalize (World.alloc w7 _)=w8 at B8 HK8 HL8 ⊢;have hLw:L<w8.heap.size:=(gs_ HL8.out).1;have cX:=fun o=>cell_of_row w8 L o _ _ _ HL8.out;have d0:=(cX 0).trans (show _=some (Value.int .i64 m.uid) from rfl);have d1:=(cX 1).trans (show _=some (Value.int .i64 m.mod) from rfl);have d2:=(cX 2).trans (show _=some (Value.int .i64 m.date) from rfl);have d3:=(cX 3).trans (show _=some (Value.string m.id) from rfl);have d4:=(cX 4).trans (show _=some (Value.int .i64 m.flags) from rfl);have d5:=(cX 5).trans (show _=some (Value.slice K7 kl k7) from rfl);have d6:=(cX 6).trans (show _=some (Value.string m.text) from rfl);clear cX;have x5:=B8.out.cells.2.2.2.2.2.1;have O8:=H_ (B8.out.om.alloc (.cells #[.int .i64 m.uid,.int .i64 m.mod,.int .i64 m.date,.string m.id,.int .i64 m.flags,.slice K7 kl k7,.string m.text] 61));have S8:=H_ (src_new w8 #[.int .i64 m.uid,.int .i64 m.mod,.int .i64 m.date,.string m.id,.int .i64 m.flags,.slice K7 kl k7,.string m.text] 61 (b:=w8.heap.size) (m:=1) (sz:=7) rfl rfl (by intro u hu; simp at hu; rcases hu with h | h | h | h | h | h | h <;> (subst h; rfl)));have Z8:=H_ (show w.heap.size+3<=(w8.alloc (.cells #[.int .i64 m.uid,.int .i64 m.mod,.int .i64 m.date,.string m.id,.int .i64 m.flags,.slice K7 kl k7,.string m.text] 61)).heap.size by have:=B8.out.size; simp; omega);go_upto_region 15 with (at_builtin; go_loud (
        refine wpList_rows elM rfl _ _ rfl rfl rfl O8.out S8.out (by unfold maxLen; omega) (by omega) Z8.out ?_;intro v9 w9 hown9 hg9 hat9;obtain⟨A9,k9,rfl,hk9⟩:=own_slice hown9;have B9:=H_ ((B8.out.go ((Below.refl _ _).alloc lr_ (.cells #[.int .i64 m.uid,.int .i64 m.mod,.int .i64 m.date,.string m.id,.int .i64 m.flags,.slice K7 kl k7,.string m.text] 61))).msg (r:=⟨m,K7,k7⟩) (by rw [<- HKL.out]; exact HK8.out.alloc _) (by rw [mc_append]; unfold mc cell7; simp only [List.flatMap_cons,List.flatMap_nil,List.append_nil]; rw [<- HKL.out]; exact hown9) hg9);have hz2:=B8.out.size;have hlo : ∀ p:Addr,p.block<w.heap.size+3->w9.cell? p=w8.cell? p/\w9.frozen? p=w8.frozen? p:=fun p hp=>by
         have h1:w9.heap[p.block]? = w8.heap[p.block]?:=(hg9.block p.block (by simp; omega) (fun e2=>by have:=(O8.out.lt _ e2.symm).1; omega)).trans (heap_alloc_old w8 _ (by omega));exact⟨World.cell?_of_block h1,World.frozen?_of_block h1⟩
        have z5:=((hlo ⟨w.heap.size+2,5,none⟩ (by show w.heap.size+2<_; omega)).1).trans x5;have zf:=((hlo ⟨w.heap.size+2,5,none⟩ (by show w.heap.size+2<_; omega)).2).trans (B8.out.cells.2.2.2.2.2.2 5);have HU9:=H_ (show (w9.setCell ⟨w.heap.size+2,5,none⟩ (.slice A9 (k+1) k9)).cell? ⟨L,0,none⟩ = some (.int .i64 m.uid) from by
         have h1:w9.heap[L]? = w8.heap[L]?:=(hg9.block L (by simp; omega) (fun e2=>hneL e2.symm)).trans (heap_alloc_old w8 _ hLw);have h2:(w9.setCell ⟨w.heap.size+2,5,none⟩ (.slice A9 (k+1) k9)).heap[L]? = w9.heap[L]?:=Below.heap_setCell _ _ _ _ (by show L≠w.heap.size+2; omega);exact (World.cell?_of_block (h2.trans h1)).trans d0)
        clear hlo hz2 hown9 hg9 hat9 x5 d1 d2 d3 d4 d5 d6))
       clear d0 z5 zf O8 S8 Z8 KM HK8 B8;generalize (World.setCell w9 _ _)=wz at B9 HU9 ⊢;have u0:=HU9.out;go_wp2_with fail
       go_roundw
       case rel =>
        refine⟨k+1,A9,k9,rs++[⟨m,K7,k7⟩],m.uid,by omega,by go_num,rfl, ?_, ?_, ?_⟩
        · show m.uid=_
          rw [HJ.out.2]
        · show BS w _ R T (itG msgF (k+1) (s7,0)).2.1 i v n g WA c wc A9 (k+1) k9 ws (rs++[⟨m,K7,k7⟩])
          rw [HJ.out.2];exact B9.out
        · show (rs++[(⟨m,K7,k7⟩:Raw)]).map Raw.m=_
          rw [HJ.out.1,List.map_append,HR.out];rfl
       case measure=>simp [intOf]; omega
     · obtain rfl:e=k:=by omega
       obtain⟨q0,q1,q2,q3,q4,q5,_⟩:=B6.out.cells;obtain⟨z0,z1,z2,z3,z4,z5,zf⟩:=zcells6 B6.out.res;have f0:=zf 0;have f1:=zf 1;have f2:=zf 2;have f3:=zf 3;have f4:=zf 4;have f5:=zf 5;clear zf;go_wp2_with fail
       obtain⟨W,hW,p0,p1,p2,p3,p4,p5,hWg⟩:=ret6 B6.out.res (.string i) (.int .i64 (v:Nat)) (.int .i64 (n:Nat)) (.int .i64 (g:Nat)) (.slice WA c wc) (.slice MA e mcc);rw [<- hW];refine bodyPost_ret (v:=.agg #[.string i,.int .i64 (v:Nat),.int .i64 (n:Nat),.int .i64 (g:Nat),.slice WA c wc,.slice MA e mcc]) (by simp [results,Tryz.results164,go_sem,p0,p1,p2,p3,p4,p5]) rfl ?_;have hR2:=B6.out.hR;have hT2:=B6.out.hT;obtain rfl:=HWS.out;have hlw:(itS (txtS 24) c s5).1.length=c:=by rw [it_itG,itG_len]
       have hlm:(itG msgF e (s7,0)).1.length=e:=itG_len _ _ _;have own : ∀ {ty sz k:Nat} {x:Value} {xs:List Value},wr.ownsRow (w.heap.size+3) ty sz x k xs->W.ownsRow w.heap.size ty sz x k xs:=fun {_ _ _ _ _} ho =>
        own_base (ho.kept hWg (.inr (fun e2=>by have:=(ho.lt _ e2).1; omega))) (by omega)
       refine⟨WA,wc,MA,mcc,rs, ?_, ?_, ?_,HR.out,fun r hr=>own (B6.out.ko r hr), ?_, ?_⟩
       · show _=Ending.returned (.agg #[.string i,.int .i64 (v:Nat),.int .i64 (n:Nat),.int .i64 (g:Nat),.slice WA (itS (txtS 24) c s5).1.length wc,.slice MA (itG msgF e (s7,0)).1.length mcc])
         rw [hlw,hlm]
       · show W.ownsRow w.heap.size 9 1 (.slice WA (itS (txtS 24) c s5).1.length wc) (itS (txtS 24) c s5).1.length ((itS (txtS 24) c s5).1.map Value.string)
         rw [hlw];exact own B6.out.ow
       · show W.ownsRow w.heap.size 61 7 (.slice MA (itG msgF e (s7,0)).1.length mcc) (itG msgF e (s7,0)).1.length (mc rs)
         rw [hlm];exact own B6.out.om
       · exact⟨(hWg.block R (by omega) (fun e=>by have:R=w.heap.size+1:=Option.some.inj e; omega)).trans B6.out.rd.blk,B6.out.rd.rd.below (B:=T+1) ⟨hWg.os,hWg.tape,hWg.output,hWg.size,fun k hk=>hWg.block k (by omega) (fun e=>by have:k=w.heap.size+1:=Option.some.inj e; omega)⟩ (Nat.lt_succ_self _),B6.out.rd.ne⟩
       · exact⟨hWg.os.trans B6.out.fr.os,hWg.tape.trans B6.out.fr.tape,hWg.output.trans B6.out.fr.output,Nat.le_trans B6.out.fr.size hWg.size,fun k hk h1 h2=>(hWg.block k (by omega) (fun e=>by have:k=w.heap.size+1:=Option.some.inj e; omega)).trans (B6.out.fr.block k hk h1 h2)⟩
end Go.Proofs.YtoljpfapphoflaaGreatDoor.F3V
